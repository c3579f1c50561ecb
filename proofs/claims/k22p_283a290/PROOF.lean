import PyProof.Rows.All
import Wide.All
import OpenK.AllK
import Wide.FinOn
import Lean
import PyProof.EqAt
import PyProof.EqKinds
import PyProof.NeKinds
import PyProof.TupleCall
import PyProof.ZipIter
import PyProof.ListNew
import PyProof.P3Eq
import PyProof.NeData
import PyProof.EnumFor
import PyProof.EnumMake
import PyProof.ExcBaseAll.ValueError
import PyProof.Rows.SetFrom
import PyProof.CollectWalk
import PyProof.SumWalk
import PyProof.FString
import KE.KDictOf
import PyProof.AttrMissHeap
import PyProof.TupleOfGen
import KE.KDictSum
import PyProof.ConsumeS
import PyProof.P3In
import PyProof.Rows.RuleN_abs
import PyProof.Rows.FactsN_abs
import PyProof.StrBlockI
import PyProof.SliceStr2
import PyProof.Rows.StrClose
import PyProof.FactsAll.tuple_2
import PyProof.MinMaxWalk
import PyProof.WalksMore
import PyProof.Rows.RowHeap
import PyProof.DictWalks
import KE.KSortTup
import PyProof.Rows.ListMul
import PyProof.ListRange
import PyProof.TupleOfStr
import KE.KRevSl
import KE.KDictList
import KE.KIntText
import PyProof.ReprStr
import KE.KRevIter
import PyProof.DictUpdate
import PyProof.StrOps
import KE.KEqDict
import KE.IntBitsLaws
import PySem.Challenge.RW_hangstill_k22_whole_bound
import KE.RegKIsAll
import KE.RegKTryMore
set_option Elab.async false
set_option linter.all false
set_option maxRecDepth 100000
set_option maxHeartbeats 4000000
open PySem.Heap (DictOf ExtBut SameBut get?_push_ne get?_push_of_some get?_push_size get?_update_other get?_update_self lt_size size_push size_update)
open Option (getD_none getD_some isSome_iff_exists isSome_map map_eq_some_iff map_some)
open PySem.W (Looks codeIn excIn findIn fnOf hideAll hideAll_get instObj kat_kind kdl_dict keepIn kia_one kitOne kitx_dict kitx_list kitx_tuple lookIn methodObj mg_of nsIn of_hideAll plainGet)
open Nat (le_max_left le_max_right le_of_lt le_refl le_succ le_trans lt_irrefl lt_of_lt_of_le lt_succ_of_lt lt_succ_self lt_trans mod_lt ne_of_gt ne_of_lt not_lt_zero pow_le_pow_right succ_add succ_pos zero_add zero_le)
open List (Nodup Pairwise Perm all_eq_true any_cons any_eq_true append_assoc append_nil drop_eq_getElem_cons ext_getElem? filterMap_cons find?_cons find?_some flatMap_append foldl foldl_append foldl_cons getD_eq_getElem?_getD getElem?_append_left getElem?_append_right getElem?_eq_getElem getElem?_eq_none getElem?_map getElem?_set_ne getElem?_set_self getElem_mem getElem_of_mem length_append length_cons length_drop length_map length_nil length_range length_singleton length_take lookup_cons map_append map_congr_left map_cons map_drop map_id map_map map_nil map_take mem_append mem_append_left mem_append_right mem_cons mem_cons_of_mem mem_cons_self mem_filter mem_filterMap mem_flatMap mem_map mem_map_of_mem mem_of_find?_eq_some mem_of_getElem? mem_of_mem_take mem_range mem_singleton nil_append nodup_append nodup_cons nodup_nil not_lt not_mem_nil of_mem_zip pairwise_cons pairwise_iff_getElem pairwise_map range replicate size_toArray)
open Array (getD_eq_getD_getElem? getElem?_toList length_toList perm_iff_toList_perm size_map toArray_toList toList)
open Bool (and_eq_true false_eq_true)
open Int (add_comm emod_nonneg mul_comm mul_le_mul mul_nonneg mul_pos pow_succ toNat_natCast)
open PySem.F (args_tuple_add_2 called_set entry_tuple_add plainAttrs_list plain_list_iadd slot_list_extend slot_set_len slot_tuple_add sub_list_set type_list_extend)
open PySem.PyData (canLay0 canLayAll0 depthAll eqvAll)
section
open PySem
abbrev ah:=Str->Option Value
abbrev aj:=Value->Shared->Prop
abbrev aD:=List (Addr×Obj)
end
section
open PySem PySem.Spec PyProof.Rows
namespace L2
abbrev Key:=Sum Int Str
def gF:Key->Value->Bool
 |.inl k,v=>Value.isInt k v
 |.inr x,v=>Value.isStrOf x v
def Gg(w:World):Key->Int
 |.inl k=>hashInt k
 |.inr x=>hashStr w x
theorem fj:∀{k:Key} {v:Value},gF k v=true->(∃i t,k=Sum.inl i/\v=Value.int i t)\/(∃x t,k=Sum.inr x/\v=Value.str x t)
 |.inl i,v,h=>by
  obtain⟨t,e⟩:=Value.isInt_shape (k:=i) (v:=v) h;exact .inl ⟨i,t,rfl,e⟩
 |.inr x,v,h=>by
  obtain⟨t,e⟩:=Value.isStrOf_shape (x:=x) (v:=v) h;exact .inr ⟨x,t,rfl,e⟩
theorem Gh(i:Int)(t:Tok):gF (.inl i) (.int i t)=true:=by simp[gF,Value.isInt]
theorem Gi(x:Str)(t:Tok):gF (.inr x) (.str x t)=true:=by simp[gF,Value.isStrOf]
theorem Gj(a b:Int):decide ((Sum.inl a:Key)=Sum.inl b)=(a==b):=by
 by_cases e:a=b
 .subst e;simp
 .have h:¬(Sum.inl a:Key)=Sum.inl b:=λq=>e (Sum.inl.inj q)
  rw[decide_eq_false h];exact(beq_eq_false_iff_ne.mpr e).symm
theorem Gp(a b:Str):decide ((Sum.inr a:Key)=Sum.inr b)=decide (a=b):=by
 by_cases e:a=b
 .subst e;simp
 .have h:¬(Sum.inr a:Key)=Sum.inr b:=λq=>e (Sum.inr.inj q)
  rw[decide_eq_false h,decide_eq_false e]
theorem Gk(a:Int)(b:Str):decide ((Sum.inl a:Key)=Sum.inr b)=false:=decide_eq_false (λq=>nomatch q)
theorem Gn(a:Str)(b:Int):decide ((Sum.inr a:Key)=Sum.inl b)=false:=decide_eq_false (λq=>nomatch q)
def bP(prog:Program)(w:World):PySem.KeyKind prog w Key where
 is:=gF
 hash:=Gg w
 inj:=λv a b ha hb=>by
  rcases fj ha with⟨i,t,rfl,rfl⟩|⟨x,t,rfl,rfl⟩
  .rcases fj hb with⟨j,u,rfl,e⟩|⟨y,u,rfl,e⟩
   .injection e with e1 _;rw[e1]
   .exact nomatch e
  .rcases fj hb with⟨j,u,rfl,e⟩|⟨y,u,rfl,e⟩
   .exact nomatch e
   .injection e with e1 _;rw[e1]
 byValue:=λk v h=>by
  rcases fj h with⟨i,t,rfl,rfl⟩|⟨x,t,rfl,rfl⟩<;>rfl
 pyHash:=λhv h=>by
  rcases fj hv with⟨i,t,rfl,rfl⟩|⟨x,t,rfl,rfl⟩
  .exact wpAny_pyHash_int h
  .exact wpAny_pyHash_str h
 eqBool:=λhu hv h=>by
  rcases fj hu with⟨i,t,rfl,rfl⟩|⟨x,t,rfl,rfl⟩
  .rcases fj hv with⟨j,u,rfl,rfl⟩|⟨y,u,rfl,rfl⟩
   .rw[Gj] at h;exact wpAny_eqBool_int h
   .rw[Gk] at h;exact SeqAt.EqAt.int_str i t y u _ _ _ _ h
  .rcases fj hv with⟨j,u,rfl,rfl⟩|⟨y,u,rfl,rfl⟩
   .rw[Gn] at h;exact SeqAt.EqAt.str_int x t j u _ _ _ _ h
   .rw[Gp] at h;exact wpAny_eqBool_str h
 «strs»:=λk x t v h=>by
  rcases fj h with⟨i,u,rfl,e⟩|⟨y,u,rfl,e⟩
  .exact nomatch e
  .injection e with e1 _
   subst e1
   cases v<;>rfl
theorem G1(prog:Program)(w:World)(i:Int)(t:Tok):(bP prog w).is (.inl i) (.int i t)=true:=Gh i t
theorem G2(prog:Program)(w:World)(x:Str)(t:Tok):(bP prog w).is (.inr x) (.str x t)=true:=Gi x t
inductive V where
 |ak|bl (b:Bool)|int (i:Int)|str (x:Str)|fK (b:Array UInt8)|i9 (b:UInt64)|ref (a:Addr)|ty (n:String)
 deriving DecidableEq
def RelV:V->Value->Prop
 |.ak,u=>u=Value.none
 |.bl b,u=>u=Value.bool b
 |.int i,u=>∃t,u=Value.int i t
 |.str x,u=>∃t,u=Value.str x t
 |.fK b,u=>∃t,u=Value.bytes b t
 |.i9 b,u=>∃t,u=Value.float b t
 |.ref a,u=>u=Value.ref a
 |.ty n,u=>u=Value.type n
abbrev Vals:List V->List Value->Prop:=Paired RelV
theorem Vals.length{xs:List V}{a:List Value}(r:Vals xs a):xs.length=a.length:=Paired.length r
theorem Vals.get:∀{xs:List V} {a:List Value} {i:Nat} {x:V},Vals xs a->xs[i]?=some x->∃u,a[i]?=some u/\RelV x u
 |_,_,_,_,.nil,e=>by simp at e
 |_,_,0,_,.cons r _,e=>by simp at e;subst e;exact⟨_,rfl,r⟩
 |_,_,i+1,x,.cons _ t,e=>by
  obtain⟨u,h1,h2⟩:=Vals.get (i:=i) (x:=x) t (by simpa using e);exact⟨u,by simpa using h1,h2⟩
theorem Vals.append:∀{xs ys:List V} {a ws:List Value},Vals xs a->Vals ys ws->Vals (xs++ys) (a++ws)
 |_,_,_,_,.nil,s=>s
 |_,_,_,_,.cons r t,s=>.cons r (Vals.append t s)
theorem Vals.take:∀{xs:List V} {a:List Value} (n:Nat),Vals xs a->Vals (xs.take n) (a.take n)
 |_,_,0,_=>.nil
 |_,_,_+1,.nil=>.nil
 |_,_,n+1,.cons r t=>.cons r (Vals.take n t)
theorem Vals.drop:∀{xs:List V} {a:List Value} (n:Nat),Vals xs a->Vals (xs.drop n) (a.drop n)
 |_,_,0,r=>r
 |_,_,_+1,.nil=>.nil
 |_,_,n+1,.cons _ t=>Vals.drop n t
def fG:Option V->Option Value->Prop
 |some v,some u=>RelV v u
 |none,none=>True
 |_,_=>False
def KV{κ:Type}:List (κ×V)->List (κ×Value)->Prop:=Paired λ(p:κ×V) (q:κ×Value)=>p.1=q.1/\RelV p.2 q.2
def kV:Key->V
 |.inl i=>.int i
 |.inr x=>.str x
def gR(h:Heap)(a:Addr)(items:Array Value):Prop:=∃n,h.get? a=some {cls:=.type "tuple",data:=.seq items n}
theorem gR.is{h:Heap}{a:Addr}{items:Array Value}(x:gR h a items):IsTup h a items:=let ⟨n,e⟩:=x;⟨_,e,rfl,n,rfl⟩
theorem gR.new(h:Heap)(items:Array Value):gR (h.push {cls:=.type "tuple",data:=.seq items}) h.objs.size items:=⟨0,get?_push_size _ rfl⟩
inductive HO where
 |lst (xs:List V)
 |tup (xs:List V)
 |dK (kvs:List (Key×V))|dT (kvs:List (List Key×V))
 |set (S:Int->Bool) (n:Nat)
 |ins (C dx:Addr) (fs:List (Str×V))
 |own (x:Addr)
 |xd (fs:List (Str×V))
 |met (f x:Addr)
 |c7 (lo hi:Int)
 |aP (o:Obj) (u:HO)
 |eT (ps:Array Value)
 |ext (φ:Heap->Prop)
abbrev Hp:=Addr->Option HO
def upd(H:Hp)(a:Addr)(o:HO):Hp:=λb=>if b=a then some o else H b
theorem cj{H:Hp}{a:Addr}{o:HO}:upd H a o a=some o:=by unfold upd;rw[if_pos rfl]
theorem aF{H:Hp}{a b:Addr}{o:HO}(h:b≠a):upd H a o b=H b:=by unfold upd;rw[if_neg h]
theorem G_{H:Hp}{a b:Addr}{o u:HO}(h:H a=some o)(h':H b=some u)(d:o≠u):a≠b:=by
 intro e;subst e;rw[h] at h';exact d (Option.some.inj h')
theorem bG{H:Hp}{a b:Addr}{o:HO}(h:H a=some o)(h':H b=none):a≠b:=by
 intro e;subst e;rw[h] at h';cases h'
section
variable(P:Program)(w:World)
def aY(H:Hp)(h:Heap)(a:Addr):HO->Prop
 | .lst xs=>xs.length<=sizeLine/\∃(its:List Value) (n:Nat),Vals xs its/\h.get? a=some {cls:= .type "list",data:= .seq its.toArray n}
 | .tup xs=>xs.length<=sizeLine/\∃its:List Value,Vals xs its/\gR h a its.toArray
 | .dK kvs=>kvs.length<=sizeLine/\(a==sysModules)=false/\∃vs,KV kvs vs/\h.DictOf (bP P w) a vs
 | .dT kvs=>kvs.length<=sizeLine/\(a==sysModules)=false/\∃xs:List (List Key×Addr×Value),
  Paired (λ(p:List Key×V) (q:List Key×Addr×Value)=>p.1=q.1/\H q.2.1=some (.tup (p.1.map kV))/\RelV p.2 q.2.2) kvs xs/\
  ∃o es ep,h.get? a=some o/\o.ExactDict/\o.data= .dict es ep/\es.toList=xs.map (entryOfKey (tupleKind (bP P w)))/\(xs.map (·.1)).Nodup
 | .set S n=>h.SetOf (intKind P w) a S n
 | .ins C dx fs=>H dx=some (.own a)/\fs.length<=1000/\dx≠a/\h.get? a=some (instObj C dx)/\
  ∃mA,h.Ns1 dx mA/\(∀f,fG (fs.lookup f) (mA f))/\PySem.Within mA (fs.map (·.1))
 | .own _=>∃o,h.get? a=some o
 | .xd fs=>∃mA,h.Ns1 a mA/\∀f,fG (fs.lookup f) (mA f)
 | .c7 lo hi=>∃t u v,h.get? a=some {cls:= .type "range",data:= .fields #[.int lo t,.int hi u,.int 1 v]}
 | .aP o u=>h.get? a=some o/\aY H h a u
 | .eT ps=>h.get? a=some {cls:= .none,data:= .fields ps}
 | .met f x=>h.get? a=some (methodObj (.ref f) (.ref x))
 | .ext φ=>φ h/\(∃o,h.get? a=some o)/\∀h1 h2:Heap,φ h1->(∀o,h1.get? a=some o->h2.get? a=some o)->φ h2
def bx(H:Hp)(h:Heap):Prop:=∀a o,H a=some o->aY P w H h a o
end
section
variable{P:Program}{w:World}{H H':Hp}{h h':Heap}{a:Addr}{o:HO}
theorem aY.lt(x:aY P w H h a o):a<h.objs.size:=by
 cases o with
 |lst xs=>obtain⟨_,_,_,_,e⟩:=x;exact lt_size e
 |tup xs=>obtain⟨_,_,_,p⟩:=x;exact p.is.lt
 |dK kvs=>obtain⟨_,_,_,_,o,_,_,e,_⟩:=x;exact lt_size e
 |dT kvs=>obtain⟨_,_,_,_,o,_,_,e,_⟩:=x;exact lt_size e
 |set S n=>obtain⟨o,_,_,_,e,_⟩:=x;exact lt_size e
 |ins C dx fs=>obtain⟨_,_,_,e,_⟩:=x;exact lt_size e
 |own y=>obtain⟨_,e⟩:=x;exact lt_size e
 |xd fs=>obtain⟨_,⟨_,_,_,e,_⟩,_⟩:=x;exact lt_size e
 |c7 lo hi=>obtain⟨_,_,_,e⟩:=x;exact lt_size e
 |aP b u=>obtain⟨e,_⟩:=x;exact lt_size e
 |eT ps=>exact lt_size (show h.get? a=some _ from x)
 |met f y=>exact lt_size (show h.get? a=some _ from x)
 |ext c=>obtain⟨_,⟨_,e⟩,_⟩:=x;exact lt_size e
theorem Paired.ia{α β:Type}{F G:α->β->Prop}:∀{c:List α} {d:List β},Paired F c d->(∀a b,F a b->G a b)->Paired G c d
 |_,_,.nil,_=>.nil
 |_,_,.cons r t,f=>.cons (f _ _ r) (Paired.ia t f)
theorem aY.stay(x:aY P w H h a o)(k:∀b u,(b=a\/H b=some (.own a))->h.get? b=some u->h'.get? b=some u)
  (j:∀b,H b=some (.own a)->H' b=some (.own a))(l:∀b xs,H b=some (.tup xs)->H' b=some (.tup xs)):aY P w H' h' a o:=by
 induction o with
 |lst xs=>obtain⟨z,its,n,r,e⟩:=x;exact⟨z,its,n,r,k _ _ (.inl rfl) e⟩
 |tup xs=>obtain⟨z,its,r,n,e⟩:=x;exact⟨z,its,r,n,k _ _ (.inl rfl) e⟩
 |dK kvs=>obtain⟨z,y,vs,r,g,es,ep,e,c⟩:=x;exact⟨z,y,vs,r,g,es,ep,k _ _ (.inl rfl) e,c⟩
 |dT kvs=>
  obtain⟨z,y,xs,r,g,es,ep,e,c⟩:=x;exact⟨z,y,xs,Paired.ia r λp q z=>⟨z.1,l _ _ z.2.1,z.2.2⟩,g,es,ep,k _ _ (.inl rfl) e,c⟩
 |set S n=>obtain⟨g,es,ep,t,e,c⟩:=x;exact⟨g,es,ep,t,k _ _ (.inl rfl) e,c⟩
 |ins C dx fs=>
  obtain⟨d,z,ne,e,mA,⟨i,es,ep,m,c⟩,r⟩:=x;exact⟨j _ d,z,ne,k _ _ (.inl rfl) e,mA,⟨i,es,ep,k _ _ (.inr d) m,c⟩,r⟩
 |own y=>obtain⟨g,e⟩:=x;exact⟨g,k _ _ (.inl rfl) e⟩
 |xd fs=>obtain⟨mA,⟨i,es,ep,e,c⟩,r⟩:=x;exact⟨mA,⟨i,es,ep,k _ _ (.inl rfl) e,c⟩,r⟩
 |c7 lo hi=>obtain⟨t,u,v,e⟩:=x;exact⟨t,u,v,k _ _ (.inl rfl) e⟩
 |aP g u s=>obtain⟨e,q⟩:=x;exact⟨k _ _ (.inl rfl) e,s q⟩
 |eT ps=>
  have e:h.get? a=some {cls:=.none,data:=.fields ps}:=x;show h'.get? a=some {cls:=.none,data:=.fields ps};exact k a _ (.inl rfl) e
 |met f y=>
  have e:h.get? a=some (methodObj (.ref f) (.ref y)):=x;show h'.get? a=some (methodObj (.ref f) (.ref y));exact k a _ (.inl rfl) e
 |ext A=>obtain⟨p,⟨o,e⟩,st⟩:=x;exact⟨st _ _ p λo q=>k _ _ (.inl rfl) q,⟨o,k _ _ (.inl rfl) e⟩,st⟩
theorem bx.lt(x:bx P w H h)(e:H a=some o):a<h.objs.size:=(x a o e).lt
theorem bx.fresh(x:bx P w H h)(e:h.objs.size<=a):H a=none:=by
 cases q:H a with
 |none=>rfl
 |some u=>exact absurd (lt_of_lt_of_le (x.lt q) e) (lt_irrefl _)
theorem bx.kept(x:bx P w H h)(k:∀b u,h.get? b=some u->h'.get? b=some u):bx P w H h':=λa o e=>
 (x a o e).stay (λb u _ q=>k b u q) (λ_ q=>q) λ_ _ q=>q
theorem bx.laid(x:bx P w H h)(k:∀b u,h.get? b=some u->h'.get? b=some u)(g:h.objs.size<=a)(new:aY P w (upd H a o) h' a o):bx P w (upd H a o) h':=λb u e=>by
 have d:=x.fresh g;by_cases f:b=a
 .subst f;rw[cj] at e;cases e;exact new
 .rw[aF f] at e
  exact(x b u e).stay (λc v _ q=>k c v q) (λc q=>by rw[aF (bG q d)];exact q) λc xs q=>by rw[aF (bG q d)];exact q
end
def Rd(H:Hp)(a:Addr)(u:HO):Prop:=H a=some u\/∃o,H a=some (.aP o u)
theorem Rd.ok{P:Program}{w:World}{H:Hp}{h:Heap}{a:Addr}{u:HO}(r:Rd H a u)(x:bx P w H h):aY P w H h a u:=by
 rcases r with r|⟨o,r⟩
 .exact x a u r
 .obtain⟨_,q⟩:=x a _ r
  exact q
def jx:Option HO->Prop
 |some (.lst _)=>True
 |some (.dK _)=>True
 |some (.dT _)=>True
 |some (.set _ _)=>True
 |some (.ins _ _ _)=>True
 |some (.ext _)=>True
 |_=>False
section
variable{P:Program}{w:World}{H:Hp}{h h':Heap}{x e:Addr}{o':HO}
theorem bx.write(ok:bx P w H h)(g:jx (H x))(l:e=x\/H e=some (.own x))(k:∀b u,b≠e->h.get? b=some u->h'.get? b=some u)(j:∃u,h'.get? e=some u)
  (new:aY P w (upd H x o') h' x o'):bx P w (upd H x o') h':=λb u q=>by
 have d:∀c y,H c=some (.own y)->c≠x:=λc y r z=>by subst z;rw[r] at g;exact g
 have f:∀c xs,H c=some (.tup xs)->c≠x:=λc xs r z=>by subst z;rw[r] at g;exact g
 by_cases i:b=x
 .subst i;rw[cj] at q;cases q;exact new
 .rw[aF i] at q
  by_cases a:b=e
  .have m:H b=some (.own x):=by
    rcases l with z|z
    .exact absurd (a.trans z) i
    .rw[a];exact z
   rw[q] at m;cases m;obtain⟨v,n⟩:=j;exact⟨v,by rw[a];exact n⟩
  .refine(ok b u q).stay (λc v hc r=>k c v ?_ r) (λc r=>by rw[aF (d c b r)];exact r) λc xs r=>by rw[aF (f c xs r)];exact r
   rcases hc with rfl|hc
   .exact a
   .rintro rfl
    rcases l with z|z
    .exact d c b hc z
    .rw[hc] at z;cases z;exact i rfl
end
structure Un(fs ex:List Addr)(H H':Hp)(h h':Heap):Prop where
 keep:∀b o,h.get? b=some o->H b=none->b∉fs->b∉ex->h'.get? b=some o
 slot:∀b o,h.get? b=some o->H b=none->b∈fs->b∉ex->∃sl,h'.get? b=some {o with slots:=sl}
 free:∀b o,h.get? b=some o->H b=none->b∉ex->H' b=none
 there:∀b o,h.get? b=some o->b∉ex->∃o',h'.get? b=some o'
 tups:∀b xs,H b=some (.tup xs)->H' b=some (.tup xs)
 di:∀b o u,H b=some (.aP o u)->H' b=some (.aP o u)
 eH:∀b ps,H b=some (.eT ps)->∃more,H' b=some (.eT (ps++more))
section
variable{fs fs' ex ex':List Addr}{H H1 H2:Hp}{h h1 h2 h':Heap}{a x e:Addr}{o:HO}
theorem Un.any(u:Un fs ex H H1 h h1){b:Addr}{a:Obj}(q:h.get? b=some a)(n:H b=none)(c:b∉ex):∃e,h1.get? b=some {a with slots:=e}:=by
 by_cases d:b∈fs
 .exact u.slot b a q n d c
 .exact⟨a.slots,u.keep b a q n d c⟩
theorem Un.kept(k:∀b u,h.get? b=some u->h'.get? b=some u):Un fs ex H H h h':=
 ⟨λb a q _ _ _=>k b a q,λb a q _ _ _=>⟨a.slots,k b a q⟩,λ_ _ _ n _=>n,λb a q _=>⟨a,k b a q⟩,λ_ _ q=>q,λ_ _ _ q=>q,λ_ ps q=>⟨#[],by rw[q];simp⟩⟩
theorem Un.refl:Un fs ex H H h h:=Un.kept λ_ _ q=>q
theorem Un.laid(k:∀b u,h.get? b=some u->h'.get? b=some u)(d:h.objs.size<=a)(c:H a=none):Un fs ex H (upd H a o) h h' where
 keep:=λb u q _ _ _=>k b u q
 slot:=λb u q _ _ _=>⟨u.slots,k b u q⟩
 free:=λb u q n _=>by rw[aF (ne_of_lt (lt_of_lt_of_le (lt_size q) d))];exact n
 there:=λb u q _=>⟨u,k b u q⟩
 tups:=λb xs q=>by rw[aF (bG q c)];exact q
 di:=λb u xs q=>by rw[aF (bG q c)];exact q
 eH:=λb ps q=>⟨#[],by rw[aF (bG q c),q];simp⟩
theorem Un.write(c:jx (H x))(j:e=x\/H e=some (.own x))(k:∀b u,b≠e->h.get? b=some u->h'.get? b=some u)(d:∃u,h'.get? e=some u):Un fs ex H (upd H x o) h h':=by
 have g:∀b,H b=none->b≠x:=λb n z=>by subst z;rw[n] at c;exact c
 have i:∀b,H b=none->b≠e:=λb n z=>by
  subst z;rcases j with r|r
  .exact g b n r
  .rw[n] at r;cases r
 have f:∀b u,H b=some u->¬jx (some u)->b≠x:=λb u q nm z=>by subst z;rw[q] at c;exact nm c
 refine⟨λb u q n _ _=>k b u (i b n) q,λb u q n _ _=>⟨u.slots,k b u (i b n) q⟩,λb u q n _=>by rw[aF (g b n)];exact n,λb u q _=>?_,
  λb xs q=>by rw[aF (f b _ q λz=>z)];exact q,λb u xs q=>by rw[aF (f b _ q λz=>z)];exact q,λb ps q=>⟨#[],by rw[aF (f b _ q λz=>z),q];simp⟩⟩
 by_cases a:b=e
 .subst a;exact d
 .exact⟨u,k b u a q⟩
end
def nX(h:Heap)(H:Hp):List Addr:=(range h.objs.size).filter λa=>(H a).isSome
def gB(h:Heap)(H:Hp):Heap:=hideAll h (nX h H)
theorem E5(h:Heap)(H:Hp):(gB h H).objs.size=h.objs.size:=PySem.W.hideAll_size _ _
theorem E4{h:Heap}{H:Hp}{b:Addr}{o:Obj}(e:h.get? b=some o)(n:H b=none):(gB h H).get? b=some o:=
 hideAll_get _ e λa=>by
  have q:(H b).isSome=true:=(mem_filter.mp a).2;rw[n] at q;simp at q
theorem HB{h:Heap}{H:Hp}{b:Addr}{o:Obj}(e:(gB h H).get? b=some o):h.get? b=some o/\H b=none:=by
 have a:h.get? b=some o:=of_hideAll (nX h H) e;refine⟨a,?_⟩;cases q:H b with
 |none=>rfl
 |some x=>
  have c:b∈nX h H:=mem_filter.mpr ⟨mem_range.mpr (lt_size a),by simp[q]⟩;have z:(gB h H).get? b=none:=PySem.W.hideAll_none (nX h H) c;rw[z] at e;cases e
structure Mod(K:PySem.W.Frag)(mg:ah)(base:Heap):Prop where
 mG:K.In base
 glob:base.Ns mainGlobals mg
 blt:∃mb,base.Ns builtinsNs mb/\∀x:Str,x≠"__name__"->mb x=bootBuiltins x
 nolimit:base.NoLimit
structure Cx where
 prog:Program
 w:World
 K:PySem.W.Frag
 mg:ah
 base:Heap
 A:Around
 N:List Str
 s₀:Shared
 H₀:Hp
 env:Env
 outer:List Env
 stack:List Env
 ex:List Addr
 fn:Str->Bool
 calm:Bool
 pn:aD
 xe:aj
def frs(l:List Env):List Addr:=l.filterMap (·.frame)
abbrev Cx.fs(X:Cx):List Addr:=frs X.outer
def iS(sc:Scope)(x:Str):Prop:=sc.names.lookup x=some .local\/sc.names.lookup x=some .cell\/sc.names.lookup x=some .free
def Loc(sc:Scope)(x:Str):Prop:=sc.names.lookup x=some .local\/sc.names.lookup x=some .cell
def Look(env:Env)(h:Heap)(m:ah)(x:Str)(u:Value):Prop:=
 (env.kindOf x=some .local/\m x=some u)\/((env.kindOf x=some .cell\/env.kindOf x=some .free)/\∃c,env.cells.lookup x=some c/\h.IsCell c (some u))
structure Cx.Ok(X:Cx):Prop where
 mod:Mod X.K X.mg X.base
 kind:X.env.scope.kind= .function
 glob:X.env.globals=mainGlobals
 blt:X.env.builtins=builtinsNs
 above:X.s₀.heap.objs.size<=X.env.locals
 inj:∀x y c,X.env.cells.lookup x=some c->X.env.cells.lookup y=some c->x=y
 has:∀x,(X.env.kindOf x=some .cell\/X.env.kindOf x=some .free)->∃c,X.env.cells.lookup x=some c
 lz:∀x c,X.fn x=true->X.env.cells.lookup x=some c->X.s₀.heap.objs.size<=c
 hd:X.calm=true->X.A.handled=none
 frames:X.A.frames=some X.stack
 stk:X.stack=X.outer\/(X.stack=X.env::X.outer/\X.env.frame=some X.env.locals)
 DJ:∀b∈X.ex,b≠X.env.locals/\∀x c,X.env.cells.lookup x=some c->c≠b
 bs:∀b o,X.base.get? b=some o->X.s₀.heap.get? b=some o/\X.H₀ b=none
 iz:X.base.objs.size<=X.s₀.heap.objs.size
 mQ:∀b o,X.base.get? b=some o->b∉X.ex
 pX:∀b∈X.ex,b∉X.fs
 f7:X.s₀.heap.FunFrames X.base X.outer
 i_:∀b∈X.fs,X.H₀ b=none
structure Inv(X:Cx)(pins:aD)(σ:List (Option V))(H:Hp)(s:Shared):Prop where
 ok:X.Ok
 os:s.os=X.s₀.os
 bare:AllBare s.gens
 base:Un X.fs X.ex X.H₀ H X.s₀.heap s.heap
 loc:∃m,s.heap.Ns X.env.locals m/\∀(i:Nat) (x:Str) (v:V),X.N[i]? =some x->σ[i]? =some (some v)->iS X.env.scope x->∃u,RelV v u/\Look X.env s.heap m x u
 cell:∀x c,X.env.cells.lookup x=some c->∃v,s.heap.IsCell c v
 free:H X.env.locals=none
 f6:∀x c,X.env.cells.lookup x=some c->H c=none
 pin:∀p∈X.pn++pins,s.heap.get? p.1=some p.2/\H p.1=none/\p.1≠X.env.locals/\p.1∉X.fs/\∀v,p.2.data≠ .cell v
 hok:bx X.prog X.w H s.heap
 len:σ.length=X.N.length
section
variable{X:Cx}{pins:aD}{σ:List (Option V)}{H H':Hp}{s:Shared}{h':Heap}
theorem Cx.Ok.mR(ok:X.Ok){b:Addr}{o:Obj}(e:X.base.get? b=some o):b∉X.fs:=λa=>by
 have:=(ok.f7.mem a).1;rw[e] at this;cases this
theorem Inv.bs(I:Inv X pins σ H s):∀b o,X.base.get? b=some o->s.heap.get? b=some o/\H b=none:=λb o e=>
 ⟨I.base.keep b o (I.ok.bs b o e).1 (I.ok.bs b o e).2 (I.ok.mR e) (I.ok.mQ b o e),I.base.free b o (I.ok.bs b o e).1 (I.ok.bs b o e).2 (I.ok.mQ b o e)⟩
theorem Inv.bk(I:Inv X pins σ H s):∀b o,X.base.get? b=some o->s.heap.get? b=some o:=λb o e=>(I.bs b o e).1
theorem Inv.mod(I:Inv X pins σ H s):Mod X.K X.mg X.base:=I.ok.mod
theorem Inv.cS(I:Inv X pins σ H s):X.K.In s.heap:=I.ok.mod.mG.keeps I.bk
theorem Inv.lt(I:Inv X pins σ H s):X.env.locals<s.heap.objs.size:=let ⟨_,a,_⟩:=I.loc;a.lt
theorem Inv.sz(I:Inv X pins σ H s):X.s₀.heap.objs.size<=s.heap.objs.size:=le_trans I.ok.above (le_of_lt I.lt)
theorem Inv.Ho(I:Inv X pins σ H s){a:Addr}(h:s.heap.objs.size<=a):a∉X.fs:=λb=>by
 obtain⟨_,o,c,_⟩:=I.ok.f7.mem b;exact absurd (lt_of_lt_of_le (lt_size c) (le_trans I.sz h)) (lt_irrefl _)
theorem Inv.d8(I:Inv X pins σ H s):∀x c,X.env.cells.lookup x=some c->c≠X.env.locals:=λx c e z=>by
 obtain⟨v,o,d,hd⟩:=I.cell x c e;obtain⟨m,⟨o',es,ep,a,b,_⟩,_⟩:=I.loc;rw[z,a] at d;cases d;rw[b] at hd;cases hd
theorem Inv.f7(I:Inv X pins σ H s):s.heap.FunFrames X.base X.outer:=by
 have all:∀(l:List Env),(∀b∈frs l,b∈X.fs)->X.s₀.heap.FunFrames X.base l->s.heap.FunFrames X.base l:=by
  intro l;induction l with
  |nil=>intro _ _;trivial
  |cons env r f=>
   intro hs g;obtain⟨h,⟨L,o,a,i,j,hd⟩,k⟩:=g;have c:L∈X.fs:=hs L (by unfold frs;rw[filterMap_cons,a];exact mem_cons_self);obtain⟨m,e⟩:=I.base.slot L o j (I.ok.i_ L c) c λz=>I.ok.pX L z c;exact⟨h,⟨L,_,a,i,e,hd⟩,f (λb d=>hs b (by unfold frs;rw[filterMap_cons,a];exact mem_cons_of_mem _ d)) k⟩
 exact all X.outer (λ_ d=>d) I.ok.f7
theorem Inv.stack(I:Inv X pins σ H s):s.heap.FunFrames X.base X.stack:=by
 rcases I.ok.stk with e|⟨e,a⟩
 .rw[e];exact I.f7
 .rw[e]
  obtain⟨m,b,_⟩:=I.loc;refine .cons (by rw[I.ok.kind];decide) a b ?_ I.f7;exact Heap.get?_none_of_le (le_trans I.ok.iz I.ok.above)
theorem Inv.jo(I:Inv X pins σ H s):∀b∈frs X.stack,b∈X.env.locals::X.fs:=λb a=>by
 rcases I.ok.stk with e|⟨e,c⟩
 .rw[e] at a;exact mem_cons_of_mem _ a
 .rw[e] at a
  unfold frs at a;rw[filterMap_cons,c] at a;exact a
theorem Inv.rG(I:Inv X pins σ H s):∀b∈frs X.stack,H b=none:=λb hb=>by
 rcases mem_cons.mp (I.jo b hb) with e|hb
 .rw[e];exact I.free
 .obtain⟨_,o,a,_⟩:=I.ok.f7.mem hb
  exact I.base.free b o a (I.ok.i_ b hb) λz=>I.ok.pX b z hb
theorem Inv.step{g':Array GenState}{t':Nat}{d':Drawn}{ch:List Addr}(I:Inv X pins σ H s)
  (f:∀b∈ch,(b∈X.ex\/X.s₀.heap.objs.size<=b)/\b≠X.env.locals/\(∀x c,X.env.cells.lookup x=some c->c≠b)/\∀p∈X.pn++pins,p.1≠b)
  (keep:∀b o,b≠X.env.locals->b∉X.fs->b∉ch->s.heap.get? b=some o->H b=none->h'.get? b=some o)
  (slot:∀b o,b≠X.env.locals->b∈X.fs->b∉ch->s.heap.get? b=some o->H b=none->∃C,h'.get? b=some {o with slots:=C})(free:∀b o,b∉ch->s.heap.get? b=some o->H b=none->H' b=none)
  (there:∀b o,b∉ch->s.heap.get? b=some o->∃o',h'.get? b=some o')
  (tups:∀b xs,H b=some (.tup xs)->H' b=some (.tup xs))(di:∀b o u,H b=some (.aP o u)->H' b=some (.aP o u))(eH:∀b ps,H b=some (.eT ps)->∃more,H' b=some (.eT (ps++more)))
  (ns:∀m,s.heap.Ns X.env.locals m->h'.Ns X.env.locals m)(hok:bx X.prog X.w H' h')(G:AllBare g'):
  Inv X pins σ H' {s with heap:=h',gens:=g',drawn:=d',toks:=t'}:=by
 have A:∀b o,X.s₀.heap.get? b=some o->b≠X.env.locals:=λb o e=>ne_of_lt (lt_of_lt_of_le (lt_size e) I.ok.above)
 have h:∀b o,X.s₀.heap.get? b=some o->b∉X.ex->b∉ch:=λb o e a t=>by
  rcases (f b t).1 with z|z
  .exact a z
  .exact absurd (lt_of_lt_of_le (lt_size e) z) (lt_irrefl _)
 have cellK:∀x c,X.env.cells.lookup x=some c->∀v,s.heap.IsCell c v->h'.IsCell c v:=λx c e v ⟨o,y,hd⟩=>by
  have g:c∉ch:=λz=>(f c z).2.2.1 x c e rfl
  by_cases hc:c∈X.fs
  .obtain⟨C,q⟩:=slot c o (I.d8 x c e) hc g y (I.f6 x c e)
   exact⟨_,q,hd⟩
  .exact⟨o,keep c o (I.d8 x c e) hc g y (I.f6 x c e),hd⟩
 refine⟨I.ok,I.os,G,⟨λb o e n t a=> ?_,λb o e n t a=> ?_,λb o e n a=> ?_,λb o e a=> ?_,λb xs e=>tups b xs (I.base.tups b xs e),λb o xs e=>di b o xs (I.base.di b o xs e),λb ps e=> ?_⟩,?_,λx c e=> ?_,?_,λx c e=> ?_,λp E=> ?_,hok,I.len⟩
 .exact keep b o (A b o e) t (h b o e a) (I.base.keep b o e n t a) (I.base.free b o e n a)
 .obtain⟨C,j⟩:=I.base.slot b o e n t a
  obtain⟨D,B⟩:=slot b _ (A b o e) t (h b o e a) j (I.base.free b o e n a)
  exact⟨D,B⟩
 .obtain⟨o',j⟩:=I.base.there b o e a
  exact free b o' (h b o e a) j (I.base.free b o e n a)
 .obtain⟨o',j⟩:=I.base.there b o e a
  exact there b o' (h b o e a) j
 .obtain⟨J,j⟩:=I.base.eH b ps e
  obtain⟨K,B⟩:=eH b _ j
  exact⟨J++K,by rw[B,Array.append_assoc]⟩
 .obtain⟨m,L,M⟩:=I.loc
  refine⟨m,ns m L,λi x v j B N=> ?_⟩
  obtain⟨u,r,l⟩:=M i x v j B N
  refine⟨u,r,?_⟩
  rcases l with l|⟨k,c,e,z⟩
  .exact .inl l
  .exact .inr ⟨k,c,e,cellK x c e _ z⟩
 .obtain⟨v,z⟩:=I.cell x c e
  exact⟨v,cellK x c e v z⟩
 .obtain⟨m,⟨o,_,_,y,_⟩,_⟩:=I.loc
  exact free _ o (λz=>(f _ z).2.1 rfl) y I.free
 .obtain⟨v,o,y,hd⟩:=I.cell x c e
  exact free c o (λz=>(f c z).2.2.1 x c e rfl) y (I.f6 x c e)
 .obtain⟨e,n,ne,F,d⟩:=I.pin p E
  have g:p.1∉ch:=λz=>(f p.1 z).2.2.2 p E rfl
  exact⟨keep p.1 p.2 ne F g e n,free p.1 p.2 g e n,ne,F,d⟩
theorem Inv.un{t':Nat}(I:Inv X pins σ H s)(u:Un X.fs [] H H' s.heap h')(hok:bx X.prog X.w H' h'):Inv X pins σ H' {s with heap:=h',toks:=t'}:=by
 obtain⟨m,⟨o,es,ep,g,r⟩,_⟩:=id I.loc;obtain⟨j,h⟩:=u.any g I.free (by simp);exact I.step (g':=s.gens) (d':=s.drawn) (ch:=[]) (λ_ z=>nomatch z) (λb o _ c _ e n=>u.keep b o e n c (by simp)) (λb o _ c _ e n=>u.slot b o e n c (by simp)) (λb o _ e n=>u.free b o e n (by simp)) (λb o _ e=>u.there b o e (by simp)) u.tups u.di u.eH (λk i=>by
  obtain⟨o',d,f,a,r'⟩:=i;rw[g] at a;cases a;exact⟨_,d,f,h,r'⟩) hok I.bare
theorem Inv.call{g':Array GenState}{t':Nat}{d':Drawn}{ch:List Addr}(I:Inv X pins σ H s)(u:Un (frs X.stack) ch H H' s.heap h')(hok:bx X.prog X.w H' h')(j:AllBare g')
  (a:∀b∈ch,(b∈X.ex\/X.s₀.heap.objs.size<=b)/\b≠X.env.locals/\(∀x c,X.env.cells.lookup x=some c->c≠b)/\∀p∈X.pn++pins,p.1≠b):
  Inv X pins σ H' {s with heap:=h',gens:=g',drawn:=d',toks:=t'}:=by
 obtain⟨m,⟨o,es,ep,i,r⟩,_⟩:=id I.loc;obtain⟨q,f⟩:=u.any i I.free λz=>(a _ z).2.1 rfl;exact I.step (ch:=ch) a (λb o f k hc e n=>u.keep b o e n (λz=>(mem_cons.mp (I.jo b z)).elim f k) hc) (λb o _ _ hc e n=>u.any e n hc) (λb o hc e n=>u.free b o e n hc) (λb o hc e=>u.there b o e hc) u.tups u.di u.eH (λt l=>by
  obtain⟨o',g,h,d,r'⟩:=l;rw[i] at d;cases d;exact⟨_,g,h,f,r'⟩) hok j
theorem Inv.turned{t':Nat}{it:Addr}(I:Inv X pins σ H s)(k:∀b o,b≠it->s.heap.get? b=some o->h'.get? b=some o)(f:H it=none)(d:it≠X.env.locals)
  (h1:it∈X.ex\/X.s₀.heap.objs.size<=it)(h2:∀x c,X.env.cells.lookup x=some c->c≠it)(g:∀p∈X.pn++pins,p.1≠it):Inv X pins σ H {s with heap:=h',toks:=t'}:=by
 have a:∀b u,H b=some u->b≠it:=λb u e z=>by rw[z,f] at e;cases e
 refine I.step (g':=s.gens) (d':=s.drawn) (ch:=[it]) (λb h=>?_) (λb o _ _ hc e _=>k b o (λz=>hc (by simp[z])) e) (λb o _ _ hc e _=>⟨o.slots,k b o (λz=>hc (by simp[z])) e⟩) (λ_ _ _ _ n=>n)
  (λb o hc e=>⟨o,k b o (λz=>hc (by simp[z])) e⟩) (λ_ _ e=>e) (λ_ _ _ e=>e) (λb ps e=>⟨#[],by rw[e];simp⟩) (λm i=>?_) (λb u e=>?_) I.bare
 .have e:b=it:=by simpa using h
  subst e;exact⟨h1,d,h2,g⟩
 .obtain⟨o,es,ep,j,r⟩:=i
  exact⟨o,es,ep,k _ o (Ne.symm d) j,r⟩
 .refine(I.hok b u e).stay (λc v hc q=>k c v ?_ q) (λ_ q=>q) λ_ _ q=>q
  rcases hc with z|z
  .rw[z];exact a b u e
  .exact a c _ z
theorem Inv.tok(I:Inv X pins σ H s)(t:Nat):Inv X pins σ H {s with toks:=t}:=I.un (h':=s.heap) (t':=t) Un.refl I.hok
theorem Inv.kept{t':Nat}(I:Inv X pins σ H s)(k:∀b u,s.heap.get? b=some u->h'.get? b=some u):Inv X pins σ H {s with heap:=h',toks:=t'}:=I.un (Un.kept k) (I.hok.kept k)
theorem Inv.laid{a:Addr}{o:HO}{t':Nat}(I:Inv X pins σ H s)(k:∀b u,s.heap.get? b=some u->h'.get? b=some u)(c:s.heap.objs.size<=a)(new:aY X.prog X.w (upd H a o) h' a o):
 Inv X pins σ (upd H a o) {s with heap:=h',toks:=t'}:=I.un (Un.laid k c (I.hok.fresh c)) (I.hok.laid k c new)
theorem Inv.write{x e:Addr}{o:HO}{t':Nat}(I:Inv X pins σ H s)(c:jx (H x))(d:e=x\/H e=some (.own x))(k:∀b u,b≠e->s.heap.get? b=some u->h'.get? b=some u)(a:∃u,h'.get? e=some u)
 (new:aY X.prog X.w (upd H x o) h' x o):Inv X pins σ (upd H x o) {s with heap:=h',toks:=t'}:=I.un (Un.write c d k a) (I.hok.write c d k a new)
theorem Inv.weak{σ':List (Option V)}(I:Inv X pins σ H s)(b:σ'.length=σ.length)(w:∀(i:Nat) v,σ'[i]?=some (some v)->σ[i]?=some (some v)):Inv X pins σ' H s:=
 ⟨I.ok,I.os,I.bare,I.base,let ⟨m,c,a⟩:=I.loc;⟨m,c,λi x v d e f=>a i x v d (w i v e) f⟩,I.cell,I.free,I.f6,I.pin,I.hok,b.trans I.len⟩
theorem Inv.yi{a:aD}(I:Inv X pins σ H s)(h:∀p∈a,s.heap.get? p.1=some p.2/\H p.1=none/\p.1≠X.env.locals/\p.1∉X.fs/\∀v,p.2.data≠ .cell v):Inv X a σ H s:=
 ⟨I.ok,I.os,I.bare,I.base,I.loc,I.cell,I.free,I.f6,λp b=>(mem_append.mp b).elim (λz=>I.pin p (mem_append_left _ z)) (h p),I.hok,I.len⟩
theorem xJ{N:List Str}(c:N.Nodup){i j:Nat}{x:Str}(a:N[i]?=some x)(b:N[j]?=some x):i=j:=by
 obtain⟨h1,d⟩:=List.getElem?_eq_some_iff.mp a;obtain⟨h2,e⟩:=List.getElem?_eq_some_iff.mp b;exact(List.getElem_inj c).mp (d.trans e.symm)
theorem zX {M : Model} {A : Around} {E : aj} {i : Nat} {x : Str} {v : V} {u : Value} {Q : Unit → Shared → Prop} (I : Inv X pins σ H s) (hN : X.N.Nodup) (hi : X.N[i]? = some x) (g : Loc X.env.scope x) (r : RelV v u)
    (h : ∀ s', Inv X pins (σ.set i (some v)) H s' → (∃ a, SameBut a s.heap s'.heap ∧ (a = X.env.locals ∨ X.env.cells.lookup x = some a)) → Q () s') (hf : X.fn x = true ∨ X.env.scope.names.lookup x = some .local := by first | exact .inl rfl | exact .inr rfl | assumption) : wpAny M A (storeName X.env x u) Q E s := by
  obtain ⟨m, R, hl⟩ := id I.loc
  have G : (X.env.scope.kind == .class || (X.env.scope.kind == .module && X.env.locals != X.env.globals)) = false := by rw [I.ok.kind]; rfl
  have B : i < σ.length := by rw [I.len]; exact (List.getElem?_eq_some_iff.mp hi).1
  have d8 := I.d8
  have tracked : ∀ {a : Addr} {h' : Heap}, (∃ o, s.heap.get? a = some o ∧ H a = none) → SameBut a s.heap h' → bx X.prog X.w H h' := fun {a h'} ha hs b ob e => by
    obtain ⟨_, _, l⟩ := ha
    refine (I.hok b ob e).stay (fun c P hc q => (hs.2 c ?_).trans q) (fun _ q => q) fun _ _ q => q
    rintro rfl
    rcases hc with rfl | hc
    · rw [l] at e; cases e
    · rw [l] at hc; cases hc
  rcases g with hk | hk
  · refine wpAny_storeName_local hk R (fun h' S hs => ?_) G
    obtain ⟨oL, _, _, T, _⟩ := id R
    refine h _ ⟨I.ok, I.os, I.bare, ⟨fun b o e n C g => ?_, fun b o e n C g => ?_, I.base.free, fun b o e g => ?_, I.base.tups, I.base.di, I.base.eH⟩, ⟨_, S, fun j y U f t W => ?_⟩, fun y c e => ?_, I.free, I.f6, fun p Y => ?_, tracked ⟨oL, T, I.free⟩ hs, by simpa using I.len⟩ ⟨_, hs, .inl rfl⟩
    · exact (hs.2 b (ne_of_lt (lt_of_lt_of_le (lt_size e) I.ok.above))).trans (I.base.keep b o e n C g)
    · obtain ⟨Z, f⟩ := I.base.slot b o e n C g
      exact ⟨Z, (hs.2 b (ne_of_lt (lt_of_lt_of_le (lt_size e) I.ok.above))).trans f⟩
    · obtain ⟨o', f⟩ := I.base.there b o e g
      exact ⟨o', (hs.2 b (ne_of_lt (lt_of_lt_of_le (lt_size e) I.ok.above))).trans f⟩
    · by_cases D : j = i
      · subst D
        rw [hi] at f; cases f
        rw [getElem?_set_self B] at t
        cases t
        exact ⟨u, r, .inl ⟨hk, by simp⟩⟩
      · rw [getElem?_set_ne (Ne.symm D)] at t
        obtain ⟨u', r', q⟩ := hl j y U f t W
        refine ⟨u', r', ?_⟩
        rcases q with ⟨k, e⟩ | ⟨k, c, e, z⟩
        · refine .inl ⟨k, ?_⟩
          have : y ≠ x := fun e => D (xJ hN f (e ▸ hi))
          simp [this, e]
        · exact .inr ⟨k, c, e, z.sameBut hs (d8 y c e)⟩
    · obtain ⟨P, z⟩ := I.cell y c e
      exact ⟨P, z.sameBut hs (d8 y c e)⟩
    · obtain ⟨e, n, ne, nf, d⟩ := I.pin p Y
      exact ⟨(hs.2 p.1 ne).trans e, n, ne, nf, d⟩
  · have F : X.fn x = true := by
      rcases hf with z | z
      · exact z
      · rw [z] at hk; cases hk
    obtain ⟨c, hc⟩ := I.ok.has x (.inl hk)
    obtain ⟨P, z⟩ := I.cell x c hc
    refine wpAny_storeName_cell I.ok.kind hk hc z (fun h' J hs => ?_)
    obtain ⟨oc, K, L⟩ := id z
    refine h { s with heap := h' } ⟨I.ok, I.os, I.bare, ⟨fun b o e n C g => ?_, fun b o e n C g => ?_, I.base.free, fun b o e g => ?_, I.base.tups, I.base.di, I.base.eH⟩, ⟨m, R.sameBut hs (Ne.symm (d8 x c hc)), fun j y U f t W => ?_⟩, fun y c' e => ?_, I.free, I.f6, fun p Y => ?_, tracked ⟨oc, K, I.f6 x c hc⟩ hs, by simpa using I.len⟩ ⟨c, hs, .inr hc⟩
    · exact (hs.2 b (ne_of_lt (lt_of_lt_of_le (lt_size e) (I.ok.lz x c F hc)))).trans (I.base.keep b o e n C g)
    · obtain ⟨Z, f⟩ := I.base.slot b o e n C g
      exact ⟨Z, (hs.2 b (ne_of_lt (lt_of_lt_of_le (lt_size e) (I.ok.lz x c F hc)))).trans f⟩
    · obtain ⟨o', f⟩ := I.base.there b o e g
      exact ⟨o', (hs.2 b (ne_of_lt (lt_of_lt_of_le (lt_size e) (I.ok.lz x c F hc)))).trans f⟩
    · by_cases D : j = i
      · subst D
        rw [hi] at f; cases f
        rw [getElem?_set_self B] at t
        cases t
        exact ⟨u, r, .inr ⟨.inl hk, c, hc, J⟩⟩
      · rw [getElem?_set_ne (Ne.symm D)] at t
        obtain ⟨u', r', q⟩ := hl j y U f t W
        refine ⟨u', r', ?_⟩
        rcases q with q | ⟨k, c', e, z'⟩
        · exact .inl q
        · refine .inr ⟨k, c', e, z'.sameBut hs ?_⟩
          rintro rfl
          exact D (xJ hN f (I.ok.inj _ _ _ e hc ▸ hi))
    · by_cases O : c' = c
      · subst O; exact ⟨_, J⟩
      · obtain ⟨w2, z2⟩ := I.cell y c' e
        exact ⟨w2, z2.sameBut hs O⟩
    · obtain ⟨e, n, ne, nf, d⟩ := I.pin p Y
      refine ⟨(hs.2 p.1 ?_).trans e, n, ne, nf, d⟩
      intro q
      rw [q, K] at e
      have q' : oc = p.2 := Option.some.inj e
      exact d P (by rw [← q']; exact L)
theorem kJ{M:Model}{A:Around}{E:aj}{i:Nat}{x:Str}{v:V}{u:Value}{Q:Unit->Shared->Prop}(I:Inv X pins σ H s)(a:X.N.Nodup)(hi:X.N[i]?=some x)(b:Loc X.env.scope x)(r:RelV v u)
  (h:∀s',Inv X pins (σ.set i (some v)) H s'->Q () s')(c:X.fn x=true\/X.env.scope.names.lookup x=some .local:=by first|exact .inl rfl|exact .inr rfl|assumption):wpAny M A (storeName X.env x u) Q E s:=
 zX I a hi b r (λs' d _=>h s' d) c
theorem Inv.BB{s':Shared}{ch:List Addr}(I:Inv X pins σ H s)(d:s'.os=s.os)(u:Un (frs X.stack) ch H H' s.heap s'.heap)(hok:bx X.prog X.w H' s'.heap)(f:AllBare s'.gens)
  (a:∀b∈ch,(b∈X.ex\/X.s₀.heap.objs.size<=b)/\b≠X.env.locals/\(∀x c,X.env.cells.lookup x=some c->c≠b)/\∀p∈X.pn++pins,p.1≠b):Inv X pins σ H' s':=by
 obtain⟨h',g',d',t',o'⟩:=s';have e:o'=s.os:=d;subst e;exact I.call (g':=g') (t':=t') (d':=d') u hok f a
end
abbrev XK:=Value->Option Addr->Hp->Prop
abbrev St:=List (Option V)
abbrev VK:=V->Hp->Prop
abbrev TE:=St->Hp->VK->Prop
abbrev TT:=St->Hp->(Bool->Hp->Prop)->Prop
abbrev TA:=St->Hp->(List V->Hp->Prop)->Prop
structure Ends where
 nx:St->Hp->Prop
 rt:VK
 bk:St->Hp->Prop:=λ_ _=>False
 ct:St->Hp->Prop:=λ_ _=>False
abbrev TS:=Ends->St->Hp->Prop
def EP(X:Cx)(pins:aD)(σ:St)(Q:VK)(u:Value)(s':Shared):Prop:=∃v H',Inv X pins σ H' s'/\RelV v u/\Q v H'
def TP(X:Cx)(pins:aD)(σ:St)(Q:Bool->Hp->Prop)(b:Bool)(s':Shared):Prop:=∃H',Inv X pins σ H' s'/\Q b H'
def AP(X:Cx)(pins:aD)(σ:St)(Q:List V->Hp->Prop)(us:List Value)(s':Shared):Prop:=∃vs H',Inv X pins σ H' s'/\Vals vs us/\Q vs H'
def SP(X:Cx)(pins:aD)(D:Ends)(f:Flow)(s':Shared):Prop:=
 match f with
 |.next=>∃σ' H',Inv X pins σ' H' s'/\D.nx σ' H'
 |.brk=>∃σ' H',Inv X pins σ' H' s'/\D.bk σ' H'
 |.cont=>∃σ' H',Inv X pins σ' H' s'/\D.ct σ' H'
 |.ret u=>∃v σ' H',Inv X pins σ' H' s'/\RelV v u/\D.rt v H'
def PE(X:Cx)(e:Expr)(t:TE):Prop:=
 ∀(pins:aD) (s:Shared) (σ:St) (H:Hp) (Q:VK),Inv X pins σ H s->t σ H Q->wpAny (model X.prog X.w) X.A (eval e X.env) (EP X pins σ Q) X.xe s
def PT(X:Cx)(e:Expr)(t:TT):Prop:=
 ∀(pins:aD) (s:Shared) (σ:St) (H:Hp) (Q:Bool->Hp->Prop),Inv X pins σ H s->t σ H Q->wpAny (model X.prog X.w) X.A (isTrue e X.env (eval e X.env)) (TP X pins σ Q) X.xe s
def PW(X:Cx)(e:Expr)(t:TT):Prop:=
 ∀(whole:Sem Value) (pins:aD) (s:Shared) (σ:St) (H:Hp) (Q:Bool->Hp->Prop),Inv X pins σ H s->t σ H Q->wpAny (model X.prog X.w) X.A (isTrue e X.env whole) (TP X pins σ Q) X.xe s
theorem PW.pt{X:Cx}{e:Expr}{t:TT}(h:PW X e t):PT X e t:=h _
def PA(X:Cx)(es:List Expr)(t:TA):Prop:=
 ∀(pos:Pos) (pins:aD) (s:Shared) (σ:St) (H:Hp) (Q:List V->Hp->Prop),Inv X pins σ H s->t σ H Q->wpAny (model X.prog X.w) X.A (spliced (backTo pos (starEach es X.env))) (AP X pins σ Q) X.xe s
def PS(X:Cx)(st:Stmt)(t:TS):Prop:=
 ∀(pins:aD) (s:Shared) (σ:St) (H:Hp) (D:Ends),Inv X pins σ H s->t D σ H->wpAny (model X.prog X.w) X.A (exec st X.env) (SP X pins D) X.xe s
def bU(X:Cx)(st:List Stmt)(t:TS):Prop:=
 ∀(pins:aD) (s:Shared) (σ:St) (H:Hp) (D:Ends),Inv X pins σ H s->t D σ H->wpAny (model X.prog X.w) X.A (execs st X.env) (SP X pins D) X.xe s
theorem au{α:Type}{t:Sem α}{Q b:α->Shared->Prop}{M:Model}{A:Around}{E:aj}{s:Shared}(h:wpAny M A t Q E s)(c:∀a s,Q a s->b a s):wpAny M A t b E s:=wpAny_mono h c λ_ _ x=>x
section
variable{X:Cx}
def LL(i:Nat):TE:=λσ H Q=>∃v,σ[i]?=some (some v)/\Q v H
def tC(v:V):TE:=λ_ H Q=>Q v H
theorem IL{i:Nat}{x:Str}{pos:Pos}(d:X.N[i]?=some x)(f:iS X.env.scope x)(hd:(x==("__debug__":Str))=false:=by decide)(b:(x==("__classdict__":Str))=false:=by decide):PE X (.Name x pos) (LL i):=by
 intro pins s σ H Q I h;obtain⟨v,e,h⟩:=h;obtain⟨m,g,j⟩:=I.loc;obtain⟨u,r,l⟩:=j i x v d e f;have fin:EP X pins σ Q u s:=⟨v,H,I,r,h⟩;rcases l with⟨hk,k⟩|⟨hk,c,hc,a⟩
 .exact wpAny_Name (wpAny_loadName_local I.ok.kind hk g k fin) hd
 .rcases hk with hk|hk
  .exact wpAny_Name (wpAny_loadName_cell I.ok.kind hk hc a fin) hd
  .exact wpAny_Name (wpAny_loadName_free I.ok.kind hk hc a fin b) hd
theorem IA{i j pos}:PE X (.Constant (.int i) j pos) (tC (.int i)):=λ_ _ _ H _ I h=>wpAny_Constant_int ⟨.int i,H,I.tok _,⟨_,rfl⟩,h⟩
theorem Ij{b j pos}:PE X (.Constant (.bool b) j pos) (tC (.bl b)):=λ_ _ _ H _ I h=>Constant_bool ⟨.bl b,H,I,rfl,h⟩
theorem ID{j pos}:PE X (.Constant .none j pos) (tC .ak):=λ_ _ _ H _ I h=>Constant_none ⟨.ak,H,I,rfl,h⟩
theorem IJ{x j pos}:PE X (.Constant (.str x) j pos) (tC (.str x)):=λ_ _ _ H _ I h=>Calls.Constant_str ⟨.str x,H,I.tok _,⟨_,rfl⟩,h⟩
def Gl(X:Cx)(x:Str):Prop:=X.env.kindOf x=some .globalImplicit
theorem qx{E:aj}{pins:aD}{s:Shared}{σ:St}{H:Hp}{x:Str}{u:Value}{pos:Pos}{Q:aj}(I:Inv X pins σ H s)(a:Gl X x)(b:X.mg x=some u)(h:Q u s)
  (hd:(x==("__debug__":Str))=false:=by decide):wpAny (model X.prog X.w) X.A (eval (.Name x pos) X.env) Q E s:=
 Calls.Name_function_global I.ok.kind a (Calls.loadGlobal_global (by rw[I.ok.glob];exact I.mod.glob.keeps I.bk) b h) hd
theorem gG{E:aj}{pins:aD}{s:Shared}{σ:St}{H:Hp}{x:Str}{u:Value}{pos:Pos}{Q:aj}(I:Inv X pins σ H s)(a:Gl X x)(b:X.mg x=none)(c:bootBuiltins x=some u)(h:Q u s)
  (d:x≠"__name__":=by decide)(hd:(x==("__debug__":Str))=false:=by decide):wpAny (model X.prog X.w) X.A (eval (.Name x pos) X.env) Q E s:=by
 obtain⟨mb,h1,h2⟩:=I.mod.blt;exact Calls.Name_function_global I.ok.kind a (Calls.loadGlobal_builtin (by rw[I.ok.glob];exact I.mod.glob.keeps I.bk) b (by rw[I.ok.blt];exact h1.keeps I.bk) ((h2 x d).trans c) h) hd
theorem Iw{x:Str}{v:V}{u:Value}{pos:Pos}(a:Gl X x)(b:X.mg x=some u)(r:RelV v u)(hd:(x==("__debug__":Str))=false:=by decide):PE X (.Name x pos) (tC v):=
 λ_ _ _ H _ I h=>qx I a b ⟨v,H,I,r,h⟩ hd
theorem Ik{x:Str}{v:V}{u:Value}{pos:Pos}(a:Gl X x)(b:X.mg x=none)(c:bootBuiltins x=some u)(r:RelV v u)(d:x≠"__name__":=by decide)(hd:(x==("__debug__":Str))=false:=by decide):PE X (.Name x pos) (tC v):=
 λ_ _ _ H _ I h=>gG I a b c ⟨v,H,I,r,h⟩ d hd
variable{a b:Expr}{ta tb:TE}{pos:Pos}
def tB(t:TE):TT:=λσ H Q=>t σ H λx H1=>∃c,x=.bl c/\Q c H1
theorem Js{e:Expr}{t:TE}(h:PE X e t)(a:∀whole,isTrue e X.env whole=(do let v <-whole;standAt e.pos;holding [v] (truthy v)):=by intro _;rfl):PT X e (tB t):=by
 intro pins s σ H Q I b;refine isTrue_plain (au (h pins s σ H _ I b) λv i ⟨x,H1,c,f,g⟩=>?_) (a _);obtain⟨d,rfl,q⟩:=g;cases f;exact wpAny_truthy_bool ⟨H1,c,q⟩
variable{tA nV:TT}{rest:List Expr}
def Li(t u:TT):TT:=λσ H Q=>t σ H λc H1=>if c=true then u σ H1 Q else Q false H1
def Lz(t u:TT):TT:=λσ H Q=>t σ H λc H1=>if c=true then Q true H1 else u σ H1 Q
def Ly(t:TT):TT:=λσ H Q=>t σ H λc H1=>Q (!c) H1
theorem pw_and1(b:PT X a tA):PW X (.BoolOp .And [a] pos) tA:=by
 intro d pins s σ H Q I h;refine isTrue_and (au (b pins s σ H Q I h) λc f e=>?_);cases c with
 |true=>exact isTrue_and_nil e
 |false=>exact e
theorem pw_or1(b:PT X a tA):PW X (.BoolOp .Or [a] pos) tA:=by
 intro d pins s σ H Q I h;refine isTrue_or (au (b pins s σ H Q I h) λc f e=>?_);cases c with
 |false=>exact isTrue_or_nil e
 |true=>exact e
theorem pw_and(f:PT X a tA)(g:PW X (.BoolOp .And (b::rest) pos) nV):PW X (.BoolOp .And (a::b::rest) pos) (Li tA nV):=by
 intro i pins s σ H Q I h;refine isTrue_and (au (f pins s σ H _ I h) λc j ⟨H1,d,e⟩=>?_);cases c with
 |true=>exact g i pins j σ H1 Q d e
 |false=>exact⟨H1,d,e⟩
theorem pw_or(f:PT X a tA)(g:PW X (.BoolOp .Or (b::rest) pos) nV):PW X (.BoolOp .Or (a::b::rest) pos) (Lz tA nV):=by
 intro i pins s σ H Q I h;refine isTrue_or (au (f pins s σ H _ I h) λc j ⟨H1,d,e⟩=>?_);cases c with
 |true=>exact⟨H1,d,e⟩
 |false=>exact g i pins j σ H1 Q d e
theorem Jr(b:PT X a tA):PT X (.UnaryOp .Not a pos) (Ly tA):=by
 intro pins s σ H Q I h;exact isTrue_not (b pins s σ H (λc H1=>Q (!c) H1) I h)
def Lj(ta tb:TE):TE:=λσ H Q=>ta σ H λx H1=>∃c,x=.bl c/\if c=true then tb σ H1 Q else Q (.bl false) H1
theorem IE{op}{t:TE}(h:PE X a t):PE X (.BoolOp op [a] pos) t:=λpins s σ H Q I b=>BoolOp_one (h pins s σ H Q I b)
theorem Ii(f:PE X a ta)(g:PE X (.BoolOp .And (b::rest) pos) tb):PE X (.BoolOp .And (a::b::rest) pos) (Lj ta tb):=by
 intro pins s σ H Q I h;refine BoolOp_and (au (f pins s σ H _ I h) λv i ⟨x,H1,e,j,d⟩=>?_);obtain⟨c,rfl,d⟩:=d;cases j;refine wpAny_truthy_bool ?_;cases c with
 |true=>exact g pins i σ H1 Q e d
 |false=>exact⟨.bl false,H1,e,rfl,d⟩
def Lr(t:TT)(ta tb:TE):TE:=λσ H Q=>t σ H λc H1=>if c=true then ta σ H1 Q else tb σ H1 Q
theorem Iz{c:Expr}(hc:PT X c tA)(i:PE X a ta)(j:PE X b tb):PE X (.IfExp c a b pos) (Lr tA ta tb):=by
 intro pins s σ H Q I h;refine wpAny_IfExp (au (hc pins s σ H _ I h) λd e ⟨H1,f,g⟩=>?_);cases d with
 |true=>exact i pins e σ H1 Q f g
 |false=>exact j pins e σ H1 Q f g
end
def aI(K:PySem.W.Frag)(H:Hp)(a:Addr)(xs:List V):Prop:=
 Rd H a (.lst xs)\/
  ∃(o:Obj) (its:Array Value) (n:Nat),K.lookup a=some o/\o.cls=.type "list"/\o.dict=none/\o.data=.seq its n/\its.size<=sizeLine/\Vals xs its.toList
def aN(K:PySem.W.Frag)(H:Hp)(a:Addr)(xs:List V):Prop:=
 Rd H a (.tup xs)\/
  ∃(o:Obj) (its:Array Value) (n:Nat),K.lookup a=some o/\o.cls=.type "tuple"/\o.data=.seq its n/\its.size<=sizeLine/\Vals xs its.toList
def Bf:Value->Option V
 |.none=>some .ak
 |.bool b=>some (.bl b)
 |.int i _=>some (.int i)
 |.str x _=>some (.str x)
 |.bytes b _=>some (.fK b)
 |.float b _=>some (.i9 b)
 |.ref a=>some (.ref a)
 |.type n=>some (.ty n)
 |_=>none
theorem RelV.abs{x:V}{u:Value}(r:RelV x u):Bf u=some x:=by
 cases x with
 |ak=>cases r;rfl
 |bl _=>cases r;rfl
 |int _=>obtain⟨t,rfl⟩:=r;rfl
 |str _=>obtain⟨t,rfl⟩:=r;rfl
 |fK _=>obtain⟨t,rfl⟩:=r;rfl
 |i9 _=>obtain⟨t,rfl⟩:=r;rfl
 |ref _=>cases r;rfl
 |ty _=>cases r;rfl
theorem RelV.inj{x y:V}{u:Value}(r:RelV x u)(q:RelV y u):x=y:=Option.some.inj (r.abs.symm.trans q.abs)
theorem Vals.inj:∀{xs ys:List V} {a:List Value},Vals xs a->Vals ys a->xs=ys
 |_,_,_,.nil,.nil=>rfl
 |_,_,_,.cons r t,.cons r' t'=>by rw[r.inj r',Vals.inj t t']
section
variable{X:Cx}{pins:aD}{σ:St}{H:Hp}{s:Shared}{a:Addr}{xs ys:List V}
theorem aI.of{K:PySem.W.Frag}(h:H a=some (.lst xs)):aI K H a xs:=.inl (.inl h)
theorem aN.of{K:PySem.W.Frag}(h:H a=some (.tup xs)):aN K H a xs:=.inl (.inl h)
theorem Inv.list(I:Inv X pins σ H s)(h:aI X.K H a xs):∃its:List Value,Vals xs its/\PlainL s.heap a its.toArray/\xs.length<=sizeLine:=by
 rcases h with h|⟨o,its,n,b,hc,hd,hs,c,r⟩
 .obtain⟨z,its,n,r,e⟩:=h.ok I.hok
  exact⟨its,r,⟨_,n,e,rfl,rfl,rfl⟩,z⟩
 .refine⟨its.toList,r,⟨o,n,I.cS a o b,hc,hd,by simpa using hs⟩,?_⟩
  have e:=r.length;simp only[length_toList] at e;omega
theorem Inv.tuple(I:Inv X pins σ H s)(h:aN X.K H a xs):∃its:List Value,Vals xs its/\IsTup s.heap a its.toArray/\xs.length<=sizeLine:=by
 rcases h with h|⟨o,its,n,b,hc,hs,c,r⟩
 .obtain⟨z,its,r,p⟩:=h.ok I.hok
  exact⟨its,r,p.is,z⟩
 .refine⟨its.toList,r,⟨o,I.cS a o b,hc,n,by simpa using hs⟩,?_⟩
  have e:=r.length;simp only[length_toList] at e;omega
theorem Inv.LR(I:Inv X pins σ H s)(h:H a=some (.tup xs)):∃(its:List Value) (n:Nat),Vals xs its/\s.heap.get? a=some {cls:=.type "tuple",data:=.seq its.toArray n}/\xs.length<=sizeLine:=by
 obtain⟨z,its,r,n,e⟩:=(show aY X.prog X.w H s.heap a (.tup xs) from I.hok a _ h);exact⟨its,n,r,e,z⟩
theorem Inv.wV(I:Inv X pins σ H s)(h:aI X.K H a xs)(h':aI X.K H a ys):xs=ys:=by
 obtain⟨its,r,⟨o,n,e,_,_,d⟩,_⟩:=I.list h;obtain⟨its',r',⟨o',n',b,_,_,d'⟩,_⟩:=I.list h';rw[e] at b;cases b;rw[d] at d';injection d' with c _;have:its=its':=by simpa using congrArg toList c
 subst this;exact r.inj r'
theorem Inv.LS(I:Inv X pins σ H s)(h:aN X.K H a xs)(h':aN X.K H a ys):xs=ys:=by
 obtain⟨its,r,⟨o,e,_,n,d⟩,_⟩:=I.tuple h;obtain⟨its',r',⟨o',b,_,n',d'⟩,_⟩:=I.tuple h';rw[e] at b;cases b;rw[d] at d';injection d' with c _;have:its=its':=by simpa using congrArg toList c
 subst this;exact r.inj r'
end
section
variable{X:Cx}{pins:aD}{σ:St}{H:Hp}{s:Shared}{E:aj}
end
section
variable{X:Cx}{st:Stmt}{rest:List Stmt}{t u:TS}{e:Expr}{te:TE}{pos:Pos}
def Lv:TS:=λD σ H=>D.nx σ H
def LF(t u:TS):TS:=λD σ H=>t {D with nx:=u D} σ H
theorem Jm:bU X [] Lv:=λ_ _ σ H _ I h=>wpAny_execs_nil ⟨σ,H,I,h⟩
theorem Jl(h1:PS X st t)(h2:bU X rest u):bU X (st::rest) (LF t u):=by
 intro pins s σ H D I h;refine wpAny_execs_cons (au (h1 pins s σ H {D with nx:=u D} I h) λf a q=>?_);cases f with
 |next=>
  obtain⟨σ',H',b,q⟩:=q;exact h2 pins a σ' H' D b q
 |ret v=>exact q
 |brk=>exact q
 |cont=>exact q
theorem Jo(h1:PS X st t):bU X [st] t:=by
 intro pins s σ H D I h;refine wpAny_execs_cons (au (h1 pins s σ H D I h) λf a q=>?_);cases f with
 |next=>exact wpAny_execs_nil q
 |ret v=>exact q
 |brk=>exact q
 |cont=>exact q
theorem Inv.quiet{pins:aD}{σ:St}{H:Hp}{s:Shared}(I:Inv X pins σ H s):interactive X.env=false:=by simp[interactive,I.ok.kind]
def Lp(te:TE):TS:=λD σ H=>te σ H λ_ H1=>D.nx σ H1
theorem Jd(a:PE X e te)(hs:swapsWith e none pos.line X.env=pure false:=by rfl):PS X (.Expr e pos) (Lp te):=by
 intro pins s σ H D I h;exact wpAny_Expr_any (au (a pins s σ H _ I h) λv d ⟨x,H1,b,f,c⟩=>⟨σ,H1,b,c⟩) I.quiet hs
def LD(te:TE):TS:=λD σ H=>te σ H D.rt
theorem Ji(a:PE X e te):PS X (.Return (some e) pos) (LD te):=by
 intro pins s σ H D I h;exact wpAny_Return_some (au (a pins s σ H _ I h) λv f ⟨x,H1,b,c,d⟩=>⟨x,σ,H1,b,c,d⟩)
def Ls(c:TT)(t u:TS):TS:=λD σ H=>c σ H λb H1=>if b=true then t D σ H1 else u D σ H1
theorem Jf{c:Expr}{a b:List Stmt}{tc:TT}(hc:PT X c tc)(i:bU X a t)(j:bU X b u):PS X (.If c a b pos) (Ls tc t u):=by
 intro pins s σ H D I h;refine wpAny_If (au (hc pins s σ H _ I h) λd e ⟨H1,f,g⟩=>?_);cases d with
 |true=>exact i pins e σ H1 D f g
 |false=>exact j pins e σ H1 D f g
end
abbrev TG:=V->St->Hp->(St->Hp->Prop)->Prop
abbrev fX:=List V->St->Hp->(St->Hp->Prop)->Prop
def PG(X:Cx)(target:Expr)(t:TG):Prop:=
 ∀(pins:aD) (s:Shared) (σ:St) (H:Hp) (v:V) (u:Value) (Q:St->Hp->Prop),Inv X pins σ H s->RelV v u->t v σ H Q->
  wpAny (model X.prog X.w) X.A (assign target X.env u) (λ_ s'=>∃σ' H',Inv X pins σ' H' s'/\Q σ' H') X.xe s
def fW(X:Cx)(ts:List Expr)(t:fX):Prop:=
 ∀(pins:aD) (s:Shared) (σ:St) (H:Hp) (vs:List V) (us:List Value) (Q:St->Hp->Prop),Inv X pins σ H s->Vals vs us->t vs σ H Q->
  wpAny (model X.prog X.w) X.A (assignInOrder ((assignEach ts X.env).map (·.2)) us) (λ_ s'=>∃σ' H',Inv X pins σ' H' s'/\Q σ' H') X.xe s
abbrev k_:=V->V->Hp->VK->Prop
def sD(X:Cx)(op:Operator)(t:k_):Prop:=
 ∀(pins:aD) (s:Shared) (σ:St) (H:Hp) (x y:V) (v u:Value) (Q:VK),Inv X pins σ H s->RelV x v->RelV y u->t x y H Q->
  wpAny (model X.prog X.w) X.A (inplaceOp op v u) (EP X pins σ Q) X.xe s
section
variable{X:Cx}{pos:Pos}
def ja(i:Nat):TG:=λv σ H Q=>Q (σ.set i (some v)) H
theorem yb{i:Nat}{x:Str}(a:X.N.Nodup)(hi:X.N[i]?=some x)(b:Loc X.env.scope x)(c:X.fn x=true\/X.env.scope.names.lookup x=some .local:=by first|exact .inl rfl|exact .inr rfl|assumption):PG X (.Name x pos) (ja i):=by
 intro pins s σ H v u Q I r h;exact wpAny_assign_Name (kJ I a hi b r (λs' d=>⟨_,H,d,h⟩) c)
def vD:fX:=λvs σ H Q=>vs=[]/\Q σ H
def vC(t:TG)(u:fX):fX:=λvs σ H Q=>∃v r,vs=v::r/\t v σ H λσ' H'=>u r σ' H' Q
theorem yd:fW X [] vD:=by
 intro pins s σ H vs a Q I r h;obtain⟨e,h⟩:=h;subst e;cases r;exact assignInOrder_nil ⟨σ,H,I,h⟩
theorem nE{e:Expr}{es:List Expr}{t:TG}{u:fX}(h1:PG X e t)(h2:fW X es u)
  (hs:(assignEach (e::es) X.env).map (·.2)=assign e X.env::(assignEach es X.env).map (·.2):=by rfl):fW X (e::es) (vC t u):=by
 intro pins s σ H vs i Q I r h;obtain⟨v,vr,b,h⟩:=h;subst b;cases r with
 |cons r c=>
  rw[hs];refine assignInOrder_cons (au (h1 pins s σ H _ _ _ I r h) λ_ d ⟨a,H1,f,g⟩=>?_);exact h2 pins d a H1 _ _ Q f c g
def vE(K:PySem.W.Frag)(n:Nat)(t:fX):TG:=λv σ H Q=>∃a xs,v=.ref a/\aN K H a xs/\xs.length=n/\t xs σ H Q
theorem yc{es:List Expr}{k:Nat}{t:fX}{n:Nat}(hc:X.calm=true)(h:fW X es t)
  (g:(assignEach es X.env).length=n:=by rfl)(c:(assignEach es X.env).findIdx? (·.1)=none:=by rfl):PG X (.Tuple es k pos) (vE X.K n t):=by
 intro pins s σ H v u Q I r d;obtain⟨a,xs,i,j,l,d⟩:=d;subst i;cases r;obtain⟨its,f,m,w⟩:=I.tuple j;refine assign_Tuple_tuple (I.ok.hd hc) m (by simp[g,<-l,f.length]) c λh' p=>?_;have q:Inv X pins σ H {s with heap:=h'}:=I.kept (t':=s.toks) λb o e=>p b o (ne_of_lt (lt_size e)) e;exact h pins _ σ H xs _ Q q (by simpa using f) d
def z5(te:TE)(g:TG):TS:=λD σ H=>te σ H λx H1=>g x σ H1 D.nx
theorem Jj{i:Nat}{x:Str}{e:Expr}{te:TE}{pos':Pos}(a:X.N.Nodup)(hi:X.N[i]?=some x)(b:Loc X.env.scope x)(c:PE X e te)(hs:swapsWith e (some (.Name x pos')) pos.line X.env=pure false:=by rfl)(d:X.fn x=true\/X.env.scope.names.lookup x=some .local:=by first|exact .inl rfl|exact .inr rfl|assumption):
  PS X (.Assign [.Name x pos'] e pos) (z5 te (ja i)):=by
 intro pins s σ H D I h;refine wpAny_Assign_Name (au (c pins s σ H _ I h) λv l ⟨y,H1,f,g,j⟩=>?_) hs;exact kJ f a hi b g (λm k=>⟨_,H1,k,j⟩) d
def LA(i j:Nat)(ta:TA):TS:=λD σ H=>ta σ H λvs H1=>∃v w,vs=[v,w]/\D.nx ((σ.set i (some v)).set j (some w)) H1
theorem Jg{i j:Nat}{x y:Str}{a b:Expr}{ta:TA}{px py pt:Pos}{kt k2 c}(hc:X.calm=true)(r:X.N.Nodup)(hi:X.N[i]? =some x)(B:X.N[j]? =some y)(k:i≠j)
  (t:X.env.scope.names.lookup x=some .local)(u:X.env.scope.names.lookup y=some .local)(C:PA X [a,b] ta)
  (E:swappedStores [.Tuple [.Name x px,.Name y py] kt pt] (.Tuple [a,b] k2 c) X.env=pure (some [x,y]))
  (hs:swapsWithSole [.Tuple [.Name x px,.Name y py] kt pt] (.Tuple [a,b] k2 c) pos.line X.env=pure false:=by rfl):
  PS X (.Assign [.Tuple [.Name x px,.Name y py] kt pt] (.Tuple [a,b] k2 c) pos) (LA i j ta):=by
 intro pins s σ H D I h
 rw[exec_Assign_arm]
 refine wpAny_bind (wpAny_standAt ?_)
 rw[hs]
 refine wpAny_bind (wpAny_pure ?_)
 rw[if_neg (by decide)]
 refine wpAny_bind (Tuple_ (au (C _ pins s σ H _ I h) λF d ⟨vs,H1,G,J,l⟩=> ?_))
 obtain⟨v,w,K,l⟩:=l
 subst K
 obtain⟨f,g,rfl,L,m⟩:∃f g,F=[f,g]/\RelV v f/\RelV w g:=by
  cases J with
  |cons p q=>
   cases q with
   |cons M O=>
    cases O
    exact⟨_,_,rfl,p,M⟩
 refine wpAny_newObj_type ?_ (by show 2<=sizeLine;decide)
 have P:Inv X pins σ H1 {d with heap:=d.heap.push {cls:= .type "tuple",data:= .seq [f,g].toArray}}:=G.kept (t':=d.toks) λb o e=>get?_push_of_some _ e
 rw[E]
 refine wpAny_bind (wpAny_pure ?_)
 show wpAny (model X.prog X.w) X.A (do rule "assign.swapped-stores";let items <-unpackItems (.ref d.heap.objs.size) 2 none;assignInOrder [λv=>bindName X.env y v,λv=>bindName X.env x v] items.reverse;pure Flow.next) _ _ _
 refine wpAny_bind (wpAny_rule (wpAny_bind (unpackItems_tuple (items:= #[f,g]) (I.ok.hd hc) (IsTup.new d.heap _) λh' n=> ?_)))
 have Q:=P.kept (h':=h') (t':=d.toks) λb o e=>n b o (ne_of_lt (lt_size e)) e
 show wpAny _ _ (assignInOrder [λv=>bindName X.env y v,λv=>bindName X.env x v] [g,f]>>=λ_=>pure Flow.next) _ _ _
 refine wpAny_bind (assignInOrder_cons (wpAny_bindName (kJ Q r B (.inl u) m (λS R=> ?_) (.inr u))))
 refine assignInOrder_cons (wpAny_bindName (kJ R r hi (.inl t) L (λT z=>assignInOrder_nil (wpAny_pure ?_)) (.inr t)))
 rw[List.set_comm _ _ (Ne.symm k)] at z
 exact⟨_,H1,z,l⟩
def Lk(i:Nat)(te:TE)(ti:k_):TS:=λD σ H=>∃x,σ[i]?=some (some x)/\te σ H λy H1=>ti x y H1 λz H2=>D.nx (σ.set i (some z)) H2
theorem Ja{i:Nat}{x:Str}{e:Expr}{te:TE}{op:Operator}{j:k_}{pos':Pos}(n:X.N.Nodup)(hi:X.N[i]?=some x)(f:Loc X.env.scope x)(o:PE X e te)(p:sD X op j)(q:X.fn x=true\/X.env.scope.names.lookup x=some .local:=by first|exact .inl rfl|exact .inr rfl|assumption):
  PS X (.AugAssign (.Name x pos') op e pos) (Lk i te j):=by
 intro pins s σ H D I h;obtain⟨v,t,h⟩:=h;obtain⟨m,B,C⟩:=I.loc;have g:iS X.env.scope x:=by rcases f with k|k;exact .inl k;exact .inr (.inl k)
 obtain⟨u,r,l⟩:=C i x v hi t g;refine wpAny_AugAssign_Name ?_;have go:wpAny (model X.prog X.w) X.A (eval e X.env) (λw b=>wpAny (model X.prog X.w) X.A (inplaceOp op u w) (λr d=>wpAny (model X.prog X.w) X.A (storeName X.env x r) (λ_=>SP X pins D .next) X.xe d) X.xe b) X.xe s:=by
  refine au (o pins s σ H _ I h) λw E ⟨y,H1,F,G,J⟩=>?_;refine au (p pins E σ H1 v y u w _ F r G J) λz Q ⟨R,H2,K,L,M⟩=>?_;exact kJ K n hi f L (λS O=>⟨_,H2,O,M⟩) q
 rcases l with⟨hk,P⟩|⟨hk,c,hc,a⟩
 .exact wpAny_loadName_local I.ok.kind hk B P go
 .rcases hk with hk|hk
  .exact wpAny_loadName_cell I.ok.kind hk hc a go
  .rcases f with k|k
   .have:X.env.scope.names.lookup x=some .free:=hk
    rw[k] at this;cases this
   .have:X.env.scope.names.lookup x=some .free:=hk
    rw[k] at this;cases this
def FO(f:Int->Int->Int):k_:=λx y H Q=>∃i j,x=.int i/\y=.int j/\Q (.int (f i j)) H
theorem FP:sD X .Add (FO λi j=>i+j):=by
 intro pins s σ H x y v u Q I a b h;obtain⟨i,j,c,d,q⟩:=h;subst c;subst d;obtain⟨t,rfl⟩:=a;obtain⟨t',rfl⟩:=b;exact iadd_int ⟨.int _,H,I.tok _,⟨_,rfl⟩,q⟩
end
section
variable{X:Cx}{pos:Pos}
def LM(c:TT)(tb:TS):TS:=λD σ H=>∃W:Nat->St->Hp->Prop,(∃m,W m σ H)/\∀m σ H,W m σ H->
 c σ H λb H1=>if b=true then ∃N:St->Hp->Prop,(∀σ' H',N σ' H'->∃m',m'<m/\W m' σ' H')/\tb {D with nx:=N,ct:=N,bk:=D.nx} σ H1 else D.nx σ H1
theorem Jk{c:Expr}{body:List Stmt}{tc:TT}{tb:TS}(p:PassesOwn (model X.prog X.w) X.A X.env X.xe)(hc:PT X c tc)(t:bU X body tb):PS X (.While c body [] pos) (LM tc tb):=by
 intro pins s σ H D I h;obtain⟨W,⟨m0,u⟩,turn⟩:=h;refine wpAny_While (codeAny_whileLoop (λn s'=>∃σ' H',Inv X pins σ' H' s'/\W n σ' H') ?_ m0 ⟨σ,H,I,u⟩);rintro n x ⟨d,H1,y,z⟩;refine wpAny_passesOwn p (au (hc pins x d H1 _ y (turn n d H1 z)) λb B ⟨H2,q,g⟩=>?_);cases b with
 |true=>
  obtain⟨N,r,g⟩:=g;rw[if_pos rfl];refine wpAny_passesOwn p (au (t pins B d H2 _ q g) λf C i=>?_);cases f with
  |next=>
   obtain⟨a,e,j,k⟩:=i;obtain⟨l,m,o⟩:=r a e k;exact⟨l,m,a,e,j,o⟩
  |cont=>
   obtain⟨a,e,j,k⟩:=i;obtain⟨l,m,o⟩:=r a e k;exact⟨l,m,a,e,j,o⟩
  |brk=>exact i
  |ret v=>exact i
 |false=>
  rw[if_neg Bool.false_ne_true];exact wpAny_execs_nil ⟨d,H2,q,g⟩
end
structure It where
 go:Nat->Hp->Prop
 oh:Nat->Hp->V->Hp->Prop
 stop:Nat->Hp->Prop
def dI(X:Cx)(pins:aD)(H:Hp)(b:Addr):Prop:=
 H b=none/\b≠X.env.locals/\b∉X.fs/\(b∈X.ex\/X.s₀.heap.objs.size<=b)/\(∀x c,X.env.cells.lookup x=some c->c≠b)/\∀p∈X.pn++pins,p.1≠b
theorem Inv.iC{X:Cx}{pins:aD}{σ:St}{H H':Hp}{s:Shared}{b:Addr}(I:Inv X pins σ H s)(a:s.heap.objs.size<=b)(d:H' b=none):dI X pins H' b:=by
 refine⟨d,ne_of_gt (lt_of_lt_of_le I.lt a),I.Ho a,.inr (le_trans I.sz a),λx c e z=>?_,λp f z=>?_⟩
 .obtain⟨v,q⟩:=I.cell x c e
  exact absurd (lt_of_lt_of_le q.lt (by rw[z];exact a)) (lt_irrefl _)
 .exact absurd (lt_of_lt_of_le (lt_size (I.pin p f).1) (by rw[z];exact a)) (lt_irrefl _)
structure Turn(P:Program)(w:World)(K:PySem.W.Frag)(tg:Expr)(J:It)(fp:List Addr)(it:Addr)(tn:Nat->Heap->Prop):Prop where
 mem:it∈fp
 obj:∀i h,tn i h->∀b∈fp,∃o,h.get? b=some o/\∀v,o.data≠ .cell v
 keep:∀i h h',tn i h->(∀b∈fp,∀o,h.get? b=some o->h'.get? b=some o)->tn i h'
 item:∀(X:Cx),X.prog=P->X.w=w->X.K=K->X.calm=true->∀(i:Nat) (pins:aD) (s:Shared) (σ:St) (H:Hp) (E:aj),Inv X pins σ H s->(∀b∈fp,dI X pins H b)->tn i s.heap->J.go i H->
  wpAny (model P w) X.A (pyNext (.ref it)) (λr s1=>∃u,r=some u/\
   wpAny (model P w) X.A (letOwnedTupleGo tg (.ref it) u) (λ_ s2=>∃x H',Inv X pins σ H' s2/\RelV x u/\J.oh i H x H'/\tn (i+1) s2.heap/\∀b∈fp,H' b=none) E s1) E s
 done:∀(X:Cx),X.prog=P->X.w=w->X.K=K->X.calm=true->∀(i:Nat) (pins:aD) (s:Shared) (σ:St) (H:Hp) (E:aj),Inv X pins σ H s->(∀b∈fp,dI X pins H b)->tn i s.heap->J.stop i H->
  wpAny (model P w) X.A (pyNext (.ref it)) (λr s1=>r=none/\Inv X pins σ H s1) E s
 self:∀(A:Around) (i:Nat) (s:Shared) (Q:aj) (E:aj),tn i s.heap->Q (.ref it) s->wpAny (model P w) A (pyIter (.ref it)) Q E s
abbrev TI:=St->Hp->(It->Hp->Prop)->Prop
def oG(X:Cx)(pins:aD)(σ:St)(tg:Expr)(R:It->Hp->Prop)(itv:Value)(s2:Shared):Prop:=
 ∃(it:Addr) (fp:List Addr) (tn:Nat->Heap->Prop) (J:It) (H':Hp),itv=.ref it/\Inv X pins σ H' s2/\Turn X.prog X.w X.K tg J fp it tn/\tn 0 s2.heap/\(∀b∈fp,dI X pins H' b)/\R J H'
def PI(X:Cx)(tg iter:Expr)(wi:TI):Prop:=
 ∀(pins:aD) (s:Shared) (σ:St) (H:Hp) (R:It->Hp->Prop),Inv X pins σ H s->wi σ H R->
  wpAny (model X.prog X.w) X.A (eval iter X.env) (λv s1=>wpAny (model X.prog X.w) X.A (pyIter v) (oG X pins σ tg R) X.xe s1) X.xe s
theorem lZ{M:Model}{A:Around}{E:aj}{s:Shared}{tg:Expr}{it:Addr}{u:Value}{o:Obj}{n:String}{vs:Array Value}{Q:Unit->Shared->Prop}(b:s.heap.get? it=some o)(hc:o.cls=.type n)(hd:o.data=.fields vs)
  (c:["enumerate","zip","dict_itemiterator","dict_reverseitemiterator","odict_iterator","itertools.zip_longest","itertools.pairwise"].contains n=false)(a:Q () s):wpAny M A (letOwnedTupleGo tg (.ref it) u) Q E s:=by
 unfold letOwnedTupleGo;cases tg<;>first
  |exact wpAny_pure a
  |(cases u<;>first
    |exact wpAny_pure a
    |(refine wpAny_bind (wpAny_load b ?_)
      rw[hc,hd];show wpAny M A (if (["enumerate","zip","dict_itemiterator","dict_reverseitemiterator","odict_iterator","itertools.zip_longest","itertools.pairwise"].contains n&&vs[0]? ==some (rawInt _))=true then _ else _) Q E s;rw[if_neg (by intro h;rw[c,Bool.false_and] at h;cases h)];exact wpAny_pure a))
def kW(K:PySem.W.Frag)(a:Addr):It:=
 ⟨λi H=>∃xs x,aI K H a xs/\xs[i]?=some x,λi H x H'=>H'=H/\∀xs,aI K H a xs->xs[i]?=some x,λi H=>∃xs,aI K H a xs/\xs.length<=i⟩
def oA(K:PySem.W.Frag)(a:Addr):It:=
 ⟨λi H=>∃xs x,aN K H a xs/\xs[i]?=some x,λi H x H'=>H'=H/\∀xs,aN K H a xs->xs[i]?=some x,λi H=>∃xs,aN K H a xs/\xs.length<=i⟩
def kX(lo:Int)(n:Nat):It:=⟨λi _=>i<n,λi H x H'=>H'=H/\x=.int (lo+i),λi _=>n<=i⟩
theorem LX{P:Program}{w:World}{K:PySem.W.Frag}{tg:Expr}(a it:Addr):Turn P w K tg (kW K a) [it] it (λi h=>h.IsListIter it a i) where
 mem:=by simp
 obj:=λi h st b f=>by
  have e:b=it:=by simpa using f
  subst e
  obtain⟨o,e,c,d⟩:=st
  exact⟨o,e,λv z=>by rw[d] at z;cases z⟩
 keep:=λi h h' st k=>st.at λo e=>k it (by simp) o e
 item:=by
  intro X m n q hc i pins s σ H E I j st r
  subst m n q
  obtain⟨xs,x,l,t⟩:=r
  obtain⟨its,y,p,C⟩:=I.list l
  obtain⟨u,D,F⟩:=y.get t
  obtain⟨f0,f1,f2,A,f4,B⟩:=j it (by simp)
  refine wpAny_pyNext_list_item st p.isList (x:=u) (by simpa using D) λh' g G=> ?_
  have J:Inv X pins σ H {s with heap:=h'}:=I.turned (t':=s.toks) (λb o f e=>(G.2 b f).trans e) f0 f1 A f4 B
  obtain⟨o,e,c,d⟩:=id g
  exact⟨u,rfl,lZ (s:={s with heap:=h'}) e c d (by decide) ⟨x,H,J,F,⟨rfl,λys L=>by rw[I.wV L l];exact t⟩,g,λb f=>(j b f).1⟩⟩
 done:=by
  intro X m n q hc i pins s σ H E I j st r
  subst m n q
  obtain⟨xs,l,t⟩:=r
  obtain⟨its,y,p,C⟩:=I.list l
  obtain⟨f0,f1,f2,A,f4,B⟩:=j it (by simp)
  have N:=y.length
  exact wpAny_pyNext_list_end (I.ok.hd hc) st p.isList (by simp;omega) λh' M=>⟨rfl,I.turned (t':=s.toks) (λb o f e=>M b o f e) f0 f1 A f4 B⟩
 self:=λ_ _ _ _ _ st h=>wpAny_pyIter_listiter st h
theorem L0{P:Program}{w:World}{K:PySem.W.Frag}{tg:Expr}(a it:Addr):Turn P w K tg (oA K a) [it] it (λi h=>h.IsTupleIter it a i) where
 mem:=by simp
 obj:=λi h st b f=>by
  have e:b=it:=by simpa using f
  subst e
  obtain⟨o,e,c,d⟩:=st
  exact⟨o,e,λv z=>by rw[d] at z;cases z⟩
 keep:=λi h h' st k=>st.at λo e=>k it (by simp) o e
 item:=by
  intro X m n q hc i pins s σ H E I j st r
  subst m n q
  obtain⟨xs,x,l,t⟩:=r
  obtain⟨its,y,p,C⟩:=I.tuple l
  obtain⟨u,D,F⟩:=y.get t
  obtain⟨f0,f1,f2,A,f4,B⟩:=j it (by simp)
  refine wpAny_pyNext_tuple_item st (show s.heap.IsTuple a its.toArray from p) (x:=u) (by simpa using D) λh' g G=> ?_
  have J:Inv X pins σ H {s with heap:=h'}:=I.turned (t':=s.toks) (λb o f e=>(G.2 b f).trans e) f0 f1 A f4 B
  obtain⟨o,e,c,d⟩:=id g
  exact⟨u,rfl,lZ (s:={s with heap:=h'}) e c d (by decide) ⟨x,H,J,F,⟨rfl,λys L=>by rw[I.LS L l];exact t⟩,g,λb f=>(j b f).1⟩⟩
 done:=by
  intro X m n q hc i pins s σ H E I j st r
  subst m n q
  obtain⟨xs,l,t⟩:=r
  obtain⟨its,y,p,C⟩:=I.tuple l
  obtain⟨f0,f1,f2,A,f4,B⟩:=j it (by simp)
  have N:=y.length
  exact wpAny_pyNext_tuple_end (I.ok.hd hc) st (show s.heap.IsTuple a its.toArray from p) (by simp;omega) λh' M=>⟨rfl,I.turned (t':=s.toks) (λb o f e=>M b o f e) f0 f1 A f4 B⟩
 self:=λ_ _ _ _ _ st h=>wpAny_pyIter_tupleiter st h
theorem LY{P:Program}{w:World}{K:PySem.W.Frag}{tg:Expr}(it:Addr)(lo:Int)(n:Nat):Turn P w K tg (kX lo n) [it] it (λi h=>IsRangeIter h it (lo+(i:Nat)*1) ((n:Int) - (i:Nat)) 1) where
 mem:=by simp
 obj:=λi h st b a=>by
  have e:b=it:=by simpa using a
  subst e
  exact⟨_,st,λv z=>by
   have q:Data.fields _=Data.cell v:=z
   cases q⟩
 keep:=λi h h' st k=>k it (by simp) _ st
 item:=by
  intro X f g j hc i pins s σ H E I d st l
  subst f g j
  obtain⟨f0,f1,f2,m,f4,p⟩:=d it (by simp)
  have W:=Walks.range (prog:=X.prog) (w:=X.w) (I.ok.hd hc) it lo 1 n
  refine W.item i s _ _ l st λv h' tk r c u=> ?_
  obtain⟨t,rfl⟩:=r
  have x:Inv X pins σ H {s with heap:=h',toks:=tk}:=I.turned (λb o a e=>u b o (by simpa using a) e) f0 f1 m f4 p
  refine⟨_,rfl,lZ (s:={s with heap:=h',toks:=tk}) (n:="range_iterator") c rfl rfl (by decide) ⟨.int (lo+i),H,x,⟨t,?_⟩,⟨rfl,rfl⟩,c,λb a=>(d b a).1⟩⟩
  rw[Int.mul_one]
 done:=by
  intro X f g j hc i pins s σ H E I d st l
  subst f g j
  obtain⟨f0,f1,f2,m,f4,p⟩:=d it (by simp)
  exact wpAny_pyNext_range_end (I.ok.hd hc) st (by have:n<=i:=l;omega) λh' y=>⟨rfl,I.turned (t':=s.toks) (λb o a e=>y b o a e) f0 f1 m f4 p⟩
 self:=λ_ _ _ _ _ st h=>wpAny_pyIter_rangeiter st h
section
variable{X:Cx}{tg:Expr}
theorem JB{pins:aD}{σ:St}{H:Hp}{s:Shared}{R:It->Hp->Prop}{E:aj}{lo hi:Int}{t u v:Tok}{tk:Nat}(I:Inv X pins σ H s)(h1: -(2 ^ 62)<=lo)(h2:lo<2 ^ 62)(c: -(2 ^ 62)<=hi)(d:hi<2 ^ 62)
  (q:R (kX lo (hi - lo).toNat) H):wpAny (model X.prog X.w) X.A (pyIter (.ref s.heap.objs.size)) (oG X pins σ tg R) E {s with heap:=s.heap.push {cls:=.type "range",data:=.fields #[.int lo t,.int hi u,.int 1 v]},toks:=tk}:=by
 refine wpAny_pyIter_range (IsRange.new ..) (small_one h1 h2 c d) ?_;have a:Inv X pins σ H {s with heap:=s.heap.push {cls:=.type "range",data:=.fields #[.int lo t,.int hi u,.int 1 v]},toks:=tk}:=I.kept λb o e=>get?_push_of_some _ e;refine⟨(s.heap.push {cls:=.type "range",data:=.fields #[.int lo t,.int hi u,.int 1 v]}).objs.size,[(s.heap.push {cls:=.type "range",data:=.fields #[.int lo t,.int hi u,.int 1 v]}).objs.size],_,_,H,rfl,
  a.kept (t':=tk) λb o e=>get?_push_of_some _ e,LY _ lo (hi - lo).toNat,?_,λb f=>?_,q⟩
 .have g:lo+((0:Nat):Int)*1=lo:=by simp
  have h:(((hi - lo).toNat:Nat):Int) - ((0:Nat):Int)=Builtin.Range.rangeSize lo hi 1:=by rw[rangeSize_one];split<;>omega
  show IsRangeIter _ _ (lo+((0:Nat):Int)*1) ((((hi - lo).toNat:Nat):Int) - ((0:Nat):Int)) 1;rw[g,h];exact get?_push_size _ rfl
 .have e:b=(s.heap.push {cls:=.type "range",data:=.fields #[.int lo t,.int hi u,.int 1 v]}).objs.size:=by simpa using f
  subst e;exact a.iC (le_refl _) (a.hok.fresh (le_refl _))
def Fy(ta:TA):TI:=λσ H R=>ta σ H λvs H1=>∃j:Int,vs=[.int j]/\-(2 ^ 62)<=j/\j<2 ^ 62/\R (kX 0 j.toNat) H1
theorem IS{a:Expr}{ta:TA}{p pos:Pos}(c:Gl X "range")(d:X.mg "range"=none)(f:PA X [a] ta)(hs:starEach [a] X.env=[(false,eval a X.env)]:=by rfl):PI X tg (.Call (.Name "range" p) [a] [] pos) (Fy ta):=by
 intro pins s σ H R I h;refine Call_ (gG I c d boot_range (PyProof.Rows.callWith_type1 (au (f pos pins s σ H _ I h) λm n ⟨vs,H1,g,i,b⟩=>?_) hs rfl));obtain⟨j,e,b,k,q⟩:=b;subst e;cases i with
 |cons r l=>
  cases l;obtain⟨t,rfl⟩:=r;exact call_range_1 (JB g (by omega) (by omega) b k (by simpa using q))
def Lq(wi:TI)(g:TG)(tb:TS):TS:=λD σ H=>wi σ H λJ H1=>∃W:Nat->Nat->St->Hp->Prop,(∃m,W 0 m σ H1)/\∀i m σ H,W i m σ H->
 (J.stop i H/\D.nx σ H)\/(J.go i H/\∃N:St->Hp->Prop,(∀σ' H',N σ' H'->∃m',m'<m/\W (i+1) m' σ' H')/\∀x H',J.oh i H x H'->g x σ H' λσ2 H2=>tb {D with nx:=N,ct:=N,bk:=D.nx} σ2 H2)
def kj(fp:List Addr)(h:Heap):aD:=fp.filterMap λb=>(h.get? b).map λo=>(b,o)
theorem mP{fp:List Addr}{h:Heap}{b:Addr}{o:Obj}(a:b∈fp)(e:h.get? b=some o):(b,o)∈kj fp h:=mem_filterMap.mpr ⟨b,a,by rw[e];rfl⟩
theorem HC{fp:List Addr}{h:Heap}{p:Addr×Obj}(a:p∈kj fp h):p.1∈fp/\h.get? p.1=some p.2:=by
 obtain⟨b,c,e⟩:=mem_filterMap.mp a;cases q:h.get? b with
 |none=>rw[q] at e;cases e
 |some o=>
  rw[q] at e;have d:(b,o)=p:=Option.some.inj e;subst d;exact⟨c,q⟩
theorem Inv.pinned{pins:aD}{σ:St}{H:Hp}{s:Shared}{fp:List Addr}(I:Inv X pins σ H s)(f:∀b∈fp,dI X pins H b)(g:∀b∈fp,∃o,s.heap.get? b=some o/\∀v,o.data≠ .cell v):Inv X (pins++kj fp s.heap) σ H s:=
 I.yi λp h=>(mem_append.mp h).elim (λz=>I.pin p (mem_append_right _ z)) λz=>by
  obtain⟨a,e⟩:=HC z;obtain⟨f0,f1,f2,_⟩:=f p.1 a;obtain⟨o,c,d⟩:=g p.1 a;rw[e] at c;cases c;exact⟨e,f0,f1,f2,d⟩
theorem Inv.kQ{pins pl:aD}{σ:St}{H:Hp}{s:Shared}(I:Inv X (pins++pl) σ H s):Inv X pins σ H s:=I.yi λp a=>I.pin p (mem_append_right _ (mem_append_left _ a))
theorem Je{iter:Expr}{body:List Stmt}{wi:TI}{g:TG}{tb:TS}{pos:Pos}(y:PassesOwn (model X.prog X.w) X.A X.env X.xe)(hc:X.calm=true)(hi:PI X tg iter wi)(U:PG X tg g)(c:bU X body tb)
  (hs:∀x,foldedSetIterable iter X.env x=pure x:=by intro _;rfl):PS X (.For tg iter body [] pos) (Lq wi g tb):=by
 intro pins s σ H D I h;refine wpAny_For (au (hi pins s σ H _ I h) λv s1 h1=>au h1 λV s2 h2=>?_) hs;obtain⟨it,fp,P,J,H2,e,Y,T,F,f2,W,⟨m0,Z⟩,turn⟩:=h2;subst e;have j:∀{H':Hp},(∀b∈fp,H' b=none)->∀b∈fp,dI X pins H' b:=λhn b c=>⟨hn b c,(f2 b c).2⟩;refine codeAny_forLoop_any (λn s'=>∃i σ' H',Inv X pins σ' H' s'/\P i s'.heap/\(∀b∈fp,H' b=none)/\W i n σ' H') ?_ m0 ⟨0,σ,H2,Y,F,λb c=>(f2 b c).1,Z⟩;rintro n Q ⟨i,k,E,R,z,B,w3⟩;rcases turn i n k E w3 with⟨stop,qn⟩|⟨go,N,hN,step⟩
 .refine wpAny_passesOwn y (au (T.done X rfl rfl rfl hc i pins Q k E X.xe R (j B) z stop) λr s4 ⟨G,I4⟩=>?_)
  subst G;exact wpAny_execs_nil ⟨k,E,I4,qn⟩
 .refine wpAny_passesOwn y (au (T.item X rfl rfl rfl hc i pins Q k E X.xe R (j B) z go) λr s4 ⟨u,G,h4⟩=>?_)
  subst G;refine wpAny_passesOwn y (au h4 λ_ s5 ⟨x,S,I5,r5,y5,t,K⟩=>?_);have L:=I5.pinned (j K) (T.obj _ _ t);refine wpAny_passesOwn y (au (U _ s5 k S x u _ L r5 (step x S y5)) λ_ s6 ⟨M,H6,I6,q6⟩=>?_);refine wpAny_passesOwn y (au (c _ s6 M H6 _ I6 q6) λf O q=>?_);have again:∀{a:St} {l:Hp},Inv X (pins++kj fp s5.heap) a l O->N a l->∃m,m<n/\∃i σ' H',Inv X pins σ' H' O/\P i O.heap/\(∀b∈fp,H' b=none)/\W i m σ' H':=λ {a l} p C=>by
   obtain⟨m',hm,w7⟩:=hN a l C;refine⟨m',hm,i+1,a,l,p.kQ,T.keep _ _ _ t λb c o e=>(p.pin (b,o) (mem_append_right _ (mem_append_right _ (mP c e)))).1,λb c=>?_,w7⟩;obtain⟨o,e,d⟩:=T.obj _ _ t b c;exact(p.pin (b,o) (mem_append_right _ (mem_append_right _ (mP c e)))).2.1
  cases f with
  |next=>obtain⟨a,l,p,C⟩:=q;exact again p C
  |cont=>obtain⟨a,l,p,C⟩:=q;exact again p C
  |brk=>obtain⟨a,l,p,q⟩:=q;exact⟨a,l,p.kQ,q⟩
  |ret v=>obtain⟨x7,a,l,p,r7,q⟩:=q;exact⟨x7,a,l,p.kQ,r7,q⟩
end
abbrev R2:=V->V->Hp->VK->Prop
def aM(X:Cx)(f:Value->Value->Sem Value)(r:R2):Prop:=
 ∀(pins:aD) (s:Shared) (σ:St) (H:Hp) (x y:V) (v u:Value) (Q:VK),Inv X pins σ H s->RelV x v->RelV y u->r x y H Q->
  wpAny (model X.prog X.w) X.A (f v u) (EP X pins σ Q) X.xe s
def ck(X:Cx)(f:Value)(r:List V->Hp->VK->Prop):Prop:=
 ∀(pins:aD) (s:Shared) (σ:St) (H:Hp) (xs:List V) (us:List Value) (Q:VK),Inv X pins σ H s->Vals xs us->r xs H Q->
  wpAny (model X.prog X.w) X.A (call f us) (EP X pins σ Q) X.xe s
def kK(r:R2)(ta tb:TE):TE:=λσ H Q=>ta σ H λx H1=>tb σ H1 λy H2=>r x y H2 Q
def rI(C:Int->Int->Prop)(g:Int->Int->V):R2:=λx y H Q=>∃i j,x=.int i/\y=.int j/\C i j/\Q (g i j) H
def eF(g:Int->Int->V):R2:=λx y H Q=>∃i j,x=.int i/\y=.int j/\Q (g i j) H
section
variable{X:Cx}{a b c:Expr}{ta tb tc:TE}{pos:Pos}
theorem o7(g:PE X a ta)(i:PE X b tb){pins:aD}{s:Shared}{σ:St}{H:Hp}{R:V->V->Hp->Prop}(I:Inv X pins σ H s)
  (h:ta σ H λx H1=>tb σ H1 λy H2=>R x y H2){Q:aj}{f:Value->Value->Sem Value}
  (j:∀v u e x y H2,Inv X pins σ H2 e->RelV x v->RelV y u->R x y H2->wpAny (model X.prog X.w) X.A (f v u) Q X.xe e):
  wpAny (model X.prog X.w) X.A (eval a X.env) (λv c=>wpAny (model X.prog X.w) X.A (eval b X.env) (λu d=>wpAny (model X.prog X.w) X.A (f v u) Q X.xe d) X.xe c) X.xe s:=by
 refine au (g pins s σ H _ I h) λv k ⟨x,H1,l,m,n⟩=> ?_
 refine au (i pins k σ H1 _ l n) λu e ⟨y,H2,o,p,q⟩=> ?_
 exact j v u e x y H2 o m p q
theorem IF{op:Operator}{r:R2}(c:aM X (binaryOp op) r)(d:PE X a ta)(e:PE X b tb):PE X (.BinOp a op b pos) (kK r ta tb):=by
 intro pins s σ H Q I h;exact wpAny_BinOp (o7 d e I h λv u f x y H2 g i j q=>c pins f σ H2 x y v u Q g i j q)
theorem mV{f:Value->Value->Sem Value}{C:Int->Int->Prop}{g:Int->Int->Int}
  (rule:∀(i j:Int) (t u:Tok) (s:Shared) (Q:aj) (E:aj),C i j->Q (.int (g i j) s.toks) {s with toks:=s.toks+1}->wpAny (model X.prog X.w) X.A (f (.int i t) (.int j u)) Q E s):
  aM X f (rI C λi j=>.int (g i j)):=by
 intro pins s σ H x y v u Q I a b h;obtain⟨i,j,rfl,rfl,hc,q⟩:=h;obtain⟨t,rfl⟩:=a;obtain⟨t',rfl⟩:=b;exact rule i j t t' s _ _ hc ⟨.int (g i j),H,I.tok _,⟨_,rfl⟩,q⟩
theorem xT{f:Value->Value->Sem Value}{g:Int->Int->Int}
  (rule:∀(i j:Int) (t u:Tok) (s:Shared) (Q:aj) (E:aj),Q (.int (g i j) s.toks) {s with toks:=s.toks+1}->wpAny (model X.prog X.w) X.A (f (.int i t) (.int j u)) Q E s):
  aM X f (eF λi j=>.int (g i j)):=by
 intro pins s σ H x y v u Q I a b h;obtain⟨i,j,rfl,rfl,q⟩:=h;obtain⟨t,rfl⟩:=a;obtain⟨t',rfl⟩:=b;exact rule i j t t' s _ _ ⟨.int (g i j),H,I.tok _,⟨_,rfl⟩,q⟩
theorem mU{f:Value->Value->Sem Value}{g:Int->Int->Bool}
  (rule:∀(i j:Int) (t u:Tok) (s:Shared) (Q:aj) (E:aj),Q (.bool (g i j)) s->wpAny (model X.prog X.w) X.A (f (.int i t) (.int j u)) Q E s):
  aM X f (eF λi j=>.bl (g i j)):=by
 intro pins s σ H x y v u Q I a b h;obtain⟨i,j,rfl,rfl,q⟩:=h;obtain⟨t,rfl⟩:=a;obtain⟨t',rfl⟩:=b;exact rule i j t t' s _ _ ⟨.bl (g i j),H,I,rfl,q⟩
def sq(i j:Int):Prop:=0<=j/\j<=1000000/\i.natAbs<2 ^ 64
def ju(i j:Int):Prop:=(-(2 ^ 64)<i/\i<2 ^ 64)\/(-(2 ^ 64)<j/\j<2 ^ 64)
theorem ju.ok{i j:Int}(h:ju i j):IntMulOk i j:=by
 rcases h with⟨h1,h2⟩|⟨h1,h2⟩
 .exact .of_left (intBits_le_64 h1 h2)
 .exact .of_right (intBits_le_64 h1 h2)
theorem HF:aM X (binaryOp .Add) (eF λi j=>.int (i+j)):=xT λ_ _ _ _ _ _ _ q=>add_int q
theorem Ic:aM X (binaryOp .Sub) (eF λi j=>.int (i - j)):=xT λ_ _ _ _ _ _ _ q=>sub_int q
theorem HZ:aM X (binaryOp .Mult) (rI ju λi j=>.int (i*j)):=mV λ_ _ _ _ _ _ _ hc q=>mul_int q hc.ok
theorem HY:aM X (binaryOp .Mod) (rI (λ_ j=>0<j) λi j=>.int (i%j)):=mV λi j _ _ _ _ _ hc q=>by
 have h1:(0:Int)<j:=hc;exact mod_int' (by omega) (by rw[Int.fmod_eq_emod_of_nonneg i (by omega)];exact q)
theorem Ib:aM X (binaryOp .Pow) (rI sq λi j=>.int (i ^ j.toNat)):=mV λ_ _ _ _ _ _ _ hc q=>pow_int_small hc.1 hc.2.1 hc.2.2 q
end
def zJ:V->V->Bool
 |.ak,.ak=>true|.ak,.int _=>true|.int _,.ak=>true|.ak,.bl _=>true|.bl _,.ak=>true|.ak,.str _=>true|.str _,.ak=>true
 |.int _,.int _=>true|.bl _,.bl _=>true|.str _,.str _=>true|.fK _,.fK _=>true
 |.int _,.str _=>true|.str _,.int _=>true|.bl _,.str _=>true|.str _,.bl _=>true
 |_,_=>false
def q_:R2:=λx y H Q=>zJ x y=true/\Q (.bl (decide (x=y))) H
def rm:R2:=λx y H Q=>zJ x y=true/\Q (.bl (!decide (x=y))) H
theorem uP{i j:Int}:decide (V.int i=V.int j)=(i==j):=by
 rw[Bool.eq_iff_iff];simp
theorem uN{i j:Bool}:decide (V.bl i=V.bl j)=(i==j):=by
 rw[Bool.eq_iff_iff];simp
theorem uQ{i j:Str}:decide (V.str i=V.str j)=(i==j):=by
 rw[Bool.eq_iff_iff];simp
theorem uO{i j:Array UInt8}:decide (V.fK i=V.fK j)=(i.toList==j.toList):=by
 rw[Bool.eq_iff_iff];cases i;cases j;simp
section
variable{X:Cx}{a b c:Expr}{ta tb tc:TE}{pos:Pos}
theorem bw{pins:aD}{σ:St}{H:Hp}{s:Shared}{Q:VK}{k a:Bool}(I:Inv X pins σ H s)(q:Q (.bl k) H)(e:k=a):EP X pins σ Q (.bool a) s:=by
 subst e;exact⟨.bl k,H,I,rfl,q⟩
theorem HM:aM X (compareOp .Eq) q_:=by
 intro pins s σ H x y v u Q I b a h;obtain⟨hs,q⟩:=h;cases x with
 |ak=>
  cases b;cases y with
  |ak=>cases a;exact PySem.EqNone.eq_none_none (bw I q (by simp))
  |bl j=>cases a;exact PySem.EqNone.eq_none_bool (bw I q (by simp))
  |int j=>obtain⟨t',rfl⟩:=a;exact PySem.EqNone.eq_none_int (bw I q (by simp))
  |str j=>obtain⟨t',rfl⟩:=a;exact PySem.EqNone.eq_none_str (bw I q (by simp))
  |_=>exact absurd (show false=true from hs) Bool.false_ne_true
 |bl i=>
  cases b;cases y with
  |ak=>cases a;exact PySem.EqNone.eq_bool_none (bw I q (by simp))
  |bl j=>cases a;exact eq_bool (bw I q uN)
  |str j=>obtain⟨t',rfl⟩:=a;exact PySem.EqMixed.eq_bool_str (bw I q (by simp))
  |_=>exact absurd (show false=true from hs) Bool.false_ne_true
 |int i=>
  obtain⟨t,rfl⟩:=b;cases y with
  |ak=>cases a;exact PySem.EqNone.eq_int_none (bw I q (by simp))
  |int j=>obtain⟨t',rfl⟩:=a;exact eq_int (bw I q uP)
  |str j=>obtain⟨t',rfl⟩:=a;exact PySem.EqMixed.eq_int_str (bw I q (by simp))
  |_=>exact absurd (show false=true from hs) Bool.false_ne_true
 |str i=>
  obtain⟨t,rfl⟩:=b;cases y with
  |ak=>cases a;exact PySem.EqNone.eq_str_none (bw I q (by simp))
  |bl j=>cases a;exact PySem.EqMixed.eq_str_bool (bw I q (by simp))
  |int j=>obtain⟨t',rfl⟩:=a;exact PySem.EqMixed.eq_str_int (bw I q (by simp))
  |str j=>obtain⟨t',rfl⟩:=a;exact eq_str (bw I q uQ)
  |_=>exact absurd (show false=true from hs) Bool.false_ne_true
 |fK i=>
  obtain⟨t,rfl⟩:=b;cases y with
  |fK j=>obtain⟨t',rfl⟩:=a;exact PySem.W.eq_bytes (bw I q uO)
  |_=>exact absurd (show false=true from hs) Bool.false_ne_true
 |_=>cases y<;>exact absurd (show false=true from hs) Bool.false_ne_true
theorem H8:aM X (compareOp .NotEq) rm:=by
 intro pins s σ H x y v u Q I b a h;obtain⟨hs,q⟩:=h;cases x with
 |ak=>
  cases b;cases y with
  |ak=>cases a;exact PySem.EqNone.ne_none_none (bw I q (by simp))
  |bl j=>cases a;exact PySem.EqNone.ne_none_bool (bw I q (by simp))
  |int j=>obtain⟨t',rfl⟩:=a;exact PySem.EqNone.ne_none_int (bw I q (by simp))
  |str j=>obtain⟨t',rfl⟩:=a;exact PySem.EqNone.ne_none_str (bw I q (by simp))
  |_=>exact absurd (show false=true from hs) Bool.false_ne_true
 |bl i=>
  cases b;cases y with
  |ak=>cases a;exact PySem.EqNone.ne_bool_none (bw I q (by simp))
  |bl j=>cases a;exact ne_bool (bw I q (congrArg not uN))
  |str j=>obtain⟨t',rfl⟩:=a;exact PySem.EqMixed.ne_bool_str (bw I q (by simp))
  |_=>exact absurd (show false=true from hs) Bool.false_ne_true
 |int i=>
  obtain⟨t,rfl⟩:=b;cases y with
  |ak=>cases a;exact PySem.EqNone.ne_int_none (bw I q (by simp))
  |int j=>obtain⟨t',rfl⟩:=a;exact ne_int (bw I q (congrArg not uP))
  |str j=>obtain⟨t',rfl⟩:=a;exact PySem.EqMixed.ne_int_str (bw I q (by simp))
  |_=>exact absurd (show false=true from hs) Bool.false_ne_true
 |str i=>
  obtain⟨t,rfl⟩:=b;cases y with
  |ak=>cases a;exact PySem.EqNone.ne_str_none (bw I q (by simp))
  |bl j=>cases a;exact PySem.EqMixed.ne_str_bool (bw I q (by simp))
  |int j=>obtain⟨t',rfl⟩:=a;exact PySem.EqMixed.ne_str_int (bw I q (by simp))
  |str j=>obtain⟨t',rfl⟩:=a;exact ne_str (bw I q (congrArg not uQ))
  |_=>exact absurd (show false=true from hs) Bool.false_ne_true
 |fK i=>
  obtain⟨t,rfl⟩:=b;cases y with
  |fK j=>obtain⟨t',rfl⟩:=a;exact PySem.W.ne_bytes (bw I q (congrArg not uO))
  |_=>exact absurd (show false=true from hs) Bool.false_ne_true
 |_=>cases y<;>exact absurd (show false=true from hs) Bool.false_ne_true
theorem HW:aM X (compareOp .Lt) (eF λi j=>.bl (decide (i<j))):=mU λ_ _ _ _ _ _ _ q=>lt_int q
theorem HU:aM X (compareOp .LtE) (eF λi j=>.bl (decide (i<=j))):=mU λ_ _ _ _ _ _ _ q=>le_int q
theorem HR:aM X (compareOp .Gt) (eF λi j=>.bl (decide (j<i))):=mU λ_ _ _ _ _ _ _ q=>gt_int q
theorem HQ:aM X (compareOp .GtE) (eF λi j=>.bl (decide (j<=i))):=mU λ_ _ _ _ _ _ _ q=>ge_int q
theorem HX:aM X (compareOp .Lt) (λx y H Q=>∃i j,x=.str i/\y=.str j/\Q (.bl (decide (i.cps.toList<j.cps.toList))) H):=by
 intro pins s σ H x y v u Q I a b h;obtain⟨i,j,rfl,rfl,q⟩:=h;obtain⟨t,rfl⟩:=a;obtain⟨t',rfl⟩:=b;exact lt_str (bw I q rfl)
theorem Ia:aM X (compareOp .IsNot) (λx y H Q=>y=.ak/\Q (.bl (!decide (x=.ak))) H):=by
 intro pins s σ H x y v u Q I a b h;obtain⟨rfl,q⟩:=h;cases b;refine isnot_none_gen (bw I q ?_);cases x<;>first
  |(cases a;rfl)
  |(obtain⟨t,rfl⟩:=a;rfl)
theorem aM.or{f:Value->Value->Sem Value}{r r':R2}(h:aM X f r)(h':aM X f r'):aM X f (λx y H Q=>r x y H Q\/r' x y H Q):=by
 intro pins s σ H x y v u Q I a b q;rcases q with q|q
 .exact h pins s σ H x y v u Q I a b q
 .exact h' pins s σ H x y v u Q I a b q
theorem iI(b:Expr){op:CmpOp}(h:op≠ .In:=by decide)(h2:op≠ .NotIn:=by decide):behindInMarks op b=false:=by
 have a:(op==CmpOp.In)=false:=by cases op<;>first|rfl|exact absurd rfl h
 have c:(op==CmpOp.NotIn)=false:=by cases op<;>first|rfl|exact absurd rfl h2
 cases b<;>simp[behindInMarks,a,c]
theorem Ir{op:CmpOp}{r:R2}(c:aM X (compareOp op) r)(d:PE X a ta)(e:PE X b tb)(f:behindInMarks op b=false):PE X (.Compare a [op] [b] pos) (kK r ta tb):=by
 intro pins s σ H Q I h;exact wpAny_Compare1 (o7 d e I h λv u g x y H2 i j k q=>c pins g σ H2 x y v u Q i j k q) f
def rP(t:TE):TT:=λσ H Q=>t σ H λx H'=>∃k,x=.bl k/\Q k H'
theorem Jq{op:CmpOp}{r:R2}(d:aM X (compareOp op) r)(f:PE X a ta)(g:PE X b tb)(i:behindInMarks op b=false):PT X (.Compare a [op] [b] pos) (rP (kK r ta tb)):=by
 intro pins s σ H Q I h;refine wpAny_isTrue_Compare1 (au (f pins s σ H _ I h) λv j ⟨x,H1,l,m,n⟩=>au (g pins j σ H1 _ l n) λu o ⟨y,H2,p,q,t⟩=>
  au (d pins o σ H2 x y v u _ p m q t) λc D ⟨z,w,A,B,k,e,C⟩=>?_) i
 subst e;cases B;exact wpAny_truthy_bool ⟨w,A,C⟩
def rM(r r':R2)(ta tb tc:TE):TE:=λσ H Q=>ta σ H λx H1=>tb σ H1 λy H2=>r x y H2 λz H3=>∃k,z=.bl k/\
 (if k=true then tc σ H3 λw' H4=>r' y w' H4 Q else Q (.bl false) H3)
theorem Iq{op f:CmpOp}{r r':R2}(n:aM X (compareOp op) r)(g:aM X (compareOp f) r')(o:PE X a ta)(p:PE X b tb)(hc:PE X c tc)
  (q:lastMarks [op,f] [b,c]=false:=by with_unfolding_all rfl):PE X (.Compare a [op,f] [b,c] pos) (rM r r' ta tb tc):=by
 intro pins s σ H Q I h;refine Compare_chain (au (o pins s σ H _ I h) λv t ⟨x,H1,w,A,B⟩=>chain_link (au (p pins t σ H1 _ w B) λu C ⟨y,H2,D,i,E⟩=>
  au (n pins C σ H2 x y v u _ D A i E) λd F ⟨z,j,l,G,k,e,m⟩=>?_)) q
 subst e;cases G;refine wpAny_truthy_bool ?_;cases k with
 |false=>exact ite_ff ⟨.bl false,j,l,rfl,m⟩
 |true=>exact ite_tt (chain_last (au (hc pins F σ j _ l m) λJ s4 ⟨K,L,M,N,O⟩=>g pins s4 σ L y K u J Q M i N O))
theorem Jp{op f:CmpOp}{r r':R2}(n:aM X (compareOp op) r)(g:aM X (compareOp f) r')(o:PE X a ta)(p:PE X b tb)(hc:PE X c tc)
  (q:lastMarks [op,f] [b,c]=false:=by with_unfolding_all rfl):PT X (.Compare a [op,f] [b,c] pos) (rP (rM r r' ta tb tc)):=by
 intro pins s σ H Q I h;refine isTrue_chain (au (o pins s σ H _ I h) λv t ⟨x,H1,w,A,B⟩=>test_link (au (p pins t σ H1 _ w B) λu C ⟨y,H2,D,i,E⟩=>
  au (n pins C σ H2 x y v u _ D A i E) λd F ⟨z,j,l,G,k,e,m⟩=>?_)) q
 subst e;cases G;refine wpAny_truthy_bool ?_;cases k with
 |false=>
  obtain⟨Y,J,K⟩:=m;cases J;exact ite_ff ⟨j,l,K⟩
 |true=>
  refine ite_tt (test_last (au (hc pins F σ j _ l m) λL s4 ⟨M,N,O,P,R⟩=>au (g pins s4 σ N y M u L _ O i P R) λd' s5 ⟨Z,S,T,U,k2,V,W⟩=>?_));subst V;cases U;exact wpAny_truthy_bool ⟨S,T,W⟩
theorem MI{κ:Type}{kvs:List (κ×V)}{vs:List (κ×Value)}(r:KV kvs vs):(!vs.isEmpty)= !kvs.isEmpty:=by
 cases r<;>rfl
theorem MJ{xs:List V}{its:List Value}(r:Vals xs its):(!its.toArray.isEmpty)= !xs.isEmpty:=by
 cases r<;>simp
theorem jY:(sizeLine:Nat)<2 ^ 63:=by rw[sizeLine_eq];decide
theorem HG:aM X (binaryOp .Add) (λx y H Q=>∃i j,x=.str i/\y=.str j/\i.length+j.length<=sizeLine/\Q (.str (i++j)) H):=by
 intro pins s σ H x y v u Q I a b h;obtain⟨i,j,rfl,rfl,c,q⟩:=h;obtain⟨t,rfl⟩:=a;obtain⟨t',rfl⟩:=b;exact add_str (λt' tk=>⟨.str (i++j),H,I.tok _,⟨_,rfl⟩,q⟩) c
theorem vals1{x:V}{a:List Value}(r:Vals [x] a):∃u,a=[u]/\RelV x u:=by
 cases r with
 |cons b c=>cases c;exact⟨_,rfl,b⟩
theorem vals2{x y:V}{a:List Value}(r:Vals [x,y] a):∃u b,a=[u,b]/\RelV x u/\RelV y b:=by
 cases r with
 |cons c d=>
  cases d with
  |cons e f=>cases f;exact⟨_,_,rfl,c,e⟩
theorem BJ(hc:X.calm=true):ck X (.builtin "max") (λxs H Q=>∃i j,xs=[.int i,.int j]/\Q (.int (if j>i then j else i)) H):=by
 intro pins s σ H xs b Q I r h;obtain⟨i,j,rfl,q⟩:=h;obtain⟨u,c,rfl,⟨t,rfl⟩,⟨t',rfl⟩⟩:=vals2 r;refine max_two_ints (I.ok.hd hc) λh' tk k=>⟨_,H,I.kept k,?_,q⟩;by_cases a:j>i
 .rw[if_pos a,if_pos a];exact⟨_,rfl⟩
 .rw[if_neg a,if_neg a];exact⟨_,rfl⟩
end
structure oF(h:Heap)(x dx C:Addr)(mA:ah):Prop where
 obj:h.get? x=some (instObj C dx)
 ns:h.Ns1 dx mA
 ne:dx≠x
theorem GU{h:Heap}{dx:Addr}{mA:ah}(n:h.Ns1 dx mA):∃c,h.get? dx=some c/\∀name,lookIn name c=some (mA name):=by
 obtain⟨o,es,ep,d,hd,f,_,g⟩:=n;refine⟨o,d,λname=>?_⟩;have e:=g name;unfold nsFind findBy at e;rw[<-Array.find?_toList] at e;unfold lookIn;rw[hd];dsimp only;split
 .rename_i y q
  rw[q] at e;exact congrArg some e
 .rename_i q
  rw[q] at e;have a:es.toList.any (·.refKey)=false:=by
   rw[List.any_eq_false];intro y i;obtain⟨z,t,b⟩:=f y (Array.mem_toList_iff.mp i);simp[DictEntry.refKey,b]
  have j:¬es.toList.any (·.refKey)=true:=by rw[a];exact Bool.false_ne_true
  rw[if_neg j];exact congrArg some e
theorem oF.look{h:Heap}{x dx C:Addr}{mA:ah}(I:oF h x dx C mA):∃a,PySem.W.InstAt h x (instObj C dx) C (some a)/\∀name,lookIn name a=some (mA name):=
 let ⟨a,b,c⟩:=GU I.ns
 ⟨a,⟨I.obj,rfl,rfl,b⟩,c⟩
section
variable{prog:Program}{w:World}{A:Around}{E:aj}{s:Shared}{K:PySem.W.Frag}{x dx C f:Addr}{mA:ah}{name:Str}{v:Value}
end
theorem fG.some_of{v:V}{o:Option Value}(r:fG (some v) o):∃u,o=some u/\RelV v u:=by
 cases o with
 |none=>exact(show False from r).elim
 |some u=>exact⟨u,rfl,r⟩
section
variable{P:Program}{w:World}{H H':Hp}{h h':Heap}{a C dx:Addr}{fs fs':List (Str×V)}
theorem FI(hok:bx P w H h)(e:H a=some (.ins C dx fs)):∃mA,oF h a dx C mA/\(∀f,fG (fs.lookup f) (mA f))/\PySem.Within mA (fs.map (·.1))/\fs.length<=1000/\H dx=some (.own a):=by
 obtain⟨d,z,ne,b,mA,n,r,q⟩:=(show aY P w H h a (.ins C dx fs) from hok a _ e);exact⟨mA,⟨b,n,ne⟩,r,q,z,d⟩
end
structure om(K:PySem.W.Frag)(C:Addr):Prop where
 pg:plainGet K C Str.empty=true
 hd:PySem.W.hasDictIn K C=true
 po:PySem.W.plainOver K C=true
 sa:findIn K (.ref C) "__setattr__"=some (some (.builtin "object.__setattr__"))
theorem om.get{K:PySem.W.Frag}{C:Addr}(c:om K C)(f:Str):plainGet K C f=true:=c.pg
section
variable{X:Cx}{pins:aD}{σ:St}{H:Hp}{s:Shared}{a C dx:Addr}{fs:List (Str×V)}{f:Str}{v:V}{A:Around}{E:aj}
end
section
variable{X:Cx}{o e value:Expr}{f:Str}{pos pos' tpos:Pos}{ta tv:TE}
end
section
variable{X:Cx}{pins:aD}{σ:St}{H:Hp}{s:Shared}{A:Around}{E:aj}{Q:aj}{c:Value}{b:Bool}
inductive eL(K:PySem.W.Frag)(H:Hp):V->Value->Prop where
 |ak:eL K H .ak (.type "NoneType")
 |bl (x:Bool):eL K H (.bl x) (.type "bool")
 |int (i:Int):eL K H (.int i) (.type "int")
 |str (x:Str):eL K H (.str x) (.type "str")
 |i9 (x:UInt64):eL K H (.i9 x) (.type "float")
 |lst {a:Addr} {xs:List V} (e:H a=some (.lst xs)):eL K H (.ref a) (.type "list")
 |aP {a:Addr} {o:Obj} {xs:List V} (e:H a=some (.aP o (.lst xs))):eL K H (.ref a) (.type "list")
 |tup {a:Addr} {xs:List V} (e:H a=some (.tup xs)):eL K H (.ref a) (.type "tuple")
 |dK {a:Addr} {kvs:List (Key×V)} (e:H a=some (.dK kvs)):eL K H (.ref a) (.type "dict")
 |dT {a:Addr} {kvs:List (List Key×V)} (e:H a=some (.dT kvs)):eL K H (.ref a) (.type "dict")
 |ins {a C dx:Addr} {fs:List (Str×V)} (e:H a=some (.ins C dx fs)) (cl:om K C) (ha:findIn K (.ref C) "__class__"=some (some (.builtin "object.__class__")))
  (hn:PySem.W.specialIn K (.builtin "object.__class__") "__get__"=some (some (.builtin "getset_descriptor.__get__"))) (htk:PySem.W.takesIn K (.builtin "object.__class__")=some true)
  (hm:PySem.W.mroIn K C (.type "object")=some true):eL K H (.ref a) (.ref C)
theorem FY{x:V}{u t:Value}(I:Inv X pins σ H s)(d:RelV x u)(ty:eL X.K H x t)(e:kitOne X.K t c=some b)(h:∀tk,Q (.bool b) {s with toks:=tk}):
  wpAny (model X.prog X.w) A (call (.builtin "isinstance") [u,c]) Q E s:=by
 cases ty with
 |ak=>cases (show u=Value.none from d);exact kia_one PySem.W.kitx_none I.cS True.intro e (λz=>nomatch z) h
 |bl y=>cases (show u=Value.bool y from d);exact kia_one PySem.W.kitx_bool I.cS True.intro e (λz=>nomatch z) h
 |int i=>obtain⟨t,q⟩:=(show ∃t,u=Value.int i t from d);cases q;exact kia_one PySem.W.kitx_int I.cS True.intro e (λz=>nomatch z) h
 |str y=>obtain⟨t,q⟩:=(show ∃t,u=Value.str y t from d);cases q;exact kia_one PySem.W.kitx_str I.cS True.intro e (λz=>nomatch z) h
 |i9 y=>obtain⟨t,q⟩:=(show ∃t,u=Value.float y t from d);cases q;exact kia_one PySem.W.kitx_float I.cS True.intro e (λz=>nomatch z) h
 | @lst a xs f=>
  cases (show u=Value.ref a from d);obtain⟨_,_,n,_,h1⟩:=(show aY X.prog X.w H s.heap a (.lst xs) from I.hok a _ f);exact kia_one kitx_list I.cS ⟨_,h1,rfl⟩ e (λz=>nomatch z) h
 | @aP a j xs f=>
  cases (show u=Value.ref a from d);obtain⟨_,_,_,n,_,h1⟩:=(show aY X.prog X.w H s.heap a (.aP j (.lst xs)) from I.hok a _ f);exact kia_one kitx_list I.cS ⟨_,h1,rfl⟩ e (λz=>nomatch z) h
 | @tup a xs f=>
  cases (show u=Value.ref a from d);obtain⟨_,_,_,p⟩:=(show aY X.prog X.w H s.heap a (.tup xs) from I.hok a _ f);obtain⟨o,h1,h2,_⟩:=p.is;exact kia_one kitx_tuple I.cS ⟨o,h1,h2⟩ e (λz=>nomatch z) h
 | @dK a kvs f=>
  cases (show u=Value.ref a from d);obtain⟨_,_,vs,_,p⟩:=(show aY X.prog X.w H s.heap a (.dK kvs) from I.hok a _ f);obtain⟨o,es,ep,h1,h2,_⟩:=p;exact kia_one kitx_dict I.cS ⟨o,h1,h2.1⟩ e (λz=>nomatch z) h
 | @dT a kvs f=>
  cases (show u=Value.ref a from d);obtain⟨_,_,xs,_,o,es,ep,h1,h2,_⟩:=(show aY X.prog X.w H s.heap a (.dT kvs) from I.hok a _ f);exact kia_one kitx_dict I.cS ⟨o,h1,h2.1⟩ e (λz=>nomatch z) h
 | @ins a C dx fs f cl k l g m=>
  cases (show u=Value.ref a from d);obtain⟨mA,O,_⟩:=FI I.hok f;obtain⟨r,J,_⟩:=O.look;exact kia_one (PySem.W.kitx_own (cl.get _) cl.hd k l g m) I.cS J e (λz=>nomatch z) h
end
structure bV(k:Nat)(A:Around):Prop where
 hd:A.handled=none
 dp:A.depth+3*k+5<recursionLimit
 un:A.units+16*k+200<cLine
theorem bV.mono{j k:Nat}{A:Around}(r:bV k A)(h:j<=k):bV j A:=⟨r.hd,by have:=r.dp;omega,by have:=r.un;omega⟩
theorem bV.deeper{k:Nat}{A:Around}(r:bV (k+1) A)(env:Env):bV k (A.deeper env):=
 ⟨r.hd,by have:=r.dp;show A.depth+1+3*k+5<_;omega,by have:=r.un;show A.units+3+16*k+200<_;omega⟩
theorem bV.depth{k:Nat}{A:Around}(r:bV k A):A.depth<recursionLimit:=by have:=r.dp;omega
theorem bV.units{k:Nat}{A:Around}(r:bV k A):A.units+64<cLine:=by have:=r.un;omega
def Lw:TA:=λ_ H Q=>Q [] H
def Lm(ta:TE)(tr:TA):TA:=λσ H Q=>ta σ H λx H1=>tr σ H1 λxs H2=>Q (x::xs) H2
section
variable{X:Cx}{e:Expr}{es:List Expr}{te:TE}{t:TA}{pos:Pos}
theorem xU:PA X [] Lw:=λ_ _ _ _ H Q I h=>Calls.spliced_nil ⟨[],H,I,.nil,h⟩
theorem qU(a:PE X e te)(b:PA X es t)(hs:starEach (e::es) X.env=(false,eval e X.env)::starEach es X.env:=by rfl):PA X (e::es) (Lm te t):=by
 intro pos pins s σ H Q I h;rw[hs];show wpAny _ _ (spliced ((false,eval e X.env)::backTo pos (starEach es X.env))) _ _ s;refine Calls.spliced_cons (au (a pins s σ H _ I h) λu c ⟨x,H1,d,f,g⟩=>?_);exact au (b pos pins c σ H1 _ d g) λl m ⟨xs,H2,i,j,k⟩=>⟨x::xs,H2,i,.cons f j,k⟩
def LK(t:TA):TE:=λσ H Q=>t σ H λxs H1=>xs.length<=sizeLine/\∀p,H1 p=none->Q (.ref p) (upd H1 p (.tup xs))
def Lu(t:TA):TE:=λσ H Q=>t σ H λxs H1=>xs.length<=sizeLine/\∀p,H1 p=none->Q (.ref p) (upd H1 p (.lst xs))
theorem IK{d}(h:PA X es t):PE X (.Tuple es d pos) (LK t):=by
 intro pins s σ H Q I f;refine wpAny_Tuple_spliced (au (h pos pins s σ H _ I f) λg a ⟨xs,H1,c,r,z,q⟩=>⟨by rw[<-r.length];exact z,?_⟩);have i:H1 a.heap.objs.size=none:=c.hok.fresh (le_refl _);refine⟨.ref a.heap.objs.size,upd H1 a.heap.objs.size (.tup xs),c.laid (t':=a.toks) (λb u e=>get?_push_of_some _ e) (le_refl _) ?_,rfl,q _ i⟩;exact⟨z,g,r,⟨_,get?_push_size _ rfl⟩⟩
theorem IC(h:PA X es t):PE X (.List es pos) (Lu t):=by
 intro pins s σ H Q I d;refine wpAny_List_spliced (au (h pos pins s σ H _ I d) λf a ⟨xs,H1,c,r,z,q⟩=>⟨by rw[<-r.length];exact z,?_⟩);have g:H1 a.heap.objs.size=none:=c.hok.fresh (le_refl _);refine⟨.ref a.heap.objs.size,upd H1 a.heap.objs.size (.lst xs),c.laid (t':=a.toks) (λb u e=>get?_push_of_some _ e) (le_refl _) ?_,rfl,q _ g⟩;exact⟨z,f,0,r,get?_push_size _ rfl⟩
end
abbrev Sp:=List V->Hp->VK->XK->Prop
abbrev eU:=List Env->Hp->Shared->XK->aj
structure kU(P:Program)(w:World)(K:PySem.W.Frag)(mg:ah)(base:Heap)(A:Around)(outer:List Env)(s:Shared)(H:Hp):Prop where
 frames:A.frames=some outer
 mod:Mod K mg base
 bs:∀b o,base.get? b=some o->s.heap.get? b=some o/\H b=none
 iz:base.objs.size<=s.heap.objs.size
 f7:s.heap.FunFrames base outer
 i_:∀b∈frs outer,H b=none
 hok:bx P w H s.heap
 bare:AllBare s.gens
def CE(outer:List Env)(P:Program)(w:World)(H:Hp)(s:Shared)(Q:VK)(u:Value)(s':Shared):Prop:=
 ∃v H',s'.os=s.os/\AllBare s'.gens/\Un (frs outer) [] H H' s.heap s'.heap/\bx P w H' s'.heap/\RelV v u/\Q v H'
def CR(CX:eU)(outer:List Env)(P:Program)(w:World)(H:Hp)(s:Shared)(Q:VK)(E:XK)(r:Result)(s':Shared):Prop:=
 match r with
 |.ok (.ret u)=>CE outer P w H s Q u s'
 |.ok _=>False
 |.error e=>CX outer H s E e s'
structure dH(P:Program)(w:World)(K:PySem.W.Frag)(mg:ah)(base:Heap)(CX:eU)(k:Nat)(f:Addr)(fd:FuncData)(ps:List Str)(sp:Sp):Prop where
 len:∀vs H Q E,sp vs H Q E->vs.length=ps.length
 run:∀(A:Around) (outer:List Env) (s:Shared) (H:Hp) (args:Args) (us:List Value) (vs:List V) (Q:VK) (E:XK),bV k A->kU P w K mg base A outer s H->BindsTo s fd args (ps.zip us)->Vals vs us->sp vs H Q E->
  codeAny (model P w) A (.call (.ref f) args) (CR CX outer P w H s Q E) s
theorem dH.imp{P:Program}{w:World}{K:PySem.W.Frag}{mg:ah}{base:Heap}{CX:eU}{k:Nat}{f:Addr}{fd:FuncData}{ps:List Str}{sp a:Sp}(F:dH P w K mg base CX k f fd ps sp)
  (h:∀vs H Q E,a vs H Q E->sp vs H Q E):dH P w K mg base CX k f fd ps a:=
 ⟨λvs H Q E q=>F.len vs H Q E (h _ _ _ _ q),λA outer s H args b vs Q E c d e g hs=>F.run A outer s H args b vs Q E c d e g (h _ _ _ _ hs)⟩
section
variable{X:Cx}{pins:aD}{σ:St}{H:Hp}{s s':Shared}
theorem Inv.Dy(I:Inv X pins σ H s):kU X.prog X.w X.K X.mg X.base X.A X.stack s H:=
 ⟨I.ok.frames,I.ok.mod,I.bs,le_trans I.ok.iz I.sz,I.stack,I.rG,I.hok,I.bare⟩
theorem Inv.after{Q:VK}{u:Value}(I:Inv X pins σ H s)(h:CE X.stack X.prog X.w H s Q u s'):EP X pins σ Q u s':=by
 obtain⟨v,H',os,bare,un,hok,r,q⟩:=h;obtain⟨c,g,d,t,a⟩:=s';obtain rfl:a=s.os:=os;exact⟨v,H',I.call (h':=c) (g':=g) (d':=d) (t':=t) (ch:=[]) un hok bare (λb z=>absurd z (by simp)),r,q⟩
end
def z6(sp:Sp)(gZ:List V)(E:XK)(t:TA):TE:=λσ H Q=>t σ H λvs H1=>sp (vs++gZ) H1 Q E
def Binds(K:PySem.W.Frag)(fd:FuncData)(ps:List Str)(ds:List Value):Prop:=
 ∀(s:Shared) (us:List Value),K.In s.heap->(us++ds).length=ps.length->BindsTo s fd ⟨us,[]⟩ (ps.zip (us++ds))
theorem Binds.all{K:PySem.W.Frag}{fd:FuncData}{ps:List Str}(h:∀a:List Value,a.length=ps.length->bindArgs fd ⟨a,[]⟩=pure (ps.zip a)):Binds K fd ps []:=λs a _ b=>by
 rw[append_nil] at b ⊢;exact .of_eq (h a b)
def Passes(CX:eU)(X:Cx)(E:XK):Prop:=∀(pins:aD) (σ:St) (H:Hp) (s:Shared) (e:Value) (s':Shared),Inv X pins σ H s->CX X.stack H s E e s'->X.xe e s'
section
variable{X:Cx}{CX:eU}{k:Nat}{f C:Addr}{fd:FuncData}{ps:List Str}{sp:Sp}{gZ:List V}{ds:List Value}{E:XK}{x m:Str}{p pos apos:Pos}{e o:Expr}{es:List Expr}{ta:TE}{t:TA}
theorem JO{pins:aD}{σ:St}{H:Hp}{s:Shared}{Q:VK}{a:List Value}{vs:List V}(F:dH X.prog X.w X.K X.mg X.base CX k f fd ps sp)(d:bV k X.A)(g:Binds X.K fd ps ds)(hd:Vals gZ ds)(i:Passes CX X E)
  (I:Inv X pins σ H s)(r:Vals vs a)(h:sp (vs++gZ) H Q E):wpAny (model X.prog X.w) X.A (call (.ref f) a) (EP X pins σ Q) X.xe s:=by
 have c:Vals (vs++gZ) (a++ds):=r.append hd;have j:(a++ds).length=ps.length:=by rw[<-c.length];exact F.len _ _ _ _ h
 refine wpAny_call (codeAny_mono (F.run X.A X.stack s H ⟨a,[]⟩ (a++ds) (vs++gZ) Q E d I.Dy (g s a I.cS j) c h) λr s' b=>?_);cases r with
 |error e=>exact i pins σ H s e s' I b
 |ok fl=>
  cases fl with
  |ret u=>exact I.after b
  |next=>exact False.elim b
  |brk=>exact False.elim b
  |cont=>exact False.elim b
theorem Il(F:dH X.prog X.w X.K X.mg X.base CX k f fd ps sp)(d:bV k X.A)(g:Gl X x)(i:X.mg x=some (.ref f))(j:keepIn X.K (.ref f)=true)(l:Binds X.K fd ps ds)(hd:Vals gZ ds)(m:Passes CX X E)
  (n:PA X (e::es) t)(a:(x==("__debug__":Str))=false:=by decide)(o:starEach (e::es) X.env=(false,eval e X.env)::starEach es X.env:=by rfl)(b:(backTo pos (starEach es X.env)).any (·.1)=false:=by rfl):
  PE X (.Call (.Name x p) (e::es) [] pos) (z6 sp gZ E t):=by
 intro pins s σ H Q I h;refine wpAny_Call_Name_kw (qx I g i ?_ a);refine PySem.W.callWith_K (h₀:=X.base) I.ok.mod.mG j (au (n pos pins s σ H _ I h) λu v ⟨vs,H1,c,r,q⟩=>⟨c.cS,?_⟩) o b;exact JO F d l hd m c r q
end
section
variable{X:Cx}{CX:eU}{k:Nat}{f C:Addr}{fd:FuncData}{ps ks:List Str}{sp:Sp}{E:XK}{x m:Str}{p pos apos kpos:Pos}{e o:Expr}{es:List Expr}{kws:List Keyword}{te ta:TE}{t tk:TA}{nm:Option Str}
variable{g:List Value->List Value->List Value}{gV:List V->List V->List V}
end
structure bf(N P:List Str)(sc:Scope):Prop where
 kind:sc.kind= .function
 co:sc.isCoroutine=false
 gen:sc.isGenerator=false
 nd:N.Nodup
 pre:N.take P.length=P
 par:∀x∈P,sc.names.lookup x=some .local\/sc.names.lookup x=some .cell
 qO:∀y∈sc.names,y.2≠ .free
theorem tZ{kindOf:Str->Option NameKind}{x:Str}:∀{binds:List (Str×Value)} {m:ah},(∀v,(x,v)∉binds)->bindL kindOf binds m x=m x
 |[],_,_=>rfl
 |(n,v)::r,m,h=>by
  unfold bindL;rw[tZ λw a=>h w (mem_cons_of_mem _ a)];split
  .have:x≠n:=by rintro rfl;exact h v mem_cons_self
   simp[this]
  .rfl
theorem tX{kindOf:Str->Option NameKind}{x:Str}:∀{binds:List (Str×Value)} {m:ah},(∀v,(x,v)∉binds)->bindC kindOf binds m x=m x
 |[],_,_=>rfl
 |(n,v)::r,m,h=>by
  unfold bindC;rw[tX λw a=>h w (mem_cons_of_mem _ a)];split
  .rfl
  .have:x≠n:=by rintro rfl;exact h v mem_cons_self
   simp[this]
theorem tY{kindOf:Str->Option NameKind}{x:Str}{v:Value}:∀{P:List Str} {vs:List Value} {i:Nat} {m:ah},P.Nodup->P[i]?=some x->vs[i]?=some v->kindOf x=some .local->
  bindL kindOf (P.zip vs) m x=some v
 |[],_,_,_,_,h,_,_=>by simp at h
 |_::_,[],_,_,_,_,h,_=>by simp at h
 |p::P,w::vs,0,m,nd,h1,h2,a=>by
  simp at h1 h2;subst h1;subst h2;show bindL kindOf ((p,w)::P.zip vs) m p=_;unfold bindL;rw[tZ λv b=>(nodup_cons.mp nd).1 (of_mem_zip b).1,if_pos a];simp
 |p::P,w::vs,i+1,m,nd,h1,h2,a=>by
  show bindL kindOf ((p,w)::P.zip vs) m x=_;unfold bindL;exact tY (i:=i) (nodup_cons.mp nd).2 (by simpa using h1) (by simpa using h2) a
theorem tW{kindOf:Str->Option NameKind}{x:Str}{v:Value}:∀{P:List Str} {vs:List Value} {i:Nat} {m:ah},P.Nodup->P[i]?=some x->vs[i]?=some v->kindOf x≠some .local->
  bindC kindOf (P.zip vs) m x=some v
 |[],_,_,_,_,h,_,_=>by simp at h
 |_::_,[],_,_,_,_,h,_=>by simp at h
 |p::P,w::vs,0,m,nd,h1,h2,a=>by
  simp at h1 h2;subst h1;subst h2;show bindC kindOf ((p,w)::P.zip vs) m p=_;unfold bindC;rw[tX λv b=>(nodup_cons.mp nd).1 (of_mem_zip b).1,if_neg a];simp
 |p::P,w::vs,i+1,m,nd,h1,h2,a=>by
  show bindC kindOf ((p,w)::P.zip vs) m x=_;unfold bindC;exact tW (i:=i) (nodup_cons.mp nd).2 (by simpa using h1) (by simpa using h2) a
def start(N:List Str)(vs:List V):St:=vs.map some++replicate (N.length - vs.length) none
def bC(CX:eU)(P:Program)(w:World)(K:PySem.W.Frag)(mg:ah)(base:Heap)(N:List Str)(qual:Str)(scope:Scope)(f:Addr)(cd:Value)(A:Around)(outer:List Env)(s:Shared)(H:Hp)(E:XK):Cx where
 prog:=P
 w:=w
 K:=K
 mg:=mg
 base:=base
 A:=A.deeper (envOfC qual scope s.heap.objs.size f cd)
 N:=N
 s₀:=s
 H₀:=H
 env:=envOfC qual scope s.heap.objs.size f cd
 outer:=outer
 stack:=envOfC qual scope s.heap.objs.size f cd::outer
 ex:=[]
 calm:=true
 fn:=λ_=>true
 pn:=[]
 xe:=λe s'=>wpAny (model P w) (A.deeper (envOfC qual scope s.heap.objs.size f cd)) (leaving (envOfC qual scope s.heap.objs.size f cd) e) (λ_ s''=>CX outer H s E e s'') (λe' s''=>CX outer H s E e' s'') s'
theorem um{sc:Scope}{n:Nat}{x:Str}(h:sc.names.lookup x=some .cell):∃c,(cellsFrom n sc.names []).lookup x=some c:=by
 have q:=PySem.W.cellsFrom_some sc.names n [] (.inl h);exact isSome_iff_exists.mp q
theorem FN{CX:eU}{P:Program}{w:World}{K:PySem.W.Frag}{mg:ah}{base:Heap}{N ps:List Str}{qual:Str}{scope:Scope}{f:Addr}{cd:Value}{A:Around}{outer:List Env}{s o:Shared}{H:Hp}{E:XK}{m:List Value}{vs:List V}
  (S:bf N ps scope)(hd:A.handled=none)(d:kU P w K mg base A outer s H)(G:vs.length=ps.length)(r:Vals vs m)
  (x:InCallC s s.heap.objs.size (bindL (envOfC qual scope s.heap.objs.size f cd).kindOf (ps.zip m) λ_=>none) (cellsFrom (s.heap.objs.size+1) scope.names []) (bindC (envOfC qual scope s.heap.objs.size f cd).kindOf (ps.zip m) λ_=>none) o):
  Inv (bC CX P w K mg base N qual scope f cd A outer s H E) [] (start N vs) H o:=by
 have C:ps.length<=N.length:=by have:=congrArg List.length S.pre;rw[length_take] at this;omega
 obtain⟨h1,tk,rfl,t⟩:=x.done
 have g:∀b:Addr,b∉(bC CX P w K mg base N qual scope f cd A outer s H E).ex:=λb z=>absurd (show b∈([]:List Addr) from z) (by simp)
 refine⟨⟨d.mod,S.kind,rfl,rfl,le_refl _,λy z c h1 h2=> ?_,λy hy=> ?_,λy c _ h=> ?_,λ_=>hd,Around.frames_deeper d.frames,.inr ⟨rfl,rfl⟩,λb z=>absurd z (g b),d.bs,d.iz,λb _ _=>g b,λb z=>absurd z (g b),d.f7,d.i_⟩,
  rfl,d.bare,Un.kept t,⟨_,x.toInCall.ns,λi y v h1 h2 I=> ?_⟩,λy c h=>⟨_,x.cell y c h⟩,d.hok.fresh (le_refl _),λy c h=> ?_,λp j=>absurd (show p∈([]:aD) from j) (by simp),d.hok.kept t,?_⟩
 .exact name_of_addr x.apart (PySem.mem_of_lookup h1) (PySem.mem_of_lookup h2)
 .have hy:scope.names.lookup y=some .cell\/scope.names.lookup y=some .free:=hy
  rcases hy with hy|hy
  .exact um hy
  .exact absurd rfl (S.qO _ (PySem.mem_of_lookup hy))
 .exact le_of_lt (x.above y c (PySem.mem_of_lookup h))
 .have hi:i<vs.length:=by
   unfold start at h2
   by_cases hi:i<vs.length
   .exact hi
   .rw[getElem?_append_right (by simpa using hi)] at h2
    rw[List.getElem?_replicate] at h2
    split at h2<;>cases h2
  have D:vs[i]? =some v:=by
   unfold start at h2
   rw[getElem?_append_left (by simpa using hi),getElem?_map] at h2
   cases e:vs[i]? with
   |none=>rw[e] at h2;cases h2
   |some a=>rw[e] at h2;cases h2;rfl
  obtain⟨u,B,F⟩:=r.get D
  have j:ps[i]? =some y:=by
   rw[<-S.pre,List.getElem?_take_of_lt (by omega)];exact h1
  have l:ps.Nodup:=by rw[<-S.pre];exact S.nd.sublist (List.take_sublist _ _)
  refine⟨u,F,?_⟩
  rcases S.par y (mem_of_getElem? j) with k|k
  .exact .inl ⟨k,tY l j B k⟩
  .obtain⟨c,e⟩:=um (n:=s.heap.objs.size+1) k
   refine .inr ⟨.inl k,c,e,?_⟩
   have q:=x.cell y c e
   rw[tW l j B (by show scope.names.lookup y≠_;rw[k];decide)] at q
   exact q
 .exact d.hok.fresh (le_of_lt (x.above y c (PySem.mem_of_lookup h)))
 .unfold start
  show _=N.length
  rw[length_append,length_map,List.length_replicate]
  omega
theorem vm{CX:eU}{P:Program}{w:World}{K:PySem.W.Frag}{mg:ah}{base:Heap}{k:Nat}{f:Addr}{name qual:Str}{params:Arguments}{body:List Stmt}{scope:Scope}{p kV doc pm a ct C:Value}{an D:Option Addr}
  {i:Array (Option Value)}{N ps:List Str}{sp:Sp}(lk:K.lookup f=some ⟨C,D,.func (fnOf name qual params body scope p kV doc pm an a ct),i⟩)(j:codeIn K a qual=true)(S:bf N ps scope)
  (len:∀vs H Q E,sp vs H Q E->vs.length=ps.length)
  (c:∀(A:Around) (outer:List Env) (s:Shared) (H:Hp) (vs:List V) (Q:VK) (E:XK),bV k (A.deeper (envOfC qual scope s.heap.objs.size f a))->sp vs H Q E->
   ∃t,bU (bC CX P w K mg base N qual scope f a A outer s H E) body t/\t {nx:=λ_ H'=>Q .ak H',rt:=Q} (start N vs) H):
  dH P w K mg base CX (k+1) f (fnOf name qual params body scope p kV doc pm an a ct) ps sp:=by
 refine⟨len,λA outer s H args F vs Q E l g G r h=> ?_⟩
 have L:=len _ _ _ _ h
 have z:K.In s.heap:=g.mod.mG.keeps λb o e=>(g.bs b o e).1
 have lim:s.heap.NoLimit:=g.mod.nolimit.keeps λb o e=>(g.bs b o e).1
 have d:∀y∈ps.zip F,scope.names.lookup y.1=some .local\/(scope.names.lookup y.1=some .cell/\((cellsFrom (s.heap.objs.size+1) scope.names []).lookup y.1).isSome=true):=λ⟨n,v⟩ M=>by
  rcases S.par n (of_mem_zip M).1 with q|q
  .exact .inl q
  .exact .inr ⟨q,PySem.W.cellsFrom_some _ _ _ (.inl q)⟩
 refine codeAny_call_function l.depth (z _ _ lk) rfl S.co S.gen rfl (PySem.W.codeRec_of z j) (G _ _ _ _ ?_)
 refine wpAny_newFunctionEnv_cells S.kind d λenv O B x=> ?_
 subst O
 refine⟨lim.keeps x.toInCall.keep,codeAny_func ?_⟩
 obtain⟨t,R,T⟩:=c A outer s H vs Q E (l.deeper _) h
 have I:Inv (bC CX P w K mg base N qual scope f a A outer s H E) [] (start N vs) H B:=FN S l.hd g L r x
 refine wpAny_mono (R [] B (start N vs) H _ I T) (λfl s' hs=> ?_) λe s' hs=>hs
 have fin:∀{σ':St} {H':Hp} {v:V} {u:Value},Inv (bC CX P w K mg base N qual scope f a A outer s H E) [] σ' H' s'->RelV v u->Q v H'->CE outer P w H s Q u s':=
  λ {σ' H' v u} J m q=>⟨v,H',J.os,J.bare,J.base,J.hok,m,q⟩
 cases fl with
 |ret u=>
  obtain⟨v,σ',H',J,m,q⟩:=hs
  exact fin J m q
 |next=>
  obtain⟨σ',H',J,q⟩:=hs
  exact fin (v:=V.ak) (u:=Value.none) J rfl q
 |brk=>
  obtain⟨_,_,_,q⟩:=hs
  exact False.elim q
 |cont=>
  obtain⟨_,_,_,q⟩:=hs
  exact False.elim q
section
variable{X:Cx}{x:Str}{p pos:Pos}{e:Expr}{es:List Expr}{t:TA}{id T:String}{r:List V->Hp->VK->Prop}
def rL(r:List V->Hp->VK->Prop)(t:TA):TE:=λσ H Q=>t σ H λvs H1=>r vs H1 Q
theorem x8(hc:ck X (.builtin id) r)(c:Gl X x)(d:X.mg x=none)(f:bootBuiltins x=some (.builtin id))(g:PA X (e::es) t)(i:x≠"__name__":=by decide)(a:(x==("__debug__":Str))=false:=by decide)
  (j:starEach (e::es) X.env=(false,eval e X.env)::starEach es X.env:=by rfl)(b:(backTo pos (starEach es X.env)).any (·.1)=false:=by rfl):PE X (.Call (.Name x p) (e::es) [] pos) (rL r t):=by
 intro pins s σ H Q I h;refine wpAny_Call_Name_kw (gG I c d f ?_ i a);exact PyProof.Rows.callWith_builtin1 (au (g pos pins s σ H _ I h) λk l ⟨vs,H1,m,n,o⟩=>hc pins l σ H1 vs k Q m n o) j b
theorem Im(hc:ck X (.type T) r)(c:Gl X x)(d:X.mg x=none)(f:bootBuiltins x=some (.type T))(g:PA X (e::es) t)(i:x≠"__name__":=by decide)(a:(x==("__debug__":Str))=false:=by decide)
  (j:starEach (e::es) X.env=(false,eval e X.env)::starEach es X.env:=by rfl)(b:(backTo pos (starEach es X.env)).any (·.1)=false:=by rfl):PE X (.Call (.Name x p) (e::es) [] pos) (rL r t):=by
 intro pins s σ H Q I h;refine wpAny_Call_Name_kw (gG I c d f ?_ i a);exact PyProof.Rows.callWith_type1 (au (g pos pins s σ H _ I h) λk l ⟨vs,H1,m,n,o⟩=>hc pins l σ H1 vs k Q m n o) j b
end
end L2
end
namespace HT
open PySem PyProof.Rows
section
open PySem.SeqAt
open PySem.AutoSeq1 (wpAny_loadPart')
open PySem.MeetsSeq PySem.MeetsSeq2 PySem.MeetsSeq3
end
section
variable{prog:Program}{w:World}{A:Around}{E:aj}{s:Shared}
theorem BS{t b:Addr}{vs ws:List Value}{Q:aj}(m:IsTup s.heap t vs.toArray)(o:IsTup s.heap b ws.toArray)(i:vs≠[])
  (h1:ws=[]->Q (.ref t) s)(h2:ws≠[]->Q (.ref s.heap.objs.size) {s with heap:=s.heap.push {cls:= .type "tuple",data:= .seq (vs++ws).toArray}})
  (hsz:vs.length+ws.length<=sizeLine):wpAny (model prog w) A (binaryOp .Add (.ref t) (.ref b)) Q E s:=by
 obtain⟨⟨cls,dd,data,j⟩,g,hc,n,hd⟩:=id m
 obtain⟨⟨k,c,data2,d⟩,a,f,l,hd2⟩:=id o
 simp only at hc hd f hd2
 subst hc hd f hd2
 have e:vs.toArray++ws.toArray=(vs++ws).toArray:=by simp
 by_cases h:ws=[]
 .exact concat_meets ⟨_,g,rfl⟩ ⟨_,a,rfl⟩ noFill_tuple_add seq_tuple_add slot_tuple_add entry_tuple_add (args_tuple_add_2 _ _)
   (tuple_addW1 t b vs.toArray ws.toArray n l dd c j d (by simpa using i) (by simp[h])) ⟨g,a,h1 h⟩
 .refine concat_meets ⟨_,g,rfl⟩ ⟨_,a,rfl⟩ noFill_tuple_add seq_tuple_add slot_tuple_add entry_tuple_add (args_tuple_add_2 _ _)
   (tuple_addW2 t b vs.toArray ws.toArray n l dd c j d (by simpa using i) (by simpa using h) (by rw[size_toArray,size_toArray];exact hsz)) ⟨g,a,?_⟩
  rw[e]
  exact h2 h
def av(n d:Nat):Option Int->Nat
 |none=>d
 |some v=>if v<0 then (v+(n:Int)).toNat else min v.toNat n
theorem JX(n d:Nat):av n d none=d:=rfl
theorem JW(n d k:Nat):av n d (some (k:Int))=min k n:=by
 show(if (k:Int)<0 then ((k:Int)+(n:Int)).toNat else min (k:Int).toNat n)=min k n;rw[if_neg (by omega),toNat_natCast]
theorem JV(n d:Nat)(hd:d<=n)(o:Option Int):av n d o<=n:=by
 cases o with
 |none=>exact hd
 |some v=>
  show(if v<0 then (v+(n:Int)).toNat else min v.toNat n)<=n;by_cases a:v<0
  .rw[if_pos a];omega
  .rw[if_neg a];exact Nat.min_le_right _ _
theorem uo(v:Int)(n d:Nat):(if v<0 then max (v+(n:Int)) 0 else min v (n:Int))=((av n d (some v):Nat):Int):=by
 show(if v<0 then max (v+(n:Int)) 0 else min v (n:Int))=(((if v<0 then (v+(n:Int)).toNat else min v.toNat n):Nat):Int);by_cases a:v<0
 .simp only[if_pos a];omega
 .simp only[if_neg a];omega
theorem Bk(lo hi:Option Int)(n:Nat):Builtin.Slice.sliceAdjust lo hi 1 (n:Int)=(((av n 0 lo:Nat):Int),((av n n hi:Nat):Int)):=by
 have h1:¬((1:Int)<0):=by omega
 unfold Builtin.Slice.sliceAdjust;simp only[h1,if_false];refine Prod.ext ?_ ?_
 .cases lo with
  |none=>rfl
  |some v=>exact uo v n 0
 .cases hi with
  |none=>rfl
  |some v=>exact uo v n n
theorem IW(i j:Nat):Builtin.Slice.slicePlaces (i:Int) (j:Int) 1=j - i:=by
 unfold Builtin.Slice.slicePlaces;have h1:(1:Int)>0:=by omega
 simp only[h1,if_true,Int.ediv_one];split<;>omega
theorem zR{v:Value}{o:Option Int}{Q:Option Int->Shared->Prop}(p:IsPart v o)(h:Q o s):wpAny (model prog w) A (Builtin.Slice.slicePartIndex v) Q E s:=by
 cases p with
 |none=>exact slicePart_none h
 |int i t=>exact slicePart_int h
theorem zQ{e:Addr}{c d:Value}{lo hi:Option Int}{n:Nat}{Q:Int×Int×Nat->Shared->Prop}(hs:s.heap.IsSliceOf e c d .none)(pl:IsPart c lo)(pu:IsPart d hi)
  (h:Q (((av n 0 lo:Nat):Int),1,av n n hi - av n 0 lo) s):wpAny (model prog w) A (Builtin.Slice.sliceApplied (.ref e) (pure (n:Int))) Q E s:=by
 obtain⟨os,a,f,b⟩:=id hs;unfold Builtin.Slice.sliceApplied Builtin.Slice.sliceFields;refine wpAny_bind (wpAny_bind (wpAny_field a b (x:=c) rfl (wpAny_bind (wpAny_field a b (x:=d) rfl (wpAny_bind (wpAny_field a b (x:=.none) rfl (wpAny_pure ?_)))))));refine wpAny_bind (slicePart_none ?_);show wpAny _ _ (if ((1:Int)==0)=true then _ else _) _ _ s;rw[if_neg (by decide)];refine wpAny_bind (zR pl (wpAny_bind (zR pu (wpAny_bind (wpAny_pure ?_)))));show wpAny _ _ (match Builtin.Slice.sliceAdjust lo hi 1 (n:Int) with|(lo,hi)=>pure (lo,(1:Int),Builtin.Slice.slicePlaces lo hi 1)) _ _ s;rw[Bk lo hi n];show wpAny _ _ (pure (((av n 0 lo:Nat):Int),(1:Int),Builtin.Slice.slicePlaces ((av n 0 lo:Nat):Int) ((av n n hi:Nat):Int) 1)) _ _ s;rw[IW];exact wpAny_pure h
theorem IV(xs:Array Value)(i k:Nat):((range k).filterMap λ(m:Nat)=>xs[((i:Int)+(m:Int)*1).toNat]?).toArray=((xs.toList.drop i).take k).toArray:=by
 have e:(λ(m:Nat)=>xs[((i:Int)+(m:Int)*1).toNat]?)=λm=>xs[i+m]? :=by
  funext m;have:((i:Int)+(m:Int)*1).toNat=i+m:=by omega
  rw[this]
 rw[e];have:=pick_run xs i k;rw[List.filterMap_map] at this;have a:((λx=>xs[x]?)∘λx=>i+x)=λm=>xs[i+m]? :=rfl;rw[a] at this;rw[this]
theorem Eu{t c:Addr}{items:Array Value}{i j:Value}{lo hi:Option Int}{Q:aj}(b:IsTup s.heap t items)(hs:s.heap.IsSliceOf c i j .none)(pl:IsPart i lo)(pu:IsPart j hi)
  (k:¬(av items.size 0 lo=0/\av items.size items.size hi=items.size))
  (h:Q (.ref s.heap.objs.size) {s with heap:=s.heap.push {cls:= .type "tuple",data:= .seq ((items.toList.drop (av items.size 0 lo)).take (av items.size items.size hi - av items.size 0 lo)).toArray}})
  (hsz:items.size<=sizeLine):wpAny (model prog w) A (getItem (.ref t) (.ref c)) Q E s:=by
 have a:sizeOk (.seq ((items.toList.drop (av items.size 0 lo)).take (av items.size items.size hi - av items.size 0 lo)).toArray):=by
  show((items.toList.drop (av items.size 0 lo)).take (av items.size items.size hi - av items.size 0 lo)).toArray.size<=sizeLine
  rw[size_toArray,length_take,length_drop,length_toList]
  omega
 have n:av items.size items.size hi<=items.size:=JV _ _ (le_refl _) hi
 obtain⟨os,d,e,l⟩:=id hs
 have f:s.TypeIs (.ref c) "slice":=⟨os,d,e⟩
 unfold getItem
 try with_reducible refine wpAny_holding ?_
 first|refine wpAny_bind (wpAny_pure ?_)|skip
 refine wpAny_bind (wpAny_sequenceKey b.typeIs (by decide) ?_)
 refine wpAny_bind (wpAny_callSpecial?_slot (name:=Str.ofString "__getitem__") b.typeIs PyProof.Rows.slot_tuple_getitem
  (wpAny_call_entry PyProof.Rows.slot_tuple_getitem b.typeIs entry_tuple_getitem ?_ (args_tuple_getitem _ _)))
 show wpAny _ _ (Builtin.Tuple.tupleItemsOf (.ref t)>>=_) _ _ s
 refine wpAny_bind (tupleItemsOf_ b ?_)
 refine wpAny_bind (wpAny_typeOf f ?_)
 rw[if_pos (by decide)]
 refine wpAny_bind (zQ hs pl pu ?_)
 have g:¬((((av items.size 0 lo:Nat):Int)==0&&(1:Int)==1&&(av items.size items.size hi - av items.size 0 lo)==items.size)=true):=by
  intro q
  rw[and_eq_true,and_eq_true] at q
  have o:((av items.size 0 lo:Nat):Int)=0:=eq_of_beq q.1.1
  have p:av items.size items.size hi - av items.size 0 lo=items.size:=eq_of_beq q.2
  exact k ⟨by omega,by omega⟩
 show wpAny _ _ (if (((av items.size 0 lo:Nat):Int)==0&&(1:Int)==1&&(av items.size items.size hi - av items.size 0 lo)==items.size)=true then _ else _) _ _ s
 rw[if_neg g,IV]
 first
  |exact wpAny_bind (m:=Builtin.Tuple.tupleExact _) (wpAny_newObj_type (wpAny_pure ⟨_,rfl,wpAny_pure h⟩) a)
  |exact wpAny_bind (m:=Builtin.Tuple.tupleExact _) (wpAny_newObj_type (wpAny_bind (wpAny_pure (wpAny_pure ⟨_,rfl,wpAny_pure h⟩))) a)
  |exact wpAny_bind (wpAny_bind (m:=Builtin.Tuple.tupleExact _) (wpAny_newObj_type (wpAny_pure (wpAny_pure ⟨_,rfl,wpAny_pure h⟩)) a))
  |exact wpAny_bind (wpAny_bind (m:=Builtin.Tuple.tupleExact _) (wpAny_newObj_type (wpAny_pure ⟨_,rfl,wpAny_pure h⟩) a))
end
end HT
section
open PySem PySem.Spec PyProof.Rows
namespace L2
abbrev TO:=St->Hp->(Option Int->Hp->Prop)->Prop
def PO(X:Cx)(e:Option Expr)(t:TO):Prop:=
 ∀(pins:aD) (s:Shared) (σ:St) (H:Hp) (Q:Option Int->Hp->Prop),Inv X pins σ H s->t σ H Q->
  wpAny (model X.prog X.w) X.A (evalPart e X.env) (λu s'=>∃o H',Inv X pins σ H' s'/\IsPart u o/\Q o H') X.xe s
def Lx:TO:=λ_ H Q=>Q none H
def LB(t:TE):TO:=λσ H Q=>t σ H λx H1=>∃i,x=.int i/\Q (some i) H1
section
variable{X:Cx}{e:Expr}{te:TE}{lo hi:Option Expr}{tl th:TO}{pos p2:Pos}
theorem IY:PO X none Lx:=by
 intro pins s σ H Q I h;rw[evalPart_none];exact wpAny_pure ⟨none,H,I,.none,h⟩
theorem IZ(h:PE X e te):PO X (some e) (LB te):=by
 intro pins s σ H Q I a;rw[evalPart_some];refine au (h pins s σ H _ I a) λu f ⟨x,H1,b,c,d⟩=>?_;obtain⟨i,rfl,q⟩:=d;obtain⟨t,rfl⟩:=c;exact⟨some i,H1,b,.int i t,q⟩
def gQ(X:Cx)(r:V->Option Int->Option Int->Hp->VK->Prop):Prop:=
 ∀(pins:aD) (s:Shared) (σ:St) (H:Hp) (x:V) (v vl vu:Value) (lo hi:Option Int) (sl:Addr) (Q:VK),Inv X pins σ H s->RelV x v->s.heap.IsSliceOf sl vl vu .none->IsPart vl lo->IsPart vu hi->r x lo hi H Q->
  ∃T id,typeLookup (.type T) "__getitem__"=pure (some (.builtin id))/\s.TypeIs v T/\wpAny (model X.prog X.w) X.A (getItem v (.ref sl)) (EP X pins σ Q) X.xe s
theorem gQ.or{r r':V->Option Int->Option Int->Hp->VK->Prop}(h:gQ X r)(h':gQ X r'):gQ X (λx lo hi H Q=>r x lo hi H Q\/r' x lo hi H Q):=by
 intro pins s σ H x v a b lo hi c Q I d hs pl pu q;rcases q with q|q
 .exact h pins s σ H x v a b lo hi c Q I d hs pl pu q
 .exact h' pins s σ H x v a b lo hi c Q I d hs pl pu q
def LG(r:V->Option Int->Option Int->Hp->VK->Prop)(te:TE)(tl th:TO):TE:=λσ H Q=>te σ H λx H1=>tl σ H1 λl H2=>th σ H2 λu H3=>r x l u H3 Q
theorem x_{r:V->Option Int->Option Int->Hp->VK->Prop}(g:gQ X r)(i:PE X e te)(j:PO X lo tl)(k:PO X hi th):PE X (.Subscript e (.Slice lo hi none p2) pos) (LG r te tl th):=by
 intro pins s σ H Q I h;refine Subscript_ (au (i pins s σ H _ I h) λv m ⟨x,H1,n,o,p⟩=>?_);refine wpAny_Slice (au (j pins m σ H1 _ n p) λc t ⟨l,H2,y,pl,z⟩=>au (k pins t σ H2 _ y z) λd a ⟨u,f,B,pu,C⟩=>?_);rw[evalPart_none];refine wpAny_pure ?_;have D:Inv X pins σ f {a with heap:=a.heap.push {cls:=.type "slice",data:=.fields #[c,d,.none]}}:=B.kept (t':=a.toks) λb J q=>get?_push_of_some _ q;obtain⟨T,id,E,F,G⟩:=g pins {a with heap:=a.heap.push {cls:=.type "slice",data:=.fields #[c,d,.none]}} σ f x v c d l u a.heap.objs.size Q D o (Heap.IsSliceOf.new ..) pl pu C;show wpAny (model X.prog X.w) X.A (subscriptTail e (.Slice lo hi none p2) v (.ref a.heap.objs.size)) (EP X pins σ Q) X.xe {a with heap:=a.heap.push {cls:=.type "slice",data:=.fields #[c,d,.none]}};exact tail_any (ops:=[.ref a.heap.objs.size,v]) F E G (by with_unfolding_all rfl)
def gU(xs:List V)(lo hi:Option Int):List V:=(xs.drop (HT.av xs.length 0 lo)).take (HT.av xs.length xs.length hi - HT.av xs.length 0 lo)
theorem uu(xs:List V)(lo hi:Option Int):(gU xs lo hi).length<=xs.length:=by
 unfold gU;rw[length_take,length_drop];omega
def Jy(K:PySem.W.Frag):V->Option Int->Option Int->Hp->VK->Prop:=λx lo hi H Q=>∃a xs,x=.ref a/\aN K H a xs/\
 ¬(HT.av xs.length 0 lo=0/\HT.av xs.length xs.length hi=xs.length)/\∀p,H p=none->Q (.ref p) (upd H p (.tup (gU xs lo hi)))
theorem zP:gQ X (Jy X.K):=by
 intro pins s σ H x v j k lo hi l Q I f hs pl pu h;obtain⟨a,xs,rfl,g,i,q⟩:=h;cases f;obtain⟨its,r,d,e⟩:=I.tuple g;have c:its.toArray.size=xs.length:=by rw[size_toArray];exact r.length.symm
 refine⟨"tuple",_,PyProof.Rows.slot_tuple_getitem.lookup,d.typeIs,?_⟩;refine HT.Eu d hs pl pu (by rw[c];exact i) ?_ (by rw[c];exact e);rw[c];refine⟨.ref s.heap.objs.size,_,I.laid (t':=s.toks) (o:=.tup (gU xs lo hi)) (λb m q=>get?_push_of_some _ q) (le_refl _) ?_,rfl,q _ (I.hok.fresh (le_refl _))⟩;exact⟨le_trans (uu xs lo hi) e,_,(r.drop (HT.av xs.length 0 lo)).take (HT.av xs.length xs.length hi - HT.av xs.length 0 lo),gR.new _ _⟩
def Jv(K:PySem.W.Frag):R2:=λx y H Q=>∃a b xs ys,x=.ref a/\y=.ref b/\aN K H a xs/\aN K H b ys/\xs≠[]/\xs.length+ys.length<=sizeLine/\
 (ys=[]->Q (.ref a) H)/\(ys≠[]->∀p,H p=none->Q (.ref p) (upd H p (.tup (xs++ys))))
theorem Vals.qN{xs:List V}{a:List Value}(r:Vals xs a):a=[]↔xs=[]:=by
 cases r with
 |nil=>simp
 |cons _ _=>simp
theorem HK:aM X (binaryOp .Add) (Jv X.K):=by
 intro pins s σ H x y v u Q I g i h;obtain⟨a,b,xs,ys,rfl,rfl,j,k,l,e,m,n⟩:=h;cases g;cases i;obtain⟨its,d,p1,_⟩:=I.tuple j;obtain⟨f,c,p2,_⟩:=I.tuple k;refine HT.BS p1 p2 (λz=>l (d.qN.mp z)) (λz=>⟨.ref a,H,I,rfl,m (c.qN.mp z)⟩) (λz=>?_) (by rw[<-d.length,<-c.length];exact e);refine⟨.ref s.heap.objs.size,_,I.laid (t':=s.toks) (o:=.tup (xs++ys)) (λb p q=>get?_push_of_some _ q) (le_refl _) ?_,rfl,n (λw=>z (c.qN.mpr w)) _ (I.hok.fresh (le_refl _))⟩;exact⟨by rw[length_append];exact e,_,d.append c,gR.new _ _⟩
end
def gD(n:Nat)(i:Int):Option Nat:=if 0<=i then (if i<n then some i.toNat else none) else if -(n:Int)<=i then some (i+n).toNat else none
def bW{α:Type}(xs:List α)(i:Int):Option α:=(gD xs.length i).bind λj=>xs[j]?
theorem F3{n:Nat}{i:Int}{j:Nat}(h:gD n i=some j):seqIndex? i n=some j/\j<n/\-(n:Int)<=i/\i<n:=by
 unfold gD at h;by_cases h0:0<=i
 .rw[if_pos h0] at h
  by_cases h1:i<n
  .rw[if_pos h1] at h
   have e:i.toNat=j:=Option.some.inj h;exact⟨by rw[seqIndex_of h0 h1,e],by omega,by omega,h1⟩
  .rw[if_neg h1] at h;cases h
 .rw[if_neg h0] at h
  by_cases h1: -(n:Int)<=i
  .rw[if_pos h1] at h
   have e:(i+n).toNat=j:=Option.some.inj h;exact⟨by rw[seqIndex_neg (by omega) h1,e],by omega,h1,by omega⟩
  .rw[if_neg h1] at h;cases h
theorem oZ{α:Type}{xs:List α}{i:Int}{v:α}(h:bW xs i=some v):∃j,seqIndex? i xs.length=some j/\xs[j]?=some v/\j<xs.length/\-(xs.length:Int)<=i/\i<xs.length:=by
 unfold bW at h;cases e:gD xs.length i with
 |none=>rw[e] at h;cases h
 |some j=>
  rw[e] at h;obtain⟨h1,h2,a,b⟩:=F3 e;exact⟨j,h1,h,h2,a,b⟩
theorem tL{α:Type}{xs:List α}{j:Nat}{v:α}(h:xs[j]?=some v):bW xs (j:Int)=some v:=by
 have a:j<xs.length:=(List.getElem?_eq_some_iff.mp h).1;have e:gD xs.length (j:Int)=some j:=by
  unfold gD;rw[if_pos (by omega),if_pos (by omega)];simp
 unfold bW;rw[e];exact h
def oH(b:Expr):Prop:=∀o i,subscripted b false o i=operate [o,i] (getItem o i)
def fD(X:Cx)(r:R2):Prop:=
 ∀(value slice:Expr) (pins:aD) (s:Shared) (σ:St) (H:Hp) (x y:V) (v u:Value) (Q:VK),Inv X pins σ H s->RelV x v->RelV y u->r x y H Q->
  subscripted slice false v u=operate [v,u] (getItem v u)->wpAny (model X.prog X.w) X.A (subscriptTail value slice v u) (EP X pins σ Q) X.xe s
def oE(X:Cx)(id:String)(r:V->List V->Hp->VK->Prop):Prop:=
 ∀(pins:aD) (s:Shared) (σ:St) (H:Hp) (x:V) (xs:List V) (v:Value) (us:List Value) (Q:VK),Inv X pins σ H s->RelV x v->Vals xs us->r x xs H Q->
  wpAny (model X.prog X.w) X.A (call (.builtin id) (v::us)) (EP X pins σ Q) X.xe s
section
variable{X:Cx}{a b:Expr}{ta tb:TE}{pos:Pos}
theorem fD.or{r r':R2}(h:fD X r)(h':fD X r'):fD X (λx y H Q=>r x y H Q\/r' x y H Q):=by
 intro value slice pins s σ H x y v u Q I a b q hs;rcases q with q|q
 .exact h value slice pins s σ H x y v u Q I a b q hs
 .exact h' value slice pins s σ H x y v u Q I a b q hs
theorem IB{r:R2}(c:fD X r)(d:PE X a ta)(e:PE X b tb)(hs:oH b):PE X (.Subscript a b pos) (kK r ta tb):=by
 intro pins s σ H Q I h;exact Subscript_ (o7 d e I h λv u f x y H2 g i j q=>c a b pins f σ H2 x y v u Q g i j q (hs _ _))
def yE(K:PySem.W.Frag):R2:=λx y H Q=>∃p xs i v,x=.ref p/\y=.int i/\aI K H p xs/\bW xs i=some v/\Q v H
def yG(K:PySem.W.Frag):R2:=λx y H Q=>∃p xs i v,x=.ref p/\y=.int i/\aN K H p xs/\bW xs i=some v/\Q v H
def yF:R2:=λx y H Q=>∃z i c,x=.str z/\y=.int i/\z.length<=sizeLine/\bW z.cps.toList i=some c/\Q (.str ⟨#[c]⟩) H
theorem F5:fD X (yE X.K):=by
 intro value slice pins s σ H x y v u Q I d e h hs;obtain⟨p,xs,i,z,rfl,rfl,f,g,q⟩:=h;cases d;obtain⟨t,rfl⟩:=e;obtain⟨its,r,pl,n⟩:=I.list f;obtain⟨j,h1,h2,o,k,l⟩:=oZ g;obtain⟨w,c,a⟩:=r.get h2;have m:=r.length;have A:=jY;have fin:EP X pins σ Q w s:=⟨z,H,I,a,q⟩;by_cases h0:0<=i
 .have b:i.toNat=j:=by
   rw[seqIndex_of h0 l] at h1;exact Option.some.inj h1
  exact item_listR pl.isList h0 (by omega) (by rw[b];simpa using c) fin hs
 .have b:(i+(its.toArray.size:Int)).toNat=j:=by
   rw[seqIndex_neg (by omega) k] at h1;rw[size_toArray,<-m];exact Option.some.inj h1
  exact subscriptTail_builtinR (x:=w) pl.isList.typeIs slot_list_getitem.lookup
   (wpAny_getItem_list_neg (Q:=λr s'=>r=w/\EP X pins σ Q r s') pl.isList (by omega) (by rw[size_toArray]<;>omega) (by omega) (by rw[b];simpa using c) ⟨rfl,fin⟩) hs
theorem F8:fD X (yG X.K):=by
 intro value slice pins s σ H x y v u Q I b c h hs;obtain⟨p,xs,i,z,rfl,rfl,d,e,q⟩:=h;cases b;obtain⟨t,rfl⟩:=c;obtain⟨its,r,pl,k⟩:=I.tuple d;obtain⟨j,h1,h2,l,m,n⟩:=oZ e;obtain⟨w,f,a⟩:=r.get h2;have g:=r.length;have o:=jY;have fin:EP X pins σ Q w s:=⟨z,H,I,a,q⟩;exact subscriptTail_builtinR (x:=w) pl.typeIs slot_tuple_getitem.lookup
  (getItem_tuple (j:=j) (Q:=λr s'=>r=w/\EP X pins σ Q r s') pl (by omega) (by omega) (by rw[size_toArray,<-g];exact h1) (by simpa using f) ⟨rfl,fin⟩) hs
theorem F7:fD X yF:=by
 intro value slice pins s σ H x y v u Q I a b h hs;obtain⟨z,i,c,rfl,rfl,m,d,q⟩:=h;obtain⟨t,rfl⟩:=a;obtain⟨t',rfl⟩:=b;obtain⟨j,h1,h2,n,e,f⟩:=oZ d;have g:z.cps.toList.length=z.length:=by simp[Str.length]
 rw[g] at h1 e f;have o:=jY;exact tail_any (typeIs_str s z t) slot_str_getitem.lookup (getItem_str (c:=c) (by
  have k:decide (i< -(2 ^ 63:Int))=false:=decide_eq_false (by omega);have l:decide (i≥2 ^ 63)=false:=decide_eq_false (by omega);rw[k,l,Bool.or_false]) (by rw[h1];simpa using h2) ⟨.str ⟨#[c]⟩,H,I.tok _,⟨_,rfl⟩,q⟩) hs
def yz(K:PySem.W.Frag):R2:=λx y H Q=>yE K x y H Q\/yG K x y H Q\/yF x y H Q
theorem F6:fD X (yz X.K):=F5.or (F8.or F7)
theorem KQ(lo hi:Option Int)(n:Nat):(sliceBounds lo hi none n).1=((HT.av n 0 lo:Nat):Int)/\(sliceBounds lo hi none n).2.1=((HT.av n n hi:Nat):Int)/\(sliceBounds lo hi none n).2.2=1:=by
 refine⟨?_,?_,rfl⟩
 .cases lo with
  |none=>simp[sliceBounds,HT.av]
  |some i=>
   simp only[sliceBounds,HT.av,getD_none,show(1:Int)>0 by decide,if_true];by_cases h:i<0
   .simp only[h,if_true]<;>omega
   .simp only[h,if_false]<;>omega
 .cases hi with
  |none=>simp[sliceBounds,HT.av]
  |some i=>
   simp only[sliceBounds,HT.av,getD_none,show(1:Int)>0 by decide,if_true];by_cases h:i<0
   .simp only[h,if_true]<;>omega
   .simp only[h,if_false]<;>omega
theorem KN(its:List Value)(lo hi:Option Int):slicePick its.toArray lo hi none=((its.drop (HT.av its.length 0 lo)).take (HT.av its.length its.length hi - HT.av its.length 0 lo)).toArray:=by
 obtain⟨h1,h2,a⟩:=KQ lo hi its.toArray.size;unfold slicePick;rw[h1,h2,a];simp only[sliceRange_one,pick_run,size_toArray]<;>rfl
def Jx(K:PySem.W.Frag):V->Option Int->Option Int->Hp->VK->Prop:=λx lo hi H Q=>∃a xs,x=.ref a/\aI K H a xs/\∀p,H p=none->Q (.ref p) (upd H p (.lst (gU xs lo hi)))
theorem KJ:gQ X (Jx X.K):=by
 intro pins s σ H x v i j lo hi k Q I e hs pl pu h;obtain⟨a,xs,rfl,f,q⟩:=h;cases e;obtain⟨its,r,d,g⟩:=I.list f;have c:=r.length;refine⟨"list",_,slot_list_getitem.lookup,d.isList.typeIs,?_⟩;refine wpAny_getItem_list_slice d.isList hs pl pu .none (by simp) ?_ (by rw[size_toArray]<;>omega);rw[KN,<-c];refine⟨.ref s.heap.objs.size,_,I.laid (t':=s.toks) (o:=.lst (gU xs lo hi)) (λb l q=>get?_push_of_some _ q) (le_refl _) ?_,rfl,q _ (I.hok.fresh (le_refl _))⟩;exact⟨le_trans (uu xs lo hi) g,_,0,(r.drop (HT.av xs.length 0 lo)).take (HT.av xs.length xs.length hi - HT.av xs.length 0 lo),get?_push_size _ rfl⟩
def fZ:V->Bool
 |.ak=>true
 |.bl _=>true
 |.int _=>true
 |.str _=>true
 |_=>false
def fh:V->V->Bool
 |.ak,.ak=>true
 |.bl a,.bl b=>a==b
 |.bl a,.int b=>(if a then 1 else 0)==b
 |.int a,.bl b=>a==(if b then 1 else 0)
 |.int a,.int b=>a==b
 |.str a,.str b=>a==b
 |_,_=>false
theorem DB{A:Around}{s:Shared}{y x:V}{u v:Value}(d:RelV y u)(c:RelV x v)(f:fZ y=true)(e:fZ x=true):SeqAt.EqAt A s u v (fh y x):=by
 cases y with
 |ak=>
  cases d;cases x with
  |ak=>cases c;exact SeqAt.EqAt.same _
  |bl b=>cases c;exact SeqAt.EqAt.none_bool b
  |int b=>obtain⟨t,rfl⟩:=c;exact SeqAt.EqAt.none_int b t
  |str b=>obtain⟨t,rfl⟩:=c;exact SeqAt.EqAt.none_str b t
  |_=>exact absurd (show false=true from e) Bool.false_ne_true
 |bl a=>
  cases d;cases x with
  |ak=>cases c;exact SeqAt.EqAt.bool_none a
  |bl b=>cases c;exact SeqAt.EqAt.bool_bool a b
  |int b=>obtain⟨t,rfl⟩:=c;exact SeqAt.EqAt.bool_int a b t
  |str b=>obtain⟨t,rfl⟩:=c;exact SeqAt.EqAt.bool_str a b t
  |_=>exact absurd (show false=true from e) Bool.false_ne_true
 |int a=>
  obtain⟨t',rfl⟩:=d;cases x with
  |ak=>cases c;exact SeqAt.EqAt.int_none a t'
  |bl b=>cases c;exact SeqAt.EqAt.int_bool a t' b
  |int b=>obtain⟨t,rfl⟩:=c;exact SeqAt.EqAt.int_int a t' b t
  |str b=>obtain⟨t,rfl⟩:=c;exact SeqAt.EqAt.int_str a t' b t
  |_=>exact absurd (show false=true from e) Bool.false_ne_true
 |str a=>
  obtain⟨t',rfl⟩:=d;cases x with
  |ak=>cases c;exact SeqAt.EqAt.str_none a t'
  |bl b=>cases c;exact SeqAt.EqAt.str_bool a t' b
  |int b=>obtain⟨t,rfl⟩:=c;exact SeqAt.EqAt.str_int a t' b t
  |str b=>obtain⟨t,rfl⟩:=c;exact SeqAt.EqAt.str_str a t' b t
  |_=>exact absurd (show false=true from e) Bool.false_ne_true
 |_=>exact absurd (show false=true from f) Bool.false_ne_true
def dQ(x:V)(u:Value):Bool:=match u with
 |.none=>fh .ak x
 |.bool b=>fh (.bl b) x
 |.int i _=>fh (.int i) x
 |.str z _=>fh (.str z) x
 |_=>false
theorem vc{x y:V}{u:Value}(r:RelV y u)(f:fZ y=true):dQ x u=fh y x:=by
 cases y with
 |ak=>cases r;rfl
 |bl b=>cases r;rfl
 |int i=>obtain⟨t,rfl⟩:=r;rfl
 |str z=>obtain⟨t,rfl⟩:=r;rfl
 |_=>exact absurd (show false=true from f) Bool.false_ne_true
theorem jB{x:V}:∀{xs:List V} {a:List Value},Vals xs a->xs.all fZ=true->a.any (dQ x)=xs.any λy=>fh y x
 |_,_,.nil,_=>rfl
 |y::xs,u::a,.cons r t,f=>by
  rw[List.all_cons,and_eq_true] at f;rw[any_cons,any_cons,vc r f.1,jB t f.2]
theorem j0{A:Around}{s:Shared}{x:V}{v:Value}(b:RelV x v)(c:fZ x=true):∀{xs:List V} {a:List Value},Vals xs a->xs.all fZ=true->∀u∈a,SeqAt.EqAt A s u v (dQ x u)
 |_,_,.nil,_=>λu hu=>by cases hu
 |y::xs,u::a,.cons r t,f=>λd hu=>by
  rw[List.all_cons,and_eq_true] at f;rcases mem_cons.mp hu with rfl|hu
  .rw[vc r f.1];exact DB r b f.1 c
  .exact j0 b c t f.2 d hu
def mu(x:V)(xs:List V):Bool:=xs.any λy=>fh y x
def rj(K:PySem.W.Frag)(neg:Bool):R2:=λx y H Q=>∃p xs,y=.ref p/\(aI K H p xs\/aN K H p xs)/\fZ x=true/\xs.all fZ=true/\Q (.bl (if neg then !mu x xs else mu x xs)) H
theorem HS:aM X (compareOp .In) (rj X.K false):=by
 intro pins s σ H x y v u Q I b d h;obtain⟨p,xs,rfl,hq,c,fs,q⟩:=h;cases d;rcases hq with hq|hq
 .obtain⟨its,r,pl,e⟩:=I.list hq
  refine SeqAt.in_listAt (dQ x) pl.isList (λw a=>j0 b c r fs w (by simpa using a)) ⟨.bl _,H,I,rfl,?_⟩;rw[show its.toArray.any (dQ x)=its.any (dQ x) by simp,jB r fs];exact q
 .obtain⟨its,r,pl,e⟩:=I.tuple hq
  refine SeqAt.in_tupleAt (dQ x) pl (λw a=>j0 b c r fs w (by simpa using a)) ⟨.bl _,H,I,rfl,?_⟩;rw[show its.toArray.any (dQ x)=its.any (dQ x) by simp,jB r fs];exact q
theorem H_:aM X (compareOp .NotIn) (rj X.K true):=by
 intro pins s σ H x y v u Q I b d h;obtain⟨p,xs,rfl,hq,c,fs,q⟩:=h;cases d;rcases hq with hq|hq
 .obtain⟨its,r,pl,e⟩:=I.list hq
  refine SeqAt.notIn_listAt (dQ x) pl.isList (λw a=>j0 b c r fs w (by simpa using a)) ⟨.bl _,H,I,rfl,?_⟩;rw[show its.toArray.any (dQ x)=its.any (dQ x) by simp,jB r fs];exact q
 .obtain⟨its,r,pl,e⟩:=I.tuple hq
  refine SeqAt.notIn_tupleAt (dQ x) pl (λw a=>j0 b c r fs w (by simpa using a)) ⟨.bl _,H,I,rfl,?_⟩;rw[show its.toArray.any (dQ x)=its.any (dQ x) by simp,jB r fs];exact q
theorem BF:ck X (.builtin "len") (λxs H Q=>∃p ys,xs=[.ref p]/\(aI X.K H p ys\/aN X.K H p ys)/\Q (.int ys.length) H):=by
 intro pins s σ H xs d Q I r h;obtain⟨p,ys,rfl,hq,q⟩:=h;obtain⟨u,rfl,b⟩:=vals1 r;cases b;have e:=jY;rcases hq with hq|hq
 .obtain⟨its,r',pl,c⟩:=I.list hq
  have a:=r'.length;exact Calls.call_len_list pl.isList (by simp only[size_toArray]<;>omega) ⟨.int ys.length,H,I.tok _,⟨s.toks+1,by rw[size_toArray,a]⟩,q⟩
 .obtain⟨its,r',pl,c⟩:=I.tuple hq
  have a:=r'.length;exact len_tuple pl (by simp only[size_toArray]<;>omega) ⟨.int ys.length,H,I.tok _,⟨s.toks+1,by rw[size_toArray,a]⟩,q⟩
theorem BG:ck X (.builtin "len") (λxs H Q=>∃z,xs=[.str z]/\z.length<=sizeLine/\Q (.int z.length) H):=by
 intro pins s σ H xs a Q I r h;obtain⟨z,rfl,b,q⟩:=h;obtain⟨u,rfl,t,rfl⟩:=vals1 r;have c:=jY;exact len_str (by omega) ⟨.int z.length,H,I.tok _,⟨_,rfl⟩,q⟩
theorem ck.or{f:Value}{r r':List V->Hp->VK->Prop}(h:ck X f r)(h':ck X f r'):ck X f (λxs H Q=>r xs H Q\/r' xs H Q):=by
 intro pins s σ H xs a Q I rs q;rcases q with q|q
 .exact h pins s σ H xs a Q I rs q
 .exact h' pins s σ H xs a Q I rs q
theorem BI:ck X (.type "list") (λxs H Q=>∃p ys,xs=[.ref p]/\(aI X.K H p ys\/aN X.K H p ys)/\∀l,H l=none->Q (.ref l) (upd H l (.lst ys))):=by
 intro pins s σ H xs g Q I r h;obtain⟨p,ys,rfl,hq,q⟩:=h;obtain⟨u,rfl,f⟩:=vals1 r;cases f;have fin:∀(its:List Value),Vals ys its->ys.length<=sizeLine->∀(h':Heap) (c':Nat),(∀b o',s.heap.get? b=some o'->h'.get? b=some o')->
   h'.get? s.heap.objs.size=some {cls:=.type "list",dict:=none,data:=.seq its.toArray c',slots:= #[]}->EP X pins σ Q (.ref s.heap.objs.size) {s with heap:=h'}:=λits r' a h' c' kp e=>
  ⟨.ref s.heap.objs.size,_,I.laid (t':=s.toks) kp (le_refl _) (show aY X.prog X.w _ h' _ (.lst ys) from⟨a,its,c',r',e⟩),rfl,q _ (I.hok.fresh (le_refl _))⟩
 rcases hq with hq|hq
 .obtain⟨its,r',pl,a⟩:=I.list hq
  have c:=r'.length;obtain⟨o,d,hc,n,hd⟩:=pl.isList;exact call_list_seq p (.inl rfl) d hc hd (λh' c' kp e=>fin its r' a h' c' kp e) (by simp only[size_toArray]<;>omega)
 .obtain⟨its,r',pl,a⟩:=I.tuple hq
  have c:=r'.length;obtain⟨o,d,hc,n,hd⟩:=pl;exact call_list_seq p (.inr rfl) d hc hd (λh' c' kp e=>fin its r' a h' c' kp e) (by simp only[size_toArray]<;>omega)
theorem lA:ck X (.type "tuple") (λxs H Q=>∃p ys,xs=[.ref p]/\((aI X.K H p ys/\∀l,H l=none->Q (.ref l) (upd H l (.tup ys)))\/(aN X.K H p ys/\Q (.ref p) H))):=by
 intro pins s σ H xs j Q I r h;obtain⟨p,ys,rfl,h⟩:=h;obtain⟨u,rfl,g⟩:=vals1 r;cases g;rcases h with⟨a,q⟩|⟨a,q⟩
 .obtain⟨its,r',pl,c⟩:=I.list a
  have d:=r'.length;refine call_tuple_list pl.isList (λh' kp=>?_) (by simp only[size_toArray]<;>omega);have f:Inv X pins σ H {s with heap:=h'}:=I.kept (t':=s.toks) kp;have i:Inv X pins σ (upd H h'.objs.size (.tup ys)) {s with heap:=h'.push {cls:=.type "tuple",data:=.seq its.toArray}}:=
   f.laid (t':=s.toks) (λb o e=>get?_push_of_some _ e) (le_refl _) (show aY X.prog X.w _ _ _ (.tup ys) from⟨c,its,r',gR.new _ _⟩)
  exact⟨.ref h'.objs.size,_,i,rfl,q _ (f.hok.fresh (le_refl _))⟩
 .obtain⟨its,r',pl,c⟩:=I.tuple a
  exact call_tuple_same pl ⟨.ref p,H,I,rfl,q⟩
def rV(K:PySem.W.Frag)(T:String)(x:V)(H:Hp):Prop:=match x with
 |.str _=>T="str"
 |.int _=>T="int"
 |.ref p=>(T="list"/\∃xs,aI K H p xs)\/(T="tuple"/\∃o,K.lookup p=some o/\o.cls=.type "tuple"/\o.dict=none)\/
  (T="dict"/\((∃kvs,H p=some (.dK kvs))\/∃kvs,H p=some (.dT kvs)))\/(T="set"/\∃S n,H p=some (.set S n))
 |_=>False
theorem L4{pins:aD}{σ:St}{H:Hp}{s:Shared}{T:String}{x:V}{v:Value}(I:Inv X pins σ H s)(r:RelV x v)(ty:rV X.K T x H):
  s.TypeIs v T/\∀a,v=.ref a->∃f,s.heap.get? a=some f/\f.dict=none:=by
 cases x with
 |str z=>
  obtain⟨t,rfl⟩:=r;cases (show T="str" from ty);exact⟨typeIs_str s z t,λ_ e=>nomatch e⟩
 |int i=>
  obtain⟨t,rfl⟩:=r;cases (show T="int" from ty);exact⟨typeIs_int s i t,λ_ e=>nomatch e⟩
 |ref p=>
  cases r;rcases ty with⟨rfl,xs,g⟩|⟨rfl,o,b,hc,hd⟩|⟨rfl,b⟩|⟨rfl,S,n,b⟩
  .obtain⟨its,_,pl,_⟩:=I.list g
   refine⟨pl.isList.typeIs,λa e=>?_⟩;cases e;obtain⟨o,n,e,c,hd,_⟩:=pl;exact⟨o,e,hd⟩
  .refine⟨⟨o,I.cS p o b,hc⟩,λa e=>?_⟩
   cases e;exact⟨o,I.cS _ o b,hd⟩
  .have z:∃o,s.heap.get? p=some o/\o.ExactDict:=by
    rcases b with⟨kvs,b⟩|⟨kvs,b⟩
    .obtain⟨_,_,_,_,o,_,_,e,ex,_⟩:=I.hok p _ b
     exact⟨o,e,ex⟩
    .obtain⟨_,_,_,_,o,_,_,e,ex,_⟩:=I.hok p _ b
     exact⟨o,e,ex⟩
   obtain⟨o,e,ex⟩:=z;refine⟨⟨o,e,ex.1⟩,λa d=>?_⟩;cases d;exact⟨o,e,ex.2.1⟩
  .obtain⟨o,_,_,_,e,ex,_⟩:=I.hok p _ b
   refine⟨⟨o,e,ex.1⟩,λa d=>?_⟩;cases d;exact⟨o,e,ex.2.1⟩
 |_=>exact False.elim ty
def Ll(K:PySem.W.Frag)(T:String)(r:V->List V->Hp->VK->Prop)(to:TE)(t:TA):TE:=λσ H Q=>to σ H λx H1=>rV K T x H1/\t σ H1 λxs H2=>r x xs H2 Q
variable{o e:Expr}{es:List Expr}{to:TE}{t:TA}{name:Str}{apos cpos:Pos}{T id:String}{r:V->List V->Hp->VK->Prop}
theorem x6(pa:PlainAttrs T)(slot:Slot T name id)(f:typeOf (.builtin id)=pure (.type "method_descriptor"))(k:oE X id r)(l:PE X o to)(m:PA X (e::es) t)
  (b:attributeBase o name X.env (eval o X.env)=eval o X.env:=by rfl)
  (d:((backTo cpos (starEach (e::es) X.env)).all (λx=> !x.1)&&(backToKw cpos (keywordEach [] X.env)).all (λx=>x.1.isSome)
   &&decide ((e::es).length+([]:List Keyword).length+(if ([]:List Keyword).isEmpty then 0 else 1)<30))=true:=by rfl)
  (c:(apos.endLine==cpos.line)=true:=by rfl)(hs:starEach (e::es) X.env=(false,eval e X.env)::starEach es X.env:=by rfl)(a:(backTo cpos (starEach es X.env)).any (·.1)=false:=by rfl):
  PE X (.Call (.Attribute o name apos) (e::es) [] cpos) (Ll X.K T r to t):=by
 intro pins s σ H Q I h
 refine wpAny_Call_method_late b d c rfl (au (l pins s σ H _ I h) λv n ⟨x,H1,g,i,ty,p⟩=> ?_)
 obtain⟨h1,h2⟩:=L4 g i ty
 refine⟨T,id,pa,slot,f,h1,h2,?_⟩
 have j:=m cpos pins n σ H1 _ g p
 rw[hs] at j ⊢
 refine Calls.callWith_builtin (by show(false||(backTo cpos (starEach es X.env)).any (·.1))=false;rw[a]<;>rfl) (Calls.evalArgs_plain ?_)
 exact au j λq u ⟨vs,H2,w,y,z⟩=>k pins u σ H2 x vs v q Q w i y z
end
def oB(X:Cx)(id:String)(r:V->List V->Hp->VK->Prop):Prop:=
 ∀(pins:aD) (s:Shared) (σ:St) (H:Hp) (x:V) (xs:List V) (v:Value) (us:List Value) (Q:VK),Inv X pins σ H s->RelV x v->Vals xs us->r x xs H Q->
  wpAny (model X.prog X.w) X.A (call (.builtin id) (v::us)) (EP X pins σ Q) X.xe s
theorem Vals.one:∀{x:V} {a:List Value},Vals [x] a->∃u,a=[u]/\RelV x u
 |_,_,.cons r .nil=>⟨_,rfl,r⟩
section
variable{X:Cx}{pins:aD}{σ:St}{H:Hp}{s:Shared}{l b:Addr}{xs ys zs:List V}
theorem Inv.xj{its its':List Value}{n:Nat}{f:Array Value->Array Value}{t':Nat}(I:Inv X pins σ H s)(a:H l=some (.lst xs))
  (e:s.heap.get? l=some {cls:=.type "list",data:=.seq its.toArray n})(b:f its.toArray=its'.toArray)(c:Vals ys its')(d:ys.length<=sizeLine):
  Inv X pins σ (upd H l (.lst ys)) {s with heap:=s.heap.update l (Obj.mapSeq f),toks:=t'}:=by
 have q:=PySem.IsL.update e f;rw[b] at q;refine I.write (x:=l) (e:=l) (by rw[a];exact trivial) (.inl rfl) (λi u g h=>(get?_update_other s.heap (Obj.mapSeq f) (Ne.symm g)).trans h) ⟨_,q⟩ ?_;exact⟨d,its',_,c,q⟩
theorem Inv.w_{its:List Value}{t':Nat}(I:Inv X pins σ H s)(a:Vals ys its)(b:ys.length<=sizeLine):
  Inv X pins σ (upd H s.heap.objs.size (.lst ys)) {s with heap:=s.heap.push {cls:=.type "list",data:=.seq its.toArray},toks:=t'}:=
 I.laid (λ_ _ q=>get?_push_of_some _ q) (le_refl _) ⟨b,its,0,a,get?_push_size _ rfl⟩
theorem Inv.fresh(I:Inv X pins σ H s):H s.heap.objs.size=none:=I.hok.fresh (le_refl _)
theorem Inv.jZ(I:Inv X pins σ H s)(a:H l=some (.lst xs)):xs.length<=sizeLine/\∃(its:List Value) (n:Nat),Vals xs its/\xs.length=its.length/\s.heap.get? l=some {cls:=.type "list",data:=.seq its.toArray n}:=by
 obtain⟨z,its,n,r,e⟩:=I.hok l _ a;exact⟨z,its,n,r,r.length,e⟩
theorem Ht{n:Nat}(h:n<=sizeLine):Builtin.List.listTooLong n=false:=by
 unfold Builtin.List.listTooLong;exact decide_eq_false (by omega)
end
section
variable{X:Cx}
def yv:V->List V->Hp->VK->Prop:=λx vs H Q=>∃l xs y,x=.ref l/\vs=[y]/\H l=some (.lst xs)/\xs.length<sizeLine/\Q .ak (upd H l (.lst (xs++[y])))
theorem iG:oB X "list.append" yv:=by
 intro pins s σ H x vs v f Q I b c h;obtain⟨l,xs,y,rfl,rfl,a,g,q⟩:=h;cases b;obtain⟨u,rfl,d⟩:=c.one;obtain⟨z,its,n,r,i,e⟩:=I.jZ a;refine call_meets F.slot_list_append ⟨_,e,rfl⟩ F.entry_list_append (F.args_list_append_2 _ _) (PySem.list_append l its.toArray n u (by rw[size_toArray];omega)) ⟨e,?_⟩;refine⟨.ak,_,I.xj (its':=its++[u]) a e (by simp) (r.append (.cons d .nil)) ?_,rfl,q⟩;rw[length_append,length_singleton];omega
def yy:V->List V->Hp->VK->Prop:=λx vs H Q=>∃l b xs zs,x=.ref l/\vs=[.ref b]/\H l=some (.lst xs)/\H b=some (.lst zs)/\xs.length+zs.length<=sizeLine/\Q .ak (upd H l (.lst (xs++zs)))
theorem qK:oB X "list.extend" yy:=by
 intro pins s σ H x vs v t Q I f g h;obtain⟨l,b,xs,zs,rfl,rfl,d,i,w,q⟩:=h;cases f;obtain⟨u,rfl,j⟩:=g.one;cases j;obtain⟨z,its,n,r,y,e⟩:=I.jZ d;obtain⟨A,a,k,m,o,p⟩:=I.jZ i;have hsz:its.toArray.size+a.toArray.size<=sizeLine:=by rw[size_toArray,size_toArray];omega
 have c:¬(!its.toArray.isEmpty&&Builtin.List.listTooLong (its.toArray.size+a.toArray.size))=true:=by
  rw[Ht hsz,Bool.and_false];exact Bool.false_ne_true
 refine call_meets F.slot_list_extend ⟨_,e,rfl⟩ F.entry_list_extend (F.args_list_extend_2 _ _)
  (AutoSeq1.list_extend_list_list_0 l its.toArray n b a.toArray k c (by rw[size_toArray];omega) (by omega)) ⟨e,p,?_⟩
 refine⟨.ak,_,I.xj (its':=its++a) d e (by simp) (r.append m) ?_,rfl,q⟩;rw[length_append];omega
def yw:R2:=λx y H Q=>∃l b xs zs,x=.ref l/\y=.ref b/\H l=some (.lst xs)/\H b=some (.lst zs)/\xs.length+zs.length<=sizeLine/\∀p,H p=none->Q (.ref p) (upd H p (.lst (xs++zs)))
theorem HH:aM X (binaryOp .Add) yw:=by
 intro pins s σ H x y v u Q I c d h;obtain⟨l,b,xs,zs,rfl,rfl,f,g,o,q⟩:=h;cases c;cases d;obtain⟨z,its,n,r,p,e⟩:=I.jZ f;obtain⟨t,a,w,i,j,k⟩:=I.jZ g;refine PySem.P.add_list e k ?_ (by rw[size_toArray,size_toArray];omega);have m:its.toArray++a.toArray=(its++a).toArray:=by simp
 rw[m];exact⟨.ref _,_,I.w_ (t':=s.toks) (r.append i) (by rw[length_append];omega),rfl,q _ I.fresh⟩
end
section
variable{prog:Program}{w:World}{A:Around}{E:aj}{s:Shared}
end
section
variable{X:Cx}
end
section
variable{κ:Type}[DecidableEq κ]
def cC(kvs:List (κ×V))(k:κ):Option V:=(kvs.find? λkv=>decide (kv.1=k)).map (·.2)
def putK(kvs:List (κ×V))(k:κ)(v:V):List (κ×V):=
 if (kvs.any λkv=>decide (kv.1=k))=true then kvs.map (λkv=>if kv.1=k then (kv.1,v) else kv) else kvs++[(k,v)]
theorem r9{p:κ×V}{r:List (κ×V)}{k:κ}(e:p.1=k):cC (p::r) k=some p.2:=by simp[cC,find?_cons,e]
theorem r8{p:κ×V}{r:List (κ×V)}{k:κ}(e:¬p.1=k):cC (p::r) k=cC r k:=by simp[cC,find?_cons,e]
theorem Ak(k:κ):∀kvs:List (κ×V),(kvs.any λa=>decide (a.1=k))=(cC kvs k).isSome
 |[]=>rfl
 |p::r=>by
  rw[any_cons];by_cases e:p.1=k
  .simp only[r9 e,decide_eq_true e,Bool.true_or,Option.isSome_some]
  .rw[r8 e,decide_eq_false e,Bool.false_or];exact Ak k r
theorem qz(kvs:List (κ×V))(k:κ)(v:V):(putK kvs k v).length<=kvs.length+1:=by
 unfold putK;split
 .rw[length_map];omega
 .rw[length_append,length_cons,length_nil];omega
theorem fG.jT{o:Option V}{u:Option Value}(r:fG o u):o.isSome=u.isSome:=by
 cases o with
 |none=>cases u with
  |none=>rfl
  |some _=>exact(show False from r).elim
 |some _=>cases u with
  |none=>exact(show False from r).elim
  |some _=>rfl
theorem KV.val{kvs:List (κ×V)}{vs:List (κ×Value)}(r:KV kvs vs)(k:κ):fG (cC kvs k) (valueAt vs k):=by
 unfold KV at r;induction r with
 |nil=>exact True.intro
 | @cons p q ps qs h t c=>
  obtain⟨h1,h2⟩:=h;by_cases e:p.1=k
  .have a:q.1=k:=h1.symm.trans e
   have b:valueAt (q::qs) k=some q.2:=by simp[valueAt,find?_cons,a]
   rw[r9 e,b];exact h2
  .have a:¬q.1=k:=λz=>e (h1.trans z)
   have b:valueAt (q::qs) k=valueAt qs k:=by simp[valueAt,find?_cons,a]
   rw[r8 e,b];exact c
theorem KV.any{kvs:List (κ×V)}{vs:List (κ×Value)}(r:KV kvs vs)(k:κ):(kvs.any λa=>decide (a.1=k))=vs.any λa=>decide (a.1=k):=by
 unfold KV at r;induction r with
 |nil=>rfl
 |cons h t b=>rw[any_cons,any_cons,b,h.1]
theorem KV.repl{kvs:List (κ×V)}{vs:List (κ×Value)}(r:KV kvs vs)(k:κ){y:V}{u:Value}(b:RelV y u):
  KV (kvs.map λa=>if a.1=k then (a.1,y) else a) (vs.map λa=>if a.1=k then (a.1,u) else a):=by
 unfold KV at r ⊢;induction r with
 |nil=>exact .nil
 | @cons p q ps qs h t c=>
  rw[map_cons,map_cons];refine .cons ?_ c;obtain⟨h1,h2⟩:=h;by_cases e:p.1=k
  .rw[if_pos e,if_pos (h1.symm.trans e)];exact⟨h1,b⟩
  .rw[if_neg e,if_neg (λz=>e (h1.trans z))];exact⟨h1,h2⟩
theorem KV.put{kvs:List (κ×V)}{vs:List (κ×Value)}(r:KV kvs vs)(k:κ){y:V}{u:Value}(a:RelV y u):KV (putK kvs k y) (stored vs k u):=by
 unfold putK stored;rw[r.any k];by_cases e:(vs.any λb=>decide (b.1=k))=true
 .rw[if_pos e,if_pos e];exact r.repl k a
 .rw[if_neg e,if_neg e];exact Paired.snoc r ⟨rfl,a⟩
theorem KV.length{kvs:List (κ×V)}{vs:List (κ×Value)}(r:KV kvs vs):kvs.length=vs.length:=Paired.length r
end
theorem iE{P:Program}{w:World}{k:Key}{u:Value}(r:RelV (kV k) u):(bP P w).is k u=true:=by
 cases k with
 |inl i=>obtain⟨t,e⟩:=(show ∃t,u=Value.int i t from r);subst e;exact G1 P w i t
 |inr x=>obtain⟨t,e⟩:=(show ∃t,u=Value.str x t from r);subst e;exact G2 P w x t
theorem wm{P:Program}{w:World}:∀{ks:List Key} {a:List Value},Vals (ks.map kV) a->ItemsAre (bP P w) ks a
 |[],_,r=>by rw[map_nil] at r;cases r;exact .nil
 |k::ks,_,r=>by
  rw[map_cons] at r;cases r with
  |cons h t=>exact .cons (iE h) (wm t)
abbrev KT(H:Hp):List (List Key×V)->List (List Key×Addr×Value)->Prop:=Paired λp q=>p.1=q.1/\H q.2.1=some (.tup (p.1.map kV))/\RelV p.2 q.2.2
theorem KT.val{H:Hp}{kvs:List (List Key×V)}{xs:List (List Key×Addr×Value)}(r:KT H kvs xs)(k:List Key):fG (cC kvs k) ((atKey xs k).map (·.2)):=by
 induction r with
 |nil=>exact True.intro
 | @cons p q ps qs h t c=>
  obtain⟨h1,_,h2⟩:=h;by_cases e:p.1=k
  .have a:q.1=k:=h1.symm.trans e
   have b:atKey (q::qs) k=some q.2:=by simp[atKey,find?_cons,a]
   rw[r9 e,b];exact h2
  .have a:¬q.1=k:=λz=>e (h1.trans z)
   have b:atKey (q::qs) k=atKey qs k:=by simp[atKey,find?_cons,a]
   rw[r8 e,b];exact c
theorem KT.repl{H:Hp}{kvs:List (List Key×V)}{xs:List (List Key×Addr×Value)}(r:KT H kvs xs)(k:List Key){y:V}{u:Value}(b:RelV y u):
  KT H (kvs.map λa=>if a.1=k then (a.1,y) else a) (xs.map (putAt k u)):=by
 induction r with
 |nil=>exact .nil
 | @cons p q ps qs h t c=>
  rw[map_cons,map_cons];refine .cons ?_ c;obtain⟨h1,h2,d⟩:=h;unfold putAt;by_cases e:p.1=k
  .rw[if_pos e,if_pos (h1.symm.trans e)];exact⟨h1,h2,b⟩
  .rw[if_neg e,if_neg (λz=>e (h1.trans z))];exact⟨h1,h2,d⟩
theorem KT.put{H:Hp}{kvs:List (List Key×V)}{xs:List (List Key×Addr×Value)}(r:KT H kvs xs)(k:List Key){b:Addr}{y:V}{u:Value}(c:H b=some (.tup (k.map kV)))(a:RelV y u):
  KT H (putK kvs k y) (storedH xs k b u):=by
 have e:(kvs.any λd=>decide (d.1=k))=(atKey xs k).isSome:=by
  rw[Ak,(r.val k).jT,isSome_map]
 unfold putK storedH;rw[e];by_cases q:(atKey xs k).isSome=true
 .rw[if_pos q,if_pos q];exact r.repl k a
 .rw[if_neg q,if_neg q];exact Paired.snoc r ⟨rfl,c,a⟩
theorem KT.keeps{H H':Hp}{kvs:List (List Key×V)}{xs:List (List Key×Addr×Value)}(r:KT H kvs xs)(a:∀b ys,H b=some (.tup ys)->H' b=some (.tup ys)):KT H' kvs xs:=
 Paired.ia r λ_ _ z=>⟨z.1,a _ _ z.2.1,z.2.2⟩
section
variable{P:Program}{w:World}{H:Hp}{h:Heap}{a:Addr}
theorem yL{u:HO}(ok:bx P w H h)(e:Rd H a u):aY P w H h a u:=e.ok ok
theorem i7{kvs:List (Key×V)}(ok:bx P w H h)(e:Rd H a (.dK kvs)):kvs.length<=sizeLine/\(a==sysModules)=false/\∃vs,KV kvs vs/\h.DictOf (bP P w) a vs:=
 show aY P w H h a (.dK kvs) from yL ok e
theorem lQ{kvs:List (Key×V)}(ok:bx P w H h)(e:H a=some (.dK kvs)):kvs.length<=sizeLine/\(a==sysModules)=false/\∃vs,KV kvs vs/\h.DictOf (bP P w) a vs:=i7 ok (.inl e)
theorem jW{ks:List Key}(ok:bx P w H h)(e:H a=some (.tup (ks.map kV))):(tupleKind (bP P w)).is h ks a:=by
 obtain⟨_,its,r,p⟩:=(show aY P w H h a (.tup (ks.map kV)) from ok a _ e);obtain⟨o,h1,h2,n,b⟩:=p.is;exact⟨o,its.toArray,n,h1,h2,b,by simpa using wm r⟩
theorem jN{kvs:List (List Key×V)}(ok:bx P w H h)(e:Rd H a (.dT kvs)):kvs.length<=sizeLine/\(a==sysModules)=false/\
  ∃xs,KT H kvs xs/\h.DictOfH (tupleKind (bP P w)) a xs:=by
 obtain⟨z,y,xs,r,o,es,ep,h1,h2,c,d,f⟩:=(show aY P w H h a (.dT kvs) from yL ok e);refine⟨z,y,xs,r,o,es,ep,h1,h2,c,d,λx hx=>?_,f⟩;have all:∀{l:List (List Key×V)} {m:List (List Key×Addr×Value)},KT H l m->∀x∈m,(tupleKind (bP P w)).is h x.1 x.2.1:=by
  intro l m q;induction q with
  |nil=>intro x hx;exact nomatch hx
  | @cons p q ps qs b t g=>
   intro x hx;rcases mem_cons.mp hx with e|hx
   .subst e
    exact jW ok (by rw[<-b.1];exact b.2.1)
   .exact g x hx
 exact all r x hx
theorem Dh{kvs:List (List Key×V)}(ok:bx P w H h)(e:H a=some (.dT kvs)):kvs.length<=sizeLine/\(a==sysModules)=false/\
 ∃xs,KT H kvs xs/\h.DictOfH (tupleKind (bP P w)) a xs:=jN ok (.inl e)
end
def iP(H:Hp)(a:Addr)(y:V)(r:Option V):Prop:=
 (∃kvs k,Rd H a (.dK kvs)/\y=kV k/\r=cC kvs k)\/∃kvs k b,Rd H a (.dT kvs)/\y=.ref b/\H b=some (.tup (k.map kV))/\r=cC kvs k
def jv(H:Hp)(a:Addr)(y v:V)(H':Hp):Prop:=
 (∃kvs k,H a=some (.dK kvs)/\y=kV k/\kvs.length<sizeLine/\H'=upd H a (.dK (putK kvs k v)))\/
 ∃kvs k b,H a=some (.dT kvs)/\y= .ref b/\H b=some (.tup (k.map kV))/\kvs.length<sizeLine/\H'=upd H a (.dT (putK kvs k v))
theorem jv.k{H:Hp}{a:Addr}{kvs:List (Key×V)}{k:Key}{v:V}(e:H a=some (.dK kvs))(b:kvs.length<sizeLine):jv H a (kV k) v (upd H a (.dK (putK kvs k v))):=.inl ⟨kvs,k,e,rfl,b,rfl⟩
section
variable{X:Cx}{pins:aD}{σ:St}{H:Hp}{s:Shared}{a:Addr}{y v:V}{u r:Value}{o:Option V}{A:Around}{E:aj}
theorem Inv.big(I:Inv X pins σ H s):sysModules<s.heap.objs.size:=by
 have h:mainGlobals<s.heap.objs.size:=(I.mod.glob.keeps I.bk).lt;exact lt_trans (by decide) h
theorem Cq{Q:aj}(n:A.units+1<cLine)(I:Inv X pins σ H s)(g:iP H a y (some v))(m:RelV y u)(h:∀d s',Inv X pins σ H s'->RelV v d->Q d s'):
  wpAny (model X.prog X.w) A (getItem (.ref a) u) Q E s:=by
 rcases g with⟨kvs,k,e,f,l⟩|⟨kvs,k,b,e,f,q,l⟩
 .subst f
  obtain⟨z,hd,vs,rel,dd⟩:=i7 I.hok e;obtain⟨d,i,c⟩:=fG.some_of (v:=v) (o:=valueAt vs k) (by rw[l];exact rel.val k);exact wpAny_getItem_of (iE m) dd.mapOf i (h d _ (I.tok _) c)
 .subst f
  cases (show u=Value.ref b from m);obtain⟨z,hd,xs,rel,dd⟩:=jN I.hok e;obtain⟨d,i,c⟩:=fG.some_of (v:=v) (o:=(atKey xs k).map (·.2)) (by rw[l];exact rel.val k);obtain⟨p,r,j⟩:=map_eq_some_iff.mp i;refine wpAny_getItem_heap (tupleKind_room_in1 n) (jW I.hok q) dd r ?_;rw[j];exact h d _ (I.tok _) c
theorem Cs{Q:aj}(f:A.units+1<cLine)(I:Inv X pins σ H s)(g:iP H a y o)(d:RelV y u)(h:∀s',Inv X pins σ H s'->Q (.bool o.isSome) s'):
  wpAny (model X.prog X.w) A (compareOp .In u (.ref a)) Q E s:=by
 rcases g with⟨kvs,k,e,c,l⟩|⟨kvs,k,b,e,c,i,l⟩
 .subst c
  obtain⟨z,hd,vs,rel,dd⟩:=i7 I.hok e;refine wpAny_in_of (iE d) hd dd.mapOf ?_;rw[<-(rel.val k).jT,<-l];exact h _ (I.tok _)
 .subst c
  cases (show u=Value.ref b from d);obtain⟨z,hd,xs,rel,dd⟩:=jN I.hok e;refine wpAny_in_heap (tupleKind_room_in1 f) (jW I.hok i) hd dd ?_;have q:=(rel.val k).jT;rw[isSome_map] at q;rw[<-q,<-l];exact h _ (I.tok _)
theorem CD{Q:aj}(f:A.units+1<cLine)(I:Inv X pins σ H s)(g:iP H a y o)(d:RelV y u)(h:∀s',Inv X pins σ H s'->Q (.bool (!o.isSome)) s'):
  wpAny (model X.prog X.w) A (compareOp .NotIn u (.ref a)) Q E s:=by
 rcases g with⟨kvs,k,e,c,l⟩|⟨kvs,k,b,e,c,i,l⟩
 .subst c
  obtain⟨z,hd,vs,rel,dd⟩:=i7 I.hok e;refine wpAny_notIn_of (iE d) hd dd.mapOf ?_;rw[<-(rel.val k).jT,<-l];exact h _ (I.tok _)
 .subst c
  cases (show u=Value.ref b from d);obtain⟨z,hd,xs,rel,dd⟩:=jN I.hok e;refine wpAny_notIn_heap (tupleKind_room_in1 f) (jW I.hok i) hd dd ?_;have q:=(rel.val k).jT;rw[isSome_map] at q;rw[<-q,<-l];exact h _ (I.tok _)
theorem lM{h':Heap}{t':Nat}{c:HO}(I:Inv X pins σ H s)(d:jx (H a))(hs:SameBut a s.heap h')(f:∃q,h'.get? a=some q)(new:aY X.prog X.w (upd H a c) h' a c):
  Inv X pins σ (upd H a c) {s with heap:=h',toks:=t'}:=
 I.write (x:=a) (e:=a) d (.inl rfl) (λb q g z=>(hs.2 b g).trans z) f new
theorem pL{P:Program}{w:World}{H':Hp}{h':Heap}{kvs:List (Key×V)}{vs:List (Key×Value)}(z:kvs.length<=sizeLine)(hd:(a==sysModules)=false)(rel:KV kvs vs)(dd:h'.DictOf (bP P w) a vs):
 aY P w H' h' a (.dK kvs):=⟨z,hd,vs,rel,dd⟩
theorem CG{H':Hp}{Q:Unit->Shared->Prop}(B:A.units+1<cLine)(I:Inv X pins σ H s)(g:jv H a y v H')(o:RelV y u)(p:RelV v r)(h:∀s',Inv X pins σ H' s'->Q () s'):
  wpAny (model X.prog X.w) A (setItem (.ref a) u r) Q E s:=by
 rcases g with⟨kvs,k,e,i,l,j⟩|⟨kvs,k,b,e,i,t,l,j⟩
 .subst i j
  obtain⟨z,hd,vs,rel,dd⟩:=lQ I.hok e;have m:vs.length<=sizeLine:=by rw[<-rel.length];exact z
  have n:(putK kvs k v).length<=sizeLine:=by have:=qz kvs k v;omega
  refine wpAny_setItem_pairs (hsz:=m) (iE o) dd λh' d hs=>h _ ?_;have C:∃q,h'.get? a=some q:=let ⟨q,_,_,f,_⟩:=d;⟨q,f⟩;exact lM I (by rw[e];exact True.intro) hs C (pL n hd (rel.put k p) d)
 .subst i j
  cases (show u=Value.ref b from o);obtain⟨z,hd,xs,rel,dd⟩:=Dh I.hok e;have m:xs.length<=sizeLine:=by rw[<-Paired.length rel];exact z
  have n:(putK kvs k v).length<=sizeLine:=by have:=qz kvs k v;omega
  refine wpAny_setItem_heap (hsz:=m) (tupleKind_room_in1 B) (jW I.hok t) dd λh' d hs=>h _ ?_;obtain⟨q,es,ep,f,h2,D,F,_,G⟩:=d;refine lM I (by rw[e];exact True.intro) hs ⟨q,f⟩ ⟨n,hd,_,(rel.put k t p).keeps λc ys x=>?_,q,es,ep,f,h2,D,F,G⟩;rw[aF (G_ x e (λz=>nomatch z))];exact x
end
section
variable{X:Cx}{pins:aD}{σ:St}{H:Hp}{s:Shared}{a:Addr}{kvs:List (Key×V)}{k:Key}{u:Value}{A:Around}{E:aj}
theorem dh{Q:aj}(I:Inv X pins σ H s)(e:Rd H a (.dK kvs))(h:∀t s',Inv X pins σ H s'->Q (.int kvs.length t) s'):wpAny (model X.prog X.w) A (call (.builtin "len") [.ref a]) Q E s:=by
 obtain⟨z,hd,vs,rel,dd⟩:=i7 I.hok e;refine call_len_dict hd dd (by rw[<-rel.length];rw[sizeLine_eq] at z;omega) ?_;rw[<-rel.length];exact h _ _ (I.tok _)
end
theorem C8{X:Cx}{pins:aD}{σ:St}{H:Hp}{s:Shared}{a:Addr}{y:V}{o:Option V}(I:Inv X pins σ H s)(g:iP H a y o):s.TypeIs (.ref a) "dict":=by
 rcases g with⟨kvs,k,e,_,_⟩|⟨kvs,k,b,e,_,_,_⟩
 .obtain⟨_,_,vs,_,dd⟩:=i7 I.hok e
  exact dd.typeIs
 .obtain⟨_,_,xs,_,dd⟩:=jN I.hok e
  exact dd.typeIs
def JT(td ty tv:TE):TS:=λD σ H=>tv σ H λv H1=>td σ H1 λx H2=>ty σ H2 λy H3=>∃a H4,x=.ref a/\jv H3 a y v H4/\D.nx σ H4
section
variable{X:Cx}{o i e value:Expr}{pos pos' tpos:Pos}{td ty tv:TE}
theorem Jc(b:X.A.units+1<cLine)(c:PE X o td)(hi:PE X i ty)(d:PE X value tv)(hs:swapsWith value (some (.Subscript o i pos')) pos.line X.env=pure false):
  PS X (.Assign [.Subscript o i pos'] value pos) (JT td ty tv):=by
 intro pins s σ H D I h;refine wpAny_Assign_Subscript (au (d pins s σ H _ I h) λr e ⟨v,H1,f,j,k⟩=>au (c pins e σ H1 _ f k) λu l ⟨x,H2,m,n,p⟩=>au (hi pins l σ H2 _ m p) λC E ⟨y,F,q,t,a,w,ex,g,z⟩=>?_) hs;subst ex;obtain rfl:u=Value.ref a:=n;exact CG b q g t j λs4 B=>⟨σ,w,B,z⟩
end
theorem uX{P:Program}{w:World}{H:Hp}(h:Heap)(a:sysModules<h.objs.size):aY P w H (h.push {cls:=.type "dict",data:=.dict #[]}) h.objs.size (.dK []):=
 ⟨zero_le _,beq_eq_false_iff_ne.mpr (Ne.symm (ne_of_lt a)),[],.nil,DictOf.new h⟩
def Ln:TE:=λ_ H Q=>∀p,H p=none->Q (.ref p) (upd H p (.dK []))
section
variable{X:Cx}{pos:Pos}
theorem Iv:PE X (.Dict [] [] pos) Ln:=λpins s σ H Q I h=>
 wpAny_Dict_empty ⟨.ref s.heap.objs.size,_,I.laid (a:=s.heap.objs.size) (o:=.dK []) (t':=s.toks) (λ_ _ q=>get?_push_of_some _ q) (le_refl _) (uX s.heap I.big),rfl,h _ (I.hok.fresh (le_refl _))⟩
end
def rO:List (TE×TE)->St->Hp->(List (V×V)->Hp->Prop)->Prop
 |[],_,H,Q=>Q [] H
 |(tk,tv)::r,σ,H,Q=>tk σ H λx H1=>tv σ H1 λy H2=>rO r σ H2 λps H3=>Q ((x,y)::ps) H3
abbrev VV:List (V×V)->List (Value×Value)->Prop:=Paired λp q=>RelV p.1 q.1/\RelV p.2 q.2
def k8(X:Cx)(pos:Pos)(keys:List (Option Expr))(values:List Expr)(rT:List (TE×TE)):Prop:=
 ∀(pins:aD) (s:Shared) (σ:St) (H:Hp) (Q:List (V×V)->Hp->Prop),Inv X pins σ H s->rO rT σ H Q->
  wpAny (model X.prog X.w) X.A (evalPairs (pairTrees keys values X.env pos)) (λvs s'=>∃ps H',Inv X pins σ H' s'/\VV ps vs/\Q ps H') X.xe s
theorem I_{X:Cx}{pos:Pos}:k8 X pos [] [] []:=λpins s σ H Q I h=>pairTrees_nil_walk ⟨[],H,I,.nil,h⟩
theorem I9{X:Cx}{pos:Pos}{k v:Expr}{ks:List (Option Expr)}{vs:List Expr}{tk tv:TE}{a:List (TE×TE)}(b:PE X k tk)(c:PE X v tv)(d:k8 X pos ks vs a):
  k8 X pos (some k::ks) (v::vs) ((tk,tv)::a):=λpins s σ H Q I h=>
 pairTrees_cons_walk (au (b pins s σ H _ I h) λu e ⟨x,H1,f,g,i⟩=>au (c pins e σ H1 _ f i) λr j ⟨y,H2,l,m,n⟩=>
  au (d pins j σ H2 _ l n) λws t ⟨ps,o,p,rel,q⟩=>⟨(x,y)::ps,o,p,.cons ⟨g,m⟩ rel,q⟩)
def gc(kvs more:List (Key×V)):List (Key×V):=more.foldl (λacc kv=>putK acc kv.1 kv.2) kvs
theorem KV.merge:∀{more:List (Key×V)} {rs:List (Key×Value)} {kvs:List (Key×V)} {vs:List (Key×Value)},KV more rs->KV kvs vs->KV (gc kvs more) (merged vs rs):=by
 intro more rs kvs vs r;unfold KV at r;induction r generalizing kvs vs with
 |nil=>intro q;exact q
 | @cons p q ps qs h t a=>
  intro b;have e:KV (putK kvs p.1 p.2) (stored vs q.1 q.2):=by
   have:=b.put p.1 h.2;rw[<-h.1];exact this
  exact a e
theorem qy:∀(more kvs:List (Key×V)),(gc kvs more).length<=kvs.length+more.length
 |[],kvs=>by show kvs.length<=kvs.length+0;omega
 |p::r,kvs=>by
  have h1:=qy r (putK kvs p.1 p.2);have h2:=qz kvs p.1 p.2;show(gc (putK kvs p.1 p.2) r).length<=_;rw[length_cons];omega
theorem uh{P:Program}{w:World}:∀{kvs:List (Key×V)} {ws:List (Value×Value)},VV (kvs.map λd=>(kV d.1,d.2)) ws->∃rs,Carries (bP P w) ws rs/\KV kvs rs
 |[],_,r=>by rw[map_nil] at r;cases r;exact⟨[],True.intro,.nil⟩
 |p::kvs,_,r=>by
  rw[map_cons] at r;cases r with
  | @cons a b as bs h t=>
   obtain⟨rs,c,q⟩:=uh (P:=P) (w:=w) t;obtain⟨f,e⟩:=b;exact⟨(p.1,e)::rs,⟨iE h.1,rfl,c⟩,.cons ⟨rfl,h.2⟩ q⟩
def Lo(rT:List (TE×TE)):TE:=λσ H Q=>∀p,H p=none->rO rT σ (upd H p (.dK [])) λps H2=>H2 p=some (.dK [])/\∃kvs:List (Key×V),ps=kvs.map (λkv=>(kV kv.1,kv.2))/\kvs.length<=15/\Q (.ref p) (upd H2 p (.dK (gc [] kvs)))
theorem Iu{X:Cx}{pos:Pos}{keys:List (Option Expr)}{values:List Expr}{b:List (TE×TE)}(h:k8 X pos keys values b)(d:keys.all (·.isSome)=true)(j:keys.length=values.length)(h0:keys≠[])
  (g:keys.length<=15):PE X (.Dict keys values pos) (Lo b):=by
 intro pins s σ H Q I q;have k:=I.hok.fresh (le_refl s.heap.objs.size);have l:=I.laid (a:=s.heap.objs.size) (o:=.dK []) (h':=s.heap.push {cls:=.type "dict",data:=.dict #[]}) (t':=s.toks) (λ_ _ q=>get?_push_of_some _ q) (le_refl _) (uX s.heap I.big);refine wpAny_Dict_walk (knd:=bP X.prog X.w) d j h0 g (au (h pins _ σ _ _ l (q _ k)) λws x ⟨ps,H2,i,rel,e,kvs,ep,lk,m⟩=>?_);subst ep;obtain⟨rs,c,n⟩:=uh (P:=X.prog) (w:=X.w) rel;obtain⟨z,hd,p,r,dd⟩:=lQ i.hok e;cases r;refine⟨rs,c,dd,λh' f hs=>⟨.ref s.heap.objs.size,_,?_,rfl,m⟩⟩;have t:(gc [] kvs).length<=sizeLine:=by
  have h1:=qy kvs [];rw[length_nil] at h1;rw[sizeLine_eq];omega
 have u:∃q,h'.get? s.heap.objs.size=some q:=let ⟨q,_,_,v,_⟩:=f;⟨q,v⟩;exact lM i (by rw[e];exact True.intro) hs u (pL t hd (n.merge .nil) f)
section
variable{X:Cx}{pins:aD}{σ:St}{H:Hp}{s:Shared}{a:Addr}{y d:V}{u r:Value}{o:Option V}{A:Around}{E:aj}
end
section
variable{X:Cx}{o e f:Expr}{apos cpos:Pos}{td ty tx:TE}
end
section
variable{X:Cx}{pins:aD}{σ:St}{H:Hp}{s:Shared}{a:Addr}{kvs:List (Key×V)}{A:Around}{E:aj}
end
section
variable{X:Cx}{pins:aD}{σ:St}{H:Hp}{s:Shared}{a:Addr}{y:V}{u:Value}{A:Around}{E:aj}
end
end L2
end
namespace sj
open PySem PySem.W PySem.Calls PyProof.Rows
theorem FL{P:Params}{h:Heap}:∀(ns:List Int) (vs:List Value),WellAll P h vs (ns.map WData.int)->IntsAre vs ns:=by
 intro ns;induction ns with
 |nil=>
  intro vs w;rw[map_nil] at w;cases w;exact .nil
 |cons n ns c=>
  intro vs w;rw[map_cons] at w;cases w with
  |cons a b=>
   cases a;exact .cons _ _ (c _ b)
theorem Ky{l:OpenLaw}{n:Nat}(k:l.most=some n){P:Params}{h:Heap}{args:List WData}{vals:List Value}
  (b:l.row.toRowW.claim.pre args=true)(i:WellAll P h vals args):
  ∃a vs ns,vals=[Value.ref a]/\args=[WData.list (ns.map WData.int)]/\h.get? a=some {cls:=.type "list",data:=.seq vs.toArray}/\IntsAre vs ns/\ns.length<=n:=by
 have j:WShape.hasAll [] args [.list .int]=true:=(pre_splitW b).1;have hc:l.pre.holds [] {args:=args}=true:=(pre_splitW b).2;obtain⟨d,r,rfl,h1,h2⟩:=hasAllW_cons j;obtain rfl:=hasAllW_nil h2;obtain⟨xs,rfl,m⟩:=hasW_list h1;obtain⟨ns,rfl⟩:=items_int m;have c:ns.length<=n:=by
  unfold OpenLaw.pre at hc;have f:(WTm.not (.lt (.lit (.int (n:Int))) (.len (.arg 0)))).holds [] {args:=[.list (ns.map .int)]}=true:=by
   have f:=(holds_andW hc).1;rw[k] at f;exact f
  have g:=condW_of f (w_not (w_lt w_lit (w_len_list (w_arg rfl))));rw[length_map] at g;refine Nat.le_of_not_lt λq=>?_;have o:(n:Int)<((ns.length:Nat):Int):=by omega
  first
   |(rw[decide_eq_true o] at g;exact absurd g (by decide))
   |(simp at g;omega)
 cases i with
 |cons p s=>
  cases s;cases p with
  |list t e=>exact⟨_,_,ns,rfl,rfl,t,FL ns _ e,c⟩
theorem I0(l:OpenLaw)(args:List WData):l.row.toRowW.claim.post args (.bool true) args=true:=
 postW_of (r:=l.row.toRowW) (X:=(true==true))
  (show WShape.has [] (.bool true) .bool=true by first|rfl|decide|simp[WShape.has,WShape.arms,WShape.armsAll])
  (show(WTm.eq .res (.lit (.bool true))).value [] {args:=args,res:=some (.bool true),after:=args}=some (.bool (true==true)) from w_eq_bool (w_res rfl) w_lit) rfl
theorem Bp{l:OpenLaw}{n:Nat}{q:Program}{loose:List Str}{p:(ah)->Heap->Prop}{s:World->Heap->Prop}{d:DefRec}
  (v:l.most=some n)(i:d.params.defaults=[])
  (call:∀(w:World) (s₀ b:Shared) (mg mb:ah) (c:Addr) (o:Obj) (pm cd doc:Value) (a:Addr) (vs:List Value) (ns:List Int),
   Ground q loose [] p w s₀ mg mb b.heap->s w b.heap->
   b.heap.get? c=some o->o.data= .func (docDef d.name d.params d.body d.scope pm cd doc)->b.heap.CodeRec cd d.name->mg d.name=some (.ref c)->
   b.heap.get? a=some {cls:= .type "list",data:= .seq vs.toArray}->IntsAre vs ns->ns.length<=n->b.gens= #[]->
   codeAny (model l.prog w) callerA (.call (.ref c) ⟨[.ref a],[]⟩) (λr s'=>r= .ok (.ret (.bool true))/\OldK b.heap s'.heap/\s'.os=b.os/\AllBare s'.gens) b):
  WalkO q loose p s l.row.toRowW d [] (λf vs=>PySem.call f vs):=by
 intro w s₀ b mg mb G Y c o pm cd doc x kV y hd j t k z args vals as e u A m B
 obtain rfl:x= .none:=Dflts.none t i
 obtain rfl:kV= .none:=Dflts.noKw t
 obtain⟨a,vs,ns,rfl,rfl,g,hints,h⟩:=Ky v e m
 refine enter_call (codeAny_mono (call w s₀ b mg mb c o pm cd doc a vs ns G Y y (fd_plain hd) j k g hints h z) λr s' C=> ?_)
 obtain⟨rfl,h2,D,E⟩:=C
 exact⟨.inl ⟨.bool true,.bool true,[],rfl,λ_=>rfl,.bool true,I0 l _,λ_=>⟨Pairwise.nil,λ_ F=>(nomatch F)⟩⟩,h2,D,E⟩
section
variable{prog:Program}{w:World}{A:Around}{E:aj}{s:Shared}{K:Frag}
end
end sj
section
open PySem PySem.Spec PyProof.Rows
namespace L2
theorem Am:∀{vs:List Value} {ns:List Int},IntsAre vs ns->Vals (ns.map V.int) vs
 |_,_,.nil=>.nil
 |_,_,.cons n t h=>.cons ⟨t,rfl⟩ (Am h)
def kZ(H:Hp):Prop:=∀b,H b=none\/∃o xs,H b=some (.aP o (.lst xs))
theorem GJ{P:Program}{w:World}{K:PySem.W.Frag}{mg mb:ah}{CX:eU}{k:Nat}{D a:Addr}{fd:FuncData}{x:Str}{sp:Sp}{c:Shared}{vs:List Value}{ns:List Int}
  (N:K.In c.heap)(l:c.heap.Ns mainGlobals mg)(g:c.heap.Ns builtinsNs mb)(E:∀x:Str,x≠"__name__"->mb x=bootBuiltins x)(p:c.heap.NoLimit)(U:c.gens= #[])
  (C:c.heap.get? a=some {cls:= .type "list",data:= .seq vs.toArray})(hi:IntsAre vs ns)(O:ns.length<=sizeLine)(X:bV k callerA)
  (F:∀base:Heap,K.In base->base.Ns mainGlobals mg->dH P w K mg base CX k D fd [x] sp)(j:∀(s:Shared) (u:Value),BindsTo s fd ⟨[u],[]⟩ [(x,u)])
  (G:∀H:Hp,kZ H->aI K H a (ns.map V.int)->sp [.ref a] H (λv _=>v= .bl true) λ_ _ _=>False)
  (I:∀H e s',CX [] H c (λ_ _ _=>False) e s'->False):
  codeAny (model P w) callerA (.call (.ref D) ⟨[.ref a],[]⟩) (λr s'=>r= .ok (.ret (.bool true))/\OldK c.heap s'.heap/\s'.os=c.os/\AllBare s'.gens) c:=by
 have Q:=Am hi
 have t:=hi.length
 have core:∀H:Hp,kZ H->aI K H a (ns.map V.int)->bx P w H c.heap->(∀b,H b≠none->b=a)->(H a≠none->K.lookup a=none)->
   codeAny (model P w) callerA (.call (.ref D) ⟨[.ref a],[]⟩) (λr s'=>r= .ok (.ret (.bool true))/\OldK c.heap s'.heap/\s'.os=c.os/\AllBare s'.gens) c:=by
  intro H R Y hok S Z
  have f:∀{b:Addr} {o:Obj},c.heap.get? b=some o->H b=none->(gB c.heap H).get? b=some o:=λe n=>E4 e n
  have J:∀{b:Addr} {o:Obj} {es:Array DictEntry} {ep:Nat},c.heap.get? b=some o->o.data= .dict es ep->H b=none:=λ {b o es ep} e d=>by
   cases q:H b with
   |none=>rfl
   |some u=>
    have L:b=a:=S b (by rw[q];simp)
    subst L
    rw[C] at e;cases e
    have d':Data.seq vs.toArray _=Data.dict es ep:=d
    cases d'
  have i:∀{b:Addr} {m:ah},c.heap.Ns b m->(gB c.heap H).Ns b m:=λ {b m} ⟨o,es,ep,e,d,r⟩=>⟨o,es,ep,f e (J e d),d,r⟩
  have y:K.In (gB c.heap H):=λb o e=>f (N b o e) (by
   cases q:H b with
   |none=>rfl
   |some u=>
    have L:b=a:=S b (by rw[q];simp)
    subst L
    rw[Z (by rw[q];simp)] at e;cases e)
  have hM:Mod K mg (gB c.heap H):=⟨y,i l,⟨mb,i g,E⟩,let ⟨mc,h1,h2⟩:=p;⟨mc,i h1,h2⟩⟩
  have e0:kU P w K mg (gB c.heap H) callerA [] c H:=⟨rfl,hM,λb o e=>HB e,Nat.le_of_eq (E5 _ _),trivial,λb g=>absurd (show b∈([]:List Addr) from g) (by simp),hok,.of_eq U⟩
  refine codeAny_mono ((F _ y (i l)).run callerA [] c H ⟨[.ref a],[]⟩ [.ref a] [.ref a] _ _ X e0 (j c (.ref a)) (.cons rfl .nil) (G H R Y)) λr s' h=> ?_
  cases r with
  |error e=>exact(I H e s' h).elim
  |ok fl=>
   cases fl with
   |next=>exact False.elim h
   |brk=>exact False.elim h
   |cont=>exact False.elim h
   |ret u=>
    obtain⟨v,H',os,bare,un,A,r',q⟩:=h
    have q':v= .bl true:=q
    subst q'
    obtain rfl:u=Value.bool true:=r'
    refine⟨rfl,OldK.of_keep λb o e=> ?_,os,bare⟩
    cases q:H b with
    |none=>exact un.keep b o e q (by intro z;exact absurd (show b∈([]:List Addr) from z) (by simp)) (by simp)
    |some u=>
     rcases R b with z|⟨ob,xs,z⟩
     .rw[q] at z;cases z
     .have z2:=un.di b ob _ z
      obtain⟨T,_⟩:=hok b _ z
      obtain⟨e2,_⟩:=A b _ z2
      rw[e] at T;cases T
      exact e2
 cases M:K.lookup a with
 |some o=>
  have e:=N a o M
  rw[C] at e
  cases e
  refine core (λ_=>none) (λ_=> .inl rfl) (.inr ⟨_,vs.toArray,_,M,rfl,rfl,rfl,by rw[size_toArray,t];exact O,by simpa using Q⟩) (λb u z=>by have B:(none:Option HO)=some u:=z;cases B) (λb z=>absurd rfl z) λz=>absurd rfl z
 |none=>
  refine core (λb=>if b=a then some (.aP {cls:= .type "list",data:= .seq vs.toArray} (.lst (ns.map V.int))) else none) (λb=> ?_) (.inl (.inr ⟨{cls:= .type "list",data:= .seq vs.toArray},if_pos rfl⟩)) (λb u z=> ?_) (λb z=> ?_) λ_=>M
  .by_cases g:b=a
   .exact .inr ⟨_,_,if_pos g⟩
   .exact .inl (if_neg g)
  .by_cases g:b=a
   .have B:=(if_pos g).symm.trans z
    cases B
    subst g
    exact⟨C,by rw[length_map];exact O,vs,_,Q,C⟩
   .have B:=(if_neg g).symm.trans z
    cases B
  .by_cases g:b=a
   .exact g
   .exact absurd (if_neg g) z
theorem L8{l:PySem.W.OpenLaw}{n k:Nat}{q:Program}{loose:List Str}{C:(ah)->Heap->Prop}{A:World->Heap->Prop}{d:DefRec}{K:Params->PySem.W.Frag}{CX:World->eU}{sp:World->Sp}{x:Str}
  (D:l.most=some n)(p:n<=sizeLine)(r:d.params.defaults=[])(E:bV k callerA)
  (I:∀(w:World) (h:Heap),A w h->(K w.params).In h)
  (F:∀(w:World) (mg:ah) (m:Addr) (h:Heap),(K w.params).In h->h.Ns mainGlobals mg->mg d.name=some (.ref m)->
   ∃fd:FuncData,(∀(s:Shared) (u:Value),BindsTo s fd ⟨[u],[]⟩ [(x,u)])/\
    ∀base:Heap,(K w.params).In base->base.Ns mainGlobals mg->dH l.prog w (K w.params) mg base (CX w) k m fd [x] (sp w))
  (t:∀(w:World) (H:Hp) (a:Addr) (ns:List Int),ns.length<=n->kZ H->aI (K w.params) H a (ns.map V.int)->sp w [.ref a] H (λv _=>v= .bl true) λ_ _ _=>False)
  (y:∀(w:World) (H:Hp) (s:Shared) (e:Value) (s':Shared),CX w [] H s (λ_ _ _=>False) e s'->False):
  PySem.W.WalkO q loose C A l.row.toRowW d [] (λf vs=>PySem.call f vs):=by
 refine sj.Bp D r λw s₀ i mg mb m o pm cd doc a vs ns G Y Q hd J z j hints c L=> ?_
 have B:=I w _ Y
 obtain⟨fd,M,N⟩:=F w mg m _ B G.T.g z
 exact GJ B G.T.g G.T.b G.T.builtins G.T.nolimit L j hints (le_trans c p) E N M (λH O P=>t w H a ns c O P) λH e s'=>y w H i e s'
def gX(s:Stmt):Arguments:=match s with
 |.FunctionDef _ a _ _ _ _ _ _ _ _=>a
 |_=>{posonlyargs:=[],args:=[],vararg:=none,kwonlyargs:=[],kw_defaults:=[],kwarg:=none,defaults:=[]}
def ee(s:Stmt):List Stmt:=match s with
 |.FunctionDef _ _ b _ _ _ _ _ _ _=>b
 |_=>[]
def aH(s:Stmt):Scope:=match s with
 |.FunctionDef _ _ _ _ _ _ sc _ _ _=>sc
 |_=>{kind:=.function,names:=[],isGenerator:=false,isCoroutine:=false}
structure gq(K:PySem.W.Frag)(x qual:Str)(st:Stmt)(f:Addr)(fd:FuncData):Prop where
 ex:∃(oc:Value) (od:Option Addr) (kV doc pm:Value) (an:Option Addr) (cdv ct:Value) (osl:Array (Option Value)),
  fd=fnOf x qual (gX st) (ee st) (aH st) .none kV doc pm an cdv ct/\K.lookup f=some ⟨oc,od,.func fd,osl⟩/\codeIn K cdv qual=true
 kp:keepIn K (.ref f)=true
section
variable{P:Program}{w:World}{K:PySem.W.Frag}{mg:ah}{base:Heap}
theorem gq.binds{x qual:Str}{st:Stmt}{f:Addr}{fd:FuncData}{ps:List Str}(F:gq K x qual st f fd)
  (h:∀(kV doc pm:Value) (an:Option Addr) (a ct:Value) (b:List Value),b.length=ps.length->bindArgs (fnOf x qual (gX st) (ee st) (aH st) .none kV doc pm an a ct) ⟨b,[]⟩=pure (ps.zip b)):Binds K fd ps []:=by
 obtain⟨e,g,kV,doc,pm,an,a,ct,c,rfl,lk,d⟩:=F.ex;exact .all (h kV doc pm an a ct)
theorem p_{x qual:Str}{st:Stmt}{f:Addr}{d:Value}{e an:Option Addr}{b:Array (Option Value)}{kV doc pm a ct:Value}(l:K.lookup f=some ⟨d,e,.func (fnOf x qual (gX st) (ee st) (aH st) .none kV doc pm an a ct),b⟩)
 (c:codeIn K a qual=true)(k:keepIn K (.ref f)=true):gq K x qual st f (fnOf x qual (gX st) (ee st) (aH st) .none kV doc pm an a ct):=⟨⟨d,e,kV,doc,pm,an,a,ct,b,rfl,l,c⟩,k⟩
end
section
variable{X:Cx}
theorem BE:ck X (.builtin "len") (λxs H Q=>∃a kvs,xs=[V.ref a]/\H a=some (.dK kvs)/\Q (.int kvs.length) H):=by
 intro pins s σ H xs e Q I r h;obtain⟨a,kvs,rfl,b,q⟩:=h;obtain⟨u,rfl,c⟩:=vals1 r;cases c;exact dh I (.inl b) λt s' d=>⟨.int kvs.length,H,d,⟨t,rfl⟩,q⟩
end
theorem F0{A B:Prop}(h:B):if false=true then A else B:=by
 rw[if_neg Bool.false_ne_true];exact h
theorem F1{A B:Prop}(h:A):if true=true then A else B:=by
 rw[if_pos rfl];exact h
def iw(H H':Hp):Prop:=∀b o,H b=some o->H' b=some o
section
variable{κ:Type}[DecidableEq κ]
end
end L2
end
namespace PySem
open Sem (wp)
namespace ZL
section
variable{prog:Program}{w:World}{A:Around}{E:aj}{s:Shared}
end
namespace F
end F
section
variable{prog:Program}{w:World}{A:Around}{s:Shared}{R:Result->Shared->Prop}{z TI TO i1 i2 l1 l2 base S:Addr}{xs ys:Array Value}
end
section
variable{prog:Program}{w:World}{A:Around}{E:aj}{s:Shared}
end
end ZL
end PySem
section
open PySem PySem.Spec PyProof.Rows
namespace L2
def bE:List (Str×NameKind)->List Str
 |[]=>[]
 |(n,k)::r=>if (k==NameKind.free)=true then n::bE r else bE r
def cR(env:Env):List (Str×NameKind)->List (Str×Addr)->List (Str×Addr)
 |[],acc=>acc
 |(n,k)::r,acc=>if (k==NameKind.free)=true then cR env r ((n,(env.cells.lookup n).getD 0)::acc) else cR env r acc
theorem pq{env:Env}{f:(Str×NameKind)->List (Str×Addr)->Sem (ForInStep (List (Str×Addr)))}
  (h1:∀n k cs c,(k==NameKind.free)=true->env.cells.lookup n=some c->f (n,k) cs=pure (.yield ((n,c)::cs)))(h2:∀n k cs,(k==NameKind.free)=false->f (n,k) cs=pure (.yield cs)):
  ∀(names:List (Str×NameKind)) (acc:List (Str×Addr)),(∀n∈bE names,∃c,env.cells.lookup n=some c)->forIn names acc f=pure (cR env names acc)
 |[],acc,_=>by rw[List.forIn_nil];rfl
 |(n,k)::r,acc,h=>by
  rw[List.forIn_cons];cases e:(k==NameKind.free) with
  |true=>
   have b:bE ((n,k)::r)=n::bE r:=by show(if (k==NameKind.free)=true then n::bE r else bE r)=_;rw[if_pos e]
   obtain⟨c,hc⟩:=h n (by rw[b];exact mem_cons_self);rw[h1 n k acc c e hc,pure_bind];show forIn r ((n,c)::acc) f=_;rw[pq h1 h2 r _ λm d=>h m (by rw[b];exact mem_cons_of_mem _ d)];have a:cR env ((n,k)::r) acc=cR env r ((n,(env.cells.lookup n).getD 0)::acc):=by
    show(if (k==NameKind.free)=true then _ else _)=_;rw[if_pos e]
   rw[a,hc];rfl
  |false=>
   have b:bE ((n,k)::r)=bE r:=by show(if (k==NameKind.free)=true then n::bE r else bE r)=_;rw[if_neg (by rw[e];decide)]
   rw[h2 n k acc e,pure_bind];show forIn r acc f=_;rw[pq h1 h2 r _ λm d=>h m (by rw[b];exact d)];have a:cR env ((n,k)::r) acc=cR env r acc:=by
    show(if (k==NameKind.free)=true then _ else _)=_;rw[if_neg (by rw[e];decide)]
   rw[a]
theorem uq{scope:Scope}{env:Env}(h:∀n∈bE scope.names,∃c,env.cells.lookup n=some c):closureFor scope env=pure (cR env scope.names []):=by
 unfold closureFor;show(forIn scope.names [] _>>=_)=_;rw[pq (env:=env) (λn k cs c a hc=>?_) (λn k cs a=>?_) scope.names [] h]
 .exact pure_bind _ _
 .dsimp only
  rw[if_pos a];unfold cellOf;rw[hc];rfl
 .dsimp only
  rw[if_neg (by rw[a];decide)]
theorem jF{env:Env}{x:Str}:∀(names:List (Str×NameKind)) (acc:List (Str×Addr)),(∀n∈bE names,∃c,env.cells.lookup n=some c)->
  (cR env names acc).lookup x=if x∈bE names then env.cells.lookup x else acc.lookup x
 |[],acc,_=>by simp[cR,bE]
 |(n,k)::r,acc,h=>by
  cases e:(k==NameKind.free) with
  |true=>
   have b:bE ((n,k)::r)=n::bE r:=by show(if (k==NameKind.free)=true then n::bE r else bE r)=_;rw[if_pos e]
   obtain⟨c,hc⟩:=h n (by rw[b];exact mem_cons_self);have a:cR env ((n,k)::r) acc=cR env r ((n,(env.cells.lookup n).getD 0)::acc):=by
    show(if (k==NameKind.free)=true then _ else _)=_;rw[if_pos e]
   rw[a,b,jF r _ λm f=>h m (by rw[b];exact mem_cons_of_mem _ f)];by_cases d:x∈bE r
   .rw[if_pos d,if_pos (mem_cons_of_mem _ d)]
   .rw[if_neg d]
    by_cases g:x=n
    .subst g
     rw[if_pos mem_cons_self,hc];simp
    .rw[if_neg (by intro z;rcases mem_cons.mp z with z|z;exact g z;exact d z)]
     have i:(x==n)=false:=by simpa using g
     rw[lookup_cons,i]
  |false=>
   have b:bE ((n,k)::r)=bE r:=by show(if (k==NameKind.free)=true then n::bE r else bE r)=_;rw[if_neg (by rw[e];decide)]
   have a:cR env ((n,k)::r) acc=cR env r acc:=by
    show(if (k==NameKind.free)=true then _ else _)=_;rw[if_neg (by rw[e];decide)]
   rw[a,b,jF r _ λm f=>h m (by rw[b];exact f)]
structure dD(X:Cx)(scope:Scope)(frees:List Str):Prop where
 kind:scope.kind= .function
 xH:∀y∈scope.names,y.2≠ .cell
 locs:∀y∈scope.names,y.2= .local->scope.names.lookup y.1=some .local
 sub:∀n∈bE scope.names,n∈frees
 free:∀n∈frees,scope.names.lookup n=some .free
 kinds:(frees.all λn=>X.env.kindOf n==some .cell||X.env.kindOf n==some .free)=true
theorem dD.frees{X:Cx}{scope:Scope}{fr:List Str}(S:dD X scope fr):∀n∈bE scope.names,X.env.kindOf n=some .cell\/X.env.kindOf n=some .free:=λn a=>by
 have h:=all_eq_true.mp S.kinds n (S.sub n a);rcases Bool.or_eq_true _ _▸h with h|h
 .exact .inl (eq_of_beq h)
 .exact .inr (eq_of_beq h)
theorem mO{x:Str}:∀{names:List (Str×NameKind)},(x,NameKind.free)∈names->x∈bE names
 |(n,k)::r,h=>by
  unfold bE;rcases mem_cons.mp h with e|e
  .injection e with a b
   subst a b;rw[if_pos (by rfl)];exact mem_cons_self
  .split
   .exact mem_cons_of_mem _ (mO e)
   .exact mO e
theorem yO{env:Env}{x:Str}:∀{names:List (Str×NameKind)} {k:NameKind},(names.map λ(n,k)=>if (k==NameKind.free&&env.scope.kind== .function&&env.kindOf n==some .cell) then (n,NameKind.cell) else (n,k)).lookup x=some k->
  ∃k0,names.lookup x=some k0/\(k=k0\/(k0=.free/\k=.cell))
 |[],k,h=>by simp at h
 |(n,k1)::r,k,h=>by
  rw[map_cons] at h;by_cases b:(x==n)=true
  .by_cases hc:(k1==NameKind.free&&env.scope.kind== .function&&env.kindOf n==some .cell)=true
   .dsimp only at h
    rw[if_pos hc,lookup_cons,b] at h;have e:k=.cell:=by injection h with h;exact h.symm
    have c:k1=.free:=by
     have:=(and_eq_true _ _▸(and_eq_true _ _▸hc).1).1;exact eq_of_beq this
    exact⟨k1,by rw[lookup_cons,b],.inr ⟨c,e⟩⟩
   .dsimp only at h
    rw[if_neg hc,lookup_cons,b] at h;injection h with h;exact⟨k1,by rw[lookup_cons,b],.inl h.symm⟩
  .have a:(x==n)=false:=by simpa using b
   have h':(List.map (λ(n,k)=>if (k==NameKind.free&&env.scope.kind== .function&&env.kindOf n==some .cell) then (n,NameKind.cell) else (n,k)) r).lookup x=some k:=by
    by_cases hc:(k1==NameKind.free&&env.scope.kind== .function&&env.kindOf n==some .cell)=true
    .dsimp only at h;rw[if_pos hc,lookup_cons,a] at h;exact h
    .dsimp only at h;rw[if_neg hc,lookup_cons,a] at h;exact h
   obtain⟨k0,c,d⟩:=yO h';exact⟨k0,by rw[lookup_cons,a];exact c,d⟩
theorem yN{env:Env}{x:Str}:∀{names:List (Str×NameKind)},names.lookup x=some .free->
  (names.map λ(n,k)=>if (k==NameKind.free&&env.scope.kind== .function&&env.kindOf n==some .cell) then (n,NameKind.cell) else (n,k)).lookup x=some .cell\/
  (names.map λ(n,k)=>if (k==NameKind.free&&env.scope.kind== .function&&env.kindOf n==some .cell) then (n,NameKind.cell) else (n,k)).lookup x=some .free
 |[],h=>by simp at h
 |(n,k1)::r,h=>by
  rw[map_cons]
  by_cases b:(x==n)=true
  .rw[lookup_cons,b] at h
   injection h with h
   subst h
   by_cases hc:(NameKind.free==NameKind.free&&env.scope.kind== .function&&env.kindOf n==some .cell)=true
   .left;dsimp only;rw[if_pos hc,lookup_cons,b]
   .right;dsimp only;rw[if_neg hc,lookup_cons,b]
  .have a:(x==n)=false:=by simpa using b
   rw[lookup_cons,a] at h
   have c:=yN (env:=env) h
   by_cases hc:(k1==NameKind.free&&env.scope.kind== .function&&env.kindOf n==some .cell)=true
   .dsimp only;rw[if_pos hc,lookup_cons,a];exact c
   .dsimp only;rw[if_neg hc,lookup_cons,a];exact c
structure CP where
 C:Addr
 s:Shared
 H:Hp
 pins:aD
 fp:List Addr
def aZ(X:Cx)(NC:List Str)(scope:Scope)(c:CP):Cx where
 prog:=X.prog
 w:=X.w
 K:=X.K
 mg:=X.mg
 base:=X.base
 A:=X.A
 N:=NC
 s₀:=c.s
 H₀:=c.H
 env:=compEnvC scope (cR X.env scope.names []) c.C X.env
 outer:=X.stack
 stack:=X.stack
 ex:=c.fp
 fn:=λ_=>false
 calm:=true
 pn:=X.pn++c.pins
 xe:=λ_ _=>False
section
variable{X:Cx}{scope:Scope}{frees:List Str}{NC:List Str}{pins:aD}{σ iL:St}{H H':Hp}{s s':Shared}{fp:List Addr}{C:Addr}
theorem dD.has(S:dD X scope frees)(ok:X.Ok):∀n∈bE scope.names,∃c,X.env.cells.lookup n=some c:=λn a=>ok.has n (S.frees n a)
theorem dD.cells(S:dD X scope frees)(ok:X.Ok){x:Str}{c:Addr}(h:(cR X.env scope.names []).lookup x=some c):x∈bE scope.names/\X.env.cells.lookup x=some c:=by
 rw[jF scope.names [] (S.has ok)] at h;by_cases a:x∈bE scope.names
 .rw[if_pos a] at h;exact⟨a,h⟩
 .rw[if_neg a] at h;simp at h
theorem B6(S:dD X scope frees)(hc:X.calm=true)(I:Inv X pins σ H s)(f:∀b∈fp,dI X pins H b/\b<s.heap.objs.size)(m:C=s.heap.objs.size):(aZ X NC scope ⟨C,s,H,pins,fp⟩).Ok where
 mod:=I.ok.mod
 kind:=S.kind
 glob:=I.ok.glob
 blt:=I.ok.blt
 above:=by show s.heap.objs.size<=C;rw[m];exact le_refl _
 inj:=λx y c h1 h2=>I.ok.inj x y c (S.cells I.ok h1).2 (S.cells I.ok h2).2
 has:=λx p=>by
  have i:∃k,(relabel scope X.env).names.lookup x=some k/\(k= .cell\/k= .free):=by
   rcases p with h|h
   .exact⟨_,h,.inl rfl⟩
   .exact⟨_,h,.inr rfl⟩
  obtain⟨k,h,hk⟩:=i
  obtain⟨k0,q,d⟩:=yO h
  have n:=PySem.mem_of_lookup q
  have j:k0= .free:=by
   rcases d with d|⟨d,_⟩
   .rcases hk with hk|hk
    .exact absurd (d▸hk:k0= .cell) (S.xH _ n)
    .exact d▸hk
   .exact d
  subst j
  have g:=mO n
  obtain⟨c,l⟩:=S.has I.ok x g
  exact⟨c,by show(cR X.env scope.names []).lookup x=some c;rw[jF scope.names [] (S.has I.ok),if_pos g];exact l⟩
 lz:=λx c h=>nomatch h
 hd:=λ_=>I.ok.hd hc
 frames:=I.ok.frames
 stk:= .inl rfl
 DJ:=λb a=>⟨λz=>by have:=(f b a).2;rw[z] at this;exact absurd (m▸this) (lt_irrefl _),λx c h=>(f b a).1.2.2.2.2.1 x c (S.cells I.ok h).2⟩
 bs:=I.bs
 iz:=le_trans I.ok.iz I.sz
 mQ:=λb o e a=>by
  rcases (f b a).1.2.2.2.1 with z|z
  .exact I.ok.mQ b o e z
  .exact absurd (lt_of_lt_of_le (lt_size e) (le_trans I.ok.iz z)) (lt_irrefl _)
 pX:=λb a z=>by
  rcases mem_cons.mp (I.jo b z) with e|e
  .exact(f b a).1.2.1 e
  .exact(f b a).1.2.2.1 e
 f7:=I.stack
 i_:=I.rG
def stC(own:List Str)(ix:List Nat)(σ:St):St:=own.map (λ_=>none)++ix.map λi=>(σ[i]?).join
theorem K7{own frees:List Str}{ix:List Nat}{σ:St}{b:List Str}(c:ix.map (λi=>b[i]?)=frees.map some){j:Nat}{x:Str}{v:V}(h1:(own++frees)[j]?=some x)(h2:(stC own ix σ)[j]?=some (some v)):
  x∈frees/\∃i:Nat,b[i]?=some x/\σ[i]?=some (some v):=by
 have f:ix.length=frees.length:=by have:=congrArg List.length c;simpa using this
 unfold stC at h2;by_cases d:j<own.length
 .rw[getElem?_append_left (by simpa using d),getElem?_map] at h2
  cases e:own[j]? with
  |none=>rw[e] at h2;simp at h2
  |some o=>rw[e] at h2;simp at h2
 .rw[getElem?_append_right (by simpa using d),getElem?_map,length_map] at h2
  rw[getElem?_append_right (by omega)] at h1;have a:(ix.map (λi=>b[i]?))[j - own.length]?=(frees.map some)[j - own.length]? :=by rw[c]
  rw[getElem?_map,getElem?_map,h1] at a;cases e:ix[j - own.length]? with
  |none=>rw[e] at h2;simp at h2
  |some i=>
   rw[e] at h2 a;simp only[map_some,Option.some.injEq] at h2 a;refine⟨mem_of_getElem? h1,i,a,?_⟩;cases q:σ[i]? with
   |none=>rw[q] at h2;simp at h2
   |some o=>rw[q] at h2;simp at h2;rw[h2]
theorem K8{own frees:List Str}{ix:List Nat}{σ:St}{a:List Str}(b:ix.map (λi=>a[i]?)=frees.map some):(stC own ix σ).length=(own++frees).length:=by
 have c:ix.length=frees.length:=by have:=congrArg List.length b;simpa using this
 unfold stC;simp[c]
theorem B5{own:List Str}{ix:List Nat}{a:Heap}{tk:Nat}(S:dD X scope frees)(hc:X.calm=true)(I:Inv X pins σ H s)(G:∀b∈fp,dI X pins H b/\b<s.heap.objs.size)(w:C=s.heap.objs.size)
  (E:ix.map (λi=>X.N[i]?)=frees.map some)(y:∃m,a.Ns C m)(g:∀b o,s.heap.get? b=some o->a.get? b=some o):
  Inv (aZ X (own++frees) scope ⟨C,s,H,pins,fp⟩) [] (stC own ix σ) H {s with heap:=a,toks:=tk}:=by
 obtain⟨m,J⟩:=y;refine⟨B6 S hc I G w,rfl,I.bare,Un.kept g,⟨m,J,λj x v h1 h2 U=>?_⟩,λx c h=>?_,?_,λx c h=>?_,λp K=>?_,I.hok.kept g,K8 E⟩
 .obtain⟨L,i,M,O⟩:=K7 E h1 h2
  have f:=S.free x L;have k:=mO (PySem.mem_of_lookup f);have t:=S.frees x k;obtain⟨m0,_,P⟩:=I.loc;have A:iS X.env.scope x:=by rcases t with z|z;exact .inr (.inl z);exact .inr (.inr z)
  obtain⟨u,r,l⟩:=P i x v M O A;refine⟨u,r,?_⟩;rcases l with⟨F,_⟩|⟨_,c,Q,R⟩
  .rcases t with z|z
   .rw[F] at z;cases z
   .rw[F] at z;cases z
  .refine .inr ⟨yN (env:=X.env) f,c,?_,?_⟩
   .show(cR X.env scope.names []).lookup x=some c
    rw[jF scope.names [] (S.has I.ok),if_pos k];exact Q
   .obtain⟨o,B,hd⟩:=R
    exact⟨o,g _ _ B,hd⟩
 .obtain⟨_,e⟩:=S.cells I.ok h
  obtain⟨v,o,B,hd⟩:=I.cell x c e;exact⟨v,o,g _ _ B,hd⟩
 .show H C=none
  rw[w];exact I.hok.fresh (le_refl _)
 .exact I.f6 x c (S.cells I.ok h).2
 .have D:p∈X.pn++pins:=by
   have:p∈(X.pn++pins)++[]:=K;rwa [append_nil] at this
  obtain⟨e,n,ne,T,d⟩:=I.pin p D;refine⟨g _ _ e,n,?_,λz=>?_,d⟩
  .show p.1≠C
   rw[w];exact ne_of_lt (lt_size e)
  .rcases mem_cons.mp (I.jo p.1 z) with q|q
   .exact ne q
   .exact T q
theorem B3{NC:List Str}(S:dD X scope frees)(I:Inv X pins σ H s)(d:∀b∈fp,dI X pins H b/\b<s.heap.objs.size)(e:C=s.heap.objs.size){b:Addr}(a:b∈fp)(f:H' b=none):dI (aZ X NC scope ⟨C,s,H,pins,fp⟩) [] H' b:=by
 refine⟨f,?_,λz=>?_,.inl a,λx c h=>(d b a).1.2.2.2.2.1 x c (S.cells I.ok h).2,λp g=>(d b a).1.2.2.2.2.2 p ?_⟩
 .show b≠C
  rw[e];exact ne_of_lt (d b a).2
 .rcases mem_cons.mp (I.jo b z) with q|q
  .exact(d b a).1.2.1 q
  .exact(d b a).1.2.2.1 q
 .have:p∈(X.pn++pins)++[]:=g
  rwa [append_nil] at this
theorem B0{NC:List Str}(I:Inv X pins σ H s)(a:∀b∈fp,dI X pins H b/\b<s.heap.objs.size)(J:Inv (aZ X NC scope ⟨C,s,H,pins,fp⟩) [] iL H' s'):Inv X pins σ H' s':=
 I.BB J.os J.base J.hok J.bare λb c=>⟨(a b c).1.2.2.2.1,(a b c).1.2.1,(a b c).1.2.2.2.2.1,(a b c).1.2.2.2.2.2⟩
theorem B4{h':Heap}(I:Inv X pins σ H s)(a:H C=none)(h1:C≠X.env.locals)(h2:X.s₀.heap.objs.size<=C)(d:∀x c,X.env.cells.lookup x=some c->c≠C)(f:∀p∈X.pn++pins,p.1≠C)(hs:SameBut C s.heap h'):
 Inv X pins σ H {s with heap:=h'}:=I.turned (t':=s.toks) (λb o g e=>(hs.2 b g).trans e) a h1 (.inr h2) d f
end
inductive dJ:St->St->Prop
 |nil:dJ [] []
 |own {o:Option V} {a b:St}:dJ a b->dJ (none::a) (o::b)
 |keep {o:Option V} {a b:St}:dJ a b->dJ (o::a) (o::b)
theorem dJ.len:∀{a b:St},dJ a b->b.length=a.length
 |_,_,.nil=>rfl
 |_,_,.own h=>congrArg (·+1) h.len
 |_,_,.keep h=>congrArg (·+1) h.len
theorem dJ.get:∀{a b:St},dJ a b->∀(i:Nat) v,a[i]?=some (some v)->b[i]?=some (some v)
 |_,_,.nil,i,v,e=>by simp at e
 |_,_,.own h,0,v,e=>by simp at e
 |_,_,.own h,i+1,v,e=>by
  rw[List.getElem?_cons_succ] at e ⊢;exact h.get i v e
 |_,_,.keep h,0,v,e=>by simpa using e
 |_,_,.keep h,i+1,v,e=>by
  rw[List.getElem?_cons_succ] at e ⊢;exact h.get i v e
theorem dJ.refl:∀a:St,dJ a a
 |[]=>.nil
 |_::r=>.keep (dJ.refl r)
inductive fF(X:Cx):List Expr->TT->Prop
 |nil:fF X [] (λ_ H Q=>Q true H)
 |one {c:Expr} {t:TT}:PT X c t->fF X [c] t
theorem fF.run{X:Cx}{ifs:List Expr}{t:TT}(h:fF X ifs t){pins:aD}{s:Shared}{σ:St}{H:Hp}{Q:Bool->Hp->Prop}(I:Inv X pins σ H s)(a:t σ H Q):
  wpAny (model X.prog X.w) X.A (forIn ifs true λc r=>if r=true then do let ok <-isTrue c X.env (eval c X.env);pure (ForInStep.yield ok) else pure (ForInStep.yield r)) (TP X pins σ Q) X.xe s:=by
 cases h with
 |nil=>exact wpAny_tests_nil ⟨H,I,a⟩
 |one h=>exact wpAny_tests_one (h pins s σ H Q I a)
def By(iL:St)(acc:Addr)(g:TG)(tt:TT)(te:TE)(x:V)(ys:List V)(H:Hp)(N:List V->Hp->Prop):Prop:=
 g x iL H λσ2 H2=>dJ iL σ2/\tt σ2 H2 λb H3=>if b=true then te σ2 H3 λy H4=>H4 acc=some (.lst ys)/\ys.length<sizeLine/\N (ys++[y]) (upd H4 acc (.lst (ys++[y]))) else N ys H3
def o8(J:It)(iL:St)(acc:Addr)(g:TG)(tt:TT)(te:TE)(H:Hp)(Q:VK):Prop:=
 ∃W:Nat->Nat->List V->Hp->Prop,(∃m,W 0 m [] H)/\∀i m ys H,W i m ys H->H acc=some (.lst ys)/\
  ((J.stop i H/\Q (.ref acc) H)\/(J.go i H/\∃N:List V->Hp->Prop,(∀ys' H',N ys' H'->∃m',m'<m/\W (i+1) m' ys' H')/\∀x H',J.oh i H x H'->By iL acc g tt te x ys H' N))
def rN(own:List Str)(ix:List Nat)(wi:TI)(g:CP->TG)(tt:CP->TT)(te:CP->TE):TE:=λσ H Q=>
 wi σ H λJ H1=>∀(c:CP) (acc:Addr),H1 acc=none->o8 J (stC own ix σ) acc (g c) (tt c) (te c) (upd H1 acc (.lst [])) Q
section
variable{X:Cx}{scope:Scope}{own frees:List Str}{ix:List Nat}{tg elt iter:Expr}{ifs:List Expr}{pos:Pos}{wi:TI}{g:CP->TG}{tt:CP->TT}{te:CP->TE}
theorem BV{J:It}{it acc:Addr}{fp:List Addr}{E:Nat->Heap->Prop}{c:CP}{σ:St}{H:Hp}{s:Shared}{Q:VK}{R:Result->Shared->Prop}
  (hfp:c.fp=fp)(T:Turn X.prog X.w X.K tg J fp it E)(hg:PG (aZ X (own++frees) scope c) tg (g c))(ht:fF (aZ X (own++frees) scope c) ifs (tt c))(he:PE (aZ X (own++frees) scope c) elt (te c))
  (j:∀b∈fp,∀H':Hp,H' b=none->dI (aZ X (own++frees) scope c) [] H' b)
  (I:Inv (aZ X (own++frees) scope c) [] (stC own ix σ) H s)(st:E 0 s.heap)(fr:∀b∈fp,H b=none)(h:o8 J (stC own ix σ) acc (g c) (tt c) (te c) H Q)
  (hR:∀s' H',Inv (aZ X (own++frees) scope c) [] (stC own ix σ) H' s'->Q (.ref acc) H'->R (.ok .next) s'):
  codeAny (model X.prog X.w) X.A (.compLoop (.ListComp elt [⟨tg,iter,ifs,0⟩] scope pos) 0 (.ref it) (.ref acc) (aZ X (own++frees) scope c).env) R s:=by
 obtain⟨W,⟨m0,w0⟩,turn⟩:=h
 refine codeAny_loop rfl (λn s'=>∃i ys H',Inv (aZ X (own++frees) scope c) [] (stC own ix σ) H' s'/\E i s'.heap/\(∀b∈fp,H' b=none)/\W i n ys H') (λn L hI=> ?_) m0 ⟨0,[],H,I,st,fr,w0⟩
 obtain⟨i,ys,H1,I1,p,v,w1⟩:=hI
 show wpAny _ X.A ((compTurn (.ListComp elt [⟨tg,iter,ifs,0⟩] scope pos) 0 (.ref it) (.ref acc) (aZ X (own++frees) scope c).env).onRaise (λx=>do noteFrame x (aZ X (own++frees) scope c).env;theTreesLotGoes x)) _ _ L
 have k:∀{α:Type} {t:Sem α} {P:α->Shared->Prop} {s:Shared},wpAny (model X.prog X.w) X.A t P (λ_ _=>False) s->wpAny (model X.prog X.w) X.A t P (notedBy (model X.prog X.w) X.A (aZ X (own++frees) scope c).env λe s'=>R (.error e) s') s:=
  λh=>wpAny_mono h (λ_ _ q=>q) λ_ _ z=>z.elim
 refine wpAny_noted ?_
 rw[compTurn_list]
 obtain⟨ha,hw⟩:=turn i n ys H1 w1
 rcases hw with⟨stop,q⟩|⟨go,N,hN,step⟩
 .refine wpAny_bind (wpAny_standAt (wpAny_bind (k (au (T.done (aZ X (own++frees) scope c) rfl rfl rfl rfl i [] L _ H1 (λ_ _=>False) I1 (λb f=>j b f H1 (v b f)) p stop) λr s2 ⟨M,I2⟩=> ?_))))
  subst M
  exact wpAny_pure (hR s2 H1 I2 q)
 .refine wpAny_bind (wpAny_standAt (wpAny_bind (k (au (T.item (aZ X (own++frees) scope c) rfl rfl rfl rfl i [] L _ H1 (λ_ _=>False) I1 (λb f=>j b f H1 (v b f)) p go) λr s2 ⟨u,M,h2⟩=> ?_))))
  subst M
  refine wpAny_bind (k (au h2 λ_ s3 ⟨x,O,I3,r3,y3,l,S⟩=> ?_))
  have U:=I3.pinned (λb f=>j b f O (S b f)) (T.obj _ _ l)
  refine wpAny_bind (k (au (hg _ s3 _ O x u _ U r3 (step x O y3)) λ_ s4 ⟨Mp,H4,I4,ks,q4⟩=> ?_))
  refine wpAny_bind (k (au (ht.run I4 q4) λok s5 ⟨H5,V,F⟩=> ?_))
  have a:∀{B:Shared} {C:St} {m:Hp},Inv (aZ X (own++frees) scope c) ([]++kj fp s3.heap) C m B->E (i+1) B.heap/\∀b∈fp,m b=none:=λ {B C m} D=>
   ⟨T.keep _ _ _ l λb f o e=>(D.pin (b,o) (mem_append_right _ (mem_append_right _ (mP f e)))).1,λb f=>by
    obtain⟨o,e,d⟩:=T.obj _ _ l b f
    exact(D.pin (b,o) (mem_append_right _ (mem_append_right _ (mP f e)))).2.1⟩
  cases ok with
  |false=>
   rw[if_neg (by decide)] at F
   obtain⟨Y,Z,w5⟩:=hN _ _ F
   obtain⟨k1,k2⟩:=a V
   exact wpAny_pure ⟨rfl,Y,Z,i+1,ys,H5,(V.kQ).weak ks.len.symm ks.get,k1,k2,w5⟩
  |true=>
   rw[if_pos rfl] at F
   refine wpAny_bind (wpAny_bind (k (au (he _ s5 _ H5 _ V F) λy B ⟨G,m,D,r6,a6,l6,q6⟩=> ?_)))
   obtain⟨Y,Z,w6⟩:=hN _ _ q6
   obtain⟨k1,k2⟩:=a D
   refine wpAny_bind (k (au (iG (X:=aZ X (own++frees) scope c) _ B _ m (.ref acc) [G] (.ref acc) [y] (λ_ H7=>H7=upd m acc (.lst (ys++[G]))) D rfl (.cons r6 .nil) ⟨acc,ys,G,rfl,rfl,a6,l6,rfl⟩) λ_ s7 ⟨_,H7,I7,_,e7⟩=> ?_))
   subst e7
   obtain⟨k1,k2⟩:=a I7
   exact wpAny_pure (wpAny_pure ⟨rfl,Y,Z,i+1,ys++[G],_,(I7.kQ).weak ks.len.symm ks.get,k1,k2,w6⟩)
structure oj(X:Cx)(pins:aD)(C:Addr)(H:Hp):Prop where
 no:H C=none
 loc:C≠X.env.locals
 old:X.s₀.heap.objs.size<=C
 d7:∀x c,X.env.cells.lookup x=some c->c≠C
 pin:∀p∈X.pn++pins,p.1≠C
theorem oj.inv{pins:aD}{σ:St}{H:Hp}{s:Shared}{C:Addr}{h':Heap}(G:oj X pins C H)(I:Inv X pins σ H s)(hs:SameBut C s.heap h'):Inv X pins σ H {s with heap:=h'}:=
 B4 I G.no G.loc G.old G.d7 G.pin hs
theorem ur{pins:aD}{σ:St}{H:Hp}{s:Shared}{Q:VK}{L:Value->Addr->Result->Shared->Prop}{E:aj}{J:It}{it:Addr}{fp:List Addr}{M:Nat->Heap->Prop}
  (S:dD X scope frees)(hc:X.calm=true)(Z:ix.map (λi=>X.N[i]?)=frees.map some)
  (hg:∀c,PG (aZ X (own++frees) scope c) tg (g c))(ht:∀c,fF (aZ X (own++frees) scope c) ifs (tt c))(he:∀c,PE (aZ X (own++frees) scope c) elt (te c))
  (I:Inv X pins σ H s)(T:Turn X.prog X.w X.K tg J fp it M)(st:M 0 s.heap)(W:∀b∈fp,dI X pins H b)
  (h:∀(c:CP) (acc:Addr),H acc=none->o8 J (stC own ix σ) acc (g c) (tt c) (te c) (upd H acc (.lst [])) Q)
  (O:∀(acc C:Addr) s' H' m,Inv X pins σ H' s'->s'.heap.Ns C m->oj X pins C H'->Q (.ref acc) H'->L (.ref acc) C (.ok .next) s'):
  wpAny (model X.prog X.w) X.A (newList []) (λacc r=>wpAny (model X.prog X.w) X.A (newFunctionEnv scope X.env.globals (cR X.env scope.names []) [] X.env.qual none .none (some X.env)) (λl t=>
   codeAny (model X.prog X.w) X.A (.compStart (.ListComp elt [⟨tg,iter,ifs,0⟩] scope pos) 0 (.ref it) acc {l with scope:=relabel scope X.env}) (L acc l.locals) t) E r) E s:=by
 refine wpAny_newObj_type (wpAny_newFunctionEnv S.xH (by intro y hy;simp at hy) (λa u B=> ?_) S.kind)
 dsimp only at u B ⊢
 have P:H s.heap.objs.size=none:=I.hok.fresh (le_refl _)
 have n:Inv X pins σ (upd H s.heap.objs.size (.lst [])) {s with heap:=s.heap.push {cls:= .type "list",data:= .seq ([]:List Value).toArray}}:=I.w_ (its:=[]) (t':=s.toks) .nil (zero_le _)
 generalize D:({s with heap:=s.heap.push {cls:= .type "list",data:= .seq ([]:List Value).toArray}}:Shared)=f at n
 have F:f.heap=s.heap.push {cls:= .type "list",data:= .seq ([]:List Value).toArray}:=by rw[<-D]
 have Y:∀b∈fp,b<s.heap.objs.size:=λb j=>by
  obtain⟨o,e,_⟩:=T.obj _ _ st b j
  exact lt_size e
 have sz:f.heap.objs.size=s.heap.objs.size+1:=by rw[F,size_push]
 have k:∀b∈fp,dI X pins (upd H s.heap.objs.size (.lst [])) b/\b<f.heap.objs.size:=λb j=>
  ⟨⟨by rw[aF (ne_of_lt (Y b j))];exact(W b j).1,(W b j).2⟩,by rw[sz];exact lt_succ_of_lt (Y b j)⟩
 have kp:∀b o,f.heap.get? b=some o->a.get? b=some o:=λb o e=>by
  refine B.extBut b o ?_ (get?_push_of_some _ (F▸e))
  rw[<-F]
  exact ne_of_lt (lt_size e)
 have R:a.Ns f.heap.objs.size (λx=>([]:List (Str×Value)).reverse.lookup x):=by rw[F];exact u
 have J0:Inv (aZ X (own++frees) scope ⟨f.heap.objs.size,f,upd H s.heap.objs.size (.lst []),pins,fp⟩) [] (stC own ix σ) (upd H s.heap.objs.size (.lst [])) {f with heap:=a,toks:=s.toks+0}:=
  B5 S hc n k rfl Z ⟨_,R⟩ kp
 have U:∀b∈fp,∀H':Hp,H' b=none->dI (aZ X (own++frees) scope ⟨f.heap.objs.size,f,upd H s.heap.objs.size (.lst []),pins,fp⟩) [] H' b:=λb j H' hn=>B3 S n k rfl j hn
 have G:M 0 a:=T.keep _ _ _ st λb j o e=>kp b o (by rw[F];exact get?_push_of_some _ e)
 have loop:codeAny (model X.prog X.w) X.A (.compLoop (.ListComp elt [⟨tg,iter,ifs,0⟩] scope pos) 0 (.ref it) (.ref s.heap.objs.size) (aZ X (own++frees) scope ⟨f.heap.objs.size,f,upd H s.heap.objs.size (.lst []),pins,fp⟩).env)
   (L (.ref s.heap.objs.size) f.heap.objs.size) {f with heap:=a,toks:=s.toks+0}:=by
  refine BV rfl T (hg _) (ht _) (he _) U J0 G (λb j=>(k b j).1.1) (h _ _ P) λs' H' V q=> ?_
  obtain⟨m,hm,_⟩:=V.loc
  refine O _ _ s' H' m (B0 n k V) hm ⟨V.free,ne_of_gt n.lt,n.sz,λx c e z=> ?_,λp hp z=> ?_⟩ q
  .obtain⟨v,q⟩:=n.cell x c e
   exact absurd (lt_of_lt_of_le q.lt (by rw[z];exact le_refl _)) (lt_irrefl _)
  .exact absurd (lt_of_lt_of_le (lt_size (n.pin p hp).1) (by rw[z];exact le_refl _)) (lt_irrefl _)
 have d:=loop
 rw[<-D] at d
 exact codeAny_compStart_list d (T.self _ 0 _ _ _ G d)
theorem x9(hi:PI X tg iter wi)
  (d:∀c,PG (aZ X (own++frees) scope c) tg (g c))(f:∀c,fF (aZ X (own++frees) scope c) ifs (tt c))(j:∀c,PE (aZ X (own++frees) scope c) elt (te c))(S:dD X scope frees:=by exact⟨rfl,by decide+kernel,by decide+kernel,by decide+kernel,by decide+kernel,rfl⟩)(hc:X.calm=true:=by rfl)(k:ix.map (λi=>X.N[i]?)=frees.map some:=by rfl)(hs:∀x,foldedSetIterable iter X.env x=pure x:=by intro _;rfl):
  PE X (.ListComp elt [⟨tg,iter,ifs,0⟩] scope pos) (rN own ix wi g tt te):=by
 intro pins s σ H Q I h;rw[eval_ListComp];refine wpAny_comprehension_free (use:=none) rfl hs (uq (S.has I.ok)) S.kind S.locs (au (hi pins s σ H _ I h) λv t h1=>au h1 λl u h2=>?_);obtain⟨it,fp,w,J,H2,e,n,T,a,f2,o⟩:=h2;subst e;refine ur S hc k d f j n T a f2 o λacc C s' H' m p r G q=>?_;exact⟨m,r,λh' b=>⟨.ref acc,H',G.inv p b,rfl,q⟩⟩
theorem Jb{i:Nat}{x:Str}{pos' spos:Pos}(b:X.N.Nodup)(d:X.N[i]? =some x)(o:Loc X.env.scope x)(hi:PI X tg iter wi)
  (p:∀c,PG (aZ X (own++frees) scope c) tg (g c))(r:∀c,fF (aZ X (own++frees) scope c) ifs (tt c))(t:∀c,PE (aZ X (own++frees) scope c) elt (te c))(S:dD X scope frees:=by exact⟨rfl,by decide+kernel,by decide+kernel,by decide+kernel,by decide+kernel,rfl⟩)(hc:X.calm=true:=by rfl)(u:ix.map (λi=>X.N[i]?)=frees.map some:=by rfl)(hs:∀x,foldedSetIterable iter X.env x=pure x:=by intro _;rfl)
  (f:swapsWith (.ListComp elt [⟨tg,iter,ifs,0⟩] scope pos) (some (.Name x pos')) spos.line X.env=pure true:=by rfl)(w:X.fn x=true\/X.env.scope.names.lookup x=some .local:=by first|exact .inl rfl|exact .inr rfl|assumption):
  PS X (.Assign [.Name x pos'] (.ListComp elt [⟨tg,iter,ifs,0⟩] scope pos) spos) (z5 (rN own ix wi g tt te) (ja i)):=by
 intro pins s σ H D I h
 rw[exec_Assign_Name_used _ _ _ _ f]
 refine wpAny_bind (wpAny_standAt (wpAny_bind ?_))
 show wpAny _ X.A (do let _ <-comprehension (.ListComp elt [⟨tg,iter,ifs,0⟩] scope pos) scope X.env _ (newList []) false (eval iter X.env) (some (assign (.Name x pos') X.env))) _ _ s
 refine wpAny_bind (wpAny_mono (wpAny_comprehension_free (use:=some (assign (.Name x pos') X.env)) (Q:=λ_ s'=>SP X pins D .next s') rfl hs (uq (S.has I.ok)) S.kind S.locs
  (au (hi pins s σ H _ I h) λv P h1=>au h1 λy z h2=> ?_)) (λ_ s' B=>wpAny_pure (wpAny_pure B)) λ_ _ e=>e)
 obtain⟨it,fp,R,J,H2,e,E,T,j,f2,F⟩:=h2
 subst e
 refine ur S hc u p r t E T j f2 F λacc C s' H' m K L G q=> ?_
 show wpAny _ X.A (assign (.Name x pos') X.env (.ref acc)) _ _ _
 refine wpAny_assign_Name (zX K b d o (v:= .ref acc) rfl (λz k ch=> ?_) w)
 obtain⟨a,M,O⟩:=ch
 have l:C≠a:=by
  rcases O with e|e
  .rw[e];exact G.loc
  .exact(G.d7 _ _ e).symm
 exact⟨m,L.sameBut M l,λh' n=>⟨_,H',G.inv k n,q⟩⟩
end
section
variable{iL:St}{acc:Addr}{g:TG}{tt:TT}{te:TE}{H:Hp}{Q:VK}
end
section
variable{X:Cx}
theorem uc:∀{bs:List Bool} {its:List Value},Vals (bs.map V.bl) its->LSm.BoolsAre its bs
 |[],_,.nil=>.nil
 |b::r,_,.cons q t=>by
  cases q;exact .cons b (uc t)
theorem BC(hc:X.calm=true):ck X (.builtin "all") (λxs H Q=>∃(p:Addr) (bs:List Bool),xs=[.ref p]/\aI X.K H p (bs.map V.bl)/\Q (.bl (bs.all id)) H):=by
 intro pins s σ H xs n Q I r h;obtain⟨p,bs,rfl,g,q⟩:=h;obtain⟨u,rfl,j⟩:=vals1 r;cases j;obtain⟨vs,k,pl,o⟩:=I.list g;have d:=uc k;have a:=pl.isList;have c:p<s.heap.objs.size:=by obtain⟨_,e,_⟩:=a;exact lt_size e
 refine call_all_walk (wpAny_pyIter_list a ?_);refine⟨s.heap.objs.size,[s.heap.objs.size,p],[s.heap.objs.size],vs.toArray.size,_,_,λi=>(bs[i]?).getD true,rfl,Walks.list (A:=X.A.in1) (I.ok.hd hc) _ p (ne_of_lt c) vs.toArray,
  ⟨⟨_,get?_push_size _ rfl,rfl,rfl⟩,a.push _⟩,λi v s' t w l f=>?_,λh' tk m=>?_⟩
 .obtain⟨b,e,rfl⟩:=d.get i v (by simpa using l)
  simp only[e,getD_some] at f;exact wpAny_truthy_bool f
 .have e:((range vs.toArray.size).all λi=>(bs[i]?).getD true)=bs.all id:=by
   rw[size_toArray,d.length];exact LSm.range_all bs
  rw[e];exact⟨.bl _,H,I.kept (h':=h') (t':=tk) (LSm.kept_iter m),rfl,q⟩
theorem HP:aM X (binaryOp .FloorDiv) (rI (λ_ j=>0<j/\j.natAbs.log2<9000) λi j=>.int (i/j)):=mV λi j _ _ _ _ _ hc q=>by
 have h1:(0:Int)<j:=hc.1;exact floordiv_int (by omega) (by rw[Int.fdiv_eq_ediv_of_nonneg i (by omega)];exact q) (.inl (PyProof.noPylong_of_log2 hc.2))
def oz(y:Str):It:=⟨λi _=>i<y.cps.size,λi H x H'=>H'=H/\∃c,y.cps[i]?=some c/\x=.str ⟨#[c]⟩,λi _=>i=y.cps.size⟩
theorem LZ{P:Program}{w:World}{K:PySem.W.Frag}{nm:Str}{px:Pos}{ty:String}{y:Str}{t:Tok}(it:Addr)
  (W:∀A:Around,A.handled=none->Walks P w A it [it] [it] y.cps.size (SignAt y) (λi h=>h.IsStrIter it ty y t i))
  (D:∀(A:Around) (i:Nat) (s:Shared) (Q:aj) (E:aj),s.heap.IsStrIter it ty y t i->Q (.ref it) s->wpAny (model P w) A (pyIter (.ref it)) Q E s):Turn P w K (.Name nm px) (oz y) [it] it (λi h=>h.IsStrIter it ty y t i) where
 mem:=by simp
 obj:=λi h st b a=>by
  have e:b=it:=by simpa using a
  subst e
  obtain⟨o,e,c,d⟩:=st
  exact⟨o,e,λv z=>by rw[d] at z;cases z⟩
 keep:=λi h h' st k=>let ⟨o,F,r⟩:=st;⟨o,k it (by simp) o F,r⟩
 item:=by
  intro X f j l hc i pins s σ H E I g st m
  subst f j l
  obtain⟨f0,f1,f2,n,f4,p⟩:=g it (by simp)
  refine(W X.A (I.ok.hd hc)).item i s _ _ m st λv h' tk f q x=> ?_
  obtain⟨c,u,B,rfl⟩:=f
  have G:Inv X pins σ H {s with heap:=h',toks:=tk}:=I.turned (λb o a e=>x b o (by simpa using a) e) f0 f1 n f4 p
  exact⟨_,rfl,wpAny_pure ⟨.str ⟨#[c]⟩,H,G,⟨u,rfl⟩,⟨rfl,c,B,rfl⟩,q,λb a=>(g b a).1⟩⟩
 done:=by
  intro X f j l hc i pins s σ H E I g st m
  subst f j l
  obtain⟨f0,f1,f2,n,f4,p⟩:=g it (by simp)
  have C:i=y.cps.size:=m
  subst C
  exact(W X.A (I.ok.hd hc)).done s _ _ st λh' tk x=>⟨rfl,I.turned (λb o a e=>x b o (by simpa using a) e) f0 f1 n f4 p⟩
 self:=λA i s Q E st h=>D A i s Q E st h
def FD(tl:TE):TI:=λσ H R=>tl σ H λx H1=>∃y,x=.str y/\R (oz y) H1
theorem IU{l:Expr}{tl:TE}{nm:Str}{px:Pos}(j:PE X l tl):PI X (.Name nm px) l (FD tl):=by
 intro pins s σ H R I h;refine au (j pins s σ H _ I h) λv a ⟨x,H1,c,k,m⟩=>?_;obtain⟨y,e,q⟩:=m;subst e;obtain⟨t,rfl⟩:=k;have fin:∀(ty:String) (o:Obj) (W:∀A:Around,A.handled=none->Walks X.prog X.w A a.heap.objs.size [a.heap.objs.size] [a.heap.objs.size] y.cps.size (SignAt y) (λi h=>h.IsStrIter a.heap.objs.size ty y t i))
   (f:∀(A:Around) (i:Nat) (s:Shared) (Q:aj) (E:aj),s.heap.IsStrIter a.heap.objs.size ty y t i->Q (.ref a.heap.objs.size) s->wpAny (model X.prog X.w) A (pyIter (.ref a.heap.objs.size)) Q E s),
   (a.heap.push o).IsStrIter a.heap.objs.size ty y t 0->oG X pins σ (.Name nm px) R (.ref a.heap.objs.size) {a with heap:=a.heap.push o}:=λty o W f st=>by
  refine⟨a.heap.objs.size,[a.heap.objs.size],_,_,H1,rfl,c.kept (t':=a.toks) λb o e=>get?_push_of_some _ e,LZ _ W f,st,λb n=>?_,q⟩;have e:b=a.heap.objs.size:=by simpa using n
  subst e;exact c.iC (le_refl _) (c.hok.fresh (le_refl _))
 cases g:y.cps.all (·<128)
 .exact wpAny_pyIter_wide g (fin _ _ (λA' d=>Walks.strWide d _ y t) (λ_ _ _ _ _ st h=>wpAny_pyIter_striter_wide st h) ⟨_,get?_push_size _ rfl,rfl,rfl⟩)
 .exact wpAny_pyIter_ascii g (fin _ _ (λA' d=>Walks.strAscii d _ y t) (λ_ _ _ _ _ st h=>wpAny_pyIter_striter_ascii st h) ⟨_,get?_push_size _ rfl,rfl,rfl⟩)
end
mutual
inductive Dp(K:PySem.W.Frag)(H:Hp):V->PyData->Prop
 |ak:Dp K H .ak .none
 |bl (b:Bool):Dp K H (.bl b) (.bool b)
 |int (i:Int):Dp K H (.int i) (.int i)
 |str (x:Str):Dp K H (.str x) (.str x)
 |lst {a:Addr} {xs:List V} {ds:List PyData}:aI K H a xs->dc K H xs ds->Dp K H (.ref a) (.list ds)
 |tup {a:Addr} {xs:List V} {ds:List PyData}:aN K H a xs->dc K H xs ds->Dp K H (.ref a) (.tuple ds)
inductive dc(K:PySem.W.Frag)(H:Hp):List V->List PyData->Prop
 |nil:dc K H [] []
 |cons {v:V} {vs:List V} {d:PyData} {ds:List PyData}:Dp K H v d->dc K H vs ds->dc K H (v::vs) (d::ds)
end
section
variable{X:Cx}{pins:aD}{σ:St}{H H':Hp}{s:Shared}{K:PySem.W.Frag}
mutual
theorem Dp.reads(I:Inv X pins σ H s):∀(d:PyData) (v:V) (u:Value),Dp X.K H v d->RelV v u->∃as,Reads s.heap u d as
 |.none,_,_,h,r=>by cases h;cases r;exact⟨_,.none⟩
 |.bool b,_,_,h,r=>by cases h;cases r;exact⟨_,.bool b⟩
 |.int i,_,_,h,r=>by cases h;obtain⟨t,rfl⟩:=r;exact⟨_,.int i t⟩
 |.str x,_,_,h,r=>by cases h;obtain⟨t,rfl⟩:=r;exact⟨_,.str x t⟩
 |.list ds,_,_,h,r=>by
  cases h with
  |lst a hs=>
   cases r;obtain⟨its,c,pl,f⟩:=I.list a;obtain⟨as,ra⟩:=dc.reads I ds _ _ hs c;obtain⟨o,e,hc,n,hd⟩:=pl.isList;exact⟨_,.list e hc hd (by simpa using ra)⟩
 |.tuple ds,_,_,h,r=>by
  cases h with
  |tup a hs=>
   cases r;obtain⟨its,c,pl,f⟩:=I.tuple a;obtain⟨as,ra⟩:=dc.reads I ds _ _ hs c;obtain⟨o,e,hc,n,hd⟩:=pl;exact⟨_,.tuple e hc hd (by simpa using ra)⟩
 |.dict _,_,_,h,_=>nomatch h
theorem dc.reads(I:Inv X pins σ H s):∀(ds:List PyData) (vs:List V) (a:List Value),dc X.K H vs ds->Vals vs a->∃as,ReadsAll s.heap a ds as
 |[],_,_,h,r=>by cases h;cases r;exact⟨_,.nil⟩
 |d::ds,_,_,h,r=>by
  cases h with
  |cons h1 h2=>
   cases r with
   |cons b c=>
    obtain⟨as,a1⟩:=Dp.reads I d _ _ h1 b;obtain⟨bs,a2⟩:=dc.reads I ds _ _ h2 c;exact⟨_,.cons a1 a2⟩
end
def ri(K:PySem.W.Frag):R2:=λx y H Q=>∃d e,Dp K H x d/\Dp K H y e/\d.canLay0=true/\e.canLay0=true/\min d.depth e.depth<=64/\Q (.bl (PyData.eqv d e)) H
def rq(K:PySem.W.Frag):R2:=λx y H Q=>∃d e,Dp K H x d/\Dp K H y e/\d.canLay0=true/\e.canLay0=true/\min d.depth e.depth<=64/\Q (.bl (!PyData.eqv d e)) H
theorem HN(i:X.A.units+64<cLine):aM X (compareOp .Eq) (ri X.K):=by
 intro pins s σ H x y v u Q I a b h;obtain⟨d,e,h1,h2,c,f,hd,q⟩:=h;obtain⟨as,ra⟩:=Dp.reads I d x v h1 a;obtain⟨bs,g⟩:=Dp.reads I e y u h2 b;exact SeqAt.compareEq_reads ra g c f (by omega) ⟨.bl _,H,I,rfl,q⟩
theorem H9(i:X.A.units+64<cLine):aM X (compareOp .NotEq) (rq X.K):=by
 intro pins s σ H x y v u Q I a b h;obtain⟨d,e,h1,h2,c,f,hd,q⟩:=h;obtain⟨as,ra⟩:=Dp.reads I d x v h1 a;obtain⟨bs,g⟩:=Dp.reads I e y u h2 b;exact SeqAt.compareNe_reads ra g c f (by omega) ⟨.bl _,H,I,rfl,q⟩
theorem iw.new{p:Addr}(h:H p=none)(o:HO):iw H (upd H p o):=λb u q=>by rw[aF (bG q h)];exact q
theorem dc.ints:∀(xs:List Int),dc K H (xs.map V.int) (xs.map PyData.int)
 |[]=>.nil
 |x::r=>.cons (.int x) (dc.ints r)
end
section
variable{P:Program}{w:World}{K:PySem.W.Frag}{mg:ah}{base:Heap}
def TopD(K:PySem.W.Frag)(mg:ah)(x:Str)(st:Stmt)(ps:List Str):Prop:=∃f fd,gq K x x st f fd/\Binds K fd ps []/\mg x=some (.ref f)
end
section
variable{X:Cx}{k:Nat}{x:Str}{ps:List Str}{sp:Sp}{e:Expr}{es:List Expr}{t:TA}{p pos:Pos}
theorem HV:aM X (compareOp .LtE) (λx y H Q=>∃i j,x=.str i/\y=.str j/\Q (.bl (!decide (j.cps.toList<i.cps.toList))) H):=by
 intro pins s σ H x y v u Q I a b h;obtain⟨i,j,rfl,rfl,q⟩:=h;obtain⟨t,rfl⟩:=a;obtain⟨t',rfl⟩:=b;exact PySem.P.le_str (bw I q rfl)
end
def ou(K:PySem.W.Frag)(a:Addr):It:=
 ⟨λi H=>∃xs x,aI K H a xs/\xs[i]?=some x,λi H x H'=>∃p y,H p=none/\x=.ref p/\H'=upd H p (.tup [.int (i:Nat),y])/\∀xs,aI K H a xs->xs[i]?=some y,λi H=>∃xs,aI K H a xs/\xs.length<=i⟩
theorem LV{P:Program}{w:World}{K:PySem.W.Frag}{elts:List Expr}{k:Nat}{pos:Pos}(a e it:Addr)(B:e≠it):
  Turn P w K (.Tuple elts k pos) (ou K a) [e,it] e (λi h=>(∃old,IsEnum h e it i old)/\h.IsListIter it a i) where
 mem:=by simp
 obj:=λi h st b f=>by
  have j:b=e\/b=it:=by simpa using f
  obtain⟨⟨old,t⟩,o,e1,c,d⟩:=st
  rcases j with z|z
  .subst z
   exact⟨_,t,λv z=>nomatch (show Data.fields _=Data.cell v from z)⟩
  .subst z
   exact⟨o,e1,λv z=>by rw[d] at z;cases z⟩
 keep:=λi h h' st kp=>by
  obtain⟨⟨old,t⟩,st⟩:=st
  exact⟨⟨old,kp e (by simp) _ t⟩,st.at λo q=>kp it (by simp) o q⟩
 item:=by
  intro X N O Q hc i pins s σ H E I G st R
  subst N O Q
  obtain⟨xs,x,J,S⟩:=R
  obtain⟨its,T,p,hz⟩:=I.list J
  obtain⟨u,hu,ru⟩:=T.get S
  obtain⟨f0,f1,f2,f3,f4,f5⟩:=G e (by simp)
  obtain⟨L,M,g2,U,V,Y⟩:=G it (by simp)
  obtain⟨⟨old,t⟩,y⟩:=st
  refine wpAny_pyNext_enum_item t y p.isList (x:=u) (by simpa using hu) B λh' ho C hT hsz hk=> ?_
  refine⟨_,rfl,wpAny_letOwnedTupleGo_enum ho λh'' D l=> ?_⟩
  have A:H s.heap.objs.size=none:=I.hok.fresh (le_refl _)
  have elt:e<s.heap.objs.size:=lt_size t
  have Z:it<s.heap.objs.size:=by obtain⟨_,q,_⟩:=y;exact lt_size q
  have kp:∀b o,b≠e->b≠it->s.heap.get? b=some o->h''.get? b=some o:=λb o n1 n2 q=>(l.2 b n1).trans (hk b o n1 n2 q)
  have qf:h''.get? s.heap.objs.size=some {cls:= .type "tuple",data:= .seq #[.int i s.toks,u]}:=(l.2 _ (ne_of_gt elt)).trans hT
  have nb:∀b,b∉[e,it]->b≠e/\b≠it:=λb f=>⟨λz=>f (by simp[z]),λz=>f (by simp[z])⟩
  have nT:∀b o,s.heap.get? b=some o->b≠s.heap.objs.size:=λb o q=>ne_of_lt (lt_size q)
  have I1:Inv X pins σ (upd H s.heap.objs.size (.tup [.int (i:Nat),x])) {s with heap:=h'',toks:=s.toks+1}:=by
   refine I.step (g':=s.gens) (d':=s.drawn) (ch:=[e,it]) (λb f=> ?_) (λb o _ _ f q _=>kp b o (nb b f).1 (nb b f).2 q) (λb o _ _ f q _=>⟨o.slots,kp b o (nb b f).1 (nb b f).2 q⟩)
    (λb o f q n=>by rw[aF (nT b o q)];exact n) (λb o f q=>⟨o,kp b o (nb b f).1 (nb b f).2 q⟩) (λb ys q=>by rw[aF (bG q A)];exact q) (λb o v q=>by rw[aF (bG q A)];exact q)
    (λb ps q=>⟨#[],by rw[aF (bG q A),q];simp⟩) (λm hm=> ?_) (λb v q=> ?_) I.bare
   .have j:b=e\/b=it:=by simpa using f
    rcases j with z|z
    .subst z;exact⟨f3,f1,f4,f5⟩
    .subst z;exact⟨U,M,V,Y⟩
   .obtain⟨o,es,ep,q,r⟩:=hm
    exact⟨o,es,ep,kp _ o (Ne.symm f1) (Ne.symm M) q,r⟩
   .by_cases f:b=s.heap.objs.size
    .subst f
     rw[cj] at q
     cases q
     exact⟨by show 2<=sizeLine;decide,[.int i s.toks,u],.cons ⟨_,rfl⟩ (.cons ru .nil),_,qf⟩
    .rw[aF f] at q
     have ne1:∀c v',H c=some v'->c≠e/\c≠it:=λc v' g=>⟨λz=>(by rw[z,f0] at g;cases g),λz=>(by rw[z,L] at g;cases g)⟩
     refine(I.hok b v q).stay (λc w' F g=>kp c w' ?_ ?_ g) (λc g=>by rw[aF (bG g A)];exact g) λc ys g=>by rw[aF (bG g A)];exact g
     .rcases F with z|z
      .rw[z];exact(ne1 b v q).1
      .exact(ne1 c _ z).1
     .rcases F with z|z
      .rw[z];exact(ne1 b v q).2
      .exact(ne1 c _ z).2
  refine⟨.ref s.heap.objs.size,_,I1,rfl,⟨s.heap.objs.size,x,A,rfl,rfl,λys hy=>by rw[I.wV hy J];exact S⟩,⟨⟨u,by simpa using D⟩,C.at λo q=>(l.2 it B.symm).trans q⟩,λb f=> ?_⟩
  have j:b=e\/b=it:=by simpa using f
  rcases j with z|z
  .subst z;rw[aF (ne_of_lt elt)];exact f0
  .subst z;rw[aF (ne_of_lt Z)];exact L
 done:=by
  intro X N O Q hc i pins s σ H E I G st R
  subst N O Q
  obtain⟨xs,J,S⟩:=R
  obtain⟨its,T,p,hz⟩:=I.list J
  obtain⟨L,M,g2,U,V,Y⟩:=G it (by simp)
  obtain⟨⟨old,t⟩,y⟩:=st
  have hl:=T.length
  exact wpAny_pyNext_enum_end (I.ok.hd hc) t y p.isList (by simp;omega) λh' eb=>⟨rfl,I.turned (t':=s.toks) (λb o f e=>eb b o f e) L M U V Y⟩
 self:=λ_ _ _ _ _ st h=>by
  obtain⟨⟨old,t⟩,_⟩:=st
  exact wpAny_pyIter_enum t h
section
variable{X:Cx}
def Fv(K:PySem.W.Frag)(ta:TA):TI:=λσ H R=>ta σ H λvs H1=>∃a xs,vs=[.ref a]/\aI K H1 a xs/\R (ou K a) H1
theorem IP{l:Expr}{ta:TA}{elts:List Expr}{k:Nat}{tpos p pos:Pos}(j:Gl X "enumerate")(m:X.mg "enumerate"=none)(n:PA X [l] ta)(f:bootBuiltins "enumerate"=some (.type "enumerate"))(hs:starEach [l] X.env=[(false,eval l X.env)]:=by rfl):
  PI X (.Tuple elts k tpos) (.Call (.Name "enumerate" p) [l] [] pos) (Fv X.K ta):=by
 intro pins s σ H R I h;refine Call_ (gG I j m f (PyProof.Rows.callWith_type1 (au (n pos pins s σ H _ I h) λy c ⟨vs,H1,d,o,r⟩=>?_) hs rfl));obtain⟨a,xs,e,t,q⟩:=r;subst e;obtain⟨u,rfl,v⟩:=vals1 o;cases v;obtain⟨its,A,pl,B⟩:=d.list t;refine call_enumerate_list pl.isList λh' i hit hsz w=>?_;have x:Inv X pins σ H1 {c with heap:=h'}:=d.kept (t':=c.toks) w;refine wpAny_pyIter_enum i ⟨_,[c.heap.objs.size+1,c.heap.objs.size],_,_,H1,rfl,x,LV a _ _ (ne_of_gt (lt_succ_self _)),⟨⟨_,i⟩,hit⟩,λb f=>?_,q⟩;have g:b=c.heap.objs.size+1\/b=c.heap.objs.size:=by simpa using f
 rcases g with z|z
 .subst z
  exact d.iC (le_succ _) (d.hok.fresh (le_succ _))
 .subst z
  exact d.iC (le_refl _) (d.hok.fresh (le_refl _))
end
inductive jy(K:PySem.W.Frag)(H:Hp):V->Value->Prop where
 |of {x:V} {t:Value} (h:eL K H x t):jy K H x t
 |tup {a:Addr} {xs:List V} (h:aN K H a xs):jy K H (.ref a) (.type "tuple")
 |lst {a:Addr} {xs:List V} (h:aI K H a xs):jy K H (.ref a) (.type "list")
theorem BD{X:Cx}:ck X (.builtin "isinstance") (λxs H Q=>∃x c t b,xs=[x,.ty c]/\jy X.K H x t/\kitOne X.K t (.type c)=some b/\Q (.bl b) H):=by
 intro pins s σ H xs i Q I r h;obtain⟨x,c,t,b,rfl,ty,e,q⟩:=h;obtain⟨u,j,rfl,a,d⟩:=vals2 r;cases d;cases ty with
 |of ty=>exact FY I a ty e λtk=>⟨.bl b,H,I.tok tk,rfl,q⟩
 |tup f=>
  cases a;obtain⟨its,g,⟨o,h1,h2,_⟩,_⟩:=I.tuple f;exact kia_one kitx_tuple I.cS ⟨o,h1,h2⟩ e (λz=>nomatch z) λtk=>⟨.bl b,H,I.tok tk,rfl,q⟩
 |lst f=>
  cases a;obtain⟨its,g,pl,_⟩:=I.list f;obtain⟨o,h1,h2,_⟩:=pl.isList;exact kia_one kitx_list I.cS ⟨o,h1,h2⟩ e (λz=>nomatch z) λtk=>⟨.bl b,H,I.tok tk,rfl,q⟩
end L2
end
namespace MA
theorem Er{a b:Int}(c:0<=a)(d:0<b):Int.gcd b (a%b)=Int.gcd a b:=by
 obtain⟨m,rfl⟩:=Int.eq_ofNat_of_zero_le c;obtain⟨n,rfl⟩:=Int.eq_ofNat_of_zero_le (Int.le_of_lt d);rw[<-Int.natCast_emod,Int.gcd_natCast_natCast,Int.gcd_natCast_natCast,Nat.gcd_comm n (m%n),<-Nat.gcd_rec,Nat.gcd_comm]
def rf(x:Rat):Int×Int:=(x.num,(x.den:Int))
theorem kD(x:Rat):0<(rf x).2:=by
 have:=x.den_pos;show(0:Int)<(x.den:Int);omega
theorem kE(x:Rat):((rf x).1:Rat)/((rf x).2:Rat)=x:=by
 show(x.num:Rat)/((x.den:Int):Rat)=x;rw[<-Rat.divInt_eq_div,Rat.divInt_ofNat,Rat.mkRat_self]
theorem JH{x y:Rat}(h:rf x=rf y):x=y:=by rw[<-kE x,<-kE y,h]
theorem rz{a b:Int}(c:0<b):(a/(Int.gcd a b:Int),b/(Int.gcd a b:Int))=rf ((a:Rat)/(b:Rat)):=by
 rw[<-Rat.divInt_eq_div];unfold rf;have h1:=Rat.num_divInt a b;have h2:=Rat.den_divInt a b;rw[h1,h2];have hs:b.sign=1:=Int.sign_eq_one_of_pos c;rw[hs,if_neg (by omega),Int.one_mul,Int.gcd_comm b a];congr 1;have:(b.natAbs:Int)=b:=by omega
 rw[Int.natCast_ediv,this]
inductive aK(N:Type) where
 |wt (n:N)
 |bK (l r:Int) (a b:aK N)
namespace aK
variable{N:Type}
def arms:aK N->Prop
 |wt _=>True
 |bK l r a b=>1<=l/\l<=9/\1<=r/\r<=9/\a.arms/\b.arms
def deep:aK N->Nat
 |wt _=>0
 |bK _ _ a b=>max a.deep b.deep+1
def names:aK N->List N
 |wt n=>[n]
 |bK _ _ a b=>a.names++b.names
def sh:aK N->Rat->List Rat
 |wt _,x=>[x]
 |bK l r a b,x=>a.sh (x*((r:Rat)/((l+r:Int):Rat)))++b.sh (x*((l:Rat)/((l+r:Int):Rat)))
theorem j5:∀(m:aK N),m.names.length<=2 ^ m.deep
 |wt _=>le_refl 1
 |bK _ _ a b=>by
  have h1:=j5 a;have h2:=j5 b;have c:2 ^ a.deep<=2 ^ max a.deep b.deep:=pow_le_pow_right (by decide) (le_max_left _ _);have d:2 ^ b.deep<=2 ^ max a.deep b.deep:=pow_le_pow_right (by decide) (le_max_right _ _);show List.length (_++_)<=2 ^ (max a.deep b.deep+1);rw[length_append,Nat.pow_succ];omega
theorem xy:∀(m:aK N),0<m.names.length
 |wt _=>Nat.zero_lt_one
 |bK _ _ a b=>by
  have h1:=xy a;show 0<List.length (_++_);rw[length_append];omega
end aK
theorem o_{a:Int}(h:a≠0):(a:Rat)≠0:=by
 intro z;exact h (by exact_mod_cast z)
theorem yP(t:Rat)(a b:Int):rf ((((rf t).1*a:Int):Rat)/(((rf t).2*b:Int):Rat))=rf (t*((a:Rat)/(b:Rat))):=by
 have h1:=o_ (Int.ne_of_gt (kD t));congr 1;rw[Rat.intCast_mul,Rat.intCast_mul];have d:=kE t;by_cases c:(b:Rat)=0
 .rw[c];grind
 .grind
theorem C1{a b:Int}(c:0<b):(rf ((a:Rat)/(b:Rat))).2<=b:=by
 rw[<-rz c];show b/(Int.gcd a b:Int)<=b;exact Int.ediv_le_self _ (Int.le_of_lt c)
theorem den_mul{t:Rat}{a b:Int}(c:0<b):(rf (t*((a:Rat)/(b:Rat)))).2<=(rf t).2*b:=by
 rw[<-yP];exact C1 (mul_pos (kD t) c)
theorem qR{x:Rat}(h:0<x):0<(rf x).1:=by
 have h1:0<=(rf x).1:=Rat.num_nonneg.mpr (Rat.le_of_lt h);have h2:(rf x).1≠0:=λz=>by
  have e:=kE x;rw[z] at e;have a:x=0:=by rw[<-e,Rat.div_def];grind
  rw[a] at h;exact absurd h (by decide)
 omega
namespace aK
variable{N:Type}
theorem step_pos{l r:Int}{x:Rat}(a:1<=l)(b:1<=r)(h:0<x):0<x*((r:Rat)/((l+r:Int):Rat)):=by
 have h1:(0:Rat)<(r:Rat):=by exact_mod_cast (show(0:Int)<r by omega)
 have h2:(0:Rat)<((l+r:Int):Rat):=by exact_mod_cast (show(0:Int)<l+r by omega)
 exact Rat.mul_pos h (by rw[Rat.div_def];exact Rat.mul_pos h1 (Rat.inv_pos.mpr h2))
theorem rD:∀(m:aK N) (x:Rat) (B:Int),m.arms->0<x->(rf x).2<=B->∀s∈m.sh x,0<s/\(rf s).2<=B*18 ^ m.deep
 |wt _,x,B,_,h1,h2,s,hs=>by
  have:s=x:=by simpa[sh] using hs
  subst this;exact⟨h1,by simpa[deep] using h2⟩
 |bK l r a b,x,B,h,h1,h2,s,hs=>by
  obtain⟨f,t,g,u,i,j⟩:=h;have n:0<B:=Int.lt_of_lt_of_le (kD x) h2;have o:(rf (x*((r:Rat)/((l+r:Int):Rat)))).2<=B*18:=by
   refine Int.le_trans (den_mul (by omega)) ?_;exact mul_le_mul h2 (by omega) (by omega) (by omega)
  have p:(rf (x*((l:Rat)/((l+r:Int):Rat)))).2<=B*18:=by
   refine Int.le_trans (den_mul (by omega)) ?_;exact mul_le_mul h2 (by omega) (by omega) (by omega)
  have p1:0<x*((r:Rat)/((l+r:Int):Rat)):=step_pos f g h1;have p2:0<x*((l:Rat)/((l+r:Int):Rat)):=by
   have:=step_pos (l:=r) (r:=l) g f h1;rwa [add_comm r l] at this
  have up:∀k:Nat,k<=max a.deep b.deep->B*18*18 ^ k<=B*18 ^ (max a.deep b.deep+1):=λk q=>by
   rw[pow_succ,Int.mul_assoc,mul_comm 18 (18 ^ k)];refine Int.mul_le_mul_of_nonneg_left ?_ (Int.le_of_lt n);refine Int.mul_le_mul_of_nonneg_right ?_ (by decide);have:(18:Nat) ^ k<=18 ^ max a.deep b.deep:=pow_le_pow_right (by decide) q;exact_mod_cast this
  have c:s∈a.sh (x*((r:Rat)/((l+r:Int):Rat)))\/s∈b.sh (x*((l:Rat)/((l+r:Int):Rat))):=mem_append.mp hs;rcases c with hs|hs
  .obtain⟨d,e⟩:=rD a _ _ i p1 o s hs
   exact⟨d,Int.le_trans e (up _ (le_max_left _ _))⟩
  .obtain⟨d,e⟩:=rD b _ _ j p2 p s hs
   exact⟨d,Int.le_trans e (up _ (le_max_right _ _))⟩
end aK
def cH{W N S:Type}[DecidableEq N][DecidableEq S](pre:List (W×N×S)):List (W×N×S)->Option (W×W)
 |[]=>none
 |(w,n,s)::r=>match pre.find? (λp=>decide (p.2.1=n)) with
  |some p=>if p.2.2=s then cH (pre++[(w,n,s)]) r else some (p.1,w)
  |none=>cH (pre++[(w,n,s)]) r
end MA
section
open PySem PySem.Spec PyProof.Rows
namespace L2
section
variable{P:Program}{w:World}{H H':Hp}{h:Heap}{a:Addr}{o:HO}
theorem aY.obj(x:aY P w H h a o):∃u,h.get? a=some u:=by
 cases o with
 |lst xs=>obtain⟨_,_,_,_,e⟩:=x;exact⟨_,e⟩
 |tup xs=>obtain⟨_,_,_,_,e⟩:=x;exact⟨_,e⟩
 |dK kvs=>obtain⟨_,_,_,_,o,_,_,e,_⟩:=x;exact⟨_,e⟩
 |dT kvs=>obtain⟨_,_,_,_,o,_,_,e,_⟩:=x;exact⟨_,e⟩
 |set S n=>obtain⟨o,_,_,_,e,_⟩:=x;exact⟨_,e⟩
 |ins C dx fs=>obtain⟨_,_,_,e,_⟩:=x;exact⟨_,e⟩
 |own y=>exact x
 |xd fs=>obtain⟨_,⟨_,_,_,e,_⟩,_⟩:=x;exact⟨_,e⟩
 |c7 lo hi=>obtain⟨_,_,_,e⟩:=x;exact⟨_,e⟩
 |aP b u=>obtain⟨e,_⟩:=x;exact⟨_,e⟩
 |eT ps=>exact⟨_,(show h.get? a=some _ from x)⟩
 |met f y=>exact⟨_,(show h.get? a=some _ from x)⟩
 |ext c=>obtain⟨_,e,_⟩:=x;exact e
end
structure su(P:Program)(w:World)(outer:List Env)(H H':Hp)(s s':Shared)(a:Addr)(C:Value):Prop where
 os:s'.os=s.os
 bare:AllBare s'.gens
 slot:∀b o,s.heap.get? b=some o->b∈frs outer->∃sl,s'.heap.get? b=some {o with slots:=sl}
 free:∀b o,s.heap.get? b=some o->H b=none->H' b=none
 tups:∀b xs,H b=some (.tup xs)->H' b=some (.tup xs)
 di:∀b o u,H b=some (.aP o u)->H' b=some (.aP o u)
 eH:∀b ps,H b=some (.eT ps)->∃more,H' b=some (.eT (ps++more))
 fl:∃(B:Heap) (a0:Value),(∀b o,s.heap.get? b=some o->H b=none->b∉frs outer->B.get? b=some o)/\(∀b o,s.heap.get? b=some o->b∉frs outer->∃o',B.get? b=some o')/\bx P w H' B/\Heap.FlyingW B outer a C a0 s'.heap
section
variable{P:Program}{w:World}{outer:List Env}{H H':Hp}{s s':Shared}{a:Addr}{C:Value}
end
def aQ(P:Program)(w:World):eU:=λouter H s E e s'=>∃(a:Addr) (C:Value) (H':Hp),e=.ref a/\su P w outer H H' s s' a C/\E C none H'
section
variable{X:Cx}{pins:aD}{σ:St}{H H':Hp}{s s':Shared}{a:Addr}{C:Value}
theorem vh(I:Inv X pins σ H s)(hex:X.ex=[])(os:s'.os=s.os)(bare:AllBare s'.gens)(slot:∀b o,s.heap.get? b=some o->b∈frs X.outer->∃g,s'.heap.get? b=some {o with slots:=g})
  (free:∀b o,s.heap.get? b=some o->H b=none->H' b=none)(tups:∀b xs,H b=some (.tup xs)->H' b=some (.tup xs))(di:∀b o u,H b=some (.aP o u)->H' b=some (.aP o u))
  (eH:∀b ps,H b=some (.eT ps)->∃more,H' b=some (.eT (ps++more)))
  (fl:∃(B:Heap) (a0:Value),(∀b o,s.heap.get? b=some o->H b=none->b∉frs X.stack->B.get? b=some o)/\(∀b o,s.heap.get? b=some o->b∉frs X.stack->∃o',B.get? b=some o')/\bx X.prog X.w H' B/\Heap.FlyingW B X.outer a C a0 s'.heap):
  su X.prog X.w X.outer X.H₀ H' X.s₀ s' a C:=by
 have nx:∀b:Addr,b∉X.ex:=λb=>by rw[hex];simp
 have d:∀b o,X.s₀.heap.get? b=some o->b∉frs X.outer->b∉frs X.stack:=λb o q c z=>by
  rcases mem_cons.mp (I.jo b z) with e|e
  .exact absurd (lt_of_lt_of_le (lt_size q) I.ok.above) (by rw[e];exact lt_irrefl _)
  .exact c e
 refine⟨os.trans I.os,bare,λb o q c=> ?_,λb o q n=> ?_,λb xs q=>tups b xs (I.base.tups b xs q),λb o u q=>di b o u (I.base.di b o u q),λb ps q=> ?_,?_⟩
 .obtain⟨g,e⟩:=I.base.slot b o q (I.ok.i_ b c) c (nx b)
  obtain⟨i,j⟩:=slot b _ e c
  exact⟨i,j⟩
 .obtain⟨g,e⟩:=I.base.any q n (nx b)
  exact free b _ e (I.base.free b o q n (nx b))
 .obtain⟨l,m⟩:=I.base.eH b ps q
  obtain⟨p,r⟩:=eH b _ m
  exact⟨l++p,by rw[r,Array.append_assoc]⟩
 .obtain⟨B,a0,k,t,h,f⟩:=fl
  refine⟨B,a0,λb o q n c=>k b o (I.base.keep b o q n c (nx b)) (I.base.free b o q n (nx b)) (d b o q c),λb o q c=> ?_,h,f⟩
  obtain⟨o',e⟩:=I.base.there b o q (nx b)
  exact t b o' e (d b o q c)
end
def Raises(X:Cx)(E:XK):Prop:=∀(pins:aD) (σ:St) (H:Hp) (s:Shared) (e:Addr) (h':Heap) (C:Value) (args:List Value),Inv X pins σ H s->Heap.MadeExcOf s.heap h' e C args->E C none H->X.xe (.ref e) {s with heap:=h'}
section
variable{P:Program}{w:World}{K:PySem.W.Frag}{mg:ah}{base:Heap}{N:List Str}{qual:Str}{scope:Scope}{f:Addr}{cd:Value}{A:Around}{outer:List Env}{s:Shared}{H:Hp}{E:XK}
theorem vt{env:Env}{l:List Env}{b:Addr}(h:b∈frs l):b∈frs (env::l):=by
 obtain⟨e,a,c⟩:=mem_filterMap.mp h;exact mem_filterMap.mpr ⟨e,mem_cons_of_mem _ a,c⟩
theorem yK:Raises (bC (aQ P w) P w K mg base N qual scope f cd A outer s H E) E:=by
 intro pins σ H1 j e h' C args I i k;have stk:=I.stack;have mR:∀b o,H1 b=some o->b∉frs (bC (aQ P w) P w K mg base N qual scope f cd A outer s H E).stack:=λb o q z=>by
  rw[I.rG b z] at q;cases q
 have h:∀a∈(bC (aQ P w) P w K mg base N qual scope f cd A outer s H E).stack,∀b,a.frame=some b->b∈frs (bC (aQ P w) P w K mg base N qual scope f cd A outer s H E).stack:=λa l b d=>mem_filterMap.mpr ⟨a,l,d⟩;show wpAny (model P w) _ (leaving _ (.ref e)) _ _ _;refine wpAny_leaves_madeW (base:=hideAll j.heap (frs (bC (aQ P w) P w K mg base N qual scope f cd A outer s H E).stack)) I.ok.frames rfl (λb o q=>of_hideAll _ q) (PySem.W.funFrames_hide stk h) i λh'' t fl tup m up=>?_;refine⟨e,C,H1,rfl,vh I rfl rfl I.bare (λb o q d=>?_) (λ_ _ _ n=>n) (λ_ _ q=>q) (λ_ _ _ q=>q) (λ_ ps q=>⟨#[],by rw[q];simp⟩) ⟨_,_,λb o q n d=>hideAll_get _ q d,λb o q d=>⟨o,hideAll_get _ q d⟩,λb o q=>?_,fl⟩,k⟩
 .obtain⟨_,o',g,hd⟩:=stk.mem (vt (env:=envOfC qual scope s.heap.objs.size f cd) d)
  rw[q] at g;cases g;exact up b o (i.keeps b o q) hd
 .refine(I.hok b o q).stay (λc u hc r=>hideAll_get _ r ?_) (λ_ r=>r) λ_ _ r=>r
  rcases hc with z|z
  .rw[z];exact mR b o q
  .exact mR c _ z
theorem xZ:Passes (aQ P w) (bC (aQ P w) P w K mg base N qual scope f cd A outer s H E) E:=by
 intro pins σ H1 n e s' I h;obtain⟨a,C,H',rfl,F,j⟩:=h;obtain⟨B,a0,k,th,hok,fl⟩:=F.fl;show wpAny (model P w) _ (leaving _ (.ref a)) _ _ _;refine wpAny_leaves_onW I.ok.frames rfl fl λh'' g up=>⟨a,C,H',rfl,vh I rfl F.os F.bare (λb o q l=>?_) F.free F.tups F.di F.eH ⟨B,a0,k,th,hok,g⟩,j⟩;have c:=vt (env:=envOfC qual scope s.heap.objs.size f cd) l;obtain⟨p,e⟩:=F.slot b o q c;obtain⟨_,o',d,hd⟩:=fl.2.2.1.mem c;rw[e] at d;cases d;obtain⟨i,m⟩:=up b _ e hd;exact⟨i,m⟩
theorem eE:PassesOwn (model P w) (bC (aQ P w) P w K mg base N qual scope f cd A outer s H E).A (bC (aQ P w) P w K mg base N qual scope f cd A outer s H E).env (bC (aQ P w) P w K mg base N qual scope f cd A outer s H E).xe:=
 PassesOwn.leaving
end
abbrev n_:List Value:=[.type "ValueError",.type "Exception",.type "BaseException",.type "object"]
theorem DI{K:PySem.W.Frag}{h:Heap}{C:Addr}{b:List Value}{newId:String}(X:K.In h)(q:excIn K C b newId=true):∃nm d N bs bm hdct sn sub ab col dd k0 k1 k2 k3 k5,∃mN:ah,
  h.get? C=some (excClassObj nm d C N bs bm hdct sn sub ab col dd k0 k1 k2 k3 k5 newId)/\h.Ns N mN/\mN "__init__"=none/\OwnTail h b bm:=by
 unfold excIn at q;split at q
 .rename_i dd cd f i
  split at q
  .rename_i k bm k0 k1 k2 k3 n k5 g hs
   simp only[and_eq_true,beq_iff_eq,Bool.not_eq_true'] at q;obtain⟨⟨⟨⟨⟨rfl,rfl⟩,a⟩,j⟩,hok⟩,c⟩:=q;obtain⟨nm,bs,mro,ns,d,hd,sn,sub,ab,col,del⟩:=cd;dsimp only at g a hok c;subst g a;have e:f= #[k0,k1,k2,k3,some (.builtin n),k5]:=by
    obtain⟨l⟩:=f;simp only at hs;rw[hs]
   subst e;exact⟨nm,d,ns,bs,bm,hd,sn,sub,ab,col,dd,k0,k1,k2,k3,k5,_,X _ _ i,.of_isNs (PySem.W.isNs_of_in X hok),PySem.W.nsMap_none_of_in X hok c,PySem.W.tail_of_in X j⟩
  .cases q
 .cases q
section
variable{X:Cx}{E:XK}{x:Str}{C:Addr}{e:Expr}{t:TA}{np cpos pos:Pos}
def LC(E:XK)(C:Addr)(t:TA):TS:=λ_ σ H=>t σ H λvs H1=>vs.length<=sizeLine/\E (.ref C) none H1
theorem Jh(j:Raises X E)(hc:X.calm=true)(k:X.mg x=some (.ref C))(l:excIn X.K C n_ "ValueError.__new__"=true)(m:PA X [e] t)(n:Gl X x:=by rfl)(b:(x==("__debug__":Str))=false:=by decide)
  (f:starEach [e] X.env=[(false,eval e X.env)]:=by rfl):PS X (.Raise (some (.Call (.Name x np) [e] [] cpos)) none pos) (LC E C t):=by
 intro pins s σ H D I h;obtain⟨nm,o,N,bs,bm,hdct,sn,sub,ab,col,dd,k0,k1,k2,k3,k5,mN,c,p,d,g⟩:=DI I.mod.mG l;refine wpAny_Raise_call_subT (nm:=nm) (q:=o) (C:=C) (N:=N) (bs:=bs) (bm:=bm) (hdct:=hdct) (sn:=sn) (sub:=sub) (ab:=ab) (col:=col) (dd:=dd) (k0:=k0) (k1:=k1) (k2:=k2) (k3:=k3) (k5:=k5) (mN:=mN) PySem.F.excBase_ValueError (g.hasType (by decide+kernel)) (I.ok.hd hc) (by rw[f];rfl) d (qx I n k ⟨rfl,?_⟩ b);have h':=m cpos pins s σ H _ I h;rw[f] at h' ⊢;refine Calls.evalArgs_plain (au h' λr y ⟨vs,H1,a,u,i⟩=>?_);have v:=u.length;exact⟨rfl,by show r.length<=sizeLine;rw[<-v];exact i.1,a.bk _ _ c,p.keeps a.bk,g.keeps a.bk,λh2 z w=>j _ _ _ _ _ _ _ _ a w i.2⟩
end
def excAt(a:Addr)(C:Value)(h:Heap):Prop:=∃o,h.get? a=some o/\o.cls=C
section
variable{prog:Program}{w:World}{A:Around}{E:aj}{s:Shared}{K:PySem.W.Frag}{x C:Addr}{ox:Obj}
end
abbrev DH(a C:Addr):HO:=.ext (excAt a (.ref C))
section
variable{X:Cx}
end
section
variable{X:Cx}{pins:aD}{σ:St}{H:Hp}{s:Shared}
end
section
variable{P:Program}{w:World}{outer:List Env}{H H':Hp}{s s':Shared}{a:Addr}{C a0:Value}{B h'':Heap}
end
section
variable{X:Cx}{D:Addr}{i:Nat}{n cn:Str}{b₀:Stmt}{suite body:List Stmt}{tb:List (Addr×Obj)->(aj)->XK->TS}{th:TS}{np hpos pos:Pos}
end
section
variable{P:Program}{w:World}{K:PySem.W.Frag}{mg:ah}{base:Heap}
def aB(P:Program)(w:World)(K:PySem.W.Frag)(mg:ah)(base:Heap)(k:Nat)(x:Str)(ps:List Str)(sp:Sp):Prop:=
 ∃f fd,dH P w K mg base (aQ P w) k f fd ps sp/\Binds K fd ps []/\keepIn K (.ref f)=true/\mg x=some (.ref f)
theorem TopD.fnX{x:Str}{st:Stmt}{N ps:List Str}{k:Nat}{sp:Sp}(T:TopD K mg x st ps)(S:bf N ps (aH st))(len:∀vs H Q E,sp vs H Q E->vs.length=ps.length)
  (c:∀(f:Addr) (a:Value) (A:Around) (outer:List Env) (s:Shared) (H:Hp) (vs:List V) (Q:VK) (E:XK),bV k (A.deeper (envOfC x (aH st) s.heap.objs.size f a))->sp vs H Q E->
   ∃t,bU (bC (aQ P w) P w K mg base N x (aH st) f a A outer s H E) (ee st) t/\t {nx:=λ_ H'=>Q .ak H',rt:=Q} (start N vs) H):aB P w K mg base (k+1) x ps sp:=by
 obtain⟨f,fd,F,b,m⟩:=T;have kp:=F.kp;obtain⟨i,j,kV,doc,pm,an,a,ct,g,rfl,lk,d⟩:=F.ex;exact⟨f,_,vm lk d S len λA outer s H vs Q E h e=>c f a A outer s H vs Q E h e,b,kp,m⟩
end
section
variable{X:Cx}{k:Nat}{x:Str}{ps:List Str}{sp:Sp}{e fe:Expr}{es:List Expr}{t:TA}{tf:TE}{p pos:Pos}{E:XK}
theorem Ip(F:aB X.prog X.w X.K X.mg X.base k x ps sp)(d:bV k X.A)(g:Passes (aQ X.prog X.w) X E)(h:PA X (e::es) t)(i:Gl X x:=by rfl)(a:(x==("__debug__":Str))=false:=by decide)
  (j:starEach (e::es) X.env=(false,eval e X.env)::starEach es X.env:=by rfl)(c:(backTo pos (starEach es X.env)).any (·.1)=false:=by rfl):
  PE X (.Call (.Name x p) (e::es) [] pos) (z6 sp [] E t):=by
 obtain⟨f,fd,F,b,kp,m⟩:=F;exact Il F d i m kp b .nil g h a j c
end
end L2
namespace SS
theorem Ie(t:SetTable)(n:Nat):(t.orStandIn n).led=t.led:=by
 unfold SetTable.orStandIn;split<;>rfl
theorem Ig(t:SetTable)(n:Nat)(h:t.plain=false):(t.orStandIn n).plain=false:=by
 unfold SetTable.orStandIn;split
 .exact h
 .rfl
theorem GL(t:SetTable)(es:Array (Int×Value))(h:Int)(x:Value):(layNew t es h x).2.1.led=t.led:=by
 unfold layNew;split
 .exact Ie _ _
 .rfl
theorem GN(t:SetTable)(es:Array (Int×Value))(h:Int)(x:Value)(a:t.plain=false):(layNew t es h x).2.1.plain=false:=by
 unfold layNew;split
 .exact Ig _ _ a
 .rfl
theorem wJ{mask finger moves:Nat}{led plain:Bool}{hs:Array Int}{t:SetTable}{o:Array Nat}(h:SetTable.laid mask finger moves led plain hs=some (t,o)):t.led=led/\t.plain=plain:=by
 unfold SetTable.laid at h;obtain⟨w,_,h⟩:=Option.bind_eq_some_iff.mp h;cases h;exact⟨rfl,rfl⟩
theorem JF(t:SetTable)(es:Array (Int×Value))(n:Nat):(relayAll t es n).2.1.led=t.led:=by
 unfold relayAll;split
 .rename_i t' o e
  dsimp only;split
  .exact(wJ e).1
  .rfl
 .rfl
theorem JG(t:SetTable)(es:Array (Int×Value))(n:Nat)(a:t.plain=false):(relayAll t es n).2.1.plain=false:=by
 unfold relayAll;split
 .rename_i t' o e
  dsimp only;split
  .exact(wJ e).2.trans a
  .rfl
 .rfl
def strOf(v:Value):Str:=match v with|.str x _=>x|_=>⟨#[]⟩
def cG(prog:Program)(w:World)(h:Heap)(a:Addr)(es:Array (Int×Value)):Prop:=
 ∃o ep t,h.get? a=some o/\o.ExactSet/\o.data=.set es ep t/\ElemsOf (PySem.strKind prog w) es.toList/\(es.toList.map λe=>strOf e.2).Nodup/\es.size<scanBound/\t.fits es.size=true/\
  t.led= !w.params.followText "set-order"/\(es.size≠0->t.plain=false)
section
variable{prog:Program}{w:World}{A:Around}{E:aj}{s:Shared}
theorem pU{l:List (Int×Value)}(h:ElemsOf (PySem.strKind prog w) l){e:Int×Value}(a:e∈l):∃t,e.2=.str (strOf e.2) t:=by
 obtain⟨⟨k,b,_⟩,_⟩:=h e a;obtain⟨t,q⟩:=Value.isStrOf_shape b;exact⟨t,by rw[q];rfl⟩
theorem wk{e:Int×Value}{x:Str}(h:∃t,e.2=.str (strOf e.2) t):(PySem.strKind prog w).is x e.2=decide (strOf e.2=x):=by
 obtain⟨t,q⟩:=h;rw[q];show Value.isStrOf x (.str (strOf e.2) t)=decide (strOf (.str (strOf e.2) t)=x);by_cases a:strOf e.2=x
 .rw[decide_eq_true (by rw[<-a];rfl),a]
  simp[Value.isStrOf]
 .rw[decide_eq_false (by exact a)]
  simp only[Value.isStrOf];simpa[beq_iff_eq] using λz=>a (by first|exact z.symm|exact z)
theorem add{a:Addr}{es:Array (Int×Value)}{x:Str}{tk:Tok}{Q:Bool->Shared->Prop}(hS:cG prog w s.heap a es)(K:es.size+1<scanBound)
  (h:∀h' l b,SameBut a s.heap h'->cG prog w h' a l->(x∈es.toList.map (λe=>strOf e.2)->l=es)->(x∉es.toList.map (λe=>strOf e.2)->l.toList.Perm (es.toList++[((PySem.strKind prog w).hash x,.str x tk)]))->Q b {s with heap:=h'}):
  wpAny (model prog w) A (setAddHashed a (.str x tk) ((PySem.strKind prog w).hash x)) Q E s:=by
 obtain⟨o,ep,t,T,hex,hd,n,U,hb,hf,u,hpl⟩:=hS
 have C:(PySem.strKind prog w).is x (.str x tk)=true:=by show Value.isStrOf x (.str x tk)=true;simp[Value.isStrOf]
 have M:(Value.str x tk).scannable=true:=rfl
 unfold setAddHashed setAddHashedIn
 refine wpAny_holding (wpAny_bind (wpAny_setState_of T hd hf ?_))
 dsimp only
 rw[byScan_of M hb n]
 simp only[↓reduceIte]
 unfold setAddByScan
 refine wpAny_bind ?_
 refine wpAny_bind (wpAny_rule ?_)
 refine wpAny_bind (wpAny_setScan_of C T hd hf n ?_)
 cases hr:List.findIdx? (λe=>(PySem.strKind prog w).is x e.2) es.toList with
 |some j=>
  dsimp only
  obtain⟨hj,V,_⟩:=List.findIdx?_eq_some_iff_getElem.mp hr
  have hin:x∈es.toList.map (λe=>strOf e.2):=by
   rw[wk (pU n (getElem_mem hj))] at V
   exact mem_map.mpr ⟨_,getElem_mem hj,of_decide_eq_true V⟩
  refine wpAny_pure (wpAny_pure ?_)
  have e:s={s with heap:=s.heap}:=by cases s;rfl
  rw[e]
  exact h s.heap es _ (SameBut.refl a s.heap) ⟨o,ep,t,T,hex,hd,n,U,hb,hf,u,hpl⟩ (λ_=>rfl) λz=>absurd hin z
 |none=>
  dsimp only
  have D:x∉es.toList.map (λe=>strOf e.2):=λz=>by
   obtain⟨e,he,q⟩:=mem_map.mp z
   have:=List.findIdx?_eq_none_iff.mp hr e he
   rw[wk (pU n he),decide_eq_true q] at this
   exact Bool.noConfusion this
  have E3:∀(b:Bool) {f:Shared} {F:Unit->Shared->Prop},F () f->wpAny (model prog w) A (match b with|true=>rule "set.scan.the-table-gave-way"|false=>pure ()) F E f:=
   λb f F r=>by cases b<;>first|exact wpAny_pure r|exact wpAny_rule r
  have d:=layNew_perm t es ((PySem.strKind prog w).hash x) (.str x tk)
  have k:=layNew_fits t es ((PySem.strKind prog w).hash x) (.str x tk)
  have B:=GL t es ((PySem.strKind prog w).hash x) (.str x tk)
  have W:=GN t es ((PySem.strKind prog w).hash x) (.str x tk)
  generalize hL:layNew t es ((PySem.strKind prog w).hash x) (.str x tk)=L at d k B W ⊢
  obtain⟨c,t1,p,Mw⟩:=L
  dsimp only at d k B W ⊢
  rw[Array.toList_push] at d
  have G:ElemsOf (PySem.strKind prog w) c.toList:=(n.push C M).perm d
  have X:((es.toList++[((PySem.strKind prog w).hash x,Value.str x tk)]).map λe=>strOf e.2).Nodup:=by
   rw[map_append]
   refine nodup_append.mpr ⟨U,by simp,λy hy z hz=> ?_⟩
   have hz':z=x:=by simpa[strOf] using hz
   rw[hz']
   rintro rfl
   exact D hy
  have H:(c.toList.map λe=>strOf e.2).Nodup:=(d.map _).nodup_iff.mpr X
  have Y:c.size=es.size+1:=by rw[<-length_toList,d.length_eq,length_append,length_toList];rfl
  have v:c.size<scanBound:=by rw[Y];exact K
  refine wpAny_bind (E3 _ ?_)
  have fin:∀{g:Bool->Sem Unit} {R:Option Bool->Shared->Prop},(∀(b:Bool) (f:Shared) (F:Unit->Shared->Prop),F () f->wpAny (model prog w) A (g b) F E f)->(∀h',Q true {s with heap:=h'}->R (some true) {s with heap:=h'})->
    ∀i:SetTable,i.fits c.size=true->i.led=t.led->i.plain=false->
    wpAny (model prog w) A (do
     storeSet a c i
     if (!p&&i.tooFull)=true then do
       g (relayAll i c (SetTable.grown c.size)).2.2
       storeSet a (relayAll i c (SetTable.grown c.size)).1 (relayAll i c (SetTable.grown c.size)).2.1
       pure (some true)
      else pure (some true)) R E s:=λ {g R} hg hR i hf2 Z hp2=>by
   have go:∀h' l,SameBut a s.heap h'->cG prog w h' a l->l.toList.Perm c.toList->R (some true) {s with heap:=h'}:=λh' l q1 q2 q3=>hR h' (h h' l true q1 q2 (λz=>absurd z D) λ_=>q3.trans d)
   refine wpAny_bind (wpAny_storeSet_of T hd ?_ (fits_of_scanBound v))
   have N:(s.heap.update a (Obj.putSet c i)).get? a=some {o with data:= .set c (ep+1) i}:=by
    have:=get?_update_self (Obj.putSet c i) T (by rw[putSet_of c i hd];rfl)
    rw[putSet_of c i hd] at this;exact this
   have I:=SameBut.update s.heap a (Obj.putSet c i)
   split
   .have J:=relayAll_perm i c (SetTable.grown c.size)
    have O:=relayAll_fits i c (SetTable.grown c.size)
    have P:=JF i c (SetTable.grown c.size)
    have S:=JG i c (SetTable.grown c.size) hp2
    generalize MD:relayAll i c (SetTable.grown c.size)=Rl at J O P S ⊢
    obtain⟨m,t3,Mx⟩:=Rl
    dsimp only at J O P S ⊢
    have hsz:m.size=c.size:=by rw[<-length_toList,J.length_eq,length_toList]
    have hb2:m.size<scanBound:=by rw[hsz];exact v
    refine wpAny_bind (hg _ _ _ ?_)
    refine wpAny_bind (wpAny_storeSet_of N rfl ?_ (fits_of_scanBound hb2))
    have qg:((s.heap.update a (Obj.putSet c i)).update a (Obj.putSet m t3)).get? a=some {o with data:= .set m (ep+1+1) t3}:=by
     have:=get?_update_self (Obj.putSet m t3) N (by rw[putSet_of (ep:=ep+1) (t:=i) m t3 rfl];rfl)
     rw[putSet_of (ep:=ep+1) (t:=i) m t3 rfl] at this;exact this
    refine wpAny_pure (go _ m (I.trans (SameBut.update _ a _)) ⟨_,_,_,qg,hex,rfl,G.perm J,(J.map _).nodup_iff.mpr H,hb2,O,?_,λ_=>S⟩ J)
    rw[P,Z];exact u
   .exact wpAny_pure (go _ c I ⟨_,_,_,N,hex,rfl,G,H,v,hf2,by rw[Z];exact u,λ_=>hp2⟩ .rfl)
  split
  .refine wpAny_bind ?_
   rw[hashByValue_scannable 8 M]
   refine wpAny_pure ?_
   simp only[show plainKind (Value.str x tk)=false from rfl,false_eq_true,if_false]
   refine fin ?_ ?_ {t1 with plain:=false} (SetTable.fits_plain_off k) B rfl
   .intro b f F r;cases b<;>first|exact wpAny_pure r|exact wpAny_rule r
   .exact λh' r=>wpAny_pure r
  .rename_i J
   refine wpAny_bind (wpAny_pure ?_)
   simp only[↓reduceIte]
   refine fin ?_ ?_ t1 k B (by simpa using J)
   .intro b f F r;cases b<;>first|exact wpAny_pure r|exact wpAny_rule r
   .exact λh' r=>wpAny_pure r
end
abbrev names(es:Array (Int×Value)):List Str:=es.toList.map λe=>strOf e.2
theorem cG.keeps{prog:Program}{w:World}{h h':Heap}{a:Addr}{es:Array (Int×Value)}(S:cG prog w h a es)(k:∀o,h.get? a=some o->h'.get? a=some o):cG prog w h' a es:=by
 obtain⟨o,ep,t,b,r⟩:=S;exact⟨o,ep,t,k o b,r⟩
section
variable{prog:Program}{w:World}{A:Around}{R:Result->Shared->Prop}{I:Addr}{fp wr:List Addr}{G:Array GenState->Array GenState->Prop}{n:Nat}{P:Nat->Value->Prop}{St:Nat->Shared->Prop}
theorem loop(W:WalksS prog w A.in1 I fp wr G n P St)(S:Addr)(q:S∉fp)(val:Nat->Str)(r:∀i v,P i v->∃t,v=.str (val i) t)(m:n+1<scanBound):
  ∀(k i:Nat) (s:Shared) (es:Array (Int×Value)),n - i=k->i<=n->St i s->cG prog w s.heap S es->es.size<=i->(∀x,x∈names es↔∃j,j<i/\val j=x)->
   (∀s' c,Moved (S::wr) G s s'->cG prog w s'.heap S c->c.size<=n->(∀x,x∈names c↔∃j,j<n/\val j=x)->R (.ok (.ret .none)) s')->
   codeAny (model prog w) A (.builtin "set.update.loop" ⟨[.ref S,.ref I],[]⟩) R s:=by
 have u:S∉wr:=λh=>q (W.sub _ h);have f:∀b∈wr,b∈S::wr:=λb m=>mem_cons_of_mem _ m;intro k;induction k with
 |zero=>
  intro i s es hk hi g M hsz d N;have O:i=n:=by omega
  subst O;refine codeAny_builtin F.entry_set_update_loop ?_;rw[Around.under_plainId F.plain_set_update_loop _];show wpAny _ A.in1 (pyNext (.ref I)>>=_) _ _ s;refine wpAny_bind (W.done s _ _ g λs' B=>?_);show wpAny _ A.in1 (ret Value.none) _ _ s';exact wpAny_pure (N s' es (B.mono f) (M.keeps λo Q=>B.heap S _ u Q) hsz d)
 |succ k ih=>
  intro i s es hk hi g M hsz d N;have C:i<n:=by omega
  refine codeAny_builtin F.entry_set_update_loop ?_;rw[Around.under_plainId F.plain_set_update_loop _];show wpAny _ A.in1 (pyNext (.ref I)>>=_) _ _ s;refine wpAny_bind (W.item i s _ _ C g λv s' hP D B=>?_);obtain⟨t,rfl⟩:=r i v hP;have T:cG prog w s'.heap S es:=M.keeps λo Q=>B.heap S _ u Q;show wpAny _ A.in1 (holding [Value.str (val i) t] (setAdd S (.str (val i) t))>>=_) _ _ s';refine wpAny_bind (wpAny_holding ?_);unfold setAdd;refine wpAny_holding ?_;refine wpAny_bind ((PySem.strKind prog w).pyHash (k:=val i) (by show Value.isStrOf (val i) (.str (val i) t)=true;simp[Value.isStrOf]) ?_);refine add (s:={s' with toks:=s'.toks+1}) T (by omega) λh' c b E U Z q2=>?_;have H:c.size<=i+1:=by
   by_cases p:val i∈es.toList.map (λe=>strOf e.2)
   .rw[Z p];omega
   .rw[<-length_toList,(q2 p).length_eq,length_append,length_toList]
    simp only[length_cons,length_nil];omega
  have l:∀x,x∈names c↔∃j,j<i+1/\val j=x:=λx=>by
   have e1:x∈names c↔x∈names es\/x=val i:=by
    by_cases p:val i∈es.toList.map (λe=>strOf e.2)
    .rw[Z p]
     exact⟨.inl,λz=>z.elim id λe=>e▸p⟩
    .have hp:=((q2 p).map λe=>strOf e.2).mem_iff (a:=x)
     rw[map_append,mem_append] at hp;refine hp.trans ⟨λz=>z.imp id λy=>by simpa[strOf] using y,λz=>z.imp id λy=>by simpa[strOf] using y⟩
   rw[e1,d x];constructor
   .rintro (⟨j,hj,e⟩|rfl)
    .exact⟨j,by omega,e⟩
    .exact⟨i,by omega,rfl⟩
   .rintro ⟨j,hj,e⟩
    by_cases V:j=i
    .exact .inr (by rw[<-e,V])
    .exact .inl ⟨j,by omega,e⟩
  refine wpAny_pure ⟨plainId_quiet F.plain_set_update_loop _,ih (i+1) _ c (by omega) C (W.frame _ s' _ _ D (le_succ _) λb m o e=>?_) U H l λX J K L hz Y=>?_⟩
  .rw[E.2 b (λh:b=S=>q (by rw[<-h];exact m))];exact e
  .refine N X J (Moved.trans W.gtrans ((B.mono f).then_heap (le_succ _) λb o m e=>?_) K) L hz Y
   rw[E.2 b (λh:b=S=>m (by rw[h];exact mem_cons_self))];exact e
end
section
variable{prog:Program}{w:World}{A:Around}{E:aj}{s:Shared}
abbrev GP(w:World):Bool:= !w.params.followText "set-order"
abbrev cA(w:World):Obj:={cls:=.type "set",dict:=none,data:=.set #[] 0 (.fresh 0 0 (GP w))}
theorem code_set_new(a:Value){Q₁:aj}(h:Q₁ (.ref s.heap.objs.size) {s with heap:=s.heap.push (cA w)}):
  codeAny (model prog w) A (.call (.builtin "set.__new__") ⟨[.type "set",a],[]⟩) (wants Q₁ E) s:=by
 refine codeAny_of_tree ?_;show wpAny _ A.in1 (do checkBuiltinCall "set.__new__" ⟨[.type "set",a],[]⟩;again (.builtin "set.__new__" ⟨[.type "set",a],[]⟩)) _ _ s;refine wpAny_bind (wpAny_of_eq (PySem.F.newCall_set_1 a) (wpAny_pure ⟨plainId_quiet PySem.F.plain_set_new _,codeAny_builtin PySem.F.entry_set_new ?_⟩));rw[Around.under_plainId PySem.F.plain_set_new _];unfold Builtin.«set.__new__» Builtin.Frozenset.newClass;have b:=sub_set_self;obtain⟨c,g,d,tk,os⟩:=s;dsimp only;wp_walk;refine wpAny_askSetting (wpAny_pure ?_);dsimp only;simp only[newObj];refine wpAny_bind (wpAny_alloc (wpAny_pure ?_));exact wpAny_pure h
theorem cG.fresh{h:Heap}{a:Addr}(b:h.get? a=some (cA w)):cG prog w h a #[]:=
 ⟨_,_,_,b,⟨rfl,rfl,rfl⟩,rfl,λe c=>by simp at c,by simp,by decide,by rfl,rfl,λz=>absurd rfl z⟩
theorem o9{l:Addr}{items:Array Value}{val:Nat->Str}{Q:aj}
  (hh:A.handled=none)(hl:s.heap.IsList l items)(hi:∀(i:Nat) (v:Value),items[i]? =some v->∃t:Tok,v=Value.str (val i) t)(J:items.size+1<scanBound)
  (h:∀(h':Heap) (tk:Nat) (es:Array (Int×Value)),cG prog w h' s.heap.objs.size es->es.size<=items.size->(∀x,x∈names es↔∃j,j<items.size/\val j=x)->
   (∀b o,b<s.heap.objs.size->s.heap.get? b=some o->h'.get? b=some o)->Q (.ref s.heap.objs.size) {s with heap:=h',toks:=tk}):
  wpAny (model prog w) A (call (.type "set") [.ref l]) Q E s:=by
 obtain⟨c,tl,Z⟩:=called_set.mro
 have L:=called_set.made
 have hsub:=called_set.sub
 refine wpAny_call (codeAny_of_tree ?_)
 show wpAny _ _ (callAny (.type "set") _) _ _ _
 refine wpAny_pure ⟨Code.quiet_builtin _ (by decide+kernel),codeAny_builtin PySem.F.entry_type_call ?_⟩
 rw[Around.under_plain (weight_type_call_type "set" [.ref l] []) rfl]
 have h1:=called_set.notType
 have h2:=called_set.canCreate
 have hct:=PySem.F.typeCall_set_1 (.ref l)
 repeat (any_goals (first|assumption|wp_step))
 refine codeAny_mono (code_set_new (.ref l) (E:=E) (Q₁:=λobj f=>obj= .ref s.heap.objs.size/\f={s with heap:=s.heap.push (cA w)}) ⟨rfl,rfl⟩) λr f M=> ?_
 cases r with
 |error e=>exact M
 |ok fl=>
  cases fl with
  |ret obj=>
   obtain⟨rfl,rfl⟩:=M
   have hS:(s.heap.push (cA w)).get? s.heap.objs.size=some (cA w):=get?_push_size _ rfl
   have hT:Shared.TypeIs {s with heap:=s.heap.push (cA w)} (.ref s.heap.objs.size) "set":=⟨_,hS,rfl⟩
   have hli:=called_set.init.lookup
   have hbi:=called_set.init.bind (.ref s.heap.objs.size)
   repeat (any_goals (first|assumption|wp_step))
   refine codeAny_mono (codeAny_call_builtin (R:=wants (λr g=>r= .none/\∃h' tk es,g={s with heap:=h',toks:=tk}/\
     cG prog w h' s.heap.objs.size es/\es.size<=items.size/\(∀x,x∈names es↔∃j,j<items.size/\val j=x)/\
     (∀b o,b<s.heap.objs.size->s.heap.get? b=some o->h'.get? b=some o)) E) called_set.init.plain PySem.F.entry_set_init (check_set_init_1 hT ?_)) λu g a=> ?_
   .obtain⟨ol,y,B,nl,C⟩:=hl
    obtain⟨Hz,k,N,d⟩:=ol
    simp only at B C
    subst B;subst C
    have D:(s.heap.push (cA w)).get? l=some {cls:= .type "list",dict:=k,data:= .seq items nl,slots:=d}:=get?_push_of_some _ y
    have Fi:=sub_list_set
    have Fg:=PySem.F.sub_list_frozenset
    have hne:(Value.type "list" ==Value.type "dict")=false:=by decide
    have G:(s.heap.push (cA w)).IsList l items:=⟨_,D,rfl,nl,rfl⟩
    unfold Builtin.«set.__init__» noKeywords Builtin.Frozenset.updateFrom
    generalize O:pyIter=PI
    wp_walk
    subst O
    refine wpAny_pyIter_list G ?_
    refine wpAny_bind (wpAny_runValue ?_)
    have H:l<s.heap.objs.size:=lt_size y
    have P:A.in1.in1.in1.handled=none:=by simp[hh]
    have I:l≠(s.heap.push (cA w)).objs.size:=by
     rw[size_push];exact ne_of_lt (lt_succ_of_lt H)
    have S:s.heap.objs.size∉[(s.heap.push (cA w)).objs.size,l]:=by
     rw[size_push];simp only[mem_cons,mem_singleton,not_mem_nil,or_false,not_or]
     exact⟨ne_of_lt (lt_succ_self _),ne_of_gt H⟩
    refine loop ((Walks.list P _ l I items).toS) s.heap.objs.size S val (λi v hv=>hi i v hv) J (items.size - 0) 0 _ #[] (by omega) (zero_le _)
     ⟨⟨_,get?_push_size _ rfl,rfl,rfl⟩,(G.push _)⟩ ?gz (le_refl _) (λx=>⟨λz=>by simp[names] at z,λ⟨j,hj,_⟩=>absurd hj (not_lt_zero _)⟩) ?hR
    case gz=>exact cG.fresh (get?_push_of_some _ hS)
    case hR=>
     intro s' T K m n p
     obtain⟨h',g',d',U,V⟩:=s'
     have eg:g'=s.gens:=K.gens
     have ed:d'=s.drawn:=K.drawn
     have eo:V=s.os:=K.os
     subst eg;subst ed;subst eo
     show wpAny _ _ _ _ _ _
     refine wpAny_pure ?_
     show wpAny _ _ (ret Value.none) _ _ _
     refine wpAny_pure ⟨rfl,h',U,T,rfl,m,n,p,λb o J e=> ?_⟩
     have W:b≠s.heap.objs.size:=ne_of_lt J
     have X:b≠(s.heap.push (cA w)).objs.size:=by
      rw[size_push];exact ne_of_lt (lt_succ_of_lt J)
     exact K.heap b o (by simp only[mem_cons,mem_singleton,not_mem_nil,or_false,not_or];exact⟨W,X⟩) (get?_push_of_some _ (get?_push_of_some _ e))
   .cases u with
    |error e=>exact a
    |ok q=>
     cases q with
     |ret r=>
      obtain⟨rfl,h',tk,es,rfl,m,n,p,Y⟩:=a
      repeat (any_goals (first|assumption|wp_step))
      exact h _ _ es m n p Y
     |_=>exact a.elim
  |_=>exact M.elim
end
theorem nP:Slot "set" "__iter__" "set.__iter__":=
 .of (owner:="set") (n:="__iter__") (by rw[typeLookup_type,builtinLookup_eq_fast];kernel_rfl) (by decide+kernel) (by decide+kernel) (by decide+kernel)
  (by first|exact .inl (by decide+kernel)|exact .inr (by decide+kernel)) (by rw[isSubtype_type];kernel_rfl)
theorem slot_next:Slot "set_iterator" "__next__" "set_iterator.__next__":=
 .of (owner:="set_iterator") (n:="__next__") (by rw[typeLookup_type,builtinLookup_eq_fast];kernel_rfl) (by decide+kernel) (by decide+kernel) (by decide+kernel)
  (by first|exact .inl (by decide+kernel)|exact .inr (by decide+kernel)) (by rw[isSubtype_type];kernel_rfl)
theorem zS:Slot "set_iterator" "__iter__" "set_iterator.__iter__":=
 .of (owner:="set_iterator") (n:="__iter__") (by rw[typeLookup_type,builtinLookup_eq_fast];kernel_rfl) (by decide+kernel) (by decide+kernel) (by decide+kernel)
  (by first|exact .inl (by decide+kernel)|exact .inr (by decide+kernel)) (by rw[isSubtype_type];kernel_rfl)
theorem u9:entryFor table "set.__iter__"=some Builtin.«frozenset.__iter__»:=
 entryFor_alias (id':="frozenset.__iter__") (by kernel_rfl) (by first|rfl|decide+kernel) (by decide+kernel) (by kernel_rfl)
theorem entry_next:entryFor table "set_iterator.__next__"=some Builtin.«set_iterator.__next__»:=entryFor_of_fast (by kernel_rfl)
theorem tH(a:Value):argsOk "set.__iter__" ⟨[a],[]⟩:=by unfold argsOk;kernel_rfl
theorem args_next(a:Value):argsOk "set_iterator.__next__" ⟨[a],[]⟩:=by unfold argsOk;kernel_rfl
theorem Mb{M:Model}{A:Around}{E:aj}{s:Shared}{src:Source}{n:Nat}{Q:Nat->Shared->Prop}(a:n≠0)(h:∀i d,i<n->Q i {s with drawn:=d}):wpAny M A (choose src n) Q E s:=λb p _=>by
 unfold choose;rw[Sem.wp_choose];exact⟨a,h _ _ (mod_lt _ (Nat.pos_of_ne_zero a))⟩
theorem qW{α:Type}:∀(xs:List α) (i:Nat) (x:α),xs[i]?=some x->xs.Perm (x::xs.eraseIdx i)
 |[],i,x,h=>by simp at h
 |y::r,0,x,h=>by
  simp at h;subst h;simp
 |y::r,i+1,x,h=>by
  simp only[List.getElem?_cons_succ] at h;have:=qW r i x h;simp only[List.eraseIdx_cons_succ];exact(this.cons y).trans (Perm.swap x y _)
section
variable{M:Model}{A:Around}{E:aj}{s:Shared}
theorem pO{α:Type}:∀(n:Nat) (xs:List α) (s:Shared) (Q:List α->Shared->Prop),n=xs.length->(∀ys d,ys.Perm xs->Q ys {s with drawn:=d})->wpAny M A (drawOrder n xs) Q E s
 |0,xs,s,Q,a,h=>by
  cases xs with
  |nil=>unfold drawOrder;exact wpAny_pure (h [] s.drawn .nil)
  |cons x r=>simp at a
 |n+1,[],s,Q,a,h=>by simp at a
 |n+1,x::r,s,Q,a,h=>by
  unfold drawOrder;refine wpAny_bind (Mb (by simp) λi d hi=>?_);have e:(x::r)[i]?=some ((x::r)[i]'hi):=getElem?_eq_getElem hi;rw[e];dsimp only;have b:=qW (x::r) i _ e;refine wpAny_bind (pO n _ _ _ ?_ λys d' c=>wpAny_pure ?_)
  .have:=b.length_eq
   simp only[length_cons] at this a ⊢;omega
  .exact h _ d' ((c.cons _).trans b.symm)
end
theorem yf{α:Type}(next:Nat->Nat):∀(fuel k:Nat) (left:List α) (out:Array α),fuel=left.length->(pickOrder.go next fuel k left out).toList.Perm (out.toList++left)
 |0,k,left,out,h=>by
  cases left with
  |nil=>unfold pickOrder.go;simp
  |cons x r=>simp at h
 |fuel+1,k,[],out,h=>by simp at h
 |fuel+1,k,x::r,out,h=>by
  unfold pickOrder.go;have hi:next k%(x::r).length<(x::r).length:=mod_lt _ (by simp);have e:(x::r)[next k%(x::r).length]?=some ((x::r)[next k%(x::r).length]'hi):=getElem?_eq_getElem hi;rw[e];dsimp only;have a:=qW (x::r) _ _ e;refine(yf next fuel (k+1) _ _ ?_).trans ?_
  .have:=a.length_eq
   simp only[length_cons] at this h ⊢;omega
  .rw[Array.toList_push,append_assoc]
   exact Perm.append_left _ a.symm
theorem ye{α:Type}(next:Nat->Nat)(xs:Array α):(pickOrder next xs).toList.Perm xs.toList:=by
 unfold pickOrder;exact(yf next xs.size 0 xs.toList #[] (by simp)).trans (by simp)
def cW(h:Heap)(it a:Addr)(first:Value)(i n ep:Nat):Prop:=∃o,h.get? it=some o/\o.cls=.type "set_iterator"/\o.data=.fields #[first,.int i 0,.ref a,.int n 0,.int ep 0]
def dY(h:Heap)(a:Addr)(es:Array (Int×Value))(ep:Nat)(t:SetTable):Prop:=∃o,h.get? a=some o/\o.data=.set es ep t/\t.fits es.size=true
section
variable{prog:Program}{w:World}{A:Around}{E:aj}{s:Shared}{it a:Addr}{es:Array (Int×Value)}{ep:Nat}{t:SetTable}
theorem cW.typeIs{first:Value}{i n:Nat}(h:cW s.heap it a first i n ep):s.TypeIs (.ref it) "set_iterator":=by
 obtain⟨o,h1,h2,_⟩:=h;exact⟨o,h1,h2⟩
theorem cW.put{first v:Value}{i n k:Nat}{h:Heap}(x:cW h it a first i n ep)(o:Obj)(b:h.get? it=some o):(h.update it (Obj.mapFields (·.setIfInBounds k v))).get? it=some (o.mapFields (·.setIfInBounds k v)):=by
 obtain⟨o',h1,h2,c⟩:=x;rw[h1] at b;cases b;exact get?_update_self _ h1 (Obj.isFreed_of_fields (Obj.data_mapFields c _))
theorem qM{slot:Int}{i:Nat}{x:Value}{nx:Nat}{Q:Option Value->Shared->Prop}(hi:cW s.heap it a (.int slot 0) i es.size ep)(hs:dY s.heap a es ep t)
  (f:∀(A:Around) (Q:Option (Value×Nat)->Shared->Prop) (E:aj),Q (some (x,nx)) s->wpAny (model prog w) A (setNext a slot.toNat i ep) Q E s)
  (g:∀h',cW h' it a (.int nx 0) (i+1) es.size ep->SameBut it s.heap h'->Q (some x) {s with heap:=h'}):wpAny (model prog w) A (pyNext (.ref it)) Q E s:=by
 obtain⟨o,c,hc,hd⟩:=id hi
 obtain⟨os,d,e,h⟩:=hs
 unfold pyNext
 refine wpAny_bind (wpAny_attempt (wpAny_callSpecial?_slot (name:=Str.ofString "__next__") hi.typeIs slot_next (wpAny_call_entry slot_next hi.typeIs entry_next ?_ (args_next _))))
 show wpAny _ _ (fieldsOf (.ref it)>>=_) _ _ s
 refine wpAny_bind (wpAny_fieldsOf c hd ?_)
 show wpAny _ _ (setEntries a>>=_) _ _ s
 refine wpAny_bind (wpAny_setEntries_of d e h ?_)
 simp only[bne_self_eq_false,false_eq_true,if_false]
 refine wpAny_bind (f _ _ _ ?_)
 dsimp only
 refine wpAny_bind (wpAny_setField c hd (by simp) ?_)
 have b:=hi.put (k:=0) (v:=rawInt nx) o c
 refine wpAny_bind (wpAny_setField b (Obj.data_mapFields hd _) (by simp) (wpAny_pure ⟨x,rfl,wpAny_pure (g _ ?_ ((SameBut.update ..).trans (SameBut.update ..)))⟩))
 refine⟨_,get?_update_self _ b (Obj.isFreed_of_fields (Obj.data_mapFields (Obj.data_mapFields hd _) _)),(Obj.cls_mapFields ..).trans ((Obj.cls_mapFields ..).trans hc),?_⟩
 rw[Obj.data_mapFields (Obj.data_mapFields hd _)]
 simp[rawInt]
end
theorem Dw:entryFor table "set_iterator.__iter__"=some Builtin.«dict_keyiterator.__iter__»:=
 entryFor_alias (id':="dict_keyiterator.__iter__") (by kernel_rfl) (by first|rfl|decide+kernel) (by decide+kernel) (by kernel_rfl)
theorem Bm(a:Value):argsOk "set_iterator.__iter__" ⟨[a],[]⟩:=by unfold argsOk;kernel_rfl
section
variable{prog:Program}{w:World}{A:Around}{E:aj}{s:Shared}{it a:Addr}{es:Array (Int×Value)}{ep:Nat}{t:SetTable}
theorem mD{first:Value}{i n:Nat}{Q:aj}(hi:cW s.heap it a first i n ep)(h:Q (.ref it) s):wpAny (model prog w) A (pyIter (.ref it)) Q E s:=by
 refine wpAny_pyIter_slot hi.typeIs zS (wpAny_call_entry zS hi.typeIs Dw ?_ (Bm _));show wpAny _ _ (ret (.ref it)) _ _ s;exact wpAny_pure ⟨_,rfl,"set_iterator",_,hi.typeIs,slot_next.lookup,h⟩
theorem pV{slot:Int}{i:Nat}{Q:Option Value->Shared->Prop}(f:A.handled=none)(hi:cW s.heap it a (.int slot 0) i es.size ep)(hs:dY s.heap a es ep t)
  (g:∀(A:Around) (Q:Option (Value×Nat)->Shared->Prop) (E:aj),Q none s->wpAny (model prog w) A (setNext a slot.toNat i ep) Q E s)
  (h:∀h',ExtBut it s.heap h'->Q none {s with heap:=h'}):wpAny (model prog w) A (pyNext (.ref it)) Q E s:=by
 obtain⟨o,e,hc,hd⟩:=id hi
 obtain⟨os,c,d,j⟩:=hs
 unfold pyNext
 refine wpAny_bind (wpAny_attempt (wpAny_callSpecial?_slot (name:=Str.ofString "__next__") hi.typeIs slot_next (wpAny_call_entry slot_next hi.typeIs entry_next ?_ (args_next _))))
 show wpAny _ _ (fieldsOf (.ref it)>>=_) _ _ s
 refine wpAny_bind (wpAny_fieldsOf e hd ?_)
 show wpAny _ _ (setEntries a>>=_) _ _ s
 refine wpAny_bind (wpAny_setEntries_of c d j ?_)
 simp only[bne_self_eq_false,false_eq_true,if_false]
 refine wpAny_bind (g _ _ _ ?_)
 dsimp only
 refine wpAny_bind (wpAny_setField e hd (by simp) ?_)
 show wpAny _ _ (newExc (.type "StopIteration") []>>=_) _ _ _
 refine wpAny_bind ?_
 simp only[newExc,newTuple]
 refine wpAny_bind (wpAny_newObj_type ?_ (by size_fits))
 refine wpAny_bind (m:=firstArgMember _ _) (wpAny_of_eq (a:=Value.none) (by first|rfl|(simp only[firstArgMember];rfl)) ?_)
 refine wpAny_newObj_type ?_ (by size_fits)
 simp only[raiseNew]
 refine wpAny_bind (wpAny_handled ?_)
 rw[show A.in1.handled=none from f]
 refine wpAny_bind (wpAny_pure (wpAny_throw ?_))
 refine wpAny_bind (wpAny_isInstance (T:="StopIteration") (b:=true) ⟨_,get?_push_size _ rfl,rfl⟩ isSubtype_stop ?_)
 exact wpAny_pure (h _ (((SameBut.update ..).extBut.push _).push _))
theorem Hf{d:Addr}{ps:List Nat}{i p:Nat}{h0:Int}{x:Value}{Q:Option Value->Shared->Prop}(hi:cW s.heap it a (.ref d) i es.size ep)(hs:dY s.heap a es ep t)
  (k:∃o n,s.heap.get? d=some o/\o.data= .seq ((ps.map λ(i:Nat)=>rawInt i).toArray) n)(l:ps[i]? =some p)(m:es[p]? =some (h0,x))
  (q:∀h',cW h' it a (.ref d) (i+1) es.size ep->SameBut it s.heap h'->Q (some x) {s with heap:=h'}):wpAny (model prog w) A (pyNext (.ref it)) Q E s:=by
 obtain⟨o,f,hc,hd⟩:=id hi
 obtain⟨os,b,c,j⟩:=hs
 obtain⟨r,u,g,h⟩:=k
 unfold pyNext
 refine wpAny_bind (wpAny_attempt (wpAny_callSpecial?_slot (name:=Str.ofString "__next__") hi.typeIs slot_next (wpAny_call_entry slot_next hi.typeIs entry_next ?_ (args_next _))))
 show wpAny _ _ (fieldsOf (.ref it)>>=_) _ _ s
 refine wpAny_bind (wpAny_fieldsOf f hd ?_)
 show wpAny _ _ (setEntries a>>=_) _ _ s
 refine wpAny_bind (wpAny_setEntries_of b c j ?_)
 simp only[bne_self_eq_false,false_eq_true,if_false]
 refine wpAny_bind (wpAny_seqItems g h ?_)
 have e:((ps.map λ(i:Nat)=>rawInt i).toArray)[((i:Int)).toNat]? =some (Value.int (p:Int) 0):=by
  simp[l,rawInt]
 dsimp only
 rw[e]
 dsimp only
 refine wpAny_bind ?_
 unfold setNextDrawn
 refine wpAny_bind (wpAny_setState_of b c j ?_)
 dsimp only
 simp only[toNat_natCast,bne_self_eq_false,false_eq_true,if_false]
 rw[m]
 refine wpAny_pure ?_
 refine wpAny_bind (wpAny_setField f hd (by simp) (wpAny_pure ⟨x,rfl,wpAny_pure (q _ ?_ (SameBut.update ..))⟩))
 refine⟨_,get?_update_self _ f (Obj.isFreed_of_fields (Obj.data_mapFields hd _)),(Obj.cls_mapFields ..).trans hc,?_⟩
 rw[Obj.data_mapFields hd]
 simp[rawInt]
theorem Dt{l:Addr}{ps:List Nat}{i:Nat}{Q:Option Value->Shared->Prop}(p:A.handled=none)(hi:cW s.heap it a (.ref l) i es.size ep)(hs:dY s.heap a es ep t)
  (q:∃o n,s.heap.get? l=some o/\o.data= .seq ((ps.map λ(i:Nat)=>rawInt i).toArray) n)(r:ps[i]? =none)
  (u:∀h',ExtBut it s.heap h'->Q none {s with heap:=h'}):wpAny (model prog w) A (pyNext (.ref it)) Q E s:=by
 obtain⟨o,c,hc,hd⟩:=id hi
 obtain⟨os,d,f,x⟩:=hs
 obtain⟨y,z,g,h⟩:=q
 unfold pyNext
 refine wpAny_bind (wpAny_attempt (wpAny_callSpecial?_slot (name:=Str.ofString "__next__") hi.typeIs slot_next (wpAny_call_entry slot_next hi.typeIs entry_next ?_ (args_next _))))
 show wpAny _ _ (fieldsOf (.ref it)>>=_) _ _ s
 refine wpAny_bind (wpAny_fieldsOf c hd ?_)
 show wpAny _ _ (setEntries a>>=_) _ _ s
 refine wpAny_bind (wpAny_setEntries_of d f x ?_)
 simp only[bne_self_eq_false,false_eq_true,if_false]
 refine wpAny_bind (wpAny_seqItems g h ?_)
 have e:((ps.map λ(i:Nat)=>rawInt i).toArray)[((i:Int)).toNat]? =none:=by
  simp only[toNat_natCast,List.getElem?_toArray,getElem?_map,r,Option.map_none]
 dsimp only
 rw[e]
 dsimp only
 refine wpAny_bind (wpAny_setField c hd (by simp) ?_)
 have j:=hi.put (k:=0) (v:=rawInt 0) o c
 refine wpAny_bind (wpAny_setField j (Obj.data_mapFields hd _) (by simp) ?_)
 show wpAny _ _ (newExc (.type "StopIteration") []>>=_) _ _ _
 refine wpAny_bind ?_
 simp only[newExc,newTuple]
 refine wpAny_bind (wpAny_newObj_type ?_ (by size_fits))
 refine wpAny_bind (m:=firstArgMember _ _) (wpAny_of_eq (a:=Value.none) (by first|rfl|(simp only[firstArgMember];rfl)) ?_)
 refine wpAny_newObj_type ?_ (by size_fits)
 simp only[raiseNew]
 refine wpAny_bind (wpAny_handled ?_)
 rw[show A.in1.handled=none from p]
 refine wpAny_bind (wpAny_pure (wpAny_throw ?_))
 refine wpAny_bind (wpAny_isInstance (T:="StopIteration") (b:=true) ⟨_,get?_push_size _ rfl,rfl⟩ isSubtype_stop ?_)
 exact wpAny_pure (u _ ((((SameBut.update ..).trans (SameBut.update ..)).extBut.push _).push _))
end
section
variable{prog:Program}{w:World}{A:Around}{E:aj}{s:Shared}{it a:Addr}{es:Array (Int×Value)}{ep:Nat}{t:SetTable}
theorem iU{Q:Bool->Shared->Prop}(h:Q (w.params.followText "set-order") s):wpAny (model prog w) A setsByText Q E s:=by
 unfold setsByText;exact wpAny_bind (wpAny_askSetting (wpAny_pure h))
theorem dY.keep{h h':Heap}(x:dY h a es ep t)(k:∀o,h.get? a=some o->h'.get? a=some o):dY h' a es ep t:=by
 obtain⟨o,e,r⟩:=x;exact⟨o,k o e,r⟩
theorem cW.keep{h h':Heap}{first:Value}{i n:Nat}(x:cW h it a first i n ep)(k:∀o,h.get? it=some o->h'.get? it=some o):cW h' it a first i n ep:=by
 obtain⟨o,e,r⟩:=x;exact⟨o,k o e,r⟩
theorem nextT{slot i:Nat}{Q:Option (Value×Nat)->Shared->Prop}(d:w.params.followText "set-order"=true)(hs:dY s.heap a es ep t)
  (h:Q (((pickOrder (w.params.setOrder a ep) es)[i]?).map λe=>(e.2,slot)) s):wpAny (model prog w) A (setNext a slot i ep) Q E s:=by
 obtain⟨os,b,c,f⟩:=hs;unfold setNext;refine wpAny_bind (wpAny_setState_of b c f ?_);dsimp only;refine wpAny_bind (iU ?_);rw[d,if_pos rfl];simp only[bne_self_eq_false,false_eq_true,if_false];refine wpAny_bind ?_;unfold setWalk;refine wpAny_bind (wpAny_setState_of b c f ?_);dsimp only;refine wpAny_bind (iU ?_);rw[d,if_pos rfl];exact wpAny_bind (wpAny_askSetting (wpAny_pure (wpAny_pure h)))
theorem As(p:w.params.followText "set-order"=true)(r:A.handled=none)(l:a≠it):
  Walks prog w A it [it,a] [it] ((pickOrder (w.params.setOrder a ep) es).toList.map (·.2)).length (λi v=>((pickOrder (w.params.setOrder a ep) es).toList.map (·.2))[i]? =some v) (λi h=>cW h it a (.int 0 0) i es.size ep/\dY h a es ep t) where
 sub:=λb d=>by simp at d;simp[d]
 frame:=λ_ _ _ st q=>⟨st.1.keep λo e=>q it (by simp) o e,st.2.keep λo e=>q a (by simp) o e⟩
 item:=λi s Q E hi st f=>by
  have c:i<(pickOrder (w.params.setOrder a ep) es).size:=by simpa using hi
  have k:(pickOrder (w.params.setOrder a ep) es)[i]? =some ((pickOrder (w.params.setOrder a ep) es)[i]'c):=Array.getElem?_eq_getElem c
  refine qM (slot:=0) (x:=((pickOrder (w.params.setOrder a ep) es)[i]'c).2) (nx:=0) st.1 st.2 (λA' u y m=>nextT p st.2 (by rw[k];exact m)) λh' g j=> ?_
  refine f _ h' s.toks ?_ ⟨g,st.2.keep λo e=>(j.2 a l).trans e⟩ λb o d e=>(j.2 b λz=>d (by simp[z])).trans e
  rw[getElem?_map,getElem?_toList,k];rfl
 done:=λs Q E st f=>by
  have k:(pickOrder (w.params.setOrder a ep) es)[((pickOrder (w.params.setOrder a ep) es).toList.map (·.2)).length]? =none:=by simp
  exact pV (slot:=0) r st.1 st.2 (λA' u y m=>nextT p st.2 (by rw[k];exact m)) λh' n=>f h' s.toks λb o d e=>n b o (λz=>d (by simp[z])) e
 self:=λ_ _ _ _ st f=>mD st.1 f
theorem Aq{g:Addr}{ps:List Nat}(D:A.handled=none)(m:a≠it)(q:g≠it)(u:ps.Perm (range es.size)):
  Walks prog w A it [it,a,g] [it] (ps.map λp=>((es[p]?).getD (0,.none)).2).length (λi v=>(ps.map λp=>((es[p]?).getD (0,.none)).2)[i]? =some v)
   (λi h=>cW h it a (.ref g) i es.size ep/\dY h a es ep t/\∃o n,h.get? g=some o/\o.data= .seq ((ps.map λ(i:Nat)=>rawInt i).toArray) n) where
 sub:=λb j=>by simp at j;simp[j]
 frame:=λ_ _ _ st x=>⟨st.1.keep λo e=>x it (by simp) o e,st.2.1.keep λo e=>x a (by simp) o e,by obtain⟨o,n,e,r⟩:=st.2.2;exact⟨o,n,x g (by simp) o e,r⟩⟩
 item:=λi s Q E hi st k=>by
  have c:i<ps.length:=by simpa using hi
  have B:ps[i]? =some (ps[i]'c):=getElem?_eq_getElem c
  have d:(ps[i]'c)<es.size:=mem_range.mp (u.mem_iff.mp (getElem_mem c))
  have C:es[ps[i]'c]? =some ((es[ps[i]'c]'d).1,(es[ps[i]'c]'d).2):=Array.getElem?_eq_getElem d
  refine Hf st.1 st.2.1 st.2.2 B C λh' l f=> ?_
  refine k _ h' s.toks ?_ ⟨l,st.2.1.keep λo e=>(f.2 a m).trans e,by obtain⟨o,n,e,r⟩:=st.2.2;exact⟨o,n,(f.2 g q).trans e,r⟩⟩ λb o j e=>(f.2 b λz=>j (by simp[z])).trans e
  rw[getElem?_map,B]
  simp only[map_some,C,getD_some]
 done:=λs Q E st k=>by
  exact Dt D st.1 st.2.1 st.2.2 (by simp) λh' y=>k h' s.toks λb o j e=>y b o (λz=>j (by simp[z])) e
 self:=λ_ _ _ _ st k=>mD st.1 k
theorem xE{slot i:Nat}{Q:Option (Value×Nat)->Shared->Prop}(d:w.params.followText "set-order"=false)(e:t.led=true)(f:es.size<=1)(hs:dY s.heap a es ep t)
  (h:Q (match es[SetTable.below t.place slot]?,t.place[SetTable.below t.place slot]? with|some (_,x),some j=>some (x,j+1)|_,_=>none) s):wpAny (model prog w) A (setNext a slot i ep) Q E s:=by
 obtain⟨os,b,c,g⟩:=hs;unfold setNext;refine wpAny_bind (wpAny_setState_of b c g ?_);dsimp only;refine wpAny_bind (iU ?_);rw[d,if_neg (by decide)];show wpAny _ _ (if (!t.plain&&decide (es.size>1))=true then _ else _) _ _ _;rw[if_neg (by rw[decide_eq_false (Nat.not_lt.mpr f),Bool.and_false];decide)];show wpAny _ _ ((if (!t.led&& !es.isEmpty)=true then _ else _)>>=_) _ _ _;rw[e,if_neg (by simp)];exact wpAny_bind (wpAny_pure (wpAny_pure h))
theorem tN(xs:Array Nat)(h:xs.size<=1):SetTable.below xs 0=0:=by
 unfold SetTable.below;have:xs.size=0\/xs.size=1:=by omega
 rcases this with z|z
 .rw[z];rfl
 .rw[z]
  unfold SetTable.below.go;rw[if_pos (by decide)];dsimp only;rw[if_neg (by omega)];rfl
theorem below_1(xs:Array Nat)(j:Nat)(h:xs.size=1)(a:xs[0]?=some j):SetTable.below xs (j+1)=1:=by
 unfold SetTable.below;rw[h];unfold SetTable.below.go;rw[if_pos (by decide)];dsimp only;have e:xs.getD ((0+1)/2) (j+1)=j:=by
  show xs.getD 0 (j+1)=j;rw[getD_eq_getD_getElem?,a];rfl
 rw[e,if_pos (by omega)];rfl
theorem Ma(y:w.params.followText "set-order"=false)(B:t.led=true)(C:es.size<=1)(n:t.fits es.size=true)(G:A.handled=none)(q:a≠it):
  Walks prog w A it [it,a] [it] (es.toList.map (·.2)).length (λi v=>(es.toList.map (·.2))[i]? =some v) (λi h=>cW h it a (.int (if i=0 then 0 else t.place.getD 0 0+1:Nat) 0) i es.size ep/\dY h a es ep t) where
 sub:=λb d=>by simp at d;simp[d]
 frame:=λ_ _ _ st D=>⟨st.1.keep λo e=>D it (by simp) o e,st.2.keep λo e=>D a (by simp) o e⟩
 item:=λi s Q E hi st f=>by
  have c:i<es.size:=by simpa using hi
  have h0:i=0:=by omega
  subst h0
  have H:t.place.size=es.size:=by simp only[SetTable.fits,and_eq_true,beq_iff_eq] at n;exact n.1
  have F:es[0]? =some (es[0]'c):=Array.getElem?_eq_getElem c
  have g:t.place[0]? =some (t.place[0]'(by omega)):=Array.getElem?_eq_getElem (by omega)
  have r:t.place.getD 0 0=t.place[0]'(by omega):=by rw[getD_eq_getD_getElem?,g];rfl
  refine qM (slot:=((if (0:Nat)=0 then 0 else t.place.getD 0 0+1:Nat):Int)) (x:=(es[0]'c).2) (nx:=(t.place[0]'(by omega))+1) st.1 st.2 (λA' I J p=> ?_) λh' j k=> ?_
  .refine xE y B C st.2 ?_
   simp only[if_true,toNat_natCast]
   rw[tN _ (by omega),F,g]
   exact p
  .refine f _ h' s.toks ?_ ⟨?_,st.2.keep λo e=>(k.2 a q).trans e⟩ λb o d e=>(k.2 b λz=>d (by simp[z])).trans e
   .rw[getElem?_map,getElem?_toList,F];rfl
   .rw[if_neg (by omega),r];exact j
 done:=λs Q E st f=>by
  have H:t.place.size=es.size:=by simp only[SetTable.fits,and_eq_true,beq_iff_eq] at n;exact n.1
  have l:(es.toList.map (·.2)).length=es.size:=by simp
  rw[l] at st
  refine pV G st.1 st.2 (λA' I J p=>xE y B C st.2 ?_) λh' u=>f h' s.toks λb o d e=>u b o (λz=>d (by simp[z])) e
  simp only[toNat_natCast]
  by_cases m:es.size=0
  .rw[if_pos m,tN _ (by omega),Array.getElem?_eq_none (by omega)]
   exact p
  .have g:t.place[0]? =some (t.place[0]'(by omega)):=Array.getElem?_eq_getElem (by omega)
   have r:t.place.getD 0 0=t.place[0]'(by omega):=by rw[getD_eq_getD_getElem?,g];rfl
   rw[if_neg m,r,below_1 _ _ (by omega) g,Array.getElem?_eq_none (by omega)]
   exact p
 self:=λ_ _ _ _ st f=>mD st.1 f
end
section
variable{prog:Program}{w:World}{A:Around}{E:aj}{s:Shared}{it a:Addr}{es:Array (Int×Value)}{ep:Nat}{t:SetTable}
theorem ya{ps:List Nat}(a:ps.Perm (range es.size)):(ps.map λp=>((es[p]?).getD (0,.none)).2).Perm (es.toList.map (·.2)):=by
 refine(a.map _).trans ?_;have:((range es.size).map λp=>((es[p]?).getD (0,.none)).2)=es.toList.map (·.2):=by
  apply ext_getElem?;intro i;simp only[getElem?_map,getElem?_toList];by_cases hi:i<es.size
  .rw[List.getElem?_range hi,Array.getElem?_eq_getElem hi]
   simp[Array.getElem?_eq_getElem hi]
  .rw[getElem?_eq_none (by simpa using hi),Array.getElem?_eq_none (by omega)];rfl
 rw[this]
theorem qm{Q:aj}(C:cG prog w s.heap a es)
  (h:∀(h':Heap) (d:Drawn) (it:Addr) (zs:List Value) (fp:List Addr) (St:Nat->Heap->Prop),zs.Perm (es.toList.map (·.2))->(∀A':Around,A'.handled=none->Walks prog w A' it fp [it] zs.length (λi v=>zs[i]?=some v) St)->St 0 h'->
   it∈fp->(∀b∈fp,b=a\/s.heap.objs.size<=b)->(∀b∈fp,b<h'.objs.size)->s.heap.objs.size<=it->(∀b o,s.heap.get? b=some o->h'.get? b=some o)->Q (.ref it) {s with heap:=h',drawn:=d}):wpAny (model prog w) A (pyIter (.ref a)) Q E s:=by
 obtain⟨o,ep,t,f,hex,hd,D,F,G,g,k,x⟩:=C;have B:s.TypeIs (.ref a) "set":=⟨o,f,hex.1⟩;have alt:a<s.heap.objs.size:=lt_size f;refine wpAny_pyIter_slot B nP (wpAny_call_entry nP B u9 ?_ (tH _));show wpAny _ _ (Builtin.Frozenset.sizeOf a>>=_) _ _ s;unfold Builtin.Frozenset.sizeOf;refine wpAny_bind (wpAny_bind (wpAny_setEntries_of f hd g (wpAny_pure ?_)));refine wpAny_bind ?_;unfold setDrawn;refine wpAny_bind (wpAny_setState_of f hd g ?_);dsimp only;refine wpAny_bind (iU (wpAny_pure ?_));show wpAny _ _ (if (!w.params.followText "set-order"&&(!t.plain&&decide (es.size>1)))=true then _ else _) _ _ _;by_cases hc:(!w.params.followText "set-order"&&(!t.plain&&decide (es.size>1)))=true
 .rw[if_pos hc]
  refine wpAny_bind (pO _ _ _ _ (by simp) λys d j=>?_);unfold newTuple;have hsz:sizeOk (.seq ((ys.map λ(i:Nat)=>rawInt i).toArray) 0):=by
   show((ys.map λ(i:Nat)=>rawInt i).toArray).size<=sizeLine;rw[size_toArray,length_map,j.length_eq,length_range];exact fits_of_scanBound G
  refine wpAny_bind (wpAny_newObj_type ?_ hsz);have l:=λb o (e:s.heap.get? b=some o)=>get?_push_of_some {cls:=.type "tuple",data:=.seq ((ys.map λ(i:Nat)=>rawInt i).toArray)} e;have m:=l a o f;refine wpAny_bind (wpAny_setEpoch_of m hd g ?_);refine wpAny_bind (wpAny_newObj_type (wpAny_pure ⟨_,rfl,"set_iterator",_,⟨_,get?_push_size _ rfl,rfl⟩,slot_next.lookup,?_⟩) (by size_fits));have ne1:a≠(s.heap.push {cls:=.type "tuple",data:=.seq ((ys.map λ(i:Nat)=>rawInt i).toArray)}).objs.size:=by rw[size_push];exact ne_of_lt (lt_succ_of_lt alt)
  have ne2:s.heap.objs.size≠(s.heap.push {cls:=.type "tuple",data:=.seq ((ys.map λ(i:Nat)=>rawInt i).toArray)}).objs.size:=by rw[size_push];exact ne_of_lt (lt_succ_self _)
  refine h _ d _ (ys.map λp=>((es[p]?).getD (0,.none)).2) [_,a,s.heap.objs.size] _ (ya j) (λA' n=>Aq (t:=t) (ep:=ep) n ne1 ne2 j) ⟨⟨_,get?_push_size _ rfl,rfl,rfl⟩,⟨o,get?_push_of_some _ m,hd,g⟩,⟨_,_,get?_push_of_some _ (get?_push_size _ rfl),rfl⟩⟩ (by simp) (λb c=>by
   simp only[mem_cons,not_mem_nil,or_false] at c;rcases c with z|z|z
   .exact .inr (by rw[z,size_push];exact le_succ _)
   .exact .inl z
   .exact .inr (by rw[z];exact le_refl _)) (λb c=>?_) (by rw[size_push];exact le_succ _) λb o e=>get?_push_of_some _ (l b o e)
  rw[size_push,size_push];simp only[mem_cons,not_mem_nil,or_false] at c;rcases c with z|z|z
  .rw[z,size_push];exact lt_succ_self _
  .rw[z];exact lt_succ_of_lt (lt_succ_of_lt alt)
  .rw[z];exact lt_succ_of_lt (lt_succ_self _)
 .rw[if_neg hc]
  refine wpAny_bind (wpAny_pure ?_);refine wpAny_bind (wpAny_setEpoch_of f hd g ?_);refine wpAny_bind (wpAny_newObj_type (wpAny_pure ⟨_,rfl,"set_iterator",_,⟨_,get?_push_size _ rfl,rfl⟩,slot_next.lookup,?_⟩) (by size_fits));have ne1:a≠s.heap.objs.size:=ne_of_lt alt;have q:∀b∈[s.heap.objs.size,a],b<(s.heap.push {cls:=.type "set_iterator",data:=.fields [rawInt 0,rawInt 0,.ref a,rawInt (es.size:Nat),rawInt (ep:Nat)].toArray}).objs.size:=λb c=>by
   rw[size_push];simp only[mem_cons,not_mem_nil,or_false] at c;rcases c with z|z
   .rw[z];exact lt_succ_self _
   .rw[z];exact lt_succ_of_lt alt
  have r:∀b∈[s.heap.objs.size,a],b=a\/s.heap.objs.size<=b:=λb c=>by
   simp only[mem_cons,not_mem_nil,or_false] at c;rcases c with z|z
   .exact .inr (by rw[z];exact le_refl _)
   .exact .inl z
  cases u:w.params.followText "set-order" with
  |true=>
   exact h _ s.drawn _ ((pickOrder (w.params.setOrder a ep) es).toList.map (·.2)) [_,a] _ ((ye _ es).map _) (λA' n=>As (t:=t) u n ne1) ⟨⟨_,get?_push_size _ rfl,rfl,rfl⟩,⟨o,get?_push_of_some _ f,hd,g⟩⟩ (by simp) r q (le_refl _) λb o e=>get?_push_of_some _ e
  |false=>
   have y:es.size<=1:=by
    rw[u] at hc;by_cases y:es.size<=1
    .exact y
    .rw[x (by omega),decide_eq_true (by omega)] at hc
     exact absurd rfl hc
   have H:t.led=true:=by rw[k,u];rfl
   exact h _ s.drawn _ (es.toList.map (·.2)) [_,a] _ (.refl _) (λA' n=>Ma (t:=t) (ep:=ep) u H y g n ne1) ⟨⟨_,get?_push_size _ rfl,rfl,rfl⟩,⟨o,get?_push_of_some _ f,hd,g⟩⟩ (by simp) r q (le_refl _) λb o e=>get?_push_of_some _ e
end
section
variable{prog:Program}{w:World}{A:Around}{E:aj}{s:Shared}{a:Addr}{es:Array (Int×Value)}
theorem pA{Q:List Value->Shared->Prop}(J:A.handled=none)(B:cG prog w s.heap a es)
  (N:∀(h':Heap) (d:Drawn) (tk:Nat) (zs:List Value),zs.Perm (es.toList.map (·.2))->s.heap.objs.size<=h'.objs.size->(∀b o,s.heap.get? b=some o->h'.get? b=some o)->Q zs {s with heap:=h',drawn:=d,toks:=tk}):
  wpAny (model prog w) A (collect (.ref a)) Q E s:=by
 have alt:a<s.heap.objs.size:=by obtain⟨o,_,_,C,_⟩:=B;exact lt_size C
 have O:es.size<scanBound:=by obtain⟨_,_,_,_,_,_,_,_,f,_⟩:=B;exact f
 unfold collect;refine wpAny_bind (wpAny_runValue (codeAny_builtin PySem.F.entry_proto_collect ?_));rw[Around.under_plainId PySem.F.plain_proto_collect _];show wpAny _ A.in1 (newList []>>=λl=>again (.builtin "list.__iadd__" ⟨[l,.ref a],[]⟩)) _ _ s;refine wpAny_bind (wpAny_newObj_type ?_);refine wpAny_pure ⟨plainId_quiet plain_list_iadd _,codeAny_builtin PySem.F.entry_list_iadd ?_⟩;rw[Around.under_plainId plain_list_iadd _];have i:cG prog w (s.heap.push {cls:=.type "list",data:=.seq ([]:List Value).toArray}) a es:=B.keeps λo e=>get?_push_of_some _ e;have v:∀{s':Shared},cG prog w s'.heap a es->s'.TypeIs (.ref a) "set":=λ {s'} x=>by obtain⟨o,_,_,C,hex,_⟩:=x;exact⟨o,C,hex.1⟩
 show wpAny _ A.in1 (Builtin.List.listExtendWith (.ref s.heap.objs.size) (.ref a) (.ref s.heap.objs.size)) _ _ _;unfold Builtin.List.listExtendWith;refine wpAny_bind (wpAny_typeOf (v (s':={s with heap:=s.heap.push {cls:=.type "list",data:=.seq ([]:List Value).toArray}}) i) ?_);have h1:Builtin.List.listSameRef (.ref s.heap.objs.size) (.ref a)=false:=by simp[Builtin.List.listSameRef,ne_of_gt alt]
 have h2:(Value.type "set" ==Value.type "list")=false:=by decide
 have P:(Value.type "set" ==Value.type "tuple")=false:=by decide
 simp only[h1,h2,P,Bool.or_false,false_eq_true,if_false];refine wpAny_bind (qm (s:={s with heap:=s.heap.push {cls:=.type "list",data:=.seq ([]:List Value).toArray}}) i λh2 d it zs fp St m W D hit G R n k2=>?_);have k:cG prog w h2 a es:=i.keeps λo e=>k2 _ _ e;refine wpAny_bind (wpAny_holding ?_);unfold Builtin.List.listLengthHint;refine wpAny_bind (wpAny_specialOf (v (s':={s with heap:=h2,drawn:=d}) k) slot_set_len.lookup ?_);dsimp only;have g:splitId "set.__len__"=some ("set","__len__"):=by decide+kernel
 rw[g];dsimp only;refine wpAny_bind (wpAny_isInstance (v (s':={s with heap:=h2,drawn:=d}) k) sub_set_self ?_);simp only[Bool.not_true,false_eq_true,if_false];rw[if_pos (by decide+kernel)];refine wpAny_bind (wpAny_typeOf (v (s':={s with heap:=h2,drawn:=d}) k) ?_);refine wpAny_pure ?_;rw[if_pos (by decide+kernel)];refine wpAny_bind (wpAny_rule ?_);have S:(s.heap.push {cls:=.type "list",data:=.seq ([]:List Value).toArray}).get? s.heap.objs.size=some {cls:=.type "list",data:=.seq ([]:List Value).toArray}:=get?_push_size _ rfl;have K:=k2 _ _ S;have p:s.heap.objs.size∉fp:=λz=>by
  rcases G _ z with e|e
  .exact absurd alt (by rw[<-e];exact lt_irrefl _)
  .rw[size_push] at e
   exact absurd e (Nat.not_succ_le_self _)
 have q:s.heap.objs.size<it:=by rw[size_push] at n;exact n
 refine wpAny_bind ?_;show wpAny _ A.in1 (updateSeq s.heap.objs.size (·.push .none)>>=λ_=>updateSeq s.heap.objs.size (·.pop)) _ _ _;refine wpAny_bind (wpAny_updateSeq K rfl ?_);have L2:=get?_update_self (Obj.mapSeq (·.push Value.none)) K rfl;refine wpAny_updateSeq L2 rfl ?_;have T:=get?_update_self (Obj.mapSeq (·.pop)) L2 rfl;have r:∀b o,b≠s.heap.objs.size->h2.get? b=some o->((h2.update s.heap.objs.size (Obj.mapSeq (·.push Value.none))).update s.heap.objs.size (Obj.mapSeq (·.pop))).get? b=some o:=
  λb o f e=>(get?_update_other _ _ (Ne.symm f)).trans ((get?_update_other _ _ (Ne.symm f)).trans e)
 have U:=(W A.in1 J).toS;have V:zs.length<=sizeLine:=by rw[m.length_eq,length_map,length_toList];exact fits_of_scanBound O
 refine wpAny_pure ⟨plainId_quiet PySem.F.plain_extend_loop _,codeAny_extend_loopS U V _ p _ zs.length 0 _ _ _ rfl (zero_le _) ((W A.in1 J).frame 0 _ _ D λb f o e=>r b o (λz=>p (z▸f)) e) T (ItemsOf.nil _) λs' c c' y t h=>?_⟩;show wpAny _ A (load s.heap.objs.size>>=_) _ _ s';refine wpAny_bind (wpAny_load t ?_);have u:c.toList=zs:=by
  apply ext_getElem?;intro j;rw[getElem?_toList];by_cases L:j<c.size
  .have M:c[j]?=some (c[j]'L):=Array.getElem?_eq_getElem L
   rw[M];exact(h.2 j _ M).symm
  .rw[Array.getElem?_eq_none (by omega),getElem?_eq_none (by rw[<-h.1];omega)]
 obtain⟨h',g',d',H,I⟩:=s';have X:g'=s.gens:=y.gens;have Y:d'=d:=y.drawn;have Z:I=s.os:=y.os;subst X;subst Y;subst Z;refine wpAny_pure ?_;show Q c.toList _;rw[u];have kp:∀b o,s.heap.get? b=some o->h'.get? b=some o:=λb o e=>by
  have f:b<s.heap.objs.size:=lt_size e;refine y.heap b o ?_ (r b o (ne_of_lt f) (k2 _ _ (get?_push_of_some _ e)));simp only[mem_cons,not_mem_nil,or_false,not_or];exact⟨ne_of_lt f,ne_of_lt (lt_trans f q)⟩
 exact N h' d' H zs m (le_of_lt (lt_size t)) kp
theorem Lf{l:List (Int×Value)}(h:ElemsOf (PySem.strKind prog w) l):∀{zs:List Value},zs.Perm (l.map (·.2))->StrsAre zs (zs.map strOf):=λ {zs} a=>by
 have:∀v∈zs,∃t,v=Value.str (strOf v) t:=λv b=>by
  obtain⟨e,c,rfl⟩:=mem_map.mp (a.mem_iff.mp b);exact pU h c
 clear a;induction zs with
 |nil=>exact .nil
 |cons v r d=>
  obtain⟨t,e⟩:=this v (by simp);have r':=d λf h'=>this f (by simp[h']);rw[map_cons];rw[e];exact .cons _ t r'
theorem KW{Q:aj}(x:A.handled=none)(t:cG prog w s.heap a es)(k:es.size<64)
  (h:∀(h':Heap) (d:Drawn) (tk:Nat) (l:Addr) (e:Nat) (out:List Value) (ss:List Str),s.heap.objs.size<=l->h'.get? l=some (seqObj "list" out.toArray e)->StrsAre out ss->ss.Perm (names es)->sortedS ss=true->
   (∀b o,s.heap.get? b=some o->h'.get? b=some o)->Q (.ref l) {s with heap:=h',drawn:=d,toks:=tk}):
  wpAny (model prog w) A (call (.builtin "sorted") [.ref a]) Q E s:=by
 have c:ElemsOf (PySem.strKind prog w) es.toList:=by obtain⟨_,_,_,_,_,_,c,_⟩:=t;exact c
 refine Calls.call_function_entry kind_sorted plain_sorted entry_sorted (args_sorted1 _) ?_;unfold Builtin.«sorted»;refine wpAny_bind (m:=checkCount "sorted" 1 1 _) (wpAny_pure ?_);refine wpAny_bind (pA x t λh1 d tk zs n hsz k1=>?_);have f:StrsAre zs (zs.map strOf):=Lf c n;have i:zs.length<64:=by rw[n.length_eq,length_map,length_toList];exact k
 refine wpAny_bind (wpAny_newList ?_);have g:(h1.push (seqObj "list" zs.toArray 0)).get? h1.objs.size=some (seqObj "list" zs.toArray 0):=get?_push_size _ rfl;show wpAny _ _ _ _ _ {s with heap:=h1.push (seqObj "list" zs.toArray 0),drawn:=d,toks:=tk};refine wpAny_bind (wpAny_holding (wpAny_call_entry slot_list_sort ⟨_,g,rfl⟩ entry_list_sort (list_sort_treeK strKind_oneLt g f.keysOf (λu v rest e=>keyKind_strs (by rw[<-e];exact f)) i λj a1 a2=>⟨_,rfl,?_⟩) (args_list_sort _)));obtain⟨p,y,z,B⟩:=sorted_out_str f a1 a2;obtain⟨e,C⟩:=sortedHeap_at (out:=(arrOf j).map (·.2)) g;refine wpAny_pure ⟨_,rfl,h _ d tk h1.objs.size e ((arrOf j).map (·.2)).toList p hsz (by rw[toArray_toList];exact C) y (z.trans ?_) B λb o q=>?_⟩
 .have:=n.map strOf
  rw[map_map] at this;exact this
 .have r:=k1 b o q
  rw[sortedHeap_old (ne_of_lt (lt_size r)) (by rw[size_push'];exact lt_succ_of_lt (lt_size r))];exact get?_push_of_some _ r
end
end SS
namespace L2
section
variable{X:Cx}
theorem Le{xs:List Str}{its:List Value}(r:Vals (xs.map V.str) its):∀(i:Nat) (v:Value),its.toArray[i]?=some v->∃t:Tok,v=Value.str (xs.getD i ⟨#[]⟩) t:=λi v h=>by
 have h':its[i]?=some v:=by simpa using h
 have b:=r.length;have hi:i<its.length:=(List.getElem?_eq_some_iff.mp h').1;have c:(xs.map V.str)[i]?=some (V.str (xs.getD i ⟨#[]⟩)):=by
  rw[getElem?_map,getD_eq_getElem?_getD];have:i<xs.length:=by rw[<-b,length_map] at hi;exact hi
  rw[getElem?_eq_getElem this];rfl
 obtain⟨u,a,d⟩:=r.get c;rw[h'] at a;cases a;exact d
def strLt(a b:Str):Prop:=a.cps.toList<b.cps.toList
theorem yQ:∀(p:Str) (l:List Str),risingS p l=true->(p::l).Pairwise (λa b=>¬b.cps.toList<a.cps.toList)
 |p,[],_=>List.pairwise_singleton _ _
 |p,x::r,h=>by
  simp only[risingS,and_eq_true,Bool.not_eq_true',ltCps_eq,decide_eq_false_iff_not] at h;have c:=yQ x r h.2;refine pairwise_cons.mpr ⟨λy d=>?_,c⟩;rcases mem_cons.mp d with e|e
  .rw[e];exact h.1
  .have:=(pairwise_cons.mp c).1 y e
   exact λz=>(not_lt.mp this)|>λq=>absurd z (not_lt.mpr (List.le_trans (not_lt.mp h.1) q))
theorem rF{l:List Str}(h:sortedS l=true):l.Pairwise (λa b=>¬b.cps.toList<a.cps.toList):=by
 cases l with
 |nil=>exact .nil
 |cons x r=>exact yQ x r h
theorem rK{l:List Str}(h:l.Pairwise (λa b=>¬b.cps.toList<a.cps.toList))(nd:l.Nodup):l.Pairwise strLt:=by
 refine(h.and nd).imp λ {a b} q=>?_;by_cases z:a.cps.toList<b.cps.toList
 .exact z
 .have e:a.cps.toList=b.cps.toList:=List.le_antisymm (not_lt.mp q.1) (not_lt.mp z)
  refine absurd ?_ q.2;obtain⟨⟨c⟩⟩:=a;obtain⟨⟨d⟩⟩:=b;have f:c=d:=e;rw[f]
def LH(K:PySem.W.Frag)(ta:TA):TE:=λσ H Q=>ta σ H λvs H1=>∃(a:Addr) (xs:List Str),vs=[.ref a]/\aI K H1 a (xs.map V.str)/\xs.length<64/\
 ∀(l:Addr) (ys:List Str),H1 l=none->ys.Pairwise strLt->(∀x,x∈ys↔x∈xs)->Q (.ref l) (upd H1 l (.lst (ys.map V.str)))
theorem kT:∀{out:List Value} {ss:List Str},StrsAre out ss->Vals (ss.map V.str) out
 |_,_,.nil=>.nil
 |_,_,.cons x t h=>.cons ⟨t,rfl⟩ (kT h)
theorem IG{e:Expr}{ta:TA}{p1 p2 pos1 pos2:Pos}(D:X.mg "sorted"=none)(E:X.mg "set"=none)(hc:X.calm=true)(T:PA X [e] ta)(F:Gl X "sorted":=by rfl)(G:Gl X "set":=by rfl)
  (hs:starEach [e] X.env=[(false,eval e X.env)]:=by rfl)(O:starEach [.Call (.Name "set" p2) [e] [] pos2] X.env=[(false,eval (.Call (.Name "set" p2) [e] [] pos2) X.env)]:=by rfl):
  PE X (.Call (.Name "sorted" p1) [.Call (.Name "set" p2) [e] [] pos2] [] pos1) (LH X.K ta):=by
 intro pins s σ H Q I h;refine wpAny_Call_Name_kw (gG I F D (show bootBuiltins "sorted"=some (.builtin "sorted") by with_unfolding_all rfl) ?_);refine PyProof.Rows.callWith_builtin1 ?_ O rfl;rw[O];refine Calls.spliced_cons (wpAny_Call_Name_kw (gG I G E (show bootBuiltins "set"=some (.type "set") by with_unfolding_all rfl) (PyProof.Rows.callWith_type1 (au (T pos2 pins s σ H _ I h) λus t ⟨vs,H1,k,U,W⟩=>?_) hs rfl)));obtain⟨a,xs,e,Y,Z,q⟩:=W;subst e;obtain⟨u,rfl,ru⟩:=vals1 U;cases ru;obtain⟨its,P,pl,Fp⟩:=k.list Y;have hl:=P.length;have hsz:its.toArray.size=xs.length:=by rw[size_toArray,<-hl,length_map]
 refine SS.o9 (val:=λi=>xs.getD i ⟨#[]⟩) (k.ok.hd hc) pl.isList (λi v hv=>Le P i v hv) (by rw[hsz,show scanBound=4096 from rfl];omega) λh2 tk es J R w k2=>?_;have g:es.size<64:=by omega
 have f:∀b o,t.heap.get? b=some o->h2.get? b=some o:=λb o e=>k2 b o (lt_size e) e;refine Calls.spliced_nil ?_;refine SS.KW (s:={t with heap:=h2,toks:=tk}) (k.ok.hd hc) J g λS d y l ep out ss m L M c p k3=>?_;have alt:t.heap.objs.size<h2.objs.size:=by obtain⟨o,_,_,ho,_⟩:=J;exact lt_size ho
 have C:H1 l=none:=k.hok.fresh (le_trans (le_of_lt alt) m);have nd:ss.Nodup:=c.nodup_iff.mpr (by obtain⟨_,_,_,_,_,_,_,N,_⟩:=J;exact N);have r:∀x,x∈ss↔x∈xs:=λx=>by
  rw[c.mem_iff,w x,hsz];constructor
  .rintro ⟨j,A,rfl⟩
   rw[getD_eq_getElem?_getD,getElem?_eq_getElem A];exact getElem_mem A
  .intro hx
   obtain⟨j,A,e⟩:=getElem_of_mem hx;exact⟨j,A,by rw[getD_eq_getElem?_getD,getElem?_eq_getElem A];exact e⟩
 have B:ss.length=es.size:=by rw[c.length_eq,length_map,length_toList]
 have I2:Inv X pins σ (upd H1 l (.lst (ss.map V.str))) {t with heap:=S,drawn:=d,toks:=y}:=by
  refine k.call (ch:=[]) (g':=t.gens) (d':=d) (t':=y) (h':=S) (H':=upd H1 l (.lst (ss.map V.str))) ⟨λb o q _ _ _=>k3 b o (f b o q),λb o q _ _ _=>⟨o.slots,k3 b o (f b o q)⟩,λb o q n _=>?_,λb o q _=>⟨o,k3 b o (f b o q)⟩,λb xs q=>?_,λb o u q=>?_,λb ps q=>⟨#[],?_⟩⟩ ?_ k.bare λb z=>absurd z (by simp)
  .rw[aF (ne_of_lt (lt_of_lt_of_le (lt_size q) (le_trans (le_of_lt alt) m)))];exact n
  .rw[aF (bG q C)];exact q
  .rw[aF (bG q C)];exact q
  .rw[aF (bG q C),q];simp
  .exact k.hok.laid (λb u q=>k3 b u (f b u q)) (le_trans (le_of_lt alt) m) ⟨by rw[length_map,B];exact le_of_lt (lt_of_lt_of_le g (by decide)),out,ep,kT M,L⟩
 exact⟨.ref l,_,I2,rfl,q l ss C (rK (rF p) nd) r⟩
end
section
variable{X:Cx}
end
section
variable{X:Cx}
end
section
variable{prog:Program}{w:World}{A:Around}{E:aj}{s:Shared}
theorem tuple_addW0(l b:Addr)(items a:Array Value)(n f:Nat)(dd c:Option Addr)(i e:Array (Option Value))(j:items.isEmpty=true):
  Meets (Builtin.«tuple.__add__» ⟨[.ref l,.ref b],[]⟩) (λ_ R s=>s.heap.get? l=some {cls:=.type "tuple",dict:=dd,data:=.seq items n,slots:=i}/\s.heap.get? b=some {cls:=.type "tuple",dict:=c,data:=.seq a f,slots:=e}/\R (.ok (.ret (Value.ref b))) {s with heap:=s.heap,toks:=s.toks}):=
 .of_wp λprog w A R s h=>by obtain⟨o,g,d,tk,os⟩:=s;obtain⟨k,m,h⟩:=h;have f1:=AutoSeq1.idx_int;have f2:=AutoSeq1.sub_tuple_tuple;have p:=AutoSeq1.sub_list_list;have f4:=AutoSeq1.sub_tuple_list;have q:=AutoSeq1.sub_list_tuple;wp_walk using wpAny_loadPart' k,wpAny_loadPart' m;exact⟨_,rfl,h⟩
end
section
variable{X:Cx}
def Jw(K:PySem.W.Frag):R2:=λx y H Q=>∃a b ys,x=.ref a/\y=.ref b/\aN K H a []/\aN K H b ys/\Q (.ref b) H
theorem HL:aM X (binaryOp .Add) (Jw X.K):=by
 intro pins s σ H x y v u Q I k l h;obtain⟨a,b,ys,rfl,rfl,m,o,q⟩:=h;cases k;cases l;obtain⟨its,p,p1,_⟩:=I.tuple m;obtain⟨c,w,p2,_⟩:=I.tuple o;cases p;obtain⟨⟨cls,dd,data,r⟩,i,hc,n,hd⟩:=id p1;obtain⟨⟨j,f,data2,g⟩,d,e,t,hd2⟩:=id p2;simp only at hc hd e hd2;subst hc hd e hd2;exact concat_meets ⟨_,i,rfl⟩ ⟨_,d,rfl⟩ noFill_tuple_add seq_tuple_add slot_tuple_add entry_tuple_add (args_tuple_add_2 _ _)
  (tuple_addW0 a b #[] c.toArray n t dd f r g rfl) ⟨i,d,⟨.ref b,H,I,rfl,q⟩⟩
def yx(K:PySem.W.Frag):R2:=λx y H Q=>∃a b xs ys,x=.ref a/\y=.ref b/\aN K H a xs/\aN K H b ys/\xs.length+ys.length<=sizeLine/\
 (xs=[]->Q (.ref b) H)/\(xs≠[]->ys=[]->Q (.ref a) H)/\(xs≠[]->ys≠[]->∀p,H p=none->Q (.ref p) (upd H p (.tup (xs++ys))))
theorem HJ:aM X (binaryOp .Add) (yx X.K):=by
 intro pins s σ H x y v u Q I d e h;obtain⟨a,b,xs,ys,rfl,rfl,f,g,i,j,k,l⟩:=h;by_cases c:xs=[]
 .subst c
  exact HL pins s σ H _ _ v u Q I d e ⟨a,b,ys,rfl,rfl,f,g,j rfl⟩
 .exact HK pins s σ H _ _ v u Q I d e ⟨a,b,xs,ys,rfl,rfl,f,g,c,i,k c,l c⟩
end
end L2
namespace DP
theorem GZ:typeLookup (.type "list") "keys"=pure none:=by rw[typeLookup_type,builtinLookup_eq_fast];kernel_rfl
theorem G0:typeLookup (.type "tuple") "keys"=pure none:=by rw[typeLookup_type,builtinLookup_eq_fast];kernel_rfl
section
variable{prog:Program}{w:World}{A:Around}{E:aj}{s:Shared}
theorem Hq{a:Addr}{xs:Array Value}{k:Nat}{Q:Option Value->Shared->Prop}(i:s.heap.get? a=some {cls:=.type "list",data:=.seq xs k})(l:A.handled=none)
  (h:∀h' tk,(∀b o,s.heap.get? b=some o->h'.get? b=some o)->Q none {s with heap:=h',toks:=tk}):wpAny (model prog w) A (getAttr? (.ref a) "keys") Q E s:=by
 obtain⟨m,g,d,tk,os⟩:=s;have j:∀c,(⟨m,g,d,c,os⟩:Shared).TypeIs (.ref a) "list":=λ_=>⟨_,i,rfl⟩;have f1:=sub_AttributeError;have n:=PySem.F.slot_list_getattribute.lookup;have f4:=PySem.F.slot_list_getattribute.bind (.ref a);have p:=am_list_getattr_none;unfold getAttr? getAttrBy? getAttrBy;repeat (any_goals (first|assumption|exact j _|((with_reducible show wpAny _ _ (call (Value.builtin "list.__getattribute__") _ _) _ _ _);refine call_meets PySem.F.slot_list_getattribute (j _) am_entry_list_getattribute (PySem.F.args_list_getattribute_2 _ _) (meets_getattribute_miss_list a xs k #[] "keys" _ GZ (by decide) (by decide)) ⟨i,l,λh' c e f=>?_⟩)|wp_step))
 obtain⟨t',q,r⟩:=f.there;show wpAny _ _ (getattributeRaised _ _ _ _ _ _ _) _ _ _;unfold getattributeRaised;repeat (any_goals (first|assumption|wp_step))
 exact h _ _ f.keeps
theorem Hr{a:Addr}{xs:Array Value}{k:Nat}{Q:Option Value->Shared->Prop}(i:s.heap.get? a=some {cls:=.type "tuple",data:=.seq xs k})(l:A.handled=none)
  (h:∀h' tk,(∀b o,s.heap.get? b=some o->h'.get? b=some o)->Q none {s with heap:=h',toks:=tk}):wpAny (model prog w) A (getAttr? (.ref a) "keys") Q E s:=by
 obtain⟨m,g,d,tk,os⟩:=s;have j:∀c,(⟨m,g,d,c,os⟩:Shared).TypeIs (.ref a) "tuple":=λ_=>⟨_,i,rfl⟩;have f1:=sub_AttributeError;have n:=PySem.F.slot_tuple_getattribute.lookup;have f4:=PySem.F.slot_tuple_getattribute.bind (.ref a);have p:=am_tuple_getattr_none;unfold getAttr? getAttrBy? getAttrBy;repeat (any_goals (first|assumption|exact j _|((with_reducible show wpAny _ _ (call (Value.builtin "tuple.__getattribute__") _ _) _ _ _);refine call_meets PySem.F.slot_tuple_getattribute (j _) am_entry_tuple_getattribute (PySem.F.args_tuple_getattribute_2 _ _) (meets_getattribute_miss_tuple a xs k #[] "keys" _ G0 (by decide) (by decide)) ⟨i,l,λh' c e f=>?_⟩)|wp_step))
 obtain⟨t',q,r⟩:=f.there;show wpAny _ _ (getattributeRaised _ _ _ _ _ _ _) _ _ _;unfold getattributeRaised;repeat (any_goals (first|assumption|wp_step))
 exact h _ _ f.keeps
end
theorem u_:entryFor table "dict.update.loop"=some Builtin.«dict.update.loop»:=entryFor_of_tree (by kernel_rfl)
theorem ko:plainId "dict.update.loop"=true:=by decide+kernel
section
variable{prog:Program}{w:World}{A:Around}{R:Result->Shared->Prop}{I:Addr}{fp wr:List Addr}{n:Nat}{P:Nat->Value->Prop}{St:Nat->Heap->Prop}
theorem loop(W:Walks prog w A.in1 I fp wr n P St)(D:Addr)(p:D∉fp)(h₀:Heap)(key:Nat->L2.Key)(C q:Nat->Value)
  (u:∀i v,i<n->P i v->∃t,v=.ref t/\t≠D/\t∉wr/\IsTup h₀ t #[C i,q i])(x:∀i,i<n->(L2.bP prog w).is (key i) (C i)=true)(hn:n<=sizeLine):
  ∀(k i:Nat) (s:Shared) (kvs:List (L2.Key×Value)),n - i=k->i<=n->St i s.heap->s.heap.DictOf (L2.bP prog w) D kvs->kvs.length<=i->(∀b o,b≠D->b∉wr->h₀.get? b=some o->s.heap.get? b=some o)->
   (∀h' tk,h'.DictOf (L2.bP prog w) D (((range n).drop i).foldl (λacc j=>stored acc (key j) (q j)) kvs)->(∀b o,b≠D->b∉wr->s.heap.get? b=some o->h'.get? b=some o)->R (.ok (.ret .none)) {s with heap:=h',toks:=tk})->
   codeAny (model prog w) A (.builtin "dict.update.loop" ⟨[.ref D,.ref I,rawInt (i:Nat),.none],[]⟩) R s:=by
 have y:D∉wr:=λh=>p (W.sub _ h);intro k;induction k with
 |zero=>
  intro i s kvs Y hi g F Z G H;have J:i=n:=by omega
  subst J;refine codeAny_builtin u_ ?_;rw[Around.under_plainId ko _];show wpAny _ A.in1 (pyNext (.ref I)>>=_) _ _ s;refine wpAny_bind (W.done s _ _ g λh' tk l=>?_);show wpAny _ A.in1 (Builtin.Dict.addKeywords D []>>=_) _ _ _;refine wpAny_bind (wpAny_pure (wpAny_pure (H h' tk ?_ λb o d a e=>l b o a e)));rw[List.drop_eq_nil_of_le (by simp),List.foldl_nil];obtain⟨o,es,ep,K,r⟩:=F;exact⟨o,es,ep,l D o y K,r⟩
 |succ k ih=>
  intro i s kvs Y hi g F Z G H;have c:i<n:=by omega
  refine codeAny_builtin u_ ?_;rw[Around.under_plainId ko _];show wpAny _ A.in1 (pyNext (.ref I)>>=_) _ _ s;refine wpAny_bind (W.item i s _ _ c g λv h1 tk hP B l=>?_);obtain⟨t,rfl,tD,tw,ht⟩:=u i v c hP;obtain⟨E,L,M,nt,N⟩:=ht;have f:h1.get? t=some E:=l t E tw (G t E tD tw L);refine wpAny_bind (wpAny_holding ?_);refine wpAny_bind (wpAny_tryCatch ?_);unfold Builtin.Dict.pairItems;refine wpAny_bind (wpAny_typeOf (T:="tuple") ⟨E,f,M⟩ ?_);rw[if_pos (by decide)];refine wpAny_bind (wpAny_seqItems f N (wpAny_pure ?_));show wpAny _ _ (holding [C i,q i] (dictSet D (C i) (q i))) _ _ _;have O:h1.DictOf (L2.bP prog w) D kvs:=by
   obtain⟨o,es,ep,K,r⟩:=F;exact⟨o,es,ep,l D o y K,r⟩
  refine wpAny_holding (wpAny_dictSet_pairs (s:={s with heap:=h1,toks:=tk}) (x i c) O (λh2 Q m=>?_) (by omega));have S:St (i+1) h2:=W.frame _ _ _ B λb d o e=>(m.2 b λz=>p (z▸d)).trans e;have e1:((i:Nat):Int)+1=((i+1:Nat):Int):=by omega
  refine wpAny_pure ⟨plainId_quiet ko _,?_⟩;show codeAny _ _ (.builtin "dict.update.loop" ⟨[.ref D,.ref I,rawInt (((i:Nat):Int)+1),.none],[]⟩) _ _;rw[e1];refine ih (i+1) _ _ (by omega) c S Q ?_ (λb o d a e=>(m.2 b d).trans (l b o a (G b o d a e))) λh' U V X=>?_
  .have:=stored_length_le kvs (key i) (q i)
   omega
  .refine H h' U ?_ λb o d a e=>X b o d a ((m.2 b d).trans (l b o a e))
   have e2:(range n).drop i=i::(range n).drop (i+1):=by
    rw[drop_eq_getElem_cons (by simpa using c)];simp
   rw[e2,foldl_cons];exact V
end
end DP
namespace L2
def putAll(ps:List (Key×V)):List (Key×V):=ps.foldl (λacc p=>putK acc p.1 p.2) []
theorem Jt(ps acc:List (Key×V)):(ps.foldl (λacc p=>putK acc p.1 p.2) acc).length<=acc.length+ps.length:=by
 induction ps generalizing acc with
 |nil=>simp
 |cons p r a=>
  rw[foldl_cons,length_cons];refine le_trans (a _) ?_;have:(putK acc p.1 p.2).length<=acc.length+1:=by
   unfold putK;split
   .rw[length_map];omega
   .rw[length_append];simp
  omega
theorem GD{ps:List (Key×V)}{n:Nat}{key:Nat->Key}{a:Nat->Value}(b:n=ps.length)(h:∀i p,ps[i]?=some p->key i=p.1/\RelV p.2 (a i)):KV (putAll ps) ((range n).foldl (λacc j=>stored acc (key j) (a j)) []):=by
 subst b;unfold putAll;have gen:∀(m:Nat),m<=ps.length->KV ((ps.take m).foldl (λacc p=>putK acc p.1 p.2) []) ((range m).foldl (λacc j=>stored acc (key j) (a j)) []):=λm=>by
  induction m with
  |zero=>intro _;simp;exact .nil
  |succ m c=>
   intro d;have e:ps[m]?=some (ps[m]'(by omega)):=getElem?_eq_getElem (by omega);obtain⟨h1,h2⟩:=h m _ e;rw[List.take_add_one,e,List.range_succ,foldl_append,foldl_append];simp only[Option.toList_some,foldl_cons,List.foldl_nil];rw[h1];exact KV.put (c (by omega)) _ h2
 have:=gen ps.length (le_refl _);rwa [List.take_length] at this
section
variable{X:Cx}
def Pairs(K:PySem.W.Frag)(H:Hp)(ts:List V)(ps:List (Key×V)):Prop:=ts.length=ps.length/\∀(i:Nat) (x:V) (p:Key×V),ts[i]?=some x->ps[i]?=some p->∃t,x=.ref t/\aN K H t [kV p.1,p.2]
theorem uf(hc:X.calm=true):ck X (.type "dict") (λxs H Q=>∃(p:Addr) (ts:List V) (ps:List (Key×V)),xs=[.ref p]/\(H p=some (.lst ts)\/H p=some (.tup ts))/\Pairs X.K H ts ps/\ps.length<=1000/\∀d,H d=none->Q (.ref d) (upd H d (.dK (putAll ps)))):=by
 intro pins s σ H xs us Q I r h;obtain⟨p,ts,ps,rfl,hp,hP,hl,q⟩:=h;obtain⟨u,rfl,Z⟩:=vals1 r;cases Z;have hh:=I.ok.hd hc;obtain⟨its,hv,D⟩:∃its:List Value,Vals ts its/\((∃n,s.heap.get? p=some {cls:=.type "list",data:=.seq its.toArray n})\/∃n,s.heap.get? p=some {cls:=.type "tuple",data:=.seq its.toArray n}):=by
  rcases hp with hp|hp
  .obtain⟨_,its,n,y,e⟩:=(show aY X.prog X.w H s.heap p (.lst ts) from I.hok p _ hp)
   exact⟨its,y,.inl ⟨n,e⟩⟩
  .obtain⟨its,n,y,e,_⟩:=I.LR hp
   exact⟨its,y,.inr ⟨n,e⟩⟩
 have l:its.length=ps.length:=by rw[<-hv.length];exact hP.1
 have IX:p<s.heap.objs.size:=by rcases D with⟨_,e⟩|⟨_,e⟩<;>exact lt_size e
 have pair:∀i,i<ps.length->∃t k v,its[i]?=some (.ref t)/\IsTup s.heap t #[k,v]/\∃p,ps[i]?=some p/\RelV (kV p.1) k/\RelV p.2 v:=λi hi=>by
  have z:ps[i]?=some (ps[i]'hi):=getElem?_eq_getElem hi;have B:ts[i]?=some (ts[i]'(by rw[hP.1];exact hi)):=getElem?_eq_getElem _;obtain⟨t,ex,hq⟩:=hP.2 i _ _ B z;obtain⟨u,hu,Z⟩:=hv.get B;rw[ex] at Z;cases Z;obtain⟨its2,r2,p2,_⟩:=I.tuple hq;obtain⟨k,v,rfl,M,y⟩:=vals2 r2;exact⟨t,k,v,hu,p2,_,z,M,y⟩
 let O:Nat->Value:=λi=>match its[i]? with|some (.ref t)=>(match s.heap.get? t with|some o=>(match o.data with|.seq a _=>a.getD 0 .none|_=>.none)|none=>.none)|_=>.none
 let N:Nat->Value:=λi=>match its[i]? with|some (.ref t)=>(match s.heap.get? t with|some o=>(match o.data with|.seq a _=>a.getD 1 .none|_=>.none)|none=>.none)|_=>.none
 let key:Nat->Key:=λi=>((ps[i]?).map (·.1)).getD (.inl 0);have g:∀i,i<ps.length->∃t p,its[i]?=some (.ref t)/\IsTup s.heap t #[O i,N i]/\ps[i]?=some p/\key i=p.1/\RelV (kV p.1) (O i)/\RelV p.2 (N i):=λi hi=>by
  obtain⟨t,k,v,z,J,pp,B,M,y⟩:=pair i hi;obtain⟨o,E,hcl,n,hd⟩:=id J;have P:O i=k:=by simp only[O,z,E,hd];rfl
  have ev:N i=v:=by simp only[N,z,E,hd];rfl
  have ey:key i=pp.1:=by simp only[key,B];rfl
  rw[P,ev,ey];exact⟨t,pp,z,J,B,rfl,M,y⟩
 have hsz:ps.length<=sizeLine:=le_trans hl (by decide);refine callType_codes (Q₁:=λobj G=>obj=.ref s.heap.objs.size/\G={s with heap:=s.heap.push {cls:=.type "dict",data:=.dict #[]}}) PySem.F.kt_called_dict (PySem.F.kt_typeCall_dict_1 _) PySem.F.entry_dict_init (kt_code_dict_new _ ⟨rfl,rfl⟩) ?_;rintro obj G ⟨rfl,rfl⟩;have c:(s.heap.push {cls:=.type "dict",data:=.dict #[]}).DictOf (bP X.prog X.w) s.heap.objs.size []:=DictOf.new s.heap;refine⟨c.typeIs,PySem.F.args_dict_init_2 _ _,?_⟩;unfold Builtin.«dict.__init__»;refine wpAny_bind ?_;unfold Builtin.Dict.selfAndRest;refine wpAny_bind (wpAny_notOrdered_dict c.typeIs ?_);show wpAny _ _ (pure (s.heap.objs.size,[Value.ref p])) _ _ _;refine wpAny_pure ?_;show wpAny _ _ (Builtin.Dict.updateFrom "dict.__init__" s.heap.objs.size (.ref p) [] .none) _ _ _;unfold Builtin.Dict.updateFrom;have k0:∀b o,s.heap.get? b=some o->(s.heap.push {cls:=.type "dict",data:=.dict #[]}).get? b=some o:=λb o e=>get?_push_of_some _ e;have pD:p≠s.heap.objs.size:=ne_of_lt IX;have go:∀(h1:Heap) (tk:Nat) (R:Addr) (fp:List Addr) (St:Nat->Heap->Prop),(∀b o,(s.heap.push {cls:=.type "dict",data:=.dict #[]}).get? b=some o->h1.get? b=some o)->s.heap.objs.size<R->
   Walks X.prog X.w X.A.in1.in1 R fp [R] its.length (λi v=>its.toArray[i]?=some v) St->St 0 h1->s.heap.objs.size∉fp->
   codeAny (model X.prog X.w) X.A.in1 (.builtin "dict.update.loop" ⟨[.ref s.heap.objs.size,.ref R,rawInt 0,.none],[]⟩) (wants (λr S=>r=.none/\EP X pins σ Q (.ref s.heap.objs.size) S) X.xe) {s with heap:=h1,toks:=tk}:=by
  intro h1 tk R fp St k1 hI W K6 hDf;have EM:h1.DictOf (bP X.prog X.w) s.heap.objs.size []:=by
   obtain⟨o,es,ep,E,r⟩:=c;exact⟨o,es,ep,k1 _ o E,r⟩
  refine DP.loop W s.heap.objs.size hDf s.heap key O N (λi v hi hv'=>?_) (λi hi=>?_) (by rw[l];exact hsz) its.length 0 _ [] rfl (zero_le _) K6 EM (zero_le _) (λb o _ _ e=>k1 b o (k0 b o e)) λh2 LQ U k2=>?_
  .obtain⟨t,pp,z,J,_⟩:=g i (by rw[<-l];exact hi)
   have e:its[i]?=some v:=by simpa using hv'
   rw[z] at e;cases e;have Y:t<s.heap.objs.size:=J.lt;exact⟨t,rfl,ne_of_lt Y,by simp only[mem_singleton];exact ne_of_lt (lt_trans Y hI),J⟩
  .obtain⟨t,pp,z,J,B,P,M,y⟩:=g i (by rw[<-l];exact hi)
   rw[P];exact iE M
  .have hn:H s.heap.objs.size=none:=I.hok.fresh (le_refl _)
   have Gx:∀b o,s.heap.get? b=some o->h2.get? b=some o:=λb o e=>by
    have hb:b<s.heap.objs.size:=lt_size e;exact k2 b o (ne_of_lt hb) (by simp only[mem_singleton];exact ne_of_lt (lt_trans hb hI)) (k1 b o (k0 b o e))
   rw[List.drop_zero,l] at U;have hkv:KV (putAll ps) ((range ps.length).foldl (λacc j=>stored acc (key j) (N j)) []):=GD rfl λi pp e=>by
    obtain⟨t,pp',z,J,B,P,M,y⟩:=g i (List.getElem?_eq_some_iff.mp e).1;rw[e] at B;cases B;exact⟨P,y⟩
   have hns:(s.heap.objs.size==sysModules)=false:=beq_false_of_ne (ne_of_gt I.big);refine⟨rfl,.ref s.heap.objs.size,_,I.laid (t':=LQ) (o:=.dK (putAll ps)) Gx (le_refl _) ⟨?_,hns,_,hkv,U⟩,rfl,q _ hn⟩;have:=Jt ps [];unfold putAll;simp only[length_nil,zero_add] at this;omega
 rcases D with⟨n,e⟩|⟨n,e⟩
 .have C:=k0 _ _ e
  refine wpAny_bind (wpAny_typeOf (T:="list") ⟨_,C,rfl⟩ ?_);rw[if_pos (by decide)];refine wpAny_bind (DP.Hq (s:={s with heap:=s.heap.push {cls:=.type "dict",data:=.dict #[]}}) C hh λh1 L k1=>?_);rw[if_pos (show(none:Option Value).isNone=true from rfl)];refine wpAny_bind (wpAny_rule ?_);have m:h1.IsList p its.toArray:=⟨_,k1 _ _ C,rfl,n,rfl⟩;have x:p<h1.objs.size:=lt_size (k1 _ _ C);have f:s.heap.objs.size<h1.objs.size:=by obtain⟨o,_,_,E,_⟩:=c;exact lt_size (k1 _ _ E)
  refine wpAny_bind (wpAny_pyIter_list (s:={s with heap:=h1,toks:=L}) m ?_);have W:=Walks.list (prog:=X.prog) (w:=X.w) (A:=X.A.in1.in1) hh h1.objs.size p (ne_of_lt x) its.toArray;rw[size_toArray] at W;refine wpAny_pure ⟨plainId_quiet DP.ko _,go _ _ _ _ _ (λb o q=>get?_push_of_some _ (k1 b o q)) f W ⟨⟨_,get?_push_size _ rfl,rfl,rfl⟩,m.push _⟩ ?_⟩;simp only[mem_cons,not_mem_nil,or_false,not_or];exact⟨ne_of_lt f,Ne.symm pD⟩
 .have C:=k0 _ _ e
  refine wpAny_bind (wpAny_typeOf (T:="tuple") ⟨_,C,rfl⟩ ?_);rw[if_pos (by decide)];refine wpAny_bind (DP.Hr (s:={s with heap:=s.heap.push {cls:=.type "dict",data:=.dict #[]}}) C hh λh1 L k1=>?_);rw[if_pos (show(none:Option Value).isNone=true from rfl)];refine wpAny_bind (wpAny_rule ?_);have m:h1.IsTuple p its.toArray:=⟨_,k1 _ _ C,rfl,n,rfl⟩;have x:p<h1.objs.size:=lt_size (k1 _ _ C);have f:s.heap.objs.size<h1.objs.size:=by obtain⟨o,_,_,E,_⟩:=c;exact lt_size (k1 _ _ E)
  refine wpAny_bind (wpAny_pyIter_tuple (s:={s with heap:=h1,toks:=L}) m ?_);have W:=Walks.tuple (prog:=X.prog) (w:=X.w) (A:=X.A.in1.in1) hh h1.objs.size p (ne_of_lt x) its.toArray;rw[size_toArray] at W;refine wpAny_pure ⟨plainId_quiet DP.ko _,go _ _ _ _ _ (λb o q=>get?_push_of_some _ (k1 b o q)) f W ⟨⟨_,get?_push_size _ rfl,rfl,rfl⟩,m.push _⟩ ?_⟩;simp only[mem_cons,not_mem_nil,or_false,not_or];exact⟨ne_of_lt f,Ne.symm pD⟩
end
section
variable{X:Cx}
end
end L2
end
namespace PySem
open Sem (wp)
open AutoSeq1 (wpAny_loadPart')
namespace ZL
section
variable{prog:Program}{w:World}{A:Around}{E:aj}{s:Shared}{z TI TO i1 i2 l1 l2:Addr}{xs ys:Array Value}
end
section
variable{prog:Program}{w:World}{A:Around}{E:aj}{s:Shared}
end
end ZL
end PySem
section
open PySem PySem.Spec PyProof.Rows
namespace L2
section
variable{X:Cx}
end
theorem nU:∀{vs:List Value} {ss:List Str},vs.length=ss.length->(∀(i:Nat) v x,vs[i]?=some v->ss[i]?=some x->∃t,v=Value.str x t)->StrsAre vs ss
 |[],[],_,_=>.nil
 |v::vs,x::ss,a,h=>by
  obtain⟨t,rfl⟩:=h 0 v x rfl rfl;exact .cons x t (nU (by simpa using a) λi b c d e=>h (i+1) b c (by simpa using d) (by simpa using e))
theorem KV.at{kvs:List (Key×V)}{vs:List (Key×Value)}(r:KV kvs vs):∀{i:Nat} {q:Key×Value},vs[i]?=some q->∃p,kvs[i]?=some p/\p.1=q.1/\RelV p.2 q.2:=by
 induction r with
 |nil=>intro i q h;simp at h
 |cons h1 h2 a=>
  intro i q h;cases i with
  |zero=>simp at h;subst h;exact⟨_,rfl,h1⟩
  |succ i=>exact a (by simpa using h)
theorem KV.len{kvs:List (Key×V)}{vs:List (Key×Value)}(r:KV kvs vs):kvs.length=vs.length:=by
 induction r with
 |nil=>rfl
 |cons h1 h2 a=>simp[a]
section
variable{X:Cx}
theorem Inv.mL{pins:aD}{σ:St}{H H':Hp}{s:Shared}{h':Heap}{t':Nat}(I:Inv X pins σ H s)(kp:∀b o,s.heap.get? b=some o->h'.get? b=some o)(hs:iw H H')
  (a:∀b o,H' b=some o->H b=some o\/((∀u,s.heap.get? b≠some u)/\aY X.prog X.w H' h' b o)):Inv X pins σ H' {s with heap:=h',toks:=t'}:=by
 refine I.un (h':=h') (t':=t') ⟨λb o q _ _ _=>kp b o q,λb o q _ _ _=>⟨o.slots,kp b o q⟩,λb o q n _=>?_,λb o q _=>⟨o,kp b o q⟩,λb xs q=>hs _ _ q,λb o u q=>hs _ _ q,λb ps q=>⟨#[],by rw[hs _ _ q];simp⟩⟩ λb o q=>?_
 .cases e:H' b with
  |none=>rfl
  |some u=>
   rcases a b u e with z|⟨z,_⟩
   .rw[n] at z;cases z
   .exact absurd q (z _)
 .rcases a b o q with z|⟨_,z⟩
  .exact(I.hok b o z).stay (λc v _ r=>kp c v r) (λc r=>hs _ _ r) λc xs r=>hs _ _ r
  .exact z
theorem BK(hc:X.calm=true):ck X (.builtin "sorted") (λxs H Q=>∃(d:Addr) (kvs:List (Key×V)) (ns:List Str),xs=[.ref d]/\H d=some (.dK kvs)/\kvs.map (·.1)=ns.map Sum.inr/\ns.Nodup/\ns.length<64/\
  ∀(l:Addr) (ys:List Str),H l=none->ys.Pairwise strLt->(∀x,x∈ys↔x∈ns)->Q (.ref l) (upd H l (.lst (ys.map V.str)))):=by
 intro pins s σ H xs us Q I r h;obtain⟨d,kvs,ns,rfl,hd,M,G,B,q⟩:=h;obtain⟨u,rfl,U⟩:=vals1 r;cases U;obtain⟨hz,hs,vs,rel,dd⟩:=(show aY X.prog X.w H s.heap d (.dK kvs) from I.hok d _ hd);obtain⟨ep,J⟩:=dd.dictAt;have C:kvs.length=ns.length:=by
  have:=congrArg List.length M;simpa using this
 have c:vs.length=ns.length:=by rw[<-rel.len,C]
 refine Calls.call_function_entry kind_sorted plain_sorted entry_sorted (args_sorted1 _) ?_;unfold Builtin.«sorted»;refine wpAny_bind (m:=checkCount "sorted" 1 1 _) (wpAny_pure ?_);refine wpAny_bind (PySem.W.kdu_collect (A:=X.A.in1) (kdl_dict (knd:=bP X.prog X.w) (kvs:=vs) (ep:=ep) hs) (I.ok.hd hc) J (by rw[c];omega) λh1 tk acc k1 a=>?_);have f:StrsAre acc.toList ns:=by
  refine nU (by rw[length_toList,a.1,c]) λi v x N Y=>?_;rw[getElem?_toList] at N;obtain⟨k,y,Z,O⟩:=a.2 i v N;obtain⟨p,e5,e6,_⟩:=rel.at Z;have P:(kvs.map (·.1))[i]?=some k:=by rw[getElem?_map,e5];exact congrArg some e6
  rw[M,getElem?_map,Y] at P;have e8:k=Sum.inr x:=(Option.some.inj P).symm;rw[e8] at O;rcases fj (show gF (Sum.inr x) v=true from O) with⟨_,_,z,_⟩|⟨x',t,z,z2⟩
  .cases z
  .cases z;exact⟨t,z2⟩
 have K:acc.toList.length<64:=by rw[length_toList,a.1,c];exact B
 refine wpAny_bind (wpAny_newList ?_);have g:(h1.push (seqObj "list" acc.toList.toArray 0)).get? h1.objs.size=some (seqObj "list" acc.toList.toArray 0):=get?_push_size _ rfl;show wpAny _ _ _ _ _ {s with heap:=h1.push (seqObj "list" acc.toList.toArray 0),toks:=tk};refine wpAny_bind (wpAny_holding (wpAny_call_entry slot_list_sort ⟨_,g,rfl⟩ entry_list_sort (list_sort_treeK strKind_oneLt g f.keysOf (λR S rest e=>keyKind_strs (by rw[<-e];exact f)) K λj a1 a2=>⟨_,rfl,?_⟩) (args_list_sort _)));obtain⟨D,q1,L,q3⟩:=sorted_out_str f a1 a2;obtain⟨e,he⟩:=sortedHeap_at (out:=(arrOf j).map (·.2)) g;have kp:∀b o,s.heap.get? b=some o->(sortedHeap (h1.push (seqObj "list" acc.toList.toArray 0)) h1.objs.size acc.toList ((arrOf j).map (·.2))).get? b=some o:=λb o q=>by
  have n:=k1 b o q;rw[sortedHeap_old (ne_of_lt (lt_size n)) (by rw[size_push'];exact lt_succ_of_lt (lt_size n))];exact get?_push_of_some _ n
 have E:∀u,s.heap.get? h1.objs.size≠some u:=λu z=>lt_irrefl _ (lt_size (k1 _ _ z));have T:H h1.objs.size=none:=by
  cases e0:H h1.objs.size with
  |none=>rfl
  |some o=>
   obtain⟨u,z⟩:=(I.hok _ _ e0).obj;exact absurd z (E u)
 refine wpAny_pure ⟨_,rfl,.ref h1.objs.size,upd H h1.objs.size (.lst (D.map V.str)),?_,rfl,q _ D T (rK (rF q3) (L.nodup_iff.mpr G)) λx=>L.mem_iff⟩;refine I.mL (t':=tk) kp (iw.new T _) λb o F=>?_;by_cases n:b=h1.objs.size
 .subst n
  rw[cj] at F;cases F;refine .inr ⟨E,?_⟩;refine⟨by rw[length_map,L.length_eq];exact le_of_lt (lt_of_lt_of_le B (by decide)),((arrOf j).map (·.2)).toList,e,kT q1,?_⟩;rw[toArray_toList];exact he
 .rw[aF n] at F
  exact .inl F
end
section
variable{X:Cx}
end
end L2
end
namespace MA
namespace aK
variable{N:Type}
end aK
end MA
section
open PySem PySem.Spec PyProof.Rows
namespace DP
open L2
inductive D where
 |ak|bl (b:Bool)|int (i:Int)|str (x:Str)|tup (xs:List D)|ref (r:Nat)|fl (xs:List Int)|exc (c:Str)
inductive C where
 |lst (xs:List D)|dct (kvs:List (Key×D))|aS (o:Obj) (kvs:List (Key×D))|ins (cl:Str) (fs:List (Str×D))
abbrev Ar:=List C
abbrev Io:=Nat->Addr
section
variable(mg:ah)
mutual
def RV(ι:Io)(n:Nat)(H:Hp):D->V->Prop
 |.ak,v=>v=.ak
 |.bl b,v=>v=.bl b
 |.int i,v=>v=.int i
 |.str x,v=>v=.str x
 |.tup ds,v=>∃a xs,v=.ref a/\H a=some (.tup xs)/\af ι n H ds xs
 |.ref r,v=>r<n/\v=.ref (ι r)
 |.fl ns,v=>∃a o,v=.ref a/\H a=some (.aP o (.lst (ns.map V.int)))
 |.exc c,v=>∃a C,v=.ref a/\mg c=some (.ref C)/\H a=some (DH a C)
def af(ι:Io)(n:Nat)(H:Hp):List D->List V->Prop
 |[],xs=>xs=[]
 |d::ds,xs=>∃x r,xs=x::r/\RV ι n H d x/\af ι n H ds r
end
def RK(ι:Io)(n:Nat)(H:Hp):List (Key×D)->List (Key×V)->Prop
 |[],xs=>xs=[]
 |p::ds,xs=>∃x r,xs=(p.1,x)::r/\RV mg ι n H p.2 x/\RK ι n H ds r
def RF(ι:Io)(n:Nat)(H:Hp):List (Str×D)->List (Str×V)->Prop
 |[],xs=>xs=[]
 |p::ds,xs=>∃x r,xs=(p.1,x)::r/\RV mg ι n H p.2 x/\RF ι n H ds r
def CO(ι:Io)(n:Nat)(H:Hp)(a:Addr):C->Prop
 |.lst ds=>∃xs,H a=some (.lst xs)/\af mg ι n H ds xs
 |.dct kvs=>∃xs,H a=some (.dK xs)/\RK mg ι n H kvs xs
 |.aS o kvs=>∃xs,H a=some (.aP o (.dK xs))/\RK mg ι n H kvs xs
 |.ins cl fs=>∃Cc dx xs,mg cl=some (.ref Cc)/\H a=some (.ins Cc dx xs)/\RF mg ι n H fs xs
structure RA(ι:Io)(H:Hp)(A:Ar):Prop where
 d7:∀r c,A[r]? =some c->CO mg ι A.length H (ι r) c
 inj:∀r q,r<A.length->q<A.length->ι r=ι q->r=q
end
def fk:HO->Bool
 |.lst _|.dK _|.aP _ (.dK _)|.ins _ _ _=>true
 |_=>false
structure Ext(A:Ar)(ι:Io)(H:Hp)(A':Ar)(ι':Io)(H':Hp):Prop where
 len:A.length<=A'.length
 ag:∀r,r<A.length->ι' r=ι r
 im:∀r,r<A.length->∃o,H (ι r)=some o/\fk o=true
 mo:∀b o,H b=some o->(∀r,r<A.length->ι r≠b)->H' b=some o
 nw:∀r,A.length<=r->r<A'.length->H (ι' r)=none
 al:∀b o,H b=some o->∃o',H' b=some o'
theorem Ext.fix{A A':Ar}{ι ι':Io}{H H':Hp}(e:Ext A ι H A' ι' H'){b:Addr}{o:HO}(a:fk o=false)(h:H b=some o):H' b=some o:=e.mo b o h λr c z=>by
 obtain⟨u,h1,h2⟩:=e.im r c;rw[z,h] at h1;cases h1;rw[a] at h2;cases h2
theorem Ext.trans{A g i:Ar}{ι e d:Io}{H H1 H2:Hp}(a:Ext A ι H g e H1)(b:Ext g e H1 i d H2):Ext A ι H i d H2 where
 len:=le_trans a.len b.len
 ag:=λr h=>(b.ag r (lt_of_lt_of_le h a.len)).trans (a.ag r h)
 im:=a.im
 mo:=λc o h j=>b.mo c o (a.mo c o h j) λr l z=>by
  by_cases f:r<A.length
  .rw[a.ag r f] at z;exact j r f z
  .have:=a.nw r (by omega) l
   rw[z,h] at this;cases this
 nw:=λr h1 h2=>by
  by_cases f:r<g.length
  .rw[b.ag r f];exact a.nw r h1 f
  .have k:=b.nw r (by omega) h2
   cases q:H (d r) with
   |none=>rfl
   |some o=>
    obtain⟨o',h'⟩:=a.al _ o q
    rw[h'] at k;cases k
 al:=λc o h=>by
  obtain⟨m,h1⟩:=a.al c o h
  exact b.al c m h1
section
variable{mg:ah}{A A':Ar}{ι ι':Io}{H H':Hp}
section
variable{n n':Nat}
mutual
theorem RV.ag(k:n<=n')(e:∀r,r<n->ι' r=ι r)(i:∀b o,fk o=false->H b=some o->H' b=some o):∀(d:D) (v:V),RV mg ι n H d v->RV mg ι' n' H' d v
 |.ak,_,h=>h
 |.bl _,_,h=>h
 |.int _,_,h=>h
 |.str _,_,h=>h
 |.tup ds,v,h=>by
  obtain⟨a,xs,f,g,j⟩:=h;exact⟨a,xs,f,i _ _ rfl g,af.ag k e i ds xs j⟩
 |.ref r,v,h=>⟨lt_of_lt_of_le h.1 k,by rw[e r h.1];exact h.2⟩
 |.fl ns,v,h=>by
  obtain⟨a,o,f,g⟩:=h;exact⟨a,o,f,i _ _ rfl g⟩
 |.exc c,v,h=>by
  obtain⟨a,C,f,g,j⟩:=h;exact⟨a,C,f,g,i _ _ rfl j⟩
theorem af.ag(c:n<=n')(a:∀r,r<n->ι' r=ι r)(e:∀b o,fk o=false->H b=some o->H' b=some o):∀(ds:List D) (vs:List V),af mg ι n H ds vs->af mg ι' n' H' ds vs
 |[],_,h=>h
 |d::ds,vs,h=>by
  obtain⟨x,r,f,g,i⟩:=h;exact⟨x,r,f,RV.ag c a e d x g,af.ag c a e ds r i⟩
end
theorem RK.ag(c:n<=n')(a:∀r,r<n->ι' r=ι r)(e:∀b o,fk o=false->H b=some o->H' b=some o):∀(ds:List (Key×D)) (vs:List (Key×V)),RK mg ι n H ds vs->RK mg ι' n' H' ds vs
 |[],_,h=>h
 |d::ds,vs,h=>by
  obtain⟨x,r,f,g,i⟩:=h;exact⟨x,r,f,RV.ag c a e _ x g,RK.ag c a e ds r i⟩
theorem RF.ag(c:n<=n')(a:∀r,r<n->ι' r=ι r)(e:∀b o,fk o=false->H b=some o->H' b=some o):∀(ds:List (Str×D)) (vs:List (Str×V)),RF mg ι n H ds vs->RF mg ι' n' H' ds vs
 |[],_,h=>h
 |d::ds,vs,h=>by
  obtain⟨x,r,f,g,i⟩:=h;exact⟨x,r,f,RV.ag c a e _ x g,RF.ag c a e ds r i⟩
theorem CO.ag{a:Addr}(g:n<=n')(d:∀r,r<n->ι' r=ι r)(i:∀b o,fk o=false->H b=some o->H' b=some o)(j:∀o,H a=some o->H' a=some o):∀(c:C),CO mg ι n H a c->CO mg ι' n' H' a c
 |.lst ds,h=>by
  obtain⟨xs,e,f⟩:=h;exact⟨xs,j _ e,af.ag g d i ds xs f⟩
 |.dct ds,h=>by
  obtain⟨xs,e,f⟩:=h;exact⟨xs,j _ e,RK.ag g d i ds xs f⟩
 |.aS o ds,h=>by
  obtain⟨xs,e,f⟩:=h;exact⟨xs,j _ e,RK.ag g d i ds xs f⟩
 |.ins cl ds,h=>by
  obtain⟨k,dx,xs,l,e,f⟩:=h;exact⟨k,dx,xs,l,j _ e,RF.ag g d i ds xs f⟩
end
theorem RV.ext(e:Ext A ι H A' ι' H')(d:D)(v:V)(h:RV mg ι A.length H d v):RV mg ι' A'.length H' d v:=RV.ag e.len e.ag (λ_ _ m h=>e.fix m h) d v h
theorem af.ext(e:Ext A ι H A' ι' H')(d:List D)(v:List V)(h:af mg ι A.length H d v):af mg ι' A'.length H' d v:=af.ag e.len e.ag (λ_ _ m h=>e.fix m h) d v h
theorem RK.ext(e:Ext A ι H A' ι' H')(d:List (Key×D))(v:List (Key×V))(h:RK mg ι A.length H d v):RK mg ι' A'.length H' d v:=RK.ag e.len e.ag (λ_ _ m h=>e.fix m h) d v h
theorem CO.ext{a:Addr}(e:Ext A ι H A' ι' H')(b:∀o,H a=some o->H' a=some o)(c:C)(h:CO mg ι A.length H a c):CO mg ι' A'.length H' a c:=CO.ag (a:=a) (H:=H) (H':=H') e.len e.ag (λ_ _ m h=>e.fix m h) b c h
theorem af.length:∀{ds:List D} {vs:List V} {n:Nat},af mg ι n H ds vs->ds.length=vs.length
 |[],vs,_,h=>by have h':vs=[]:=h;rw[h'];rfl
 |d::ds,vs,n,h=>by
  obtain⟨x,r,rfl,_,a⟩:=h;simp[af.length a]
theorem af.get:∀{ds:List D} {vs:List V} {n i:Nat} {d:D},af mg ι n H ds vs->ds[i]?=some d->∃v,vs[i]?=some v/\RV mg ι n H d v
 |[],_,_,_,_,_,e=>by simp at e
 |d::ds,vs,n,0,d',h,e=>by
  obtain⟨x,r,rfl,a,_⟩:=h;simp at e;subst e;exact⟨x,rfl,a⟩
 |d::ds,vs,n,i+1,d',h,e=>by
  obtain⟨x,r,rfl,_,b⟩:=h;obtain⟨v,h1,h2⟩:=af.get (i:=i) b (by simpa using e);exact⟨v,by simpa using h1,h2⟩
theorem af.app:∀{ds es:List D} {vs ws:List V} {n:Nat},af mg ι n H ds vs->af mg ι n H es ws->af mg ι n H (ds++es) (vs++ws)
 |[],_,vs,_,_,h,q=>by have h':vs=[]:=h;rw[h'];exact q
 |d::ds,es,vs,ws,n,h,q=>by
  obtain⟨x,r,rfl,a,b⟩:=h;exact⟨x,r++ws,rfl,a,af.app b q⟩
theorem af.take:∀{ds:List D} {vs:List V} {n:Nat} (k:Nat),af mg ι n H ds vs->af mg ι n H (ds.take k) (vs.take k)
 |ds,vs,n,0,h=>by simp[af]
 |[],vs,n,k+1,h=>by have h':vs=[]:=h;rw[h'];simp[af]
 |d::ds,vs,n,k+1,h=>by
  obtain⟨x,r,rfl,a,b⟩:=h;exact⟨x,r.take k,rfl,a,af.take k b⟩
theorem af.drop:∀{ds:List D} {vs:List V} {n:Nat} (k:Nat),af mg ι n H ds vs->af mg ι n H (ds.drop k) (vs.drop k)
 |ds,vs,n,0,h=>by simpa using h
 |[],vs,n,k+1,h=>by have h':vs=[]:=h;rw[h'];simp[af]
 |d::ds,vs,n,k+1,h=>by
  obtain⟨x,r,rfl,b,a⟩:=h;exact af.drop k a
theorem RA.im(R:RA mg ι H A):∀r,r<A.length->∃o,H (ι r)=some o/\fk o=true:=λr h=>by
 obtain⟨c',b⟩:∃c',A[r]?=some c':=⟨A[r],by rw[getElem?_eq_getElem h]⟩;have:=R.d7 r c' b;cases c' with
 |lst ds=>obtain⟨xs,a,_⟩:=this;exact⟨_,a,rfl⟩
 |dct ds=>obtain⟨xs,a,_⟩:=this;exact⟨_,a,rfl⟩
 |aS o ds=>obtain⟨xs,a,_⟩:=this;exact⟨_,a,rfl⟩
 |ins cl ds=>obtain⟨c,dx,xs,_,a,_⟩:=this;exact⟨_,a,rfl⟩
theorem RA.refl(R:RA mg ι H A):Ext A ι H A ι H:=⟨le_refl _,λ_ _=>rfl,R.im,λ_ _ h _=>h,λr h1 h2=>absurd h2 (by omega),λ_ o h=>⟨o,h⟩⟩
theorem RA.lW(R:RA mg ι H A){p:Addr}{o:HO}(a:H p=none):Ext A ι H A ι (upd H p o):=
 ⟨le_refl _,λ_ _=>rfl,R.im,λb u h _=>by rw[aF (bG h a)];exact h,λr h1 h2=>absurd h2 (by omega),λb u h=>⟨u,by rw[aF (bG h a)];exact h⟩⟩
theorem RA.pZ(R:RA mg ι H A){p:Addr}{o:HO}{c:C}(a:H p=none):Ext A ι H (A++[c]) (λr=>if r=A.length then p else ι r) (upd H p o):=
 ⟨by simp,λr h=>by
  show(if r=A.length then p else ι r)=ι r;rw[if_neg (by omega)],R.im,λb u h _=>by rw[aF (bG h a)];exact h,λr h1 h2=>by
  have e:r=A.length:=by simp at h2;omega
  show H (if r=A.length then p else ι r)=none;rw[if_pos e];exact a,λb u h=>⟨u,by rw[aF (bG h a)];exact h⟩⟩
theorem RA.i8(R:RA mg ι H A){r:Nat}{o:HO}{c:C}(d:r<A.length):Ext A ι H (A.set r c) ι (upd H (ι r) o):=
 ⟨by simp,λ_ _=>rfl,R.im,λb u h f=>by rw[aF (λe=>f r d e.symm)];exact h,λq h1 h2=>absurd h2 (by simp;omega),λb u h=>by
  by_cases a:b=ι r
  .subst a;exact⟨o,cj⟩
  .exact⟨u,by rw[aF a];exact h⟩⟩
theorem RA.fix(R:RA mg ι H A)(e:Ext A ι H A ι H')(k:∀b o,H b=some o->H' b=some o):RA mg ι H' A:=⟨λr c h=>CO.ext e (λo q=>k _ o q) c (R.d7 r c h),R.inj⟩
theorem RA.push{p:Addr}{o:HO}{c:C}(R:RA mg ι H A)(e:H p=none)(hc:CO mg (λr=>if r=A.length then p else ι r) (A.length+1) (upd H p o) p c):
  RA mg (λr=>if r=A.length then p else ι r) (upd H p o) (A++[c])/\Ext A ι H (A++[c]) (λr=>if r=A.length then p else ι r) (upd H p o):=by
 have E:Ext A ι H (A++[c]) (λr=>if r=A.length then p else ι r) (upd H p o):=R.pZ e;have i:∀r,r<A.length->∃u,H (ι r)=some u:=λr h=>by
  obtain⟨c',f⟩:∃c',A[r]?=some c':=⟨A[r],by rw[getElem?_eq_getElem h]⟩;have:=R.d7 r c' f;cases c' with
  |lst ds=>obtain⟨xs,b,_⟩:=this;exact⟨_,b⟩
  |dct ds=>obtain⟨xs,b,_⟩:=this;exact⟨_,b⟩
  |aS o ds=>obtain⟨xs,b,_⟩:=this;exact⟨_,b⟩
  |ins cl ds=>obtain⟨l,dx,xs,_,b,_⟩:=this;exact⟨_,b⟩
 refine⟨⟨λr c' h=>?_,λr q g j h=>?_⟩,E⟩
 .by_cases g:r<A.length
  .rw[getElem?_append_left g] at h
   have:=CO.ext E (a:=ι r) (λo' q=>by rw[aF (bG q e)];exact q) c' (R.d7 r c' h);show CO mg _ _ _ (if r=A.length then p else ι r) c';rw[if_neg (by omega)];exact this
  .have k:r=A.length:=by
    have:=(List.getElem?_eq_some_iff.mp h).1;simp at this;omega
   subst k;simp at h;subst h;show CO mg _ _ _ (if A.length=A.length then p else ι A.length) c;rw[if_pos rfl];simpa using hc
 .simp at g j
  have h':(if r=A.length then p else ι r)=(if q=A.length then p else ι q):=h;by_cases h1:r=A.length
  .by_cases h2:q=A.length
   .rw[h1,h2]
   .rw[if_pos h1,if_neg h2] at h'
    obtain⟨u,d⟩:=i q (by omega);rw[<-h',e] at d;cases d
  .by_cases h2:q=A.length
   .rw[if_neg h1,if_pos h2] at h'
    obtain⟨u,d⟩:=i r (by omega);rw[h',e] at d;cases d
   .rw[if_neg h1,if_neg h2] at h'
    exact R.inj r q (by omega) (by omega) h'
theorem RA.put{r:Nat}{u o:HO}{c c':C}(R:RA mg ι H A)(i:A[r]?=some c)(m:H (ι r)=some u)(n:fk u=true)(hc:CO mg ι A.length (upd H (ι r) o) (ι r) c'):
  RA mg ι (upd H (ι r) o) (A.set r c')/\Ext A ι H (A.set r c') ι (upd H (ι r) o):=by
 have f:=(List.getElem?_eq_some_iff.mp i).1;have E:Ext A ι H (A.set r c') ι (upd H (ι r) o):=R.i8 f;refine⟨⟨λq d h=>?_,λa b j k=>R.inj a b (by simpa using j) (by simpa using k)⟩,E⟩;by_cases g:q=r
 .subst g
  rw[getElem?_set_self f] at h;cases h;simpa using hc
 .rw[getElem?_set_ne (Ne.symm g)] at h
  have l:=(List.getElem?_eq_some_iff.mp h).1;have:=CO.ext E (a:=ι q) (λo' z=>by rw[aF (λe=>g (R.inj q r l f e))];exact z) d (R.d7 q d h);simpa using this
end
abbrev aV:=List (Option D)
def lk:aV->Nat->Option D
 |[],_=>none
 |x::_,0=>x
 |_::r,i+1=>lk r i
theorem mJ:∀(τ:aV) (i:Nat),lk τ i=(τ[i]?).join
 |[],i=>by simp[lk]
 |x::r,0=>by simp[lk]
 |x::r,i+1=>by simp[lk,mJ r i]
structure En where
 A:Ar
 ι:Io
 H:Hp
structure RS(mg:ah)(ι:Io)(n:Nat)(H:Hp)(τ:aV)(σ:L2.St):Prop where
 len:τ.length=σ.length
 at':∀i d,lk τ i=some d->∃v,σ[i]?=some (some v)/\RV mg ι n H d v
structure bR(mg:ah)(N:En)(A:Ar)(ι:Io)(τ:aV)(σ:L2.St)(H:Hp):Prop where
 ra:RA mg ι H A
 rs:RS mg ι A.length H τ σ
 ex:Ext N.A N.ι N.H A ι H
abbrev DK:=D->Ar->Prop
abbrev ao:=aV->Ar->DK->Prop
abbrev cE:=aV->Ar->(Bool->Ar->Prop)->Prop
abbrev bB:=aV->Ar->(List D->Ar->Prop)->Prop
def Kt(mg:ah)(A:Ar)(ι:Io)(H:Hp)(R:DK)(Q:VK):Prop:=∀v A' ι' H' u,R v A'->Ext A ι H A' ι' H'->RA mg ι' H' A'->RV mg ι' A'.length H' v u->Q u H'
def iR(mg:ah)(A:Ar)(ι:Io)(H:Hp)(R:Bool->Ar->Prop)(Q:Bool->Hp->Prop):Prop:=∀v A' ι' H',R v A'->Ext A ι H A' ι' H'->RA mg ι' H' A'->Q v H'
def Bc(mg:ah)(A:Ar)(ι:Io)(H:Hp)(R:List D->Ar->Prop)(Q:List V->Hp->Prop):Prop:=∀v A' ι' H' u,R v A'->Ext A ι H A' ι' H'->RA mg ι' H' A'->af mg ι' A'.length H' v u->Q u H'
def up(mg:ah)(N:En)(m:ao):TE:=λσ H Q=>∃A ι τ R,bR mg N A ι τ σ H/\m τ A R/\Kt mg A ι H R Q
def bF(mg:ah)(N:En)(m:cE):TT:=λσ H Q=>∃A ι τ R,bR mg N A ι τ σ H/\m τ A R/\iR mg A ι H R Q
def c8(mg:ah)(N:En)(m:bB):TA:=λσ H Q=>∃A ι τ R,bR mg N A ι τ σ H/\m τ A R/\Bc mg A ι H R Q
section
variable{mg:ah}{N:En}{A A':Ar}{ι ι':Io}{τ:aV}{σ:L2.St}{H H':Hp}
theorem RS.ext(e:Ext A ι H A' ι' H')(r:RS mg ι A.length H τ σ):RS mg ι' A'.length H' τ σ:=⟨r.len,λi d h=>by
 obtain⟨v,h1,h2⟩:=r.at' i d h;exact⟨v,h1,RV.ext e d v h2⟩⟩
theorem bR.next(S:bR mg N A ι τ σ H)(e:Ext A ι H A' ι' H')(r:RA mg ι' H' A'):bR mg N A' ι' τ σ H':=⟨r,S.rs.ext e,S.ex.trans e⟩
theorem Kt.from{R:DK}{Q:VK}(k:Kt mg A ι H R Q)(e:Ext A ι H A' ι' H'):Kt mg A' ι' H' R Q:=λv b a H2 u q c=>k v b a H2 u q (e.trans c)
theorem iR.from{R:Bool->Ar->Prop}{Q:Bool->Hp->Prop}(k:iR mg A ι H R Q)(e:Ext A ι H A' ι' H'):iR mg A' ι' H' R Q:=λv b a H2 q c=>k v b a H2 q (e.trans c)
theorem Kt.here{R:DK}{Q:VK}{d:D}{v:V}(k:Kt mg A ι H R Q)(r:RA mg ι H A)(q:R d A)(h:RV mg ι A.length H d v):Q v H:=k d A ι H v q r.refl r h
theorem iR.here{R:Bool->Ar->Prop}{Q:Bool->Hp->Prop}{b:Bool}(k:iR mg A ι H R Q)(r:RA mg ι H A)(q:R b A):Q b H:=k b A ι H q r.refl r
end
section
variable{X:Cx}{e:Expr}
theorem bX{t t':TE}(h:PE X e t)(w:∀σ H Q,t' σ H Q->t σ H Q):PE X e t':=λpins s σ H Q I q=>h pins s σ H Q I (w σ H Q q)
theorem lS{t t':TT}(h:PT X e t)(w:∀σ H Q,t' σ H Q->t σ H Q):PT X e t':=λpins s σ H Q I q=>h pins s σ H Q I (w σ H Q q)
theorem u5{t t':TT}(h:PW X e t)(w:∀σ H Q,t' σ H Q->t σ H Q):PW X e t':=λwhole pins s σ H Q I q=>h whole pins s σ H Q I (w σ H Q q)
theorem uD{es:List Expr}{t t':TA}(h:PA X es t)(w:∀σ H Q,t' σ H Q->t σ H Q):PA X es t':=λpos pins s σ H Q I q=>h pos pins s σ H Q I (w σ H Q q)
theorem fM{st:Stmt}{t t':TS}(h:PS X st t)(w:∀D σ H,t' D σ H->t D σ H):PS X st t':=λpins s σ H D I q=>h pins s σ H D I (w D σ H q)
theorem u0{st:List Stmt}{t t':TS}(h:bU X st t)(w:∀D σ H,t' D σ H->t D σ H):bU X st t':=λpins s σ H D I q=>h pins s σ H D I (w D σ H q)
end
def dO(i:Nat):ao:=λτ A R=>match lk τ i with
 |some v=>R v A
 |none=>False
def dC(d:D):ao:=λ_ A R=>R d A
section
variable{X:Cx}{N:En}{pos:Pos}
theorem C0{i:Nat}{x:Str}(b:X.N[i]?=some x)(c:iS X.env.scope x)(hd:(x==("__debug__":Str))=false:=by decide)(a:(x==("__classdict__":Str))=false:=by decide):PE X (.Name x pos) (up X.mg N (dO i)):=
 bX (IL b c hd a) λσ H Q h=>by
  obtain⟨A,ι,τ,R,S,h,k⟩:=h;unfold dO at h;split at h
  .rename_i v e
   obtain⟨u,h1,h2⟩:=S.rs.at' i v e;exact⟨u,h1,k.here S.ra h h2⟩
  .exact h.elim
theorem jK{e:Expr}{d:D}{v:V}(h:PE X e (tC v))(r:∀ι n H,RV X.mg ι n H d v):PE X e (up X.mg N (dC d)):=
 bX h λσ H Q h=>by
  obtain⟨A,ι,τ,R,S,h,k⟩:=h;exact k.here S.ra h (r _ _ _)
theorem aq{i j}:PE X (.Constant (.int i) j pos) (up X.mg N (dC (.int i))):=jK IA λ_ _ _=>rfl
theorem eY{b j}:PE X (.Constant (.bool b) j pos) (up X.mg N (dC (.bl b))):=jK Ij λ_ _ _=>rfl
theorem uK{j}:PE X (.Constant .none j pos) (up X.mg N (dC .ak)):=jK ID λ_ _ _=>rfl
theorem b9{x j}:PE X (.Constant (.str x) j pos) (up X.mg N (dC (.str x))):=jK IJ λ_ _ _=>rfl
theorem jL{x:Str}{i:Int}{t:Tok}(a:X.mg x=some (.int i t))(b:Gl X x:=by rfl)(hd:(x==("__debug__":Str))=false:=by decide):PE X (.Name x pos) (up X.mg N (dC (.int i))):=
 jK (Iw (v:=.int i) b a ⟨_,rfl⟩ hd) λ_ _ _=>rfl
end
abbrev cu:=D->D->Ar->DK->Prop
def bZ(mg:ah)(r:R2)(f:cu):Prop:=∀x y A ι H u v R Q,RA mg ι H A->RV mg ι A.length H x u->RV mg ι A.length H y v->f x y A R->Kt mg A ι H R Q->r u v H Q
def b5(f:cu)(ma mb:ao):ao:=λτ A R=>ma τ A λx A1=>mb τ A1 λy A2=>f x y A2 R
section
variable{X:Cx}{N:En}{pos:Pos}{a b c:Expr}{ma mb mc:ao}{f f':cu}{r r':R2}
theorem n8(h:bZ X.mg r f){σ:L2.St}{H:Hp}{Q:VK}(q:up X.mg N (b5 f ma mb) σ H Q):kK r (up X.mg N ma) (up X.mg N mb) σ H Q:=by
 obtain⟨A,ι,τ,R,S,q,k⟩:=q;have q:ma τ A (λx a=>mb τ a λy b=>f x y b R):=q;refine⟨A,ι,τ,_,S,q,λx a c H1 u i e j l=>?_⟩;refine⟨a,c,τ,_,S.next e j,i,λy b d H2 v m g n v2=>?_⟩;exact h x y b d H2 u v R Q n (RV.ext g x u l) v2 m (k.from (e.trans g))
theorem i6{op:Operator}(c:aM X (binaryOp op) r)(hd:bZ X.mg r f)(d:PE X a (up X.mg N ma))(e:PE X b (up X.mg N mb)):PE X (.BinOp a op b pos) (up X.mg N (b5 f ma mb)):=
 bX (IF c d e) λ_ _ _ h=>n8 hd h
theorem uG{op:CmpOp}(c:aM X (compareOp op) r)(hd:bZ X.mg r f)(d:PE X a (up X.mg N ma))(e:PE X b (up X.mg N mb))(g:behindInMarks op b=false):PE X (.Compare a [op] [b] pos) (up X.mg N (b5 f ma mb)):=
 bX (Ir c d e g) λ_ _ _ h=>n8 hd h
def d9(m:ao):cE:=λτ A R=>m τ A λx A1=>match x with
 |.bl k=>R k A1
 |_=>False
theorem rY{t:TE}{m:ao}(d:∀σ H Q,up X.mg N m σ H Q->t σ H Q){σ:L2.St}{H:Hp}{Q:Bool->Hp->Prop}(q:bF X.mg N (d9 m) σ H Q):rP t σ H Q:=by
 obtain⟨A,ι,τ,R,S,q,k⟩:=q;refine d _ _ _ ⟨A,ι,τ,_,S,q,λx e a H1 u c f g h=>?_⟩;cases x with
 |bl b=>exact⟨b,h,k b e a H1 c f g⟩
 |_=>exact c.elim
theorem gY{op:CmpOp}(c:aM X (compareOp op) r)(hd:bZ X.mg r f)(d:PE X a (up X.mg N ma))(e:PE X b (up X.mg N mb))(g:behindInMarks op b=false):PT X (.Compare a [op] [b] pos) (bF X.mg N (d9 (b5 f ma mb))):=
 lS (Jq c d e g) λ_ _ _ h=>rY (λ_ _ _ h=>n8 hd h) h
def jI(f f':cu)(ma mb mc:ao):ao:=λτ A R=>ma τ A λx A1=>mb τ A1 λy A2=>f x y A2 λz A3=>match z with
 |.bl k=>cond k (mc τ A3 λw A4=>f' y w A4 R) (R (.bl false) A3)
 |_=>False
theorem Aj(h:bZ X.mg r f)(h':bZ X.mg r' f'){σ:L2.St}{H:Hp}{Q:VK}(q:up X.mg N (jI f f' ma mb mc) σ H Q):rM r r' (up X.mg N ma) (up X.mg N mb) (up X.mg N mc) σ H Q:=by
 obtain⟨A,ι,τ,R,S,q,k⟩:=q;refine⟨A,ι,τ,_,S,q,λx s e H1 u t a m B=>?_⟩;refine⟨s,e,τ,_,S.next a m,t,λy C g H2 v D c n v2=>?_⟩;refine h x y C g H2 u v _ _ n (RV.ext c x u B) v2 D λz E i L w j d o F=>?_;cases z with
 |bl b=>
  refine⟨b,F,?_⟩;cases b with
  |true=>
   rw[if_pos rfl];refine⟨E,i,τ,_,((S.next a m).next c n).next d o,j,λz G l I w J p K v4=>?_⟩;exact h' y z G l I v w R Q K (RV.ext (d.trans p) y v v2) v4 J (k.from (((a.trans c).trans d).trans p))
  |false=>
   rw[if_neg Bool.false_ne_true];exact(k.from ((a.trans c).trans d)).here o j rfl
 |_=>exact j.elim
theorem CM{op d:CmpOp}(i:aM X (compareOp op) r)(e:aM X (compareOp d) r')(hd:bZ X.mg r f)(g:bZ X.mg r' f')(j:PE X a (up X.mg N ma))(k:PE X b (up X.mg N mb))(hc:PE X c (up X.mg N mc))
  (l:lastMarks [op,d] [b,c]=false:=by with_unfolding_all rfl):PE X (.Compare a [op,d] [b,c] pos) (up X.mg N (jI f f' ma mb mc)):=
 bX (Iq i e j k hc l) λ_ _ _ h=>Aj hd g h
theorem Dg{op d:CmpOp}(i:aM X (compareOp op) r)(e:aM X (compareOp d) r')(hd:bZ X.mg r f)(g:bZ X.mg r' f')(j:PE X a (up X.mg N ma))(k:PE X b (up X.mg N mb))(hc:PE X c (up X.mg N mc))
  (l:lastMarks [op,d] [b,c]=false:=by with_unfolding_all rfl):PT X (.Compare a [op,d] [b,c] pos) (bF X.mg N (d9 (jI f f' ma mb mc))):=
 lS (Jp i e j k hc l) λ_ _ _ h=>rY (λ_ _ _ h=>Aj hd g h) h
theorem fc{m:ao}(h:PE X a (up X.mg N m))(b:∀whole,isTrue a X.env whole=(do let v <-whole;standAt a.pos;holding [v] (truthy v)):=by intro _;rfl):PT X a (bF X.mg N (d9 m)):=
 lS (Js h b) λ_ _ _ q=>rY (λ_ _ _ h=>h) q
def B9(t u:cE):cE:=λτ A R=>t τ A λc A1=>cond c (u τ A1 R) (R false A1)
def Ci(t u:cE):cE:=λτ A R=>t τ A λc A1=>cond c (R true A1) (u τ A1 R)
def Cg(t:cE):cE:=λτ A R=>t τ A λc A1=>R (!c) A1
variable{tA tB:cE}{rest:List Expr}
theorem pS(b:PT X a (bF X.mg N tA)):PW X (.BoolOp .And [a] pos) (bF X.mg N tA):=pw_and1 b
theorem gy(b:PT X a (bF X.mg N tA)):PW X (.BoolOp .Or [a] pos) (bF X.mg N tA):=pw_or1 b
theorem pR(g:PT X a (bF X.mg N tA))(h:PW X (.BoolOp .And (b::rest) pos) (bF X.mg N tB)):PW X (.BoolOp .And (a::b::rest) pos) (bF X.mg N (B9 tA tB)):=
 u5 (pw_and g h) λσ H Q q=>by
  obtain⟨A,ι,τ,R,S,q,k⟩:=q;refine⟨A,ι,τ,_,S,q,λx i c H1 e d f=>?_⟩;cases x with
  |true=>rw[if_pos rfl];exact⟨i,c,τ,_,S.next d f,e,k.from d⟩
  |false=>rw[if_neg Bool.false_ne_true];exact(k.from d).here f e
theorem fN(g:PT X a (bF X.mg N tA))(h:PW X (.BoolOp .Or (b::rest) pos) (bF X.mg N tB)):PW X (.BoolOp .Or (a::b::rest) pos) (bF X.mg N (Ci tA tB)):=
 u5 (pw_or g h) λσ H Q q=>by
  obtain⟨A,ι,τ,R,S,q,k⟩:=q;refine⟨A,ι,τ,_,S,q,λx i c H1 e d f=>?_⟩;cases x with
  |true=>rw[if_pos rfl];exact(k.from d).here f e
  |false=>rw[if_neg Bool.false_ne_true];exact⟨i,c,τ,_,S.next d f,e,k.from d⟩
theorem e_(b:PT X a (bF X.mg N tA)):PT X (.UnaryOp .Not a pos) (bF X.mg N (Cg tA)):=
 lS (Jr b) λσ H Q q=>by
  obtain⟨A,ι,τ,R,S,q,k⟩:=q;exact⟨A,ι,τ,_,S,q,λx g c H1 d e f=>(k.from e).here f d⟩
def B_(ma mb:ao):ao:=λτ A R=>ma τ A λx A1=>match x with
 |.bl c=>cond c (mb τ A1 R) (R (.bl false) A1)
 |_=>False
theorem uL{op}(h:PE X a (up X.mg N ma)):PE X (.BoolOp op [a] pos) (up X.mg N ma):=IE h
theorem uF(h:PE X a (up X.mg N ma))(i:PE X (.BoolOp .And (b::rest) pos) (up X.mg N mb)):PE X (.BoolOp .And (a::b::rest) pos) (up X.mg N (B_ ma mb)):=
 bX (Ii h i) λσ H Q q=>by
  obtain⟨A,ι,τ,R,S,q,k⟩:=q;refine⟨A,ι,τ,_,S,q,λx j d H1 u e f g l=>?_⟩;cases x with
  |bl c=>
   refine⟨c,l,?_⟩;cases c with
   |true=>rw[if_pos rfl];exact⟨j,d,τ,_,S.next f g,e,k.from f⟩
   |false=>rw[if_neg Bool.false_ne_true];exact(k.from f).here g e rfl
  |_=>exact e.elim
def Cd(t:cE)(ma mb:ao):ao:=λτ A R=>t τ A λc A1=>cond c (ma τ A1 R) (mb τ A1 R)
theorem CS(hc:PT X c (bF X.mg N tA))(i:PE X a (up X.mg N ma))(j:PE X b (up X.mg N mb)):PE X (.IfExp c a b pos) (up X.mg N (Cd tA ma mb)):=
 bX (Iz hc i j) λσ H Q q=>by
  obtain⟨A,ι,τ,R,S,q,k⟩:=q;refine⟨A,ι,τ,_,S,q,λx f d H1 g e h=>?_⟩;cases x with
  |true=>rw[if_pos rfl];exact⟨f,d,τ,_,S.next e h,g,k.from e⟩
  |false=>rw[if_neg Bool.false_ne_true];exact⟨f,d,τ,_,S.next e h,g,k.from e⟩
end
def lH:bB:=λ_ A R=>R [] A
def jJ(m:ao)(n:bB):bB:=λτ A R=>m τ A λx A1=>n τ A1 λxs A2=>R (x::xs) A2
def Cm(n:bB):ao:=λτ A R=>n τ A λxs A1=>xs.length<=sizeLine/\R (.tup xs) A1
def Ce(n:bB):ao:=λτ A R=>n τ A λxs A1=>xs.length<=sizeLine/\R (.ref A1.length) (A1++[.lst xs])
section
variable{X:Cx}{N:En}{pos:Pos}{e:Expr}{es:List Expr}{m:ao}{n:bB}
theorem ai:PA X [] (c8 X.mg N lH):=uD xU λσ H Q q=>by
 obtain⟨A,ι,τ,R,S,q,k⟩:=q;exact k [] A ι H [] q S.ra.refl S.ra rfl
theorem aa(f:PE X e (up X.mg N m))(g:PA X es (c8 X.mg N n))(hs:starEach (e::es) X.env=(false,eval e X.env)::starEach es X.env:=by rfl):PA X (e::es) (c8 X.mg N (jJ m n)):=
 uD (qU f g hs) λσ H Q q=>by
  obtain⟨A,ι,τ,R,S,q,k⟩:=q;refine⟨A,ι,τ,_,S,q,λx h a H1 u i c j l=>?_⟩;refine⟨h,a,τ,_,S.next c j,i,λy o b H2 v p d r v2=>?_⟩;exact k _ o b H2 _ p (c.trans d) r ⟨u,v,rfl,RV.ext d x u l,v2⟩
theorem j7{mg:ah}{A:Ar}{ι:Io}{H:Hp}{R:DK}{Q:VK}{ds:List D}{xs:List V}{p:Addr}(k:Kt mg A ι H R Q)(r:RA mg ι H A)(h:af mg ι A.length H ds xs)(q:R (.tup ds) A)(a:H p=none):Q (.ref p) (upd H p (.tup xs)):=by
 have E:Ext A ι H A ι (upd H p (.tup xs)):=r.lW a;exact k _ A ι _ _ q E (r.fix E λb o z=>by rw[aF (bG z a)];exact z) ⟨p,xs,rfl,cj,af.ext E ds xs h⟩
theorem fm{mg:ah}{A:Ar}{ι:Io}{H:Hp}{R:DK}{Q:VK}{ds:List D}{xs:List V}{p:Addr}(k:Kt mg A ι H R Q)(r:RA mg ι H A)(h:af mg ι A.length H ds xs)(q:R (.ref A.length) (A++[.lst ds]))(a:H p=none):Q (.ref p) (upd H p (.lst xs)):=by
 have E:Ext A ι H (A++[.lst ds]) (λr=>if r=A.length then p else ι r) (upd H p (.lst xs)):=r.pZ a;obtain⟨b,d⟩:=r.push (c:=.lst ds) (o:=.lst xs) a ⟨xs,cj,by simpa using af.ext E ds xs h⟩;refine k _ _ _ _ _ q d b ⟨by simp,?_⟩;show V.ref p=V.ref (if A.length=A.length then p else ι A.length);rw[if_pos rfl]
theorem cY{c}(h:PA X es (c8 X.mg N n)):PE X (.Tuple es c pos) (up X.mg N (Cm n)):=bX (IK h) λσ H Q q=>by
 obtain⟨A,ι,τ,R,S,q,k⟩:=q;refine⟨A,ι,τ,_,S,q,λx i d H1 u a e f b=>?_⟩;exact⟨by rw[<-af.length b];exact a.1,λp g=>j7 (k.from e) f b a.2 g⟩
theorem dP(h:PA X es (c8 X.mg N n)):PE X (.List es pos) (up X.mg N (Ce n)):=bX (IC h) λσ H Q q=>by
 obtain⟨A,ι,τ,R,S,q,k⟩:=q;refine⟨A,ι,τ,_,S,q,λx g c H1 u a d e b=>?_⟩;exact⟨by rw[<-af.length b];exact a.1,λp f=>fm (k.from d) e b a.2 f⟩
end
section
variable{mg:ah}{K:PySem.W.Frag}{A:Ar}{ι:Io}{H:Hp}
theorem RA.lst(r:RA mg ι H A){q:Nat}{ds:List D}(h:A[q]?=some (.lst ds)):∃xs,H (ι q)=some (.lst xs)/\af mg ι A.length H ds xs:=r.d7 q _ h
theorem RA.dct(r:RA mg ι H A){q:Nat}{ds:List (Key×D)}(h:A[q]?=some (.dct ds)):∃xs,H (ι q)=some (.dK xs)/\RK mg ι A.length H ds xs:=r.d7 q _ h
theorem RA.aS(r:RA mg ι H A){q:Nat}{o:Obj}{ds:List (Key×D)}(h:A[q]?=some (.aS o ds)):∃xs,H (ι q)=some (.aP o (.dK xs))/\RK mg ι A.length H ds xs:=r.d7 q _ h
theorem af.ints:∀(ns:List Int) {n:Nat},af mg ι n H (ns.map D.int) (ns.map V.int)
 |[],_=>rfl
 |i::r,n=>⟨_,_,rfl,rfl,af.ints r⟩
theorem af.xF{n:Nat}{ds:List D}(h:af mg ι n H ds []):ds=[]:=by
 cases ds with
 |nil=>rfl
 |cons d r=>obtain⟨x,r,e,_⟩:=h;cases e
end
abbrev yu(K:PySem.W.Frag):R2:=λx y H Q=>eF (λi j=>.int (i+j)) x y H Q\/(∃i j,x=.str i/\y=.str j/\i.length+j.length<=sizeLine/\Q (.str (i++j)) H)\/yx K x y H Q\/yw x y H Q
theorem Hv{X:Cx}:aM X (binaryOp .Add) (yu X.K):=HF.or (HG.or (HJ.or HH))
@[irreducible] def lC(r q:Nat)(A:Ar)(R:DK):Prop:=match A[r]?,A[q]? with
 |some (.lst xs),some (.lst ys)=>xs.length+ys.length<=sizeLine/\R (.ref A.length) (A++[.lst (xs++ys)])
 |_,_=>False
def oW:cu:=λx y A R=>match x,y with
 |.int i,.int j=>R (.int (i+j)) A
 |.str a,.str b=>a.length+b.length<=sizeLine/\R (.str (a++b)) A
 |.tup xs,.tup ys=>xs.length+ys.length<=sizeLine/\R (.tup (xs++ys)) A
 |.ref r,.ref q=>lC r q A R
 |_,_=>False
theorem Cn{mg:ah}{K:PySem.W.Frag}:bZ mg (yu K) oW:=by
 intro x y A ι H u v R Q ra e f h k;unfold oW at h;split at h
 .cases e;cases f
  exact .inl ⟨_,_,rfl,rfl,k.here ra h rfl⟩
 .cases e;cases f
  exact .inr (.inl ⟨_,_,rfl,rfl,h.1,k.here ra h.2 rfl⟩)
 .obtain⟨a,xs,rfl,g,c⟩:=e
  obtain⟨b,ys,rfl,i,d⟩:=f;refine .inr (.inr (.inl ⟨a,b,xs,ys,rfl,rfl,aN.of g,aN.of i,by rw[<-af.length c,<-af.length d];exact h.1,λz=>?_,λ_ z=>?_,λ_ _ p j=>j7 k ra (c.app d) h.2 j⟩))
  .subst z
   obtain rfl:=af.xF c;exact k.here ra h.2 ⟨b,ys,rfl,i,d⟩
  .subst z
   obtain rfl:=af.xF d;exact k.here ra h.2 ⟨a,xs,rfl,g,by rw[append_nil];exact c⟩
 .rename_i r q
  unfold lC at h;split at h
  .rename_i xs ys g i
   obtain⟨l,h1,c⟩:=ra.lst g;obtain⟨vs,h2,d⟩:=ra.lst i;obtain⟨_,rfl⟩:=e;obtain⟨_,rfl⟩:=f;exact .inr (.inr (.inr ⟨_,_,l,vs,rfl,rfl,h1,h2,by rw[<-af.length c,<-af.length d];exact h.1,λp j=>fm k ra (c.app d) h.2 j⟩))
  .exact h.elim
 .exact h.elim
def intD(C:Int->Int->Prop)(g:Int->Int->D):cu:=λx y A R=>match x,y with
 |.int i,.int j=>C i j/\R (g i j) A
 |_,_=>False
def jS(g:Int->Int->D):cu:=λx y A R=>match x,y with
 |.int i,.int j=>R (g i j) A
 |_,_=>False
theorem lI{mg:ah}{C:Int->Int->Prop}{g:Int->Int->V}{g':Int->Int->D}(a:∀i j ι n H,RV mg ι n H (g' i j) (g i j)):bZ mg (rI C g) (intD C g'):=by
 intro x y A ι H u v R Q ra b c h k;unfold intD at h;split at h
 .cases b;cases c
  exact⟨_,_,rfl,rfl,h.1,k.here ra h.2 (a _ _ _ _ _)⟩
 .exact h.elim
theorem pH{mg:ah}{g:Int->Int->V}{g':Int->Int->D}(a:∀i j ι n H,RV mg ι n H (g' i j) (g i j)):bZ mg (eF g) (jS g'):=by
 intro x y A ι H u v R Q ra b c h k;unfold jS at h;split at h
 .cases b;cases c
  exact⟨_,_,rfl,rfl,k.here ra h (a _ _ _ _ _)⟩
 .exact h.elim
abbrev Lh:cu:=jS λi j=>.int (i - j)
abbrev G7:cu:=intD ju λi j=>.int (i*j)
abbrev C9:cu:=intD (λ_ j=>0<j/\j.natAbs.log2<9000) λi j=>.int (i/j)
abbrev G4:cu:=intD (λ_ j=>0<j) λi j=>.int (i%j)
abbrev I8:cu:=intD sq λi j=>.int (i ^ j.toNat)
section
variable{X:Cx}{N:En}{pos:Pos}{a b c:Expr}{ma mb mc:ao}
theorem d_(c:PE X a (up X.mg N ma))(d:PE X b (up X.mg N mb)):PE X (.BinOp a .Add b pos) (up X.mg N (b5 oW ma mb)):=i6 Hv Cn c d
theorem pI(c:PE X a (up X.mg N ma))(d:PE X b (up X.mg N mb)):PE X (.BinOp a .Sub b pos) (up X.mg N (b5 Lh ma mb)):=i6 Ic (pH λ_ _ _ _ _=>rfl) c d
theorem gw(c:PE X a (up X.mg N ma))(d:PE X b (up X.mg N mb)):PE X (.BinOp a .Mult b pos) (up X.mg N (b5 G7 ma mb)):=i6 HZ (lI λ_ _ _ _ _=>rfl) c d
theorem uI(c:PE X a (up X.mg N ma))(d:PE X b (up X.mg N mb)):PE X (.BinOp a .FloorDiv b pos) (up X.mg N (b5 C9 ma mb)):=i6 HP (lI λ_ _ _ _ _=>rfl) c d
theorem iZ(c:PE X a (up X.mg N ma))(d:PE X b (up X.mg N mb)):PE X (.BinOp a .Mod b pos) (up X.mg N (b5 G4 ma mb)):=i6 HY (lI λ_ _ _ _ _=>rfl) c d
theorem CV(c:PE X a (up X.mg N ma))(d:PE X b (up X.mg N mb)):PE X (.BinOp a .Pow b pos) (up X.mg N (b5 I8 ma mb)):=i6 Ib (lI λ_ _ _ _ _=>rfl) c d
end
abbrev yI:R2:=λx y H Q=>eF (λi j=>.bl (decide (i<j))) x y H Q\/∃i j,x=.str i/\y=.str j/\Q (.bl (decide (i.cps.toList<j.cps.toList))) H
abbrev yH:R2:=λx y H Q=>eF (λi j=>.bl (decide (i<=j))) x y H Q\/∃i j,x=.str i/\y=.str j/\Q (.bl (!decide (j.cps.toList<i.cps.toList))) H
theorem Hw{X:Cx}:aM X (compareOp .Lt) yI:=HW.or HX
theorem mS{X:Cx}:aM X (compareOp .LtE) yH:=HU.or HV
def qG:cu:=λx y A R=>match x,y with
 |.int i,.int j=>R (.bl (decide (i<j))) A
 |.str a,.str b=>R (.bl (decide (a.cps.toList<b.cps.toList))) A
 |_,_=>False
def je:cu:=λx y A R=>match x,y with
 |.int i,.int j=>R (.bl (decide (i<=j))) A
 |.str a,.str b=>R (.bl (!decide (b.cps.toList<a.cps.toList))) A
 |_,_=>False
theorem CA{mg:ah}:bZ mg yI qG:=by
 intro x y A ι H u v R Q ra a b h k;unfold qG at h;split at h
 .cases a;cases b;exact .inl ⟨_,_,rfl,rfl,k.here ra h rfl⟩
 .cases a;cases b;exact .inr ⟨_,_,rfl,rfl,k.here ra h rfl⟩
 .exact h.elim
theorem lJ{mg:ah}:bZ mg yH je:=by
 intro x y A ι H u v R Q ra a b h k;unfold je at h;split at h
 .cases a;cases b;exact .inl ⟨_,_,rfl,rfl,k.here ra h rfl⟩
 .cases a;cases b;exact .inr ⟨_,_,rfl,rfl,k.here ra h rfl⟩
 .exact h.elim
abbrev vP:cu:=jS λi j=>.bl (decide (j<i))
abbrev vF:cu:=jS λi j=>.bl (decide (j<=i))
theorem Cr{mg:ah}:bZ mg (eF λi j=>.bl (decide (j<i))) vP:=pH λ_ _ _ _ _=>rfl
theorem Cp{mg:ah}:bZ mg (eF λi j=>.bl (decide (j<=i))) vF:=pH λ_ _ _ _ _=>rfl
def wg:D->Bool
 |.ak=>true
 |_=>false
def qP:cu:=λx y A R=>match y with
 |.ak=>R (.bl (!wg x)) A
 |_=>False
theorem RV.Hs{mg:ah}{ι:Io}{n:Nat}{H:Hp}{x:D}{u:V}(r:RV mg ι n H x u):decide (u=.ak)=wg x:=by
 cases x with
 |ak=>cases r;rfl
 |bl b=>cases r;rfl
 |int b=>cases r;rfl
 |str b=>cases r;rfl
 |tup ds=>obtain⟨a,xs,rfl,_⟩:=r;rfl
 |ref q=>obtain⟨_,rfl⟩:=r;rfl
 |fl ns=>obtain⟨a,o,rfl,_⟩:=r;rfl
 |exc c=>obtain⟨a,C,rfl,_⟩:=r;rfl
theorem CF{mg:ah}:bZ mg (λx y H Q=>y=.ak/\Q (.bl (!decide (x=.ak))) H) qP:=by
 intro x y A ι H u v R Q ra a b h k;unfold qP at h;split at h
 .cases b
  refine⟨rfl,?_⟩;rw[a.Hs];exact k.here ra h rfl
 .exact h.elim
mutual
def toQ:D->PyData
 |.ak=>.none
 |.bl b=>.bool b
 |.int i=>.int i
 |.str x=>.str x
 |.tup xs=>.tuple (bM xs)
 |.ref _=>.none
 |.fl ns=>.list (ns.map .int)
 |.exc _=>.none
def bM:List D->List PyData
 |[]=>[]
 |d::r=>toQ d::bM r
end
mutual
def fu:D->Bool
 |.tup xs=>fy xs
 |.ref _=>false
 |.exc _=>false
 |_=>true
def fy:List D->Bool
 |[]=>true
 |d::r=>fu d&&fy r
end
def cO(A:Ar):D->PyData
 |.ref r=>match A[r]? with
  |some (.lst xs)=>.list (bM xs)
  |_=>.none
 |d=>toQ d
def iJ(A:Ar):D->Bool
 |.ref r=>match A[r]? with
  |some (.lst xs)=>fy xs
  |_=>false
 |d=>fu d
section
variable{mg:ah}{K:PySem.W.Frag}{A:Ar}{ι:Io}{H:Hp}
theorem C_:∀ns:List Int,dc K H (ns.map V.int) (ns.map PyData.int):=dc.ints
mutual
theorem RV.dp{n:Nat}:∀(d:D) (v:V),fu d=true->RV mg ι n H d v->Dp K H v (toQ d)
 |.ak,_,_,h=>by cases h;exact .ak
 |.bl b,_,_,h=>by cases h;exact .bl b
 |.int i,_,_,h=>by cases h;exact .int i
 |.str x,_,_,h=>by cases h;exact .str x
 |.tup ds,v,p,h=>by
  obtain⟨a,xs,rfl,e,r⟩:=h;exact .tup (aN.of e) (af.dp ds xs (by simpa[fu] using p) r)
 |.ref _,_,p,_=>by simp[fu] at p
 |.fl ns,v,_,h=>by
  obtain⟨a,o,rfl,e⟩:=h;exact .lst (.inl (.inr ⟨o,e⟩)) (C_ ns)
 |.exc _,_,p,_=>by simp[fu] at p
theorem af.dp{n:Nat}:∀(ds:List D) (vs:List V),fy ds=true->af mg ι n H ds vs->dc K H vs (bM ds)
 |[],vs,_,h=>by cases (show vs=[] from h);exact .nil
 |d::ds,vs,p,h=>by
  obtain⟨x,r,rfl,h1,h2⟩:=h;have a:fu d=true/\fy ds=true:=by simpa[fy] using p
  exact .cons (RV.dp d x a.1 h1) (af.dp ds r a.2 h2)
end
theorem RA.dp(ra:RA mg ι H A){d:D}{v:V}(p:iJ A d=true)(h:RV mg ι A.length H d v):Dp K H v (cO A d):=by
 cases d with
 |ref r=>
  obtain⟨_,rfl⟩:=h;unfold iJ at p;unfold cO;simp only at p ⊢;split at p
  .rename_i xs e
   obtain⟨a,h1,b⟩:=ra.lst e;exact .lst (aI.of h1) (af.dp xs a p b)
  .cases p
 |_=>exact RV.dp _ v p h
end
@[irreducible] def fY(neg:Bool)(x y:D)(A:Ar)(R:DK):Prop:=iJ A x=true/\iJ A y=true/\(cO A x).canLay0=true/\(cO A y).canLay0=true/\min (cO A x).depth (cO A y).depth<=64/\R (.bl (if neg then !PyData.eqv (cO A x) (cO A y) else PyData.eqv (cO A x) (cO A y))) A
def lU:cu:=λx y A R=>match x,y with
 |.int i,.int j=>R (.bl (decide (i=j))) A
 |.str a,.str b=>R (.bl (decide (a=b))) A
 |.bl a,.bl b=>R (.bl (decide (a=b))) A
 |x,y=>fY false x y A R
def qL:cu:=λx y A R=>match x,y with
 |.int i,.int j=>R (.bl (!decide (i=j))) A
 |.str a,.str b=>R (.bl (!decide (a=b))) A
 |.bl a,.bl b=>R (.bl (!decide (a=b))) A
 |x,y=>fY true x y A R
theorem xM{X:Cx}(a:X.A.units+64<cLine):aM X (compareOp .Eq) (λx y H Q=>q_ x y H Q\/ri X.K x y H Q):=HM.or (HN a)
theorem Hx{X:Cx}(a:X.A.units+64<cLine):aM X (compareOp .NotEq) (λx y H Q=>rm x y H Q\/rq X.K x y H Q):=H8.or (H9 a)
theorem uA{mg:ah}{K:PySem.W.Frag}:bZ mg (λx y H Q=>q_ x y H Q\/ri K x y H Q) lU:=by
 intro x y A ι H u v R Q ra a b h k;unfold lU at h;split at h
 .cases a;cases b
  rename_i i j;refine .inl ⟨rfl,?_⟩;have e:decide (V.int i=V.int j)=decide (i=j):=by simp
  rw[e];exact k.here ra h rfl
 .cases a;cases b
  rename_i i j;refine .inl ⟨rfl,?_⟩;have e:decide (V.str i=V.str j)=decide (i=j):=by simp
  rw[e];exact k.here ra h rfl
 .cases a;cases b
  rename_i i j;refine .inl ⟨rfl,?_⟩;have e:decide (V.bl i=V.bl j)=decide (i=j):=by simp
  rw[e];exact k.here ra h rfl
 .unfold fY at h
  obtain⟨p1,p2,c,d,hd,q⟩:=h;exact .inr ⟨_,_,ra.dp p1 a,ra.dp p2 b,c,d,hd,k.here ra q rfl⟩
theorem CC{mg:ah}{K:PySem.W.Frag}:bZ mg (λx y H Q=>rm x y H Q\/rq K x y H Q) qL:=by
 intro x y A ι H u v R Q ra a b h k;unfold qL at h;split at h
 .cases a;cases b
  rename_i i j;refine .inl ⟨rfl,?_⟩;have e:decide (V.int i=V.int j)=decide (i=j):=by simp
  rw[e];exact k.here ra h rfl
 .cases a;cases b
  rename_i i j;refine .inl ⟨rfl,?_⟩;have e:decide (V.str i=V.str j)=decide (i=j):=by simp
  rw[e];exact k.here ra h rfl
 .cases a;cases b
  rename_i i j;refine .inl ⟨rfl,?_⟩;have e:decide (V.bl i=V.bl j)=decide (i=j):=by simp
  rw[e];exact k.here ra h rfl
 .unfold fY at h
  obtain⟨p1,p2,c,d,hd,q⟩:=h;exact .inr ⟨_,_,ra.dp p1 a,ra.dp p2 b,c,d,hd,k.here ra q rfl⟩
def dj:D->Option Key
 |.int i=>some (.inl i)
 |.str x=>some (.inr x)
 |_=>none
def aT:List (Key×D)->Key->Option D
 |[],_=>none
 |p::r,k=>if p.1=k then some p.2 else aT r k
@[irreducible] def jd(r:Nat)(y:D)(A:Ar)(R:DK):Prop:=match A[r]? with
 |some (.lst xs)=>(match y with
  |.int i=>(match bW xs i with
   |some v=>R v A
   |none=>False)
  |_=>False)
 |some (.dct kvs)=>(match dj y with
  |some k=>(match aT kvs k with
   |some v=>R v A
   |none=>False)
  |none=>False)
 |some (.aS _ kvs)=>(match dj y with
  |some k=>(match aT kvs k with
   |some v=>R v A
   |none=>False)
  |none=>False)
 |_=>False
def mE:cu:=λx y A R=>match x,y with
 |.tup xs,.int i=>match bW xs i with
  |some v=>R v A
  |none=>False
 |.str z,.int i=>match bW z.cps.toList i with
  |some c=>z.length<=sizeLine/\R (.str ⟨#[c]⟩) A
  |none=>False
 |.fl ns,.int i=>match bW ns i with
  |some c=>R (.int c) A
  |none=>False
 |.ref r,y=>jd r y A R
 |_,_=>False
section
variable{mg:ah}{K:PySem.W.Frag}{A:Ar}{ι:Io}{H:Hp}
theorem af.bW{n:Nat}{ds:List D}{vs:List V}{i:Int}{d:D}(r:af mg ι n H ds vs)(h:L2.bW ds i=some d):∃v,L2.bW vs i=some v/\RV mg ι n H d v:=by
 unfold L2.bW at h ⊢;rw[<-af.length r];cases q:gD ds.length i with
 |none=>rw[q] at h;cases h
 |some j=>
  rw[q] at h;exact af.get r h
theorem Bo{α β:Type}(f:α->β)(xs:List α)(i:Int):L2.bW (xs.map f) i=(L2.bW xs i).map f:=by
 unfold L2.bW;rw[length_map];cases gD xs.length i with
 |none=>rfl
 |some j=>simp
theorem RK.get{n:Nat}:∀{kvs:List (Key×D)} {xs:List (Key×V)} {k:Key},RK mg ι n H kvs xs->(∀d,aT kvs k=some d->∃v,cC xs k=some v/\RV mg ι n H d v)/\(aT kvs k=none->cC xs k=none)
 |[],xs,k,h=>by
  cases (show xs=[] from h);exact⟨λd e=>by simp[aT] at e,λ_=>rfl⟩
 |p::r,xs,k,h=>by
  obtain⟨x,r',rfl,h1,h2⟩:=h;obtain⟨b,c⟩:=RK.get (k:=k) h2;unfold aT;by_cases a:p.1=k
  .rw[if_pos a]
   have e:cC ((p.1,x)::r') k=some x:=by simp[cC,a]
   rw[e];exact⟨λd z=>by cases z;exact⟨x,rfl,h1⟩,λz=>by cases z⟩
  .rw[if_neg a]
   have e:cC ((p.1,x)::r') k=cC r' k:=by simp[cC,find?_cons,a]
   rw[e];exact⟨b,c⟩
theorem iF{n:Nat}{y:D}{v:V}{k:Key}(h:dj y=some k)(r:RV mg ι n H y v):v=kV k:=by
 cases y with
 |int i=>cases h;exact r
 |str x=>cases h;exact r
 |_=>cases h
end
def yD:R2:=λx y H Q=>∃a v,x=.ref a/\iP H a y (some v)/\Q v H
theorem F4{X:Cx}(f:X.A.units+64<cLine):fD X yD:=by
 intro value slice pins s σ H x y v u Q I c d h hs;obtain⟨a,z,rfl,g,q⟩:=h;cases c;exact tail_any (C8 I g) PySem.F.slot_dict_getitem.lookup (Cq (by omega) I g d λi j e b=>⟨z,H,e,b,q⟩) hs
abbrev yC(K:PySem.W.Frag):R2:=λx y H Q=>yz K x y H Q\/yD x y H Q
theorem FF{X:Cx}(a:X.A.units+64<cLine):fD X (yC X.K):=F6.or (F4 a)
theorem Cv{mg:ah}{K:PySem.W.Frag}:bZ mg (yC K) mE:=by
 intro x y A ι H u v R Q ra j g h k;unfold mE at h;split at h
 .obtain⟨a,xs,rfl,l,b⟩:=j
  cases g;split at h
  .rename_i d e
   obtain⟨z,c,f⟩:=b.bW e;exact .inl (.inr (.inl ⟨a,xs,_,z,rfl,rfl,aN.of l,c,k.here ra h f⟩))
  .exact h.elim
 .cases j;cases g
  split at h
  .rename_i d e
   exact .inl (.inr (.inr ⟨_,_,_,rfl,rfl,h.1,e,k.here ra h.2 rfl⟩))
  .exact h.elim
 .obtain⟨a,o,rfl,l⟩:=j
  cases g;split at h
  .rename_i d e
   exact .inl (.inl ⟨a,_,_,_,rfl,rfl,.inl (.inr ⟨o,l⟩),by rw[Bo,e];rfl,k.here ra h rfl⟩)
  .exact h.elim
 .obtain⟨_,rfl⟩:=j
  unfold jd at h;split at h
  .rename_i xs e
   obtain⟨i,h1,b⟩:=ra.lst e;split at h
   .cases g
    split at h
    .rename_i d e
     obtain⟨z,c,f⟩:=b.bW e;exact .inl (.inl ⟨_,i,_,z,rfl,rfl,aI.of h1,c,k.here ra h f⟩)
    .exact h.elim
   .exact h.elim
  .rename_i kvs e
   obtain⟨i,h1,b⟩:=ra.dct e;split at h
   .rename_i m n
    cases iF n g;split at h
    .rename_i d p
     obtain⟨z,c,f⟩:=(RK.get b).1 d p;exact .inr ⟨_,z,rfl,.inl ⟨i,m,.inl h1,rfl,c.symm⟩,k.here ra h f⟩
    .exact h.elim
   .exact h.elim
  .rename_i o kvs e
   obtain⟨i,h1,b⟩:=ra.aS e;split at h
   .rename_i m n
    cases iF n g;split at h
    .rename_i d p
     obtain⟨z,c,f⟩:=(RK.get b).1 d p;exact .inr ⟨_,z,rfl,.inl ⟨i,m,.inr ⟨o,h1⟩,rfl,c.symm⟩,k.here ra h f⟩
    .exact h.elim
   .exact h.elim
  .exact h.elim
 .exact h.elim
theorem CT{X:Cx}{N:En}{pos:Pos}{a b:Expr}{ma mb:ao}(c:X.A.units+64<cLine)(d:PE X a (up X.mg N ma))(e:PE X b (up X.mg N mb))(hs:oH b):PE X (.Subscript a b pos) (up X.mg N (b5 mE ma mb)):=
 bX (IB (FF c) d e hs) λ_ _ _ h=>n8 Cv h
structure iO where
 nx:aV->Ar->Prop
 rt:DK
 bk:aV->Ar->Prop:=λ_ _=>False
 ct:aV->Ar->Prop:=λ_ _=>False
abbrev bT:=iO->aV->Ar->Prop
def fV(mg:ah)(A:Ar)(ι:Io)(H:Hp)(R:aV->Ar->Prop)(Q:L2.St->Hp->Prop):Prop:=∀τ A' ι' σ H',R τ A'->Ext A ι H A' ι' H'->RA mg ι' H' A'->RS mg ι' A'.length H' τ σ->Q σ H'
structure kY(mg:ah)(A:Ar)(ι:Io)(H:Hp)(R:iO)(Q:Ends):Prop where
 nx:fV mg A ι H R.nx Q.nx
 rt:Kt mg A ι H R.rt Q.rt
 bk:fV mg A ι H R.bk Q.bk
 ct:fV mg A ι H R.ct Q.ct
def bQ(mg:ah)(N:En)(m:bT):TS:=λQ σ H=>∃A ι τ R,bR mg N A ι τ σ H/\m R τ A/\kY mg A ι H R Q
section
variable{mg:ah}{N:En}{A A':Ar}{ι ι':Io}{τ aO:aV}{σ σ':L2.St}{H H':Hp}
theorem fV.from{R:aV->Ar->Prop}{Q:L2.St->Hp->Prop}(k:fV mg A ι H R Q)(e:Ext A ι H A' ι' H'):fV mg A' ι' H' R Q:=λτ b a σ H2 q c=>k τ b a σ H2 q (e.trans c)
theorem kY.from{R:iO}{Q:Ends}(k:kY mg A ι H R Q)(e:Ext A ι H A' ι' H'):kY mg A' ι' H' R Q:=⟨k.nx.from e,k.rt.from e,k.bk.from e,k.ct.from e⟩
theorem fV.here{R:aV->Ar->Prop}{Q:L2.St->Hp->Prop}(k:fV mg A ι H R Q)(S:bR mg N A ι τ σ H)(q:R τ A):Q σ H:=k τ A ι σ H q S.ra.refl S.ra S.rs
theorem bR.to(S:bR mg N A ι τ σ H)(e:Ext A ι H A' ι' H')(r:RA mg ι' H' A')(s:RS mg ι' A'.length H' aO σ'):bR mg N A' ι' aO σ' H':=⟨r,s,S.ex.trans e⟩
theorem w9:∀(τ:aV) (i:Nat) (d:D),i<τ.length->lk (τ.set i (some d)) i=some d
 |[],i,d,h=>by simp at h
 |x::r,0,d,_=>rfl
 |x::r,i+1,d,h=>w9 r i d (by simpa using h)
theorem w4:∀(τ:aV) (i j:Nat) (d:Option D),j≠i->lk (τ.set i d) j=lk τ j
 |[],i,j,d,_=>rfl
 |x::r,0,0,d,h=>absurd rfl h
 |x::r,0,j+1,d,_=>rfl
 |x::r,i+1,0,d,_=>rfl
 |x::r,i+1,j+1,d,h=>w4 r i j d (by omega)
theorem RS.set{n:Nat}{i:Nat}{d:D}{v:V}(r:RS mg ι n H τ σ)(h:RV mg ι n H d v):RS mg ι n H (τ.set i (some d)) (σ.set i (some v)):=⟨by simp[r.len],λj e q=>by
 by_cases a:j=i
 .subst a
  by_cases b:j<τ.length
  .rw[w9 _ _ _ b] at q
   cases q;refine⟨v,?_,h⟩;rw[getElem?_set_self (by rw[<-r.len];exact b)]
  .rw[List.set_eq_of_length_le (by omega)] at q
   rw[mJ,getElem?_eq_none (by omega)] at q;cases q
 .rw[w4 _ _ _ _ a] at q
  obtain⟨w,h1,h2⟩:=r.at' j e q;exact⟨w,by rw[getElem?_set_ne (Ne.symm a)];exact h1,h2⟩⟩
theorem bR.set{i:Nat}{d:D}{v:V}(S:bR mg N A ι τ σ H)(h:RV mg ι A.length H d v):bR mg N A ι (τ.set i (some d)) (σ.set i (some v)) H:=⟨S.ra,S.rs.set h,S.ex⟩
end
def yX:bT:=λR τ A=>R.nx τ A
def rB(t u:bT):bT:=λR τ A=>t {R with nx:=u R} τ A
def rA(m:ao):bT:=λR τ A=>m τ A λ_ A1=>R.nx τ A1
def J2(m:ao):bT:=λR τ A=>m τ A R.rt
def yW(c:cE)(t u:bT):bT:=λR τ A=>c τ A λb A1=>cond b (t R τ A1) (u R τ A1)
section
variable{X:Cx}{N:En}{pos:Pos}{st:Stmt}{rest:List Stmt}{t u:bT}{e:Expr}{m:ao}
theorem cz:bU X [] (bQ X.mg N yX):=u0 Jm λQ σ H q=>by
 obtain⟨A,ι,τ,R,S,q,k⟩:=q;exact k.nx.here S q
theorem aG(h1:PS X st (bQ X.mg N t))(h2:bU X rest (bQ X.mg N u)):bU X (st::rest) (bQ X.mg N (rB t u)):=u0 (Jl h1 h2) λQ σ H q=>by
 obtain⟨A,ι,τ,R,S,q,k⟩:=q;exact⟨A,ι,τ,_,S,q,⟨λa d b e H1 f c g h=>⟨d,b,a,R,S.to c g h,f,k.from c⟩,k.rt,k.bk,k.ct⟩⟩
theorem aE(h1:PS X st (bQ X.mg N t)):bU X [st] (bQ X.mg N t):=Jo h1
theorem e9(b:PE X e (up X.mg N m))(hs:swapsWith e none pos.line X.env=pure false:=by rfl):PS X (.Expr e pos) (bQ X.mg N (rA m)):=fM (Jd b hs) λQ σ H q=>by
 obtain⟨A,ι,τ,R,S,q,k⟩:=q;exact⟨A,ι,τ,_,S,q,λv g c H1 u d a f h=>(k.nx.from a).here (S.next a f) d⟩
theorem aW(a:PE X e (up X.mg N m)):PS X (.Return (some e) pos) (bQ X.mg N (J2 m)):=fM (Ji a) λQ σ H q=>by
 obtain⟨A,ι,τ,R,S,q,k⟩:=q;exact⟨A,ι,τ,_,S,q,k.rt⟩
theorem bY{c:Expr}{a b:List Stmt}{tc:cE}(hc:PT X c (bF X.mg N tc))(i:bU X a (bQ X.mg N t))(j:bU X b (bQ X.mg N u)):PS X (.If c a b pos) (bQ X.mg N (yW tc t u)):=fM (Jf hc i j) λQ σ H q=>by
 obtain⟨A,ι,τ,R,S,q,k⟩:=q;refine⟨A,ι,τ,_,S,q,λx f d H1 g e h=>?_⟩;cases x with
 |true=>rw[if_pos rfl];exact⟨f,d,τ,R,S.next e h,g,k.from e⟩
 |false=>rw[if_neg Bool.false_ne_true];exact⟨f,d,τ,R,S.next e h,g,k.from e⟩
end
abbrev gp:=D->aV->Ar->(aV->Ar->Prop)->Prop
abbrev iQ:=List D->aV->Ar->(aV->Ar->Prop)->Prop
def kR(mg:ah)(N:En)(g:gp):TG:=λv σ H Q=>∃A ι τ d R,bR mg N A ι τ σ H/\RV mg ι A.length H d v/\g d τ A R/\fV mg A ι H R Q
def n7(mg:ah)(N:En)(g:iQ):fX:=λvs σ H Q=>∃A ι τ ds R,bR mg N A ι τ σ H/\af mg ι A.length H ds vs/\g ds τ A R/\fV mg A ι H R Q
def gN(i:Nat):gp:=λd τ A R=>R (τ.set i (some d)) A
def vN:iQ:=λds τ A R=>match ds with
 |[]=>R τ A
 |_=>False
def EG(g:gp)(h:iQ):iQ:=λds τ A R=>match ds with
 |d::r=>g d τ A λr_ A1=>h r r_ A1 R
 |[]=>False
def gT(n:Nat)(g:iQ):gp:=λd τ A R=>match d with
 |.tup ds=>ds.length=n/\g ds τ A R
 |_=>False
section
variable{X:Cx}{N:En}{pos:Pos}{e tg:Expr}{es:List Expr}{m:ao}{g:gp}{gs:iQ}
theorem uU{t t':TG}(h:PG X tg t)(w:∀v σ H Q,t' v σ H Q->t v σ H Q):PG X tg t':=λpins s σ H v u Q I r q=>h pins s σ H v u Q I r (w v σ H Q q)
theorem uV{t t':fX}(h:fW X es t)(w:∀v σ H Q,t' v σ H Q->t v σ H Q):fW X es t':=λpins s σ H v u Q I r q=>h pins s σ H v u Q I r (w v σ H Q q)
theorem C3{i:Nat}{x:Str}(a:X.N.Nodup)(hi:X.N[i]?=some x)(b:Loc X.env.scope x)(c:X.fn x=true\/X.env.scope.names.lookup x=some .local:=by first|exact .inl rfl|exact .inr rfl|assumption):PG X (.Name x pos) (kR X.mg N (gN i)):=
 uU (yb a hi b c) λv σ H Q q=>by
  obtain⟨A,ι,τ,d,R,S,r,q,k⟩:=q;exact k.here (S.set r) q
theorem pK:fW X [] (n7 X.mg N vN):=uV yd λv σ H Q q=>by
 obtain⟨A,ι,τ,ds,R,S,r,q,k⟩:=q;unfold vN at q;split at q
 .exact⟨r,k.here S q⟩
 .exact q.elim
theorem gx(h1:PG X e (kR X.mg N g))(h2:fW X es (n7 X.mg N gs))(hs:(assignEach (e::es) X.env).map (·.2)=assign e X.env::(assignEach es X.env).map (·.2):=by rfl):fW X (e::es) (n7 X.mg N (EG g gs)):=
 uV (nE h1 h2 hs) λv σ H Q q=>by
  obtain⟨A,ι,τ,ds,R,S,r,q,k⟩:=q;cases ds with
  |nil=>exact q.elim
  |cons d ds=>
   obtain⟨x,xs,rfl,f,h⟩:=r;refine⟨x,xs,rfl,A,ι,τ,d,_,S,f,q,λa i b j H1 l c a1 m=>?_⟩;exact⟨i,b,a,ds,R,S.to c a1 m,af.ext c ds xs h,l,k.from c⟩
theorem pJ{k n:Nat}(hc:X.calm=true)(h:fW X es (n7 X.mg N gs))(c:(assignEach es X.env).length=n:=by rfl)(b:(assignEach es X.env).findIdx? (·.1)=none:=by rfl):PG X (.Tuple es k pos) (kR X.mg N (gT n gs)):=
 uU (yc hc h c b) λv σ H Q q=>by
  obtain⟨A,ι,τ,d,R,S,r,q,k⟩:=q;cases d with
  |tup ds=>
   obtain⟨a,xs,rfl,h1,h2⟩:=r;exact⟨a,xs,rfl,aN.of h1,by rw[<-af.length h2];exact q.1,A,ι,τ,ds,R,S,h2,q.2,k⟩
  |_=>exact q.elim
def nK(i:Nat)(m:ao):bT:=λR τ A=>m τ A λv A1=>R.nx (τ.set i (some v)) A1
theorem Df{i:Nat}{x:Str}{pos':Pos}(b:X.N.Nodup)(hi:X.N[i]?=some x)(c:Loc X.env.scope x)(d:PE X e (up X.mg N m))(hs:swapsWith e (some (.Name x pos')) pos.line X.env=pure false:=by rfl)(f:X.fn x=true\/X.env.scope.names.lookup x=some .local:=by first|exact .inl rfl|exact .inr rfl|assumption):
  PS X (.Assign [.Name x pos'] e pos) (bQ X.mg N (nK i m)):=fM (Jj b hi c d hs f) λQ σ H q=>by
 obtain⟨A,ι,τ,R,S,q,k⟩:=q;exact⟨A,ι,τ,_,S,q,λv n g H1 u h a j l=>(k.nx.from a).here ((S.next a j).set l) h⟩
def JY(i j:Nat)(n:bB):bT:=λR τ A=>n τ A λvs A1=>match vs with
 |[v,w]=>R.nx ((τ.set i (some v)).set j (some w)) A1
 |_=>False
theorem uZ{i j:Nat}{x y:Str}{a b:Expr}{n:bB}{px py pt:Pos}{kt k2 d}(hc:X.calm=true)(h:X.N.Nodup)(hi:X.N[i]? =some x)(l:X.N[j]? =some y)(e:i≠j)
  (m:X.env.scope.names.lookup x=some .local)(o:X.env.scope.names.lookup y=some .local)(p:PA X [a,b] (c8 X.mg N n))
  (r:swappedStores [.Tuple [.Name x px,.Name y py] kt pt] (.Tuple [a,b] k2 d) X.env=pure (some [x,y]))
  (hs:swapsWithSole [.Tuple [.Name x px,.Name y py] kt pt] (.Tuple [a,b] k2 d) pos.line X.env=pure false:=by rfl):
  PS X (.Assign [.Tuple [.Name x px,.Name y py] kt pt] (.Tuple [a,b] k2 d) pos) (bQ X.mg N (JY i j n)):=fM (Jg hc h hi l e m o p r hs) λQ σ H q=>by
 obtain⟨A,ι,τ,R,S,q,k⟩:=q
 refine⟨A,ι,τ,_,S,q,λvs C s H1 D c g t f=> ?_⟩
 match vs,c,f with
 |[v,w],c,f=>
  obtain⟨u,_,rfl,h1,z,_,rfl,h2,B⟩:=f
  obtain rfl:=B
  exact⟨u,z,rfl,(k.nx.from g).here (((S.next g t).set h1).set h2) c⟩
 |[],c,_=>exact c.elim
 |[_],c,_=>exact c.elim
 |_::_::_::_,c,_=>exact c.elim
end
abbrev DX:=Str->Ar->Prop
abbrev Ct:=List D->Ar->DK->DX->Prop
def Bd(mg:ah)(A:Ar)(ι:Io)(H:Hp)(R:DX)(E:XK):Prop:=∀c A' ι' H' C,R c A'->mg c=some (.ref C)->Ext A ι H A' ι' H'->RA mg ι' H' A'->E (.ref C) none H'
def ay(mg:ah)(n:Nat)(S:Ct):Sp:=λvs H Q E=>∃A ι ds R RE,ds.length=n/\RA mg ι H A/\af mg ι A.length H ds vs/\S ds A R RE/\Kt mg A ι H R Q/\Bd mg A ι H RE E
def EL(mg:ah)(N:En)(R:DX):XK:=λC _ H'=>∃c A' ι',(∃a,C=.ref a/\mg c=some (.ref a))/\Ext N.A N.ι N.H A' ι' H'/\RA mg ι' H' A'/\R c A'
def pC(n:Nat)(S:Ct)(RE:DX)(m:bB):ao:=λτ A R=>m τ A λvs A1=>vs.length=n/\S vs A1 R RE
section
variable{X:Cx}{N:En}{k n:Nat}{x:Str}{ps:List Str}{S:Ct}{RE:DX}{e:Expr}{es:List Expr}{m:bB}{p pos:Pos}
theorem CL(F:aB X.prog X.w X.K X.mg X.base k x ps (ay X.mg n S))(i:bV k X.A)(j:Passes (aQ X.prog X.w) X (EL X.mg N RE))(l:PA X (e::es) (c8 X.mg N m))(o:Gl X x:=by rfl)(a:(x==("__debug__":Str))=false:=by decide)
  (r:starEach (e::es) X.env=(false,eval e X.env)::starEach es X.env:=by rfl)(b:(backTo pos (starEach es X.env)).any (·.1)=false:=by rfl):
  PE X (.Call (.Name x p) (e::es) [] pos) (up X.mg N (pC n S RE m)):=bX (Ip F i j l o a r b) λσ H Q q=>by
 obtain⟨A,ι,τ,R,Z,q,k⟩:=q;refine⟨A,ι,τ,_,Z,q,λvs s d H1 t g h u v=>?_⟩;show ay X.mg n S (t++[]) H1 Q (EL X.mg N RE);rw[append_nil];exact⟨s,d,vs,R,RE,g.1,u,v,g.2,k.from h,λc y f H2 C z hc B D=>⟨c,y,f,⟨C,rfl,hc⟩,(Z.ex.trans h).trans B,D,z⟩⟩
end
def gJ(n:Nat)(ds:List D):aV:=ds.map some++replicate n none
theorem qC:∀(ds:List D) (n i:Nat) (d:D),lk (gJ n ds) i=some d->ds[i]?=some d
 |[],n,i,d,h=>by
  rw[mJ] at h;simp[gJ,List.getElem?_replicate] at h;split at h<;>simp at h
 |x::r,n,0,d,h=>by simpa[gJ,lk] using h
 |x::r,n,i+1,d,h=>by simpa using qC r n i d h
theorem TopD.g5{P:Program}{w:World}{K:PySem.W.Frag}{mg:ah}{base:Heap}{x:Str}{st:Stmt}{Nm ps:List Str}{k n:Nat}{S:Ct}(T:TopD K mg x st ps)(Sc:bf Nm ps (aH st))(D:ps.length=n)(Y:ps.length<=Nm.length)
  (g:∀(N:En) (RE:DX) (X:Cx),X.prog=P->X.w=w->X.K=K->X.mg=mg->X.base=base->X.N=Nm->X.calm=true->X.ex=[]->(∃f j A outer s H E,X=bC (aQ P w) P w K mg base Nm x (aH st) f j A outer s H E)->bV k X.A->Raises X (EL X.mg N RE)->Passes (aQ X.prog X.w) X (EL X.mg N RE)->
   ∀ds A R,S ds A R RE->ds.length=n->∃m,bU X (ee st) (bQ X.mg N m)/\m {nx:=λ_ A'=>R .ak A',rt:=R} (gJ (Nm.length - n) ds) A):aB P w K mg base (k+1) x ps (ay mg n S):=by
 refine T.fnX Sc (λvs H Q E h=> ?_) λf j A outer s H vs Q E F h=> ?_
 .obtain⟨A,ι,ds,R,RE,t,_,o,_⟩:=h
  rw[<-af.length o,t,D]
 .obtain⟨p,l,ds,R,RE,t,ra,o,G,y,J⟩:=h
  have B:∀C a H',EL mg ⟨p,l,H⟩ RE C a H'->E C none H':=λC a H' z=>by
   obtain⟨c,A',ι',⟨b,rfl,hc⟩,ex,r,q⟩:=z
   exact J c A' ι' H' b q hc ex r
  obtain⟨m,L,M⟩:=g ⟨p,l,H⟩ RE (bC (aQ P w) P w K mg base Nm x (aH st) f j A outer s H E) rfl rfl rfl rfl rfl rfl rfl rfl ⟨_,_,_,_,_,_,_,rfl⟩ F
   (λpins σ H1 u e h' C args I O z=>yK pins σ H1 u e h' C args I O (B _ _ _ z))
   (λpins σ H1 u e s' I z=>xZ pins σ H1 u e s' I (by
    obtain⟨a,C,H',h1,h2,U⟩:=z
    exact⟨a,C,H',h1,h2,B _ _ _ U⟩)) ds p R G t
  have V:=af.length o
  refine⟨_,L,p,l,_,_,⟨ra,⟨?_,λi d q=> ?_⟩,ra.refl⟩,M,⟨λτ A' ι' σ H' q e r _=>y _ A' ι' H' _ q e r rfl,y,λ_ _ _ _ _ q _ _ _=>q.elim,λ_ _ _ _ _ q _ _ _=>q.elim⟩⟩
  .simp[gJ,L2.start]
   omega
  .obtain⟨v,h1,h2⟩:=af.get o (qC ds _ i d q)
   refine⟨v,?_,h2⟩
   have hi:=(List.getElem?_eq_some_iff.mp h1).1
   unfold L2.start
   rw[getElem?_append_left (by simpa using hi),getElem?_map,h1]
   rfl
abbrev dF:=List D->Ar->DK->Prop
def eK(mg:ah)(r:List V->Hp->VK->Prop)(f:dF):Prop:=∀ds A ι H us R Q,RA mg ι H A->af mg ι A.length H ds us->f ds A R->Kt mg A ι H R Q->r us H Q
def jH(f:dF)(m:bB):ao:=λτ A R=>m τ A λvs A1=>f vs A1 R
section
variable{X:Cx}{N:En}{e:Expr}{es:List Expr}{m:bB}{p pos:Pos}{f:dF}{r:List V->Hp->VK->Prop}{x:Str}{id T:String}
theorem Ai(h:eK X.mg r f){σ:L2.St}{H:Hp}{Q:VK}(q:up X.mg N (jH f m) σ H Q):rL r (c8 X.mg N m) σ H Q:=by
 obtain⟨A,ι,τ,R,S,q,k⟩:=q;exact⟨A,ι,τ,_,S,q,λvs b a H1 c d e g i=>h vs b a H1 c R Q g i d (k.from e)⟩
theorem cJ(hc:ck X (.builtin id) r)(hd:eK X.mg r f)(c:X.mg x=none)(d:bootBuiltins x=some (.builtin id))(g:PA X (e::es) (c8 X.mg N m))(i:Gl X x:=by rfl)(j:x≠"__name__":=by decide)(a:(x==("__debug__":Str))=false:=by decide)
 (k:starEach (e::es) X.env=(false,eval e X.env)::starEach es X.env:=by rfl)(b:(backTo pos (starEach es X.env)).any (·.1)=false:=by rfl):PE X (.Call (.Name x p) (e::es) [] pos) (up X.mg N (jH f m)):=bX (x8 hc i c d g j a k b) λ_ _ _ h=>Ai hd h
theorem gW(hc:ck X (.type T) r)(hd:eK X.mg r f)(c:X.mg x=none)(d:bootBuiltins x=some (.type T))(g:PA X (e::es) (c8 X.mg N m))(i:Gl X x:=by rfl)(j:x≠"__name__":=by decide)(a:(x==("__debug__":Str))=false:=by decide)
 (k:starEach (e::es) X.env=(false,eval e X.env)::starEach es X.env:=by rfl)(b:(backTo pos (starEach es X.env)).any (·.1)=false:=by rfl):PE X (.Call (.Name x p) (e::es) [] pos) (up X.mg N (jH f m)):=bX (Im hc i c d g j a k b) λ_ _ _ h=>Ai hd h
end
@[irreducible] def mH(r:Nat)(A:Ar)(R:DK):Prop:=match A[r]? with
 |some (.lst xs)=>R (.int xs.length) A
 |some (.dct kvs)=>R (.int kvs.length) A
 |_=>False
def wO:dF:=λvs A R=>match vs with
 |[.tup xs]=>R (.int xs.length) A
 |[.str z]=>z.length<=sizeLine/\R (.int z.length) A
 |[.fl ns]=>R (.int ns.length) A
 |[.ref r]=>mH r A R
 |_=>False
theorem RK.length{mg:ah}{ι:Io}{H:Hp}:∀{ds:List (Key×D)} {vs:List (Key×V)} {n:Nat},RK mg ι n H ds vs->ds.length=vs.length
 |[],vs,_,h=>by have h':vs=[]:=h;rw[h'];rfl
 |d::ds,vs,n,h=>by
  obtain⟨x,r,rfl,_,a⟩:=h;simp[RK.length a]
theorem dZ{X:Cx}:ck X (.builtin "len") (λxs H Q=>(∃p ys,xs=[.ref p]/\(aI X.K H p ys\/aN X.K H p ys)/\Q (.int ys.length) H)\/(∃z,xs=[.str z]/\z.length<=sizeLine/\Q (.int z.length) H)\/∃a kvs,xs=[V.ref a]/\H a=some (.dK kvs)/\Q (.int kvs.length) H):=BF.or (BG.or BE)
theorem dh{mg:ah}{K:PySem.W.Frag}:eK mg (λxs H Q=>(∃p ys,xs=[.ref p]/\(aI K H p ys\/aN K H p ys)/\Q (.int ys.length) H)\/(∃z,xs=[.str z]/\z.length<=sizeLine/\Q (.int z.length) H)\/∃a kvs,xs=[V.ref a]/\H a=some (.dK kvs)/\Q (.int kvs.length) H) wO:=by
 intro ds A ι H c R Q ra rs h k;unfold wO at h;split at h
 .obtain⟨_,_,rfl,⟨a,xs,rfl,d,b⟩,rfl⟩:=rs
  exact .inl ⟨a,xs,rfl,.inr (aN.of d),k.here ra h (by rw[af.length b];rfl)⟩
 .obtain⟨_,_,rfl,rfl,rfl⟩:=rs
  exact .inr (.inl ⟨_,rfl,h.1,k.here ra h.2 rfl⟩)
 .obtain⟨_,_,rfl,⟨a,o,rfl,d⟩,rfl⟩:=rs
  exact .inl ⟨a,_,rfl,.inl (.inl (.inr ⟨o,d⟩)),k.here ra h (by rw[length_map];rfl)⟩
 .obtain⟨_,_,rfl,⟨_,rfl⟩,rfl⟩:=rs
  unfold mH at h;split at h
  .rename_i xs e
   obtain⟨c,h1,b⟩:=ra.lst e;exact .inl ⟨_,c,rfl,.inl (aI.of h1),k.here ra h (by rw[af.length b];rfl)⟩
  .rename_i xs e
   obtain⟨c,h1,b⟩:=ra.dct e;exact .inr (.inr ⟨_,c,rfl,h1,k.here ra h (by rw[RK.length b];rfl)⟩)
  .exact h.elim
 .exact h.elim
@[irreducible] def xo(r:Nat)(A:Ar)(R:DK):Prop:=match A[r]? with
 |some (.lst xs)=>R (.ref A.length) (A++[.lst xs])
 |_=>False
def xm:dF:=λvs A R=>match vs with
 |[.tup xs]=>R (.ref A.length) (A++[.lst xs])
 |[.fl ns]=>R (.ref A.length) (A++[.lst (ns.map .int)])
 |[.ref r]=>xo r A R
 |_=>False
theorem Cz{mg:ah}{K:PySem.W.Frag}:eK mg (λxs H Q=>∃p ys,xs=[.ref p]/\(aI K H p ys\/aN K H p ys)/\∀l,H l=none->Q (.ref l) (upd H l (.lst ys))) xm:=by
 intro ds A ι H f R Q ra rs h k;unfold xm at h;split at h
 .obtain⟨_,_,rfl,⟨a,xs,rfl,c,d⟩,rfl⟩:=rs
  exact⟨a,xs,rfl,.inr (aN.of c),λp b=>fm k ra d h b⟩
 .obtain⟨_,_,rfl,⟨a,o,rfl,c⟩,rfl⟩:=rs
  exact⟨a,_,rfl,.inl (.inl (.inr ⟨o,c⟩)),λp b=>fm k ra (af.ints _) h b⟩
 .obtain⟨_,_,rfl,⟨_,rfl⟩,rfl⟩:=rs
  unfold xo at h;split at h
  .rename_i xs e
   obtain⟨f,h1,d⟩:=ra.lst e;exact⟨_,f,rfl,.inl (aI.of h1),λp b=>fm k ra d h b⟩
  .exact h.elim
 .exact h.elim
@[irreducible] def nY(r:Nat)(A:Ar)(R:DK):Prop:=match A[r]? with
 |some (.lst xs)=>R (.tup xs) A
 |_=>False
def Ae:dF:=λvs A R=>match vs with
 |[.tup xs]=>R (.tup xs) A
 |[.ref r]=>nY r A R
 |_=>False
theorem lK{mg:ah}{K:PySem.W.Frag}:eK mg (λxs H Q=>∃p ys,xs=[.ref p]/\((aI K H p ys/\∀l,H l=none->Q (.ref l) (upd H l (.tup ys)))\/(aN K H p ys/\Q (.ref p) H))) Ae:=by
 intro ds A ι H c R Q ra rs h k;unfold Ae at h;split at h
 .obtain⟨_,_,rfl,⟨a,xs,rfl,d,b⟩,rfl⟩:=rs
  exact⟨a,xs,rfl,.inr ⟨aN.of d,k.here ra h ⟨a,xs,rfl,d,b⟩⟩⟩
 .obtain⟨_,_,rfl,⟨_,rfl⟩,rfl⟩:=rs
  unfold nY at h;split at h
  .rename_i xs e
   obtain⟨c,h1,b⟩:=ra.lst e;exact⟨_,c,rfl,.inl ⟨aI.of h1,λp f=>j7 k ra b h f⟩⟩
  .exact h.elim
 .exact h.elim
def maxD:dF:=λvs A R=>match vs with
 |[.int i,.int j]=>R (.int (if j>i then j else i)) A
 |_=>False
theorem CB{mg:ah}:eK mg (λxs H Q=>∃i j,xs=[.int i,.int j]/\Q (.int (if j>i then j else i)) H) maxD:=by
 intro ds A ι H a R Q ra rs h k;unfold maxD at h;split at h
 .obtain⟨_,_,rfl,rfl,_,_,rfl,rfl,rfl⟩:=rs
  exact⟨_,_,rfl,k.here ra h rfl⟩
 .exact h.elim
def fH:List D->Option (List Bool)
 |[]=>some []
 |.bl b::r=>(fH r).map (b::·)
 |_::_=>none
theorem t_{mg:ah}{ι:Io}{n:Nat}{H:Hp}:∀{ds:List D} {a:List V} {bs:List Bool},fH ds=some bs->af mg ι n H ds a->a=bs.map V.bl
 |[],a,bs,h,r=>by cases h;exact r
 |d::ds,a,bs,h,r=>by
  obtain⟨x,r',rfl,h1,h2⟩:=r;cases d with
  |bl b=>
   cases q:fH ds with
   |none=>simp[fH,q] at h
   |some l=>
    simp[fH,q] at h;subst h;rw[t_ q h2];cases h1;rfl
  |_=>simp[fH] at h
@[irreducible] def allR(r:Nat)(A:Ar)(R:DK):Prop:=match A[r]? with
 |some (.lst xs)=>(match fH xs with
  |some bs=>R (.bl (bs.all id)) A
  |none=>False)
 |_=>False
def tG:dF:=λvs A R=>match vs with
 |[.ref r]=>allR r A R
 |_=>False
theorem Co{mg:ah}{K:PySem.W.Frag}:eK mg (λxs H Q=>∃(p:Addr) (bs:List Bool),xs=[.ref p]/\aI K H p (bs.map V.bl)/\Q (.bl (bs.all id)) H) tG:=by
 intro ds A ι H a R Q ra rs h k;unfold tG at h;split at h
 .obtain⟨_,_,rfl,⟨_,rfl⟩,rfl⟩:=rs
  unfold allR at h;split at h
  .rename_i xs e
   split at h
   .rename_i bs b
    obtain⟨a,h1,c⟩:=ra.lst e;exact⟨_,bs,rfl,aI.of (by rw[h1,t_ b c]),k.here ra h rfl⟩
   .exact h.elim
  .exact h.elim
 .exact h.elim
def fC(A:Ar):D->Option String
 |.ak=>some "NoneType"
 |.bl _=>some "bool"
 |.int _=>some "int"
 |.str _=>some "str"
 |.tup _=>some "tuple"
 |.fl _=>some "list"
 |.exc _=>none
 |.ref r=>match A[r]? with
  |some (.lst _)=>some "list"
  |some (.dct _)=>some "dict"
  |_=>none
def gC(t c:String):Bool:=t==c||(t=="bool"&&c=="int")
def Cb(c:String)(m:ao):ao:=λτ A R=>m τ A λx A1=>match fC A1 x with
 |some t=>R (.bl (gC t c)) A1
 |none=>False
def tys:List String:=["NoneType","bool","int","str","tuple","list","dict"]
theorem L1{A:Ar}{d:D}{t:String}(h:fC A d=some t):t∈tys:=by
 cases d with
 |ref r=>
  unfold fC at h;simp only at h;split at h<;>first|(cases h;decide)|cases h
 |exc c=>cases h
 |_=>cases h;decide
theorem RA.ty{mg:ah}{K:PySem.W.Frag}{A:Ar}{ι:Io}{H:Hp}(ra:RA mg ι H A){d:D}{v:V}{t:String}(h:fC A d=some t)(r:RV mg ι A.length H d v):jy K H v (.type t):=by
 cases d with
 |ak=>cases h;cases r;exact .of .ak
 |bl b=>cases h;cases r;exact .of (.bl b)
 |int b=>cases h;cases r;exact .of (.int b)
 |str b=>cases h;cases r;exact .of (.str b)
 |tup ds=>cases h;obtain⟨a,xs,rfl,e,_⟩:=r;exact .of (.tup e)
 |fl ns=>cases h;obtain⟨a,o,rfl,e⟩:=r;exact .of (.aP e)
 |exc c=>cases h
 |ref q=>
  obtain⟨_,rfl⟩:=r;unfold fC at h;simp only at h;split at h
  .rename_i xs e
   cases h;obtain⟨f,h1,_⟩:=ra.lst e;exact .of (.lst h1)
  .rename_i xs e
   cases h;obtain⟨f,h1,_⟩:=ra.dct e;exact .of (.dK h1)
  .cases h
section
variable{X:Cx}{N:En}{e:Expr}{es:List Expr}{m:ao}{p p2 pos:Pos}{x:Str}{c:String}
theorem iB(l:∀t∈tys,kitOne X.K (.type t) (.type c)=some (gC t c))(n:X.mg "isinstance"=none)(b:X.mg x=none)(d:bootBuiltins x=some (.type c))(o:PE X e (up X.mg N m))(r:Gl X "isinstance":=by rfl)(f:Gl X x:=by rfl)(s:x≠"__name__":=by decide)(g:(x==("__debug__":Str))=false:=by decide)
  (hs:starEach [e,.Name x p2] X.env=[(false,eval e X.env),(false,eval (.Name x p2) X.env)]:=by rfl):
  PE X (.Call (.Name "isinstance" p) [e,.Name x p2] [] pos) (up X.mg N (Cb c m)):=by
 have w:PE X (.Name x p2) (tC (.ty c)):=Ik f b d rfl s g;refine bX (x8 BD r n boot_isinstance (qU o (qU w xU rfl) (by rw[hs];rfl)) (by decide) (by decide) (by rw[hs];rfl) rfl) λσ H Q q=>?_;obtain⟨A,ι,τ,R,S,q,k⟩:=q;refine⟨A,ι,τ,_,S,q,λv h y H1 u a z i B=>?_⟩;have a:(match fC h v with|some t=>R (.bl (gC t c)) h|none=>False):=a;split at a
 .rename_i t j
  exact⟨u,c,.type t,gC t c,rfl,i.ty j B,l t (L1 j),(k.from z).here i a rfl⟩
 .exact a.elim
end
abbrev fU:=D->List D->Ar->DK->Prop
def jw(mg:ah)(K:PySem.W.Frag)(T:String)(r:V->List V->Hp->VK->Prop)(f:fU):Prop:=∀x ds A ι H u us R Q,RA mg ι H A->RV mg ι A.length H x u->af mg ι A.length H ds us->f x ds A R->Kt mg A ι H R Q->r u us H Q
def iD(A:Ar):D->Bool
 |.ref r=>match A[r]? with
  |some (.lst _)=>true
  |_=>false
 |_=>false
def ux(f:fU)(mo:ao)(m:bB):ao:=λτ A R=>mo τ A λx A1=>iD A1 x=true/\m τ A1 λvs A2=>f x vs A2 R
theorem RA.iD{mg:ah}{K:PySem.W.Frag}{A:Ar}{ι:Io}{H:Hp}(ra:RA mg ι H A){d:D}{v:V}(h:iD A d=true)(r:RV mg ι A.length H d v):rV K "list" v H:=by
 cases d with
 |ref q=>
  obtain⟨_,rfl⟩:=r;unfold DP.iD at h;simp only at h;split at h
  .rename_i xs e
   obtain⟨a,h1,_⟩:=ra.lst e;exact .inl ⟨rfl,a,aI.of h1⟩
  .cases h
 |_=>cases h
section
variable{X:Cx}{N:En}{e o:Expr}{es:List Expr}{mo:ao}{m:bB}{apos cpos:Pos}{f:fU}{r:V->List V->Hp->VK->Prop}{name:Str}{id:String}
theorem gv(pa:PlainAttrs "list")(slot:Slot "list" name id)(g:typeOf (.builtin id)=pure (.type "method_descriptor"))(t:oE X id r)(hd:jw X.mg X.K "list" r f)(v:PE X o (up X.mg N mo))(w:PA X (e::es) (c8 X.mg N m))
  (b:attributeBase o name X.env (eval o X.env)=eval o X.env:=by rfl)
  (d:((backTo cpos (starEach (e::es) X.env)).all (λx=> !x.1)&&(backToKw cpos (keywordEach [] X.env)).all (λx=>x.1.isSome)
   &&decide ((e::es).length+([]:List Keyword).length+(if ([]:List Keyword).isEmpty then 0 else 1)<30))=true:=by rfl)
  (c:(apos.endLine==cpos.line)=true:=by rfl)(hs:starEach (e::es) X.env=(false,eval e X.env)::starEach es X.env:=by rfl)(a:(backTo cpos (starEach es X.env)).any (·.1)=false:=by rfl):
  PE X (.Call (.Attribute o name apos) (e::es) [] cpos) (up X.mg N (ux f mo m)):=bX (x6 pa slot g t v w b d c hs a) λσ H Q q=>by
 obtain⟨A,ι,τ,R,S,q,k⟩:=q
 refine⟨A,ι,τ,_,S,q,λx y h H1 u j l n p=> ?_⟩
 refine⟨n.iD j.1 p,y,h,τ,_,S.next l n,j.2,λys z i H2 B C s D v2=> ?_⟩
 exact hd x ys z i H2 u B R Q D (RV.ext s x u p) v2 C (k.from (l.trans s))
end
theorem yt{mg:ah}{A:Ar}{ι:Io}{H:Hp}{R:DK}{Q:VK}{ds es:List D}{xs ys:List V}{q:Nat}{d:D}{v:V}(k:Kt mg A ι H R Q)(r:RA mg ι H A)(a:A[q]?=some (.lst ds))(b:H (ι q)=some (.lst xs))(h:af mg ι A.length H es ys)
  (c:R d (A.set q (.lst es)))(hd:∀H',RV mg ι A.length H' d v):Q v (upd H (ι q) (.lst ys)):=by
 have E:Ext A ι H (A.set q (.lst es)) ι (upd H (ι q) (.lst ys)):=r.i8 (List.getElem?_eq_some_iff.mp a).1;obtain⟨e,f⟩:=r.put (c':=.lst es) (o:=.lst ys) a b rfl ⟨ys,cj,by simpa using af.ext E es ys h⟩;exact k _ _ _ _ _ c f e (by simpa using hd _)
@[irreducible] def lu(r:Nat)(y:D)(A:Ar)(R:DK):Prop:=match A[r]? with
 |some (.lst xs)=>xs.length<sizeLine/\R .ak (A.set r (.lst (xs++[y])))
 |_=>False
def oX:fU:=λx vs A R=>match x,vs with
 |.ref r,[y]=>lu r y A R
 |_,_=>False
theorem iX{mg:ah}{K:PySem.W.Frag}:jw mg K "list" yv oX:=by
 intro x ds A ι H u d R Q ra b rs h k;unfold oX at h;split at h
 .obtain⟨_,rfl⟩:=b
  obtain⟨v,_,rfl,c,rfl⟩:=rs;unfold lu at h;split at h
  .rename_i xs e
   obtain⟨ws,h1,a⟩:=ra.lst e;exact⟨_,ws,v,rfl,rfl,h1,by rw[<-af.length a];exact h.1,yt k ra e h1 (a.app (es:=[_]) (ws:=[v]) ⟨v,[],rfl,c,rfl⟩) h.2 λ_=>rfl⟩
  .exact h.elim
 .exact h.elim
@[irreducible] def lV(r q:Nat)(A:Ar)(R:DK):Prop:=match A[r]?,A[q]? with
 |some (.lst xs),some (.lst ys)=>xs.length+ys.length<=sizeLine/\R .ak (A.set r (.lst (xs++ys)))
 |_,_=>False
def vd:fU:=λx vs A R=>match x,vs with
 |.ref r,[.ref q]=>lV r q A R
 |_,_=>False
theorem pF{mg:ah}{K:PySem.W.Frag}:jw mg K "list" yy vd:=by
 intro x ds A ι H u f R Q ra c rs h k;unfold vd at h;split at h
 .obtain⟨_,rfl⟩:=c
  obtain⟨v,_,rfl,⟨_,rfl⟩,rfl⟩:=rs;unfold lV at h;split at h
  .rename_i xs ys e d
   obtain⟨ws,h1,a⟩:=ra.lst e;obtain⟨zs,h2,b⟩:=ra.lst d;exact⟨_,_,ws,zs,rfl,rfl,h1,h2,by rw[<-af.length a,<-af.length b];exact h.1,yt k ra e h1 (a.app b) h.2 λ_=>rfl⟩
  .exact h.elim
 .exact h.elim
def J1(RE:DX)(c:Str)(m:bB):bT:=λ_ τ A=>m τ A λvs A1=>vs.length<=sizeLine/\RE c A1
theorem pP{X:Cx}{N:En}{RE:DX}{x:Str}{C:Addr}{e:Expr}{m:bB}{np cpos pos:Pos}(f:Raises X (EL X.mg N RE))(hc:X.calm=true)(c:X.mg x=some (.ref C))(g:excIn X.K C n_ "ValueError.__new__"=true)(h:PA X [e] (c8 X.mg N m))(i:Gl X x:=by rfl)(a:(x==("__debug__":Str))=false:=by decide)
  (j:starEach [e] X.env=[(false,eval e X.env)]:=by rfl):PS X (.Raise (some (.Call (.Name x np) [e] [] cpos)) none pos) (bQ X.mg N (J1 RE x m)):=fM (Jh f hc c g h i a j) λQ σ H q=>by
 obtain⟨A,ι,τ,R,S,q,k⟩:=q;exact⟨A,ι,τ,_,S,q,λvs l b H1 r d n o p=>⟨by rw[<-af.length p];exact d.1,x,l,b,⟨C,rfl,c⟩,S.ex.trans n,o,d.2⟩⟩
def fO:D->Bool
 |.int _|.str _=>true
 |_=>false
def jO:D->D->Bool
 |.int i,.int j=>decide (i=j)
 |.str a,.str b=>decide (a=b)
 |_,_=>false
def g_(x:D)(xs:List D):Bool:=xs.any λy=>jO y x
section
variable{mg:ah}{K:PySem.W.Frag}{A:Ar}{ι:Io}{H:Hp}{n:Nat}
theorem p5{d:D}{v:V}(h:fO d=true)(r:RV mg ι n H d v):fZ v=true:=by
 cases d with
 |int i=>cases r;rfl
 |str i=>cases r;rfl
 |_=>cases h
theorem DC{d e:D}{u v:V}(h1:fO d=true)(h2:fO e=true)(b:RV mg ι n H d u)(a:RV mg ι n H e v):fh u v=jO d e:=by
 cases d with
 |int i=>
  cases b;cases e with
  |int j=>cases a;simp[fh,jO,Bool.beq_eq_decide_eq]
  |str j=>cases a;rfl
  |_=>cases h2
 |str i=>
  cases b;cases e with
  |int j=>cases a;rfl
  |str j=>cases a;simp[fh,jO,Bool.beq_eq_decide_eq]
  |_=>cases h2
 |_=>cases h1
theorem qj{x:D}{v:V}(a:fO x=true)(b:RV mg ι n H x v):∀{ds:List D} {vs:List V},ds.all fO=true->af mg ι n H ds vs->mu v vs=g_ x ds/\vs.all fZ=true
 |[],vs,_,r=>by cases (show vs=[] from r);exact⟨rfl,rfl⟩
 |d::ds,vs,h,r=>by
  obtain⟨y,r',rfl,h1,h2⟩:=r;have h':fO d=true/\ds.all fO=true:=by simpa using h
  obtain⟨c,e⟩:=qj a b h'.2 h2;constructor
  .show(fh y v||mu v r')=(jO d x||g_ x ds)
   rw[DC h'.1 a h1 b,c]
  .simp[p5 h'.1 h1,e]
end
abbrev kB(neg:Bool):R2:=λx y H Q=>∃a o,y=.ref a/\iP H a x o/\Q (.bl (if neg then !o.isSome else o.isSome)) H
theorem xN{X:Cx}(e:X.A.units+64<cLine):aM X (compareOp .In) (kB false):=by
 intro pins s σ H x y v u Q I b c h;obtain⟨a,o,rfl,g,q⟩:=h;cases c;exact Cs (by omega) I g b λf d=>⟨.bl o.isSome,H,d,rfl,q⟩
theorem Hy{X:Cx}(e:X.A.units+64<cLine):aM X (compareOp .NotIn) (kB true):=by
 intro pins s σ H x y v u Q I b c h;obtain⟨a,o,rfl,g,q⟩:=h;cases c;exact CD (by omega) I g b λf d=>⟨.bl (!o.isSome),H,d,rfl,q⟩
@[irreducible] def inR(neg:Bool)(x:D)(r:Nat)(A:Ar)(R:DK):Prop:=match A[r]? with
 |some (.lst xs)=>fO x=true/\xs.all fO=true/\R (.bl (if neg then !g_ x xs else g_ x xs)) A
 |some (.dct kvs)=>(match dj x with
  |some k=>R (.bl (if neg then !(aT kvs k).isSome else (aT kvs k).isSome)) A
  |none=>False)
 |_=>False
def inD(neg:Bool):cu:=λx y A R=>match y with
 |.tup xs=>fO x=true/\xs.all fO=true/\R (.bl (if neg then !g_ x xs else g_ x xs)) A
 |.ref r=>inR neg x r A R
 |_=>False
theorem uB{mg:ah}{K:PySem.W.Frag}(neg:Bool):bZ mg (λx y H Q=>rj K neg x y H Q\/kB neg x y H Q) (inD neg):=by
 intro x y A ι H u v R Q ra c l h k;unfold inD at h;split at h
 .obtain⟨a,xs,rfl,m,f⟩:=l
  obtain⟨g,i⟩:=qj h.1 c h.2.1 f;exact .inl ⟨a,xs,rfl,.inr (aN.of m),p5 h.1 c,i,by rw[g];exact k.here ra h.2.2 rfl⟩
 .obtain⟨_,rfl⟩:=l
  unfold inR at h;split at h
  .rename_i xs e
   obtain⟨j,h1,f⟩:=ra.lst e;obtain⟨g,i⟩:=qj h.1 c h.2.1 f;exact .inl ⟨_,j,rfl,.inl (aI.of h1),p5 h.1 c,i,by rw[g];exact k.here ra h.2.2 rfl⟩
  .rename_i kvs e
   obtain⟨j,h1,f⟩:=ra.dct e;split at h
   .rename_i b n
    cases iF n c;obtain⟨g,i⟩:=RK.get (k:=b) f;refine .inr ⟨_,cC j b,rfl,.inl ⟨j,b,.inl h1,rfl,rfl⟩,?_⟩;have o:(cC j b).isSome=(aT kvs b).isSome:=by
     cases q:aT kvs b with
     |none=>rw[i q];rfl
     |some d=>obtain⟨z,p,_⟩:=g d q;rw[p];rfl
    rw[o];exact k.here ra h rfl
   .exact h.elim
  .exact h.elim
 .exact h.elim
section
variable{X:Cx}{N:En}{pos:Pos}{a b c:Expr}{ma mb mc:ao}{x:Str}
theorem vr(i:Nat)(b:X.N[i]?=some x:=by rfl)(c:iS X.env.scope x:=by first|exact Or.inl rfl|exact Or.inr (Or.inl rfl)|exact Or.inr (Or.inr rfl))(hd:(x==("__debug__":Str))=false:=by decide)
 (a:(x==("__classdict__":Str))=false:=by decide):PE X (.Name x pos) (up X.mg N (dO i)):=C0 b c hd a
theorem Dj(c:X.A.units+64<cLine)(d:PE X a (up X.mg N ma))(e:PE X b (up X.mg N mb)):PE X (.Compare a [.Eq] [b] pos) (up X.mg N (b5 lU ma mb)):=uG (xM c) uA d e (iI _)
theorem fR(c:X.A.units+64<cLine)(d:PE X a (up X.mg N ma))(e:PE X b (up X.mg N mb)):PT X (.Compare a [.Eq] [b] pos) (bF X.mg N (d9 (b5 lU ma mb))):=gY (xM c) uA d e (iI _)
theorem kM(c:X.A.units+64<cLine)(d:PE X a (up X.mg N ma))(e:PE X b (up X.mg N mb)):PT X (.Compare a [.NotEq] [b] pos) (bF X.mg N (d9 (b5 qL ma mb))):=gY (Hx c) CC d e (iI _)
theorem z_(c:PE X a (up X.mg N ma))(d:PE X b (up X.mg N mb)):PT X (.Compare a [.Lt] [b] pos) (bF X.mg N (d9 (b5 qG ma mb))):=gY Hw CA c d (iI _)
theorem z7(c:PE X a (up X.mg N ma))(d:PE X b (up X.mg N mb)):PT X (.Compare a [.Gt] [b] pos) (bF X.mg N (d9 (b5 vP ma mb))):=gY HR Cr c d (iI _)
theorem Dk(c:PE X a (up X.mg N ma))(d:PE X b (up X.mg N mb)):PE X (.Compare a [.GtE] [b] pos) (up X.mg N (b5 vF ma mb)):=uG HQ Cp c d (iI _)
theorem LO(c:PE X a (up X.mg N ma))(d:PE X b (up X.mg N mb)):PT X (.Compare a [.IsNot] [b] pos) (bF X.mg N (d9 (b5 qP ma mb))):=gY Ia CF c d (iI _)
theorem z8(c:X.A.units+64<cLine)(d:PE X a (up X.mg N ma))(e:PE X b (up X.mg N mb))(f:behindInMarks .In b=false:=by rfl):PT X (.Compare a [.In] [b] pos) (bF X.mg N (d9 (b5 (inD false) ma mb))):=gY (HS.or (xN c)) (uB false) d e f
theorem jq(c:X.A.units+64<cLine)(d:PE X a (up X.mg N ma))(e:PE X b (up X.mg N mb))(f:behindInMarks .NotIn b=false:=by rfl):PT X (.Compare a [.NotIn] [b] pos) (bF X.mg N (d9 (b5 (inD true) ma mb))):=gY (H_.or (Hy c)) (uB true) d e f
theorem u6(d:PE X a (up X.mg N ma))(e:PE X b (up X.mg N mb))(hc:PE X c (up X.mg N mc))(f:lastMarks [.LtE,.LtE] [b,c]=false:=by with_unfolding_all rfl):PE X (.Compare a [.LtE,.LtE] [b,c] pos) (up X.mg N (jI je je ma mb mc)):=CM mS mS lJ lJ d e hc f
theorem z9(d:PE X a (up X.mg N ma))(e:PE X b (up X.mg N mb))(hc:PE X c (up X.mg N mc))(f:lastMarks [.LtE,.LtE] [b,c]=false:=by with_unfolding_all rfl):PT X (.Compare a [.LtE,.LtE] [b,c] pos) (bF X.mg N (d9 (jI je je ma mb mc))):=Dg mS mS lJ lJ d e hc f
end
theorem g5{P:Program}{w:World}{K:PySem.W.Frag}{mg:ah}{base:Heap}{x:Str}{st:Stmt}{Nm ps:List Str}{k n:Nat}{S:Ct}(T:TopD K mg x st ps)(Sc:bf Nm ps (aH st))(c:ps.length=n)(d:ps.length<=Nm.length)
  (b:∀(N:En) (RE:DX) (f:Addr) (a:Value) (B:Around) (outer:List Env) (s:Shared) (H:Hp) (E:XK),bV k (bC (aQ P w) P w K mg base Nm x (aH st) f a B outer s H E).A->
   Raises (bC (aQ P w) P w K mg base Nm x (aH st) f a B outer s H E) (EL mg N RE)->Passes (aQ P w) (bC (aQ P w) P w K mg base Nm x (aH st) f a B outer s H E) (EL mg N RE)->
   ∀ds A R,S ds A R RE->ds.length=n->∃m,bU (bC (aQ P w) P w K mg base Nm x (aH st) f a B outer s H E) (ee st) (bQ mg N m)/\m {nx:=λ_ A'=>R .ak A',rt:=R} (gJ (Nm.length - n) ds) A):aB P w K mg base (k+1) x ps (ay mg n S):=by
 refine TopD.g5 T Sc c d λN RE X _ _ _ _ _ _ _ _ e g i j ds A R h l=>?_;obtain⟨f,a,B,outer,s,H,E,rfl⟩:=e;exact b N RE f a B outer s H E g i j ds A R h l
def J3(c:cE)(b:bT):bT:=λR τ A=>∃W:Nat->aV->Ar->Prop,(∃n,W n τ A)/\∀n τ A,W n τ A->c τ A λk A1=>cond k (∃Nx:aV->Ar->Prop,(∀aO A',Nx aO A'->∃n',n'<n/\W n' aO A')/\b {R with nx:=Nx,ct:=Nx,bk:=R.nx} τ A1) (R.nx τ A1)
section
variable{X:Cx}{N:En}{pos:Pos}{c:Expr}{body:List Stmt}{tc:cE}{tb:bT}
theorem pQ(y:PassesOwn (model X.prog X.w) X.A X.env X.xe)(hc:PT X c (bF X.mg N tc))(B:bU X body (bQ X.mg N tb)):PS X (.While c body [] pos) (bQ X.mg N (J3 tc tb)):=fM (Jk y hc B) λQ σ H q=>by
 obtain⟨A,ι,τ,R,S,⟨W,⟨n,C⟩,turn⟩,k⟩:=q;refine⟨λn σ' H'=>∃A' ι' aO,bR X.mg N A' ι' aO σ' H'/\Ext A ι H A' ι' H'/\W n aO A',⟨n,A,ι,τ,S,S.ra.refl,C⟩,?_⟩;rintro m D H1 ⟨x,o,d,g,h,E⟩;refine⟨x,o,d,_,g,turn m d x E,λb F p H2 j a l=>?_⟩;cases b with
 |true=>
  rw[if_pos rfl];obtain⟨G,I,j⟩:=j;refine⟨λσ' H'=>∃A' ι' aO,bR X.mg N A' ι' aO σ' H'/\Ext A ι H A' ι' H'/\G aO A',λσ' H' ⟨A',ι',aO,J,K,z⟩=>?_,?_⟩
  .obtain⟨L,M,O⟩:=I aO A' z
   exact⟨L,M,A',ι',aO,J,K,O⟩
  .refine⟨F,p,d,_,g.next a l,j,⟨?_,k.rt.from (h.trans a),k.nx.from (h.trans a),?_⟩⟩
   .exact λe r f s P t i u v=>⟨r,f,e,(g.next a l).to i u v,(h.trans a).trans i,t⟩
   .exact λe r f s P t i u v=>⟨r,f,e,(g.next a l).to i u v,(h.trans a).trans i,t⟩
 |false=>
  rw[if_neg Bool.false_ne_true];exact(k.nx.from (h.trans a)).here (g.next a l) j
end
structure gP(mg:ah)(A0:Ar)(Ax:Io)(H0:Hp)(J:It)(items:List D)(cQ:Ar->Prop):Prop where
 go:∀(i:Nat) d A ι H,items[i]? =some d->Ext A0 Ax H0 A ι H->RA mg ι H A->cQ A->J.go i H/\∀x H',J.oh i H x H'->Ext A ι H A ι H'/\RA mg ι H' A/\RV mg ι A.length H' d x
 stop:∀A ι H,Ext A0 Ax H0 A ι H->RA mg ι H A->cQ A->J.stop items.length H
abbrev eV:=aV->Ar->(List D->(Ar->Prop)->Ar->Prop)->Prop
def gk(mg:ah)(N:En)(m:eV):TI:=λσ H Q=>∃A ι τ R,bR mg N A ι τ σ H/\m τ A R/\∀items cQ A' ι' H' J,R items cQ A'->Ext A ι H A' ι' H'->RA mg ι' H' A'->gP mg A' ι' H' J items cQ->Q J H'
theorem jM{X:Cx}{tg e:Expr}{t t':TI}(h:PI X tg e t)(w:∀σ H Q,t' σ H Q->t σ H Q):PI X tg e t':=λpins s σ H Q I q=>h pins s σ H Q I (w σ H Q q)
section
variable{mg:ah}{K:PySem.W.Frag}{A:Ar}{ι:Io}{H:Hp}
theorem Gf{a:Addr}{ds:List D}{xs:List V}(f:H a=some (.tup xs))(g:af mg ι A.length H ds xs):gP mg A ι H (oA K a) ds (λ_=>True) where
 go:=λi d h c H1 hd e r _=>by
  have b:=e.fix rfl f;obtain⟨v,h1,h2⟩:=af.get (af.ext e ds xs g) hd;refine⟨⟨xs,v,aN.of b,h1⟩,λx H' y=>?_⟩;obtain⟨rfl,y⟩:=y;have:=y xs (aN.of b);rw[h1] at this;cases this;exact⟨r.refl,r,h2⟩
 stop:=λh c H1 e r _=>⟨xs,aN.of (e.fix rfl f),by rw[af.length g];exact le_refl _⟩
theorem F_{a:Addr}{o:Obj}{ns:List Int}(f:H a=some (.aP o (.lst (ns.map V.int)))):gP mg A ι H (kW K a) (ns.map D.int) (λ_=>True) where
 go:=λi d g b H1 hd e r _=>by
  have c:aI K H1 a (ns.map V.int):=.inl (.inr ⟨o,e.fix rfl f⟩);obtain⟨v,h1,h2⟩:=af.get (af.ints (mg:=mg) (ι:=b) (H:=H1) ns (n:=g.length)) hd;refine⟨⟨_,v,c,h1⟩,λx H' y=>?_⟩;obtain⟨rfl,y⟩:=y;have:=y _ c;rw[h1] at this;cases this;exact⟨r.refl,r,h2⟩
 stop:=λg b H1 e r _=>⟨_,.inl (.inr ⟨o,e.fix rfl f⟩),by simp⟩
theorem Gb{q:Nat}{ds:List D}(b:q<A.length):gP mg A ι H (kW K (ι q)) ds (λA'=>A'[q]?=some (.lst ds)) where
 go:=λi d f a H1 hd e r hc=>by
  obtain⟨xs,h1,h2⟩:=r.lst hc;rw[e.ag q b] at h1;obtain⟨v,c,g⟩:=af.get h2 hd;refine⟨⟨xs,v,aI.of h1,c⟩,λx H' y=>?_⟩;obtain⟨rfl,y⟩:=y;have:=y xs (aI.of h1);rw[c] at this;cases this;exact⟨r.refl,r,g⟩
 stop:=λf a H1 e r hc=>by
  obtain⟨xs,h1,h2⟩:=r.lst hc;rw[e.ag q b] at h1;exact⟨xs,aI.of h1,by rw[af.length h2];exact le_refl _⟩
def c7(lo:Int)(n:Nat):List D:=(range n).map λ(i:Nat)=>D.int (lo+i)
theorem Gd{lo:Int}{n:Nat}:gP mg A ι H (kX lo n) (c7 lo n) (λ_=>True) where
 go:=λi d c a H1 hd e r _=>by
  unfold c7 at hd;rw[getElem?_map] at hd;cases q:(range n)[i]? with
  |none=>rw[q] at hd;cases hd
  |some j=>
   rw[q] at hd;have hi:=(List.getElem?_eq_some_iff.mp q).1;have b:=(List.getElem?_eq_some_iff.mp q).2;simp at hi b;subst b;cases hd;refine⟨hi,λx H' y=>?_⟩;obtain⟨rfl,rfl⟩:=y;exact⟨r.refl,r,rfl⟩
 stop:=λc a H1 e r _=>by
  show n<=_;simp[c7]
def fB(z:Str):List D:=z.cps.toList.map λc=>D.str ⟨#[c]⟩
theorem Ge{z:Str}:gP mg A ι H (oz z) (fB z) (λ_=>True) where
 go:=λi d b a H1 hd e r _=>by
  unfold fB at hd;rw[getElem?_map] at hd;cases q:z.cps.toList[i]? with
  |none=>rw[q] at hd;cases hd
  |some j=>
   rw[q] at hd;cases hd;have hi:=(List.getElem?_eq_some_iff.mp q).1;refine⟨show i<z.cps.size by simpa using hi,λx H' y=>?_⟩;obtain⟨rfl,c,hc,rfl⟩:=y;have:z.cps.toList[i]?=some c:=by simpa using hc
   rw[q] at this;cases this;exact⟨r.refl,r,rfl⟩
 stop:=λb a H1 e r _=>by
  show _=_;simp[fB]
end
def FA(K:PySem.W.Frag)(tl:TE):TI:=λσ H R=>tl σ H λx H1=>(∃a,x=.ref a/\(∃xs,aI K H1 a xs)/\R (kW K a) H1)\/(∃a,x=.ref a/\(∃xs,aN K H1 a xs)/\R (oA K a) H1)
theorem IT{X:Cx}{tg l:Expr}{tl:TE}(j:PE X l tl):PI X tg l (FA X.K tl):=by
 intro pins s σ H R I h;refine au (j pins s σ H _ I h) λv c ⟨x,H1,d,i,k⟩=>?_;rcases k with⟨a,e,⟨xs,f⟩,q⟩|⟨a,e,⟨xs,f⟩,q⟩
 .subst e
  cases i;obtain⟨its,m,p,n⟩:=d.list f;refine wpAny_pyIter_list p.isList ?_;refine⟨c.heap.objs.size,[c.heap.objs.size],_,_,H1,rfl,d.kept (t':=c.toks) λb o e=>get?_push_of_some _ e,LX a _,⟨_,get?_push_size _ rfl,rfl,rfl⟩,λb g=>?_,q⟩;have e:b=c.heap.objs.size:=by simpa using g
  subst e;exact d.iC (le_refl _) (d.hok.fresh (le_refl _))
 .subst e
  cases i;obtain⟨its,m,p,n⟩:=d.tuple f;refine wpAny_pyIter_tuple (show c.heap.IsTuple a its.toArray from p) ?_;refine⟨c.heap.objs.size,[c.heap.objs.size],_,_,H1,rfl,d.kept (t':=c.toks) λb o e=>get?_push_of_some _ e,L0 a _,⟨_,get?_push_size _ rfl,rfl,rfl⟩,λb g=>?_,q⟩;have e:b=c.heap.objs.size:=by simpa using g
  subst e;exact d.iC (le_refl _) (d.hok.fresh (le_refl _))
@[irreducible] def itR(r:Nat)(A:Ar)(R:List D->(Ar->Prop)->Ar->Prop):Prop:=match A[r]? with
 |some (.lst xs)=>R xs (λA'=>A'[r]?=some (.lst xs)) A
 |_=>False
def Fz(m:ao):eV:=λτ A R=>m τ A λx A1=>match x with
 |.tup xs=>R xs (λ_=>True) A1
 |.fl ns=>R (ns.map .int) (λ_=>True) A1
 |.ref r=>itR r A1 R
 |_=>False
def FE(m:ao):eV:=λτ A R=>m τ A λx A1=>match x with
 |.str z=>R (fB z) (λ_=>True) A1
 |_=>False
def Fx(n:bB):eV:=λτ A R=>n τ A λvs A1=>match vs with
 |[.int j]=> -(2 ^ 62)<=j/\j<2 ^ 62/\R (c7 0 j.toNat) (λ_=>True) A1
 |_=>False
section
variable{X:Cx}{N:En}{pos p:Pos}{tg e a b:Expr}{m:ao}{n:bB}{nm:Str}{px:Pos}
theorem ef(i:PE X e (up X.mg N m)):PI X tg e (gk X.mg N (Fz m)):=jM (IT i) λσ H Q q=>by
 obtain⟨A,ι,τ,R,S,q,k⟩:=q;refine⟨A,ι,τ,_,S,q,λx d c H1 u a g f h=>?_⟩;cases x with
 |tup ds=>
  obtain⟨b,xs,rfl,h1,h2⟩:=h;exact .inr ⟨b,rfl,⟨xs,aN.of h1⟩,k ds _ d c H1 _ a g f (Gf h1 h2)⟩
 |fl ns=>
  obtain⟨b,o,rfl,h1⟩:=h;exact .inl ⟨b,rfl,⟨_,.inl (.inr ⟨o,h1⟩)⟩,k _ _ d c H1 _ a g f (F_ h1)⟩
 |ref r=>
  obtain⟨j,rfl⟩:=h;have a:itR r d R:=a;unfold itR at a;split at a
  .rename_i xs e
   obtain⟨l,h1,_⟩:=f.lst e;exact .inl ⟨_,rfl,⟨l,aI.of h1⟩,k _ _ d c H1 _ a g f (Gb j)⟩
  .exact a.elim
 |_=>exact a.elim
theorem C6(c:PE X e (up X.mg N m)):PI X (.Name nm px) e (gk X.mg N (FE m)):=jM (IU c) λσ H Q q=>by
 obtain⟨A,ι,τ,R,S,q,k⟩:=q;refine⟨A,ι,τ,_,S,q,λx d a H1 u b f g h=>?_⟩;cases x with
 |str z=>exact⟨z,h,k _ _ d a H1 _ b f g Ge⟩
 |_=>exact b.elim
theorem C5(e:X.mg "range"=none)(f:PA X [a] (c8 X.mg N n))(g:Gl X "range":=by rfl)(hs:starEach [a] X.env=[(false,eval a X.env)]:=by rfl):PI X tg (.Call (.Name "range" p) [a] [] pos) (gk X.mg N (Fx n)):=jM (IS g e f hs) λσ H Q q=>by
 obtain⟨A,ι,τ,R,S,q,k⟩:=q;refine⟨A,ι,τ,_,S,q,λx h c H1 u b i l d=>?_⟩;match x,b,d with
 |[.int j],b,d=>
  obtain⟨_,_,rfl,rfl,rfl⟩:=d;exact⟨j,rfl,b.1,b.2.1,k _ _ h c H1 _ b.2.2 i l Gd⟩
end
def iW(cQ:Ar->Prop)(g:gp)(b:bT)(R:iO):List D->aV->Ar->Prop
 |[],τ,A=>cQ A/\R.nx τ A
 |x::xs,τ,A=>cQ A/\g x τ A λr_ A1=>b {R with nx:=iW cQ g b R xs,ct:=iW cQ g b R xs,bk:=R.nx} r_ A1
def yV(it:eV)(g:gp)(b:bT):bT:=λR τ A=>it τ A λitems cQ A1=>iW cQ g b R items τ A1
theorem fL{X:Cx}{N:En}{pos:Pos}{tg iter:Expr}{body:List Stmt}{it:eV}{g:gp}{tb:bT}(T:PassesOwn (model X.prog X.w) X.A X.env X.xe)(hc:X.calm=true)(hi:PI X tg iter (gk X.mg N it))(U:PG X tg (kR X.mg N g))(V:bU X body (bQ X.mg N tb))
  (hs:∀x,foldedSetIterable iter X.env x=pure x:=by intro _;rfl):PS X (.For tg iter body [] pos) (bQ X.mg N (yV it g tb)):=fM (Je T hc hi U V hs) λQ σ H q=>by
 obtain⟨A,ι,τ,R,S,q,k⟩:=q;refine⟨A,ι,τ,_,S,q,λitems n v b H1 J W s O P=>?_⟩;have Y:=S.next s O;refine⟨λi m σ' H'=>m=items.length - i/\i<=items.length/\∃A' ι' aO,bR X.mg N A' ι' aO σ' H'/\Ext v b H1 A' ι' H'/\iW n g tb R (items.drop i) aO A',⟨_,rfl,zero_le _,v,b,τ,Y,O.refl,by simpa using W⟩,?_⟩;rintro i m Z H2 ⟨rfl,hi,B,c,C,d,f,h⟩;by_cases D:i<items.length
 .right
  have hd:items.drop i=items[i]::items.drop (i+1):=by rw[drop_eq_getElem_cons D]
  rw[hd] at h;obtain⟨o,h⟩:=h;obtain⟨g1,g2⟩:=P.go i items[i] B c H2 (by rw[getElem?_eq_getElem D]) f d.ra o;refine⟨g1,λσ' H'=>∃A' ι' aO,bR X.mg N A' ι' aO σ' H'/\Ext v b H1 A' ι' H'/\iW n g tb R (items.drop (i+1)) aO A',λσ' H' ⟨A',ι',aO,z⟩=>⟨_,by omega,rfl,D,A',ι',aO,z⟩,λx H3 y=>?_⟩;obtain⟨p,t,v3⟩:=g2 x H3 y;refine⟨B,c,C,items[i],_,d.next p t,v3,h,λE A4 F Mp H4 q4 u G s4=>?_⟩;have a:=p.trans u;refine⟨A4,F,E,_,(d.next p t).to u G s4,q4,⟨?_,k.rt.from ((s.trans f).trans a),k.nx.from ((s.trans f).trans a),?_⟩⟩
  .exact λj I l K H5 L r M s5=>⟨I,l,j,((d.next p t).to u G s4).to r M s5,(f.trans a).trans r,L⟩
  .exact λj I l K H5 L r M s5=>⟨I,l,j,((d.next p t).to u G s4).to r M s5,(f.trans a).trans r,L⟩
 .left
  have e:i=items.length:=by omega
  subst e;rw[List.drop_length] at h;exact⟨P.stop B c H2 f d.ra h.1,(k.nx.from (s.trans f)).here d h.2⟩
def kP:Option Nat->D->Option (List D)
 |none,x=>some [x]
 |some k,.tup ds=>if ds.length=k then some ds else none
 |some _,_=>none
def gS(cQ:Ar->Prop)(k:Option Nat)(fr:aV)(tt:cE)(te:ao)(R:List D->Ar->Prop):List D->List D->Ar->Prop
 |[],ys,A=>cQ A/\R ys A
 |x::xs,ys,A=>cQ A/\match kP k x with
  |some vs=>tt (vs.map some++fr) A λb A3=>cond b (te (vs.map some++fr) A3 λy A4=>ys.length<sizeLine/\gS cQ k fr tt te R xs (ys++[y]) A4) (gS cQ k fr tt te R xs ys A3)
  |none=>False
def iA(k:Option Nat)(ix:List Nat)(it:eV)(tt:cE)(te:ao):ao:=λτ A R=>it τ A λitems cQ A1=>gS cQ k (ix.map (lk τ)) tt te (λys A2=>R (.ref A2.length) (A2++[.lst ys])) items [] A1
def jQ:Nat->Nat->fX
 |_,0=>vD
 |i,n+1=>vC (ja i) (jQ (i+1) n)
def kN(K:PySem.W.Frag):Option Nat->TG
 |none=>ja 0
 |some k=>vE K k (jQ 0 k)
theorem vO{Q:L2.St->Hp->Prop}{H:Hp}{fs:L2.St}:∀(xs:List V) (dn:L2.St),Q (dn++(xs.map some++fs)) H->jQ dn.length xs.length xs (dn++(replicate xs.length none++fs)) H Q
 |[],dn,h=>⟨rfl,by simpa using h⟩
 |x::r,dn,h=>by
  refine⟨x,r,rfl,?_⟩;show jQ (dn.length+1) r.length r ((dn++(replicate (r.length+1) none++fs)).set dn.length (some x)) H Q;have e:(dn++(replicate (r.length+1) none++fs)).set dn.length (some x)=(dn++[some x])++(replicate r.length none++fs):=by
   rw[List.set_append_right _ _ (le_refl _)];simp[List.replicate_succ]
  rw[e];have:=vO r (dn++[some x]) (by simpa using h);simpa using this
theorem wF{fs:L2.St}:∀(xs:L2.St),dJ (replicate xs.length none++fs) (xs++fs)
 |[]=>dJ.refl fs
 |x::r=>.own (wF r)
section
variable{mg:ah}{K:PySem.W.Frag}{A:Ar}{ι:Io}{H:Hp}
theorem LP{k:Option Nat}{d:D}{vs:List D}{x:V}{n:Nat}(b:kP k d=some vs)(r:RV mg ι n H d x):∃xs,af mg ι n H vs xs/\vs.length=k.getD 1/\∀(fs:L2.St) (Q:L2.St->Hp->Prop),Q (xs.map some++fs) H->kN K k x (replicate (k.getD 1) none++fs) H Q:=by
 cases k with
 |none=>
  cases b;exact⟨[x],⟨x,[],rfl,r,rfl⟩,rfl,λfs Q q=>q⟩
 |some k=>
  cases d with
  |tup ds=>
   have b:(if ds.length=k then some ds else none)=some vs:=b;by_cases c:ds.length=k
   .rw[if_pos c] at b
    cases b;obtain⟨a,xs,rfl,h1,h2⟩:=r;have f:=af.length h2;refine⟨xs,h2,c,λfs Q q=>⟨a,xs,rfl,aN.of h1,by rw[<-f];exact c,?_⟩⟩;have:=vO (Q:=Q) (H:=H) (fs:=fs) xs [] q;show jQ 0 k xs (replicate k none++fs) H Q;have e:k=xs.length:=by rw[<-f,c]
    rw[e];exact this
   .rw[if_neg c] at b
    cases b
  |_=>cases b
theorem RA.off(R:RA mg ι H A){p:Addr}{o u:HO}(a:∀r,r<A.length->ι r≠p)(d:H p=some u)(e:fk u=true):RA mg ι (upd H p o) A:=
 ⟨λr c h=>CO.ag (le_refl _) (λ_ _=>rfl) (λb q m z=>by
  rw[aF]
  .exact z
  .rintro rfl
   rw[d] at z;cases z;rw[e] at m;cases m) (λq z=>by rw[aF (a r (List.getElem?_eq_some_iff.mp h).1)];exact z) c (R.d7 r c h),R.inj⟩
end
theorem K9{own:List Str}{ix:List Nat}{σ:L2.St}:L2.stC own ix σ=replicate own.length none++ix.map λi=>(σ[i]?).join:=by
 unfold L2.stC;rw[List.map_const']
theorem wZ:∀(ds:List D) (fr:aV) (i:Nat) (d:D),lk (ds.map some++fr) i=some d->(ds[i]?=some d)\/(ds.length<=i/\lk fr (i - ds.length)=some d)
 |[],fr,i,d,h=>.inr ⟨zero_le _,by simpa using h⟩
 |x::r,fr,0,d,h=>.inl (by simpa[lk] using h)
 |x::r,fr,i+1,d,h=>by
  rcases wZ r fr i d (by simpa[lk] using h) with q|⟨a,b⟩
  .exact .inl (by simpa using q)
  .exact .inr ⟨by simpa using a,by simpa using b⟩
theorem RS.block{mg:ah}{ι:Io}{n:Nat}{H:Hp}{τ:aV}{σ:L2.St}{ix:List Nat}{vs:List D}{xs:List V}(r:RS mg ι n H τ σ)(h:af mg ι n H vs xs):RS mg ι n H (vs.map some++ix.map (lk τ)) (xs.map some++ix.map λi=>(σ[i]?).join):=⟨by simp[af.length h],λi d q=>by
 have b:=af.length h;rcases wZ vs _ i d q with q|⟨c,a⟩
 .obtain⟨v,h1,h2⟩:=af.get h q
  have hi:=(List.getElem?_eq_some_iff.mp h1).1;exact⟨v,by rw[getElem?_append_left (by simpa using hi),getElem?_map,h1];rfl,h2⟩
 .rw[mJ,getElem?_map] at a
  cases e:ix[i - vs.length]? with
  |none=>rw[e] at a;simp at a
  |some j=>
   rw[e] at a;have a:lk τ j=some d:=by simpa using a
   obtain⟨v,h1,h2⟩:=r.at' j d a;refine⟨v,?_,h2⟩;rw[getElem?_append_right (by simpa[<-b] using c),getElem?_map,length_map,<-b,e];simp[h1]⟩
section
variable{X:Cx}{N:En}{own frees:List Str}{ix:List Nat}{it:eV}{tt:cE}{te:ao}{k:Option Nat}
theorem rW(hk:own.length=k.getD 1){tT:CP->TT}(hT:∀c σ H Q,bF X.mg N tt σ H Q->tT c σ H Q){σ:L2.St}{H:Hp}{Q:VK}(q:up X.mg N (iA k ix it tt te) σ H Q):rN own ix (gk X.mg N it) (λ_=>kN X.K k) tT (λ_=>up X.mg N te) σ H Q:=by
 obtain⟨A,ι,τ,R,S,q,kq⟩:=q;refine⟨A,ι,τ,_,S,q,λitems W A1 F H1 J q1 e1 r1 j1 c acc f=>?_⟩;have S1:=S.next e1 r1;rw[K9,hk];have Y:∀r,r<A1.length->F r≠acc:=λr n z=>by
  obtain⟨o,h1,_⟩:=r1.im r n;rw[z,f] at h1;cases h1
 have rn:=r1.lW (o:=.lst []) f;refine⟨λi m ys H'=>m=items.length - i/\i<=items.length/\∃A' ι' d,RA X.mg ι' H' A'/\Ext A1 F H1 A' ι' H'/\(∀r,r<A'.length->ι' r≠acc)/\H' acc=some (.lst ys)/\af X.mg ι' A'.length H' d ys/\gS W k (ix.map (lk τ)) tt te (λys a=>R (.ref a.length) (a++[.lst ys])) (items.drop i) d A',
  ⟨_,rfl,zero_le _,A1,F,[],r1.fix rn (λb o z=>by rw[aF (bG z f)];exact z),rn,Y,cj,rfl,by simpa using q1⟩,?_⟩
 rintro i m ys H2 ⟨rfl,hi,a,g,d,r2,D,l,hy,ry,E⟩;refine⟨hy,?_⟩;by_cases G:i<items.length
 .right
  have hd:items.drop i=items[i]::items.drop (i+1):=by rw[drop_eq_getElem_cons G]
  rw[hd] at E;obtain⟨t,E⟩:=E;obtain⟨g1,g2⟩:=j1.go i items[i] a g H2 (by rw[getElem?_eq_getElem G]) D r2 t;refine⟨g1,λO H'=>∃A' ι' L,RA X.mg ι' H' A'/\Ext A1 F H1 A' ι' H'/\(∀r,r<A'.length->ι' r≠acc)/\H' acc=some (.lst O)/\af X.mg ι' A'.length H' L O/\gS W k (ix.map (lk τ)) tt te (λys a=>R (.ref a.length) (a++[.lst ys])) (items.drop (i+1)) L A',λO H' z=>⟨_,by omega,rfl,G,z⟩,λx H3 y=>?_⟩;obtain⟨e3,r3,v3⟩:=g2 x H3 y;split at E
  .rename_i vs hu
   obtain⟨xs,h1,h2,h3⟩:=LP (K:=X.K) hu v3;refine h3 _ _ ⟨by have:=wF (fs:=ix.map λi=>(σ[i]?).join) (xs.map some);rw[length_map,<-af.length h1,h2] at this;exact this,?_⟩;have I:=D.trans e3;have S3:bR X.mg N a g (vs.map some++ix.map (lk τ)) (xs.map some++ix.map λi=>(σ[i]?).join) H3:=⟨r3,RS.block (S1.rs.ext I) h1,S1.ex.trans I⟩;have Z:H3 acc=some (.lst ys):=e3.mo acc _ hy l;refine hT _ _ _ _ ⟨a,g,_,_,S3,E,λb A4 P H4 q4 T r4=>?_⟩;have w:∀r,r<A4.length->P r≠acc:=λr n z=>by
    by_cases G:r<a.length
    .rw[T.ag r G] at z;exact l r G z
    .have:=T.nw r (by omega) n
     rw[z,Z] at this;cases this
   have U:H4 acc=some (.lst ys):=T.mo acc _ Z l;have yS:=af.ext (e3.trans T) d ys ry;cases b with
   |true=>
    refine F1 ?_;refine⟨A4,P,_,_,S3.next T r4,q4,λv A5 Ay H5 u q5 e5 r5 v5=>?_⟩;have V:H5 acc=some (.lst ys):=e5.mo acc _ U w;have M:∀r,r<A5.length->Ay r≠acc:=λr n z=>by
     by_cases G:r<A4.length
     .rw[e5.ag r G] at z;exact w r G z
     .have:=e5.nw r (by omega) n
      rw[z,U] at this;cases this
    have yT:=af.ext e5 d ys yS;have p:=(I.trans T).trans e5;have fx:∀b o,fk o=false->H5 b=some o->upd H5 acc (.lst (ys++[u])) b=some o:=λb o m z=>by
     rw[aF]
     .exact z
     .rintro rfl
      rw[V] at z;cases z;cases m
    refine⟨V,by rw[<-af.length yT];exact q5.1,A5,Ay,d++[v],r5.off M V rfl,⟨p.len,p.ag,p.im,λb o z hn=>?_,p.nw,λb o z=>?_⟩,M,cj,?_,q5.2⟩
    .rw[aF (bG z f)];exact p.mo b o z hn
    .obtain⟨o',h'⟩:=p.al b o z
     exact⟨o',by rw[aF (bG z f)];exact h'⟩
    .exact af.ag (le_refl _) (λ_ _=>rfl) fx _ _ (yT.app (es:=[v]) (ws:=[u]) ⟨u,[],rfl,v5,rfl⟩)
   |false=>
    refine F0 ?_;exact⟨A4,P,d,r4,I.trans T,w,U,yS,q4⟩
  .exact E.elim
 .left
  have e:i=items.length:=by omega
  subst e;rw[List.drop_length] at E;obtain⟨t,E⟩:=E;refine⟨j1.stop a g H2 D r2 t,?_⟩;obtain⟨B,j,at2⟩:∃B:Io,(∀r,r<a.length->B r=g r)/\B a.length=acc:=⟨λr=>if r=a.length then acc else g r,λr h=>by
   show(if r=a.length then acc else g r)=g r;rw[if_neg (by omega)],by
   show(if a.length=a.length then acc else g a.length)=acc;rw[if_pos rfl]⟩
  refine kq (.ref a.length) (a++[.lst d]) B H2 _ E (e1.trans ⟨by have:=D.len;simp;omega,λr h=>by rw[j r (lt_of_lt_of_le h D.len)];exact D.ag r h,D.im,D.mo,λr h1 h2=>?_,D.al⟩) ⟨λr c h=>?_,λr s n hs h=>?_⟩ ⟨by simp,by rw[at2]⟩
  .by_cases n:r<a.length
   .rw[j r n];exact D.nw r h1 n
   .have:r=a.length:=by simp at h2;omega
    subst this;rw[at2];exact f
  .by_cases n:r<a.length
   .rw[getElem?_append_left n] at h
    have:=CO.ag (n':=(a++[C.lst d]).length) (ι':=B) (H':=H2) (by simp) j (λ_ _ _ z=>z) (λ_ z=>z) c (r2.d7 r c h);rw[j r n];exact this
   .have hr':r=a.length:=by
     have:=(List.getElem?_eq_some_iff.mp h).1;simp at this;omega
    subst hr';simp at h;subst h;rw[at2];exact⟨ys,hy,af.ag (by simp) j (λ_ _ _ z=>z) d ys ry⟩
  .simp at n hs
   by_cases h1:r=a.length
   .by_cases h2:s=a.length
    .rw[h1,h2]
    .subst h1
     rw[at2,j s (by omega)] at h;exact absurd h.symm (l s (by omega))
   .by_cases h2:s=a.length
    .subst h2
     rw[at2,j r (by omega)] at h;exact absurd h (l r (by omega))
    .rw[j r (by omega),j s (by omega)] at h
     exact r2.inj r s (by omega) (by omega) h
end
def kO:cE:=λ_ A R=>R true A
section
variable{X:Cx}{N:En}{own frees:List Str}{ix:List Nat}{it:eV}{tt:cE}{te:ao}(k:Option Nat){tg iter elt jG:Expr}{scope:Scope}{pos:Pos}
theorem iY(a:own.length=k.getD 1)(hi:PI X tg iter (gk X.mg N it))(b:∀c,PG (aZ X (own++frees) scope c) tg (kN X.K k))(d:∀c,PE (aZ X (own++frees) scope c) elt (up X.mg N te))(S:dD X scope frees:=by exact⟨rfl,by decide+kernel,by decide+kernel,by decide+kernel,by decide+kernel,rfl⟩)(hc:X.calm=true:=by rfl)(e:ix.map (λi=>X.N[i]?)=frees.map some:=by rfl)(hs:∀x,foldedSetIterable iter X.env x=pure x:=by intro _;rfl):
  PE X (.ListComp elt [⟨tg,iter,[],0⟩] scope pos) (up X.mg N (iA k ix it kO te)):=
 bX (x9 hi b (λc=>fF.nil) d S hc e hs) λσ H Q q=>rW (own:=own) a (λ_ σ H Q h=>by
  obtain⟨A,ι,τ,R,S,h,k⟩:=h;exact k.here S.ra h) q
theorem CN(a:own.length=k.getD 1)(hi:PI X tg iter (gk X.mg N it))(b:∀c,PG (aZ X (own++frees) scope c) tg (kN X.K k))(d:∀c,PT (aZ X (own++frees) scope c) jG (bF X.mg N tt))(e:∀c,PE (aZ X (own++frees) scope c) elt (up X.mg N te))(S:dD X scope frees:=by exact⟨rfl,by decide+kernel,by decide+kernel,by decide+kernel,by decide+kernel,rfl⟩)(hc:X.calm=true:=by rfl)(f:ix.map (λi=>X.N[i]?)=frees.map some:=by rfl)(hs:∀x,foldedSetIterable iter X.env x=pure x:=by intro _;rfl):
  PE X (.ListComp elt [⟨tg,iter,[jG],0⟩] scope pos) (up X.mg N (iA k ix it tt te)):=
 bX (x9 hi b (λc=>fF.one (d c)) e S hc f hs) λσ H Q q=>rW (own:=own) a (λ_ σ H Q h=>h) q
variable{i:Nat}{x:Str}{pos' spos:Pos}
theorem Dd(a:X.N.Nodup)(b:X.N[i]?=some x)(f:Loc X.env.scope x)(g:own.length=k.getD 1)(hi:PI X tg iter (gk X.mg N it))(j:∀c,PG (aZ X (own++frees) scope c) tg (kN X.K k))(l:∀c,PT (aZ X (own++frees) scope c) jG (bF X.mg N tt))(m:∀c,PE (aZ X (own++frees) scope c) elt (up X.mg N te))(S:dD X scope frees:=by exact⟨rfl,by decide+kernel,by decide+kernel,by decide+kernel,by decide+kernel,rfl⟩)(hc:X.calm=true:=by rfl)(n:ix.map (λi=>X.N[i]?)=frees.map some:=by rfl)(hs:∀x,foldedSetIterable iter X.env x=pure x:=by intro _;rfl)
  (d:swapsWith (.ListComp elt [⟨tg,iter,[jG],0⟩] scope pos) (some (.Name x pos')) spos.line X.env=pure true:=by rfl)(o:X.fn x=true\/X.env.scope.names.lookup x=some .local:=by first|exact .inl rfl|exact .inr rfl|assumption):
  PS X (.Assign [.Name x pos'] (.ListComp elt [⟨tg,iter,[jG],0⟩] scope pos) spos) (bQ X.mg N (nK i (iA k ix it tt te))):=
 fM (Jb a b f hi j (λc=>fF.one (l c)) m S hc n hs d o) λQ σ H q=>by
  obtain⟨A,ι,τ,R,Z,q,k⟩:=q;exact rW (own:=own) g (λ_ σ H Q h=>h) ⟨A,ι,τ,_,Z,q,λv w p H1 u r e s t=>(k.nx.from e).here ((Z.next e s).set t) r⟩
end
abbrev ir:=aV->Ar->(Option Int->Ar->Prop)->Prop
def jt(mg:ah)(N:En)(m:ir):TO:=λσ H Q=>∃A ι τ R,bR mg N A ι τ σ H/\m τ A R/\∀o A' ι' H',R o A'->Ext A ι H A' ι' H'->RA mg ι' H' A'->Q o H'
def oN:ir:=λ_ A R=>R none A
def oS(m:ao):ir:=λτ A R=>m τ A λx A1=>match x with
 |.int i=>R (some i) A1
 |_=>False
def cutD(xs:List D)(lo hi:Option Int):List D:=(xs.drop (HT.av xs.length 0 lo)).take (HT.av xs.length xs.length hi - HT.av xs.length 0 lo)
theorem af.cut{mg:ah}{ι:Io}{H:Hp}{n:Nat}{ds:List D}{vs:List V}(r:af mg ι n H ds vs)(lo hi:Option Int):af mg ι n H (cutD ds lo hi) (gU vs lo hi):=by
 unfold cutD gU;rw[<-af.length r];exact(r.drop _).take _
@[irreducible] def kG(r:Nat)(lo hi:Option Int)(A:Ar)(R:DK):Prop:=match A[r]? with
 |some (.lst xs)=>R (.ref A.length) (A++[.lst (cutD xs lo hi)])
 |_=>False
def KG(x:D)(lo hi:Option Int)(A:Ar)(R:DK):Prop:=match x with
 |.tup xs=>¬(HT.av xs.length 0 lo=0/\HT.av xs.length xs.length hi=xs.length)/\R (.tup (cutD xs lo hi)) A
 |.ref r=>kG r lo hi A R
 |_=>False
def Cj(m:ao)(l u:ir):ao:=λτ A R=>m τ A λx A1=>l τ A1 λlo A2=>u τ A2 λhi A3=>KG x lo hi A3 R
section
variable{X:Cx}{N:En}{pos p2:Pos}{e:Expr}{lo hi:Option Expr}{m:ao}{l u:ir}
theorem uY{t t':TO}(h:PO X lo t)(w:∀σ H Q,t' σ H Q->t σ H Q):PO X lo t':=λpins s σ H Q I q=>h pins s σ H Q I (w σ H Q q)
theorem pM:PO X none (jt X.mg N oN):=uY IY λσ H Q q=>by
 obtain⟨A,ι,τ,R,S,q,k⟩:=q;exact k none A ι H q S.ra.refl S.ra
theorem pN(h:PE X e (up X.mg N m)):PO X (some e) (jt X.mg N (oS m)):=uY (IZ h) λσ H Q q=>by
 obtain⟨A,ι,τ,R,S,q,k⟩:=q;refine⟨A,ι,τ,_,S,q,λx c a H1 u b d f g=>?_⟩;cases x with
 |int i=>exact⟨i,g,k (some i) c a H1 b d f⟩
 |_=>exact b.elim
theorem CW(t:PE X e (up X.mg N m))(w:PO X lo (jt X.mg N l))(y:PO X hi (jt X.mg N u)):PE X (.Subscript e (.Slice lo hi none p2) pos) (up X.mg N (Cj m l u)):=
 bX (x_ (zP.or KJ) t w y) λσ H Q q=>by
  obtain⟨A,ι,τ,R,S,q,k⟩:=q;refine⟨A,ι,τ,_,S,q,λx z d H1 v B f n C=>?_⟩;refine⟨z,d,τ,_,S.next f n,B,λD E g H2 F h G=>?_⟩;refine⟨E,g,τ,_,(S.next f n).next h G,F,λI J K M b o i=>?_⟩;have c:=(f.trans h).trans o;have s:=RV.ext (h.trans o) x v C;cases x with
  |tup ds=>
   obtain⟨a,xs,rfl,h1,h2⟩:=s;refine .inl ⟨a,xs,rfl,aN.of h1,by rw[<-af.length h2];exact b.1,λp j=>j7 (k.from c) i (h2.cut _ _) b.2 j⟩
  |ref r=>
   obtain⟨_,rfl⟩:=s;have b:kG r D I J R:=b;unfold kG at b;split at b
   .rename_i xs e
    obtain⟨L,h1,h2⟩:=i.lst e;exact .inr ⟨_,L,rfl,aI.of h1,λp j=>fm (k.from c) i (h2.cut _ _) b j⟩
   .exact b.elim
  |_=>exact b.elim
end
def gf:List D->Option (List Str)
 |[]=>some []
 |.str b::r=>(gf r).map (b::·)
 |_::_=>none
theorem z0{mg:ah}{ι:Io}{n:Nat}{H:Hp}:∀{ds:List D} {a:List V} {bs:List Str},gf ds=some bs->af mg ι n H ds a->a=bs.map V.str
 |[],a,bs,h,r=>by cases h;exact r
 |d::ds,a,bs,h,r=>by
  obtain⟨x,r',rfl,h1,h2⟩:=r;cases d with
  |str b=>
   cases q:gf ds with
   |none=>simp[gf,q] at h
   |some l=>
    simp[gf,q] at h;subst h;rw[z0 q h2];cases h1;rfl
  |_=>simp[gf] at h
theorem af.strs{mg:ah}{ι:Io}{H:Hp}:∀(ns:List Str) {n:Nat},af mg ι n H (ns.map D.str) (ns.map V.str)
 |[],_=>rfl
 |i::r,n=>⟨_,_,rfl,rfl,af.strs r⟩
@[irreducible] def kH(r:Nat)(A:Ar)(R:DK):Prop:=match A[r]? with
 |some (.lst xs)=>(match gf xs with
  |some ss=>ss.length<64/\∀ys:List Str,ys.Pairwise strLt->(∀x,x∈ys↔x∈ss)->R (.ref A.length) (A++[.lst (ys.map D.str)])
  |none=>False)
 |_=>False
def K2:dF:=λvs A R=>match vs with
 |[.ref r]=>kH r A R
 |_=>False
theorem CY{X:Cx}{N:En}{e:Expr}{n:bB}{p1 p2 pos1 pos2:Pos}(b:X.mg "sorted"=none)(c:X.mg "set"=none)(hc:X.calm=true)(i:PA X [e] (c8 X.mg N n))(d:Gl X "sorted":=by rfl)(f:Gl X "set":=by rfl)
  (hs:starEach [e] X.env=[(false,eval e X.env)]:=by rfl)(j:starEach [.Call (.Name "set" p2) [e] [] pos2] X.env=[(false,eval (.Call (.Name "set" p2) [e] [] pos2) X.env)]:=by rfl):
  PE X (.Call (.Name "sorted" p1) [.Call (.Name "set" p2) [e] [] pos2] [] pos1) (up X.mg N (jH K2 n)):=bX (IG b c hc i d f hs j) λσ H Q q=>by
 obtain⟨A,ι,τ,R,S,q,k⟩:=q;refine⟨A,ι,τ,_,S,q,λvs m o H1 p a s h g=>?_⟩;match vs,a,g with
 |[.ref r],a,g=>
  obtain⟨_,_,rfl,⟨_,rfl⟩,rfl⟩:=g;have a:kH r m R:=a;unfold kH at a;split at a
  .rename_i xs e
   split at a
   .rename_i ss es
    obtain⟨p,h1,h2⟩:=h.lst e;exact⟨_,ss,rfl,aI.of (by rw[h1,z0 es h2]),a.1,λl ys t u v=>fm (k.from s) h (af.strs ys) (a.2 ys u v) t⟩
   .exact a.elim
  .exact a.elim
def bh{β:Type}(kvs:List (Key×β))(k:Key)(v:β):List (Key×β):=
 if (kvs.any λkv=>decide (kv.1=k))=true then kvs.map (λkv=>if kv.1=k then (kv.1,v) else kv) else kvs++[(k,v)]
section
variable{mg:ah}{ι:Io}{H:Hp}{n:Nat}
theorem RK.any{k:Key}:∀{kvs:List (Key×D)} {xs:List (Key×V)},RK mg ι n H kvs xs->(kvs.any λa=>decide (a.1=k))=(xs.any λa=>decide (a.1=k))
 |[],xs,h=>by cases (show xs=[] from h);rfl
 |p::r,xs,h=>by
  obtain⟨x,r',rfl,h1,h2⟩:=h;rw[any_cons,any_cons,RK.any h2]
theorem RK.qH{k:Key}{d:D}{v:V}(c:RV mg ι n H d v):∀{kvs:List (Key×D)} {xs:List (Key×V)},RK mg ι n H kvs xs->RK mg ι n H (kvs.map λa=>if a.1=k then (a.1,d) else a) (xs.map λa=>if a.1=k then (a.1,v) else a)
 |[],xs,h=>by cases (show xs=[] from h);rfl
 |p::r,xs,h=>by
  obtain⟨x,r',rfl,h1,h2⟩:=h;rw[map_cons,map_cons];by_cases b:p.1=k
  .rw[if_pos b,if_pos b];exact⟨v,_,rfl,c,RK.qH c h2⟩
  .rw[if_neg b,if_neg b];exact⟨x,_,rfl,h1,RK.qH c h2⟩
theorem RK.app:∀{ds es:List (Key×D)} {vs ws:List (Key×V)},RK mg ι n H ds vs->RK mg ι n H es ws->RK mg ι n H (ds++es) (vs++ws)
 |[],_,vs,_,h,q=>by have h':vs=[]:=h;rw[h'];exact q
 |d::ds,es,vs,ws,h,q=>by
  obtain⟨x,r,rfl,a,b⟩:=h;exact⟨x,r++ws,rfl,a,RK.app b q⟩
theorem RK.put{k:Key}{d:D}{v:V}(a:RV mg ι n H d v){kvs:List (Key×D)}{xs:List (Key×V)}(h:RK mg ι n H kvs xs):RK mg ι n H (bh kvs k d) (putK xs k v):=by
 unfold bh putK;rw[RK.any h];split
 .exact RK.qH a h
 .exact h.app (es:=[(k,d)]) (ws:=[(k,v)]) ⟨v,[],rfl,a,rfl⟩
end
def cU:List D->Option (List (Key×D))
 |[]=>some []
 |.tup [a,b]::r=>(match dj a,cU r with
  |some k,some l=>some ((k,b)::l)
  |_,_=>none)
 |_::_=>none
def nF(ps:List (Key×D)):List (Key×D):=ps.foldl (λacc p=>bh acc p.1 p.2) []
section
variable{mg:ah}{K:PySem.W.Frag}{ι:Io}{H:Hp}{n:Nat}
theorem xV:∀{ds:List D} {c:List V} {ps:List (Key×D)},cU ds=some ps->af mg ι n H ds c->∃qs,RK mg ι n H ps qs/\c.length=qs.length/\∀(i:Nat) (x:V) (p:Key×V),c[i]?=some x->qs[i]?=some p->∃t,x=.ref t/\aN K H t [kV p.1,p.2]
 |[],c,ps,h,r=>by
  cases h;cases (show c=[] from r);exact⟨[],rfl,rfl,λi x p e=>by simp at e⟩
 |.tup [a,b]::ds,c,ps,h,r=>by
  obtain⟨x,r',rfl,h1,h2⟩:=r;unfold cU at h;split at h
  .rename_i k l o q
   cases h;obtain⟨qs,s,u,v⟩:=xV q h2;obtain⟨t,xs,rfl,w,C,_,rfl,y,d,_,rfl,A,B⟩:=h1;obtain rfl:=B;cases iF o y;refine⟨(k,d)::qs,⟨d,qs,rfl,A,s⟩,by simp[u],λi z p j m=>?_⟩;cases i with
   |zero=>
    have f:V.ref t=z:=by simpa using j
    have g:(k,d)=p:=by simpa using m
    subst f g;exact⟨t,rfl,aN.of w⟩
   |succ i=>exact v i z p (by simpa using j) (by simpa using m)
  .cases h
 |.ak::_,_,_,h,_=>by simp[cU] at h
 |.bl _::_,_,_,h,_=>by simp[cU] at h
 |.int _::_,_,_,h,_=>by simp[cU] at h
 |.str _::_,_,_,h,_=>by simp[cU] at h
 |.ref _::_,_,_,h,_=>by simp[cU] at h
 |.fl _::_,_,_,h,_=>by simp[cU] at h
 |.exc _::_,_,_,h,_=>by simp[cU] at h
 |.tup []::_,_,_,h,_=>by simp[cU] at h
 |.tup [_]::_,_,_,h,_=>by simp[cU] at h
 |.tup (_::_::_::_)::_,_,_,h,_=>by simp[cU] at h
theorem RK.fold{ps:List (Key×D)}{qs:List (Key×V)}(h:RK mg ι n H ps qs):∀{acc:List (Key×D)} {jz:List (Key×V)},RK mg ι n H acc jz->RK mg ι n H (ps.foldl (λacc p=>bh acc p.1 p.2) acc) (qs.foldl (λacc p=>putK acc p.1 p.2) jz):=by
 induction ps generalizing qs with
 |nil=>intro acc jz a;cases (show qs=[] from h);exact a
 |cons p r b=>
  intro acc jz a;obtain⟨x,r',rfl,h1,h2⟩:=h;exact b h2 (RK.put h1 a)
end
theorem xC{mg:ah}{A:Ar}{ι:Io}{H:Hp}{R:DK}{Q:VK}{ds:List (Key×D)}{xs:List (Key×V)}{p:Addr}(k:Kt mg A ι H R Q)(r:RA mg ι H A)(h:RK mg ι A.length H ds xs)(q:R (.ref A.length) (A++[.dct ds]))(a:H p=none):Q (.ref p) (upd H p (.dK xs)):=by
 have E:Ext A ι H (A++[.dct ds]) (λr=>if r=A.length then p else ι r) (upd H p (.dK xs)):=r.pZ a;obtain⟨b,d⟩:=r.push (c:=.dct ds) (o:=.dK xs) a ⟨xs,cj,by simpa using RK.ext E ds xs h⟩;refine k _ _ _ _ _ q d b ⟨by simp,?_⟩;show V.ref p=V.ref (if A.length=A.length then p else ι A.length);rw[if_pos rfl]
@[irreducible] def dctP(xs:List D)(A:Ar)(R:DK):Prop:=match cU xs with
 |some ps=>ps.length<=1000/\R (.ref A.length) (A++[.dct (nF ps)])
 |none=>False
@[irreducible] def lN(r:Nat)(A:Ar)(R:DK):Prop:=match A[r]? with
 |some (.lst xs)=>dctP xs A R
 |_=>False
def uE:dF:=λvs A R=>match vs with
 |[.tup xs]=>dctP xs A R
 |[.ref r]=>lN r A R
 |_=>False
theorem RK.len'{mg:ah}{ι:Io}{H:Hp}{n:Nat}{ds:List (Key×D)}{vs:List (Key×V)}(h:RK mg ι n H ds vs):vs.length=ds.length:=(RK.length h).symm
theorem uz{mg:ah}{K:PySem.W.Frag}:eK mg (λxs H Q=>∃(p:Addr) (ts:List V) (ps:List (Key×V)),xs=[.ref p]/\(H p=some (.lst ts)\/H p=some (.tup ts))/\Pairs K H ts ps/\ps.length<=1000/\∀d,H d=none->Q (.ref d) (upd H d (.dK (putAll ps)))) uE:=by
 intro ds A ι H c R Q ra rs h k;have fin:∀(xs:List D) (ts:List V) (p:Addr),af mg ι A.length H xs ts->(H p=some (.lst ts)\/H p=some (.tup ts))->dctP xs A R->∃(q:Addr) (ts:List V) (ps:List (Key×V)),[V.ref p]=[.ref q]/\(H q=some (.lst ts)\/H q=some (.tup ts))/\Pairs K H ts ps/\ps.length<=1000/\∀d,H d=none->Q (.ref d) (upd H d (.dK (putAll ps))):=λxs ts p r g h=>by
  unfold dctP at h;split at h
  .rename_i ps ep
   obtain⟨qs,f,i,j⟩:=xV (K:=K) ep r;exact⟨p,ts,qs,rfl,g,⟨i,j⟩,by rw[RK.len' f];exact h.1,λd hd=>xC k ra (RK.fold f (acc:=[]) (jz:=[]) rfl) h.2 hd⟩
  .exact h.elim
 unfold uE at h;split at h
 .obtain⟨_,_,rfl,⟨a,xs,rfl,l,b⟩,rfl⟩:=rs
  exact fin _ xs a b (.inr l) h
 .obtain⟨_,_,rfl,⟨_,rfl⟩,rfl⟩:=rs
  unfold lN at h;split at h
  .rename_i xs e
   obtain⟨c,h1,b⟩:=ra.lst e;exact fin _ c _ b (.inl h1) h
  .exact h.elim
 .exact h.elim
def Cf:ao:=λ_ A R=>R (.ref A.length) (A++[.dct []])
theorem uJ{X:Cx}{N:En}{pos:Pos}:PE X (.Dict [] [] pos) (up X.mg N Cf):=bX Iv λσ H Q q=>by
 obtain⟨A,ι,τ,R,S,q,k⟩:=q;exact λp a=>xC (ds:=[]) (xs:=[]) k S.ra rfl q a
@[irreducible] def ku(r:Nat)(y v:D)(A:Ar)(R:Ar->Prop):Prop:=match A[r]?,dj y with
 |some (.dct kvs),some k=>kvs.length<sizeLine/\R (A.set r (.dct (bh kvs k v)))
 |_,_=>False
def JZ(mo mi mv:ao):bT:=λR τ A=>mv τ A λv A1=>mo τ A1 λx A2=>mi τ A2 λy A3=>match x with
 |.ref r=>ku r y v A3 λA4=>R.nx τ A4
 |_=>False
theorem lR{X:Cx}{N:En}{pos pos':Pos}{o i value:Expr}{mo s mv:ao}(W:X.A.units+64<cLine)(C:PE X o (up X.mg N mo))(hi:PE X i (up X.mg N s))(D:PE X value (up X.mg N mv))(hs:swapsWith value (some (.Subscript o i pos')) pos.line X.env=pure false):
  PS X (.Assign [.Subscript o i pos'] value pos) (bQ X.mg N (JZ mo s mv)):=fM (Jc (by omega) C hi D hs) λQ σ H q=>by
 obtain⟨A,ι,τ,R,S,q,k⟩:=q;refine⟨A,ι,τ,_,S,q,λv F j H1 w G b l I=>?_⟩;refine⟨F,j,τ,_,S.next b l,G,λx J m H2 u K d t v2=>?_⟩;refine⟨J,m,τ,_,(S.next b l).next d t,K,λy L M Y z a f g O=>?_⟩;have n:=RV.ext (d.trans f) v w I;have p:=RV.ext f x u v2;cases x with
 |ref r=>
  obtain⟨_,rfl⟩:=p;have a:ku r y v L (λP=>R.nx τ P):=a;unfold ku at a;split at a
  .rename_i kvs h e T
   obtain⟨xs,h1,h2⟩:=g.dct e;cases iF T O;refine⟨_,_,rfl,jv.k h1 (by rw[<-RK.length h2];exact a.1),?_⟩;have U:=(List.getElem?_eq_some_iff.mp e).1;have E:=g.i8 (o:=.dK (putK xs h w)) (c:=.dct (bh kvs h v)) U;obtain⟨V,B⟩:=g.put (c':=.dct (bh kvs h v)) (o:=.dK (putK xs h w)) e h1 rfl ⟨_,cj,by simpa using RK.ext E _ _ (RK.put n h2)⟩;exact(k.nx.from (((b.trans d).trans f).trans B)).here ((((S.next b l).next d t).next f g).next B V) a.2
  .exact a.elim
 |_=>exact a.elim
def Hi:DX:=λ_ _=>False
theorem qV{X:Cx}{N:En}{P:Program}{w:World}:Passes (aQ P w) X (EL X.mg N Hi):=λpins σ H s e s' I h=>by
 obtain⟨a,C,H',_,_,c,A',ι',_,_,_,z⟩:=h;exact z.elim
theorem Gu{K:PySem.W.Frag}:∀t∈tys,kitOne K (.type t) (.type "bool")=some (gC t "bool"):=by
 intro t a;simp only[tys,mem_cons,not_mem_nil,or_false] at a;rcases a with rfl|rfl|rfl|rfl|rfl|rfl|rfl<;>rfl
theorem Gv{K:PySem.W.Frag}:∀t∈tys,kitOne K (.type t) (.type "int")=some (gC t "int"):=by
 intro t a;simp only[tys,mem_cons,not_mem_nil,or_false] at a;rcases a with rfl|rfl|rfl|rfl|rfl|rfl|rfl<;>rfl
theorem wD{K:PySem.W.Frag}:∀t∈tys,kitOne K (.type t) (.type "str")=some (gC t "str"):=by
 intro t a;simp only[tys,mem_cons,not_mem_nil,or_false] at a;rcases a with rfl|rfl|rfl|rfl|rfl|rfl|rfl<;>rfl
theorem kit_tuple{K:PySem.W.Frag}:∀t∈tys,kitOne K (.type t) (.type "tuple")=some (gC t "tuple"):=by
 intro t a;simp only[tys,mem_cons,not_mem_nil,or_false] at a;rcases a with rfl|rfl|rfl|rfl|rfl|rfl|rfl<;>rfl
theorem Gw{K:PySem.W.Frag}:∀t∈tys,kitOne K (.type t) (.type "list")=some (gC t "list"):=by
 intro t a;simp only[tys,mem_cons,not_mem_nil,or_false] at a;rcases a with rfl|rfl|rfl|rfl|rfl|rfl|rfl<;>rfl
theorem cI{b:Bool}{X Y:Prop}(h1:b=true->X)(h2:b=false->Y):cond b X Y:=by
 cases b with
 |true=>exact h1 rfl
 |false=>exact h2 rfl
theorem cD{p:Prop}[Decidable p]{X Y:Prop}(h1:p->X)(h2:¬p->Y):cond (decide p) X Y:=cI (λe=>h1 (of_decide_eq_true e)) λe=>h2 (of_decide_eq_false e)
theorem cN{p:Prop}[Decidable p]{X Y:Prop}(h1:¬p->X)(h2:p->Y):cond (!decide p) X Y:=cI (λe=>h1 (of_decide_eq_false (by simpa using e))) λe=>h2 (of_decide_eq_true (by simpa using e))
def bO(t:Nat)(A A':Ar):Prop:=∀q c,q≠t->A[q]?=some c->A'[q]?=some c
theorem bO.refl{t:Nat}{A:Ar}:bO t A A:=λ_ _ _ h=>h
theorem bO.trans{t:Nat}{A B C:Ar}(a:bO t A B)(b:bO t B C):bO t A C:=λq c n h=>b q c n (a q c n h)
theorem bO.set{t:Nat}{A:Ar}{c:C}:bO t A (A.set t c):=λq d n h=>by rw[getElem?_set_ne (Ne.symm n)];exact h
def Tw(t n:Nat)(A:Ar):Prop:=∃xs,A[t]?=some (.lst xs)/\xs.length<=n
theorem Tw.mono{t n m:Nat}{A:Ar}(h:Tw t n A)(l:n<=m):Tw t m A:=let ⟨xs,a,b⟩:=h;⟨xs,a,le_trans b l⟩
theorem getElem?_push{A T:Ar}{q:Nat}{c:C}(h:A[q]?=some c):(A++T)[q]?=some c:=by
 have:=(List.getElem?_eq_some_iff.mp h).1;rw[getElem?_append_left this];exact h
def Gr(A A':Ar):Prop:=∃T,A'=A++T
theorem Gr.refl{A:Ar}:Gr A A:=⟨[],by simp⟩
theorem Gr.push{A T:Ar}:Gr A (A++T):=⟨T,rfl⟩
theorem Gr.trans{A B C:Ar}(a:Gr A B)(b:Gr B C):Gr A C:=by
 obtain⟨T,rfl⟩:=a;obtain⟨c,rfl⟩:=b;exact⟨T++c,by simp⟩
theorem Gr.get{A B:Ar}(a:Gr A B){q:Nat}{c:C}(h:A[q]?=some c):B[q]?=some c:=by
 obtain⟨T,rfl⟩:=a;exact getElem?_push h
theorem Gr.but{A B:Ar}{t:Nat}(a:Gr A B):bO t A B:=λ_ _ _ h=>a.get h
theorem Tw.gr{A B:Ar}{t n:Nat}(h:Tw t n A)(a:Gr A B):Tw t n B:=let ⟨xs,x,y⟩:=h;⟨xs,a.get x,y⟩
def sI:Ct:=λds A R _=>∃ns k,ds=[.fl ns,.int k]/\0<=k/\∀i A',Gr A A'->R (.int i) A'
def sU:Ct:=λds A R _=>∃ns k m,ds=[.fl ns,.int k,.int m]/\0<=k/\0<m/\∀i A',0<=i->i<m->Gr A A'->R (.int i) A'
def k9:Ct:=λds A R _=>∃ns t m n,ds=[.fl ns,.ref t,.int m]/\Tw t n A/\n<1000000/\0<m/\∀i A',0<=i->i<m->bO t A A'->Tw t (n+1) A'->R (.int i) A'
def oO:Ct:=λds A R _=>∃ns t q xs n,ds=[.fl ns,.ref t,.ref q]/\q≠t/\A[q]?=some (.lst xs)/\xs≠[]/\Tw t n A/\n<1000000/\∀x A',x∈xs->bO t A A'->Tw t (n+1) A'->R x A'
theorem o4{α:Type}{xs:List α}{k:Int}(h0:0<=k)(h:k<(xs.length:Int)):∃v,bW xs k=some v/\v∈xs:=by
 have a:k.toNat<xs.length:=by omega
 refine⟨xs[k.toNat],?_,getElem_mem a⟩;unfold bW gD;rw[if_pos h0,if_pos h];simp[getElem?_eq_getElem a]
theorem lay_ints:∀ns:List Int,canLayAll0 (ns.map PyData.int)=true
 |[]=>by simp[canLayAll0]
 |n::r=>by simp[canLayAll0,canLay0,lay_ints r]
theorem aR{A:Ar}{c:C}:(A++[c])[A.length]?=some c:=by simp
theorem DE{ns:List Int}{A:Ar}{R:DK}(h:R (.bl (decide (ns=[]))) (A++[.lst []])):fY false (.fl ns) (.ref A.length) (A++[.lst []]) R:=by
 unfold fY;have a:cO (A++[.lst []]) (.ref A.length)=.list []:=by unfold cO;simp only[aR];rfl
 have b:cO (A++[.lst []]) (.fl ns)=.list (ns.map PyData.int):=by unfold cO;rfl
 refine⟨rfl,?_,?_,?_,?_,?_⟩
 .unfold iJ;simp only[aR];rfl
 .rw[b];simpa[canLay0] using lay_ints ns
 .rw[a];simp[canLay0,canLayAll0]
 .rw[a];simp[PyData.depth,depthAll];omega
 .rw[b,a]
  have e:PyData.eqv (.list (ns.map PyData.int)) (.list [])=decide (ns=[]):=by cases ns<;>simp[PyData.eqv,eqvAll]
  rw[if_neg Bool.false_ne_true,e];exact h
section
variable{A:Ar}{r q t:Nat}{xs ys:List D}{kvs:List (Key×D)}{R:DK}
theorem f9(h:A[r]?=some (.lst xs)):iD A (.ref r)=true:=by unfold iD;simp only[h]
theorem iy{y:D}(h:A[r]?=some (.lst xs))(a:xs.length<sizeLine)(k:R .ak (A.set r (.lst (xs++[y])))):lu r y A R:=by
 unfold lu;simp only[h];exact⟨a,k⟩
theorem pY(h:A[r]?=some (.lst xs))(h2:A[q]?=some (.lst ys))(a:xs.length+ys.length<=sizeLine)(k:R .ak (A.set r (.lst (xs++ys)))):lV r q A R:=by
 unfold lV;simp only[h,h2];exact⟨a,k⟩
theorem pe(h:A[r]?=some (.lst xs))(h2:A[q]?=some (.lst ys))(a:xs.length+ys.length<=sizeLine)(k:R (.ref A.length) (A++[.lst (xs++ys)])):lC r q A R:=by
 unfold lC;simp only[h,h2];exact⟨a,k⟩
theorem jf(h:A[r]?=some (.lst xs))(k:R (.int xs.length) A):mH r A R:=by
 unfold mH;simp only[h];exact k
theorem wz{i:Int}{v:D}(h:A[r]?=some (.lst xs))(hi:bW xs i=some v)(k:R v A):jd r (.int i) A R:=by
 unfold jd;simp only[h,hi];exact k
theorem nZ(h:A[r]?=some (.lst xs))(k:R (.tup xs) A):nY r A R:=by
 unfold nY;simp only[h];exact k
theorem get_set(h:A[t]?=some (.lst xs)):(A.set t (.lst ys))[t]?=some (.lst ys):=by
 rw[getElem?_set_self (List.getElem?_eq_some_iff.mp h).1]
theorem cB{c:C}(h:A[t]?=some c):t<A.length:=(List.getElem?_eq_some_iff.mp h).1
end
end DP
namespace L2
section
variable{X:Cx}{D:Addr}{cn:Str}{b₀:Stmt}{suite body:List Stmt}{tb:List (Addr×Obj)->(aj)->XK->TS}{th:TS}{np hpos pos:Pos}
end
end L2
namespace DP
open L2
open MA
abbrev M:=aK Str
def enc:M->D
 |.wt n=>.tup [.str "weight",.str n]
 |.bK l r a b=>.tup [.str "rod",.int l,.int r,enc a,enc b]
theorem lF{k:Option Nat}{fr:aV}{te:ao}{a:Ar->Prop}{R:List D->Ar->Prop}{A:Ar}(hc:a A)(f:D->D):∀(items ys:List D),(∀x∈items,∃vs,kP k x=some vs/\∀Q:DK,Q (f x) A->te (vs.map some++fr) A Q)->ys.length+items.length<=sizeLine->R (ys++items.map f) A->gS a k fr kO te R items ys A
 |[],ys,_,_,h=>⟨hc,by simpa using h⟩
 |x::xs,ys,b,c,h=>by
  obtain⟨vs,d,e⟩:=b x (mem_cons_self ..);refine⟨hc,?_⟩;rw[d];refine e _ ⟨by simp at c;omega,lF hc f xs (ys++[f x]) (λy g=>b y (mem_cons_of_mem _ g)) (by simp at c ⊢;omega) (by simpa using h)⟩
theorem ua{α:Type}(f:α->Bool):∀xs:List α,fH (xs.map λx=>D.bl (f x))=some (xs.map f)
 |[]=>rfl
 |x::r=>by simp[fH,ua f r]
theorem strs_map{α:Type}(f:α->Str):∀xs:List α,gf (xs.map λx=>D.str (f x))=some (xs.map f)
 |[]=>rfl
 |x::r=>by simp[gf,strs_map f r]
theorem Bl{A:Ar}{r:Nat}{xs:List D}{bs:List Bool}{R:DK}(h:A[r]?=some (.lst xs))(a:fH xs=some bs)(k:R (.bl (bs.all id)) A):allR r A R:=by
 unfold allR;simp only[h,a];exact k
theorem K3{A:Ar}{r:Nat}{xs:List D}{ss:List Str}{R:DK}(h:A[r]?=some (.lst xs))(a:gf xs=some ss)(h2:ss.length<64)(k:∀ys:List Str,ys.Pairwise strLt->(∀x,x∈ys↔x∈ss)->R (.ref A.length) (A++[.lst (ys.map D.str)])):kH r A R:=by
 unfold kH;simp only[h,a];exact⟨h2,k⟩
theorem gb{A:Ar}{r:Nat}{xs:List D}{R:List D->(Ar->Prop)->Ar->Prop}(h:A[r]?=some (.lst xs))(k:R xs (λA'=>A'[r]?=some (.lst xs)) A):itR r A R:=by
 unfold itR;simp only[h];exact k
structure Nm(n:Str):Prop where
 lo:1<=n.length
 hi:n.length<=3
 az:∀c∈n.cps.toList,97<=c/\c<=122
structure Wf(m:M):Prop where
 arms:m.arms
 nm:∀n∈m.names,Nm n
def SV(dom:List D->D->Prop):Ct:=λds A R _=>∃v,dom ds v/\∀A',Gr A A'->R v A'
def SL(dom:List D->List D->Prop):Ct:=λds A R _=>∃v,dom ds v/\∀A' r,Gr A A'->A'[r]?=some (.lst v)->R (.ref r) A'
abbrev oJ:Ct:=SV λds v=>∃m,ds=[enc m]/\Wf m/\m.deep<=5/\v=.ak
theorem p6{P:Program}{w:World}{K:PySem.W.Frag}{mg:ah}{base:Heap}{x:Str}{st:Stmt}{ps:List Str}{k n:Nat}{S:Ct}(T:TopD K mg x st ps)(no:∀ds A R RE,¬S ds A R RE):aB P w K mg base k x ps (ay mg n S):=by
 obtain⟨f,fd,F,b,m⟩:=T;have a:∀vs H Q E,¬ay mg n S vs H Q E:=λvs H Q E h=>by
  obtain⟨A,ι,ds,R,RE,_,_,_,z,_⟩:=h;exact no _ _ _ _ z
 exact⟨f,fd,⟨λvs H Q E h=>absurd h (a vs H Q E),λA outer s H args c vs Q E _ _ _ _ h=>absurd h (a vs H Q E)⟩,b,F.kp,m⟩
def jl(r:Str×Int):D:=.tup [.str r.1,.int r.2]
def Ds(rs:List (Str×Int)):D:=.tup (rs.map jl)
def cT(rs:List (Str×Int)):List (Key×D):=rs.map λr=>(Sum.inr r.1,.int r.2)
structure oV(rs:List (Str×Int)):Prop where
 nm:∀r∈rs,Nm r.1
 no:∀r∈rs,1<=r.2/\r.2<=999999
 up:(rs.map (·.1)).Pairwise strLt
 len:rs.length<64
def val(rs:List (Str×Int))(n:Str):Int:=((rs.find? λr=>r.1=n).map (·.2)).getD 0
theorem Lb{a b:Str}(h:strLt a b):a≠b:=λe=>by
 subst e;exact List.lt_irrefl _ h
theorem qa:∀(rs:List (Str×Int)) (n:Str),n∈rs.map (·.1)->aT (cT rs) (Sum.inr n)=some (.int (val rs n))
 |[],n,h=>by simp at h
 |r::rs,n,h=>by
  unfold cT aT val;by_cases e:r.1=n
  .simp[e]
  .have h':n∈rs.map (·.1):=by
    rcases mem_cons.mp (show n∈r.1::rs.map (·.1) from h) with q|q
    .exact absurd q.symm e
    .exact q
   have a:¬(Sum.inr r.1:Key)=Sum.inr n:=λz=>e (Sum.inr.inj z);have:=qa rs n h';simp only[map_cons,a,if_false,find?_cons,e,decide_false];exact this
theorem Al{rs:List (Str×Int)}(a:oV rs){n:Str}(h:n∈rs.map (·.1)):1<=val rs n/\val rs n<=999999:=by
 unfold val;cases q:rs.find? λr=>r.1=n with
 |none=>
  obtain⟨r,b,e⟩:=mem_map.mp h;have:=List.find?_eq_none.mp q r b;simp[e] at this
 |some r=>
  have:=mem_of_find?_eq_some q;exact a.no r this
theorem qZ{kvs:List (Key×D)}{k:Key}{v:D}(h:∀p∈kvs,p.1≠k):bh kvs k v=kvs++[(k,v)]:=by
 unfold bh;rw[if_neg];intro z;obtain⟨p,a,e⟩:=any_eq_true.mp z;exact h p a (of_decide_eq_true e)
theorem yq:∀(rs:List (Str×Int)) (acc:List (Key×D)),(rs.map (·.1)).Pairwise strLt->(∀p∈acc,∀r∈rs,p.1≠Sum.inr r.1)->(cT rs).foldl (λacc p=>bh acc p.1 p.2) acc=acc++cT rs
 |[],acc,_,_=>by simp[cT]
 |r::rs,acc,f,c=>by
  have b:=pairwise_cons.mp (show(r.1::rs.map (·.1)).Pairwise strLt from f);have e:bh acc (Sum.inr r.1) (.int r.2)=acc++[(Sum.inr r.1,.int r.2)]:=qZ λp a=>c p a r (mem_cons_self ..);show(cT rs).foldl _ (bh acc (Sum.inr r.1) (.int r.2))=_;rw[e,yq rs _ b.2]
  .simp[cT]
  .intro p a q d
   rcases mem_append.mp a with z|z
   .exact c p z q (mem_cons_of_mem _ d)
   .have g:p=(Sum.inr r.1,.int r.2):=by simpa using z
    subst g;exact λe=>Lb (b.1 q.1 (mem_map_of_mem d)) (Sum.inr.inj e)
theorem xW:∀rs:List (Str×Int),cU (rs.map jl)=some (cT rs)
 |[]=>rfl
 |r::rs=>by
  have:=xW rs;simp only[map_cons,jl,cU,dj,this,cT]
theorem C7{rs:List (Str×Int)}(a:oV rs){A:Ar}{R:DK}(k:R (.ref A.length) (A++[.dct (cT rs)])):dctP (rs.map jl) A R:=by
 unfold dctP;rw[xW];refine⟨by simp[cT];have:=a.len;omega,?_⟩;unfold nF;rw[yq rs [] a.up (λp h=>by simp at h)];exact k
theorem Nm.ok{n:Str}(h:Nm n):canLay0 (.str n)=true:=by
 have e:n.cps.all (λc=>decide (c<0x110000))=true:=by
  rw[<-Array.all_toList,all_eq_true];intro c hc;have:=h.az c hc;exact decide_eq_true (by omega)
 simpa[canLay0,PyData.strOk] using e
theorem yk:∀ss:List Str,fy (ss.map D.str)=true
 |[]=>rfl
 |s::r=>by simp[fy,fu,yk r]
theorem nH:∀ss:List Str,bM (ss.map D.str)=ss.map PyData.str
 |[]=>rfl
 |s::r=>by simp[bM,toQ,nH r]
theorem qw:∀ss:List Str,(∀n∈ss,Nm n)->canLayAll0 (ss.map PyData.str)=true
 |[],_=>by simp[canLayAll0]
 |s::r,h=>by
  have h1:=(h s (mem_cons_self ..)).ok;have h2:=qw r λn a=>h n (mem_cons_of_mem _ a);simp[canLayAll0,h1,h2]
theorem uS:∀ss:List Str,depthAll (ss.map PyData.str)=0
 |[]=>by simp[depthAll]
 |s::r=>by simp[depthAll,PyData.depth,uS r]
theorem gE{A:Ar}{r:Nat}{kvs:List (Key×D)}{y v:D}{k:Key}{R:DK}(h:A[r]?=some (.dct kvs))(a:dj y=some k)(b:aT kvs k=some v)(q:R v A):jd r y A R:=by
 unfold jd;simp only[h,a,b];exact q
theorem fP{A:Ar}{r:Nat}{kvs:List (Key×D)}{y:D}{k:Key}{R:DK}{neg:Bool}(h:A[r]?=some (.dct kvs))(a:dj y=some k)(q:R (.bl (if neg then !(aT kvs k).isSome else (aT kvs k).isSome)) A):inR neg y r A R:=by
 unfold inR;simp only[h,a];exact q
def rd(a b:Int):Int×Int:=(a/(Int.gcd a b:Int),b/(Int.gcd a b:Int))
abbrev sL:Ct:=SV λds v=>∃a b:Int,ds=[.int a,.int b]/\0<=a/\0<=b/\v=.int (Int.gcd a b:Int)
abbrev sZ:Ct:=SV λds v=>∃a b:Int,ds=[.int a,.int b]/\0<a/\0<b/\a<2 ^ 2000/\v=.tup [.int (rd a b).1,.int (rd a b).2]
theorem Gr.len{A B:Ar}(a:Gr A B):A.length<=B.length:=by
 obtain⟨T,rfl⟩:=a;simp
structure Dr(t:Nat)(A A':Ar)(n k:Nat):Prop where
 but:bO t A A'
 tw:Tw t (n+k) A'
abbrev sS(d:Nat):Ct:=SL λds v=>∃m,ds=[enc m]/\m.deep<d/\d<=8/\v=m.names.map D.str
end DP
namespace DP
open L2
section
variable{X:Cx}{N:En}{e:Expr}{m:ao}{p p2 pos:Pos}{x:Str}{Ms:Str->Option Bool}
end
section
variable{X:Cx}{N:En}{k n:Nat}{x:Str}{ps:List Str}{S:Ct}{e:Expr}{es:List Expr}{m:bB}{p pos:Pos}
end
end DP
namespace L2
section
variable{X:Cx}
end
end L2
namespace DP
open L2
section
variable{X:Cx}{N:En}{pos:Pos}{a b:Expr}{ma mb:ao}
end
end DP
namespace L2
section
variable{prog:Program}{w:World}{B:Around}{E:aj}
end
section
variable{X:Cx}{pos:Pos}
end
end L2
namespace DP
open L2
theorem Gr.set{A B:Ar}{r:Nat}{c:C}(g:Gr A B)(h:A.length<=r):Gr A (B.set r c):=by
 obtain⟨T,rfl⟩:=g;exact⟨T.set (r - A.length) c,by rw[List.set_append_right _ _ h]⟩
open MA
theorem Wf.left{l r:Int}{a b:M}(h:Wf (.bK l r a b)):Wf a:=⟨h.arms.2.2.2.2.1,λn c=>h.nm n (by simp[aK.names,c])⟩
theorem Wf.right{l r:Int}{a b:M}(h:Wf (.bK l r a b)):Wf b:=⟨h.arms.2.2.2.2.2,λn c=>h.nm n (by simp[aK.names,c])⟩
theorem af.of_get{mg:ah}{ι:Io}{H:Hp}{n:Nat}:∀{ds:List D} {vs:List V},ds.length=vs.length->(∀(i:Nat) d v,ds[i]?=some d->vs[i]?=some v->RV mg ι n H d v)->af mg ι n H ds vs
 |[],[],_,_=>rfl
 |[],_::_,h,_=>by cases h
 |_::_,[],h,_=>by cases h
 |d::ds,v::vs,h,k=>⟨v,vs,rfl,k 0 d v rfl rfl,af.of_get (by simpa using h) λi d v h1 h2=>k (i+1) d v (by simpa using h1) (by simpa using h2)⟩
@[irreducible] def L5(a b:Nat)(A:Ar)(R:DK):Prop:=match A[a]?,A[b]? with
 |some (.lst xs),some (.lst ys)=>R (.tup ((xs.zip ys).map λp=>.tup [p.1,p.2])) A
 |_,_=>False
def Mt(n:bB):ao:=λτ A R=>n τ A λvs A1=>match vs with
 |[.ref a,.ref b]=>L5 a b A1 R
 |_=>False
@[irreducible] def nL(r:Nat)(A:Ar)(R:DK):Prop:=match A[r]? with
 |some (.dct kvs)=>∃ns:List Str,kvs.map (·.1)=ns.map Sum.inr/\ns.Nodup/\ns.length<64/\∀ys:List Str,ys.Pairwise strLt->(∀x,x∈ys↔x∈ns)->R (.ref A.length) (A++[.lst (ys.map D.str)])
 |_=>False
def zK:dF:=λvs A R=>match vs with
 |[.ref r]=>nL r A R
 |_=>False
theorem RK.keys{mg:ah}{ι:Io}{H:Hp}{n:Nat}:∀{ds:List (Key×D)} {vs:List (Key×V)},RK mg ι n H ds vs->vs.map (·.1)=ds.map (·.1)
 |[],vs,h=>by have h':vs=[]:=h;rw[h'];rfl
 |d::ds,vs,h=>by
  obtain⟨x,r,rfl,_,a⟩:=h;simp[RK.keys a]
theorem CH{mg:ah}:eK mg (λxs H Q=>∃(d:Addr) (kvs:List (Key×V)) (ns:List Str),xs=[.ref d]/\H d=some (.dK kvs)/\kvs.map (·.1)=ns.map Sum.inr/\ns.Nodup/\ns.length<64/\
  ∀(l:Addr) (ys:List Str),H l=none->ys.Pairwise strLt->(∀x,x∈ys↔x∈ns)->Q (.ref l) (upd H l (.lst (ys.map V.str)))) zK:=by
 intro ds A ι H m R Q ra rs h k;unfold zK at h;split at h
 .obtain⟨_,_,rfl,⟨_,rfl⟩,rfl⟩:=rs
  unfold nL at h;split at h
  .rename_i kvs e
   obtain⟨ns,h1,h2,a,b⟩:=h;obtain⟨xs,c,f⟩:=ra.dct e;exact⟨_,xs,ns,rfl,c,by rw[RK.keys f,h1],h2,a,λl ys g i j=>fm k ra (af.strs ys) (b ys i j) g⟩
  .exact h.elim
 .exact h.elim
theorem Kz{A:Ar}{r:Nat}{kvs:List (Key×D)}{ns:List Str}{R:DK}(h:A[r]?=some (.dct kvs))(b:kvs.map (·.1)=ns.map Sum.inr)(c:ns.Nodup)(a:ns.length<64)(k:∀ys:List Str,ys.Pairwise strLt->(∀x,x∈ys↔x∈ns)->R (.ref A.length) (A++[.lst (ys.map D.str)])):nL r A R:=by
 unfold nL;simp only[h];exact⟨ns,b,c,a,k⟩
open MA
def br:M->Str->Rat->List (Str×Str×Rat)
 |.wt n,w,x=>[(w,n,x)]
 |.bK l r a b,w,x=>br a (w++("l":Str)) (x*((r:Rat)/((l+r:Int):Rat)))++br b (w++("r":Str)) (x*((l:Rat)/((l+r:Int):Rat)))
theorem kF:∀(m:M) (w:Str) (x:Rat),(br m w x).length=m.names.length
 |.wt _,_,_=>rfl
 |.bK _ _ a b,w,x=>by
  show List.length (_++_)=List.length (_++_);rw[length_append,length_append,kF a,kF b]
theorem j6{m:M}(h:m.deep<=5):m.names.length<=32:=
 le_trans (aK.j5 m) (pow_le_pow_right (by decide) h:2 ^ m.deep<=2 ^ 5)
theorem kr{j k:Nat}(h:j<=k):(18:Int) ^ j<=18 ^ k:=by
 have:(18:Nat) ^ j<=18 ^ k:=pow_le_pow_right (by decide) h;exact_mod_cast this
theorem qY(k:Nat):(1:Int)<=18 ^ k:=by
 have:1<=(18:Nat) ^ k:=Nat.one_le_pow _ _ (by decide);exact_mod_cast this
theorem uR{D a:Int}{j k:Nat}(h:D*18 ^ (max j k+1)<=1000000000)(hd:a<=D*18)(c:0<D):a*18 ^ j<=1000000000/\a*18 ^ k<=1000000000/\D<=1000000000:=by
 have e:D*18 ^ (max j k+1)=D*18*18 ^ max j k:=by rw[pow_succ,mul_comm (18 ^ max j k) 18,<-Int.mul_assoc]
 rw[e] at h;have p1:=kr (le_max_left j k);have p2:=kr (le_max_right j k);have b:=qY (max j k);have d:=qY j;have f:=qY k;refine⟨Int.le_trans (mul_le_mul hd p1 (by omega) (by omega)) h,Int.le_trans (mul_le_mul hd p2 (by omega) (by omega)) h,?_⟩;have:D*1<=D*18*18 ^ max j k:=mul_le_mul (by omega) b (by omega) (by omega);omega
structure sr(x:Rat):Prop where
 pos:0<x
 num:(rf x).1<=2000000
 den:(rf x).2<=2000000
def Cons{W N S:Type}(l:List (W×N×S)):Prop:=∀a∈l,∀b∈l,a.2.1=b.2.1->a.2.2=b.2.2
theorem found{W N S:Type}[DecidableEq N]{l:List (W×N×S)}{n:N}{p:W×N×S}(h:l.find? (λp=>decide (p.2.1=n))=some p):p.2.1=n:=by
 have:=find?_some h;simpa using this
theorem o6{W N S:Type}[DecidableEq N][DecidableEq S]:∀(r pre:List (W×N×S)),cH pre r=none->Cons pre->Cons (pre++r)
 |[],pre,_,h=>by rw[append_nil];exact h
 |(g,n,s)::r,pre,l,h=>by
  have e:pre++(g,n,s)::r=(pre++[(g,n,s)])++r:=by simp
  rw[e];cases j:pre.find? (λp=>decide (p.2.1=n)) with
  |none=>
   have i:cH (pre++[(g,n,s)]) r=none:=by
    have:=l;unfold cH at this;rw[j] at this;exact this
   refine o6 r _ i λa ha b hbm d=>?_;have no:∀c∈pre,c.2.1≠n:=λc hc z=>by
    have:=List.find?_eq_none.mp j c hc;exact this (decide_eq_true z)
   rcases mem_append.mp ha with ha|ha<;>rcases mem_append.mp hbm with hbm|hbm
   .exact h a ha b hbm d
   .rw[mem_singleton.mp hbm] at d
    exact absurd d (no a ha)
   .rw[mem_singleton.mp ha] at d
    exact absurd d.symm (no b hbm)
   .rw[mem_singleton.mp ha,mem_singleton.mp hbm]
  |some p=>
   have f:=l;unfold cH at f;rw[j] at f;by_cases es:p.2.2=s
   .have i:cH (pre++[(g,n,s)]) r=none:=by
     have:(if p.2.2=s then cH (pre++[(g,n,s)]) r else some (p.1,g))=none:=f;rwa [if_pos es] at this
    have m:=mem_of_find?_eq_some j;have k:p.2.1=n:=found j;refine o6 r _ i λa ha b hbm d=>?_;have to:∀c∈pre,c.2.1=n->c.2.2=s:=λc hc z=>by rw[h c hc p m (by rw[z,k]),es]
    rcases mem_append.mp ha with ha|ha<;>rcases mem_append.mp hbm with hbm|hbm
    .exact h a ha b hbm d
    .rw[mem_singleton.mp hbm] at d ⊢
     exact to a ha d
    .rw[mem_singleton.mp ha] at d ⊢
     exact(to b hbm d.symm).symm
    .rw[mem_singleton.mp ha,mem_singleton.mp hbm]
   .have:(if p.2.2=s then cH (pre++[(g,n,s)]) r else some (p.1,g))=none:=f
    rw[if_neg es] at this;cases this
theorem nO:∀(m:M) (w:Str) (x:Rat),(br m w x).map (·.2.1)=m.names
 |.wt _,_,_=>rfl
 |.bK _ _ a b,w,x=>by
  show((br a _ _++br b _ _).map (·.2.1))=a.names++b.names;rw[map_append,nO a,nO b]
theorem rC:∀(m:M) (w:Str) (x:Rat),(br m w x).map (·.2.2)=m.sh x
 |.wt _,_,_=>rfl
 |.bK _ _ a b,w,x=>by
  show((br a _ _++br b _ _).map (·.2.2))=a.sh _++b.sh _;rw[map_append,rC a,rC b]
noncomputable def shr(m:M):Str->Rat:=λx=>match (br m "" 1).find? (λp=>decide (p.2.1=x)) with|some p=>p.2.2|none=>0
theorem zO{m:M}(h:cH [] (br m "" 1)=none):(∀a∈br m "" 1,a.2.2=shr m a.2.1)/\m.names.map (shr m)=m.sh 1:=by
 have hc:=o6 (br m "" 1) [] h (by intro a b;simp at b);rw[nil_append] at hc;have key:∀a∈br m "" 1,a.2.2=shr m a.2.1:=λa b=>by
  show _=(match (br m "" 1).find? (λp=>decide (p.2.1=a.2.1)) with|some p=>p.2.2|none=>0);cases c:(br m "" 1).find? (λp=>decide (p.2.1=a.2.1)) with
  |none=>exact absurd (decide_eq_true rfl) (List.find?_eq_none.mp c a b)
  |some p=>exact(hc p (mem_of_find?_eq_some c) a b (found c)).symm
 refine⟨key,?_⟩;rw[<-nO m "" 1,<-rC m "" 1,map_map];exact map_congr_left λa b=>(key a b).symm
theorem num_mul{t:Rat}{a b:Int}(c:0<b)(d:0<=(rf t).1*a):(rf (t*((a:Rat)/(b:Rat)))).1<=(rf t).1*a:=by
 rw[<-yP,<-rz (mul_pos (kD t) c)];exact Int.ediv_le_self _ d
theorem rE:∀(m:M) (x:Rat) (B:Int),m.arms->0<x->(rf x).1<=B->∀s∈m.sh x,(rf s).1<=B*18 ^ m.deep
 |.wt _,x,B,_,h1,h2,s,hs=>by
  have:s=x:=by simpa[aK.sh] using hs
  subst this;simpa[aK.deep] using h2
 |.bK l r a b,x,B,h,h1,h2,s,hs=>by
  obtain⟨c,o,d,p,e,f⟩:=h;have g:0<B:=Int.lt_of_lt_of_le (qR h1) h2;have np:=qR h1;have i:(rf (x*((r:Rat)/((l+r:Int):Rat)))).1<=B*18:=by
   refine Int.le_trans (num_mul (by omega) (mul_nonneg (by omega) (by omega))) ?_;exact mul_le_mul h2 (by omega) (by omega) (by omega)
  have j:(rf (x*((l:Rat)/((l+r:Int):Rat)))).1<=B*18:=by
   refine Int.le_trans (num_mul (by omega) (mul_nonneg (by omega) (by omega))) ?_;exact mul_le_mul h2 (by omega) (by omega) (by omega)
  have p1:0<x*((r:Rat)/((l+r:Int):Rat)):=aK.step_pos c d h1;have p2:0<x*((l:Rat)/((l+r:Int):Rat)):=by
   have:=aK.step_pos (l:=r) (r:=l) d c h1;rwa [add_comm r l] at this
  have up:∀k:Nat,k<=max a.deep b.deep->B*18*18 ^ k<=B*18 ^ (max a.deep b.deep+1):=λk n=>by
   rw[pow_succ,Int.mul_assoc,mul_comm 18 (18 ^ k)];refine Int.mul_le_mul_of_nonneg_left ?_ (Int.le_of_lt g);exact Int.mul_le_mul_of_nonneg_right (kr n) (by decide)
  rcases mem_append.mp (show s∈a.sh _++b.sh _ from hs) with hs|hs
  .exact Int.le_trans (rE a _ _ e p1 i s hs) (up _ (le_max_left _ _))
  .exact Int.le_trans (rE b _ _ f p2 j s hs) (up _ (le_max_right _ _))
theorem KC{m:M}(a:m.arms)(d:m.deep<=5):∀s∈m.sh 1,0<s/\(rf s).1<=1889568/\(rf s).2<=1889568:=λs hs=>by
 obtain⟨f,b⟩:=aK.rD m 1 1 a (by decide) (by decide) s hs;have c:=rE m 1 1 a (by decide) (by decide) s hs;have p:=kr d;have e:(18:Int) ^ 5=1889568:=by decide
 rw[e] at p;rw[Int.one_mul] at b c;exact⟨f,Int.le_trans c p,Int.le_trans b p⟩
theorem KD{m:M}(a:m.arms)(b:m.deep<=5)(h:cH [] (br m "" 1)=none){x:Str}(c:x∈m.names):sr (shr m x):=by
 have:shr m x∈m.sh 1:=by
  rw[<-(zO h).2];exact mem_map.mpr ⟨x,c,rfl⟩
 obtain⟨h1,h2,d⟩:=KC a b _ this;exact⟨h1,by omega,by omega⟩
section
variable{m:M}{s:Str->Rat}{B:Str->Int}
end
theorem eZ{a:Ar->Prop}{g:gp}{b:bT}{R:iO}(J:List D->aV->Ar->Prop)(hc:∀rest τ A,J rest τ A->a A)
  (hs:∀x rest τ A,J (x::rest) τ A->∀c:aV->Ar->Prop,(∀aO A',J rest aO A'->c aO A')->g x τ A λd f=>b {R with nx:=c,ct:=c,bk:=R.nx} d f)(e:∀τ A,J [] τ A->R.nx τ A):∀(items:List D) (τ:aV) (A:Ar),J items τ A->iW a g b R items τ A
 |[],τ,A,j=>⟨hc _ _ _ j,e _ _ j⟩
 |x::rest,τ,A,j=>⟨hc _ _ _ j,hs _ _ _ _ j _ λaO A' h=>eZ J hc hs e rest aO A' h⟩
theorem lD{k:Option Nat}{fr:aV}{te:ao}{a:Ar->Prop}{R:List D->Ar->Prop}(J:List D->List D->Ar->Prop)(hc:∀rest ys A,J rest ys A->a A)(c:∀rest ys A,J rest ys A->ys.length<=sizeLine)
  (hs:∀x rest ys A,J (x::rest) ys A->∃vs,kP k x=some vs/\∀Q:DK,(∀y b,J rest (ys++[y]) b->Q y b)->te (vs.map some++fr) A Q)(d:∀ys A,J [] ys A->R ys A):∀items ys A,J items ys A->gS a k fr kO te R items ys A
 |[],ys,A,j=>⟨hc _ _ _ j,d _ _ j⟩
 |x::rest,ys,A,j=>by
  obtain⟨vs,f,q⟩:=hs _ _ _ _ j;refine⟨hc _ _ _ j,?_⟩;rw[f];refine q _ λy b e=>⟨?_,lD J hc c hs d rest _ _ e⟩;have:=c _ _ _ e;simp at this;omega
theorem Gr.xP{A d A':Ar}{t:Nat}(g:Gr A d)(e:A.length<=t)(b:bO t d A'):Gr A A':=by
 have key:∀q c,A[q]?=some c->A'[q]?=some c:=λq c h=>b q c (by have:=cB h;omega) (g.get h);refine⟨A'.drop A.length,ext_getElem? λq=>?_⟩;by_cases a:q<A.length
 .rw[getElem?_append_left a,getElem?_eq_getElem a]
  exact key q _ (getElem?_eq_getElem a)
 .rw[getElem?_append_right (by omega),List.getElem?_drop]
  congr 1;omega
end DP
namespace L2
end L2
namespace DP
open L2
end DP
namespace L2
open PySem.SeqAt
def iM(op:CmpOp)(A:Around)(s:Shared)(y x:Value)(b:Bool):Prop:=∀(prog:Program) (w:World) (E:aj) (Q:aj),Q (.bool b) s->wpAny (model prog w) A (richCompare op y x) Q E s
inductive fE(op:CmpOp)(A:Around)(s:Shared)(fin b:Bool):List (Value×Value)->Prop
 |nil:fin=b->fE op A s fin b []
 |eq {y x:Value} {r:List (Value×Value)}:EqAt A s y x true->fE op A s fin b r->fE op A s fin b ((y,x)::r)
 |ne {y x:Value} {r:List (Value×Value)}:EqAt A s y x false->iM op A s y x b->fE op A s fin b ((y,x)::r)
open AutoSeq1 (wpAny_loadPart')
open MeetsSeq MeetsSeq2 MeetsSeq3 SeqRoads2
theorem LU(l b:Addr)(items a:Array Value)(n m:Nat)(dd f:Option Addr)(o i:Array (Option Value))(res:Bool):
  Meets (Builtin.«tuple.__lt__» ⟨[.ref l,.ref b],[]⟩)
   (λA R s=>s.heap.get? l=some {cls:=.type "tuple",dict:=dd,data:=.seq items n,slots:=o}/\s.heap.get? b=some {cls:=.type "tuple",dict:=f,data:=.seq a m,slots:=i}/\
    fE .Lt A.in1 s (decide (items.size<a.size)) res (items.toList.zip a.toList)/\R (.ok (.ret (.bool res))) s):=
 .of_wp λprog w A R s h=>by
  obtain⟨k,g,d,tk,os⟩:=s;obtain⟨p,q,r,h⟩:=h;have f2:=AutoSeq1.sub_tuple_tuple;wp_walk using wpAny_loadPart' p,wpAny_loadPart' q,wpAny_forIn_list _ (λrest b s'=>b.1=none/\s'=⟨k,g,d,tk,os⟩/\fE .Lt A.in1 ⟨k,g,d,tk,os⟩ (decide (items.size<a.size)) res rest) _;case turn=>
   rintro ⟨y,x⟩ rest b s' ⟨c,rfl,j⟩;cases j with
   |eq h1 h2=>
    refine wpAny_bind (h1 prog w _ _ ?_);wp_walk;exact⟨rfl,rfl,h2⟩
   |ne h1 h2=>
    refine wpAny_bind (h1 prog w _ _ ?_);simp only[Bool.not_false,if_true];refine wpAny_bind (wpAny_rule ?_);refine wpAny_bind (h2 prog w _ _ ?_);wp_walk;exact⟨_,rfl,h⟩
  case fin=>
   rintro ⟨t,u⟩ s' ⟨c,rfl,j⟩;simp only at c;subst c;cases j with
   |nil e=>
    wp_walk;exact⟨_,rfl,by rw[<-e] at h;simpa[Builtin.Tuple.tupleCompareSizes] using h⟩
  case h=>
   exact⟨rfl,rfl,r⟩
mutual
def ltQ:PyData->PyData->Option Bool
 |.int i,.int j=>some (decide (i<j))
 |.str x,.str y=>some (decide (x.cps.toList<y.cps.toList))
 |.tuple xs,.tuple ys=>eO xs ys
 |_,_=>none
def eO:List PyData->List PyData->Option Bool
 |[],[]=>some false
 |[],_::_=>some true
 |_::_,[]=>some false
 |x::xs,y::ys=>match PyData.eqv x y with
  |true=>eO xs ys
  |false=>ltQ x y
end
theorem BN(i j:Int)(A:Around)(s:Shared)(a b:Value)(as bs:List Addr)(r:Bool)(e:ltQ (.int i) (.int j)=some r)(ra:Reads s.heap a (.int i) as)(c:Reads s.heap b (.int j) bs):iM .Lt A s a b r:=by
 cases ra;cases c;rw[ltQ] at e;cases e;intro prog w E Q q;exact lt_int q
theorem BO(xs ys:List PyData)(A:Around)(s:Shared)(a b:Value)(as bs:List Addr)(r:Bool)(i:A.units+min (PyData.tuple xs).depth (PyData.tuple ys).depth<cLine)(L:∀d vs as bs,ReadsAll s.heap d xs as->ReadsAll s.heap vs ys bs->A.in1.units+min (depthAll xs) (depthAll ys)<cLine->fE .Lt A.in1 s (decide (d.length<vs.length)) r (d.zip vs))(ra:Reads s.heap a (.tuple xs) as)(m:Reads s.heap b (.tuple ys) bs):iM .Lt A s a b r:=by
 cases ra with
 | @tuple l o vs n _ e h1 h2 j p=>
  cases m with
  | @tuple t o' c n' _ f k1 k2 k3 u=>
   obtain⟨cls,dd,data,v⟩:=o;obtain⟨k,g,data2,h⟩:=o';simp only at h2 j k2 k3;subst h2 j k2 k3;have L:=L vs.toList c.toList _ _ p u (room_in i);intro prog w E Q q;exact richCompare_meets_room (op:=.Lt) ⟨_,h1,rfl⟩ ⟨_,k1,rfl⟩ F.slot_tuple_lt F.entry_tuple_lt (F.args_tuple_lt_2 _ _) (LU l t vs c n n' dd g v h r)
    ⟨h1,k1,by simpa using L,show Value.bool r≠Value.notImplemented/\Q (.bool r) s from⟨(λx=>nomatch x),q⟩⟩ (room_here i)
theorem BQ(i j:Str)(A:Around)(s:Shared)(a b:Value)(as bs:List Addr)(r:Bool)(e:ltQ (.str i) (.str j)=some r)(ra:Reads s.heap a (.str i) as)(c:Reads s.heap b (.str j) bs):iM .Lt A s a b r:=by
 cases ra;cases c;rw[ltQ] at e;cases e;intro prog w E Q q;exact lt_str q
theorem wQ{α β:Type}{a:α}{b:β}{u:List α}{v:List β}:decide ((a::u).length<(b::v).length)=decide (u.length<v.length):=by simp
theorem BP(x y:PyData)(xs ys:List PyData)(A:Around)(s:Shared)(a vs:List Value)(as bs:List Addr)(r:Bool)(e:eO (x::xs) (y::ys)=some r)(ra:ReadsAll s.heap a (x::xs) as)(i:ReadsAll s.heap vs (y::ys) bs)(j:canLayAll0 (x::xs)=true)(k:canLayAll0 (y::ys)=true)
 (g:A.units+min (depthAll (x::xs)) (depthAll (y::ys))<cLine)
 (l:∀a vs as bs,eO xs ys=some r->ReadsAll s.heap a xs as->ReadsAll s.heap vs ys bs->canLayAll0 xs=true->canLayAll0 ys=true->A.units+min (depthAll xs) (depthAll ys)<cLine->fE .Lt A s (decide (a.length<vs.length)) r (a.zip vs))
 (L2:∀u v as bs,ltQ x y=some r->Reads s.heap u x as->Reads s.heap v y bs->x.canLay0=true->y.canLay0=true->A.units+min x.depth y.depth<cLine->iM .Lt A s u v r):fE .Lt A s (decide (a.length<vs.length)) r (a.zip vs):=by
  have b:x.canLay0=true/\canLayAll0 xs=true:=by simpa[canLayAll0] using j
  have d:y.canLay0=true/\canLayAll0 ys=true:=by simpa[canLayAll0] using k
  cases ra with
  |cons a1 a2=>
   cases i with
   |cons h m=>
    have f:=eqAt_reads x y A s _ _ _ _ a1 h b.1 d.1 (room_head g)
    rw[eO] at e
    cases c:PyData.eqv x y with
    |true=>
     rw[c] at e f
     have L:=l _ _ _ _ e a2 m b.2 d.2 (room_tail g)
     rw[wQ]
     exact .eq f L
    |false=>
     rw[c] at e f
     exact .ne f (L2 _ _ _ _ e a1 h b.1 d.1 (room_head g))
mutual
theorem BR:∀(d db:PyData) (A:Around) (s:Shared) (a b:Value) (as bs:List Addr) (r:Bool),ltQ d db=some r->Reads s.heap a d as->Reads s.heap b db bs->d.canLay0=true->db.canLay0=true->
  A.units+min d.depth db.depth<cLine->iM .Lt A s a b r
 |.none,db,A,s,_,_,_,_,r,e,ra,c,_,_,_=>by simp[ltQ] at e
 |.bool _,db,A,s,_,_,_,_,r,e,ra,c,_,_,_=>by simp[ltQ] at e
 |.list _,db,A,s,_,_,_,_,r,e,ra,c,_,_,_=>by simp[ltQ] at e
 |.dict _,db,A,s,_,_,_,_,r,e,ra,c,_,_,_=>by simp[ltQ] at e
 |.int i,db,A,s,_,_,_,_,r,e,ra,c,_,_,_=>by
  cases db with
  |int j=>exact BN i j A s _ _ _ _ r e ra c
  |_=>simp[ltQ] at e
 |.str i,db,A,s,_,_,_,_,r,e,ra,c,_,_,_=>by
  cases db with
  |str j=>exact BQ i j A s _ _ _ _ r e ra c
  |_=>simp[ltQ] at e
 |.tuple xs,db,A,s,_,_,_,_,r,e,ra,c,f,g,h=>by
  cases db with
  |tuple ys=>exact BO xs ys A s _ _ _ _ r h (λk vs as bs h1 h2 l=>qA xs ys A.in1 s k vs as bs r (by rw[ltQ] at e;exact e) h1 h2 f g l) ra c
  |_=>simp[ltQ] at e
theorem qA:∀(xs ys:List PyData) (A:Around) (s:Shared) (a vs:List Value) (as bs:List Addr) (r:Bool),eO xs ys=some r->ReadsAll s.heap a xs as->ReadsAll s.heap vs ys bs->canLayAll0 xs=true->canLayAll0 ys=true->
  A.units+min (depthAll xs) (depthAll ys)<cLine->fE .Lt A s (decide (a.length<vs.length)) r (a.zip vs)
 |[],ys,A,s,_,_,_,_,r,e,ra,b,_,_,_=>by
  cases ys with
  |nil=>cases ra;cases b;rw[eO] at e;cases e;exact .nil (by simp)
  |cons y ys=>cases ra;cases b;rw[eO] at e;cases e;exact .nil (by simp)
 |x::xs,ys,A,s,a,vs,as,bs,r,e,ra,b,h,i,j=>by
  cases ys with
  |nil=>cases ra;cases b;rw[eO] at e;cases e;exact .nil (by simp)
  |cons y ys=>exact BP x y xs ys A s a vs as bs r e ra b h i j (λa vs as bs h1 h2 c d f g=>qA xs ys A s a vs as bs r h1 h2 c d f g) (λu v as bs h1 h2 c d f g=>BR x y A s u v as bs r h1 h2 c d f g)
end
section
variable{prog:Program}{w:World}{A:Around}{E:aj}{s:Shared}
end
section
variable{X:Cx}
end
end L2
namespace DP
open L2
end DP
namespace SR
abbrev Rs(xs:Array Nat):Prop:=xs.toList.Pairwise (·<·)
theorem Rs.lt{xs:Array Nat}(h:Rs xs){a b:Nat}(c:a<b)(d:b<xs.size):xs.getD a 0<xs.getD b 0:=by
 have:=pairwise_iff_getElem.mp h a b (by simp;omega) (by simp;omega) c;rw[getD_eq_getD_getElem?,getD_eq_getD_getElem?,Array.getElem?_eq_getElem (by omega),Array.getElem?_eq_getElem d];simpa using this
theorem qc(xs:Array Nat)(d:Rs xs)(j:Nat):∀(fuel lo hi:Nat),hi<=xs.size->lo<=hi->hi - lo<=fuel->(∀i,i<lo->xs.getD i 0<j)->(∀i,hi<=i->i<xs.size->j<=xs.getD i 0)->
  SetTable.below.go xs j fuel lo hi<=xs.size/\(∀i,i<SetTable.below.go xs j fuel lo hi->xs.getD i 0<j)/\∀i,SetTable.below.go xs j fuel lo hi<=i->i<xs.size->j<=xs.getD i 0
 |0,lo,hi,h1,h2,l,f,g=>by
  have e:lo=hi:=by omega
  show lo<=_/\(∀i,i<lo->_)/\∀i,lo<=i->_;exact⟨by omega,f,λi c=>g i (by omega)⟩
 |fuel+1,lo,hi,h1,h2,l,f,g=>by
  unfold SetTable.below.go;by_cases h:lo<hi
  .rw[if_pos h]
   dsimp only;have k:(lo+hi)/2<xs.size:=by omega
   have e:xs.getD ((lo+hi)/2) j=xs.getD ((lo+hi)/2) 0:=by
    rw[getD_eq_getD_getElem?,getD_eq_getD_getElem?,Array.getElem?_eq_getElem k];rfl
   rw[e];by_cases hc:xs.getD ((lo+hi)/2) 0<j
   .rw[if_pos hc]
    refine qc xs d j fuel _ hi h1 (by omega) (by omega) (λi c=>?_) g;by_cases z:i=(lo+hi)/2
    .rw[z];exact hc
    .have:=d.lt (a:=i) (b:=(lo+hi)/2) (by omega) k
     omega
   .rw[if_neg hc]
    refine qc xs d j fuel lo _ (by omega) (by omega) (by omega) f (λi c hs=>?_);by_cases z:i=(lo+hi)/2
    .rw[z];omega
    .have:=d.lt (a:=(lo+hi)/2) (b:=i) (by omega) hs
     omega
  .rw[if_neg h]
   exact⟨by omega,f,λi c=>g i (by omega)⟩
theorem jD{xs:Array Nat}(a:Rs xs)(j:Nat):SetTable.below xs j<=xs.size/\(∀i,i<SetTable.below xs j->xs.getD i 0<j)/\∀i,SetTable.below xs j<=i->i<xs.size->j<=xs.getD i 0:=
 qc xs a j xs.size 0 xs.size (le_refl _) (zero_le _) (by omega) (λi h=>absurd h (not_lt_zero _)) (λi h1 h2=>absurd h2 (by omega))
theorem vG{xs:Array Nat}{i:Nat}(h:i<xs.size):xs[i]?=some (xs.getD i 0):=by
 rw[getD_eq_getD_getElem?,Array.getElem?_eq_getElem h];rfl
theorem tP{xs:Array Nat}(a:Rs xs):SetTable.below xs 0=0:=by
 obtain⟨h1,h2,b⟩:=jD a 0;by_cases z:SetTable.below xs 0=0
 .exact z
 .exact absurd (h2 0 (by omega)) (not_lt_zero _)
theorem tO{xs:Array Nat}(c:Rs xs){i:Nat}(hi:i<xs.size):SetTable.below xs (xs.getD i 0+1)=i+1:=by
 obtain⟨h1,h2,d⟩:=jD c (xs.getD i 0+1);have a1:i<SetTable.below xs (xs.getD i 0+1):=by
  by_cases z:i<SetTable.below xs (xs.getD i 0+1)
  .exact z
  .have:=d i (by omega) hi
   omega
 by_cases z:i+1<SetTable.below xs (xs.getD i 0+1)
 .have a2:=h2 (i+1) z
  have e:=c.lt (a:=i) (b:=i+1) (by omega) (by omega);omega
 .omega
theorem Bu{xs:Array Nat}(b:Rs xs){j:Nat}(h:j∈xs.toList):xs[SetTable.below xs j]?=some j:=by
 obtain⟨i,hi,e⟩:=getElem_of_mem h;have a:i<xs.size:=by simpa using hi
 have c:xs.getD i 0=j:=by
  rw[getD_eq_getD_getElem?,Array.getElem?_eq_getElem a];simpa using e
 obtain⟨h1,h2,d⟩:=jD b j;have a1:SetTable.below xs j=i:=by
  rcases Nat.lt_trichotomy (SetTable.below xs j) i with z|z|z
  .have a2:=d _ (le_refl _) (by omega)
   have f:=b.lt z a;omega
  .exact z
  .have:=h2 i z
   omega
 rw[a1,vG a,c]
theorem FJ{xs:Array Nat}(f:Rs xs){j:Nat}(o:j∉xs.toList):Rs (SetTable.insertAt xs (SetTable.below xs j) j):=by
 obtain⟨h1,h2,h⟩:=jD f j;unfold SetTable.insertAt Rs;have e:((xs.extract 0 (SetTable.below xs j)).push j++xs.extract (SetTable.below xs j) xs.size).toList=xs.toList.take (SetTable.below xs j)++(j::xs.toList.drop (SetTable.below xs j)):=by
  simp[Array.toList_append,Array.toList_extract];exact List.take_of_length_le (by simp)
 rw[e];refine List.pairwise_append.mpr ⟨f.sublist (List.take_sublist _ _),pairwise_cons.mpr ⟨λy p=>?_,f.sublist (List.drop_sublist _ _)⟩,λa q b hb=>?_⟩
 .obtain⟨i,hi,e⟩:=getElem_of_mem p
  rw[length_drop] at hi;rw[List.getElem_drop] at e;have c:SetTable.below xs j+i<xs.size:=by simp at hi;omega
  have:=h (SetTable.below xs j+i) (by omega) c;rw[getD_eq_getD_getElem?,Array.getElem?_eq_getElem c] at this;have l:xs[SetTable.below xs j+i]=y:=by simpa using e
  have this:j<=y:=by rw[<-l];exact this
  have r:j≠y:=λz=>o (by rw[z,<-l];simp);omega
 .obtain⟨i,hi,e⟩:=getElem_of_mem q
  rw[length_take] at hi;rw[List.getElem_take] at e;have c:i<xs.size:=by omega
  have:=h2 i (by omega);rw[getD_eq_getD_getElem?,Array.getElem?_eq_getElem c] at this;have s:xs[i]=a:=by simpa using e
  have g:a<j:=by rw[<-s];exact this
  rcases mem_cons.mp hb with z|hb
  .rw[z];exact g
  .obtain⟨k,m,n⟩:=getElem_of_mem hb
   rw[length_drop] at m;rw[List.getElem_drop] at n;have d:SetTable.below xs j+k<xs.size:=by simp at m;omega
   have:=h (SetTable.below xs j+k) (by omega) d;rw[getD_eq_getD_getElem?,Array.getElem?_eq_getElem d] at this;have t:xs[SetTable.below xs j+k]=b:=by simpa using n
   have:j<=b:=by rw[<-t];exact this
   omega
theorem GI{mask finger moves:Nat}{led plain:Bool}{hs:Array Int}{t:SetTable}{o:Array Nat}(h:SetTable.laid mask finger moves led plain hs=some (t,o)):Rs t.place:=by
 unfold SetTable.laid at h;obtain⟨w,_,h⟩:=Option.bind_eq_some_iff.mp h;cases h;unfold Rs;dsimp only;rw[pairwise_map,List.pairwise_filterMap];refine List.pairwise_lt_range.imp λ {a b} c p d q e=>?_;obtain⟨_,_,rfl⟩:=map_eq_some_iff.mp d;obtain⟨_,_,rfl⟩:=map_eq_some_iff.mp e;exact c
end SR
namespace SI
open SS
section
variable{prog:Program}{w:World}{A:Around}{E:aj}{s:Shared}
end
section
variable{prog:Program}{w:World}{A:Around}{R:Result->Shared->Prop}{I:Addr}{fp wr:List Addr}{G:Array GenState->Array GenState->Prop}{n:Nat}{P:Nat->Value->Prop}{St:Nat->Shared->Prop}
end
section
variable{prog:Program}{w:World}{A:Around}{E:aj}{s:Shared}
end
section
variable{prog:Program}{w:World}{A:Around}{E:aj}{s:Shared}
end
section
variable{prog:Program}{w:World}{A:Around}{E:aj}{s:Shared}{it a:Addr}{es:Array (Int×Value)}{ep:Nat}{t:SetTable}
theorem xD{slot i:Nat}{Q:Option (Value×Nat)->Shared->Prop}(d:w.params.followText "set-order"=false)(e:t.led=true)(f:(!t.plain&&decide (es.size>1))=false)(hs:dY s.heap a es ep t)
  (h:Q (match es[SetTable.below t.place slot]?,t.place[SetTable.below t.place slot]? with|some (_,x),some j=>some (x,j+1)|_,_=>none) s):wpAny (model prog w) A (setNext a slot i ep) Q E s:=by
 obtain⟨os,b,c,g⟩:=hs;unfold setNext;refine wpAny_bind (wpAny_setState_of b c g ?_);dsimp only;refine wpAny_bind (iU ?_);rw[d,if_neg (by decide)];show wpAny _ _ (if (!t.plain&&decide (es.size>1))=true then _ else _) _ _ _;rw[f,if_neg (by decide)];show wpAny _ _ ((if (!t.led&& !es.isEmpty)=true then _ else _)>>=_) _ _ _;rw[e,if_neg (by simp)];exact wpAny_bind (wpAny_pure (wpAny_pure h))
theorem L_(u:w.params.followText "set-order"=false)(y:t.led=true)(B:(!t.plain&&decide (es.size>1))=false)(m:t.fits es.size=true)(c:SR.Rs t.place)(F:A.handled=none)(n:a≠it):
  Walks prog w A it [it,a] [it] (es.toList.map (·.2)).length (λi v=>(es.toList.map (·.2))[i]? =some v) (λi h=>cW h it a (.int (if i=0 then 0 else t.place.getD (i - 1) 0+1:Nat) 0) i es.size ep/\dY h a es ep t) where
 sub:=λb f=>by simp at f;simp[f]
 frame:=λ_ _ _ st C=>⟨st.1.keep λo e=>C it (by simp) o e,st.2.keep λo e=>C a (by simp) o e⟩
 item:=λi s Q E hi st g=>by
  have d:i<es.size:=by simpa using hi
  have G:t.place.size=es.size:=by simp only[SetTable.fits,and_eq_true,beq_iff_eq] at m;exact m.1
  have D:es[i]? =some (es[i]'d):=Array.getElem?_eq_getElem d
  have H:t.place[i]? =some (t.place.getD i 0):=SR.vG (by omega)
  have p:SetTable.below t.place (if i=0 then 0 else t.place.getD (i - 1) 0+1)=i:=by
   by_cases z:i=0
   .rw[if_pos z,SR.tP c,z]
   .rw[if_neg z,SR.tO c (by omega)];omega
  refine qM (slot:=((if i=0 then 0 else t.place.getD (i - 1) 0+1:Nat):Int)) (x:=(es[i]'d).2) (nx:=t.place.getD i 0+1) st.1 st.2 (λA' I J q=> ?_) λh' j k=> ?_
  .refine xD u y B st.2 ?_
   rw[toNat_natCast,p,D,H]
   exact q
  .refine g _ h' s.toks ?_ ⟨?_,st.2.keep λo e=>(k.2 a n).trans e⟩ λb o f e=>(k.2 b λz=>f (by simp[z])).trans e
   .rw[getElem?_map,getElem?_toList,D];rfl
   .rw[if_neg (by omega)];exact j
 done:=λs Q E st g=>by
  have G:t.place.size=es.size:=by simp only[SetTable.fits,and_eq_true,beq_iff_eq] at m;exact m.1
  have l:(es.toList.map (·.2)).length=es.size:=by simp
  rw[l] at st
  refine pV F st.1 st.2 (λA' I J q=>xD u y B st.2 ?_) λh' r=>g h' s.toks λb o f e=>r b o (λz=>f (by simp[z])) e
  rw[toNat_natCast]
  have p:SetTable.below t.place (if es.size=0 then 0 else t.place.getD (es.size - 1) 0+1)=es.size:=by
   by_cases z:es.size=0
   .rw[if_pos z,SR.tP c,z]
   .rw[if_neg z,SR.tO c (by omega)];omega
  rw[p,Array.getElem?_eq_none (by omega)]
  exact q
 self:=λ_ _ _ _ st g=>mD st.1 g
end
section
variable{prog:Program}{w:World}{A:Around}{E:aj}{s:Shared}{it a:Addr}{es:Array (Int×Value)}{ep:Nat}{t:SetTable}
end
end SI
namespace L2
section
variable{X:Cx}
end
end L2
namespace DP
open L2
section
variable{X:Cx}{N:En}{e:Expr}{n:bB}{p1 p2 pos1 pos2:Pos}
end
end DP
namespace HT
open L2
section
variable{prog:Program}{w:World}{A:Around}{E:aj}{s:Shared}
theorem Et{t c:Addr}{items:Array Value}{g i:Value}{lo hi:Option Int}{Q:aj}(a:IsTup s.heap t items)(hs:s.heap.IsSliceOf c g i .none)(pl:IsPart g lo)(pu:IsPart i hi)
  (j:av items.size 0 lo=0/\av items.size items.size hi=items.size)(h:Q (.ref t) s):wpAny (model prog w) A (getItem (.ref t) (.ref c)) Q E s:=by
 obtain⟨os,d,e,k⟩:=id hs;have f:s.TypeIs (.ref c) "slice":=⟨os,d,e⟩;unfold getItem;try with_reducible refine wpAny_holding ?_
 first|refine wpAny_bind (wpAny_pure ?_)|skip
 refine wpAny_bind (wpAny_sequenceKey a.typeIs (by decide) ?_);refine wpAny_bind (wpAny_callSpecial?_slot (name:=Str.ofString "__getitem__") a.typeIs PyProof.Rows.slot_tuple_getitem
  (wpAny_call_entry PyProof.Rows.slot_tuple_getitem a.typeIs entry_tuple_getitem ?_ (args_tuple_getitem _ _)))
 show wpAny _ _ (Builtin.Tuple.tupleItemsOf (.ref t)>>=_) _ _ s;refine wpAny_bind (tupleItemsOf_ a ?_);refine wpAny_bind (wpAny_typeOf f ?_);rw[if_pos (by decide)];refine wpAny_bind (zQ hs pl pu ?_);have b:(((av items.size 0 lo:Nat):Int)==0&&(1:Int)==1&&(av items.size items.size hi - av items.size 0 lo)==items.size)=true:=by
  rw[j.1,j.2];simp
 show wpAny _ _ (if (((av items.size 0 lo:Nat):Int)==0&&(1:Int)==1&&(av items.size items.size hi - av items.size 0 lo)==items.size)=true then _ else _) _ _ s;rw[if_pos b];unfold Builtin.Tuple.tupleIsExact;refine wpAny_bind (wpAny_bind (wpAny_typeOf a.typeIs (wpAny_pure ?_)));rw[if_pos (by decide)];refine wpAny_bind (wpAny_rule ?_);first
  |exact wpAny_pure ⟨_,rfl,wpAny_pure h⟩
  |exact wpAny_bind (wpAny_pure (wpAny_pure ⟨_,rfl,wpAny_pure h⟩))
  |exact wpAny_bind (wpAny_pure ⟨_,rfl,wpAny_pure h⟩)
end
end HT
namespace L2
section
variable{X:Cx}
def Jz(K:PySem.W.Frag):V->Option Int->Option Int->Hp->VK->Prop:=λx lo hi H Q=>∃a xs,x=.ref a/\aN K H a xs/\(HT.av xs.length 0 lo=0/\HT.av xs.length xs.length hi=xs.length)/\Q (.ref a) H
theorem KL:gQ X (Jz X.K):=by
 intro pins s σ H x v g i lo hi j Q I d hs pl pu h;obtain⟨a,xs,rfl,e,f,q⟩:=h;cases d;obtain⟨its,r,c,k⟩:=I.tuple e;have b:its.toArray.size=xs.length:=by rw[size_toArray];exact r.length.symm
 refine⟨"tuple",_,PyProof.Rows.slot_tuple_getitem.lookup,c.typeIs,?_⟩;exact HT.Et c hs pl pu (by rw[b];exact f) ⟨.ref a,H,I,rfl,q⟩
end
end L2
namespace DP
open L2
def KI(x:D)(lo hi:Option Int)(A:Ar)(R:DK):Prop:=match x with
 |.tup xs=>R (.tup (cutD xs lo hi)) A
 |_=>False
def Ck(m:ao)(l u:ir):ao:=λτ A R=>m τ A λx A1=>l τ A1 λlo A2=>u τ A2 λhi A3=>KI x lo hi A3 R
theorem BY{xs:List D}{lo hi:Option Int}(h:HT.av xs.length 0 lo=0/\HT.av xs.length xs.length hi=xs.length):cutD xs lo hi=xs:=by
 unfold cutD;rw[h.1,h.2];simp
section
variable{X:Cx}{N:En}{pos p2:Pos}{e:Expr}{lo hi:Option Expr}{m:ao}{l u:ir}
theorem uM(t:PE X e (up X.mg N m))(w:PO X lo (jt X.mg N l))(y:PO X hi (jt X.mg N u)):PE X (.Subscript e (.Slice lo hi none p2) pos) (up X.mg N (Ck m l u)):=
 bX (x_ (zP.or KL) t w y) λσ H Q q=>by
  obtain⟨A,ι,τ,R,S,q,k⟩:=q;refine⟨A,ι,τ,_,S,q,λx z d H1 v B f j C=>?_⟩;refine⟨z,d,τ,_,S.next f j,B,λn D g H2 E h F=>?_⟩;refine⟨D,g,τ,_,(S.next f j).next h F,E,λo G I L b r s=>?_⟩;have c:=(f.trans h).trans r;have J:=RV.ext (h.trans r) x v C;cases x with
  |tup ds=>
   have b:R (.tup (cutD ds n o)) G:=b;obtain⟨a,xs,rfl,h1,h2⟩:=J;by_cases i:HT.av ds.length 0 n=0/\HT.av ds.length ds.length o=ds.length
   .rw[BY i] at b
    exact .inr ⟨a,xs,rfl,aN.of h1,by rw[<-af.length h2];exact i,(k.from c).here s b ⟨a,xs,rfl,h1,h2⟩⟩
   .exact .inl ⟨a,xs,rfl,aN.of h1,by rw[<-af.length h2];exact i,λp K=>j7 (k.from c) s (h2.cut _ _) b K⟩
  |_=>exact b.elim
end
end DP
namespace L2
section
variable{X:Cx}{pins:aD}{σ:St}{H:Hp}{s:Shared}{d:Addr}{kvs:List (Key×V)}
theorem Inv.swap{u f:HO}(I:Inv X pins σ H s)(hd:H d=some u)(i:∀xs,u≠ .tup xs)(j:∀ps,u≠ .eT ps)(k:∀a,u≠ .own a)(l:∀o v,X.H₀ d=some (.aP o v)->False)(m:aY X.prog X.w H s.heap d f):Inv X pins σ (upd H d f) s:=by
 have nn:∀b,H b=none->upd H d f b=none:=λb h=>by
  rw[aF (λz=>by rw[z,hd] at h;cases h)];exact h
 have st:∀(a:Addr) (o:HO),aY X.prog X.w H s.heap a o->aY X.prog X.w (upd H d f) s.heap a o:=λa o x=>
  x.stay (λb v _ e=>e) (λb h=>by rw[aF (λz=>by rw[z,hd] at h;exact k a (Option.some.inj h))];exact h) λb xs h=>by rw[aF (λz=>by rw[z,hd] at h;exact i xs (Option.some.inj h))];exact h
 refine⟨I.ok,I.os,I.bare,⟨I.base.keep,I.base.slot,λb o e n q=>nn b (I.base.free b o e n q),I.base.there,λb xs h=>?_,λb o v h=>?_,λb ps h=>?_⟩,I.loc,I.cell,nn _ I.free,λx c e=>nn _ (I.f6 x c e),λp g=>?_,λa o h=>?_,I.len⟩
 .have h':=I.base.tups b xs h
  rw[aF (λz=>by rw[z,hd] at h';exact i xs (Option.some.inj h'))];exact h'
 .have h':=I.base.di b o v h
  rw[aF (λz=>by rw[z] at h;exact l o v h)];exact h'
 .obtain⟨more,h'⟩:=I.base.eH b ps h
  exact⟨more,by rw[aF (λz=>by rw[z,hd] at h';exact j _ (Option.some.inj h'))];exact h'⟩
 .obtain⟨h1,h2,r⟩:=I.pin p g
  exact⟨h1,nn _ h2,r⟩
 .by_cases z:a=d
  .subst z
   rw[cj] at h;cases h;exact st _ _ m
  .rw[aF z] at h
   exact st _ _ (I.hok a o h)
theorem Inv.fz(I:Inv X pins σ H s)(hd:H d=some (.dK kvs)):(∀o v,X.H₀ d=some (.aP o v)->False)/\∃o,Inv X pins σ (upd H d (.aP o (.dK kvs))) s:=by
 have a:∀o v,X.H₀ d=some (.aP o v)->False:=λo v h=>by
  have:=I.base.di d o v h;rw[hd] at this;cases this
 have b:=I.hok d _ hd;obtain⟨h1,h2,vs,f,c⟩:=id b;obtain⟨o,es,ep,e,r⟩:=id c;exact⟨a,o,I.swap hd (λ_ z=>by cases z) (λ_ z=>by cases z) (λ_ z=>by cases z) a ⟨e,b⟩⟩
theorem Inv.Ah{o:Obj}(I:Inv X pins σ H s)(hd:H d=some (.aP o (.dK kvs)))(a:∀o v,X.H₀ d=some (.aP o v)->False):Inv X pins σ (upd H d (.dK kvs)) s:=
 I.swap hd (λ_ z=>by cases z) (λ_ z=>by cases z) (λ_ z=>by cases z) a (I.hok d _ hd).2
end
def ow(a:Addr)(o:Obj)(ks:List Key):It:=
 ⟨λi H=>∃kvs,H a=some (.aP o (.dK kvs))/\kvs.map (·.1)=ks/\i<ks.length,λi H x H'=>H'=H/\∃k,ks[i]?=some k/\x=kV k,λi H=>∃kvs,H a=some (.aP o (.dK kvs))/\kvs.map (·.1)=ks/\ks.length<=i⟩
theorem JE{k:Key}{v:Value}(h:gF k v=true):RelV (kV k) v:=by
 rcases fj h with⟨i,t,rfl,rfl⟩|⟨x,t,rfl,rfl⟩
 .exact⟨t,rfl⟩
 .exact⟨t,rfl⟩
theorem p8{X:Cx}{pins:aD}{σ:St}{H:Hp}{s:Shared}{a:Addr}{o:Obj}{kvs:List (Key×V)}{es:Array DictEntry}{ep:Nat}(I:Inv X pins σ H s)(h:H a=some (.aP o (.dK kvs)))(b:o.data=.dict es ep):(a==sysModules)=false/\∃vs:List (Key×Value),vs.map (·.1)=kvs.map (·.1)/\s.heap.DictAt (bP X.prog X.w) a vs ep:=by
 obtain⟨e,f,h2,vs,c,g⟩:=(show aY X.prog X.w H s.heap a (.aP o (.dK kvs)) from I.hok a _ h);obtain⟨o',i,j,d,hc,hd,r⟩:=g;rw[e] at d;cases d;rw[b] at hd;cases hd;refine⟨h2,vs,?_,⟨o,es,e,hc,b,r⟩⟩;clear r h2 h e f;unfold KV at c;induction c with
 |nil=>rfl
 |cons p t k=>rw[map_cons,map_cons,k,p.1]
theorem LW{P:Program}{w:World}{K:PySem.W.Frag}{tg:Expr}(a it:Addr){o:Obj}{ks:List Key}{es:Array DictEntry}{ep:Nat}(B:o.data= .dict es ep):Turn P w K tg (ow a o ks) [it] it (λi h=>h.IsKeyIter it a i ks.length ep) where
 mem:=by simp
 obj:=λi h st b f=>by
  have e:b=it:=by simpa using f
  subst e
  obtain⟨o,e,c,d⟩:=st
  exact⟨o,e,λv z=>by rw[d] at z;cases z⟩
 keep:=λi h h' st k=>st.at λo e=>k it (by simp) o e
 item:=by
  intro X q r t hc i pins s σ H E I m st u
  subst q r t
  obtain⟨kvs,h1,h2,D⟩:=u
  obtain⟨hs,vs,n,g⟩:=p8 I h1 B
  have p:vs.length=ks.length:=by rw[<-h2,<-n,length_map]
  obtain⟨f0,f1,f2,x,f4,y⟩:=m it (by simp)
  obtain⟨A,C⟩:∃A,vs[i]? =some A:=⟨vs[i]'(by omega),getElem?_eq_getElem _⟩
  have F:ks[i]? =some A.1:=by rw[<-h2,<-n,getElem?_map,C];rfl
  rw[<-p] at st
  refine wpAny_pyNext_dict_item (knd:=bP X.prog X.w) st g C λkey h' l j G=> ?_
  have J:Inv X pins σ H {s with heap:=h'}:=I.turned (t':=s.toks) (λb o f e=>(G.2 b f).trans e) f0 f1 x f4 y
  obtain⟨o',e,c,d⟩:=id j
  rw[p] at j
  exact⟨key,rfl,lZ (s:={s with heap:=h'}) e c d (by decide) ⟨_,H,J,JE l,⟨rfl,_,F,rfl⟩,j,λb f=>(m b f).1⟩⟩
 done:=by
  intro X q r t hc i pins s σ H E I m st u
  subst q r t
  obtain⟨kvs,h1,h2,D⟩:=u
  obtain⟨hs,vs,n,g⟩:=p8 I h1 B
  have p:vs.length=ks.length:=by rw[<-h2,<-n,length_map]
  obtain⟨f0,f1,f2,x,f4,y⟩:=m it (by simp)
  rw[<-p] at st
  exact wpAny_pyNext_dict_end (knd:=bP X.prog X.w) (I.ok.hd hc) st g (getElem?_eq_none (by omega)) λh' L=>⟨rfl,I.turned (t':=s.toks) (λb o f e=>L b o f e) f0 f1 x f4 y⟩
 self:=λ_ _ _ _ _ st h=>wpAny_pyIter_keyiter st h
def Fw(tl:TE):TI:=λσ H R=>tl σ H λx H1=>∃a o kvs,x=.ref a/\H1 a=some (.aP o (.dK kvs))/\R (ow a o (kvs.map (·.1))) H1
theorem IQ{X:Cx}{tg l:Expr}{tl:TE}(f:PE X l tl):PI X tg l (Fw tl):=by
 intro pins s σ H R I h;refine au (f pins s σ H _ I h) λv c ⟨x,H1,d,k,m⟩=>?_;obtain⟨a,o,kvs,e,i,q⟩:=m;subst e;cases k;obtain⟨e,_,h2,vs,u,n⟩:=(show aY X.prog X.w H1 c.heap a (.aP o (.dK kvs)) from d.hok a _ i);obtain⟨o',es,ep,j,hc,hd,r⟩:=id n;rw[e] at j;cases j;obtain⟨hs,vs,p,g⟩:=p8 d i hd;have f:(kvs.map (·.1)).length=vs.length:=by rw[<-p,length_map]
 refine wpAny_pyIter_dict (knd:=bP X.prog X.w) hs g ?_;refine⟨c.heap.objs.size,[c.heap.objs.size],_,_,H1,rfl,d.kept (t':=c.toks) λb o e=>get?_push_of_some _ e,LW a _ hd,⟨_,get?_push_size _ rfl,rfl,by rw[f];rfl⟩,λb t=>?_,q⟩;have e:b=c.heap.objs.size:=by simpa using t
 subst e;exact d.iC (le_refl _) (d.hok.fresh (le_refl _))
end L2
namespace DP
open L2
def keyOf:Key->D
 |.inl i=>.int i
 |.inr x=>.str x
theorem JQ{mg:ah}{ι:Io}{n:Nat}{H:Hp}(k:Key):RV mg ι n H (keyOf k) (kV k):=by
 cases k<;>rfl
theorem RK.lY{mg:ah}{ι:Io}{H:Hp}:∀{ds:List (Key×D)} {vs:List (Key×V)} {n:Nat},RK mg ι n H ds vs->vs.map (·.1)=ds.map (·.1)
 |[],vs,_,h=>by have h':vs=[]:=h;rw[h'];rfl
 |d::ds,vs,n,h=>by
  obtain⟨x,r,rfl,_,a⟩:=h;rw[map_cons,map_cons,RK.lY a]
theorem Ga{mg:ah}{A:Ar}{ι:Io}{H:Hp}{q:Nat}{o:Obj}{kvs:List (Key×D)}(b:q<A.length):gP mg A ι H (ow (ι q) o (kvs.map (·.1))) (kvs.map λp=>keyOf p.1) (λA'=>A'[q]?=some (.aS o kvs)) where
 go:=λi d f a H1 hd e r hc=>by
  obtain⟨xs,h1,h2⟩:=r.aS hc;rw[e.ag q b] at h1;have hi:=(List.getElem?_eq_some_iff.mp hd).1;rw[length_map] at hi;refine⟨⟨xs,h1,RK.lY h2,by rw[length_map];exact hi⟩,λx H' y=>?_⟩;obtain⟨rfl,k,c,rfl⟩:=y;refine⟨r.refl,r,?_⟩;rw[getElem?_map,getElem?_eq_getElem hi] at hd c;cases hd;cases c;exact JQ _
 stop:=λf a H1 e r hc=>by
  obtain⟨xs,h1,h2⟩:=r.aS hc;rw[e.ag q b] at h1;exact⟨xs,h1,RK.lY h2,by simp⟩
@[irreducible] def jV(r:Nat)(A:Ar)(R:List D->(Ar->Prop)->Ar->Prop):Prop:=match A[r]? with
 |some (.aS o kvs)=>R (kvs.map λp=>keyOf p.1) (λA'=>A'[r]?=some (.aS o kvs)) A
 |_=>False
def jR(m:ao):eV:=λτ A R=>m τ A λx A1=>match x with
 |.ref r=>jV r A1 R
 |_=>False
section
variable{X:Cx}{N:En}{tg e:Expr}{m:ao}
theorem uW(f:PE X e (up X.mg N m)):PI X tg e (gk X.mg N (jR m)):=jM (IQ f) λσ H Q q=>by
 obtain⟨A,ι,τ,R,S,q,k⟩:=q;refine⟨A,ι,τ,_,S,q,λx c b H1 u a g d h=>?_⟩;cases x with
 |ref r=>
  obtain⟨i,rfl⟩:=h;have a:jV r c R:=a;unfold jV at a;split at a
  .rename_i o kvs e
   obtain⟨xs,h1,h2⟩:=d.aS e;refine⟨_,o,xs,rfl,h1,?_⟩;rw[RK.lY h2];exact k _ _ c b H1 _ a g d (Ga i)
  .exact a.elim
 |_=>exact a.elim
def Ab(r:Nat)(o:Obj)(A2:Ar)(Q:Ar->Prop):Prop:=∃kvs,A2[r]?=some (.aS o kvs)/\Q (A2.set r (.dct kvs))
theorem vz{σ:L2.St}{H:Hp}{A:Ar}{ι:Io}{τ:aV}{r:Nat}{kvs:List (Key×D)}{xs:List (Key×V)}{o:Obj}(S:bR X.mg N A ι τ σ H)(e:A[r]?=some (.dct kvs))(h1:H (ι r)=some (.dK xs))(h2:RK X.mg ι A.length H kvs xs):
  bR X.mg N (A.set r (.aS o kvs)) ι τ σ (upd H (ι r) (.aP o (.dK xs)))/\Ext A ι H (A.set r (.aS o kvs)) ι (upd H (ι r) (.aP o (.dK xs))):=by
 have b:=(List.getElem?_eq_some_iff.mp e).1;have E:=S.ra.i8 (o:=.aP o (.dK xs)) (c:=.aS o kvs) b;obtain⟨ra,a⟩:=S.ra.put (c':=.aS o kvs) (o:=.aP o (.dK xs)) e h1 rfl ⟨_,cj,by simpa using RK.ext E kvs xs h2⟩;exact⟨S.next a ra,a⟩
theorem vv{mg:ah}{H:Hp}{A:Ar}{ι:Io}{r:Nat}{kvs:List (Key×D)}{o:Obj}(ra:RA mg ι H A)(e:A[r]?=some (.aS o kvs)):∃xs,H (ι r)=some (.aP o (.dK xs))/\RA mg ι (upd H (ι r) (.dK xs)) (A.set r (.dct kvs))/\Ext A ι H (A.set r (.dct kvs)) ι (upd H (ι r) (.dK xs)):=by
 obtain⟨xs,h1,h2⟩:=ra.aS e;have a:=(List.getElem?_eq_some_iff.mp e).1;have E:=ra.i8 (o:=.dK xs) (c:=.dct kvs) a;obtain⟨b,d⟩:=ra.put (c':=.dct kvs) (o:=.dK xs) e h1 rfl ⟨_,cj,by simpa using RK.ext E kvs xs h2⟩;exact⟨xs,h1,b,d⟩
end
theorem wu{A:Ar}{r:Nat}{o:Obj}{kvs:List (Key×D)}{R:List D->(Ar->Prop)->Ar->Prop}(h:A[r]?=some (.aS o kvs))(k:R (kvs.map λp=>keyOf p.1) (λA'=>A'[r]?=some (.aS o kvs)) A):jV r A R:=by
 unfold jV;rw[h];exact k
end DP
namespace L2
section
variable{X:Cx}
end
end L2
namespace DP
open L2
@[irreducible] def anyR(r:Nat)(A:Ar)(R:DK):Prop:=match A[r]? with
 |some (.lst xs)=>(match fH xs with
  |some bs=>R (.bl (bs.any id)) A
  |none=>False)
 |_=>False
end DP
end
namespace KO
open PySem PySem.W PyProof.Rows
section
variable{O:KeyOrd}{key:Nat->O.α}{n:Nat}{cmp:Nat->Nat->(Bool->Shared->Prop)->Shared->Prop}{s:Shared}
def kp(O:KeyOrd)(key:Nat->O.α)(p:Array Nat)(i:Nat):O.α:=key (p.getD i 0)
def Up(O:KeyOrd)(key:Nat->O.α)(p:Array Nat)(k:Nat):Prop:=∀i j,i<=j->j<k->O.kle (kp O key p i) (kp O key p j)
def Dn(O:KeyOrd)(key:Nat->O.α)(p:Array Nat)(k:Nat):Prop:=∀i j,i<=j->j<k->O.kle (kp O key p j) (kp O key p i)
def Pm(n:Nat)(p:Array Nat):Prop:=p.Perm (range n).toArray
theorem Pm.size{p:Array Nat}(h:Pm n p):p.size=n:=by
 have:=Array.Perm.size_eq h;simpa using this
theorem Pm.lt{p:Array Nat}(h:Pm n p){i:Nat}(hi:i<n):p.getD i 0<n:=by
 have b:=h.size;have a:p[i]'(by omega)∈p:=Array.getElem_mem _;have:=(Array.Perm.mem_iff h).mp a;rw[getD_eq_getD_getElem?,Array.getElem?_eq_getElem (by omega)];simpa using this
theorem jX{p q:Array Nat}{i j:Nat}(h:p[i]?=q[j]?):kp O key p i=kp O key q j:=by
 unfold kp;rw[getD_eq_getD_getElem?,getD_eq_getD_getElem?,h]
theorem qu{p:Array Nat}{i j:Nat}(a:j<=p.size)(k:Nat):kp O key (kas_rev p i j) k=if i<=k/\k<j then kp O key p (i+j - 1 - k) else kp O key p k:=by
 have e:=getElem?_mirror_all (xs:=p) (i:=i) a k;split
 .rename_i h;rw[if_pos h] at e;exact jX e
 .rename_i h;rw[if_neg h] at e;exact jX e
theorem qt{p:Array Nat}{i j:Nat}(b:j<=p.size)(a:∀k,i<=k->k<j->kp O key p k=kp O key p (j - 1))(k:Nat):kp O key (kas_rev p i j) k=kp O key p k:=by
 rw[qu b];split
 .rw[a _ (by omega) (by omega),a k (by omega) (by omega)]
 .rfl
theorem Pm.rev{p:Array Nat}(h:Pm n p)(i j:Nat):Pm n (kas_rev p i j):=(mirror_perm _ _ _ _).trans h
theorem Up.snoc{p:Array Nat}{x:Nat}(h:Up O key p x)(h1:1<=x)(c:O.blt (kp O key p x) (kp O key p (x - 1))=false):Up O key p (x+1):=λi j a d=>by
 by_cases b:j<x
 .exact h i j a b
 .have e:j=x:=by omega
  subst e;by_cases hi:i=j
  .subst hi;exact KeyOrd.kle_refl _
  .exact KeyOrd.kle_trans (h i (j - 1) (by omega) (by omega)) c
theorem Dn.snoc{p:Array Nat}{x:Nat}(h:Dn O key p x)(h1:1<=x)(c:O.kle (kp O key p x) (kp O key p (x - 1))):Dn O key p (x+1):=λi j a d=>by
 by_cases b:j<x
 .exact h i j a b
 .have e:j=x:=by omega
  subst e;by_cases hi:i=j
  .subst hi;exact KeyOrd.kle_refl _
  .exact KeyOrd.kle_trans c (h i (j - 1) (by omega) (by omega))
variable(hc:∀i j,i<n->j<n->∀C:Bool->Shared->Prop,C (O.blt (key i) (key j)) s->cmp i j C s)
include hc
theorem jC{α:Type}{p:Array Nat}(a:Pm n p){i j:Nat}(hi:i<n)(b:j<n){k:Bool->KasT α}{G:α->Shared->Prop}(h:(k (O.blt (kp O key p i) (kp O key p j))).kasWp cmp G s):(KasT.ask (p.getD i 0) (p.getD j 0) k).kasWp cmp G s:=
 hc _ _ (a.lt hi) (a.lt b) _ h
theorem oY{p:Array Nat}(c:Pm n p){b:Nat}(g:b<=n){G:Nat->Shared->Prop}:∀(f a:Nat),1<=a->a+f=b->Up O key p a->
  (∀m,a<=m->m<=b->Up O key p m->(m=b\/O.klt (kp O key p m) (kp O key p (m - 1)))->G m s)->(kas_asc p f a).kasWp cmp G s
 |0,a,h1,e,hs,h=>h a (le_refl _) (by omega) hs (.inl (by omega))
 |f+1,a,h1,e,hs,h=>by
  refine jC hc c (i:=a) (j:=a - 1) (by omega) (by omega) ?_;cases d:O.blt (kp O key p a) (kp O key p (a - 1)) with
  |true=>rw[if_pos rfl];exact h a (le_refl _) (by omega) hs (.inr d)
  |false=>
   rw[if_neg Bool.false_ne_true];exact oY c g f (a+1) (by omega) (by omega) (hs.snoc h1 d) λm k=>h m (by omega)
theorem lO{a:Nat}(o:a<=n){G:Array Nat×Nat×Nat->Shared->Prop}:∀(f:Nat) (p:Array Nat) (x q:Nat),Pm n p->1<=x->x+f=a->Dn O key p x->q+1<=x->(∀i,x - (q+1)<=i->i<x->kp O key p i=kp O key p (x - 1))->
  (∀b m d,Pm n b->x<=m->m<=a->Dn O key b m->d+1<=m->(∀i,m - (d+1)<=i->i<m->kp O key b i=kp O key b (m - 1))->G (b,m,d) s)->(kas_desc f p x q).kasWp cmp G s
 |0,p,x,q,g,h1,e,hs,r,k,h=>h p x q g (le_refl _) (by omega) hs r k
 |f+1,p,x,q,g,h1,e,hs,r,k,h=>by
  have A:=g.size;refine jC hc g (i:=x) (j:=x - 1) (by omega) (by omega) ?_;cases t:O.blt (kp O key p x) (kp O key p (x - 1)) with
  |true=>
   rw[if_pos rfl];by_cases l:q>0
   .rw[if_pos l]
    have w:=qt (O:=O) (key:=key) (p:=p) (i:=x - (q+1)) (j:=x) (by omega) k;refine lO o f _ (x+1) 0 (g.rev _ _) (by omega) (by omega) (λi j u z=>?_) (by omega) (λi i1 i2=>by congr 1;omega) λb m d c y=>h b m d c (by omega);rw[w,w];exact(hs.snoc h1 (KeyOrd.kle_of_klt t)) i j u z
   .rw[if_neg l]
    exact lO o f p (x+1) 0 g (by omega) (by omega) (hs.snoc h1 (KeyOrd.kle_of_klt t)) (by omega) (λi i1 i2=>by congr 1;omega) λb m d c y=>h b m d c (by omega)
  |false=>
   rw[if_neg Bool.false_ne_true];refine jC hc g (i:=x - 1) (j:=x) (by omega) (by omega) ?_;cases hd:O.blt (kp O key p (x - 1)) (kp O key p x) with
   |true=>rw[if_pos rfl];exact h p x q g (le_refl _) (by omega) hs r k
   |false=>
    rw[if_neg Bool.false_ne_true];have ex:kp O key p x=kp O key p (x - 1):=KeyOrd.kle_antisymm hd t;refine lO o f p (x+1) (q+1) g (by omega) (by omega) (hs.snoc h1 hd) (by omega) (λi i1 i2=>?_) λb m d c y=>h b m d c (by omega);rw[show x+1 - 1=x by omega];by_cases v:i=x
    .rw[v]
    .rw[ex];exact k i (by omega) (by omega)
theorem Aa{p:Array Nat}(b:Pm n p){m a:Nat}(e:a<=n)(h1:1<=m)(o:m<=a)(hs:Dn O key p m){G:Nat×Array Nat->Shared->Prop}(h:∀k c,Pm n c->1<=k->k<=a->Up O key c k->G (k,c) s):(kas_tail3 m a p).kasWp cmp G s:=by
 have q:=b.size;unfold kas_tail3;rw[KasT.kasWp_bind];refine oY hc (b.rev 0 m) e _ m h1 (by omega) (λi j f r=>?_) λk g d l _=>h k _ (b.rev 0 m) (by omega) d l;rw[qu (by omega),qu (by omega),if_pos (by omega),if_pos (by omega)];exact hs _ _ (by omega) (by omega)
theorem xY{p:Array Nat}(r:Pm n p){m a:Nat}(g:a<=n)(w:m+1<=a)(hs:Dn O key p (m+1)){G:Nat×Array Nat->Shared->Prop}(h:∀k c,Pm n c->1<=k->k<=a->Up O key c k->G (k,c) s):(kas_descPart m a p).kasWp cmp G s:=by
 unfold kas_descPart;rw[KasT.kasWp_bind];refine lO hc g _ p (m+1) 0 r (by omega) (by omega) hs (by omega) (λi i1 i2=>by congr 1;omega) λc k q b t d e x u=>?_;have y:=b.size;by_cases f:q>0
 .simp only[f,if_true]
  have o:=qt (O:=O) (key:=key) (p:=c) (i:=k - (q+1)) (j:=k) (by omega) u;refine Aa hc (b.rev _ _) g (by omega) d (λi j l v=>?_) h;rw[o,o];exact e i j l v
 .simp only[f,if_false]
  exact Aa hc b g (by omega) d e h
theorem BW{p:Array Nat}(b:Pm n p)(h1:1<=n){G:Nat×Array Nat->Shared->Prop}(h:∀k r,Pm n r->1<=k->k<=n->Up O key r k->G (k,r) s):(kas_count n p).kasWp cmp G s:=by
 have x:=b.size;unfold kas_count;rw[KasT.kasWp_bind];refine oY hc b (le_refl n) _ 1 (le_refl _) (by omega) (λi j a f=>by have e:i=j:=(by omega);rw[e];exact KeyOrd.kle_refl _) λm c g o t=>?_;by_cases d:m=n
 .rw[if_pos (by simpa using d)]
  exact h m p b c g o
 .rw[if_neg (by simpa using d)]
  have l:=t.resolve_left d;by_cases v:m>1
  .rw[if_pos v]
   refine jC hc b (i:=0) (j:=m - 1) (by omega) (by omega) ?_;cases w:O.blt (kp O key p 0) (kp O key p (m - 1)) with
   |true=>rw[if_pos rfl];exact h m p b c g o
   |false=>
    rw[if_neg Bool.false_ne_true];have u:∀k,0<=k->k<m->kp O key p k=kp O key p (m - 1):=λk _ q=>
     KeyOrd.kle_antisymm (o k (m - 1) (by omega) (by omega)) (KeyOrd.kle_trans w (o 0 k (by omega) q))
    have q:=qt (O:=O) (key:=key) (p:=p) (i:=0) (j:=m) (by omega) u;refine xY hc (b.rev 0 m) (le_refl n) (by omega) (λi j a f=>?_) h;rw[q,q];have hd:Dn O key p m:=λi j a f=>by rw[u i (by omega) (by omega),u j (by omega) f];exact KeyOrd.kle_refl _
    exact(hd.snoc c (KeyOrd.kle_of_klt l)) i j a f
  .rw[if_neg v]
   have e:m=1:=by omega
   subst e;have hd:Dn O key p 1:=λi j a f=>by have e:i=j:=(by omega);rw[e];exact KeyOrd.kle_refl _
   exact xY hc b (le_refl n) (by omega) (hd.snoc (le_refl _) (KeyOrd.kle_of_klt l)) h
theorem qX{p:Array Nat}(g:Pm n p){k:Nat}(m:k<n)(d:Up O key p k){G:Nat->Shared->Prop}:∀(f l r:Nat),l<=r->r<=k->r - l<=f->(∀i,i<l->O.kle (kp O key p i) (kp O key p k))->(∀i,r<=i->i<k->O.klt (kp O key p k) (kp O key p i))->
  (∀l,l<=k->(∀i,i<l->O.kle (kp O key p i) (kp O key p k))->(∀i,l<=i->i<k->O.klt (kp O key p k) (kp O key p i))->G l s)->(kas_place p k f l r).kasWp cmp G s
 |0,l,r,o,q,u,a,b,h=>by
  have e:l=r:=by omega
  exact h l (by omega) a (e▸b)
 |f+1,l,r,o,q,u,a,b,h=>by
  unfold kas_place;by_cases c:l≥r
  .rw[if_pos c]
   have e:l=r:=by omega
   exact h l (by omega) a (e▸b)
  .rw[if_neg c]
   refine jC hc g (i:=k) (j:=(l+r)/2) m (by omega) ?_;cases t:O.blt (kp O key p k) (kp O key p ((l+r)/2)) with
   |true=>
    rw[if_pos rfl];exact qX g m d f l ((l+r)/2) (by omega) (by omega) (by omega) a (λi i1 i2=>KeyOrd.klt_of_klt_of_kle t (d _ _ i1 i2)) h
   |false=>
    rw[if_neg Bool.false_ne_true];exact qX g m d f ((l+r)/2+1) r (by omega) (by omega) (by omega) (λi i1=>KeyOrd.kle_trans (d i ((l+r)/2) (by omega) (by omega)) t) b h
theorem tV{G:Array Nat->Shared->Prop}(h:∀g,Pm n g->Up O key g n->G g s):∀(f:Nat) (p:Array Nat) (k:Nat),Pm n p->k+f=n->Up O key p k->(kas_bin f p k).kasWp cmp G s
 |0,p,k,b,e,d=>h p b (by rw[<-e];exact d)
 |f+1,p,k,b,e,d=>by
  have r:=b.size;unfold kas_bin;rw[KasT.kasWp_bind];refine qX hc b (by omega) d k 0 k (by omega) (le_refl _) (by omega) (λi hi=>by omega) (λi i1 i2=>by omega) λl t m o=>?_;refine tV h f _ (k+1) ((bubble_perm _ _ _).trans b) (by omega) λi j q u=>?_;have c:∀x,kp O key (bubble p k (k - l)) x=if x=l then kp O key p k else if l<x/\x<=k then kp O key p (x - 1) else kp O key p x:=λx=>by
   have a:=getElem?_bubble (xs:=p) (src:=k) (by omega) (k - l) (by omega) x;rw[show k - (k - l)=l by omega] at a;split
   .rename_i h1;rw[if_pos h1] at a;exact jX a
   .rename_i h1
    rw[if_neg h1] at a;split
    .rename_i h2;rw[if_pos h2] at a;exact jX a
    .rename_i h2;rw[if_neg h2] at a;exact jX a
  rw[c,c];repeat' split
  all_goals first
   |(exfalso;omega)
   |exact KeyOrd.kle_refl _
   |exact m _ (by omega)
   |exact KeyOrd.kle_of_klt (o _ (by omega) (by omega))
   |exact d _ _ (by omega) (by omega)
theorem KS{G:Array Nat->Shared->Prop}(h1:1<=n)(h:∀a,Pm n a->Up O key a n->G a s):(kas_sort n).kasWp cmp G s:=by
 unfold kas_sort;rw[KasT.kasWp_bind];refine BW hc (Array.Perm.refl _) h1 λk p b e f c=>?_;by_cases d:k<n
 .simp only[d,if_true]
  rw[show max k 1=k by omega];exact tV hc h _ p k b (by omega) c
 .simp only[d,if_false]
  exact h p b (by rw[show n=k by omega];exact c)
end
end KO
namespace KP
open PySem PySem.W PySem.Spec PyProof.Rows KO
section
variable{prog:Program}{w:World}{A:Around}{E:aj}{s:Shared}
theorem wX{κ:SortKind}{O:KeyOrd}{key:Nat->O.α}{a:Addr}{vs:List Value}{n:Nat}{P:PySem.Fin->Shared->Prop}(m:s.heap.get? a=some (seqObj "list" vs.toArray n))(r:vs.length<64)
  (I:∀s':Shared,(∀b o,b≠a->s.heap.get? b=some o->s'.heap.get? b=some o)->2<=vs.length->∀R:SortKind->Shared->Prop,R κ s'->wpAny (model prog w) A (keyKind' vs.toArray) R (λ_ _=>False) s')
  (hc:∀s':Shared,(∀b o,b≠a->s.heap.get? b=some o->s'.heap.get? b=some o)->∀i j,i<vs.length->j<vs.length->∀C:Bool->Shared->Prop,C (O.blt (key i) (key j)) s'->kas_ask prog w A κ vs i j C s')
  (h:∀p:Array Nat,Pm vs.length p->Up O key p vs.length->P (.done (.ret .none)) {s with heap:=sortedHeap s.heap a vs (p.toList.map λi=>vs.getD i Value.none).toArray}):
  wpAny (model prog w) A (Builtin.«list.sort» ⟨[.ref a],[]⟩) P E s:=by
 rw[list_sort_plain]
 have H:a<s.heap.objs.size:=lt_size m
 refine wpAny_bind (listItems_at m rfl ?_)
 refine wpAny_bind (listUpdate_at m rfl ?_ (by rw[size_toArray,sizeLine_eq];omega) (zero_le _))
 obtain⟨t,g⟩:∃t,(s.heap.update a (Obj.mapSeq λ_=>(#[]:Array Value))).get? a=some (seqObj "list" #[] t):=⟨_,get?_update_seq m λ_=> #[]⟩
 refine wpAny_bind (seqEpoch_at g rfl ?_)
 refine wpAny_bind (wpAny_newTuple ?_ (by show vs.length<=_;rw[sizeLine_eq];omega))
 refine wpAny_bind (wpAny_newList ?_ (zero_le _))
 refine wpAny_holding ?_
 have c:(((s.heap.update a (Obj.mapSeq λ_=>(#[]:Array Value))).push (seqObj "tuple" vs.toArray 0)).push (seqObj "list" #[] 0)).get? a=some (seqObj "list" #[] t):=by
  rw[get?_push_ne _ _ _ (by rw[size_push',size_update];exact ne_of_lt (lt_succ_of_lt H)),get?_push_ne _ _ _ (by rw[size_update];exact ne_of_lt H)]
  exact g
 have kp:∀b o,b≠a->s.heap.get? b=some o->(((s.heap.update a (Obj.mapSeq λ_=>(#[]:Array Value))).push (seqObj "tuple" vs.toArray 0)).push (seqObj "list" #[] 0)).get? b=some o:=λb o J q=>
  get?_push_of_some _ (get?_push_of_some _ (by rw[Heap.get?_update_ne _ _ _ _ J];exact q))
 show wpAny (model prog w) A _ P E {s with heap:=((s.heap.update a (Obj.mapSeq λ_=>(#[]:Array Value))).push (seqObj "tuple" vs.toArray 0)).push (seqObj "list" #[] 0)}
 dsimp only
 by_cases h2:vs.toArray.size<2
 .rw[if_pos h2,if_pos h2]
  refine wpAny_bind (wpAny_pure ?_)
  rw[StateT.run_pure]
  refine wpAny_bind (wpAny_pure ?_)
  dsimp only
  have u:vs.length<2:=by simpa using h2
  have e:=h (range vs.length).toArray (Array.Perm.refl _) λi j K Y=>by
   have L:i=j:=by omega
   rw[L];exact KeyOrd.kle_refl _
  have M:(arrOf (SortSt.mk' general' (vs.toArray.zip vs.toArray) #[] 7 none)).map (·.2)=((range vs.length).toArray.toList.map λi=>vs.getD i Value.none).toArray:=by
   refine kat_snds (ks:=vs) rfl ?_
   have e:=kas_range (vs.toArray.zip vs.toArray)
   rw[show(vs.toArray.zip vs.toArray).size=vs.length by simp] at e
   exact e.symm
  rw[M]
  refine wpAny_bind (seqEpoch_at c rfl ?_)
  refine wpAny_bind (listUpdate_at c rfl ?_ (zero_le _) (by rw[size_toArray,length_map,length_range,sizeLine_eq];omega))
  simp only[bne_self_eq_false,false_eq_true,if_false]
  exact wpAny_pure e
 .rw[if_neg h2,if_neg h2]
  have u:2<=vs.length:=by
   have:vs.toArray.size=vs.length:=by simp
   omega
  obtain⟨f,v⟩:∃f:Shared,f={s with heap:=((s.heap.update a (Obj.mapSeq λ_=>(#[]:Array Value))).push (seqObj "tuple" vs.toArray 0)).push (seqObj "list" #[] 0)}:=⟨_,rfl⟩
  have k:∀b o,b≠a->s.heap.get? b=some o->f.heap.get? b=some o:=by rw[v];exact kp
  rw[<-v]
  refine wpAny_bind (wpAny_mono (I f k u (λl s'=>l=κ/\s'=f) ⟨rfl,rfl⟩) ?_ λ_ _ x=>x.elim)
  rintro l s' ⟨N,es⟩
  rw[N,es]
  refine wpAny_bind (wpAny_mono (kat_run (ks:=vs) (vs:=vs) (Q:=λd s'=>∃p:Array Nat,p.size=vs.length/\arrOf d=p.map (kas_item (vs.toArray.zip vs.toArray))/\failedOf d=none/\Pm vs.length p/\Up O key p vs.length/\s'=f)
   (G:=λp s'=>Pm vs.length p/\Up O key p vs.length/\s'=f) rfl u r (λS d s' a1 a2 T U=>⟨S,a1,a2,T,U⟩)
   (KS (O:=O) (key:=key) (hc f k) (by omega) λp y V=>⟨y,V,rfl⟩)) ?_ λ_ _ e=>e)
  rintro ⟨⟨⟩,d⟩ W ⟨p,y,z,X,B,D,F⟩
  dsimp only
  rw[F]
  rw[kat_snds rfl z]
  subst v
  refine wpAny_bind (seqEpoch_at c rfl ?_)
  refine wpAny_bind (listUpdate_at c rfl ?_ (zero_le _) (by rw[size_toArray,length_map,length_toList,y,sizeLine_eq];omega))
  rw[X]
  simp only[bne_self_eq_false,false_eq_true,if_false]
  exact wpAny_pure (h p B D)
theorem KU{κ:SortKind}{O:KeyOrd}{key:Nat->O.α}{l:Addr}{vs:List Value}{Q:aj}(f:s.heap.IsList l vs.toArray)(d:vs.length<64)
  (g:∀s':Shared,(∀b o,s.heap.get? b=some o->s'.heap.get? b=some o)->2<=vs.length->∀R:SortKind->Shared->Prop,R κ s'->wpAny (model prog w) A.in1.in1 (keyKind' vs.toArray) R (λ_ _=>False) s')
  (hc:∀s':Shared,(∀b o,s.heap.get? b=some o->s'.heap.get? b=some o)->∀i j,i<vs.length->j<vs.length->∀C:Bool->Shared->Prop,C (O.blt (key i) (key j)) s'->kas_ask prog w A.in1.in1 κ vs i j C s')
  (h:∀(p:Array Nat) (h':Heap) (D:Addr) (e:Nat),Pm vs.length p->Up O key p vs.length->s.heap.objs.size<=D->h'.get? D=some (seqObj "list" (p.toList.map λi=>vs.getD i Value.none).toArray e)->(∀b o,s.heap.get? b=some o->h'.get? b=some o)->Q (.ref D) {s with heap:=h'}):
  wpAny (model prog w) A (call (.builtin "sorted") [.ref l]) Q E s:=by
 refine Calls.call_function_entry kind_sorted plain_sorted entry_sorted (args_sorted1 _) ?_
 unfold Builtin.«sorted»
 refine wpAny_bind (m:=checkCount "sorted" 1 1 _) (wpAny_pure ?_)
 refine wpAny_bind (collect_list f ?_ (by rw[sizeLine_eq];omega))
 refine wpAny_bind (wpAny_newList ?_ (by rw[sizeLine_eq];omega))
 have hsz:((s.heap.push (seqObj "list" #[] 0)).update s.heap.objs.size (Obj.mapSeq (·++vs.toArray))).objs.size=s.heap.objs.size+1:=by
  rw[size_update,size_push']
 have a:(((s.heap.push (seqObj "list" #[] 0)).update s.heap.objs.size (Obj.mapSeq (·++vs.toArray))).push (seqObj "list" vs.toArray 0)).get? (s.heap.objs.size+1)=some (seqObj "list" vs.toArray 0):=by
  rw[<-hsz];exact get?_push_size _ rfl
 have keep:∀b o,s.heap.get? b=some o->(((s.heap.push (seqObj "list" #[] 0)).update s.heap.objs.size (Obj.mapSeq (·++vs.toArray))).push (seqObj "list" vs.toArray 0)).get? b=some o:=λb o q=>by
  have c:b<s.heap.objs.size:=lt_size q
  rw[get?_push_ne _ _ _ (by rw[hsz];exact ne_of_lt (lt_succ_of_lt c)),Heap.get?_update_ne _ _ _ _ (ne_of_lt c),get?_push_ne _ _ _ (ne_of_lt c)]
  exact q
 have ne:∀b o,s.heap.get? b=some o->b≠s.heap.objs.size+1:=λb o q=>ne_of_lt (lt_succ_of_lt (lt_size q))
 show wpAny _ _ _ _ _ {s with heap:=((s.heap.push (seqObj "list" #[] 0)).update s.heap.objs.size (Obj.mapSeq (·++vs.toArray))).push (seqObj "list" vs.toArray 0)}
 rw[hsz]
 refine wpAny_bind (wpAny_holding (wpAny_call_entry slot_list_sort ⟨_,a,rfl⟩ entry_list_sort ?body (args_list_sort _)))
 case body=>
  refine wX (κ:=κ) (O:=O) (key:=key) (s:={s with heap:=((s.heap.push (seqObj "list" #[] 0)).update s.heap.objs.size (Obj.mapSeq (·++vs.toArray))).push (seqObj "list" vs.toArray 0)})
   a d (λs' k=>g s' λb o q=>k b o (ne b o q) (keep b o q)) (λs' k=>hc s' λb o q=>k b o (ne b o q) (keep b o q)) λp n r=>⟨_,rfl,wpAny_pure ⟨_,rfl,?_⟩⟩
  obtain⟨e,t⟩:=sortedHeap_at (out:=(p.toList.map λi=>vs.getD i Value.none).toArray) a
  refine h p _ _ e n r (le_succ _) t λb o q=> ?_
  rw[sortedHeap_old (ne b o q) (lt_size (keep b o q))]
  exact keep b o q
theorem wR{b fin r:Bool}{Q:Bool->Shared->Prop}(q:Q r s):∀{zs:List (Value×Value)} {i:Nat},0<i->L2.fE .Lt A s fin r zs->KatLex prog w A b fin Q zs i s
 |[],i,hi,h=>by
  cases h with
  |nil e=>exact kat_nil (by rw[e];exact q)
 |(y,x)::zs,i,hi,h=>by
  refine kat_cons ?_;cases h with
  |eq h1 h2=>exact h1 prog w _ _ (kat_yes (wR q (by omega) h2))
  |ne h1 h2=>
   refine h1 prog w _ _ (kat_no ?_);have e:(b&&i==0)=false:=by
    cases i with
    |zero=>omega
    |succ i=>simp
   rw[e];exact kat_one _ _ (h2 prog w _ _ q)
theorem wB{x y:Value}{a c:Str}{xs ys:List PyData}{as bs:List Addr}{r:Bool}{Q:Bool->Shared->Prop}(e:L2.ltQ (.tuple (.str a::xs)) (.tuple (.str c::ys))=some r)(t:Reads s.heap x (.tuple (.str a::xs)) as)(u:Reads s.heap y (.tuple (.str c::ys)) bs)
  (v:canLay0 (.tuple (.str a::xs))=true)(cy:canLay0 (.tuple (.str c::ys))=true)(j:A.units+min (depthAll (.str a::xs)) (depthAll (.str c::ys))<cLine)(q:Q r s):wpAny (model prog w) A (keyLt' (tuples' true) x y) Q E s:=by
 cases t with
 | @tuple l o vs n _ h h1 h2 z k=>
  cases u with
  | @tuple D o' b n' _ i k1 k2 k3 m=>
   refine kat_lt h1 z k1 k3 ?_;rw[L2.ltQ] at e;have hsz:decide (vs.size<b.size)=decide (vs.toList.length<b.toList.length):=by simp
   rw[hsz];generalize vs.toList=F at k ⊢;generalize b.toList=B at m ⊢;have d:canLay0 (.str a)=true/\canLayAll0 xs=true:=by simpa[canLay0,canLayAll0] using v
   have f:canLay0 (.str c)=true/\canLayAll0 ys=true:=by simpa[canLay0,canLayAll0] using cy
   cases k with
   |cons a1 a2=>
    cases m with
    |cons p C=>
     have g:=SeqAt.eqAt_reads (.str a) (.str c) A s _ _ _ _ a1 p d.1 f.1 (SeqAt.room_head j);cases a1;cases p;rw[List.zip_cons_cons,L2.wQ];refine kat_cons ?_;rw[L2.eO] at e;cases ce:PyData.eqv (.str a) (.str c) with
     |true=>
      rw[ce] at e g;exact g prog w _ _ (kat_yes (wR q (by omega) (L2.qA xs ys A s _ _ _ _ r e a2 C d.2 f.2 (SeqAt.room_tail j))))
     |false=>
      rw[ce] at e g;refine g prog w _ _ (kat_no (oneLt_str ?_));have e:L2.ltQ (.str a) (.str c)=some r:=e;rw[L2.ltQ] at e;cases e;exact q
end
end KP
section
open PySem PySem.Spec PyProof.Rows
namespace L2
open PySem.SeqAt
theorem uT{xs ys:List PyData}{u:Nat}(h1:(PyData.tuple xs).depth<=60)(a:u+64<cLine):u+2+min (depthAll xs) (depthAll ys)<cLine:=by
 have e:(PyData.tuple xs).depth=depthAll xs+1:=rfl;omega
theorem kat_tups{h:Heap}:∀{vs:List Value} {qs:List PyData},vs.length=qs.length->(∀(i:Nat) v q,vs[i]?=some v->qs[i]?=some q->∃as x r,Reads h v q as/\q=.tuple (.str x::r))->∃fs:List Value,fs.length=vs.length/\PySem.W.KatTups h vs fs/\∀v∈fs,∃x t,v=Value.str x t
 |[],[],_,_=>⟨[],rfl,.nil,λ_ h=>by cases h⟩
 |v::vs,q::qs,e,k=>by
  obtain⟨fs,h1,h2,c⟩:=kat_tups (vs:=vs) (qs:=qs) (by simpa using e) λi d f g j=>k (i+1) d f (by simpa using g) (by simpa using j);obtain⟨as,x,r,rd,rfl⟩:=k 0 v q rfl rfl;cases rd with
  | @tuple l o m n _ a p s u b=>
   generalize w:m.toList=ul at b;cases b with
   | @cons y vr _ _ _ _ a1 a2=>
    cases a1 with
    |str _ t=>
     refine⟨Value.str x t::fs,by simp[h1],.cons p s u ?_ h2,λv hv=>?_⟩
     .rw[<-getElem?_toList,w];rfl
     .rcases mem_cons.mp hv with rfl|hv
      .exact⟨x,t,rfl⟩
      .exact c v hv
section
variable{X:Cx}
theorem BL(hc:X.calm=true)(hu:X.A.units+64<cLine):ck X (.builtin "sorted") (λxs H Q=>∃(a:Addr) (vs:List V) (qs:List PyData) (O:KeyOrd) (key:Nat->O.α),xs=[.ref a]/\aI X.K H a vs/\vs.length<64/\vs.length=qs.length/\
  (∀(i:Nat) v q,vs[i]? =some v->qs[i]? =some q->Dp X.K H v q/\q.canLay0=true/\q.depth<=60/\∃x r,q= .tuple (.str x::r))/\(∀(i j:Nat) p q,qs[i]? =some p->qs[j]? =some q->ltQ p q=some (O.blt (key i) (key j)))/\
  ∀(l:Addr) (p:Array Nat),H l=none->KO.Pm vs.length p->KO.Up O key p vs.length->Q (.ref l) (upd H l (.lst (p.toList.map λi=>vs.getD i .ak)))):=by
 intro pins s σ H xs us Q I r h
 obtain⟨a,vs,qs,O,key,rfl,hq,B,hl,hd,hk,q⟩:=h
 obtain⟨u,rfl,ru⟩:=vals1 r
 cases ru
 obtain⟨its,E,pl,hz⟩:=I.list hq
 have F:=E.length
 have rd:∀(i:Nat) u p,its[i]? =some u->qs[i]? =some p->∃as x r,Reads s.heap u p as/\p= .tuple (.str x::r)/\p.canLay0=true/\p.depth<=60:=λi u p k G=>by
  have hi:i<its.length:=(List.getElem?_eq_some_iff.mp k).1
  obtain⟨u',m,J⟩:=Vals.get E (getElem?_eq_getElem (show i<vs.length by omega))
  rw[k] at m
  cases m
  obtain⟨d1,d2,d3,x,r,d4⟩:=hd i _ p (getElem?_eq_getElem (show i<vs.length by omega)) G
  obtain⟨as,d5⟩:=Dp.reads I p _ u d1 J
  exact⟨as,x,r,d5,d4,d2,d3⟩
 refine KP.KU (κ:=tuples' true) (O:=O) (key:=key) (vs:=its) pl.isList (by omega) (λs' kp h2 R hR=> ?_) (λs' kp i j hi hj C hC=> ?_) λp h' D e L d hD ho kp=> ?_
 .obtain⟨fs,f1,f2,f3⟩:=kat_tups (h:=s'.heap) (vs:=its) (qs:=qs) (by omega) λi v q k G=>by
   obtain⟨as,x,r,n,M,_⟩:=rd i v q k G
   exact⟨as,x,r,PyProof.Rows.Reads.keeps kp n,M⟩
  refine kat_kind (T:=Value.type "str") f2 (by omega) (λv hv=> ?_) (by decide) hR
  obtain⟨x,t,rfl⟩:=f3 v hv
  exact Looks.of_pure rfl
 .have N:=getElem?_eq_getElem hi
  have P:=getElem?_eq_getElem hj
  have S:=getElem?_eq_getElem (show i<qs.length by omega)
  have U:=getElem?_eq_getElem (show j<qs.length by omega)
  obtain⟨as,x,r,n,M,Y,Z⟩:=rd i _ _ N S
  obtain⟨bs,y,t,k1,k2,k3,k4⟩:=rd j _ _ P U
  have c:=hk i j _ _ S U
  rw[M] at n Y Z c
  rw[k2] at k1 k3 c
  unfold PySem.W.kas_ask
  rw[getD_eq_getElem?_getD,getD_eq_getElem?_getD,N,P]
  exact KP.wB c (PyProof.Rows.Reads.keeps kp n) (PyProof.Rows.Reads.keeps kp k1) Y k3 (uT Z hu) hC
 .have f:∀u,s.heap.get? D≠some u:=λu z=>absurd (lt_of_lt_of_le (lt_size z) hD) (lt_irrefl _)
  have hn:H D=none:=by
   cases e0:H D with
   |none=>rfl
   |some o=>
    obtain⟨u,z⟩:=(I.hok _ _ e0).obj
    exact absurd z (f u)
  rw[<-F] at L d
  refine⟨.ref D,upd H D (.lst (p.toList.map λi=>vs.getD i .ak)),?_,rfl,q D p hn L d⟩
  refine I.mL (t':=s.toks) kp (iw.new hn _) λb o w=> ?_
  by_cases hb:b=D
  .subst hb
   rw[cj] at w
   cases w
   refine .inr ⟨f,?_⟩
   refine⟨by rw[length_map,length_toList,L.size];exact le_of_lt (lt_of_lt_of_le B (by decide)),p.toList.map λi=>its.getD i Value.none,e,?_,ho⟩
   generalize p.toList=g
   induction g with
   |nil=>exact .nil
   |cons i g ih=>
    refine .cons ?_ ih
    show RelV (vs.getD i .ak) (its.getD i Value.none)
    rw[getD_eq_getElem?_getD,getD_eq_getElem?_getD]
    by_cases hi:i<vs.length
    .obtain⟨u',m,J⟩:=Vals.get E (getElem?_eq_getElem hi)
     rw[getElem?_eq_getElem hi,m]
     exact J
    .rw[getElem?_eq_none (by omega),getElem?_eq_none (by omega)]
     rfl
  .rw[aF hb] at w
   exact .inl w
end
end L2
namespace DP
open L2
@[irreducible] def nQ(r:Nat)(A:Ar)(R:DK):Prop:=match A[r]? with
 |some (.lst ds)=>ds.length<64/\(∀d∈ds,fu d=true/\(toQ d).canLay0=true/\(toQ d).depth<=60/\∃x r,toQ d=.tuple (.str x::r))/\
  ∃(O:KeyOrd) (key:D->O.α),(∀d∈ds,∀e∈ds,ltQ (toQ d) (toQ e)=some (O.blt (key d) (key e)))/\∀es:List D,es.Perm ds->es.Pairwise (λa b=>O.kle (key a) (key b))->R (.ref A.length) (A++[.lst es])
 |_=>False
def zU:dF:=λvs A R=>match vs with
 |[.ref r]=>nQ r A R
 |_=>False
theorem xu{α:Type}(d:α):∀(l:List α),(range l.length).map (λi=>l.getD i d)=l:=λl=>by
 apply List.ext_getElem
 .simp
 .intro i h1 h2
  simp[h2]
theorem CI{mg:ah}{K:PySem.W.Frag}:eK mg (λxs H Q=>∃(a:Addr) (vs:List V) (qs:List PyData) (O:KeyOrd) (key:Nat->O.α),xs=[.ref a]/\aI K H a vs/\vs.length<64/\vs.length=qs.length/\
  (∀(i:Nat) v q,vs[i]? =some v->qs[i]? =some q->Dp K H v q/\q.canLay0=true/\q.depth<=60/\∃x r,q= .tuple (.str x::r))/\(∀(i j:Nat) p q,qs[i]? =some p->qs[j]? =some q->ltQ p q=some (O.blt (key i) (key j)))/\
  ∀(l:Addr) (p:Array Nat),H l=none->KO.Pm vs.length p->KO.Up O key p vs.length->Q (.ref l) (upd H l (.lst (p.toList.map λi=>vs.getD i .ak)))) zU:=by
 intro ds A ι H U R Q ra rs h k
 unfold zU at h
 split at h
 .obtain⟨_,_,rfl,⟨_,rfl⟩,rfl⟩:=rs
  unfold nQ at h
  split at h
  .rename_i ds e
   obtain⟨E,hd,O,key,F,q⟩:=h
   obtain⟨xs,G,t⟩:=ra.lst e
   have z:=af.length t
   refine⟨_,xs,ds.map toQ,O,λi=>key (ds.getD i .ak),rfl,aI.of G,by omega,by simp[z],λi v p c b=> ?_,λi j p X c b=> ?_,λl p I n g=> ?_⟩
   .rw[getElem?_map] at b
    cases f:ds[i]? with
    |none=>rw[f] at b;cases b
    |some d=>
     rw[f] at b
     cases b
     obtain⟨J,o,u⟩:=af.get t f
     rw[c] at o
     cases o
     obtain⟨p1,p2,L,M⟩:=hd d (mem_of_getElem? f)
     exact⟨RV.dp _ _ p1 u,p2,L,M⟩
   .rw[getElem?_map] at c b
    cases f:ds[i]? with
    |none=>rw[f] at c;cases c
    |some d=>
     cases s:ds[j]? with
     |none=>rw[s] at b;cases b
     |some d'=>
      rw[f] at c
      rw[s] at b
      cases c
      cases b
      show ltQ (toQ d) (toQ d')=some (O.blt (key (ds.getD i .ak)) (key (ds.getD j .ak)))
      rw[getD_eq_getElem?_getD,getD_eq_getElem?_getD,f,s]
      exact F d (mem_of_getElem? f) d' (mem_of_getElem? s)
   .rw[<-z] at n g
    have N:=n.size
    have w:(p.toList.map λi=>ds.getD i .ak).Perm ds:=by
     have:=(perm_iff_toList_perm.mp n).map λi=>ds.getD i D.ak
     rwa [xu] at this
    refine fm k ra (ds:=p.toList.map λi=>ds.getD i .ak) ?_ (q _ w ?_) I
    .refine af.of_get (by simp) λi d v c b=> ?_
     rw[getElem?_map] at c b
     cases ep:p.toList[i]? with
     |none=>rw[ep] at c;cases c
     |some m=>
      rw[ep] at c b
      have P:m<ds.length:=by
       have:=(perm_iff_toList_perm.mp n).mem_iff.mp (mem_of_getElem? ep)
       simpa using this
      have B:=getElem?_eq_getElem P
      obtain⟨J,o,u⟩:=af.get t B
      have c:some (ds.getD m .ak)=some d:=c
      have b:some (xs.getD m .ak)=some v:=b
      rw[getD_eq_getElem?_getD,B] at c
      rw[getD_eq_getElem?_getD,o] at b
      cases c
      cases b
      exact u
    .rw[pairwise_map,pairwise_iff_getElem]
     intro i j hi C y
     have:=g i j (le_of_lt y) (by simpa[N] using C)
     unfold KO.kp at this
     have S:p.getD i 0=p.toList[i]:=by
      rw[getD_eq_getD_getElem?,Array.getElem?_eq_getElem (by simpa using hi)]
      simp
     have T:p.getD j 0=p.toList[j]:=by
      rw[getD_eq_getD_getElem?,Array.getElem?_eq_getElem (by simpa using C)]
      simp
     rw[S,T] at this
     exact this
  .exact h.elim
 .exact h.elim
theorem K1{A:Ar}{r:Nat}{ds:List D}{R:DK}(O:KeyOrd)(key:D->O.α)(h:A[r]?=some (.lst ds))(c:ds.length<64)(hd:∀d∈ds,fu d=true/\(toQ d).canLay0=true/\(toQ d).depth<=60/\∃x r,toQ d=.tuple (.str x::r))
  (f:∀d∈ds,∀e∈ds,ltQ (toQ d) (toQ e)=some (O.blt (key d) (key e)))(k:∀es:List D,es.Perm ds->es.Pairwise (λa b=>O.kle (key a) (key b))->R (.ref A.length) (A++[.lst es])):nQ r A R:=by
 unfold nQ;simp only[h];exact⟨c,hd,O,key,f,k⟩
abbrev eG:KeyOrd:=strKind.toKeyOrd
theorem zY{a b:Str}(h:a.cps.toList=b.cps.toList):a=b:=by
 cases a;cases b;simp at h;simpa using Array.toList_inj.mp (by simpa using h)
end DP
namespace L2
open PySem.SeqAt
open AutoSeq1 (wpAny_loadPart')
open MeetsSeq MeetsSeq2 MeetsSeq3 SeqRoads2
end L2
namespace DP
open L2
section
variable{X:Cx}{N:En}{a b:Expr}{ma mb:ao}{pos:Pos}
end
end DP
namespace L2
end L2
namespace DP
open L2
section
variable{X:Cx}{N:En}{a b:Expr}{ma mb:ao}{pos:Pos}
end
end DP
namespace L2
open Sem (wp)
open AutoSeq1 (wpAny_loadPart')
section
variable{prog:Program}{w:World}{A:Around}{E:aj}{s:Shared}
end
section
variable{prog:Program}{w:World}{A:Around}{E:aj}{s:Shared}
end
section
variable{X:Cx}
end
end L2
namespace DP
open L2
section
variable{es:List Expr}{env:Env}{p:Pos}
theorem jm{c i}:starEach (.Constant c i p::es) env=(false,eval (.Constant c i p) env)::starEach es env:=rfl
end
section
variable{X:Cx}{k n:Nat}
end
end DP
namespace HT
open L2
section
variable{prog:Program}{w:World}{A:Around}{E:aj}{s:Shared}
end
end HT
namespace L2
section
variable{X:Cx}{e se:Expr}{te ts:TE}{p2 pos:Pos}
end
end L2
namespace DP
open L2
end DP
namespace L2
section
variable{X:Cx}
end
end L2
namespace DP
open L2
section
variable{X:Cx}{N:En}{a b:Expr}{pos:Pos}{ma mb:ao}
end
section
variable{mg:ah}{ι:Io}{n:Nat}{H:Hp}
end
section
variable{X:Cx}{N:En}{cl f:Str}{C:Addr}{e o value:Expr}{pos pos':Pos}{m mo mv:ao}
end
section
variable{X:Cx}{N:En}{k n:Nat}{cl mn:Str}{ps:List Str}{S:Ct}{RE:DX}{o e:Expr}{es:List Expr}{mo:ao}{m:bB}{p pos apos:Pos}
end
section
variable{X:Cx}{N:En}{o:Expr}{mo:ao}{apos cpos:Pos}{f:fU}{r:V->List V->Hp->VK->Prop}{name:Str}{id:String}
end
end DP
namespace L2
section
variable{X:Cx}
theorem BH(hc:X.calm=true):ck X (.type "list") (λxs H Q=>∃(d:Addr) (kvs:List (Key×V)) (ns:List Str),xs=[.ref d]/\H d=some (.dK kvs)/\kvs.map (·.1)=ns.map Sum.inr/\ns.length<=1000/\∀l:Addr,H l=none->Q (.ref l) (upd H l (.lst (ns.map V.str)))):=by
 intro pins s σ H xs P Q I r h;obtain⟨d,kvs,ns,rfl,hd,A,R,q⟩:=h;obtain⟨u,rfl,F⟩:=vals1 r;cases F;obtain⟨S,hs,vs,rel,dd⟩:=(show aY X.prog X.w H s.heap d (.dK kvs) from I.hok d _ hd);obtain⟨ep,j⟩:=dd.dictAt;have c:kvs.length=ns.length:=by
  have:=congrArg List.length A;simpa using this
 have e:vs.length=ns.length:=by rw[<-rel.len,c]
 have m:(1000:Nat)<=sizeLine:=by decide
 refine PySem.W.kdl_call (kdl_dict (knd:=bP X.prog X.w) (kvs:=vs) (ep:=ep) hs) (I.ok.hd hc) j (by rw[e];omega) λh' tk acc c' k1 G a=>?_;have n:StrsAre acc.toList ns:=by
  refine nU (by rw[length_toList,a.1,e]) λi v x B J=>?_;rw[getElem?_toList] at B;obtain⟨k,y,K,C⟩:=a.2 i v B;obtain⟨p,L,M,_⟩:=rel.at K;have D:(kvs.map (·.1))[i]?=some k:=by rw[getElem?_map,L];exact congrArg some M
  rw[A,getElem?_map,J] at D;have N:k=Sum.inr x:=(Option.some.inj D).symm;rw[N] at C;rcases fj (show gF (Sum.inr x) v=true from C) with⟨_,_,z,_⟩|⟨T,t,z,O⟩
  .cases z
  .cases z;exact⟨t,O⟩
 have f:H s.heap.objs.size=none:=I.hok.fresh (le_refl _);refine⟨.ref s.heap.objs.size,upd H s.heap.objs.size (.lst (ns.map V.str)),?_,rfl,q _ f⟩;refine I.mL (t':=tk) k1 (iw.new f _) λb o g=>?_;by_cases E:b=s.heap.objs.size
 .subst E
  rw[cj] at g;cases g;refine .inr ⟨λu z=>lt_irrefl _ (lt_size z),?_⟩;refine⟨by rw[length_map];omega,acc.toList,c',kT n,?_⟩;rw[toArray_toList];exact G
 .rw[aF E] at g
  exact .inl g
end
end L2
namespace DP
open L2
@[irreducible] def mK(r:Nat)(A:Ar)(R:DK):Prop:=∃(kvs:List (Key×D)) (ns:List Str),A[r]?=some (.dct kvs)/\kvs.map (·.1)=ns.map Sum.inr/\ns.length<=1000/\R (.ref A.length) (A++[.lst (ns.map D.str)])
def xh:dF:=λvs A R=>match vs with
 |[.ref r]=>mK r A R
 |_=>False
theorem GV{A:Ar}{r:Nat}{kvs:List (Key×D)}{ns:List Str}{R:DK}(h:A[r]?=some (.dct kvs))(a:kvs.map (·.1)=ns.map Sum.inr)(b:ns.length<=1000)(k:R (.ref A.length) (A++[.lst (ns.map D.str)])):mK r A R:=by
 unfold mK;exact⟨kvs,ns,h,a,b,k⟩
theorem RK.wC{mg:ah}{ι:Io}{n:Nat}{H:Hp}:∀{ds:List (Key×D)} {vs:List (Key×V)},RK mg ι n H ds vs->vs.map (·.1)=ds.map (·.1)
 |[],vs,h=>by have h:vs=[]:=h;rw[h];rfl
 |p::ds,vs,h=>by
  obtain⟨x,r,rfl,h1,h2⟩:=h;simp[RK.wC h2]
theorem af.zZ{mg:ah}{ι:Io}{n:Nat}{H:Hp}:∀ns:List Str,af mg ι n H (ns.map D.str) (ns.map V.str)
 |[]=>rfl
 |x::ns=>⟨_,_,rfl,rfl,af.zZ ns⟩
theorem Cy{mg:ah}:eK mg (λxs H Q=>∃(d:Addr) (kvs:List (Key×V)) (ns:List Str),xs=[.ref d]/\H d=some (.dK kvs)/\kvs.map (·.1)=ns.map Sum.inr/\ns.length<=1000/\∀l:Addr,H l=none->Q (.ref l) (upd H l (.lst (ns.map V.str)))) xh:=by
 intro ds A ι H g R Q ra rs h k;unfold xh at h;split at h
 .obtain⟨_,_,rfl,⟨_,rfl⟩,rfl⟩:=rs
  unfold mK at h;obtain⟨kvs,ns,h1,h2,a,b⟩:=h;obtain⟨xs,c,e⟩:=ra.dct h1;exact⟨_,xs,ns,rfl,c,by rw[RK.wC e];exact h2,a,λl f=>fm k ra (af.zZ ns) b f⟩
 .exact h.elim
end DP
namespace L2
section
variable{X:Cx}
end
section
variable{X:Cx}{es:List Expr}{t:TJ}{te:TE}{e:Expr}{p pos:Pos}
end
end L2
namespace DP
open L2
section
variable{X:Cx}{N:En}{e o:Expr}{es:List Expr}{mo:ao}{m:bB}{apos cpos:Pos}{f:fU}{r:V->List V->Hp->VK->Prop}{name:Str}{id:String}
end
section
variable{X:Cx}{N:En}{es:List Expr}{m:Mq}{me:ao}{e:Expr}{p pos:Pos}
def yU(i:Nat)(m:ao):bT:=λR τ A=>match lk τ i with
 |some (.int a)=>m τ A λy A1=>match y with
  |.int b=>R.nx (τ.set i (some (.int (a+b)))) A1
  |_=>False
 |_=>False
theorem Dc{i:Nat}{x:Str}{pos':Pos}(h:X.N.Nodup)(hi:X.N[i]?=some x)(j:Loc X.env.scope x)(l:PE X e (up X.mg N me))(m:X.fn x=true\/X.env.scope.names.lookup x=some .local:=by first|exact .inl rfl|exact .inr rfl|assumption):
  PS X (.AugAssign (.Name x pos') .Add e pos) (bQ X.mg N (yU i me)):=fM (Ja h hi j l FP m) λQ σ H q=>by
 obtain⟨A,ι,τ,R,S,q,k⟩:=q;unfold yU at q;cases c:lk τ i with
 |none=>rw[c] at q;exact q.elim
 |some d=>
  rw[c] at q;cases d with
  |int a=>
   obtain⟨v,h1,h2⟩:=S.rs.at' i _ c;cases h2;refine⟨.int a,h1,A,ι,τ,_,S,q,λy r n H1 u f g o p=>?_⟩;cases y with
   |int b=>
    cases p;exact⟨a,b,rfl,rfl,(k.nx.from g).here ((S.next g o).set (d:=.int (a+b)) (v:=.int (a+b)) rfl) f⟩
   |_=>exact f.elim
  |_=>exact q.elim
end
end DP
namespace L2
section
variable{X:Cx}
end
section
variable{X:Cx}
end
end L2
namespace DP
open L2
section
variable{X:Cx}{N:En}{a b:Expr}{pos:Pos}{ma mb:ao}
end
end DP
namespace L2
section
variable{X:Cx}
end
end L2
namespace DP
open L2
end DP
namespace L2
section
variable{X:Cx}
end
end L2
namespace DP
open L2
section
variable{X:Cx}{N:En}{a b:Expr}{pos:Pos}{ma mb:ao}
end
end DP
namespace L2
section
variable{X:Cx}{es:List Expr}{t:TJ}{te:TE}{e:Expr}{p pos:Pos}
end
end L2
namespace DP
open L2
end DP
namespace L2
section
variable{X:Cx}
end
end L2
namespace DP
open L2
section
variable{mg:ah}{K:PySem.W.Frag}{A:Ar}{ι:Io}{H:Hp}
def ff(ds:List D):List D:=ds.zipIdx.map λp=>D.tup [.int ((p.2:Nat):Int),p.1]
theorem Dv{ds:List D}{i:Nat}{d:D}(h:(ff ds)[i]?=some d):∃x,ds[i]?=some x/\d=.tup [.int ((i:Nat):Int),x]:=by
 unfold ff at h;rw[getElem?_map,List.getElem?_zipIdx] at h;cases e:ds[i]? with
 |none=>rw[e] at h;cases h
 |some x=>
  rw[e] at h;simp at h;exact⟨x,rfl,h.symm⟩
theorem F9{q:Nat}{ds:List D}(f:q<A.length):gP mg A ι H (ou K (ι q)) (ff ds) (λA'=>A'[q]?=some (.lst ds)) where
 go:=λi d c a H1 hd e r hc=>by
  obtain⟨xs,h1,h2⟩:=r.lst hc;rw[e.ag q f] at h1;obtain⟨x,j,rfl⟩:=Dv hd;obtain⟨v,g,k⟩:=af.get h2 j;refine⟨⟨xs,v,aI.of h1,g⟩,λy H' z=>?_⟩;obtain⟨p,m,h,rfl,rfl,l⟩:=z;have:=l xs (aI.of h1);rw[g] at this;cases this;have E:Ext c a H1 c a (upd H1 p (.tup [.int (i:Nat),v])):=r.lW h;exact⟨E,r.fix E λb o z=>by rw[aF (bG z h)];exact z,p,[.int (i:Nat),v],rfl,cj,_,_,rfl,rfl,_,_,rfl,RV.ext E _ _ k,rfl⟩
 stop:=λc a H1 e r hc=>by
  obtain⟨xs,h1,h2⟩:=r.lst hc;rw[e.ag q f] at h1;exact⟨xs,aI.of h1,by rw[<-af.length h2];simp[ff]⟩
end
@[irreducible] def jU(f:List D->List D)(r:Nat)(A:Ar)(R:List D->(Ar->Prop)->Ar->Prop):Prop:=match A[r]? with
 |some (.lst ds)=>R (f ds) (λA'=>A'[r]?=some (.lst ds)) A
 |_=>False
theorem F2{f:List D->List D}{r:Nat}{A:Ar}{ds:List D}{R:List D->(Ar->Prop)->Ar->Prop}(h:A[r]?=some (.lst ds))(k:R (f ds) (λA'=>A'[r]?=some (.lst ds)) A):jU f r A R:=by
 unfold jU;rw[h];exact k
def Ft(n:bB):eV:=λτ A R=>n τ A λvs A1=>match vs with
 |[.ref r]=>jU ff r A1 R
 |_=>False
section
variable{X:Cx}{N:En}{tg l:Expr}{n:bB}{p pos:Pos}
theorem C4{elts:List Expr}{k:Nat}{tpos:Pos}(g:X.mg "enumerate"=none)(h:PA X [l] (c8 X.mg N n))(i:Gl X "enumerate":=by rfl)(hs:starEach [l] X.env=[(false,eval l X.env)]:=by rfl):PI X (.Tuple elts k tpos) (.Call (.Name "enumerate" p) [l] [] pos) (gk X.mg N (Ft n)):=jM (IP i g h boot_enumerate hs) λσ H Q q=>by
 obtain⟨A,ι,τ,R,S,q,k⟩:=q;refine⟨A,ι,τ,_,S,q,λvs d b H1 o a j f c=>?_⟩;match vs,a,c with
 |[.ref r],a,c=>
  obtain⟨_,_,rfl,⟨m,rfl⟩,rfl⟩:=c;have a:jU ff r d R:=a;unfold jU at a;split at a
  .rename_i ds e
   obtain⟨xs,h1,h2⟩:=f.lst e;exact⟨_,xs,rfl,aI.of h1,k _ _ d b H1 _ a j f (F9 m)⟩
  .exact a.elim
end
end DP
namespace L2
section
variable{X:Cx}
def yJ:V->List V->Hp->VK->Prop:=λx vs H Q=>∃d o kvs more,x=.ref d/\vs=[.ref o]/\d≠o/\H d=some (.dK kvs)/\H o=some (.dK more)/\kvs.length+more.length<=1000/\Q .ak (upd H d (.dK (gc kvs more)))
theorem G6:oB X "dict.update" yJ:=by
 intro pins s σ H x vs v r Q I g i h;obtain⟨d,o,kvs,more,rfl,rfl,a,hd,j,t,q⟩:=h;cases g;obtain⟨u,rfl,k⟩:=i.one;cases k;obtain⟨y,l,b,k1,dd⟩:=lQ I.hok hd;obtain⟨z,m,c,k2,e⟩:=lQ I.hok j;have f:(1000:Nat)<=sizeLine:=by decide
 have l1:=k1.length;have l2:=k2.length;have lm:=qy more kvs;refine call_meetsIn PySem.F.slot_dict_update (dd.typeIs) PySem.F.entry_dict_update (PySem.F.args_dict_update_2 _ _) (PySem.meets_dict_update (bP X.prog X.w) d o a m) ?_;refine⟨b,c,dd,e,by omega,λh' h1 h2 hs=>?_⟩;have n:∃q,h'.get? d=some q:=let ⟨q,_,_,p,_⟩:=h1;⟨q,p⟩;exact⟨.ak,_,lM I (by rw[hd];exact True.intro) hs n (pL (by omega) l (k2.merge k1) h1),rfl,q⟩
end
end L2
namespace DP
open L2
def Ca(mk mv:ao):ao:=λτ A R=>mk τ A λk A1=>mv τ A1 λv A2=>match dj k with
 |some ky=>R (.ref A2.length) (A2++[.dct [(ky,v)]])
 |none=>False
theorem uH{X:Cx}{N:En}{pos:Pos}{k v:Expr}{mk mv:ao}(P:PE X k (up X.mg N mk))(T:PE X v (up X.mg N mv)):PE X (.Dict [some k] [v] pos) (up X.mg N (Ca mk mv)):=
 bX (Iu (I9 P T I_) rfl rfl (by simp) (show 1<=15 by decide)) λσ H Q q=>by
  obtain⟨A,ι,τ,R,S,q,U⟩:=q;intro p n;have F:=S.ra.lW (o:=.dK []) n;have G:bR X.mg N A ι τ σ (upd H p (.dK [])):=S.next F (S.ra.fix F λb o z=>by rw[aF (bG z n)];exact z);have off:∀r,r<A.length->ι r≠p:=λr g z=>by
   obtain⟨o,h1,_⟩:=S.ra.im r g;rw[z,n] at h1;cases h1
  refine⟨A,ι,τ,_,G,q,λI V B H1 x W J Y Z=>?_⟩;refine⟨V,B,τ,_,G.next J Y,W,λw a i H2 y t e2 K v2=>?_⟩;have d:=J.trans e2;have L:H2 p=some (.dK []):=d.mo p _ cj off;have f:∀r,r<a.length->i r≠p:=λr g z=>by
   by_cases M:r<A.length
   .rw[d.ag r M] at z;exact off r M z
   .have:=d.nw r (by omega) g
    rw[z,cj] at this;cases this
  have t:(match dj I with|some l=>R (.ref a.length) (a++[.dct [(l,w)]])|none=>False):=t;cases D:dj I with
  |none=>rw[D] at t;exact t.elim
  |some l=>
  rw[D] at t;have ex:x=kV l:=iF D Z;subst ex;refine⟨L,[(l,y)],rfl,show 1<=15 by decide,?_⟩;have em:gc [] [(l,y)]=[(l,y)]:=rfl;rw[em];obtain⟨j,e,at2⟩:∃j:Io,(∀r,r<a.length->j r=i r)/\j a.length=p:=⟨λr=>if r=a.length then p else i r,λr h=>by
   show(if r=a.length then p else i r)=i r;rw[if_neg (by omega)],by
   show(if a.length=a.length then p else i a.length)=p;rw[if_pos rfl]⟩
  have O:∀b o,fk o=false->H2 b=some o->upd H2 p (.dK [(l,y)]) b=some o:=λb o m z=>by
   rw[aF]
   .exact z
   .rintro rfl
    rw[L] at z;cases z;cases m
  refine U (.ref a.length) (a++[.dct [(l,w)]]) j _ _ t ⟨?_,λr h=>?_,S.ra.im,λb o h hn=>?_,λr h1 h2=>?_,λb o h=>?_⟩ ⟨λr c h=>?_,λr s g hs h=>?_⟩ ⟨by simp,by rw[at2]⟩
  .have:=d.len;simp;omega
  .rw[e r (lt_of_lt_of_le h d.len)];exact d.ag r h
  .have u:b≠p:=bG h n
   rw[aF u];exact d.mo b o (by rw[aF u];exact h) hn
  .by_cases g:r<a.length
   .rw[e r g]
    have:=d.nw r h1 g;rw[aF (f r g)] at this;exact this
   .have:r=a.length:=by simp at h2;omega
    subst this;rw[at2];exact n
  .have u:b≠p:=bG h n
   obtain⟨o',h'⟩:=d.al b o (by rw[aF u];exact h);exact⟨o',by rw[aF u];exact h'⟩
  .by_cases g:r<a.length
   .rw[getElem?_append_left g] at h
    have:=CO.ag (n':=(a++[C.dct [(l,w)]]).length) (ι':=j) (H':=upd H2 p (.dK [(l,y)])) (by simp) e O (λo z=>by rw[aF (f r g)];exact z) c (K.d7 r c h);rw[e r g];exact this
   .have E:r=a.length:=by
     have:=(List.getElem?_eq_some_iff.mp h).1;simp at this;omega
    subst E;simp at h;subst h;rw[at2];exact⟨_,cj,y,[],rfl,RV.ag (by simp) e O w y v2,rfl⟩
  .simp at g hs
   by_cases h1:r=a.length
   .by_cases h2:s=a.length
    .rw[h1,h2]
    .subst h1
     rw[at2,e s (by omega)] at h;exact absurd h.symm (f s (by omega))
   .by_cases h2:s=a.length
    .subst h2
     rw[at2,e r (by omega)] at h;exact absurd h (f r (by omega))
    .rw[e r (by omega),e s (by omega)] at h
     exact K.inj r s (by omega) (by omega) h
def mz(A:Ar):D->Bool
 |.ref r=>match A[r]? with
  |some (.dct _)=>true
  |_=>false
 |_=>false
def uy(f:fU)(mo:ao)(m:bB):ao:=λτ A R=>mo τ A λx A1=>mz A1 x=true/\m τ A1 λvs A2=>f x vs A2 R
theorem FQ{A:Ar}{r:Nat}{kvs:List (Key×D)}(h:A[r]?=some (.dct kvs)):mz A (.ref r)=true:=by unfold mz;simp only[h]
section
variable{X:Cx}{N:En}{e o:Expr}{es:List Expr}{mo:ao}{m:bB}{apos cpos:Pos}{f:fU}{r:V->List V->Hp->VK->Prop}{name:Str}{id:String}
theorem CU(pa:PlainAttrs "dict")(slot:Slot "dict" name id)(h:typeOf (.builtin id)=pure (.type "method_descriptor"))(w:oE X id r)(hd:jw X.mg X.K "dict" r f)(y:PE X o (up X.mg N mo))(z:PA X (e::es) (c8 X.mg N m))
  (b:attributeBase o name X.env (eval o X.env)=eval o X.env:=by rfl)
  (d:((backTo cpos (starEach (e::es) X.env)).all (λx=> !x.1)&&(backToKw cpos (keywordEach [] X.env)).all (λx=>x.1.isSome)
   &&decide ((e::es).length+([]:List Keyword).length+(if ([]:List Keyword).isEmpty then 0 else 1)<30))=true:=by rfl)
  (c:(apos.endLine==cpos.line)=true:=by rfl)(hs:starEach (e::es) X.env=(false,eval e X.env)::starEach es X.env:=by rfl)(a:(backTo cpos (starEach es X.env)).any (·.1)=false:=by rfl):
  PE X (.Call (.Attribute o name apos) (e::es) [] cpos) (up X.mg N (uy f mo m)):=bX (x6 pa slot h w y z b d c hs a) λσ H Q q=>by
 obtain⟨A,ι,τ,R,S,q,k⟩:=q
 refine⟨A,ι,τ,_,S,q,λx B i H1 u j p s t=> ?_⟩
 obtain⟨g,j⟩:=j
 refine⟨?_,B,i,τ,_,S.next p s,j,λys C l H2 n D v E v2=> ?_⟩
 .cases x with
  |ref q=>
   obtain⟨_,rfl⟩:=t
   unfold mz at g
   simp only at g
   split at g
   .rename_i kvs F
    obtain⟨n,h1,_⟩:=s.dct F
    exact .inr (.inr (.inl ⟨rfl,.inl ⟨n,h1⟩⟩))
   .cases g
  |_=>cases g
 .exact hd x ys C l H2 _ n R Q E (RV.ext v x u t) v2 D (k.from (p.trans v))
end
def ic(kvs more:List (Key×D)):List (Key×D):=more.foldl (λacc p=>bh acc p.1 p.2) kvs
@[irreducible] def n9(r q:Nat)(A:Ar)(R:DK):Prop:=match A[r]?,A[q]? with
 |some (.dct kvs),some (.dct more)=>r≠q/\kvs.length+more.length<=1000/\R .ak (A.set r (.dct (ic kvs more)))
 |_,_=>False
theorem L7{A:Ar}{r q:Nat}{kvs more:List (Key×D)}{R:DK}(h1:A[r]?=some (.dct kvs))(h2:A[q]?=some (.dct more))(a:r≠q)(b:kvs.length+more.length<=1000)(k:R .ak (A.set r (.dct (ic kvs more)))):n9 r q A R:=by
 unfold n9;simp only[h1,h2];exact⟨a,b,k⟩
def rZ:fU:=λx vs A R=>match x,vs with
 |.ref r,[.ref q]=>n9 r q A R
 |_,_=>False
theorem CJ{mg:ah}{K:PySem.W.Frag}:jw mg K "dict" yJ rZ:=by
 intro x ds A ι H u p R Q ra i rs h k;unfold rZ at h;split at h
 .rename_i r q
  obtain⟨d,rfl⟩:=i;obtain⟨_,_,rfl,⟨j,rfl⟩,rfl⟩:=rs;unfold n9 at h;split at h
  .rename_i kvs more e l
   obtain⟨a,s,h⟩:=h;obtain⟨xs,h1,f⟩:=ra.dct e;obtain⟨ys,h2,g⟩:=ra.dct l;have l1:=RK.length f;have l2:=RK.length g;refine⟨_,_,xs,ys,rfl,rfl,λz=>a (ra.inj r q d j z),h1,h2,by omega,?_⟩;have E:=ra.i8 (o:=.dK (gc xs ys)) (c:=.dct (ic kvs more)) d;have m:RK mg ι A.length H (ic kvs more) (gc xs ys):=RK.fold g f;obtain⟨b,n⟩:=ra.put (c':=.dct (ic kvs more)) (o:=.dK (gc xs ys)) e h1 rfl ⟨_,cj,by simpa using RK.ext E _ _ m⟩;exact k _ _ ι _ _ h n b rfl
  .exact h.elim
 .exact h.elim
@[irreducible] def mq(neg:Bool)(x:D)(r:Nat)(A:Ar)(R:DK):Prop:=∃(kvs:List (Key×D)) (k:Key),(A[r]?=some (.dct kvs)\/∃o,A[r]?=some (.aS o kvs))/\dj x=some k/\R (.bl (if neg then !(aT kvs k).isSome else (aT kvs k).isSome)) A
def qi(neg:Bool):cu:=λx y A R=>match y with
 |.ref r=>mq neg x r A R
 |_=>False
theorem FH{neg:Bool}{x:D}{r:Nat}{A:Ar}{R:DK}{kvs:List (Key×D)}{k:Key}(h:A[r]?=some (.dct kvs)\/∃o,A[r]?=some (.aS o kvs))(a:dj x=some k)(q:R (.bl (if neg then !(aT kvs k).isSome else (aT kvs k).isSome)) A):mq neg x r A R:=by
 unfold mq;exact⟨kvs,k,h,a,q⟩
theorem Cu{mg:ah}(neg:Bool):bZ mg (kB neg) (qi neg):=by
 intro x y A ι H u v R Q ra g i h k;unfold qi at h;split at h
 .rename_i f
  obtain⟨_,rfl⟩:=i;unfold mq at h;obtain⟨kvs,b,h1,j,h2⟩:=h;have ex:=iF j g;subst ex;have fin:∀a,RK mg ι A.length H kvs a->Rd H (ι f) (.dK a)->kB neg (kV b) (.ref (ι f)) H Q:=λa c l=>by
   obtain⟨m,n⟩:=RK.get (k:=b) c;refine⟨_,cC a b,rfl,.inl ⟨a,b,l,rfl,rfl⟩,?_⟩;have p:(cC a b).isSome=(aT kvs b).isSome:=by
    cases q:aT kvs b with
    |none=>rw[n q];rfl
    |some d=>obtain⟨z,r,_⟩:=m d q;rw[r];rfl
   rw[p];exact k.here ra h2 rfl
  rcases h1 with h1|⟨o,h1⟩
  .obtain⟨a,e,c⟩:=ra.dct h1
   exact fin a c (.inl e)
  .obtain⟨a,e,c⟩:=ra.aS h1
   exact fin a c (.inr ⟨o,e⟩)
 .exact h.elim
section
variable{X:Cx}{N:En}{pos:Pos}{a b:Expr}{ma mb:ao}
theorem LN(c:X.A.units+64<cLine)(d:PE X a (up X.mg N ma))(e:PE X b (up X.mg N mb))(f:behindInMarks .In b=false:=by rfl):PT X (.Compare a [.In] [b] pos) (bF X.mg N (d9 (b5 (qi false) ma mb))):=gY (xN c) (Cu false) d e f
end
def uw(m:ao):ao:=λτ A R=>(∃r kvs,A[r]?=some (.dct kvs)/\∀o,m τ (A.set r (.aS o kvs)) λx A2=>Ab r o A2 (R x))\/m τ A R
def JU(m:bT):bT:=λR τ A=>(∃r kvs,A[r]?=some (.dct kvs)/\∀o,m {nx:=λaO A2=>Ab r o A2 (R.nx aO),rt:=λ_ _=>False} τ (A.set r (.aS o kvs)))\/m R τ A
section
variable{X:Cx}{N:En}{e:Expr}{m:ao}
theorem CQ(g:PE X e (up X.mg N m)):PE X e (up X.mg N (uw m)):=by
 intro pins s σ H Q I q;obtain⟨A,ι,τ,R,S,q,k⟩:=q;rcases q with⟨r,kvs,a,q⟩|q
 .obtain⟨xs,h1,h2⟩:=S.ra.dct a
  have n:=(List.getElem?_eq_some_iff.mp a).1;obtain⟨p,o,t⟩:=I.fz h1;obtain⟨w,x⟩:=vz (o:=o) S a h1 h2;refine au (g pins s σ _ (λu H'=>∃xs,H' (ι r)=some (.aP o (.dK xs))/\Q u (upd H' (ι r) (.dK xs))) t ⟨_,ι,τ,_,w,q o,λv A' ι' H' u b h y v2=>?_⟩) λv s' ⟨u,H',z,B,C,h',D⟩=>⟨u,_,z.Ah h' p,B,D⟩;obtain⟨i,c,b⟩:=b;have E:ι' r=ι r:=h.ag r (by simpa using n);obtain⟨d,j,l,f⟩:=vv y c;rw[E] at j l f;exact⟨d,j,k v _ ι' _ u b ((x.trans h).trans f) l (RV.ext f v u v2)⟩
 .exact g pins s σ H Q I ⟨A,ι,τ,R,S,q,k⟩
theorem De{st:Stmt}{ms:bT}(f:PS X st (bQ X.mg N ms)):PS X st (bQ X.mg N (JU ms)):=by
 intro pins s σ H Q I q;obtain⟨A,ι,τ,R,S,q,k⟩:=q;rcases q with⟨r,kvs,a,q⟩|q
 .obtain⟨xs,h1,h2⟩:=S.ra.dct a
  have m:=(List.getElem?_eq_some_iff.mp a).1;obtain⟨n,o,p⟩:=I.fz h1;obtain⟨t,v⟩:=vz (o:=o) S a h1 h2;refine au (f pins s σ _ {nx:=λσ' H'=>∃xs,H' (ι r)=some (.aP o (.dK xs))/\Q.nx σ' (upd H' (ι r) (.dK xs)),rt:=λ_ _=>False,bk:=λ_ _=>False,ct:=λ_ _=>False} p ⟨_,ι,τ,_,t,q o,⟨λaO A' ι' σ' H' b g w x=>?_,λ_ _ _ _ _ z=>z.elim,λ_ _ _ _ _ z=>z.elim,λ_ _ _ _ _ z=>z.elim⟩⟩) λfl s' h=>?_
  .obtain⟨i,c,b⟩:=b
   have y:ι' r=ι r:=g.ag r (by simpa using m);obtain⟨d,j,l,e⟩:=vv w c;rw[y] at j l e;exact⟨d,j,k.nx aO _ ι' σ' _ b ((v.trans g).trans e) l (x.ext e)⟩
  .cases fl with
   |next=>
    obtain⟨σ',H',B,C,h',D⟩:=h;exact⟨σ',_,B.Ah h' n,D⟩
   |brk=>obtain⟨_,_,_,z⟩:=h;exact z.elim
   |cont=>obtain⟨_,_,_,z⟩:=h;exact z.elim
   |ret u=>obtain⟨_,_,_,_,_,z⟩:=h;exact z.elim
 .exact f pins s σ H Q I ⟨A,ι,τ,R,S,q,k⟩
end
section
variable{X:Cx}{N:En}{a b:Expr}{ma mb:ao}{pos:Pos}
end
section
variable{mg:ah}{K:PySem.W.Frag}{A:Ar}{ι:Io}{H:Hp}
end
section
variable{X:Cx}{N:En}{pos:Pos}{a b:Expr}{ma mb:ao}
end
end DP
namespace L2
section
variable{X:Cx}
end
end L2
namespace DP
open L2
end DP
namespace L2
section
variable{M:Model}{A:Around}{E:aj}{s:Shared}{base:Heap}{env:Env}{outer:List Env}{L e:Addr}{cls a0 fl:Value}{Q:Unit->Shared->Prop}
end
section
variable{P:Program}{w:World}{K:PySem.W.Frag}{mg:ah}{base:Heap}{N:List Str}{qual:Str}{scope:Scope}{f:Addr}{cd:Value}{A:Around}{outer:List Env}{s:Shared}{H:Hp}{E:XK}
end
section
variable{X:Cx}{NC:List Str}{scope:Scope}{E:XK}{c:CP}{pins:aD}{σ:St}{H:Hp}{s:Shared}
end
section
variable{X:Cx}{scope:Scope}{own frees:List Str}{ix:List Nat}{tg elt iter:Expr}{pos:Pos}{wi:TI}{g:CP->TG}{te:CP->TE}{E:XK}
end
section
variable{X:Cx}{scope:Scope}{own frees:List Str}{ix:List Nat}{tg elt iter:Expr}{pos:Pos}{wi:TI}{g:CP->TG}{te:CP->TE}{E:XK}
end
end L2
namespace DP
open L2
section
variable{X:Cx}{N:En}{own frees:List Str}{ix:List Nat}{it:eV}{te:ao}(k:Option Nat){tg iter elt:Expr}{scope:Scope}{pos:Pos}{E:XK}
end
end DP
end
namespace L2
theorem bL{N P:List PySem.Str}{sc:PySem.Scope}(kind:sc.kind=.function:=by rfl)(co:sc.isCoroutine=false:=by rfl)(gen:sc.isGenerator=false:=by rfl)(nd:N.Nodup:=by decide+kernel)(pre:N.take P.length=P:=by rfl)
 (par:∀x∈P,sc.names.lookup x=some .local\/sc.names.lookup x=some .cell:=by decide+kernel)(qO:∀y∈sc.names,y.2≠ .free:=by decide+kernel):bf N P sc:=⟨kind,co,gen,nd,pre,par,qO⟩
end L2
section
open PySem PySem.Spec PyProof.Rows
namespace DP
open L2
section
variable{X:Cx}{N:En}{pos pos':Pos}{e a b:Expr}{m ma mb:ao}{x:Str}(i:Nat)
theorem dS(a:X.N.Nodup)(b:PE X e (up X.mg N m))(hi:X.N[i]?=some x:=by rfl)(c:Loc X.env.scope x:=by first|exact .inl rfl|exact .inr rfl)(hs:swapsWith e (some (.Name x pos')) pos.line X.env=pure false:=by rfl)(d:X.fn x=true\/X.env.scope.names.lookup x=some .local:=by first|exact .inl rfl|exact .inr rfl|assumption):
 PS X (.Assign [.Name x pos'] e pos) (bQ X.mg N (nK i m)):=Df a hi c b hs d
theorem dG(a:X.N.Nodup)(hi:X.N[i]?=some x:=by rfl)(b:Loc X.env.scope x:=by first|exact .inl rfl|exact .inr rfl)(c:X.fn x=true\/X.env.scope.names.lookup x=some .local:=by first|exact .inl rfl|exact .inr rfl|assumption):PG X (.Name x pos) (kR X.mg N (gN i)):=C3 a hi b c
theorem pG(a:X.N.Nodup)(hi:X.N[i]?=some x:=by rfl)(b:Loc X.env.scope x:=by first|exact .inl rfl|exact .inr rfl)(c:X.fn x=true\/X.env.scope.names.lookup x=some .local:=by first|exact .inl rfl|exact .inr rfl|assumption):PG X (.Name x pos) (ja i):=yb a hi b c
end
section
variable{X:Cx}{N:En}{pos p:Pos}{e a b:Expr}{ma mb:ao}{x:Str}{es:List Expr}{k r n:Nat}{ps:List Str}{S:Ct}{RE:DX}{m:bB}
theorem dX(c:X.A.units+64<cLine)(d:PE X a (up X.mg N ma))(e:PE X b (up X.mg N mb))(hs:oH b:=by exact λ_ _=>rfl):PE X (.Subscript a b pos) (up X.mg N (b5 mE ma mb)):=CT c d e hs
theorem dL(F:aB X.prog X.w X.K X.mg X.base k x ps (ay X.mg n S))(c:bV r X.A)(d:Passes (aQ X.prog X.w) X (EL X.mg N RE))(f:PA X (e::es) (c8 X.mg N m))(g:k<=r:=by omega)(h:Gl X x:=by rfl)(a:(x==("__debug__":Str))=false:=by decide)
 (i:starEach (e::es) X.env=(false,eval e X.env)::starEach es X.env:=by rfl)(b:(backTo pos (starEach es X.env)).any (·.1)=false:=by rfl):
 PE X (.Call (.Name x p) (e::es) [] pos) (up X.mg N (pC n S RE m)):=CL F (c.mono g) d f h a i b
end
theorem b_{P:Program}{w:World}{K:PySem.W.Frag}{mg:ah}{base:Heap}{x:Str}{st:Stmt}{Nm ps:List Str}{k n:Nat}{S:Ct}(T:TopD K mg x st ps)(Sc:bf Nm ps (aH st))
  (b:∀{N:En} {RE:DX} {f:Addr} {a:Value} {B:Around} {outer:List Env} {s:Shared} {H:Hp} {E:XK},bV k (bC (aQ P w) P w K mg base Nm x (aH st) f a B outer s H E).A->
   Raises (bC (aQ P w) P w K mg base Nm x (aH st) f a B outer s H E) (EL mg N RE)->Passes (aQ P w) (bC (aQ P w) P w K mg base Nm x (aH st) f a B outer s H E) (EL mg N RE)->
   (bC (aQ P w) P w K mg base Nm x (aH st) f a B outer s H E).A.units+64<cLine->Nm.Nodup->
   ∃m,bU (bC (aQ P w) P w K mg base Nm x (aH st) f a B outer s H E) (ee st) (bQ mg N m)/\∀ds A R,S ds A R RE->ds.length=n->m {nx:=λ_ A'=>R .ak A',rt:=R} (gJ (Nm.length - n) ds) A)(d:ps.length=n:=by rfl)(e:ps.length<=Nm.length:=by decide):aB P w K mg base (k+1) x ps (ay mg n S):=
 g5 T Sc d e λN RE f a B outer s H E c g i ds A R h j=>by
  obtain⟨m,h1,h2⟩:=b c g i c.units Sc.nd;exact⟨m,h1,h2 ds A R h j⟩
end DP
namespace L2
end L2
namespace DP
open L2
end DP
namespace L2
section
variable{X:Cx}
theorem ug(hc:X.calm=true):ck X (.builtin "sorted") (λxs H Q=>∃(a:Addr) (ns:List Str),xs=[.ref a]/\aI X.K H a (ns.map V.str)/\ns.Nodup/\ns.length<64/\
  ∀(l:Addr) (ys:List Str),H l=none->ys.Pairwise strLt->(∀x,x∈ys↔x∈ns)->Q (.ref l) (upd H l (.lst (ys.map V.str)))):=by
 intro pins s σ H xs W Q I r h;obtain⟨a,ns,rfl,J,t,w,q⟩:=h;obtain⟨u,rfl,L⟩:=vals1 r;cases L;obtain⟨its,C,pl,Y⟩:=I.list J;have y:its.length=ns.length:=by have:=C.length;simpa using this.symm
 have c:StrsAre its ns:=by
  refine nU y λi v x M N=>?_;obtain⟨Z,D,O⟩:=Vals.get C (show(ns.map V.str)[i]?=some (.str x) by rw[getElem?_map,N];rfl);rw[M] at D;cases D;exact O
 have A:its.length<64:=by omega
 refine Calls.call_function_entry kind_sorted plain_sorted entry_sorted (args_sorted1 _) ?_;unfold Builtin.«sorted»;refine wpAny_bind (m:=checkCount "sorted" 1 1 _) (wpAny_pure ?_);refine wpAny_bind (collect_list pl.isList ?_ (by rw[sizeLine_eq];omega));refine wpAny_bind (wpAny_newList ?_ (by rw[sizeLine_eq];omega));have hsz:((s.heap.push (seqObj "list" #[] 0)).update s.heap.objs.size (Obj.mapSeq (·++its.toArray))).objs.size=s.heap.objs.size+1:=by
  rw[size_update,size_push']
 generalize P:(s.heap.push (seqObj "list" #[] 0)).update s.heap.objs.size (Obj.mapSeq (·++its.toArray))=h1 at hsz;have k1:∀b o,s.heap.get? b=some o->h1.get? b=some o:=λb o q=>by
  have j:b<s.heap.objs.size:=lt_size q;rw[<-P,Heap.get?_update_ne _ _ _ _ (ne_of_lt j),get?_push_ne _ _ _ (ne_of_lt j)];exact q
 have d:(h1.push (seqObj "list" its.toArray 0)).get? h1.objs.size=some (seqObj "list" its.toArray 0):=get?_push_size _ rfl;show wpAny _ _ _ _ _ {s with heap:=h1.push (seqObj "list" its.toArray 0)};refine wpAny_bind (wpAny_holding (wpAny_call_entry slot_list_sort ⟨_,d,rfl⟩ entry_list_sort (list_sort_treeK strKind_oneLt d c.keysOf (λE F rest e=>keyKind_strs (by rw[<-e];exact c)) A λf a1 a2=>⟨_,rfl,?_⟩) (args_list_sort _)));obtain⟨k,R,B,S⟩:=sorted_out_str c a1 a2;obtain⟨e,T⟩:=sortedHeap_at (out:=(arrOf f).map (·.2)) d;have kp:∀b o,s.heap.get? b=some o->(sortedHeap (h1.push (seqObj "list" its.toArray 0)) h1.objs.size its ((arrOf f).map (·.2))).get? b=some o:=λb o q=>by
  have g:=k1 b o q;rw[sortedHeap_old (ne_of_lt (lt_size g)) (by rw[size_push'];exact lt_succ_of_lt (lt_size g))];exact get?_push_of_some _ g
 have n:∀u,s.heap.get? h1.objs.size≠some u:=λu z=>lt_irrefl _ (lt_size (k1 _ _ z));have G:H h1.objs.size=none:=by
  cases U:H h1.objs.size with
  |none=>rfl
  |some o=>
   obtain⟨u,z⟩:=(I.hok _ _ U).obj;exact absurd z (n u)
 refine wpAny_pure ⟨_,rfl,.ref h1.objs.size,upd H h1.objs.size (.lst (k.map V.str)),?_,rfl,q _ k G (rK (rF S) (B.nodup_iff.mpr t)) λx=>B.mem_iff⟩;refine I.mL (t':=s.toks) kp (iw.new G _) λb o p=>?_;by_cases g:b=h1.objs.size
 .subst g
  rw[cj] at p;cases p;refine .inr ⟨n,?_⟩;refine⟨by rw[length_map,B.length_eq];exact le_of_lt (lt_of_lt_of_le w (by decide)),((arrOf f).map (·.2)).toList,e,kT R,?_⟩;rw[toArray_toList];exact T
 .rw[aF g] at p
  exact .inl p
end
end L2
namespace DP
open L2
@[irreducible] def nS(r:Nat)(A:Ar)(R:DK):Prop:=match A[r]? with
 |some (.lst xs)=>∃ns:List Str,xs=ns.map D.str/\ns.Nodup/\ns.length<64/\∀ys:List Str,ys.Pairwise strLt->(∀x,x∈ys↔x∈ns)->R (.ref A.length) (A++[.lst (ys.map D.str)])
 |_=>False
def zV:dF:=λvs A R=>match vs with
 |[.ref r]=>nS r A R
 |_=>False
theorem sE{mg:ah}{ι:Io}{n:Nat}{H:Hp}:∀{ns:List Str} {vs:List V},af mg ι n H (ns.map D.str) vs->vs=ns.map V.str
 |[],vs,h=>h
 |n::ns,vs,h=>by
  obtain⟨x,r,rfl,h1,h2⟩:=h;rw[sE h2,show x=.str n from h1];rfl
theorem uC{mg:ah}{K:PySem.W.Frag}:eK mg (λxs H Q=>∃(a:Addr) (ns:List Str),xs=[.ref a]/\aI K H a (ns.map V.str)/\ns.Nodup/\ns.length<64/\
  ∀(l:Addr) (ys:List Str),H l=none->ys.Pairwise strLt->(∀x,x∈ys↔x∈ns)->Q (.ref l) (upd H l (.lst (ys.map V.str)))) zV:=by
 intro ds A ι H m R Q ra rs h k;unfold zV at h;split at h
 .obtain⟨_,_,rfl,⟨_,rfl⟩,rfl⟩:=rs
  unfold nS at h;split at h
  .rename_i xs e
   obtain⟨ns,rfl,h2,c,d⟩:=h;obtain⟨vs,b,f⟩:=ra.lst e;rw[sE f] at b;exact⟨_,ns,rfl,aI.of b,h2,c,λl ys g i j=>fm k ra (af.strs ys) (d ys i j) g⟩
  .exact h.elim
 .exact h.elim
theorem zW{A:Ar}{r:Nat}{ns:List Str}{R:DK}(h:A[r]?=some (.lst (ns.map D.str)))(b:ns.Nodup)(a:ns.length<64)(k:∀ys:List Str,ys.Pairwise strLt->(∀x,x∈ys↔x∈ns)->R (.ref A.length) (A++[.lst (ys.map D.str)])):nS r A R:=by
 unfold nS;simp only[h];exact⟨ns,rfl,b,a,k⟩
end DP
namespace L2
end L2
namespace DP
open L2
end DP
end
namespace ST
open PySem
abbrev Pr:=SetTable.Probe
def lp(m:Nat)(q:Nat×Nat):Nat×Nat:=((q.1*5+1+q.2/32)%(m+1),q.2/32)
def nx(m:Nat)(p:Pr):Pr:=
 if p.more>0 then {p with j:=p.j+1,more:=p.more - 1} else
 {p with j:=(lp m (p.i,p.perturb)).1,more:=SetTable.runEnd m (lp m (p.i,p.perturb)).1 - (lp m (p.i,p.perturb)).1,i:=(lp m (p.i,p.perturb)).1,perturb:=(lp m (p.i,p.perturb)).2}
theorem tF(t:SetTable)(p:Pr):t.advance p=nx t.mask p:=rfl
def it(m:Nat):Nat->Pr->Pr
 |0,p=>p
 |n+1,p=>nx m (it m n p)
theorem jc(m a b:Nat)(p:Pr):it m (a+b) p=it m a (it m b p):=by
 induction a with
 |zero=>rw[zero_add];rfl
 |succ a c=>rw[succ_add];show nx m _=nx m _;rw[c]
theorem f_(m n:Nat)(p:Pr):it m n (nx m p)=it m (n+1) p:=by rw[jc m n 1 p];rfl
structure Wf(m:Nat)(p:Pr):Prop where
 d:p.dummy=none
 i:p.i<=m
 r:p.j+p.more=SetTable.runEnd m p.i
 l:p.i<=p.j
 b:p.perturb<2 ^ 64
theorem nI(m i:Nat)(h:i<=m):i<=SetTable.runEnd m i/\SetTable.runEnd m i<=i+9/\SetTable.runEnd m i<=m:=by
 unfold SetTable.runEnd;split<;>omega
theorem Wf.j{m:Nat}{p:Pr}(h:Wf m p):p.j<=m:=by
 have:=nI m p.i h.i;have:=h.r;omega
theorem Wf.nx{m:Nat}{p:Pr}(h:Wf m p):Wf m (nx m p):=by
 unfold ST.nx;split
 .rename_i a
  exact⟨h.d,h.i,by have:=h.r;show p.j+1+(p.more - 1)=SetTable.runEnd m p.i;omega,by have:=h.l;show p.i<=p.j+1;omega,h.b⟩
 .have a1:(lp m (p.i,p.perturb)).1<=m:=Nat.le_of_lt_succ (mod_lt _ (succ_pos m))
  have a2:=nI m _ a1;exact⟨h.d,a1,Nat.add_sub_of_le a2.1,le_refl _,by have:=h.b;show p.perturb/32<_;omega⟩
theorem Wf.it{m:Nat}{p:Pr}(h:Wf m p):∀n,Wf m (it m n p)
 |0=>h
 |n+1=>(h.it n).nx
def a_(m:Nat)(h:Int):Pr:={j:=SetTable.bits h%(m+1),more:=SetTable.runEnd m (SetTable.bits h%(m+1)) - SetTable.bits h%(m+1),i:=SetTable.bits h%(m+1),perturb:=SetTable.bits h,dummy:=none}
theorem iK(m:Nat)(h:Int):Wf m (a_ m h):=by
 have a1:SetTable.bits h%(m+1)<=m:=Nat.le_of_lt_succ (mod_lt _ (succ_pos m));have a2:=nI m _ a1;refine⟨rfl,a1,Nat.add_sub_of_le a2.1,le_refl _,?_⟩;show SetTable.bits h<_;unfold SetTable.bits;omega
theorem rQ{m:Nat}:∀(k:Nat) (p:Pr),p.more=k->(it m k p).more=0/\(it m k p).i=p.i/\(it m k p).perturb=p.perturb
 |0,p,h=>⟨h,rfl,rfl⟩
 |k+1,p,h=>by
  have e:nx m p={p with j:=p.j+1,more:=p.more - 1}:=by unfold nx;rw[if_pos (by omega)]
  rw[<-f_,e];have:=rQ (m:=m) k {p with j:=p.j+1,more:=p.more - 1} (by show p.more - 1=k;omega);exact this
def dw(m:Nat):Nat->Nat×Nat->Nat×Nat
 |0,q=>q
 |k+1,q=>lp m (dw m k q)
theorem wM{m:Nat}{p:Pr}(h:Wf m p):∃n,n<=10/\(it m n p).j=(lp m (p.i,p.perturb)).1/\((it m n p).i,(it m n p).perturb)=lp m (p.i,p.perturb):=by
 obtain⟨h1,h2,b⟩:=rQ (m:=m) p.more p rfl;refine⟨p.more+1,?_,?_⟩
 .have a:=nI m p.i h.i
  have:=h.r;have:=h.l;omega
 .show(nx m (it m p.more p)).j=_/\((nx m (it m p.more p)).i,(nx m (it m p.more p)).perturb)=_
  unfold nx;rw[if_neg (by omega),h2,b];exact⟨rfl,rfl⟩
theorem wN{m:Nat}{p:Pr}(h:Wf m p):∀k,∃n,n<=10*(k+1)/\(it m n p).j=(dw m (k+1) (p.i,p.perturb)).1/\((it m n p).i,(it m n p).perturb)=dw m (k+1) (p.i,p.perturb)
 |0=>wM h
 |k+1=>by
  obtain⟨n,d,_,e⟩:=wN h k;obtain⟨n',a,b,c⟩:=wM (h.it n);refine⟨n'+n,by omega,?_⟩;rw[jc,b,c,e];exact⟨rfl,rfl⟩
def cy(m:Nat):Nat->Nat->Nat
 |0,i=>i
 |k+1,i=>(cy m k i*5+1)%(m+1)
theorem pB(m a b i:Nat):cy m (a+b) i=cy m a (cy m b i):=by
 induction a with
 |zero=>rw[zero_add];rfl
 |succ a c=>rw[succ_add];show(_*5+1)%_=(_*5+1)%_;rw[c]
def fT(m:Nat):Prop:=(∀i,i<=m->∃a,a<=m/\cy m a 0=i)/\cy m (m+1) 0=0/\m%2=1
theorem fT.to{m:Nat}(h:fT m){i j:Nat}(hi:i<=m)(e:j<=m):∃t,t<=m/\cy m t i=j:=by
 obtain⟨a,f,c⟩:=h.1 i hi;obtain⟨b,g,d⟩:=h.1 j e;by_cases z:a<=b
 .refine⟨b - a,by omega,?_⟩
  rw[<-c,<-pB,show b - a+a=b by omega,d]
 .refine⟨b+(m+1) - a,by omega,?_⟩
  rw[<-c,<-pB,show b+(m+1) - a+a=b+(m+1) by omega,pB,h.2.1,d]
theorem uv(m:Nat)(h:((range (m+1)).all λi=>(range (m+1)).any λa=>cy m a 0==i)=true)(h2:cy m (m+1) 0=0)(b:m%2=1):fT m:=⟨λi hi=>by
 have:=all_eq_true.mp h i (mem_range.mpr (by omega));obtain⟨a,c,e⟩:=any_eq_true.mp this;exact⟨a,by have:=mem_range.mp c;omega,by simpa using e⟩,h2,b⟩
theorem B8:fT 7:=uv 7 (by decide+kernel) (by decide+kernel) rfl
theorem B7:fT 31:=uv 31 (by decide+kernel) (by decide+kernel) rfl
theorem qF(m:Nat)(q:Nat×Nat):∀k,(dw m k q).2=q.2/32 ^ k
 |0=>by show q.2=_;simp
 |k+1=>by show(dw m k q).2/32=_;rw[qF m q k,Nat.div_div_eq_div_mul,<-Nat.pow_succ]
theorem qE{m:Nat}(q:Nat×Nat)(a:q.2=0):∀k,dw m k q=(cy m k q.1,0)
 |0=>by cases q;subst a;rfl
 |k+1=>by show lp m (dw m k q)=_;rw[qE q a k];unfold lp;simp[cy]
theorem qD(m a b:Nat)(q:Nat×Nat):dw m (a+b) q=dw m a (dw m b q):=by
 induction a with
 |zero=>rw[zero_add];rfl
 |succ a c=>rw[succ_add];show lp m _=lp m _;rw[c]
theorem xg{m:Nat}{q:Nat×Nat}(h:q.1<=m):∀k,(dw m k q).1<=m
 |0=>h
 |k+1=>Nat.le_of_lt_succ (mod_lt _ (succ_pos m))
theorem reach{m:Nat}(hc:fT m){p:Pr}(h:Wf m p){j:Nat}(a:j<=m):∃n,n<10*SetTable.turns m/\(it m n p).j=j:=by
 have h0:(dw m 13 (p.i,p.perturb)).2=0:=by
  rw[qF];exact Nat.div_eq_of_lt (lt_of_lt_of_le h.b (by decide))
 obtain⟨t,d,e⟩:=hc.to (xg (q:=(p.i,p.perturb)) h.i 13) a;obtain⟨n,f,c,_⟩:=wN h (t+12);refine⟨n,by unfold SetTable.turns;omega,?_⟩;rw[c,show t+12+1=t+13 by omega,qD,qE _ h0];exact e
open SR
abbrev pl(t:SetTable):List Nat:=t.place.toList
theorem JN{xs:Array Nat}(a:Rs xs):xs.toList.Nodup:=a.imp λh=>ne_of_lt h
theorem qh{xs:Array Nat}(b:Rs xs){i a j:Nat}(h:xs[i]?=some j)(h':xs[a]?=some j):i=a:=by
 rw[<-getElem?_toList] at h h';exact(List.getElem?_inj (List.getElem?_eq_some_iff.mp h).1 (JN b)).mp (h.trans h'.symm)
theorem FG{xs:Array Nat}{j:Nat}(h:j∈xs.toList):∃i:Nat,xs[i]?=some j:=by
 obtain⟨i,hi⟩:=List.getElem?_of_mem h;exact⟨i,by rw[<-getElem?_toList];exact hi⟩
theorem qJ{xs:Array Nat}{i j:Nat}(h:xs[i]?=some j):j∈xs.toList:=by
 rw[<-getElem?_toList] at h;exact mem_of_getElem? h
theorem zT{t:SetTable}(a:Rs t.place){i j:Nat}(h:t.place[i]?=some j):t.slot j=.live i:=by
 have e:=Bu a (qJ h);have b:=qh a h e;unfold SetTable.slot;dsimp only;rw[if_pos (by rw[e];simp),<-b]
theorem vV(j:Nat):SetTable.has #[] j=false:=by
 unfold SetTable.has;simp
theorem KR{t:SetTable}(hd:t.dummies= #[]){j:Nat}(h:j∉pl t):t.slot j=.empty:=by
 unfold SetTable.slot;dsimp only;rw[if_neg,hd,vV]
 .rfl
 .intro z
  exact h (qJ (by simpa using z))
theorem vI{t:SetTable}(g:Rs t.place)(hd:t.dummies= #[]){f:Nat->Int}{h:Int}:∀(n fuel:Nat) (p:Pr),n<fuel->p.dummy=none->(it t.mask n p).j∉pl t->(∀q,q<n->(it t.mask q p).j∈pl t)->
  (SetTable.probe.go t f h fuel p=some (.empty (it t.mask n p).j none)/\∀q,q<n->∀i,t.place[i]? =some (it t.mask q p).j->f i≠h)\/
  ∃k i,k<n/\t.place[i]? =some (it t.mask k p).j/\f i=h/\SetTable.probe.go t f h fuel p=some (.candidate (it t.mask k p).j i (it t.mask (k+1) p))/\∀q,q<k->∀i,t.place[i]? =some (it t.mask q p).j->f i≠h
 |0,0,p,d,_,_,_=>absurd d (not_lt_zero _)
 |n+1,0,p,d,_,_,_=>absurd d (not_lt_zero _)
 |0,fuel+1,p,d,l,m,_=>by
  refine .inl ⟨?_,λq c=>absurd c (not_lt_zero _)⟩
  unfold SetTable.probe.go
  rw[KR hd (show p.j∉pl t from m),l]
  rfl
 |n+1,fuel+1,p,d,l,m,s=>by
  obtain⟨o,b⟩:=FG (s 0 (by omega))
  have hs:t.slot p.j= .live o:=zT g b
  unfold SetTable.probe.go
  rw[hs]
  dsimp only
  by_cases z:f o=h
  .refine .inr ⟨0,o,by omega,b,z,?_,λq c=>absurd c (not_lt_zero _)⟩
   rw[if_pos (by rw[z];exact beq_self_eq_true _)]
   rfl
  .rw[if_neg (by simpa using z)]
   have r:(nx t.mask p).dummy=none:=by
    unfold nx
    split<;>exact l
   have h0:∀i,t.place[i]? =some (it t.mask 0 p).j->f i≠h:=λi hi=>by
    rw[qh g hi b];exact z
   rcases vI g hd n fuel (nx t.mask p) (by omega) r (by rw[f_];exact m) (λq c=>by rw[f_];exact s (q+1) (by omega)) with⟨e,a⟩|⟨k,i,v,hi,u,e,a⟩
   .refine .inl ⟨by rw[tF,e,f_],λq c i hi=> ?_⟩
    cases q with
    |zero=>exact h0 i hi
    |succ q=>exact a q (by omega) i (by rw[f_];exact hi)
   .refine .inr ⟨k+1,i,by omega,by rw[<-f_];exact hi,u,by rw[tF,e,f_,f_],λq c i hi=> ?_⟩
    cases q with
    |zero=>exact h0 i hi
    |succ q=>exact a q (by omega) i (by rw[f_];exact hi)
theorem yg:∀(m:Nat) (l:List Nat),(∀j,j<m->j∈l)->m<=l.length
 |0,l,_=>zero_le _
 |m+1,l,h=>by
  have a:=h m (by omega);have:=yg m (l.erase m) λj b=>(List.mem_erase_of_ne (by omega)).mpr (h j (by omega));rw[List.length_erase_of_mem a] at this;have:=List.length_pos_of_mem a;omega
theorem yh{m:Nat}{l:List Nat}(h:l.length<=m):∃j,j<=m/\j∉l:=by
 refine Classical.byContradiction λz=>?_;have:=yg (m+1) l λj a=>Classical.byContradiction λy=>z ⟨j,by omega,y⟩;omega
theorem GO{P:Nat->Prop}:∀(n:Nat),P n->∃k,k<=n/\P k/\∀q,q<k->¬P q:=by
 intro n;induction n using Nat.strongRecOn with
 |ind n c=>
  intro d;by_cases z:∃q,q<n/\P q
  .obtain⟨q,a,b⟩:=z
   obtain⟨k,e,r⟩:=c q a b;exact⟨k,by omega,r⟩
  .exact⟨n,le_refl _,d,λq a b=>z ⟨q,a,b⟩⟩
structure Tb(t:SetTable)(hs:List Int):Prop where
 rs:Rs t.place
 dm:t.dummies= #[]
 le:∀j∈pl t,j<=t.mask
 cy:fT t.mask
 sz:t.place.size=hs.length
 ro:t.place.size<=t.mask
 pa:∀j h,(j,h)∈(pl t).zip hs->∃n,(it t.mask n (a_ t.mask h)).j=j/\∀q,q<n->(it t.mask q (a_ t.mask h)).j∈pl t
theorem Tb.free{t:SetTable}{hs:List Int}(T:Tb t hs){p:Pr}(a:Wf t.mask p):∃n,n<10*SetTable.turns t.mask/\(it t.mask n p).j∉pl t/\∀q,q<n->(it t.mask q p).j∈pl t:=by
 obtain⟨j,b,c⟩:=yh (m:=t.mask) (l:=pl t) (by have:=T.ro;simpa using this);obtain⟨n,h1,h2⟩:=reach T.cy a b;obtain⟨k,g,d,e⟩:=GO (P:=λn=>(it t.mask n p).j∉pl t) n (by rw[h2];exact c);exact⟨k,by omega,d,λq f=>Classical.byContradiction (e q f)⟩
theorem we{α:Type}(xs:Array α)(p:Nat)(x:α):(SetTable.insertAt xs p x).toList=xs.toList.take p++(x::xs.toList.drop p):=by
 unfold SetTable.insertAt;simp[Array.toList_append,Array.toList_extract];exact List.take_of_length_le (by simp)
theorem qI{α:Type}{l:List α}{p:Nat}{x y:α}:y∈l.take p++(x::l.drop p)↔y=x\/y∈l:=by
 rw[mem_append,mem_cons];constructor
 .rintro (h|h|h)
  .exact .inr (mem_of_mem_take h)
  .exact .inl h
  .exact .inr (List.mem_of_mem_drop h)
 .rintro (h|h)
  .exact .inr (.inl h)
  .rw[<-List.take_append_drop p l,mem_append] at h
   exact h.elim .inl λz=>.inr (.inr z)
theorem Mk{α β:Type}{a:List α}{b:List β}(c:a.length=b.length)(p:Nat)(x:α)(y:β):(a.take p++(x::a.drop p)).zip (b.take p++(y::b.drop p))=(a.zip b).take p++((x,y)::(a.zip b).drop p):=by
 rw[List.zip_append (by simp[c]),List.zip_cons_cons];simp only[List.zip,List.take_zipWith,List.drop_zipWith]
theorem Tb.put{t:SetTable}{hs:List Int}(T:Tb t hs){n:Nat}{h:Int}(d:(it t.mask n (a_ t.mask h)).j∉pl t)(i:∀q,q<n->(it t.mask q (a_ t.mask h)).j∈pl t)(l:t.place.size+1<=t.mask):
  Tb (t.put (it t.mask n (a_ t.mask h)).j).1 (hs.take (t.put (it t.mask n (a_ t.mask h)).j).2++(h::hs.drop (t.put (it t.mask n (a_ t.mask h)).j).2)):=by
 generalize e:(it t.mask n (a_ t.mask h)).j=j at d ⊢;have b:j<=t.mask:=by rw[<-e];exact((iK t.mask h).it n).j
 have ep:(t.put j).1={t with place:=SetTable.insertAt t.place (SetTable.below t.place j) j}:=by
  unfold SetTable.put;dsimp only;rw[T.dm,vV];rw[if_neg Bool.false_ne_true,<-T.dm]
 have a:pl (t.put j).1=(pl t).take (SetTable.below t.place j)++(j::(pl t).drop (SetTable.below t.place j)):=by
  rw[ep];exact we _ _ _
 have em:(t.put j).1.mask=t.mask:=by rw[ep]
 have mem:∀k,k∈pl t->k∈pl (t.put j).1:=λk hk=>by rw[a];exact qI.mpr (.inr hk)
 have f:(t.put j).2=SetTable.below t.place j:=rfl;have m:=(jD T.rs j).1;refine⟨by rw[ep];exact FJ T.rs d,by rw[ep];exact T.dm,λk hk=>?_,by rw[em];exact T.cy,?_,?_,λk g hk=>?_⟩
 .rw[em]
  rw[a] at hk;rcases qI.mp hk with rfl|hk
  .exact b
  .exact T.le k hk
 .have this:=congrArg List.length a
  have sz:=T.sz;rw[<-length_toList,this,f];simp only[length_append,length_take,length_cons,length_drop,length_toList,sz]
 .have this:=congrArg List.length a
  rw[<-length_toList,this,em];simp only[length_append,length_take,length_cons,length_drop,length_toList];omega
 .rw[a,f,Mk (by rw[length_toList,T.sz])] at hk
  rw[em];rcases qI.mp hk with z|hk
  .cases z
   exact⟨n,e,λq c=>mem _ (i q c)⟩
  .obtain⟨n',h1,h2⟩:=T.pa k g hk
   exact⟨n',h1,λq c=>mem _ (h2 q c)⟩
theorem Tb.fresh(f mv:Nat)(l:Bool):Tb (SetTable.fresh f mv l) []:=
 ⟨Pairwise.nil,rfl,(λj a=>by cases a),B8,rfl,zero_le _,(λj h b=>by cases b)⟩
abbrev Ow:=Array (Option Nat)
structure Rn(m:Nat)(p:Pr):Prop where
 w:Wf m p
 e:p.j=p.i
theorem mw{m:Nat}:∀(k:Nat) (p:Pr),k<=p.more->(it m k p).j=p.j+k
 |0,p,_=>rfl
 |k+1,p,h=>by
  have e:nx m p={p with j:=p.j+1,more:=p.more - 1}:=by unfold nx;rw[if_pos (by omega)]
  rw[<-f_,e,mw k _ (by show k<=p.more - 1;omega)];show p.j+1+k=_;omega
theorem Hg{m:Nat}{p:Pr}(h:Wf m p):Rn m (it m (p.more+1) p)/\((it m (p.more+1) p).i,(it m (p.more+1) p).perturb)=lp m (p.i,p.perturb):=by
 obtain⟨h1,h2,a⟩:=rQ (m:=m) p.more p rfl;have e:it m (p.more+1) p=nx m (it m p.more p):=rfl;refine⟨⟨h.it _,?_⟩,?_⟩
 .rw[e];unfold nx;rw[if_neg (by omega)]
 .rw[e];unfold nx;rw[if_neg (by omega),h2,a]
theorem vq{m:Nat}{o:Ow}:∀(fuel:Nat) (p:Pr),Rn m p->(∃k,k<fuel/\o.getD (dw m k (p.i,p.perturb)).1 (some 0)=none)->
  ∃n,SetTable.layClean.free m o fuel p.i p.perturb=some (it m n p).j/\o.getD (it m n p).j (some 0)=none/\∀q,q<n->o.getD (it m q p).j (some 0)≠none
 |0,p,_,⟨k,s,_⟩=>absurd s (not_lt_zero _)
 |fuel+1,p,b,⟨k,s,t⟩=>by
  have B:=b.w.r;have c:=b.e;unfold SetTable.layClean.free;cases u:(range (SetTable.runEnd m p.i+1 - p.i)).find? λk=>(o.getD (p.i+k) (some 0)).isNone with
  |some d=>
   obtain⟨h1,h2,a⟩:=List.find?_range_eq_some.mp u;rw[mem_range] at h2;have v:(it m d p).j=p.i+d:=by rw[mw d p (by omega),c]
   refine⟨d,by rw[v],by rw[v];simpa using h1,λq f=>?_⟩;have:=a q f;rw[mw q p (by omega),c];intro z;rw[z] at this;exact absurd this (by decide)
  |none=>
   have a:∀q,q<=p.more->o.getD (p.i+q) (some 0)≠none:=λq f z=>by
    have:=List.find?_range_eq_none.mp u q (by omega);rw[z] at this;exact absurd this (by decide)
   obtain⟨g,h⟩:=Hg (m:=m) b.w;cases k with
   |zero=>exact absurd t (a 0 (zero_le _))
   |succ k=>
    have l:dw m k (lp m (p.i,p.perturb))=dw m (k+1) (p.i,p.perturb):=(qD m k 1 (p.i,p.perturb)).symm;obtain⟨n,x,y,A⟩:=vq (o:=o) fuel _ g ⟨k,by omega,by rw[h,l];exact t⟩;refine⟨n+(p.more+1),?_,?_,λq f=>?_⟩
    .dsimp only
     rw[jc,<-x];have a1:(it m (p.more+1) p).i=(SetTable.leap m p.i p.perturb).1:=congrArg Prod.fst h;have a2:(it m (p.more+1) p).perturb=(SetTable.leap m p.i p.perturb).2:=congrArg Prod.snd h;rw[a1,a2]
    .rw[jc];exact y
    .by_cases z:q<=p.more
     .rw[mw q p z,c];exact a q z
     .have:=A (q - (p.more+1)) (by omega)
      rw[<-jc,show q - (p.more+1)+(p.more+1)=q by omega] at this;exact this
theorem Lg(m:Nat)(h:Int):Rn m (a_ m h):=⟨iK m h,rfl⟩
structure LI(m:Nat)(o:Ow)(hs:List Int):Prop where
 sz:o.size=m+1
 lt:∀j i,o.getD j none=some i->i<hs.length
 at_:∀i,i<hs.length->∃j,o.getD j none=some i
 inj:∀j j' i,o.getD j none=some i->o.getD j' none=some i->j=j'
 pa:∀j i,o.getD j none=some i->∃n,(it m n (a_ m (hs.getD i 0))).j=j/\∀q,q<n->o.getD (it m q (a_ m (hs.getD i 0))).j none≠none
 li:∃L:List Nat,L.length=hs.length/\∀j,o.getD j none≠none->j∈L
theorem getD_in{o:Ow}{j:Nat}(h:j<o.size):o.getD j (some 0)=o.getD j none:=by
 rw[getD_eq_getD_getElem?,getD_eq_getD_getElem?,Array.getElem?_eq_getElem h];rfl
theorem Es{o:Ow}{j k:Nat}{v:Option Nat}(h:j<o.size):(o.setIfInBounds j v).getD k none=if j=k then v else o.getD k none:=by
 rw[getD_eq_getD_getElem?,Array.getElem?_setIfInBounds];by_cases e:j=k
 .rw[if_pos e,if_pos e,if_pos h];rfl
 .rw[if_neg e,if_neg e,getD_eq_getD_getElem?]
theorem LI.step{m:Nat}{o:Ow}{hs:List Int}(I:LI m o hs)(hc:fT m)(F:hs.length<=m)(h:Int):
  ∃j,SetTable.layClean.free m o (SetTable.turns m) (SetTable.bits h%(m+1)) (SetTable.bits h)=some j/\LI m (o.setIfInBounds j (some hs.length)) (hs++[h]):=by
 obtain⟨L,B,f⟩:=I.li;obtain⟨x,r,s⟩:=yh (m:=m) (l:=L) (by omega);have g:o.getD x none=none:=Classical.byContradiction λz=>s (f x z);have h0:(dw m 13 ((a_ m h).i,(a_ m h).perturb)).2=0:=by
  rw[qF];exact Nat.div_eq_of_lt (lt_of_lt_of_le (iK m h).b (by decide))
 obtain⟨t,G,e⟩:=hc.to (xg (q:=((a_ m h).i,(a_ m h).perturb)) (iK m h).i 13) r;obtain⟨n,C,u,D⟩:=vq (o:=o) (SetTable.turns m) (a_ m h) (Lg m h) ⟨t+13,by unfold SetTable.turns;omega,by
  rw[qD,qE _ h0];show o.getD (cy m t _) _=none;rw[e,getD_in (by rw[I.sz];omega)];exact g⟩
 have y:∀q,(it m q (a_ m h)).j<o.size:=λq=>by rw[I.sz];exact Nat.lt_succ_of_le ((iK m h).it q).j
 refine⟨_,C,?_⟩;generalize A:(it m n (a_ m h)).j=j at u ⊢;have p:j<o.size:=by rw[<-A];exact y n
 rw[getD_in p] at u;have gs:=λk v=>Es (k:=k) (v:=v) p;have ge:∀i,i<hs.length->(hs++[h]).getD i 0=hs.getD i 0:=λi hi=>by simp[getD_eq_getElem?_getD,getElem?_append_left hi]
 have gl:(hs++[h]).getD hs.length 0=h:=by simp[getD_eq_getElem?_getD]
 have keep:∀k,o.getD k none≠none->(o.setIfInBounds j (some hs.length)).getD k none≠none:=λk c=>by
  rw[gs];split
  .intro z;cases z
  .exact c
 refine⟨by rw[Array.size_setIfInBounds];exact I.sz,λk i c=>?_,λi hi=>?_,λk E i c d=>?_,λk i c=>?_,⟨j::L,by simp[B],λk c=>?_⟩⟩
 .rw[gs] at c
  rw[length_append,length_singleton];split at c
  .cases c;omega
  .have:=I.lt k i c;omega
 .rw[length_append,length_singleton] at hi
  by_cases z:i=hs.length
  .exact⟨j,by rw[gs,if_pos rfl,z]⟩
  .obtain⟨k,c⟩:=I.at_ i (by omega)
   refine⟨k,?_⟩;rw[gs,if_neg,c];rintro rfl;rw[u] at c;cases c
 .rw[gs] at c d
  split at c
  .cases c
   split at d
   .rename_i a b;rw[<-a,<-b]
   .exact absurd (I.lt _ _ d) (lt_irrefl _)
  .split at d
   .cases d
    exact absurd (I.lt _ _ c) (lt_irrefl _)
   .exact I.inj k E i c d
 .rw[gs] at c
  split at c
  .cases c
   rename_i a;rw[gl];refine⟨n,by rw[A,a],λq w=>keep _ ?_⟩;have:=D q w;rw[getD_in (y q)] at this;exact this
  .rw[ge i (I.lt k i c)]
   obtain⟨n',a1,a2⟩:=I.pa k i c;exact⟨n',a1,λq w=>keep _ (a2 q w)⟩
 .rw[gs] at c
  split at c
  .rename_i a;rw[<-a];exact mem_cons_self
  .exact mem_cons_of_mem _ (f k c)
theorem LI.start(m:Nat):LI m (Array.replicate (m+1) none) []:=by
 have g:∀j,(Array.replicate (m+1) (none:Option Nat)).getD j none=none:=λj=>by
  rw[getD_eq_getD_getElem?,Array.getElem?_replicate];split<;>rfl
 refine⟨by simp,λj i h=>?_,λi hi=>absurd hi (not_lt_zero _),λj a i h=>?_,λj i h=>?_,⟨[],rfl,λj h=>absurd (g j) h⟩⟩
 .rw[g] at h;cases h
 .rw[g] at h;cases h
 .rw[g] at h;cases h
abbrev jg(m:Nat)(acc:Option (Ow×Nat))(h:Int):Option (Ow×Nat):=do
 let (owner,k) <-acc
 let j <-SetTable.layClean.free m owner (SetTable.turns m) (SetTable.bits h%(m+1)) (SetTable.bits h)
 pure (owner.setIfInBounds j (some k),k+1)
theorem wK{m:Nat}(hc:fT m):∀(rest done:List Int) (o:Ow),LI m o done->done.length+rest.length<=m->∃o' k,rest.foldl (jg m) (some (o,done.length))=some (o',k)/\LI m o' (done++rest)
 |[],done,o,I,_=>⟨o,_,rfl,by rw[append_nil];exact I⟩
 |h::rest,done,o,I,b=>by
  rw[length_cons] at b;obtain⟨j,e,c⟩:=I.step hc (by omega) h;obtain⟨o',k,d,a⟩:=wK hc rest (done++[h]) _ c (by rw[length_append,length_singleton];omega);refine⟨o',k,?_,by rw[append_assoc] at a;exact a⟩;rw[foldl_cons,<-d,length_append,length_singleton];show foldl (jg m) (jg m (some (o,done.length)) h) rest=_;have:jg m (some (o,done.length)) h=some (o.setIfInBounds j (some done.length),done.length+1):=by
   show(SetTable.layClean.free m o (SetTable.turns m) (SetTable.bits h%(m+1)) (SetTable.bits h)>>=λj=>pure (o.setIfInBounds j (some done.length),done.length+1))=_;rw[e];rfl
  rw[this]
theorem GH{m:Nat}(hc:fT m){hs:Array Int}(F:hs.size<=m)(f mv:Nat)(led plain:Bool):
  ∃t o,SetTable.laid m f mv led plain hs=some (t,o)/\t.mask=m/\t.led=led/\t.plain=plain/\o.toList.Perm (range hs.size)/\Tb t (o.toList.map λi=>hs.getD i 0):=by
 obtain⟨v,k,e,I⟩:=wK hc hs.toList [] _ (LI.start m) (by simpa using F);rw[nil_append] at I;have J:SetTable.layClean m hs=some v:=by
  unfold SetTable.layClean;rw[<-Array.foldl_toList];show Option.map _ (foldl (jg m) (some (Array.replicate (m+1) none,0)) hs.toList)=_;have s:foldl (jg m) (some (Array.replicate (m+1) none,0)) hs.toList=some (v,k):=e;rw[s];rfl
 generalize l:((range (m+1)).filterMap λj=>(v.getD j none).map (j,·))=live;have c:∀j i,(j,i)∈live↔v.getD j none=some i:=λj i=>by
  rw[<-l,mem_filterMap];constructor
  .rintro ⟨a,_,e⟩
   obtain⟨u,B,s⟩:=map_eq_some_iff.mp e;cases s;exact B
  .intro h
   refine⟨j,mem_range.mpr ?_,by rw[h];rfl⟩;refine Classical.byContradiction λz=>?_;rw[getD_eq_getD_getElem?,Array.getElem?_eq_none (by rw[I.sz];omega)] at h;cases h
 have w:SetTable.laid m f mv led plain hs=some ({mask:=m,place:=(live.map (·.1)).toArray,dummies:= #[],finger:=f,led,moves:=mv,plain},(live.map (·.2)).toArray):=by
  unfold SetTable.laid;rw[J,<-l];rfl
 have d:(live.map (·.2)).Perm (range hs.size):=by
  refine(List.perm_ext_iff_of_nodup ?_ List.nodup_range).mpr λi=>?_
  .unfold Nodup
   rw[pairwise_map,<-l,List.pairwise_filterMap];refine List.pairwise_lt_range.imp λ {a b} K p L q C=>?_;obtain⟨i,B,rfl⟩:=map_eq_some_iff.mp L;obtain⟨u,s,rfl⟩:=map_eq_some_iff.mp C;intro z;have z:i=u:=z;rw[z] at B;exact absurd (I.inj a b u B s) (by omega)
  .rw[mem_map,mem_range]
   constructor
   .rintro ⟨⟨j,u⟩,r,rfl⟩
    have:=I.lt j u ((c j u).mp r);simpa using this
   .intro h
    obtain⟨j,D⟩:=I.at_ i (by simpa using h);exact⟨(j,i),(c j i).mpr D,rfl⟩
 refine⟨_,_,w,rfl,rfl,rfl,d,?_⟩;have E:∀j,v.getD j none≠none↔j∈live.map (·.1):=λj=>by
  rw[mem_map];constructor
  .intro h
   cases G:v.getD j none with
   |none=>exact absurd G h
   |some i=>exact⟨(j,i),(c j i).mpr G,rfl⟩
  .rintro ⟨⟨y,i⟩,r,rfl⟩ z
   rw[(c y i).mp r] at z;cases z
 have A:live.length=hs.size:=by rw[<-length_map (f:=(·.2)),d.length_eq,length_range]
 refine⟨GI w,rfl,λj D=>?_,hc,by simp,by show(live.map (·.1)).toArray.size<=m;simp[A];exact F,λj g H=>?_⟩
 .obtain⟨⟨y,i⟩,r,rfl⟩:=mem_map.mp D
  rw[<-l,mem_filterMap] at r;obtain⟨a,M,e⟩:=r;obtain⟨u,_,s⟩:=map_eq_some_iff.mp e;cases s;have:=mem_range.mp M;show _<=m;omega
 .have N:(pl {mask:=m,place:=(live.map (·.1)).toArray,dummies:= #[],finger:=f,led,moves:=mv,plain}).zip ((live.map (·.2)).toArray.toList.map λi=>hs.getD i 0)=live.map λx=>(x.1,hs.getD x.2 0):=by
   show(live.map (·.1)).zip ((live.map (·.2)).map λi=>hs.getD i 0)=_;rw[map_map,List.zip_map'];rfl
  rw[N] at H;obtain⟨⟨y,i⟩,r,e⟩:=mem_map.mp H;cases e;obtain⟨n,a1,a2⟩:=I.pa y i ((c y i).mp r);have O:hs.toList.getD i 0=hs.getD i 0:=by rw[getD_eq_getElem?_getD,getD_eq_getD_getElem?,getElem?_toList]
  rw[O] at a1 a2;exact⟨n,a1,λq C=>(E _).mp (a2 q C)⟩
open PySem.Spec PyProof.Rows
section
variable{prog:Program}{w:World}{K:Type}[DecidableEq K]{knd:KeyKind prog w K}{A:Around}{E:aj}{s:Shared}
theorem HA(n:Nat){v:Value}(h:carriedByValue v=true):ofAClassStatement n v=pure false:=by
 cases v with
 |ref a=>simp[carriedByValue] at h
 |_=>first|rfl|simp[ofAClassStatement]|(unfold ofAClassStatement;rfl)
theorem xO{ks:List K}{a:Addr}{Q:Bool->Shared->Prop}(e:IsTupleKey knd s.heap ks a)(h:Q false s):wpAny (model prog w) A (ofAClassStatement 8 (.ref a)) Q E s:=by
 have f:=e.typeIs;obtain⟨o,items,n,g,_,hd,hi⟩:=e;unfold ofAClassStatement;refine wpAny_bind (wpAny_typeOf f ?_);dsimp only;refine wpAny_bind ?_;refine wpAny_pure ?_;simp only[Bool.not_true,false_eq_true,if_false];refine wpAny_bind (wpAny_seqItems g hd ?_);dsimp only;refine wpAny_bind ?_;rw[<-Array.forIn_toList];refine wpAny_forIn_list _ (λrest r s'=>r.1=none/\s'=s/\∀v∈rest,carriedByValue v=true) _ ?_ ?_ _ _ ⟨rfl,rfl,hi.byValue⟩
 .rintro v rest r s' ⟨c,rfl,b⟩
  rw[HA _ (b v mem_cons_self)];refine wpAny_bind (wpAny_pure ?_);simp only[false_eq_true,if_false];exact wpAny_pure ⟨rfl,rfl,λu d=>b u (mem_cons_of_mem _ d)⟩
 .rintro ⟨i,j⟩ s' ⟨c,rfl,_⟩
  simp only at c;subst c;exact wpAny_pure h
theorem seen{ks:List K}{b:Addr}{st:List Value}{Q:Bool->Shared->Prop}(i:IsTupleKey knd s.heap ks b)(e:∀y∈st,∃k a,y=.ref a/\IsTupleKey knd s.heap k a)(h:Q false s):
  wpAny (model prog w) A (searchCouldBeSeen (.ref b) st) Q E s:=by
 unfold searchCouldBeSeen;refine wpAny_bind ?_;refine wpAny_forIn_list _ (λrest r s'=>r.1=none/\s'=s/\∀y∈rest,∃k a,y=.ref a/\IsTupleKey knd s.heap k a) _ ?_ ?_ _ _ ⟨rfl,rfl,e⟩
 .rintro v rest r s' ⟨f,rfl,c⟩
  obtain⟨k,a,rfl,d⟩:=c v mem_cons_self;have nx:∀y∈rest,∃k a,y=Value.ref a/\IsTupleKey knd s'.heap k a:=λu g=>c u (mem_cons_of_mem _ g);dsimp only;split
  .exact wpAny_pure ⟨rfl,rfl,nx⟩
  .refine wpAny_bind (wpAny_eqIsQuiet_tuple i ?_)
   simp only[Bool.not_true,false_eq_true,if_false];refine wpAny_bind (wpAny_eqIsQuiet_tuple d ?_);simp only[Bool.not_true,false_eq_true,if_false];refine wpAny_bind (xO i ?_);simp only[false_eq_true,if_false];refine wpAny_bind (xO d ?_);simp only[false_eq_true,if_false];exact wpAny_pure ⟨rfl,rfl,nx⟩
 .rintro ⟨j,l⟩ s' ⟨f,rfl,_⟩
  simp only at f;subst f;exact wpAny_pure h
theorem E0{n:Nat}{v:Value}(h:carriedByValue v=true):∃b,hashByValue n v=pure b:=by
 cases v with
 |ref a=>simp[carriedByValue] at h
 |_=>exact⟨_,by unfold hashByValue;rfl⟩
theorem hbv{ks:List K}{a:Addr}{Q:Bool->Shared->Prop}(e:IsTupleKey knd s.heap ks a)(h:∀b,Q b s):wpAny (model prog w) A (hashByValue 8 (.ref a)) Q E s:=by
 have g:=e.typeIs;obtain⟨o,items,n,i,_,hd,hi⟩:=e;unfold hashByValue;refine wpAny_bind (wpAny_specialOf g F.slot_tuple_hash.lookup ?_);dsimp only;refine wpAny_bind (wpAny_seqItems i hd ?_);refine wpAny_bind ?_;show wpAny _ _ (forIn items _ _) _ _ s;rw[<-Array.forIn_toList];refine wpAny_forIn_list _ (λrest r s'=>r.1=none/\s'=s/\∀v∈rest,carriedByValue v=true) _ ?_ ?_ _ _ ⟨rfl,rfl,hi.byValue⟩
 .rintro v rest r s' ⟨_,rfl,c⟩
  obtain⟨b,j⟩:=E0 (n:=7) (c v mem_cons_self);rw[j];refine wpAny_bind (wpAny_pure ?_);cases b with
  |false=>exact wpAny_pure (wpAny_pure (h false))
  |true=>exact wpAny_pure ⟨rfl,rfl,λu d=>c u (mem_cons_of_mem _ d)⟩
 .rintro ⟨k,l⟩ s' ⟨f,rfl,_⟩
  simp only at f;subst f;exact wpAny_pure (h true)
theorem search{a b:Addr}{ks:List K}{c:List (List K×Addr)}{o:Obj}{es:Array (Int×Value)}{ep:Nat}{t:SetTable}{N:Nat}{Q:SetFound->Shared->Prop}
  (hu:A.units<cLine)(ho:s.heap.get? a=some o)(hd:o.data= .set es ep t)(hf:t.fits es.size=true)(H:es.toList=c.map λx=>(tupleKeyHash knd x.1,Value.ref x.2))
  (I:∀x∈c,IsTupleKey knd s.heap x.1 x.2)(T:Tb t (c.map λx=>tupleKeyHash knd x.1))(hk:IsTupleKey knd s.heap ks b)
  (P:(it t.mask N (a_ t.mask (tupleKeyHash knd ks))).j∉pl t)(hl:∀q,q<N->(it t.mask q (a_ t.mask (tupleKeyHash knd ks))).j∈pl t)(vS:N<10*SetTable.turns t.mask)
  (R:ks∈c.map (·.1)->Q (.there none) s)(J:ks∉c.map (·.1)->Q (.free (it t.mask N (a_ t.mask (tupleKeyHash knd ks))).j false) s):
  ∀(d fuel n:Nat) (st:Option SetTable.Probe),N - n=d->n<=N->d<fuel->st.getD (t.probeStart (tupleKeyHash knd ks))=it t.mask n (a_ t.mask (tupleKeyHash knd ks))->
   (∀q,q<n->∀i:Nat,t.place[i]? =some (it t.mask q (a_ t.mask (tupleKeyHash knd ks))).j->∀x:List K×Addr,c[i]? =some x->x.1≠ks)->
   wpAny (model prog w) A (setSearchFrom a (.ref b) (tupleKeyHash knd ks) true fuel st) Q E s:=by
 have r:∀(i:Nat) (x:List K×Addr),c[i]? =some x->es[i]? =some (tupleKeyHash knd x.1,Value.ref x.2):=λi x p=>by
  rw[<-getElem?_toList,H,getElem?_map,p];rfl
 have v:c.length=t.place.size:=by rw[T.sz,length_map]
 intro d
 induction d using Nat.strongRecOn with
 |ind d ih=>
  intro fuel n st hd' hn S U L
  cases fuel with
  |zero=>exact absurd S (not_lt_zero _)
  |succ fuel=>
   have C:∀q,it t.mask q (it t.mask n (a_ t.mask (tupleKeyHash knd ks)))=it t.mask (q+n) (a_ t.mask (tupleKeyHash knd ks)):=λq=>(jc _ _ _ _).symm
   unfold setSearchFrom
   refine wpAny_bind (wpAny_setState_of ho hd hf ?_)
   dsimp only
   have V:t.gaveWay=false:=by
    unfold SetTable.gaveWay
    rw[T.cy.2.2];rfl
   rw[V,U]
   simp only[false_eq_true,if_false]
   have eN:it t.mask (N - n) (it t.mask n (a_ t.mask (tupleKeyHash knd ks)))=it t.mask N (a_ t.mask (tupleKeyHash knd ks)):=by rw[C,show N - n+n=N by omega]
   have W:=vI T.rs T.dm (f:=λi=>(es[i]?.map (·.1)).getD 0) (h:=tupleKeyHash knd ks) (N - n) (10*SetTable.turns t.mask) (it t.mask n (a_ t.mask (tupleKeyHash knd ks))) (by omega) ((iK _ _).it n).d (by rw[eN];exact P) (λq hq=>by rw[C];exact hl _ (by omega))
   rcases W with⟨e,D⟩|⟨k,i,hkn,hi,hh,e,D⟩
   .have X:t.probe (λi=>(es[i]?.map (·.1)).getD 0) (tupleKeyHash knd ks) (it t.mask n (a_ t.mask (tupleKeyHash knd ks)))=some (.empty (it t.mask N (a_ t.mask (tupleKeyHash knd ks))).j none):=by
     show SetTable.probe.go _ _ _ _ _=_
     rw[e,eN]
    show wpAny _ _ (match t.probe (λi=>(es[i]?.map (·.1)).getD 0) (tupleKeyHash knd ks) (it t.mask n (a_ t.mask (tupleKeyHash knd ks))) with|some met=>_|x=>_) _ _ _
    rw[X]
    refine wpAny_pure (J λM=> ?_)
    obtain⟨x,p,rfl⟩:=mem_map.mp M
    obtain⟨i,hi⟩:=List.getElem?_of_mem p
    have g:i<t.place.size:=by rw[<-v];exact(List.getElem?_eq_some_iff.mp hi).1
    have u:t.place[i]? =some (t.place[i]'g):=Array.getElem?_eq_getElem g
    have hz:(t.place[i]'g,tupleKeyHash knd x.1)∈(pl t).zip (c.map λx=>tupleKeyHash knd x.1):=by
     refine mem_of_getElem? (i:=i) ?_
     rw[List.getElem?_zip_eq_some]
     exact⟨by rw[getElem?_toList];exact u,by rw[getElem?_map,hi];rfl⟩
    obtain⟨m,h1,h2⟩:=T.pa _ _ hz
    have hm:m<N:=by
     rcases Nat.lt_trichotomy m N with z|z|z
     .exact z
     .rw[z] at h1
      rw[h1] at P
      exact absurd (qJ u) P
     .exact absurd (h2 N z) P
    by_cases z:m<n
    .exact L m z i (by rw[h1];exact u) x hi rfl
    .refine D (m - n) (by omega) i ?_ ?_
     .rw[C,show m - n+n=m by omega,h1];exact u
     .rw[r i x hi];rfl
   .have X:t.probe (λi=>(es[i]?.map (·.1)).getD 0) (tupleKeyHash knd ks) (it t.mask n (a_ t.mask (tupleKeyHash knd ks)))=some (.candidate (it t.mask (k+n) (a_ t.mask (tupleKeyHash knd ks))).j i (it t.mask (k+1+n) (a_ t.mask (tupleKeyHash knd ks)))):=by
     show SetTable.probe.go _ _ _ _ _=_
     rw[e,C,C]
    rw[C] at hi
    have g:i<c.length:=by
     rw[v]
     exact(Array.getElem?_eq_some_iff.mp hi).1
    have p:c[i]? =some (c[i]'g):=getElem?_eq_getElem g
    generalize c[i]'g=x at p
    have Y:=I x (mem_of_getElem? p)
    show wpAny _ _ (match t.probe (λi=>(es[i]?.map (·.1)).getD 0) (tupleKeyHash knd ks) (it t.mask n (a_ t.mask (tupleKeyHash knd ks))) with|some met=>_|x=>_) _ _ _
    rw[X]
    dsimp only
    have main:wpAny (model prog w) A (do
      let some (_,y):=es[i]? |unsupported "internal:set-entry"
      let equal <-holding [y] (eqBool y (.ref b))
      let (Z,_,t') <-setState a
      if true&&equal then return .there none
      let some same:=t'.sameMemory t.moves t.mask|unsupported "set.changed-during-lookup:is-the-new-block-at-the-old-address"
      let F <-match (if same then t'.slot (it t.mask (k+n) (a_ t.mask (tupleKeyHash knd ks))).j else .empty) with
       | .live B=>match Z[B]? with
        |some (_,y')=>do pure (if <-isSame y' y then some B else none)
        |none=>pure none
       |_=>pure none
      match F with
      |none=>rule "set.search.anew";setSearchFrom a (.ref b) (tupleKeyHash knd ks) true fuel none
      |some B=>if equal then return .there (some B) else setSearchFrom a (.ref b) (tupleKeyHash knd ks) true fuel (some (it t.mask (k+1+n) (a_ t.mask (tupleKeyHash knd ks))))) Q E s:=by
     rw[r i x p]
     dsimp only
     refine wpAny_bind (wpAny_holding (wpAny_eqBool_tuple hu Y hk ?_))
     refine wpAny_bind (wpAny_setState_of ho hd hf ?_)
     dsimp only
     by_cases z:x.1=ks
     .rw[decide_eq_true z]
      simp only[Bool.and_self,if_true]
      exact wpAny_pure (R (mem_map.mpr ⟨x,mem_of_getElem? p,z⟩))
     .rw[decide_eq_false z]
      simp only[Bool.and_false,false_eq_true,if_false]
      have es1:t.sameMemory t.moves t.mask=some true:=by unfold SetTable.sameMemory;rw[if_pos (by simp)]
      rw[es1]
      dsimp only
      rw[if_pos rfl,zT T.rs hi]
      dsimp only
      rw[r i x p]
      dsimp only
      refine wpAny_bind (wpAny_isSame_ref_self ?_)
      refine wpAny_bind (wpAny_pure ?_)
      simp only[if_true]
      refine ih (N - (k+1+n)) (by omega) fuel (k+1+n) _ rfl (by omega) (by omega) rfl λq hq B g G l=> ?_
      by_cases z1:q<n
      .exact L q z1 B g G l
      .by_cases z2:q=k+n
       .rw[z2] at g
        have:=qh T.rs hi g
        rw[<-this,p] at l
        cases l
        exact z
       .intro z3
        refine D (q - n) (by omega) B ?_ ?_
        .rw[C,show q - n+n=q by omega];exact g
        .rw[r B G l,z3];rfl
    split
    .refine wpAny_bind (seen hk (λy hy=> ?_) ?_)
     .obtain⟨e1,E2,rfl⟩:=mem_map.mp hy
      have O:e1∈es.toList:=by
       have:e1∈(es.filter (λx=>x.1==tupleKeyHash knd ks)).toList:=E2
       rw[Array.toList_filter] at this
       exact(mem_filter.mp this).1
      rw[H] at O
      obtain⟨G,l,rfl⟩:=mem_map.mp O
      exact⟨G.1,G.2,rfl,I G l⟩
     .simp only[false_eq_true,if_false]
      exact main
    .exact main
end
theorem vj{α β:Type}{f:α->Option β}{g:α->β}:∀{l:List α},(∀x∈l,f x=some (g x))->l.filterMap f=l.map g
 |[],_=>rfl
 |x::l,h=>by
  rw[filterMap_cons,h x mem_cons_self,map_cons,<-vj λy a=>h y (mem_cons_of_mem _ a)]
theorem JA{α:Type}(l:List α)(d:α):(range l.length).map (λi=>l.getD i d)=l:=by
 refine List.ext_getElem (by simp) λi h1 h2=>?_;simp[getD_eq_getElem?_getD,getElem?_eq_getElem h2]
theorem Tb.fits{t:SetTable}{hs:List Int}(T:Tb t hs):t.fits hs.length=true:=by
 unfold SetTable.fits SetTable.fill;rw[T.dm];have:=T.ro;have:=T.sz;simp;omega
theorem Tb.GR{t t':SetTable}{hs:List Int}(T:Tb t hs)(h1:t'.place=t.place)(h2:t'.dummies=t.dummies)(a:t'.mask=t.mask):Tb t' hs:=by
 obtain⟨m,p,d,f,l,v,q⟩:=t;obtain⟨b,c,d',f',e,g,h⟩:=t';cases h1;cases h2;cases a;exact⟨T.rs,T.dm,T.le,T.cy,T.sz,T.ro,T.pa⟩
section
variable{prog:Program}{w:World}{K:Type}[DecidableEq K]
abbrev ent(knd:KeyKind prog w K)(x:List K×Addr):Int×Value:=(tupleKeyHash knd x.1,Value.ref x.2)
def TX(knd:KeyKind prog w K)(h:Heap)(a:Addr)(h_:List (List K×Addr)):Prop:=
 ∃o ep t es,h.get? a=some o/\o.ExactSet/\o.data=.set es ep t/\es.toList=h_.map (ent knd)/\(∀x∈h_,IsTupleKey knd h x.1 x.2)/\(h_.map (·.1)).Nodup/\
  t.led=(!w.params.followText "set-order")/\Tb t (h_.map λx=>tupleKeyHash knd x.1)/\((t.mask=7/\h_.length<=4)\/(t.mask=31/\h_.length<=18))
variable{knd:KeyKind prog w K}{A:Around}{E:aj}{s:Shared}
theorem qo{h h':Heap}{ks:List K}{b a:Addr}{o:Obj}{es ep t}(x:IsTupleKey knd h ks b)(f:h.get? a=some o)(hd:o.data=.set es ep t)(hs:SameBut a h h'):IsTupleKey knd h' ks b:=by
 obtain⟨o',items,n,d,hc,c,hi⟩:=x;have e:b≠a:=by
  rintro rfl;obtain rfl:o'=o:=Option.some.inj (d.symm.trans f);rw[hd] at c;exact nomatch c
 exact⟨o',items,n,(hs.2 b e).trans d,hc,c,hi⟩
theorem add {a b : Addr} {ks : List K} {d : List (List K × Addr)} {Q : Bool → Shared → Prop} (hu : A.units < cLine) (hS : TX knd s.heap a d) (hk : IsTupleKey knd s.heap ks b) (hroom : d.length + 1 ≤ 18)
    (h : ∀ h' r bb, SameBut a s.heap h' → TX knd h' a r → (ks ∈ d.map (·.1) → r = d) → (ks ∉ d.map (·.1) → r.Perm (d ++ [(ks, b)])) → Q bb { s with heap := h' }) :
    wpAny (model prog w) A (setAddHashed a (.ref b) (tupleKeyHash knd ks)) Q E s := by
  have gz := hS
  obtain ⟨o, ep, t, es, L, hex, hd, M, P, hnd, I, T, Y⟩ := hS
  have hsz : es.size = d.length := by rw [← length_toList, M, length_map]
  have hf : t.fits es.size = true := by rw [hsz]; have := T.fits; rwa [length_map] at this
  have v8 : t.place.size = d.length := by rw [T.sz, length_map]
  unfold setAddHashed setAddHashedIn
  refine wpAny_holding (wpAny_bind (wpAny_setState_of L hd hf ?_))
  dsimp only
  rw [show byScan (.ref b) es = false from rfl]
  simp only [false_eq_true, if_false]
  obtain ⟨N, vS, hN, hl⟩ := T.free (iK t.mask (tupleKeyHash knd ks))
  unfold setSearch
  have MC : N < 100000 := by
    have : SetTable.turns t.mask ≤ 46 := by unfold SetTable.turns; rcases Y with z | z <;> omega
    omega
  refine wpAny_bind (search hu L hd hf M P T hk hN hl vS (fun hin => ?_) (fun u => ?_) (N - 0) 100000 0 none rfl (zero_le _) (by omega) rfl fun q hq => absurd hq (not_lt_zero _))
  · refine wpAny_pure ?_
    have e : s = { s with heap := s.heap } := by cases s; rfl
    rw [e]
    exact h s.heap d _ (SameBut.refl a s.heap) gz (fun _ => rfl) fun z => absurd hin z
  · dsimp only
    refine wpAny_bind (wpAny_setState_of L hd hf ?_)
    dsimp only
    have Z := T.put hN hl (by rcases Y with z | z <;> omega)
    generalize hj : (it t.mask N (a_ t.mask (tupleKeyHash knd ks))).j = j at Z ⊢
    have e1 : (t.put j).1.mask = t.mask := rfl
    have e2 : (t.put j).1.led = t.led := rfl
    have DA : (t.put j).1.place.size = d.length + 1 := by
      have := Z.sz
      simp only [length_append, length_take, length_cons, length_drop, length_map] at this
      omega
    generalize v : d.take (t.put j).2 ++ ((ks, b) :: d.drop (t.put j).2) = c
    have hk1 : (d.map fun x => tupleKeyHash knd x.1).take (t.put j).2 ++ (tupleKeyHash knd ks :: (d.map fun x => tupleKeyHash knd x.1).drop (t.put j).2) = c.map fun x => tupleKeyHash knd x.1 := by
      rw [← v, map_append, map_cons, map_take, map_drop]
    rw [hk1] at Z
    have B : c.Perm (d ++ [(ks, b)]) := by
      rw [← v]
      refine List.perm_middle.trans ?_
      rw [List.take_append_drop]
      exact (List.perm_append_singleton _ _).symm
    have l : (SetTable.insertAt es (t.put j).2 (tupleKeyHash knd ks, Value.ref b)).toList = c.map (ent knd) := by
      rw [we, M, ← v, map_append, map_cons, map_take, map_drop]
    have G : c.length = d.length + 1 := by rw [B.length_eq, length_append, length_singleton]
    have J : (c.map (·.1)).Nodup := by
      refine (B.map _).nodup_iff.mpr ?_
      rw [map_append]
      refine nodup_append.mpr ⟨hnd, by simp, fun y hy z hz => ?_⟩
      have hz' : z = ks := by simpa using hz
      rw [hz']
      rintro rfl
      exact u hy
    have g : (SetTable.insertAt es (t.put j).2 (tupleKeyHash knd ks, Value.ref b)).size = d.length + 1 := by rw [← length_toList, l, length_map, G]
    have fin : ∀ t1 : SetTable, t1.place = (t.put j).1.place → t1.dummies = (t.put j).1.dummies → t1.mask = t.mask → t1.led = t.led →
        wpAny (model prog w) A (do
          storeSet a (SetTable.insertAt es (t.put j).2 (tupleKeyHash knd ks, .ref b)) t1
          if (!false && t1.tooFull) = true then do
            setRelay a (SetTable.grown (es.size + 1))
            pure true
          else pure true) Q E s := fun t1 q1 q2 q3 q4 => by
      have T2 : Tb t1 (c.map fun x => tupleKeyHash knd x.1) := Z.GR q1 q2 q3
      refine wpAny_bind (wpAny_storeSet_of L hd ?_ (fits_of_scanBound (by rw [g]; unfold scanBound; omega)))
      generalize hE : SetTable.insertAt es (t.put j).2 (tupleKeyHash knd ks, Value.ref b) = f at l g
      have C : (s.heap.update a (Obj.putSet f t1)).get? a = some { o with data := .set f (ep + 1) t1 } := by
        have := get?_update_self (Obj.putSet f t1) L (by rw [putSet_of f t1 hd]; rfl)
        rw [putSet_of f t1 hd] at this; exact this
      have m := SameBut.update s.heap a (Obj.putSet f t1)
      have R : ∀ x ∈ c, IsTupleKey knd (s.heap.update a (Obj.putSet f t1)) x.1 x.2 := fun x hx => by
        rcases mem_append.mp (B.mem_iff.mp hx) with z | z
        · exact qo (P x z) L hd m
        · rw [mem_singleton.mp z]; exact qo hk L hd m
      have O : t1.tooFull = decide ((d.length + 1) * 5 ≥ t.mask * 3) := by
        unfold SetTable.tooFull SetTable.fill
        rw [T2.dm, q1, DA, q3]; rfl
      rw [O]
      by_cases hz : (d.length + 1) * 5 ≥ t.mask * 3
      · have h7 : t.mask = 7 ∧ d.length = 4 := by rcases Y with z | z <;> omega
        rw [decide_eq_true hz]
        simp only [Bool.not_false, Bool.and_self, if_true]
        have eg : SetTable.grown (es.size + 1) = 20 := by rw [hsz, h7.2]; rfl
        rw [eg]
        unfold setRelay
        have hf1 : t1.fits f.size = true := by rw [g]; have := T2.fits; rwa [length_map, G] at this
        refine wpAny_bind (wpAny_bind (wpAny_setState_of C rfl hf1 ?_))
        dsimp only
        rw [show SetTable.sizeAbove 20 = 32 from by decide +kernel, if_neg (by rw [sizeLine_eq]; omega)]
        obtain ⟨H, k, el, em, Dm, _, S, T3⟩ := GH B7 (hs := f.map (·.1)) (by rw [size_map, g]; omega) t1.finger (t1.movedTo 31) t1.led t1.plain
        have er : t1.relaid (f.map (·.1)) 20 = some (H, k) := by
          unfold SetTable.relaid
          rw [show SetTable.sizeAbove 20 - 1 = 31 from by decide +kernel]
          exact el
        rw [er]
        have hio : ∀ i, i ∈ k.toList → i < c.length := fun i hi => by
          have := mem_range.mp (S.mem_iff.mp hi)
          rw [size_map, g] at this
          omega
        have U : ∀ i, i ∈ k.toList → f[i]? = some (ent knd (c.getD i ([], b))) := fun i hi => by
          have := hio i hi
          rw [← getElem?_toList, l, getElem?_map, getD_eq_getElem?_getD, getElem?_eq_getElem this]
          rfl
        have n : (k.filterMap (f[·]?)).toList = (k.toList.map fun i => c.getD i ([], b)).map (ent knd) := by
          rw [Array.toList_filterMap, vj U, map_map]; rfl
        have D : (k.toList.map fun i => c.getD i ([], b)).Perm c := by
          have := S.map fun i => c.getD i ([], b)
          rw [size_map, g, ← G, JA] at this
          exact this
        have V : (k.toList.map fun i => c.getD i ([], b)).length = d.length + 1 := by rw [D.length_eq, G]
        have F : (k.filterMap (f[·]?)).size = d.length + 1 := by rw [← length_toList, n, length_map, V]
        have T4 : Tb H ((k.toList.map fun i => c.getD i ([], b)).map fun x => tupleKeyHash knd x.1) := by
          have e : (k.toList.map fun i => c.getD i ([], b)).map (fun x => tupleKeyHash knd x.1) = k.toList.map fun i => (f.map (·.1)).getD i 0 := by
            rw [map_map]
            refine map_congr_left fun i hi => ?_
            rw [getD_eq_getD_getElem?, Array.getElem?_map, U i hi]
            rfl
          rw [e]; exact T3
        generalize ME : (k.toList.map fun i => c.getD i ([], b)) = W at n D V T4
        generalize EO : k.filterMap (f[·]?) = p at n F
        refine wpAny_bind ?_
        show wpAny _ _ (if ((k.filterMap (f[·]?)).size != f.size) = true then _ else pure (k.filterMap (f[·]?), H)) _ _ _
        rw [EO, F, g, if_neg (by simp)]
        refine wpAny_pure ?_
        refine wpAny_storeSet_of C rfl ?_ (fits_of_scanBound (by rw [F]; unfold scanBound; omega))
        have qg : ((s.heap.update a (Obj.putSet f t1)).update a (Obj.putSet p H)).get? a = some { o with data := .set p (ep + 1 + 1) H } := by
          have := get?_update_self (Obj.putSet p H) C (by rw [putSet_of (ep := ep + 1) (t := t1) p H rfl]; rfl)
          rw [putSet_of (ep := ep + 1) (t := t1) p H rfl] at this; exact this
        have X := m.trans (SameBut.update (s.heap.update a (Obj.putSet f t1)) a (Obj.putSet p H))
        refine wpAny_pure (h _ W true X ⟨_, _, _, _, qg, hex, rfl, n, fun x hx => ?_, (D.map _).nodup_iff.mpr J, by rw [Dm, q4]; exact I, T4, .inr ⟨em, by omega⟩⟩ (fun z => absurd z u) fun _ => D.trans B)
        exact qo (R x (D.mem_iff.mp hx)) C rfl (SameBut.update _ a _)
      · rw [decide_eq_false hz]
        simp only [Bool.and_false, false_eq_true, if_false]
        refine wpAny_pure (h _ c true m ⟨_, _, _, _, C, hex, rfl, l, R, J, by rw [q4]; exact I, T2, ?_⟩ (fun z => absurd z u) fun _ => B)
        rw [q3]
        rcases Y with z | z <;> omega
    split
    · refine wpAny_bind (hbv hk fun bv => ?_)
      cases bv with
      | true => exact fin _ rfl rfl rfl rfl
      | false => exact fin { (t.put j).1 with plain := false } rfl rfl rfl rfl
    · refine wpAny_bind (wpAny_pure ?_)
      exact fin _ rfl rfl rfl rfl
end
open SS
def gu(w:World)(h:Heap)(a:Addr)(es:Array (Int×Value)):Prop:=
 ∃o ep t,h.get? a=some o/\o.ExactSet/\o.data=.set es ep t/\es.size<scanBound/\t.fits es.size=true/\t.led=(!w.params.followText "set-order")/\SR.Rs t.place
theorem gu.keeps{w:World}{h h':Heap}{a:Addr}{es:Array (Int×Value)}(S:gu w h a es)(k:∀o,h.get? a=some o->h'.get? a=some o):gu w h' a es:=by
 obtain⟨o,ep,t,b,r⟩:=S;exact⟨o,ep,t,k o b,r⟩
section
variable{prog:Program}{w:World}{K:Type}[DecidableEq K]{knd:KeyKind prog w K}
theorem TX.y{h:Heap}{a:Addr}{b:List (List K×Addr)}(S:TX knd h a b):∃es,es.toList=b.map (ent knd)/\gu w h a es:=by
 obtain⟨o,ep,t,es,e,hex,hd,c,f,g,d,T,j⟩:=S;have hsz:es.size=b.length:=by rw[<-length_toList,c,length_map]
 have i:t.fits es.size=true:=by rw[hsz];have:=T.fits;rwa [length_map] at this
 exact⟨es,c,o,ep,t,e,hex,hd,by rw[hsz];unfold scanBound;omega,i,d,T.rs⟩
theorem TX.keeps{h h':Heap}{a:Addr}{c:List (List K×Addr)}(S:TX knd h a c)(k:∀b o,h.get? b=some o->(b=a\/∃x∈c,x.2=b)->h'.get? b=some o):TX knd h' a c:=by
 obtain⟨o,ep,t,es,i,hex,hd,d,e,r⟩:=S;refine⟨o,ep,t,es,k a o i (.inl rfl),hex,hd,d,λx g=>?_,r⟩;obtain⟨o',items,n,f,q⟩:=e x g;exact⟨o',items,n,k _ _ f (.inr ⟨x,g,rfl⟩),q⟩
end
section
variable{prog:Program}{w:World}{A:Around}{E:aj}{s:Shared}{it a:Addr}{es:Array (Int×Value)}{ep:Nat}{t:SetTable}
theorem qm{Q:aj}(B:gu w s.heap a es)
  (h:∀(h':Heap) (d:Drawn) (it:Addr) (zs:List Value) (fp:List Addr) (St:Nat->Heap->Prop),zs.Perm (es.toList.map (·.2))->(∀A':Around,A'.handled=none->Walks prog w A' it fp [it] zs.length (λi v=>zs[i]?=some v) St)->St 0 h'->
   it∈fp->(∀b∈fp,b=a\/s.heap.objs.size<=b)->(∀b∈fp,b<h'.objs.size)->s.heap.objs.size<=it->(∀b o,s.heap.get? b=some o->h'.get? b=some o)->Q (.ref it) {s with heap:=h',drawn:=d}):wpAny (model prog w) A (pyIter (.ref a)) Q E s:=by
 obtain⟨o,ep,t,f,hex,hd,C,g,k,x⟩:=B;have y:s.TypeIs (.ref a) "set":=⟨o,f,hex.1⟩;have alt:a<s.heap.objs.size:=lt_size f;refine wpAny_pyIter_slot y nP (wpAny_call_entry nP y u9 ?_ (tH _));show wpAny _ _ (Builtin.Frozenset.sizeOf a>>=_) _ _ s;unfold Builtin.Frozenset.sizeOf;refine wpAny_bind (wpAny_bind (wpAny_setEntries_of f hd g (wpAny_pure ?_)));refine wpAny_bind ?_;unfold setDrawn;refine wpAny_bind (wpAny_setState_of f hd g ?_);dsimp only;refine wpAny_bind (iU (wpAny_pure ?_));show wpAny _ _ (if (!w.params.followText "set-order"&&(!t.plain&&decide (es.size>1)))=true then _ else _) _ _ _;by_cases hc:(!w.params.followText "set-order"&&(!t.plain&&decide (es.size>1)))=true
 .rw[if_pos hc]
  refine wpAny_bind (pO _ _ _ _ (by simp) λys d j=>?_);unfold newTuple;have hsz:sizeOk (.seq ((ys.map λ(i:Nat)=>rawInt i).toArray) 0):=by
   show((ys.map λ(i:Nat)=>rawInt i).toArray).size<=sizeLine;rw[size_toArray,length_map,j.length_eq,length_range];exact fits_of_scanBound C
  refine wpAny_bind (wpAny_newObj_type ?_ hsz);have l:=λb o (e:s.heap.get? b=some o)=>get?_push_of_some {cls:=.type "tuple",data:=.seq ((ys.map λ(i:Nat)=>rawInt i).toArray)} e;have m:=l a o f;refine wpAny_bind (wpAny_setEpoch_of m hd g ?_);refine wpAny_bind (wpAny_newObj_type (wpAny_pure ⟨_,rfl,"set_iterator",_,⟨_,get?_push_size _ rfl,rfl⟩,slot_next.lookup,?_⟩) (by size_fits));have ne1:a≠(s.heap.push {cls:=.type "tuple",data:=.seq ((ys.map λ(i:Nat)=>rawInt i).toArray)}).objs.size:=by rw[size_push];exact ne_of_lt (lt_succ_of_lt alt)
  have ne2:s.heap.objs.size≠(s.heap.push {cls:=.type "tuple",data:=.seq ((ys.map λ(i:Nat)=>rawInt i).toArray)}).objs.size:=by rw[size_push];exact ne_of_lt (lt_succ_self _)
  refine h _ d _ (ys.map λp=>((es[p]?).getD (0,.none)).2) [_,a,s.heap.objs.size] _ (ya j) (λA' n=>Aq (t:=t) (ep:=ep) n ne1 ne2 j) ⟨⟨_,get?_push_size _ rfl,rfl,rfl⟩,⟨o,get?_push_of_some _ m,hd,g⟩,⟨_,_,get?_push_of_some _ (get?_push_size _ rfl),rfl⟩⟩ (by simp) (λb c=>by
   simp only[mem_cons,not_mem_nil,or_false] at c;rcases c with z|z|z
   .exact .inr (by rw[z,size_push];exact le_succ _)
   .exact .inl z
   .exact .inr (by rw[z];exact le_refl _)) (λb c=>?_) (by rw[size_push];exact le_succ _) λb o e=>get?_push_of_some _ (l b o e)
  rw[size_push,size_push];simp only[mem_cons,not_mem_nil,or_false] at c;rcases c with z|z|z
  .rw[z,size_push];exact lt_succ_self _
  .rw[z];exact lt_succ_of_lt (lt_succ_of_lt alt)
  .rw[z];exact lt_succ_of_lt (lt_succ_self _)
 .rw[if_neg hc]
  refine wpAny_bind (wpAny_pure ?_);refine wpAny_bind (wpAny_setEpoch_of f hd g ?_);refine wpAny_bind (wpAny_newObj_type (wpAny_pure ⟨_,rfl,"set_iterator",_,⟨_,get?_push_size _ rfl,rfl⟩,slot_next.lookup,?_⟩) (by size_fits));have ne1:a≠s.heap.objs.size:=ne_of_lt alt;have q:∀b∈[s.heap.objs.size,a],b<(s.heap.push {cls:=.type "set_iterator",data:=.fields [rawInt 0,rawInt 0,.ref a,rawInt (es.size:Nat),rawInt (ep:Nat)].toArray}).objs.size:=λb c=>by
   rw[size_push];simp only[mem_cons,not_mem_nil,or_false] at c;rcases c with z|z
   .rw[z];exact lt_succ_self _
   .rw[z];exact lt_succ_of_lt alt
  have r:∀b∈[s.heap.objs.size,a],b=a\/s.heap.objs.size<=b:=λb c=>by
   simp only[mem_cons,not_mem_nil,or_false] at c;rcases c with z|z
   .exact .inr (by rw[z];exact le_refl _)
   .exact .inl z
  cases u:w.params.followText "set-order" with
  |true=>
   exact h _ s.drawn _ ((pickOrder (w.params.setOrder a ep) es).toList.map (·.2)) [_,a] _ ((ye _ es).map _) (λA' n=>As (t:=t) u n ne1) ⟨⟨_,get?_push_size _ rfl,rfl,rfl⟩,⟨o,get?_push_of_some _ f,hd,g⟩⟩ (by simp) r q (le_refl _) λb o e=>get?_push_of_some _ e
  |false=>
   have D:(!t.plain&&decide (es.size>1))=false:=by
    rw[u] at hc;simpa using hc
   have F:t.led=true:=by rw[k,u];rfl
   exact h _ s.drawn _ (es.toList.map (·.2)) [_,a] _ (.refl _) (λA' n=>SI.L_ (t:=t) (ep:=ep) u F D g x n ne1) ⟨⟨_,get?_push_size _ rfl,rfl,rfl⟩,⟨o,get?_push_of_some _ f,hd,g⟩⟩ (by simp) r q (le_refl _) λb o e=>get?_push_of_some _ e
theorem pA{Q:List Value->Shared->Prop}(J:A.handled=none)(B:gu w s.heap a es)
  (N:∀(h':Heap) (d:Drawn) (tk:Nat) (zs:List Value),zs.Perm (es.toList.map (·.2))->s.heap.objs.size<=h'.objs.size->(∀b o,s.heap.get? b=some o->h'.get? b=some o)->Q zs {s with heap:=h',drawn:=d,toks:=tk}):
  wpAny (model prog w) A (collect (.ref a)) Q E s:=by
 have alt:a<s.heap.objs.size:=by obtain⟨o,_,_,C,_⟩:=B;exact lt_size C
 have O:es.size<scanBound:=by obtain⟨_,_,_,_,_,_,f,_⟩:=B;exact f
 unfold collect;refine wpAny_bind (wpAny_runValue (codeAny_builtin PySem.F.entry_proto_collect ?_));rw[Around.under_plainId PySem.F.plain_proto_collect _];show wpAny _ A.in1 (newList []>>=λl=>again (.builtin "list.__iadd__" ⟨[l,.ref a],[]⟩)) _ _ s;refine wpAny_bind (wpAny_newObj_type ?_);refine wpAny_pure ⟨plainId_quiet plain_list_iadd _,codeAny_builtin PySem.F.entry_list_iadd ?_⟩;rw[Around.under_plainId plain_list_iadd _];have i:gu w (s.heap.push {cls:=.type "list",data:=.seq ([]:List Value).toArray}) a es:=B.keeps λo e=>get?_push_of_some _ e;have v:∀{s':Shared},gu w s'.heap a es->s'.TypeIs (.ref a) "set":=λ {s'} x=>by obtain⟨o,_,_,C,hex,_⟩:=x;exact⟨o,C,hex.1⟩
 show wpAny _ A.in1 (Builtin.List.listExtendWith (.ref s.heap.objs.size) (.ref a) (.ref s.heap.objs.size)) _ _ _;unfold Builtin.List.listExtendWith;refine wpAny_bind (wpAny_typeOf (v (s':={s with heap:=s.heap.push {cls:=.type "list",data:=.seq ([]:List Value).toArray}}) i) ?_);have h1:Builtin.List.listSameRef (.ref s.heap.objs.size) (.ref a)=false:=by simp[Builtin.List.listSameRef,ne_of_gt alt]
 have h2:(Value.type "set" ==Value.type "list")=false:=by decide
 have P:(Value.type "set" ==Value.type "tuple")=false:=by decide
 simp only[h1,h2,P,Bool.or_false,false_eq_true,if_false];refine wpAny_bind (qm (s:={s with heap:=s.heap.push {cls:=.type "list",data:=.seq ([]:List Value).toArray}}) i λh2 d it zs fp St m W D hit G R n k2=>?_);have k:gu w h2 a es:=i.keeps λo e=>k2 _ _ e;refine wpAny_bind (wpAny_holding ?_);unfold Builtin.List.listLengthHint;refine wpAny_bind (wpAny_specialOf (v (s':={s with heap:=h2,drawn:=d}) k) slot_set_len.lookup ?_);dsimp only;have g:splitId "set.__len__"=some ("set","__len__"):=by decide+kernel
 rw[g];dsimp only;refine wpAny_bind (wpAny_isInstance (v (s':={s with heap:=h2,drawn:=d}) k) sub_set_self ?_);simp only[Bool.not_true,false_eq_true,if_false];rw[if_pos (by decide+kernel)];refine wpAny_bind (wpAny_typeOf (v (s':={s with heap:=h2,drawn:=d}) k) ?_);refine wpAny_pure ?_;rw[if_pos (by decide+kernel)];refine wpAny_bind (wpAny_rule ?_);have S:(s.heap.push {cls:=.type "list",data:=.seq ([]:List Value).toArray}).get? s.heap.objs.size=some {cls:=.type "list",data:=.seq ([]:List Value).toArray}:=get?_push_size _ rfl;have K:=k2 _ _ S;have p:s.heap.objs.size∉fp:=λz=>by
  rcases G _ z with e|e
  .exact absurd alt (by rw[<-e];exact lt_irrefl _)
  .rw[size_push] at e
   exact absurd e (Nat.not_succ_le_self _)
 have q:s.heap.objs.size<it:=by rw[size_push] at n;exact n
 refine wpAny_bind ?_;show wpAny _ A.in1 (updateSeq s.heap.objs.size (·.push .none)>>=λ_=>updateSeq s.heap.objs.size (·.pop)) _ _ _;refine wpAny_bind (wpAny_updateSeq K rfl ?_);have L2:=get?_update_self (Obj.mapSeq (·.push Value.none)) K rfl;refine wpAny_updateSeq L2 rfl ?_;have T:=get?_update_self (Obj.mapSeq (·.pop)) L2 rfl;have r:∀b o,b≠s.heap.objs.size->h2.get? b=some o->((h2.update s.heap.objs.size (Obj.mapSeq (·.push Value.none))).update s.heap.objs.size (Obj.mapSeq (·.pop))).get? b=some o:=
  λb o f e=>(get?_update_other _ _ (Ne.symm f)).trans ((get?_update_other _ _ (Ne.symm f)).trans e)
 have U:=(W A.in1 J).toS;have V:zs.length<=sizeLine:=by rw[m.length_eq,length_map,length_toList];exact fits_of_scanBound O
 refine wpAny_pure ⟨plainId_quiet PySem.F.plain_extend_loop _,codeAny_extend_loopS U V _ p _ zs.length 0 _ _ _ rfl (zero_le _) ((W A.in1 J).frame 0 _ _ D λb f o e=>r b o (λz=>p (z▸f)) e) T (ItemsOf.nil _) λs' c c' y t h=>?_⟩;show wpAny _ A (load s.heap.objs.size>>=_) _ _ s';refine wpAny_bind (wpAny_load t ?_);have u:c.toList=zs:=by
  apply ext_getElem?;intro j;rw[getElem?_toList];by_cases L:j<c.size
  .have M:c[j]?=some (c[j]'L):=Array.getElem?_eq_getElem L
   rw[M];exact(h.2 j _ M).symm
  .rw[Array.getElem?_eq_none (by omega),getElem?_eq_none (by rw[<-h.1];omega)]
 obtain⟨h',g',d',H,I⟩:=s';have X:g'=s.gens:=y.gens;have Y:d'=d:=y.drawn;have Z:I=s.os:=y.os;subst X;subst Y;subst Z;refine wpAny_pure ?_;show Q c.toList _;rw[u];have kp:∀b o,s.heap.get? b=some o->h'.get? b=some o:=λb o e=>by
  have f:b<s.heap.objs.size:=lt_size e;refine y.heap b o ?_ (r b o (ne_of_lt f) (k2 _ _ (get?_push_of_some _ e)));simp only[mem_cons,not_mem_nil,or_false,not_or];exact⟨ne_of_lt f,ne_of_lt (lt_trans f q)⟩
 exact N h' d' H zs m (le_of_lt (lt_size t)) kp
end
section
variable{prog:Program}{w:World}{K:Type}[DecidableEq K]{knd:KeyKind prog w K}{A:Around}{R:Result->Shared->Prop}{I:Addr}{fp wr:List Addr}{G:Array GenState->Array GenState->Prop}{n:Nat}{P:Nat->Value->Prop}{St:Nat->Shared->Prop}
theorem mF{h h':Heap}{ks:List K}{b:Addr}(x:IsTupleKey knd h ks b)(k:∀o,h.get? b=some o->h'.get? b=some o):IsTupleKey knd h' ks b:=by
 obtain⟨o',items,n,a,q⟩:=x;exact⟨o',items,n,k _ a,q⟩
theorem loop(W:WalksS prog w A.in1 I fp wr G n P St)(S:Addr)(M:S∉fp)(hu:A.in1.units<cLine)(val:Nat->List K)(adr:Nat->Addr)(N:∀i v,P i v->v=.ref (adr i))(g:∀i,i<n->adr i≠S/\adr i∉wr)(t:n<=18):
  ∀(k i:Nat) (s:Shared) (c:List (List K×Addr)),n - i=k->i<=n->St i s->TX knd s.heap S c->c.length<=i->(∀j,j<n->IsTupleKey knd s.heap (val j) (adr j))->(∀x,x∈c.map (·.1)↔∃j,j<i/\val j=x)->(∀x∈c,∃j,j<n/\x=(val j,adr j))->
   (∀s' d,Moved (S::wr) G s s'->TX knd s'.heap S d->d.length<=n->(∀x,x∈d.map (·.1)↔∃j,j<n/\val j=x)->(∀x∈d,∃j,j<n/\x=(val j,adr j))->R (.ok (.ret .none)) s')->
   codeAny (model prog w) A (.builtin "set.update.loop" ⟨[.ref S,.ref I],[]⟩) R s:=by
 have Y:S∉wr:=λh=>M (W.sub _ h);have u:∀b∈wr,b∈S::wr:=λb t=>mem_cons_of_mem _ t;have l:∀{s s':Shared} {c:List (List K×Addr)},Moved wr G s s'->TX knd s.heap S c->(∀x∈c,∃j,j<n/\x=(val j,adr j))->TX knd s'.heap S c:=λ {s s' c} B O f=>O.keeps λb o e t=>by
  refine B.heap b o ?_ e;rcases t with rfl|⟨x,C,rfl⟩
  .exact Y
  .obtain⟨j,r,rfl⟩:=f x C
   exact(g j r).2
 intro k;induction k with
 |zero=>
  intro i s c hk hi D O hsz Q m f Z;have hin:i=n:=by omega
  subst hin;refine codeAny_builtin F.entry_set_update_loop ?_;rw[Around.under_plainId F.plain_set_update_loop _];show wpAny _ A.in1 (pyNext (.ref I)>>=_) _ _ s;refine wpAny_bind (W.done s _ _ D λs' B=>?_);show wpAny _ A.in1 (ret Value.none) _ _ s';exact wpAny_pure (Z s' c (B.mono u) (l B O f) hsz m f)
 |succ k ih=>
  intro i s c hk hi D O hsz Q m f Z;have p:i<n:=by omega
  refine codeAny_builtin F.entry_set_update_loop ?_;rw[Around.under_plainId F.plain_set_update_loop _];show wpAny _ A.in1 (pyNext (.ref I)>>=_) _ _ s;refine wpAny_bind (W.item i s _ _ p D λv s' hP T B=>?_);obtain rfl:=N i v hP;have hS':TX knd s'.heap S c:=l B O f;have q:∀j,j<n->IsTupleKey knd s'.heap (val j) (adr j):=λj r=>mF (Q j r) λo e=>B.heap _ o (g j r).2 e;show wpAny _ A.in1 (holding [Value.ref (adr i)] (setAdd S (.ref (adr i)))>>=_) _ _ s';refine wpAny_bind (wpAny_holding ?_);unfold setAdd;refine wpAny_holding ?_;refine wpAny_bind (wpAny_pyHash_tuple hu (q i p) ?_);refine add (s:={s' with toks:=s'.toks+((val i).length+1)}) hu hS' (q i p) (by omega) λh' d b E EZ q1 q2=>?_;have U:d.length<=i+1:=by
   by_cases f:val i∈c.map (·.1)
   .rw[q1 f];omega
   .rw[(q2 f).length_eq,length_append,length_singleton];omega
  have C:∀x∈d,∃j,j<n/\x=(val j,adr j):=λx H=>by
   by_cases hc:val i∈c.map (·.1)
   .rw[q1 hc] at H
    exact f x H
   .rcases mem_append.mp ((q2 hc).mem_iff.mp H) with z|z
    .exact f x z
    .exact⟨i,p,mem_singleton.mp z⟩
  have J:∀x,x∈d.map (·.1)↔∃j,j<i+1/\val j=x:=λx=>by
   have e1:x∈d.map (·.1)↔x∈c.map (·.1)\/x=val i:=by
    by_cases f:val i∈c.map (·.1)
    .rw[q1 f]
     exact⟨.inl,λz=>z.elim id λe=>e▸f⟩
    .have hp:=((q2 f).map λe=>e.1).mem_iff (a:=x)
     rw[map_append,mem_append] at hp;refine hp.trans ⟨λz=>z.imp id λy=>by simpa using y,λz=>z.imp id λy=>by simpa using y⟩
   rw[e1,m x];constructor
   .rintro (⟨j,r,e⟩|rfl)
    .exact⟨j,by omega,e⟩
    .exact⟨i,by omega,rfl⟩
   .rintro ⟨j,r,e⟩
    by_cases hji:j=i
    .exact .inr (by rw[<-e,hji])
    .exact .inl ⟨j,by omega,e⟩
  refine wpAny_pure ⟨plainId_quiet F.plain_set_update_loop _,ih (i+1) _ d (by omega) p (W.frame _ s' _ _ T (Nat.le_add_right _ _) λb t o e=>?_) EZ U (λj r=>mF (q j r) λo e=>(E.2 _ (g j r).1).trans e) J C λs'' L V X hz hm2 E9=>?_⟩
  .rw[E.2 b (λh:b=S=>M (by rw[<-h];exact t))];exact e
  .refine Z s'' L (Moved.trans W.gtrans ((B.mono u).then_heap (Nat.le_add_right _ _) λb o t e=>?_) V) X hz hm2 E9
   rw[E.2 b (λh:b=S=>t (by rw[h];exact mem_cons_self))];exact e
end
section
variable{prog:Program}{w:World}{K:Type}[DecidableEq K]{knd:KeyKind prog w K}{A:Around}{E:aj}{s:Shared}
theorem TX.fresh{h:Heap}{a:Addr}(b:h.get? a=some (SS.cA w)):TX knd h a []:=
 ⟨_,_,_,#[],b,⟨rfl,rfl,rfl⟩,rfl,rfl,(λe c=>by simp at c),by simp,rfl,Tb.fresh _ _ _,.inl ⟨rfl,zero_le _⟩⟩
theorem o9{l:Addr}{items:Array Value}{val:Nat->List K}{adr:Nat->Addr}{Q:aj}
  (hh:A.handled=none)(hu:A.units+64<cLine)(hl:s.heap.IsList l items)(hi:∀(i:Nat) (v:Value),items[i]? =some v->v=Value.ref (adr i))(B:∀i,i<items.size->IsTupleKey knd s.heap (val i) (adr i))(O:items.size<=18)
  (h:∀(h':Heap) (tk:Nat) (d:List (List K×Addr)),TX knd h' s.heap.objs.size d->d.length<=items.size->(∀x,x∈d.map (·.1)↔∃j,j<items.size/\val j=x)->(∀x∈d,∃j,j<items.size/\x=(val j,adr j))->
   (∀b o,b<s.heap.objs.size->s.heap.get? b=some o->h'.get? b=some o)->Q (.ref s.heap.objs.size) {s with heap:=h',toks:=tk}):
  wpAny (model prog w) A (call (.type "set") [.ref l]) Q E s:=by
 obtain⟨c,tl,MG⟩:=called_set.mro
 have S:=called_set.made
 have hsub:=called_set.sub
 refine wpAny_call (codeAny_of_tree ?_)
 show wpAny _ _ (callAny (.type "set") _) _ _ _
 refine wpAny_pure ⟨Code.quiet_builtin _ (by decide+kernel),codeAny_builtin PySem.F.entry_type_call ?_⟩
 rw[Around.under_plain (weight_type_call_type "set" [.ref l] []) rfl]
 have h1:=called_set.notType
 have h2:=called_set.canCreate
 have hct:=PySem.F.typeCall_set_1 (.ref l)
 repeat (any_goals (first|assumption|wp_step))
 refine codeAny_mono (SS.code_set_new (.ref l) (E:=E) (Q₁:=λobj k=>obj= .ref s.heap.objs.size/\k={s with heap:=s.heap.push (SS.cA w)}) ⟨rfl,rfl⟩) λr k T=> ?_
 cases r with
 |error e=>exact T
 |ok fl=>
  cases fl with
  |ret obj=>
   obtain⟨rfl,rfl⟩:=T
   have hS:(s.heap.push (SS.cA w)).get? s.heap.objs.size=some (SS.cA w):=get?_push_size _ rfl
   have hT:Shared.TypeIs {s with heap:=s.heap.push (SS.cA w)} (.ref s.heap.objs.size) "set":=⟨_,hS,rfl⟩
   have hli:=called_set.init.lookup
   have hbi:=called_set.init.bind (.ref s.heap.objs.size)
   repeat (any_goals (first|assumption|wp_step))
   refine codeAny_mono (codeAny_call_builtin (R:=wants (λr m=>r= .none/\∃h' tk es,m={s with heap:=h',toks:=tk}/\
     TX knd h' s.heap.objs.size es/\es.length<=items.size/\(∀x,x∈es.map (·.1)↔∃j,j<items.size/\val j=x)/\(∀x∈es,∃j,j<items.size/\x=(val j,adr j))/\
     (∀b o,b<s.heap.objs.size->s.heap.get? b=some o->h'.get? b=some o)) E) called_set.init.plain PySem.F.entry_set_init (check_set_init_1 hT ?_)) λC m a=> ?_
   .obtain⟨ol,D,G,nl,H⟩:=hl
    obtain⟨Hz,n,U,f⟩:=ol
    simp only at G H
    subst G;subst H
    have I:(s.heap.push (SS.cA w)).get? l=some {cls:= .type "list",dict:=n,data:= .seq items nl,slots:=f}:=get?_push_of_some _ D
    have Fi:=sub_list_set
    have Fg:=PySem.F.sub_list_frozenset
    have hne:(Value.type "list" ==Value.type "dict")=false:=by decide
    have J:(s.heap.push (SS.cA w)).IsList l items:=⟨_,I,rfl,nl,rfl⟩
    unfold Builtin.«set.__init__» noKeywords Builtin.Frozenset.updateFrom
    generalize V:pyIter=PI
    wp_walk
    subst V
    refine wpAny_pyIter_list J ?_
    refine wpAny_bind (wpAny_runValue ?_)
    have L:l<s.heap.objs.size:=lt_size D
    have W:A.in1.in1.in1.handled=none:=by simp[hh]
    have M:l≠(s.heap.push (SS.cA w)).objs.size:=by
     rw[size_push];exact ne_of_lt (lt_succ_of_lt L)
    have X:s.heap.objs.size∉[(s.heap.push (SS.cA w)).objs.size,l]:=by
     rw[size_push];simp only[mem_cons,mem_singleton,not_mem_nil,or_false,not_or]
     exact⟨ne_of_lt (lt_succ_self _),ne_of_gt L⟩
    have N:∀i,i<items.size->adr i≠s.heap.objs.size/\adr i∉[(s.heap.push (SS.cA w)).objs.size]:=λi Y=>by
     obtain⟨o,_,_,g,_⟩:=B i Y
     have:=lt_size g
     rw[size_push,mem_singleton]
     exact⟨ne_of_lt this,ne_of_lt (lt_succ_of_lt this)⟩
    refine loop ((Walks.list W _ l M items).toS) s.heap.objs.size X (show A.units+3<cLine by omega) val adr (λi v hv=>hi i v hv) N O (items.size - 0) 0 _ [] (by omega) (zero_le _)
     ⟨⟨_,get?_push_size _ rfl,rfl,rfl⟩,(J.push _)⟩ ?gz (le_refl _) (λj Z=>mF (B j Z) λo e=>get?_push_of_some _ (get?_push_of_some _ e)) (λx=>⟨λz=>by simp at z,λ⟨j,Z,_⟩=>absurd Z (not_lt_zero _)⟩) (λx hx=>by simp at hx) ?hR
    case gz=>exact TX.fresh (get?_push_of_some _ hS)
    case hR=>
     intro s' es' P p q t u
     obtain⟨h',g',d',tk',os'⟩:=s'
     have eg:g'=s.gens:=P.gens
     have ed:d'=s.drawn:=P.drawn
     have eo:os'=s.os:=P.os
     subst eg;subst ed;subst eo
     show wpAny _ _ _ _ _ _
     refine wpAny_pure ?_
     show wpAny _ _ (ret Value.none) _ _ _
     refine wpAny_pure ⟨rfl,h',tk',es',rfl,p,q,t,u,λb o O e=> ?_⟩
     have hb1:b≠s.heap.objs.size:=ne_of_lt O
     have hb2:b≠(s.heap.push (SS.cA w)).objs.size:=by
      rw[size_push];exact ne_of_lt (lt_succ_of_lt O)
     exact P.heap b o (by simp only[mem_cons,mem_singleton,not_mem_nil,or_false,not_or];exact⟨hb1,hb2⟩) (get?_push_of_some _ (get?_push_of_some _ e))
   .cases C with
    |error e=>exact a
    |ok y=>
     cases y with
     |ret r=>
      obtain⟨rfl,h',tk,es,rfl,p,q,t,u,hk'⟩:=a
      repeat (any_goals (first|assumption|wp_step))
      exact h _ _ es p q t u hk'
     |_=>exact a.elim
  |_=>exact T.elim
end
open PySem.W KO
theorem IM{α β:Type}{f:α->β}{l o:List β}(h:l.Perm o):∀m:List α,o=m.map f->∃k:List α,k.Perm m/\l=k.map f:=by
 induction h with
 |nil=>
  intro m e;cases m with
  |nil=>exact⟨[],.nil,rfl⟩
  |cons=>cases e
 |cons x _ p=>
  intro m e;cases m with
  |nil=>cases e
  |cons a m=>
   obtain⟨h1,h2⟩:=List.cons.inj e;obtain⟨k,c,d⟩:=p m h2;exact⟨a::k,c.cons a,by rw[d,h1];rfl⟩
 |swap x y l=>
  intro m e;match m,e with
  |a::b::m,e=>
   cases e;exact⟨b::a::m,.swap a b m,rfl⟩
 |trans _ _ g i=>
  intro m e;obtain⟨k,c,d⟩:=i m e;obtain⟨q,j,n⟩:=g k d;exact⟨q,j.trans c,n⟩
section
variable{prog:Program}{w:World}{K:Type}[DecidableEq K]{knd:KeyKind prog w K}{A:Around}{E:aj}{s:Shared}
abbrev c6(h_:List (List K×Addr)):List Value:=h_.map λx=>Value.ref x.2
theorem KY{κ:SortKind}{O:KeyOrd}{key:List K->O.α}{a:Addr}{g:List (List K×Addr)}{Q:aj}(v:A.handled=none)(z:TX knd s.heap a g)(r:g.length<64)
  (B:∀c,c.Perm g->∀s':Shared,(∀b o,s.heap.get? b=some o->s'.heap.get? b=some o)->2<=(c6 c).length->∀R:SortKind->Shared->Prop,R κ s'->wpAny (model prog w) A.in1.in1 (keyKind' (c6 c).toArray) R (λ_ _=>False) s')
  (hc:∀c,c.Perm g->∀s':Shared,(∀b o,s.heap.get? b=some o->s'.heap.get? b=some o)->∀i j,i<(c6 c).length->j<(c6 c).length->∀C:Bool->Shared->Prop,C (O.blt (key (c.getD i ([],0)).1) (key (c.getD j ([],0)).1)) s'->kas_ask prog w A.in1.in1 κ (c6 c) i j C s')
  (h:∀(p:Array Nat) (c:List (List K×Addr)) (h':Heap) (d:Drawn) (tk:Nat) (D:Addr) (e:Nat),c.Perm g->Pm (c6 c).length p->Up O (λi=>key (c.getD i ([],0)).1) p (c6 c).length->s.heap.objs.size<=D->
   h'.get? D=some (seqObj "list" (p.toList.map λi=>(c6 c).getD i Value.none).toArray e)->(∀b o,s.heap.get? b=some o->h'.get? b=some o)->Q (.ref D) {s with heap:=h',drawn:=d,toks:=tk}):
  wpAny (model prog w) A (call (.builtin "sorted") [.ref a]) Q E s:=by
 obtain⟨es,t,F⟩:=z.y
 refine Calls.call_function_entry kind_sorted plain_sorted entry_sorted (args_sorted1 _) ?_
 unfold Builtin.«sorted»
 refine wpAny_bind (m:=checkCount "sorted" 1 1 _) (wpAny_pure ?_)
 refine wpAny_bind (pA v F λh1 d tk zs G hsz k1=> ?_)
 obtain⟨c,n,rfl⟩:=IM (f:=λx:List K×Addr=>Value.ref x.2) G g (by rw[t,map_map];rfl)
 have H:(c6 c).length<64:=by rw[length_map,n.length_eq];exact r
 refine wpAny_bind (wpAny_newList ?_)
 have l:(h1.push (seqObj "list" (c6 c).toArray 0)).get? h1.objs.size=some (seqObj "list" (c6 c).toArray 0):=get?_push_size _ rfl
 have keep:∀b o,s.heap.get? b=some o->(h1.push (seqObj "list" (c6 c).toArray 0)).get? b=some o:=λb o q=>get?_push_of_some _ (k1 b o q)
 have ne:∀b o,s.heap.get? b=some o->b≠h1.objs.size:=λb o q=>ne_of_lt (lt_size (k1 b o q))
 show wpAny _ _ _ _ _ {s with heap:=h1.push (seqObj "list" (c6 c).toArray 0),drawn:=d,toks:=tk}
 refine wpAny_bind (wpAny_holding (wpAny_call_entry slot_list_sort ⟨_,l,rfl⟩ entry_list_sort ?body (args_list_sort _)))
 case body=>
  refine KP.wX (κ:=κ) (O:=O) (key:=λi=>key (c.getD i ([],0)).1) (s:={s with heap:=h1.push (seqObj "list" (c6 c).toArray 0),drawn:=d,toks:=tk})
   l H (λs' k=>B c n s' λb o q=>k b o (ne b o q) (keep b o q)) (λs' k=>hc c n s' λb o q=>k b o (ne b o q) (keep b o q)) λp u I=>⟨_,rfl,wpAny_pure ⟨_,rfl,?_⟩⟩
  obtain⟨e,J⟩:=sortedHeap_at (out:=(p.toList.map λi=>(c6 c).getD i Value.none).toArray) l
  refine h p c _ d tk _ e n u I hsz J λb o q=> ?_
  rw[sortedHeap_old (ne b o q) (lt_size (keep b o q))]
  exact keep b o q
end
section
variable{prog:Program}{w:World}
theorem wo{h:Heap}:∀{ks:List Str} {vs:List Value},L2.Vals (ks.map L2.V.str) vs->ItemsAre (PySem.strKind prog w) ks vs
 |[],_,.nil=>.nil
 |k::ks,_,.cons ⟨t,e⟩ r=>by
  subst e;exact .cons (by show Value.isStrOf k (.str k t)=true;simp[Value.isStrOf]) (wo (h:=h) r)
theorem yM{h:Heap}:∀{ks:List Str} {vs:List Value},ItemsAre (PySem.strKind prog w) ks vs->ReadsAll h vs (ks.map PyData.str) []
 |_,_,.nil=>.nil
 |_,_,.cons (k:=k) h1 r=>by
  obtain⟨t,rfl⟩:=Value.isStrOf_shape h1;exact .cons (as:=[]) (.str k t) (yM r)
theorem Gm{h:Heap}{ks:List Str}{b:Addr}(x:IsTupleKey (PySem.strKind prog w) h ks b):Reads h (.ref b) (.tuple (ks.map PyData.str)) []:=by
 obtain⟨o,items,n,a,hc,hd,hi⟩:=x;exact .tuple a hc hd (yM hi)
end
end ST
section
open PySem PySem.Spec PyProof.Rows
namespace L2
open PySem.SeqAt
abbrev tupQ(ks:List Str):PyData:=.tuple (ks.map PyData.str)
theorem wW{α:Type}{f:Nat->α}{n:Nat}:∀{l:List α},(∀x∈l,∃j,j<n/\x=f j)->∃a:List Nat,l=a.map f/\∀j∈a,j<n
 |[],_=>⟨[],rfl,λj h=>by cases h⟩
 |x::l,h=>by
  obtain⟨j,b,e⟩:=h x mem_cons_self;obtain⟨a,c,h2⟩:=wW λy d=>h y (mem_cons_of_mem _ d);exact⟨j::a,by rw[e,c];rfl,λk hk=>by
   rcases mem_cons.mp hk with rfl|hk
   .exact b
   .exact h2 k hk⟩
theorem An:∀(as:List Addr),Vals (as.map V.ref) (as.map Value.ref)
 |[]=>.nil
 |a::as=>.cons rfl (An as)
theorem Ao:∀{as:List Addr} {its:List Value},Vals (as.map V.ref) its->its=as.map Value.ref
 |[],_,.nil=>rfl
 |a::as,_,.cons h r=>by
  cases h;rw[Ao r];rfl
section
variable{X:Cx}
def LJ(K:PySem.W.Frag)(ta:TA):TE:=λσ H Q=>ta σ H λvs H1=>∃(a:Addr) (as:List Addr) (aX:List (List Str)) (O:KeyOrd) (key:List Str->O.α),vs=[.ref a]/\aI K H1 a (as.map V.ref)/\as.length=aX.length/\as.length<=18/\
 (∀i,i<as.length->aN K H1 (as.getD i 0) ((aX.getD i []).map V.str))/\(∀k∈aX,k≠[]/\(tupQ k).canLay0=true/\(tupQ k).depth<=60)/\(∀k∈aX,∀k'∈aX,ltQ (tupQ k) (tupQ k')=some (O.blt (key k) (key k')))/\
 ∀(l:Addr) (p:List Nat),H1 l=none->(∀i∈p,i<as.length)->(p.map λi=>aX.getD i []).Nodup->(∀x,x∈(p.map λi=>aX.getD i [])↔x∈aX)->(p.map λi=>aX.getD i []).Pairwise (λa b=>O.kle (key a) (key b))->
  Q (.ref l) (upd H1 l (.lst (p.map λi=>V.ref (as.getD i 0))))
theorem II{e:Expr}{ta:TA}{p1 p2 pos1 pos2:Pos}(hms:X.mg "sorted"=none)(hmt:X.mg "set"=none)(hc:X.calm=true)(hu:X.A.units+64<cLine)(ha:PA X [e] ta)(hgs:Gl X "sorted":=by rfl)(hgt:Gl X "set":=by rfl)
  (hs:starEach [e] X.env=[(false,eval e X.env)]:=by rfl)(hz:starEach [.Call (.Name "set" p2) [e] [] pos2] X.env=[(false,eval (.Call (.Name "set" p2) [e] [] pos2) X.env)]:=by rfl):
  PE X (.Call (.Name "sorted" p1) [.Call (.Name "set" p2) [e] [] pos2] [] pos1) (LJ X.K ta):=by
 intro pins s σ H Q I h;refine wpAny_Call_Name_kw (gG I hgs hms (show bootBuiltins "sorted"=some (.builtin "sorted") by with_unfolding_all rfl) ?_);refine PyProof.Rows.callWith_builtin1 ?_ hz rfl;rw[hz];refine Calls.spliced_cons (wpAny_Call_Name_kw (gG I hgt hmt (show bootBuiltins "set"=some (.type "set") by with_unfolding_all rfl) (PyProof.Rows.callWith_type1 (au (ha pos2 pins s σ H _ I h) λus s1 ⟨vs,H1,S,r1,q1⟩=>?_) hs rfl)));obtain⟨a,as,aX,O,key,e,hq,hlen,EI,htup,Y,hlt,q⟩:=q1;subst e;obtain⟨u,rfl,ru⟩:=vals1 r1;cases ru;obtain⟨its,rv,pl,Fp⟩:=S.list hq;obtain rfl:=Ao rv;have hsz:(as.map Value.ref).toArray.size=as.length:=by simp
 refine ST.o9 (knd:=PySem.strKind X.prog X.w) (val:=λi=>aX.getD i []) (adr:=λi=>as.getD i 0) (S.ok.hd hc) hu pl.isList (λi v J=>?_) (λi hi=>?_) (by rw[hsz];exact EI) λh2 tk g hS E8 U B m=>?_
 .have J:(as.map Value.ref)[i]?=some v:=by simpa using J
  rw[getElem?_map] at J;cases ea:as[i]? with
  |none=>rw[ea] at J;cases J
  |some b=>
   rw[ea] at J;cases J;rw[getD_eq_getElem?_getD,ea];rfl
 .rw[hsz] at hi
  obtain⟨FZ,JP,⟨o,g1,g2,n,g3⟩,_⟩:=S.tuple (htup i hi);exact⟨o,FZ.toArray,n,g1,g2,g3,ST.wo (h:=s1.heap) JP⟩
 rw[hsz] at E8 U B;have hkk:∀x∈g,IsTupleKey (PySem.strKind X.prog X.w) h2 x.1 x.2:=by obtain⟨_,_,_,_,_,_,_,_,z,_⟩:=hS;exact z
 have hnd:(g.map (·.1)).Nodup:=by obtain⟨_,_,_,_,_,_,_,_,_,z,_⟩:=hS;exact z
 have alt:s1.heap.objs.size<h2.objs.size:=by obtain⟨o,_,_,_,ho,_⟩:=hS;exact lt_size ho
 have D:∀x,x∈g.map (·.1)↔x∈aX:=λx=>by
  rw[U x,hlen];constructor
  .rintro ⟨j,E,rfl⟩
   rw[getD_eq_getElem?_getD,getElem?_eq_getElem E];exact getElem_mem E
  .intro L
   obtain⟨j,E,e⟩:=getElem_of_mem L;exact⟨j,E,by rw[getD_eq_getElem?_getD,getElem?_eq_getElem E];exact e⟩
 have rd:∀c:List (List Str×Addr),c.Perm g->∀s':Shared,(∀b o,h2.get? b=some o->s'.heap.get? b=some o)->∀i:Nat,i<c.length->∃x:List Str×Addr,c[i]?=some x/\x.1∈aX/\Reads s'.heap (.ref x.2) (tupQ x.1) []:=λc M s' kp i hi=>by
  refine⟨c[i]'hi,getElem?_eq_getElem hi,?_,?_⟩
  .exact(D _).mp (mem_map.mpr ⟨_,M.mem_iff.mp (getElem_mem hi),rfl⟩)
  .exact ST.Gm (ST.mF (hkk _ (M.mem_iff.mp (getElem_mem hi))) λo e=>kp _ _ e)
 have cons_of:∀k∈aX,∃x r,tupQ k=.tuple (.str x::r):=λk hk=>by
  cases k with
  |nil=>exact absurd rfl (Y _ hk).1
  |cons x r=>exact⟨x,_,rfl⟩
 refine Calls.spliced_nil ?_;refine ST.KY (s:={s1 with heap:=h2,toks:=tk}) (κ:=tuples' true) (O:=O) (key:=key) (S.ok.hd hc) hS (by omega) (λc M s' kp h2' R hR=>?_) (λc M s' kp i j hi E C hC=>?_) λp c h3 d Ac l ep M Z hup hge hl3 k3=>?_
 .obtain⟨fs,f1,f2,f3⟩:=kat_tups (h:=s'.heap) (vs:=ST.c6 c) (qs:=c.map λx=>tupQ x.1) (by simp) λi v qq N e2=>by
   rw[getElem?_map] at N e2;have hi:i<c.length:=by
    cases ek:c[i]? with
    |none=>rw[ek] at N;cases N
    |some x=>exact(List.getElem?_eq_some_iff.mp ek).1
   obtain⟨x,ex,L,hr⟩:=rd c M s' kp i hi;rw[ex] at N e2;cases N;cases e2;obtain⟨y,r,ey⟩:=cons_of _ L;exact⟨[],y,r,hr,ey⟩
  refine kat_kind (T:=Value.type "str") f2 (by omega) (λv J=>?_) (by decide) hR;obtain⟨x,t,rfl⟩:=f3 v J;exact Looks.of_pure rfl
 .rw[length_map] at hi E
  obtain⟨x,ex,L,hr⟩:=rd c M s' kp i hi;obtain⟨y,ey,hy,hr'⟩:=rd c M s' kp j E;have hl:=hlt _ L _ hy;rw[getD_eq_getElem?_getD,getD_eq_getElem?_getD,ex,ey] at hC;obtain⟨x0,xr,N⟩:=cons_of _ L;obtain⟨y0,yr,e2⟩:=cons_of _ hy;have c1:=(Y _ L).2;have c2:=(Y _ hy).2;rw[N] at hr hl c1;rw[e2] at hr' hl c2;unfold PySem.W.kas_ask;rw[getD_eq_getElem?_getD,getD_eq_getElem?_getD,getElem?_map,getElem?_map,ex,ey];exact KP.wB hl hr hr' c1.1 c2.1 (uT c1.2 hu) hC
 .have hn:H1 l=none:=S.hok.fresh (le_trans (le_of_lt alt) hge)
  have v8:=Z.size;have P:(p.toList.map λi=>c.getD i ([],0)).Perm g:=by
   have:=(perm_iff_toList_perm.mp Z).map λi=>c.getD i (([]:List Str),0);rw[show(ST.c6 c).length=c.length from by simp] at this;rw[DP.xu] at this;exact this.trans M
  obtain⟨F,pT,E7⟩:=wW (f:=λj=>(aX.getD j [],as.getD j 0)) (n:=as.length) (l:=p.toList.map λi=>c.getD i ([],0)) λx L=>B x (P.mem_iff.mp L);have G:F.map (λj=>aX.getD j [])=(p.toList.map λi=>c.getD i ([],0)).map (·.1):=by rw[pT,map_map];rfl
  have Dz:(p.toList.map λi=>(ST.c6 c).getD i Value.none)=(F.map λj=>as.getD j 0).map Value.ref:=by
   have N:(F.map λj=>as.getD j 0)=(p.toList.map λi=>c.getD i ([],0)).map (·.2):=by rw[pT,map_map];rfl
   rw[N,map_map,map_map];refine map_congr_left λi hi=>?_;have hi':i<c.length:=by
    have:=(perm_iff_toList_perm.mp Z).mem_iff.mp hi;simpa using this
   rw[getD_eq_getElem?_getD,getElem?_map];show _=Value.ref (c.getD i ([],0)).2;rw[getD_eq_getElem?_getD,getElem?_eq_getElem hi'];rfl
  have hjl:F.length<=18:=by
   have:g.length=F.length:=by rw[<-P.length_eq,pT,length_map]
   omega
  have emap:(F.map λi=>V.ref (as.getD i 0))=(F.map λj=>as.getD j 0).map V.ref:=by rw[map_map];rfl
  have I2:Inv X pins σ (upd H1 l (.lst (F.map λi=>V.ref (as.getD i 0)))) {s1 with heap:=h3,drawn:=d,toks:=Ac}:=by
   have m:∀b o,s1.heap.get? b=some o->h2.get? b=some o:=λb o e=>m b o (lt_size e) e;refine S.call (ch:=[]) (g':=s1.gens) (d':=d) (t':=Ac) (h':=h3) (H':=upd H1 l (.lst (F.map λi=>V.ref (as.getD i 0)))) ⟨λb o q _ _ _=>k3 b o (m b o q),λb o q _ _ _=>⟨o.slots,k3 b o (m b o q)⟩,λb o q n _=>?_,λb o q _=>⟨o,k3 b o (m b o q)⟩,λb xs q=>?_,λb o u q=>?_,λb ps q=>⟨#[],?_⟩⟩ ?_ S.bare λb z=>absurd z (by simp)
   .rw[aF (ne_of_lt (lt_of_lt_of_le (lt_size q) (le_trans (le_of_lt alt) hge)))];exact n
   .rw[aF (bG q hn)];exact q
   .rw[aF (bG q hn)];exact q
   .rw[aF (bG q hn),q];simp
   .exact S.hok.laid (λb u q=>k3 b u (m b u q)) (le_trans (le_of_lt alt) hge) ⟨by rw[length_map,sizeLine_eq];omega,(F.map λj=>as.getD j 0).map Value.ref,ep,by rw[emap];exact An _,by rw[<-Dz];exact hl3⟩
  refine⟨.ref l,_,I2,rfl,q l F hn E7 ?_ (λx=>?_) ?_⟩
  .rw[G]
   exact(P.map _).nodup_iff.mpr hnd
  .rw[G,(P.map _).mem_iff,D]
  .rw[G,map_map,pairwise_map,pairwise_iff_getElem]
   intro i j hi E hij;have:=hup i j (le_of_lt hij) (by rw[<-v8];simpa using E);unfold KO.kp at this;have gi:p.getD i 0=p.toList[i]:=by
    rw[getD_eq_getD_getElem?,Array.getElem?_eq_getElem (by simpa using hi)];simp
   have gj:p.getD j 0=p.toList[j]:=by
    rw[getD_eq_getD_getElem?,Array.getElem?_eq_getElem (by simpa using E)];simp
   rw[gi,gj] at this;exact this
end
end L2
namespace DP
open L2
abbrev tupS(ks:List Str):D:=.tup (ks.map D.str)
@[irreducible] def kI(r:Nat)(A:Ar)(R:DK):Prop:=match A[r]? with
 |some (.lst ds)=>∃(aX:List (List Str)) (O:KeyOrd) (key:List Str->O.α),ds=aX.map tupS/\aX.length<=18/\(∀k∈aX,k≠[]/\(tupQ k).canLay0=true/\(tupQ k).depth<=60)/\(∀k∈aX,∀k'∈aX,ltQ (tupQ k) (tupQ k')=some (O.blt (key k) (key k')))/\
  ∀oi:List (List Str),oi.Nodup->(∀x,x∈oi↔x∈aX)->oi.Pairwise (λa b=>O.kle (key a) (key b))->R (.ref A.length) (A++[.lst (oi.map tupS)])
 |_=>False
def K4:dF:=λvs A R=>match vs with
 |[.ref r]=>kI r A R
 |_=>False
section
variable{mg:ah}{ι:Io}{H:Hp}{n:Nat}
theorem z4:∀{k:List Str} {a:List V},af mg ι n H (k.map D.str) a->a=k.map V.str
 |[],a,h=>by cases a with
  |nil=>rfl
  |cons=>cases h
 |x::k,a,h=>by
  obtain⟨_,_,rfl,h1,h2⟩:=h;cases h1;rw[z4 h2];rfl
theorem Af:∀{aX:List (List Str)} {b:List V},af mg ι n H (aX.map tupS) b->∃as:List Addr,b=as.map V.ref/\as.length=aX.length/\∀i,i<as.length->H (as.getD i 0)=some (.tup ((aX.getD i []).map V.str))
 |[],b,h=>by
  cases b with
  |nil=>exact⟨[],rfl,rfl,λi hi=>absurd hi (not_lt_zero _)⟩
  |cons=>cases h
 |k::aX,b,h=>by
  obtain⟨_,_,rfl,⟨a,d,rfl,c,h2⟩,e⟩:=h;obtain⟨as,rfl,f,g⟩:=Af e;refine⟨a::as,rfl,by simp[f],λi hi=>?_⟩;cases i with
  |zero=>rw[z4 h2] at c;exact c
  |succ i=>exact g i (by simpa using hi)
theorem JR{k:List Str}{a:Addr}(h:H a=some (.tup (k.map V.str))):RV mg ι n H (tupS k) (.ref a):=⟨a,_,rfl,h,af.strs k⟩
end
section
variable{X:Cx}{N:En}{e:Expr}{n:bB}{p1 p2 pos1 pos2:Pos}
theorem CZ(c:X.mg "sorted"=none)(f:X.mg "set"=none)(hc:X.calm=true)(x:X.A.units+64<cLine)(y:PA X [e] (c8 X.mg N n))(g:Gl X "sorted":=by rfl)(h:Gl X "set":=by rfl)
  (hs:starEach [e] X.env=[(false,eval e X.env)]:=by rfl)(z:starEach [.Call (.Name "set" p2) [e] [] pos2] X.env=[(false,eval (.Call (.Name "set" p2) [e] [] pos2) X.env)]:=by rfl):
  PE X (.Call (.Name "sorted" p1) [.Call (.Name "set" p2) [e] [] pos2] [] pos1) (up X.mg N (jH K4 n)):=bX (II c f hc x y g h hs z) λσ H Q q=>by
 obtain⟨A,ι,τ,R,S,q,k⟩:=q;refine⟨A,ι,τ,_,S,q,λvs B C H1 D a E u m=>?_⟩;match vs,a,m with
 |[.ref r],a,m=>
  obtain⟨_,_,rfl,⟨_,rfl⟩,rfl⟩:=m;have a:kI r B R:=a;unfold kI at a;split at a
  .rename_i ds e
   obtain⟨D,h1,h2⟩:=u.lst e;obtain⟨aX,O,key,rfl,F,G,o,q⟩:=a;obtain⟨as,rfl,I,w⟩:=Af h2;refine⟨_,as,aX,O,key,rfl,aI.of h1,I,by omega,λi hi=>aN.of (w i hi),G,o,λl p J K s L hs=>?_⟩;refine fm (k.from E) u (ds:=(p.map λi=>aX.getD i []).map tupS) (af.of_get (by simp) λi d v b t=>?_) (q _ s L hs) J;rw[getElem?_map,getElem?_map] at b;rw[getElem?_map] at t;cases ep:p[i]? with
   |none=>rw[ep] at b;cases b
   |some j=>
    rw[ep] at b t;cases b;cases t;exact JR (w j (K j (mem_of_getElem? ep)))
  .exact a.elim
end
theorem K5{A:Ar}{r:Nat}{aX:List (List Str)}{R:DK}(O:KeyOrd)(key:List Str->O.α)(h:A[r]?=some (.lst (aX.map tupS)))(d:aX.length<=18)(g:∀k∈aX,k≠[]/\(tupQ k).canLay0=true/\(tupQ k).depth<=60)
  (e:∀k∈aX,∀f∈aX,ltQ (tupQ k) (tupQ f)=some (O.blt (key k) (key f)))(q:∀c:List (List Str),c.Nodup->(∀x,x∈c↔x∈aX)->c.Pairwise (λa b=>O.kle (key a) (key b))->R (.ref A.length) (A++[.lst (c.map tupS)])):kI r A R:=by
 unfold kI;rw[h];exact⟨aX,O,key,rfl,d,g,e,q⟩
end DP
variable{P:Program}{w:World}{K:PySem.W.Frag}{mg:ah}{base:Heap}
namespace My
open L2 DP
def top(i:Nat):Stmt:=PySem.Challenge.pw_hangstill_k22_whole_bound.main.body.getD i (.Pass ⟨0,0,0,0⟩)
abbrev zx:Stmt:=top 8
abbrev nu:List Str:=["thing","first","last"]
theorem Kp:bf ["thing","first","last"] nu (aH zx):=bL
abbrev zw:Stmt:=top 9
abbrev nk:List Str:=["thing"]
theorem Ko:bf ["thing"] nk (aH zw):=bL
abbrev zv:Stmt:=top 10
abbrev nj:List Str:=["thing","rods"]
theorem Km:bf ["thing","rods"] nj (aH zv):=bL
abbrev zu:Stmt:=top 11
abbrev kc:List Str:=["thing"]
theorem Kl:bf ["thing"] kc (aH zu):=bL
abbrev zk:Stmt:=top 12
abbrev jk:List Str:=["thing"]
theorem Kf:bf ["thing"] jk (aH zk):=bL
abbrev zl:Stmt:=top 14
abbrev ng:List Str:=["one","other"]
theorem Kg:bf ["one","other","rest"] ng (aH zl):=bL
abbrev zB:Stmt:=top 15
abbrev nB:List Str:=["top","bottom"]
theorem Ku:bf ["top","bottom","divisor"] nB (aH zB):=bL
abbrev zA:Stmt:=top 16
abbrev nA:List Str:=["one","other"]
theorem Ks:bf ["one","other"] nA (aH zA):=bL
abbrev zD:Stmt:=top 18
abbrev nC:List Str:=["mobile","way","share"]
theorem zI:bf ["mobile","way","share","both","left","right"] nC (aH zD):=bL
abbrev zy:Stmt:=top 19
abbrev nv:List Str:=["mobile"]
theorem Kq:bf ["mobile"] nv (aH zy):=bL
abbrev zC:Stmt:=top 20
abbrev kg:List Str:=["mobile"]
theorem Kv:bf ["mobile"] kg (aH zC):=bL
abbrev zg:Stmt:=top 21
abbrev m9:List Str:=["mobile"]
theorem Kd:bf ["mobile","first","way","name","share"] m9 (aH zg):=bL
abbrev zj:Stmt:=top 24
abbrev nc:List Str:=["thing"]
theorem zF:bf ["thing","mobile"] nc (aH zj):=bL
abbrev zq:Stmt:=top 25
abbrev ni:List Str:=["hall"]
theorem Kh:bf ["hall"] ni (aH zq):=bL
abbrev zE:Stmt:=top 26
abbrev nD:List Str:=["by_place","name"]
theorem Kw:bf ["by_place","name","steps","place","table"] nD (aH zE):=bL
abbrev zz:Stmt:=top 27
abbrev ny:List Str:=["by_place","start"]
theorem Kr:bf ["by_place","start","paths","reached","at","step"] ny (aH zz):=bL
abbrev zo:Stmt:=top 28
abbrev nh:List Str:=["by_place"]
theorem zG:bf ["by_place","told","seen","table","name","paths"] nh (aH zo):=bL
abbrev zh:Stmt:=top 30
abbrev m_:List Str:=["hall"]
theorem Ke:bf ["hall"] m_ (aH zh):=bL
abbrev yZ:Stmt:=top 32
abbrev mX:List Str:=["_law_script","_law_k"]
theorem J5:bf ["_law_script","_law_k"] mX (aH yZ):=bL
abbrev zc:Stmt:=top 33
abbrev m6:List Str:=["_law_script","_law_k","_law_many"]
theorem J_:bf ["_law_script","_law_k","_law_many","_law_drawn"] m6 (aH zc):=bL
abbrev y9:Stmt:=top 34
abbrev jj:List Str:=["_law_script","_law_town","_law_many"]
theorem J6:bf ["_law_script","_law_town","_law_many"] jj (aH y9):=bL
abbrev zd:Stmt:=top 35
abbrev j_:List Str:=["_law_script","_law_town","_law_some_here"]
theorem J':bf ["_law_script","_law_town","_law_some_here"] j_ (aH zd):=bL
abbrev zb:Stmt:=top 40
abbrev m5:List Str:=["_law_part"]
theorem J9:bf ["_law_part"] m5 (aH zb):=bL
abbrev zf:Stmt:=top 42
abbrev m8:List Str:=["_law_script","_law_town","_law_names_here"]
theorem Kc:bf ["_law_script","_law_town","_law_names_here","_law_wide"] m8 (aH zf):=bL
abbrev y_:Stmt:=top 45
abbrev mY:List Str:=["_law_script","_law_town"]
theorem J7:bf ["_law_script","_law_town","_law_way","_law_many","_law_names_here","_law_book","_law_made","_law_k","_law_one","_law_other","_law_left","_law_right"] mY (aH y_):=bL
abbrev ze:Stmt:=top 46
abbrev m7:List Str:=["_law_hall_here"]
theorem Ka:bf ["_law_hall_here"] m7 (aH ze):=bL
abbrev za:Stmt:=top 47
abbrev mZ:List Str:=["_law_hall_here","_law_start"]
theorem J8:bf ["_law_hall_here","_law_start","_law_known_here","_law_changed","_law_one","_law_other","_law_up","_law_down"] mZ (aH za):=bL
abbrev yY:Stmt:=top 49
abbrev mW:List Str:=["_law_hall_here"]
theorem J4:bf ["_law_hall_here","_law_names_here","_law_part"] mW (aH yY):=bL
abbrev gI:Stmt:=top 50
abbrev qT:List Str:=["_law_script"]
theorem zH:bf ["_law_script","_law_town","_law_hall_here","_law_due","_law_name","_law_made","_law_names_here","_law_some_here","_law_less","_law_gone"] qT (aH gI):=bL
open MA
theorem qS{c d:Nat}:([c]:List Nat)<[d]↔c<d:=by simp[List.cons_lt_cons_iff]
theorem zL:("a":Str).cps.toList=[97]:=by decide+kernel
theorem zM:("z":Str).cps.toList=[122]:=by decide+kernel
end My
namespace DP
open L2 MA
end DP
namespace My
open L2 DP MA
theorem DZ(T:TopD K mg "greatest_divisor" zl ng):aB P w K mg base 1 "greatest_divisor" ng (ay mg 2 sL):=by
 refine b_ T Kg λp s t u nd=>⟨_,(aG (pQ eE (z7 (vr 1) aq) (aG (dS 2 nd (iZ (vr 0) (vr 1)))
  (aG (dS 0 nd (vr 1))
  (aE (dS 1 nd (vr 2))))))
  (aE (aW (vr 0)))),λds A R h z=>?_⟩
 obtain⟨v,⟨a,b,rfl,i,j,rfl⟩,q⟩:=h;refine⟨λn τ A'=>A'=A/\∃(x y:Int) (r:Option D),τ=[some (.int x),some (.int y),r]/\0<=x/\0<=y/\Int.gcd x y=Int.gcd a b/\n=y.toNat,⟨_,rfl,a,b,none,rfl,i,j,rfl,rfl⟩,?_⟩;rintro n τ A' ⟨rfl,x,y,r,rfl,h0,h1,g,rfl⟩;refine cD (λc=>?_) (λc=>?_)
 .refine⟨λτ k=>k=A'/\∃(f d:Int) (r:Option D),τ=[some (.int f),some (.int d),r]/\0<=f/\0<=d/\Int.gcd f d=Int.gcd a b/\d.toNat<y.toNat,λaO A' ⟨e,f,d,r',h1,h2,l,m,o⟩=>⟨_,o,e,f,d,r',h1,h2,l,m,rfl⟩,?_⟩
  have m0:=emod_nonneg x (show y≠0 by omega);have B:=Int.emod_lt_of_pos x (show 0<y by omega);exact⟨c,rfl,y,x%y,_,rfl,h1,m0,by rw[Er h0 c];exact g,by omega⟩
 .have e:y=0:=by omega
  subst e;have:(x:Int)=(Int.gcd a b:Int):=by rw[<-g,Int.gcd_zero_right];omega
  show R (.int x) A';rw[this];exact q _ Gr.refl
theorem Ec(T:TopD K mg "reduced" zB nB)(c:aB P w K mg base 1 "greatest_divisor" ng (ay mg 2 sL)):aB P w K mg base 2 "reduced" nB (ay mg 2 sZ):=by
 refine b_ T Ku λf m g o nd=>⟨_,(aG (dS 2 nd (dL c f g (aa (vr 0) (aa (vr 1) ai))))
  (aE (aW (cY (aa (uI (vr 0) (vr 2)) (aa (uI (vr 1) (vr 2)) ai)))))),λds A R h i=>?_⟩
 obtain⟨v,⟨a,b,rfl,j,p,r,rfl⟩,q⟩:=h;have d:0<(Int.gcd a b:Int):=by
  have:=Int.gcd_pos_of_ne_zero_left b (show a≠0 by omega);omega
 have i:(Int.gcd a b:Int)<=a:=Int.le_of_dvd j (Int.gcd_dvd_left a b);have e:(Int.gcd a b:Int).natAbs.log2<9000:=by
  have h1:(Int.gcd a b:Int).natAbs<2 ^ 2000:=by omega
  have:=(Nat.log2_lt (n:=(Int.gcd a b:Int).natAbs) (k:=2000) (by omega)).mpr h1;omega
 refine⟨rfl,_,⟨a,b,rfl,by omega,by omega,rfl⟩,λs l=>?_⟩;exact⟨⟨d,e⟩,⟨d,e⟩,show 2<=sizeLine by decide,q _ l⟩
end My
namespace DP
open L2 MA
def fq(x:Rat):D:=.tup [.int (rf x).1,.int (rf x).2]
def nJ(p:Str×Str×Rat):D:=.tup [.str p.1,.str p.2.1,fq p.2.2]
theorem JD{a b:Int}(c:0<b):rd a b=rf ((a:Rat)/(b:Rat)):=rz c
def sY:Ct:=λds A R _=>∃a b c d:Int,ds=[.tup [.int a,.int b],.tup [.int c,.int d]]/\0<a/\0<b/\0<c/\0<d/\c<2 ^ 64/\d<2 ^ 64/\a*c<2 ^ 2000/\∀A',Gr A A'->R (fq (((a:Rat)/(b:Rat))*((c:Rat)/(d:Rat)))) A'
theorem mul_div{a b c d:Int}(e:0<b)(hd:0<d):((a*c:Int):Rat)/((b*d:Int):Rat)=((a:Rat)/(b:Rat))*((c:Rat)/(d:Rat)):=by
 have h1:=o_ (Int.ne_of_gt e);have h2:=o_ (Int.ne_of_gt hd);rw[Rat.intCast_mul,Rat.intCast_mul];grind
def s8(d:Nat):Ct:=λds A R _=>∃m w x,ds=[enc m,.str w,fq x]/\m.arms/\m.deep<d/\d<=6/\w.length+d<=100/\0<x/\(rf x).1*18 ^ m.deep<=1000000000/\∀A' q,Gr A A'->A'[q]?=some (.lst ((br m w x).map nJ))->A.length<=q->R (.ref q) A'
def oR:Ct:=λds A R _=>∃m,ds=[enc m]/\Wf m/\m.deep<=5/\∀A' q,Gr A A'->A'[q]?=some (.lst ((br m "" 1).map nJ))->A.length<=q->R (.ref q) A'
theorem tU{a:Int}(h:a<=1000000000000):a<2 ^ 2000:=Int.lt_of_le_of_lt h (Int.lt_of_lt_of_le (show(1000000000000:Int)<2 ^ 64 by decide) (by
 have:(2:Nat) ^ 64<=2 ^ 2000:=pow_le_pow_right (by decide) (by decide);exact_mod_cast this))
end DP
namespace My
open L2 DP MA
theorem Ea(T:TopD K mg "product" zA nA)(e:aB P w K mg base 2 "reduced" nB (ay mg 2 sZ)):aB P w K mg base 3 "product" nA (ay mg 2 sY):=by
 refine b_ T Ks λj s k f nd=>⟨_,(aE (aW (dL e j k (aa (gw (dX f (vr 0) aq) (dX f (vr 1) aq)) (aa (gw (dX f (vr 0) aq) (dX f (vr 1) aq)) ai))))),λds A R h t=>?_⟩;obtain⟨a,b,c,d,rfl,h1,h2,l,i,m,n,o,q⟩:=h;refine⟨.inr ⟨by omega,m⟩,.inr ⟨by omega,n⟩,rfl,_,⟨_,_,rfl,mul_pos h1 l,mul_pos h2 i,o,rfl⟩,λp r=>?_⟩;have g:=q p r;rw[<-mul_div h2 i] at g;unfold fq at g;rw[<-JD (mul_pos h2 i)] at g;exact g
theorem Ef(T:TopD K mg "shares_below" zD nC)(e:aB P w K mg base 3 "product" nA (ay mg 2 sY)):∀d,aB P w K mg base (d+3) "shares_below" nC (ay mg 3 (s8 d)):=by
 intro d;induction d with
 |zero=>
  refine p6 T λds A R RE h=>?_;obtain⟨m,w,x,_,_,h,_⟩:=h;omega
 |succ d c=>
  refine g5 T zI rfl (by decide) λN RE f D B outer s H E j W k ds A R h X=>?_;have g:=j.units;have nd:=zI.nd;refine⟨_,(aG (bY (fR g (dX g (vr 0) aq) b9) (aE (aW (dP (aa (cY (aa (vr 1) (aa (dX g (vr 0) aq) (aa (vr 2) ai)))) ai)))) cz)
  (aG (dS 3 nd (d_ (dX g (vr 0) aq) (dX g (vr 0) aq)))
  (aG (dS 4 nd (dL e j k (aa (vr 2) (aa (cY (aa (dX g (vr 0) aq) (aa (vr 3) ai))) ai))))
  (aG (dS 5 nd (dL e j k (aa (vr 2) (aa (cY (aa (dX g (vr 0) aq) (aa (vr 3) ai))) ai))))
  (aE (aW (d_ (dL c j k (aa (dX g (vr 0) aq) (aa (d_ (vr 1) b9) (aa (vr 4) ai)))) (dL c j k (aa (dX g (vr 0) aq) (aa (d_ (vr 1) b9) (aa (vr 5) ai))))))))))),?_⟩
  obtain⟨m,w,x,rfl,F,hd,Y,Z,i,o,q⟩:=h;have hs:(1000:Nat)<=sizeLine:=by decide
  cases m with
  |wt n=>exact⟨show 3<=sizeLine by decide,show 1<=sizeLine by decide,q _ _ Gr.push aR (le_refl _)⟩
  |bK l r a b=>
   have G:max a.deep b.deep+1<d+1:=hd;obtain⟨u,r2,v,r4,p,t⟩:=F;have ll:("l":Str).length=1:=by decide+kernel
   have lr:("r":Str).length=1:=by decide+kernel
   have al:∀x y:Str,(x++y).length=x.length+y.length:=λx y=>Array.size_append;have np:=qR i;have dp:=kD x;have o:(rf x).1*18 ^ (max a.deep b.deep+1)<=1000000000:=o;have I:(rf (x*((r:Rat)/((l+r:Int):Rat)))).1<=(rf x).1*18:=Int.le_trans (num_mul (by omega) (mul_nonneg (by omega) (by omega))) (Int.mul_le_mul_of_nonneg_left (by omega) (by omega));have J:(rf (x*((l:Rat)/((l+r:Int):Rat)))).1<=(rf x).1*18:=Int.le_trans (num_mul (by omega) (mul_nonneg (by omega) (by omega))) (Int.mul_le_mul_of_nonneg_left (by omega) (by omega));obtain⟨k1,_,k0⟩:=uR o I np;obtain⟨_,k2,_⟩:=uR o J np;have p1:0<x*((r:Rat)/((l+r:Int):Rat)):=aK.step_pos u v i;have p2:0<x*((l:Rat)/((l+r:Int):Rat)):=by
    have:=aK.step_pos (l:=r) (r:=l) v u i;rwa [add_comm r l] at this
   have m1:(rf x).1*r<=1000000000*18:=mul_le_mul k0 (by omega) (by omega) (by omega);have m2:(rf x).1*l<=1000000000*18:=mul_le_mul k0 (by omega) (by omega) (by omega);have L:(18:Int)<2 ^ 64:=by decide
   refine⟨show 2<=sizeLine by decide,rfl,_,_,_,_,rfl,np,dp,by omega,by omega,by omega,by omega,tU (by omega),λA1 M=>?_⟩;refine⟨show 2<=sizeLine by decide,rfl,_,_,_,_,rfl,np,dp,by omega,by omega,by omega,by omega,tU (by omega),λA2 O=>?_⟩;rw[kE];refine⟨by omega,rfl,a,_,_,rfl,p,by omega,by omega,by rw[al];omega,p1,k1,λA3 q3 Q S _=>?_⟩;refine⟨by omega,rfl,b,_,_,rfl,t,by omega,by omega,by rw[al];omega,p2,k2,λU q4 z V _=>?_⟩;have z1:=j6 (m:=a) (by omega);have z2:=j6 (m:=b) (by omega);have C:Gr A U:=((M.trans O).trans Q).trans z;refine pe (z.get S) V (by simp[kF];omega) (q _ _ (C.trans Gr.push) ?_ C.len);rw[aR];simp[br]
theorem Ed(T:TopD K mg "shares" zC kg)(a:aB P w K mg base 9 "check_mobile" jk (ay mg 1 oJ))(b:aB P w K mg base 9 "shares_below" nC (ay mg 3 (s8 6))):aB P w K mg base 10 "shares" kg (ay mg 1 oR):=by
 refine b_ T Kv λc j d k nd=>⟨_,(aG (e9 (dL a c d (aa (vr 0) ai)))
  (aE (aW (dL b c d (aa (vr 0) (aa b9 (aa (cY (aa aq (aa aq ai))) ai))))))),λds A R h l=>?_⟩
 obtain⟨m,rfl,f,hd,q⟩:=h;refine⟨rfl,_,⟨m,rfl,f,hd,rfl⟩,λn g=>?_⟩;have o:(D.tup [.int 1,.int 1])=fq 1:=rfl;refine⟨show 2<=sizeLine by decide,rfl,m,_,1,rfl,f.arms,by omega,by omega,by decide+kernel,by decide,?_,λr s i h2 l2=>q _ _ (g.trans i) h2 (le_trans g.len l2)⟩;have p:=kr hd;have e:(18:Int) ^ 5=1889568:=by decide
 rw[e] at p;show(1:Int)*18 ^ m.deep<=1000000000;omega
end My
namespace DP
open L2 MA
def bD:Option (Str×Str)->D
 |some p=>.tup [.str p.1,.str p.2]
 |none=>.ak
def sG:Ct:=λds A R _=>∃m,ds=[enc m]/\Wf m/\m.deep<=5/\∀A',Gr A A'->R (bD (cH [] (br m "" 1))) A'
theorem qb(k:Key)(v:D)(c:Key):∀kvs:List (Key×D),aT (bh kvs k v) c=if k=c then some v else aT kvs c:=by
 intro kvs;by_cases f:(kvs.any λb=>decide (b.1=k))=true
 .have e:bh kvs k v=kvs.map λb=>if b.1=k then (b.1,v) else b:=by
   unfold bh;rw[if_pos f]
  rw[e];clear e;induction kvs with
  |nil=>simp at f
  |cons p r i=>
   by_cases d:p.1=k
   .rw[map_cons,if_pos d]
    unfold aT;by_cases a:k=c
    .rw[if_pos a,if_pos (by rw[<-a];exact d)]
    .rw[if_neg a,if_neg (λz=>a (by rw[<-d];exact z))]
     rw[if_neg (λz=>a (by rw[<-d];exact z))];by_cases h:(r.any λb=>decide (b.1=k))=true
     .rw[i h,if_neg a]
     .have:r.map (λb=>if b.1=k then (b.1,v) else b)=r:=by
       rw[map_congr_left (g:=id)]
       .simp
       .intro q j
        rw[if_neg]
        .rfl
        .intro z
         exact h (any_eq_true.mpr ⟨q,j,decide_eq_true z⟩)
      rw[this]
   .have h:(r.any λb=>decide (b.1=k))=true:=by simpa[d] using f
    rw[map_cons,if_neg d];unfold aT;by_cases a:p.1=c
    .rw[if_pos a,if_neg (λz=>d (by rw[z];exact a)),if_pos a]
    .rw[if_neg a,if_neg a]
     exact i h
 .have e:bh kvs k v=kvs++[(k,v)]:=by
   unfold bh;rw[if_neg f]
  rw[e];clear e;induction kvs with
  |nil=>simp[aT]
  |cons p r i=>
   have d:p.1≠k:=λz=>f (by simp[z]);have h:¬(r.any λb=>decide (b.1=k))=true:=λz=>f (by simp[z]);show(if p.1=c then some p.2 else aT (r++[(k,v)]) c)=if k=c then some v else (if p.1=c then some p.2 else aT r c)
   by_cases a:p.1=c
   .rw[if_pos a,if_neg (λz=>d (by rw[z];exact a)),if_pos a]
   .rw[if_neg a,if_neg a]
    exact i h
theorem Ju(kvs:List (Key×D))(k:Key)(v:D):(bh kvs k v).length<=kvs.length+1:=by
 unfold bh;split<;>simp
theorem nG{A:Ar}{r:Nat}{kvs:List (Key×D)}{y v:D}{k:Key}{R:Ar->Prop}(h:A[r]?=some (.dct kvs))(a:dj y=some k)(b:kvs.length<sizeLine)(q:R (A.set r (.dct (bh kvs k v)))):ku r y v A R:=by
 unfold ku;simp only[h,a];exact⟨b,q⟩
theorem Ex{A:Ar}{r:Nat}{c c':C}(h:A[r]?=some c):(A.set r c')[r]?=some c':=by
 rw[getElem?_set_self (List.getElem?_eq_some_iff.mp h).1]
theorem wL(x:Rat):(toQ (fq x)).canLay0=true:=by simp[fq,toQ,bM,canLay0,canLayAll0]
theorem C2(x:Rat):(toQ (fq x)).depth<=64:=by simp[fq,toQ,bM,PyData.depth,depthAll]
theorem DF(x y:Rat):PyData.eqv (toQ (fq x)) (toQ (fq y))=decide (x=y):=by
 by_cases h:x=y
 .subst h
  simp[fq,toQ,bM,PyData.eqv,eqvAll]
 .rw[decide_eq_false h]
  have:¬((rf x).1=(rf y).1/\(rf x).2=(rf y).2):=λz=>h (JH (Prod.ext z.1 z.2));by_cases h1:(rf x).1=(rf y).1
  .have h2:¬(rf x).2=(rf y).2:=λz=>this ⟨h1,z⟩
   simp[fq,toQ,bM,PyData.eqv,eqvAll,h2]
  .simp[fq,toQ,bM,PyData.eqv,eqvAll,h1]
theorem G9{x y:Rat}{A:Ar}{R:DK}(k:R (.bl (!decide (x=y))) A):fY true (fq x) (fq y) A R:=by
 unfold fY;have h1:cO A (fq x)=toQ (fq x):=rfl;have h2:cO A (fq y)=toQ (fq y):=rfl;rw[h1,h2];have:=C2 x;refine⟨rfl,rfl,wL x,wL y,by omega,?_⟩;rw[DF];exact k
theorem ve{pre:List (Str×Str×Rat)}{p:Str×Str×Rat}{n:Str}:(pre++[p]).find? (λq=>decide (q.2.1=n))=match pre.find? (λq=>decide (q.2.1=n)) with|some q=>some q|none=>if p.2.1=n then some p else none:=by
 rw[List.find?_append];cases pre.find? (λq=>decide (q.2.1=n)) with
 |some q=>rfl
 |none=>
  by_cases h:p.2.1=n
  .simp[h]
  .simp[h]
end DP
namespace My
open L2 DP MA
theorem DS(T:TopD K mg "bar" zg m9)(d:aB P w K mg base 10 "shares" kg (ay mg 1 oR)):aB P w K mg base 11 "bar" m9 (ay mg 1 sG):=by
 refine b_ T Kd λM W N l nd=>⟨_,(aG (dS 1 nd uJ)
  (aG (fL eE rfl (ef (dL d M N (aa (vr 0) ai))) (pJ rfl (gx (dG 2 nd) (gx (dG 3 nd) (gx (dG 4 nd) pK)))) (aE (bY (jq l (vr 3) (vr 1)) (aE (lR l (vr 1) (vr 3) (cY (aa (vr 2) (aa (vr 4) ai))) rfl)) (aE (bY (kM l (dX l (dX l (vr 1) (vr 3)) aq) (vr 4)) (aE (aW (cY (aa (dX l (dX l (vr 1) (vr 3)) aq) (aa (vr 2) ai))))) cz)))))
  (aE (aW uK)))),λds A R h X=>?_⟩
 obtain⟨m,rfl,O,hd,q⟩:=h;obtain⟨o,j⟩:∃t,t=cH [] (br m "" 1):=⟨_,rfl⟩;rw[<-j] at q;refine⟨rfl,m,rfl,O,hd,λQ J G h1 l1=>?_⟩;have l1:A.length+1<=J:=by simpa using l1
 refine gb h1 ?_;have ln:=kF m "" 1;have nl:=j6 hd;have Y:(1000:Nat)<=sizeLine:=by decide
 have S:=G.get (aR (A:=A) (c:=C.dct []));refine eZ (λrest τ A'=>∃(pre more:List (Str×Str×Rat)) (kvs:List (Key×D)) (x y z:Option D),rest=more.map nJ/\τ=[some (enc m),some (.ref A.length),x,y,z]/\pre++more=br m "" 1/\cH pre more=o/\A'[A.length]?=some (.dct kvs)/\kvs.length<=pre.length/\(∀n:Str,aT kvs (Sum.inr n)=(pre.find? λq=>decide (q.2.1=n)).map λp=>.tup [.str p.1,fq p.2.2])/\bO A.length Q A'/\A.length+1<=A'.length) ?_ ?_ ?_ _ _ _ ⟨[],br m "" 1,[],none,none,none,rfl,rfl,rfl,j.symm,S,le_refl _,λn=>rfl,bO.refl,by have:=G.len;simpa using this⟩
 .rintro rest τ A' ⟨pre,more,kvs,x,y,z,_,_,_,_,_,_,_,b,_⟩
  exact b J _ (by omega) h1
 .rintro v rest τ A' ⟨pre,more,kvs,x,y,z,e,rfl,H,a,r,U,I,b,s⟩ Z L
  cases more with
  |nil=>cases e
  |cons p more=>
   cases e;obtain⟨k,n,g⟩:=p;have f:=I n;have V:pre.length<=32:=by
    have:(pre++(k,n,g)::more).length=(br m "" 1).length:=by rw[H]
    simp at this;omega
   unfold cH at a;refine⟨rfl,fP r rfl ?_⟩;cases i:pre.find? (λq=>decide (q.2.1=n)) with
   |none=>
    rw[i] at f a;have f:aT kvs (Sum.inr n)=none:=f;rw[f];refine⟨show 2<=sizeLine by decide,nG r rfl (by omega) ?_⟩;refine L _ _ ⟨pre++[(k,n,g)],more,_,_,_,_,rfl,rfl,by simpa using H,a,Ex r,?_,λn'=>?_,b.trans bO.set,by simpa using s⟩
    .have:=Ju kvs (Sum.inr n) (.tup [.str k,fq g])
     simp;omega
    .rw[qb,ve]
     by_cases B:n=n'
     .subst B
      rw[if_pos rfl,i];simp
     .rw[if_neg (λz=>B (Sum.inr.inj z)),I n']
      cases pre.find? (λq=>decide (q.2.1=n')) with
      |some q=>rfl
      |none=>simp[B]
   |some u=>
    rw[i] at f a;have f:aT kvs (Sum.inr n)=some (.tup [.str u.1,fq u.2.2]):=f;rw[f];refine gE r rfl f ?_;refine G9 ?_;by_cases hs:u.2.2=g
    .have a:(if u.2.2=g then cH (pre++[(k,n,g)]) more else some (u.1,k))=o:=a
     rw[if_pos hs] at a;refine cN (λc=>absurd hs c) (λ_=>?_);refine L _ _ ⟨pre++[(k,n,g)],more,kvs,_,_,_,rfl,rfl,by simpa using H,a,r,by simp;omega,λn'=>?_,b,s⟩;rw[ve,I n'];cases E:pre.find? (λq=>decide (q.2.1=n')) with
     |some q=>rfl
     |none=>
      by_cases B:n=n'
      .subst B
       rw[i] at E;cases E
      .simp[B]
    .have a:(if u.2.2=g then cH (pre++[(k,n,g)]) more else some (u.1,k))=o:=a
     rw[if_neg hs] at a;refine cN (λ_=>?_) (λc=>absurd c hs);refine gE r rfl f ?_;refine⟨show 2<=sizeLine by decide,?_⟩;have F:=q A' (Gr.xP (Gr.push.trans G) (le_refl _) b);rw[<-a] at F;exact F
 .rintro τ A' ⟨pre,more,kvs,x,y,z,e,rfl,H,a,r,U,I,b,s⟩
  cases more with
  |cons p more=>cases e
  |nil=>
   have F:=q A' (Gr.xP (Gr.push.trans G) (le_refl _) b);rw[<-a] at F;exact F
theorem DU(T:TopD K mg "_law_cell_at" yZ mX)(a:mg "len"=none):aB P w K mg base 1 "_law_cell_at" mX (ay mg 2 sI):=by
 refine b_ T J5 λi j l d nd=>⟨_,(aG (bY (z_ (vr 1) (cJ dZ dh a PySem.boot_len (aa (vr 0) ai))) (aE (aW (dX d (vr 0) (vr 1)))) cz)
  (aG (bY (fR d (vr 0) (dP ai)) (aE (aW aq)) cz)
  (aE (aW (d_ (gw (dX d (vr 0) (iZ (vr 1) (cJ dZ dh a PySem.boot_len (aa (vr 0) ai)))) aq) (vr 1)))))),λds A R h m=>?_⟩
 obtain⟨ns,k,rfl,g,q⟩:=h;refine cD (λc=>?_) (λc=>?_)
 .obtain⟨v,e,_⟩:=o4 g c
  conv=>whnf
  rw[e];exact q v _ Gr.refl
 .refine⟨zero_le _,DE ?_⟩
  refine cD (λf=>?_) (λf=>?_)
  .exact q _ _ Gr.push
  .have b:0<(ns.length:Int):=by
    have:=List.length_pos_iff.mpr f;omega
   obtain⟨v,e,_⟩:=o4 (xs:=ns) (emod_nonneg k (by omega)) (Int.emod_lt_of_pos k b);refine⟨b,?_⟩;conv=>whnf
   rw[e];exact⟨.inr ⟨by decide,by decide⟩,q _ _ Gr.push⟩
theorem D8(T:TopD K mg "_law_mixed" zc m6)(a:aB P w K mg base 1 "_law_cell_at" mX (ay mg 2 sI)):aB P w K mg base 2 "_law_mixed" m6 (ay mg 3 sU):=by
 refine b_ T J_ λc f d j nd=>⟨_,(aG (dS 3 nd (iZ (d_ (d_ (gw (dL a c d (aa (vr 0) (aa (vr 1) ai))) aq) (gw aq (vr 1))) aq) aq))
  (aE (aW (iZ (iZ (iZ (CV (vr 3) aq) aq) aq) (vr 2))))),λds A R h l=>?_⟩
 obtain⟨ns,k,m,rfl,e,b,q⟩:=h;refine⟨rfl,ns,k,rfl,e,λi A' g=>?_⟩;refine⟨.inr ⟨by decide,by decide⟩,.inl ⟨by decide,by decide⟩,(by decide:(0:Int)<2147483647),?_⟩;have n:=emod_nonneg (i*1103515245+7919*k+12345) (show(2147483647:Int)≠0 by decide);have o:=Int.emod_lt_of_pos (i*1103515245+7919*k+12345) (show(0:Int)<2147483647 by decide);refine⟨⟨by decide,by decide,?_⟩,(by decide:(0:Int)<2147483647),(by decide:(0:Int)<999983),b,?_⟩
 .have:(2147483647:Nat)<2 ^ 64:=by decide
  omega
 exact q _ _ (emod_nonneg _ (by omega)) (Int.emod_lt_of_pos _ b) g
theorem DY(T:TopD K mg "_law_draw" y9 jj)(b:mg "len"=none)(a:aB P w K mg base 2 "_law_mixed" m6 (ay mg 3 sU)):aB P w K mg base 3 "_law_draw" jj (ay mg 3 k9):=by
 refine b_ T J6 λe l f o nd=>⟨_,(aG (e9 (gv plainAttrs_list PySem.F.slot_list_append PySem.F.type_list_append iG iX (vr 1) (aa aq ai)))
  (aE (aW (dL a e f (aa (vr 0) (aa (cJ dZ dh b PySem.boot_len (aa (vr 1) ai)) (aa (vr 2) ai))))))),λds A R h p=>?_⟩
 obtain⟨ns,t,m,n,rfl,⟨xs,d,j⟩,r,k,q⟩:=h;refine⟨f9 d,iy d (by rw[sizeLine];omega) ?_⟩;have c:(A.set t (.lst (xs++[.int 0])))[t]?=some (.lst (xs++[.int 0])):=get_set d;refine jf c ⟨rfl,ns,_,m,rfl,by omega,k,λi A' h0 h1 g=>?_⟩;exact q i A' h0 h1 (bO.set.trans g.but) (Tw.gr ⟨_,c,by simpa using j⟩ g)
theorem D_(T:TopD K mg "_law_pick" zd j_)(c:mg "len"=none)(a:aB P w K mg base 3 "_law_draw" jj (ay mg 3 k9)):aB P w K mg base 4 "_law_pick" j_ (ay mg 3 oO):=by
 refine b_ T J' λd o e g nd=>⟨_,(aE (aW (dX g (vr 2) (dL a d e (aa (vr 0) (aa (vr 1) (aa (cJ dZ dh c PySem.boot_len (aa (vr 2) ai)) ai))))))),λds A R h p=>?_⟩;obtain⟨ns,t,r,xs,n,rfl,f,d,e,j,k,q⟩:=h;have s:=List.length_pos_iff.mpr e;refine jf d ⟨rfl,ns,t,_,n,rfl,j,k,by omega,λi A' h0 h1 b t'=>?_⟩;obtain⟨v,l,m⟩:=o4 h0 h1;exact wz (b r _ f d) l (q v A' m b t')
end My
namespace DP
open L2 MA
def tu:Ct:=λds A R _=>∃ns t q nms n,ds=[.fl ns,.ref t,.ref q]/\q≠t/\A[q]?=some (.lst (nms.map D.str))/\nms.Pairwise strLt/\(∀x∈nms,Nm x)/\nms.length<64/\Tw t n A/\n+100<=1000000/\∀rs A',oV rs->rs.map (·.1)=nms->Dr t A A' n 100->R (Ds rs) A'
end DP
namespace My
open L2 DP MA
theorem D7(T:TopD K mg "_law_leaves" zb m5):∀d,aB P w K mg base (d+1) "_law_leaves" m5 (ay mg 1 (sS d)):=by
 intro d;induction d with
 |zero=>
  refine p6 T λds A R RE h=>?_;obtain⟨v,⟨m,_,h,_⟩,_⟩:=h;omega
 |succ d c=>
  refine g5 T J9 rfl (by decide) λN RE f k B outer s H E g t i ds A R h u=>?_;have e:=g.units;refine⟨_,(aE (aW (CS (fR e (dX e (vr 0) aq) b9) (dP (aa (dX e (vr 0) aq) ai)) (d_ (dL c g i (aa (dX e (vr 0) aq) ai)) (dL c g i (aa (dX e (vr 0) aq) ai)))))),?_⟩;obtain⟨v,⟨m,rfl,hd,x,rfl⟩,q⟩:=h;cases m with
  |wt n=>exact⟨show 1<=sizeLine by decide,q _ _ Gr.push aR⟩
  |bK l r a b=>
   have o:max a.deep b.deep+1<d+1:=hd;refine⟨rfl,_,⟨a,rfl,by omega,by omega,rfl⟩,λy z p h1=>?_⟩;refine⟨rfl,_,⟨b,rfl,by omega,by omega,rfl⟩,λC D j h2=>?_⟩;have F:=aK.j5 a;have G:=aK.j5 b;have p1:2 ^ a.deep<=2 ^ 8:=pow_le_pow_right (by decide) (by omega);have p2:2 ^ b.deep<=2 ^ 8:=pow_le_pow_right (by decide) (by omega);have I:(512:Nat)<=sizeLine:=by decide
   refine pe (j.get h1) h2 (by rw[length_map,length_map];omega) (q _ _ ((p.trans j).trans Gr.push) ?_);rw[aR];simp[aK.names]
theorem Ei(T:TopD K mg "_law_weights" zf m8)(g:mg "tuple"=none)(a:aB P w K mg base 3 "_law_draw" jj (ay mg 3 k9))(d:aB P w K mg base 4 "_law_pick" j_ (ay mg 3 oO)):aB P w K mg base 5 "_law_weights" m8 (ay mg 3 tu):=by
 refine b_ T Kc λB N o O nd=>⟨_,(aG (dS 3 nd (dL d B o (aa (vr 0) (aa (vr 1) (aa (dP (aa aq (aa aq (aa aq (aa aq ai))))) ai)))))
  (aE (aW (gW lA lK g boot_tuple (aa (iY none (own:=["_law_name"]) (frees:=["_law_script","_law_town","_law_wide"]) (ix:=[0,1,3]) rfl (ef (vr 2)) (λc=>(pG 0 (show(["_law_name","_law_script","_law_town","_law_wide"]:List Str).Nodup by decide+kernel))) (λc=>(cY (aa (vr 0) (aa (d_ aq (dL a B qV (aa (vr 1) (aa (vr 2) (aa (vr 3) ai))))) ai))))) ai))))),λds A R h S=>?_⟩
 obtain⟨ns,t,r,f,n,rfl,l,C,j,u,E,F,U,q⟩:=h;obtain⟨G,v,_⟩:=id F;have V:=cB v;refine⟨show 4<=sizeLine by decide,rfl,ns,t,_,[.int 1,.int 2,.int 4,.int 12],n,rfl,by omega,aR,by simp,F.gr Gr.push,by omega,λx H o I t1=>?_⟩;obtain⟨wide,rfl,m0,W⟩:∃k:Int,x=.int k/\1<=k/\k<=12:=by
  simp at o;rcases o with h|h|h|h<;>exact⟨_,h,by omega,by omega⟩
 have m:bO t A H:=Gr.push.but.trans I;refine gb (m r _ l C) ?_;refine lD (λrest ys A'=>∃(rs:List (Str×Int)) (more:List Str),rest=more.map D.str/\ys=rs.map jl/\rs.map (·.1)++more=f/\(∀p∈rs,1<=p.2/\p.2<=12)/\bO t A A'/\Tw t (n+1+rs.length) A') ?_ ?_ ?_ ?_ _ _ _ ⟨[],f,rfl,rfl,rfl,λ_ h=>(by cases h),m,t1⟩
 .rintro rest ys A' ⟨rs,more,_,_,_,_,b,_⟩
  exact b r _ l C
 .rintro rest ys A' ⟨rs,more,_,rfl,e,_,_,_⟩
  have:(rs.map (·.1)++more).length=f.length:=by rw[e]
  have X:(64:Nat)<=sizeLine:=by decide
  simp at this ⊢;omega
 .rintro x rest ys A' ⟨rs,more,s,rfl,e,z,b,t'⟩
  cases more with
  |nil=>cases s
  |cons y more=>
   cases s;have:(rs.map (·.1)++y::more).length=f.length:=by rw[e]
   simp at this;refine⟨[.str y],rfl,λQ J=>⟨rfl,ns,t,wide,n+1+rs.length,rfl,t',by omega,by omega,λi Y Z i1 L M=>⟨show 2<=sizeLine by decide,J _ _ ⟨rs++[(y,1+i)],more,rfl,by simp[jl],by simpa using e,λp j=>?_,b.trans L,by rw[length_append];exact M⟩⟩⟩⟩;rcases mem_append.mp j with h|h
   .exact z p h
   .rw[mem_singleton.mp h]
    exact⟨show 1<=1+i by omega,show 1+i<=12 by omega⟩
 .rintro ys A' ⟨rs,more,s,rfl,e,z,b,t'⟩
  cases more with
  |cons y more=>cases s
  |nil=>
   have e:rs.map (·.1)=f:=by simpa using e
   have el:rs.length=f.length:=by rw[<-e];simp
   refine nZ aR (q rs _ ⟨λp j=>u _ (by rw[<-e];exact mem_map_of_mem j),λp j=>?_,by rw[e];exact j,by omega⟩ e ⟨b.trans Gr.push.but,(t'.gr Gr.push).mono (by omega)⟩);have:=z p j;omega
end My
namespace L2
theorem gq.HE{P:Program}{w:World}{K:PySem.W.Frag}{mg:ah}{base:Heap}{x:Str}{st:Stmt}{N ps:List Str}{k:Nat}{sp:Sp}{f:Addr}{fd:FuncData}(F:gq K x x st f fd)(S:bf N ps (aH st))(len:∀vs H Q E,sp vs H Q E->vs.length=ps.length)
  (b:∀(f:Addr) (a:Value) (A:Around) (outer:List Env) (s:Shared) (H:Hp) (vs:List V) (Q:VK) (E:XK),bV k (A.deeper (envOfC x (aH st) s.heap.objs.size f a))->sp vs H Q E->
   ∃t,bU (bC (aQ P w) P w K mg base N x (aH st) f a A outer s H E) (ee st) t/\t {nx:=λ_ H'=>Q .ak H',rt:=Q} (start N vs) H):dH P w K mg base (aQ P w) (k+1) f fd ps sp:=by
 obtain⟨h,i,kV,doc,pm,an,a,ct,e,rfl,lk,c⟩:=F.ex;exact vm lk c S len λA outer s H vs Q E g d=>b f a A outer s H vs Q E g d
end L2
namespace DP
open L2 MA
theorem Ek{P:Program}{w:World}{K:PySem.W.Frag}{mg:ah}{base:Heap}{x:Str}{st:Stmt}{Nm ps:List Str}{k n:Nat}{S:Ct}{y:Addr}{fd:FuncData}(T:gq K x x st y fd)(Sc:bf Nm ps (aH st))(G:ps.length=n)(Z:ps.length<=Nm.length)
  (j:∀(N:En) (RE:DX) (f:Addr) (g:Value) (B:Around) (outer:List Env) (s:Shared) (H:Hp) (E:XK),bV k (bC (aQ P w) P w K mg base Nm x (aH st) f g B outer s H E).A->
   Raises (bC (aQ P w) P w K mg base Nm x (aH st) f g B outer s H E) (EL mg N RE)->Passes (aQ P w) (bC (aQ P w) P w K mg base Nm x (aH st) f g B outer s H E) (EL mg N RE)->
   ∀ds A R,S ds A R RE->ds.length=n->∃m,bU (bC (aQ P w) P w K mg base Nm x (aH st) f g B outer s H E) (ee st) (bQ mg N m)/\m {nx:=λ_ A'=>R .ak A',rt:=R} (gJ (Nm.length - n) ds) A):dH P w K mg base (aQ P w) (k+1) y fd ps (ay mg n S):=by
 refine T.HE Sc (λvs H Q E h=> ?_) λf g A outer s H vs Q E J h=> ?_
 .obtain⟨A,ι,ds,R,RE,t,_,o,_⟩:=h
  rw[<-af.length o,t,G]
 .obtain⟨p,l,ds,R,RE,t,ra,o,L,D,M⟩:=h
  have F:∀C a H',EL mg ⟨p,l,H⟩ RE C a H'->E C none H':=λC a H' z=>by
   obtain⟨c,A',ι',⟨b,rfl,hc⟩,ex,r,q⟩:=z
   exact M c A' ι' H' b q hc ex r
  obtain⟨m,O,U⟩:=j ⟨p,l,H⟩ RE f g A outer s H E J
   (λpins σ H1 u e h' C args I V z=>yK pins σ H1 u e h' C args I V (F _ _ _ z))
   (λpins σ H1 u e s' I z=>xZ pins σ H1 u e s' I (by
    obtain⟨a,C,H',h1,h2,X⟩:=z
    exact⟨a,C,H',h1,h2,F _ _ _ X⟩)) ds p R L t
  have Y:=af.length o
  refine⟨_,O,p,l,_,_,⟨ra,⟨?_,λi d q=> ?_⟩,ra.refl⟩,U,⟨λτ A' ι' σ H' q e r _=>D _ A' ι' H' _ q e r rfl,D,λ_ _ _ _ _ q _ _ _=>q.elim,λ_ _ _ _ _ q _ _ _=>q.elim⟩⟩
  .simp[gJ,L2.start]
   omega
  .obtain⟨v,h1,h2⟩:=af.get o (qC ds _ i d q)
   refine⟨v,?_,h2⟩
   have hi:=(List.getElem?_eq_some_iff.mp h1).1
   unfold L2.start
   rw[getElem?_append_left (by simpa using hi),getElem?_map,h1]
   rfl
def sR:Ct:=λds A R _=>∃ns,ds=[.fl ns]/\∀A',R (.bl true) A'
def jn:Sp:=λvs H Q _=>∃(a:Addr) (o:Obj) (ns:List Int),vs=[.ref a]/\H a=some (.aP o (.lst (ns.map V.int)))/\∀H',Q (.bl true) H'
theorem KZ{mg:ah}{vs:List V}{H:Hp}{Q:VK}{E:XK}(h:jn vs H Q E):ay mg 1 sR vs H Q E:=by
 obtain⟨a,o,ns,rfl,h,q⟩:=h;refine⟨[],λ_=>a,[.fl ns],λv _=>v=.bl true,λ_ _=>False,rfl,⟨λr c h=>by simp at h,λr s b=>by simp at b⟩,⟨_,[],rfl,⟨a,o,rfl,h⟩,rfl⟩,⟨ns,rfl,λ_=>rfl⟩,λv A' ι' H' u e _ _ r=>?_,λ_ _ _ _ _ z=>z.elim⟩;subst e;cases r;exact q _
def iH(o:Obj):Bool:=match o.cls with
 |.type t=> !(decide (t="list"))
 |_=>true
theorem Hj{K:PySem.W.Frag}(h:K.all (λp=>iH p.2)=true){a:Addr}{o:Obj}(e:K.lookup a=some o):iH o=true:=by
 induction K with
 |nil=>cases e
 |cons p r b=>
  have h':iH p.2=true/\List.all r (λp=>iH p.2)=true:=by simpa using h
  rw[List.lookup] at e;split at e
  .cases e
   exact h'.1
  .exact b h'.2 e
theorem Eo{K:PySem.W.Frag}(b:K.all (λp=>iH p.2)=true){H:Hp}{a:Addr}{ns:List Int}(d:kZ H)(f:aI K H a (ns.map V.int)):jn [.ref a] H (λv _=>v=.bl true) λ_ _ _=>False:=by
 rcases f with (e|⟨o,e⟩)|⟨o,its,n,e,c,_⟩
 .rcases d a with z|⟨o,xs,z⟩
  .rw[z] at e;cases e
  .rw[z] at e;cases e
 .exact⟨a,o,ns,rfl,e,λ_=>rfl⟩
 .have:=Hj b e
  unfold iH at this;rw[c] at this;simp at this
theorem vp:∀(ps:List (Str×D)) (acc:List (Key×D)) (ns:List Str),acc.map (·.1)=ns.map Sum.inr->ns.Nodup->
  ∃d:List Str,((ps.map λp=>((Sum.inr p.1:Key),p.2)).foldl (λacc p=>bh acc p.1 p.2) acc).map (·.1)=d.map Sum.inr/\d.Nodup/\(∀n,n∈d↔n∈ns\/n∈ps.map (·.1))
 |[],acc,ns,h1,h2=>⟨ns,h1,h2,λn=>by simp⟩
 |p::ps,acc,ns,h1,h2=>by
  have key:∃f:List Str,(bh acc (Sum.inr p.1) p.2).map (·.1)=f.map Sum.inr/\f.Nodup/\∀n,n∈f↔n∈ns\/n=p.1:=by
   by_cases j:(acc.any λc=>decide (c.1=(Sum.inr p.1:Key)))=true
   .have e:bh acc (Sum.inr p.1) p.2=acc.map λc=>if c.1=(Sum.inr p.1:Key) then (c.1,p.2) else c:=by
     unfold bh;rw[if_pos j]
    refine⟨ns,?_,h2,λn=>?_⟩
    .rw[e,map_map,<-h1]
     refine map_congr_left λc _=>?_;show(if c.1=(Sum.inr p.1:Key) then (c.1,p.2) else c).1=c.1;split<;>rfl
    .have g:p.1∈ns:=by
      obtain⟨c,i,m⟩:=any_eq_true.mp j;have:c.1∈acc.map (·.1):=mem_map_of_mem i;rw[h1,of_decide_eq_true m] at this;obtain⟨x,o,e⟩:=mem_map.mp this;rw[<-Sum.inr.inj e];exact o
     constructor
     .exact .inl
     .rintro (h|rfl)
      .exact h
      .exact g
   .have e:bh acc (Sum.inr p.1) p.2=acc++[(Sum.inr p.1,p.2)]:=by
     unfold bh;rw[if_neg j]
    have k:p.1∉ns:=λg=>j (by
     have:(Sum.inr p.1:Key)∈acc.map (·.1):=by rw[h1];exact mem_map_of_mem g
     obtain⟨c,i,e⟩:=mem_map.mp this;exact any_eq_true.mpr ⟨c,i,decide_eq_true e⟩)
    refine⟨ns++[p.1],by rw[e];simp[h1],?_,λn=>by simp⟩;rw[nodup_append];refine⟨h2,by simp,λa l b q=>?_⟩;rw[mem_singleton.mp q];exact λz=>k (by rw[<-z];exact l)
  obtain⟨f,k1,k2,k3⟩:=key;obtain⟨d,r,s,t⟩:=vp ps _ f k1 k2;refine⟨d,r,s,λn=>?_⟩;rw[t,k3];simp[or_assoc]
def qQ(p:Str×Str×Rat):D:=.tup [.str p.2.1,fq p.2.2]
theorem xX:∀a:List (Str×Str×Rat),cU (a.map qQ)=some ((a.map λp=>(p.2.1,fq p.2.2)).map λp=>((Sum.inr p.1:Key),p.2))
 |[]=>rfl
 |r::a=>by
  have:=xX a;simp only[map_cons,qQ,cU,dj,this]
theorem CK{A:Ar}{r:Nat}{xs:List D}{ps:List (Key×D)}{R:DK}(h:A[r]?=some (.lst xs))(a:cU xs=some ps)(b:ps.length<=1000)(k:R (.ref A.length) (A++[.dct (nF ps)])):lN r A R:=by
 unfold lN;simp only[h];unfold dctP;rw[a];exact⟨b,k⟩
end DP
namespace My
open L2 DP MA
end My
namespace DP
open L2 MA
abbrev Tb:=List (Str×Rat)
abbrev bS:=Nat×Str×Str
abbrev aJ:=List (Str×List bS)
def dz(s:bS):D:=.tup [.int ((s.1:Nat):Int),.str s.2.1,.str s.2.2]
def aC(T:Tb):List Str:=T.map (·.1)
def bg(T:Tb):List (Key×D):=T.map λp=>((Sum.inr p.1:Key),fq p.2)
noncomputable def zN(T:Tb)(n:Str):Rat:=match T.find? (λp=>decide (p.1=n)) with
 |some p=>p.2
 |none=>0
def dB(n:Str)(p:Tb×Nat):List bS:=if n∈aC p.1 then (aC p.1).map (λo=>(p.2,n,o)) else []
def cg(Ts:List Tb)(n:Str):List bS:=Ts.zipIdx.flatMap (dB n)
def c5(P:aJ)(n:Str):List bS:=match P.find? (λp=>decide (p.1=n)) with
 |some p=>p.2
 |none=>[]
def aA(P:aJ):List Str:=P.map (·.1)
def bu(P:aJ)(s:bS):aJ:=if s.2.2∈aA P then P else P++[(s.2.2,c5 P s.2.1++[s])]
def b4(Ts:List Tb):Nat->Nat->aJ->aJ
 |0,_,P=>P
 |f+1,i,P=>match P[i]? with
  |some p=>b4 Ts f (i+1) ((cg Ts p.1).foldl bu P)
  |none=>P
def c_(Ts:List Tb)(n:Str):aJ:=b4 Ts 14 0 [(n,[])]
structure tE(T:Tb):Prop where
 nd:(aC T).Nodup
 ne:T≠[]
 len:T.length<=32
 Mv:∀p∈T,sr p.2
structure dW(Ts:List Tb)(NN:List Str):Prop where
 len:Ts.length<=7
 tok:∀T∈Ts,tE T
 nn:NN.length<=12
 sub:∀T∈Ts,∀n∈aC T,n∈NN
theorem vH:∀(T:Tb) (n:Str),aT (bg T) (Sum.inr n)=(T.find? (λp=>decide (p.1=n))).map (λp=>fq p.2)
 |[],n=>rfl
 |p::T,n=>by
  show(if (Sum.inr p.1:Key)=Sum.inr n then some (fq p.2) else aT (bg T) (Sum.inr n))=_;by_cases h:p.1=n
  .rw[if_pos (by rw[h]),List.find?_cons_of_pos (by simpa using h)]
   rfl
  .rw[if_neg (λz=>h (Sum.inr.inj z)),List.find?_cons_of_neg (by simpa using h)]
   exact vH T n
theorem find_some{β:Type}{T:List (Str×β)}{n:Str}:(T.find? (λp=>decide (p.1=n))).isSome=decide (n∈T.map (·.1)):=by
 rw[Bool.eq_iff_iff,List.find?_isSome,decide_eq_true_eq];constructor
 .rintro ⟨p,a,h⟩
  rw[<-of_decide_eq_true h];exact mem_map_of_mem a
 .intro h
  obtain⟨p,a,e⟩:=mem_map.mp h;exact⟨p,a,decide_eq_true e⟩
theorem Ew(T:Tb)(n:Str):(aT (bg T) (Sum.inr n)).isSome=decide (n∈aC T):=by
 rw[vH,isSome_map];exact find_some
theorem wI(T:Tb):((bg T).map λp=>keyOf p.1)=(aC T).map D.str:=by
 unfold bg aC;rw[map_map,map_map];rfl
theorem jA(P:aJ)(s:bS):∀n,n∈aA (bu P s)↔n∈aA P\/n=s.2.2:=λn=>by
 unfold bu;split
 .rename_i h
  constructor
  .exact .inl
  .rintro (h'|rfl)
   .exact h'
   .exact h
 .simp[aA]
theorem Bg{P:aJ}(s:bS)(h:(aA P).Nodup):(aA (bu P s)).Nodup:=by
 unfold bu;split
 .exact h
 .rename_i d
  unfold aA;rw[map_append,nodup_append];refine⟨h,by simp,λa e b c=>?_⟩;simp at c;rw[c];exact λz=>d (by rw[<-z];exact e)
theorem ie:∀(xs ys:List Str),xs.Nodup->(∀x∈xs,x∈ys)->xs.length<=ys.length:=by
 intro xs;induction xs with
 |nil=>intro ys _ _;exact zero_le _
 |cons x r d=>
  intro ys e hs;have a:=nodup_cons.mp e;have b:=hs x (mem_cons_self ..);have:=d (ys.erase x) a.2 λy c=>(List.mem_erase_of_ne (λz=>a.1 (by rw[<-z];exact c))).mpr (hs y (mem_cons_of_mem _ c));rw[List.length_erase_of_mem b] at this;have:=List.length_pos_of_mem b;simp;omega
theorem ji{d:List Tb}{n:Str}{s:bS}:s∈cg d n↔∃T,d[s.1]?=some T/\n∈aC T/\s.2.1=n/\s.2.2∈aC T:=by
 unfold cg;rw[mem_flatMap];constructor
 .rintro ⟨⟨T,i⟩,a,hs⟩
  have a:=List.mem_zipIdx_iff_getElem?.mp a;unfold dB at hs;split at hs
  .rename_i b
   obtain⟨o,c,rfl⟩:=mem_map.mp hs;exact⟨T,a,b,rfl,c⟩
  .cases hs
 .rintro ⟨T,f,b,e,c⟩
  refine⟨(T,s.1),List.mem_zipIdx_iff_getElem?.mpr f,?_⟩;unfold dB;rw[if_pos b];exact mem_map.mpr ⟨s.2.2,c,by rw[<-e]⟩
theorem p7:∀(ss:List bS) (P:aJ) (n:Str),n∈aA (ss.foldl bu P)↔n∈aA P\/n∈ss.map (·.2.2)
 |[],P,n=>by simp
 |s::ss,P,n=>by
  rw[foldl_cons,p7 ss,jA];simp[or_assoc]
theorem Bh(P:aJ)(s:bS):∃X,bu P s=P++X:=by
 unfold bu;split
 .exact⟨[],by simp⟩
 .exact⟨_,rfl⟩
theorem lX:∀(ss:List bS) (P:aJ),∃X,ss.foldl bu P=P++X
 |[],P=>⟨[],by simp⟩
 |s::ss,P=>by
  obtain⟨X,e⟩:=Bh P s;obtain⟨Y,a⟩:=lX ss (bu P s);exact⟨X++Y,by rw[foldl_cons,a,e,append_assoc]⟩
def TabAt(A:Ar)(t:Nat)(T:Tb):Prop:=A[t]?=some (.dct (bg T))\/∃o,A[t]?=some (.aS o (bg T))
def TabsAt(A:Ar):List Nat->List Tb->Prop
 |[],[]=>True
 |t::ts,T::Ts=>TabAt A t T/\TabsAt A ts Ts
 |_,_=>False
def gM(A:Ar)(r:Nat)(Ts:List Tb):Prop:=∃ts,A[r]?=some (.lst (ts.map D.ref))/\TabsAt A ts Ts
theorem TabAt.gr{A B:Ar}{t:Nat}{T:Tb}(h:TabAt A t T)(g:Gr A B):TabAt B t T:=by
 rcases h with h|⟨o,h⟩
 .exact .inl (g.get h)
 .exact .inr ⟨o,g.get h⟩
theorem TabsAt.gr{A B:Ar}(g:Gr A B):∀{ts:List Nat} {a:List Tb},TabsAt A ts a->TabsAt B ts a
 |[],[],_=>trivial
 |t::ts,T::a,h=>⟨h.1.gr g,TabsAt.gr g h.2⟩
 |[],_::_,h=>h.elim
 |_::_,[],h=>h.elim
theorem TabsAt.len{A:Ar}:∀{ts:List Nat} {a:List Tb},TabsAt A ts a->ts.length=a.length
 |[],[],_=>rfl
 |t::ts,T::a,h=>by simp[TabsAt.len h.2]
 |[],_::_,h=>h.elim
 |_::_,[],h=>h.elim
theorem TabsAt.get{A:Ar}:∀{ts:List Nat} {a:List Tb} {i t:Nat},TabsAt A ts a->ts[i]?=some t->∃T,a[i]?=some T/\TabAt A t T
 |[],[],i,t,_,e=>by simp at e
 |t::ts,T::a,0,_,h,e=>by
  simp at e;subst e;exact⟨T,rfl,h.1⟩
 |t::ts,T::a,i+1,_,h,e=>by
  obtain⟨b,h1,h2⟩:=TabsAt.get (i:=i) h.2 (by simpa using e);exact⟨b,by simpa using h1,h2⟩
 |[],_::_,_,_,h,_=>h.elim
 |_::_,[],_,_,h,_=>h.elim
theorem gM.gr{A B:Ar}{r:Nat}{a:List Tb}(h:gM A r a)(g:Gr A B):gM B r a:=by
 obtain⟨ts,h1,h2⟩:=h;exact⟨ts,g.get h1,h2.gr g⟩
theorem Em{τ:aV}{A:Ar}{j t:Nat}{ix:List Nat}{te:ao}{R:DK}{T:Tb}(f:D->D)(g:lk τ j=some (.ref t))(l:TabAt A t T)(v:T.length<=1000)
  (b:∀A':Ar,∀o∈aC T,∀Q:DK,Q (f (.str o)) A'->te ([some (.str o)]++ix.map (lk τ)) A' Q)(k:R (.ref A.length) (A++[.lst ((aC T).map λo=>f (.str o))])):uw (iA none ix (jR (dO j)) kO te) τ A R:=by
 have w:(1000:Nat)<=sizeLine:=by decide
 have c:(aC T).length=T.length:=by simp[aC]
 have em:((bg T).map λp=>keyOf p.1)=(aC T).map D.str:=wI T;have go:∀(A':Ar) (o:Obj) (d:DK),A'[t]?=some (.aS o (bg T))->d (.ref A'.length) (A'++[.lst ((aC T).map λo=>f (.str o))])->iA none ix (jR (dO j)) kO te τ A' d:=λA' o d h' m=>by
  unfold iA jR dO;rw[g];refine wu h' ?_;rw[em];refine lF (f:=f) h' _ _ (λx q=>?_) (by simp[c];omega) ?_
  .obtain⟨n,r,rfl⟩:=mem_map.mp q
   exact⟨[.str n],rfl,λQ s=>b A' n r Q s⟩
  .rw[nil_append,map_map]
   exact m
 rcases l with h|⟨o,h⟩
 .have a:=cB h
  refine .inl ⟨t,bg T,h,λo=>go _ o _ (getElem?_set_self a) ⟨bg T,?_,?_⟩⟩
  .rw[getElem?_append_left (by simpa using a)]
   exact getElem?_set_self a
  .have e:(A.set t (.aS o (bg T))++[C.lst ((aC T).map λo=>f (.str o))]).set t (.dct (bg T))=A++[.lst ((aC T).map λo=>f (.str o))]:=by
    rw[List.set_append_left _ _ (by simpa using a),List.set_set];congr 1;refine ext_getElem? λi=>?_;by_cases hi:i=t
    .rw[hi,getElem?_set_self a,h]
    .rw[getElem?_set_ne (Ne.symm hi)]
   rw[e];have u:(A.set t (C.aS o (bg T))).length=A.length:=by simp
   rw[u];exact k
 .exact .inr (go A o R h k)
def s9:Ct:=λds A R _=>∃r n Ts,ds=[.ref r,.str n]/\gM A r Ts/\Ts.length<=7/\(∀T∈Ts,T.length<=32)/\∀A' q,Gr A A'->A'[q]?=some (.lst ((cg Ts n).map dz))->A.length<=q->R (.ref q) A'
theorem pW(ds:List D):(ff ds).length=ds.length:=by simp[ff]
theorem Du{ds:List D}{i:Nat}{x:D}(h:ds[i]?=some x):(ff ds)[i]?=some (.tup [.int ((i:Nat):Int),x]):=by
 unfold ff;rw[getElem?_map,List.getElem?_zipIdx,h];simp
theorem Ml{a:List Tb}{i:Nat}{T:Tb}(h:a[i]?=some T):a.zipIdx.take (i+1)=a.zipIdx.take i++[(T,i)]:=by
 rw[List.take_succ,List.getElem?_zipIdx,h];simp
theorem La(n:Str)(p:Tb×Nat)(h:p.1.length<=32):(dB n p).length<=32:=by
 unfold dB;split
 .simp[aC];exact h
 .simp
theorem vf(n:Str):∀(l:List (Tb×Nat)),(∀p∈l,p.1.length<=32)->(l.flatMap (dB n)).length<=32*l.length
 |[],_=>by simp
 |p::l,h=>by
  have h1:=vf n l λq a=>h q (mem_cons_of_mem _ a);have h2:=La n p (h p (mem_cons_self ..));rw[List.flatMap_cons,length_append,length_cons];omega
end DP
namespace My
open L2 DP MA
theorem Eg(T:TopD K mg "steps_from" zE nD)(a:mg "enumerate"=none):aB P w K mg base 1 "steps_from" nD (ay mg 2 s9):=by
 refine b_ T Kw λO S U E nd=>⟨_,(aG (dS 2 nd (dP ai))
  (aG (fL eE rfl (C4 a (aa (vr 0) ai)) (pJ rfl (gx (dG 3 nd) (gx (dG 4 nd) pK))) (aE (bY (LN E (vr 1) (vr 4)) (aE (e9 (gv plainAttrs_list slot_list_extend type_list_extend qK pF (vr 2) (aa (CQ (iY none (own:=["other"]) (frees:=["place","name"]) (ix:=[3,1]) rfl (uW (vr 4)) (λc=>(pG 0 (show(["other","place","name"]:List Str).Nodup by decide+kernel))) (λc=>(cY (aa (vr 1) (aa (vr 2) (aa (vr 0) ai))))))) ai)))) cz)))
  (aE (aW (vr 2))))),λds A R h V=>?_⟩
 obtain⟨r,n,d,rfl,F,W,f,q⟩:=h;obtain⟨ts,h1,h2⟩:=F;have X:(1000:Nat)<=sizeLine:=by decide
 have m:=h2.len;have len:∀i,((d.zipIdx.take i).flatMap (dB n)).length<=224:=λi=>by
  have:=vf n (d.zipIdx.take i) λp G=>by
   have:=List.mem_zipIdx_iff_getElem?.mp (mem_of_mem_take G);exact f _ (mem_of_getElem? this)
  rw[length_take,List.length_zipIdx] at this;omega
 refine⟨zero_le _,F2 (getElem?_push h1) ?_⟩;refine eZ (λrest τ A'=>∃(i:Nat) (x y:Option D),i<=ts.length/\rest=(ff (ts.map D.ref)).drop i/\τ=[some (.ref r),some (.str n),some (.ref A.length),x,y]/\A'[A.length]?=some (.lst (((d.zipIdx.take i).flatMap (dB n)).map dz))/\Gr A A') ?_ ?_ ?_ _ _ _ ⟨0,none,none,zero_le _,rfl,rfl,aR,Gr.push⟩
 .rintro rest τ A' ⟨i,x,y,_,_,_,_,g⟩
  exact g.get h1
 .rintro v rest τ H ⟨i,x,y,hi,e,rfl,hc,g⟩ Y z
  by_cases j:i<ts.length
  .obtain⟨t,B⟩:∃t,ts[i]?=some t:=⟨ts[i],getElem?_eq_getElem j⟩
   obtain⟨T,C,I⟩:=h2.get B;have k:=I.gr g;have b:i<(ff (ts.map D.ref)).length:=by rw[pW,length_map];exact j
   have ev:=Du (ds:=ts.map D.ref) (i:=i) (x:=.ref t) (by rw[getElem?_map,B];rfl);rw[drop_eq_getElem_cons b] at e;rw[getElem?_eq_getElem b] at ev;have ev:=Option.some.inj ev;rw[ev] at e;cases e;have l:∀L,L=dB n (T,i)->((d.zipIdx.take (i+1)).flatMap (dB n))=((d.zipIdx.take i).flatMap (dB n))++L:=λL J=>by
    rw[Ml C,flatMap_append,J];simp
   have ln:=len i;refine⟨rfl,FH k rfl ?_⟩;rw[if_neg Bool.false_ne_true,Ew];refine cD (λc=>?_) (λc=>?_)
   .have s:dB n (T,i)=(aC T).map (λo=>(i,n,o)):=by unfold dB;rw[if_pos c]
    have M:=f T (mem_of_getElem? C);have u:(aC T).length=T.length:=by simp[aC]
    refine⟨f9 hc,Em (λo=>.tup [.int ((i:Nat):Int),.str n,o]) rfl k (by omega) (λA' o Z Q N=>⟨show 3<=sizeLine by omega,N⟩) ?_⟩;refine pY (getElem?_push hc) aR (by rw[length_map,length_map,u];omega) ?_;have em:((aC T).map λo=>D.tup [.int ((i:Nat):Int),.str n,.str o])=(dB n (T,i)).map dz:=by
     rw[s,map_map];rfl
    refine z _ _ ⟨i+1,_,_,by omega,rfl,rfl,?_,(g.trans Gr.push).set (le_refl _)⟩;rw[l _ rfl,map_append,em];exact get_set (getElem?_push hc)
   .have s:dB n (T,i)=[]:=by unfold dB;rw[if_neg c]
    refine z _ _ ⟨i+1,_,_,by omega,rfl,rfl,?_,g⟩;rw[l _ rfl,s,append_nil];exact hc
  .rw[List.drop_eq_nil_of_le (by rw[pW,length_map];omega)] at e
   cases e
 .rintro τ H ⟨i,x,y,hi,e,rfl,hc,g⟩
  have hi:i=ts.length:=by
   have:=congrArg List.length e;simp[pW] at this;omega
  rw[hi,m,List.take_of_length_le (by rw[List.length_zipIdx];exact le_refl _)] at hc;exact q _ _ g hc (le_refl _)
end My
namespace DP
open L2 MA
theorem wY{P X:aJ}{n:Str}(h:n∈aA P):c5 (P++X) n=c5 P n:=by
 have:=find_some (T:=P) (n:=n);rw[decide_eq_true (show n∈P.map (·.1) from h)] at this;obtain⟨p,a⟩:=isSome_iff_exists.mp this;unfold c5;rw[List.find?_append,a];rfl
theorem GS{P:aJ}{n:Str}{l:List bS}(h:n∉aA P):c5 (P++[(n,l)]) n=l:=by
 have:=find_some (T:=P) (n:=n);rw[decide_eq_false (show ¬n∈P.map (·.1) from h)] at this;have e:P.find? (λp=>decide (p.1=n))=none:=by
  cases e:P.find? (λp=>decide (p.1=n)) with
  |none=>rfl
  |some p=>rw[e] at this;cases this
 unfold c5;rw[List.find?_append,e];simp
theorem qB{P:aJ}{n:Str}(h:n∈aA P):(n,c5 P n)∈P:=by
 have:=find_some (T:=P) (n:=n);rw[decide_eq_true (show n∈P.map (·.1) from h)] at this;obtain⟨p,a⟩:=isSome_iff_exists.mp this;have h1:=mem_of_find?_eq_some a;have h2:=find?_some a;unfold c5;rw[a];have h2:p.1=n:=of_decide_eq_true h2;rw[<-h2];exact h1
def iu(b:Nat)(A:Ar)(P:aJ):Prop:=∃kvs,A[b+1]?=some (.dct kvs)/\A[b+2]?=some (.lst ((aA P).map D.str))/\kvs.map (·.1)=(aA P).map Sum.inr/\∀n∈aA P,∃a,a≠b+2/\b<=a/\aT kvs (Sum.inr n)=some (.ref a)/\A[a]?=some (.lst ((c5 P n).map dz))
structure cP(P:aJ)(NN:List Str):Prop where
 nd:(aA P).Nodup
 sub:∀n∈aA P,n∈NN
 pl:∀p∈P,p.2.length+1<=P.length
theorem cP.len{P:aJ}{NN:List Str}(h:cP P NN):P.length<=NN.length:=by
 have:=ie (aA P) NN h.nd h.sub;simpa[aA] using this
theorem cP.add{P:aJ}{NN:List Str}(h:cP P NN){s:bS}(h1:s.2.1∈aA P)(h2:s.2.2∈NN):cP (bu P s) NN:=by
 refine⟨Bg s h.nd,λn a=>?_,λp hp=>?_⟩
 .rcases (jA P s n).mp a with h'|rfl
  .exact h.sub n h'
  .exact h2
 .unfold bu at hp ⊢
  split at hp
  .rename_i hc
   rw[if_pos hc];exact h.pl p hp
  .rename_i hc
   rw[if_neg hc,length_append];rcases mem_append.mp hp with hp|hp
   .have:=h.pl p hp
    simp;omega
   .rw[mem_singleton.mp hp]
    have:=h.pl _ (qB h1);simp at this ⊢;omega
def dM(lo:Nat)(A:Ar)(q:Nat)(P:aJ):Prop:=lo<=q/\∃kvs,A[q]?=some (.dct kvs)/\kvs.map (·.1)=(aA P).map Sum.inr/\∀n∈aA P,∃a,lo<=a/\aT kvs (Sum.inr n)=some (.ref a)/\A[a]?=some (.lst ((c5 P n).map dz))
theorem dM.gr{A B:Ar}{lo q:Nat}{P:aJ}(h:dM lo A q P)(g:Gr A B):dM lo B q P:=by
 obtain⟨h0,kvs,h1,h2,b⟩:=h;exact⟨h0,kvs,g.get h1,h2,λn c=>by obtain⟨a,z,x,y⟩:=b n c;exact⟨a,z,x,g.get y⟩⟩
theorem dM.set{A:Ar}{lo q t:Nat}{P:aJ}{c:C}(h:dM lo A q P)(g:t<lo):dM lo (A.set t c) q P:=by
 obtain⟨h0,kvs,h1,h2,e⟩:=h;have b:∀(j:Nat) (d:C),lo<=j->A[j]?=some d->(A.set t c)[j]?=some d:=λj d i hd=>by
  rw[getElem?_set_ne (by omega)];exact hd
 exact⟨h0,kvs,b _ _ h0 h1,h2,λn f=>by obtain⟨a,z,x,y⟩:=e n f;exact⟨a,z,x,b _ _ z y⟩⟩
theorem dM.lo{A:Ar}{lo b q:Nat}{P:aJ}(h:dM lo A q P)(e:b<=lo):dM b A q P:=by
 obtain⟨h0,kvs,h1,h2,c⟩:=h;exact⟨by omega,kvs,h1,h2,λn d=>by obtain⟨a,z,x,y⟩:=c n d;exact⟨a,by omega,x,y⟩⟩
theorem iu.gr{A B:Ar}{b:Nat}{P:aJ}(h:iu b A P)(g:Gr A B):iu b B P:=by
 obtain⟨kvs,h1,h2,c,d⟩:=h;exact⟨kvs,g.get h1,g.get h2,c,λn e=>by obtain⟨a,z,f,x,y⟩:=d n e;exact⟨a,z,f,x,g.get y⟩⟩
theorem qp{kvs:List (Key×D)}{ns:List Str}{n:Str}(h:kvs.map (·.1)=ns.map Sum.inr):(aT kvs (Sum.inr n)).isSome=decide (n∈ns):=by
 induction kvs generalizing ns with
 |nil=>
  cases ns with
  |nil=>rfl
  |cons _ _=>cases h
 |cons p kvs a=>
  cases ns with
  |nil=>cases h
  |cons m ns=>
   rw[map_cons,map_cons,List.cons.injEq] at h;show(if p.1=Sum.inr n then some p.2 else aT kvs (Sum.inr n)).isSome=_;rw[h.1];by_cases e:m=n
   .rw[if_pos (by rw[e])]
    simp[e]
   .rw[if_neg (λz=>e (Sum.inr.inj z)),a h.2]
    simp[Ne.symm e]
theorem ly{a:List Tb}{f i:Nat}{P:aJ}{p:Str×List bS}(h:P[i]?=some p):b4 a (f+1) i P=b4 a f (i+1) ((cg a p.1).foldl bu P):=by
 show(match P[i]? with|some p=>b4 a f (i+1) ((cg a p.1).foldl bu P)|none=>P)=_;rw[h]
theorem Bv{a:List Tb}{f i:Nat}{P:aJ}(h:P.length<=i):b4 a f i P=P:=by
 cases f with
 |zero=>rfl
 |succ f=>
  show(match P[i]? with|some p=>b4 a f (i+1) ((cg a p.1).foldl bu P)|none=>P)=_;rw[getElem?_eq_none h]
def oQ:Ct:=λds A R _=>∃r n Ts NN,ds=[.ref r,.str n]/\gM A r Ts/\dW Ts NN/\n∈NN/\∀A' q,Gr A A'->dM A.length A' q (c_ Ts n)->R (.ref q) A'
theorem dU{A:Ar}{i j:Nat}{c d:C}(a:i≠j)(h:A[j]?=some d):(A.set i c)[j]?=some d:=by
 rw[getElem?_set_ne a];exact h
theorem nN{A:Ar}{i:Nat}{c d:C}(h:A[i]?=some d):(A.set i c)[i]?=some c:=getElem?_set_self (cB h)
theorem Gq{kvs:List (Key×D)}{ns:List Str}{n:Str}{v:D}(h:kvs.map (·.1)=ns.map Sum.inr)(a:n∉ns):(bh kvs (Sum.inr n) v).map (·.1)=(ns++[n]).map Sum.inr:=by
 rw[qZ (λp b z=>?_)]
 .simp[h]
 .have:p.1∈kvs.map (·.1):=mem_map_of_mem b
  rw[h,z] at this;obtain⟨m,c,e⟩:=mem_map.mp this;rw[<-Sum.inr.inj e] at a;exact a c
end DP
namespace My
open L2 DP MA
theorem Eb(T:TopD K mg "paths_from" zz ny)(u:mg "len"=none)(b:aB P w K mg base 1 "steps_from" nD (ay mg 2 s9)):aB P w K mg base 2 "paths_from" ny (ay mg 2 oQ):=by
 refine b_ T Kr λhr hR hx t nd=>⟨_,(aG (dS 2 nd (uH (vr 1) (dP ai)))
  (aG (dS 3 nd (dP (aa (vr 1) ai)))
  (aG (dS 4 nd aq)
  (aG (pQ eE (z_ (vr 4) (cJ dZ dh u PySem.boot_len (aa (vr 3) ai))) (aG (fL eE rfl (ef (dL b hr hx (aa (vr 0) (aa (dX t (vr 3) (vr 4)) ai)))) (dG 5 nd) (aE (bY (jq t (dX t (vr 5) aq) (vr 2)) (aG (lR t (vr 2) (dX t (vr 5) aq) (d_ (dX t (vr 2) (dX t (vr 5) aq)) (dP (aa (vr 5) ai))) rfl)
  (aE (e9 (gv plainAttrs_list PySem.F.slot_list_append PySem.F.type_list_append iG iX (vr 3) (aa (dX t (vr 5) aq) ai))))) cz)))
  (aE (Dc (i:=4) nd rfl (by first|exact Or.inl rfl|exact Or.inr rfl) aq))))
  (aE (aW (vr 2))))))),λds A R h hl=>?_⟩
 obtain⟨r,n,l,NN,rfl,hB,hok,hn,q⟩:=h;have hz:(1000:Nat)<=sizeLine:=by decide
 have e1:(A++[C.lst []]).length=A.length+1:=by simp
 have e2:(A++[C.lst []]++[C.dct [(Sum.inr n,D.ref A.length)]]).length=A.length+2:=by simp
 refine⟨zero_le _,show 1<=sizeLine by omega,?_⟩;have gz:iu A.length (A++[C.lst []]++[C.dct [(Sum.inr n,D.ref A.length)]]++[C.lst [D.str n]]) [(n,[])]:=by
  refine⟨[(Sum.inr n,D.ref A.length)],?_,?_,rfl,λm hm=>⟨A.length,by omega,le_refl _,?_,?_⟩⟩
  .rw[<-e1];exact getElem?_push aR
  .rw[<-e2];exact aR
  .have:m=n:=by simpa[aA] using hm
   subst this;exact if_pos rfl
  .have:m=n:=by simpa[aA] using hm
   subst this;have e:c5 [(m,[])] m=[]:=by simp[c5]
   rw[e];exact getElem?_push (getElem?_push aR)
 refine⟨λk τ A'=>∃(i:Nat) (Q:aJ) (x:Option D),k=13 - i/\τ=[some (.ref r),some (.str n),some (.ref (A++[C.lst []]).length),some (.ref (A++[C.lst []]++[C.dct [(Sum.inr n,D.ref A.length)]]).length),some (.int ((i:Nat):Int)),x]/\i<=Q.length/\iu A.length A' Q/\cP Q NN/\b4 l (14 - i) i Q=c_ l n/\Gr A A',⟨13,0,[(n,[])],none,rfl,rfl,by simp,gz,⟨by simp[aA],λm hm=>by
   have:m=n:=by simpa[aA] using hm
   rw[this];exact hn,λp L=>by
   have:p=(n,[]):=by simpa using L
   rw[this];simp⟩,rfl,((Gr.push.trans Gr.push).trans Gr.push)⟩,?_⟩
 rw[e1,e2];rintro k τ A1 ⟨i,Q,x,rfl,rfl,hi,hS,hP,hb,Z⟩;have MM:Q.length<=12:=le_trans hP.len hok.nn;obtain⟨M,hd0,B,hk0,hv0⟩:=id hS;refine jf B ?_;have N:((aA Q).map D.str).length=Q.length:=by simp[aA]
 refine cD (λc=>?_) (λc=>?_)
 .rw[N] at c
  have c:i<Q.length:=by omega
  obtain⟨p,L⟩:∃p,Q[i]?=some p:=⟨Q[i],getElem?_eq_getElem c⟩;have Fd:p.1∈aA Q:=mem_map_of_mem (mem_of_getElem? L);refine⟨λτ A'=>∃(H:aJ) (x:Option D),τ=[some (.ref r),some (.str n),some (.ref (A.length+1)),some (.ref (A.length+2)),some (.int ((i+1:Nat):Int)),x]/\i+1<=H.length/\iu A.length A' H/\cP H NN/\b4 l (14 - (i+1)) (i+1) H=c_ l n/\Gr A A',λaO A' ⟨H,x,h1,h2,O,h4,h5,h6⟩=>⟨13 - (i+1),by omega,i+1,H,x,rfl,h1,h2,O,h4,h5,h6⟩,?_⟩;refine wz B (v:=.str p.1) (tL (by rw[getElem?_map];unfold aA;rw[getElem?_map,L];rfl)) ?_;refine⟨rfl,r,p.1,l,rfl,hB.gr Z,hok.len,λT hT=>(hok.tok T hT).len,λA2 q2 g2 h2 l2=>?_⟩;have gl:=Z.len;have lr:=cB B;refine gb h2 ?_;refine eZ (λrest τ A'=>∃(dn more:List bS) (x:Option D),rest=more.map dz/\dn++more=cg l p.1/\τ=[some (.ref r),some (.str n),some (.ref (A.length+1)),some (.ref (A.length+2)),some (.int ((i:Nat):Int)),x]/\iu A.length A' (dn.foldl bu Q)/\cP (dn.foldl bu Q) NN/\A'[q2]?=some (.lst ((cg l p.1).map dz))/\Gr A A') ?_ ?_ ?_ _ _ _ ⟨[],cg l p.1,x,rfl,rfl,rfl,hS.gr g2,hP,h2,Z.trans g2⟩
  .rintro rest τ A' ⟨dn,more,x,_,_,_,_,_,h,_⟩
   exact h
  .rintro v rest τ S ⟨dn,more,x,e,f,rfl,s,g,O,g3⟩ Nx hN
   cases more with
   |nil=>cases e
   |cons st more=>
   cases e;have hst:st∈cg l p.1:=by rw[<-f];simp
   obtain⟨T,hT,hn1,hn2,Fb⟩:=ji.mp hst;obtain⟨kvs,hd,U,hk,hv⟩:=id s;have d:(dn++[st]).foldl bu Q=bu (dn.foldl bu Q) st:=by rw[foldl_append];rfl
   generalize EX:dn.foldl bu Q=j at*
   have E:st.2.1∈aA j:=by
    rw[<-EX,p7,hn2];exact .inl Fd
   have JS:st.2.2∈NN:=hok.sub T (mem_of_getElem? hT) _ Fb;have l3:j.length<=12:=le_trans g.len hok.nn;refine fP hd rfl ?_;rw[if_pos rfl,qp hk];refine cN (λI=>?_) (λI=>?_)
   .obtain⟨a1,na,MW,ga,ha⟩:=hv _ E
    refine gE hd rfl ga ?_;have hpl:=g.pl _ (qB E);simp at hpl;refine⟨show 1<=sizeLine by omega,pe (getElem?_push ha) aR (by simp;omega) ?_⟩;have MT:kvs.length=j.length:=by
     have:=congrArg List.length hk;simpa[aA] using this
    refine nG (getElem?_push (getElem?_push hd)) rfl (by omega) ?_;have V:=getElem?_push (T:=[C.lst ((c5 j st.2.1).map dz++[dz st])]) (getElem?_push (T:=[C.lst [dz st]]) U);have hd2:=getElem?_push (T:=[C.lst ((c5 j st.2.1).map dz++[dz st])]) (getElem?_push (T:=[C.lst [dz st]]) hd);have o:=dU (i:=A.length+1) (c:=C.dct (bh kvs (Sum.inr st.2.2) (D.ref (S++[C.lst [dz st]]).length))) (by omega) V;refine⟨f9 o,iy o (by simp[aA];omega) ?_⟩;have M0:A1.length<=q2:=l2;have nq:A.length+2≠q2:=by omega
    have Hu:A.length+1≠q2:=by omega
    have J:bu j st=j++[(st.2.2,c5 j st.2.1++[st])]:=by unfold bu;rw[if_neg I]
    have ek:aA (bu j st)=aA j++[st.2.2]:=by rw[J];simp[aA]
    refine hN _ _ ⟨dn++[st],more,_,rfl,by simpa using f,rfl,?_,?_,?_,?_⟩
    .rw[d]
     refine⟨_,dU (by omega) (nN hd2),?_,?_,λm hm=>?_⟩
     .rw[ek,map_append]
      exact nN o
     .rw[ek]
      exact Gq hk I
     .rw[ek] at hm
      have la:(S++[C.lst [dz st]]).length=S.length+1:=by simp
      have MV:=cB U;rcases mem_append.mp hm with hm|hm
      .obtain⟨a,W,Y,Ep,G⟩:=hv m hm
       have hne:¬(Sum.inr st.2.2:Key)=Sum.inr m:=λz=>I (by rw[Sum.inr.inj z];exact hm);refine⟨a,W,Y,by rw[qb,if_neg hne];exact Ep,?_⟩;rw[J,wY hm];have hd':A.length+1≠a:=λz=>by rw[<-z,hd] at G;cases G
       exact dU (Ne.symm W) (dU hd' (getElem?_push (getElem?_push G)))
      .have hm:m=st.2.2:=by simpa using hm
       subst hm;refine⟨(S++[C.lst [dz st]]).length,by omega,by omega,by rw[qb,if_pos rfl],?_⟩;rw[J,GS I,map_append];exact dU (by omega) (dU (by omega) aR)
    .rw[d]
     exact g.add E JS
    .exact dU nq (dU Hu (getElem?_push (getElem?_push O)))
    .exact((((g3.trans Gr.push).trans Gr.push).set (by omega)).set (by omega))
   .have J:bu j st=j:=by unfold bu;rw[if_pos I]
    refine hN _ _ ⟨dn++[st],more,_,rfl,by simpa using f,rfl,?_,?_,O,g3⟩
    .rw[d,J];exact s
    .rw[d,J];exact g
  .rintro τ S ⟨dn,more,x,e,f,rfl,s,g,O,g3⟩
   cases more with
   |cons _ _=>cases e
   |nil=>
   have f:dn=cg l p.1:=by simpa using f
   subst f;refine⟨_,x,by rfl,?_,s,g,?_,g3⟩
   .obtain⟨X,e⟩:=lX (cg l p.1) Q
    rw[e,length_append];omega
   .rw[<-hb,show 14 - i=(14 - (i+1))+1 by omega,ly L]
 .rw[N] at c
  have c:Q.length<=i:=by omega
  rw[Bv c] at hb;rw[<-hb] at q;refine q A1 _ Z ⟨by omega,M,hd0,hk0,λm hm=>?_⟩;obtain⟨a,_,z,x,y⟩:=hv0 m hm;exact⟨a,z,x,y⟩
end My
namespace DP
open L2 MA
end DP
namespace My
open L2 DP MA
end My
namespace DP
open L2 MA
end DP
namespace My
open L2 DP MA
end My
namespace DP
open L2 MA
end DP
namespace My
open L2 DP MA
end My
namespace DP
open L2 MA
theorem Ez{A b:Ar}{r:Nat}{o:Obj}{kvs:List (Key×D)}(h:A[r]?=some (.dct kvs))(g:Gr (A.set r (.aS o kvs)) b):b[r]?=some (.aS o kvs)/\Gr A (b.set r (.dct kvs)):=by
 obtain⟨T,rfl⟩:=g;have a:=(List.getElem?_eq_some_iff.mp h).1;refine⟨by rw[getElem?_append_left (by simpa using a),getElem?_set_self a],T,?_⟩;rw[List.set_append_left _ _ (by simpa using a),List.set_set];congr 1;apply ext_getElem?;intro i;by_cases e:i=r
 .subst e;rw[getElem?_set_self a,h]
 .rw[getElem?_set_ne (Ne.symm e)]
end DP
namespace My
open L2 DP MA
end My
namespace DP
open L2 MA
def eu(Gs:List aJ):List Str:=Gs.flatMap aA
def bz(Ts:List Tb)(Gs:List aJ)(n:Str):List aJ:=if n∈eu Gs then Gs else Gs++[c_ Ts n]
def cZ(Ts:List Tb):List aJ:=(Ts.flatMap aC).foldl (bz Ts) []
def cX(lo:Nat)(A:Ar):List Nat->List aJ->Prop
 |[],[]=>True
 |q::qs,P::Ps=>dM lo A q P/\cX lo A qs Ps
 |_,_=>False
theorem cX.ia{lo a:Nat}{A B:Ar}(f:∀q P,dM lo A q P->dM a B q P):∀{qs:List Nat} {Ps:List aJ},cX lo A qs Ps->cX a B qs Ps
 |[],[],_=>trivial
 |q::qs,P::Ps,h=>⟨f q P h.1,cX.ia f h.2⟩
 |[],_::_,h=>h.elim
 |_::_,[],h=>h.elim
theorem cX.snoc{lo:Nat}{A:Ar}{q:Nat}{P:aJ}(a:dM lo A q P):∀{qs:List Nat} {Ps:List aJ},cX lo A qs Ps->cX lo A (qs++[q]) (Ps++[P])
 |[],[],_=>⟨a,trivial⟩
 |_::qs,_::Ps,h=>⟨h.1,cX.snoc a h.2⟩
 |[],_::_,h=>h.elim
 |_::_,[],h=>h.elim
theorem cX.len{lo:Nat}{A:Ar}:∀{qs:List Nat} {Ps:List aJ},cX lo A qs Ps->qs.length=Ps.length
 |[],[],_=>rfl
 |q::qs,P::Ps,h=>by simp[cX.len h.2]
 |[],_::_,h=>h.elim
 |_::_,[],h=>h.elim
def Bb(lo:Nat)(A:Ar)(q:Nat)(Gs:List aJ):Prop:=lo<=q/\∃gs,A[q]?=some (.lst (gs.map D.ref))/\cX lo A gs Gs
def gO(b:Nat)(NN:List Str)(A:Ar)(Gs:List aJ):Prop:=∃(gs:List Nat) (kvs:List (Key×D)) (ns:List Str),A[b]?=some (.lst (gs.map D.ref))/\cX (b+2) A gs Gs/\A[b+1]?=some (.dct kvs)/\kvs.map (·.1)=ns.map Sum.inr/\ns.Nodup/\(∀n,n∈ns↔n∈eu Gs)/\∀n∈ns,n∈NN
theorem gO.set{b t:Nat}{NN:List Str}{A:Ar}{Gs:List aJ}{c:C}(h:gO b NN A Gs)(e:t<b):gO b NN (A.set t c) Gs:=by
 obtain⟨gs,kvs,ns,h1,h2,a,d⟩:=h;exact⟨gs,kvs,ns,dU (by omega) h1,h2.ia λq P z=>z.set (by omega),dU (by omega) a,d⟩
theorem GF{kvs:List (Key×D)}{ns:List Str}(h:kvs.map (·.1)=ns.map Sum.inr):∃ps:List (Str×D),kvs=ps.map (λp=>((Sum.inr p.1:Key),p.2))/\ps.map (·.1)=ns:=by
 induction kvs generalizing ns with
 |nil=>
  cases ns with
  |nil=>exact⟨[],rfl,rfl⟩
  |cons _ _=>cases h
 |cons p kvs a=>
  cases ns with
  |nil=>cases h
  |cons m ns=>
   rw[map_cons,map_cons,List.cons.injEq] at h;obtain⟨ps,b,c⟩:=a h.2;exact⟨(m,p.2)::ps,by rw[map_cons,<-b,<-h.1],by rw[map_cons,c]⟩
theorem G5{kvs more:List (Key×D)}{ns ms:List Str}(h1:kvs.map (·.1)=ns.map Sum.inr)(h2:more.map (·.1)=ms.map Sum.inr)(b:ns.Nodup):∃a:List Str,(ic kvs more).map (·.1)=a.map Sum.inr/\a.Nodup/\∀n,n∈a↔n∈ns\/n∈ms:=by
 obtain⟨ps,c,d⟩:=GF h2;obtain⟨a,k1,k2,k3⟩:=vp ps kvs ns h1 b;refine⟨a,?_,k2,λn=>by rw[k3,d]⟩;unfold ic;rw[c];exact k1
theorem tS{a:List Tb}{NN:List Str}(hok:dW a NN):∀(f i:Nat) (P:aJ),cP P NN->cP (b4 a f i P) NN/\∃X,b4 a f i P=P++X
 |0,i,P,h=>⟨h,[],by simp[b4]⟩
 |f+1,i,P,h=>by
  cases e:P[i]? with
  |none=>
   have:b4 a (f+1) i P=P:=by
    show(match P[i]? with|some p=>b4 a f (i+1) ((cg a p.1).foldl bu P)|none=>P)=_;rw[e]
   rw[this];exact⟨h,[],by simp⟩
  |some p=>
   rw[ly e];have key:∀(ss:List bS) (Q:aJ),(∀s∈ss,s∈cg a p.1)->cP Q NN->p.1∈aA Q->cP (ss.foldl bu Q) NN:=by
    intro ss;induction ss with
    |nil=>intro Q _ h _;exact h
    |cons s ss c=>
     intro Q hs d b;obtain⟨T,g,_,j,k⟩:=ji.mp (hs s (mem_cons_self ..));refine c _ (λx l=>hs x (mem_cons_of_mem _ l)) (d.add (by rw[j];exact b) (hok.sub T (mem_of_getElem? g) _ k)) ?_;exact(jA Q s p.1).mpr (.inl b)
   have b:p.1∈aA P:=mem_map_of_mem (mem_of_getElem? e);obtain⟨h1,X,h2⟩:=tS hok f (i+1) _ (key (cg a p.1) P (λs h=>h) h b);obtain⟨Y,m⟩:=lX (cg a p.1) P;exact⟨h1,Y++X,by rw[h2,m,append_assoc]⟩
theorem kh{a:List Tb}{NN:List Str}(hok:dW a NN){n:Str}(b:n∈NN):cP (c_ a n) NN/\n∈aA (c_ a n)/\c5 (c_ a n) n=[]:=by
 have h0:cP [(n,[])] NN:=⟨by simp[aA],λm c=>by
  have:m=n:=by simpa[aA] using c
  rw[this];exact b,λp d=>by
  have:p=(n,[]):=by simpa using d
  rw[this];simp⟩
 obtain⟨h1,X,h2⟩:=tS hok 14 0 _ h0;have e:n∈aA [(n,([]:List bS))]:=by simp[aA]
 refine⟨h1,?_,?_⟩
 .show n∈aA (b4 a 14 0 [(n,[])])
  rw[h2];simp[aA]
 .show c5 (b4 a 14 0 [(n,[])]) n=[]
  rw[h2,wY e];simp[c5]
theorem EC{a:List Tb}{NN:List Str}(hok:dW a NN){Gs:List aJ}{n:Str}(b:n∈NN):n∈eu (bz a Gs n)/\∀m∈eu Gs,m∈eu (bz a Gs n):=by
 unfold bz;split
 .rename_i h
  exact⟨h,λ_ h=>h⟩
 .unfold eu
  rw[flatMap_append];refine⟨mem_append_right _ ?_,λm c=>mem_append_left _ c⟩;simp;exact(kh hok b).2.1
theorem vL{a:List Tb}{NN:List Str}(hok:dW a NN):∀(ns:List Str) (Gs:List aJ),(∀n∈ns,n∈NN)->(∀n∈ns,n∈eu (ns.foldl (bz a) Gs))/\∀m∈eu Gs,m∈eu (ns.foldl (bz a) Gs)
 |[],Gs,_=>⟨(λ_ h=>by cases h),λ_ h=>h⟩
 |n::ns,Gs,h=>by
  obtain⟨k1,k2⟩:=EC hok (Gs:=Gs) (h n (mem_cons_self ..));obtain⟨c,b⟩:=vL hok ns (bz a Gs n) λm hm=>h m (mem_cons_of_mem _ hm);refine⟨λm hm=>?_,λm hm=>b m (k2 m hm)⟩;rcases mem_cons.mp hm with rfl|hm
  .exact b _ k1
  .exact c m hm
theorem EB{a:List Tb}{NN:List Str}(hok:dW a NN){T:Tb}(b:T∈a){n:Str}(c:n∈aC T):n∈eu (cZ a):=by
 refine(vL hok (a.flatMap aC) [] λm d=>?_).1 n (mem_flatMap.mpr ⟨T,b,c⟩);obtain⟨e,h1,h2⟩:=mem_flatMap.mp d;exact hok.sub e h1 m h2
theorem qd(a:List Tb):∀(ns:List Str) (Gs:List aJ),(ns.foldl (bz a) Gs).length<=Gs.length+ns.length
 |[],Gs=>le_refl _
 |n::ns,Gs=>by
  have h:=qd a ns (bz a Gs n);have h2:(bz a Gs n).length<=Gs.length+1:=by
   unfold bz;split
   .omega
   .simp
  rw[foldl_cons,length_cons];omega
theorem xx:∀(a:List Tb),(∀T∈a,T.length<=32)->(a.flatMap aC).length<=32*a.length
 |[],_=>by simp
 |T::a,h=>by
  have h1:=xx a λq b=>h q (mem_cons_of_mem _ b);have h2:=h T (mem_cons_self ..);have e:(aC T).length=T.length:=by simp[aC]
  rw[List.flatMap_cons,length_append,length_cons];omega
def sM:Ct:=λds A R _=>∃r Ts NN,ds=[.ref r]/\gM A r Ts/\dW Ts NN/\∀A' q,Gr A A'->Bb A.length A' q (cZ Ts)->R (.ref q) A'
theorem TabsAt.fz{A:Ar}{t:Nat}{o:Obj}{T0:Tb}(h0:A[t]?=some (.dct (bg T0))):∀{ts:List Nat} {a:List Tb},TabsAt A ts a->TabsAt (A.set t (.aS o (bg T0))) ts a
 |[],[],_=>trivial
 |q::qs,T::a,h=>by
  refine⟨?_,TabsAt.fz h0 h.2⟩;by_cases e:t=q
  .subst e
   rcases h.1 with h'|⟨o',h'⟩
   .rw[h0] at h'
    have b:bg T0=bg T:=by
     have h':=Option.some.inj h';injection h'
    exact .inr ⟨o,by rw[getElem?_set_self (cB h0),b]⟩
   .rw[h0] at h'
    cases h'
  .rcases h.1 with h'|⟨o',h'⟩
   .exact .inl (dU e h')
   .exact .inr ⟨o',dU e h'⟩
 |[],_::_,h=>h.elim
 |_::_,[],h=>h.elim
end DP
namespace My
open L2 DP MA
theorem D0(T:TopD K mg "groups" zo nh)(b:aB P w K mg base 2 "paths_from" ny (ay mg 2 oQ)):aB P w K mg base 3 "groups" nh (ay mg 1 sM):=by
 refine g5 T zG rfl (by decide) λN RE f cdv B outer s H E hr hR hx ds A R h hl=>?_;have hu:=hr.units;have nd:=zG.nd;refine⟨_,(aG (dS 1 nd (dP ai))
  (aG (dS 2 nd uJ)
  (aG (fL eE rfl (ef (vr 0)) (dG 3 nd) (aE (De (fL eE rfl (uW (vr 3)) (dG 4 nd) (aE (bY (jq hu (vr 4) (vr 2)) (aG (dS 5 nd (dL b hr hx (aa (vr 0) (aa (vr 4) ai))))
  (aG (e9 (CU PySem.F.plainAttrs_dict PySem.F.slot_dict_update PySem.F.type_dict_update G6 CJ (vr 2) (aa (vr 5) ai)))
  (aE (e9 (gv plainAttrs_list PySem.F.slot_list_append PySem.F.type_list_append iG iX (vr 1) (aa (vr 5) ai)))))) cz))))))
  (aE (aW (vr 1)))))),?_⟩
 obtain⟨r,a,NN,rfl,hB,hok,q⟩:=h;obtain⟨ts,h1,h2⟩:=id hB;have hz:(1000:Nat)<=sizeLine:=by decide
 have e1:(A++[C.lst []]).length=A.length+1:=by simp
 have g0:Gr A (A++[C.lst []]++[C.dct []]):=Gr.push.trans Gr.push;refine⟨zero_le _,gb (g0.get h1) ?_⟩;rw[e1];have gz:gO A.length NN (A++[C.lst []]++[C.dct []]) []:=⟨[],[],[],getElem?_push aR,trivial,by rw[<-e1];exact aR,rfl,nodup_nil,λn=>by simp[eu],λn h=>by cases h⟩;refine eZ (λrest τ A'=>∃(i:Nat) (x y z:Option D),i<=ts.length/\rest=(ts.map D.ref).drop i/\τ=[some (.ref r),some (.ref A.length),some (.ref (A.length+1)),x,y,z]/\gO A.length NN A' (((a.take i).flatMap aC).foldl (bz a) [])/\Gr A A') ?_ ?_ ?_ _ _ _ ⟨0,none,none,none,zero_le _,rfl,rfl,gz,g0⟩
 .rintro rest τ A' ⟨i,x,y,z,_,_,_,_,g⟩
  exact g.get h1
 .rintro v rest τ A1 ⟨i,x,y,z,hi,e,rfl,V,g⟩ Nx hN
  by_cases hlt:i<ts.length
  .obtain⟨t,ht⟩:∃t,ts[i]?=some t:=⟨ts[i],getElem?_eq_getElem hlt⟩
   obtain⟨T0,hT,hA⟩:=h2.get ht;have Mz:=hA.gr g;have J:i<(ts.map D.ref).length:=by rw[length_map];exact hlt
   have ev:(ts.map D.ref)[i]?=some (.ref t):=by rw[getElem?_map,ht];rfl
   rw[drop_eq_getElem_cons J] at e;rw[getElem?_eq_getElem J] at ev;have ev:=Option.some.inj ev;rw[ev] at e;cases e;have wc:T0∈a:=mem_of_getElem? hT;have tl:t<A.length:=by
    rcases hA with h'|⟨_,h'⟩
    .exact cB h'
    .exact cB h'
   have DG:(a.take (i+1)).flatMap aC=(a.take i).flatMap aC++aC T0:=by
    rw[List.take_succ,hT,flatMap_append];simp
   obtain⟨L,O⟩:∃G,G=((a.take i).flatMap aC).foldl (bz a) []:=⟨_,rfl⟩;have M:((a.take (i+1)).flatMap aC).foldl (bz a) []=(aC T0).foldl (bz a) L:=by rw[DG,foldl_append,O]
   rw[<-O] at V;have em:((bg T0).map λp=>keyOf p.1)=(aC T0).map D.str:=wI T0;have go:∀(o:Obj) (Q B1:Ar) (Dn:iO),Q.length=A.length->Q[t]?=some (.aS o (bg T0))->gM Q r a->Gr Q B1->gO A.length NN B1 L->(∀(W:Ar) (y z:Option D),gO A.length NN W ((aC T0).foldl (bz a) L)->Gr Q W->Dn.nx [some (.ref r),some (.ref A.length),some (.ref (A.length+1)),some (.ref t),y,z] W)->
     yV (jR (dO 3)) (gN 4) (yW (d9 (b5 (inD true) (dO 4) (dO 2))) (rB (nK 5 (pC 2 oQ RE (jJ (dO 0) (jJ (dO 4) lH)))) (rB (rA (uy rZ (dO 2) (jJ (dO 5) lH))) (rA (ux oX (dO 1) (jJ (dO 5) lH))))) yX) Dn [some (.ref r),some (.ref A.length),some (.ref (A.length+1)),some (.ref t),y,z] B1:=λo Q B1 Dn MF hf EJ g1 EY fin=>by
    refine wu (g1.get hf) ?_;rw[em];refine eZ (λrest τ Y=>∃(dn more:List Str) (y z:Option D),rest=more.map D.str/\dn++more=aC T0/\τ=[some (.ref r),some (.ref A.length),some (.ref (A.length+1)),some (.ref t),y,z]/\gO A.length NN Y (dn.foldl (bz a) L)/\Gr Q Y) ?_ ?_ ?_ _ _ _ ⟨[],aC T0,y,z,rfl,rfl,rfl,EY,g1⟩
    .rintro rest τ Y ⟨_,_,_,_,_,_,_,_,g'⟩
     exact g'.get hf
    .rintro v rest τ Y ⟨dn,more,y,z,e,d,rfl,I,g'⟩ Mr vR
     cases more with
     |nil=>cases e
     |cons n more=>
     cases e;have Fc:n∈aC T0:=by rw[<-d];simp
     have v7:n∈NN:=hok.sub T0 wc n Fc;have k:(dn++[n]).foldl (bz a) L=bz a (dn.foldl (bz a) L) n:=by rw[foldl_append];rfl
     generalize ER:dn.foldl (bz a) L=Z at*
     obtain⟨gs,kvs,ns,k1,k2,k3,k4,k5,k6,k7⟩:=id I;refine fP k3 rfl ?_;rw[if_pos rfl,qp k4];refine cN (λc=>?_) (λc=>?_)
     .have S:n∉eu Z:=λz=>c ((k6 n).mpr z)
      obtain⟨yj,_,_⟩:=kh hok v7;refine⟨rfl,r,n,a,NN,rfl,EJ.gr g',hok,v7,λW q2 u h2=>?_⟩;obtain⟨lq,l,m1,m2,m3⟩:=id h2;have lB:=cB k3;have ln:ns.length<=12:=le_trans (ie ns NN k5 k7) hok.nn;have MQ:kvs.length=ns.length:=by
       have:=congrArg List.length k4;simpa using this
      have MR:l.length=(c_ a n).length:=by
       have:=congrArg List.length m2;simpa[aA] using this
      have lP:=yj.len;have MY:=hok.nn;refine⟨FQ (u.get k3),L7 (u.get k3) m1 (by omega) (by omega) ?_⟩;have hb:=dU (i:=A.length+1) (j:=A.length) (c:=C.dct (ic kvs l)) (by omega) (u.get k1);have wU:=k2.len;refine⟨f9 hb,iy hb ?_ ?_⟩
      .rw[length_map,wU]
       have l1:=qd a dn L;have l2:=qd a ((a.take i).flatMap aC) [];have l3:=xx (a.take i) λT' qf=>(hok.tok T' (mem_of_mem_take qf)).len;have l4:dn.length<=32:=by
        have h1:=congrArg List.length d;have h2:=(hok.tok T0 wc).len;have e:(aC T0).length=T0.length:=by simp[aC]
        rw[length_append] at h1;omega
       rw[length_take] at l3;have h7:=hok.len;rw[ER] at l1;rw[<-O] at l2;rw[length_nil,zero_add] at l2;omega
      obtain⟨ns',j1,j2,j3⟩:=G5 k4 m2 k5;have eg:bz a Z n=Z++[c_ a n]:=by unfold bz;rw[if_neg S]
      refine vR _ _ ⟨dn++[n],more,_,_,rfl,by simpa using d,rfl,?_,?_⟩
      .rw[k,eg]
       refine⟨gs++[q2],_,ns',?_,?_,dU (by omega) (nN (u.get k3)),j1,j2,λm=>?_,λm hm=>?_⟩
       .rw[map_append]
        exact nN hb
       .refine cX.snoc ?_ (k2.ia λq P z=>((z.gr u).set (by omega)).set (by omega))
        exact((h2.lo (by omega)).set (by omega)).set (by omega)
       .rw[j3,k6]
        simp[eu]
       .rcases (j3 m).mp hm with h'|h'
        .exact k7 m h'
        .exact yj.sub m h'
      .exact(((g'.trans u).set (by omega)).set (by omega))
     .have S:n∈eu Z:=(k6 n).mp c
      have eg:bz a Z n=Z:=by unfold bz;rw[if_pos S]
      refine vR _ _ ⟨dn++[n],more,_,_,rfl,by simpa using d,rfl,?_,g'⟩;rw[k,eg];exact I
    .rintro τ Y ⟨dn,more,y,z,e,d,rfl,I,g'⟩
     cases more with
     |cons _ _=>cases e
     |nil=>
     have d:dn=aC T0:=by simpa using d
     subst d;exact fin Y y z I g'
   rcases hA with hd|⟨o,hd⟩
   .refine .inl ⟨t,bg T0,g.get hd,λo=>?_⟩
    have Mu:A1.set t (.aS o (bg T0))=A1.set t (.aS o (bg T0)):=rfl;have EH:Gr (A.set t (.aS o (bg T0))) (A1.set t (.aS o (bg T0))):=by
     obtain⟨X,rfl⟩:=g;exact⟨X,by rw[List.set_append_left _ _ tl]⟩
    refine go o (A.set t (.aS o (bg T0))) _ _ (by simp) (getElem?_set_self tl) ⟨ts,?_,h2.fz hd⟩ EH (V.set tl) λW y z U u=>?_
    .have:t≠r:=λz=>by rw[z,h1] at hd;cases hd
     exact dU this h1
    .obtain⟨u1,u2⟩:=Ez hd u
     refine⟨bg T0,u1,hN _ _ ⟨i+1,_,_,_,by omega,rfl,rfl,?_,u2⟩⟩;rw[M];exact U.set tl
   .refine .inr (go o A _ _ rfl hd hB g V λW y z U u=>hN _ _ ⟨i+1,_,_,_,by omega,rfl,rfl,?_,u⟩)
    rw[M];exact U
  .rw[List.drop_eq_nil_of_le (by rw[length_map];omega)] at e
   cases e
 .rintro τ A1 ⟨i,x,y,z,hi,e,rfl,V,g⟩
  have hi:i=ts.length:=by
   have:=congrArg List.length e;simp at this;omega
  have GW:=h2.len;rw[hi,GW,List.take_length] at V;obtain⟨gs,kvs,ns,k1,k2,_⟩:=V;exact q _ _ g ⟨le_refl _,gs,k1,k2.ia λq P z=>z.lo (by omega)⟩
end My
namespace DP
open L2 MA
def oU(Ts:List Tb)(s:bS):Prop:=∃T,Ts[s.1]?=some T/\s.2.1∈aC T/\s.2.2∈aC T
end DP
namespace My
open L2 DP MA
end My
namespace DP
open L2 MA
theorem cX.get{lo:Nat}{A:Ar}:∀{qs:List Nat} {Ps:List aJ} {i q:Nat},cX lo A qs Ps->qs[i]?=some q->∃P,Ps[i]?=some P/\dM lo A q P
 |[],[],i,t,_,e=>by simp at e
 |t::ts,T::a,0,_,h,e=>by
  simp at e;subst e;exact⟨T,rfl,h.1⟩
 |t::ts,T::a,i+1,_,h,e=>by
  obtain⟨b,h1,h2⟩:=cX.get (i:=i) h.2 (by simpa using e);exact⟨b,by simpa using h1,h2⟩
 |[],_::_,_,_,h,_=>h.elim
 |_::_,[],_,_,h,_=>h.elim
theorem vM{a:List Tb}:∀(ns:List Str) (Gs:List aJ) (P:aJ),P∈ns.foldl (bz a) Gs->P∈Gs\/∃n∈ns,P=c_ a n
 |[],Gs,P,h=>.inl h
 |n::ns,Gs,P,h=>by
  rcases vM ns (bz a Gs n) P h with h|⟨m,h1,h2⟩
  .unfold bz at h
   split at h
   .exact .inl h
   .rcases mem_append.mp h with h|h
    .exact .inl h
    .exact .inr ⟨n,mem_cons_self ..,mem_singleton.mp h⟩
  .exact .inr ⟨m,mem_cons_of_mem _ h1,h2⟩
theorem l0{a:List Tb}{NN:List Str}(hok:dW a NN){P:aJ}(h:P∈cZ a):∃n∈NN,(∃T∈a,n∈aC T)/\P=c_ a n:=by
 rcases vM _ _ P h with h|⟨n,h1,h2⟩
 .cases h
 .obtain⟨T,b,c⟩:=mem_flatMap.mp h1
  exact⟨n,hok.sub T b n c,⟨T,b,c⟩,h2⟩
end DP
namespace My
open L2 DP MA
end My
namespace DP
open L2 MA
mutual
def bq(A:Ar):D->Bool
 |.tup xs=>eB A xs
 |.exc _=>false
 |.str z=>decide (z.length<=sizeLine)
 |.ref r=>match A[r]? with
  |some (.lst _)=>true
  |some (.dct _)=>true
  |_=>false
 |_=>true
def eB(A:Ar):List D->Bool
 |[]=>true
 |x::xs=>bq A x&&eB A xs
end
def dR(x:D)(a b:Int):Bool:=match x with
 |.int i=>decide (a<=i)&&decide (i<=b)
 |_=>false
def iT:D->Bool
 |.str z=> !decide (z.cps.toList<("a":Str).cps.toList)&& !decide (("z":Str).cps.toList<z.cps.toList)
 |_=>false
def fQ:D->Bool
 |.str n=>decide ((1:Int)<=(n.length:Nat))&&decide (((n.length:Nat):Int)<=3)&&(fB n).all iT
 |_=>false
def bI:Nat->D->Bool
 |_,.tup [.str k,n]=>decide (k="weight")&&fQ n
 |d+1,.tup [.str k,l,r,a,b]=>decide (k="rod")&&dR l 1 9&&dR r 1 9&&bI d a&&bI d b
 |_,_=>false
def sX:Ct:=λds A R _=>∃x a b,ds=[x,.int a,.int b]/\bq A x=true/\∀A',Gr A A'->R (.bl (dR x a b)) A'
def sV:Ct:=λds A R _=>∃x,ds=[x]/\bq A x=true/\∀A',Gr A A'->R (.bl (fQ x)) A'
def sP(d:Nat):Ct:=λds A R _=>∃x,ds=[x,.int ((d:Int) - 1)]/\0<d/\bq A x=true/\∀A',Gr A A'->R (.bl (bI (d - 1) x)) A'
def oM:Ct:=λds A R _=>∃x,ds=[x]/\bq A x=true/\∀A',Gr A A'->R (.bl (bI 5 x)) A'
def oK:Ct:=λds A R E=>∃x,ds=[x]/\bq A x=true/\∀A',Gr A A'->if bI 5 x=true then R .ak A' else E "NoMobile" A'
mutual
theorem j8{A A':Ar}(g:Gr A A'):∀x,bq A x=true->bq A' x=true
 |.tup xs,h=>by
  have h:eB A xs=true:=h;exact xR g xs h
 |.ak,h=>rfl
 |.bl _,h=>rfl
 |.int _,h=>rfl
 |.str _,h=>h
 |.fl _,h=>rfl
 |.exc _,h=>by cases h
 |.ref r,h=>by
  unfold bq at h ⊢;cases e:A[r]? with
  |none=>rw[e] at h;cases h
  |some c=>rw[e] at h;rw[g.get e];exact h
theorem xR{A A':Ar}(g:Gr A A'):∀xs,eB A xs=true->eB A' xs=true
 |[],h=>rfl
 |x::xs,h=>by
  have h:(bq A x&&eB A xs)=true:=h;rw[and_eq_true] at h;show(bq A' x&&eB A' xs)=true;rw[and_eq_true];exact⟨j8 g x h.1,xR g xs h.2⟩
end
theorem o5{α:Type}(y:α)(ys:List α):bW (y::ys) 0=some y:=tL (j:=0) rfl
theorem qk{d:Nat}{k:Str}{ys:List D}(h1:∀n,ys=[n]->¬k="weight")(h2:∀l r a b,ys=[l,r,a,b]->¬k="rod"):bI d (.tup (.str k::ys))=false:=by
 match ys with
 |[]=>cases d<;>rfl
 |[n]=>
  have e:bI d (.tup [.str k,n])=(decide (k="weight")&&fQ n):=by cases d<;>rfl
  rw[e,decide_eq_false (h1 n rfl)];rfl
 |[_,_]=>cases d<;>rfl
 |[_,_,_]=>cases d<;>rfl
 |[l,r,a,b]=>
  cases d with
  |zero=>rfl
  |succ d=>
   show(decide (k="rod")&&dR l 1 9&&dR r 1 9&&bI d a&&bI d b)=false;rw[decide_eq_false (h2 l r a b rfl)];rfl
 |_::_::_::_::_::_=>cases d<;>rfl
theorem FT{d:Nat}{k:Str}{ys:List D}(h1:¬k="weight")(h2:¬k="rod"):bI d (.tup (.str k::ys))=false:=qk (λ_ _=>h1) λ_ _ _ _ _=>h2
theorem j9{A:Ar}{r:Nat}(h:bq A (.ref r)=true):fC A (.ref r)=some "list"\/fC A (.ref r)=some "dict":=by
 unfold bq at h;cases e:A[r]? with
 |none=>rw[e] at h;cases h
 |some c=>
  rw[e] at h;cases c with
  |lst xs=>exact .inl (by unfold fC;simp only[e])
  |dct kvs=>exact .inr (by unfold fC;simp only[e])
  |aS o kvs=>cases h
  |ins cl fs=>cases h
theorem FU{n:Str}(h:Nm n):fQ (.str n)=true:=by
 have h1:=h.lo;have e:=h.hi;unfold fQ;rw[and_eq_true,and_eq_true,decide_eq_true_eq,decide_eq_true_eq];refine⟨⟨by omega,by omega⟩,all_eq_true.mpr λx a=>?_⟩;obtain⟨c,hc,rfl⟩:=mem_map.mp a;obtain⟨f,g⟩:=h.az c hc;have b:¬((⟨#[c]⟩:Str).cps.toList<("a":Str).cps.toList):=by
  rw[My.zL];intro h;have:=My.qS.mp h;omega
 have d:¬(("z":Str).cps.toList<(⟨#[c]⟩:Str).cps.toList):=by
  rw[My.zM];intro h;have:=My.qS.mp h;omega
 show(!decide ((⟨#[c]⟩:Str).cps.toList<("a":Str).cps.toList)&& !decide (("z":Str).cps.toList<(⟨#[c]⟩:Str).cps.toList))=true;rw[decide_eq_false b,decide_eq_false d];rfl
theorem HD{A:Ar}{n:Str}(h:Nm n):bq A (.str n)=true:=decide_eq_true (le_trans h.hi (by decide))
theorem mT{A:Ar}:∀{m:M},(∀n∈m.names,Nm n)->bq A (enc m)=true
 |.wt n,h=>by
  have c:=HD (A:=A) (h n (by simp[aK.names]));have e:bq A (.str "weight")=true:=show decide (("weight":Str).length<=sizeLine)=true by decide+kernel
  show(bq A (.str "weight")&&(bq A (.str n)&&true))=true;rw[c,e];rfl
 |.bK l r a b,h=>by
  have d:=mT (A:=A) (m:=a) λn c=>h n (by simp[aK.names,c]);have f:=mT (A:=A) (m:=b) λn c=>h n (by simp[aK.names,c]);have e:bq A (.str "rod")=true:=show decide (("rod":Str).length<=sizeLine)=true by decide+kernel
  show(bq A (.str "rod")&&(true&&(true&&(bq A (enc a)&&(bq A (enc b)&&true)))))=true;rw[d,f,e];rfl
theorem mC:∀{m:M} {d:Nat},Wf m->m.deep<=d->bI d (enc m)=true
 |.wt n,d,c,_=>by
  have e:=FU (c.nm n (by simp[aK.names]));cases d<;>(show(decide (("weight":Str)="weight")&&fQ (.str n))=true;rw[e];decide+kernel)
 |.bK l r a b,d,c,hd=>by
  have hd:max a.deep b.deep+1<=d:=hd;cases d with
  |zero=>omega
  |succ d=>
   obtain⟨h1,h2,f,g,h,i⟩:=c.arms;show(decide (("rod":Str)="rod")&&dR (.int l) 1 9&&dR (.int r) 1 9&&bI d (enc a)&&bI d (enc b))=true;rw[mC c.left (by omega),mC c.right (by omega)];simp[dR,h1,h2,f,g]
end DP
namespace My
open L2 DP MA
theorem DQ(T:TopD K mg "is_number" zx nu)(d:mg "isinstance"=none)(f:mg "bool"=none)(g:mg "int"=none):aB P w K mg base 1 "is_number" nu (ay mg 3 sX):=by
 refine b_ T Kp λk l m n nd=>⟨_,(aG (bY (PW.pt (fN (fc (iB Gu d f boot_bool (vr 0))) (gy (e_ (fc (iB Gv d g boot_int (vr 0))))))) (aE (aW eY)) cz)
  (aE (aW (u6 (vr 1) (vr 0) (vr 2))))),λds A R h o=>?_⟩
 obtain⟨x,a,b,rfl,j,q⟩:=h;cases x with
 |int i=>
  have q:∀A',Gr A A'->R (.bl (decide (a<=i)&&decide (i<=b))) A':=q;refine cD (λc=>?_) (λc=>?_)
  .have e:(decide (a<=i)&&decide (i<=b))=decide (i<=b):=by simp[c]
   rw[e] at q;exact q _ Gr.refl
  .have e:(decide (a<=i)&&decide (i<=b))=false:=by simp[c]
   rw[e] at q;exact q _ Gr.refl
 |exc c=>cases j
 |ref r=>
  rcases j9 j with e|e;all_goals
   conv=>whnf
   rw[e];conv=>whnf
   rw[e];exact q _ Gr.refl
 |_=>exact q _ Gr.refl
theorem DO(T:TopD K mg "is_name" zw nk)(b:mg "isinstance"=none)(d:mg "str"=none)(g:mg "len"=none)(i:mg "all"=none){t:Tok}(a:mg "LONGEST_NAME"=some (.int 3 t)):aB P w K mg base 1 "is_name" nk (ay mg 1 sV):=by
 refine b_ T Ko λu v p y nd=>⟨_,(aG (bY (PW.pt (fN (e_ (fc (iB wD b d boot_str (vr 0)))) (gy (e_ (z9 aq (cJ dZ dh g PySem.boot_len (aa (vr 0) ai)) (jL a)))))) (aE (aW eY)) cz)
  (aE (aW (cJ (BC rfl) Co i boot_all (aa (iY none (own:=["letter"]) (frees:=[]) (ix:=[]) rfl (C6 (vr 0)) (λc=>(pG 0 (show(["letter"]:List Str).Nodup by decide+kernel))) (λc=>(u6 b9 (vr 0) b9))) ai))))),λds A R h z=>?_⟩
 obtain⟨x,rfl,k,q⟩:=h;cases x with
 |str n=>
  have s:n.length<=sizeLine:=of_decide_eq_true k;have q:∀A',Gr A A'->R (.bl (decide ((1:Int)<=(n.length:Nat))&&decide (((n.length:Nat):Int)<=3)&&(fB n).all iT)) A':=q;refine⟨s,cD (λl=>?_) (λl=>?_)⟩
  .refine cN (λm=>?_) (λm=>?_)
   .rw[decide_eq_false m] at q
    simp only[Bool.and_false,Bool.false_and] at q;exact q _ Gr.refl
   rw[decide_eq_true l,decide_eq_true m] at q;simp only[Bool.true_and] at q;refine lF (f:=λx=>.bl (iT x)) trivial _ _ (λx p=>⟨[x],rfl,λQ j=>?_⟩) ?_ ?_
   .obtain⟨c,hc,rfl⟩:=mem_map.mp p
    have j:Q (.bl (!decide ((⟨#[c]⟩:Str).cps.toList<("a":Str).cps.toList)&& !decide (("z":Str).cps.toList<(⟨#[c]⟩:Str).cps.toList))) A:=j;refine cN (λo=>?_) (λo=>?_)
    .rw[decide_eq_false o] at j
     exact j
    .rw[decide_eq_true o] at j
     exact j
   .have:(fB n).length=n.length:=by simp[fB,Str.length]
    show 0+(fB n).length<=sizeLine;omega
   .refine Bl (bs:=(fB n).map iT) aR (ua _ _) ?_
    have e:((fB n).map iT).all id=(fB n).all iT:=by simp
    rw[e];exact q _ Gr.push
  .rw[decide_eq_false l] at q
   simp only[Bool.false_and] at q;exact q _ Gr.refl
 |exc c=>cases k
 |ref r=>
  rcases j9 k with e|e;all_goals
   conv=>whnf
   rw[e];exact q _ Gr.refl
 |_=>exact q _ Gr.refl
theorem DM (T : TopD K mg "is_mobile_within" zv nj) (j : mg "isinstance" = none) (F : mg "str" = none) (z : mg "tuple" = none) (p : mg "len" = none) {t : Tok} (i : mg "LONGEST_ARM" = some (.int 9 t))
    (u:aB P w K mg base 1 "is_name" nk (ay mg 1 sV))(m:aB P w K mg base 1 "is_number" nu (ay mg 3 sX)):∀d,aB P w K mg base (d+1) "is_mobile_within" nj (ay mg 2 (sP d)):=by
  intro d
  induction d with
  | zero =>
    refine p6 T λds A R RE h=> ?_
    obtain⟨x,_,h,_⟩:=h
    omega
  | succ d g =>
    refine g5 T Km rfl (by decide) λN RE f Z B outer s H E J hR L ds A R h hl=> ?_
    have v:=J.units
    refine⟨_,(aG (bY (PW.pt (fN (e_ (fc (iB kit_tuple j z boot_tuple (vr 0)))) (fN (fR v (cJ dZ dh p PySem.boot_len (aa (vr 0) ai)) aq) (gy (e_ (fc (iB wD j F boot_str (dX v (vr 0) aq)))))))) (aE (aW eY)) cz)
    (aG (bY (fR v (dX v (vr 0) aq) b9) (aE (aW (uF (Dj v (cJ dZ dh p PySem.boot_len (aa (vr 0) ai)) aq) (uL (dL u J L (aa (dX v (vr 0) aq) ai)))))) cz)
    (aG (bY (PW.pt (fN (kM v (dX v (vr 0) aq) b9) (fN (kM v (cJ dZ dh p PySem.boot_len (aa (vr 0) ai)) aq) (gy (fR v (vr 1) aq))))) (aE (aW eY)) cz)
    (aG (bY (PW.pt (fN (e_ (fc (dL m J L (aa (dX v (vr 0) aq) (aa aq (aa (jL i) ai)))))) (gy (e_ (fc (dL m J L (aa (dX v (vr 0) aq) (aa aq (aa (jL i) ai))))))))) (aE (aW eY)) cz)
    (aE (aW (uF (dL g J L (aa (dX v (vr 0) aq) (aa (pI (vr 1) aq) ai))) (uL (dL g J L (aa (dX v (vr 0) aq) (aa (pI (vr 1) aq) ai))))))))))),?_⟩
    obtain⟨x,rfl,_,C,q⟩:=h
    have q:∀A',Gr A A'->R (.bl (bI d x)) A':=q
    have no : bI d x = false → R (.bl false) A := fun e => by
      have:=q A Gr.refl
      rwa [e] at this
    cases x with
    | tup xs =>
      cases xs with
      |nil=>exact no (by cases d<;>rfl)
      | cons y ys =>
        have C:(bq A y&&eB A ys)=true:=C
        rw[and_eq_true] at C
        have ln:(((y::ys).length:Nat):Int)=(ys.length:Int)+1:=by simp
        conv=>whnf
        rw[o5]
        cases y with
        | str k =>
          conv=>whnf
          rw[o5]
          refine cD (λM=> ?_) (λM=> ?_)
          · refine cD (fun o => ?_) (fun o => ?_)
            · have o : (((D.str k :: ys).length : Nat) : Int) = 2 := o
              obtain ⟨n, rfl⟩ : ∃ n, ys = [n] := by
                match ys,ln,o with
                |[],ln,o=>simp at o
                |[n],_,_=>exact⟨n,rfl⟩
                |_::_::_,ln,o=>simp at o;omega
              refine⟨rfl,n,rfl,?_,λA1 O=> ?_⟩
              · have := C.2
                simp only[eB,Bool.and_true] at this
                exact this
              · have e : bI d (.tup [.str k, n]) = fQ n := by
                  have:bI d (.tup [.str k,n])=(decide (k="weight")&&fQ n):=by cases d<;>rfl
                  rw[this,decide_eq_true M,Bool.true_and]
                rw[<-e]
                exact q _ O
            · refine no (qk (fun n e => ?_) fun l r a b e => ?_)
              · exact absurd (by rw[e];rfl) o
              · rw[M];decide+kernel
          · conv => whnf
            rw[o5]
            refine cN (λU=> ?_) (λU=> ?_)
            · exact no (FT M U)
            · refine cN (fun o => ?_) (fun o => ?_)
              · refine no (qk (fun n e => ?_) fun l r a b e => ?_)
                · exact M
                · exact absurd (by rw[e];rfl) o
              · have o : (((D.str k :: ys).length : Nat) : Int) = 5 := o
                obtain ⟨l, r, a, b, rfl⟩ : ∃ l r a b, ys = [l, r, a, b] := by
                  match ys,o with
                  |[l,r,a,b],_=>exact⟨l,r,a,b,rfl⟩
                  |[],o=>simp at o
                  |[_],o=>simp at o
                  |[_,_],o=>simp at o
                  |[_,_,_],o=>simp at o
                  |_::_::_::_::_::_,o=>simp at o;omega
                have Q:(bq A l&&(bq A r&&(bq A a&&(bq A b&&true))))=true:=C.2
                simp only[and_eq_true,and_true] at Q
                obtain⟨k1,k2,k3,k4⟩:=Q
                refine cD (λS=> ?_) (λS=> ?_)
                · have : d = 0 := by have S : ((d + 1 : Nat) : Int) - 1 = 0 := S
                                     omega
                  subst this
                  exact no rfl
                · cases d with
                  |zero=>exact absurd rfl S
                  | succ d =>
                    have V:((d+1+1:Nat):Int) - 1 - 1=((d+1:Nat):Int) - 1:=by omega
                    have eM : bI (d + 1) (.tup [.str k, l, r, a, b]) = (dR l 1 9 && dR r 1 9 && bI d a && bI d b) := by
                      show(decide (k="rod")&&dR l 1 9&&dR r 1 9&&bI d a&&bI d b)=_
                      rw[decide_eq_true U,Bool.true_and]
                    rw[eM] at q
                    refine⟨rfl,l,1,9,rfl,k1,λA1 O=> ?_⟩
                    cases W:dR l 1 9 with
                    | false =>
                      rw[W] at q
                      exact q _ O
                    | true =>
                      refine⟨rfl,r,1,9,rfl,j8 O _ k2,λA2 g2=> ?_⟩
                      rw[W] at q
                      have G:=O.trans g2
                      cases X:dR r 1 9 with
                      | false =>
                        rw[X] at q
                        exact q _ G
                      | true =>
                        rw[X] at q
                        refine⟨rfl,a,show [a,D.int (((d+1+1:Nat):Int) - 1 - 1)]=_ by rw[V],by omega,j8 G _ k3,λA3 g3=> ?_⟩
                        have I:=G.trans g3
                        show cond (bI d a) _ _
                        cases Y:bI d a with
                        | false =>
                          rw[Y] at q
                          exact q _ I
                        | true =>
                          rw[Y] at q
                          refine⟨rfl,b,show [b,D.int (((d+1+1:Nat):Int) - 1 - 1)]=_ by rw[V],by omega,j8 I _ k4,λA4 g4=> ?_⟩
                          exact q _ (I.trans g4)
        |exc c=>exact absurd C.1 (by simp[bq])
        | ref r =>
          rcases j9 C.1 with e|e
          all_goals
            conv=>whnf
            rw[e]
            exact no (by cases d<;>rfl)
        |_=>exact no (by cases d<;>rfl)
    |exc c=>cases C
    | ref r =>
      rcases j9 C with e|e
      all_goals
        conv=>whnf
        rw[e]
        exact no (by cases d<;>rfl)
    |_=>exact no (by cases d<;>rfl)
theorem DN(T:TopD K mg "is_mobile" zu kc){t:Tok}(b:mg "MOST_RODS"=some (.int 5 t))(a:aB P w K mg base 7 "is_mobile_within" nj (ay mg 2 (sP 6))):aB P w K mg base 8 "is_mobile" kc (ay mg 1 oM):=by
 refine b_ T Kl λc f d g nd=>⟨_,(aE (aW (dL a c d (aa (vr 0) (aa (jL b) ai))))),λds A R h i=>?_⟩;obtain⟨x,rfl,e,q⟩:=h;exact⟨rfl,x,rfl,by decide,e,q⟩
theorem DL(T:TopD K mg "check_mobile" zk jk){a:Addr}(c:mg "NoMobile"=some (.ref a))(d:excIn K a n_ "ValueError.__new__"=true)(b:aB P w K mg base 8 "is_mobile" kc (ay mg 1 oM)):aB P w K mg base 9 "check_mobile" jk (ay mg 1 oK):=by
 refine b_ T Kf λf g i m nd=>⟨_,(aE (bY (e_ (fc (dL b f i (aa (vr 0) ai)))) (aE (pP g rfl c d (aa b9 ai))) cz)),λds A R h n=>?_⟩;obtain⟨x,rfl,j,q⟩:=h;refine⟨rfl,x,rfl,j,λk l=>?_⟩;have q:=q k l;cases e:bI 5 x with
 |true=>rw[e] at q;exact q
 |false=>rw[e] at q;exact⟨by decide,q⟩
end My
namespace DP
open L2 MA
theorem FW{x:D}(h:fQ x=true):∃n,x=.str n/\Nm n:=by
 cases x with
 |str n=>
  unfold fQ at h;rw[and_eq_true,and_eq_true,decide_eq_true_eq,decide_eq_true_eq] at h;obtain⟨⟨h1,h2⟩,a⟩:=h;refine⟨n,rfl,⟨by omega,by omega,λc hc=>?_⟩⟩;have:=all_eq_true.mp a (.str ⟨#[c]⟩) (mem_map.mpr ⟨c,hc,rfl⟩);have this:(!decide ((⟨#[c]⟩:Str).cps.toList<("a":Str).cps.toList)&& !decide (("z":Str).cps.toList<(⟨#[c]⟩:Str).cps.toList))=true:=this;rw[My.zL,My.zM] at this;simp only[and_eq_true,Bool.not_eq_true',decide_eq_false_iff_not] at this;have t1:¬([c]:List Nat)<[97]:=this.1;have b:¬([122]:List Nat)<[c]:=this.2;rw[My.qS] at t1 b;omega
 |_=>cases h
theorem xS{A:Ar}:∀{xs:List D} {x:D},eB A xs=true->x∈xs->bq A x=true
 |y::xs,x,h,hx=>by
  have h:(bq A y&&eB A xs)=true:=h;rw[and_eq_true] at h;rcases mem_cons.mp hx with rfl|hx
  .exact h.1
  .exact xS h.2 hx
end DP
namespace My
open L2 DP MA
end My
namespace DP
open L2 MA
theorem xK{x:D}{a b:Int}(h:dR x a b=true):∃i,x=.int i/\a<=i/\i<=b:=by
 cases x with
 |int i=>
  have h:(decide (a<=i)&&decide (i<=b))=true:=h;rw[and_eq_true,decide_eq_true_eq,decide_eq_true_eq] at h;exact⟨i,rfl,h.1,h.2⟩
 |_=>cases h
theorem G3:∀(d:Nat) (x:D),bI d x=true->∃m:M,x=enc m/\Wf m/\m.deep<=d:=by
 have leaf:∀(d:Nat) (k:Str) (n:D),(decide (k="weight")&&fQ n)=true->∃m:M,D.tup [.str k,n]=enc m/\Wf m/\m.deep<=d:=λd k n h=>by
  rw[and_eq_true,decide_eq_true_eq] at h;obtain⟨rfl,h⟩:=h;obtain⟨n,rfl,i⟩:=FW h;exact⟨.wt n,rfl,⟨trivial,λz hz=>by rw[show z=n by simpa[aK.names] using hz];exact i⟩,zero_le _⟩
 intro d;induction d with
 |zero=>
  intro x h;unfold bI at h;split at h
  .exact leaf _ _ _ h
  .rename_i e
   cases e
  .cases h
 |succ d c=>
  intro x h;unfold bI at h;split at h
  .exact leaf _ _ _ h
  .rename_i d' k l r a b e
   cases e;rw[and_eq_true,and_eq_true,and_eq_true,and_eq_true,decide_eq_true_eq] at h;obtain⟨⟨⟨⟨rfl,j⟩,o⟩,p⟩,q⟩:=h;obtain⟨l,rfl,l1,l2⟩:=xK j;obtain⟨r,rfl,s,t⟩:=xK o;obtain⟨a,rfl,f,u⟩:=c a p;obtain⟨b,rfl,g,db⟩:=c b q;refine⟨.bK l r a b,rfl,⟨⟨l1,l2,s,t,f.arms,g.arms⟩,λz hz=>?_⟩,?_⟩
   .have hz:z∈a.names++b.names:=hz
    rcases mem_append.mp hz with hz|hz
    .exact f.nm z hz
    .exact g.nm z hz
   .show max a.deep b.deep+1<=d+1
    omega
  .cases h
def eS(T:Tb)(n:Str)(x:Rat):Tb:=if (T.any λp=>decide (p.1=n))=true then T.map (λp=>if p.1=n then (p.1,x) else p) else T++[(n,x)]
def aU(m:M):Tb:=(br m "" 1).foldl (λT p=>eS T p.2.1 p.2.2) []
theorem GC(T:Tb)(n:Str)(x:Rat):bg (eS T n x)=bh (bg T) (Sum.inr n) (fq x):=by
 have e:((bg T).any λa=>decide (a.1=(Sum.inr n:Key)))=T.any λp=>decide (p.1=n):=by
  unfold bg;rw[List.any_map];congr 1;funext p;show decide ((Sum.inr p.1:Key)=Sum.inr n)=decide (p.1=n);by_cases h:p.1=n
  .rw[decide_eq_true h,decide_eq_true (by rw[h])]
  .rw[decide_eq_false h,decide_eq_false (λz=>h (Sum.inr.inj z))]
 unfold eS bh;rw[e];split
 .unfold bg
  rw[map_map,map_map];refine map_congr_left λp _=>?_;show((Sum.inr (if p.1=n then (p.1,x) else p).1:Key),fq (if p.1=n then (p.1,x) else p).2)=if (Sum.inr p.1:Key)=Sum.inr n then (Sum.inr p.1,fq x) else (Sum.inr p.1,fq p.2)
  by_cases h:p.1=n
  .rw[if_pos h,if_pos (by rw[h])]
  .rw[if_neg h,if_neg (λz=>h (Sum.inr.inj z))]
 .unfold bg
  simp
theorem wH:∀(a:List (Str×Str×Rat)) (T:Tb),bg (a.foldl (λT p=>eS T p.2.1 p.2.2) T)=((a.map λp=>(p.2.1,fq p.2.2)).map λp=>((Sum.inr p.1:Key),p.2)).foldl (λacc p=>bh acc p.1 p.2) (bg T)
 |[],T=>rfl
 |p::a,T=>by
  rw[foldl_cons,wH a,GC];rfl
theorem yo(T:Tb)(n:Str)(x:Rat):aC (eS T n x)=if n∈aC T then aC T else aC T++[n]:=by
 have e:(T.any λp=>decide (p.1=n))=decide (n∈aC T):=by
  rw[Bool.eq_iff_iff,any_eq_true,decide_eq_true_eq];constructor
  .rintro ⟨p,a,h⟩
   rw[<-of_decide_eq_true h];exact mem_map_of_mem a
  .intro h
   obtain⟨p,a,e⟩:=mem_map.mp h;exact⟨p,a,decide_eq_true e⟩
 unfold eS;rw[e];by_cases h:n∈aC T
 .rw[if_pos (decide_eq_true h),if_pos h]
  unfold aC;rw[map_map];refine map_congr_left λp _=>?_;show(if p.1=n then (p.1,x) else p).1=p.1;split<;>rfl
 .rw[if_neg (by simpa using h),if_neg h]
  simp[aC]
theorem vo:∀(c:List (Str×Str×Rat)) (T:Tb) (g:Str->Rat),(aC T).Nodup->(∀p∈T,p.2=g p.1)->(∀r∈c,r.2.2=g r.2.1)->
  (aC (c.foldl (λT p=>eS T p.2.1 p.2.2) T)).Nodup/\(∀p∈c.foldl (λT p=>eS T p.2.1 p.2.2) T,p.2=g p.1)/\∀n,n∈aC (c.foldl (λT p=>eS T p.2.1 p.2.2) T)↔n∈aC T\/n∈c.map (·.2.1)
 |[],T,g,h1,h2,_=>⟨h1,h2,λn=>by simp⟩
 |r::c,T,g,h1,h2,i=>by
  have k1:(aC (eS T r.2.1 r.2.2)).Nodup:=by
   rw[yo];split
   .exact h1
   .rename_i k
    rw[nodup_append];refine⟨h1,by simp,λa l b j=>?_⟩;simp at j;rw[j];exact λz=>k (by rw[<-z];exact l)
  have k2:∀p∈eS T r.2.1 r.2.2,p.2=g p.1:=λp hp=>by
   have e:=i r (mem_cons_self ..);unfold eS at hp;split at hp
   .obtain⟨d,f,rfl⟩:=mem_map.mp hp
    by_cases hc:d.1=r.2.1
    .rw[if_pos hc]
     show r.2.2=g d.1;rw[e,hc]
    .rw[if_neg hc]
     exact h2 d f
   .rcases mem_append.mp hp with hp|hp
    .exact h2 p hp
    .rw[mem_singleton.mp hp]
     exact e
  obtain⟨m,o,q⟩:=vo c _ g k1 k2 λx s=>i x (mem_cons_of_mem _ s);refine⟨m,o,λn=>?_⟩;rw[foldl_cons,q,yo];by_cases h:r.2.1∈aC T
  .rw[if_pos h]
   simp;constructor
   .rintro (h'|h')
    .exact .inl h'
    .exact .inr (.inr h')
   .rintro (h'|rfl|h')
    .exact .inl h'
    .exact .inl h
    .exact .inr h'
  .rw[if_neg h]
   simp[or_assoc]
structure Hl(m:M):Prop where
 wf:Wf m
 deep:m.deep<=5
 bar:cH [] (br m "" 1)=none
theorem jr{m:M}(h:Hl m):tE (aU m)/\(∀n,n∈aC (aU m)↔n∈m.names)/\∀n∈aC (aU m),zN (aU m) n=shr m n:=by
 obtain⟨k1,k2⟩:=zO h.bar;obtain⟨c,d,f⟩:=vo (br m "" 1) [] (shr m) nodup_nil (λp a=>by cases a) k1;have g:(br m "" 1).map (·.2.1)=m.names:=nO m "" 1;have mem:∀n,n∈aC (aU m)↔n∈m.names:=λn=>by
  show n∈aC ((br m "" 1).foldl (λT p=>eS T p.2.1 p.2.2) [])↔_;rw[f,g];simp[aC]
 have i:(aC (aU m)).length=(aU m).length:=by simp[aC]
 have nl:=j6 h.deep;refine⟨⟨c,λz=>?_,?_,λp a=>?_⟩,mem,λn b=>?_⟩
 .have hpos:=aK.xy m
  cases e:m.names with
  |nil=>rw[e] at hpos;simp at hpos
  |cons n t=>
   have:=(mem n).mpr (by rw[e];simp);rw[z] at this;cases this
 .have:=ie (aC (aU m)) m.names c λx j=>(mem x).mp j
  omega
 .have e:p.2=shr m p.1:=d p a
  rw[e];exact KD h.wf.arms h.deep h.bar ((mem p.1).mp (mem_map_of_mem a))
 .have:=find_some (T:=aU m) (n:=n)
  rw[decide_eq_true (show n∈(aU m).map (·.1) from b)] at this;obtain⟨p,a⟩:=isSome_iff_exists.mp this;unfold zN;rw[a];have h2:=find?_some a;have k:p.1=n:=of_decide_eq_true h2;rw[<-k];exact d p (mem_of_find?_eq_some a)
def sW:Ct:=λds A R _=>∃m,ds=[enc m]/\Hl m/\∀A' q,Gr A A'->A'[q]?=some (.dct (bg (aU m)))->A.length<=q->R (.ref q) A'
def eW(x:D)(ms:List M):Prop:=x=.tup (ms.map enc)/\1<=ms.length/\ms.length<=6/\∀m∈ms,Hl m
def sJ:Ct:=λds A R E=>∃x,ds=[x]/\bq A x=true/\((∃ms,eW x ms)->∀A',Gr A A'->R .ak A')/\((¬∃ms,eW x ms)->∀A',Gr A A'->E "NoHall" A')
def sO:Ct:=λds A R E=>∃x,ds=[x]/\bq A x=true/\(∀ms,eW x ms->∀A' q,Gr A A'->gM A' q (ms.map aU)->A.length<=q->R (.ref q) A')/\((¬∃ms,eW x ms)->∀A',Gr A A'->E "NoHall" A')
theorem lT:∀{a b:M},enc a=enc b->a=b
 |.wt n,.wt k,h=>by
  have h:D.tup [.str "weight",.str n]=.tup [.str "weight",.str k]:=h;simp at h;rw[h]
 |.wt n,.bK l r a b,h=>by
  have h:D.tup [.str "weight",.str n]=.tup [.str "rod",.int l,.int r,enc a,enc b]:=h;simp at h
 |.bK l r a b,.wt n,h=>by
  have h:D.tup [.str "rod",.int l,.int r,enc a,enc b]=.tup [.str "weight",.str n]:=h;simp at h
 |.bK l r a b,.bK c r' d e,h=>by
  have h:D.tup [.str "rod",.int l,.int r,enc a,enc b]=.tup [.str "rod",.int c,.int r',enc d,enc e]:=h;simp at h;obtain⟨h1,h2,f,g⟩:=h;rw[h1,h2,lT f,lT g]
theorem u7:∀{ms a:List M},ms.map enc=a.map enc->ms=a
 |[],[],_=>rfl
 |[],_::_,h=>by cases h
 |_::_,[],h=>by cases h
 |m::ms,b::a,h=>by
  rw[map_cons,map_cons,List.cons.injEq] at h;rw[lT h.1,u7 h.2]
theorem TabsAt.snoc{A:Ar}{q:Nat}{T:Tb}(b:TabAt A q T):∀{qs:List Nat} {a:List Tb},TabsAt A qs a->TabsAt A (qs++[q]) (a++[T])
 |[],[],_=>⟨b,trivial⟩
 |_::qs,_::a,h=>⟨h.1,TabsAt.snoc b h.2⟩
 |[],_::_,h=>h.elim
 |_::_,[],h=>h.elim
end DP
namespace My
open L2 DP MA
theorem D9(T:TopD K mg "name_shares" zy nv)(b:mg "dict"=none)(a:aB P w K mg base 10 "shares" kg (ay mg 1 oR)):aB P w K mg base 11 "name_shares" nv (ay mg 1 sW):=by
 refine b_ T Kq λj r k s nd=>⟨_,(aE (aW (gW (uf rfl) uz b boot_dict (aa (iY (some 3) (own:=["way","name","share"]) (frees:=[]) (ix:=[]) rfl (ef (dL a j k (aa (vr 0) ai))) (λc=>(yc rfl (nE (pG 0 (show(["way","name","share"]:List Str).Nodup by decide+kernel)) (nE (pG 1 (show(["way","name","share"]:List Str).Nodup by decide+kernel)) (nE (pG 2 (show(["way","name","share"]:List Str).Nodup by decide+kernel)) yd))))) (λc=>(cY (aa (vr 1) (aa (vr 2) ai))))) ai)))),λds A R h t=>?_⟩;obtain⟨m,rfl,g,q⟩:=h;have hd:=g.deep;have u:(1000:Nat)<=sizeLine:=by decide
 refine⟨rfl,m,rfl,g.wf,hd,λv y i h1 l1=>?_⟩;refine gb h1 ?_;have ln:=kF m "" 1;have nl:=j6 hd;refine lF (f:=λd=>match d with|.tup [_,n,x]=>.tup [n,x]|d=>d) h1 _ _ (λd hd=>?_) (by simp;omega) ?_
 .obtain⟨p,z,rfl⟩:=mem_map.mp hd
  exact⟨[.str p.1,.str p.2.1,fq p.2.2],rfl,λQ l=>⟨show 2<=sizeLine by decide,l⟩⟩
 have e:((br m "" 1).map nJ).map (λd=>match d with|.tup [_,n,x]=>D.tup [n,x]|d=>d)=(br m "" 1).map qQ:=by
  rw[map_map];rfl
 rw[nil_append,e];refine CK aR (xX _) (by simp;omega) ?_;refine q _ _ ((i.trans Gr.push).trans Gr.push) ?_ (by have:=i.len;simp;omega);have o:bg (aU m)=nF (((br m "" 1).map λp=>(p.2.1,fq p.2.2)).map λp=>((Sum.inr p.1:Key),p.2)):=wH _ [];rw[o];exact aR
theorem DV(T:TopD K mg "check_hall" zj nc)(b:mg "isinstance"=none)(n:mg "tuple"=none)(q:mg "len"=none){t:Tok}(a:mg "MOST_MOBILES"=some (.int 6 t)){d:Addr}(i:mg "NoHall"=some (.ref d))(j:excIn K d n_ "ValueError.__new__"=true)
  (k:aB P w K mg base 8 "is_mobile" kc (ay mg 1 oM))(u:aB P w K mg base 11 "bar" m9 (ay mg 1 sG)):aB P w K mg base 12 "check_hall" nc (ay mg 1 sJ):=by
 refine g5 T zF rfl (by decide) λN RE f cdv B outer s H E L V W ds A R h hl=>?_;have hu:=L.units;have nd:=zF.nd;refine⟨_,(aG (bY (PW.pt (fN (e_ (fc (iB kit_tuple b n boot_tuple (vr 0)))) (gy (e_ (z9 aq (cJ dZ dh q PySem.boot_len (aa (vr 0) ai)) (jL a)))))) (aE (pP V rfl i j (aa b9 ai))) cz)
  (aE (fL eE rfl (ef (vr 0)) (dG 1 nd) (aE (bY (PW.pt (fN (e_ (fc (dL k L W (aa (vr 1) ai)))) (gy (LO (dL u L W (aa (vr 1) ai)) uK)))) (aE (pP V rfl i j (aa b9 ai))) cz))))),?_⟩
 obtain⟨x,rfl,F,q1,q2⟩:=h;have hz:(1000:Nat)<=sizeLine:=by decide
 have no:(¬∃ms,eW x ms)->∀A',Gr A A'->1<=sizeLine/\RE "NoHall" A':=λh A' g=>⟨by omega,q2 h A' g⟩;have o:(∀xs,x≠ .tup xs)->¬∃ms,eW x ms:=λh ⟨ms,e,_⟩=>h _ e;cases x with
 |tup xs=>
  have F:eB A xs=true:=F;refine cD (λz=>?_) (λz=>?_);rotate_left
  .have z:¬(1:Int)<=((xs.length:Nat):Int):=z
   exact no (λ⟨ms,e,h1,_,_⟩=>by
    have e:=D.tup.inj e;rw[e,length_map] at z;omega) _ Gr.refl
  refine cN (λC=>?_) (λC=>?_)
  .have C:¬((xs.length:Nat):Int)<=6:=C
   exact no (λ⟨ms,e,_,h2,_⟩=>by
    have e:=D.tup.inj e;rw[e,length_map] at C;omega) _ Gr.refl
  have z:(1:Int)<=((xs.length:Nat):Int):=z;have C:((xs.length:Nat):Int)<=6:=C;refine eZ (λrest τ A'=>∃(dn:List M) (more:List D) (y:Option D),rest=more/\dn.map enc++more=xs/\(∀m∈dn,Hl m)/\τ=[some (.tup xs),y]/\Gr A A') ?_ ?_ ?_ _ _ _ ⟨[],xs,none,rfl,rfl,(λ_ h=>by cases h),rfl,Gr.refl⟩
  .intro _ _ _ _
   trivial
  .rintro v rest τ A1 ⟨dn,more,y,rfl,l,O,rfl,g⟩ Nx hN
   have Q:v∈xs:=by rw[<-l];simp
   have bad:(¬∃m,v=enc m/\Hl m)->¬∃ms,eW (.tup xs) ms:=λJ ⟨ms,e,_,_,h4⟩=>by
    have e:=D.tup.inj e;rw[e] at Q;obtain⟨m,G,rfl⟩:=mem_map.mp Q;exact J ⟨m,rfl,h4 m G⟩
   refine⟨rfl,v,rfl,j8 g _ (xS F Q),λA2 S=>?_⟩;cases G:bI 5 v with
   |false=>
    refine no (bad λ⟨m,e,h⟩=>?_) _ (g.trans S);rw[e,mC h.wf h.deep] at G;cases G
   |true=>
    obtain⟨m,rfl,X,dm⟩:=G3 5 v G;refine⟨rfl,m,rfl,X,dm,λA3 Y=>?_⟩;cases J:cH [] (br m "" 1) with
    |some p=>
     refine no (bad λ⟨Z,e,h⟩=>?_) _ ((g.trans S).trans Y);rw[<-lT e] at h;have I:=h.bar;rw[J] at I;cases I
    |none=>
     exact hN _ _ ⟨dn++[m],rest,_,rfl,by simpa using l,λZ U=>by
      rcases mem_append.mp U with h|h
      .exact O Z h
      .rw[mem_singleton.mp h]
       exact⟨X,dm,J⟩,rfl,(g.trans S).trans Y⟩
  .rintro τ A1 ⟨dn,more,y,e,l,O,rfl,g⟩
   subst e;rw[append_nil] at l;refine q1 ⟨dn,by rw[l],?_,?_,O⟩ _ g
   .rw[<-l,length_map] at z
    omega
   .rw[<-l,length_map] at C
    omega
 |exc c=>cases F
 |ref r=>
  rcases j9 F with e|e;all_goals
   conv=>whnf
   rw[e];exact no (o λxs h=>by cases h) _ Gr.refl
 |_=>exact no (o λxs h=>by cases h) _ Gr.refl
theorem D4(T:TopD K mg "hall_shares" zq ni)(b:aB P w K mg base 12 "check_hall" nc (ay mg 1 sJ))(a:aB P w K mg base 11 "name_shares" nv (ay mg 1 sW)):aB P w K mg base 13 "hall_shares" ni (ay mg 1 sO):=by
 refine b_ T Kh λl z q B nd=>⟨_,(aG (e9 (dL b l q (aa (vr 0) ai)))
  (aE (aW (iY none (own:=["mobile"]) (frees:=[]) (ix:=[]) rfl (ef (vr 0)) (λc=>(pG 0 (show(["mobile"]:List Str).Nodup by decide+kernel))) (λc=>(dL a l qV (aa (vr 0) ai))))))),λds A R h E=>?_⟩
 obtain⟨x,rfl,r,n,k⟩:=h;have F:(1000:Nat)<=sizeLine:=by decide
 refine⟨rfl,x,rfl,r,λ⟨ms,o⟩ p i=>?_,λs p i=>k s _ i⟩;have t:=n ms o;clear n;obtain⟨rfl,h1,G,u⟩:=o;refine lD (λrest ys A'=>∃(dn more:List M) (ts:List Nat),rest=more.map enc/\dn++more=ms/\ys=ts.map D.ref/\TabsAt A' ts (dn.map aU)/\Gr p A') ?_ ?_ ?_ ?_ _ _ _ ⟨[],ms,[],rfl,rfl,rfl,trivial,Gr.refl⟩
 .intro _ _ _ _
  trivial
 .rintro rest ys A' ⟨dn,more,ts,_,e,rfl,f,_⟩
  have l1:=f.len;have l2:=congrArg List.length e;rw[length_append] at l2;rw[length_map] at l1 ⊢;omega
 .rintro y rest ys A' ⟨dn,more,ts,e,d,rfl,f,g⟩
  cases more with
  |nil=>cases e
  |cons m more=>
   cases e;refine⟨[enc m],rfl,λQ v=>⟨rfl,m,rfl,u m (by rw[<-d];simp),λH k j h2 l2=>v _ _ ⟨dn++[m],more,ts++[k],rfl,by simpa using d,by simp,?_,g.trans j⟩⟩⟩;rw[map_append];exact TabsAt.snoc (.inl h2) (f.gr j)
 .rintro ys A' ⟨dn,more,ts,e,d,rfl,f,g⟩
  cases more with
  |cons _ _=>cases e
  |nil=>
   have d:dn=ms:=by simpa using d
   subst d;have j:=(i.trans g).trans (Gr.push (T:=[C.lst (ts.map D.ref)]));exact t _ _ j ⟨ts,aR,f.gr Gr.push⟩ (i.trans g).len
end My
namespace DP
open L2 MA
end DP
namespace My
open L2 DP MA
end My
namespace DP
open L2 MA
def gK(Ts:List Tb)(a b:Str):Prop:=∃T∈Ts,a∈aC T/\b∈aC T
inductive dg(Ts:List Tb):Str->Str->Prop
 |refl (a:Str):dg Ts a a
 |step {a b c:Str}:dg Ts a b->gK Ts b c->dg Ts a c
theorem gK.symm{c:List Tb}{a b:Str}(h:gK c a b):gK c b a:=by
 obtain⟨T,h1,h2,d⟩:=h;exact⟨T,h1,d,h2⟩
theorem dg.trans{d:List Tb}{a b c:Str}(h:dg d a b)(k:dg d b c):dg d a c:=by
 induction k with
 |refl=>exact h
 |step _ e f=>exact .step f e
theorem dg.symm{c:List Tb}{a b:Str}(h:dg c a b):dg c b a:=by
 induction h with
 |refl=>exact .refl _
 |step _ e d=>exact(dg.step (.refl _) e.symm).trans d
theorem Bj{c:List Tb}{a b:Str}:gK c a b↔∃s∈cg c a,s.2.2=b:=by
 constructor
 .rintro ⟨T,d,h1,h2⟩
  obtain⟨i,hi,e⟩:=getElem_of_mem d;exact⟨(i,a,b),ji.mpr ⟨T,by rw[getElem?_eq_getElem hi,e],h1,rfl,h2⟩,rfl⟩
 .rintro ⟨s,hs,rfl⟩
  obtain⟨T,h1,h2,g,f⟩:=ji.mp hs;exact⟨T,mem_of_getElem? h1,h2,f⟩
inductive fS(Ts:List Tb):Str->List bS->Str->Prop
 |nil (a:Str):fS Ts a [] a
 |snoc {a b:Str} {l:List bS} {s:bS}:fS Ts a l s.2.1->oU Ts s->s.2.2=b->fS Ts a (l++[s]) b
theorem fS.kC{c:List Tb}{a b:Str}{l:List bS}(h:fS c a l b):dg c a b:=by
 induction h with
 |nil=>exact .refl _
 |snoc _ hs e d=>
  obtain⟨T,h1,h2,f⟩:=hs;exact .step d ⟨T,mem_of_getElem? h1,h2,by rw[<-e];exact f⟩
theorem vn{b:List Tb}{a:Str}:∀(ss:List bS) (P:aJ),(∀s∈ss,oU b s/\s.2.1∈aA P)->(∀p∈P,fS b a p.2 p.1)->∀p∈ss.foldl bu P,fS b a p.2 p.1
 |[],P,_,h=>h
 |s::ss,P,hs,h=>by
  obtain⟨d,e⟩:=hs s (mem_cons_self ..);refine vn ss (bu P s) (λx c=>⟨(hs x (mem_cons_of_mem _ c)).1,(jA P s _).mpr (.inl (hs x (mem_cons_of_mem _ c)).2)⟩) λp hp=>?_;unfold bu at hp;split at hp
  .exact h p hp
  .rcases mem_append.mp hp with hp|hp
   .exact h p hp
   .rw[mem_singleton.mp hp]
    exact .snoc (h _ (qB e)) d rfl
theorem K_{a:List Tb}{n:Str}{s:bS}(h:s∈cg a n):oU a s/\s.2.1=n:=by
 obtain⟨T,h1,h2,b,c⟩:=ji.mp h;exact⟨⟨T,h1,by rw[b];exact h2,c⟩,b⟩
theorem tQ{b:List Tb}{a:Str}:∀(f i:Nat) (P:aJ),(∀p∈P,fS b a p.2 p.1)->∀p∈b4 b f i P,fS b a p.2 p.1
 |0,i,P,h=>h
 |f+1,i,P,h=>by
  cases e:P[i]? with
  |none=>
   have:b4 b (f+1) i P=P:=by
    show(match P[i]? with|some p=>b4 b f (i+1) ((cg b p.1).foldl bu P)|none=>P)=_;rw[e]
   rw[this];exact h
  |some c=>
   rw[ly e];refine tQ f (i+1) _ (vn _ _ (λs hs=>?_) h);obtain⟨h1,h2⟩:=K_ hs;exact⟨h1,by rw[h2];exact mem_map_of_mem (mem_of_getElem? e)⟩
theorem tR{c:List Tb}{NN:List Str}(hok:dW c NN):∀(f i:Nat) (P:aJ),cP P NN->13<=f+i->(∀j,j<i->∀p,P[j]?=some p->∀b,gK c p.1 b->b∈aA P)->∀p∈b4 c f i P,∀b,gK c p.1 b->b∈aA (b4 c f i P)
 |0,i,P,l,r,hc=>λp a b d=>by
  have A:=le_trans l.len hok.nn;obtain⟨j,k,e⟩:=getElem_of_mem (show p∈P from a);exact hc j (by omega) p (by rw[getElem?_eq_getElem k,e]) b d
 |f+1,i,P,l,r,hc=>by
  cases e:P[i]? with
  |none=>
   have t:b4 c (f+1) i P=P:=by
    show(match P[i]? with|some p=>b4 c f (i+1) ((cg c p.1).foldl bu P)|none=>P)=_;rw[e]
   rw[t];intro p a b d;obtain⟨j,k,m⟩:=getElem_of_mem a;have:P.length<=i:=List.getElem?_eq_none_iff.mp e;exact hc j (by omega) p (by rw[getElem?_eq_getElem k,m]) b d
  |some g=>
   rw[ly e];obtain⟨X,eX⟩:=lX (cg c g.1) P;have n:g.1∈aA P:=mem_map_of_mem (mem_of_getElem? e);have o:=(List.getElem?_eq_some_iff.mp e).1;have key:∀(ss:List bS) (Q:aJ),(∀s∈ss,s∈cg c g.1)->cP Q NN->g.1∈aA Q->cP (ss.foldl bu Q) NN:=by
    intro ss;induction ss with
    |nil=>intro Q _ h _;exact h
    |cons s ss u=>
     intro Q hs v a;obtain⟨T,w,_,m,y⟩:=ji.mp (hs s (mem_cons_self ..));exact u _ (λx z=>hs x (mem_cons_of_mem _ z)) (v.add (by rw[m];exact a) (hok.sub T (mem_of_getElem? w) _ y)) ((jA Q s g.1).mpr (.inl a))
   refine tR hok f (i+1) _ (key _ _ (λs h=>h) l n) (by omega) λj k p a b d=>?_;rw[p7];by_cases q:j<i
   .rw[eX,getElem?_append_left (by omega)] at a
    exact .inl (hc j q p a b d)
   .have:j=i:=by omega
    subst this;rw[eX,getElem?_append_left o,e] at a;cases a;obtain⟨s,hs,rfl⟩:=Bj.mp d;exact .inr (mem_map_of_mem hs)
theorem Ih{a:List Tb}{n:Str}:∀p∈c_ a n,fS a n p.2 p.1:=tQ 14 0 _ λp b=>by
 have:p=(n,[]):=by simpa using b
 rw[this];exact .nil _
theorem ki{b:List Tb}{NN:List Str}(hok:dW b NN){n:Str}(d:n∈NN){m:Str}:m∈aA (c_ b n)↔dg b n m:=by
 constructor
 .intro h
  obtain⟨p,a,rfl⟩:=mem_map.mp h;exact(Ih p a).kC
 .intro h
  have h0:cP [(n,[])] NN:=⟨by simp[aA],λm f=>by
   have:m=n:=by simpa[aA] using f
   rw[this];exact d,λp a=>by
   have:p=(n,[]):=by simpa using a
   rw[this];simp⟩
  have c:=tR hok 14 0 [(n,[])] h0 (by omega) λj i=>by omega
  induction h with
  |refl=>exact(kh hok d).2.1
  |step _ e g=>
   obtain⟨p,a,rfl⟩:=mem_map.mp g;exact c p a _ e
theorem vK{d:List Tb}{NN:List Str}(hok:dW d NN):∀(ns:List Str) (Gs:List aJ),(∀n∈ns,n∈NN)->(∀P∈Gs,∃n∈NN,P=c_ d n)->Gs.Pairwise (λP Q=>∀m,m∈aA P->m∉aA Q)->(ns.foldl (bz d) Gs).Pairwise (λP Q=>∀m,m∈aA P->m∉aA Q)
 |[],Gs,_,_,h=>h
 |n::ns,Gs,g,f,h=>by
  have b:=g n (mem_cons_self ..);refine vK hok ns (bz d Gs n) (λm e=>g m (mem_cons_of_mem _ e)) (λP hP=>?_) ?_
  .unfold bz at hP
   split at hP
   .exact f P hP
   .rcases mem_append.mp hP with hP|hP
    .exact f P hP
    .exact⟨n,b,mem_singleton.mp hP⟩
  .unfold bz
   split
   .exact h
   .rename_i c
    rw[List.pairwise_append];refine⟨h,by simp,λP hP Q i m e a=>?_⟩;rw[mem_singleton.mp i] at a;obtain⟨k,j,rfl⟩:=f P hP;refine c (mem_flatMap.mpr ⟨_,hP,?_⟩);rw[ki hok j] at e ⊢;rw[ki hok b] at a;exact e.trans a.symm
theorem vJ{a:List Tb}{NN:List Str}(hok:dW a NN):(cZ a).Pairwise (λP Q=>∀m,m∈aA P->m∉aA Q):=
 vK hok _ [] (λm b=>by
  obtain⟨T,h1,h2⟩:=mem_flatMap.mp b;exact hok.sub T h1 m h2) (λP h=>by cases h) Pairwise.nil
theorem KH{A:Ar}{r:Nat}{lo hi:Option Int}{xs:List D}{R:DK}(h:A[r]?=some (.lst xs))(k:R (.ref A.length) (A++[.lst (cutD xs lo hi)])):kG r lo hi A R:=by
 unfold kG;simp only[h];exact k
theorem BZ{xs:List D}{i:Nat}(h:i<=xs.length):cutD xs none (some ((i:Nat):Int))=xs.take i:=by
 unfold cutD;have a:HT.av xs.length 0 none=0:=rfl;have b:HT.av xs.length xs.length (some ((i:Nat):Int))=i:=by
  unfold HT.av;simp;rw[if_neg (by omega)];omega
 rw[a,b];rfl
structure gm(Ts:List Tb)(es:List (List Str)):Prop where
 nR:∀e∈es,e.Pairwise strLt/\e≠[]
 ord:es.Pairwise λa b=>strLt (a.headD default) (b.headD default)
 EA:∀e∈es,∃P∈cZ Ts,∀x,x∈e↔x∈aA P
 all:∀P∈cZ Ts,∃e∈es,∀x,x∈e↔x∈aA P
def sH:Ct:=λds A R E=>∃x NN,ds=[x]/\bq A x=true/\(∀n∈NN,Nm n)/\(∀ms,eW x ms->dW (ms.map aU) NN/\∀A' q es,gm (ms.map aU) es->Gr A A'->A'[q]?=some (.lst (es.map λe=>D.tup (e.map D.str)))->A.length<=q->R (.ref q) A')/\((¬∃ms,eW x ms)->∀A',Gr A A'->E "NoHall" A')
def jb(d:D):eG.α:=match d with
 |.tup (.str n::_)=>n.cps.toList
 |_=>[]
theorem EE:∀{Gs:List aJ} {NN:List Str},(∀P∈Gs,∃n∈aA P,n∈NN)->Gs.Pairwise (λP Q=>∀m,m∈aA P->m∉aA Q)->Gs.length<=NN.length:=by
 intro Gs NN h hd;have:∃hs:List Str,hs.length=Gs.length/\hs.Nodup/\(∀x∈hs,x∈NN)/\∀x∈hs,∃P∈Gs,x∈aA P:=by
  induction Gs with
  |nil=>exact⟨[],rfl,nodup_nil,(λ_ h=>by cases h),(λ_ h=>by cases h)⟩
  |cons P Gs e=>
   obtain⟨f,g⟩:=pairwise_cons.mp hd;obtain⟨hs,k1,k2,k3,c⟩:=e (λQ a=>h Q (mem_cons_of_mem _ a)) g;obtain⟨n,d,i⟩:=h P (mem_cons_self ..);refine⟨n::hs,by simp[k1],nodup_cons.mpr ⟨λj=>?_,k2⟩,λx hx=>?_,λx hx=>?_⟩
   .obtain⟨Q,a,b⟩:=c n j
    exact f Q a n d b
   .rcases mem_cons.mp hx with rfl|hx
    .exact i
    .exact k3 x hx
   .rcases mem_cons.mp hx with rfl|hx
    .exact⟨P,mem_cons_self ..,d⟩
    .obtain⟨Q,a,b⟩:=c x hx
     exact⟨Q,mem_cons_of_mem _ a,b⟩
 obtain⟨hs,k1,k2,k3,_⟩:=this;have:=ie hs NN k2 k3;omega
def bH(e:List Str):D:=.tup (e.map D.str)
theorem rR{a b:List Str}(h:bH a=bH b):a=b:=by
 have h:=D.tup.inj h;exact(List.map_inj_right λx y e=>D.str.inj e).mp h
theorem rS{e:List Str}(h:∀n∈e,Nm n)(ne:e≠[]):fu (bH e)=true/\(toQ (bH e)).canLay0=true/\(toQ (bH e)).depth<=60/\∃x r,toQ (bH e)=.tuple (.str x::r):=by
 have eq:toQ (bH e)=.tuple (e.map PyData.str):=by
  show PyData.tuple (bM (e.map D.str))=_;rw[nH]
 refine⟨yk e,?_,?_,?_⟩
 .rw[eq]
  simpa[canLay0] using qw e h
 .rw[eq]
  simp[PyData.depth,uS]
 .cases e with
  |nil=>exact absurd rfl ne
  |cons x r=>exact⟨x,r.map PyData.str,eq⟩
theorem xq:∀xs:List Str,eO (xs.map PyData.str) (xs.map PyData.str)=some false
 |[]=>rfl
 |x::xs=>by
  rw[map_cons,eO];have c:PyData.eqv (.str x) (.str x)=true:=by simp[PyData.eqv]
  rw[c];exact xq xs
theorem Ad{a b:List Str}(d:a≠[])(f:b≠[])(h:a.headD default=b.headD default->a=b):ltQ (toQ (bH a)) (toQ (bH b))=some (eG.blt (jb (bH a)) (jb (bH b))):=by
 cases a with
 |nil=>exact absurd rfl d
 |cons x a=>
 cases b with
 |nil=>exact absurd rfl f
 |cons y b=>
 have eq:∀(x:Str) (e:List Str),toQ (bH (x::e))=.tuple (.str x::e.map PyData.str):=λx e=>by
  show PyData.tuple (bM ((x::e).map D.str))=_;rw[nH];rfl
 rw[eq,eq];show _=some (eG.blt x.cps.toList y.cps.toList);by_cases c:x=y
 .have e:=h c
  cases e;rw[ltQ,eG.irrefl];exact xq (x::a)
 .rw[ltQ,eO]
  have c':PyData.eqv (.str x) (.str y)=false:=by simpa[PyData.eqv] using c
  rw[c'];show ltQ (.str x) (.str y)=_;rw[ltQ]
theorem tK{f:List Str->D}:∀{ds:List D},(∀d∈ds,∃e,d=f e)->∃es:List (List Str),ds=es.map f
 |[],_=>⟨[],rfl⟩
 |d::ds,h=>by
  obtain⟨es,rfl⟩:=tK (ds:=ds) λx a=>h x (mem_cons_of_mem _ a);obtain⟨e,rfl⟩:=h d (mem_cons_self ..);exact⟨e::es,rfl⟩
end DP
namespace My
open L2 DP MA
theorem DT(T:TopD K mg "bound" zh m_)(p:mg "sorted"=none)(G:mg "tuple"=none)(o:aB P w K mg base 13 "hall_shares" ni (ay mg 1 sO))(E:aB P w K mg base 3 "groups" nh (ay mg 1 sM)):aB P w K mg base 14 "bound" m_ (ay mg 1 sH):=by
 refine b_ T Ke λhr hR hx hu nd=>⟨_,(aE (aW (cJ (BL rfl hu) CI p boot_sorted (aa (iY none (own:=["paths"]) (frees:=[]) (ix:=[]) rfl (ef (dL E hr hx (aa (dL o hr hx (aa (vr 0) ai)) ai))) (λc=>(pG 0 (show(["paths"]:List Str).Nodup by decide+kernel))) (λc=>(gW lA lK G boot_tuple (aa (cJ (BK rfl) CH p boot_sorted (aa (vr 0) ai)) ai)))) ai)))),λds A R h hl=>?_⟩;obtain⟨x,NN,rfl,hk,ET,q1,q2⟩:=h;have hz:(1000:Nat)<=sizeLine:=by decide
 refine⟨rfl,x,rfl,hk,λms hH A1 q3 g1 hB l1=>?_,λI A1 g1=>q2 I _ g1⟩;obtain⟨hok,q4⟩:=q1 ms hH;refine⟨rfl,q3,_,NN,rfl,hB,hok,λA2 q5 g2 hG=>?_⟩;obtain⟨_,gs,W,X⟩:=hG;have wU:=X.len;refine gb W ?_;have gl:(cZ (ms.map aU)).length<64:=by
  have:=EE (Gs:=cZ (ms.map aU)) (NN:=NN) (λP s=>?_) (vJ hok)
  .have:=hok.nn
   omega
  .obtain⟨n,I,_,rfl⟩:=l0 hok s
   exact⟨n,(kh hok I).2.1,I⟩
 have J:∀P∈cZ (ms.map aU),cP P NN/\aA P≠[]:=λP s=>by
  obtain⟨n,I,_,rfl⟩:=l0 hok s;obtain⟨k1,k2,_⟩:=kh hok I;exact⟨k1,λz=>by rw[z] at k2;cases k2⟩
 refine lD (λrest ys A'=>∃(dn more:List Nat) (es:List (List Str)),rest=more.map D.ref/\dn++more=gs/\ys=es.map (λe=>D.tup (e.map D.str))/\es.length=dn.length/\(∀(i:Nat) (e:List Str) (P:aJ),es[i]?=some e->(cZ (ms.map aU))[i]?=some P->e.Pairwise strLt/\∀x,x∈e↔x∈aA P)/\Gr A2 A') ?_ ?_ ?_ ?_ _ _ _ ⟨[],gs,[],rfl,rfl,rfl,rfl,(λi e P h=>by simp at h),Gr.refl⟩
 .rintro rest ys A' ⟨_,_,_,_,_,_,_,_,g⟩
  exact g.get W
 .rintro rest ys A' ⟨dn,more,es,_,u,rfl,L,_,g⟩
  have:=congrArg List.length u;rw[length_append] at this;rw[length_map];omega
 .rintro y rest ys A' ⟨dn,more,es,e,u,rfl,L,U,g⟩
  cases more with
  |nil=>cases e
  |cons t more=>
   cases e;have ht:gs[dn.length]?=some t:=by rw[<-u];simp
   obtain⟨P,s,hA⟩:=X.get ht;have hA:=hA.gr g;obtain⟨_,kvs,hd,hk',_⟩:=hA;have Y:=(J P (mem_of_getElem? s)).1;refine⟨[.ref t],rfl,λQ hQ=>?_⟩;refine Kz hd hk' Y.nd (by have:=Y.len;have:=hok.nn;simp[aA];omega) λzs z1 z2=>?_;refine nZ aR ?_;refine hQ _ _ ⟨dn++[t],more,es++[zs],rfl,by simpa using u,by simp,by simp[L],λi e P' h1 h2=>?_,g.trans Gr.push⟩;by_cases hi:i<es.length
   .rw[getElem?_append_left hi] at h1
    exact U i e P' h1 h2
   .rw[getElem?_append_right (by omega)] at h1
    have hi0:i - es.length=0:=by
     cases hh:i - es.length with
     |zero=>rfl
     |succ k=>rw[hh] at h1;simp at h1
    rw[hi0] at h1;simp at h1;have E6:i=dn.length:=by omega
    rw[E6,s] at h2;cases h2;rw[<-h1];exact⟨z1,z2⟩
 .rintro ys A' ⟨dn,more,es,e,u,rfl,L,U,g⟩
  cases more with
  |cons _ _=>cases e
  |nil=>
   have u:dn=gs:=by simpa using u
   subst u;have MP:es.length=(cZ (ms.map aU)).length:=by omega
   have at_:∀e∈es,∃(i:Nat) (P:aJ),es[i]?=some e/\(cZ (ms.map aU))[i]?=some P/\e.Pairwise strLt/\(∀x,x∈e↔x∈aA P)/\P∈cZ (ms.map aU):=λe m=>by
    obtain⟨i,hi,rfl⟩:=getElem_of_mem m;have s:=getElem?_eq_getElem (l:=cZ (ms.map aU)) (i:=i) (by omega);have m:=getElem?_eq_getElem (l:=es) (i:=i) hi;obtain⟨k1,k2⟩:=U i _ _ m s;exact⟨i,_,m,s,k1,k2,mem_of_getElem? s⟩
   have ne:∀e∈es,e≠[]:=λe m z=>by
    obtain⟨i,P,_,_,_,k,s⟩:=at_ e m;have:=(J P s).2;cases hk:aA P with
    |nil=>exact this hk
    |cons n t=>
     have:=(k n).mpr (by rw[hk];simp);rw[z] at this;cases this
   have B:=vJ hok;have same:∀e∈es,∀F∈es,∀x,x∈e->x∈F->e=F:=λe m F v x h1 h2=>by
    obtain⟨i,P,k1,k2,k3,k4,_⟩:=at_ e m;obtain⟨j,P',j1,j2,j3,j4,_⟩:=at_ F v;have M:i=j:=by
     rw[pairwise_iff_getElem] at B;obtain⟨hi,ei⟩:=List.getElem?_eq_some_iff.mp k2;obtain⟨hj,ej⟩:=List.getElem?_eq_some_iff.mp j2;rcases Nat.lt_trichotomy i j with h|h|h
     .exact absurd ((j4 x).mp h2) (by have:=B i j hi hj h x (by rw[ei];exact(k4 x).mp h1);rw[ej] at this;exact this)
     .exact h
     .exact absurd ((k4 x).mp h1) (by have:=B j i hj hi h x (by rw[ej];exact(j4 x).mp h2);rw[ei] at this;exact this)
    subst M;rw[k1] at j1;exact Option.some.inj j1
   have q:∀e:List Str,e≠[]->e.headD default∈e:=λe m=>by
    cases e with
    |nil=>exact absurd rfl m
    |cons x r=>exact mem_cons_self ..
   have hh:∀e∈es,∀F∈es,e.headD default=F.headD default->e=F:=λe m F v h=>
    same e m F v _ (q e (ne e m)) (by rw[h];exact q F (ne F v))
   have nm:∀e∈es,∀n∈e,Nm n:=λe m n I=>by
    obtain⟨i,P,_,_,_,k,s⟩:=at_ e m;exact ET n ((J P s).1.sub n ((k n).mp I))
   refine K1 (ds:=es.map bH) eG jb aR (by rw[length_map];omega) (λd hd=>?_) (λd hd e m=>?_) λfs pf sf=>?_
   .obtain⟨e,m,rfl⟩:=mem_map.mp hd
    exact rS (nm e m) (ne e m)
   .obtain⟨a,N,rfl⟩:=mem_map.mp hd
    obtain⟨b,H,rfl⟩:=mem_map.mp m;exact Ad (ne a N) (ne b H) (hh a N b H)
   obtain⟨zs,rfl⟩:=tK (f:=bH) (ds:=fs) λd hd=>by
    obtain⟨e,_,rfl⟩:=mem_map.mp (pf.mem_iff.mp hd);exact⟨e,rfl⟩
   have V:∀e,e∈zs↔e∈es:=λe=>by
    have h1:e∈zs↔bH e∈zs.map bH:=by
     constructor
     .exact λh=>mem_map_of_mem h
     .intro h
      obtain⟨F,v,h⟩:=mem_map.mp h;rw[<-rR h];exact v
    have h2:e∈es↔bH e∈es.map bH:=by
     constructor
     .exact λh=>mem_map_of_mem h
     .intro h
      obtain⟨F,v,h⟩:=mem_map.mp h;rw[<-rR h];exact v
    rw[h1,h2,pf.mem_iff]
   have Z:es.Nodup:=by
    rw[Nodup,pairwise_iff_getElem];intro i j hi hj M z;have EV:=getElem?_eq_getElem (l:=cZ (ms.map aU)) (i:=i) (by omega);have EW:=getElem?_eq_getElem (l:=cZ (ms.map aU)) (i:=j) (by omega);obtain⟨_,k1⟩:=U i _ _ (getElem?_eq_getElem hi) EV;obtain⟨_,k2⟩:=U j _ _ (getElem?_eq_getElem hj) EW;have hm:=q es[i] (ne _ (getElem_mem hi));have m1:=(k1 _).mp hm;rw[z] at hm;have m2:=(k2 _).mp hm;rw[<-z] at m2;exact(pairwise_iff_getElem.mp B) i j (by omega) (by omega) M _ m1 m2
   have Mm:zs.Nodup:=by
    have h1:(es.map bH).Nodup:=pairwise_map.mpr (Z.imp λ {a b} O z=>O (rR z));have h2:(zs.map bH).Nodup:=pf.nodup_iff.mpr h1;exact Pairwise.imp (R:=λa b=>bH a≠bH b) (S:=λa b:List Str=>a≠b) (λ {a b} O (z:a=b)=>O (by rw[z])) (pairwise_map.mp h2)
   have H:gm (ms.map aU) zs:=by
    refine⟨λe m=>?_,?_,λe m=>?_,λP s=>?_⟩
    .obtain⟨_,_,_,_,k,_,_⟩:=at_ e ((V e).mp m)
     exact⟨k,ne e ((V e).mp m)⟩
    .refine(Pairwise.and_mem.mp ((pairwise_map.mp sf).and Mm)).imp ?_
     rintro a b ⟨N,H,k1,k2⟩;have N:=(V a).mp N;have H:=(V b).mp H;have na:=ne a N;have nb:=ne b H;have h1:=hh a N b H;cases a with
     |nil=>exact absurd rfl na
     |cons x a=>
     cases b with
     |nil=>exact absurd rfl nb
     |cons y b=>
     show strLt x y;have k1:eG.blt y.cps.toList x.cps.toList=false:=k1;have k3:eG.blt x.cps.toList y.cps.toList=true:=by
      cases c:eG.blt x.cps.toList y.cps.toList with
      |true=>rfl
      |false=>exact absurd (h1 (zY (eG.total _ _ c k1))) k2
     exact show x.cps.toList<y.cps.toList from of_decide_eq_true k3
    .obtain⟨_,P,_,_,_,k,s⟩:=at_ e ((V e).mp m)
     exact⟨P,s,k⟩
    .obtain⟨i,hi,rfl⟩:=getElem_of_mem s
     have m:=getElem?_eq_getElem (l:=es) (i:=i) (by omega);obtain⟨_,k⟩:=U i _ _ m (getElem?_eq_getElem hi);exact⟨_,(V _).mpr (mem_of_getElem? m),k⟩
   have gg:=((g1.trans g2).trans g).trans (Gr.push (T:=[C.lst (es.map bH)]));exact q4 _ _ zs H (gg.trans Gr.push) aR gg.len
end My
namespace DP
open L2 MA
end DP
namespace My
open L2 DP MA
end My
namespace DP
open L2 MA
end DP
namespace My
open L2 DP MA
end My
namespace DP
open L2 MA
end DP
namespace My
open L2 DP MA
end My
namespace DP
open L2 MA
end DP
namespace My
open L2 DP MA
end My
namespace DP
open L2 MA
end DP
namespace My
open L2 DP MA
end My
namespace DP
open L2 MA
def N6:List Str:=["a","b","c","d","e","f"]
theorem ig:∀n∈N6,Nm n:=λn a=>by
 simp only[N6,mem_cons,not_mem_nil,or_false] at a;rcases a with rfl|rfl|rfl|rfl|rfl|rfl<;>exact⟨by decide+kernel,by decide+kernel,by decide+kernel⟩
theorem L6:N6.Pairwise strLt:=by
 have:∀a b:Str,(decide (a.cps.toList<b.cps.toList))=true->strLt a b:=λa b h=>show a.cps.toList<b.cps.toList from of_decide_eq_true h
 simp only[N6,pairwise_cons,mem_cons,not_mem_nil,or_false];refine⟨λb c=>?_,λb c=>?_,λb c=>?_,λb c=>?_,λb c=>?_,λb c=>c.elim,.nil⟩;all_goals
  refine this _ _ ?_
 .rcases c with rfl|rfl|rfl|rfl|rfl<;>decide+kernel
 .rcases c with rfl|rfl|rfl|rfl<;>decide+kernel
 .rcases c with rfl|rfl|rfl<;>decide+kernel
 .rcases c with rfl|rfl<;>decide+kernel
 .rcases c with rfl<;>decide+kernel
def One(m:M):Prop:=(∃n∈N6,m=.wt n)\/∃(l r:Int) (a b:Str),m=.bK l r (.wt a) (.wt b)/\(1<=l/\l<=9)/\(1<=r/\r<=9)/\a∈N6/\b∈N6/\a≠b
def sN:Ct:=λds A R _=>∃ns t n,ds=[.fl ns,.ref t]/\Tw t n A/\n+200<=1000000/\∀(ms:List M) A',1<=ms.length->ms.length<=5->(∀m∈ms,One m)->Dr t A A' n 200->R (.tup (ms.map enc)) A'
theorem JL{k i:Nat}{v:D}{rest:List D}(h:v::rest=(c7 0 k).drop i):v=.int ((i:Nat):Int)/\rest=(c7 0 k).drop (i+1)/\i<k:=by
 have l:(c7 0 k).length=k:=by simp[c7]
 have hi:i<k:=by
  have:=congrArg List.length h;rw[length_drop,l] at this;simp at this;omega
 rw[drop_eq_getElem_cons (by omega),List.cons.injEq] at h;refine⟨?_,h.2,hi⟩;rw[h.1];simp[c7]
theorem JM{k i:Nat}(h:[]=(c7 0 k).drop i)(hi:i<=k):i=k:=by
 have l:(c7 0 k).length=k:=by simp[c7]
 have:=congrArg List.length h;rw[length_drop,l] at this;simp at this;omega
theorem bO.KA{t q:Nat}{A A':Ar}{c:C}(h:bO t A A')(b:A.length<=q):bO t A (A'.set q c):=λp d a hd=>by
 rw[getElem?_set_ne (by have:=cB hd;omega)];exact h p d a hd
theorem xw{l r:Int}(h:¬(if r>l then r else l)>9):l<=9/\r<=9:=by
 split at h<;>omega
theorem bO.len{t:Nat}{A A':Ar}(h:bO t A A')(b:t<A'.length):A.length<=A'.length:=by
 by_cases e:A.length=0
 .omega
 by_cases a:A.length - 1=t
 .omega
 .have:=cB (h (A.length - 1) _ a (getElem?_eq_getElem (by omega)))
  omega
end DP
namespace My
open L2 DP MA
theorem D3(T:TopD K mg "_law_hall" y_ mY)(I:mg "dict"=none)(E:mg "range"=none)(O:mg "max"=none)(G:mg "tuple"=none)(c:aB P w K mg base 3 "_law_draw" jj (ay mg 3 k9))(d:aB P w K mg base 4 "_law_pick" j_ (ay mg 3 oO))(f:aB P w K mg base 5 "_law_weights" m8 (ay mg 3 tu)):aB P w K mg base 6 "_law_hall" mY (ay mg 2 sN):=by
 refine b_ T J7 λQ hR B Z nd=>⟨_,(aG (dS 2 nd (dL c Q B (aa (vr 0) (aa (vr 1) (aa aq ai)))))
  (aG (dS 3 nd (d_ aq (dL c Q B (aa (vr 0) (aa (vr 1) (aa aq ai))))))
  (aG (dS 4 nd (CW (dP (@aa _ _ _ _ _ _ b9 (@aa _ _ _ _ _ _ b9 (@aa _ _ _ _ _ _ b9 (@aa _ _ _ _ _ _ b9 (@aa _ _ _ _ _ _ b9 (@aa _ _ _ _ _ _ b9 ai jm) jm) jm) jm) jm) jm)) pM (pN (d_ aq (dL c Q B (aa (vr 0) (aa (vr 1) (aa aq ai))))))))
  (aG (dS 5 nd (gW (uf rfl) uz I boot_dict (aa (dL f Q B (aa (vr 0) (aa (vr 1) (aa (vr 4) ai)))) ai)))
  (aG (dS 6 nd (dP ai))
  (aG (fL eE rfl (C5 E (aa (vr 3) ai)) (dG 7 nd) (aG (uZ (i:=8) (j:=9) rfl nd rfl rfl (by decide) rfl rfl (aa (dL d Q B (aa (vr 0) (aa (vr 1) (aa (vr 4) ai)))) (aa (dL d Q B (aa (vr 0) (aa (vr 1) (aa (vr 4) ai)))) ai)) rfl)
  (aG (uZ (i:=10) (j:=11) rfl nd rfl rfl (by decide) rfl rfl (aa (dX Z (vr 5) (vr 9)) (aa (dX Z (vr 5) (vr 8)) ai)) rfl)
  (aG (bY (PW.pt (pR (fR Z (vr 2) aq) (pS (fR Z (vr 7) (pI (vr 3) aq))))) (aE (dS 10 nd (d_ aq (dL c Q B (aa (vr 0) (aa (vr 1) (aa aq ai))))))) cz)
  (aE (bY (PW.pt (fN (fR Z (vr 8) (vr 9)) (gy (z7 (cJ (BJ rfl) CB O boot_max (aa (vr 10) (aa (vr 11) ai))) aq)))) (aE (e9 (gv plainAttrs_list PySem.F.slot_list_append PySem.F.type_list_append iG iX (vr 6) (aa (cY (aa b9 (aa (vr 8) ai))) ai)))) (aE (e9 (gv plainAttrs_list PySem.F.slot_list_append PySem.F.type_list_append iG iX (vr 6) (aa (cY (aa b9 (aa (vr 10) (aa (vr 11) (aa (cY (aa b9 (aa (vr 8) ai))) (aa (cY (aa b9 (aa (vr 9) ai))) ai)))))) ai))))))))))
  (aE (aW (gW lA lK G boot_tuple (aa (vr 6) ai)))))))))),λds A R h hl=>?_⟩
 obtain⟨ns,t,n,rfl,ht,hn,q⟩:=h;have hz:(1000:Nat)<=sizeLine:=by decide
 obtain⟨M1,Fj,_⟩:=id ht;have MU:=cB Fj;refine⟨rfl,ns,t,3,n,rfl,ht,by omega,by decide,λway A1 w0 w1 b1 t1=>?_⟩;refine⟨rfl,ns,t,5,n+1,rfl,t1,by omega,by decide,λmany A2 m0 m1 b2 t2=>?_⟩;refine⟨show 6<=sizeLine by omega,rfl,ns,t,5,n+2,rfl,t2.gr Gr.push,by omega,by decide,λsome u s0 s1 b3 t3=>?_⟩;have tM:bO t A u:=((b1.trans b2).trans Gr.push.but).trans b3;have MN:t<A2.length:=by obtain⟨_,h,_⟩:=id t2;exact cB h
 have hnm:u[A2.length]?=_:=b3 _ _ (by omega) aR;refine KH hnm ?_;obtain⟨k,rfl⟩:∃k:Nat,some=((k:Nat):Int):=⟨some.toNat,by omega⟩;have Dl:cutD [D.str "a",.str "b",.str "c",.str "d",.str "e",.str "f"] none (Option.some (2+((k:Nat):Int)))=(N6.take (2+k)).map D.str:=by
  have:=BZ (xs:=N6.map D.str) (i:=2+k) (by simp[N6];omega);rw[map_take,<-this];rfl
 rw[Dl];generalize s:N6.take (2+k)=l;have sub:∀x∈l,x∈N6:=λx B=>by rw[<-s] at B;exact mem_of_mem_take B
 have xG:l≠[]:=λz=>by
  rw[<-s] at z;have:=congrArg List.length z;simp[N6] at this
 have MX:l.length<=6:=by rw[<-s];simp[N6];omega
 have GG:t<u.length:=by obtain⟨_,h,_⟩:=id t3;exact cB h
 refine⟨rfl,ns,t,u.length,l,n+3,rfl,by omega,aR,by rw[<-s];exact L6.sublist (List.take_sublist ..),λx B=>ig x (sub x B),by omega,t3.gr Gr.push,by omega,λrs g hW J d4=>?_⟩;have mj:g[u.length]?=_:=d4.but _ _ (by omega) aR;have Bq:bO t A g:=(tM.trans Gr.push.but).trans d4.but;refine C7 hW ?_;have MO:u.length<g.length:=cB mj;have MK:A.length<=u.length:=tM.len GG;refine⟨zero_le _,by omega,by omega,?_⟩;obtain⟨mn,rfl⟩:∃mn:Nat,many=((mn:Nat):Int):=⟨many.toNat,by omega⟩;have Dq:((1:Int)+((mn:Nat):Int)).toNat=1+mn:=by omega
 rw[Dq];have t5:Tw t (n+103) (g++[C.dct (cT rs)]++[C.lst []]):=((d4.tw.gr Gr.push).gr Gr.push).mono (by omega);have Br:bO t A (g++[C.dct (cT rs)]++[C.lst []]):=(Bq.trans Gr.push.but).trans Gr.push.but;have Fe:=getElem?_push (T:=[C.lst []]) (getElem?_push (T:=[C.dct (cT rs)]) mj);have E1:(g++[C.dct (cT rs)]++[C.lst []])[g.length]?=some (.dct (cT rs)):=getElem?_push aR;have eM:(g++[C.dct (cT rs)]).length=g.length+1:=by simp
 have E_:(g++[C.dct (cT rs)]++[C.lst []])[g.length+1]?=some (.lst []):=by rw[<-eM];exact aR
 rw[eM];refine eZ (λrest τ A'=>∃(ms:List M) (S U V o p:Option D),rest=(c7 0 (1+mn)).drop ms.length/\ms.length<=1+mn/\(∀m∈ms,One m)/\τ=[some (.fl ns),some (.ref t),some (.int way),some (.int (1+((mn:Nat):Int))),some (.ref u.length),some (.ref g.length),some (.ref (g.length+1)),S,U,V,o,p]/\A'[u.length]?=some (.lst (l.map D.str))/\A'[g.length]?=some (.dct (cT rs))/\A'[g.length+1]?=some (.lst (ms.map enc))/\bO t A A'/\Tw t (n+103+3*ms.length) A') ?_ ?_ ?_ _ _ _ ⟨[],none,none,none,none,none,rfl,by simp,λ_ h=>(by cases h),rfl,Fe,E1,E_,Br,t5⟩
 .intro _ _ _ _
  trivial
 .rintro v rest τ A' ⟨ms,S,U,V,o,p,e,N,W,rfl,hN,hD,hM,bA,tA⟩ Nx EU
  obtain⟨rfl,rfl,hlt⟩:=JL e;refine⟨rfl,ns,t,u.length,l.map D.str,_,rfl,by omega,hN,by simpa using xG,tA,by omega,λx A6 Fl b6 t6=>?_⟩;obtain⟨a,ha,rfl⟩:=mem_map.mp Fl;refine⟨rfl,ns,t,u.length,l.map D.str,_,rfl,by omega,b6 _ _ (by omega) hN,by simpa using xG,t6,by omega,λx A7 Fo b7 t7=>?_⟩;obtain⟨b,hb,rfl⟩:=mem_map.mp Fo;have L:=b6.trans b7;have vQ:=L _ _ (by omega) hD;have va:=Al hW (n:=a) (by rw[J];exact ha);have vb:=Al hW (n:=b) (by rw[J];exact hb);refine gE vQ rfl (qa rs b (by rw[J];exact hb)) ?_;refine gE vQ rfl (qa rs a (by rw[J];exact ha)) ?_;refine cD (λc1=>cD (λc2=>⟨rfl,ns,t,9,_,rfl,t7,by omega,by decide,λi A8 i0 i1 b8 t8=>?g1⟩) (λc2=>?g2)) (λc1=>?g3);case' g1=>
   have X:1<=1+i:=by omega
   have Y:=L.trans b8;have t9:Tw t (n+103+3*(ms.length+1)) A8:=t8.mono (by omega);generalize H:A8=A9 at*
   clear H
  case' g2=>
   have X:1<=val rs b:=vb.1;have Y:=L;have t9:Tw t (n+103+3*(ms.length+1)) A7:=t7.mono (by omega);generalize H:A7=A9 at*
   clear H
  case' g3=>
   have X:1<=val rs b:=vb.1;have Y:=L;have t9:Tw t (n+103+3*(ms.length+1)) A7:=t7.mono (by omega);generalize H:A7=A9 at*
   clear H
  all_goals
   have hr1:=va.1;have ES:=Y _ _ (show u.length≠t by omega) hN;have EN:=Y _ _ (show g.length≠t by omega) hD;have r:=Y _ _ (show g.length+1≠t by omega) hM;have Bs:=bA.trans Y;have sz:(ms.map enc).length<sizeLine:=by rw[length_map];omega
   have done:∀(m:M) (aO:aV) (S U V o p:Option D),One m->aO=[some (.fl ns),some (.ref t),some (.int way),some (.int (1+((mn:Nat):Int))),some (.ref u.length),some (.ref g.length),some (.ref (g.length+1)),S,U,V,o,p]->Nx aO (A9.set (g.length+1) (.lst (ms.map enc++[enc m]))):=λm aO S U V o p hm Fq=>by
    refine EU _ _ ⟨ms++[m],S,U,V,o,p,by simp,by simp;omega,λy hy=>?_,Fq,?_,?_,?_,Bs.KA (by omega),?_⟩
    .rcases mem_append.mp hy with h|h
     .exact W y h
     .rw[mem_singleton.mp h]
      exact hm
    .rw[getElem?_set_ne (by omega)]
     exact ES
    .rw[getElem?_set_ne (by omega)]
     exact EN
    .rw[map_append]
     exact getElem?_set_self (cB r)
    .obtain⟨ys,y1,y2⟩:=t9
     refine⟨ys,?_,by simpa using y2⟩;rw[getElem?_set_ne (by omega)];exact y1
   refine cD (λc3=>?_) (λc3=>cD (λc4=>?_) (λc4=>?_))
   .exact⟨f9 r,show 2<=sizeLine by omega,iy r sz (done (.wt a) _ _ _ _ _ _ (.inl ⟨a,sub a ha,rfl⟩) rfl)⟩
   .exact⟨f9 r,show 2<=sizeLine by omega,iy r sz (done (.wt a) _ _ _ _ _ _ (.inl ⟨a,sub a ha,rfl⟩) rfl)⟩
   .refine⟨f9 r,show 2<=sizeLine by omega,show 2<=sizeLine by omega,show 5<=sizeLine by omega,iy r sz (done (.bK _ (val rs a) (.wt a) (.wt b)) _ _ _ _ _ _ (.inr ⟨_,val rs a,a,b,rfl,⟨X,(xw c4).1⟩,⟨hr1,(xw c4).2⟩,sub a ha,sub b hb,c3⟩) rfl)⟩
 .rintro τ A' ⟨ms,S,U,V,o,p,e,N,W,rfl,hN,hD,hM,bA,tA⟩
  have e:=JM e N;refine nZ hM ?_;exact q ms _ (by omega) (by omega) W ⟨bA,tA.mono (by omega)⟩
end My
namespace DP
open L2 MA
abbrev dN:=Str×Str×Int×Int
def wh:M->Bool
 |.bK _ _ _ _=>true
 |.wt _=>false
def n5:M->dN
 |.bK l r (.wt a) (.wt b)=>(a,b,r,l)
 |_=>("","",1,1)
def gh(ms:List M):List dN:=(ms.filter wh).map n5
def nW(t:dN):D:=.tup [.str t.1,.str t.2.1,.int t.2.2.1,.int t.2.2.2]
structure Be(t:dN):Prop where
 a:t.1∈N6
 b:t.2.1∈N6
 ne:t.1≠t.2.1
 up:1<=t.2.2.1/\t.2.2.1<=9
 dn:1<=t.2.2.2/\t.2.2.2<=9
theorem L3{ms:List M}(h:∀m∈ms,One m):∀t∈gh ms,Be t:=λt e=>by
 obtain⟨m,c,rfl⟩:=mem_map.mp e;obtain⟨c,f⟩:=mem_filter.mp c;rcases h m c with⟨n,_,rfl⟩|⟨l,r,a,b,rfl,g,d,i,j,k⟩
 .cases f
 .exact⟨i,j,k,d,g⟩
structure Cw(L:List dN)(w:Str->Rat):Prop where
 pos:∀n,0<w n
 eq:∀t∈L,w t.1*(t.2.2.2:Rat)=w t.2.1*(t.2.2.1:Rat)
abbrev c9:=List (Str×Int×Int)
def bJ(ks:c9):List Str:=ks.map (·.1)
def cM(ks:c9):List (Key×D):=ks.map λx=>(Sum.inr x.1,.tup [.int x.2.1,.int x.2.2])
theorem wG(ks:c9):(cM ks).map (·.1)=(bJ ks).map Sum.inr:=by simp[cM,bJ]
theorem jP:∀{ks:c9} {n:Str} {p q:Int},(bJ ks).Nodup->(n,p,q)∈ks->aT (cM ks) (Sum.inr n)=some (.tup [.int p,.int q])
 |x::ks,n,p,q,a,h=>by
  show(if (Sum.inr x.1:Key)=Sum.inr n then some (D.tup [.int x.2.1,.int x.2.2]) else aT (cM ks) (Sum.inr n))=_;obtain⟨h1,h2⟩:=nodup_cons.mp (show(x.1::bJ ks).Nodup from a);rcases mem_cons.mp h with e|h
  .rw[<-e,if_pos rfl]
  .rw[if_neg (λz=>h1 (by rw[Sum.inr.inj z];exact mem_map_of_mem h)),jP h2 h]
theorem wA{ks:c9}{n:Str}(h:n∈bJ ks):∃p q,(n,p,q)∈ks:=by
 obtain⟨⟨m,p,q⟩,a,rfl⟩:=mem_map.mp h;exact⟨p,q,a⟩
def TA(L:List dN)(a b:Str):Prop:=∃t∈L,(t.1=a/\t.2.1=b)\/(t.2.1=a/\t.1=b)
inductive RL(L:List dN):Str->Str->Prop
 |refl (a:Str):RL L a a
 |step {a b c:Str}:RL L a b->TA L b c->RL L a c
structure Kn(L:List dN)(s:Str)(ks:c9):Prop where
 nd:(bJ ks).Nodup
 st:(s,1,1)∈ks
 sub:∀x∈ks,x.1∈N6
 bd:∀x∈ks,(1<=x.2.1/\x.2.1<=(9:Int) ^ ks.length)/\(1<=x.2.2/\x.2.2<=(9:Int) ^ ks.length)
 sound:∀w,Cw L w->∀x∈ks,w x.1*(x.2.2:Rat)=w s*(x.2.1:Rat)
 kC:∀x∈ks,RL L s x.1
theorem Kn.len{L:List dN}{s:Str}{ks:c9}(h:Kn L s ks):ks.length<=6:=by
 have:=ie (bJ ks) N6 h.nd λx a=>by
  obtain⟨y,b,rfl⟩:=mem_map.mp a;exact h.sub y b
 simpa[bJ,N6] using this
theorem p9{k:Nat}(h:k<=6):(9:Int) ^ k<=531441:=by
 have:(9:Nat) ^ k<=9 ^ 6:=pow_le_pow_right (by decide) h;have e:((9:Int)) ^ k=((9 ^ k:Nat):Int):=by rw[Int.natCast_pow];rfl
 rw[e];have:(9:Nat) ^ 6=531441:=by decide
 omega
theorem Kn.small{L:List dN}{s:Str}{ks:c9}(h:Kn L s ks){x:Str×Int×Int}(a:x∈ks):(1<=x.2.1/\x.2.1<=531441)/\(1<=x.2.2/\x.2.2<=531441):=by
 have:=h.bd x a;have:=p9 h.len;omega
theorem Kn.start{L:List dN}{s:Str}(hs:s∈N6):Kn L s [(s,1,1)]:=by
 refine⟨by simp[bJ],by simp,λx a=>?_,λx a=>?_,λw b x a=>?_,λx a=>?_⟩;all_goals
  have e:x=(s,1,1):=by simpa using a
  subst e
 .exact hs
 .exact⟨⟨show(1:Int)<=1 by decide,show(1:Int)<=9 ^ 1 by decide⟩,show(1:Int)<=1 by decide,show(1:Int)<=9 ^ 1 by decide⟩
 .rfl
 .exact .refl _
theorem Kn.add{L:List dN}{s:Str}{ks:c9}(h:Kn L s ks){n m:Str}{p q u d:Int}(f:(m,p,q)∈ks)(i:n∉bJ ks)(k:n∈N6)(j:1<=u/\u<=9)(hd:1<=d/\d<=9)(l:∀w,Cw L w->w m*(d:Rat)=w n*(u:Rat))(g:TA L m n):Kn L s (ks++[(n,p*d,q*u)]):=by
 have e:=h.bd _ f;have o:(0:Int)<=9 ^ ks.length:=Int.pow_nonneg (by decide);have mono:∀x:Int,x<=9 ^ ks.length->x<=(9:Int) ^ (ks.length+1):=λx hx=>by
  rw[pow_succ];omega
 have mul:∀x y:Int,1<=x->x<=9 ^ ks.length->1<=y->y<=9->1<=x*y/\x*y<=(9:Int) ^ (ks.length+1):=λx y h1 h2 r t=>by
  rw[pow_succ];refine⟨?_,mul_le_mul h2 t (by omega) o⟩;have:=mul_le_mul (a:=1) (b:=1) h1 r (by decide) (by omega);omega
 refine⟨?_,mem_append_left _ h.st,λx hx=>?_,λx hx=>?_,λw c x hx=>?_,λx hx=>?_⟩
 .unfold bJ at i ⊢
  rw[map_append,nodup_append];refine⟨h.nd,by simp,λa v b e=>?_⟩;have:b=n:=by simpa using e
  rw[this];exact λz=>i (by rw[<-z];exact v)
 .rcases mem_append.mp hx with hx|hx
  .exact h.sub x hx
  .rw[mem_singleton.mp hx]
   exact k
 .rw[length_append]
  rcases mem_append.mp hx with hx|hx
  .have:=h.bd x hx
   exact⟨⟨this.1.1,mono _ this.1.2⟩,this.2.1,mono _ this.2.2⟩
  .rw[mem_singleton.mp hx]
   exact⟨mul p d e.1.1 e.1.2 hd.1 hd.2,mul q u e.2.1 e.2.2 j.1 j.2⟩
 .rcases mem_append.mp hx with hx|hx
  .exact h.sound w c x hx
  .rw[mem_singleton.mp hx]
   have h1:=h.sound w c _ f;have h2:=l w c;show w n*((q*u:Int):Rat)=w s*((p*d:Int):Rat);have h1:w m*(q:Rat)=w s*(p:Rat):=h1;rw[Rat.intCast_mul,Rat.intCast_mul];grind
 .rcases mem_append.mp hx with hx|hx
  .exact h.kC x hx
  .rw[mem_singleton.mp hx]
   exact .step (h.kC _ f) g
def iN(L:List dN)(ks:c9):Prop:=∀t∈L,(t.1∈bJ ks↔t.2.1∈bJ ks)
theorem GA{L:List dN}{s:Str}{ks:c9}(h:Kn L s ks)(hc:iN L ks){x:Str}:x∈bJ ks↔RL L s x:=by
 constructor
 .intro e
  obtain⟨y,g,rfl⟩:=mem_map.mp e;exact h.kC y g
 .intro r
  induction r with
  |refl=>exact mem_map_of_mem (f:=(·.1)) h.st
  |step _ i c=>
   obtain⟨t,d,⟨a,b⟩|⟨a,b⟩⟩:=i
   .rw[<-b]
    exact(hc t d).mp (by rw[a];exact c)
   .rw[<-b]
    exact(hc t d).mpr (by rw[a];exact c)
def s_:Ct:=λds A R _=>∃ms:List M,ds=[.tup (ms.map enc)]/\ms.length<=6/\(∀m∈ms,One m)/\∀A' q,Gr A A'->A'[q]?=some (.lst ((gh ms).map nW))->A.length<=q->R (.ref q) A'
def sQ:Ct:=λds A R _=>∃(ms:List M) (s:Str),ds=[.tup (ms.map enc),.str s]/\ms.length<=6/\(∀m∈ms,One m)/\s∈N6/\∀ks A' q,Kn (gh ms) s ks->iN (gh ms) ks->Gr A A'->A'[q]?=some (.dct (cM ks))->R (.ref q) A'
theorem GB{ks:c9}{n:Str}{p q:Int}(h:n∉bJ ks):bh (cM ks) (Sum.inr n) (.tup [.int p,.int q])=cM (ks++[(n,p,q)]):=by
 rw[qZ λx a z=>?_]
 .simp[cM]
 .obtain⟨y,b,rfl⟩:=mem_map.mp a
  exact h (by rw[<-Sum.inr.inj z];exact mem_map_of_mem b)
theorem qv(ks:c9)(n:Str):(aT (cM ks) (Sum.inr n)).isSome=decide (n∈bJ ks):=qp (wG ks)
theorem lE{α:Type}{k:Option Nat}{fr:aV}{tt:cE}{te:ao}{d:Ar->Prop}{R:List D->Ar->Prop}(g:α->D)(p:α->Bool)(f:α->D):∀(xs:List α) (ys:List D) (A:Ar),(∀a,Gr A a->d a)->(∀x∈xs,∀a,Gr A a->∃vs,kP k (g x)=some vs/\(∀Q:Bool->Ar->Prop,(∀b,Gr a b->Q (p x) b)->tt (vs.map some++fr) a Q)/\(p x=true->∀b,Gr a b->∀Q:DK,(∀e,Gr b e->Q (f x) e)->te (vs.map some++fr) b Q))->ys.length+xs.length<=sizeLine->(∀a,Gr A a->R (ys++(xs.filter p).map f) a)->gS d k fr tt te R (xs.map g) ys A
 |[],ys,A,hc,_,_,h=>⟨hc A Gr.refl,by simpa using h A Gr.refl⟩
 |x::xs,ys,A,hc,i,n,h=>by
  obtain⟨vs,o,q,r⟩:=i x (mem_cons_self ..) A Gr.refl;refine⟨hc A Gr.refl,?_⟩;rw[o];simp at n;refine q _ λb c=>?_;cases j:p x with
  |true=>
   rw[List.filter_cons_of_pos j] at h;exact r j b c _ λe l=>⟨by omega,lE g p f xs (ys++[f x]) e (λa z=>hc a ((c.trans l).trans z)) (λy m a z=>i y (mem_cons_of_mem _ m) a ((c.trans l).trans z)) (by simp;omega) λa z=>by simpa using h a ((c.trans l).trans z)⟩
  |false=>
   rw[List.filter_cons_of_neg (by simp[j])] at h;exact lE g p f xs ys b (λa z=>hc a (c.trans z)) (λy m a z=>i y (mem_cons_of_mem _ m) a (c.trans z)) (by omega) λa z=>h a (c.trans z)
theorem lG{i j:Int}(h1:1<=j)(h2:j<=531441):ju i j:=.inr ⟨by omega,by omega⟩
end DP
namespace My
open L2 DP MA
theorem Eh(T:TopD K mg "_law_ties" ze m7):aB P w K mg base 1 "_law_ties" m7 (ay mg 1 s_):=by
 refine b_ T Ka λo p s d nd=>⟨_,(aE (aW (CN none (own:=["_law_part"]) (frees:=[]) (ix:=[]) rfl (ef (vr 0)) (λc=>(pG 0 (show(["_law_part"]:List Str).Nodup by decide+kernel))) (λc=>(fR d (dX d (vr 0) aq) b9)) (λc=>(cY (aa (dX d (dX d (vr 0) aq) aq) (aa (dX d (dX d (vr 0) aq) aq) (aa (dX d (vr 0) aq) (aa (dX d (vr 0) aq) ai))))))))),λds A R h t=>?_⟩;obtain⟨ms,rfl,u,g,q⟩:=h;have v:(1000:Nat)<=sizeLine:=by decide
 refine lE enc wh (λm=>nW (n5 m)) ms [] A (λ_ _=>trivial) (λm i j f=>?_) (by simp;omega) (λj f=>?_)
 .refine⟨[enc m],rfl,λQ e=>?_,λk x y Q e=>?_⟩
  .rcases g m i with⟨n,_,rfl⟩|⟨l,r,a,b,rfl,_⟩
   .exact e _ Gr.refl
   .exact e _ Gr.refl
  .rcases g m i with⟨n,_,rfl⟩|⟨l,r,a,b,rfl,_⟩
   .cases k
   .exact⟨show 4<=sizeLine by omega,e _ Gr.refl⟩
 .rw[nil_append]
  refine q _ _ (f.trans Gr.push) ?_ f.len;rw[aR];unfold gh;rw[map_map];rfl
theorem D5(T:TopD K mg "_law_known" za mZ)(j:aB P w K mg base 1 "_law_ties" m7 (ay mg 1 s_)):aB P w K mg base 2 "_law_known" mZ (ay mg 2 sQ):=by
 refine b_ T J8 λhr hR hx r nd=>⟨_,(aG (dS 2 nd (uH (vr 1) (cY (aa aq (aa aq ai)))))
  (aG (dS 3 nd eY)
  (aG (pQ eE (fc (vr 3)) (aG (dS 3 nd eY)
  (aE (fL eE rfl (ef (dL j hr hx (aa (vr 0) ai))) (pJ rfl (gx (dG 4 nd) (gx (dG 5 nd) (gx (dG 6 nd) (gx (dG 7 nd) pK))))) (aG (bY (PW.pt (pR (z8 r (vr 4) (vr 2)) (pS (jq r (vr 5) (vr 2))))) (aG (lR r (vr 2) (vr 5) (cY (aa (gw (dX r (dX r (vr 2) (vr 4)) aq) (vr 7)) (aa (gw (dX r (dX r (vr 2) (vr 4)) aq) (vr 6)) ai))) rfl)
  (aE (dS 3 nd eY))) cz)
  (aE (bY (PW.pt (pR (z8 r (vr 5) (vr 2)) (pS (jq r (vr 4) (vr 2))))) (aG (lR r (vr 2) (vr 4) (cY (aa (gw (dX r (dX r (vr 2) (vr 5)) aq) (vr 6)) (aa (gw (dX r (dX r (vr 2) (vr 5)) aq) (vr 7)) ai))) rfl)
  (aE (dS 3 nd eY))) cz)))))))
  (aE (aW (vr 2)))))),λds A R h hl=>?_⟩
 obtain⟨ms,s0,rfl,M,hO,hs,q⟩:=h;have hz:(1000:Nat)<=sizeLine:=by decide
 have tok:=L3 hO;generalize hL:gh ms=L at*
 refine⟨show 2<=sizeLine by omega,?_⟩;refine⟨λk τ A'=>∃(ks:c9) (c:Bool) (s y B C:Option D),k=14 - 2*ks.length+c.toNat/\τ=[some (.tup (ms.map enc)),some (.str s0),some (.ref A.length),some (.bl c),s,y,B,C]/\Kn L s0 ks/\A'[A.length]?=some (.dct (cM ks))/\Gr A A'/\(c=false->iN L ks),⟨_,[(s0,1,1)],true,none,none,none,none,rfl,rfl,Kn.start hs,aR,Gr.push,λh=>by cases h⟩,?_⟩;rintro k τ A1 ⟨ks,c,s,y,B,C,rfl,rfl,W,hd,g1,hc⟩;cases c with
 |false=>exact q ks A1 _ W (hc rfl) g1 hd
 |true=>
  have l6:=W.len;refine⟨λτ A'=>∃(f:c9) (c:Bool) (s y B C:Option D),τ=[some (.tup (ms.map enc)),some (.str s0),some (.ref A.length),some (.bl c),s,y,B,C]/\Kn L s0 f/\A'[A.length]?=some (.dct (cM f))/\Gr A A'/\(c=false->f=ks/\iN L f)/\(c=true->ks.length<f.length),?_,?_⟩
  .rintro aO A' ⟨f,c,s,y,B,C,h1,h2,X,Y,U,M⟩
   refine⟨_,?_,f,c,s,y,B,C,rfl,h1,h2,X,Y,λh=>(U h).2⟩;have:=h2.len;cases c with
   |true=>
    have:=M rfl;show 14 - 2*f.length+1<14 - 2*ks.length+1;omega
   |false=>
    rw[(U rfl).1];show 14 - 2*ks.length+0<14 - 2*ks.length+1;omega
  refine⟨rfl,ms,rfl,M,hO,λA2 q2 g2 h2 l2=>?_⟩;rw[hL] at h2;refine gb h2 ?_;have hd2:=g2.get hd;have nq:A.length≠q2:=λz=>by rw[<-z,hd2] at h2;cases h2
  refine eZ (λrest τ A'=>∃(dn more:List dN) (f:c9) (c:Bool) (s y B C:Option D),rest=more.map nW/\dn++more=L/\τ=[some (.tup (ms.map enc)),some (.str s0),some (.ref A.length),some (.bl c),s,y,B,C]/\Kn L s0 f/\A'[A.length]?=some (.dct (cM f))/\A'[q2]?=some (.lst (L.map nW))/\Gr A A'/\ks.length<=f.length/\(c=false->f=ks/\iN dn f)/\(c=true->ks.length<f.length)) ?_ ?_ ?_ _ _ _ ⟨[],L,ks,false,s,y,B,C,rfl,rfl,rfl,W,hd2,h2,g1.trans g2,le_refl _,λ_=>⟨rfl,λt F=>by cases F⟩,λh=>by cases h⟩
  .rintro rest τ A' ⟨_,_,_,_,_,_,_,_,_,_,_,_,_,h,_⟩
   exact h
  .rintro v rest τ N ⟨dn,more,f,c,y4,y5,y6,y7,e,o,rfl,i,g,G,V,hle,E,H⟩ Nx hN
   cases more with
   |nil=>cases e
   |cons t more=>
   cases e;have F:t∈L:=by rw[<-o];simp
   have tk:=tok t F;have J:=λx=>qv f x;have MS:=i.len;have O:(cM f).length<sizeLine:=by
    have:(cM f).length=f.length:=by simp[cM]
    omega
   have new:∀(n m:Str) (p q u d:Int) (aO:aV),(m,p,q)∈f->n∉bJ f->n∈N6->(1<=u/\u<=9)->(1<=d/\d<=9)->(∀w,Cw L w->w m*(d:Rat)=w n*(u:Rat))->TA L m n->aO=[some (.tup (ms.map enc)),some (.str s0),some (.ref A.length),some (.bl true),some (.str t.1),some (.str t.2.1),some (.int t.2.2.1),some (.int t.2.2.2)]->Kn L s0 (f++[(n,p*d,q*u)])/\(N.set A.length (.dct (bh (cM f) (Sum.inr n) (.tup [.int (p*d),.int (q*u)]))))[A.length]?=some (.dct (cM (f++[(n,p*d,q*u)])))/\Nx aO (N.set A.length (.dct (bh (cM f) (Sum.inr n) (.tup [.int (p*d),.int (q*u)])))):=λn m p q u d aO h1 h2 X Y U M h7 I=>by
    have k1:=i.add h1 h2 X Y U M h7;have k2:(N.set A.length (.dct (bh (cM f) (Sum.inr n) (.tup [.int (p*d),.int (q*u)]))))[A.length]?=some (.dct (cM (f++[(n,p*d,q*u)]))):=by
     rw[GB h2];exact getElem?_set_self (cB g)
    refine⟨k1,k2,hN _ _ ⟨dn++[t],more,_,true,_,_,_,_,rfl,by simpa using o,I,k1,k2,?_,V.set (le_refl _),(by simp;omega),(λh=>by cases h),(λ_=>by simp;omega)⟩⟩;rw[getElem?_set_ne nq];exact G
   have keep:(t.1∈bJ f↔t.2.1∈bJ f)->∀aO,aO=[some (.tup (ms.map enc)),some (.str s0),some (.ref A.length),some (.bl c),some (.str t.1),some (.str t.2.1),some (.int t.2.2.1),some (.int t.2.2.2)]->Nx aO N:=λQ aO I=>
    hN _ _ ⟨dn++[t],more,f,c,_,_,_,_,rfl,by simpa using o,I,i,g,G,V,hle,λh=>⟨(E h).1,λt' Z=>by
     rcases mem_append.mp Z with h'|h'
     .exact(E h).2 t' h'
     .rw[mem_singleton.mp h']
      exact Q⟩,H⟩
   refine⟨rfl,fP g rfl ?_⟩;rw[if_neg Bool.false_ne_true,J];refine cD (λa=>?_) (λa=>?_)
   .refine fP g rfl ?_
    rw[if_pos rfl,J];refine cN (λb=>?_) (λb=>?_)
    .obtain⟨p,S,l⟩:=wA a
     have sm:=i.small l;obtain⟨k1,k2,k3⟩:=new t.2.1 t.1 p S t.2.2.1 t.2.2.2 _ l b tk.b tk.up tk.dn (λw hw=>hw.eq t F) ⟨t,F,.inl ⟨rfl,rfl⟩⟩ rfl;refine gE g rfl (jP i.nd l) ⟨lG tk.dn.1 (by have:=tk.dn.2;omega),?_⟩;refine gE g rfl (jP i.nd l) ⟨lG tk.up.1 (by have:=tk.up.2;omega),show 2<=sizeLine by omega,?_⟩;refine nG g rfl O ?_;refine fP k2 rfl ?_;rw[if_neg Bool.false_ne_true,qv];have m1:t.2.1∈bJ (f++[(t.2.1,p*t.2.2.2,S*t.2.2.1)]):=by simp[bJ]
     have m2:t.1∈bJ (f++[(t.2.1,p*t.2.2.2,S*t.2.2.1)]):=by
      unfold bJ at a ⊢;rw[map_append];exact mem_append_left _ a
     refine cD (λ_=>?_) (λz=>absurd m1 z);refine fP k2 rfl ?_;rw[if_pos rfl,qv];exact cN (λz=>absurd m2 z) (λ_=>k3)
    .refine fP g rfl ?_
     rw[if_neg Bool.false_ne_true,J];refine cD (λ_=>?_) (λz=>absurd b z);refine fP g rfl ?_;rw[if_pos rfl,J];exact cN (λz=>absurd a z) (λ_=>keep ⟨λ_=>b,λ_=>a⟩ _ rfl)
   .refine fP g rfl ?_
    rw[if_neg Bool.false_ne_true,J];refine cD (λb=>?_) (λb=>?_)
    .refine fP g rfl ?_
     rw[if_pos rfl,J];refine cN (λ_=>?_) (λz=>absurd z a);obtain⟨p,S,l⟩:=wA b;have sm:=i.small l;obtain⟨k1,k2,k3⟩:=new t.1 t.2.1 p S t.2.2.2 t.2.2.1 _ l a tk.a tk.dn tk.up (λw hw=>(hw.eq t F).symm) ⟨t,F,.inr ⟨rfl,rfl⟩⟩ rfl;refine gE g rfl (jP i.nd l) ⟨lG tk.up.1 (by have:=tk.up.2;omega),?_⟩;refine gE g rfl (jP i.nd l) ⟨lG tk.dn.1 (by have:=tk.dn.2;omega),show 2<=sizeLine by omega,?_⟩;exact nG g rfl O k3
    .exact keep ⟨λz=>absurd z a,λz=>absurd z b⟩ _ rfl
  .rintro τ N ⟨dn,more,f,c,y4,y5,y6,y7,e,o,rfl,i,g,G,V,hle,E,H⟩
   cases more with
   |cons _ _=>cases e
   |nil=>
    have o:dn=L:=by simpa using o
    subst o;exact⟨f,c,y4,y5,y6,y7,rfl,i,g,V,E,H⟩
end My
namespace DP
open L2 MA
theorem gH{m:M}(h:One m):Hl m:=by
 rcases h with⟨n,i,rfl⟩|⟨l,r,a,b,rfl,f,g,j,k,c⟩
 .refine⟨⟨trivial,λx d=>?_⟩,by decide+revert,rfl⟩
  rw[show x=n by simpa[aK.names] using d];exact ig n i
 .refine⟨⟨⟨f.1,f.2,g.1,g.2,trivial,trivial⟩,λx d=>?_⟩,show max 0 0+1<=5 by decide,?_⟩
  .have:x=a\/x=b:=by simpa[aK.names] using d
   rcases this with rfl|rfl
   .exact ig _ j
   .exact ig _ k
  .have e:br (.bK l r (.wt a) (.wt b)) "" 1=[(""++("l":Str),a,1*((r:Rat)/((l+r:Int):Rat))),(""++("r":Str),b,1*((l:Rat)/((l+r:Int):Rat)))]:=rfl
   rw[e];simp[cH,c]
theorem l_{ms:List M}(j:ms.length<=6)(h:∀m∈ms,One m):dW (ms.map aU) N6:=by
 refine⟨by rw[length_map];omega,λT d=>?_,by decide,λT d n e=>?_⟩
 .obtain⟨m,c,rfl⟩:=mem_map.mp d
  exact(jr (gH (h m c))).1
 .obtain⟨m,c,rfl⟩:=mem_map.mp d
  have:=((jr (gH (h m c))).2.1 n).mp e;rcases h m c with⟨k,f,rfl⟩|⟨l,r,a,b,rfl,_,_,g,i,_⟩
  .rw[show n=k by simpa[aK.names] using this]
   exact f
  .have:n=a\/n=b:=by simpa[aK.names] using this
   rcases this with rfl|rfl
   .exact g
   .exact i
theorem wj{ms:List M}(h1:1<=ms.length)(a:ms.length<=6)(h:∀m∈ms,One m):eW (.tup (ms.map enc)) ms:=⟨rfl,h1,a,λm b=>gH (h m b)⟩
theorem vU{ms a:List M}(h:eW (.tup (ms.map enc)) a):a=ms:=(u7 (D.tup.inj h.1)).symm
section
open Classical
abbrev RM(ms:List M)(a b:Str):Prop:=dg (ms.map aU) a b
theorem lg{ms:List M}(h:∀m∈ms,One m){a b:Str}:gK (ms.map aU) a b↔∃m∈ms,a∈m.names/\b∈m.names:=by
 constructor
 .rintro ⟨T,d,h1,h2⟩
  obtain⟨m,c,rfl⟩:=mem_map.mp d;have k:=(jr (gH (h m c))).2.1;exact⟨m,c,(k a).mp h1,(k b).mp h2⟩
 .rintro ⟨m,c,h1,h2⟩
  have k:=(jr (gH (h m c))).2.1;exact⟨_,mem_map_of_mem c,(k a).mpr h1,(k b).mpr h2⟩
theorem JC{c d:List Tb}(h:∀T∈c,T∈d){a b:Str}(k:dg c a b):dg d a b:=by
 induction k with
 |refl=>exact .refl _
 |step _ e f=>
  obtain⟨T,g,h1,h2⟩:=e;exact .step f ⟨T,h T g,h1,h2⟩
theorem JJ{m:M}{ms:List M}{a b:Str}(k:RM ms a b):RM (m::ms) a b:=JC (λT c=>mem_cons_of_mem _ c) k
end
section
open Classical
theorem rJ(a:Str):¬strLt a a:=λh=>List.lt_irrefl _ (show a.cps.toList<a.cps.toList from h)
theorem up_eq{α:Type}{r:α->α->Prop}(as:∀a b,r a b->¬r b a):∀{xs ys:List α},xs.Pairwise r->ys.Pairwise r->(∀x,x∈xs↔x∈ys)->xs=ys
 |[],[],_,_,_=>rfl
 |[],y::ys,_,_,h=>by have:=(h y).mpr (mem_cons_self ..);cases this
 |x::xs,[],_,_,h=>by have:=(h x).mp (mem_cons_self ..);cases this
 |x::xs,y::ys,i,j,h=>by
  obtain⟨f,l⟩:=pairwise_cons.mp i;obtain⟨g,m⟩:=pairwise_cons.mp j;have e:x=y:=by
   rcases mem_cons.mp ((h x).mp (mem_cons_self ..)) with e|m1
   .exact e
   rcases mem_cons.mp ((h y).mpr (mem_cons_self ..)) with e|m2
   .exact e.symm
   exact absurd (f y m2) (as _ _ (g x m1))
  subst e;have c:∀z,¬r z z:=λz k=>as _ _ k k;rw[up_eq as l m λz=>⟨λd=>?_,λd=>?_⟩]
  .rcases mem_cons.mp ((h z).mp (mem_cons_of_mem _ d)) with rfl|k
   .exact absurd (f _ d) (c _)
   .exact k
  .rcases mem_cons.mp ((h z).mpr (mem_cons_of_mem _ d)) with rfl|k
   .exact absurd (g _ d) (c _)
   .exact k
theorem rX{xs:List Str}(h:xs.Pairwise strLt):xs.Nodup:=Pairwise.imp (S:=λa b:Str=>a≠b) (λ {a b} c (z:a=b)=>rJ b (by rw[z] at c;exact c)) h
theorem names6{m:M}(h:One m):∀n∈m.names,n∈N6:=λn c=>by
 rcases h with⟨k,d,rfl⟩|⟨l,r,a,b,rfl,_,_,e,f,_⟩
 .rw[show n=k by simpa[aK.names] using c]
  exact d
 .have:n=a\/n=b:=by simpa[aK.names] using c
  rcases this with rfl|rfl<;>assumption
end
theorem JI{ms:List M}(h:∀m∈ms,One m){a b:Str}:RL (gh ms) a b↔RM ms a b:=by
 constructor
 .intro r
  induction r with
  |refl=>exact .refl _
  |step _ f c=>
   obtain⟨t,e,j⟩:=f;obtain⟨m,d,rfl⟩:=mem_map.mp e;obtain⟨d,k⟩:=mem_filter.mp d;rcases h m d with⟨n,_,rfl⟩|⟨l,r,x,y,rfl,_⟩
   .cases k
   .refine .step c ((lg h).mpr ⟨_,d,?_⟩)
    rcases j with⟨e1,e2⟩|⟨e1,e2⟩
    .rw[<-e1,<-e2];simp[n5,aK.names]
    .rw[<-e1,<-e2];simp[n5,aK.names]
 .intro r
  induction r with
  |refl=>exact .refl _
  | @step g i _ f c=>
   obtain⟨m,d,h1,h2⟩:=(lg h).mp f;rcases h m d with⟨n,_,rfl⟩|⟨l,r,x,y,rfl,_⟩
   .have e1:g=n:=by simpa[aK.names] using h1
    have e2:i=n:=by simpa[aK.names] using h2
    rw[e2,<-e1];exact c
   .have e:(x,y,r,l)∈gh ms:=mem_map.mpr ⟨_,mem_filter.mpr ⟨d,rfl⟩,rfl⟩
    have e1:g=x\/g=y:=by simpa[aK.names] using h1
    have e2:i=x\/i=y:=by simpa[aK.names] using h2
    rcases e1 with e1|e1<;>rcases e2 with e2|e2
    .rw[e2,<-e1];exact c
    .exact .step c ⟨_,e,.inl ⟨e1.symm,e2.symm⟩⟩
    .exact .step c ⟨_,e,.inr ⟨e1.symm,e2.symm⟩⟩
    .rw[e2,<-e1];exact c
def cV(ms:List M)(n:Str):Prop:=∃m∈ms,n∈m.names
theorem ED{ms:List M}(h:∀m∈ms,One m)(g:ms.length<=6){n:Str}(c:cV ms n):∃b∈N6,c_ (ms.map aU) b∈cZ (ms.map aU)/\∀x,x∈aA (c_ (ms.map aU) b)↔RM ms n x:=by
 obtain⟨m,d,c⟩:=c;have hok:=l_ g h;have:=EB hok (mem_map_of_mem d) (((jr (gH (h m d))).2.1 n).mpr c);obtain⟨P,e,i⟩:=mem_flatMap.mp this;obtain⟨b,a,_,rfl⟩:=l0 hok e;have f:=(ki hok a).mp i;exact⟨b,a,e,λx=>by rw[ki hok a];exact⟨λz=>f.symm.trans z,λz=>f.trans z⟩⟩
theorem EF{ms:List M}(h:∀m∈ms,One m)(e:ms.length<=6){P:aJ}(f:P∈cZ (ms.map aU)):∃a∈N6,cV ms a/\P=c_ (ms.map aU) a/\∀x,x∈aA P↔RM ms a x:=by
 have hok:=l_ e h;obtain⟨a,b,⟨T,g,c⟩,rfl⟩:=l0 hok f;obtain⟨m,d,rfl⟩:=mem_map.mp g;exact⟨a,b,⟨m,d,((jr (gH (h m d))).2.1 a).mp c⟩,rfl,λx=>ki hok b⟩
theorem K0{mg:ah}{n:Nat}{S a:Ct}(h:∀ds A R E,a ds A R E->S ds A R E):∀vs H Q E,ay mg n a vs H Q E->ay mg n S vs H Q E:=λvs H Q E ⟨A,ι,ds,R,RE,h1,h2,b,c,d⟩=>⟨A,ι,ds,R,RE,h1,h2,b,h _ _ _ _ c,d⟩
theorem BU:∀ds A R E,oJ ds A R E->oK ds A R E:=λds A R E ⟨v,⟨m,e,a,hd,ev⟩,q⟩=>⟨enc m,e,mT a.nm,λA' g=>by
 rw[if_pos (mC a hd),<-ev];exact q A' g⟩
end DP
namespace My
open L2 DP MA
theorem DW(F:aB P w K mg base 9 "check_mobile" jk (ay mg 1 oK)):aB P w K mg base 9 "check_mobile" jk (ay mg 1 oJ):=by
 obtain⟨f,fd,a,h1,h2⟩:=F;exact⟨f,fd,a.imp (K0 BU),h1,h2⟩
end My
namespace DP
open L2 MA
theorem xB{A:Ar}{p q:Nat}{xs:List D}{R:DK}(h:A[p]?=some (.lst xs))(h':A[q]?=some (.lst xs))(d:fy xs=true)(e:canLayAll0 (bM xs)=true)(hd:depthAll (bM xs)<=60)(k:R (.bl false) A):fY true (.ref p) (.ref q) A R:=by
 unfold fY;have a:cO A (.ref p)=.list (bM xs):=by unfold cO;simp only[h]
 have b:cO A (.ref q)=.list (bM xs):=by unfold cO;simp only[h']
 have c:canLay0 (.list (bM xs))=true:=by simpa[canLay0] using e
 refine⟨?_,?_,?_,?_,?_,?_⟩
 .unfold iJ;simp only[h];exact d
 .unfold iJ;simp only[h'];exact d
 .rw[a];exact c
 .rw[b];exact c
 .rw[a,b];simp only[PyData.depth];omega
 .rw[a,b,PySem.SeqAt.eqv_refl _ c]
  exact k
end DP
namespace My
open L2 DP MA
end My
namespace DP
open L2 MA
section
open Classical
theorem rH(a b:Str)(h1:strLt a b):¬strLt b a:=λh2=>List.lt_irrefl _ (List.lt_trans h1 h2)
theorem Lc(a b:Str):strLt a b\/a=b\/strLt b a:=by
 by_cases h1:strLt a b
 .exact .inl h1
 .by_cases h2:strLt b a
  .exact .inr (.inr h2)
  .exact .inr (.inl (zY (eG.total a.cps.toList b.cps.toList (decide_eq_false h1) (decide_eq_false h2))))
theorem G8:N6.Pairwise strLt:=by
 unfold N6;simp only[pairwise_cons,mem_cons,not_mem_nil,or_false,forall_eq_or_imp,forall_eq,Pairwise.nil,and_true,false_imp_iff,implies_true];unfold strLt;decide+kernel
noncomputable def cF(ms:List M)(n:Str):List Str:=N6.filter λx=>decide (RM ms n x)
theorem BA(ms:List M)(n:Str):(cF ms n).Pairwise strLt:=G8.sublist List.filter_sublist
theorem JK{ms:List M}(h:∀m∈ms,One m){a b:Str}(c:a∈N6)(r:RM ms a b):b∈N6:=by
 induction r with
 |refl=>exact c
 |step _ e _=>
  obtain⟨m,d,_,h2⟩:=(lg h).mp e;exact names6 (h m d) _ h2
theorem cK{ms:List M}(h:∀m∈ms,One m){n:Str}(a:cV ms n):n∈N6:=by
 obtain⟨m,b,c⟩:=a;exact names6 (h m b) _ c
theorem jh{ms:List M}(h:∀m∈ms,One m){n:Str}(a:n∈N6){x:Str}:x∈cF ms n↔RM ms n x:=by
 unfold cF;rw[mem_filter,decide_eq_true_eq];exact⟨λz=>z.2,λz=>⟨JK h a z,z⟩⟩
theorem ud{ms:List M}{a b:Str}(r:RM ms a b):cF ms a=cF ms b:=by
 unfold cF;refine List.filter_congr λx _=>?_;have:RM ms a x↔RM ms b x:=⟨λz=>r.symm.trans z,λz=>r.trans z⟩;simp only[this]
theorem nM{ms:List M}(h:∀m∈ms,One m){n:Str}(a:n∈N6):n∈cF ms n:=(jh h a).mpr (.refl _)
theorem ql{ms:List M}(h:∀m∈ms,One m){n:Str}(a:n∈N6){zs:List Str}(b:zs.Pairwise strLt)(c:∀x,x∈zs↔RM ms n x):zs=cF ms n:=
 up_eq rH b (BA ms n) λx=>by rw[c,jh h a]
theorem yR{ms:List M}(h:∀m∈ms,One m){a b:Str}(c:cV ms a)(r:RM ms a b):cV ms b:=by
 cases r with
 |refl=>exact c
 |step _ e=>
  obtain⟨m,d,_,h2⟩:=(lg h).mp e;exact⟨m,d,h2⟩
theorem Gz{ms:List M}(h:∀m∈ms,One m){n:Str}{ks:c9}(a:Kn (gh ms) n ks)(b:iN (gh ms) ks)(c:n∈N6){zs:List Str}(d:zs.Pairwise strLt)(e:∀x,x∈zs↔x∈bJ ks):zs=cF ms n:=
 ql h c d λx=>by rw[e,GA a b,JI h]
theorem fJ{ms:List M}(h:∀m∈ms,One m)(i:ms.length<=6){es:List (List Str)}(b:gm (ms.map aU) es)(e:List Str):e∈es↔∃n,cV ms n/\e=cF ms n:=by
 constructor
 .intro a
  obtain⟨P,c,d⟩:=b.EA e a;obtain⟨j,f,l,_,g⟩:=EF h i c;exact⟨j,l,ql h f (b.nR e a).1 λx=>by rw[d,g]⟩
 .rintro ⟨n,k,rfl⟩
  obtain⟨j,_,c,g⟩:=ED h i k;obtain⟨e,a,d⟩:=b.all _ c;have:e=cF ms n:=ql h (cK h k) (b.nR e a).1 λx=>by rw[d,g]
  rw[<-this];exact a
abbrev hdS(e:List Str):Str:=e.headD default
theorem vY{e:List Str}(h:e≠[]):hdS e∈e:=by
 cases e with
 |nil=>exact absurd rfl h
 |cons x r=>exact mem_cons_self
theorem jE{ms:List M}(h:∀m∈ms,One m){n x:Str}(a:n∈N6)(b:x∈cF ms n):cF ms n=cF ms x:=ud ((jh h a).mp b)
theorem iV{ms:List M}(h:∀m∈ms,One m){n:Str}(a:n∈N6):cF ms n=cF ms (hdS (cF ms n)):=jE h a (vY λz=>by
 have:=nM h a;rw[z] at this;cases this)
theorem Bw{ms:List M}(h:∀m∈ms,One m)(a:ms.length<=6){es:List (List Str)}(b:gm (ms.map aU) es):(es.map hdS).map (cF ms)=es:=by
 rw[map_map];conv=>rhs;rw[<-map_id es]
 refine map_congr_left λe c=>?_;obtain⟨n,d,rfl⟩:=(fJ h a b e).mp c;exact(iV h (cK h d)).symm
theorem Di{ms:List M}(h:∀m∈ms,One m)(j:ms.length<=6){es c:List (List Str)}(i:gm (ms.map aU) es){ys:List Str}(f:∀x,x∈ys↔cV ms x)(o:∀e,e∈c↔e∈ys.map (cF ms))(k:c.Nodup)(hs:c.Pairwise λa b=>¬strLt (hdS b) (hdS a)):c=es:=by
 have mem:∀e,e∈c↔e∈es:=λe=>by
  rw[o,mem_map,fJ h j i];constructor
  .rintro ⟨n,g,rfl⟩
   exact⟨n,(f n).mp g,rfl⟩
  .rintro ⟨n,g,rfl⟩
   exact⟨n,(f n).mpr g,rfl⟩
 have d:∀e∈c,e=cF ms (hdS e):=λe l=>by
  obtain⟨n,g,rfl⟩:=(fJ h j i e).mp ((mem e).mp l);exact iV h (cK h g)
 have st:(c.map hdS).Pairwise strLt:=by
  rw[pairwise_map];refine(Pairwise.and_mem.mp (hs.and k)).imp ?_;rintro a b ⟨p,q,k1,k2⟩;have ne:hdS a≠hdS b:=λz=>k2 (by rw[d a p,d b q,z]);rcases Lc (hdS a) (hdS b) with z|z|z
  .exact z
  .exact absurd z ne
  .exact absurd z k1
 have r:c.map hdS=es.map hdS:=up_eq rH st (pairwise_map.mpr i.ord) λx=>by
  simp only[mem_map,mem]
 have s:(c.map hdS).map (cF ms)=c:=by
  rw[map_map];conv=>rhs;rw[<-map_id c]
  exact map_congr_left λe l=>(d e l).symm
 rw[<-s,r,Bw h j i]
theorem vg{ms:List M}(h:∀m∈ms,One m)(f:ms.length<=6){es:List (List Str)}(c:gm (ms.map aU) es):es.flatten.Nodup/\∀x,x∈es.flatten↔cV ms x:=by
 constructor
 .unfold Nodup
  rw[List.pairwise_flatten];refine⟨λe i=>rX (c.nR e i).1,?_⟩;refine(Pairwise.and_mem.mp c.ord).imp ?_;rintro a b ⟨l,o,k⟩ x d y p z;subst z;obtain⟨n,g,rfl⟩:=(fJ h f c a).mp l;obtain⟨n',j,rfl⟩:=(fJ h f c b).mp o;have q:=jE h (cK h g) d;have r:=jE h (cK h j) p;rw[q,r] at k;exact rJ _ k
 .intro x
  rw[List.mem_flatten];constructor
  .rintro ⟨e,i,d⟩
   obtain⟨n,g,rfl⟩:=(fJ h f c e).mp i;exact yR h g ((jh h (cK h g)).mp d)
  .intro d
   exact⟨_,(fJ h f c _).mpr ⟨x,d,rfl⟩,nM h (cK h d)⟩
theorem xA{α:Type}:∀(xs ys:List α),xs.Nodup->(∀x∈xs,x∈ys)->xs.length<=ys.length
 |[],ys,_,_=>zero_le _
 |x::xs,ys,c,hs=>by
  obtain⟨d,e⟩:=nodup_cons.mp c;have a:=hs x mem_cons_self;have:=xA xs (ys.erase x) e λy b=>(List.mem_erase_of_ne (λz=>d (by rw[<-z];exact b))).mpr (hs y (mem_cons_of_mem _ b));rw[List.length_erase_of_mem a] at this;have:=List.length_pos_of_mem a;rw[length_cons];omega
theorem GQ{m:M}{ms:List M}(h:∀x∈m::ms,One x)(r:(m::ms).length<=6){es fs:List (List Str)}(i:gm ((m::ms).map aU) es)(s:gm (ms.map aU) fs){gone:List Str}(D:∀x,cV (m::ms) x->¬cV ms x->x∈gone):es.length<=fs.length+gone.length:=by
 have h':∀x∈ms,One x:=λx E=>h x (mem_cons_of_mem _ E);have t:ms.length<=6:=by rw[length_cons] at r;omega
 let g:List Str->List Str ⊕ Str:=λe=>if z:∃x,x∈e/\cV ms x then .inl (cF ms z.choose) else .inr (hdS e)
 have nd:(es.map g).Nodup:=by
  unfold Nodup;rw[pairwise_map];refine(Pairwise.and_mem.mp i.ord).imp ?_;rintro a b ⟨F,G,k⟩ z;obtain⟨n,j,u⟩:=(fJ h r i a).mp F;obtain⟨n',l,v⟩:=(fJ h r i b).mp G;have key:a=b->False:=λe=>by rw[e] at k;exact rJ _ k
  by_cases c:∃x,x∈a/\cV ms x
  .by_cases d:∃x,x∈b/\cV ms x
   .have z:cF ms c.choose=cF ms d.choose:=by
     have:g a=.inl (cF ms c.choose):=dif_pos c;rw[this] at z;have:g b=.inl (cF ms d.choose):=dif_pos d;rw[this] at z;exact Sum.inl.inj z
    have ca:=c.choose_spec;have w:=d.choose_spec;have B:=nM h' (cK h' w.2);rw[<-z,jh h' (cK h' ca.2)] at B;have A:RM (m::ms) c.choose d.choose:=JJ B;generalize c.choose=H at ca A;generalize d.choose=I at w A;have o:=ca.1;have p:=w.1;refine key ?_;have J:a=cF (m::ms) H:=by
     rw[u] at o ⊢;exact jE h (cK h j) o
    have K:b=cF (m::ms) I:=by
     rw[v] at p ⊢;exact jE h (cK h l) p
    rw[J,K,ud A]
   .have f:g a=.inl (cF ms c.choose):=dif_pos c
    have q:g b=.inr (hdS b):=dif_neg d;rw[f,q] at z;cases z
  .by_cases d:∃x,x∈b/\cV ms x
   .have f:g a=.inr (hdS a):=dif_neg c
    have q:g b=.inl (cF ms d.choose):=dif_pos d;rw[f,q] at z;cases z
   .have f:g a=.inr (hdS a):=dif_neg c
    have q:g b=.inr (hdS b):=dif_neg d;rw[f,q] at z;have z:=Sum.inr.inj z;refine key ?_;rw[u,v,iV h (cK h j),iV h (cK h l),<-u,<-v,z]
 have:=xA (es.map g) (fs.map Sum.inl++gone.map Sum.inr) nd λy L=>by
  obtain⟨e,C,rfl⟩:=mem_map.mp L;obtain⟨n,j,N⟩:=(fJ h r i e).mp C;by_cases c:∃x,x∈e/\cV ms x
  .have f:g e=.inl (cF ms c.choose):=dif_pos c
   rw[f];exact mem_append_left _ (mem_map_of_mem ((fJ h' t s _).mpr ⟨_,c.choose_spec.2,rfl⟩))
  .have f:g e=.inr (hdS e):=dif_neg c
   rw[f];have hi:=vY (i.nR e C).2;refine mem_append_right _ (mem_map_of_mem (D _ ?_ λz=>c ⟨_,hi,z⟩));rw[N] at hi ⊢;exact yR h j ((jh h (cK h j)).mp hi)
 rw[length_map,length_append,length_map,length_map] at this;exact this
end
def sF:Ct:=λds A R _=>∃ms:List M,ds=[.tup (ms.map enc)]/\ms.length<=6/\(∀m∈ms,One m)/\∀(A':Ar) (q:Nat) (ys:List Str),Gr A A'->A'[q]?=some (.lst (ys.map D.str))->A.length<=q->ys.Pairwise strLt->(∀x,x∈ys↔cV ms x)->R (.ref q) A'
theorem xQ{B:Ar}:∀{ls:List M},(∀m∈ls,One m)->bq B (.tup (ls.map enc))=true:=λ {ls} a=>by
 show eB B (ls.map enc)=true;induction ls with
 |nil=>rfl
 |cons m ls b=>
  show(bq B (enc m)&&eB B (ls.map enc))=true;rw[mT (gH (a m (mem_cons_self ..))).wf.nm,b λx c=>a x (mem_cons_of_mem _ c)];rfl
end DP
namespace My
open L2 DP MA
theorem DR(T:TopD K mg "_law_all_names" yY mW)(f:mg "sorted"=none)(g:mg "set"=none)(c:aB P w K mg base 9 "_law_leaves" m5 (ay mg 1 (sS 8))):aB P w K mg base 10 "_law_all_names" mW (ay mg 1 sF):=by
 refine b_ T J4 λt E i F nd=>⟨_,(aG (dS 1 nd (dP ai))
  (aG (fL eE rfl (ef (vr 0)) (dG 2 nd) (aE (e9 (gv plainAttrs_list slot_list_extend type_list_extend qK pF (vr 1) (aa (dL c t i (aa (vr 2) ai)) ai)))))
  (aE (aW (CY f g rfl (aa (vr 1) ai)))))),λds A R h G=>?_⟩
 obtain⟨ms,rfl,H,s,q⟩:=h;have I:(1000:Nat)<=sizeLine:=by decide
 refine⟨zero_le _,?_⟩;have nl:∀m∈ms,m.names.length<=2:=λm j=>by
  rcases s m j with⟨n,_,rfl⟩|⟨l,r,a,b,rfl,_⟩<;>simp[aK.names]
 have fl:∀ls:List M,(∀m∈ls,m∈ms)->(ls.flatMap aK.names).length<=2*ls.length:=λls=>by
  induction ls with
  |nil=>intro _;simp
  |cons m ls u=>
   intro hs;have i1:=u λx i=>hs x (mem_cons_of_mem _ i);have i2:=nl m (hs m (mem_cons_self ..));rw[List.flatMap_cons,length_append,length_cons];omega
 refine eZ (λrest τ A'=>∃(dn more:List M) (o:Option D),rest=more.map enc/\dn++more=ms/\τ=[some (.tup (ms.map enc)),some (.ref A.length),o]/\A'[A.length]?=some (.lst ((dn.flatMap aK.names).map D.str))/\Gr A A') ?_ ?_ ?_ _ _ _ ⟨[],ms,none,rfl,rfl,rfl,aR,Gr.push⟩
 .intro _ _ _ _
  trivial
 .rintro v rest τ y ⟨dn,more,o,e,d,rfl,h1,k⟩ J z
  cases more with
  |nil=>cases e
  |cons m more=>
  cases e;have j:m∈ms:=by rw[<-d];simp
  have hd:=(gH (s m j)).deep;refine⟨f9 h1,rfl,_,⟨m,rfl,by omega,by omega,rfl⟩,λL N p h2=>?_⟩;have B:=fl dn λx i=>by rw[<-d];simp[i]
  have O:=nl m j;have Q:dn.length<=6:=by
   have:=congrArg List.length d;simp at this;omega
  refine pY (p.get h1) h2 (by rw[length_map,length_map];omega) ?_;refine z _ _ ⟨dn++[m],more,_,rfl,by simpa using d,rfl,?_,(k.trans p).set (le_refl _)⟩;rw[flatMap_append,map_append];have:[m].flatMap aK.names=m.names:=by simp
  rw[this];exact getElem?_set_self (cB (p.get h1))
 .rintro τ y ⟨dn,more,o,e,d,rfl,h1,k⟩
  cases more with
  |cons _ _=>cases e
  |nil=>
  have d:dn=ms:=by simpa using d
  subst d;have B:=fl dn λx i=>i;refine K3 (ss:=dn.flatMap aK.names) h1 (by have:=strs_map id (dn.flatMap aK.names);simpa using this) (by omega) λys C j=>?_;refine q _ _ ys (k.trans Gr.push) aR k.len C λx=>?_;rw[j,mem_flatMap];rfl
end My
namespace DP
open L2 MA
theorem rU(e:List Str):toQ (bH e)=tupQ e:=by
 show PyData.tuple (bM (e.map D.str))=_;congr 1;induction e with
 |nil=>rfl
 |cons x r a=>
  show PyData.str x::bM (r.map D.str)=_;rw[a];rfl
theorem Ag:∀{es:List (List Str)},(∀e∈es,(∀n∈e,Nm n)/\e≠[])->fy (es.map tupS)=true/\canLayAll0 (bM (es.map tupS))=true/\depthAll (bM (es.map tupS))<=60
 |[],_=>⟨rfl,rfl,by simp[bM,depthAll]⟩
 |e::es,h=>by
  obtain⟨a1,a2,d,_⟩:=rS (h e (mem_cons_self ..)).1 (h e (mem_cons_self ..)).2;obtain⟨a,b,f⟩:=Ag λx c=>h x (mem_cons_of_mem _ c);refine⟨by show(fu (bH e)&&fy (es.map tupS))=true;rw[a1,a];rfl,?_,?_⟩
  .show canLayAll0 (toQ (bH e)::bM (es.map tupS))=true
   simp[canLayAll0,a2,b]
  .show depthAll (toQ (bH e)::bM (es.map tupS))<=60
   simp only[depthAll];omega
theorem Bx{ms:List M}(h:∀m∈ms,One m)(a:ms.length<=6){es:List (List Str)}(b:gm (ms.map aU) es):es.flatten.length<64:=by
 obtain⟨c,d⟩:=vg h a b;have:=ie es.flatten N6 c λx e=>cK h ((d x).mp e);have:N6.length=6:=rfl;omega
theorem Ld:∀{zs:List Str},(∀n∈zs,Nm n)->fy (zs.map D.str)=true/\canLayAll0 (bM (zs.map D.str))=true/\depthAll (bM (zs.map D.str))<=60:=λ {zs} h=>by
 refine⟨?_,by rw[nH];exact qw zs h,?_⟩
 .clear h
  induction zs with
  |nil=>rfl
  |cons x r a=>exact a
 .clear h
  induction zs with
  |nil=>simp[bM,depthAll]
  |cons x r a=>
   show depthAll (.str x::bM (r.map D.str))<=60;simp only[depthAll,PyData.depth];omega
theorem Hh{A:Ar}{r:Nat}{ss:List Str}{w:Str}{R:DK}(h:A[r]?=some (.lst (ss.map D.str)))(k:R (.bl (!decide (w∈ss))) A):inR true (.str w) r A R:=by
 unfold inR;simp only[h];refine⟨rfl,?_,?_⟩
 .rw[all_eq_true]
  intro x a;obtain⟨i,_,rfl⟩:=mem_map.mp a;rfl
 .have:g_ (.str w) (ss.map D.str)=decide (w∈ss):=by
   unfold g_;rw[List.any_map,Bool.eq_iff_iff,any_eq_true,decide_eq_true_eq];constructor
   .rintro ⟨y,b,e⟩
    rw[<-of_decide_eq_true (show decide (y=w)=true from e)];exact b
   .intro c
    exact⟨w,c,decide_eq_true rfl⟩
  rw[this];exact k
theorem BX(l:List M):cutD (l.map enc) (some 1) none=(l.drop 1).map enc:=by
 unfold cutD;have e:HT.av (l.map enc).length 0 (some 1)=min 1 l.length:=by
  rw[length_map];exact HT.JW _ _ 1
 rw[e,HT.JX,length_map,<-map_drop,<-map_take];congr 1;cases l with
 |nil=>rfl
 |cons y l=>
  have:min 1 (y::l).length=1:=by simp
  rw[this,List.take_of_length_le (by simp)]
theorem ue{ms:List M}{n:Str}:∀x∈cF ms n,Nm x:=λx a=>ig x (mem_filter.mp a).1
theorem Gy{a b:List Str}(c:a≠[])(d:b≠[])(h:eG.kle (jb (bH a)) (jb (bH b))):¬strLt (hdS b) (hdS a):=by
 cases a with
 |nil=>exact absurd rfl c
 |cons x a=>
 cases b with
 |nil=>exact absurd rfl d
 |cons y b=>
 have h:eG.blt y.cps.toList x.cps.toList=false:=h;intro z;have e:eG.blt y.cps.toList x.cps.toList=true:=decide_eq_true (show y.cps.toList<x.cps.toList from z);rw[e] at h;cases h
end DP
namespace My
open L2 DP MA
theorem D6{fo:Addr}{fd:FuncData}(T:gq K "law" "law" gI fo fd)(y:mg "len"=none)(W:mg "tuple"=none)(G:mg "list"=none)(j:mg "sorted"=none)(Bt:mg "set"=none)(o:mg "isinstance"=none)(I:aB P w K mg base 6 "_law_hall" mY (ay mg 2 sN))(d:aB P w K mg base 10 "_law_all_names" mW (ay mg 1 sF))(p:aB P w K mg base 2 "_law_known" mZ (ay mg 2 sQ))(L:aB P w K mg base 14 "bound" m_ (ay mg 1 sH)):dH P w K mg base (aQ P w) 26 fo fd qT (ay mg 1 sR):=by
 refine Ek T zH rfl (by decide) λN RE f cdv B outer s H E Y hR M ds A R h hl=>?_;have hu:=Y.units;have nd:=zH.nd;refine⟨_,(@aG _ _ _ _ _ _ (dS 1 nd (dP ai)) (@aG _ _ _ _ _ _ (dS 2 nd (dL I Y M (aa (vr 0) (aa (vr 1) ai)))) (@aG _ _ _ _ _ _ (dS 3 nd (dP ai)) (@aG _ _ _ _ _ _ (fL eE rfl (ef (dL d Y M (aa (vr 2) ai))) (dG 4 nd) (@aE _ _ _ _ (e9 (gv plainAttrs_list PySem.F.slot_list_append PySem.F.type_list_append iG iX (vr 3) (aa (gW lA lK W boot_tuple (aa (cJ (ug rfl) uC j boot_sorted (aa (gW (BH rfl) Cy G boot_list (aa (dL p Y M (aa (vr 2) (aa (vr 4) ai))) ai)) ai)) ai)) ai))))) (@aG _ _ _ _ _ _ (dS 5 nd (dL L Y M (aa (vr 2) ai))) (@aG _ _ _ _ _ _ (bY (PW.pt (fN (kM hu (vr 5) (CZ j Bt rfl hu (aa (vr 3) ai))) (gy (e_ (fc (iB Gw o G boot_list (vr 5))))))) (@aE _ _ _ _ (aW eY)) cz) (@aG _ _ _ _ _ _ (dS 6 nd (dP ai)) (@aG _ _ _ _ _ _ (fL eE rfl (ef (vr 5)) (dG 7 nd) (@aE _ _ _ _ (e9 (gv plainAttrs_list slot_list_extend type_list_extend qK pF (vr 6) (aa (gW BI Cz G boot_list (aa (vr 7) ai)) ai))))) (@aG _ _ _ _ _ _ (bY (kM hu (cJ (ug rfl) uC j boot_sorted (aa (vr 6) ai)) (dL d Y M (aa (vr 2) ai))) (@aE _ _ _ _ (aW eY)) cz) (@aG _ _ _ _ _ _ (bY (fR hu (cJ dZ dh y PySem.boot_len (aa (vr 2) ai)) aq) (@aE _ _ _ _ (aW eY)) cz) (@aG _ _ _ _ _ _ (dS 8 nd (dL L Y M (aa (uM (vr 2) (pN aq) pM) ai))) (@aG _ _ _ _ _ _ (Dd none (own:=["_law_name"]) (frees:=["_law_hall_here"]) (ix:=[2]) (i:=9) nd rfl (by first|exact Or.inl rfl|exact Or.inr rfl) rfl (ef (dL d Y M (aa (vr 2) ai))) (λc=>(pG 0 (show(["_law_name","_law_hall_here"]:List Str).Nodup by decide+kernel))) (λc=>(jq hu (vr 0) (dL d Y qV (aa (uM (vr 1) (pN aq) pM) ai)))) (λc=>(vr 0))) (@aE _ _ _ _ (aW (Dk (d_ (cJ dZ dh y PySem.boot_len (aa (vr 8) ai)) (cJ dZ dh y PySem.boot_len (aa (vr 9) ai))) (cJ dZ dh y PySem.boot_len (aa (vr 5) ai))))))))))))))))),?_⟩;obtain⟨ns,rfl,q⟩:=h;have hz:(3000:Nat)<=sizeLine:=by decide
 refine⟨zero_le _,rfl,ns,_,0,rfl,⟨[],aR,le_refl _⟩,by decide,λms A1 h1 h5 r d1=>?_⟩;have X:ms.length<=6:=by omega
 refine⟨zero_le _,rfl,ms,rfl,X,r,λA2 q2 ys g2 h2 l2 hyp Z=>?_⟩;have hd2:=g2.get (aR (A:=A1) (c:=C.lst []));have nq:A1.length≠q2:=λz=>by
  have:(A1++[C.lst []]).length<=q2:=l2;simp at this;omega
 have M5:ys.length<=6:=by
  have:=ie ys N6 (rX hyp) λx M=>cK r ((Z x).mp M);simpa[N6] using this
 refine gb h2 ?_;refine eZ (λrest τ A'=>∃(dn more:List Str) (x4:Option D),rest=more.map D.str/\dn++more=ys/\τ=[some (.fl ns),some (.ref A.length),some (.tup (ms.map enc)),some (.ref A1.length),x4,none,none,none,none,none]/\A'[A1.length]?=some (.lst ((dn.map (cF ms)).map tupS))/\A'[q2]?=some (.lst (ys.map D.str))/\Gr A1 A') ?_ ?_ ?_ _ _ _ ⟨[],ys,none,rfl,rfl,rfl,hd2,h2,Gr.push.trans g2⟩
 .rintro rest τ A' ⟨_,_,_,_,_,_,_,h,_⟩
  exact h
 .rintro v rest τ A3 ⟨dn,more,x4,e,U,rfl,hd,v9,g3⟩ Nx hN
  cases more with
  |nil=>cases e
  |cons n more=>
  cases e;have t:n∈ys:=by rw[<-U];simp
  have n6:=cK r ((Z n).mp t);have dl:dn.length<=6:=by
   have:=congrArg List.length U;simp at this;omega
  refine⟨f9 hd,rfl,ms,n,rfl,X,r,n6,λks A4 q4 hK hC g4 h4=>?_⟩;have kl:(bJ ks).length<=6:=by have:=hK.len;simpa[bJ] using this
  refine GV h4 (wG ks) (by omega) ?_;refine zW aR hK.nd (by omega) λzs zp zm=>?_;refine nZ aR ?_;have e:=Gz r hK hC n6 zp zm;subst e;have vW:=((g4.trans (Gr.push (T:=[C.lst ((bJ ks).map D.str)]))).trans (Gr.push (T:=[C.lst ((cF ms n).map D.str)]))).get hd;have mj:=((g4.trans (Gr.push (T:=[C.lst ((bJ ks).map D.str)]))).trans (Gr.push (T:=[C.lst ((cF ms n).map D.str)]))).get v9;have gg:=(g3.trans g4).trans ((Gr.push (T:=[C.lst ((bJ ks).map D.str)])).trans (Gr.push (T:=[C.lst ((cF ms n).map D.str)])));refine iy vW (by simp;omega) ?_;refine hN _ _ ⟨dn++[n],more,_,rfl,by simpa using U,rfl,?_,?_,?_⟩
  .rw[map_append,map_append]
   exact getElem?_set_self (cB vW)
  .rw[getElem?_set_ne nq]
   exact mj
  .exact gg.set (le_refl _)
 .rintro τ A3 ⟨dn,more,x4,e,U,rfl,hd,v9,g3⟩
  cases more with
  |cons _ _=>cases e
  |nil=>
  have U:dn=ys:=by simpa using U
  subst U;refine⟨rfl,_,N6,rfl,xQ r,ig,λms' hH=>?_,λt=>absurd ⟨ms,wj h1 X r⟩ t⟩;have e:=(vU hH).symm;subst e;refine⟨l_ X r,λA4 q4 es hB g4 h4 l4=>?_⟩;have n0:∀n∈dn,n∈N6:=λn t=>cK r ((Z n).mp t);have d8:∀n∈dn,cF ms n≠[]:=λn t z=>by
   have:=nM r (n0 n t);rw[z] at this;cases this
  refine K5 (aX:=dn.map (cF ms)) eG (λe=>jb (bH e)) (g4.get hd) (by rw[length_map];omega) (λk hk=>?_) (λk hk k' hk'=>?_) λJ Mh ym yp=>?_
  .obtain⟨n,t,rfl⟩:=mem_map.mp hk
   obtain⟨_,a2,a3,_⟩:=rS (ue (ms:=ms) (n:=n)) (d8 n t);rw[rU] at a2 a3;exact⟨d8 n t,a2,a3⟩
  .obtain⟨n,t,rfl⟩:=mem_map.mp hk
   obtain⟨n',hn',rfl⟩:=mem_map.mp hk';rw[<-rU,<-rU];refine Ad (d8 n t) (d8 n' hn') λz=>?_;rw[iV r (n0 n t),iV r (n0 n' hn')];exact congrArg (cF ms) z
  have Aw:∀e∈J,e≠[]:=λe he=>by
   obtain⟨n,t,rfl⟩:=mem_map.mp ((ym e).mp he);exact d8 n t
  have ey:=Di r X hB Z ym Mh ((Pairwise.and_mem.mp yp).imp λ {a b} k=>Gy (Aw a k.1) (Aw b k.2.1) k.2.2);subst ey;have Mg:∀e∈J,(∀n∈e,Nm n)/\e≠[]:=λe he=>by
   obtain⟨n,t,rfl⟩:=mem_map.mp ((ym e).mp he);exact⟨ue,d8 n t⟩
  obtain⟨s1,s2,s3⟩:=Ag Mg;have O:=(Gr.push (T:=[C.lst (J.map tupS)])).get h4;refine xB O aR s1 s2 s3 ?_;have ety:fC (A4++[C.lst (J.map tupS)]) (.ref q4)=some "list":=by unfold fC;simp only[O]
  conv=>whnf
  rw[ety];conv=>whnf
  generalize MB:A4++[C.lst (J.map tupS)]=A5 at O;refine⟨zero_le _,?_⟩;have l5:q4<A5.length:=cB O;have yl:=Bx r X hB;refine gb ((Gr.push (T:=[C.lst []])).get O) ?_;refine eZ (λrest τ A'=>∃(un more:List (List Str)) (x7:Option D),rest=more.map tupS/\un++more=J/\τ=[some (.fl ns),some (.ref A.length),some (.tup (ms.map enc)),some (.ref A1.length),x4,some (.ref q4),some (.ref A5.length),x7,none,none]/\A'[A5.length]?=some (.lst (un.flatten.map D.str))/\A'[q4]?=some (.lst (J.map tupS))/\Gr A5 A') ?_ ?_ ?_ _ _ _ ⟨[],J,none,rfl,rfl,rfl,aR,(Gr.push (T:=[C.lst []])).get O,Gr.push⟩
  .rintro rest τ A' ⟨_,_,_,_,_,_,_,h,_⟩
   exact h
  .rintro v rest τ A6 ⟨un,more,x7,e,V,rfl,mh,v_,g6⟩ Nx hN
   cases more with
   |nil=>cases e
   |cons u more=>
   cases e;have ul:un.flatten.length+u.length<=64:=by
    have:=congrArg (λl=>l.flatten.length) V;simp only[List.flatten_append,List.flatten_cons,length_append] at this;omega
   have vX:=(Gr.push (T:=[C.lst (u.map D.str)])).get mh;have Ff:=(Gr.push (T:=[C.lst (u.map D.str)])).get v_;refine⟨f9 mh,pY vX aR (by rw[length_map,length_map];omega) ?_⟩;refine hN _ _ ⟨un++[u],more,_,rfl,by simpa using V,rfl,?_,?_,(g6.trans Gr.push).set (le_refl _)⟩
   .rw[List.flatten_append,map_append,List.flatten_singleton]
    exact getElem?_set_self (cB vX)
   .rw[getElem?_set_ne (by omega)]
    exact Ff
  .rintro τ A6 ⟨un,more,x7,e,V,rfl,mh,v_,g6⟩
   cases more with
   |cons _ _=>cases e
   |nil=>
   have V:un=J:=by simpa using V
   subst V;obtain⟨El,Ej⟩:=vg r X hB;refine zW mh El yl λzs zp zm=>?_;refine⟨rfl,ms,rfl,X,r,λA7 q7 Mj g7 h7 l7 Me Au=>?_⟩;have ez:zs=Mj:=up_eq rH zp Me λx=>by rw[zm,Ej,Au]
   subst ez;have Mn:∀x∈zs,Nm x:=λx M=>ig x (cK r ((Au x).mp M));obtain⟨w1,w2,w3⟩:=Ld Mn;refine xB (g7.get aR) h7 w1 w2 w3 ?_;refine cD (λc=>q _) (λc=>?_);cases ms with
   |nil=>exact absurd h1 (by decide)
   |cons m mt=>
   have ec:cutD ((m::mt).map enc) (some 1) none=mt.map enc:=BX (m::mt);have oT:∀x∈mt,One x:=λx M=>r x (mem_cons_of_mem _ M);have l6:mt.length<=6:=by rw[length_cons] at X;omega
   have l1:1<=mt.length:=by
    cases mt with
    |nil=>exact absurd rfl c
    |cons _ _=>rw[length_cons];omega
   have MH:=g6.get O;refine⟨rfl,_,N6,rfl,by rw[ec];exact xQ oT,ig,λms' hH=>?_,λt=>absurd ⟨mt,by rw[ec];exact wj l1 l6 oT⟩ t⟩;have e:=(vU (show eW (.tup (mt.map enc)) ms' by rw[<-ec];exact hH)).symm;subst e;refine⟨l_ l6 oT,λA8 q8 fs EK g8 h8 l8=>?_⟩;refine⟨rfl,m::mt,rfl,X,r,λA9 q9 S g9 h9 l9 Mf Av=>?_⟩;refine gb h9 ?_;have M4:S.length<=6:=by
    have:=ie S N6 (rX Mf) λx M=>cK r ((Av x).mp M);simpa[N6] using this
   obtain⟨gn,vZ⟩:∃gn:Str->Bool,∀x,gn x=true↔¬cV mt x:=⟨λx=> @decide (¬cV mt x) (Classical.propDecidable _),λx=>by simp⟩;refine lE D.str gn D.str S [] A9 (λA' g=>g.get h9) (λx hx' sd vA=>?_) (by simp;omega) (λsd vA=>?_)
   .refine⟨[.str x],rfl,λQ hQ=>?_,λ_ Az vB Q hQ=>hQ _ Gr.refl⟩
    refine⟨rfl,mt,congrArg (λz=>[D.tup z]) ec,l6,oT,λAz MZ Mi vB h11 ML M3 Mc=>?_⟩;refine Hh h11 ?_;have eg:(!decide (x∈Mi))=gn x:=by
     rw[Bool.eq_iff_iff,vZ];simp[Mc]
    rw[eg];exact hQ _ vB
   rw[nil_append];have cnt:=GQ r X hB EK (gone:=S.filter gn) λx M t=>mem_filter.mpr ⟨(Av x).mpr M,(vZ x).mpr t⟩;have gA:=(g9.trans vA).trans (Gr.push (T:=[C.lst ((S.filter gn).map D.str)]));refine jf (gA.get h8) ?_;refine jf aR ?_;refine jf ((((g6.trans Gr.push).trans g7).trans (g8.trans gA)).get O) ?_;have e:decide (((((un.map tupS).length:Nat):Int))<=(((fs.map λe=>D.tup (e.map D.str)).length:Nat):Int)+((((S.filter gn).map D.str).length:Nat):Int))=true:=by
    rw[length_map,length_map,length_map];exact decide_eq_true (by omega)
   have qe:R (.bl (decide (((((un.map tupS).length:Nat):Int))<=(((fs.map λe=>D.tup (e.map D.str)).length:Nat):Int)+((((S.filter gn).map D.str).length:Nat):Int)))) (sd++[C.lst ((S.filter gn).map D.str)]):=by
    rw[e];exact q _
   exact qe
end My
namespace L2
theorem tD{K:PySem.W.Frag}{h:Heap}{mg:ah}{x:Str}{st:Stmt}{ps:List Str}{f:Addr}{i:Value}{j an:Option Addr}{g:Array (Option Value)}{kV doc pm d ct:Value}(X:K.In h)(G:h.Ns mainGlobals mg)
  (a:nsIn K mainGlobals x=some (some (.ref f)):=by k_is)(l:K.lookup f=some ⟨i,j,.func (fnOf x x (gX st) (ee st) (aH st) .none kV doc pm an d ct),g⟩:=by k_is)(c:codeIn K d x=true:=by k_is)(k:keepIn K (.ref f)=true:=by k_is)
  (m:∀(kV doc pm:Value) (an:Option Addr) (d ct:Value) (b:List Value),b.length=ps.length->bindArgs (fnOf x x (gX st) (ee st) (aH st) .none kV doc pm an d ct) ⟨b,[]⟩=pure (ps.zip b):=by first|(exact λ_ _ _ _ _ _ b e=>match b,e with|[_],_=>rfl)|(exact λ_ _ _ _ _ _ b e=>match b,e with|[_,_],_=>rfl)|(exact λ_ _ _ _ _ _ b e=>match b,e with|[_,_,_],_=>rfl)|(exact λ_ _ _ _ _ _ b e=>match b,e with|[_,_,_,_],_=>rfl)|(exact λ_ _ _ _ _ _ b e=>match b,e with|[],_=>rfl)):TopD K mg x st ps:=
 ⟨f,_,p_ l c k,(p_ l c k).binds m,mg_of X G a⟩
theorem bN{K:PySem.W.Frag}{h:Heap}{mg:ah}{x:Str}(X:K.In h)(G:h.Ns mainGlobals mg)(a:nsIn K mainGlobals x=some none:=by k_is):mg x=none:=PySem.W.mg_none_of X G a
theorem eX{K:PySem.W.Frag}{h:Heap}{mg:ah}{x:Str}{v:Value}(X:K.In h)(G:h.Ns mainGlobals mg)(a:nsIn K mainGlobals x=some (some v):=by k_is):mg x=some v:=mg_of X G a
end L2
namespace My
open L2 DP MA
theorem walk{l:PySem.W.OpenLaw}{q:Program}{loose:List Str}{i:(ah)->Heap->Prop}{c:World->Heap->Prop}{d:DefRec}{K:Params->PySem.W.Frag}(j:l.most=some 63)(b:d.params.defaults=[])(m:∀p,(K p).all (λp=>iH p.2)=true)
  (o:∀(w:World) (h:Heap),c w h->(K w.params).In h)
  (F:∀(w:World) (mg:ah) (g:Addr) (h:Heap),(K w.params).In h->h.Ns mainGlobals mg->mg d.name=some (.ref g)->
   ∃fd:FuncData,(∀(s:Shared) (u:Value),BindsTo s fd ⟨[u],[]⟩ [("_law_script",u)])/\∀base:Heap,(K w.params).In base->base.Ns mainGlobals mg->dH l.prog w (K w.params) mg base (aQ l.prog w) 26 g fd ["_law_script"] jn):
  PySem.W.WalkO q loose i c l.row.toRowW d [] (λf vs=>PySem.call f vs):=
 L2.L8 (n:=63) (k:=26) (x:="_law_script") (CX:=λw=>aQ l.prog w) (sp:=λ_=>jn) j (by decide) b ⟨rfl,by decide,by decide⟩ o F (λw H a ns _ r t=>Eo (m w.params) r t) λw H s e s' z=>by
  obtain⟨_,_,_,_,_,z⟩:=z
  exact z
theorem GK{P:Program}{w:World}{K:PySem.W.Frag}{h:Heap}{mg:ah}{o j:Addr}{k b:Option Addr}{l:Array (Option Value)}{m c d g a i:Value}(X:K.In h)(G:h.Ns mainGlobals mg)(n:mg "law"=some (.ref o))
  (p:nsIn K mainGlobals "law"=some (some (.ref j)))(q:K.lookup j=some ⟨m,k,.func (fnOf "law" "law" (gX gI) (ee gI) (aH gI) .none c d g b a i),l⟩)(r:codeIn K a "law"=true)(k3:keepIn K (.ref j)=true)
  (go:∀(base:Heap) {f:Addr} {fd:FuncData},gq K "law" "law" gI f fd->dH P w K mg base (aQ P w) 26 f fd qT jn):
  ∃fd:FuncData,(∀(s:Shared) (v:Value),BindsTo s fd ⟨[v],[]⟩ [("_law_script",v)])/\∀base:Heap,K.In base->base.Ns mainGlobals mg->dH P w K mg base (aQ P w) 26 o fd ["_law_script"] jn:=by
 have e:=n.symm.trans (mg_of X G p)
 cases e
 exact⟨fnOf "law" "law" (gX gI) (ee gI) (aH gI) .none c d g b a i,λs v=> .of_eq rfl,λbase _ _=>go base (p_ q r k3)⟩
end My
end
open PySem PySem.W PyProof.Rows
set_option maxHeartbeats 0
namespace PySem.W.Fast
def tw11282344100014373100:=()
def tw861502493610598483:=()
def tw7774113678449685934:=()
def tw4486293716983994448:=()
def tw10971829966401845888:=()
def tw9326592196723003686:=()
def tw4188843726377370680:=()
def tw6297692896331399460:=()
def tw2585532686572414404:=()
def tw10894902600838542535:=()
def tw11384182702204212275:=()
def tw4849480874435393781:=()
def tw17744993626210230056:=()
def tw4096438862311573950:=()
def tw13855379610559885079:=()
def tw9176024353136599441:=()
def tw3475869608268796686:=()
def tw17590705303994421779:=()
def tw16670775579421159206:=()
def tw14827714588952709054:=()
def tw5890639436620234070:=()
def tw16298917771340976007:=()
def tw9977182230042388008:=()
def tw17817366049700826239:=()
def tw726351398001015727:=()
def tw5362036446546632119:=()
def tw6105849179199505303:=()
def tw9879335643197240621:=()
def tw2107523057676978006:=()
def tw14226173905949225808:=()
def tw6798380500665416597:=()
def tw2144661209622563809:=()
def tw2135409205425526673:=()
def tw9615563845995560447:=()
def tw15621415185263527259:=()
def tw2261719852989239553:=()
def tw10876078143196172821:=()
def tw7322748291113730364:=()
def tw3270257207059953099:=()
def tw6229817132586351632:=()
def tw5994696166404524948:=()
def tw1950803216711332702:=()
def tw15401437161963490237:=()
def tw4635989785427082552:=()
def tw9972681490609642005:=()
def tw2570914705882880060:=()
def tw15438627641174518403:=()
def tw12459912946257978736:=()
def tw6427576097997697322:=()
def tw16919654943277366748:=()
def tw7164969610272591079:=()
def tw8047209995159408440:=()
def tw5072417060200589145:=()
def tw18328257000508772394:=()
def tw9592521066531166775:=()
def tw13421457143807847188:=()
def tw12917704675397863716:=()
def tw5537553045615171315:=()
def tw10510056951384868246:=()
def tw13812277999558781770:=()
def tw5217270863462422736:=()
def tw15433366417846715934:=()
def tw6822071536725586909:=()
def tw4971374062829452455:=()
def tw17483705464198625004:=()
def tw1070438729232803039:=()
def tw16108870410212019532:=()
def tw10295913840692754127:=()
def tw3308634892276815127:=()
def tw2080317491765294665:=()
def tw3042748168174471775:=()
def tw2455152089536381482:=()
def tw14664691819916384248:=()
def tw1000662321505670351:=()
def tw10910644110388302437:=()
def tw16756451883985382160:=()
def tw17351735930882485243:=()
def tw15539815450414544023:=()
def tw13055953723892786844:=()
def tw12887044766017154078:=()
end PySem.W.Fast
open L2 DP MA My
open_top hd for PySem.Challenge.rw_hangstill_k22_whole_bound
theorem PySem.Challenge.cw_hangstill_k22_whole_bound_holds : PySem.Challenge.rw_hangstill_k22_whole_bound.Holds := by
 refine hd ?_;k_fill;refine My.walk (l:=PySem.Challenge.rw_hangstill_k22_whole_bound) rfl rfl ?K (λw h Y=>PySem.W.kIn_of Y) ?F;case K=>exact λp=>(Eq.refl true:true=true)
 case F=>
  intro w mg fa h KX G hmg;refine' My.GK KX G hmg ?aL ?lL ?cL ?kL ?Ey;(case aL=>k_is);(case lL=>k_is);(case cL=>k_is);(case kL=>k_is);case Ey=>
   intro base f fd T;have GY:mg "NoMobile"=some _:=eX KX G;have GX:mg "NoHall"=some _:=eX KX G;have AU:=DQ (P:=PySem.Challenge.rw_hangstill_k22_whole_bound.prog) (w:=w) (base:=base) (tD KX G) (bN KX G) (bN KX G) (bN KX G);have AR:=DO (P:=PySem.Challenge.rw_hangstill_k22_whole_bound.prog) (w:=w) (base:=base) (tD KX G) (bN KX G) (bN KX G) (bN KX G) (bN KX G) (eX KX G);have AM:=DM (tD KX G) (bN KX G) (bN KX G) (bN KX G) (bN KX G) (eX KX G) AR AU 6;have sy:=DN (tD KX G) (eX KX G) AM;have AH:=DL (tD KX G) GY (by k_exc) sy;have AG:=DW AH;have AI:=DZ (P:=PySem.Challenge.rw_hangstill_k22_whole_bound.prog) (w:=w) (base:=base) (tD KX G);have AX:=Ec (tD KX G) AI;have AV:=Ea (tD KX G) AX;have AY:=Ef (tD KX G) AV 6;have sC:=Ed (tD KX G) AG AY;have AB:=DS (tD KX G) sC;have AS:=D9 (tD KX G) (bN KX G) sC;have AZ:=Eg (P:=PySem.Challenge.rw_hangstill_k22_whole_bound.prog) (w:=w) (base:=base) (tD KX G) (bN KX G);have AW:=Eb (tD KX G) (bN KX G) AZ;have AJ:=D0 (tD KX G) AW;have AF:=DV (tD KX G) (bN KX G) (bN KX G) (bN KX G) (eX KX G) GX (by k_exc) sy AB;have AL:=D4 (tD KX G) AF AS;have AD:=DT (tD KX G) (bN KX G) (bN KX G) AL AJ;have AE:=DU (P:=PySem.Challenge.rw_hangstill_k22_whole_bound.prog) (w:=w) (base:=base) (tD KX G) (bN KX G);have AQ:=D8 (tD KX G) AE;have oq:=DY (tD KX G) (bN KX G) AQ;have sA:=D_ (tD KX G) (bN KX G) oq;have AO:=D7 (P:=PySem.Challenge.rw_hangstill_k22_whole_bound.prog) (w:=w) (base:=base) (tD KX G) 8;have AA:=DR (tD KX G) (bN KX G) (bN KX G) AO;have Ba:=Ei (tD KX G) (bN KX G) oq sA;have AK:=D3 (tD KX G) (bN KX G) (bN KX G) (bN KX G) (bN KX G) oq sA Ba;have A_:=Eh (P:=PySem.Challenge.rw_hangstill_k22_whole_bound.prog) (w:=w) (base:=base) (tD KX G);have AN:=D5 (tD KX G) A_;exact(D6 T (bN KX G) (bN KX G) (bN KX G) (bN KX G) (bN KX G) (bN KX G) AK AA AN AD).imp λvs H Q E h=>KZ h
