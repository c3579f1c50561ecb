import PyProof.Rows.All
import Wide.All
import OpenK.AllK
import Wide.FinOn
import Lean
import PyProof.EqAt
import PyProof.EqKinds
import PyProof.NeKinds
import PyProof.TupleCall
import PyProof.ZipIter
import PyProof.ListNew
import PyProof.P3Eq
import PyProof.NeData
import PyProof.EnumFor
import PyProof.EnumMake
import PyProof.ExcBaseAll.ValueError
import PyProof.Rows.SetFrom
import PyProof.CollectWalk
import PyProof.SumWalk
import PyProof.FString
import KE.KDictOf
import PyProof.AttrMissHeap
import PyProof.TupleOfGen
import KE.KDictSum
import PyProof.ConsumeS
import PyProof.P3In
import PyProof.Rows.RuleN_abs
import PyProof.Rows.FactsN_abs
import PyProof.StrBlockI
import PyProof.SliceStr2
import PyProof.Rows.StrClose
import PyProof.FactsAll.tuple_2
import PyProof.MinMaxWalk
import PyProof.WalksMore
import PyProof.Rows.RowHeap
import PyProof.DictWalks
import KE.KSortTup
import PyProof.Rows.ListMul
import PyProof.ListRange
import PyProof.TupleOfStr
import KE.KRevSl
import KE.KDictList
import KE.KIntText
import PyProof.ReprStr
import KE.KRevIter
import PyProof.DictUpdate
import PyProof.StrOps
import KE.KEqDict
import KE.IntBitsLaws
import PySem.Challenge.RW_hangstill_k10_whole_formulas
import KE.RegKIsAll
import KE.RegKTryMore
set_option Elab.async false
set_option linter.all false
set_option maxRecDepth 100000
set_option maxHeartbeats 4000000
open PySem.Heap (DictOf SameBut get?_push_ne get?_push_of_some get?_push_size lt_size size_push size_update)
open Option (getD_none isSome_iff_exists isSome_map map_some)
open PySem.W (KeqHits codeIn excIn findIn fnOf hideAll hideAll_get instObj keepIn kia_one kitOne kitx_dict kitx_list kitx_tuple lookIn methodObj mg_of nsIn of_hideAll plainGet)
open Nat (le_add_right le_max_left le_max_right le_of_lt le_refl le_succ le_trans log2_lt lt_irrefl lt_of_lt_of_le lt_succ_of_lt lt_trans ne_of_gt ne_of_lt pow_le_pow_right succ_pos zero_add zero_le)
open List (Pairwise all_eq_true any_cons any_eq_true append_nil drop_eq_getElem_cons drop_eq_nil_of_le ext_getElem? find? find?_append find?_cons find?_eq_none find?_some flatMap_append flatMap_cons foldl_append foldl_cons forIn_cons forIn_nil getD_eq_getElem?_getD getElem?_append_left getElem?_append_right getElem?_eq_getElem getElem?_eq_none getElem?_map getElem?_set_ne getElem?_set_self getElem_of_mem length_append length_cons length_drop length_map length_nil length_range length_take length_zip length_zipIdx lookup_cons map_append map_congr_left map_cons map_fst_zip map_map map_nil mem_append mem_append_right mem_cons mem_cons_of_mem mem_cons_self mem_filterMap mem_flatMap mem_map mem_map_of_mem mem_of_find?_eq_some mem_of_getElem? mem_of_mem_take mem_singleton mem_zipIdx_iff_getElem? nil_append nodup_append nodup_cons nodup_nil not_lt not_mem_nil of_mem_zip pairwise_cons pairwise_map range replicate set_append_left set_set size_toArray take_length take_succ)
open Array (Perm getD_eq_getD_getElem? length_toList toArray_toList toList)
open Bool (and_eq_true not_eq_true' or_eq_true)
open Int (add_comm dvd_trans ediv_le_self emod_lt_of_pos emod_nonneg gcd_dvd_left le_of_dvd mul_assoc mul_comm mul_le_mul mul_nonneg mul_pos natCast_pow one_mul pow_nonneg pow_succ)
open PySem.F (args_tuple_add_2 called_tuple entry_tuple_add plainAttrs_list plain_extend_loop slot_dict_update slot_list_extend slot_tuple_add type_list_extend)
open PySem.PyData (canLay0 canLayAll0 depthAll eqvAll)
section
open PySem
abbrev aj:=Str->Option Value
abbrev aE:=Value->Shared->Prop
abbrev aK:=List (Addr×Obj)
end
section
open PySem PySem.Spec PyProof.Rows
namespace L2
abbrev Key:=Sum Int Str
def iP:Key->Value->Bool
 |.inl k,v=>Value.isInt k v
 |.inr x,v=>Value.isStrOf x v
def IB(w:World):Key->Int
 |.inl k=>hashInt k
 |.inr x=>hashStr w x
theorem f9:∀{k:Key} {v:Value},iP k v=true->(∃i t,k=Sum.inl i/\v=Value.int i t)\/(∃x t,k=Sum.inr x/\v=Value.str x t)
 |.inl i,v,h=>by
  obtain⟨t,e⟩:=Value.isInt_shape (k:=i) (v:=v) h;exact .inl ⟨i,t,rfl,e⟩
 |.inr x,v,h=>by
  obtain⟨t,e⟩:=Value.isStrOf_shape (x:=x) (v:=v) h;exact .inr ⟨x,t,rfl,e⟩
theorem IC(i:Int)(t:Tok):iP (.inl i) (.int i t)=true:=by simp[iP,Value.isInt]
theorem ID(x:Str)(t:Tok):iP (.inr x) (.str x t)=true:=by simp[iP,Value.isStrOf]
theorem IE(a b:Int):decide ((Sum.inl a:Key)=Sum.inl b)=(a==b):=by
 by_cases e:a=b
 .subst e;simp
 .have h:¬(Sum.inl a:Key)=Sum.inl b:=λq=>e (Sum.inl.inj q)
  rw[decide_eq_false h];exact(beq_eq_false_iff_ne.mpr e).symm
theorem IJ(a b:Str):decide ((Sum.inr a:Key)=Sum.inr b)=decide (a=b):=by
 by_cases e:a=b
 .subst e;simp
 .have h:¬(Sum.inr a:Key)=Sum.inr b:=λq=>e (Sum.inr.inj q)
  rw[decide_eq_false h,decide_eq_false e]
theorem IF(a:Int)(b:Str):decide ((Sum.inl a:Key)=Sum.inr b)=false:=decide_eq_false (λq=>nomatch q)
theorem II(a:Str)(b:Int):decide ((Sum.inr a:Key)=Sum.inl b)=false:=decide_eq_false (λq=>nomatch q)
def cg(prog:Program)(w:World):PySem.KeyKind prog w Key where
 is:=iP
 hash:=IB w
 inj:=λv a b ha hb=>by
  rcases f9 ha with⟨i,t,rfl,rfl⟩|⟨x,t,rfl,rfl⟩
  .rcases f9 hb with⟨j,u,rfl,e⟩|⟨y,u,rfl,e⟩
   .injection e with e1 _;rw[e1]
   .exact nomatch e
  .rcases f9 hb with⟨j,u,rfl,e⟩|⟨y,u,rfl,e⟩
   .exact nomatch e
   .injection e with e1 _;rw[e1]
 byValue:=λk v h=>by
  rcases f9 h with⟨i,t,rfl,rfl⟩|⟨x,t,rfl,rfl⟩<;>rfl
 pyHash:=λhv h=>by
  rcases f9 hv with⟨i,t,rfl,rfl⟩|⟨x,t,rfl,rfl⟩
  .exact wpAny_pyHash_int h
  .exact wpAny_pyHash_str h
 eqBool:=λhu hv h=>by
  rcases f9 hu with⟨i,t,rfl,rfl⟩|⟨x,t,rfl,rfl⟩
  .rcases f9 hv with⟨j,u,rfl,rfl⟩|⟨y,u,rfl,rfl⟩
   .rw[IE] at h;exact wpAny_eqBool_int h
   .rw[IF] at h;exact SeqAt.EqAt.int_str i t y u _ _ _ _ h
  .rcases f9 hv with⟨j,u,rfl,rfl⟩|⟨y,u,rfl,rfl⟩
   .rw[II] at h;exact SeqAt.EqAt.str_int x t j u _ _ _ _ h
   .rw[IJ] at h;exact wpAny_eqBool_str h
 «strs»:=λk x t v h=>by
  rcases f9 h with⟨i,u,rfl,e⟩|⟨y,u,rfl,e⟩
  .exact nomatch e
  .injection e with e1 _
   subst e1
   cases v<;>rfl
theorem Jv(prog:Program)(w:World)(i:Int)(t:Tok):(cg prog w).is (.inl i) (.int i t)=true:=IC i t
theorem Jw(prog:Program)(w:World)(x:Str)(t:Tok):(cg prog w).is (.inr x) (.str x t)=true:=ID x t
inductive V where
 |ao|bl (b:Bool)|int (i:Int)|str (x:Str)|gE (b:Array UInt8)|kg (b:UInt64)|ref (a:Addr)|ty (n:String)
 deriving DecidableEq
def RelV:V->Value->Prop
 |.ao,u=>u=Value.none
 |.bl b,u=>u=Value.bool b
 |.int i,u=>∃t,u=Value.int i t
 |.str x,u=>∃t,u=Value.str x t
 |.gE b,u=>∃t,u=Value.bytes b t
 |.kg b,u=>∃t,u=Value.float b t
 |.ref a,u=>u=Value.ref a
 |.ty n,u=>u=Value.type n
abbrev Vals:List V->List Value->Prop:=Paired RelV
theorem Vals.length{xs:List V}{a:List Value}(r:Vals xs a):xs.length=a.length:=Paired.length r
theorem Vals.get:∀{xs:List V} {a:List Value} {i:Nat} {x:V},Vals xs a->xs[i]?=some x->∃u,a[i]?=some u/\RelV x u
 |_,_,_,_,.nil,e=>by simp at e
 |_,_,0,_,.cons r _,e=>by simp at e;subst e;exact⟨_,rfl,r⟩
 |_,_,i+1,x,.cons _ t,e=>by
  obtain⟨u,h1,h2⟩:=Vals.get (i:=i) (x:=x) t (by simpa using e);exact⟨u,by simpa using h1,h2⟩
theorem Vals.append:∀{xs ys:List V} {a ws:List Value},Vals xs a->Vals ys ws->Vals (xs++ys) (a++ws)
 |_,_,_,_,.nil,s=>s
 |_,_,_,_,.cons r t,s=>.cons r (Vals.append t s)
theorem Vals.take:∀{xs:List V} {a:List Value} (n:Nat),Vals xs a->Vals (xs.take n) (a.take n)
 |_,_,0,_=>.nil
 |_,_,_+1,.nil=>.nil
 |_,_,n+1,.cons r t=>.cons r (Vals.take n t)
theorem Vals.drop:∀{xs:List V} {a:List Value} (n:Nat),Vals xs a->Vals (xs.drop n) (a.drop n)
 |_,_,0,r=>r
 |_,_,_+1,.nil=>.nil
 |_,_,n+1,.cons _ t=>Vals.drop n t
def fV:Option V->Option Value->Prop
 |some v,some u=>RelV v u
 |none,none=>True
 |_,_=>False
def KV{κ:Type}:List (κ×V)->List (κ×Value)->Prop:=Paired λ(p:κ×V) (q:κ×Value)=>p.1=q.1/\RelV p.2 q.2
def kV:Key->V
 |.inl i=>.int i
 |.inr x=>.str x
def iU(h:Heap)(a:Addr)(items:Array Value):Prop:=∃n,h.get? a=some {cls:=.type "tuple",data:=.seq items n}
theorem iU.is{h:Heap}{a:Addr}{items:Array Value}(x:iU h a items):IsTup h a items:=let ⟨n,e⟩:=x;⟨_,e,rfl,n,rfl⟩
theorem iU.new(h:Heap)(items:Array Value):iU (h.push {cls:=.type "tuple",data:=.seq items}) h.objs.size items:=⟨0,get?_push_size _ rfl⟩
inductive HO where
 |lst (xs:List V)
 |tup (xs:List V)
 |dK (kvs:List (Key×V))|dT (kvs:List (List Key×V))
 |set (S:Int->Bool) (n:Nat)
 |ins (C dx:Addr) (fs:List (Str×V))
 |own (x:Addr)
 |xd (fs:List (Str×V))
 |met (f x:Addr)
 |dw (lo hi:Int)
 |bh (o:Obj) (u:HO)
 |fR (ps:Array Value)
 |ext (φ:Heap->Prop)
abbrev Hp:=Addr->Option HO
def upd(H:Hp)(a:Addr)(o:HO):Hp:=λb=>if b=a then some o else H b
theorem cW{H:Hp}{a:Addr}{o:HO}:upd H a o a=some o:=by unfold upd;rw[if_pos rfl]
theorem aS{H:Hp}{a b:Addr}{o:HO}(h:b≠a):upd H a o b=H b:=by unfold upd;rw[if_neg h]
theorem JI{H:Hp}{a b:Addr}{o u:HO}(h:H a=some o)(h':H b=some u)(d:o≠u):a≠b:=by
 intro e;subst e;rw[h] at h';exact d (Option.some.inj h')
theorem cQ{H:Hp}{a b:Addr}{o:HO}(h:H a=some o)(h':H b=none):a≠b:=by
 intro e;subst e;rw[h] at h';cases h'
section
variable(P:Program)(w:World)
def bw(H:Hp)(h:Heap)(a:Addr):HO->Prop
 | .lst xs=>xs.length<=sizeLine/\∃(its:List Value) (n:Nat),Vals xs its/\h.get? a=some {cls:= .type "list",data:= .seq its.toArray n}
 | .tup xs=>xs.length<=sizeLine/\∃its:List Value,Vals xs its/\iU h a its.toArray
 | .dK kvs=>kvs.length<=sizeLine/\(a==sysModules)=false/\∃vs,KV kvs vs/\h.DictOf (cg P w) a vs
 | .dT kvs=>kvs.length<=sizeLine/\(a==sysModules)=false/\∃xs:List (List Key×Addr×Value),
  Paired (λ(p:List Key×V) (q:List Key×Addr×Value)=>p.1=q.1/\H q.2.1=some (.tup (p.1.map kV))/\RelV p.2 q.2.2) kvs xs/\
  ∃o es ep,h.get? a=some o/\o.ExactDict/\o.data= .dict es ep/\es.toList=xs.map (entryOfKey (tupleKind (cg P w)))/\(xs.map (·.1)).Nodup
 | .set S n=>h.SetOf (intKind P w) a S n
 | .ins C dx fs=>H dx=some (.own a)/\fs.length<=1000/\dx≠a/\h.get? a=some (instObj C dx)/\
  ∃mA,h.Ns1 dx mA/\(∀f,fV (fs.lookup f) (mA f))/\PySem.Within mA (fs.map (·.1))
 | .own _=>∃o,h.get? a=some o
 | .xd fs=>∃mA,h.Ns1 a mA/\∀f,fV (fs.lookup f) (mA f)
 | .dw lo hi=>∃t u v,h.get? a=some {cls:= .type "range",data:= .fields #[.int lo t,.int hi u,.int 1 v]}
 | .bh o u=>h.get? a=some o/\bw H h a u
 | .fR ps=>h.get? a=some {cls:= .none,data:= .fields ps}
 | .met f x=>h.get? a=some (methodObj (.ref f) (.ref x))
 | .ext φ=>φ h/\(∃o,h.get? a=some o)/\∀h1 h2:Heap,φ h1->(∀o,h1.get? a=some o->h2.get? a=some o)->φ h2
def bW(H:Hp)(h:Heap):Prop:=∀a o,H a=some o->bw P w H h a o
end
section
variable{P:Program}{w:World}{H H':Hp}{h h':Heap}{a:Addr}{o:HO}
theorem bw.lt(x:bw P w H h a o):a<h.objs.size:=by
 cases o with
 |lst xs=>obtain⟨_,_,_,_,e⟩:=x;exact lt_size e
 |tup xs=>obtain⟨_,_,_,p⟩:=x;exact p.is.lt
 |dK kvs=>obtain⟨_,_,_,_,o,_,_,e,_⟩:=x;exact lt_size e
 |dT kvs=>obtain⟨_,_,_,_,o,_,_,e,_⟩:=x;exact lt_size e
 |set S n=>obtain⟨o,_,_,_,e,_⟩:=x;exact lt_size e
 |ins C dx fs=>obtain⟨_,_,_,e,_⟩:=x;exact lt_size e
 |own y=>obtain⟨_,e⟩:=x;exact lt_size e
 |xd fs=>obtain⟨_,⟨_,_,_,e,_⟩,_⟩:=x;exact lt_size e
 |dw lo hi=>obtain⟨_,_,_,e⟩:=x;exact lt_size e
 |bh b u=>obtain⟨e,_⟩:=x;exact lt_size e
 |fR ps=>exact lt_size (show h.get? a=some _ from x)
 |met f y=>exact lt_size (show h.get? a=some _ from x)
 |ext c=>obtain⟨_,⟨_,e⟩,_⟩:=x;exact lt_size e
theorem Paired.iy{α β:Type}{F G:α->β->Prop}:∀{c:List α} {d:List β},Paired F c d->(∀a b,F a b->G a b)->Paired G c d
 |_,_,.nil,_=>.nil
 |_,_,.cons r t,f=>.cons (f _ _ r) (Paired.iy t f)
theorem bw.stay(x:bw P w H h a o)(k:∀b u,(b=a\/H b=some (.own a))->h.get? b=some u->h'.get? b=some u)
  (j:∀b,H b=some (.own a)->H' b=some (.own a))(l:∀b xs,H b=some (.tup xs)->H' b=some (.tup xs)):bw P w H' h' a o:=by
 induction o with
 |lst xs=>obtain⟨z,its,n,r,e⟩:=x;exact⟨z,its,n,r,k _ _ (.inl rfl) e⟩
 |tup xs=>obtain⟨z,its,r,n,e⟩:=x;exact⟨z,its,r,n,k _ _ (.inl rfl) e⟩
 |dK kvs=>obtain⟨z,y,vs,r,g,es,ep,e,c⟩:=x;exact⟨z,y,vs,r,g,es,ep,k _ _ (.inl rfl) e,c⟩
 |dT kvs=>
  obtain⟨z,y,xs,r,g,es,ep,e,c⟩:=x;exact⟨z,y,xs,Paired.iy r λp q z=>⟨z.1,l _ _ z.2.1,z.2.2⟩,g,es,ep,k _ _ (.inl rfl) e,c⟩
 |set S n=>obtain⟨g,es,ep,t,e,c⟩:=x;exact⟨g,es,ep,t,k _ _ (.inl rfl) e,c⟩
 |ins C dx fs=>
  obtain⟨d,z,ne,e,mA,⟨i,es,ep,m,c⟩,r⟩:=x;exact⟨j _ d,z,ne,k _ _ (.inl rfl) e,mA,⟨i,es,ep,k _ _ (.inr d) m,c⟩,r⟩
 |own y=>obtain⟨g,e⟩:=x;exact⟨g,k _ _ (.inl rfl) e⟩
 |xd fs=>obtain⟨mA,⟨i,es,ep,e,c⟩,r⟩:=x;exact⟨mA,⟨i,es,ep,k _ _ (.inl rfl) e,c⟩,r⟩
 |dw lo hi=>obtain⟨t,u,v,e⟩:=x;exact⟨t,u,v,k _ _ (.inl rfl) e⟩
 |bh g u s=>obtain⟨e,q⟩:=x;exact⟨k _ _ (.inl rfl) e,s q⟩
 |fR ps=>
  have e:h.get? a=some {cls:=.none,data:=.fields ps}:=x;show h'.get? a=some {cls:=.none,data:=.fields ps};exact k a _ (.inl rfl) e
 |met f y=>
  have e:h.get? a=some (methodObj (.ref f) (.ref y)):=x;show h'.get? a=some (methodObj (.ref f) (.ref y));exact k a _ (.inl rfl) e
 |ext A=>obtain⟨p,⟨o,e⟩,st⟩:=x;exact⟨st _ _ p λo q=>k _ _ (.inl rfl) q,⟨o,k _ _ (.inl rfl) e⟩,st⟩
theorem bW.lt(x:bW P w H h)(e:H a=some o):a<h.objs.size:=(x a o e).lt
theorem bW.fresh(x:bW P w H h)(e:h.objs.size<=a):H a=none:=by
 cases q:H a with
 |none=>rfl
 |some u=>exact absurd (lt_of_lt_of_le (x.lt q) e) (lt_irrefl _)
theorem bW.kept(x:bW P w H h)(k:∀b u,h.get? b=some u->h'.get? b=some u):bW P w H h':=λa o e=>
 (x a o e).stay (λb u _ q=>k b u q) (λ_ q=>q) λ_ _ q=>q
theorem bW.laid(x:bW P w H h)(k:∀b u,h.get? b=some u->h'.get? b=some u)(f:h.objs.size<=a)(new:bw P w (upd H a o) h' a o):bW P w (upd H a o) h':=λb u e=>by
 have d:=x.fresh f;by_cases hb:b=a
 .subst hb;rw[cW] at e;cases e;exact new
 .rw[aS hb] at e
  exact(x b u e).stay (λc v _ q=>k c v q) (λc q=>by rw[aS (cQ q d)];exact q) λc xs q=>by rw[aS (cQ q d)];exact q
end
def Rd(H:Hp)(a:Addr)(u:HO):Prop:=H a=some u\/∃o,H a=some (.bh o u)
theorem Rd.ok{P:Program}{w:World}{H:Hp}{h:Heap}{a:Addr}{u:HO}(r:Rd H a u)(x:bW P w H h):bw P w H h a u:=by
 rcases r with r|⟨o,r⟩
 .exact x a u r
 .obtain⟨_,q⟩:=x a _ r
  exact q
def lu:Option HO->Prop
 |some (.lst _)=>True
 |some (.dK _)=>True
 |some (.dT _)=>True
 |some (.set _ _)=>True
 |some (.ins _ _ _)=>True
 |some (.ext _)=>True
 |_=>False
section
variable{P:Program}{w:World}{H:Hp}{h h':Heap}{x e:Addr}{o':HO}
theorem bW.write(ok:bW P w H h)(g:lu (H x))(j:e=x\/H e=some (.own x))(k:∀b u,b≠e->h.get? b=some u->h'.get? b=some u)(i:∃u,h'.get? e=some u)
  (new:bw P w (upd H x o') h' x o'):bW P w (upd H x o') h':=λb u q=>by
 have d:∀c y,H c=some (.own y)->c≠x:=λc y r z=>by subst z;rw[r] at g;exact g
 have f:∀c xs,H c=some (.tup xs)->c≠x:=λc xs r z=>by subst z;rw[r] at g;exact g
 by_cases hb:b=x
 .subst hb;rw[cW] at q;cases q;exact new
 .rw[aS hb] at q
  by_cases a:b=e
  .have l:H b=some (.own x):=by
    rcases j with z|z
    .exact absurd (a.trans z) hb
    .rw[a];exact z
   rw[q] at l;cases l;obtain⟨v,m⟩:=i;exact⟨v,by rw[a];exact m⟩
  .refine(ok b u q).stay (λc v hc r=>k c v ?_ r) (λc r=>by rw[aS (d c b r)];exact r) λc xs r=>by rw[aS (f c xs r)];exact r
   rcases hc with rfl|hc
   .exact a
   .rintro rfl
    rcases j with z|z
    .exact d c b hc z
    .rw[hc] at z;cases z;exact hb rfl
end
structure Un(fs ex:List Addr)(H H':Hp)(h h':Heap):Prop where
 keep:∀b o,h.get? b=some o->H b=none->b∉fs->b∉ex->h'.get? b=some o
 slot:∀b o,h.get? b=some o->H b=none->b∈fs->b∉ex->∃sl,h'.get? b=some {o with slots:=sl}
 free:∀b o,h.get? b=some o->H b=none->b∉ex->H' b=none
 there:∀b o,h.get? b=some o->b∉ex->∃o',h'.get? b=some o'
 tups:∀b xs,H b=some (.tup xs)->H' b=some (.tup xs)
 eF:∀b o u,H b=some (.bh o u)->H' b=some (.bh o u)
 fD:∀b ps,H b=some (.fR ps)->∃more,H' b=some (.fR (ps++more))
section
variable{fs fs' ex ex':List Addr}{H H1 H2:Hp}{h h1 h2 h':Heap}{a x e:Addr}{o:HO}
theorem Un.any(u:Un fs ex H H1 h h1){b:Addr}{a:Obj}(q:h.get? b=some a)(n:H b=none)(c:b∉ex):∃d,h1.get? b=some {a with slots:=d}:=by
 by_cases hb:b∈fs
 .exact u.slot b a q n hb c
 .exact⟨a.slots,u.keep b a q n hb c⟩
theorem Un.kept(k:∀b u,h.get? b=some u->h'.get? b=some u):Un fs ex H H h h':=
 ⟨λb a q _ _ _=>k b a q,λb a q _ _ _=>⟨a.slots,k b a q⟩,λ_ _ _ n _=>n,λb a q _=>⟨a,k b a q⟩,λ_ _ q=>q,λ_ _ _ q=>q,λ_ ps q=>⟨#[],by rw[q];simp⟩⟩
theorem Un.refl:Un fs ex H H h h:=Un.kept λ_ _ q=>q
theorem Un.laid(k:∀b u,h.get? b=some u->h'.get? b=some u)(d:h.objs.size<=a)(c:H a=none):Un fs ex H (upd H a o) h h' where
 keep:=λb u q _ _ _=>k b u q
 slot:=λb u q _ _ _=>⟨u.slots,k b u q⟩
 free:=λb u q n _=>by rw[aS (ne_of_lt (lt_of_lt_of_le (lt_size q) d))];exact n
 there:=λb u q _=>⟨u,k b u q⟩
 tups:=λb xs q=>by rw[aS (cQ q c)];exact q
 eF:=λb u xs q=>by rw[aS (cQ q c)];exact q
 fD:=λb ps q=>⟨#[],by rw[aS (cQ q c),q];simp⟩
theorem Un.write(c:lu (H x))(i:e=x\/H e=some (.own x))(k:∀b u,b≠e->h.get? b=some u->h'.get? b=some u)(d:∃u,h'.get? e=some u):Un fs ex H (upd H x o) h h':=by
 have g:∀b,H b=none->b≠x:=λb n z=>by subst z;rw[n] at c;exact c
 have hb:∀b,H b=none->b≠e:=λb n z=>by
  subst z;rcases i with r|r
  .exact g b n r
  .rw[n] at r;cases r
 have f:∀b u,H b=some u->¬lu (some u)->b≠x:=λb u q nm z=>by subst z;rw[q] at c;exact nm c
 refine⟨λb u q n _ _=>k b u (hb b n) q,λb u q n _ _=>⟨u.slots,k b u (hb b n) q⟩,λb u q n _=>by rw[aS (g b n)];exact n,λb u q _=>?_,
  λb xs q=>by rw[aS (f b _ q λz=>z)];exact q,λb u xs q=>by rw[aS (f b _ q λz=>z)];exact q,λb ps q=>⟨#[],by rw[aS (f b _ q λz=>z),q];simp⟩⟩
 by_cases a:b=e
 .subst a;exact d
 .exact⟨u,k b u a q⟩
end
def qC(h:Heap)(H:Hp):List Addr:=(range h.objs.size).filter λa=>(H a).isSome
def iN(h:Heap)(H:Hp):Heap:=hideAll h (qC h H)
theorem Hv(h:Heap)(H:Hp):(iN h H).objs.size=h.objs.size:=PySem.W.hideAll_size _ _
theorem Hu{h:Heap}{H:Hp}{b:Addr}{o:Obj}(e:h.get? b=some o)(n:H b=none):(iN h H).get? b=some o:=
 hideAll_get _ e λa=>by
  have q:(H b).isSome=true:=(List.mem_filter.mp a).2;rw[n] at q;simp at q
theorem J4{h:Heap}{H:Hp}{b:Addr}{o:Obj}(e:(iN h H).get? b=some o):h.get? b=some o/\H b=none:=by
 have a:h.get? b=some o:=of_hideAll (qC h H) e;refine⟨a,?_⟩;cases q:H b with
 |none=>rfl
 |some x=>
  have c:b∈qC h H:=List.mem_filter.mpr ⟨List.mem_range.mpr (lt_size a),by simp[q]⟩;have z:(iN h H).get? b=none:=PySem.W.hideAll_none (qC h H) c;rw[z] at e;cases e
structure Mod(K:PySem.W.Frag)(mg:aj)(base:Heap):Prop where
 oV:K.In base
 glob:base.Ns mainGlobals mg
 blt:∃mb,base.Ns builtinsNs mb/\∀x:Str,x≠"__name__"->mb x=bootBuiltins x
 nolimit:base.NoLimit
structure Cx where
 prog:Program
 w:World
 K:PySem.W.Frag
 mg:aj
 base:Heap
 A:Around
 N:List Str
 s₀:Shared
 H₀:Hp
 env:Env
 outer:List Env
 stack:List Env
 ex:List Addr
 fn:Str->Bool
 calm:Bool
 pn:aK
 xe:aE
def frs(l:List Env):List Addr:=l.filterMap (·.frame)
abbrev Cx.fs(X:Cx):List Addr:=frs X.outer
def jX(sc:Scope)(x:Str):Prop:=sc.names.lookup x=some .local\/sc.names.lookup x=some .cell\/sc.names.lookup x=some .free
def Loc(sc:Scope)(x:Str):Prop:=sc.names.lookup x=some .local\/sc.names.lookup x=some .cell
def Look(env:Env)(h:Heap)(m:aj)(x:Str)(u:Value):Prop:=
 (env.kindOf x=some .local/\m x=some u)\/((env.kindOf x=some .cell\/env.kindOf x=some .free)/\∃c,env.cells.lookup x=some c/\h.IsCell c (some u))
structure Cx.Ok(X:Cx):Prop where
 mod:Mod X.K X.mg X.base
 kind:X.env.scope.kind= .function
 glob:X.env.globals=mainGlobals
 blt:X.env.builtins=builtinsNs
 above:X.s₀.heap.objs.size<=X.env.locals
 inj:∀x y c,X.env.cells.lookup x=some c->X.env.cells.lookup y=some c->x=y
 has:∀x,(X.env.kindOf x=some .cell\/X.env.kindOf x=some .free)->∃c,X.env.cells.lookup x=some c
 nV:∀x c,X.fn x=true->X.env.cells.lookup x=some c->X.s₀.heap.objs.size<=c
 hd:X.calm=true->X.A.handled=none
 frames:X.A.frames=some X.stack
 stk:X.stack=X.outer\/(X.stack=X.env::X.outer/\X.env.frame=some X.env.locals)
 FQ:∀b∈X.ex,b≠X.env.locals/\∀x c,X.env.cells.lookup x=some c->c≠b
 bs:∀b o,X.base.get? b=some o->X.s₀.heap.get? b=some o/\X.H₀ b=none
 jo:X.base.objs.size<=X.s₀.heap.objs.size
 pH:∀b o,X.base.get? b=some o->b∉X.ex
 sH:∀b∈X.ex,b∉X.fs
 iu:X.s₀.heap.FunFrames X.base X.outer
 kh:∀b∈X.fs,X.H₀ b=none
structure Inv(X:Cx)(pins:aK)(σ:List (Option V))(H:Hp)(s:Shared):Prop where
 ok:X.Ok
 os:s.os=X.s₀.os
 bare:AllBare s.gens
 base:Un X.fs X.ex X.H₀ H X.s₀.heap s.heap
 loc:∃m,s.heap.Ns X.env.locals m/\∀(i:Nat) (x:Str) (v:V),X.N[i]? =some x->σ[i]? =some (some v)->jX X.env.scope x->∃u,RelV v u/\Look X.env s.heap m x u
 cell:∀x c,X.env.cells.lookup x=some c->∃v,s.heap.IsCell c v
 free:H X.env.locals=none
 ir:∀x c,X.env.cells.lookup x=some c->H c=none
 pin:∀p∈X.pn++pins,s.heap.get? p.1=some p.2/\H p.1=none/\p.1≠X.env.locals/\p.1∉X.fs/\∀v,p.2.data≠ .cell v
 hok:bW X.prog X.w H s.heap
 len:σ.length=X.N.length
section
variable{X:Cx}{pins:aK}{σ:List (Option V)}{H H':Hp}{s:Shared}{h':Heap}
theorem Cx.Ok.pI(ok:X.Ok){b:Addr}{o:Obj}(e:X.base.get? b=some o):b∉X.fs:=λhb=>by
 have:=(ok.iu.mem hb).1;rw[e] at this;cases this
theorem Inv.bs(I:Inv X pins σ H s):∀b o,X.base.get? b=some o->s.heap.get? b=some o/\H b=none:=λb o e=>
 ⟨I.base.keep b o (I.ok.bs b o e).1 (I.ok.bs b o e).2 (I.ok.pI e) (I.ok.pH b o e),I.base.free b o (I.ok.bs b o e).1 (I.ok.bs b o e).2 (I.ok.pH b o e)⟩
theorem Inv.bk(I:Inv X pins σ H s):∀b o,X.base.get? b=some o->s.heap.get? b=some o:=λb o e=>(I.bs b o e).1
theorem Inv.mod(I:Inv X pins σ H s):Mod X.K X.mg X.base:=I.ok.mod
theorem Inv.dH(I:Inv X pins σ H s):X.K.In s.heap:=I.ok.mod.oV.keeps I.bk
theorem Inv.lt(I:Inv X pins σ H s):X.env.locals<s.heap.objs.size:=let ⟨_,a,_⟩:=I.loc;a.lt
theorem Inv.sz(I:Inv X pins σ H s):X.s₀.heap.objs.size<=s.heap.objs.size:=le_trans I.ok.above (le_of_lt I.lt)
theorem Inv.JS(I:Inv X pins σ H s){a:Addr}(h:s.heap.objs.size<=a):a∉X.fs:=λhb=>by
 obtain⟨_,o,b,_⟩:=I.ok.iu.mem hb;exact absurd (lt_of_lt_of_le (lt_size b) (le_trans I.sz h)) (lt_irrefl _)
theorem Inv.jr(I:Inv X pins σ H s):∀x c,X.env.cells.lookup x=some c->c≠X.env.locals:=λx c e z=>by
 obtain⟨v,o,d,hd⟩:=I.cell x c e;obtain⟨m,⟨o',es,ep,a,b,_⟩,_⟩:=I.loc;rw[z,a] at d;cases d;rw[b] at hd;cases hd
theorem Inv.iu(I:Inv X pins σ H s):s.heap.FunFrames X.base X.outer:=by
 have all:∀(l:List Env),(∀b∈frs l,b∈X.fs)->X.s₀.heap.FunFrames X.base l->s.heap.FunFrames X.base l:=by
  intro l;induction l with
  |nil=>intro _ _;trivial
  |cons env r f=>
   intro d g;obtain⟨h,⟨L,o,a,i,j,hd⟩,k⟩:=g;have c:L∈X.fs:=d L (by unfold frs;rw[List.filterMap_cons,a];exact mem_cons_self);obtain⟨m,e⟩:=I.base.slot L o j (I.ok.kh L c) c λz=>I.ok.sH L z c;exact⟨h,⟨L,_,a,i,e,hd⟩,f (λb hb=>d b (by unfold frs;rw[List.filterMap_cons,a];exact mem_cons_of_mem _ hb)) k⟩
 exact all X.outer (λ_ hb=>hb) I.ok.iu
theorem Inv.stack(I:Inv X pins σ H s):s.heap.FunFrames X.base X.stack:=by
 rcases I.ok.stk with e|⟨e,a⟩
 .rw[e];exact I.iu
 .rw[e]
  obtain⟨m,b,_⟩:=I.loc;refine .cons (by rw[I.ok.kind];decide) a b ?_ I.iu;exact Heap.get?_none_of_le (le_trans I.ok.jo I.ok.above)
theorem Inv.kY(I:Inv X pins σ H s):∀b∈frs X.stack,b∈X.env.locals::X.fs:=λb hb=>by
 rcases I.ok.stk with e|⟨e,a⟩
 .rw[e] at hb;exact mem_cons_of_mem _ hb
 .rw[e] at hb
  unfold frs at hb;rw[List.filterMap_cons,a] at hb;exact hb
theorem Inv.uO(I:Inv X pins σ H s):∀b∈frs X.stack,H b=none:=λb hb=>by
 rcases mem_cons.mp (I.kY b hb) with e|hb
 .rw[e];exact I.free
 .obtain⟨_,o,a,_⟩:=I.ok.iu.mem hb
  exact I.base.free b o a (I.ok.kh b hb) λz=>I.ok.sH b z hb
theorem Inv.step{g':Array GenState}{t':Nat}{d':Drawn}{ch:List Addr}(I:Inv X pins σ H s)
  (f:∀b∈ch,(b∈X.ex\/X.s₀.heap.objs.size<=b)/\b≠X.env.locals/\(∀x c,X.env.cells.lookup x=some c->c≠b)/\∀p∈X.pn++pins,p.1≠b)
  (keep:∀b o,b≠X.env.locals->b∉X.fs->b∉ch->s.heap.get? b=some o->H b=none->h'.get? b=some o)
  (slot:∀b o,b≠X.env.locals->b∈X.fs->b∉ch->s.heap.get? b=some o->H b=none->∃C,h'.get? b=some {o with slots:=C})(free:∀b o,b∉ch->s.heap.get? b=some o->H b=none->H' b=none)
  (there:∀b o,b∉ch->s.heap.get? b=some o->∃o',h'.get? b=some o')
  (tups:∀b xs,H b=some (.tup xs)->H' b=some (.tup xs))(eF:∀b o u,H b=some (.bh o u)->H' b=some (.bh o u))(fD:∀b ps,H b=some (.fR ps)->∃y,H' b=some (.fR (ps++y)))
  (ns:∀m,s.heap.Ns X.env.locals m->h'.Ns X.env.locals m)(hok:bW X.prog X.w H' h')(G:AllBare g'):
  Inv X pins σ H' {s with heap:=h',gens:=g',drawn:=d',toks:=t'}:=by
 have A:∀b o,X.s₀.heap.get? b=some o->b≠X.env.locals:=λb o e=>ne_of_lt (lt_of_lt_of_le (lt_size e) I.ok.above)
 have h:∀b o,X.s₀.heap.get? b=some o->b∉X.ex->b∉ch:=λb o e a hb=>by
  rcases (f b hb).1 with z|z
  .exact a z
  .exact absurd (lt_of_lt_of_le (lt_size e) z) (lt_irrefl _)
 have cellK:∀x c,X.env.cells.lookup x=some c->∀v,s.heap.IsCell c v->h'.IsCell c v:=λx c e v ⟨o,t,hd⟩=>by
  have g:c∉ch:=λz=>(f c z).2.2.1 x c e rfl
  by_cases hc:c∈X.fs
  .obtain⟨C,q⟩:=slot c o (I.jr x c e) hc g t (I.ir x c e)
   exact⟨_,q,hd⟩
  .exact⟨o,keep c o (I.jr x c e) hc g t (I.ir x c e),hd⟩
 refine⟨I.ok,I.os,G,⟨λb o e n hb a=> ?_,λb o e n hb a=> ?_,λb o e n a=> ?_,λb o e a=> ?_,λb xs e=>tups b xs (I.base.tups b xs e),λb o xs e=>eF b o xs (I.base.eF b o xs e),λb ps e=> ?_⟩,?_,λx c e=> ?_,?_,λx c e=> ?_,λp E=> ?_,hok,I.len⟩
 .exact keep b o (A b o e) hb (h b o e a) (I.base.keep b o e n hb a) (I.base.free b o e n a)
 .obtain⟨C,j⟩:=I.base.slot b o e n hb a
  obtain⟨D,B⟩:=slot b _ (A b o e) hb (h b o e a) j (I.base.free b o e n a)
  exact⟨D,B⟩
 .obtain⟨o',j⟩:=I.base.there b o e a
  exact free b o' (h b o e a) j (I.base.free b o e n a)
 .obtain⟨o',j⟩:=I.base.there b o e a
  exact there b o' (h b o e a) j
 .obtain⟨J,j⟩:=I.base.fD b ps e
  obtain⟨K,B⟩:=fD b _ j
  exact⟨J++K,by rw[B,Array.append_assoc]⟩
 .obtain⟨m,L,M⟩:=I.loc
  refine⟨m,ns m L,λi x v j B N=> ?_⟩
  obtain⟨u,r,l⟩:=M i x v j B N
  refine⟨u,r,?_⟩
  rcases l with l|⟨k,c,e,z⟩
  .exact .inl l
  .exact .inr ⟨k,c,e,cellK x c e _ z⟩
 .obtain⟨v,z⟩:=I.cell x c e
  exact⟨v,cellK x c e v z⟩
 .obtain⟨m,⟨o,_,_,t,_⟩,_⟩:=I.loc
  exact free _ o (λz=>(f _ z).2.1 rfl) t I.free
 .obtain⟨v,o,t,hd⟩:=I.cell x c e
  exact free c o (λz=>(f c z).2.2.1 x c e rfl) t (I.ir x c e)
 .obtain⟨e,n,ne,F,d⟩:=I.pin p E
  have g:p.1∉ch:=λz=>(f p.1 z).2.2.2 p E rfl
  exact⟨keep p.1 p.2 ne F g e n,free p.1 p.2 g e n,ne,F,d⟩
theorem Inv.un{t':Nat}(I:Inv X pins σ H s)(u:Un X.fs [] H H' s.heap h')(hok:bW X.prog X.w H' h'):Inv X pins σ H' {s with heap:=h',toks:=t'}:=by
 obtain⟨m,⟨o,es,ep,f,r⟩,_⟩:=id I.loc;obtain⟨i,g⟩:=u.any f I.free (by simp);exact I.step (g':=s.gens) (d':=s.drawn) (ch:=[]) (λ_ z=>nomatch z) (λb o _ hb _ e n=>u.keep b o e n hb (by simp)) (λb o _ hb _ e n=>u.slot b o e n hb (by simp)) (λb o _ e n=>u.free b o e n (by simp)) (λb o _ e=>u.there b o e (by simp)) u.tups u.eF u.fD (λj h=>by
  obtain⟨o',c,d,a,r'⟩:=h;rw[f] at a;cases a;exact⟨_,c,d,g,r'⟩) hok I.bare
theorem Inv.call{g':Array GenState}{t':Nat}{d':Drawn}{ch:List Addr}(I:Inv X pins σ H s)(u:Un (frs X.stack) ch H H' s.heap h')(hok:bW X.prog X.w H' h')(j:AllBare g')
  (a:∀b∈ch,(b∈X.ex\/X.s₀.heap.objs.size<=b)/\b≠X.env.locals/\(∀x c,X.env.cells.lookup x=some c->c≠b)/\∀p∈X.pn++pins,p.1≠b):
  Inv X pins σ H' {s with heap:=h',gens:=g',drawn:=d',toks:=t'}:=by
 obtain⟨m,⟨o,es,ep,i,r⟩,_⟩:=id I.loc;obtain⟨l,f⟩:=u.any i I.free λz=>(a _ z).2.1 rfl;exact I.step (ch:=ch) a (λb o f hb hc e n=>u.keep b o e n (λz=>(mem_cons.mp (I.kY b z)).elim f hb) hc) (λb o _ _ hc e n=>u.any e n hc) (λb o hc e n=>u.free b o e n hc) (λb o hc e=>u.there b o e hc) u.tups u.eF u.fD (λq k=>by
  obtain⟨o',g,h,d,r'⟩:=k;rw[i] at d;cases d;exact⟨_,g,h,f,r'⟩) hok j
theorem Inv.turned{t':Nat}{it:Addr}(I:Inv X pins σ H s)(k:∀b o,b≠it->s.heap.get? b=some o->h'.get? b=some o)(f:H it=none)(d:it≠X.env.locals)
  (h1:it∈X.ex\/X.s₀.heap.objs.size<=it)(h2:∀x c,X.env.cells.lookup x=some c->c≠it)(g:∀p∈X.pn++pins,p.1≠it):Inv X pins σ H {s with heap:=h',toks:=t'}:=by
 have a:∀b u,H b=some u->b≠it:=λb u e z=>by rw[z,f] at e;cases e
 refine I.step (g':=s.gens) (d':=s.drawn) (ch:=[it]) (λb hb=>?_) (λb o _ _ hc e _=>k b o (λz=>hc (by simp[z])) e) (λb o _ _ hc e _=>⟨o.slots,k b o (λz=>hc (by simp[z])) e⟩) (λ_ _ _ _ n=>n)
  (λb o hc e=>⟨o,k b o (λz=>hc (by simp[z])) e⟩) (λ_ _ e=>e) (λ_ _ _ e=>e) (λb ps e=>⟨#[],by rw[e];simp⟩) (λm h=>?_) (λb u e=>?_) I.bare
 .have e:b=it:=by simpa using hb
  subst e;exact⟨h1,d,h2,g⟩
 .obtain⟨o,es,ep,i,r⟩:=h
  exact⟨o,es,ep,k _ o (Ne.symm d) i,r⟩
 .refine(I.hok b u e).stay (λc v hc q=>k c v ?_ q) (λ_ q=>q) λ_ _ q=>q
  rcases hc with z|z
  .rw[z];exact a b u e
  .exact a c _ z
theorem Inv.tok(I:Inv X pins σ H s)(t:Nat):Inv X pins σ H {s with toks:=t}:=I.un (h':=s.heap) (t':=t) Un.refl I.hok
theorem Inv.kept{t':Nat}(I:Inv X pins σ H s)(k:∀b u,s.heap.get? b=some u->h'.get? b=some u):Inv X pins σ H {s with heap:=h',toks:=t'}:=I.un (Un.kept k) (I.hok.kept k)
theorem Inv.laid{a:Addr}{o:HO}{t':Nat}(I:Inv X pins σ H s)(k:∀b u,s.heap.get? b=some u->h'.get? b=some u)(c:s.heap.objs.size<=a)(new:bw X.prog X.w (upd H a o) h' a o):
 Inv X pins σ (upd H a o) {s with heap:=h',toks:=t'}:=I.un (Un.laid k c (I.hok.fresh c)) (I.hok.laid k c new)
theorem Inv.write{x e:Addr}{o:HO}{t':Nat}(I:Inv X pins σ H s)(c:lu (H x))(d:e=x\/H e=some (.own x))(k:∀b u,b≠e->s.heap.get? b=some u->h'.get? b=some u)(a:∃u,h'.get? e=some u)
 (new:bw X.prog X.w (upd H x o) h' x o):Inv X pins σ (upd H x o) {s with heap:=h',toks:=t'}:=I.un (Un.write c d k a) (I.hok.write c d k a new)
theorem Inv.weak{σ':List (Option V)}(I:Inv X pins σ H s)(b:σ'.length=σ.length)(w:∀(i:Nat) v,σ'[i]?=some (some v)->σ[i]?=some (some v)):Inv X pins σ' H s:=
 ⟨I.ok,I.os,I.bare,I.base,let ⟨m,c,a⟩:=I.loc;⟨m,c,λi x v d e f=>a i x v d (w i v e) f⟩,I.cell,I.free,I.ir,I.pin,I.hok,b.trans I.len⟩
theorem Inv.Aj{a:aK}(I:Inv X pins σ H s)(h:∀p∈a,s.heap.get? p.1=some p.2/\H p.1=none/\p.1≠X.env.locals/\p.1∉X.fs/\∀v,p.2.data≠ .cell v):Inv X a σ H s:=
 ⟨I.ok,I.os,I.bare,I.base,I.loc,I.cell,I.free,I.ir,λp b=>(mem_append.mp b).elim (λz=>I.pin p (List.mem_append_left _ z)) (h p),I.hok,I.len⟩
theorem zY{N:List Str}(c:N.Nodup){i j:Nat}{x:Str}(a:N[i]?=some x)(b:N[j]?=some x):i=j:=by
 obtain⟨h1,d⟩:=List.getElem?_eq_some_iff.mp a;obtain⟨h2,e⟩:=List.getElem?_eq_some_iff.mp b;exact(List.getElem_inj c).mp (d.trans e.symm)
theorem Co {M : Model} {A : Around} {E : aE} {i : Nat} {x : Str} {v : V} {u : Value} {Q : Unit → Shared → Prop} (I : Inv X pins σ H s) (hN : X.N.Nodup) (hi : X.N[i]? = some x) (l : Loc X.env.scope x) (r : RelV v u)
    (h : ∀ s', Inv X pins (σ.set i (some v)) H s' → (∃ a, SameBut a s.heap s'.heap ∧ (a = X.env.locals ∨ X.env.cells.lookup x = some a)) → Q () s') (hf : X.fn x = true ∨ X.env.scope.names.lookup x = some .local := by first | exact .inl rfl | exact .inr rfl | assumption) : wpAny M A (storeName X.env x u) Q E s := by
  obtain ⟨m, R, hl⟩ := id I.loc
  have G : (X.env.scope.kind == .class || (X.env.scope.kind == .module && X.env.locals != X.env.globals)) = false := by rw [I.ok.kind]; rfl
  have C : i < σ.length := by rw [I.len]; exact (List.getElem?_eq_some_iff.mp hi).1
  have jr := I.jr
  have tracked : ∀ {a : Addr} {h' : Heap}, (∃ o, s.heap.get? a = some o ∧ H a = none) → SameBut a s.heap h' → bW X.prog X.w H h' := fun {a h'} ha f b ob e => by
    obtain ⟨_, _, t⟩ := ha
    refine (I.hok b ob e).stay (fun c P hc q => (f.2 c ?_).trans q) (fun _ q => q) fun _ _ q => q
    rintro rfl
    rcases hc with rfl | hc
    · rw [t] at e; cases e
    · rw [t] at hc; cases hc
  rcases l with hk | hk
  · refine wpAny_storeName_local hk R (fun h' S f => ?_) G
    obtain ⟨oL, _, _, T, _⟩ := id R
    refine h _ ⟨I.ok, I.os, I.bare, ⟨fun b o e n hb l => ?_, fun b o e n hb l => ?_, I.base.free, fun b o e l => ?_, I.base.tups, I.base.eF, I.base.fD⟩, ⟨_, S, fun j y U g B W => ?_⟩, fun y c e => ?_, I.free, I.ir, fun p Y => ?_, tracked ⟨oL, T, I.free⟩ f, by simpa using I.len⟩ ⟨_, f, .inl rfl⟩
    · exact (f.2 b (ne_of_lt (lt_of_lt_of_le (lt_size e) I.ok.above))).trans (I.base.keep b o e n hb l)
    · obtain ⟨Z, g⟩ := I.base.slot b o e n hb l
      exact ⟨Z, (f.2 b (ne_of_lt (lt_of_lt_of_le (lt_size e) I.ok.above))).trans g⟩
    · obtain ⟨o', g⟩ := I.base.there b o e l
      exact ⟨o', (f.2 b (ne_of_lt (lt_of_lt_of_le (lt_size e) I.ok.above))).trans g⟩
    · by_cases D : j = i
      · subst D
        rw [hi] at g; cases g
        rw [getElem?_set_self C] at B
        cases B
        exact ⟨u, r, .inl ⟨hk, by simp⟩⟩
      · rw [getElem?_set_ne (Ne.symm D)] at B
        obtain ⟨u', r', q⟩ := hl j y U g B W
        refine ⟨u', r', ?_⟩
        rcases q with ⟨k, e⟩ | ⟨k, c, e, z⟩
        · refine .inl ⟨k, ?_⟩
          have : y ≠ x := fun e => D (zY hN g (e ▸ hi))
          simp [this, e]
        · exact .inr ⟨k, c, e, z.sameBut f (jr y c e)⟩
    · obtain ⟨P, z⟩ := I.cell y c e
      exact ⟨P, z.sameBut f (jr y c e)⟩
    · obtain ⟨e, n, ne, nf, d⟩ := I.pin p Y
      exact ⟨(f.2 p.1 ne).trans e, n, ne, nf, d⟩
  · have F : X.fn x = true := by
      rcases hf with z | z
      · exact z
      · rw [z] at hk; cases hk
    obtain ⟨c, hc⟩ := I.ok.has x (.inl hk)
    obtain ⟨P, z⟩ := I.cell x c hc
    refine wpAny_storeName_cell I.ok.kind hk hc z (fun h' J f => ?_)
    obtain ⟨oc, K, L⟩ := id z
    refine h { s with heap := h' } ⟨I.ok, I.os, I.bare, ⟨fun b o e n hb l => ?_, fun b o e n hb l => ?_, I.base.free, fun b o e l => ?_, I.base.tups, I.base.eF, I.base.fD⟩, ⟨m, R.sameBut f (Ne.symm (jr x c hc)), fun j y U g B W => ?_⟩, fun y c' e => ?_, I.free, I.ir, fun p Y => ?_, tracked ⟨oc, K, I.ir x c hc⟩ f, by simpa using I.len⟩ ⟨c, f, .inr hc⟩
    · exact (f.2 b (ne_of_lt (lt_of_lt_of_le (lt_size e) (I.ok.nV x c F hc)))).trans (I.base.keep b o e n hb l)
    · obtain ⟨Z, g⟩ := I.base.slot b o e n hb l
      exact ⟨Z, (f.2 b (ne_of_lt (lt_of_lt_of_le (lt_size e) (I.ok.nV x c F hc)))).trans g⟩
    · obtain ⟨o', g⟩ := I.base.there b o e l
      exact ⟨o', (f.2 b (ne_of_lt (lt_of_lt_of_le (lt_size e) (I.ok.nV x c F hc)))).trans g⟩
    · by_cases D : j = i
      · subst D
        rw [hi] at g; cases g
        rw [getElem?_set_self C] at B
        cases B
        exact ⟨u, r, .inr ⟨.inl hk, c, hc, J⟩⟩
      · rw [getElem?_set_ne (Ne.symm D)] at B
        obtain ⟨u', r', q⟩ := hl j y U g B W
        refine ⟨u', r', ?_⟩
        rcases q with q | ⟨k, c', e, z'⟩
        · exact .inl q
        · refine .inr ⟨k, c', e, z'.sameBut f ?_⟩
          rintro rfl
          exact D (zY hN g (I.ok.inj _ _ _ e hc ▸ hi))
    · by_cases O : c' = c
      · subst O; exact ⟨_, J⟩
      · obtain ⟨w2, z2⟩ := I.cell y c' e
        exact ⟨w2, z2.sameBut f O⟩
    · obtain ⟨e, n, ne, nf, d⟩ := I.pin p Y
      refine ⟨(f.2 p.1 ?_).trans e, n, ne, nf, d⟩
      intro q
      rw [q, K] at e
      have q' : oc = p.2 := Option.some.inj e
      exact d P (by rw [← q']; exact L)
theorem ni{M:Model}{A:Around}{E:aE}{i:Nat}{x:Str}{v:V}{u:Value}{Q:Unit->Shared->Prop}(I:Inv X pins σ H s)(a:X.N.Nodup)(hi:X.N[i]?=some x)(b:Loc X.env.scope x)(r:RelV v u)
  (h:∀s',Inv X pins (σ.set i (some v)) H s'->Q () s')(c:X.fn x=true\/X.env.scope.names.lookup x=some .local:=by first|exact .inl rfl|exact .inr rfl|assumption):wpAny M A (storeName X.env x u) Q E s:=
 Co I a hi b r (λs' d _=>h s' d) c
theorem Inv.D5{s':Shared}{ch:List Addr}(I:Inv X pins σ H s)(d:s'.os=s.os)(u:Un (frs X.stack) ch H H' s.heap s'.heap)(hok:bW X.prog X.w H' s'.heap)(f:AllBare s'.gens)
  (a:∀b∈ch,(b∈X.ex\/X.s₀.heap.objs.size<=b)/\b≠X.env.locals/\(∀x c,X.env.cells.lookup x=some c->c≠b)/\∀p∈X.pn++pins,p.1≠b):Inv X pins σ H' s':=by
 obtain⟨h',g',d',t',o'⟩:=s';have e:o'=s.os:=d;subst e;exact I.call (g':=g') (t':=t') (d':=d') u hok f a
end
abbrev XK:=Value->Option Addr->Hp->Prop
abbrev St:=List (Option V)
abbrev VK:=V->Hp->Prop
abbrev TE:=St->Hp->VK->Prop
abbrev TT:=St->Hp->(Bool->Hp->Prop)->Prop
abbrev TA:=St->Hp->(List V->Hp->Prop)->Prop
structure Ends where
 nx:St->Hp->Prop
 rt:VK
 bk:St->Hp->Prop:=λ_ _=>False
 ct:St->Hp->Prop:=λ_ _=>False
abbrev TS:=Ends->St->Hp->Prop
def EP(X:Cx)(pins:aK)(σ:St)(Q:VK)(u:Value)(s':Shared):Prop:=∃v H',Inv X pins σ H' s'/\RelV v u/\Q v H'
def TP(X:Cx)(pins:aK)(σ:St)(Q:Bool->Hp->Prop)(b:Bool)(s':Shared):Prop:=∃H',Inv X pins σ H' s'/\Q b H'
def AP(X:Cx)(pins:aK)(σ:St)(Q:List V->Hp->Prop)(us:List Value)(s':Shared):Prop:=∃vs H',Inv X pins σ H' s'/\Vals vs us/\Q vs H'
def SP(X:Cx)(pins:aK)(D:Ends)(f:Flow)(s':Shared):Prop:=
 match f with
 |.next=>∃σ' H',Inv X pins σ' H' s'/\D.nx σ' H'
 |.brk=>∃σ' H',Inv X pins σ' H' s'/\D.bk σ' H'
 |.cont=>∃σ' H',Inv X pins σ' H' s'/\D.ct σ' H'
 |.ret u=>∃v σ' H',Inv X pins σ' H' s'/\RelV v u/\D.rt v H'
def PE(X:Cx)(e:Expr)(t:TE):Prop:=
 ∀(pins:aK) (s:Shared) (σ:St) (H:Hp) (Q:VK),Inv X pins σ H s->t σ H Q->wpAny (model X.prog X.w) X.A (eval e X.env) (EP X pins σ Q) X.xe s
def PT(X:Cx)(e:Expr)(t:TT):Prop:=
 ∀(pins:aK) (s:Shared) (σ:St) (H:Hp) (Q:Bool->Hp->Prop),Inv X pins σ H s->t σ H Q->wpAny (model X.prog X.w) X.A (isTrue e X.env (eval e X.env)) (TP X pins σ Q) X.xe s
def PW(X:Cx)(e:Expr)(t:TT):Prop:=
 ∀(whole:Sem Value) (pins:aK) (s:Shared) (σ:St) (H:Hp) (Q:Bool->Hp->Prop),Inv X pins σ H s->t σ H Q->wpAny (model X.prog X.w) X.A (isTrue e X.env whole) (TP X pins σ Q) X.xe s
theorem PW.pt{X:Cx}{e:Expr}{t:TT}(h:PW X e t):PT X e t:=h _
def PA(X:Cx)(es:List Expr)(t:TA):Prop:=
 ∀(pos:Pos) (pins:aK) (s:Shared) (σ:St) (H:Hp) (Q:List V->Hp->Prop),Inv X pins σ H s->t σ H Q->wpAny (model X.prog X.w) X.A (spliced (backTo pos (starEach es X.env))) (AP X pins σ Q) X.xe s
def PS(X:Cx)(st:Stmt)(t:TS):Prop:=
 ∀(pins:aK) (s:Shared) (σ:St) (H:Hp) (D:Ends),Inv X pins σ H s->t D σ H->wpAny (model X.prog X.w) X.A (exec st X.env) (SP X pins D) X.xe s
def cG(X:Cx)(st:List Stmt)(t:TS):Prop:=
 ∀(pins:aK) (s:Shared) (σ:St) (H:Hp) (D:Ends),Inv X pins σ H s->t D σ H->wpAny (model X.prog X.w) X.A (execs st X.env) (SP X pins D) X.xe s
theorem aF{α:Type}{t:Sem α}{Q b:α->Shared->Prop}{M:Model}{A:Around}{E:aE}{s:Shared}(h:wpAny M A t Q E s)(c:∀a s,Q a s->b a s):wpAny M A t b E s:=wpAny_mono h c λ_ _ x=>x
section
variable{X:Cx}
def N2(i:Nat):TE:=λσ H Q=>∃v,σ[i]?=some (some v)/\Q v H
def tC(v:V):TE:=λ_ H Q=>Q v H
theorem K8{i:Nat}{x:Str}{pos:Pos}(d:X.N[i]?=some x)(f:jX X.env.scope x)(hd:(x==("__debug__":Str))=false:=by decide)(b:(x==("__classdict__":Str))=false:=by decide):PE X (.Name x pos) (N2 i):=by
 intro pins s σ H Q I h;obtain⟨v,e,h⟩:=h;obtain⟨m,g,j⟩:=I.loc;obtain⟨u,r,l⟩:=j i x v d e f;have fin:EP X pins σ Q u s:=⟨v,H,I,r,h⟩;rcases l with⟨hk,k⟩|⟨hk,c,hc,a⟩
 .exact wpAny_Name (wpAny_loadName_local I.ok.kind hk g k fin) hd
 .rcases hk with hk|hk
  .exact wpAny_Name (wpAny_loadName_cell I.ok.kind hk hc a fin) hd
  .exact wpAny_Name (wpAny_loadName_free I.ok.kind hk hc a fin b) hd
theorem KW{i j pos}:PE X (.Constant (.int i) j pos) (tC (.int i)):=λ_ _ _ H _ I h=>wpAny_Constant_int ⟨.int i,H,I.tok _,⟨_,rfl⟩,h⟩
theorem KD{b j pos}:PE X (.Constant (.bool b) j pos) (tC (.bl b)):=λ_ _ _ H _ I h=>Constant_bool ⟨.bl b,H,I,rfl,h⟩
theorem K0{j pos}:PE X (.Constant .none j pos) (tC .ao):=λ_ _ _ H _ I h=>Constant_none ⟨.ao,H,I,rfl,h⟩
theorem K4{x j pos}:PE X (.Constant (.str x) j pos) (tC (.str x)):=λ_ _ _ H _ I h=>Calls.Constant_str ⟨.str x,H,I.tok _,⟨_,rfl⟩,h⟩
def Gl(X:Cx)(x:Str):Prop:=X.env.kindOf x=some .globalImplicit
theorem tH{E:aE}{pins:aK}{s:Shared}{σ:St}{H:Hp}{x:Str}{u:Value}{pos:Pos}{Q:aE}(I:Inv X pins σ H s)(a:Gl X x)(b:X.mg x=some u)(h:Q u s)
  (hd:(x==("__debug__":Str))=false:=by decide):wpAny (model X.prog X.w) X.A (eval (.Name x pos) X.env) Q E s:=
 Calls.Name_function_global I.ok.kind a (Calls.loadGlobal_global (by rw[I.ok.glob];exact I.mod.glob.keeps I.bk) b h) hd
theorem jc{E:aE}{pins:aK}{s:Shared}{σ:St}{H:Hp}{x:Str}{u:Value}{pos:Pos}{Q:aE}(I:Inv X pins σ H s)(a:Gl X x)(b:X.mg x=none)(c:bootBuiltins x=some u)(h:Q u s)
  (d:x≠"__name__":=by decide)(hd:(x==("__debug__":Str))=false:=by decide):wpAny (model X.prog X.w) X.A (eval (.Name x pos) X.env) Q E s:=by
 obtain⟨mb,h1,h2⟩:=I.mod.blt;exact Calls.Name_function_global I.ok.kind a (Calls.loadGlobal_builtin (by rw[I.ok.glob];exact I.mod.glob.keeps I.bk) b (by rw[I.ok.blt];exact h1.keeps I.bk) ((h2 x d).trans c) h) hd
theorem KU{x:Str}{v:V}{u:Value}{pos:Pos}(a:Gl X x)(b:X.mg x=some u)(r:RelV v u)(hd:(x==("__debug__":Str))=false:=by decide):PE X (.Name x pos) (tC v):=
 λ_ _ _ H _ I h=>tH I a b ⟨v,H,I,r,h⟩ hd
theorem KG{x:Str}{v:V}{u:Value}{pos:Pos}(a:Gl X x)(b:X.mg x=none)(c:bootBuiltins x=some u)(r:RelV v u)(d:x≠"__name__":=by decide)(hd:(x==("__debug__":Str))=false:=by decide):PE X (.Name x pos) (tC v):=
 λ_ _ _ H _ I h=>jc I a b c ⟨v,H,I,r,h⟩ d hd
variable{a b:Expr}{ta tb:TE}{pos:Pos}
def tB(t:TE):TT:=λσ H Q=>t σ H λx H1=>∃c,x=.bl c/\Q c H1
theorem LM{e:Expr}{t:TE}(h:PE X e t)(a:∀whole,isTrue e X.env whole=(do let v <-whole;standAt e.pos;holding [v] (truthy v)):=by intro _;rfl):PT X e (tB t):=by
 intro pins s σ H Q I b;refine isTrue_plain (aF (h pins s σ H _ I b) λv i ⟨x,H1,c,f,g⟩=>?_) (a _);obtain⟨d,rfl,q⟩:=g;cases f;exact wpAny_truthy_bool ⟨H1,c,q⟩
variable{tA qA:TT}{rest:List Expr}
def Nv(t u:TT):TT:=λσ H Q=>t σ H λc H1=>if c=true then u σ H1 Q else Q false H1
def NR(t u:TT):TT:=λσ H Q=>t σ H λc H1=>if c=true then Q true H1 else u σ H1 Q
def NQ(t:TT):TT:=λσ H Q=>t σ H λc H1=>Q (!c) H1
theorem pw_and1(ha:PT X a tA):PW X (.BoolOp .And [a] pos) tA:=by
 intro b pins s σ H Q I h;refine isTrue_and (aF (ha pins s σ H Q I h) λc d e=>?_);cases c with
 |true=>exact isTrue_and_nil e
 |false=>exact e
theorem pw_or1(ha:PT X a tA):PW X (.BoolOp .Or [a] pos) tA:=by
 intro b pins s σ H Q I h;refine isTrue_or (aF (ha pins s σ H Q I h) λc d e=>?_);cases c with
 |false=>exact isTrue_or_nil e
 |true=>exact e
theorem pw_and(ha:PT X a tA)(hb:PW X (.BoolOp .And (b::rest) pos) qA):PW X (.BoolOp .And (a::b::rest) pos) (Nv tA qA):=by
 intro f pins s σ H Q I h;refine isTrue_and (aF (ha pins s σ H _ I h) λc g ⟨H1,d,e⟩=>?_);cases c with
 |true=>exact hb f pins g σ H1 Q d e
 |false=>exact⟨H1,d,e⟩
theorem pw_or(ha:PT X a tA)(hb:PW X (.BoolOp .Or (b::rest) pos) qA):PW X (.BoolOp .Or (a::b::rest) pos) (NR tA qA):=by
 intro f pins s σ H Q I h;refine isTrue_or (aF (ha pins s σ H _ I h) λc g ⟨H1,d,e⟩=>?_);cases c with
 |true=>exact⟨H1,d,e⟩
 |false=>exact hb f pins g σ H1 Q d e
theorem LL(ha:PT X a tA):PT X (.UnaryOp .Not a pos) (NQ tA):=by
 intro pins s σ H Q I h;exact isTrue_not (ha pins s σ H (λc H1=>Q (!c) H1) I h)
def Ny(ta tb:TE):TE:=λσ H Q=>ta σ H λx H1=>∃c,x=.bl c/\if c=true then tb σ H1 Q else Q (.bl false) H1
theorem K1{op}{t:TE}(h:PE X a t):PE X (.BoolOp op [a] pos) t:=λpins s σ H Q I b=>BoolOp_one (h pins s σ H Q I b)
theorem KC(ha:PE X a ta)(hb:PE X (.BoolOp .And (b::rest) pos) tb):PE X (.BoolOp .And (a::b::rest) pos) (Ny ta tb):=by
 intro pins s σ H Q I h;refine BoolOp_and (aF (ha pins s σ H _ I h) λv f ⟨x,H1,e,g,d⟩=>?_);obtain⟨c,rfl,d⟩:=d;cases g;refine wpAny_truthy_bool ?_;cases c with
 |true=>exact hb pins f σ H1 Q e d
 |false=>exact⟨.bl false,H1,e,rfl,d⟩
end
def aO(K:PySem.W.Frag)(H:Hp)(a:Addr)(xs:List V):Prop:=
 Rd H a (.lst xs)\/
  ∃(o:Obj) (its:Array Value) (n:Nat),K.lookup a=some o/\o.cls=.type "list"/\o.dict=none/\o.data=.seq its n/\its.size<=sizeLine/\Vals xs its.toList
def bq(K:PySem.W.Frag)(H:Hp)(a:Addr)(xs:List V):Prop:=
 Rd H a (.tup xs)\/
  ∃(o:Obj) (its:Array Value) (n:Nat),K.lookup a=some o/\o.cls=.type "tuple"/\o.data=.seq its n/\its.size<=sizeLine/\Vals xs its.toList
def DF:Value->Option V
 |.none=>some .ao
 |.bool b=>some (.bl b)
 |.int i _=>some (.int i)
 |.str x _=>some (.str x)
 |.bytes b _=>some (.gE b)
 |.float b _=>some (.kg b)
 |.ref a=>some (.ref a)
 |.type n=>some (.ty n)
 |_=>none
theorem RelV.abs{x:V}{u:Value}(r:RelV x u):DF u=some x:=by
 cases x with
 |ao=>cases r;rfl
 |bl _=>cases r;rfl
 |int _=>obtain⟨t,rfl⟩:=r;rfl
 |str _=>obtain⟨t,rfl⟩:=r;rfl
 |gE _=>obtain⟨t,rfl⟩:=r;rfl
 |kg _=>obtain⟨t,rfl⟩:=r;rfl
 |ref _=>cases r;rfl
 |ty _=>cases r;rfl
theorem RelV.inj{x y:V}{u:Value}(r:RelV x u)(q:RelV y u):x=y:=Option.some.inj (r.abs.symm.trans q.abs)
theorem Vals.inj:∀{xs ys:List V} {a:List Value},Vals xs a->Vals ys a->xs=ys
 |_,_,_,.nil,.nil=>rfl
 |_,_,_,.cons r t,.cons r' t'=>by rw[r.inj r',Vals.inj t t']
section
variable{X:Cx}{pins:aK}{σ:St}{H:Hp}{s:Shared}{a:Addr}{xs ys:List V}
theorem aO.of{K:PySem.W.Frag}(h:H a=some (.lst xs)):aO K H a xs:=.inl (.inl h)
theorem bq.of{K:PySem.W.Frag}(h:H a=some (.tup xs)):bq K H a xs:=.inl (.inl h)
theorem Inv.list(I:Inv X pins σ H s)(h:aO X.K H a xs):∃its:List Value,Vals xs its/\PlainL s.heap a its.toArray/\xs.length<=sizeLine:=by
 rcases h with h|⟨o,its,n,b,hc,hd,c,hz,r⟩
 .obtain⟨z,its,n,r,e⟩:=h.ok I.hok
  exact⟨its,r,⟨_,n,e,rfl,rfl,rfl⟩,z⟩
 .refine⟨its.toList,r,⟨o,n,I.dH a o b,hc,hd,by simpa using c⟩,?_⟩
  have e:=r.length;simp only[length_toList] at e;omega
theorem Inv.tuple(I:Inv X pins σ H s)(h:bq X.K H a xs):∃its:List Value,Vals xs its/\IsTup s.heap a its.toArray/\xs.length<=sizeLine:=by
 rcases h with h|⟨o,its,n,b,hc,c,hz,r⟩
 .obtain⟨z,its,r,p⟩:=h.ok I.hok
  exact⟨its,r,p.is,z⟩
 .refine⟨its.toList,r,⟨o,I.dH a o b,hc,n,by simpa using c⟩,?_⟩
  have e:=r.length;simp only[length_toList] at e;omega
theorem Inv.CI(I:Inv X pins σ H s)(h:H a=some (.tup xs)):∃(its:List Value) (n:Nat),Vals xs its/\s.heap.get? a=some {cls:=.type "tuple",data:=.seq its.toArray n}/\xs.length<=sizeLine:=by
 obtain⟨z,its,r,n,e⟩:=(show bw X.prog X.w H s.heap a (.tup xs) from I.hok a _ h);exact⟨its,n,r,e,z⟩
theorem Inv.tO(I:Inv X pins σ H s)(h:aO X.K H a xs)(h':aO X.K H a ys):xs=ys:=by
 obtain⟨its,r,⟨o,n,e,_,_,d⟩,_⟩:=I.list h;obtain⟨its',r',⟨o',n',b,_,_,d'⟩,_⟩:=I.list h';rw[e] at b;cases b;rw[d] at d';injection d' with c _;have:its=its':=by simpa using congrArg toList c
 subst this;exact r.inj r'
theorem Inv.Od(I:Inv X pins σ H s)(h:bq X.K H a xs)(h':bq X.K H a ys):xs=ys:=by
 obtain⟨its,r,⟨o,e,_,n,d⟩,_⟩:=I.tuple h;obtain⟨its',r',⟨o',b,_,n',d'⟩,_⟩:=I.tuple h';rw[e] at b;cases b;rw[d] at d';injection d' with c _;have:its=its':=by simpa using congrArg toList c
 subst this;exact r.inj r'
end
section
variable{X:Cx}{pins:aK}{σ:St}{H:Hp}{s:Shared}{E:aE}
end
section
variable{X:Cx}{st:Stmt}{rest:List Stmt}{t u:TS}{e:Expr}{te:TE}{pos:Pos}
def NL:TS:=λD σ H=>D.nx σ H
def NW(t u:TS):TS:=λD σ H=>t {D with nx:=u D} σ H
theorem LH:cG X [] NL:=λ_ _ σ H _ I h=>wpAny_execs_nil ⟨σ,H,I,h⟩
theorem LG(h1:PS X st t)(h2:cG X rest u):cG X (st::rest) (NW t u):=by
 intro pins s σ H D I h;refine wpAny_execs_cons (aF (h1 pins s σ H {D with nx:=u D} I h) λf a q=>?_);cases f with
 |next=>
  obtain⟨σ',H',b,q⟩:=q;exact h2 pins a σ' H' D b q
 |ret v=>exact q
 |brk=>exact q
 |cont=>exact q
theorem LI(h1:PS X st t):cG X [st] t:=by
 intro pins s σ H D I h;refine wpAny_execs_cons (aF (h1 pins s σ H D I h) λf a q=>?_);cases f with
 |next=>exact wpAny_execs_nil q
 |ret v=>exact q
 |brk=>exact q
 |cont=>exact q
theorem Inv.quiet{pins:aK}{σ:St}{H:Hp}{s:Shared}(I:Inv X pins σ H s):interactive X.env=false:=by simp[interactive,I.ok.kind]
def NH(te:TE):TS:=λD σ H=>te σ H λ_ H1=>D.nx σ H1
theorem Lx(a:PE X e te)(b:swapsWith e none pos.line X.env=pure false:=by rfl):PS X (.Expr e pos) (NH te):=by
 intro pins s σ H D I h;exact wpAny_Expr_any (aF (a pins s σ H _ I h) λv f ⟨x,H1,c,g,d⟩=>⟨σ,H1,c,d⟩) I.quiet b
def NV(te:TE):TS:=λD σ H=>te σ H D.rt
theorem LC(a:PE X e te):PS X (.Return (some e) pos) (NV te):=by
 intro pins s σ H D I h;exact wpAny_Return_some (aF (a pins s σ H _ I h) λv f ⟨x,H1,b,c,d⟩=>⟨x,σ,H1,b,c,d⟩)
def NJ(c:TT)(t u:TS):TS:=λD σ H=>c σ H λb H1=>if b=true then t D σ H1 else u D σ H1
theorem Lz{c:Expr}{a b:List Stmt}{tc:TT}(hc:PT X c tc)(ha:cG X a t)(hb:cG X b u):PS X (.If c a b pos) (NJ tc t u):=by
 intro pins s σ H D I h;refine wpAny_If (aF (hc pins s σ H _ I h) λd e ⟨H1,f,g⟩=>?_);cases d with
 |true=>exact ha pins e σ H1 D f g
 |false=>exact hb pins e σ H1 D f g
end
abbrev TG:=V->St->Hp->(St->Hp->Prop)->Prop
abbrev ia:=List V->St->Hp->(St->Hp->Prop)->Prop
def PG(X:Cx)(target:Expr)(t:TG):Prop:=
 ∀(pins:aK) (s:Shared) (σ:St) (H:Hp) (v:V) (u:Value) (Q:St->Hp->Prop),Inv X pins σ H s->RelV v u->t v σ H Q->
  wpAny (model X.prog X.w) X.A (assign target X.env u) (λ_ s'=>∃σ' H',Inv X pins σ' H' s'/\Q σ' H') X.xe s
def gZ(X:Cx)(ts:List Expr)(t:ia):Prop:=
 ∀(pins:aK) (s:Shared) (σ:St) (H:Hp) (vs:List V) (us:List Value) (Q:St->Hp->Prop),Inv X pins σ H s->Vals vs us->t vs σ H Q->
  wpAny (model X.prog X.w) X.A (assignInOrder ((assignEach ts X.env).map (·.2)) us) (λ_ s'=>∃σ' H',Inv X pins σ' H' s'/\Q σ' H') X.xe s
abbrev nQ:=V->V->Hp->VK->Prop
def vA(X:Cx)(op:Operator)(t:nQ):Prop:=
 ∀(pins:aK) (s:Shared) (σ:St) (H:Hp) (x y:V) (v u:Value) (Q:VK),Inv X pins σ H s->RelV x v->RelV y u->t x y H Q->
  wpAny (model X.prog X.w) X.A (inplaceOp op v u) (EP X pins σ Q) X.xe s
section
variable{X:Cx}{pos:Pos}
def kj(i:Nat):TG:=λv σ H Q=>Q (σ.set i (some v)) H
theorem Ai{i:Nat}{x:Str}(a:X.N.Nodup)(hi:X.N[i]?=some x)(b:Loc X.env.scope x)(c:X.fn x=true\/X.env.scope.names.lookup x=some .local:=by first|exact .inl rfl|exact .inr rfl|assumption):PG X (.Name x pos) (kj i):=by
 intro pins s σ H v u Q I r h;exact wpAny_assign_Name (ni I a hi b r (λs' d=>⟨_,H,d,h⟩) c)
def yH:ia:=λvs σ H Q=>vs=[]/\Q σ H
def yG(t:TG)(u:ia):ia:=λvs σ H Q=>∃v r,vs=v::r/\t v σ H λσ' H'=>u r σ' H' Q
theorem mW:gZ X [] yH:=by
 intro pins s σ H vs a Q I r h;obtain⟨e,h⟩:=h;subst e;cases r;exact assignInOrder_nil ⟨σ,H,I,h⟩
theorem gh{e:Expr}{es:List Expr}{t:TG}{u:ia}(h1:PG X e t)(h2:gZ X es u)
  (b:(assignEach (e::es) X.env).map (·.2)=assign e X.env::(assignEach es X.env).map (·.2):=by rfl):gZ X (e::es) (yG t u):=by
 intro pins s σ H vs j Q I r h;obtain⟨v,vr,c,h⟩:=h;subst c;cases r with
 |cons r d=>
  rw[b];refine assignInOrder_cons (aF (h1 pins s σ H _ _ _ I r h) λ_ f ⟨a,H1,g,i⟩=>?_);exact h2 pins f a H1 _ _ Q g d i
def yI(K:PySem.W.Frag)(n:Nat)(t:ia):TG:=λv σ H Q=>∃a xs,v=.ref a/\bq K H a xs/\xs.length=n/\t xs σ H Q
theorem mV{es:List Expr}{k:Nat}{t:ia}{n:Nat}(hc:X.calm=true)(h:gZ X es t)
  (g:(assignEach es X.env).length=n:=by rfl)(c:(assignEach es X.env).findIdx? (·.1)=none:=by rfl):PG X (.Tuple es k pos) (yI X.K n t):=by
 intro pins s σ H v u Q I r d;obtain⟨a,xs,i,j,l,d⟩:=d;subst i;cases r;obtain⟨its,f,m,hz⟩:=I.tuple j;refine assign_Tuple_tuple (I.ok.hd hc) m (by simp[g,<-l,f.length]) c λh' p=>?_;have q:Inv X pins σ H {s with heap:=h'}:=I.kept (t':=s.toks) λb o e=>p b o (ne_of_lt (lt_size e)) e;exact h pins _ σ H xs _ Q q (by simpa using f) d
def qz(te:TE)(g:TG):TS:=λD σ H=>te σ H λx H1=>g x σ H1 D.nx
theorem Ls{tg e:Expr}{te:TE}{g:TG}(a:PE X e te)(b:PG X tg g)(c:swapsWithSole [tg] e pos.line X.env=pure false:=by rfl)(d:swappedStores [tg] e X.env=pure none:=by rfl)
  (h1:(assignEach [tg] X.env).map (·.2)=[assign tg X.env]:=by rfl):PS X (.Assign [tg] e pos) (qz te g):=by
 intro pins s σ H D I h;refine wpAny_Assign_stores (aF (a pins s σ H _ I h) λv f ⟨x,H1,i,j,k⟩=>?_) c d;rw[h1];exact aF (b pins f σ H1 x v _ i j k) λ_ l q=>q
theorem LD{i:Nat}{x:Str}{e:Expr}{te:TE}{pos':Pos}(a:X.N.Nodup)(hi:X.N[i]?=some x)(b:Loc X.env.scope x)(c:PE X e te)(d:swapsWith e (some (.Name x pos')) pos.line X.env=pure false:=by rfl)(f:X.fn x=true\/X.env.scope.names.lookup x=some .local:=by first|exact .inl rfl|exact .inr rfl|assumption):
  PS X (.Assign [.Name x pos'] e pos) (qz te (kj i)):=by
 intro pins s σ H D I h;refine wpAny_Assign_Name (aF (c pins s σ H _ I h) λv m ⟨y,H1,g,j,k⟩=>?_) d;exact ni g a hi b j (λn l=>⟨_,H1,l,k⟩) f
def NS(i j:Nat)(ta:TA):TS:=λD σ H=>ta σ H λvs H1=>∃v w,vs=[v,w]/\D.nx ((σ.set i (some v)).set j (some w)) H1
theorem LA{i j:Nat}{x y:Str}{a b:Expr}{ta:TA}{px py pt:Pos}{kt k2 c}(hc:X.calm=true)(r:X.N.Nodup)(hi:X.N[i]? =some x)(B:X.N[j]? =some y)(k:i≠j)
  (t:X.env.scope.names.lookup x=some .local)(u:X.env.scope.names.lookup y=some .local)(ha:PA X [a,b] ta)
  (C:swappedStores [.Tuple [.Name x px,.Name y py] kt pt] (.Tuple [a,b] k2 c) X.env=pure (some [x,y]))
  (E:swapsWithSole [.Tuple [.Name x px,.Name y py] kt pt] (.Tuple [a,b] k2 c) pos.line X.env=pure false:=by rfl):
  PS X (.Assign [.Tuple [.Name x px,.Name y py] kt pt] (.Tuple [a,b] k2 c) pos) (NS i j ta):=by
 intro pins s σ H D I h
 rw[exec_Assign_arm]
 refine wpAny_bind (wpAny_standAt ?_)
 rw[E]
 refine wpAny_bind (wpAny_pure ?_)
 rw[if_neg (by decide)]
 refine wpAny_bind (Tuple_ (aF (ha _ pins s σ H _ I h) λF d ⟨vs,H1,G,J,l⟩=> ?_))
 obtain⟨v,w,K,l⟩:=l
 subst K
 obtain⟨f,g,rfl,L,m⟩:∃f g,F=[f,g]/\RelV v f/\RelV w g:=by
  cases J with
  |cons p q=>
   cases q with
   |cons M O=>
    cases O
    exact⟨_,_,rfl,p,M⟩
 refine wpAny_newObj_type ?_ (by show 2<=sizeLine;decide)
 have P:Inv X pins σ H1 {d with heap:=d.heap.push {cls:= .type "tuple",data:= .seq [f,g].toArray}}:=G.kept (t':=d.toks) λb o e=>get?_push_of_some _ e
 rw[C]
 refine wpAny_bind (wpAny_pure ?_)
 show wpAny (model X.prog X.w) X.A (do rule "assign.swapped-stores";let items <-unpackItems (.ref d.heap.objs.size) 2 none;assignInOrder [λv=>bindName X.env y v,λv=>bindName X.env x v] items.reverse;pure Flow.next) _ _ _
 refine wpAny_bind (wpAny_rule (wpAny_bind (unpackItems_tuple (items:= #[f,g]) (I.ok.hd hc) (IsTup.new d.heap _) λh' n=> ?_)))
 have Q:=P.kept (h':=h') (t':=d.toks) λb o e=>n b o (ne_of_lt (lt_size e)) e
 show wpAny _ _ (assignInOrder [λv=>bindName X.env y v,λv=>bindName X.env x v] [g,f]>>=λ_=>pure Flow.next) _ _ _
 refine wpAny_bind (assignInOrder_cons (wpAny_bindName (ni Q r B (.inl u) m (λS R=> ?_) (.inr u))))
 refine assignInOrder_cons (wpAny_bindName (ni R r hi (.inl t) L (λT z=>assignInOrder_nil (wpAny_pure ?_)) (.inr t)))
 rw[List.set_comm _ _ (Ne.symm k)] at z
 exact⟨_,H1,z,l⟩
def Nz(i:Nat)(te:TE)(ti:nQ):TS:=λD σ H=>∃x,σ[i]?=some (some x)/\te σ H λy H1=>ti x y H1 λz H2=>D.nx (σ.set i (some z)) H2
theorem Lu{i:Nat}{x:Str}{e:Expr}{te:TE}{op:Operator}{ti:nQ}{pos':Pos}(j:X.N.Nodup)(hi:X.N[i]?=some x)(f:Loc X.env.scope x)(n:PE X e te)(o:vA X op ti)(p:X.fn x=true\/X.env.scope.names.lookup x=some .local:=by first|exact .inl rfl|exact .inr rfl|assumption):
  PS X (.AugAssign (.Name x pos') op e pos) (Nz i te ti):=by
 intro pins s σ H D I h;obtain⟨v,q,h⟩:=h;obtain⟨m,t,B⟩:=I.loc;have g:jX X.env.scope x:=by rcases f with k|k;exact .inl k;exact .inr (.inl k)
 obtain⟨u,r,l⟩:=B i x v hi q g;refine wpAny_AugAssign_Name ?_;have go:wpAny (model X.prog X.w) X.A (eval e X.env) (λw b=>wpAny (model X.prog X.w) X.A (inplaceOp op u w) (λr d=>wpAny (model X.prog X.w) X.A (storeName X.env x r) (λ_=>SP X pins D .next) X.xe d) X.xe b) X.xe s:=by
  refine aF (n pins s σ H _ I h) λw C ⟨y,H1,E,F,G⟩=>?_;refine aF (o pins C σ H1 v y u w _ E r F G) λz P ⟨Q,H2,J,K,L⟩=>?_;exact ni J j hi f K (λR M=>⟨_,H2,M,L⟩) p
 rcases l with⟨hk,O⟩|⟨hk,c,hc,a⟩
 .exact wpAny_loadName_local I.ok.kind hk t O go
 .rcases hk with hk|hk
  .exact wpAny_loadName_cell I.ok.kind hk hc a go
  .rcases f with k|k
   .have:X.env.scope.names.lookup x=some .free:=hk
    rw[k] at this;cases this
   .have:X.env.scope.names.lookup x=some .free:=hk
    rw[k] at this;cases this
def HY(f:Int->Int->Int):nQ:=λx y H Q=>∃i j,x=.int i/\y=.int j/\Q (.int (f i j)) H
theorem HZ:vA X .Add (HY λi j=>i+j):=by
 intro pins s σ H x y v u Q I a b h;obtain⟨i,j,c,d,q⟩:=h;subst c;subst d;obtain⟨t,rfl⟩:=a;obtain⟨t',rfl⟩:=b;exact iadd_int ⟨.int _,H,I.tok _,⟨_,rfl⟩,q⟩
end
section
variable{X:Cx}{pos:Pos}
def N3(c:TT)(tb:TS):TS:=λD σ H=>∃W:Nat->St->Hp->Prop,(∃m,W m σ H)/\∀m σ H,W m σ H->
 c σ H λb H1=>if b=true then ∃N:St->Hp->Prop,(∀σ' H',N σ' H'->∃m',m'<m/\W m' σ' H')/\tb {D with nx:=N,ct:=N,bk:=D.nx} σ H1 else D.nx σ H1
theorem LF{c:Expr}{body:List Stmt}{tc:TT}{tb:TS}(o:PassesOwn (model X.prog X.w) X.A X.env X.xe)(hc:PT X c tc)(hb:cG X body tb):PS X (.While c body [] pos) (N3 tc tb):=by
 intro pins s σ H D I h;obtain⟨W,⟨m0,r⟩,turn⟩:=h;refine wpAny_While (codeAny_whileLoop (λn s'=>∃σ' H',Inv X pins σ' H' s'/\W n σ' H') ?_ m0 ⟨σ,H,I,r⟩);rintro n t ⟨d,H1,u,x⟩;refine wpAny_passesOwn o (aF (hc pins t d H1 _ u (turn n d H1 x)) λb y ⟨H2,p,g⟩=>?_);cases b with
 |true=>
  obtain⟨N,q,g⟩:=g;rw[if_pos rfl];refine wpAny_passesOwn o (aF (hb pins y d H2 _ p g) λf z i=>?_);cases f with
  |next=>
   obtain⟨a,e,j,n3⟩:=i;obtain⟨k,l,m⟩:=q a e n3;exact⟨k,l,a,e,j,m⟩
  |cont=>
   obtain⟨a,e,j,n3⟩:=i;obtain⟨k,l,m⟩:=q a e n3;exact⟨k,l,a,e,j,m⟩
  |brk=>exact i
  |ret v=>exact i
 |false=>
  rw[if_neg Bool.false_ne_true];exact wpAny_execs_nil ⟨d,H2,p,g⟩
end
structure It where
 go:Nat->Hp->Prop
 qK:Nat->Hp->V->Hp->Prop
 stop:Nat->Hp->Prop
def eS(X:Cx)(pins:aK)(H:Hp)(b:Addr):Prop:=
 H b=none/\b≠X.env.locals/\b∉X.fs/\(b∈X.ex\/X.s₀.heap.objs.size<=b)/\(∀x c,X.env.cells.lookup x=some c->c≠b)/\∀p∈X.pn++pins,p.1≠b
theorem Inv.i8{X:Cx}{pins:aK}{σ:St}{H H':Hp}{s:Shared}{b:Addr}(I:Inv X pins σ H s)(hb:s.heap.objs.size<=b)(a:H' b=none):eS X pins H' b:=by
 refine⟨a,ne_of_gt (lt_of_lt_of_le I.lt hb),I.JS hb,.inr (le_trans I.sz hb),λx c e z=>?_,λp d z=>?_⟩
 .obtain⟨v,q⟩:=I.cell x c e
  exact absurd (lt_of_lt_of_le q.lt (by rw[z];exact hb)) (lt_irrefl _)
 .exact absurd (lt_of_lt_of_le (lt_size (I.pin p d).1) (by rw[z];exact hb)) (lt_irrefl _)
structure Turn(P:Program)(w:World)(K:PySem.W.Frag)(tg:Expr)(J:It)(fp:List Addr)(it:Addr)(tn:Nat->Heap->Prop):Prop where
 mem:it∈fp
 obj:∀i h,tn i h->∀b∈fp,∃o,h.get? b=some o/\∀v,o.data≠ .cell v
 keep:∀i h h',tn i h->(∀b∈fp,∀o,h.get? b=some o->h'.get? b=some o)->tn i h'
 item:∀(X:Cx),X.prog=P->X.w=w->X.K=K->X.calm=true->∀(i:Nat) (pins:aK) (s:Shared) (σ:St) (H:Hp) (E:aE),Inv X pins σ H s->(∀b∈fp,eS X pins H b)->tn i s.heap->J.go i H->
  wpAny (model P w) X.A (pyNext (.ref it)) (λr s1=>∃u,r=some u/\
   wpAny (model P w) X.A (letOwnedTupleGo tg (.ref it) u) (λ_ s2=>∃x H',Inv X pins σ H' s2/\RelV x u/\J.qK i H x H'/\tn (i+1) s2.heap/\∀b∈fp,H' b=none) E s1) E s
 done:∀(X:Cx),X.prog=P->X.w=w->X.K=K->X.calm=true->∀(i:Nat) (pins:aK) (s:Shared) (σ:St) (H:Hp) (E:aE),Inv X pins σ H s->(∀b∈fp,eS X pins H b)->tn i s.heap->J.stop i H->
  wpAny (model P w) X.A (pyNext (.ref it)) (λr s1=>r=none/\Inv X pins σ H s1) E s
 self:∀(A:Around) (i:Nat) (s:Shared) (Q:aE) (E:aE),tn i s.heap->Q (.ref it) s->wpAny (model P w) A (pyIter (.ref it)) Q E s
abbrev TI:=St->Hp->(It->Hp->Prop)->Prop
def qZ(X:Cx)(pins:aK)(σ:St)(tg:Expr)(R:It->Hp->Prop)(itv:Value)(s2:Shared):Prop:=
 ∃(it:Addr) (fp:List Addr) (tn:Nat->Heap->Prop) (J:It) (H':Hp),itv=.ref it/\Inv X pins σ H' s2/\Turn X.prog X.w X.K tg J fp it tn/\tn 0 s2.heap/\(∀b∈fp,eS X pins H' b)/\R J H'
def PI(X:Cx)(tg iter:Expr)(wi:TI):Prop:=
 ∀(pins:aK) (s:Shared) (σ:St) (H:Hp) (R:It->Hp->Prop),Inv X pins σ H s->wi σ H R->
  wpAny (model X.prog X.w) X.A (eval iter X.env) (λv s1=>wpAny (model X.prog X.w) X.A (pyIter v) (qZ X pins σ tg R) X.xe s1) X.xe s
theorem l8{M:Model}{A:Around}{E:aE}{s:Shared}{tg:Expr}{it:Addr}{u:Value}{o:Obj}{n:String}{vs:Array Value}{Q:Unit->Shared->Prop}(b:s.heap.get? it=some o)(hc:o.cls=.type n)(hd:o.data=.fields vs)
  (c:["enumerate","zip","dict_itemiterator","dict_reverseitemiterator","odict_iterator","itertools.zip_longest","itertools.pairwise"].contains n=false)(a:Q () s):wpAny M A (letOwnedTupleGo tg (.ref it) u) Q E s:=by
 unfold letOwnedTupleGo;cases tg<;>first
  |exact wpAny_pure a
  |(cases u<;>first
    |exact wpAny_pure a
    |(refine wpAny_bind (wpAny_load b ?_)
      rw[hc,hd];show wpAny M A (if (["enumerate","zip","dict_itemiterator","dict_reverseitemiterator","odict_iterator","itertools.zip_longest","itertools.pairwise"].contains n&&vs[0]? ==some (rawInt _))=true then _ else _) Q E s;rw[if_neg (by intro h;rw[c,Bool.false_and] at h;cases h)];exact wpAny_pure a))
def nH(K:PySem.W.Frag)(a:Addr):It:=
 ⟨λi H=>∃xs x,aO K H a xs/\xs[i]?=some x,λi H x H'=>H'=H/\∀xs,aO K H a xs->xs[i]?=some x,λi H=>∃xs,aO K H a xs/\xs.length<=i⟩
def qV(K:PySem.W.Frag)(a:Addr):It:=
 ⟨λi H=>∃xs x,bq K H a xs/\xs[i]?=some x,λi H x H'=>H'=H/\∀xs,bq K H a xs->xs[i]?=some x,λi H=>∃xs,bq K H a xs/\xs.length<=i⟩
def nI(lo:Int)(n:Nat):It:=⟨λi _=>i<n,λi H x H'=>H'=H/\x=.int (lo+i),λi _=>n<=i⟩
theorem Oi{P:Program}{w:World}{K:PySem.W.Frag}{tg:Expr}(a it:Addr):Turn P w K tg (nH K a) [it] it (λi h=>h.IsListIter it a i) where
 mem:=by simp
 obj:=λi h st b hb=>by
  have e:b=it:=by simpa using hb
  subst e
  obtain⟨o,e,c,d⟩:=st
  exact⟨o,e,λv z=>by rw[d] at z;cases z⟩
 keep:=λi h h' st k=>st.at λo e=>k it (by simp) o e
 item:=by
  intro X l m n hc i pins s σ H E I g st q
  subst l m n
  obtain⟨xs,x,j,r⟩:=q
  obtain⟨its,t,p,hz⟩:=I.list j
  obtain⟨u,B,C⟩:=t.get r
  obtain⟨f0,f1,f2,y,f4,A⟩:=g it (by simp)
  refine wpAny_pyNext_list_item st p.isList (x:=u) (by simpa using B) λh' f D=> ?_
  have F:Inv X pins σ H {s with heap:=h'}:=I.turned (t':=s.toks) (λb o hb e=>(D.2 b hb).trans e) f0 f1 y f4 A
  obtain⟨o,e,c,d⟩:=id f
  exact⟨u,rfl,l8 (s:={s with heap:=h'}) e c d (by decide) ⟨x,H,F,C,⟨rfl,λys G=>by rw[I.tO G j];exact r⟩,f,λb hb=>(g b hb).1⟩⟩
 done:=by
  intro X l m n hc i pins s σ H E I g st q
  subst l m n
  obtain⟨xs,j,r⟩:=q
  obtain⟨its,t,p,hz⟩:=I.list j
  obtain⟨f0,f1,f2,y,f4,A⟩:=g it (by simp)
  have L:=t.length
  exact wpAny_pyNext_list_end (I.ok.hd hc) st p.isList (by simp;omega) λh' J=>⟨rfl,I.turned (t':=s.toks) (λb o hb e=>J b o hb e) f0 f1 y f4 A⟩
 self:=λ_ _ _ _ _ st h=>wpAny_pyIter_listiter st h
theorem Oo{P:Program}{w:World}{K:PySem.W.Frag}{tg:Expr}(a it:Addr):Turn P w K tg (qV K a) [it] it (λi h=>h.IsTupleIter it a i) where
 mem:=by simp
 obj:=λi h st b hb=>by
  have e:b=it:=by simpa using hb
  subst e
  obtain⟨o,e,c,d⟩:=st
  exact⟨o,e,λv z=>by rw[d] at z;cases z⟩
 keep:=λi h h' st k=>st.at λo e=>k it (by simp) o e
 item:=by
  intro X l m n hc i pins s σ H E I g st q
  subst l m n
  obtain⟨xs,x,j,r⟩:=q
  obtain⟨its,t,p,hz⟩:=I.tuple j
  obtain⟨u,B,C⟩:=t.get r
  obtain⟨f0,f1,f2,y,f4,A⟩:=g it (by simp)
  refine wpAny_pyNext_tuple_item st (show s.heap.IsTuple a its.toArray from p) (x:=u) (by simpa using B) λh' f D=> ?_
  have F:Inv X pins σ H {s with heap:=h'}:=I.turned (t':=s.toks) (λb o hb e=>(D.2 b hb).trans e) f0 f1 y f4 A
  obtain⟨o,e,c,d⟩:=id f
  exact⟨u,rfl,l8 (s:={s with heap:=h'}) e c d (by decide) ⟨x,H,F,C,⟨rfl,λys G=>by rw[I.Od G j];exact r⟩,f,λb hb=>(g b hb).1⟩⟩
 done:=by
  intro X l m n hc i pins s σ H E I g st q
  subst l m n
  obtain⟨xs,j,r⟩:=q
  obtain⟨its,t,p,hz⟩:=I.tuple j
  obtain⟨f0,f1,f2,y,f4,A⟩:=g it (by simp)
  have L:=t.length
  exact wpAny_pyNext_tuple_end (I.ok.hd hc) st (show s.heap.IsTuple a its.toArray from p) (by simp;omega) λh' J=>⟨rfl,I.turned (t':=s.toks) (λb o hb e=>J b o hb e) f0 f1 y f4 A⟩
 self:=λ_ _ _ _ _ st h=>wpAny_pyIter_tupleiter st h
theorem Oj{P:Program}{w:World}{K:PySem.W.Frag}{tg:Expr}(it:Addr)(lo:Int)(n:Nat):Turn P w K tg (nI lo n) [it] it (λi h=>IsRangeIter h it (lo+(i:Nat)*1) ((n:Int) - (i:Nat)) 1) where
 mem:=by simp
 obj:=λi h st b hb=>by
  have e:b=it:=by simpa using hb
  subst e
  exact⟨_,st,λv z=>by
   have p:Data.fields _=Data.cell v:=z
   cases p⟩
 keep:=λi h h' st k=>k it (by simp) _ st
 item:=by
  intro X d f g hc i pins s σ H E I c st j
  subst d f g
  obtain⟨f0,f1,f2,l,f4,m⟩:=c it (by simp)
  have W:=Walks.range (prog:=X.prog) (w:=X.w) (I.ok.hd hc) it lo 1 n
  refine W.item i s _ _ j st λv h' tk q a r=> ?_
  obtain⟨t,rfl⟩:=q
  have u:Inv X pins σ H {s with heap:=h',toks:=tk}:=I.turned (λb o hb e=>r b o (by simpa using hb) e) f0 f1 l f4 m
  refine⟨_,rfl,l8 (s:={s with heap:=h',toks:=tk}) (n:="range_iterator") a rfl rfl (by decide) ⟨.int (lo+i),H,u,⟨t,?_⟩,⟨rfl,rfl⟩,a,λb hb=>(c b hb).1⟩⟩
  rw[Int.mul_one]
 done:=by
  intro X d f g hc i pins s σ H E I c st j
  subst d f g
  obtain⟨f0,f1,f2,l,f4,m⟩:=c it (by simp)
  exact wpAny_pyNext_range_end (I.ok.hd hc) st (by have:n<=i:=j;omega) λh' x=>⟨rfl,I.turned (t':=s.toks) (λb o hb e=>x b o hb e) f0 f1 l f4 m⟩
 self:=λ_ _ _ _ _ st h=>wpAny_pyIter_rangeiter st h
section
variable{X:Cx}{tg:Expr}
theorem LW{pins:aK}{σ:St}{H:Hp}{s:Shared}{R:It->Hp->Prop}{E:aE}{lo hi:Int}{t u v:Tok}{tk:Nat}(I:Inv X pins σ H s)(h1: -(2 ^ 62)<=lo)(h2:lo<2 ^ 62)(c: -(2 ^ 62)<=hi)(d:hi<2 ^ 62)
  (q:R (nI lo (hi - lo).toNat) H):wpAny (model X.prog X.w) X.A (pyIter (.ref s.heap.objs.size)) (qZ X pins σ tg R) E {s with heap:=s.heap.push {cls:=.type "range",data:=.fields #[.int lo t,.int hi u,.int 1 v]},toks:=tk}:=by
 refine wpAny_pyIter_range (IsRange.new ..) (small_one h1 h2 c d) ?_;have a:Inv X pins σ H {s with heap:=s.heap.push {cls:=.type "range",data:=.fields #[.int lo t,.int hi u,.int 1 v]},toks:=tk}:=I.kept λb o e=>get?_push_of_some _ e;refine⟨(s.heap.push {cls:=.type "range",data:=.fields #[.int lo t,.int hi u,.int 1 v]}).objs.size,[(s.heap.push {cls:=.type "range",data:=.fields #[.int lo t,.int hi u,.int 1 v]}).objs.size],_,_,H,rfl,
  a.kept (t':=tk) λb o e=>get?_push_of_some _ e,Oj _ lo (hi - lo).toNat,?_,λb hb=>?_,q⟩
 .have f:lo+((0:Nat):Int)*1=lo:=by simp
  have g:(((hi - lo).toNat:Nat):Int) - ((0:Nat):Int)=Builtin.Range.rangeSize lo hi 1:=by rw[rangeSize_one];split<;>omega
  show IsRangeIter _ _ (lo+((0:Nat):Int)*1) ((((hi - lo).toNat:Nat):Int) - ((0:Nat):Int)) 1;rw[f,g];exact get?_push_size _ rfl
 .have e:b=(s.heap.push {cls:=.type "range",data:=.fields #[.int lo t,.int hi u,.int 1 v]}).objs.size:=by simpa using hb
  subst e;exact a.i8 (le_refl _) (a.hok.fresh (le_refl _))
def HL(ta:TA):TI:=λσ H R=>ta σ H λvs H1=>∃j:Int,vs=[.int j]/\-(2 ^ 62)<=j/\j<2 ^ 62/\R (nI 0 j.toNat) H1
theorem Lb{a:Expr}{ta:TA}{p pos:Pos}(c:Gl X "range")(d:X.mg "range"=none)(ha:PA X [a] ta)(f:starEach [a] X.env=[(false,eval a X.env)]:=by rfl):PI X tg (.Call (.Name "range" p) [a] [] pos) (HL ta):=by
 intro pins s σ H R I h;refine Call_ (jc I c d boot_range (PyProof.Rows.callWith_type1 (aF (ha pos pins s σ H _ I h) λm n ⟨vs,H1,g,i,b⟩=>?_) f rfl));obtain⟨j,e,b,k,q⟩:=b;subst e;cases i with
 |cons r l=>
  cases l;obtain⟨t,rfl⟩:=r;exact call_range_1 (LW g (by omega) (by omega) b k (by simpa using q))
def NI(wi:TI)(g:TG)(tb:TS):TS:=λD σ H=>wi σ H λJ H1=>∃W:Nat->Nat->St->Hp->Prop,(∃m,W 0 m σ H1)/\∀i m σ H,W i m σ H->
 (J.stop i H/\D.nx σ H)\/(J.go i H/\∃N:St->Hp->Prop,(∀σ' H',N σ' H'->∃m',m'<m/\W (i+1) m' σ' H')/\∀x H',J.qK i H x H'->g x σ H' λσ2 H2=>tb {D with nx:=N,ct:=N,bk:=D.nx} σ2 H2)
def mX(fp:List Addr)(h:Heap):aK:=fp.filterMap λb=>(h.get? b).map λo=>(b,o)
theorem o8{fp:List Addr}{h:Heap}{b:Addr}{o:Obj}(hb:b∈fp)(e:h.get? b=some o):(b,o)∈mX fp h:=mem_filterMap.mpr ⟨b,hb,by rw[e];rfl⟩
theorem J5{fp:List Addr}{h:Heap}{p:Addr×Obj}(a:p∈mX fp h):p.1∈fp/\h.get? p.1=some p.2:=by
 obtain⟨b,hb,e⟩:=mem_filterMap.mp a;cases q:h.get? b with
 |none=>rw[q] at e;cases e
 |some o=>
  rw[q] at e;have c:(b,o)=p:=Option.some.inj e;subst c;exact⟨hb,q⟩
theorem Inv.pinned{pins:aK}{σ:St}{H:Hp}{s:Shared}{fp:List Addr}(I:Inv X pins σ H s)(c:∀b∈fp,eS X pins H b)(f:∀b∈fp,∃o,s.heap.get? b=some o/\∀v,o.data≠ .cell v):Inv X (pins++mX fp s.heap) σ H s:=
 I.Aj λp g=>(mem_append.mp g).elim (λz=>I.pin p (mem_append_right _ z)) λz=>by
  obtain⟨hb,e⟩:=J5 z;obtain⟨f0,f1,f2,_⟩:=c p.1 hb;obtain⟨o,a,d⟩:=f p.1 hb;rw[e] at a;cases a;exact⟨e,f0,f1,f2,d⟩
theorem Inv.nB{pins pl:aK}{σ:St}{H:Hp}{s:Shared}(I:Inv X (pins++pl) σ H s):Inv X pins σ H s:=I.Aj λp a=>I.pin p (mem_append_right _ (List.mem_append_left _ a))
theorem Ly{iter:Expr}{body:List Stmt}{wi:TI}{g:TG}{tb:TS}{pos:Pos}(t:PassesOwn (model X.prog X.w) X.A X.env X.xe)(hc:X.calm=true)(hi:PI X tg iter wi)(R:PG X tg g)(hb:cG X body tb)
  (S:∀x,foldedSetIterable iter X.env x=pure x:=by intro _;rfl):PS X (.For tg iter body [] pos) (NI wi g tb):=by
 intro pins s σ H D I h;refine wpAny_For (aF (hi pins s σ H _ I h) λv s1 h1=>aF h1 λU s2 h2=>?_) S;obtain⟨it,fp,M,J,H2,e,V,T,C,f2,W,⟨m0,Y⟩,turn⟩:=h2;subst e;have c:∀{H':Hp},(∀b∈fp,H' b=none)->∀b∈fp,eS X pins H' b:=λZ b hb=>⟨Z b hb,(f2 b hb).2⟩;refine codeAny_forLoop_any (λn s'=>∃i σ' H',Inv X pins σ' H' s'/\M i s'.heap/\(∀b∈fp,H' b=none)/\W i n σ' H') ?_ m0 ⟨0,σ,H2,V,C,λb hb=>(f2 b hb).1,Y⟩;rintro n O ⟨i,j,B,P,y,z,w3⟩;rcases turn i n j B w3 with⟨stop,qn⟩|⟨go,N,hN,step⟩
 .refine wpAny_passesOwn t (aF (T.done X rfl rfl rfl hc i pins O j B X.xe P (c z) y stop) λr s4 ⟨E,I4⟩=>?_)
  subst E;exact wpAny_execs_nil ⟨j,B,I4,qn⟩
 .refine wpAny_passesOwn t (aF (T.item X rfl rfl rfl hc i pins O j B X.xe P (c z) y go) λr s4 ⟨u,E,h4⟩=>?_)
  subst E;refine wpAny_passesOwn t (aF h4 λ_ s5 ⟨x,Q,I5,r5,y5,q,F⟩=>?_);have G:=I5.pinned (c F) (T.obj _ _ q);refine wpAny_passesOwn t (aF (R _ s5 j Q x u _ G r5 (step x Q y5)) λ_ s6 ⟨K,H6,I6,q6⟩=>?_);refine wpAny_passesOwn t (aF (hb _ s6 K H6 _ I6 q6) λf L p=>?_);have again:∀{a:St} {k:Hp},Inv X (pins++mX fp s5.heap) a k L->N a k->∃m,m<n/\∃i σ' H',Inv X pins σ' H' L/\M i L.heap/\(∀b∈fp,H' b=none)/\W i m σ' H':=λ {a k} l n7=>by
   obtain⟨m',hm,w7⟩:=hN a k n7;refine⟨m',hm,i+1,a,k,l.nB,T.keep _ _ _ q λb hb o e=>(l.pin (b,o) (mem_append_right _ (mem_append_right _ (o8 hb e)))).1,λb hb=>?_,w7⟩;obtain⟨o,e,d⟩:=T.obj _ _ q b hb;exact(l.pin (b,o) (mem_append_right _ (mem_append_right _ (o8 hb e)))).2.1
  cases f with
  |next=>obtain⟨a,k,l,n7⟩:=p;exact again l n7
  |cont=>obtain⟨a,k,l,n7⟩:=p;exact again l n7
  |brk=>obtain⟨a,k,l,p⟩:=p;exact⟨a,k,l.nB,p⟩
  |ret v=>obtain⟨x7,a,k,l,r7,p⟩:=p;exact⟨x7,a,k,l.nB,r7,p⟩
end
abbrev R2:=V->V->Hp->VK->Prop
def aX(X:Cx)(f:Value->Value->Sem Value)(r:R2):Prop:=
 ∀(pins:aK) (s:Shared) (σ:St) (H:Hp) (x y:V) (v u:Value) (Q:VK),Inv X pins σ H s->RelV x v->RelV y u->r x y H Q->
  wpAny (model X.prog X.w) X.A (f v u) (EP X pins σ Q) X.xe s
def rG(X:Cx)(f:Value->Sem Value)(r:V->Hp->VK->Prop):Prop:=
 ∀(pins:aK) (s:Shared) (σ:St) (H:Hp) (x:V) (v:Value) (Q:VK),Inv X pins σ H s->RelV x v->r x H Q->
  wpAny (model X.prog X.w) X.A (f v) (EP X pins σ Q) X.xe s
def c_(X:Cx)(f:Value)(r:List V->Hp->VK->Prop):Prop:=
 ∀(pins:aK) (s:Shared) (σ:St) (H:Hp) (xs:List V) (us:List Value) (Q:VK),Inv X pins σ H s->Vals xs us->r xs H Q->
  wpAny (model X.prog X.w) X.A (call f us) (EP X pins σ Q) X.xe s
def nj(r:R2)(ta tb:TE):TE:=λσ H Q=>ta σ H λx H1=>tb σ H1 λy H2=>r x y H2 Q
def N1(r:V->Hp->VK->Prop)(ta:TE):TE:=λσ H Q=>ta σ H λx H1=>r x H1 Q
def rI(C:Int->Int->Prop)(g:Int->Int->V):R2:=λx y H Q=>∃i j,x=.int i/\y=.int j/\C i j/\Q (g i j) H
def gi(g:Int->Int->V):R2:=λx y H Q=>∃i j,x=.int i/\y=.int j/\Q (g i j) H
def rU(g:Int->V):V->Hp->VK->Prop:=λx H Q=>∃i,x=.int i/\Q (g i) H
section
variable{X:Cx}{a b c:Expr}{ta tb tc:TE}{pos:Pos}
theorem rQ(ha:PE X a ta)(hb:PE X b tb){pins:aK}{s:Shared}{σ:St}{H:Hp}{R:V->V->Hp->Prop}(I:Inv X pins σ H s)
  (h:ta σ H λx H1=>tb σ H1 λy H2=>R x y H2){Q:aE}{f:Value->Value->Sem Value}
  (g:∀v u e x y H2,Inv X pins σ H2 e->RelV x v->RelV y u->R x y H2->wpAny (model X.prog X.w) X.A (f v u) Q X.xe e):
  wpAny (model X.prog X.w) X.A (eval a X.env) (λv c=>wpAny (model X.prog X.w) X.A (eval b X.env) (λu d=>wpAny (model X.prog X.w) X.A (f v u) Q X.xe d) X.xe c) X.xe s:=by
 refine aF (ha pins s σ H _ I h) λv i ⟨x,H1,j,k,l⟩=> ?_
 refine aF (hb pins i σ H1 _ j l) λu e ⟨y,H2,m,n,o⟩=> ?_
 exact g v u e x y H2 m k n o
theorem K2{op:Operator}{r:R2}(c:aX X (binaryOp op) r)(ha:PE X a ta)(hb:PE X b tb):PE X (.BinOp a op b pos) (nj r ta tb):=by
 intro pins s σ H Q I h;exact wpAny_BinOp (rQ ha hb I h λv u d x y H2 e f g q=>c pins d σ H2 x y v u Q e f g q)
theorem K7{op:UnaryOp}{r:V->Hp->VK->Prop}(b:rG X (unaryOp op) r)(ha:PE X a ta):PE X (.UnaryOp op a pos) (N1 r ta):=by
 intro pins s σ H Q I h;exact UnaryOp_ (aF (ha pins s σ H _ I h) λv c ⟨x,H1,d,e,f⟩=>b pins c σ H1 x v Q d e f)
theorem pM{f:Value->Value->Sem Value}{C:Int->Int->Prop}{g:Int->Int->Int}
  (rule:∀(i j:Int) (t u:Tok) (s:Shared) (Q:aE) (E:aE),C i j->Q (.int (g i j) s.toks) {s with toks:=s.toks+1}->wpAny (model X.prog X.w) X.A (f (.int i t) (.int j u)) Q E s):
  aX X f (rI C λi j=>.int (g i j)):=by
 intro pins s σ H x y v u Q I a b h;obtain⟨i,j,rfl,rfl,hc,q⟩:=h;obtain⟨t,rfl⟩:=a;obtain⟨t',rfl⟩:=b;exact rule i j t t' s _ _ hc ⟨.int (g i j),H,I.tok _,⟨_,rfl⟩,q⟩
theorem z9{f:Value->Value->Sem Value}{g:Int->Int->Int}
  (rule:∀(i j:Int) (t u:Tok) (s:Shared) (Q:aE) (E:aE),Q (.int (g i j) s.toks) {s with toks:=s.toks+1}->wpAny (model X.prog X.w) X.A (f (.int i t) (.int j u)) Q E s):
  aX X f (gi λi j=>.int (g i j)):=by
 intro pins s σ H x y v u Q I a b h;obtain⟨i,j,rfl,rfl,q⟩:=h;obtain⟨t,rfl⟩:=a;obtain⟨t',rfl⟩:=b;exact rule i j t t' s _ _ ⟨.int (g i j),H,I.tok _,⟨_,rfl⟩,q⟩
theorem uo{f:Value->Value->Sem Value}{g:Int->Int->Bool}
  (rule:∀(i j:Int) (t u:Tok) (s:Shared) (Q:aE) (E:aE),Q (.bool (g i j)) s->wpAny (model X.prog X.w) X.A (f (.int i t) (.int j u)) Q E s):
  aX X f (gi λi j=>.bl (g i j)):=by
 intro pins s σ H x y v u Q I a b h;obtain⟨i,j,rfl,rfl,q⟩:=h;obtain⟨t,rfl⟩:=a;obtain⟨t',rfl⟩:=b;exact rule i j t t' s _ _ ⟨.bl (g i j),H,I,rfl,q⟩
def nD(i j:Int):Prop:=(-(2 ^ 64)<i/\i<2 ^ 64)\/(-(2 ^ 64)<j/\j<2 ^ 64)
theorem nD.ok{i j:Int}(h:nD i j):IntMulOk i j:=by
 rcases h with⟨h1,h2⟩|⟨h1,h2⟩
 .exact .of_left (intBits_le_64 h1 h2)
 .exact .of_right (intBits_le_64 h1 h2)
theorem J9:aX X (binaryOp .Add) (gi λi j=>.int (i+j)):=z9 λ_ _ _ _ _ _ _ q=>add_int q
theorem Kz:aX X (binaryOp .Sub) (gi λi j=>.int (i - j)):=z9 λ_ _ _ _ _ _ _ q=>sub_int q
theorem Kr:aX X (binaryOp .Mult) (rI nD λi j=>.int (i*j)):=pM λ_ _ _ _ _ _ _ hc q=>mul_int q hc.ok
theorem Kq:aX X (binaryOp .Mod) (rI (λ_ j=>0<j) λi j=>.int (i%j)):=pM λi j _ _ _ _ _ hc q=>by
 have h1:(0:Int)<j:=hc;exact mod_int' (by omega) (by rw[Int.fmod_eq_emod_of_nonneg i (by omega)];exact q)
theorem OC{f:Value->Sem Value}{g:Int->Int}
  (rule:∀(i:Int) (t:Tok) (s:Shared) (Q:aE) (E:aE),Q (.int (g i) s.toks) {s with toks:=s.toks+1}->wpAny (model X.prog X.w) X.A (f (.int i t)) Q E s):
  rG X f (rU λi=>.int (g i)):=by
 intro pins s σ H x v Q I a h;obtain⟨i,rfl,q⟩:=h;obtain⟨t,rfl⟩:=a;exact rule i t s _ _ ⟨.int (g i),H,I.tok _,⟨_,rfl⟩,q⟩
theorem OE:rG X (unaryOp .USub) (rU λi=>.int (-i)):=OC λ_ _ _ _ _ q=>neg_int q
end
def B_:V->V->Bool
 |.ao,.ao=>true|.ao,.int _=>true|.int _,.ao=>true|.ao,.bl _=>true|.bl _,.ao=>true|.ao,.str _=>true|.str _,.ao=>true
 |.int _,.int _=>true|.bl _,.bl _=>true|.str _,.str _=>true|.gE _,.gE _=>true
 |.int _,.str _=>true|.str _,.int _=>true|.bl _,.str _=>true|.str _,.bl _=>true
 |_,_=>false
def uA:R2:=λx y H Q=>B_ x y=true/\Q (.bl (decide (x=y))) H
def uC:R2:=λx y H Q=>B_ x y=true/\Q (.bl (!decide (x=y))) H
theorem xJ{i j:Int}:decide (V.int i=V.int j)=(i==j):=by
 rw[Bool.eq_iff_iff];simp
theorem xG{i j:Bool}:decide (V.bl i=V.bl j)=(i==j):=by
 rw[Bool.eq_iff_iff];simp
theorem xK{i j:Str}:decide (V.str i=V.str j)=(i==j):=by
 rw[Bool.eq_iff_iff];simp
theorem xH{i j:Array UInt8}:decide (V.gE i=V.gE j)=(i.toList==j.toList):=by
 rw[Bool.eq_iff_iff];cases i;cases j;simp
section
variable{X:Cx}{a b c:Expr}{ta tb tc:TE}{pos:Pos}
theorem bS{pins:aK}{σ:St}{H:Hp}{s:Shared}{Q:VK}{k a:Bool}(I:Inv X pins σ H s)(q:Q (.bl k) H)(e:k=a):EP X pins σ Q (.bool a) s:=by
 subst e;exact⟨.bl k,H,I,rfl,q⟩
theorem Ke:aX X (compareOp .Eq) uA:=by
 intro pins s σ H x y v u Q I c a h;obtain⟨b,q⟩:=h;cases x with
 |ao=>
  cases c;cases y with
  |ao=>cases a;exact PySem.EqNone.eq_none_none (bS I q (by simp))
  |bl j=>cases a;exact PySem.EqNone.eq_none_bool (bS I q (by simp))
  |int j=>obtain⟨t',rfl⟩:=a;exact PySem.EqNone.eq_none_int (bS I q (by simp))
  |str j=>obtain⟨t',rfl⟩:=a;exact PySem.EqNone.eq_none_str (bS I q (by simp))
  |_=>exact absurd (show false=true from b) Bool.false_ne_true
 |bl i=>
  cases c;cases y with
  |ao=>cases a;exact PySem.EqNone.eq_bool_none (bS I q (by simp))
  |bl j=>cases a;exact eq_bool (bS I q xG)
  |str j=>obtain⟨t',rfl⟩:=a;exact PySem.EqMixed.eq_bool_str (bS I q (by simp))
  |_=>exact absurd (show false=true from b) Bool.false_ne_true
 |int i=>
  obtain⟨t,rfl⟩:=c;cases y with
  |ao=>cases a;exact PySem.EqNone.eq_int_none (bS I q (by simp))
  |int j=>obtain⟨t',rfl⟩:=a;exact eq_int (bS I q xJ)
  |str j=>obtain⟨t',rfl⟩:=a;exact PySem.EqMixed.eq_int_str (bS I q (by simp))
  |_=>exact absurd (show false=true from b) Bool.false_ne_true
 |str i=>
  obtain⟨t,rfl⟩:=c;cases y with
  |ao=>cases a;exact PySem.EqNone.eq_str_none (bS I q (by simp))
  |bl j=>cases a;exact PySem.EqMixed.eq_str_bool (bS I q (by simp))
  |int j=>obtain⟨t',rfl⟩:=a;exact PySem.EqMixed.eq_str_int (bS I q (by simp))
  |str j=>obtain⟨t',rfl⟩:=a;exact eq_str (bS I q xK)
  |_=>exact absurd (show false=true from b) Bool.false_ne_true
 |gE i=>
  obtain⟨t,rfl⟩:=c;cases y with
  |gE j=>obtain⟨t',rfl⟩:=a;exact PySem.W.eq_bytes (bS I q xH)
  |_=>exact absurd (show false=true from b) Bool.false_ne_true
 |_=>cases y<;>exact absurd (show false=true from b) Bool.false_ne_true
theorem Ku:aX X (compareOp .NotEq) uC:=by
 intro pins s σ H x y v u Q I c a h;obtain⟨b,q⟩:=h;cases x with
 |ao=>
  cases c;cases y with
  |ao=>cases a;exact PySem.EqNone.ne_none_none (bS I q (by simp))
  |bl j=>cases a;exact PySem.EqNone.ne_none_bool (bS I q (by simp))
  |int j=>obtain⟨t',rfl⟩:=a;exact PySem.EqNone.ne_none_int (bS I q (by simp))
  |str j=>obtain⟨t',rfl⟩:=a;exact PySem.EqNone.ne_none_str (bS I q (by simp))
  |_=>exact absurd (show false=true from b) Bool.false_ne_true
 |bl i=>
  cases c;cases y with
  |ao=>cases a;exact PySem.EqNone.ne_bool_none (bS I q (by simp))
  |bl j=>cases a;exact ne_bool (bS I q (congrArg not xG))
  |str j=>obtain⟨t',rfl⟩:=a;exact PySem.EqMixed.ne_bool_str (bS I q (by simp))
  |_=>exact absurd (show false=true from b) Bool.false_ne_true
 |int i=>
  obtain⟨t,rfl⟩:=c;cases y with
  |ao=>cases a;exact PySem.EqNone.ne_int_none (bS I q (by simp))
  |int j=>obtain⟨t',rfl⟩:=a;exact ne_int (bS I q (congrArg not xJ))
  |str j=>obtain⟨t',rfl⟩:=a;exact PySem.EqMixed.ne_int_str (bS I q (by simp))
  |_=>exact absurd (show false=true from b) Bool.false_ne_true
 |str i=>
  obtain⟨t,rfl⟩:=c;cases y with
  |ao=>cases a;exact PySem.EqNone.ne_str_none (bS I q (by simp))
  |bl j=>cases a;exact PySem.EqMixed.ne_str_bool (bS I q (by simp))
  |int j=>obtain⟨t',rfl⟩:=a;exact PySem.EqMixed.ne_str_int (bS I q (by simp))
  |str j=>obtain⟨t',rfl⟩:=a;exact ne_str (bS I q (congrArg not xK))
  |_=>exact absurd (show false=true from b) Bool.false_ne_true
 |gE i=>
  obtain⟨t,rfl⟩:=c;cases y with
  |gE j=>obtain⟨t',rfl⟩:=a;exact PySem.W.ne_bytes (bS I q (congrArg not xH))
  |_=>exact absurd (show false=true from b) Bool.false_ne_true
 |_=>cases y<;>exact absurd (show false=true from b) Bool.false_ne_true
theorem Ko:aX X (compareOp .Lt) (gi λi j=>.bl (decide (i<j))):=uo λ_ _ _ _ _ _ _ q=>lt_int q
theorem Km:aX X (compareOp .LtE) (gi λi j=>.bl (decide (i<=j))):=uo λ_ _ _ _ _ _ _ q=>le_int q
theorem Kh:aX X (compareOp .Gt) (gi λi j=>.bl (decide (j<i))):=uo λ_ _ _ _ _ _ _ q=>gt_int q
theorem Kp:aX X (compareOp .Lt) (λx y H Q=>∃i j,x=.str i/\y=.str j/\Q (.bl (decide (i.cps.toList<j.cps.toList))) H):=by
 intro pins s σ H x y v u Q I a b h;obtain⟨i,j,rfl,rfl,q⟩:=h;obtain⟨t,rfl⟩:=a;obtain⟨t',rfl⟩:=b;exact lt_str (bS I q rfl)
theorem Kl:aX X (compareOp .Is) (λx y H Q=>y=.ao/\Q (.bl (decide (x=.ao))) H):=by
 intro pins s σ H x y v u Q I a b h;obtain⟨rfl,q⟩:=h;cases b;refine is_none_gen (bS I q ?_);cases x<;>first
  |(cases a;rfl)
  |(obtain⟨t,rfl⟩:=a;rfl)
theorem z_:aX X (compareOp .IsNot) (λx y H Q=>y=.ao/\Q (.bl (!decide (x=.ao))) H):=by
 intro pins s σ H x y v u Q I a b h;obtain⟨rfl,q⟩:=h;cases b;refine isnot_none_gen (bS I q ?_);cases x<;>first
  |(cases a;rfl)
  |(obtain⟨t,rfl⟩:=a;rfl)
theorem aX.or{f:Value->Value->Sem Value}{r r':R2}(h:aX X f r)(h':aX X f r'):aX X f (λx y H Q=>r x y H Q\/r' x y H Q):=by
 intro pins s σ H x y v u Q I a b q;rcases q with q|q
 .exact h pins s σ H x y v u Q I a b q
 .exact h' pins s σ H x y v u Q I a b q
theorem iQ(b:Expr){op:CmpOp}(h:op≠ .In:=by decide)(h2:op≠ .NotIn:=by decide):behindInMarks op b=false:=by
 have a:(op==CmpOp.In)=false:=by cases op<;>first|rfl|exact absurd rfl h
 have c:(op==CmpOp.NotIn)=false:=by cases op<;>first|rfl|exact absurd rfl h2
 cases b<;>simp[behindInMarks,a,c]
theorem KN{op:CmpOp}{r:R2}(c:aX X (compareOp op) r)(ha:PE X a ta)(hb:PE X b tb)(d:behindInMarks op b=false):PE X (.Compare a [op] [b] pos) (nj r ta tb):=by
 intro pins s σ H Q I h;exact wpAny_Compare1 (rQ ha hb I h λv u e x y H2 f g i q=>c pins e σ H2 x y v u Q f g i q) d
def uW(t:TE):TT:=λσ H Q=>t σ H λx H'=>∃k,x=.bl k/\Q k H'
theorem LK{op:CmpOp}{r:R2}(d:aX X (compareOp op) r)(ha:PE X a ta)(hb:PE X b tb)(f:behindInMarks op b=false):PT X (.Compare a [op] [b] pos) (uW (nj r ta tb)):=by
 intro pins s σ H Q I h;refine wpAny_isTrue_Compare1 (aF (ha pins s σ H _ I h) λv g ⟨x,H1,i,j,l⟩=>aF (hb pins g σ H1 _ i l) λu m ⟨y,H2,n,o,p⟩=>
  aF (d pins m σ H2 x y v u _ n j o p) λc B ⟨z,q,t,w,k,e,A⟩=>?_) f
 subst e;cases w;exact wpAny_truthy_bool ⟨q,t,A⟩
def uT(r r':R2)(ta tb tc:TE):TE:=λσ H Q=>ta σ H λx H1=>tb σ H1 λy H2=>r x y H2 λz H3=>∃k,z=.bl k/\
 (if k=true then tc σ H3 λw' H4=>r' y w' H4 Q else Q (.bl false) H3)
theorem KL{op f:CmpOp}{r r':R2}(n:aX X (compareOp op) r)(g:aX X (compareOp f) r')(ha:PE X a ta)(hb:PE X b tb)(hc:PE X c tc)
  (o:lastMarks [op,f] [b,c]=false:=by with_unfolding_all rfl):PE X (.Compare a [op,f] [b,c] pos) (uT r r' ta tb tc):=by
 intro pins s σ H Q I h;refine Compare_chain (aF (ha pins s σ H _ I h) λv p ⟨x,H1,q,t,w⟩=>chain_link (aF (hb pins p σ H1 _ q w) λu A ⟨y,H2,B,i,C⟩=>
  aF (n pins A σ H2 x y v u _ B t i C) λd D ⟨z,j,l,E,k,e,m⟩=>?_)) o
 subst e;cases E;refine wpAny_truthy_bool ?_;cases k with
 |false=>exact ite_ff ⟨.bl false,j,l,rfl,m⟩
 |true=>exact ite_tt (chain_last (aF (hc pins D σ j _ l m) λF s4 ⟨G,J,K,L,M⟩=>g pins s4 σ J y G u F Q K i L M))
theorem LJ{op f:CmpOp}{r r':R2}(n:aX X (compareOp op) r)(g:aX X (compareOp f) r')(ha:PE X a ta)(hb:PE X b tb)(hc:PE X c tc)
  (o:lastMarks [op,f] [b,c]=false:=by with_unfolding_all rfl):PT X (.Compare a [op,f] [b,c] pos) (uW (uT r r' ta tb tc)):=by
 intro pins s σ H Q I h;refine isTrue_chain (aF (ha pins s σ H _ I h) λv p ⟨x,H1,q,t,w⟩=>test_link (aF (hb pins p σ H1 _ q w) λu A ⟨y,H2,B,i,C⟩=>
  aF (n pins A σ H2 x y v u _ B t i C) λd D ⟨z,j,l,E,k,e,m⟩=>?_)) o
 subst e;cases E;refine wpAny_truthy_bool ?_;cases k with
 |false=>
  obtain⟨V,F,G⟩:=m;cases F;exact ite_ff ⟨j,l,G⟩
 |true=>
  refine ite_tt (test_last (aF (hc pins D σ j _ l m) λJ s4 ⟨K,L,M,N,O⟩=>aF (g pins s4 σ L y K u J _ M i N O) λd' s5 ⟨W,P,R,S,k2,T,U⟩=>?_));subst T;cases S;exact wpAny_truthy_bool ⟨P,R,U⟩
theorem O_{κ:Type}{kvs:List (κ×V)}{vs:List (κ×Value)}(r:KV kvs vs):(!vs.isEmpty)= !kvs.isEmpty:=by
 cases r<;>rfl
theorem Pa{xs:List V}{its:List Value}(r:Vals xs its):(!its.toArray.isEmpty)= !xs.isEmpty:=by
 cases r<;>simp
theorem mz:(sizeLine:Nat)<2 ^ 63:=by rw[sizeLine_eq];decide
theorem J_:aX X (binaryOp .Add) (λx y H Q=>∃i j,x=.str i/\y=.str j/\i.length+j.length<=sizeLine/\Q (.str (i++j)) H):=by
 intro pins s σ H x y v u Q I a b h;obtain⟨i,j,rfl,rfl,hz,q⟩:=h;obtain⟨t,rfl⟩:=a;obtain⟨t',rfl⟩:=b;exact add_str (λt' tk=>⟨.str (i++j),H,I.tok _,⟨_,rfl⟩,q⟩) hz
theorem vals1{x:V}{a:List Value}(r:Vals [x] a):∃u,a=[u]/\RelV x u:=by
 cases r with
 |cons b c=>cases c;exact⟨_,rfl,b⟩
theorem vals2{x y:V}{a:List Value}(r:Vals [x,y] a):∃u b,a=[u,b]/\RelV x u/\RelV y b:=by
 cases r with
 |cons c d=>
  cases d with
  |cons e f=>cases f;exact⟨_,_,rfl,c,e⟩
end
structure qY(h:Heap)(x dx C:Addr)(mA:aj):Prop where
 obj:h.get? x=some (instObj C dx)
 ns:h.Ns1 dx mA
 ne:dx≠x
theorem Jd{h:Heap}{dx:Addr}{mA:aj}(n:h.Ns1 dx mA):∃c,h.get? dx=some c/\∀name,lookIn name c=some (mA name):=by
 obtain⟨o,es,ep,d,hd,f,_,g⟩:=n;refine⟨o,d,λname=>?_⟩;have e:=g name;unfold nsFind findBy at e;rw[<-Array.find?_toList] at e;unfold lookIn;rw[hd];dsimp only;split
 .rename_i y q
  rw[q] at e;exact congrArg some e
 .rename_i q
  rw[q] at e;have a:es.toList.any (·.refKey)=false:=by
   rw[List.any_eq_false];intro y i;obtain⟨z,t,b⟩:=f y (Array.mem_toList_iff.mp i);simp[DictEntry.refKey,b]
  have j:¬es.toList.any (·.refKey)=true:=by rw[a];exact Bool.false_ne_true
  rw[if_neg j];exact congrArg some e
theorem qY.look{h:Heap}{x dx C:Addr}{mA:aj}(I:qY h x dx C mA):∃a,PySem.W.InstAt h x (instObj C dx) C (some a)/\∀name,lookIn name a=some (mA name):=
 let ⟨a,b,c⟩:=Jd I.ns
 ⟨a,⟨I.obj,rfl,rfl,b⟩,c⟩
section
variable{prog:Program}{w:World}{A:Around}{E:aE}{s:Shared}{K:PySem.W.Frag}{x dx C f:Addr}{mA:aj}{name:Str}{v:Value}
end
theorem fV.some_of{v:V}{o:Option Value}(r:fV (some v) o):∃u,o=some u/\RelV v u:=by
 cases o with
 |none=>exact(show False from r).elim
 |some u=>exact⟨u,rfl,r⟩
section
variable{P:Program}{w:World}{H H':Hp}{h h':Heap}{a C dx:Addr}{fs fs':List (Str×V)}
theorem HV(hok:bW P w H h)(e:H a=some (.ins C dx fs)):∃mA,qY h a dx C mA/\(∀f,fV (fs.lookup f) (mA f))/\PySem.Within mA (fs.map (·.1))/\fs.length<=1000/\H dx=some (.own a):=by
 obtain⟨d,z,ne,b,mA,n,r,q⟩:=(show bw P w H h a (.ins C dx fs) from hok a _ e);exact⟨mA,⟨b,n,ne⟩,r,q,z,d⟩
end
structure qN(K:PySem.W.Frag)(C:Addr):Prop where
 pg:plainGet K C Str.empty=true
 hd:PySem.W.hasDictIn K C=true
 po:PySem.W.plainOver K C=true
 sa:findIn K (.ref C) "__setattr__"=some (some (.builtin "object.__setattr__"))
theorem qN.get{K:PySem.W.Frag}{C:Addr}(c:qN K C)(f:Str):plainGet K C f=true:=c.pg
section
variable{X:Cx}{pins:aK}{σ:St}{H:Hp}{s:Shared}{a C dx:Addr}{fs:List (Str×V)}{f:Str}{v:V}{A:Around}{E:aE}
end
section
variable{X:Cx}{o e value:Expr}{f:Str}{pos pos' tpos:Pos}{ta tv:TE}
end
section
variable{X:Cx}{pins:aK}{σ:St}{H:Hp}{s:Shared}{A:Around}{E:aE}{Q:aE}{c:Value}{b:Bool}
inductive fH(K:PySem.W.Frag)(H:Hp):V->Value->Prop where
 |ao:fH K H .ao (.type "NoneType")
 |bl (x:Bool):fH K H (.bl x) (.type "bool")
 |int (i:Int):fH K H (.int i) (.type "int")
 |str (x:Str):fH K H (.str x) (.type "str")
 |kg (x:UInt64):fH K H (.kg x) (.type "float")
 |lst {a:Addr} {xs:List V} (e:H a=some (.lst xs)):fH K H (.ref a) (.type "list")
 |bh {a:Addr} {o:Obj} {xs:List V} (e:H a=some (.bh o (.lst xs))):fH K H (.ref a) (.type "list")
 |tup {a:Addr} {xs:List V} (e:H a=some (.tup xs)):fH K H (.ref a) (.type "tuple")
 |dK {a:Addr} {kvs:List (Key×V)} (e:H a=some (.dK kvs)):fH K H (.ref a) (.type "dict")
 |dT {a:Addr} {kvs:List (List Key×V)} (e:H a=some (.dT kvs)):fH K H (.ref a) (.type "dict")
 |ins {a C dx:Addr} {fs:List (Str×V)} (e:H a=some (.ins C dx fs)) (cl:qN K C) (ha:findIn K (.ref C) "__class__"=some (some (.builtin "object.__class__")))
  (hn:PySem.W.specialIn K (.builtin "object.__class__") "__get__"=some (some (.builtin "getset_descriptor.__get__"))) (htk:PySem.W.takesIn K (.builtin "object.__class__")=some true)
  (hm:PySem.W.mroIn K C (.type "object")=some true):fH K H (.ref a) (.ref C)
theorem Ia{x:V}{u t:Value}(I:Inv X pins σ H s)(d:RelV x u)(ty:fH X.K H x t)(e:kitOne X.K t c=some b)(h:∀tk,Q (.bool b) {s with toks:=tk}):
  wpAny (model X.prog X.w) A (call (.builtin "isinstance") [u,c]) Q E s:=by
 cases ty with
 |ao=>cases (show u=Value.none from d);exact kia_one PySem.W.kitx_none I.dH True.intro e (λz=>nomatch z) h
 |bl y=>cases (show u=Value.bool y from d);exact kia_one PySem.W.kitx_bool I.dH True.intro e (λz=>nomatch z) h
 |int i=>obtain⟨t,q⟩:=(show ∃t,u=Value.int i t from d);cases q;exact kia_one PySem.W.kitx_int I.dH True.intro e (λz=>nomatch z) h
 |str y=>obtain⟨t,q⟩:=(show ∃t,u=Value.str y t from d);cases q;exact kia_one PySem.W.kitx_str I.dH True.intro e (λz=>nomatch z) h
 |kg y=>obtain⟨t,q⟩:=(show ∃t,u=Value.float y t from d);cases q;exact kia_one PySem.W.kitx_float I.dH True.intro e (λz=>nomatch z) h
 | @lst a xs f=>
  cases (show u=Value.ref a from d);obtain⟨_,_,n,_,h1⟩:=(show bw X.prog X.w H s.heap a (.lst xs) from I.hok a _ f);exact kia_one kitx_list I.dH ⟨_,h1,rfl⟩ e (λz=>nomatch z) h
 | @bh a j xs f=>
  cases (show u=Value.ref a from d);obtain⟨_,_,_,n,_,h1⟩:=(show bw X.prog X.w H s.heap a (.bh j (.lst xs)) from I.hok a _ f);exact kia_one kitx_list I.dH ⟨_,h1,rfl⟩ e (λz=>nomatch z) h
 | @tup a xs f=>
  cases (show u=Value.ref a from d);obtain⟨_,_,_,p⟩:=(show bw X.prog X.w H s.heap a (.tup xs) from I.hok a _ f);obtain⟨o,h1,h2,_⟩:=p.is;exact kia_one kitx_tuple I.dH ⟨o,h1,h2⟩ e (λz=>nomatch z) h
 | @dK a kvs f=>
  cases (show u=Value.ref a from d);obtain⟨_,_,vs,_,p⟩:=(show bw X.prog X.w H s.heap a (.dK kvs) from I.hok a _ f);obtain⟨o,es,ep,h1,h2,_⟩:=p;exact kia_one kitx_dict I.dH ⟨o,h1,h2.1⟩ e (λz=>nomatch z) h
 | @dT a kvs f=>
  cases (show u=Value.ref a from d);obtain⟨_,_,xs,_,o,es,ep,h1,h2,_⟩:=(show bw X.prog X.w H s.heap a (.dT kvs) from I.hok a _ f);exact kia_one kitx_dict I.dH ⟨o,h1,h2.1⟩ e (λz=>nomatch z) h
 | @ins a C dx fs f cl ha k g l=>
  cases (show u=Value.ref a from d);obtain⟨mA,O,_⟩:=HV I.hok f;obtain⟨m,J,_⟩:=O.look;exact kia_one (PySem.W.kitx_own (cl.get _) cl.hd ha k g l) I.dH J e (λz=>nomatch z) h
end
structure cH(k:Nat)(A:Around):Prop where
 hd:A.handled=none
 dp:A.depth+3*k+5<recursionLimit
 un:A.units+16*k+200<cLine
theorem cH.mono{j k:Nat}{A:Around}(r:cH k A)(h:j<=k):cH j A:=⟨r.hd,by have:=r.dp;omega,by have:=r.un;omega⟩
theorem cH.deeper{k:Nat}{A:Around}(r:cH (k+1) A)(env:Env):cH k (A.deeper env):=
 ⟨r.hd,by have:=r.dp;show A.depth+1+3*k+5<_;omega,by have:=r.un;show A.units+3+16*k+200<_;omega⟩
theorem cH.depth{k:Nat}{A:Around}(r:cH k A):A.depth<recursionLimit:=by have:=r.dp;omega
theorem cH.units{k:Nat}{A:Around}(r:cH k A):A.units+64<cLine:=by have:=r.un;omega
def NO:TA:=λ_ H Q=>Q [] H
def ND(ta:TE)(tr:TA):TA:=λσ H Q=>ta σ H λx H1=>tr σ H1 λxs H2=>Q (x::xs) H2
section
variable{X:Cx}{e:Expr}{es:List Expr}{te:TE}{t:TA}{pos:Pos}
theorem Aa:PA X [] NO:=λ_ _ _ _ H Q I h=>Calls.spliced_nil ⟨[],H,I,.nil,h⟩
theorem ur(ha:PE X e te)(a:PA X es t)(b:starEach (e::es) X.env=(false,eval e X.env)::starEach es X.env:=by rfl):PA X (e::es) (ND te t):=by
 intro pos pins s σ H Q I h;rw[b];show wpAny _ _ (spliced ((false,eval e X.env)::backTo pos (starEach es X.env))) _ _ s;refine Calls.spliced_cons (aF (ha pins s σ H _ I h) λu c ⟨x,H1,d,f,g⟩=>?_);exact aF (a pos pins c σ H1 _ d g) λl m ⟨xs,H2,i,j,k⟩=>⟨x::xs,H2,i,.cons f j,k⟩
def NY(t:TA):TE:=λσ H Q=>t σ H λxs H1=>xs.length<=sizeLine/\∀p,H1 p=none->Q (.ref p) (upd H1 p (.tup xs))
def NK(t:TA):TE:=λσ H Q=>t σ H λxs H1=>xs.length<=sizeLine/\∀p,H1 p=none->Q (.ref p) (upd H1 p (.lst xs))
theorem K5{d}(h:PA X es t):PE X (.Tuple es d pos) (NY t):=by
 intro pins s σ H Q I f;refine wpAny_Tuple_spliced (aF (h pos pins s σ H _ I f) λg a ⟨xs,H1,c,r,z,q⟩=>⟨by rw[<-r.length];exact z,?_⟩);have i:H1 a.heap.objs.size=none:=c.hok.fresh (le_refl _);refine⟨.ref a.heap.objs.size,upd H1 a.heap.objs.size (.tup xs),c.laid (t':=a.toks) (λb u e=>get?_push_of_some _ e) (le_refl _) ?_,rfl,q _ i⟩;exact⟨z,g,r,⟨_,get?_push_size _ rfl⟩⟩
theorem KZ(h:PA X es t):PE X (.List es pos) (NK t):=by
 intro pins s σ H Q I d;refine wpAny_List_spliced (aF (h pos pins s σ H _ I d) λf a ⟨xs,H1,c,r,z,q⟩=>⟨by rw[<-r.length];exact z,?_⟩);have g:H1 a.heap.objs.size=none:=c.hok.fresh (le_refl _);refine⟨.ref a.heap.objs.size,upd H1 a.heap.objs.size (.lst xs),c.laid (t':=a.toks) (λb u e=>get?_push_of_some _ e) (le_refl _) ?_,rfl,q _ g⟩;exact⟨z,f,0,r,get?_push_size _ rfl⟩
end
abbrev Sp:=List V->Hp->VK->XK->Prop
abbrev fT:=List Env->Hp->Shared->XK->aE
structure nF(P:Program)(w:World)(K:PySem.W.Frag)(mg:aj)(base:Heap)(A:Around)(outer:List Env)(s:Shared)(H:Hp):Prop where
 frames:A.frames=some outer
 mod:Mod K mg base
 bs:∀b o,base.get? b=some o->s.heap.get? b=some o/\H b=none
 jo:base.objs.size<=s.heap.objs.size
 iu:s.heap.FunFrames base outer
 kh:∀b∈frs outer,H b=none
 hok:bW P w H s.heap
 bare:AllBare s.gens
def CE(outer:List Env)(P:Program)(w:World)(H:Hp)(s:Shared)(Q:VK)(u:Value)(s':Shared):Prop:=
 ∃v H',s'.os=s.os/\AllBare s'.gens/\Un (frs outer) [] H H' s.heap s'.heap/\bW P w H' s'.heap/\RelV v u/\Q v H'
def CR(CX:fT)(outer:List Env)(P:Program)(w:World)(H:Hp)(s:Shared)(Q:VK)(E:XK)(r:Result)(s':Shared):Prop:=
 match r with
 |.ok (.ret u)=>CE outer P w H s Q u s'
 |.ok _=>False
 |.error e=>CX outer H s E e s'
structure eO(P:Program)(w:World)(K:PySem.W.Frag)(mg:aj)(base:Heap)(CX:fT)(k:Nat)(f:Addr)(fd:FuncData)(ps:List Str)(sp:Sp):Prop where
 len:∀vs H Q E,sp vs H Q E->vs.length=ps.length
 run:∀(A:Around) (outer:List Env) (s:Shared) (H:Hp) (args:Args) (us:List Value) (vs:List V) (Q:VK) (E:XK),cH k A->nF P w K mg base A outer s H->BindsTo s fd args (ps.zip us)->Vals vs us->sp vs H Q E->
  codeAny (model P w) A (.call (.ref f) args) (CR CX outer P w H s Q E) s
theorem eO.imp{P:Program}{w:World}{K:PySem.W.Frag}{mg:aj}{base:Heap}{CX:fT}{k:Nat}{f:Addr}{fd:FuncData}{ps:List Str}{sp a:Sp}(F:eO P w K mg base CX k f fd ps sp)
  (h:∀vs H Q E,a vs H Q E->sp vs H Q E):eO P w K mg base CX k f fd ps a:=
 ⟨λvs H Q E q=>F.len vs H Q E (h _ _ _ _ q),λA outer s H args b vs Q E c d hb e g=>F.run A outer s H args b vs Q E c d hb e (h _ _ _ _ g)⟩
section
variable{X:Cx}{pins:aK}{σ:St}{H:Hp}{s s':Shared}
theorem Inv.FG(I:Inv X pins σ H s):nF X.prog X.w X.K X.mg X.base X.A X.stack s H:=
 ⟨I.ok.frames,I.ok.mod,I.bs,le_trans I.ok.jo I.sz,I.stack,I.uO,I.hok,I.bare⟩
theorem Inv.after{Q:VK}{u:Value}(I:Inv X pins σ H s)(h:CE X.stack X.prog X.w H s Q u s'):EP X pins σ Q u s':=by
 obtain⟨v,H',os,bare,un,hok,r,q⟩:=h;obtain⟨c,g,d,t,a⟩:=s';obtain rfl:a=s.os:=os;exact⟨v,H',I.call (h':=c) (g':=g) (d':=d) (t':=t) (ch:=[]) un hok bare (λb z=>absurd z (by simp)),r,q⟩
end
def Cw(sp:Sp)(i7:List V)(E:XK)(t:TA):TE:=λσ H Q=>t σ H λvs H1=>sp (vs++i7) H1 Q E
def Binds(K:PySem.W.Frag)(fd:FuncData)(ps:List Str)(ds:List Value):Prop:=
 ∀(s:Shared) (us:List Value),K.In s.heap->(us++ds).length=ps.length->BindsTo s fd ⟨us,[]⟩ (ps.zip (us++ds))
theorem Binds.all{K:PySem.W.Frag}{fd:FuncData}{ps:List Str}(h:∀a:List Value,a.length=ps.length->bindArgs fd ⟨a,[]⟩=pure (ps.zip a)):Binds K fd ps []:=λs a _ b=>by
 rw[append_nil] at b ⊢;exact .of_eq (h a b)
def Passes(CX:fT)(X:Cx)(E:XK):Prop:=∀(pins:aK) (σ:St) (H:Hp) (s:Shared) (e:Value) (s':Shared),Inv X pins σ H s->CX X.stack H s E e s'->X.xe e s'
section
variable{X:Cx}{CX:fT}{k:Nat}{f C:Addr}{fd:FuncData}{ps:List Str}{sp:Sp}{i7:List V}{ds:List Value}{E:XK}{x m:Str}{p pos apos:Pos}{e o:Expr}{es:List Expr}{ta:TE}{t:TA}
theorem Mb{pins:aK}{σ:St}{H:Hp}{s:Shared}{Q:VK}{a:List Value}{vs:List V}(F:eO X.prog X.w X.K X.mg X.base CX k f fd ps sp)(d:cH k X.A)(hb:Binds X.K fd ps ds)(hd:Vals i7 ds)(g:Passes CX X E)
  (I:Inv X pins σ H s)(r:Vals vs a)(h:sp (vs++i7) H Q E):wpAny (model X.prog X.w) X.A (call (.ref f) a) (EP X pins σ Q) X.xe s:=by
 have c:Vals (vs++i7) (a++ds):=r.append hd;have i:(a++ds).length=ps.length:=by rw[<-c.length];exact F.len _ _ _ _ h
 refine wpAny_call (codeAny_mono (F.run X.A X.stack s H ⟨a,[]⟩ (a++ds) (vs++i7) Q E d I.FG (hb s a I.dH i) c h) λr s' b=>?_);cases r with
 |error e=>exact g pins σ H s e s' I b
 |ok fl=>
  cases fl with
  |ret u=>exact I.after b
  |next=>exact False.elim b
  |brk=>exact False.elim b
  |cont=>exact False.elim b
theorem KH(F:eO X.prog X.w X.K X.mg X.base CX k f fd ps sp)(d:cH k X.A)(g:Gl X x)(i:X.mg x=some (.ref f))(j:keepIn X.K (.ref f)=true)(hb:Binds X.K fd ps ds)(hd:Vals i7 ds)(l:Passes CX X E)
  (ha:PA X (e::es) t)(a:(x==("__debug__":Str))=false:=by decide)(m:starEach (e::es) X.env=(false,eval e X.env)::starEach es X.env:=by rfl)(b:(backTo pos (starEach es X.env)).any (·.1)=false:=by rfl):
  PE X (.Call (.Name x p) (e::es) [] pos) (Cw sp i7 E t):=by
 intro pins s σ H Q I h;refine wpAny_Call_Name_kw (tH I g i ?_ a);refine PySem.W.callWith_K (h₀:=X.base) I.ok.mod.oV j (aF (ha pos pins s σ H _ I h) λn o ⟨vs,H1,c,r,q⟩=>⟨c.dH,?_⟩) m b;exact Mb F d hb hd l c r q
end
section
variable{X:Cx}{CX:fT}{k:Nat}{f C:Addr}{fd:FuncData}{ps ks:List Str}{sp:Sp}{E:XK}{x m:Str}{p pos apos kpos:Pos}{e o:Expr}{es:List Expr}{kws:List Keyword}{te ta:TE}{t tk:TA}{nm:Option Str}
variable{g:List Value->List Value->List Value}{gV:List V->List V->List V}
end
structure a_(N P:List Str)(sc:Scope):Prop where
 kind:sc.kind= .function
 co:sc.isCoroutine=false
 gen:sc.isGenerator=false
 nd:N.Nodup
 pre:N.take P.length=P
 par:∀x∈P,sc.names.lookup x=some .local\/sc.names.lookup x=some .cell
 uh:∀y∈sc.names,y.2≠ .free
theorem wF{kindOf:Str->Option NameKind}{x:Str}:∀{binds:List (Str×Value)} {m:aj},(∀v,(x,v)∉binds)->bindL kindOf binds m x=m x
 |[],_,_=>rfl
 |(n,v)::r,m,h=>by
  unfold bindL;rw[wF λw a=>h w (mem_cons_of_mem _ a)];split
  .have:x≠n:=by rintro rfl;exact h v mem_cons_self
   simp[this]
  .rfl
theorem wC{kindOf:Str->Option NameKind}{x:Str}:∀{binds:List (Str×Value)} {m:aj},(∀v,(x,v)∉binds)->bindC kindOf binds m x=m x
 |[],_,_=>rfl
 |(n,v)::r,m,h=>by
  unfold bindC;rw[wC λw a=>h w (mem_cons_of_mem _ a)];split
  .rfl
  .have:x≠n:=by rintro rfl;exact h v mem_cons_self
   simp[this]
theorem wD{kindOf:Str->Option NameKind}{x:Str}{v:Value}:∀{P:List Str} {vs:List Value} {i:Nat} {m:aj},P.Nodup->P[i]?=some x->vs[i]?=some v->kindOf x=some .local->
  bindL kindOf (P.zip vs) m x=some v
 |[],_,_,_,_,h,_,_=>by simp at h
 |_::_,[],_,_,_,_,h,_=>by simp at h
 |p::P,w::vs,0,m,nd,h1,h2,a=>by
  simp at h1 h2;subst h1;subst h2;show bindL kindOf ((p,w)::P.zip vs) m p=_;unfold bindL;rw[wF λv b=>(nodup_cons.mp nd).1 (of_mem_zip b).1,if_pos a];simp
 |p::P,w::vs,i+1,m,nd,h1,h2,a=>by
  show bindL kindOf ((p,w)::P.zip vs) m x=_;unfold bindL;exact wD (i:=i) (nodup_cons.mp nd).2 (by simpa using h1) (by simpa using h2) a
theorem wB{kindOf:Str->Option NameKind}{x:Str}{v:Value}:∀{P:List Str} {vs:List Value} {i:Nat} {m:aj},P.Nodup->P[i]?=some x->vs[i]?=some v->kindOf x≠some .local->
  bindC kindOf (P.zip vs) m x=some v
 |[],_,_,_,_,h,_,_=>by simp at h
 |_::_,[],_,_,_,_,h,_=>by simp at h
 |p::P,w::vs,0,m,nd,h1,h2,a=>by
  simp at h1 h2;subst h1;subst h2;show bindC kindOf ((p,w)::P.zip vs) m p=_;unfold bindC;rw[wC λv b=>(nodup_cons.mp nd).1 (of_mem_zip b).1,if_neg a];simp
 |p::P,w::vs,i+1,m,nd,h1,h2,a=>by
  show bindC kindOf ((p,w)::P.zip vs) m x=_;unfold bindC;exact wB (i:=i) (nodup_cons.mp nd).2 (by simpa using h1) (by simpa using h2) a
def start(N:List Str)(vs:List V):St:=vs.map some++replicate (N.length - vs.length) none
def b7(CX:fT)(P:Program)(w:World)(K:PySem.W.Frag)(mg:aj)(base:Heap)(N:List Str)(qual:Str)(scope:Scope)(f:Addr)(cd:Value)(A:Around)(outer:List Env)(s:Shared)(H:Hp)(E:XK):Cx where
 prog:=P
 w:=w
 K:=K
 mg:=mg
 base:=base
 A:=A.deeper (envOfC qual scope s.heap.objs.size f cd)
 N:=N
 s₀:=s
 H₀:=H
 env:=envOfC qual scope s.heap.objs.size f cd
 outer:=outer
 stack:=envOfC qual scope s.heap.objs.size f cd::outer
 ex:=[]
 calm:=true
 fn:=λ_=>true
 pn:=[]
 xe:=λe s'=>wpAny (model P w) (A.deeper (envOfC qual scope s.heap.objs.size f cd)) (leaving (envOfC qual scope s.heap.objs.size f cd) e) (λ_ s''=>CX outer H s E e s'') (λe' s''=>CX outer H s E e' s'') s'
theorem wM{sc:Scope}{n:Nat}{x:Str}(h:sc.names.lookup x=some .cell):∃c,(cellsFrom n sc.names []).lookup x=some c:=by
 have q:=PySem.W.cellsFrom_some sc.names n [] (.inl h);exact isSome_iff_exists.mp q
theorem HX{CX:fT}{P:Program}{w:World}{K:PySem.W.Frag}{mg:aj}{base:Heap}{N ps:List Str}{qual:Str}{scope:Scope}{f:Addr}{cd:Value}{A:Around}{outer:List Env}{s o:Shared}{H:Hp}{E:XK}{m:List Value}{vs:List V}
  (S:a_ N ps scope)(hd:A.handled=none)(d:nF P w K mg base A outer s H)(F:vs.length=ps.length)(r:Vals vs m)
  (x:InCallC s s.heap.objs.size (bindL (envOfC qual scope s.heap.objs.size f cd).kindOf (ps.zip m) λ_=>none) (cellsFrom (s.heap.objs.size+1) scope.names []) (bindC (envOfC qual scope s.heap.objs.size f cd).kindOf (ps.zip m) λ_=>none) o):
  Inv (b7 CX P w K mg base N qual scope f cd A outer s H E) [] (start N vs) H o:=by
 have C:ps.length<=N.length:=by have:=congrArg List.length S.pre;rw[length_take] at this;omega
 obtain⟨h1,tk,rfl,t⟩:=x.done
 have g:∀b:Addr,b∉(b7 CX P w K mg base N qual scope f cd A outer s H E).ex:=λb z=>absurd (show b∈([]:List Addr) from z) (by simp)
 refine⟨⟨d.mod,S.kind,rfl,rfl,le_refl _,λy z c h1 h2=> ?_,λy hy=> ?_,λy c _ h=> ?_,λ_=>hd,Around.frames_deeper d.frames,.inr ⟨rfl,rfl⟩,λb z=>absurd z (g b),d.bs,d.jo,λb _ _=>g b,λb z=>absurd z (g b),d.iu,d.kh⟩,
  rfl,d.bare,Un.kept t,⟨_,x.toInCall.ns,λi y v h1 h2 G=> ?_⟩,λy c h=>⟨_,x.cell y c h⟩,d.hok.fresh (le_refl _),λy c h=> ?_,λp j=>absurd (show p∈([]:aK) from j) (by simp),d.hok.kept t,?_⟩
 .exact name_of_addr x.apart (PySem.mem_of_lookup h1) (PySem.mem_of_lookup h2)
 .have hy:scope.names.lookup y=some .cell\/scope.names.lookup y=some .free:=hy
  rcases hy with hy|hy
  .exact wM hy
  .exact absurd rfl (S.uh _ (PySem.mem_of_lookup hy))
 .exact le_of_lt (x.above y c (PySem.mem_of_lookup h))
 .have hi:i<vs.length:=by
   unfold start at h2
   by_cases hi:i<vs.length
   .exact hi
   .rw[getElem?_append_right (by simpa using hi)] at h2
    rw[List.getElem?_replicate] at h2
    split at h2<;>cases h2
  have ha:vs[i]? =some v:=by
   unfold start at h2
   rw[getElem?_append_left (by simpa using hi),getElem?_map] at h2
   cases e:vs[i]? with
   |none=>rw[e] at h2;cases h2
   |some a=>rw[e] at h2;cases h2;rfl
  obtain⟨u,B,D⟩:=r.get ha
  have j:ps[i]? =some y:=by
   rw[<-S.pre,List.getElem?_take_of_lt (by omega)];exact h1
  have l:ps.Nodup:=by rw[<-S.pre];exact S.nd.sublist (List.take_sublist _ _)
  refine⟨u,D,?_⟩
  rcases S.par y (mem_of_getElem? j) with k|k
  .exact .inl ⟨k,wD l j B k⟩
  .obtain⟨c,e⟩:=wM (n:=s.heap.objs.size+1) k
   refine .inr ⟨.inl k,c,e,?_⟩
   have q:=x.cell y c e
   rw[wB l j B (by show scope.names.lookup y≠_;rw[k];decide)] at q
   exact q
 .exact d.hok.fresh (le_of_lt (x.above y c (PySem.mem_of_lookup h)))
 .unfold start
  show _=N.length
  rw[length_append,length_map,List.length_replicate]
  omega
theorem yu{CX:fT}{P:Program}{w:World}{K:PySem.W.Frag}{mg:aj}{base:Heap}{k:Nat}{f:Addr}{name qual:Str}{params:Arguments}{body:List Stmt}{scope:Scope}{z kV doc pm a ct D:Value}{an F:Option Addr}
  {j:Array (Option Value)}{N ps:List Str}{sp:Sp}(lk:K.lookup f=some ⟨D,F,.func (fnOf name qual params body scope z kV doc pm an a ct),j⟩)(l:codeIn K a qual=true)(S:a_ N ps scope)
  (len:∀vs H Q E,sp vs H Q E->vs.length=ps.length)
  (c:∀(A:Around) (outer:List Env) (s:Shared) (H:Hp) (vs:List V) (Q:VK) (E:XK),cH k (A.deeper (envOfC qual scope s.heap.objs.size f a))->sp vs H Q E->
   ∃t,cG (b7 CX P w K mg base N qual scope f a A outer s H E) body t/\t {nx:=λ_ H'=>Q .ao H',rt:=Q} (start N vs) H):
  eO P w K mg base CX (k+1) f (fnOf name qual params body scope z kV doc pm an a ct) ps sp:=by
 refine⟨len,λA outer s H args G vs Q E m h hb r i=> ?_⟩
 have L:=len _ _ _ _ i
 have B:K.In s.heap:=h.mod.oV.keeps λb o e=>(h.bs b o e).1
 have lim:s.heap.NoLimit:=h.mod.nolimit.keeps λb o e=>(h.bs b o e).1
 have d:∀y∈ps.zip G,scope.names.lookup y.1=some .local\/(scope.names.lookup y.1=some .cell/\((cellsFrom (s.heap.objs.size+1) scope.names []).lookup y.1).isSome=true):=λ⟨n,v⟩ M=>by
  rcases S.par n (of_mem_zip M).1 with q|q
  .exact .inl q
  .exact .inr ⟨q,PySem.W.cellsFrom_some _ _ _ (.inl q)⟩
 refine codeAny_call_function m.depth (B _ _ lk) rfl S.co S.gen rfl (PySem.W.codeRec_of B l) (hb _ _ _ _ ?_)
 refine wpAny_newFunctionEnv_cells S.kind d λenv O C x=> ?_
 subst O
 refine⟨lim.keeps x.toInCall.keep,codeAny_func ?_⟩
 obtain⟨t,R,T⟩:=c A outer s H vs Q E (m.deeper _) i
 have I:Inv (b7 CX P w K mg base N qual scope f a A outer s H E) [] (start N vs) H C:=HX S m.hd h L r x
 refine wpAny_mono (R [] C (start N vs) H _ I T) (λfl s' g=> ?_) λe s' g=>g
 have fin:∀{σ':St} {H':Hp} {v:V} {u:Value},Inv (b7 CX P w K mg base N qual scope f a A outer s H E) [] σ' H' s'->RelV v u->Q v H'->CE outer P w H s Q u s':=
  λ {σ' H' v u} J p q=>⟨v,H',J.os,J.bare,J.base,J.hok,p,q⟩
 cases fl with
 |ret u=>
  obtain⟨v,σ',H',J,p,q⟩:=g
  exact fin J p q
 |next=>
  obtain⟨σ',H',J,q⟩:=g
  exact fin (v:=V.ao) (u:=Value.none) J rfl q
 |brk=>
  obtain⟨_,_,_,q⟩:=g
  exact False.elim q
 |cont=>
  obtain⟨_,_,_,q⟩:=g
  exact False.elim q
section
variable{X:Cx}{x:Str}{p pos:Pos}{e:Expr}{es:List Expr}{t:TA}{id T:String}{r:List V->Hp->VK->Prop}
def uS(r:List V->Hp->VK->Prop)(t:TA):TE:=λσ H Q=>t σ H λvs H1=>r vs H1 Q
theorem Ah(hc:c_ X (.builtin id) r)(c:Gl X x)(d:X.mg x=none)(f:bootBuiltins x=some (.builtin id))(ha:PA X (e::es) t)(g:x≠"__name__":=by decide)(a:(x==("__debug__":Str))=false:=by decide)
  (i:starEach (e::es) X.env=(false,eval e X.env)::starEach es X.env:=by rfl)(b:(backTo pos (starEach es X.env)).any (·.1)=false:=by rfl):PE X (.Call (.Name x p) (e::es) [] pos) (uS r t):=by
 intro pins s σ H Q I h;refine wpAny_Call_Name_kw (jc I c d f ?_ g a);exact PyProof.Rows.callWith_builtin1 (aF (ha pos pins s σ H _ I h) λj k ⟨vs,H1,l,m,n⟩=>hc pins k σ H1 vs j Q l m n) i b
theorem KI(hc:c_ X (.type T) r)(c:Gl X x)(d:X.mg x=none)(f:bootBuiltins x=some (.type T))(ha:PA X (e::es) t)(g:x≠"__name__":=by decide)(a:(x==("__debug__":Str))=false:=by decide)
  (i:starEach (e::es) X.env=(false,eval e X.env)::starEach es X.env:=by rfl)(b:(backTo pos (starEach es X.env)).any (·.1)=false:=by rfl):PE X (.Call (.Name x p) (e::es) [] pos) (uS r t):=by
 intro pins s σ H Q I h;refine wpAny_Call_Name_kw (jc I c d f ?_ g a);exact PyProof.Rows.callWith_type1 (aF (ha pos pins s σ H _ I h) λj k ⟨vs,H1,l,m,n⟩=>hc pins k σ H1 vs j Q l m n) i b
end
end L2
end
namespace HT
open PySem PyProof.Rows
section
open PySem.SeqAt
open PySem.AutoSeq1 (wpAny_loadPart')
open PySem.MeetsSeq PySem.MeetsSeq2 PySem.MeetsSeq3
end
section
variable{prog:Program}{w:World}{A:Around}{E:aE}{s:Shared}
theorem Ek{t b:Addr}{vs ws:List Value}{Q:aE}(l:IsTup s.heap t vs.toArray)(hb:IsTup s.heap b ws.toArray)(i:vs≠[])
  (h1:ws=[]->Q (.ref t) s)(h2:ws≠[]->Q (.ref s.heap.objs.size) {s with heap:=s.heap.push {cls:= .type "tuple",data:= .seq (vs++ws).toArray}})
  (hsz:vs.length+ws.length<=sizeLine):wpAny (model prog w) A (binaryOp .Add (.ref t) (.ref b)) Q E s:=by
 obtain⟨⟨cls,dd,data,j⟩,g,hc,n,hd⟩:=id l
 obtain⟨⟨k,c,data2,d⟩,a,f,n2,hd2⟩:=id hb
 simp only at hc hd f hd2
 subst hc hd f hd2
 have e:vs.toArray++ws.toArray=(vs++ws).toArray:=by simp
 by_cases h:ws=[]
 .exact concat_meets ⟨_,g,rfl⟩ ⟨_,a,rfl⟩ noFill_tuple_add seq_tuple_add slot_tuple_add entry_tuple_add (args_tuple_add_2 _ _)
   (tuple_addW1 t b vs.toArray ws.toArray n n2 dd c j d (by simpa using i) (by simp[h])) ⟨g,a,h1 h⟩
 .refine concat_meets ⟨_,g,rfl⟩ ⟨_,a,rfl⟩ noFill_tuple_add seq_tuple_add slot_tuple_add entry_tuple_add (args_tuple_add_2 _ _)
   (tuple_addW2 t b vs.toArray ws.toArray n n2 dd c j d (by simpa using i) (by simpa using h) (by rw[size_toArray,size_toArray];exact hsz)) ⟨g,a,?_⟩
  rw[e]
  exact h2 h
def aT(n d:Nat):Option Int->Nat
 |none=>d
 |some v=>if v<0 then (v+(n:Int)).toNat else min v.toNat n
theorem Mj(n d:Nat)(hd:d<=n)(o:Option Int):aT n d o<=n:=by
 cases o with
 |none=>exact hd
 |some v=>
  show(if v<0 then (v+(n:Int)).toNat else min v.toNat n)<=n;by_cases a:v<0
  .rw[if_pos a];omega
  .rw[if_neg a];exact Nat.min_le_right _ _
theorem wW(v:Int)(n d:Nat):(if v<0 then max (v+(n:Int)) 0 else min v (n:Int))=((aT n d (some v):Nat):Int):=by
 show(if v<0 then max (v+(n:Int)) 0 else min v (n:Int))=(((if v<0 then (v+(n:Int)).toNat else min v.toNat n):Nat):Int);by_cases a:v<0
 .simp only[if_pos a];omega
 .simp only[if_neg a];omega
theorem DL(lo hi:Option Int)(n:Nat):Builtin.Slice.sliceAdjust lo hi 1 (n:Int)=(((aT n 0 lo:Nat):Int),((aT n n hi:Nat):Int)):=by
 have h1:¬((1:Int)<0):=by omega
 unfold Builtin.Slice.sliceAdjust;simp only[h1,if_false];refine Prod.ext ?_ ?_
 .cases lo with
  |none=>rfl
  |some v=>exact wW v n 0
 .cases hi with
  |none=>rfl
  |some v=>exact wW v n n
theorem Li(i j:Nat):Builtin.Slice.slicePlaces (i:Int) (j:Int) 1=j - i:=by
 unfold Builtin.Slice.slicePlaces;have h1:(1:Int)>0:=by omega
 simp only[h1,if_true,Int.ediv_one];split<;>omega
theorem Ce{v:Value}{o:Option Int}{Q:Option Int->Shared->Prop}(p:IsPart v o)(h:Q o s):wpAny (model prog w) A (Builtin.Slice.slicePartIndex v) Q E s:=by
 cases p with
 |none=>exact slicePart_none h
 |int i t=>exact slicePart_int h
theorem M6{e:Addr}{c d:Value}{lo hi:Option Int}{n:Nat}{Q:Int×Int×Nat->Shared->Prop}(f:s.heap.IsSliceOf e c d .none)(pl:IsPart c lo)(pu:IsPart d hi)
  (h:Q (((aT n 0 lo:Nat):Int),1,aT n n hi - aT n 0 lo) s):wpAny (model prog w) A (Builtin.Slice.sliceApplied (.ref e) (pure (n:Int))) Q E s:=by
 obtain⟨os,a,g,b⟩:=id f;unfold Builtin.Slice.sliceApplied Builtin.Slice.sliceFields;refine wpAny_bind (wpAny_bind (wpAny_field a b (x:=c) rfl (wpAny_bind (wpAny_field a b (x:=d) rfl (wpAny_bind (wpAny_field a b (x:=.none) rfl (wpAny_pure ?_)))))));refine wpAny_bind (slicePart_none ?_);show wpAny _ _ (if ((1:Int)==0)=true then _ else _) _ _ s;rw[if_neg (by decide)];refine wpAny_bind (Ce pl (wpAny_bind (Ce pu (wpAny_bind (wpAny_pure ?_)))));show wpAny _ _ (match Builtin.Slice.sliceAdjust lo hi 1 (n:Int) with|(lo,hi)=>pure (lo,(1:Int),Builtin.Slice.slicePlaces lo hi 1)) _ _ s;rw[DL lo hi n];show wpAny _ _ (pure (((aT n 0 lo:Nat):Int),(1:Int),Builtin.Slice.slicePlaces ((aT n 0 lo:Nat):Int) ((aT n n hi:Nat):Int) 1)) _ _ s;rw[Li];exact wpAny_pure h
theorem Lf(xs:Array Value)(i k:Nat):((range k).filterMap λ(m:Nat)=>xs[((i:Int)+(m:Int)*1).toNat]?).toArray=((xs.toList.drop i).take k).toArray:=by
 have e:(λ(m:Nat)=>xs[((i:Int)+(m:Int)*1).toNat]?)=λm=>xs[i+m]? :=by
  funext m;have:((i:Int)+(m:Int)*1).toNat=i+m:=by omega
  rw[this]
 rw[e];have:=pick_run xs i k;rw[List.filterMap_map] at this;have a:((λx=>xs[x]?)∘λx=>i+x)=λm=>xs[i+m]? :=rfl;rw[a] at this;rw[this]
theorem GV{t c:Addr}{items:Array Value}{i j:Value}{lo hi:Option Int}{Q:aE}(b:IsTup s.heap t items)(k:s.heap.IsSliceOf c i j .none)(pl:IsPart i lo)(pu:IsPart j hi)
  (l:¬(aT items.size 0 lo=0/\aT items.size items.size hi=items.size))
  (h:Q (.ref s.heap.objs.size) {s with heap:=s.heap.push {cls:= .type "tuple",data:= .seq ((items.toList.drop (aT items.size 0 lo)).take (aT items.size items.size hi - aT items.size 0 lo)).toArray}})
  (hsz:items.size<=sizeLine):wpAny (model prog w) A (getItem (.ref t) (.ref c)) Q E s:=by
 have a:sizeOk (.seq ((items.toList.drop (aT items.size 0 lo)).take (aT items.size items.size hi - aT items.size 0 lo)).toArray):=by
  show((items.toList.drop (aT items.size 0 lo)).take (aT items.size items.size hi - aT items.size 0 lo)).toArray.size<=sizeLine
  rw[size_toArray,length_take,length_drop,length_toList]
  omega
 have o:aT items.size items.size hi<=items.size:=Mj _ _ (le_refl _) hi
 obtain⟨os,d,e,n⟩:=id k
 have f:s.TypeIs (.ref c) "slice":=⟨os,d,e⟩
 unfold getItem
 try with_reducible refine wpAny_holding ?_
 first|refine wpAny_bind (wpAny_pure ?_)|skip
 refine wpAny_bind (wpAny_sequenceKey b.typeIs (by decide) ?_)
 refine wpAny_bind (wpAny_callSpecial?_slot (name:=Str.ofString "__getitem__") b.typeIs PyProof.Rows.slot_tuple_getitem
  (wpAny_call_entry PyProof.Rows.slot_tuple_getitem b.typeIs entry_tuple_getitem ?_ (args_tuple_getitem _ _)))
 show wpAny _ _ (Builtin.Tuple.tupleItemsOf (.ref t)>>=_) _ _ s
 refine wpAny_bind (tupleItemsOf_ b ?_)
 refine wpAny_bind (wpAny_typeOf f ?_)
 rw[if_pos (by decide)]
 refine wpAny_bind (M6 k pl pu ?_)
 have g:¬((((aT items.size 0 lo:Nat):Int)==0&&(1:Int)==1&&(aT items.size items.size hi - aT items.size 0 lo)==items.size)=true):=by
  intro q
  rw[and_eq_true,and_eq_true] at q
  have p:((aT items.size 0 lo:Nat):Int)=0:=eq_of_beq q.1.1
  have r:aT items.size items.size hi - aT items.size 0 lo=items.size:=eq_of_beq q.2
  exact l ⟨by omega,by omega⟩
 show wpAny _ _ (if (((aT items.size 0 lo:Nat):Int)==0&&(1:Int)==1&&(aT items.size items.size hi - aT items.size 0 lo)==items.size)=true then _ else _) _ _ s
 rw[if_neg g,Lf]
 first
  |exact wpAny_bind (m:=Builtin.Tuple.tupleExact _) (wpAny_newObj_type (wpAny_pure ⟨_,rfl,wpAny_pure h⟩) a)
  |exact wpAny_bind (m:=Builtin.Tuple.tupleExact _) (wpAny_newObj_type (wpAny_bind (wpAny_pure (wpAny_pure ⟨_,rfl,wpAny_pure h⟩))) a)
  |exact wpAny_bind (wpAny_bind (m:=Builtin.Tuple.tupleExact _) (wpAny_newObj_type (wpAny_pure (wpAny_pure ⟨_,rfl,wpAny_pure h⟩)) a))
  |exact wpAny_bind (wpAny_bind (m:=Builtin.Tuple.tupleExact _) (wpAny_newObj_type (wpAny_pure ⟨_,rfl,wpAny_pure h⟩) a))
end
end HT
section
open PySem PySem.Spec PyProof.Rows
namespace L2
abbrev TO:=St->Hp->(Option Int->Hp->Prop)->Prop
def PO(X:Cx)(e:Option Expr)(t:TO):Prop:=
 ∀(pins:aK) (s:Shared) (σ:St) (H:Hp) (Q:Option Int->Hp->Prop),Inv X pins σ H s->t σ H Q->
  wpAny (model X.prog X.w) X.A (evalPart e X.env) (λu s'=>∃o H',Inv X pins σ H' s'/\IsPart u o/\Q o H') X.xe s
def NP:TO:=λ_ H Q=>Q none H
def NT(t:TE):TO:=λσ H Q=>t σ H λx H1=>∃i,x=.int i/\Q (some i) H1
section
variable{X:Cx}{e:Expr}{te:TE}{lo hi:Option Expr}{tl th:TO}{pos p2:Pos}
theorem Lk:PO X none NP:=by
 intro pins s σ H Q I h;rw[evalPart_none];exact wpAny_pure ⟨none,H,I,.none,h⟩
theorem Ll(h:PE X e te):PO X (some e) (NT te):=by
 intro pins s σ H Q I a;rw[evalPart_some];refine aF (h pins s σ H _ I a) λu f ⟨x,H1,b,c,d⟩=>?_;obtain⟨i,rfl,q⟩:=d;obtain⟨t,rfl⟩:=c;exact⟨some i,H1,b,.int i t,q⟩
def jl(X:Cx)(r:V->Option Int->Option Int->Hp->VK->Prop):Prop:=
 ∀(pins:aK) (s:Shared) (σ:St) (H:Hp) (x:V) (v vl vu:Value) (lo hi:Option Int) (sl:Addr) (Q:VK),Inv X pins σ H s->RelV x v->s.heap.IsSliceOf sl vl vu .none->IsPart vl lo->IsPart vu hi->r x lo hi H Q->
  ∃T id,typeLookup (.type T) "__getitem__"=pure (some (.builtin id))/\s.TypeIs v T/\wpAny (model X.prog X.w) X.A (getItem v (.ref sl)) (EP X pins σ Q) X.xe s
theorem jl.or{r r':V->Option Int->Option Int->Hp->VK->Prop}(h:jl X r)(h':jl X r'):jl X (λx lo hi H Q=>r x lo hi H Q\/r' x lo hi H Q):=by
 intro pins s σ H x v a b lo hi c Q I d e pl pu q;rcases q with q|q
 .exact h pins s σ H x v a b lo hi c Q I d e pl pu q
 .exact h' pins s σ H x v a b lo hi c Q I d e pl pu q
def NX(r:V->Option Int->Option Int->Hp->VK->Prop)(te:TE)(tl th:TO):TE:=λσ H Q=>te σ H λx H1=>tl σ H1 λl H2=>th σ H2 λu H3=>r x l u H3 Q
theorem K3{r:V->Option Int->Option Int->Hp->VK->Prop}(g:jl X r)(i:PE X e te)(j:PO X lo tl)(k:PO X hi th):PE X (.Subscript e (.Slice lo hi none p2) pos) (NX r te tl th):=by
 intro pins s σ H Q I h;refine Subscript_ (aF (i pins s σ H _ I h) λv m ⟨x,H1,n,o,p⟩=>?_);refine wpAny_Slice (aF (j pins m σ H1 _ n p) λc t ⟨l,H2,y,pl,z⟩=>aF (k pins t σ H2 _ y z) λd a ⟨u,f,B,pu,C⟩=>?_);rw[evalPart_none];refine wpAny_pure ?_;have D:Inv X pins σ f {a with heap:=a.heap.push {cls:=.type "slice",data:=.fields #[c,d,.none]}}:=B.kept (t':=a.toks) λb J q=>get?_push_of_some _ q;obtain⟨T,id,E,F,G⟩:=g pins {a with heap:=a.heap.push {cls:=.type "slice",data:=.fields #[c,d,.none]}} σ f x v c d l u a.heap.objs.size Q D o (Heap.IsSliceOf.new ..) pl pu C;show wpAny (model X.prog X.w) X.A (subscriptTail e (.Slice lo hi none p2) v (.ref a.heap.objs.size)) (EP X pins σ Q) X.xe {a with heap:=a.heap.push {cls:=.type "slice",data:=.fields #[c,d,.none]}};exact tail_any (ops:=[.ref a.heap.objs.size,v]) F E G (by with_unfolding_all rfl)
def iW(xs:List V)(lo hi:Option Int):List V:=(xs.drop (HT.aT xs.length 0 lo)).take (HT.aT xs.length xs.length hi - HT.aT xs.length 0 lo)
theorem xg(xs:List V)(lo hi:Option Int):(iW xs lo hi).length<=xs.length:=by
 unfold iW;rw[length_take,length_drop];omega
def LV(K:PySem.W.Frag):V->Option Int->Option Int->Hp->VK->Prop:=λx lo hi H Q=>∃a xs,x=.ref a/\bq K H a xs/\
 ¬(HT.aT xs.length 0 lo=0/\HT.aT xs.length xs.length hi=xs.length)/\∀p,H p=none->Q (.ref p) (upd H p (.tup (iW xs lo hi)))
theorem M5:jl X (LV X.K):=by
 intro pins s σ H x v j k lo hi l Q I e f pl pu h;obtain⟨a,xs,rfl,g,i,q⟩:=h;cases e;obtain⟨its,r,d,hz⟩:=I.tuple g;have c:its.toArray.size=xs.length:=by rw[size_toArray];exact r.length.symm
 refine⟨"tuple",_,PyProof.Rows.slot_tuple_getitem.lookup,d.typeIs,?_⟩;refine HT.GV d f pl pu (by rw[c];exact i) ?_ (by rw[c];exact hz);rw[c];refine⟨.ref s.heap.objs.size,_,I.laid (t':=s.toks) (o:=.tup (iW xs lo hi)) (λb m q=>get?_push_of_some _ q) (le_refl _) ?_,rfl,q _ (I.hok.fresh (le_refl _))⟩;exact⟨le_trans (xg xs lo hi) hz,_,(r.drop (HT.aT xs.length 0 lo)).take (HT.aT xs.length xs.length hi - HT.aT xs.length 0 lo),iU.new _ _⟩
def LR(K:PySem.W.Frag):R2:=λx y H Q=>∃a b xs ys,x=.ref a/\y=.ref b/\bq K H a xs/\bq K H b ys/\xs≠[]/\xs.length+ys.length<=sizeLine/\
 (ys=[]->Q (.ref a) H)/\(ys≠[]->∀p,H p=none->Q (.ref p) (upd H p (.tup (xs++ys))))
theorem Vals.ue{xs:List V}{a:List Value}(r:Vals xs a):a=[]↔xs=[]:=by
 cases r with
 |nil=>simp
 |cons _ _=>simp
theorem Kc:aX X (binaryOp .Add) (LR X.K):=by
 intro pins s σ H x y v u Q I f g h;obtain⟨a,b,xs,ys,rfl,rfl,ha,hb,i,hz,j,k⟩:=h;cases f;cases g;obtain⟨its,d,p1,_⟩:=I.tuple ha;obtain⟨e,c,p2,_⟩:=I.tuple hb;refine HT.Ek p1 p2 (λz=>i (d.ue.mp z)) (λz=>⟨.ref a,H,I,rfl,j (c.ue.mp z)⟩) (λz=>?_) (by rw[<-d.length,<-c.length];exact hz);refine⟨.ref s.heap.objs.size,_,I.laid (t':=s.toks) (o:=.tup (xs++ys)) (λb l q=>get?_push_of_some _ q) (le_refl _) ?_,rfl,k (λw=>z (c.ue.mpr w)) _ (I.hok.fresh (le_refl _))⟩;exact⟨by rw[length_append];exact hz,_,d.append c,iU.new _ _⟩
end
def gM(n:Nat)(i:Int):Option Nat:=if 0<=i then (if i<n then some i.toNat else none) else if -(n:Int)<=i then some (i+n).toNat else none
def bJ{α:Type}(xs:List α)(i:Int):Option α:=(gM xs.length i).bind λj=>xs[j]?
theorem Ie{n:Nat}{i:Int}{j:Nat}(h:gM n i=some j):seqIndex? i n=some j/\j<n/\-(n:Int)<=i/\i<n:=by
 unfold gM at h;by_cases h0:0<=i
 .rw[if_pos h0] at h
  by_cases h1:i<n
  .rw[if_pos h1] at h
   have e:i.toNat=j:=Option.some.inj h;exact⟨by rw[seqIndex_of h0 h1,e],by omega,by omega,h1⟩
  .rw[if_neg h1] at h;cases h
 .rw[if_neg h0] at h
  by_cases h1: -(n:Int)<=i
  .rw[if_pos h1] at h
   have e:(i+n).toNat=j:=Option.some.inj h;exact⟨by rw[seqIndex_neg (by omega) h1,e],by omega,h1,by omega⟩
  .rw[if_neg h1] at h;cases h
theorem rL{α:Type}{xs:List α}{i:Int}{v:α}(h:bJ xs i=some v):∃j,seqIndex? i xs.length=some j/\xs[j]?=some v/\j<xs.length/\-(xs.length:Int)<=i/\i<xs.length:=by
 unfold bJ at h;cases e:gM xs.length i with
 |none=>rw[e] at h;cases h
 |some j=>
  rw[e] at h;obtain⟨h1,h2,a,b⟩:=Ie e;exact⟨j,h1,h,h2,a,b⟩
theorem dz{α:Type}{xs:List α}{j:Nat}{v:α}(h:xs[j]?=some v):bJ xs (j:Int)=some v:=by
 have a:j<xs.length:=(List.getElem?_eq_some_iff.mp h).1;have e:gM xs.length (j:Int)=some j:=by
  unfold gM;rw[if_pos (by omega),if_pos (by omega)];simp
 unfold bJ;rw[e];exact h
theorem DO{α:Type}(xs:List α)(v:α):bJ (xs++[v]) (-1)=some v:=by
 have a:(xs++[v]).length=xs.length+1:=by simp
 have e:gM (xs++[v]).length (-1)=some xs.length:=by
  unfold gM;rw[a,if_neg (by decide),if_pos (by omega)];congr 1;omega
 unfold bJ;rw[e];show(xs++[v])[xs.length]?=some v;simp
def q8(b:Expr):Prop:=∀o i,subscripted b false o i=operate [o,i] (getItem o i)
def gw(X:Cx)(r:R2):Prop:=
 ∀(value slice:Expr) (pins:aK) (s:Shared) (σ:St) (H:Hp) (x y:V) (v u:Value) (Q:VK),Inv X pins σ H s->RelV x v->RelV y u->r x y H Q->
  subscripted slice false v u=operate [v,u] (getItem v u)->wpAny (model X.prog X.w) X.A (subscriptTail value slice v u) (EP X pins σ Q) X.xe s
def qX(X:Cx)(id:String)(r:V->List V->Hp->VK->Prop):Prop:=
 ∀(pins:aK) (s:Shared) (σ:St) (H:Hp) (x:V) (xs:List V) (v:Value) (us:List Value) (Q:VK),Inv X pins σ H s->RelV x v->Vals xs us->r x xs H Q->
  wpAny (model X.prog X.w) X.A (call (.builtin id) (v::us)) (EP X pins σ Q) X.xe s
section
variable{X:Cx}{a b:Expr}{ta tb:TE}{pos:Pos}
theorem gw.or{r r':R2}(h:gw X r)(h':gw X r'):gw X (λx y H Q=>r x y H Q\/r' x y H Q):=by
 intro value slice pins s σ H x y v u Q I a b q c;rcases q with q|q
 .exact h value slice pins s σ H x y v u Q I a b q c
 .exact h' value slice pins s σ H x y v u Q I a b q c
theorem KY{r:R2}(c:gw X r)(ha:PE X a ta)(hb:PE X b tb)(d:q8 b):PE X (.Subscript a b pos) (nj r ta tb):=by
 intro pins s σ H Q I h;exact Subscript_ (rQ ha hb I h λv u e x y H2 f g i q=>c a b pins e σ H2 x y v u Q f g i q (d _ _))
def AF(K:PySem.W.Frag):R2:=λx y H Q=>∃p xs i v,x=.ref p/\y=.int i/\aO K H p xs/\bJ xs i=some v/\Q v H
def AH(K:PySem.W.Frag):R2:=λx y H Q=>∃p xs i v,x=.ref p/\y=.int i/\bq K H p xs/\bJ xs i=some v/\Q v H
def AG:R2:=λx y H Q=>∃z i c,x=.str z/\y=.int i/\z.length<=sizeLine/\bJ z.cps.toList i=some c/\Q (.str ⟨#[c]⟩) H
theorem Ih:gw X (AF X.K):=by
 intro value slice pins s σ H x y v u Q I e f h c;obtain⟨p,xs,i,z,rfl,rfl,g,k,q⟩:=h;cases e;obtain⟨t,rfl⟩:=f;obtain⟨its,r,pl,hz⟩:=I.list g;obtain⟨j,h1,h2,o,l,m⟩:=rL k;obtain⟨w,d,a⟩:=r.get h2;have n:=r.length;have A:=mz;have fin:EP X pins σ Q w s:=⟨z,H,I,a,q⟩;by_cases h0:0<=i
 .have b:i.toNat=j:=by
   rw[seqIndex_of h0 m] at h1;exact Option.some.inj h1
  exact item_listR pl.isList h0 (by omega) (by rw[b];simpa using d) fin c
 .have b:(i+(its.toArray.size:Int)).toNat=j:=by
   rw[seqIndex_neg (by omega) l] at h1;rw[size_toArray,<-n];exact Option.some.inj h1
  exact subscriptTail_builtinR (x:=w) pl.isList.typeIs slot_list_getitem.lookup
   (wpAny_getItem_list_neg (Q:=λr s'=>r=w/\EP X pins σ Q r s') pl.isList (by omega) (by rw[size_toArray]<;>omega) (by omega) (by rw[b];simpa using d) ⟨rfl,fin⟩) c
theorem Ik:gw X (AH X.K):=by
 intro value slice pins s σ H x y v u Q I b c h d;obtain⟨p,xs,i,z,rfl,rfl,e,f,q⟩:=h;cases b;obtain⟨t,rfl⟩:=c;obtain⟨its,r,pl,hz⟩:=I.tuple e;obtain⟨j,h1,h2,l,m,n⟩:=rL f;obtain⟨w,g,a⟩:=r.get h2;have k:=r.length;have o:=mz;have fin:EP X pins σ Q w s:=⟨z,H,I,a,q⟩;exact subscriptTail_builtinR (x:=w) pl.typeIs slot_tuple_getitem.lookup
  (getItem_tuple (j:=j) (Q:=λr s'=>r=w/\EP X pins σ Q r s') pl (by omega) (by omega) (by rw[size_toArray,<-k];exact h1) (by simpa using g) ⟨rfl,fin⟩) d
theorem Ij:gw X AG:=by
 intro value slice pins s σ H x y v u Q I a b h d;obtain⟨z,i,c,rfl,rfl,hz,e,q⟩:=h;obtain⟨t,rfl⟩:=a;obtain⟨t',rfl⟩:=b;obtain⟨j,h1,h2,n,f,g⟩:=rL e;have k:z.cps.toList.length=z.length:=by simp[Str.length]
 rw[k] at h1 f g;have o:=mz;exact tail_any (typeIs_str s z t) slot_str_getitem.lookup (getItem_str (c:=c) (by
  have l:decide (i< -(2 ^ 63:Int))=false:=decide_eq_false (by omega);have m:decide (i≥2 ^ 63)=false:=decide_eq_false (by omega);rw[l,m,Bool.or_false]) (by rw[h1];simpa using h2) ⟨.str ⟨#[c]⟩,H,I.tok _,⟨_,rfl⟩,q⟩) d
def AB(K:PySem.W.Frag):R2:=λx y H Q=>AF K x y H Q\/AH K x y H Q\/AG x y H Q
theorem Ii:gw X (AB X.K):=Ih.or (Ik.or Ij)
theorem M8(lo hi:Option Int)(n:Nat):(sliceBounds lo hi none n).1=((HT.aT n 0 lo:Nat):Int)/\(sliceBounds lo hi none n).2.1=((HT.aT n n hi:Nat):Int)/\(sliceBounds lo hi none n).2.2=1:=by
 refine⟨?_,?_,rfl⟩
 .cases lo with
  |none=>simp[sliceBounds,HT.aT]
  |some i=>
   simp only[sliceBounds,HT.aT,getD_none,show(1:Int)>0 by decide,if_true];by_cases h:i<0
   .simp only[h,if_true]<;>omega
   .simp only[h,if_false]<;>omega
 .cases hi with
  |none=>simp[sliceBounds,HT.aT]
  |some i=>
   simp only[sliceBounds,HT.aT,getD_none,show(1:Int)>0 by decide,if_true];by_cases h:i<0
   .simp only[h,if_true]<;>omega
   .simp only[h,if_false]<;>omega
theorem M7(its:List Value)(lo hi:Option Int):slicePick its.toArray lo hi none=((its.drop (HT.aT its.length 0 lo)).take (HT.aT its.length its.length hi - HT.aT its.length 0 lo)).toArray:=by
 obtain⟨h1,h2,a⟩:=M8 lo hi its.toArray.size;unfold slicePick;rw[h1,h2,a];simp only[sliceRange_one,pick_run,size_toArray]<;>rfl
def LU(K:PySem.W.Frag):V->Option Int->Option Int->Hp->VK->Prop:=λx lo hi H Q=>∃a xs,x=.ref a/\aO K H a xs/\∀p,H p=none->Q (.ref p) (upd H p (.lst (iW xs lo hi)))
theorem M4:jl X (LU X.K):=by
 intro pins s σ H x v i j lo hi k Q I e f pl pu h;obtain⟨a,xs,rfl,g,q⟩:=h;cases e;obtain⟨its,r,d,hz⟩:=I.list g;have c:=r.length;refine⟨"list",_,slot_list_getitem.lookup,d.isList.typeIs,?_⟩;refine wpAny_getItem_list_slice d.isList f pl pu .none (by simp) ?_ (by rw[size_toArray]<;>omega);rw[M7,<-c];refine⟨.ref s.heap.objs.size,_,I.laid (t':=s.toks) (o:=.lst (iW xs lo hi)) (λb l q=>get?_push_of_some _ q) (le_refl _) ?_,rfl,q _ (I.hok.fresh (le_refl _))⟩;exact⟨le_trans (xg xs lo hi) hz,_,0,(r.drop (HT.aT xs.length 0 lo)).take (HT.aT xs.length xs.length hi - HT.aT xs.length 0 lo),get?_push_size _ rfl⟩
def ie:V->Bool
 |.ao=>true
 |.bl _=>true
 |.int _=>true
 |.str _=>true
 |_=>false
def f7:V->V->Bool
 |.ao,.ao=>true
 |.bl a,.bl b=>a==b
 |.bl a,.int b=>(if a then 1 else 0)==b
 |.int a,.bl b=>a==(if b then 1 else 0)
 |.int a,.int b=>a==b
 |.str a,.str b=>a==b
 |_,_=>false
theorem FH{A:Around}{s:Shared}{y x:V}{u v:Value}(d:RelV y u)(c:RelV x v)(f:ie y=true)(e:ie x=true):SeqAt.EqAt A s u v (f7 y x):=by
 cases y with
 |ao=>
  cases d;cases x with
  |ao=>cases c;exact SeqAt.EqAt.same _
  |bl b=>cases c;exact SeqAt.EqAt.none_bool b
  |int b=>obtain⟨t,rfl⟩:=c;exact SeqAt.EqAt.none_int b t
  |str b=>obtain⟨t,rfl⟩:=c;exact SeqAt.EqAt.none_str b t
  |_=>exact absurd (show false=true from e) Bool.false_ne_true
 |bl a=>
  cases d;cases x with
  |ao=>cases c;exact SeqAt.EqAt.bool_none a
  |bl b=>cases c;exact SeqAt.EqAt.bool_bool a b
  |int b=>obtain⟨t,rfl⟩:=c;exact SeqAt.EqAt.bool_int a b t
  |str b=>obtain⟨t,rfl⟩:=c;exact SeqAt.EqAt.bool_str a b t
  |_=>exact absurd (show false=true from e) Bool.false_ne_true
 |int a=>
  obtain⟨t',rfl⟩:=d;cases x with
  |ao=>cases c;exact SeqAt.EqAt.int_none a t'
  |bl b=>cases c;exact SeqAt.EqAt.int_bool a t' b
  |int b=>obtain⟨t,rfl⟩:=c;exact SeqAt.EqAt.int_int a t' b t
  |str b=>obtain⟨t,rfl⟩:=c;exact SeqAt.EqAt.int_str a t' b t
  |_=>exact absurd (show false=true from e) Bool.false_ne_true
 |str a=>
  obtain⟨t',rfl⟩:=d;cases x with
  |ao=>cases c;exact SeqAt.EqAt.str_none a t'
  |bl b=>cases c;exact SeqAt.EqAt.str_bool a t' b
  |int b=>obtain⟨t,rfl⟩:=c;exact SeqAt.EqAt.str_int a t' b t
  |str b=>obtain⟨t,rfl⟩:=c;exact SeqAt.EqAt.str_str a t' b t
  |_=>exact absurd (show false=true from e) Bool.false_ne_true
 |_=>exact absurd (show false=true from f) Bool.false_ne_true
def iM(x:V)(u:Value):Bool:=match u with
 |.none=>f7 .ao x
 |.bool b=>f7 (.bl b) x
 |.int i _=>f7 (.int i) x
 |.str z _=>f7 (.str z) x
 |_=>false
theorem ye{x y:V}{u:Value}(r:RelV y u)(f:ie y=true):iM x u=f7 y x:=by
 cases y with
 |ao=>cases r;rfl
 |bl b=>cases r;rfl
 |int i=>obtain⟨t,rfl⟩:=r;rfl
 |str z=>obtain⟨t,rfl⟩:=r;rfl
 |_=>exact absurd (show false=true from f) Bool.false_ne_true
theorem rH{x:V}:∀{xs:List V} {a:List Value},Vals xs a->xs.all ie=true->a.any (iM x)=xs.any λy=>f7 y x
 |_,_,.nil,_=>rfl
 |y::xs,u::a,.cons r t,f=>by
  rw[List.all_cons,and_eq_true] at f;rw[any_cons,any_cons,ye r f.1,rH t f.2]
theorem tY{A:Around}{s:Shared}{x:V}{v:Value}(b:RelV x v)(c:ie x=true):∀{xs:List V} {a:List Value},Vals xs a->xs.all ie=true->∀u∈a,SeqAt.EqAt A s u v (iM x u)
 |_,_,.nil,_=>λu hu=>by cases hu
 |y::xs,u::a,.cons r t,f=>λd hu=>by
  rw[List.all_cons,and_eq_true] at f;rcases mem_cons.mp hu with rfl|hu
  .rw[ye r f.1];exact FH r b f.1 c
  .exact tY b c t f.2 d hu
def oO(x:V)(xs:List V):Bool:=xs.any λy=>f7 y x
def Az(K:PySem.W.Frag)(neg:Bool):R2:=λx y H Q=>∃p xs,y=.ref p/\(aO K H p xs\/bq K H p xs)/\ie x=true/\xs.all ie=true/\Q (.bl (if neg then !oO x xs else oO x xs)) H
theorem Ky:aX X (compareOp .NotIn) (Az X.K true):=by
 intro pins s σ H x y v u Q I b d h;obtain⟨p,xs,rfl,hq,c,fs,q⟩:=h;cases d;rcases hq with hq|hq
 .obtain⟨its,r,pl,hz⟩:=I.list hq
  refine SeqAt.notIn_listAt (iM x) pl.isList (λw a=>tY b c r fs w (by simpa using a)) ⟨.bl _,H,I,rfl,?_⟩;rw[show its.toArray.any (iM x)=its.any (iM x) by simp,rH r fs];exact q
 .obtain⟨its,r,pl,hz⟩:=I.tuple hq
  refine SeqAt.notIn_tupleAt (iM x) pl (λw a=>tY b c r fs w (by simpa using a)) ⟨.bl _,H,I,rfl,?_⟩;rw[show its.toArray.any (iM x)=its.any (iM x) by simp,rH r fs];exact q
theorem D8:c_ X (.builtin "len") (λxs H Q=>∃p ys,xs=[.ref p]/\(aO X.K H p ys\/bq X.K H p ys)/\Q (.int ys.length) H):=by
 intro pins s σ H xs c Q I r h;obtain⟨p,ys,rfl,hq,q⟩:=h;obtain⟨u,rfl,b⟩:=vals1 r;cases b;have d:=mz;rcases hq with hq|hq
 .obtain⟨its,r',pl,hz⟩:=I.list hq
  have a:=r'.length;exact Calls.call_len_list pl.isList (by simp only[size_toArray]<;>omega) ⟨.int ys.length,H,I.tok _,⟨s.toks+1,by rw[size_toArray,a]⟩,q⟩
 .obtain⟨its,r',pl,hz⟩:=I.tuple hq
  have a:=r'.length;exact len_tuple pl (by simp only[size_toArray]<;>omega) ⟨.int ys.length,H,I.tok _,⟨s.toks+1,by rw[size_toArray,a]⟩,q⟩
theorem D9:c_ X (.builtin "len") (λxs H Q=>∃z,xs=[.str z]/\z.length<=sizeLine/\Q (.int z.length) H):=by
 intro pins s σ H xs a Q I r h;obtain⟨z,rfl,hz,q⟩:=h;obtain⟨u,rfl,t,rfl⟩:=vals1 r;have b:=mz;exact len_str (by omega) ⟨.int z.length,H,I.tok _,⟨_,rfl⟩,q⟩
theorem c_.or{f:Value}{r r':List V->Hp->VK->Prop}(h:c_ X f r)(h':c_ X f r'):c_ X f (λxs H Q=>r xs H Q\/r' xs H Q):=by
 intro pins s σ H xs a Q I rs q;rcases q with q|q
 .exact h pins s σ H xs a Q I rs q
 .exact h' pins s σ H xs a Q I rs q
theorem Ed:c_ X (.type "tuple") (λxs H Q=>∃p ys,xs=[.ref p]/\((aO X.K H p ys/\∀l,H l=none->Q (.ref l) (upd H l (.tup ys)))\/(bq X.K H p ys/\Q (.ref p) H))):=by
 intro pins s σ H xs i Q I r h;obtain⟨p,ys,rfl,h⟩:=h;obtain⟨u,rfl,f⟩:=vals1 r;cases f;rcases h with⟨a,q⟩|⟨a,q⟩
 .obtain⟨its,r',pl,hz⟩:=I.list a
  have c:=r'.length;refine call_tuple_list pl.isList (λh' kp=>?_) (by simp only[size_toArray]<;>omega);have d:Inv X pins σ H {s with heap:=h'}:=I.kept (t':=s.toks) kp;have g:Inv X pins σ (upd H h'.objs.size (.tup ys)) {s with heap:=h'.push {cls:=.type "tuple",data:=.seq its.toArray}}:=
   d.laid (t':=s.toks) (λb o e=>get?_push_of_some _ e) (le_refl _) (show bw X.prog X.w _ _ _ (.tup ys) from⟨hz,its,r',iU.new _ _⟩)
  exact⟨.ref h'.objs.size,_,g,rfl,q _ (d.hok.fresh (le_refl _))⟩
 .obtain⟨its,r',pl,hz⟩:=I.tuple a
  exact call_tuple_same pl ⟨.ref p,H,I,rfl,q⟩
def u5(K:PySem.W.Frag)(T:String)(x:V)(H:Hp):Prop:=match x with
 |.str _=>T="str"
 |.int _=>T="int"
 |.ref p=>(T="list"/\∃xs,aO K H p xs)\/(T="tuple"/\∃o,K.lookup p=some o/\o.cls=.type "tuple"/\o.dict=none)\/
  (T="dict"/\((∃kvs,H p=some (.dK kvs))\/∃kvs,H p=some (.dT kvs)))\/(T="set"/\∃S n,H p=some (.set S n))
 |_=>False
theorem OA{pins:aK}{σ:St}{H:Hp}{s:Shared}{T:String}{x:V}{v:Value}(I:Inv X pins σ H s)(r:RelV x v)(ty:u5 X.K T x H):
  s.TypeIs v T/\∀a,v=.ref a->∃f,s.heap.get? a=some f/\f.dict=none:=by
 cases x with
 |str z=>
  obtain⟨t,rfl⟩:=r;cases (show T="str" from ty);exact⟨typeIs_str s z t,λ_ e=>nomatch e⟩
 |int i=>
  obtain⟨t,rfl⟩:=r;cases (show T="int" from ty);exact⟨typeIs_int s i t,λ_ e=>nomatch e⟩
 |ref p=>
  cases r;rcases ty with⟨rfl,xs,g⟩|⟨rfl,o,b,hc,hd⟩|⟨rfl,b⟩|⟨rfl,S,n,b⟩
  .obtain⟨its,_,pl,_⟩:=I.list g
   refine⟨pl.isList.typeIs,λa e=>?_⟩;cases e;obtain⟨o,n,e,c,hd,_⟩:=pl;exact⟨o,e,hd⟩
  .refine⟨⟨o,I.dH p o b,hc⟩,λa e=>?_⟩
   cases e;exact⟨o,I.dH _ o b,hd⟩
  .have z:∃o,s.heap.get? p=some o/\o.ExactDict:=by
    rcases b with⟨kvs,b⟩|⟨kvs,b⟩
    .obtain⟨_,_,_,_,o,_,_,e,ex,_⟩:=I.hok p _ b
     exact⟨o,e,ex⟩
    .obtain⟨_,_,_,_,o,_,_,e,ex,_⟩:=I.hok p _ b
     exact⟨o,e,ex⟩
   obtain⟨o,e,ex⟩:=z;refine⟨⟨o,e,ex.1⟩,λa d=>?_⟩;cases d;exact⟨o,e,ex.2.1⟩
  .obtain⟨o,_,_,_,e,ex,_⟩:=I.hok p _ b
   refine⟨⟨o,e,ex.1⟩,λa d=>?_⟩;cases d;exact⟨o,e,ex.2.1⟩
 |_=>exact False.elim ty
def NB(K:PySem.W.Frag)(T:String)(r:V->List V->Hp->VK->Prop)(to:TE)(t:TA):TE:=λσ H Q=>to σ H λx H1=>u5 K T x H1/\t σ H1 λxs H2=>r x xs H2 Q
variable{o e:Expr}{es:List Expr}{to:TE}{t:TA}{name:Str}{apos cpos:Pos}{T id:String}{r:V->List V->Hp->VK->Prop}
theorem Ag(k:PlainAttrs T)(slot:Slot T name id)(f:typeOf (.builtin id)=pure (.type "method_descriptor"))(l:qX X id r)(m:PE X o to)(ha:PA X (e::es) t)
  (b:attributeBase o name X.env (eval o X.env)=eval o X.env:=by rfl)
  (d:((backTo cpos (starEach (e::es) X.env)).all (λx=> !x.1)&&(backToKw cpos (keywordEach [] X.env)).all (λx=>x.1.isSome)
   &&decide ((e::es).length+([]:List Keyword).length+(if ([]:List Keyword).isEmpty then 0 else 1)<30))=true:=by rfl)
  (c:(apos.endLine==cpos.line)=true:=by rfl)(n:starEach (e::es) X.env=(false,eval e X.env)::starEach es X.env:=by rfl)(a:(backTo cpos (starEach es X.env)).any (·.1)=false:=by rfl):
  PE X (.Call (.Attribute o name apos) (e::es) [] cpos) (NB X.K T r to t):=by
 intro pins s σ H Q I h
 refine wpAny_Call_method_late b d c rfl (aF (m pins s σ H _ I h) λv p ⟨x,H1,g,i,ty,q⟩=> ?_)
 obtain⟨h1,h2⟩:=OA g i ty
 refine⟨T,id,k,slot,f,h1,h2,?_⟩
 have j:=ha cpos pins p σ H1 _ g q
 rw[n] at j ⊢
 refine Calls.callWith_builtin (by show(false||(backTo cpos (starEach es X.env)).any (·.1))=false;rw[a]<;>rfl) (Calls.evalArgs_plain ?_)
 exact aF j λu w ⟨vs,H2,y,z,A⟩=>l pins w σ H2 x vs v u Q y i z A
end
def nK(X:Cx)(id:String)(r:V->List V->Hp->VK->Prop):Prop:=
 ∀(pins:aK) (s:Shared) (σ:St) (H:Hp) (x:V) (xs:List V) (v:Value) (us:List Value) (Q:VK),Inv X pins σ H s->RelV x v->Vals xs us->r x xs H Q->
  wpAny (model X.prog X.w) X.A (call (.builtin id) (v::us)) (EP X pins σ Q) X.xe s
theorem Vals.one:∀{x:V} {a:List Value},Vals [x] a->∃u,a=[u]/\RelV x u
 |_,_,.cons r .nil=>⟨_,rfl,r⟩
section
variable{X:Cx}{pins:aK}{σ:St}{H:Hp}{s:Shared}{l b:Addr}{xs ys zs:List V}
theorem Inv.tR{its its':List Value}{n:Nat}{f:Array Value->Array Value}{t':Nat}(I:Inv X pins σ H s)(a:H l=some (.lst xs))
  (e:s.heap.get? l=some {cls:=.type "list",data:=.seq its.toArray n})(b:f its.toArray=its'.toArray)(c:Vals ys its')(hz:ys.length<=sizeLine):
  Inv X pins σ (upd H l (.lst ys)) {s with heap:=s.heap.update l (Obj.mapSeq f),toks:=t'}:=by
 have q:=PySem.IsL.update e f;rw[b] at q;refine I.write (x:=l) (e:=l) (by rw[a];exact trivial) (.inl rfl) (λg u hb d=>(Heap.get?_update_other s.heap (Obj.mapSeq f) (Ne.symm hb)).trans d) ⟨_,q⟩ ?_;exact⟨hz,its',_,c,q⟩
theorem Inv.zC{its:List Value}{t':Nat}(I:Inv X pins σ H s)(a:Vals ys its)(hz:ys.length<=sizeLine):
  Inv X pins σ (upd H s.heap.objs.size (.lst ys)) {s with heap:=s.heap.push {cls:=.type "list",data:=.seq its.toArray},toks:=t'}:=
 I.laid (λ_ _ q=>get?_push_of_some _ q) (le_refl _) ⟨hz,its,0,a,get?_push_size _ rfl⟩
theorem Inv.fresh(I:Inv X pins σ H s):H s.heap.objs.size=none:=I.hok.fresh (le_refl _)
theorem Inv.kG(I:Inv X pins σ H s)(a:H l=some (.lst xs)):xs.length<=sizeLine/\∃(its:List Value) (n:Nat),Vals xs its/\xs.length=its.length/\s.heap.get? l=some {cls:=.type "list",data:=.seq its.toArray n}:=by
 obtain⟨z,its,n,r,e⟩:=I.hok l _ a;exact⟨z,its,n,r,r.length,e⟩
theorem z0{n:Nat}(h:n<=sizeLine):Builtin.List.listTooLong n=false:=by
 unfold Builtin.List.listTooLong;exact decide_eq_false (by omega)
end
section
variable{X:Cx}
def Au:V->List V->Hp->VK->Prop:=λx vs H Q=>∃l xs y,x=.ref l/\vs=[y]/\H l=some (.lst xs)/\xs.length<sizeLine/\Q .ao (upd H l (.lst (xs++[y])))
theorem mD:nK X "list.append" Au:=by
 intro pins s σ H x vs v f Q I b c h;obtain⟨l,xs,y,rfl,rfl,a,hz,q⟩:=h;cases b;obtain⟨u,rfl,d⟩:=c.one;obtain⟨z,its,n,r,g,e⟩:=I.kG a;refine call_meets F.slot_list_append ⟨_,e,rfl⟩ F.entry_list_append (F.args_list_append_2 _ _) (PySem.list_append l its.toArray n u (by rw[size_toArray];omega)) ⟨e,?_⟩;refine⟨.ao,_,I.tR (its':=its++[u]) a e (by simp) (r.append (.cons d .nil)) ?_,rfl,q⟩;rw[length_append,List.length_singleton];omega
def Ax:V->List V->Hp->VK->Prop:=λx vs H Q=>∃l b xs zs,x=.ref l/\vs=[.ref b]/\H l=some (.lst xs)/\H b=some (.lst zs)/\xs.length+zs.length<=sizeLine/\Q .ao (upd H l (.lst (xs++zs)))
theorem zP:nK X "list.extend" Ax:=by
 intro pins s σ H x vs v p Q I f g h;obtain⟨l,b,xs,zs,rfl,rfl,d,i,hz,q⟩:=h;cases f;obtain⟨u,rfl,j⟩:=g.one;cases j;obtain⟨z,its,n,r,t,e⟩:=I.kG d;obtain⟨w,a,n2,k,m,o⟩:=I.kG i;have hsz:its.toArray.size+a.toArray.size<=sizeLine:=by rw[size_toArray,size_toArray];omega
 have c:¬(!its.toArray.isEmpty&&Builtin.List.listTooLong (its.toArray.size+a.toArray.size))=true:=by
  rw[z0 hsz,Bool.and_false];exact Bool.false_ne_true
 refine call_meets F.slot_list_extend ⟨_,e,rfl⟩ F.entry_list_extend (F.args_list_extend_2 _ _)
  (AutoSeq1.list_extend_list_list_0 l its.toArray n b a.toArray n2 c (by rw[size_toArray];omega) (by omega)) ⟨e,o,?_⟩
 refine⟨.ao,_,I.tR (its':=its++a) d e (by simp) (r.append k) ?_,rfl,q⟩;rw[length_append];omega
def Av:R2:=λx y H Q=>∃l b xs zs,x=.ref l/\y=.ref b/\H l=some (.lst xs)/\H b=some (.lst zs)/\xs.length+zs.length<=sizeLine/\∀p,H p=none->Q (.ref p) (upd H p (.lst (xs++zs)))
theorem J':aX X (binaryOp .Add) Av:=by
 intro pins s σ H x y v u Q I c d h;obtain⟨l,b,xs,zs,rfl,rfl,f,g,hz,q⟩:=h;cases c;cases d;obtain⟨z,its,n,r,o,e⟩:=I.kG f;obtain⟨p,a,n2,i,j,k⟩:=I.kG g;refine PySem.P.add_list e k ?_ (by rw[size_toArray,size_toArray];omega);have m:its.toArray++a.toArray=(its++a).toArray:=by simp
 rw[m];exact⟨.ref _,_,I.zC (t':=s.toks) (r.append i) (by rw[length_append];omega),rfl,q _ I.fresh⟩
end
section
variable{prog:Program}{w:World}{A:Around}{E:aE}{s:Shared}
end
section
variable{X:Cx}
end
section
variable{κ:Type}[DecidableEq κ]
def cX(kvs:List (κ×V))(k:κ):Option V:=(kvs.find? λkv=>decide (kv.1=k)).map (·.2)
def putK(kvs:List (κ×V))(k:κ)(v:V):List (κ×V):=
 if (kvs.any λkv=>decide (kv.1=k))=true then kvs.map (λkv=>if kv.1=k then (kv.1,v) else kv) else kvs++[(k,v)]
theorem vc{p:κ×V}{r:List (κ×V)}{k:κ}(e:p.1=k):cX (p::r) k=some p.2:=by simp[cX,find?_cons,e]
theorem u_{p:κ×V}{r:List (κ×V)}{k:κ}(e:¬p.1=k):cX (p::r) k=cX r k:=by simp[cX,find?_cons,e]
theorem CV(k:κ):∀kvs:List (κ×V),(kvs.any λa=>decide (a.1=k))=(cX kvs k).isSome
 |[]=>rfl
 |p::r=>by
  rw[any_cons];by_cases e:p.1=k
  .simp only[vc e,decide_eq_true e,Bool.true_or,Option.isSome_some]
  .rw[u_ e,decide_eq_false e,Bool.false_or];exact CV k r
theorem tL(kvs:List (κ×V))(k:κ)(v:V):(putK kvs k v).length<=kvs.length+1:=by
 unfold putK;split
 .rw[length_map];omega
 .rw[length_append,length_cons,length_nil];omega
theorem fV.mh{o:Option V}{u:Option Value}(r:fV o u):o.isSome=u.isSome:=by
 cases o with
 |none=>cases u with
  |none=>rfl
  |some _=>exact(show False from r).elim
 |some _=>cases u with
  |none=>exact(show False from r).elim
  |some _=>rfl
theorem KV.val{kvs:List (κ×V)}{vs:List (κ×Value)}(r:KV kvs vs)(k:κ):fV (cX kvs k) (valueAt vs k):=by
 unfold KV at r;induction r with
 |nil=>exact True.intro
 | @cons p q ps qs h t c=>
  obtain⟨h1,h2⟩:=h;by_cases e:p.1=k
  .have a:q.1=k:=h1.symm.trans e
   have b:valueAt (q::qs) k=some q.2:=by simp[valueAt,find?_cons,a]
   rw[vc e,b];exact h2
  .have a:¬q.1=k:=λz=>e (h1.trans z)
   have b:valueAt (q::qs) k=valueAt qs k:=by simp[valueAt,find?_cons,a]
   rw[u_ e,b];exact c
theorem KV.any{kvs:List (κ×V)}{vs:List (κ×Value)}(r:KV kvs vs)(k:κ):(kvs.any λa=>decide (a.1=k))=vs.any λa=>decide (a.1=k):=by
 unfold KV at r;induction r with
 |nil=>rfl
 |cons h t b=>rw[any_cons,any_cons,b,h.1]
theorem KV.repl{kvs:List (κ×V)}{vs:List (κ×Value)}(r:KV kvs vs)(k:κ){y:V}{u:Value}(b:RelV y u):
  KV (kvs.map λa=>if a.1=k then (a.1,y) else a) (vs.map λa=>if a.1=k then (a.1,u) else a):=by
 unfold KV at r ⊢;induction r with
 |nil=>exact .nil
 | @cons p q ps qs h t c=>
  rw[map_cons,map_cons];refine .cons ?_ c;obtain⟨h1,h2⟩:=h;by_cases e:p.1=k
  .rw[if_pos e,if_pos (h1.symm.trans e)];exact⟨h1,b⟩
  .rw[if_neg e,if_neg (λz=>e (h1.trans z))];exact⟨h1,h2⟩
theorem KV.put{kvs:List (κ×V)}{vs:List (κ×Value)}(r:KV kvs vs)(k:κ){y:V}{u:Value}(a:RelV y u):KV (putK kvs k y) (stored vs k u):=by
 unfold putK stored;rw[r.any k];by_cases e:(vs.any λb=>decide (b.1=k))=true
 .rw[if_pos e,if_pos e];exact r.repl k a
 .rw[if_neg e,if_neg e];exact Paired.snoc r ⟨rfl,a⟩
theorem KV.keys{kvs:List (κ×V)}{vs:List (κ×Value)}(r:KV kvs vs):kvs.map (·.1)=vs.map (·.1):=by
 unfold KV at r;induction r with
 |nil=>rfl
 |cons h t a=>rw[map_cons,map_cons,a,h.1]
theorem KV.length{kvs:List (κ×V)}{vs:List (κ×Value)}(r:KV kvs vs):kvs.length=vs.length:=Paired.length r
end
theorem jD{P:Program}{w:World}{k:Key}{u:Value}(r:RelV (kV k) u):(cg P w).is k u=true:=by
 cases k with
 |inl i=>obtain⟨t,e⟩:=(show ∃t,u=Value.int i t from r);subst e;exact Jv P w i t
 |inr x=>obtain⟨t,e⟩:=(show ∃t,u=Value.str x t from r);subst e;exact Jw P w x t
theorem zd{P:Program}{w:World}:∀{ks:List Key} {a:List Value},Vals (ks.map kV) a->ItemsAre (cg P w) ks a
 |[],_,r=>by rw[map_nil] at r;cases r;exact .nil
 |k::ks,_,r=>by
  rw[map_cons] at r;cases r with
  |cons h t=>exact .cons (jD h) (zd t)
abbrev KT(H:Hp):List (List Key×V)->List (List Key×Addr×Value)->Prop:=Paired λp q=>p.1=q.1/\H q.2.1=some (.tup (p.1.map kV))/\RelV p.2 q.2.2
theorem KT.val{H:Hp}{kvs:List (List Key×V)}{xs:List (List Key×Addr×Value)}(r:KT H kvs xs)(k:List Key):fV (cX kvs k) ((atKey xs k).map (·.2)):=by
 induction r with
 |nil=>exact True.intro
 | @cons p q ps qs h t c=>
  obtain⟨h1,_,h2⟩:=h;by_cases e:p.1=k
  .have a:q.1=k:=h1.symm.trans e
   have b:atKey (q::qs) k=some q.2:=by simp[atKey,find?_cons,a]
   rw[vc e,b];exact h2
  .have a:¬q.1=k:=λz=>e (h1.trans z)
   have b:atKey (q::qs) k=atKey qs k:=by simp[atKey,find?_cons,a]
   rw[u_ e,b];exact c
theorem KT.repl{H:Hp}{kvs:List (List Key×V)}{xs:List (List Key×Addr×Value)}(r:KT H kvs xs)(k:List Key){y:V}{u:Value}(b:RelV y u):
  KT H (kvs.map λa=>if a.1=k then (a.1,y) else a) (xs.map (putAt k u)):=by
 induction r with
 |nil=>exact .nil
 | @cons p q ps qs h t c=>
  rw[map_cons,map_cons];refine .cons ?_ c;obtain⟨h1,h2,d⟩:=h;unfold putAt;by_cases e:p.1=k
  .rw[if_pos e,if_pos (h1.symm.trans e)];exact⟨h1,h2,b⟩
  .rw[if_neg e,if_neg (λz=>e (h1.trans z))];exact⟨h1,h2,d⟩
theorem KT.put{H:Hp}{kvs:List (List Key×V)}{xs:List (List Key×Addr×Value)}(r:KT H kvs xs)(k:List Key){b:Addr}{y:V}{u:Value}(hb:H b=some (.tup (k.map kV)))(a:RelV y u):
  KT H (putK kvs k y) (storedH xs k b u):=by
 have e:(kvs.any λc=>decide (c.1=k))=(atKey xs k).isSome:=by
  rw[CV,(r.val k).mh,isSome_map]
 unfold putK storedH;rw[e];by_cases q:(atKey xs k).isSome=true
 .rw[if_pos q,if_pos q];exact r.repl k a
 .rw[if_neg q,if_neg q];exact Paired.snoc r ⟨rfl,hb,a⟩
theorem KT.keeps{H H':Hp}{kvs:List (List Key×V)}{xs:List (List Key×Addr×Value)}(r:KT H kvs xs)(a:∀b ys,H b=some (.tup ys)->H' b=some (.tup ys)):KT H' kvs xs:=
 Paired.iy r λ_ _ z=>⟨z.1,a _ _ z.2.1,z.2.2⟩
section
variable{P:Program}{w:World}{H:Hp}{h:Heap}{a:Addr}
theorem AN{u:HO}(ok:bW P w H h)(e:Rd H a u):bw P w H h a u:=e.ok ok
theorem jx{kvs:List (Key×V)}(ok:bW P w H h)(e:Rd H a (.dK kvs)):kvs.length<=sizeLine/\(a==sysModules)=false/\∃vs,KV kvs vs/\h.DictOf (cg P w) a vs:=
 show bw P w H h a (.dK kvs) from AN ok e
theorem oj{kvs:List (Key×V)}(ok:bW P w H h)(e:H a=some (.dK kvs)):kvs.length<=sizeLine/\(a==sysModules)=false/\∃vs,KV kvs vs/\h.DictOf (cg P w) a vs:=jx ok (.inl e)
theorem mq{ks:List Key}(ok:bW P w H h)(e:H a=some (.tup (ks.map kV))):(tupleKind (cg P w)).is h ks a:=by
 obtain⟨_,its,r,p⟩:=(show bw P w H h a (.tup (ks.map kV)) from ok a _ e);obtain⟨o,h1,h2,n,b⟩:=p.is;exact⟨o,its.toArray,n,h1,h2,b,by simpa using zd r⟩
theorem lY{kvs:List (List Key×V)}(ok:bW P w H h)(e:Rd H a (.dT kvs)):kvs.length<=sizeLine/\(a==sysModules)=false/\
  ∃xs,KT H kvs xs/\h.DictOfH (tupleKind (cg P w)) a xs:=by
 obtain⟨z,y,xs,r,o,es,ep,h1,h2,c,d,f⟩:=(show bw P w H h a (.dT kvs) from AN ok e);refine⟨z,y,xs,r,o,es,ep,h1,h2,c,d,λx hx=>?_,f⟩;have all:∀{l:List (List Key×V)} {m:List (List Key×Addr×Value)},KT H l m->∀x∈m,(tupleKind (cg P w)).is h x.1 x.2.1:=by
  intro l m q;induction q with
  |nil=>intro x hx;exact nomatch hx
  | @cons p q ps qs b t g=>
   intro x hx;rcases mem_cons.mp hx with e|hx
   .subst e
    exact mq ok (by rw[<-b.1];exact b.2.1)
   .exact g x hx
 exact all r x hx
theorem FA{kvs:List (List Key×V)}(ok:bW P w H h)(e:H a=some (.dT kvs)):kvs.length<=sizeLine/\(a==sysModules)=false/\
 ∃xs,KT H kvs xs/\h.DictOfH (tupleKind (cg P w)) a xs:=lY ok (.inl e)
end
def jR(H:Hp)(a:Addr)(y:V)(r:Option V):Prop:=
 (∃kvs k,Rd H a (.dK kvs)/\y=kV k/\r=cX kvs k)\/∃kvs k b,Rd H a (.dT kvs)/\y=.ref b/\H b=some (.tup (k.map kV))/\r=cX kvs k
def k_(H:Hp)(a:Addr)(y v:V)(H':Hp):Prop:=
 (∃kvs k,H a=some (.dK kvs)/\y=kV k/\kvs.length<sizeLine/\H'=upd H a (.dK (putK kvs k v)))\/
 ∃kvs k b,H a=some (.dT kvs)/\y= .ref b/\H b=some (.tup (k.map kV))/\kvs.length<sizeLine/\H'=upd H a (.dT (putK kvs k v))
theorem k_.k{H:Hp}{a:Addr}{kvs:List (Key×V)}{k:Key}{v:V}(e:H a=some (.dK kvs))(b:kvs.length<sizeLine):k_ H a (kV k) v (upd H a (.dK (putK kvs k v))):=.inl ⟨kvs,k,e,rfl,b,rfl⟩
section
variable{X:Cx}{pins:aK}{σ:St}{H:Hp}{s:Shared}{a:Addr}{y v:V}{u r:Value}{o:Option V}{A:Around}{E:aE}
theorem Inv.big(I:Inv X pins σ H s):sysModules<s.heap.objs.size:=by
 have h:mainGlobals<s.heap.objs.size:=(I.mod.glob.keeps I.bk).lt;exact lt_trans (by decide) h
theorem EN{Q:aE}(n:A.units+1<cLine)(I:Inv X pins σ H s)(g:jR H a y (some v))(m:RelV y u)(h:∀d s',Inv X pins σ H s'->RelV v d->Q d s'):
  wpAny (model X.prog X.w) A (getItem (.ref a) u) Q E s:=by
 rcases g with⟨kvs,k,e,f,l⟩|⟨kvs,k,b,e,f,q,l⟩
 .subst f
  obtain⟨z,hd,vs,rel,dd⟩:=jx I.hok e;obtain⟨d,i,c⟩:=fV.some_of (v:=v) (o:=valueAt vs k) (by rw[l];exact rel.val k);exact wpAny_getItem_of (jD m) dd.mapOf i (h d _ (I.tok _) c)
 .subst f
  cases (show u=Value.ref b from m);obtain⟨z,hd,xs,rel,dd⟩:=lY I.hok e;obtain⟨d,i,c⟩:=fV.some_of (v:=v) (o:=(atKey xs k).map (·.2)) (by rw[l];exact rel.val k);obtain⟨p,r,j⟩:=Option.map_eq_some_iff.mp i;refine wpAny_getItem_heap (tupleKind_room_in1 n) (mq I.hok q) dd r ?_;rw[j];exact h d _ (I.tok _) c
theorem ER{Q:aE}(f:A.units+1<cLine)(I:Inv X pins σ H s)(g:jR H a y o)(d:RelV y u)(h:∀s',Inv X pins σ H s'->Q (.bool o.isSome) s'):
  wpAny (model X.prog X.w) A (compareOp .In u (.ref a)) Q E s:=by
 rcases g with⟨kvs,k,e,c,l⟩|⟨kvs,k,b,e,c,i,l⟩
 .subst c
  obtain⟨z,hd,vs,rel,dd⟩:=jx I.hok e;refine wpAny_in_of (jD d) hd dd.mapOf ?_;rw[<-(rel.val k).mh,<-l];exact h _ (I.tok _)
 .subst c
  cases (show u=Value.ref b from d);obtain⟨z,hd,xs,rel,dd⟩:=lY I.hok e;refine wpAny_in_heap (tupleKind_room_in1 f) (mq I.hok i) hd dd ?_;have q:=(rel.val k).mh;rw[isSome_map] at q;rw[<-q,<-l];exact h _ (I.tok _)
theorem E1{Q:aE}(f:A.units+1<cLine)(I:Inv X pins σ H s)(g:jR H a y o)(d:RelV y u)(h:∀s',Inv X pins σ H s'->Q (.bool (!o.isSome)) s'):
  wpAny (model X.prog X.w) A (compareOp .NotIn u (.ref a)) Q E s:=by
 rcases g with⟨kvs,k,e,c,l⟩|⟨kvs,k,b,e,c,i,l⟩
 .subst c
  obtain⟨z,hd,vs,rel,dd⟩:=jx I.hok e;refine wpAny_notIn_of (jD d) hd dd.mapOf ?_;rw[<-(rel.val k).mh,<-l];exact h _ (I.tok _)
 .subst c
  cases (show u=Value.ref b from d);obtain⟨z,hd,xs,rel,dd⟩:=lY I.hok e;refine wpAny_notIn_heap (tupleKind_room_in1 f) (mq I.hok i) hd dd ?_;have q:=(rel.val k).mh;rw[isSome_map] at q;rw[<-q,<-l];exact h _ (I.tok _)
theorem n9{h':Heap}{t':Nat}{c:HO}(I:Inv X pins σ H s)(d:lu (H a))(f:SameBut a s.heap h')(g:∃q,h'.get? a=some q)(new:bw X.prog X.w (upd H a c) h' a c):
  Inv X pins σ (upd H a c) {s with heap:=h',toks:=t'}:=
 I.write (x:=a) (e:=a) d (.inl rfl) (λb q hb z=>(f.2 b hb).trans z) g new
theorem sC{P:Program}{w:World}{H':Hp}{h':Heap}{kvs:List (Key×V)}{vs:List (Key×Value)}(z:kvs.length<=sizeLine)(hd:(a==sysModules)=false)(rel:KV kvs vs)(dd:h'.DictOf (cg P w) a vs):
 bw P w H' h' a (.dK kvs):=⟨z,hd,vs,rel,dd⟩
theorem E2{H':Hp}{Q:Unit->Shared->Prop}(B:A.units+1<cLine)(I:Inv X pins σ H s)(g:k_ H a y v H')(o:RelV y u)(p:RelV v r)(h:∀s',Inv X pins σ H' s'->Q () s'):
  wpAny (model X.prog X.w) A (setItem (.ref a) u r) Q E s:=by
 rcases g with⟨kvs,k,e,i,l,j⟩|⟨kvs,k,b,e,i,t,l,j⟩
 .subst i j
  obtain⟨z,hd,vs,rel,dd⟩:=oj I.hok e;have hz:vs.length<=sizeLine:=by rw[<-rel.length];exact z
  have m:(putK kvs k v).length<=sizeLine:=by have:=tL kvs k v;omega
  refine wpAny_setItem_pairs (hsz:=hz) (jD o) dd λh' d n=>h _ ?_;have C:∃q,h'.get? a=some q:=let ⟨q,_,_,f,_⟩:=d;⟨q,f⟩;exact n9 I (by rw[e];exact True.intro) n C (sC m hd (rel.put k p) d)
 .subst i j
  cases (show u=Value.ref b from o);obtain⟨z,hd,xs,rel,dd⟩:=FA I.hok e;have hz:xs.length<=sizeLine:=by rw[<-Paired.length rel];exact z
  have m:(putK kvs k v).length<=sizeLine:=by have:=tL kvs k v;omega
  refine wpAny_setItem_heap (hsz:=hz) (tupleKind_room_in1 B) (mq I.hok t) dd λh' d n=>h _ ?_;obtain⟨q,es,ep,f,h2,D,F,_,G⟩:=d;refine n9 I (by rw[e];exact True.intro) n ⟨q,f⟩ ⟨m,hd,_,(rel.put k t p).keeps λc ys x=>?_,q,es,ep,f,h2,D,F,G⟩;rw[aS (JI x e (λz=>nomatch z))];exact x
end
section
variable{X:Cx}{pins:aK}{σ:St}{H:Hp}{s:Shared}{a:Addr}{kvs:List (Key×V)}{k:Key}{u:Value}{A:Around}{E:aE}
theorem dY{Q:aE}(I:Inv X pins σ H s)(e:Rd H a (.dK kvs))(h:∀t s',Inv X pins σ H s'->Q (.int kvs.length t) s'):wpAny (model X.prog X.w) A (call (.builtin "len") [.ref a]) Q E s:=by
 obtain⟨z,hd,vs,rel,dd⟩:=jx I.hok e;refine call_len_dict hd dd (by rw[<-rel.length];rw[sizeLine_eq] at z;omega) ?_;rw[<-rel.length];exact h _ _ (I.tok _)
end
theorem Fq{X:Cx}{pins:aK}{σ:St}{H:Hp}{s:Shared}{a:Addr}{y:V}{o:Option V}(I:Inv X pins σ H s)(g:jR H a y o):s.TypeIs (.ref a) "dict":=by
 rcases g with⟨kvs,k,e,_,_⟩|⟨kvs,k,b,e,_,_,_⟩
 .obtain⟨_,_,vs,_,dd⟩:=jx I.hok e
  exact dd.typeIs
 .obtain⟨_,_,xs,_,dd⟩:=lY I.hok e
  exact dd.typeIs
def Mh(td ty tv:TE):TS:=λD σ H=>tv σ H λv H1=>td σ H1 λx H2=>ty σ H2 λy H3=>∃a H4,x=.ref a/\k_ H3 a y v H4/\D.nx σ H4
section
variable{X:Cx}{o i e value:Expr}{pos pos' tpos:Pos}{td ty tv:TE}
theorem Lw(b:X.A.units+1<cLine)(c:PE X o td)(hi:PE X i ty)(d:PE X value tv)(e:swapsWith value (some (.Subscript o i pos')) pos.line X.env=pure false):
  PS X (.Assign [.Subscript o i pos'] value pos) (Mh td ty tv):=by
 intro pins s σ H D I h;refine wpAny_Assign_Subscript (aF (d pins s σ H _ I h) λr f ⟨v,H1,j,k,l⟩=>aF (c pins f σ H1 _ j l) λu m ⟨x,H2,n,p,q⟩=>aF (hi pins m σ H2 _ n q) λE F ⟨y,G,t,w,a,z,ex,g,B⟩=>?_) e;subst ex;obtain rfl:u=Value.ref a:=p;exact E2 b t g w k λs4 C=>⟨σ,z,C,B⟩
end
theorem xT{P:Program}{w:World}{H:Hp}(h:Heap)(hb:sysModules<h.objs.size):bw P w H (h.push {cls:=.type "dict",data:=.dict #[]}) h.objs.size (.dK []):=
 ⟨zero_le _,beq_eq_false_iff_ne.mpr (Ne.symm (ne_of_lt hb)),[],.nil,DictOf.new h⟩
def NF:TE:=λ_ H Q=>∀p,H p=none->Q (.ref p) (upd H p (.dK []))
section
variable{X:Cx}{pos:Pos}
theorem KS:PE X (.Dict [] [] pos) NF:=λpins s σ H Q I h=>
 wpAny_Dict_empty ⟨.ref s.heap.objs.size,_,I.laid (a:=s.heap.objs.size) (o:=.dK []) (t':=s.toks) (λ_ _ q=>get?_push_of_some _ q) (le_refl _) (xT s.heap I.big),rfl,h _ (I.hok.fresh (le_refl _))⟩
end
def uV:List (TE×TE)->St->Hp->(List (V×V)->Hp->Prop)->Prop
 |[],_,H,Q=>Q [] H
 |(tk,tv)::r,σ,H,Q=>tk σ H λx H1=>tv σ H1 λy H2=>uV r σ H2 λps H3=>Q ((x,y)::ps) H3
abbrev VV:List (V×V)->List (Value×Value)->Prop:=Paired λp q=>RelV p.1 q.1/\RelV p.2 q.2
def nM(X:Cx)(pos:Pos)(keys:List (Option Expr))(values:List Expr)(uZ:List (TE×TE)):Prop:=
 ∀(pins:aK) (s:Shared) (σ:St) (H:Hp) (Q:List (V×V)->Hp->Prop),Inv X pins σ H s->uV uZ σ H Q->
  wpAny (model X.prog X.w) X.A (evalPairs (pairTrees keys values X.env pos)) (λvs s'=>∃ps H',Inv X pins σ H' s'/\VV ps vs/\Q ps H') X.xe s
theorem Lr{X:Cx}{pos:Pos}:nM X pos [] [] []:=λpins s σ H Q I h=>pairTrees_nil_walk ⟨[],H,I,.nil,h⟩
theorem Lq{X:Cx}{pos:Pos}{k v:Expr}{ks:List (Option Expr)}{vs:List Expr}{tk tv:TE}{a:List (TE×TE)}(b:PE X k tk)(c:PE X v tv)(d:nM X pos ks vs a):
  nM X pos (some k::ks) (v::vs) ((tk,tv)::a):=λpins s σ H Q I h=>
 pairTrees_cons_walk (aF (b pins s σ H _ I h) λu e ⟨x,H1,f,g,i⟩=>aF (c pins e σ H1 _ f i) λr j ⟨y,H2,l,m,n⟩=>
  aF (d pins j σ H2 _ l n) λws t ⟨ps,o,p,rel,q⟩=>⟨(x,y)::ps,o,p,.cons ⟨g,m⟩ rel,q⟩)
def iz(kvs more:List (Key×V)):List (Key×V):=more.foldl (λacc kv=>putK acc kv.1 kv.2) kvs
theorem KV.merge:∀{a:List (Key×V)} {rs:List (Key×Value)} {kvs:List (Key×V)} {vs:List (Key×Value)},KV a rs->KV kvs vs->KV (iz kvs a) (merged vs rs):=by
 intro a rs kvs vs r;unfold KV at r;induction r generalizing kvs vs with
 |nil=>intro q;exact q
 | @cons p q ps qs h t b=>
  intro c;have e:KV (putK kvs p.1 p.2) (stored vs q.1 q.2):=by
   have:=c.put p.1 h.2;rw[<-h.1];exact this
  exact b e
theorem tK:∀(a kvs:List (Key×V)),(iz kvs a).length<=kvs.length+a.length
 |[],kvs=>by show kvs.length<=kvs.length+0;omega
 |p::r,kvs=>by
  have h1:=tK r (putK kvs p.1 p.2);have h2:=tL kvs p.1 p.2;show(iz (putK kvs p.1 p.2) r).length<=_;rw[length_cons];omega
theorem wL{P:Program}{w:World}:∀{kvs:List (Key×V)} {ws:List (Value×Value)},VV (kvs.map λd=>(kV d.1,d.2)) ws->∃rs,Carries (cg P w) ws rs/\KV kvs rs
 |[],_,r=>by rw[map_nil] at r;cases r;exact⟨[],True.intro,.nil⟩
 |p::kvs,_,r=>by
  rw[map_cons] at r;cases r with
  | @cons a b as bs h t=>
   obtain⟨rs,c,q⟩:=wL (P:=P) (w:=w) t;obtain⟨f,e⟩:=b;exact⟨(p.1,e)::rs,⟨jD h.1,rfl,c⟩,.cons ⟨rfl,h.2⟩ q⟩
def NG(uZ:List (TE×TE)):TE:=λσ H Q=>∀p,H p=none->uV uZ σ (upd H p (.dK [])) λps H2=>H2 p=some (.dK [])/\∃kvs:List (Key×V),ps=kvs.map (λkv=>(kV kv.1,kv.2))/\kvs.length<=15/\Q (.ref p) (upd H2 p (.dK (iz [] kvs)))
theorem KR{X:Cx}{pos:Pos}{keys:List (Option Expr)}{values:List Expr}{b:List (TE×TE)}(h:nM X pos keys values b)(d:keys.all (·.isSome)=true)(j:keys.length=values.length)(h0:keys≠[])
  (g:keys.length<=15):PE X (.Dict keys values pos) (NG b):=by
 intro pins s σ H Q I q;have k:=I.hok.fresh (le_refl s.heap.objs.size);have l:=I.laid (a:=s.heap.objs.size) (o:=.dK []) (h':=s.heap.push {cls:=.type "dict",data:=.dict #[]}) (t':=s.toks) (λ_ _ q=>get?_push_of_some _ q) (le_refl _) (xT s.heap I.big);refine wpAny_Dict_walk (knd:=cg X.prog X.w) d j h0 g (aF (h pins _ σ _ _ l (q _ k)) λws x ⟨ps,H2,i,rel,e,kvs,ep,lk,m⟩=>?_);subst ep;obtain⟨rs,c,n⟩:=wL (P:=X.prog) (w:=X.w) rel;obtain⟨z,hd,p,r,dd⟩:=oj i.hok e;cases r;refine⟨rs,c,dd,λh' f t=>⟨.ref s.heap.objs.size,_,?_,rfl,m⟩⟩;have hz:(iz [] kvs).length<=sizeLine:=by
  have h1:=tK kvs [];rw[length_nil] at h1;rw[sizeLine_eq];omega
 have u:∃q,h'.get? s.heap.objs.size=some q:=let ⟨q,_,_,v,_⟩:=f;⟨q,v⟩;exact n9 i (by rw[e];exact True.intro) t u (sC hz hd (n.merge .nil) f)
section
variable{X:Cx}{pins:aK}{σ:St}{H:Hp}{s:Shared}{a:Addr}{y d:V}{u r:Value}{o:Option V}{A:Around}{E:aE}
end
section
variable{X:Cx}{o e f:Expr}{apos cpos:Pos}{td ty tx:TE}
end
section
variable{X:Cx}{pins:aK}{σ:St}{H:Hp}{s:Shared}{a:Addr}{kvs:List (Key×V)}{A:Around}{E:aE}
end
section
variable{X:Cx}{pins:aK}{σ:St}{H:Hp}{s:Shared}{a:Addr}{y:V}{u:Value}{A:Around}{E:aE}
end
end L2
end
namespace vg
open PySem PySem.W PySem.Calls PyProof.Rows
theorem HW{P:Params}{h:Heap}:∀(ns:List Int) (vs:List Value),WellAll P h vs (ns.map WData.int)->IntsAre vs ns:=by
 intro ns;induction ns with
 |nil=>
  intro vs w;rw[map_nil] at w;cases w;exact .nil
 |cons n ns c=>
  intro vs w;rw[map_cons] at w;cases w with
  |cons a b=>
   cases a;exact .cons _ _ (c _ b)
theorem MY{l:OpenLaw}{n:Nat}(k:l.most=some n){P:Params}{h:Heap}{args:List WData}{vals:List Value}
  (b:l.row.toRowW.claim.pre args=true)(i:WellAll P h vals args):
  ∃a vs ns,vals=[Value.ref a]/\args=[WData.list (ns.map WData.int)]/\h.get? a=some {cls:=.type "list",data:=.seq vs.toArray}/\IntsAre vs ns/\ns.length<=n:=by
 have j:WShape.hasAll [] args [.list .int]=true:=(pre_splitW b).1;have hc:l.pre.holds [] {args:=args}=true:=(pre_splitW b).2;obtain⟨d,r,rfl,h1,h2⟩:=hasAllW_cons j;obtain rfl:=hasAllW_nil h2;obtain⟨xs,rfl,m⟩:=hasW_list h1;obtain⟨ns,rfl⟩:=items_int m;have c:ns.length<=n:=by
  unfold OpenLaw.pre at hc;have f:(WTm.not (.lt (.lit (.int (n:Int))) (.len (.arg 0)))).holds [] {args:=[.list (ns.map .int)]}=true:=by
   have f:=(holds_andW hc).1;rw[k] at f;exact f
  have g:=condW_of f (w_not (w_lt w_lit (w_len_list (w_arg rfl))));rw[length_map] at g;refine Nat.le_of_not_lt λq=>?_;have o:(n:Int)<((ns.length:Nat):Int):=by omega
  first
   |(rw[decide_eq_true o] at g;exact absurd g (by decide))
   |(simp at g;omega)
 cases i with
 |cons p s=>
  cases s;cases p with
  |list t e=>exact⟨_,_,ns,rfl,rfl,t,HW ns _ e,c⟩
theorem Lm(l:OpenLaw)(args:List WData):l.row.toRowW.claim.post args (.bool true) args=true:=
 postW_of (r:=l.row.toRowW) (X:=(true==true))
  (show WShape.has [] (.bool true) .bool=true by first|rfl|decide|simp[WShape.has,WShape.arms,WShape.armsAll])
  (show(WTm.eq .res (.lit (.bool true))).value [] {args:=args,res:=some (.bool true),after:=args}=some (.bool (true==true)) from w_eq_bool (w_res rfl) w_lit) rfl
theorem DR{l:OpenLaw}{n:Nat}{q:Program}{loose:List Str}{p:(aj)->Heap->Prop}{s:World->Heap->Prop}{d:DefRec}
  (v:l.most=some n)(i:d.params.defaults=[])
  (call:∀(w:World) (s₀ b:Shared) (mg mb:aj) (c:Addr) (o:Obj) (pm cd doc:Value) (a:Addr) (vs:List Value) (ns:List Int),
   Ground q loose [] p w s₀ mg mb b.heap->s w b.heap->
   b.heap.get? c=some o->o.data= .func (docDef d.name d.params d.body d.scope pm cd doc)->b.heap.CodeRec cd d.name->mg d.name=some (.ref c)->
   b.heap.get? a=some {cls:= .type "list",data:= .seq vs.toArray}->IntsAre vs ns->ns.length<=n->b.gens= #[]->
   codeAny (model l.prog w) callerA (.call (.ref c) ⟨[.ref a],[]⟩) (λr s'=>r= .ok (.ret (.bool true))/\OldK b.heap s'.heap/\s'.os=b.os/\AllBare s'.gens) b):
  WalkO q loose p s l.row.toRowW d [] (λf vs=>PySem.call f vs):=by
 intro w s₀ b mg mb G Y c o pm cd doc x kV y hd j t k z args vals as e u A m B
 obtain rfl:x= .none:=Dflts.none t i
 obtain rfl:kV= .none:=Dflts.noKw t
 obtain⟨a,vs,ns,rfl,rfl,g,hints,h⟩:=MY v e m
 refine enter_call (codeAny_mono (call w s₀ b mg mb c o pm cd doc a vs ns G Y y (fd_plain hd) j k g hints h z) λr s' C=> ?_)
 obtain⟨rfl,h2,D,E⟩:=C
 exact⟨.inl ⟨.bool true,.bool true,[],rfl,λ_=>rfl,.bool true,Lm l _,λ_=>⟨Pairwise.nil,λ_ F=>(nomatch F)⟩⟩,h2,D,E⟩
section
variable{prog:Program}{w:World}{A:Around}{E:aE}{s:Shared}{K:Frag}
end
end vg
section
open PySem PySem.Spec PyProof.Rows
namespace L2
theorem CW:∀{vs:List Value} {ns:List Int},IntsAre vs ns->Vals (ns.map V.int) vs
 |_,_,.nil=>.nil
 |_,_,.cons n t h=>.cons ⟨t,rfl⟩ (CW h)
def nL(H:Hp):Prop:=∀b,H b=none\/∃o xs,H b=some (.bh o (.lst xs))
theorem IY{P:Program}{w:World}{K:PySem.W.Frag}{mg mb:aj}{CX:fT}{k:Nat}{B a:Addr}{fd:FuncData}{x:Str}{sp:Sp}{c:Shared}{vs:List Value}{ns:List Int}
  (L:K.In c.heap)(j:c.heap.Ns mainGlobals mg)(hb:c.heap.Ns builtinsNs mb)(C:∀x:Str,x≠"__name__"->mb x=bootBuiltins x)(l:c.heap.NoLimit)(S:c.gens= #[])
  (ha:c.heap.get? a=some {cls:= .type "list",data:= .seq vs.toArray})(hi:IntsAre vs ns)(M:ns.length<=sizeLine)(T:cH k callerA)
  (F:∀base:Heap,K.In base->base.Ns mainGlobals mg->eO P w K mg base CX k B fd [x] sp)(i:∀(s:Shared) (u:Value),BindsTo s fd ⟨[u],[]⟩ [(x,u)])
  (D:∀H:Hp,nL H->aO K H a (ns.map V.int)->sp [.ref a] H (λv _=>v= .bl true) λ_ _ _=>False)
  (E:∀H e s',CX [] H c (λ_ _ _=>False) e s'->False):
  codeAny (model P w) callerA (.call (.ref B) ⟨[.ref a],[]⟩) (λr s'=>r= .ok (.ret (.bool true))/\OldK c.heap s'.heap/\s'.os=c.os/\AllBare s'.gens) c:=by
 have N:=CW hi
 have p:=hi.length
 have core:∀H:Hp,nL H->aO K H a (ns.map V.int)->bW P w H c.heap->(∀b,H b≠none->b=a)->(H a≠none->K.lookup a=none)->
   codeAny (model P w) callerA (.call (.ref B) ⟨[.ref a],[]⟩) (λr s'=>r= .ok (.ret (.bool true))/\OldK c.heap s'.heap/\s'.os=c.os/\AllBare s'.gens) c:=by
  intro H O U hok Q X
  have f:∀{b:Addr} {o:Obj},c.heap.get? b=some o->H b=none->(iN c.heap H).get? b=some o:=λe n=>Hu e n
  have G:∀{b:Addr} {o:Obj} {es:Array DictEntry} {ep:Nat},c.heap.get? b=some o->o.data= .dict es ep->H b=none:=λ {b o es ep} e d=>by
   cases q:H b with
   |none=>rfl
   |some u=>
    have I:b=a:=Q b (by rw[q];simp)
    subst I
    rw[ha] at e;cases e
    have d':Data.seq vs.toArray _=Data.dict es ep:=d
    cases d'
  have g:∀{b:Addr} {m:aj},c.heap.Ns b m->(iN c.heap H).Ns b m:=λ {b m} ⟨o,es,ep,e,d,r⟩=>⟨o,es,ep,f e (G e d),d,r⟩
  have t:K.In (iN c.heap H):=λb o e=>f (L b o e) (by
   cases q:H b with
   |none=>rfl
   |some u=>
    have I:b=a:=Q b (by rw[q];simp)
    subst I
    rw[X (by rw[q];simp)] at e;cases e)
  have Y:Mod K mg (iN c.heap H):=⟨t,g j,⟨mb,g hb,C⟩,let ⟨mc,h1,h2⟩:=l;⟨mc,g h1,h2⟩⟩
  have Z:nF P w K mg (iN c.heap H) callerA [] c H:=⟨rfl,Y,λb o e=>J4 e,Nat.le_of_eq (Hv _ _),trivial,λb hb=>absurd (show b∈([]:List Addr) from hb) (by simp),hok,.of_eq S⟩
  refine codeAny_mono ((F _ t (g j)).run callerA [] c H ⟨[.ref a],[]⟩ [.ref a] [.ref a] _ _ T Z (i c (.ref a)) (.cons rfl .nil) (D H O U)) λr s' h=> ?_
  cases r with
  |error e=>exact(E H e s' h).elim
  |ok fl=>
   cases fl with
   |next=>exact False.elim h
   |brk=>exact False.elim h
   |cont=>exact False.elim h
   |ret u=>
    obtain⟨v,H',os,bare,un,y,r',q⟩:=h
    have q':v= .bl true:=q
    subst q'
    obtain rfl:u=Value.bool true:=r'
    refine⟨rfl,OldK.of_keep λb o e=> ?_,os,bare⟩
    cases q:H b with
    |none=>exact un.keep b o e q (by intro z;exact absurd (show b∈([]:List Addr) from z) (by simp)) (by simp)
    |some u=>
     rcases O b with z|⟨ob,xs,z⟩
     .rw[q] at z;cases z
     .have z2:=un.eF b ob _ z
      obtain⟨R,_⟩:=hok b _ z
      obtain⟨e2,_⟩:=y b _ z2
      rw[e] at R;cases R
      exact e2
 cases J:K.lookup a with
 |some o=>
  have e:=L a o J
  rw[ha] at e
  cases e
  refine core (λ_=>none) (λ_=> .inl rfl) (.inr ⟨_,vs.toArray,_,J,rfl,rfl,rfl,by rw[size_toArray,p];exact M,by simpa using N⟩) (λb u z=>by have A:(none:Option HO)=some u:=z;cases A) (λb z=>absurd rfl z) λz=>absurd rfl z
 |none=>
  refine core (λb=>if b=a then some (.bh {cls:= .type "list",data:= .seq vs.toArray} (.lst (ns.map V.int))) else none) (λb=> ?_) (.inl (.inr ⟨{cls:= .type "list",data:= .seq vs.toArray},if_pos rfl⟩)) (λb u z=> ?_) (λb z=> ?_) λ_=>J
  .by_cases hb:b=a
   .exact .inr ⟨_,_,if_pos hb⟩
   .exact .inl (if_neg hb)
  .by_cases hb:b=a
   .have A:=(if_pos hb).symm.trans z
    cases A
    subst hb
    exact⟨ha,by rw[length_map];exact M,vs,_,N,ha⟩
   .have A:=(if_neg hb).symm.trans z
    cases A
  .by_cases hb:b=a
   .exact hb
   .exact absurd (if_neg hb) z
theorem OI{l:PySem.W.OpenLaw}{n k:Nat}{q:Program}{loose:List Str}{C:(aj)->Heap->Prop}{A:World->Heap->Prop}{d:DefRec}{K:Params->PySem.W.Frag}{CX:World->fT}{sp:World->Sp}{x:Str}
  (D:l.most=some n)(p:n<=sizeLine)(r:d.params.defaults=[])(E:cH k callerA)
  (I:∀(w:World) (h:Heap),A w h->(K w.params).In h)
  (F:∀(w:World) (mg:aj) (m:Addr) (h:Heap),(K w.params).In h->h.Ns mainGlobals mg->mg d.name=some (.ref m)->
   ∃fd:FuncData,(∀(s:Shared) (u:Value),BindsTo s fd ⟨[u],[]⟩ [(x,u)])/\
    ∀base:Heap,(K w.params).In base->base.Ns mainGlobals mg->eO l.prog w (K w.params) mg base (CX w) k m fd [x] (sp w))
  (t:∀(w:World) (H:Hp) (a:Addr) (ns:List Int),ns.length<=n->nL H->aO (K w.params) H a (ns.map V.int)->sp w [.ref a] H (λv _=>v= .bl true) λ_ _ _=>False)
  (y:∀(w:World) (H:Hp) (s:Shared) (e:Value) (s':Shared),CX w [] H s (λ_ _ _=>False) e s'->False):
  PySem.W.WalkO q loose C A l.row.toRowW d [] (λf vs=>PySem.call f vs):=by
 refine vg.DR D r λw s₀ i mg mb m o pm cd doc a vs ns G Y P hd J z j hints c L=> ?_
 have B:=I w _ Y
 obtain⟨fd,hb,M⟩:=F w mg m _ B G.T.g z
 exact IY B G.T.g G.T.b G.T.builtins G.T.nolimit L j hints (le_trans c p) E M hb (λH N O=>t w H a ns c N O) λH e s'=>y w H i e s'
def i6(s:Stmt):Arguments:=match s with
 |.FunctionDef _ a _ _ _ _ _ _ _ _=>a
 |_=>{posonlyargs:=[],args:=[],vararg:=none,kwonlyargs:=[],kw_defaults:=[],kwarg:=none,defaults:=[]}
def fm(s:Stmt):List Stmt:=match s with
 |.FunctionDef _ _ b _ _ _ _ _ _ _=>b
 |_=>[]
def aI(s:Stmt):Scope:=match s with
 |.FunctionDef _ _ _ _ _ _ sc _ _ _=>sc
 |_=>{kind:=.function,names:=[],isGenerator:=false,isCoroutine:=false}
structure iJ(K:PySem.W.Frag)(x qual:Str)(st:Stmt)(f:Addr)(fd:FuncData):Prop where
 ex:∃(oc:Value) (od:Option Addr) (kV doc pm:Value) (an:Option Addr) (cdv ct:Value) (osl:Array (Option Value)),
  fd=fnOf x qual (i6 st) (fm st) (aI st) .none kV doc pm an cdv ct/\K.lookup f=some ⟨oc,od,.func fd,osl⟩/\codeIn K cdv qual=true
 kp:keepIn K (.ref f)=true
section
variable{P:Program}{w:World}{K:PySem.W.Frag}{mg:aj}{base:Heap}
theorem iJ.binds{x qual:Str}{st:Stmt}{f:Addr}{fd:FuncData}{ps:List Str}(F:iJ K x qual st f fd)
  (h:∀(kV doc pm:Value) (an:Option Addr) (a ct:Value) (b:List Value),b.length=ps.length->bindArgs (fnOf x qual (i6 st) (fm st) (aI st) .none kV doc pm an a ct) ⟨b,[]⟩=pure (ps.zip b)):Binds K fd ps []:=by
 obtain⟨e,g,kV,doc,pm,an,a,ct,c,rfl,lk,d⟩:=F.ex;exact .all (h kV doc pm an a ct)
theorem sO{x qual:Str}{st:Stmt}{f:Addr}{d:Value}{e an:Option Addr}{b:Array (Option Value)}{kV doc pm a ct:Value}(l:K.lookup f=some ⟨d,e,.func (fnOf x qual (i6 st) (fm st) (aI st) .none kV doc pm an a ct),b⟩)
 (c:codeIn K a qual=true)(k:keepIn K (.ref f)=true):iJ K x qual st f (fnOf x qual (i6 st) (fm st) (aI st) .none kV doc pm an a ct):=⟨⟨d,e,kV,doc,pm,an,a,ct,b,rfl,l,c⟩,k⟩
end
section
variable{X:Cx}
theorem D7:c_ X (.builtin "len") (λxs H Q=>∃a kvs,xs=[V.ref a]/\H a=some (.dK kvs)/\Q (.int kvs.length) H):=by
 intro pins s σ H xs d Q I r h;obtain⟨a,kvs,rfl,ha,q⟩:=h;obtain⟨u,rfl,b⟩:=vals1 r;cases b;exact dY I (.inl ha) λt s' c=>⟨.int kvs.length,H,c,⟨t,rfl⟩,q⟩
end
theorem Ib{A B:Prop}(h:B):if false=true then A else B:=by
 rw[if_neg Bool.false_ne_true];exact h
theorem Ic{A B:Prop}(h:A):if true=true then A else B:=by
 rw[if_pos rfl];exact h
def h_(H H':Hp):Prop:=∀b o,H b=some o->H' b=some o
section
variable{κ:Type}[DecidableEq κ]
end
end L2
end
namespace PySem
open Sem (wp)
namespace ZL
abbrev gX(h:Heap)(z TI TO:Addr)(f0 f1:Value):Prop:=
 h.get? z=some {cls:=.type "zip",dict:=none,data:=.fields #[f0,f1,.bool false,.ref TI,.ref TO],slots:= #[]}
section
variable{prog:Program}{w:World}{A:Around}{E:aE}{s:Shared}
theorem OQ{z TI TO i1 i2 l1 l2 T:Addr}{F:Obj}{m:Bool}{k1 k2:Nat}{xs ys:Array Value}{x y:Value}{Q:aE}(D:ZipApart z TI TO i1 i2 l1 l2)
  (hz:gX s.heap z TI TO (rawInt T) (.bool m))(H:s.heap.get? T=some F)(I:T≠z)(n:IsPair s.heap TI (.ref i1) (.ref i2))
  (h1:s.heap.IsListIter i1 l1 k1)(h2:s.heap.IsListIter i2 l2 k2)(q:s.heap.IsList l1 xs)(t:s.heap.IsList l2 ys)(J:xs[k1]? =some x)(K:ys[k2]? =some y)
  (L:∀h',gX h' z TI TO (rawInt T) (.bool true)->h'.IsListIter i1 l1 (k1+1)->h'.IsListIter i2 l2 (k2+1)->IsPair h' s.heap.objs.size x y->h'.objs.size=s.heap.objs.size+1->
   (∀c o,c≠z->c≠i1->c≠i2->s.heap.get? c=some o->h'.get? c=some o)->Q (.ref s.heap.objs.size) {s with heap:=h'}):
  wpAny (model prog w) A (Builtin.«zip.__next__» ⟨[.ref z],[]⟩) (λfin s'=>∃v,fin= .done (.ret v)/\Q v s') E s:=by
 show wpAny _ _ (field (.ref z) 2>>=_) _ _ _
 refine wpAny_bind (wpAny_field hz rfl (x:= .bool false) rfl ?_)
 show wpAny _ _ (field (.ref z) 3>>=_) _ _ _
 refine wpAny_bind (wpAny_field hz rfl (x:= .ref TI) rfl ?_)
 refine wpAny_bind (wpAny_seqItems n rfl ?_)
 show wpAny _ _ (Builtin.SmallTypes.ownedTupleIsFree (.ref z)>>=_) _ _ _
 have first:wpAny (model prog w) A (Builtin.SmallTypes.ownedTupleIsFree (.ref z)) (λb s'=>b=false/\∃f,s'={s with heap:=f}/\gX f z TI TO (rawInt T) (.bool true)/\SameBut z s.heap f) E s:=by
  unfold Builtin.SmallTypes.ownedTupleIsFree
  refine wpAny_bind (wpAny_field hz rfl (x:=rawInt T) rfl ?_)
  show wpAny _ _ (loadIfAlive ((T:Int)).toNat>>=_) _ _ _
  have M:∀{R:Option Obj->Shared->Prop},R (some F) s->wpAny (model prog w) A (loadIfAlive ((T:Int)).toNat) R E s:=λ {R} h=>by
   intro N p _
   unfold loadIfAlive
   rw[Sem.wp_loadIfAlive,Int.toNat_natCast,H]
   exact h
  refine wpAny_bind (M ?_)
  rw[if_neg (by simp)]
  refine wpAny_bind (wpAny_field hz rfl (x:= .bool m) rfl ?_)
  cases m with
  |true=>exact wpAny_pure ⟨rfl,s.heap,rfl,hz,.refl ..⟩
  |false=>
   show wpAny _ _ (setField (.ref z) 1 (.bool true)>>=_) _ _ _
   exact wpAny_bind (wpAny_setField_rec hz (by simp) λf i a=>wpAny_pure ⟨rfl,f,rfl,i,a⟩)
 refine wpAny_bind (wpAny_mono first (λb s' hb=> ?_) λ_ _ e=>e)
 obtain⟨rfl,f,rfl,i,a⟩:=hb
 show wpAny _ _ (forIn _ _ _>>=_) _ _ _
 refine wpAny_bind ?_
 rw[<-Array.forIn_toList]
 simp only[forIn_cons,forIn_nil]
 refine wpAny_bind (wpAny_bind (wpAny_holding ?_))
 show wpAny _ _ (Builtin.SmallTypes.nextOf (.ref i1)>>=_) _ _ _
 refine wpAny_bind (wpAny_nextOf_list_item (h1.extBut a.extBut D.i1z) (q.extBut a.extBut D.l1z) J λG k d=>wpAny_pure (wpAny_pure ?_))
 refine wpAny_bind (wpAny_bind (wpAny_holding ?_))
 show wpAny _ _ (Builtin.SmallTypes.nextOf (.ref i2)>>=_) _ _ _
 refine wpAny_bind (wpAny_nextOf_list_item ((h2.extBut a.extBut D.i2z).extBut d.extBut D.i12.symm) ((t.extBut a.extBut D.l2z).extBut d.extBut D.l2i1) K λj l g=>wpAny_pure (wpAny_pure (wpAny_pure ?_)))
 show wpAny _ _ (newTuple [x,y]>>=λr=>ret r) _ _ _
 have hsz:j.objs.size=s.heap.objs.size:=by rw[g.1,d.1,a.1]
 refine wpAny_bind (wpAny_newObj_type (wpAny_pure ⟨_,rfl,?_⟩) (by show 2<=sizeLine;decide))
 show Q (.ref j.objs.size) _
 rw[hsz]
 have up:∀c o,c≠z->c≠i1->c≠i2->s.heap.get? c=some o->j.get? c=some o:=λc o u B C e=>g.extBut _ _ C (d.extBut _ _ B (a.extBut _ _ u e))
 refine L _ (get?_push_of_some _ (g.extBut _ _ D.i2z.symm (d.extBut _ _ D.i1z.symm i))) ((k.extBut g.extBut D.i12).at λo e=>get?_push_of_some _ e) (l.at λo e=>get?_push_of_some _ e) ?_ (by rw[size_push,hsz]) λc o u B C e=>get?_push_of_some _ (up c o u B C e)
 rw[<-hsz]
 exact get?_push_size _ rfl
theorem KA{z TI TO T:Addr}{f:Obj}{e:Bool}(hz:gX s.heap z TI TO (rawInt T) (.bool e))(g:s.heap.get? T=some f):
  wpAny (model prog w) A (Builtin.SmallTypes.ownedTupleIsFree (.ref z)) (λb s'=>b=false/\∃a,s'={s with heap:=a}/\gX a z TI TO (rawInt T) (.bool true)/\SameBut z s.heap a) E s:=by
 unfold Builtin.SmallTypes.ownedTupleIsFree;refine wpAny_bind (wpAny_field hz rfl (x:=rawInt T) rfl ?_);show wpAny _ _ (loadIfAlive ((T:Int)).toNat>>=_) _ _ _;have i:∀{R:Option Obj->Shared->Prop},R (some f) s->wpAny (model prog w) A (loadIfAlive ((T:Int)).toNat) R E s:=λ {R} h=>by
  intro j p _;unfold loadIfAlive;rw[Sem.wp_loadIfAlive,Int.toNat_natCast,g];exact h
 refine wpAny_bind (i ?_);rw[if_neg (by simp)];refine wpAny_bind (wpAny_field hz rfl (x:=.bool e) rfl ?_);cases e with
 |true=>exact wpAny_pure ⟨rfl,s.heap,rfl,hz,.refl ..⟩
 |false=>
  show wpAny _ _ (setField (.ref z) 1 (.bool true)>>=_) _ _ _;exact wpAny_bind (wpAny_setField_rec hz (by simp) λa c d=>wpAny_pure ⟨rfl,a,rfl,c,d⟩)
theorem OO{z TI TO i1 i2 l1 l2 T:Addr}{C:Obj}{F:Bool}{k1 k2:Nat}{xs ys:Array Value}{Q:Fin->Shared->Prop}(v:A.handled=none)(D:ZipApart z TI TO i1 i2 l1 l2)
  (hz:gX s.heap z TI TO (rawInt T) (.bool F))(G:s.heap.get? T=some C)(l:IsPair s.heap TI (.ref i1) (.ref i2))
  (h1:s.heap.IsListIter i1 l1 k1)(h2:s.heap.IsListIter i2 l2 k2)(i:s.heap.IsList l1 xs)(m:s.heap.IsList l2 ys)(j:xs[k1]? =none\/ys[k2]? =none)
  (y:∀h' e,(∀c o,c≠z->c≠i1->c≠i2->s.heap.get? c=some o->h'.get? c=some o)->(∃o,h'.get? e=some o/\o.cls= .type "StopIteration")->E (.ref e) {s with heap:=h'}):
  wpAny (model prog w) A (Builtin.«zip.__next__» ⟨[.ref z],[]⟩) Q E s:=by
 show wpAny _ _ (field (.ref z) 2>>=_) _ _ _
 refine wpAny_bind (wpAny_field hz rfl (x:= .bool false) rfl ?_)
 show wpAny _ _ (field (.ref z) 3>>=_) _ _ _
 refine wpAny_bind (wpAny_field hz rfl (x:= .ref TI) rfl ?_)
 refine wpAny_bind (wpAny_seqItems l rfl ?_)
 show wpAny _ _ (Builtin.SmallTypes.ownedTupleIsFree (.ref z)>>=_) _ _ _
 refine wpAny_bind (wpAny_mono (KA hz G) (λb s' hb=> ?_) λ_ _ e=>e)
 obtain⟨rfl,B,rfl,n,a⟩:=hb
 show wpAny _ _ (forIn _ _ _>>=_) _ _ _
 refine wpAny_bind ?_
 rw[<-Array.forIn_toList]
 simp only[forIn_cons,forIn_nil]
 refine wpAny_bind (wpAny_bind (wpAny_holding ?_))
 show wpAny _ _ (Builtin.SmallTypes.nextOf (.ref i1)>>=_) _ _ _
 cases p:xs[k1]? with
 |none=>
  refine wpAny_bind (wpAny_nextOf_list_end v (h1.extBut a.extBut D.i1z) (i.extBut a.extBut D.l1z) p λf e d q=> ?_)
  exact y f e (λc o r t _ x=>d _ _ t (a.extBut _ _ r x)) q
 |some x=>
  have H:ys[k2]? =none:=by rcases j with h|h;rw[p] at h;cases h;exact h
  refine wpAny_bind (wpAny_nextOf_list_item (h1.extBut a.extBut D.i1z) (i.extBut a.extBut D.l1z) p λf u d=>wpAny_pure (wpAny_pure ?_))
  refine wpAny_bind (wpAny_bind (wpAny_holding ?_))
  show wpAny _ _ (Builtin.SmallTypes.nextOf (.ref i2)>>=_) _ _ _
  refine wpAny_bind (wpAny_nextOf_list_end v ((h2.extBut a.extBut D.i2z).extBut d.extBut D.i12.symm) ((m.extBut a.extBut D.l2z).extBut d.extBut D.l2i1) H λk e g q=> ?_)
  exact y k e (λc o r t I x=>g _ _ I (d.extBut _ _ t (a.extBut _ _ r x))) q
theorem LQ{z TI TO i1 i2 l1 l2 T:Addr}{g:Obj}{h:Bool}{k1 k2:Nat}{xs ys:Array Value}{x y:Value}{Q:Option Value->Shared->Prop}(D:ZipApart z TI TO i1 i2 l1 l2)
  (hz:gX s.heap z TI TO (rawInt T) (.bool h))(i:s.heap.get? T=some g)(b:T≠z)(d:IsPair s.heap TI (.ref i1) (.ref i2))
  (h1:s.heap.IsListIter i1 l1 k1)(h2:s.heap.IsListIter i2 l2 k2)(e:s.heap.IsList l1 xs)(f:s.heap.IsList l2 ys)(j:xs[k1]? =some x)(k:ys[k2]? =some y)
  (l:∀h',gX h' z TI TO (rawInt T) (.bool true)->h'.IsListIter i1 l1 (k1+1)->h'.IsListIter i2 l2 (k2+1)->IsPair h' s.heap.objs.size x y->h'.objs.size=s.heap.objs.size+1->
   (∀c o,c≠z->c≠i1->c≠i2->s.heap.get? c=some o->h'.get? c=some o)->Q (some (.ref s.heap.objs.size)) {s with heap:=h'}):
  wpAny (model prog w) A (pyNext (.ref z)) Q E s:=by
 have a:s.TypeIs (.ref z) "zip":=⟨_,hz,rfl⟩
 unfold pyNext
 exact wpAny_bind (wpAny_attempt (wpAny_callSpecial?_slot (name:=Str.ofString "__next__") a F.slot_zip_next
  (wpAny_call_entry F.slot_zip_next a F.entry_zip_next
   (OQ D hz i b d h1 h2 e f j k λh' a1 a2 m n p q=>wpAny_pure (l h' a1 a2 m n p q)) (F.args_zip_next_1 _))))
theorem LP{z TI TO i1 i2 l1 l2 T:Addr}{i:Obj}{j:Bool}{k1 k2:Nat}{xs ys:Array Value}{Q:Option Value->Shared->Prop}(k:A.handled=none)(D:ZipApart z TI TO i1 i2 l1 l2)
  (hz:gX s.heap z TI TO (rawInt T) (.bool j))(l:s.heap.get? T=some i)(f:IsPair s.heap TI (.ref i1) (.ref i2))
  (h1:s.heap.IsListIter i1 l1 k1)(h2:s.heap.IsListIter i2 l2 k2)(g:s.heap.IsList l1 xs)(h:s.heap.IsList l2 ys)(a:xs[k1]? =none\/ys[k2]? =none)
  (m:∀h',(∀c o,c≠z->c≠i1->c≠i2->s.heap.get? c=some o->h'.get? c=some o)->Q none {s with heap:=h'}):wpAny (model prog w) A (pyNext (.ref z)) Q E s:=by
 have d:s.TypeIs (.ref z) "zip":=⟨_,hz,rfl⟩
 unfold pyNext
 refine wpAny_bind (wpAny_attempt (wpAny_callSpecial?_slot (name:=Str.ofString "__next__") d F.slot_zip_next
  (wpAny_call_entry F.slot_zip_next d F.entry_zip_next (OO k D hz l f h1 h2 g h a λh' e n p=> ?_) (F.args_zip_next_1 _))))
 obtain⟨o,q,hc⟩:=p
 refine wpAny_bind (wpAny_isInstance (T:="StopIteration") (b:=true) ⟨o,q,hc⟩ isSubtype_stop ?_)
 exact wpAny_pure (m _ n)
structure ZS(z TI TO i1 i2 l1 l2 base:Addr)(xs ys:Array Value)(k:Nat)(h:Heap):Prop where
 zip:(k=0/\IsZip h z TI TO .none)\/(0<k/\∃bb,gX h z TI TO (rawInt base) (.bool bb))
 ti:IsPair h TI (.ref i1) (.ref i2)
 to:∃a b,IsPair h TO a b
 kB:h.IsListIter i1 l1 k
 kC:h.IsListIter i2 l2 k
 jd:h.IsList l1 xs
 je:h.IsList l2 ys
 sz:h.objs.size=base+k
 old:∀(j:Nat) x y,j<k->xs[j]? =some x->ys[j]? =some y->IsPair h (base+j) x y
structure jY(z TI TO i1 i2 l1 l2 base:Addr):Prop where
 z:z<base
 to:TO<base
 i1:i1<base
 i2:i2<base
theorem ZS.upd{z TI TO i1 i2 l1 l2 base S:Addr}{xs ys:Array Value}{k:Nat}{h h':Heap}(Z:ZS z TI TO i1 i2 l1 l2 base xs ys k h)(c:∀b o,b≠S->h.get? b=some o->h'.get? b=some o)(d:h'.objs.size=h.objs.size)
  (n1:z≠S)(n2:TI≠S)(n3:TO≠S)(n4:i1≠S)(n5:i2≠S)(n6:l1≠S)(n7:l2≠S)(n8:S<base):ZS z TI TO i1 i2 l1 l2 base xs ys k h' where
 zip:=by
  rcases Z.zip with⟨e,q⟩|⟨e,f,q⟩
  .exact .inl ⟨e,c _ _ n1 q⟩
  .exact .inr ⟨e,f,c _ _ n1 q⟩
 ti:=c _ _ n2 Z.ti
 to:=let ⟨a,b,q⟩:=Z.to;⟨a,b,c _ _ n3 q⟩
 kB:=Z.kB.at λo e=>c _ o n4 e
 kC:=Z.kC.at λo e=>c _ o n5 e
 jd:=Z.jd.at λo e=>c _ o n6 e
 je:=Z.je.at λo e=>c _ o n7 e
 sz:=d.trans Z.sz
 old:=λj x y g i l=>c _ _ (ne_of_gt (lt_of_lt_of_le n8 (le_add_right _ _))) (Z.old j x y g i l)
theorem OU{z TI TO i1 i2 l1 l2 base:Addr}{xs ys:Array Value}{k:Nat}{x y:Value}{Q:Option Value->Shared->Prop}(D:ZipApart z TI TO i1 i2 l1 l2)(L:jY z TI TO i1 i2 l1 l2 base)
  (Z:ZS z TI TO i1 i2 l1 l2 base xs ys k s.heap)(g:xs[k]? =some x)(h:ys[k]? =some y)
  (K:∀h',ZS z TI TO i1 i2 l1 l2 base xs ys (k+1) h'->(∀c o,c≠z->c≠TO->c≠i1->c≠i2->s.heap.get? c=some o->h'.get? c=some o)->Q (some (.ref (base+k))) {s with heap:=h'}):
  wpAny (model prog w) A (pyNext (.ref z)) Q E s:=by
 obtain⟨a,b,f⟩:=Z.to
 have new:∀h',(∀c o,c≠z->c≠TO->c≠i1->c≠i2->s.heap.get? c=some o->h'.get? c=some o)->IsPair h' s.heap.objs.size x y->∀(j:Nat) i l,j<k+1->xs[j]? =some i->ys[j]? =some l->IsPair h' (base+j) i l:=λh' d N j i l O m n=>by
  by_cases p:j=k
  .subst p
   rw[g] at m;rw[h] at n;cases m;cases n
   rw[<-Z.sz]
   exact N
  .have lo:∀c,c<base->base+j≠c:=λc hc e=>absurd (lt_of_lt_of_le hc (le_add_right base j)) (by rw[e];exact lt_irrefl _)
   exact d _ _ (lo _ L.z) (lo _ L.to) (lo _ L.i1) (lo _ L.i2) (Z.old j i l (by omega) m n)
 rcases Z.zip with⟨e,q⟩|⟨e,P,q⟩
 .subst e
  refine wpAny_pyNext_zip_item D q Z.ti f Z.kB Z.kC Z.jd Z.je g h λh' a1 a2 t u v B d=> ?_
  have hb:s.heap.objs.size=base:=Z.sz
  have r:=K h' ⟨.inr ⟨succ_pos _,false,by rw[hb] at a1;exact a1⟩,d _ _ D.TIz D.TITO D.TIi1 D.TIi2 Z.ti,⟨_,_,a2⟩,t,u,Z.jd.at λo e=>d _ o D.l1z D.l1TO D.l1i1 D.l1i2 e,Z.je.at λo e=>d _ o D.l2z D.l2TO D.l2i1 D.l2i2 e,
   by rw[B,hb],new h' d v⟩ d
  rw[hb]
  exact r
 .obtain⟨x0,C⟩:∃x0,xs[0]? =some x0:=⟨xs[0]'(by have:=(Array.getElem?_eq_some_iff.mp g).1;omega),Array.getElem?_eq_getElem _⟩
  obtain⟨F,G⟩:∃F,ys[0]? =some F:=⟨ys[0]'(by have:=(Array.getElem?_eq_some_iff.mp h).1;omega),Array.getElem?_eq_getElem _⟩
  have M:=Z.old 0 x0 F e C G
  rw[Nat.add_zero] at M
  refine LQ D q M (ne_of_gt L.z) Z.ti Z.kB Z.kC Z.jd Z.je g h λh' a1 t u v B d=> ?_
  have r:=K h' ⟨.inr ⟨succ_pos _,true,a1⟩,d _ _ D.TIz D.TIi1 D.TIi2 Z.ti,⟨_,_,d _ _ D.TOz D.TOi1 D.TOi2 f⟩,t,u,Z.jd.at λo e=>d _ o D.l1z D.l1i1 D.l1i2 e,Z.je.at λo e=>d _ o D.l2z D.l2i1 D.l2i2 e,
   by rw[B,Z.sz];rfl,new h' (λc o H _ I J e=>d c o H I J e) v⟩ λc o H _ I J e=>d c o H I J e
  rw[Z.sz]
  exact r
theorem OT{z TI TO i1 i2 l1 l2 base:Addr}{xs ys:Array Value}{k:Nat}{Q:Option Value->Shared->Prop}(j:A.handled=none)(D:ZipApart z TI TO i1 i2 l1 l2)
  (Z:ZS z TI TO i1 i2 l1 l2 base xs ys k s.heap)(d:k=min xs.size ys.size)
  (l:∀h',(∀c o,c≠z->c≠TO->c≠i1->c≠i2->s.heap.get? c=some o->h'.get? c=some o)->Q none {s with heap:=h'}):wpAny (model prog w) A (pyNext (.ref z)) Q E s:=by
 obtain⟨a,b,f⟩:=Z.to
 have m:xs[k]? =none\/ys[k]? =none:=by
  subst d
  rcases Nat.le_total xs.size ys.size with h|h
  .exact .inl (by rw[Nat.min_eq_left h];exact Array.getElem?_eq_none (le_refl _))
  .exact .inr (by rw[Nat.min_eq_right h];exact Array.getElem?_eq_none (le_refl _))
 rcases Z.zip with⟨e,q⟩|⟨e,v,q⟩
 .exact wpAny_pyNext_zip_end j D q Z.ti f Z.kB Z.kC Z.jd Z.je m l
 .have g:0<xs.size:=by omega
  have i:0<ys.size:=by omega
  have n:=Z.old 0 _ _ e (Array.getElem?_eq_getElem g) (Array.getElem?_eq_getElem i)
  rw[Nat.add_zero] at n
  exact LP j D q n Z.ti Z.kB Z.kC Z.jd Z.je m λh' p=>l h' λc o r _ t u e=>p c o r t u e
def dj(base k:Nat):Array Value:=((range k).map λj=>Value.ref (base+j)).toArray
theorem LY(base k:Nat):dj base (k+1)=(dj base k).push (.ref (base+k)):=by
 unfold dj;rw[List.range_succ,map_append];simp
theorem uE(base k:Nat):(dj base k).size=k:=by simp[dj]
end
namespace F
theorem OS:typeLookup (.type "zip") "__len__"=pure none:=by rw[typeLookup_type,builtinLookup_eq_fast];kernel_rfl
theorem OR:typeLookup (.type "zip") "__length_hint__"=pure none:=by rw[typeLookup_type,builtinLookup_eq_fast];kernel_rfl
end F
section
variable{prog:Program}{w:World}{A:Around}{s:Shared}{R:Result->Shared->Prop}{z TI TO i1 i2 l1 l2 base S:Addr}{xs ys:Array Value}
structure lE(z TI TO i1 i2 l1 l2 base S:Addr):Prop where
 n1:z≠S
 n2:TI≠S
 n3:TO≠S
 n4:i1≠S
 n5:i2≠S
 n6:l1≠S
 n7:l2≠S
 n8:S<base
theorem FY(H:A.handled=none)(D:ZipApart z TI TO i1 i2 l1 l2)(L:jY z TI TO i1 i2 l1 l2 base)(O:lE z TI TO i1 i2 l1 l2 base S)(T:min xs.size ys.size<=sizeLine)(res:Value):
  ∀(m k:Nat) (s:Shared) (c:Nat),min xs.size ys.size - k=m->k<=min xs.size ys.size->ZS z TI TO i1 i2 l1 l2 base xs ys k s.heap->s.heap.get? S=some {cls:=.type "list",dict:=none,data:=.seq (dj base k) c,slots:= #[]}->
  (∀h' c',(∀(j:Nat) x y,xs[j]?=some x->ys[j]?=some y->IsPair h' (base+j) x y)->h'.get? S=some {cls:=.type "list",dict:=none,data:=.seq (dj base (min xs.size ys.size)) c',slots:= #[]}->
   (∀b o,b≠S->b≠z->b≠TO->b≠i1->b≠i2->s.heap.get? b=some o->h'.get? b=some o)->R (.ok (.ret res)) {s with heap:=h'})->
  codeAny (model prog w) A (.builtin "list.extend.loop" ⟨[.ref S,.ref z,res],[]⟩) R s:=by
 have lo:∀(c j:Nat),c<base->base+j≠c:=λc j hc e=>absurd (lt_of_lt_of_le hc (le_add_right base j)) (by rw[e];exact lt_irrefl _);intro m;induction m with
 |zero=>
  intro k s c I J i r t;have f:k=min xs.size ys.size:=by omega
  refine codeAny_builtin PySem.F.entry_extend_loop ?_;rw[Around.under_plainId plain_extend_loop _];show wpAny _ A.in1 (pyNext (.ref z)>>=_) _ _ s;refine wpAny_bind (OT (A:=A.in1) H D i f λh' a=>?_);refine wpAny_pure (t h' c (λj x y E G=>?_) ?_ λb o u l n p q e=>a b o l n p q e)
  .have K:j<k:=by
    have U:=(Array.getElem?_eq_some_iff.mp E).1;have V:=(Array.getElem?_eq_some_iff.mp G).1;omega
   exact a _ _ (lo _ _ L.z) (lo _ _ L.to) (lo _ _ L.i1) (lo _ _ L.i2) (i.old j x y K E G)
  .rw[<-f]
   exact a _ _ O.n1.symm O.n3.symm O.n4.symm O.n5.symm r
 |succ m M=>
  intro k s c I J i r t;have v:k<min xs.size ys.size:=by omega
  have N:xs[k]?=some (xs[k]'(by omega)):=Array.getElem?_eq_getElem _;have P:ys[k]?=some (ys[k]'(by omega)):=Array.getElem?_eq_getElem _;refine codeAny_builtin PySem.F.entry_extend_loop ?_;rw[Around.under_plainId plain_extend_loop _];show wpAny _ A.in1 (pyNext (.ref z)>>=_) _ _ s;refine wpAny_bind (OU (A:=A.in1) D L i N P λh' B a=>?_);have g:=a _ _ O.n1.symm O.n3.symm O.n4.symm O.n5.symm r;show wpAny _ A.in1 (updateSeq S (·.push (.ref (base+k)))>>=_) _ _ _;refine wpAny_bind ?_;have h:∀b o,b≠S->h'.get? b=some o->(h'.update S (Obj.mapSeq (·.push (.ref (base+k))))).get? b=some o:=λb o hb e=>(Heap.get?_update_other _ _ (Ne.symm hb)).trans e;have C:=Heap.get?_update_self (Obj.mapSeq (·.push (.ref (base+k)))) g rfl;have d:∃n',(h'.update S (Obj.mapSeq (·.push (.ref (base+k))))).get? S=some {cls:=.type "list",dict:=none,data:=.seq ((dj base k).push (.ref (base+k))) n',slots:= #[]}:=⟨_,C⟩;obtain⟨n',d⟩:=d;rw[<-LY] at d;refine wpAny_updateSeq g rfl (wpAny_pure ⟨plainId_quiet plain_extend_loop _,M (k+1) _ n' (by omega) v (B.upd h (size_update ..) O.n1 O.n2 O.n3 O.n4 O.n5 O.n6 O.n7 O.n8) d λh'' c' a1 a2 Q=>?_⟩)
   (by rw[uE];omega) (by show((dj base k).push _).size<=sizeLine+1;rw[Array.size_push,uE];omega)
  .exact t h'' c' a1 a2 λb o u l n p q e=>Q b o u l n p q (h b o u (a b o l n p q e))
theorem FW(m:A.handled=none)(D:ZipApart z TI TO i1 i2 l1 l2)(L:jY z TI TO i1 i2 l1 l2 base)(O:lE z TI TO i1 i2 l1 l2 base S)(n:min xs.size ys.size<=sizeLine)(res:Value)(c₀:Nat)
  (i:ZS z TI TO i1 i2 l1 l2 base xs ys 0 s.heap)(k:s.heap.get? S=some {cls:= .type "list",data:= .seq #[] c₀})
  (p:∀h' c',(∀(j:Nat) x y,xs[j]? =some x->ys[j]? =some y->IsPair h' (base+j) x y)->h'.get? S=some {cls:= .type "list",dict:=none,data:= .seq (dj base (min xs.size ys.size)) c',slots:= #[]}->
   (∀b o,b≠S->b≠z->b≠TO->b≠i1->b≠i2->s.heap.get? b=some o->h'.get? b=some o)->R (.ok (.ret res)) {s with heap:=h'}):
  wpAny (model prog w) A.in1 (Builtin.List.listExtendWith (.ref S) (.ref z) res)
   (λfin s'=>match fin with| .done f=>R (.ok f) s'| .again c'=>c'.quiet=true/\codeAny (model prog w) A c' R s') (λe s'=>R (.error e) s') s:=by
 have d:IsZip s.heap z TI TO .none:=by
  rcases i.zip with⟨_,q⟩|⟨e,_⟩
  .exact q
  .exact absurd e (lt_irrefl _)
 have h:s.TypeIs (.ref z) "zip":=⟨_,d,rfl⟩
 unfold Builtin.List.listExtendWith
 refine wpAny_bind (wpAny_typeOf h ?_)
 have h1:Builtin.List.listSameRef (.ref S) (.ref z)=false:=by simp[Builtin.List.listSameRef,O.n1.symm]
 have h2:(Value.type "zip" ==Value.type "list")=false:=by decide
 have r:(Value.type "zip" ==Value.type "tuple")=false:=by decide
 simp only[h1,h2,r,Bool.or_false,Bool.false_eq_true,if_false]
 refine wpAny_bind (wpAny_pyIter_zip d ?_)
 refine wpAny_bind (wpAny_holding ?_)
 unfold Builtin.List.listLengthHint
 refine wpAny_bind (wpAny_specialOf h F.OS ?_)
 show wpAny _ A.in1 (specialOf (Value.ref z) (Str.ofString "__length_hint__")>>=_) _ _ _
 refine wpAny_bind (wpAny_specialOf h F.OR ?_)
 refine wpAny_pure ?_
 show wpAny _ A.in1 (rule "list.extend.makes-room">>=λ_=>Builtin.List.listTouch (.ref S)>>=λ_=>
  again (.builtin "list.extend.loop" ⟨[.ref S,.ref z,res],[]⟩)) _ _ _
 refine wpAny_bind (wpAny_rule ?_)
 refine wpAny_bind ?_
 show wpAny _ A.in1 (updateSeq S (·.push .none)>>=λ_=>updateSeq S (·.pop)) _ _ _
 refine wpAny_bind (wpAny_updateSeq k rfl ?_)
 have a:=Heap.get?_update_self (Obj.mapSeq (·.push Value.none)) k rfl
 refine wpAny_updateSeq (hz:=by seq_fits) a rfl ?_
 have c:=Heap.get?_update_self (Obj.mapSeq (·.pop)) a rfl
 have g:∀b o,b≠S->s.heap.get? b=some o->((s.heap.update S (Obj.mapSeq (·.push Value.none))).update S (Obj.mapSeq (·.pop))).get? b=some o:=
  λb o hb e=>(Heap.get?_update_other _ _ (Ne.symm hb)).trans ((Heap.get?_update_other _ _ (Ne.symm hb)).trans e)
 refine wpAny_pure ⟨plainId_quiet plain_extend_loop _,FY m D L O n res _ 0 _ _ rfl (zero_le _) (i.upd g (by rw[size_update,size_update]) O.n1 O.n2 O.n3 O.n4 O.n5 O.n6 O.n7 O.n8) c λh' c' a1 a2 t=> ?_⟩
 exact p h' c' a1 a2 λb o l u v B C e=>t b o l u v B C (g b o l e)
end
section
variable{prog:Program}{w:World}{A:Around}{E:aE}{s:Shared}
end
end ZL
end PySem
section
open PySem PySem.Spec PyProof.Rows
namespace L2
def b_:List (Str×NameKind)->List Str
 |[]=>[]
 |(n,k)::r=>if (k==NameKind.free)=true then n::b_ r else b_ r
def dD(env:Env):List (Str×NameKind)->List (Str×Addr)->List (Str×Addr)
 |[],acc=>acc
 |(n,k)::r,acc=>if (k==NameKind.free)=true then dD env r ((n,(env.cells.lookup n).getD 0)::acc) else dD env r acc
theorem r8{env:Env}{f:(Str×NameKind)->List (Str×Addr)->Sem (ForInStep (List (Str×Addr)))}
  (h1:∀n k cs c,(k==NameKind.free)=true->env.cells.lookup n=some c->f (n,k) cs=pure (.yield ((n,c)::cs)))(h2:∀n k cs,(k==NameKind.free)=false->f (n,k) cs=pure (.yield cs)):
  ∀(names:List (Str×NameKind)) (acc:List (Str×Addr)),(∀n∈b_ names,∃c,env.cells.lookup n=some c)->forIn names acc f=pure (dD env names acc)
 |[],acc,_=>by rw[forIn_nil];rfl
 |(n,k)::r,acc,h=>by
  rw[forIn_cons];cases e:(k==NameKind.free) with
  |true=>
   have b:b_ ((n,k)::r)=n::b_ r:=by show(if (k==NameKind.free)=true then n::b_ r else b_ r)=_;rw[if_pos e]
   obtain⟨c,hc⟩:=h n (by rw[b];exact mem_cons_self);rw[h1 n k acc c e hc,pure_bind];show forIn r ((n,c)::acc) f=_;rw[r8 h1 h2 r _ λm d=>h m (by rw[b];exact mem_cons_of_mem _ d)];have a:dD env ((n,k)::r) acc=dD env r ((n,(env.cells.lookup n).getD 0)::acc):=by
    show(if (k==NameKind.free)=true then _ else _)=_;rw[if_pos e]
   rw[a,hc];rfl
  |false=>
   have b:b_ ((n,k)::r)=b_ r:=by show(if (k==NameKind.free)=true then n::b_ r else b_ r)=_;rw[if_neg (by rw[e];decide)]
   rw[h2 n k acc e,pure_bind];show forIn r acc f=_;rw[r8 h1 h2 r _ λm d=>h m (by rw[b];exact d)];have a:dD env ((n,k)::r) acc=dD env r acc:=by
    show(if (k==NameKind.free)=true then _ else _)=_;rw[if_neg (by rw[e];decide)]
   rw[a]
theorem wX{scope:Scope}{env:Env}(h:∀n∈b_ scope.names,∃c,env.cells.lookup n=some c):closureFor scope env=pure (dD env scope.names []):=by
 unfold closureFor;show(forIn scope.names [] _>>=_)=_;rw[r8 (env:=env) (λn k cs c a hc=>?_) (λn k cs a=>?_) scope.names [] h]
 .exact pure_bind _ _
 .dsimp only
  rw[if_pos a];unfold cellOf;rw[hc];rfl
 .dsimp only
  rw[if_neg (by rw[a];decide)]
theorem lM{env:Env}{x:Str}:∀(names:List (Str×NameKind)) (acc:List (Str×Addr)),(∀n∈b_ names,∃c,env.cells.lookup n=some c)->
  (dD env names acc).lookup x=if x∈b_ names then env.cells.lookup x else acc.lookup x
 |[],acc,_=>by simp[dD,b_]
 |(n,k)::r,acc,h=>by
  cases e:(k==NameKind.free) with
  |true=>
   have b:b_ ((n,k)::r)=n::b_ r:=by show(if (k==NameKind.free)=true then n::b_ r else b_ r)=_;rw[if_pos e]
   obtain⟨c,hc⟩:=h n (by rw[b];exact mem_cons_self);have a:dD env ((n,k)::r) acc=dD env r ((n,(env.cells.lookup n).getD 0)::acc):=by
    show(if (k==NameKind.free)=true then _ else _)=_;rw[if_pos e]
   rw[a,b,lM r _ λm f=>h m (by rw[b];exact mem_cons_of_mem _ f)];by_cases d:x∈b_ r
   .rw[if_pos d,if_pos (mem_cons_of_mem _ d)]
   .rw[if_neg d]
    by_cases g:x=n
    .subst g
     rw[if_pos mem_cons_self,hc];simp
    .rw[if_neg (by intro z;rcases mem_cons.mp z with z|z;exact g z;exact d z)]
     have hb:(x==n)=false:=by simpa using g
     rw[lookup_cons,hb]
  |false=>
   have b:b_ ((n,k)::r)=b_ r:=by show(if (k==NameKind.free)=true then n::b_ r else b_ r)=_;rw[if_neg (by rw[e];decide)]
   have a:dD env ((n,k)::r) acc=dD env r acc:=by
    show(if (k==NameKind.free)=true then _ else _)=_;rw[if_neg (by rw[e];decide)]
   rw[a,b,lM r _ λm f=>h m (by rw[b];exact f)]
structure fh(X:Cx)(scope:Scope)(frees:List Str):Prop where
 kind:scope.kind= .function
 zX:∀y∈scope.names,y.2≠ .cell
 locs:∀y∈scope.names,y.2= .local->scope.names.lookup y.1=some .local
 sub:∀n∈b_ scope.names,n∈frees
 free:∀n∈frees,scope.names.lookup n=some .free
 kinds:(frees.all λn=>X.env.kindOf n==some .cell||X.env.kindOf n==some .free)=true
theorem fh.frees{X:Cx}{scope:Scope}{fr:List Str}(S:fh X scope fr):∀n∈b_ scope.names,X.env.kindOf n=some .cell\/X.env.kindOf n=some .free:=λn a=>by
 have h:=all_eq_true.mp S.kinds n (S.sub n a);rcases or_eq_true _ _▸h with h|h
 .exact .inl (eq_of_beq h)
 .exact .inr (eq_of_beq h)
theorem o7{x:Str}:∀{names:List (Str×NameKind)},(x,NameKind.free)∈names->x∈b_ names
 |(n,k)::r,h=>by
  unfold b_;rcases mem_cons.mp h with e|e
  .injection e with a b
   subst a b;rw[if_pos (by rfl)];exact mem_cons_self
  .split
   .exact mem_cons_of_mem _ (o7 e)
   .exact o7 e
theorem AR{env:Env}{x:Str}:∀{names:List (Str×NameKind)} {k:NameKind},(names.map λ(n,k)=>if (k==NameKind.free&&env.scope.kind== .function&&env.kindOf n==some .cell) then (n,NameKind.cell) else (n,k)).lookup x=some k->
  ∃k0,names.lookup x=some k0/\(k=k0\/(k0=.free/\k=.cell))
 |[],k,h=>by simp at h
 |(n,k1)::r,k,h=>by
  rw[map_cons] at h;by_cases b:(x==n)=true
  .by_cases hc:(k1==NameKind.free&&env.scope.kind== .function&&env.kindOf n==some .cell)=true
   .dsimp only at h
    rw[if_pos hc,lookup_cons,b] at h;have e:k=.cell:=by injection h with h;exact h.symm
    have c:k1=.free:=by
     have:=(and_eq_true _ _▸(and_eq_true _ _▸hc).1).1;exact eq_of_beq this
    exact⟨k1,by rw[lookup_cons,b],.inr ⟨c,e⟩⟩
   .dsimp only at h
    rw[if_neg hc,lookup_cons,b] at h;injection h with h;exact⟨k1,by rw[lookup_cons,b],.inl h.symm⟩
  .have a:(x==n)=false:=by simpa using b
   have h':(List.map (λ(n,k)=>if (k==NameKind.free&&env.scope.kind== .function&&env.kindOf n==some .cell) then (n,NameKind.cell) else (n,k)) r).lookup x=some k:=by
    by_cases hc:(k1==NameKind.free&&env.scope.kind== .function&&env.kindOf n==some .cell)=true
    .dsimp only at h;rw[if_pos hc,lookup_cons,a] at h;exact h
    .dsimp only at h;rw[if_neg hc,lookup_cons,a] at h;exact h
   obtain⟨k0,c,d⟩:=AR h';exact⟨k0,by rw[lookup_cons,a];exact c,d⟩
theorem AQ{env:Env}{x:Str}:∀{names:List (Str×NameKind)},names.lookup x=some .free->
  (names.map λ(n,k)=>if (k==NameKind.free&&env.scope.kind== .function&&env.kindOf n==some .cell) then (n,NameKind.cell) else (n,k)).lookup x=some .cell\/
  (names.map λ(n,k)=>if (k==NameKind.free&&env.scope.kind== .function&&env.kindOf n==some .cell) then (n,NameKind.cell) else (n,k)).lookup x=some .free
 |[],h=>by simp at h
 |(n,k1)::r,h=>by
  rw[map_cons]
  by_cases b:(x==n)=true
  .rw[lookup_cons,b] at h
   injection h with h
   subst h
   by_cases hc:(NameKind.free==NameKind.free&&env.scope.kind== .function&&env.kindOf n==some .cell)=true
   .left;dsimp only;rw[if_pos hc,lookup_cons,b]
   .right;dsimp only;rw[if_neg hc,lookup_cons,b]
  .have a:(x==n)=false:=by simpa using b
   rw[lookup_cons,a] at h
   have c:=AQ (env:=env) h
   by_cases hc:(k1==NameKind.free&&env.scope.kind== .function&&env.kindOf n==some .cell)=true
   .dsimp only;rw[if_pos hc,lookup_cons,a];exact c
   .dsimp only;rw[if_neg hc,lookup_cons,a];exact c
structure CP where
 C:Addr
 s:Shared
 H:Hp
 pins:aK
 fp:List Addr
def bM(X:Cx)(NC:List Str)(scope:Scope)(c:CP):Cx where
 prog:=X.prog
 w:=X.w
 K:=X.K
 mg:=X.mg
 base:=X.base
 A:=X.A
 N:=NC
 s₀:=c.s
 H₀:=c.H
 env:=compEnvC scope (dD X.env scope.names []) c.C X.env
 outer:=X.stack
 stack:=X.stack
 ex:=c.fp
 fn:=λ_=>false
 calm:=true
 pn:=X.pn++c.pins
 xe:=λ_ _=>False
section
variable{X:Cx}{scope:Scope}{frees:List Str}{NC:List Str}{pins:aK}{σ jP:St}{H H':Hp}{s s':Shared}{fp:List Addr}{C:Addr}
theorem fh.has(S:fh X scope frees)(ok:X.Ok):∀n∈b_ scope.names,∃c,X.env.cells.lookup n=some c:=λn a=>ok.has n (S.frees n a)
theorem fh.cells(S:fh X scope frees)(ok:X.Ok){x:Str}{c:Addr}(h:(dD X.env scope.names []).lookup x=some c):x∈b_ scope.names/\X.env.cells.lookup x=some c:=by
 rw[lM scope.names [] (S.has ok)] at h;by_cases a:x∈b_ scope.names
 .rw[if_pos a] at h;exact⟨a,h⟩
 .rw[if_neg a] at h;simp at h
theorem Ez(S:fh X scope frees)(hc:X.calm=true)(I:Inv X pins σ H s)(d:∀b∈fp,eS X pins H b/\b<s.heap.objs.size)(l:C=s.heap.objs.size):(bM X NC scope ⟨C,s,H,pins,fp⟩).Ok where
 mod:=I.ok.mod
 kind:=S.kind
 glob:=I.ok.glob
 blt:=I.ok.blt
 above:=by show s.heap.objs.size<=C;rw[l];exact le_refl _
 inj:=λx y c h1 h2=>I.ok.inj x y c (S.cells I.ok h1).2 (S.cells I.ok h2).2
 has:=λx n=>by
  have g:∃k,(relabel scope X.env).names.lookup x=some k/\(k= .cell\/k= .free):=by
   rcases n with h|h
   .exact⟨_,h,.inl rfl⟩
   .exact⟨_,h,.inr rfl⟩
  obtain⟨k,h,hk⟩:=g
  obtain⟨k0,p,a⟩:=AR h
  have m:=PySem.mem_of_lookup p
  have i:k0= .free:=by
   rcases a with a|⟨a,_⟩
   .rcases hk with hk|hk
    .exact absurd (a▸hk:k0= .cell) (S.zX _ m)
    .exact a▸hk
   .exact a
  subst i
  have f:=o7 m
  obtain⟨c,j⟩:=S.has I.ok x f
  exact⟨c,by show(dD X.env scope.names []).lookup x=some c;rw[lM scope.names [] (S.has I.ok),if_pos f];exact j⟩
 nV:=λx c h=>nomatch h
 hd:=λ_=>I.ok.hd hc
 frames:=I.ok.frames
 stk:= .inl rfl
 FQ:=λb hb=>⟨λz=>by have:=(d b hb).2;rw[z] at this;exact absurd (l▸this) (lt_irrefl _),λx c h=>(d b hb).1.2.2.2.2.1 x c (S.cells I.ok h).2⟩
 bs:=I.bs
 jo:=le_trans I.ok.jo I.sz
 pH:=λb o e hb=>by
  rcases (d b hb).1.2.2.2.1 with z|z
  .exact I.ok.pH b o e z
  .exact absurd (lt_of_lt_of_le (lt_size e) (le_trans I.ok.jo z)) (lt_irrefl _)
 sH:=λb hb z=>by
  rcases mem_cons.mp (I.kY b z) with e|e
  .exact(d b hb).1.2.1 e
  .exact(d b hb).1.2.2.1 e
 iu:=I.stack
 kh:=I.uO
def stC(own:List Str)(ix:List Nat)(σ:St):St:=own.map (λ_=>none)++ix.map λi=>(σ[i]?).join
theorem Ni{own frees:List Str}{ix:List Nat}{σ:St}{b:List Str}(c:ix.map (λi=>b[i]?)=frees.map some){j:Nat}{x:Str}{v:V}(h1:(own++frees)[j]?=some x)(h2:(stC own ix σ)[j]?=some (some v)):
  x∈frees/\∃i:Nat,b[i]?=some x/\σ[i]?=some (some v):=by
 have f:ix.length=frees.length:=by have:=congrArg List.length c;simpa using this
 unfold stC at h2;by_cases d:j<own.length
 .rw[getElem?_append_left (by simpa using d),getElem?_map] at h2
  cases e:own[j]? with
  |none=>rw[e] at h2;simp at h2
  |some o=>rw[e] at h2;simp at h2
 .rw[getElem?_append_right (by simpa using d),getElem?_map,length_map] at h2
  rw[getElem?_append_right (by omega)] at h1;have a:(ix.map (λi=>b[i]?))[j - own.length]?=(frees.map some)[j - own.length]? :=by rw[c]
  rw[getElem?_map,getElem?_map,h1] at a;cases e:ix[j - own.length]? with
  |none=>rw[e] at h2;simp at h2
  |some i=>
   rw[e] at h2 a;simp only[map_some,Option.some.injEq] at h2 a;refine⟨mem_of_getElem? h1,i,a,?_⟩;cases q:σ[i]? with
   |none=>rw[q] at h2;simp at h2
   |some o=>rw[q] at h2;simp at h2;rw[h2]
theorem Nj{own frees:List Str}{ix:List Nat}{σ:St}{a:List Str}(b:ix.map (λi=>a[i]?)=frees.map some):(stC own ix σ).length=(own++frees).length:=by
 have c:ix.length=frees.length:=by have:=congrArg List.length b;simpa using this
 unfold stC;simp[c]
theorem Ey{own:List Str}{ix:List Nat}{a:Heap}{tk:Nat}(S:fh X scope frees)(hc:X.calm=true)(I:Inv X pins σ H s)(G:∀b∈fp,eS X pins H b/\b<s.heap.objs.size)(w:C=s.heap.objs.size)
  (E:ix.map (λi=>X.N[i]?)=frees.map some)(y:∃m,a.Ns C m)(g:∀b o,s.heap.get? b=some o->a.get? b=some o):
  Inv (bM X (own++frees) scope ⟨C,s,H,pins,fp⟩) [] (stC own ix σ) H {s with heap:=a,toks:=tk}:=by
 obtain⟨m,J⟩:=y;refine⟨Ez S hc I G w,rfl,I.bare,Un.kept g,⟨m,J,λj x v h1 h2 U=>?_⟩,λx c h=>?_,?_,λx c h=>?_,λp K=>?_,I.hok.kept g,Nj E⟩
 .obtain⟨L,i,M,O⟩:=Ni E h1 h2
  have f:=S.free x L;have k:=o7 (PySem.mem_of_lookup f);have t:=S.frees x k;obtain⟨m0,_,P⟩:=I.loc;have A:jX X.env.scope x:=by rcases t with z|z;exact .inr (.inl z);exact .inr (.inr z)
  obtain⟨u,r,l⟩:=P i x v M O A;refine⟨u,r,?_⟩;rcases l with⟨F,_⟩|⟨_,c,Q,R⟩
  .rcases t with z|z
   .rw[F] at z;cases z
   .rw[F] at z;cases z
  .refine .inr ⟨AQ (env:=X.env) f,c,?_,?_⟩
   .show(dD X.env scope.names []).lookup x=some c
    rw[lM scope.names [] (S.has I.ok),if_pos k];exact Q
   .obtain⟨o,B,hd⟩:=R
    exact⟨o,g _ _ B,hd⟩
 .obtain⟨_,e⟩:=S.cells I.ok h
  obtain⟨v,o,B,hd⟩:=I.cell x c e;exact⟨v,o,g _ _ B,hd⟩
 .show H C=none
  rw[w];exact I.hok.fresh (le_refl _)
 .exact I.ir x c (S.cells I.ok h).2
 .have D:p∈X.pn++pins:=by
   have:p∈(X.pn++pins)++[]:=K;rwa [append_nil] at this
  obtain⟨e,n,ne,T,d⟩:=I.pin p D;refine⟨g _ _ e,n,?_,λz=>?_,d⟩
  .show p.1≠C
   rw[w];exact ne_of_lt (lt_size e)
  .rcases mem_cons.mp (I.kY p.1 z) with q|q
   .exact ne q
   .exact T q
theorem Ew{NC:List Str}(S:fh X scope frees)(I:Inv X pins σ H s)(a:∀b∈fp,eS X pins H b/\b<s.heap.objs.size)(d:C=s.heap.objs.size){b:Addr}(hb:b∈fp)(e:H' b=none):eS (bM X NC scope ⟨C,s,H,pins,fp⟩) [] H' b:=by
 refine⟨e,?_,λz=>?_,.inl hb,λx c h=>(a b hb).1.2.2.2.2.1 x c (S.cells I.ok h).2,λp f=>(a b hb).1.2.2.2.2.2 p ?_⟩
 .show b≠C
  rw[d];exact ne_of_lt (a b hb).2
 .rcases mem_cons.mp (I.kY b z) with q|q
  .exact(a b hb).1.2.1 q
  .exact(a b hb).1.2.2.1 q
 .have:p∈(X.pn++pins)++[]:=f
  rwa [append_nil] at this
theorem Eu{NC:List Str}(I:Inv X pins σ H s)(a:∀b∈fp,eS X pins H b/\b<s.heap.objs.size)(J:Inv (bM X NC scope ⟨C,s,H,pins,fp⟩) [] jP H' s'):Inv X pins σ H' s':=
 I.D5 J.os J.base J.hok J.bare λb hb=>⟨(a b hb).1.2.2.2.1,(a b hb).1.2.1,(a b hb).1.2.2.2.2.1,(a b hb).1.2.2.2.2.2⟩
theorem Ex{h':Heap}(I:Inv X pins σ H s)(a:H C=none)(h1:C≠X.env.locals)(h2:X.s₀.heap.objs.size<=C)(d:∀x c,X.env.cells.lookup x=some c->c≠C)(f:∀p∈X.pn++pins,p.1≠C)(g:SameBut C s.heap h'):
 Inv X pins σ H {s with heap:=h'}:=I.turned (t':=s.toks) (λb o hb e=>(g.2 b hb).trans e) a h1 (.inr h2) d f
end
inductive eT:St->St->Prop
 |nil:eT [] []
 |own {o:Option V} {a b:St}:eT a b->eT (none::a) (o::b)
 |keep {o:Option V} {a b:St}:eT a b->eT (o::a) (o::b)
theorem eT.len:∀{a b:St},eT a b->b.length=a.length
 |_,_,.nil=>rfl
 |_,_,.own h=>congrArg (·+1) h.len
 |_,_,.keep h=>congrArg (·+1) h.len
theorem eT.get:∀{a b:St},eT a b->∀(i:Nat) v,a[i]?=some (some v)->b[i]?=some (some v)
 |_,_,.nil,i,v,e=>by simp at e
 |_,_,.own h,0,v,e=>by simp at e
 |_,_,.own h,i+1,v,e=>by
  rw[List.getElem?_cons_succ] at e ⊢;exact h.get i v e
 |_,_,.keep h,0,v,e=>by simpa using e
 |_,_,.keep h,i+1,v,e=>by
  rw[List.getElem?_cons_succ] at e ⊢;exact h.get i v e
theorem eT.refl:∀a:St,eT a a
 |[]=>.nil
 |_::r=>.keep (eT.refl r)
inductive g_(X:Cx):List Expr->TT->Prop
 |nil:g_ X [] (λ_ H Q=>Q true H)
 |one {c:Expr} {t:TT}:PT X c t->g_ X [c] t
theorem g_.run{X:Cx}{ifs:List Expr}{t:TT}(h:g_ X ifs t){pins:aK}{s:Shared}{σ:St}{H:Hp}{Q:Bool->Hp->Prop}(I:Inv X pins σ H s)(a:t σ H Q):
  wpAny (model X.prog X.w) X.A (forIn ifs true λc r=>if r=true then do let ok <-isTrue c X.env (eval c X.env);pure (ForInStep.yield ok) else pure (ForInStep.yield r)) (TP X pins σ Q) X.xe s:=by
 cases h with
 |nil=>exact wpAny_tests_nil ⟨H,I,a⟩
 |one h=>exact wpAny_tests_one (h pins s σ H Q I a)
def D4(jP:St)(acc:Addr)(g:TG)(tt:TT)(te:TE)(x:V)(ys:List V)(H:Hp)(N:List V->Hp->Prop):Prop:=
 g x jP H λσ2 H2=>eT jP σ2/\tt σ2 H2 λb H3=>if b=true then te σ2 H3 λy H4=>H4 acc=some (.lst ys)/\ys.length<sizeLine/\N (ys++[y]) (upd H4 acc (.lst (ys++[y]))) else N ys H3
def rV(J:It)(jP:St)(acc:Addr)(g:TG)(tt:TT)(te:TE)(H:Hp)(Q:VK):Prop:=
 ∃W:Nat->Nat->List V->Hp->Prop,(∃m,W 0 m [] H)/\∀i m ys H,W i m ys H->H acc=some (.lst ys)/\
  ((J.stop i H/\Q (.ref acc) H)\/(J.go i H/\∃N:List V->Hp->Prop,(∀ys' H',N ys' H'->∃m',m'<m/\W (i+1) m' ys' H')/\∀x H',J.qK i H x H'->D4 jP acc g tt te x ys H' N))
def uU(own:List Str)(ix:List Nat)(wi:TI)(g:CP->TG)(tt:CP->TT)(te:CP->TE):TE:=λσ H Q=>
 wi σ H λJ H1=>∀(c:CP) (acc:Addr),H1 acc=none->rV J (stC own ix σ) acc (g c) (tt c) (te c) (upd H1 acc (.lst [])) Q
section
variable{X:Cx}{scope:Scope}{own frees:List Str}{ix:List Nat}{tg elt iter:Expr}{ifs:List Expr}{pos:Pos}{wi:TI}{g:CP->TG}{tt:CP->TT}{te:CP->TE}
theorem Er{J:It}{it acc:Addr}{fp:List Addr}{D:Nat->Heap->Prop}{c:CP}{σ:St}{H:Hp}{s:Shared}{Q:VK}{R:Result->Shared->Prop}
  (hfp:c.fp=fp)(T:Turn X.prog X.w X.K tg J fp it D)(hg:PG (bM X (own++frees) scope c) tg (g c))(ht:g_ (bM X (own++frees) scope c) ifs (tt c))(he:PE (bM X (own++frees) scope c) elt (te c))
  (f:∀b∈fp,∀H':Hp,H' b=none->eS (bM X (own++frees) scope c) [] H' b)
  (I:Inv (bM X (own++frees) scope c) [] (stC own ix σ) H s)(st:D 0 s.heap)(fr:∀b∈fp,H b=none)(h:rV J (stC own ix σ) acc (g c) (tt c) (te c) H Q)
  (hR:∀s' H',Inv (bM X (own++frees) scope c) [] (stC own ix σ) H' s'->Q (.ref acc) H'->R (.ok .next) s'):
  codeAny (model X.prog X.w) X.A (.compLoop (.ListComp elt [⟨tg,iter,ifs,0⟩] scope pos) 0 (.ref it) (.ref acc) (bM X (own++frees) scope c).env) R s:=by
 obtain⟨W,⟨m0,w0⟩,turn⟩:=h
 refine codeAny_loop rfl (λn s'=>∃i ys H',Inv (bM X (own++frees) scope c) [] (stC own ix σ) H' s'/\D i s'.heap/\(∀b∈fp,H' b=none)/\W i n ys H') (λn G hI=> ?_) m0 ⟨0,[],H,I,st,fr,w0⟩
 obtain⟨i,ys,H1,Z,m,p,w1⟩:=hI
 show wpAny _ X.A ((compTurn (.ListComp elt [⟨tg,iter,ifs,0⟩] scope pos) 0 (.ref it) (.ref acc) (bM X (own++frees) scope c).env).onRaise (λx=>do noteFrame x (bM X (own++frees) scope c).env;theTreesLotGoes x)) _ _ G
 have j:∀{α:Type} {t:Sem α} {P:α->Shared->Prop} {s:Shared},wpAny (model X.prog X.w) X.A t P (λ_ _=>False) s->wpAny (model X.prog X.w) X.A t P (notedBy (model X.prog X.w) X.A (bM X (own++frees) scope c).env λe s'=>R (.error e) s') s:=
  λh=>wpAny_mono h (λ_ _ q=>q) λ_ _ z=>z.elim
 refine wpAny_noted ?_
 rw[compTurn_list]
 obtain⟨ha,hw⟩:=turn i n ys H1 w1
 rcases hw with⟨stop,q⟩|⟨go,N,hN,step⟩
 .refine wpAny_bind (wpAny_standAt (wpAny_bind (j (aF (T.done (bM X (own++frees) scope c) rfl rfl rfl rfl i [] G _ H1 (λ_ _=>False) Z (λb hb=>f b hb H1 (p b hb)) m stop) λr s2 ⟨L,I2⟩=> ?_))))
  subst L
  exact wpAny_pure (hR s2 H1 I2 q)
 .refine wpAny_bind (wpAny_standAt (wpAny_bind (j (aF (T.item (bM X (own++frees) scope c) rfl rfl rfl rfl i [] G _ H1 (λ_ _=>False) Z (λb hb=>f b hb H1 (p b hb)) m go) λr s2 ⟨u,L,h2⟩=> ?_))))
  subst L
  refine wpAny_bind (j (aF h2 λ_ s3 ⟨x,M,I3,r3,y3,k,O⟩=> ?_))
  have S:=I3.pinned (λb hb=>f b hb M (O b hb)) (T.obj _ _ k)
  refine wpAny_bind (j (aF (hg _ s3 _ M x u _ S r3 (step x M y3)) λ_ s4 ⟨OV,H4,I4,ks,q4⟩=> ?_))
  refine wpAny_bind (j (aF (ht.run I4 q4) λok s5 ⟨H5,U,E⟩=> ?_))
  have a:∀{v:Shared} {B:St} {l:Hp},Inv (bM X (own++frees) scope c) ([]++mX fp s3.heap) B l v->D (i+1) v.heap/\∀b∈fp,l b=none:=λ {v B l} C=>
   ⟨T.keep _ _ _ k λb hb o e=>(C.pin (b,o) (mem_append_right _ (mem_append_right _ (o8 hb e)))).1,λb hb=>by
    obtain⟨o,e,d⟩:=T.obj _ _ k b hb
    exact(C.pin (b,o) (mem_append_right _ (mem_append_right _ (o8 hb e)))).2.1⟩
  cases ok with
  |false=>
   rw[if_neg (by decide)] at E
   obtain⟨V,Y,w5⟩:=hN _ _ E
   obtain⟨k1,k2⟩:=a U
   exact wpAny_pure ⟨rfl,V,Y,i+1,ys,H5,(U.nB).weak ks.len.symm ks.get,k1,k2,w5⟩
  |true=>
   rw[if_pos rfl] at E
   refine wpAny_bind (wpAny_bind (j (aF (he _ s5 _ H5 _ U E) λy v ⟨F,l,C,r6,a6,l6,q6⟩=> ?_)))
   obtain⟨V,Y,w6⟩:=hN _ _ q6
   obtain⟨k1,k2⟩:=a C
   refine wpAny_bind (j (aF (mD (X:=bM X (own++frees) scope c) _ v _ l (.ref acc) [F] (.ref acc) [y] (λ_ H7=>H7=upd l acc (.lst (ys++[F]))) C rfl (.cons r6 .nil) ⟨acc,ys,F,rfl,rfl,a6,l6,rfl⟩) λ_ s7 ⟨_,H7,I7,_,e7⟩=> ?_))
   subst e7
   obtain⟨k1,k2⟩:=a I7
   exact wpAny_pure (wpAny_pure ⟨rfl,V,Y,i+1,ys++[F],_,(I7.nB).weak ks.len.symm ks.get,k1,k2,w6⟩)
structure qM(X:Cx)(pins:aK)(C:Addr)(H:Hp):Prop where
 no:H C=none
 loc:C≠X.env.locals
 old:X.s₀.heap.objs.size<=C
 fk:∀x c,X.env.cells.lookup x=some c->c≠C
 pin:∀p∈X.pn++pins,p.1≠C
theorem qM.inv{pins:aK}{σ:St}{H:Hp}{s:Shared}{C:Addr}{h':Heap}(G:qM X pins C H)(I:Inv X pins σ H s)(a:SameBut C s.heap h'):Inv X pins σ H {s with heap:=h'}:=
 Ex I G.no G.loc G.old G.fk G.pin a
theorem w9{pins:aK}{σ:St}{H:Hp}{s:Shared}{Q:VK}{G:Value->Addr->Result->Shared->Prop}{E:aE}{J:It}{it:Addr}{fp:List Addr}{L:Nat->Heap->Prop}
  (S:fh X scope frees)(hc:X.calm=true)(Y:ix.map (λi=>X.N[i]?)=frees.map some)
  (Z:∀c,PG (bM X (own++frees) scope c) tg (g c))(ht:∀c,g_ (bM X (own++frees) scope c) ifs (tt c))(he:∀c,PE (bM X (own++frees) scope c) elt (te c))
  (I:Inv X pins σ H s)(T:Turn X.prog X.w X.K tg J fp it L)(st:L 0 s.heap)(V:∀b∈fp,eS X pins H b)
  (h:∀(c:CP) (acc:Addr),H acc=none->rV J (stC own ix σ) acc (g c) (tt c) (te c) (upd H acc (.lst [])) Q)
  (M:∀(acc C:Addr) s' H' m,Inv X pins σ H' s'->s'.heap.Ns C m->qM X pins C H'->Q (.ref acc) H'->G (.ref acc) C (.ok .next) s'):
  wpAny (model X.prog X.w) X.A (newList []) (λacc n=>wpAny (model X.prog X.w) X.A (newFunctionEnv scope X.env.globals (dD X.env scope.names []) [] X.env.qual none .none (some X.env)) (λk r=>
   codeAny (model X.prog X.w) X.A (.compStart (.ListComp elt [⟨tg,iter,ifs,0⟩] scope pos) 0 (.ref it) acc {k with scope:=relabel scope X.env}) (G acc k.locals) r) E n) E s:=by
 refine wpAny_newObj_type (wpAny_newFunctionEnv S.zX (by intro y hy;simp at hy) (λa t u=> ?_) S.kind)
 dsimp only at t u ⊢
 have O:H s.heap.objs.size=none:=I.hok.fresh (le_refl _)
 have l:Inv X pins σ (upd H s.heap.objs.size (.lst [])) {s with heap:=s.heap.push {cls:= .type "list",data:= .seq ([]:List Value).toArray}}:=I.zC (its:=[]) (t':=s.toks) .nil (zero_le _)
 generalize B:({s with heap:=s.heap.push {cls:= .type "list",data:= .seq ([]:List Value).toArray}}:Shared)=f at l
 have D:f.heap=s.heap.push {cls:= .type "list",data:= .seq ([]:List Value).toArray}:=by rw[<-B]
 have W:∀b∈fp,b<s.heap.objs.size:=λb hb=>by
  obtain⟨o,e,_⟩:=T.obj _ _ st b hb
  exact lt_size e
 have sz:f.heap.objs.size=s.heap.objs.size+1:=by rw[D,size_push]
 have j:∀b∈fp,eS X pins (upd H s.heap.objs.size (.lst [])) b/\b<f.heap.objs.size:=λb hb=>
  ⟨⟨by rw[aS (ne_of_lt (W b hb))];exact(V b hb).1,(V b hb).2⟩,by rw[sz];exact lt_succ_of_lt (W b hb)⟩
 have kp:∀b o,f.heap.get? b=some o->a.get? b=some o:=λb o e=>by
  refine u.extBut b o ?_ (get?_push_of_some _ (D▸e))
  rw[<-D]
  exact ne_of_lt (lt_size e)
 have P:a.Ns f.heap.objs.size (λx=>([]:List (Str×Value)).reverse.lookup x):=by rw[D];exact t
 have J0:Inv (bM X (own++frees) scope ⟨f.heap.objs.size,f,upd H s.heap.objs.size (.lst []),pins,fp⟩) [] (stC own ix σ) (upd H s.heap.objs.size (.lst [])) {f with heap:=a,toks:=s.toks+0}:=
  Ey S hc l j rfl Y ⟨_,P⟩ kp
 have R:∀b∈fp,∀H':Hp,H' b=none->eS (bM X (own++frees) scope ⟨f.heap.objs.size,f,upd H s.heap.objs.size (.lst []),pins,fp⟩) [] H' b:=λb hb H' hn=>Ew S l j rfl hb hn
 have F:L 0 a:=T.keep _ _ _ st λb hb o e=>kp b o (by rw[D];exact get?_push_of_some _ e)
 have loop:codeAny (model X.prog X.w) X.A (.compLoop (.ListComp elt [⟨tg,iter,ifs,0⟩] scope pos) 0 (.ref it) (.ref s.heap.objs.size) (bM X (own++frees) scope ⟨f.heap.objs.size,f,upd H s.heap.objs.size (.lst []),pins,fp⟩).env)
   (G (.ref s.heap.objs.size) f.heap.objs.size) {f with heap:=a,toks:=s.toks+0}:=by
  refine Er rfl T (Z _) (ht _) (he _) R J0 F (λb hb=>(j b hb).1.1) (h _ _ O) λs' H' U q=> ?_
  obtain⟨m,hm,_⟩:=U.loc
  refine M _ _ s' H' m (Eu l j U) hm ⟨U.free,ne_of_gt l.lt,l.sz,λx c e z=> ?_,λp hp z=> ?_⟩ q
  .obtain⟨v,q⟩:=l.cell x c e
   exact absurd (lt_of_lt_of_le q.lt (by rw[z];exact le_refl _)) (lt_irrefl _)
  .exact absurd (lt_of_lt_of_le (lt_size (l.pin p hp).1) (by rw[z];exact le_refl _)) (lt_irrefl _)
 have d:=loop
 rw[<-B] at d
 exact codeAny_compStart_list d (T.self _ 0 _ _ _ F d)
theorem KQ(hi:PI X tg iter wi)
  (d:∀c,PG (bM X (own++frees) scope c) tg (g c))(f:∀c,g_ (bM X (own++frees) scope c) ifs (tt c))(j:∀c,PE (bM X (own++frees) scope c) elt (te c))(S:fh X scope frees:=by exact⟨rfl,by decide+kernel,by decide+kernel,by decide+kernel,by decide+kernel,rfl⟩)(hc:X.calm=true:=by rfl)(k:ix.map (λi=>X.N[i]?)=frees.map some:=by rfl)(l:∀x,foldedSetIterable iter X.env x=pure x:=by intro _;rfl):
  PE X (.ListComp elt [⟨tg,iter,ifs,0⟩] scope pos) (uU own ix wi g tt te):=by
 intro pins s σ H Q I h;rw[eval_ListComp];refine wpAny_comprehension_free (use:=none) rfl l (wX (S.has I.ok)) S.kind S.locs (aF (hi pins s σ H _ I h) λv u h1=>aF h1 λn w h2=>?_);obtain⟨it,fp,y,J,H2,e,o,T,a,f2,p⟩:=h2;subst e;refine w9 S hc k d f j o T a f2 p λacc C s' H' m r t G q=>?_;exact⟨m,t,λh' b=>⟨.ref acc,H',G.inv r b,rfl,q⟩⟩
theorem Lv{i:Nat}{x:Str}{pos' spos:Pos}(b:X.N.Nodup)(d:X.N[i]? =some x)(o:Loc X.env.scope x)(hi:PI X tg iter wi)
  (p:∀c,PG (bM X (own++frees) scope c) tg (g c))(r:∀c,g_ (bM X (own++frees) scope c) ifs (tt c))(t:∀c,PE (bM X (own++frees) scope c) elt (te c))(S:fh X scope frees:=by exact⟨rfl,by decide+kernel,by decide+kernel,by decide+kernel,by decide+kernel,rfl⟩)(hc:X.calm=true:=by rfl)(u:ix.map (λi=>X.N[i]?)=frees.map some:=by rfl)(w:∀x,foldedSetIterable iter X.env x=pure x:=by intro _;rfl)
  (f:swapsWith (.ListComp elt [⟨tg,iter,ifs,0⟩] scope pos) (some (.Name x pos')) spos.line X.env=pure true:=by rfl)(y:X.fn x=true\/X.env.scope.names.lookup x=some .local:=by first|exact .inl rfl|exact .inr rfl|assumption):
  PS X (.Assign [.Name x pos'] (.ListComp elt [⟨tg,iter,ifs,0⟩] scope pos) spos) (qz (uU own ix wi g tt te) (kj i)):=by
 intro pins s σ H D I h
 rw[exec_Assign_Name_used _ _ _ _ f]
 refine wpAny_bind (wpAny_standAt (wpAny_bind ?_))
 show wpAny _ X.A (do let _ <-comprehension (.ListComp elt [⟨tg,iter,ifs,0⟩] scope pos) scope X.env _ (newList []) false (eval iter X.env) (some (assign (.Name x pos') X.env))) _ _ s
 refine wpAny_bind (wpAny_mono (wpAny_comprehension_free (use:=some (assign (.Name x pos') X.env)) (Q:=λ_ s'=>SP X pins D .next s') rfl w (wX (S.has I.ok)) S.kind S.locs
  (aF (hi pins s σ H _ I h) λv P h1=>aF h1 λz B h2=> ?_)) (λ_ s' E=>wpAny_pure (wpAny_pure E)) λ_ _ e=>e)
 obtain⟨it,fp,R,J,H2,e,F,T,j,f2,K⟩:=h2
 subst e
 refine w9 S hc u p r t F T j f2 K λacc C s' H' m L M G q=> ?_
 show wpAny _ X.A (assign (.Name x pos') X.env (.ref acc)) _ _ _
 refine wpAny_assign_Name (Co L b d o (v:= .ref acc) rfl (λB k ch=> ?_) y)
 obtain⟨a,O,ha⟩:=ch
 have l:C≠a:=by
  rcases ha with e|e
  .rw[e];exact G.loc
  .exact(G.fk _ _ e).symm
 exact⟨m,M.sameBut O l,λh' n=>⟨_,H',G.inv k n,q⟩⟩
end
section
variable{jP:St}{acc:Addr}{g:TG}{tt:TT}{te:TE}{H:Hp}{Q:VK}
end
section
variable{X:Cx}
theorem wI:∀{bs:List Bool} {its:List Value},Vals (bs.map V.bl) its->LSm.BoolsAre its bs
 |[],_,.nil=>.nil
 |b::r,_,.cons q t=>by
  cases q;exact .cons b (wI t)
theorem wK(hc:X.calm=true):c_ X (.builtin "all") (λxs H Q=>∃(p:Addr) (bs:List Bool),xs=[.ref p]/\aO X.K H p (bs.map V.bl)/\Q (.bl (bs.all id)) H):=by
 intro pins s σ H xs m Q I r h;obtain⟨p,bs,rfl,f,q⟩:=h;obtain⟨u,rfl,g⟩:=vals1 r;cases g;obtain⟨vs,j,pl,hz⟩:=I.list f;have hb:=wI j;have a:=pl.isList;have c:p<s.heap.objs.size:=by obtain⟨_,e,_⟩:=a;exact lt_size e
 refine call_all_walk (wpAny_pyIter_list a ?_);refine⟨s.heap.objs.size,[s.heap.objs.size,p],[s.heap.objs.size],vs.toArray.size,_,_,λi=>(bs[i]?).getD true,rfl,Walks.list (A:=X.A.in1) (I.ok.hd hc) _ p (ne_of_lt c) vs.toArray,
  ⟨⟨_,get?_push_size _ rfl,rfl,rfl⟩,a.push _⟩,λi v s' n o k d=>?_,λh' tk l=>?_⟩
 .obtain⟨b,e,rfl⟩:=hb.get i v (by simpa using k)
  simp only[e,Option.getD_some] at d;exact wpAny_truthy_bool d
 .have e:((range vs.toArray.size).all λi=>(bs[i]?).getD true)=bs.all id:=by
   rw[size_toArray,hb.length];exact LSm.range_all bs
  rw[e];exact⟨.bl _,H,I.kept (h':=h') (t':=tk) (LSm.kept_iter l),rfl,q⟩
theorem Kg:aX X (binaryOp .FloorDiv) (rI (λ_ j=>0<j/\j.natAbs.log2<9000) λi j=>.int (i/j)):=pM λi j _ _ _ _ _ hc q=>by
 have h1:(0:Int)<j:=hc.1;exact floordiv_int (by omega) (by rw[Int.fdiv_eq_ediv_of_nonneg i (by omega)];exact q) (.inl (PyProof.noPylong_of_log2 hc.2))
def qU(y:Str):It:=⟨λi _=>i<y.cps.size,λi H x H'=>H'=H/\∃c,y.cps[i]?=some c/\x=.str ⟨#[c]⟩,λi _=>i=y.cps.size⟩
theorem Om{P:Program}{w:World}{K:PySem.W.Frag}{nm:Str}{px:Pos}{ty:String}{y:Str}{t:Tok}(it:Addr)
  (W:∀A:Around,A.handled=none->Walks P w A it [it] [it] y.cps.size (SignAt y) (λi h=>h.IsStrIter it ty y t i))
  (C:∀(A:Around) (i:Nat) (s:Shared) (Q:aE) (E:aE),s.heap.IsStrIter it ty y t i->Q (.ref it) s->wpAny (model P w) A (pyIter (.ref it)) Q E s):Turn P w K (.Name nm px) (qU y) [it] it (λi h=>h.IsStrIter it ty y t i) where
 mem:=by simp
 obj:=λi h st b hb=>by
  have e:b=it:=by simpa using hb
  subst e
  obtain⟨o,e,c,d⟩:=st
  exact⟨o,e,λv z=>by rw[d] at z;cases z⟩
 keep:=λi h h' st k=>let ⟨o,D,r⟩:=st;⟨o,k it (by simp) o D,r⟩
 item:=by
  intro X a g j hc i pins s σ H E I f st l
  subst a g j
  obtain⟨f0,f1,f2,m,f4,n⟩:=f it (by simp)
  refine(W X.A (I.ok.hd hc)).item i s _ _ l st λv h' tk a p q=> ?_
  obtain⟨c,u,x,rfl⟩:=a
  have F:Inv X pins σ H {s with heap:=h',toks:=tk}:=I.turned (λb o hb e=>q b o (by simpa using hb) e) f0 f1 m f4 n
  exact⟨_,rfl,wpAny_pure ⟨.str ⟨#[c]⟩,H,F,⟨u,rfl⟩,⟨rfl,c,x,rfl⟩,p,λb hb=>(f b hb).1⟩⟩
 done:=by
  intro X a g j hc i pins s σ H E I f st l
  subst a g j
  obtain⟨f0,f1,f2,m,f4,n⟩:=f it (by simp)
  have B:i=y.cps.size:=l
  subst B
  exact(W X.A (I.ok.hd hc)).done s _ _ st λh' tk q=>⟨rfl,I.turned (λb o hb e=>q b o (by simpa using hb) e) f0 f1 m f4 n⟩
 self:=λA i s Q E st h=>C A i s Q E st h
def HQ(tl:TE):TI:=λσ H R=>tl σ H λx H1=>∃y,x=.str y/\R (qU y) H1
theorem Le{l:Expr}{tl:TE}{nm:Str}{px:Pos}(g:PE X l tl):PI X (.Name nm px) l (HQ tl):=by
 intro pins s σ H R I h;refine aF (g pins s σ H _ I h) λv a ⟨x,H1,c,j,k⟩=>?_;obtain⟨y,e,q⟩:=k;subst e;obtain⟨t,rfl⟩:=j;have fin:∀(ty:String) (o:Obj) (W:∀A:Around,A.handled=none->Walks X.prog X.w A a.heap.objs.size [a.heap.objs.size] [a.heap.objs.size] y.cps.size (SignAt y) (λi h=>h.IsStrIter a.heap.objs.size ty y t i))
   (f:∀(A:Around) (i:Nat) (s:Shared) (Q:aE) (E:aE),s.heap.IsStrIter a.heap.objs.size ty y t i->Q (.ref a.heap.objs.size) s->wpAny (model X.prog X.w) A (pyIter (.ref a.heap.objs.size)) Q E s),
   (a.heap.push o).IsStrIter a.heap.objs.size ty y t 0->qZ X pins σ (.Name nm px) R (.ref a.heap.objs.size) {a with heap:=a.heap.push o}:=λty o W f st=>by
  refine⟨a.heap.objs.size,[a.heap.objs.size],_,_,H1,rfl,c.kept (t':=a.toks) λb o e=>get?_push_of_some _ e,Om _ W f,st,λb hb=>?_,q⟩;have e:b=a.heap.objs.size:=by simpa using hb
  subst e;exact c.i8 (le_refl _) (c.hok.fresh (le_refl _))
 cases ha:y.cps.all (·<128)
 .exact wpAny_pyIter_wide ha (fin _ _ (λA' d=>Walks.strWide d _ y t) (λ_ _ _ _ _ st h=>wpAny_pyIter_striter_wide st h) ⟨_,get?_push_size _ rfl,rfl,rfl⟩)
 .exact wpAny_pyIter_ascii ha (fin _ _ (λA' d=>Walks.strAscii d _ y t) (λ_ _ _ _ _ st h=>wpAny_pyIter_striter_ascii st h) ⟨_,get?_push_size _ rfl,rfl,rfl⟩)
end
mutual
inductive Dp(K:PySem.W.Frag)(H:Hp):V->PyData->Prop
 |ao:Dp K H .ao .none
 |bl (b:Bool):Dp K H (.bl b) (.bool b)
 |int (i:Int):Dp K H (.int i) (.int i)
 |str (x:Str):Dp K H (.str x) (.str x)
 |lst {a:Addr} {xs:List V} {ds:List PyData}:aO K H a xs->ef K H xs ds->Dp K H (.ref a) (.list ds)
 |tup {a:Addr} {xs:List V} {ds:List PyData}:bq K H a xs->ef K H xs ds->Dp K H (.ref a) (.tuple ds)
inductive ef(K:PySem.W.Frag)(H:Hp):List V->List PyData->Prop
 |nil:ef K H [] []
 |cons {v:V} {vs:List V} {d:PyData} {ds:List PyData}:Dp K H v d->ef K H vs ds->ef K H (v::vs) (d::ds)
end
section
variable{X:Cx}{pins:aK}{σ:St}{H H':Hp}{s:Shared}{K:PySem.W.Frag}
mutual
theorem Dp.reads(I:Inv X pins σ H s):∀(d:PyData) (v:V) (u:Value),Dp X.K H v d->RelV v u->∃as,Reads s.heap u d as
 |.none,_,_,h,r=>by cases h;cases r;exact⟨_,.none⟩
 |.bool b,_,_,h,r=>by cases h;cases r;exact⟨_,.bool b⟩
 |.int i,_,_,h,r=>by cases h;obtain⟨t,rfl⟩:=r;exact⟨_,.int i t⟩
 |.str x,_,_,h,r=>by cases h;obtain⟨t,rfl⟩:=r;exact⟨_,.str x t⟩
 |.list ds,_,_,h,r=>by
  cases h with
  |lst a c=>
   cases r;obtain⟨its,f,pl,hz⟩:=I.list a;obtain⟨as,ra⟩:=ef.reads I ds _ _ c f;obtain⟨o,e,hc,n,hd⟩:=pl.isList;exact⟨_,.list e hc hd (by simpa using ra)⟩
 |.tuple ds,_,_,h,r=>by
  cases h with
  |tup a c=>
   cases r;obtain⟨its,f,pl,hz⟩:=I.tuple a;obtain⟨as,ra⟩:=ef.reads I ds _ _ c f;obtain⟨o,e,hc,n,hd⟩:=pl;exact⟨_,.tuple e hc hd (by simpa using ra)⟩
 |.dict _,_,_,h,_=>nomatch h
theorem ef.reads(I:Inv X pins σ H s):∀(ds:List PyData) (vs:List V) (a:List Value),ef X.K H vs ds->Vals vs a->∃as,ReadsAll s.heap a ds as
 |[],_,_,h,r=>by cases h;cases r;exact⟨_,.nil⟩
 |d::ds,_,_,h,r=>by
  cases h with
  |cons h1 h2=>
   cases r with
   |cons b c=>
    obtain⟨as,a1⟩:=Dp.reads I d _ _ h1 b;obtain⟨bs,a2⟩:=ef.reads I ds _ _ h2 c;exact⟨_,.cons a1 a2⟩
end
def uB(K:PySem.W.Frag):R2:=λx y H Q=>∃d e,Dp K H x d/\Dp K H y e/\d.canLay0=true/\e.canLay0=true/\min d.depth e.depth<=64/\Q (.bl (PyData.eqv d e)) H
def uD(K:PySem.W.Frag):R2:=λx y H Q=>∃d e,Dp K H x d/\Dp K H y e/\d.canLay0=true/\e.canLay0=true/\min d.depth e.depth<=64/\Q (.bl (!PyData.eqv d e)) H
theorem Kf(i:X.A.units+64<cLine):aX X (compareOp .Eq) (uB X.K):=by
 intro pins s σ H x y v u Q I a b h;obtain⟨d,e,h1,h2,c,f,hd,q⟩:=h;obtain⟨as,ra⟩:=Dp.reads I d x v h1 a;obtain⟨bs,g⟩:=Dp.reads I e y u h2 b;exact SeqAt.compareEq_reads ra g c f (by omega) ⟨.bl _,H,I,rfl,q⟩
theorem Kv(i:X.A.units+64<cLine):aX X (compareOp .NotEq) (uD X.K):=by
 intro pins s σ H x y v u Q I a b h;obtain⟨d,e,h1,h2,c,f,hd,q⟩:=h;obtain⟨as,ra⟩:=Dp.reads I d x v h1 a;obtain⟨bs,g⟩:=Dp.reads I e y u h2 b;exact SeqAt.compareNe_reads ra g c f (by omega) ⟨.bl _,H,I,rfl,q⟩
theorem h_.new{p:Addr}(h:H p=none)(o:HO):h_ H (upd H p o):=λb u q=>by rw[aS (cQ q h)];exact q
theorem ef.ints:∀(xs:List Int),ef K H (xs.map V.int) (xs.map PyData.int)
 |[]=>.nil
 |x::r=>.cons (.int x) (ef.ints r)
end
mutual
def dM:PyData->Bool
 |.none|.int _|.str _=>true
 |.bool _=>false
 |.list ds=>gP ds
 |.tuple ds=>gP ds
 |.dict _=>false
def gP:List PyData->Bool
 |[]=>true
 |d::r=>dM d&&gP r
end
mutual
theorem yg:∀(d e:PyData),dM d=true->dM e=true->(PyData.eqv d e=true↔d=e)
 |.none,e,_,h=>by cases e<;>simp[PyData.eqv,dM] at h ⊢
 |.bool b,e,h,_=>by simp[dM] at h
 |.int i,e,_,h=>by cases e<;>simp[PyData.eqv,dM] at h ⊢
 |.str x,e,_,h=>by cases e<;>simp[PyData.eqv,dM] at h ⊢
 |.list ds,e,h1,h2=>by
  cases e with
  |list es=>
   have:=sF ds es (by simpa[dM] using h1) (by simpa[dM] using h2);simpa[PyData.eqv] using this
  |_=>simp[PyData.eqv,dM] at h2 ⊢
 |.tuple ds,e,h1,h2=>by
  cases e with
  |tuple es=>
   have:=sF ds es (by simpa[dM] using h1) (by simpa[dM] using h2);simpa[PyData.eqv] using this
  |_=>simp[PyData.eqv,dM] at h2 ⊢
 |.dict _,_,h,_=>by simp[dM] at h
theorem sF:∀(ds es:List PyData),gP ds=true->gP es=true->(eqvAll ds es=true↔ds=es)
 |[],[],_,_=>by simp[eqvAll]
 |[],_::_,_,_=>by simp[eqvAll]
 |_::_,[],_,_=>by simp[eqvAll]
 |d::ds,e::es,h1,h2=>by
  have n1:dM d=true/\gP ds=true:=by simpa[gP] using h1
  have n2:dM e=true/\gP es=true:=by simpa[gP] using h2
  have a:=yg d e n1.1 n2.1;have b:=sF ds es n1.2 n2.2;simp only[eqvAll,and_eq_true,List.cons.injEq,a,b]
end
section
variable{P:Program}{w:World}{K:PySem.W.Frag}{mg:aj}{base:Heap}
def TopD(K:PySem.W.Frag)(mg:aj)(x:Str)(st:Stmt)(ps:List Str):Prop:=∃f fd,iJ K x x st f fd/\Binds K fd ps []/\mg x=some (.ref f)
end
section
variable{X:Cx}{k:Nat}{x:Str}{ps:List Str}{sp:Sp}{e:Expr}{es:List Expr}{t:TA}{p pos:Pos}
theorem Kn:aX X (compareOp .LtE) (λx y H Q=>∃i j,x=.str i/\y=.str j/\Q (.bl (!decide (j.cps.toList<i.cps.toList))) H):=by
 intro pins s σ H x y v u Q I a b h;obtain⟨i,j,rfl,rfl,q⟩:=h;obtain⟨t,rfl⟩:=a;obtain⟨t',rfl⟩:=b;exact PySem.P.le_str (bS I q rfl)
end
def qS(K:PySem.W.Frag)(a:Addr):It:=
 ⟨λi H=>∃xs x,aO K H a xs/\xs[i]?=some x,λi H x H'=>∃p y,H p=none/\x=.ref p/\H'=upd H p (.tup [.int (i:Nat),y])/\∀xs,aO K H a xs->xs[i]?=some y,λi H=>∃xs,aO K H a xs/\xs.length<=i⟩
theorem Og{P:Program}{w:World}{K:PySem.W.Frag}{elts:List Expr}{k:Nat}{pos:Pos}(a e it:Addr)(A:e≠it):
  Turn P w K (.Tuple elts k pos) (qS K a) [e,it] e (λi h=>(∃old,IsEnum h e it i old)/\h.IsListIter it a i) where
 mem:=by simp
 obj:=λi h st b hb=>by
  have g:b=e\/b=it:=by simpa using hb
  obtain⟨⟨old,l⟩,o,e1,c,d⟩:=st
  rcases g with z|z
  .subst z
   exact⟨_,l,λv z=>nomatch (show Data.fields _=Data.cell v from z)⟩
  .subst z
   exact⟨o,e1,λv z=>by rw[d] at z;cases z⟩
 keep:=λi h h' st kp=>by
  obtain⟨⟨old,l⟩,st⟩:=st
  exact⟨⟨old,kp e (by simp) _ l⟩,st.at λo q=>kp it (by simp) o q⟩
 item:=by
  intro X M N O hc i pins s σ H E I F st Q
  subst M N O
  obtain⟨xs,x,G,R⟩:=Q
  obtain⟨its,S,p,hz⟩:=I.list G
  obtain⟨u,hu,ru⟩:=S.get R
  obtain⟨f0,f1,f2,f3,f4,f5⟩:=F e (by simp)
  obtain⟨J,L,g2,T,U,V⟩:=F it (by simp)
  obtain⟨⟨old,l⟩,t⟩:=st
  refine wpAny_pyNext_enum_item l t p.isList (x:=u) (by simpa using hu) A λh' ho B hT hsz hk=> ?_
  refine⟨_,rfl,wpAny_letOwnedTupleGo_enum ho λh'' C j=> ?_⟩
  have y:H s.heap.objs.size=none:=I.hok.fresh (le_refl _)
  have elt:e<s.heap.objs.size:=lt_size l
  have Y:it<s.heap.objs.size:=by obtain⟨_,q,_⟩:=t;exact lt_size q
  have kp:∀b o,b≠e->b≠it->s.heap.get? b=some o->h''.get? b=some o:=λb o n1 n2 q=>(j.2 b n1).trans (hk b o n1 n2 q)
  have Z:h''.get? s.heap.objs.size=some {cls:= .type "tuple",data:= .seq #[.int i s.toks,u]}:=(j.2 _ (ne_of_gt elt)).trans hT
  have nb:∀b,b∉[e,it]->b≠e/\b≠it:=λb hb=>⟨λz=>hb (by simp[z]),λz=>hb (by simp[z])⟩
  have nT:∀b o,s.heap.get? b=some o->b≠s.heap.objs.size:=λb o q=>ne_of_lt (lt_size q)
  have I1:Inv X pins σ (upd H s.heap.objs.size (.tup [.int (i:Nat),x])) {s with heap:=h'',toks:=s.toks+1}:=by
   refine I.step (g':=s.gens) (d':=s.drawn) (ch:=[e,it]) (λb hb=> ?_) (λb o _ _ hb q _=>kp b o (nb b hb).1 (nb b hb).2 q) (λb o _ _ hb q _=>⟨o.slots,kp b o (nb b hb).1 (nb b hb).2 q⟩)
    (λb o hb q n=>by rw[aS (nT b o q)];exact n) (λb o hb q=>⟨o,kp b o (nb b hb).1 (nb b hb).2 q⟩) (λb ys q=>by rw[aS (cQ q y)];exact q) (λb o v q=>by rw[aS (cQ q y)];exact q)
    (λb ps q=>⟨#[],by rw[aS (cQ q y),q];simp⟩) (λm hm=> ?_) (λb v q=> ?_) I.bare
   .have g:b=e\/b=it:=by simpa using hb
    rcases g with z|z
    .subst z;exact⟨f3,f1,f4,f5⟩
    .subst z;exact⟨T,L,U,V⟩
   .obtain⟨o,es,ep,q,r⟩:=hm
    exact⟨o,es,ep,kp _ o (Ne.symm f1) (Ne.symm L) q,r⟩
   .by_cases hb:b=s.heap.objs.size
    .subst hb
     rw[cW] at q
     cases q
     exact⟨by show 2<=sizeLine;decide,[.int i s.toks,u],.cons ⟨_,rfl⟩ (.cons ru .nil),_,Z⟩
    .rw[aS hb] at q
     have ne1:∀c v',H c=some v'->c≠e/\c≠it:=λc v' f=>⟨λz=>(by rw[z,f0] at f;cases f),λz=>(by rw[z,J] at f;cases f)⟩
     refine(I.hok b v q).stay (λc w' D f=>kp c w' ?_ ?_ f) (λc f=>by rw[aS (cQ f y)];exact f) λc ys f=>by rw[aS (cQ f y)];exact f
     .rcases D with z|z
      .rw[z];exact(ne1 b v q).1
      .exact(ne1 c _ z).1
     .rcases D with z|z
      .rw[z];exact(ne1 b v q).2
      .exact(ne1 c _ z).2
  refine⟨.ref s.heap.objs.size,_,I1,rfl,⟨s.heap.objs.size,x,y,rfl,rfl,λys hy=>by rw[I.tO hy G];exact R⟩,⟨⟨u,by simpa using C⟩,B.at λo q=>(j.2 it A.symm).trans q⟩,λb hb=> ?_⟩
  have g:b=e\/b=it:=by simpa using hb
  rcases g with z|z
  .subst z;rw[aS (ne_of_lt elt)];exact f0
  .subst z;rw[aS (ne_of_lt Y)];exact J
 done:=by
  intro X M N O hc i pins s σ H E I F st Q
  subst M N O
  obtain⟨xs,G,R⟩:=Q
  obtain⟨its,S,p,hz⟩:=I.list G
  obtain⟨J,L,g2,T,U,V⟩:=F it (by simp)
  obtain⟨⟨old,l⟩,t⟩:=st
  have hl:=S.length
  exact wpAny_pyNext_enum_end (I.ok.hd hc) l t p.isList (by simp;omega) λh' eb=>⟨rfl,I.turned (t':=s.toks) (λb o hb e=>eb b o hb e) J L T U V⟩
 self:=λ_ _ _ _ _ st h=>by
  obtain⟨⟨old,l⟩,_⟩:=st
  exact wpAny_pyIter_enum l h
section
variable{X:Cx}
def HG(K:PySem.W.Frag)(ta:TA):TI:=λσ H R=>ta σ H λvs H1=>∃a xs,vs=[.ref a]/\aO K H1 a xs/\R (qS K a) H1
theorem K_{l:Expr}{ta:TA}{elts:List Expr}{k:Nat}{tpos p pos:Pos}(i:Gl X "enumerate")(j:X.mg "enumerate"=none)(ha:PA X [l] ta)(hb:bootBuiltins "enumerate"=some (.type "enumerate"))(m:starEach [l] X.env=[(false,eval l X.env)]:=by rfl):
  PI X (.Tuple elts k tpos) (.Call (.Name "enumerate" p) [l] [] pos) (HG X.K ta):=by
 intro pins s σ H R I h;refine Call_ (jc I i j hb (PyProof.Rows.callWith_type1 (aF (ha pos pins s σ H _ I h) λx c ⟨vs,H1,d,n,o⟩=>?_) m rfl));obtain⟨a,xs,e,r,q⟩:=o;subst e;obtain⟨u,rfl,t⟩:=vals1 n;cases t;obtain⟨its,y,pl,hz⟩:=d.list r;refine call_enumerate_list pl.isList λh' g hit hsz v=>?_;have w:Inv X pins σ H1 {c with heap:=h'}:=d.kept (t':=c.toks) v;refine wpAny_pyIter_enum g ⟨_,[c.heap.objs.size+1,c.heap.objs.size],_,_,H1,rfl,w,Og a _ _ (ne_of_gt (Nat.lt_succ_self _)),⟨⟨_,g⟩,hit⟩,λb hb=>?_,q⟩;have f:b=c.heap.objs.size+1\/b=c.heap.objs.size:=by simpa using hb
 rcases f with z|z
 .subst z
  exact d.i8 (le_succ _) (d.hok.fresh (le_succ _))
 .subst z
  exact d.i8 (le_refl _) (d.hok.fresh (le_refl _))
theorem Inv.many{pins:aK}{σ:St}{H H':Hp}{s:Shared}{h':Heap}{t':Nat}(I:Inv X pins σ H s)(kp:∀b o,s.heap.get? b=some o->h'.get? b=some o)(d:h_ H H')
  (a:∀b o,H' b=some o->H b=some o\/(s.heap.objs.size<=b/\bw X.prog X.w H' h' b o)):Inv X pins σ H' {s with heap:=h',toks:=t'}:=by
 refine I.un (h':=h') (t':=t') ⟨λb o q _ _ _=>kp b o q,λb o q _ _ _=>⟨o.slots,kp b o q⟩,λb o q n _=>?_,λb o q _=>⟨o,kp b o q⟩,λb xs q=>d _ _ q,λb o u q=>d _ _ q,λb ps q=>⟨#[],by rw[d _ _ q];simp⟩⟩ λb o q=>?_
 .cases e:H' b with
  |none=>rfl
  |some u=>
   rcases a b u e with z|⟨z,_⟩
   .rw[n] at z;cases z
   .exact absurd (lt_of_lt_of_le (lt_size q) z) (lt_irrefl _)
 .rcases a b o q with z|⟨_,z⟩
  .exact(I.hok b o z).stay (λc v _ r=>kp c v r) (λc r=>d _ _ r) λc xs r=>d _ _ r
  .exact z
end
inductive lD(K:PySem.W.Frag)(H:Hp):V->Value->Prop where
 |of {x:V} {t:Value} (h:fH K H x t):lD K H x t
 |tup {a:Addr} {xs:List V} (h:bq K H a xs):lD K H (.ref a) (.type "tuple")
 |lst {a:Addr} {xs:List V} (h:aO K H a xs):lD K H (.ref a) (.type "list")
theorem D6{X:Cx}:c_ X (.builtin "isinstance") (λxs H Q=>∃x c t b,xs=[x,.ty c]/\lD X.K H x t/\kitOne X.K t (.type c)=some b/\Q (.bl b) H):=by
 intro pins s σ H xs i Q I r h;obtain⟨x,c,t,b,rfl,ty,e,q⟩:=h;obtain⟨u,j,rfl,a,d⟩:=vals2 r;cases d;cases ty with
 |of ty=>exact Ia I a ty e λtk=>⟨.bl b,H,I.tok tk,rfl,q⟩
 |tup f=>
  cases a;obtain⟨its,g,⟨o,h1,h2,_⟩,_⟩:=I.tuple f;exact kia_one kitx_tuple I.dH ⟨o,h1,h2⟩ e (λz=>nomatch z) λtk=>⟨.bl b,H,I.tok tk,rfl,q⟩
 |lst f=>
  cases a;obtain⟨its,g,pl,_⟩:=I.list f;obtain⟨o,h1,h2,_⟩:=pl.isList;exact kia_one kitx_list I.dH ⟨o,h1,h2⟩ e (λz=>nomatch z) λtk=>⟨.bl b,H,I.tok tk,rfl,q⟩
end L2
end
namespace MA
theorem yJ{a b:Int}(ha:0<=a)(hb:0<b):Int.gcd b (a%b)=Int.gcd a b:=by
 obtain⟨m,rfl⟩:=Int.eq_ofNat_of_zero_le ha;obtain⟨n,rfl⟩:=Int.eq_ofNat_of_zero_le (Int.le_of_lt hb);rw[<-Int.natCast_emod,Int.gcd_natCast_natCast,Int.gcd_natCast_natCast,Nat.gcd_comm n (m%n),<-Nat.gcd_rec,Nat.gcd_comm]
def rf(x:Rat):Int×Int:=(x.num,(x.den:Int))
theorem cK(x:Rat):0<(rf x).2:=by
 have:=x.den_pos;show(0:Int)<(x.den:Int);omega
theorem gj(x:Rat):((rf x).1:Rat)/((rf x).2:Rat)=x:=by
 show(x.num:Rat)/((x.den:Int):Rat)=x;rw[<-Rat.divInt_eq_div,Rat.divInt_ofNat,Rat.mkRat_self]
theorem L0{x y:Rat}(h:rf x=rf y):x=y:=by rw[<-gj x,<-gj y,h]
theorem ql{a b:Int}(hb:0<b):(a/(Int.gcd a b:Int),b/(Int.gcd a b:Int))=rf ((a:Rat)/(b:Rat)):=by
 rw[<-Rat.divInt_eq_div];unfold rf;have h1:=Rat.num_divInt a b;have h2:=Rat.den_divInt a b;rw[h1,h2];have c:b.sign=1:=Int.sign_eq_one_of_pos hb;rw[c,if_neg (by omega),one_mul,Int.gcd_comm b a];congr 1;have:(b.natAbs:Int)=b:=by omega
 rw[Int.natCast_ediv,this]
inductive aD(N:Type) where
 |wt (n:N)
 |aM (l r:Int) (a b:aD N)
namespace aD
variable{N:Type}
def arms:aD N->Prop
 |wt _=>True
 |aM l r a b=>1<=l/\l<=9/\1<=r/\r<=9/\a.arms/\b.arms
def deep:aD N->Nat
 |wt _=>0
 |aM _ _ a b=>max a.deep b.deep+1
def names:aD N->List N
 |wt n=>[n]
 |aM _ _ a b=>a.names++b.names
def sh:aD N->Rat->List Rat
 |wt _,x=>[x]
 |aM l r a b,x=>a.sh (x*((r:Rat)/((l+r:Int):Rat)))++b.sh (x*((l:Rat)/((l+r:Int):Rat)))
theorem uM:∀(m:aD N) (x:Rat),(m.sh x).length=m.names.length
 |wt _,_=>rfl
 |aM l r a b,x=>by
  show List.length (_++_)=List.length (_++_);rw[length_append,length_append,uM a,uM b]
theorem jg:∀(m:aD N),m.names.length<=2 ^ m.deep
 |wt _=>le_refl 1
 |aM _ _ a b=>by
  have h1:=jg a;have h2:=jg b;have c:2 ^ a.deep<=2 ^ max a.deep b.deep:=pow_le_pow_right (by decide) (le_max_left _ _);have d:2 ^ b.deep<=2 ^ max a.deep b.deep:=pow_le_pow_right (by decide) (le_max_right _ _);show List.length (_++_)<=2 ^ (max a.deep b.deep+1);rw[length_append,Nat.pow_succ];omega
theorem mE:∀(m:aD N),0<m.names.length
 |wt _=>Nat.zero_lt_one
 |aM _ _ a b=>by
  have h1:=mE a;show 0<List.length (_++_);rw[length_append];omega
end aD
theorem uG:rf 1=(1,1):=by rfl
theorem dg{a:Int}(h:a≠0):(a:Rat)≠0:=by
 intro z;exact h (by exact_mod_cast z)
theorem uF(t:Rat)(a b:Int):rf ((((rf t).1*a:Int):Rat)/(((rf t).2*b:Int):Rat))=rf (t*((a:Rat)/(b:Rat))):=by
 have h1:=dg (Int.ne_of_gt (cK t));congr 1;rw[Rat.intCast_mul,Rat.intCast_mul];have c:=gj t;by_cases hb:(b:Rat)=0
 .rw[hb];grind
 .grind
theorem AS(t s:Rat):rf ((((rf t).1*(rf s).1:Int):Rat)/(((rf t).2*(rf s).2:Int):Rat))=rf (t*s):=by
 rw[uF,gj]
theorem Ff{a b:Int}(hb:0<b):(rf ((a:Rat)/(b:Rat))).2<=b:=by
 rw[<-ql hb];show b/(Int.gcd a b:Int)<=b;exact ediv_le_self _ (Int.le_of_lt hb)
theorem den_mul{t:Rat}{a b:Int}(hb:0<b):(rf (t*((a:Rat)/(b:Rat)))).2<=(rf t).2*b:=by
 rw[<-uF];exact Ff (mul_pos (cK t) hb)
theorem dh{x:Rat}(h:0<x):0<(rf x).1:=by
 have h1:0<=(rf x).1:=Rat.num_nonneg.mpr (Rat.le_of_lt h);have h2:(rf x).1≠0:=λz=>by
  have e:=gj x;rw[z] at e;have a:x=0:=by rw[<-e,Rat.div_def];grind
  rw[a] at h;exact absurd h (by decide)
 omega
namespace aD
variable{N:Type}
theorem step_pos{l r:Int}{x:Rat}(a:1<=l)(b:1<=r)(h:0<x):0<x*((r:Rat)/((l+r:Int):Rat)):=by
 have h1:(0:Rat)<(r:Rat):=by exact_mod_cast (show(0:Int)<r by omega)
 have h2:(0:Rat)<((l+r:Int):Rat):=by exact_mod_cast (show(0:Int)<l+r by omega)
 exact Rat.mul_pos h (by rw[Rat.div_def];exact Rat.mul_pos h1 (Rat.inv_pos.mpr h2))
theorem uL:∀(m:aD N) (x:Rat) (B:Int),m.arms->0<x->(rf x).2<=B->∀s∈m.sh x,0<s/\(rf s).2<=B*18 ^ m.deep
 |wt _,x,B,_,h1,h2,s,hs=>by
  have:s=x:=by simpa[sh] using hs
  subst this;exact⟨h1,by simpa[deep] using h2⟩
 |aM l r a b,x,B,h,h1,h2,s,hs=>by
  obtain⟨f,t,g,u,i,j⟩:=h;have n:0<B:=Int.lt_of_lt_of_le (cK x) h2;have o:(rf (x*((r:Rat)/((l+r:Int):Rat)))).2<=B*18:=by
   refine Int.le_trans (den_mul (by omega)) ?_;exact mul_le_mul h2 (by omega) (by omega) (by omega)
  have p:(rf (x*((l:Rat)/((l+r:Int):Rat)))).2<=B*18:=by
   refine Int.le_trans (den_mul (by omega)) ?_;exact mul_le_mul h2 (by omega) (by omega) (by omega)
  have p1:0<x*((r:Rat)/((l+r:Int):Rat)):=step_pos f g h1;have p2:0<x*((l:Rat)/((l+r:Int):Rat)):=by
   have:=step_pos (l:=r) (r:=l) g f h1;rwa [add_comm r l] at this
  have up:∀k:Nat,k<=max a.deep b.deep->B*18*18 ^ k<=B*18 ^ (max a.deep b.deep+1):=λk q=>by
   rw[pow_succ,mul_assoc,mul_comm 18 (18 ^ k)];refine Int.mul_le_mul_of_nonneg_left ?_ (Int.le_of_lt n);refine Int.mul_le_mul_of_nonneg_right ?_ (by decide);have:(18:Nat) ^ k<=18 ^ max a.deep b.deep:=pow_le_pow_right (by decide) q;exact_mod_cast this
  have c:s∈a.sh (x*((r:Rat)/((l+r:Int):Rat)))\/s∈b.sh (x*((l:Rat)/((l+r:Int):Rat))):=mem_append.mp hs;rcases c with hs|hs
  .obtain⟨d,e⟩:=uL a _ _ i p1 o s hs
   exact⟨d,Int.le_trans e (up _ (le_max_left _ _))⟩
  .obtain⟨d,e⟩:=uL b _ _ j p2 p s hs
   exact⟨d,Int.le_trans e (up _ (le_max_right _ _))⟩
end aD
def bC{W N S:Type}[DecidableEq N][DecidableEq S](pre:List (W×N×S)):List (W×N×S)->Option (W×W)
 |[]=>none
 |(w,n,s)::r=>match pre.find? (λp=>decide (p.2.1=n)) with
  |some p=>if p.2.2=s then bC (pre++[(w,n,s)]) r else some (p.1,w)
  |none=>bC (pre++[(w,n,s)]) r
end MA
section
open PySem PySem.Spec PyProof.Rows
namespace L2
section
variable{P:Program}{w:World}{H H':Hp}{h:Heap}{a:Addr}{o:HO}
theorem bw.obj(x:bw P w H h a o):∃u,h.get? a=some u:=by
 cases o with
 |lst xs=>obtain⟨_,_,_,_,e⟩:=x;exact⟨_,e⟩
 |tup xs=>obtain⟨_,_,_,_,e⟩:=x;exact⟨_,e⟩
 |dK kvs=>obtain⟨_,_,_,_,o,_,_,e,_⟩:=x;exact⟨_,e⟩
 |dT kvs=>obtain⟨_,_,_,_,o,_,_,e,_⟩:=x;exact⟨_,e⟩
 |set S n=>obtain⟨o,_,_,_,e,_⟩:=x;exact⟨_,e⟩
 |ins C dx fs=>obtain⟨_,_,_,e,_⟩:=x;exact⟨_,e⟩
 |own y=>exact x
 |xd fs=>obtain⟨_,⟨_,_,_,e,_⟩,_⟩:=x;exact⟨_,e⟩
 |dw lo hi=>obtain⟨_,_,_,e⟩:=x;exact⟨_,e⟩
 |bh b u=>obtain⟨e,_⟩:=x;exact⟨_,e⟩
 |fR ps=>exact⟨_,(show h.get? a=some _ from x)⟩
 |met f y=>exact⟨_,(show h.get? a=some _ from x)⟩
 |ext c=>obtain⟨_,e,_⟩:=x;exact e
end
structure vp(P:Program)(w:World)(outer:List Env)(H H':Hp)(s s':Shared)(a:Addr)(C:Value):Prop where
 os:s'.os=s.os
 bare:AllBare s'.gens
 slot:∀b o,s.heap.get? b=some o->b∈frs outer->∃sl,s'.heap.get? b=some {o with slots:=sl}
 free:∀b o,s.heap.get? b=some o->H b=none->H' b=none
 tups:∀b xs,H b=some (.tup xs)->H' b=some (.tup xs)
 eF:∀b o u,H b=some (.bh o u)->H' b=some (.bh o u)
 fD:∀b ps,H b=some (.fR ps)->∃more,H' b=some (.fR (ps++more))
 fl:∃(B:Heap) (a0:Value),(∀b o,s.heap.get? b=some o->H b=none->b∉frs outer->B.get? b=some o)/\(∀b o,s.heap.get? b=some o->b∉frs outer->∃o',B.get? b=some o')/\bW P w H' B/\Heap.FlyingW B outer a C a0 s'.heap
section
variable{P:Program}{w:World}{outer:List Env}{H H':Hp}{s s':Shared}{a:Addr}{C:Value}
end
def br(P:Program)(w:World):fT:=λouter H s E e s'=>∃(a:Addr) (C:Value) (H':Hp),e=.ref a/\vp P w outer H H' s s' a C/\E C none H'
section
variable{X:Cx}{pins:aK}{σ:St}{H H':Hp}{s s':Shared}{a:Addr}{C:Value}
theorem yt(I:Inv X pins σ H s)(hex:X.ex=[])(os:s'.os=s.os)(bare:AllBare s'.gens)(slot:∀b o,s.heap.get? b=some o->b∈frs X.outer->∃g,s'.heap.get? b=some {o with slots:=g})
  (free:∀b o,s.heap.get? b=some o->H b=none->H' b=none)(tups:∀b xs,H b=some (.tup xs)->H' b=some (.tup xs))(eF:∀b o u,H b=some (.bh o u)->H' b=some (.bh o u))
  (fD:∀b ps,H b=some (.fR ps)->∃c,H' b=some (.fR (ps++c)))
  (fl:∃(B:Heap) (a0:Value),(∀b o,s.heap.get? b=some o->H b=none->b∉frs X.stack->B.get? b=some o)/\(∀b o,s.heap.get? b=some o->b∉frs X.stack->∃o',B.get? b=some o')/\bW X.prog X.w H' B/\Heap.FlyingW B X.outer a C a0 s'.heap):
  vp X.prog X.w X.outer X.H₀ H' X.s₀ s' a C:=by
 have nx:∀b:Addr,b∉X.ex:=λb=>by rw[hex];simp
 have d:∀b o,X.s₀.heap.get? b=some o->b∉frs X.outer->b∉frs X.stack:=λb o q hb z=>by
  rcases mem_cons.mp (I.kY b z) with e|e
  .exact absurd (lt_of_lt_of_le (lt_size q) I.ok.above) (by rw[e];exact lt_irrefl _)
  .exact hb e
 refine⟨os.trans I.os,bare,λb o q hb=> ?_,λb o q n=> ?_,λb xs q=>tups b xs (I.base.tups b xs q),λb o u q=>eF b o u (I.base.eF b o u q),λb ps q=> ?_,?_⟩
 .obtain⟨g,e⟩:=I.base.slot b o q (I.ok.kh b hb) hb (nx b)
  obtain⟨i,j⟩:=slot b _ e hb
  exact⟨i,j⟩
 .obtain⟨g,e⟩:=I.base.any q n (nx b)
  exact free b _ e (I.base.free b o q n (nx b))
 .obtain⟨l,m⟩:=I.base.fD b ps q
  obtain⟨p,r⟩:=fD b _ m
  exact⟨l++p,by rw[r,Array.append_assoc]⟩
 .obtain⟨B,a0,k,t,h,f⟩:=fl
  refine⟨B,a0,λb o q n hb=>k b o (I.base.keep b o q n hb (nx b)) (I.base.free b o q n (nx b)) (d b o q hb),λb o q hb=> ?_,h,f⟩
  obtain⟨o',e⟩:=I.base.there b o q (nx b)
  exact t b o' e (d b o q hb)
end
def Raises(X:Cx)(E:XK):Prop:=∀(pins:aK) (σ:St) (H:Hp) (s:Shared) (e:Addr) (h':Heap) (C:Value) (args:List Value),Inv X pins σ H s->Heap.MadeExcOf s.heap h' e C args->E C none H->X.xe (.ref e) {s with heap:=h'}
section
variable{P:Program}{w:World}{K:PySem.W.Frag}{mg:aj}{base:Heap}{N:List Str}{qual:Str}{scope:Scope}{f:Addr}{cd:Value}{A:Around}{outer:List Env}{s:Shared}{H:Hp}{E:XK}
theorem yz{env:Env}{l:List Env}{b:Addr}(h:b∈frs l):b∈frs (env::l):=by
 obtain⟨e,a,c⟩:=mem_filterMap.mp h;exact mem_filterMap.mpr ⟨e,mem_cons_of_mem _ a,c⟩
theorem AM:Raises (b7 (br P w) P w K mg base N qual scope f cd A outer s H E) E:=by
 intro pins σ H1 i e h' C args I h j;have stk:=I.stack;have pI:∀b o,H1 b=some o->b∉frs (b7 (br P w) P w K mg base N qual scope f cd A outer s H E).stack:=λb o q z=>by
  rw[I.uO b z] at q;cases q
 have g:∀a∈(b7 (br P w) P w K mg base N qual scope f cd A outer s H E).stack,∀b,a.frame=some b->b∈frs (b7 (br P w) P w K mg base N qual scope f cd A outer s H E).stack:=λa k b hb=>mem_filterMap.mpr ⟨a,k,hb⟩;show wpAny (model P w) _ (leaving _ (.ref e)) _ _ _;refine wpAny_leaves_madeW (base:=hideAll i.heap (frs (b7 (br P w) P w K mg base N qual scope f cd A outer s H E).stack)) I.ok.frames rfl (λb o q=>of_hideAll _ q) (PySem.W.funFrames_hide stk g) h λh'' t fl tup l up=>?_;refine⟨e,C,H1,rfl,yt I rfl rfl I.bare (λb o q hb=>?_) (λ_ _ _ n=>n) (λ_ _ q=>q) (λ_ _ _ q=>q) (λ_ ps q=>⟨#[],by rw[q];simp⟩) ⟨_,_,λb o q n hb=>hideAll_get _ q hb,λb o q hb=>⟨o,hideAll_get _ q hb⟩,λb o q=>?_,fl⟩,j⟩
 .obtain⟨_,o',d,hd⟩:=stk.mem (yz (env:=envOfC qual scope s.heap.objs.size f cd) hb)
  rw[q] at d;cases d;exact up b o (h.keeps b o q) hd
 .refine(I.hok b o q).stay (λc u hc r=>hideAll_get _ r ?_) (λ_ r=>r) λ_ _ r=>r
  rcases hc with z|z
  .rw[z];exact pI b o q
  .exact pI c _ z
theorem Af:Passes (br P w) (b7 (br P w) P w K mg base N qual scope f cd A outer s H E) E:=by
 intro pins σ H1 m e s' I h;obtain⟨a,C,H',rfl,F,j⟩:=h;obtain⟨B,a0,k,th,hok,fl⟩:=F.fl;show wpAny (model P w) _ (leaving _ (.ref a)) _ _ _;refine wpAny_leaves_onW I.ok.frames rfl fl λh'' g up=>⟨a,C,H',rfl,yt I rfl F.os F.bare (λb o q hb=>?_) F.free F.tups F.eF F.fD ⟨B,a0,k,th,hok,g⟩,j⟩;have c:=yz (env:=envOfC qual scope s.heap.objs.size f cd) hb;obtain⟨n,e⟩:=F.slot b o q c;obtain⟨_,o',d,hd⟩:=fl.2.2.1.mem c;rw[e] at d;cases d;obtain⟨i,l⟩:=up b _ e hd;exact⟨i,l⟩
theorem d9:PassesOwn (model P w) (b7 (br P w) P w K mg base N qual scope f cd A outer s H E).A (b7 (br P w) P w K mg base N qual scope f cd A outer s H E).env (b7 (br P w) P w K mg base N qual scope f cd A outer s H E).xe:=
 PassesOwn.leaving
end
abbrev k9:List Value:=[.type "ValueError",.type "Exception",.type "BaseException",.type "object"]
theorem FP{K:PySem.W.Frag}{h:Heap}{C:Addr}{b:List Value}{newId:String}(X:K.In h)(q:excIn K C b newId=true):∃nm d N bs bm hdct sn sub ab col dd k0 k1 k2 k3 k5,∃mN:aj,
  h.get? C=some (excClassObj nm d C N bs bm hdct sn sub ab col dd k0 k1 k2 k3 k5 newId)/\h.Ns N mN/\mN "__init__"=none/\OwnTail h b bm:=by
 unfold excIn at q;split at q
 .rename_i dd cd f j
  split at q
  .rename_i m bm k0 k1 k2 k3 n k5 g i
   simp only[and_eq_true,beq_iff_eq,not_eq_true'] at q;obtain⟨⟨⟨⟨⟨rfl,rfl⟩,a⟩,k⟩,hok⟩,c⟩:=q;obtain⟨nm,bs,mro,ns,d,hd,sn,sub,ab,col,del⟩:=cd;dsimp only at g a hok c;subst g a;have e:f= #[k0,k1,k2,k3,some (.builtin n),k5]:=by
    obtain⟨l⟩:=f;simp only at i;rw[i]
   subst e;exact⟨nm,d,ns,bs,bm,hd,sn,sub,ab,col,dd,k0,k1,k2,k3,k5,_,X _ _ j,.of_isNs (PySem.W.isNs_of_in X hok),PySem.W.nsMap_none_of_in X hok c,PySem.W.tail_of_in X k⟩
  .cases q
 .cases q
section
variable{X:Cx}{E:XK}{x:Str}{C:Addr}{e:Expr}{t:TA}{np cpos pos:Pos}
def NU(E:XK)(C:Addr)(t:TA):TS:=λ_ σ H=>t σ H λvs H1=>vs.length<=sizeLine/\E (.ref C) none H1
theorem LB(j:Raises X E)(hc:X.calm=true)(k:X.mg x=some (.ref C))(l:excIn X.K C k9 "ValueError.__new__"=true)(ha:PA X [e] t)(m:Gl X x:=by rfl)(b:(x==("__debug__":Str))=false:=by decide)
  (f:starEach [e] X.env=[(false,eval e X.env)]:=by rfl):PS X (.Raise (some (.Call (.Name x np) [e] [] cpos)) none pos) (NU E C t):=by
 intro pins s σ H D I h;obtain⟨nm,n,N,bs,bm,hdct,sn,sub,ab,col,dd,k0,k1,k2,k3,k5,mN,c,o,d,g⟩:=FP I.mod.oV l;refine wpAny_Raise_call_subT (nm:=nm) (q:=n) (C:=C) (N:=N) (bs:=bs) (bm:=bm) (hdct:=hdct) (sn:=sn) (sub:=sub) (ab:=ab) (col:=col) (dd:=dd) (k0:=k0) (k1:=k1) (k2:=k2) (k3:=k3) (k5:=k5) (mN:=mN) PySem.F.excBase_ValueError (g.hasType (by decide+kernel)) (I.ok.hd hc) (by rw[f];rfl) d (tH I m k ⟨rfl,?_⟩ b);have h':=ha cpos pins s σ H _ I h;rw[f] at h' ⊢;refine Calls.evalArgs_plain (aF h' λp w ⟨vs,H1,a,r,i⟩=>?_);have u:=r.length;exact⟨rfl,by show p.length<=sizeLine;rw[<-u];exact i.1,a.bk _ _ c,o.keeps a.bk,g.keeps a.bk,λh2 y v=>j _ _ _ _ _ _ _ _ a v i.2⟩
end
def excAt(a:Addr)(C:Value)(h:Heap):Prop:=∃o,h.get? a=some o/\o.cls=C
section
variable{prog:Program}{w:World}{A:Around}{E:aE}{s:Shared}{K:PySem.W.Frag}{x C:Addr}{ox:Obj}
end
abbrev FO(a C:Addr):HO:=.ext (excAt a (.ref C))
section
variable{X:Cx}
end
section
variable{X:Cx}{pins:aK}{σ:St}{H:Hp}{s:Shared}
end
section
variable{P:Program}{w:World}{outer:List Env}{H H':Hp}{s s':Shared}{a:Addr}{C a0:Value}{B h'':Heap}
end
section
variable{X:Cx}{D:Addr}{i:Nat}{n cn:Str}{b₀:Stmt}{suite body:List Stmt}{tb:List (Addr×Obj)->(aE)->XK->TS}{th:TS}{np hpos pos:Pos}
end
section
variable{P:Program}{w:World}{K:PySem.W.Frag}{mg:aj}{base:Heap}
def av(P:Program)(w:World)(K:PySem.W.Frag)(mg:aj)(base:Heap)(k:Nat)(x:Str)(ps:List Str)(sp:Sp):Prop:=
 ∃f fd,eO P w K mg base (br P w) k f fd ps sp/\Binds K fd ps []/\keepIn K (.ref f)=true/\mg x=some (.ref f)
theorem TopD.fnX{x:Str}{st:Stmt}{N ps:List Str}{k:Nat}{sp:Sp}(T:TopD K mg x st ps)(S:a_ N ps (aI st))(len:∀vs H Q E,sp vs H Q E->vs.length=ps.length)
  (c:∀(f:Addr) (a:Value) (A:Around) (outer:List Env) (s:Shared) (H:Hp) (vs:List V) (Q:VK) (E:XK),cH k (A.deeper (envOfC x (aI st) s.heap.objs.size f a))->sp vs H Q E->
   ∃t,cG (b7 (br P w) P w K mg base N x (aI st) f a A outer s H E) (fm st) t/\t {nx:=λ_ H'=>Q .ao H',rt:=Q} (start N vs) H):av P w K mg base (k+1) x ps sp:=by
 obtain⟨f,fd,F,b,m⟩:=T;have kp:=F.kp;obtain⟨i,j,kV,doc,pm,an,a,ct,g,rfl,lk,d⟩:=F.ex;exact⟨f,_,yu lk d S len λA outer s H vs Q E h e=>c f a A outer s H vs Q E h e,b,kp,m⟩
end
section
variable{X:Cx}{k:Nat}{x:Str}{ps:List Str}{sp:Sp}{e fe:Expr}{es:List Expr}{t:TA}{tf:TE}{p pos:Pos}{E:XK}
theorem KJ(F:av X.prog X.w X.K X.mg X.base k x ps sp)(d:cH k X.A)(g:Passes (br X.prog X.w) X E)(ha:PA X (e::es) t)(h:Gl X x:=by rfl)(a:(x==("__debug__":Str))=false:=by decide)
  (i:starEach (e::es) X.env=(false,eval e X.env)::starEach es X.env:=by rfl)(c:(backTo pos (starEach es X.env)).any (·.1)=false:=by rfl):
  PE X (.Call (.Name x p) (e::es) [] pos) (Cw sp [] E t):=by
 obtain⟨f,fd,F,b,kp,m⟩:=F;exact KH F d h m kp b .nil g ha a i c
end
end L2
namespace SS
section
variable{prog:Program}{w:World}{A:Around}{E:aE}{s:Shared}
end
section
variable{prog:Program}{w:World}{A:Around}{R:Result->Shared->Prop}{I:Addr}{fp wr:List Addr}{G:Array GenState->Array GenState->Prop}{n:Nat}{P:Nat->Value->Prop}{St:Nat->Shared->Prop}
end
section
variable{prog:Program}{w:World}{A:Around}{E:aE}{s:Shared}
end
section
variable{M:Model}{A:Around}{E:aE}{s:Shared}
end
section
variable{prog:Program}{w:World}{A:Around}{E:aE}{s:Shared}{it a:Addr}{es:Array (Int×Value)}{ep:Nat}{t:SetTable}
end
section
variable{prog:Program}{w:World}{A:Around}{E:aE}{s:Shared}{it a:Addr}{es:Array (Int×Value)}{ep:Nat}{t:SetTable}
end
section
variable{prog:Program}{w:World}{A:Around}{E:aE}{s:Shared}{it a:Addr}{es:Array (Int×Value)}{ep:Nat}{t:SetTable}
end
section
variable{prog:Program}{w:World}{A:Around}{E:aE}{s:Shared}{it a:Addr}{es:Array (Int×Value)}{ep:Nat}{t:SetTable}
end
section
variable{prog:Program}{w:World}{A:Around}{E:aE}{s:Shared}{a:Addr}{es:Array (Int×Value)}
end
end SS
namespace L2
section
variable{X:Cx}
def strLt(a b:Str):Prop:=a.cps.toList<b.cps.toList
theorem AU:∀(p:Str) (l:List Str),risingS p l=true->(p::l).Pairwise (λa b=>¬b.cps.toList<a.cps.toList)
 |p,[],_=>List.pairwise_singleton _ _
 |p,x::r,h=>by
  simp only[risingS,and_eq_true,not_eq_true',ltCps_eq,decide_eq_false_iff_not] at h;have c:=AU x r h.2;refine pairwise_cons.mpr ⟨λy d=>?_,c⟩;rcases mem_cons.mp d with e|e
  .rw[e];exact h.1
  .have:=(pairwise_cons.mp c).1 y e
   exact λz=>(not_lt.mp this)|>λq=>absurd z (not_lt.mpr (List.le_trans (not_lt.mp h.1) q))
theorem Cg{l:List Str}(h:sortedS l=true):l.Pairwise (λa b=>¬b.cps.toList<a.cps.toList):=by
 cases l with
 |nil=>exact .nil
 |cons x r=>exact AU x r h
theorem Cr{l:List Str}(h:l.Pairwise (λa b=>¬b.cps.toList<a.cps.toList))(nd:l.Nodup):l.Pairwise strLt:=by
 refine(h.and nd).imp λ {a b} q=>?_;by_cases z:a.cps.toList<b.cps.toList
 .exact z
 .have e:a.cps.toList=b.cps.toList:=List.le_antisymm (not_lt.mp q.1) (not_lt.mp z)
  refine absurd ?_ q.2;obtain⟨⟨c⟩⟩:=a;obtain⟨⟨d⟩⟩:=b;have f:c=d:=e;rw[f]
theorem vd:∀{out:List Value} {a:List Str},StrsAre out a->Vals (a.map V.str) out
 |_,_,.nil=>.nil
 |_,_,.cons x t h=>.cons ⟨t,rfl⟩ (vd h)
end
section
variable{X:Cx}
end
section
variable{X:Cx}
end
section
variable{prog:Program}{w:World}{A:Around}{E:aE}{s:Shared}
theorem tuple_addW0(l b:Addr)(items a:Array Value)(n n2:Nat)(dd c:Option Addr)(f e:Array (Option Value))(i:items.isEmpty=true):
  Meets (Builtin.«tuple.__add__» ⟨[.ref l,.ref b],[]⟩) (λ_ R s=>s.heap.get? l=some {cls:=.type "tuple",dict:=dd,data:=.seq items n,slots:=f}/\s.heap.get? b=some {cls:=.type "tuple",dict:=c,data:=.seq a n2,slots:=e}/\R (.ok (.ret (Value.ref b))) {s with heap:=s.heap,toks:=s.toks}):=
 .of_wp λprog w A R s h=>by obtain⟨k,g,d,tk,os⟩:=s;obtain⟨j,hb,h⟩:=h;have f1:=AutoSeq1.idx_int;have f2:=AutoSeq1.sub_tuple_tuple;have m:=AutoSeq1.sub_list_list;have f4:=AutoSeq1.sub_tuple_list;have o:=AutoSeq1.sub_list_tuple;wp_walk using wpAny_loadPart' j,wpAny_loadPart' hb;exact⟨_,rfl,h⟩
end
section
variable{X:Cx}
def LS(K:PySem.W.Frag):R2:=λx y H Q=>∃a b ys,x=.ref a/\y=.ref b/\bq K H a []/\bq K H b ys/\Q (.ref b) H
theorem Kd:aX X (binaryOp .Add) (LS X.K):=by
 intro pins s σ H x y v u Q I k l h;obtain⟨a,b,ys,rfl,rfl,ha,hb,q⟩:=h;cases k;cases l;obtain⟨its,m,p1,_⟩:=I.tuple ha;obtain⟨c,p,p2,_⟩:=I.tuple hb;cases m;obtain⟨⟨cls,dd,data,o⟩,i,hc,n,hd⟩:=id p1;obtain⟨⟨j,f,data2,g⟩,d,e,n2,hd2⟩:=id p2;simp only at hc hd e hd2;subst hc hd e hd2;exact concat_meets ⟨_,i,rfl⟩ ⟨_,d,rfl⟩ noFill_tuple_add seq_tuple_add slot_tuple_add entry_tuple_add (args_tuple_add_2 _ _)
  (tuple_addW0 a b #[] c.toArray n n2 dd f o g rfl) ⟨i,d,⟨.ref b,H,I,rfl,q⟩⟩
def Aw(K:PySem.W.Frag):R2:=λx y H Q=>∃a b xs ys,x=.ref a/\y=.ref b/\bq K H a xs/\bq K H b ys/\xs.length+ys.length<=sizeLine/\
 (xs=[]->Q (.ref b) H)/\(xs≠[]->ys=[]->Q (.ref a) H)/\(xs≠[]->ys≠[]->∀p,H p=none->Q (.ref p) (upd H p (.tup (xs++ys))))
theorem Ka:aX X (binaryOp .Add) (Aw X.K):=by
 intro pins s σ H x y v u Q I d e h;obtain⟨a,b,xs,ys,rfl,rfl,ha,hb,hz,f,g,i⟩:=h;by_cases c:xs=[]
 .subst c
  exact Kd pins s σ H _ _ v u Q I d e ⟨a,b,ys,rfl,rfl,ha,hb,f rfl⟩
 .exact Kc pins s σ H _ _ v u Q I d e ⟨a,b,xs,ys,rfl,rfl,ha,hb,c,hz,g c,i c⟩
end
end L2
namespace DP
theorem Jt:typeLookup (.type "list") "keys"=pure none:=by rw[typeLookup_type,builtinLookup_eq_fast];kernel_rfl
theorem Ju:typeLookup (.type "tuple") "keys"=pure none:=by rw[typeLookup_type,builtinLookup_eq_fast];kernel_rfl
section
variable{prog:Program}{w:World}{A:Around}{E:aE}{s:Shared}
theorem JT{a:Addr}{xs:Array Value}{k:Nat}{Q:Option Value->Shared->Prop}(i:s.heap.get? a=some {cls:=.type "list",data:=.seq xs k})(l:A.handled=none)
  (h:∀h' tk,(∀b o,s.heap.get? b=some o->h'.get? b=some o)->Q none {s with heap:=h',toks:=tk}):wpAny (model prog w) A (getAttr? (.ref a) "keys") Q E s:=by
 obtain⟨m,g,d,tk,os⟩:=s;have j:∀c,(⟨m,g,d,c,os⟩:Shared).TypeIs (.ref a) "list":=λ_=>⟨_,i,rfl⟩;have f1:=sub_AttributeError;have n:=PySem.F.slot_list_getattribute.lookup;have f4:=PySem.F.slot_list_getattribute.bind (.ref a);have p:=am_list_getattr_none;unfold getAttr? getAttrBy? getAttrBy;repeat (any_goals (first|assumption|exact j _|((with_reducible show wpAny _ _ (call (Value.builtin "list.__getattribute__") _ _) _ _ _);refine call_meets PySem.F.slot_list_getattribute (j _) am_entry_list_getattribute (PySem.F.args_list_getattribute_2 _ _) (meets_getattribute_miss_list a xs k #[] "keys" _ Jt (by decide) (by decide)) ⟨i,l,λh' c e f=>?_⟩)|wp_step))
 obtain⟨t',q,r⟩:=f.there;show wpAny _ _ (getattributeRaised _ _ _ _ _ _ _) _ _ _;unfold getattributeRaised;repeat (any_goals (first|assumption|wp_step))
 exact h _ _ f.keeps
theorem JU{a:Addr}{xs:Array Value}{k:Nat}{Q:Option Value->Shared->Prop}(i:s.heap.get? a=some {cls:=.type "tuple",data:=.seq xs k})(l:A.handled=none)
  (h:∀h' tk,(∀b o,s.heap.get? b=some o->h'.get? b=some o)->Q none {s with heap:=h',toks:=tk}):wpAny (model prog w) A (getAttr? (.ref a) "keys") Q E s:=by
 obtain⟨m,g,d,tk,os⟩:=s;have j:∀c,(⟨m,g,d,c,os⟩:Shared).TypeIs (.ref a) "tuple":=λ_=>⟨_,i,rfl⟩;have f1:=sub_AttributeError;have n:=PySem.F.slot_tuple_getattribute.lookup;have f4:=PySem.F.slot_tuple_getattribute.bind (.ref a);have p:=am_tuple_getattr_none;unfold getAttr? getAttrBy? getAttrBy;repeat (any_goals (first|assumption|exact j _|((with_reducible show wpAny _ _ (call (Value.builtin "tuple.__getattribute__") _ _) _ _ _);refine call_meets PySem.F.slot_tuple_getattribute (j _) am_entry_tuple_getattribute (PySem.F.args_tuple_getattribute_2 _ _) (meets_getattribute_miss_tuple a xs k #[] "keys" _ Ju (by decide) (by decide)) ⟨i,l,λh' c e f=>?_⟩)|wp_step))
 obtain⟨t',q,r⟩:=f.there;show wpAny _ _ (getattributeRaised _ _ _ _ _ _ _) _ _ _;unfold getattributeRaised;repeat (any_goals (first|assumption|wp_step))
 exact h _ _ f.keeps
end
theorem yd:entryFor table "dict.update.loop"=some Builtin.«dict.update.loop»:=entryFor_of_tree (by kernel_rfl)
theorem mY:plainId "dict.update.loop"=true:=by decide+kernel
section
variable{prog:Program}{w:World}{A:Around}{R:Result->Shared->Prop}{I:Addr}{fp wr:List Addr}{n:Nat}{P:Nat->Value->Prop}{St:Nat->Heap->Prop}
theorem loop(W:Walks prog w A.in1 I fp wr n P St)(D:Addr)(m:D∉fp)(h₀:Heap)(key:Nat->L2.Key)(B p:Nat->Value)
  (q:∀i v,i<n->P i v->∃t,v=.ref t/\t≠D/\t∉wr/\IsTup h₀ t #[B i,p i])(u:∀i,i<n->(L2.cg prog w).is (key i) (B i)=true)(hn:n<=sizeLine):
  ∀(k i:Nat) (s:Shared) (kvs:List (L2.Key×Value)),n - i=k->i<=n->St i s.heap->s.heap.DictOf (L2.cg prog w) D kvs->kvs.length<=i->(∀b o,b≠D->b∉wr->h₀.get? b=some o->s.heap.get? b=some o)->
   (∀h' tk,h'.DictOf (L2.cg prog w) D (((range n).drop i).foldl (λacc j=>stored acc (key j) (p j)) kvs)->(∀b o,b≠D->b∉wr->s.heap.get? b=some o->h'.get? b=some o)->R (.ok (.ret .none)) {s with heap:=h',toks:=tk})->
   codeAny (model prog w) A (.builtin "dict.update.loop" ⟨[.ref D,.ref I,rawInt (i:Nat),.none],[]⟩) R s:=by
 have x:D∉wr:=λh=>m (W.sub _ h);intro k;induction k with
 |zero=>
  intro i s kvs Y hi f E Z F G;have H:i=n:=by omega
  subst H;refine codeAny_builtin yd ?_;rw[Around.under_plainId mY _];show wpAny _ A.in1 (pyNext (.ref I)>>=_) _ _ s;refine wpAny_bind (W.done s _ _ f λh' tk g=>?_);show wpAny _ A.in1 (Builtin.Dict.addKeywords D []>>=_) _ _ _;refine wpAny_bind (wpAny_pure (wpAny_pure (G h' tk ?_ λb o hb a e=>g b o a e)));rw[drop_eq_nil_of_le (by simp),List.foldl_nil];obtain⟨o,es,ep,J,r⟩:=E;exact⟨o,es,ep,g D o x J,r⟩
 |succ k ih=>
  intro i s kvs Y hi f E Z F G;have c:i<n:=by omega
  refine codeAny_builtin yd ?_;rw[Around.under_plainId mY _];show wpAny _ A.in1 (pyNext (.ref I)>>=_) _ _ s;refine wpAny_bind (W.item i s _ _ c f λv h1 tk hP y g=>?_);obtain⟨t,rfl,tD,X,ht⟩:=q i v c hP;obtain⟨C,K,L,nt,M⟩:=ht;have d:h1.get? t=some C:=g t C X (F t C tD X K);refine wpAny_bind (wpAny_holding ?_);refine wpAny_bind (wpAny_tryCatch ?_);unfold Builtin.Dict.pairItems;refine wpAny_bind (wpAny_typeOf (T:="tuple") ⟨C,d,L⟩ ?_);rw[if_pos (by decide)];refine wpAny_bind (wpAny_seqItems d M (wpAny_pure ?_));show wpAny _ _ (holding [B i,p i] (dictSet D (B i) (p i))) _ _ _;have N:h1.DictOf (L2.cg prog w) D kvs:=by
   obtain⟨o,es,ep,J,r⟩:=E;exact⟨o,es,ep,g D o x J,r⟩
  refine wpAny_holding (wpAny_dictSet_pairs (s:={s with heap:=h1,toks:=tk}) (u i c) N (λh2 O l=>?_) (by omega));have Q:St (i+1) h2:=W.frame _ _ _ y λb hb o e=>(l.2 b λz=>m (z▸hb)).trans e;have e1:((i:Nat):Int)+1=((i+1:Nat):Int):=by omega
  refine wpAny_pure ⟨plainId_quiet mY _,?_⟩;show codeAny _ _ (.builtin "dict.update.loop" ⟨[.ref D,.ref I,rawInt (((i:Nat):Int)+1),.none],[]⟩) _ _;rw[e1];refine ih (i+1) _ _ (by omega) c Q O ?_ (λb o hb a e=>(l.2 b hb).trans (g b o a (F b o hb a e))) λh' S U V=>?_
  .have:=stored_length_le kvs (key i) (p i)
   omega
  .refine G h' S ?_ λb o hb a e=>V b o hb a ((l.2 b hb).trans (g b o a e))
   have e2:(range n).drop i=i::(range n).drop (i+1):=by
    rw[drop_eq_getElem_cons (by simpa using c)];simp
   rw[e2,foldl_cons];exact U
end
end DP
namespace L2
def putAll(ps:List (Key×V)):List (Key×V):=ps.foldl (λacc p=>putK acc p.1 p.2) []
theorem LN(ps acc:List (Key×V)):(ps.foldl (λacc p=>putK acc p.1 p.2) acc).length<=acc.length+ps.length:=by
 induction ps generalizing acc with
 |nil=>simp
 |cons p r a=>
  rw[foldl_cons,length_cons];refine le_trans (a _) ?_;have:(putK acc p.1 p.2).length<=acc.length+1:=by
   unfold putK;split
   .rw[length_map];omega
   .rw[length_append];simp
  omega
theorem IT{ps:List (Key×V)}{n:Nat}{key:Nat->Key}{a:Nat->Value}(b:n=ps.length)(h:∀i p,ps[i]?=some p->key i=p.1/\RelV p.2 (a i)):KV (putAll ps) ((range n).foldl (λacc j=>stored acc (key j) (a j)) []):=by
 subst b;unfold putAll;have gen:∀(m:Nat),m<=ps.length->KV ((ps.take m).foldl (λacc p=>putK acc p.1 p.2) []) ((range m).foldl (λacc j=>stored acc (key j) (a j)) []):=λm=>by
  induction m with
  |zero=>intro _;simp;exact .nil
  |succ m c=>
   intro d;have e:ps[m]?=some (ps[m]'(by omega)):=getElem?_eq_getElem (by omega);obtain⟨h1,h2⟩:=h m _ e;rw[List.take_add_one,e,List.range_succ,foldl_append,foldl_append];simp only[Option.toList_some,foldl_cons,List.foldl_nil];rw[h1];exact KV.put (c (by omega)) _ h2
 have:=gen ps.length (le_refl _);rwa [take_length] at this
section
variable{X:Cx}
def Pairs(K:PySem.W.Frag)(H:Hp)(ts:List V)(ps:List (Key×V)):Prop:=ts.length=ps.length/\∀(i:Nat) (x:V) (p:Key×V),ts[i]?=some x->ps[i]?=some p->∃t,x=.ref t/\bq K H t [kV p.1,p.2]
theorem jq(hc:X.calm=true):c_ X (.type "dict") (λxs H Q=>∃(p:Addr) (ts:List V) (ps:List (Key×V)),xs=[.ref p]/\(H p=some (.lst ts)\/H p=some (.tup ts))/\Pairs X.K H ts ps/\ps.length<=1000/\∀d,H d=none->Q (.ref d) (upd H d (.dK (putAll ps)))):=by
 intro pins s σ H xs us Q I r h;obtain⟨p,ts,ps,rfl,hp,hP,hl,q⟩:=h;obtain⟨u,rfl,Z⟩:=vals1 r;cases Z;have hh:=I.ok.hd hc;obtain⟨its,hv,D⟩:∃its:List Value,Vals ts its/\((∃n,s.heap.get? p=some {cls:=.type "list",data:=.seq its.toArray n})\/∃n,s.heap.get? p=some {cls:=.type "tuple",data:=.seq its.toArray n}):=by
  rcases hp with hp|hp
  .obtain⟨_,its,n,y,e⟩:=(show bw X.prog X.w H s.heap p (.lst ts) from I.hok p _ hp)
   exact⟨its,y,.inl ⟨n,e⟩⟩
  .obtain⟨its,n,y,e,_⟩:=I.CI hp
   exact⟨its,y,.inr ⟨n,e⟩⟩
 have l:its.length=ps.length:=by rw[<-hv.length];exact hP.1
 have Lj:p<s.heap.objs.size:=by rcases D with⟨_,e⟩|⟨_,e⟩<;>exact lt_size e
 have pair:∀i,i<ps.length->∃t k v,its[i]?=some (.ref t)/\IsTup s.heap t #[k,v]/\∃p,ps[i]?=some p/\RelV (kV p.1) k/\RelV p.2 v:=λi hi=>by
  have z:ps[i]?=some (ps[i]'hi):=getElem?_eq_getElem hi;have B:ts[i]?=some (ts[i]'(by rw[hP.1];exact hi)):=getElem?_eq_getElem _;obtain⟨t,ex,hq⟩:=hP.2 i _ _ B z;obtain⟨u,hu,Z⟩:=hv.get B;rw[ex] at Z;cases Z;obtain⟨its2,r2,p2,_⟩:=I.tuple hq;obtain⟨k,v,rfl,M,y⟩:=vals2 r2;exact⟨t,k,v,hu,p2,_,z,M,y⟩
 let O:Nat->Value:=λi=>match its[i]? with|some (.ref t)=>(match s.heap.get? t with|some o=>(match o.data with|.seq a _=>a.getD 0 .none|_=>.none)|none=>.none)|_=>.none
 let N:Nat->Value:=λi=>match its[i]? with|some (.ref t)=>(match s.heap.get? t with|some o=>(match o.data with|.seq a _=>a.getD 1 .none|_=>.none)|none=>.none)|_=>.none
 let key:Nat->Key:=λi=>((ps[i]?).map (·.1)).getD (.inl 0);have g:∀i,i<ps.length->∃t p,its[i]?=some (.ref t)/\IsTup s.heap t #[O i,N i]/\ps[i]?=some p/\key i=p.1/\RelV (kV p.1) (O i)/\RelV p.2 (N i):=λi hi=>by
  obtain⟨t,k,v,z,J,pp,B,M,y⟩:=pair i hi;obtain⟨o,E,hcl,n,hd⟩:=id J;have P:O i=k:=by simp only[O,z,E,hd];rfl
  have ev:N i=v:=by simp only[N,z,E,hd];rfl
  have ey:key i=pp.1:=by simp only[key,B];rfl
  rw[P,ev,ey];exact⟨t,pp,z,J,B,rfl,M,y⟩
 have hsz:ps.length<=sizeLine:=le_trans hl (by decide);refine callType_codes (Q₁:=λobj G=>obj=.ref s.heap.objs.size/\G={s with heap:=s.heap.push {cls:=.type "dict",data:=.dict #[]}}) PySem.F.kt_called_dict (PySem.F.kt_typeCall_dict_1 _) PySem.F.entry_dict_init (kt_code_dict_new _ ⟨rfl,rfl⟩) ?_;rintro obj G ⟨rfl,rfl⟩;have c:(s.heap.push {cls:=.type "dict",data:=.dict #[]}).DictOf (cg X.prog X.w) s.heap.objs.size []:=DictOf.new s.heap;refine⟨c.typeIs,PySem.F.args_dict_init_2 _ _,?_⟩;unfold Builtin.«dict.__init__»;refine wpAny_bind ?_;unfold Builtin.Dict.selfAndRest;refine wpAny_bind (wpAny_notOrdered_dict c.typeIs ?_);show wpAny _ _ (pure (s.heap.objs.size,[Value.ref p])) _ _ _;refine wpAny_pure ?_;show wpAny _ _ (Builtin.Dict.updateFrom "dict.__init__" s.heap.objs.size (.ref p) [] .none) _ _ _;unfold Builtin.Dict.updateFrom;have k0:∀b o,s.heap.get? b=some o->(s.heap.push {cls:=.type "dict",data:=.dict #[]}).get? b=some o:=λb o e=>get?_push_of_some _ e;have pD:p≠s.heap.objs.size:=ne_of_lt Lj;have go:∀(h1:Heap) (tk:Nat) (R:Addr) (fp:List Addr) (St:Nat->Heap->Prop),(∀b o,(s.heap.push {cls:=.type "dict",data:=.dict #[]}).get? b=some o->h1.get? b=some o)->s.heap.objs.size<R->
   Walks X.prog X.w X.A.in1.in1 R fp [R] its.length (λi v=>its.toArray[i]?=some v) St->St 0 h1->s.heap.objs.size∉fp->
   codeAny (model X.prog X.w) X.A.in1 (.builtin "dict.update.loop" ⟨[.ref s.heap.objs.size,.ref R,rawInt 0,.none],[]⟩) (wants (λr S=>r=.none/\EP X pins σ Q (.ref s.heap.objs.size) S) X.xe) {s with heap:=h1,toks:=tk}:=by
  intro h1 tk R fp St k1 hI W Nh hDf;have G_:h1.DictOf (cg X.prog X.w) s.heap.objs.size []:=by
   obtain⟨o,es,ep,E,r⟩:=c;exact⟨o,es,ep,k1 _ o E,r⟩
  refine DP.loop W s.heap.objs.size hDf s.heap key O N (λi v hi hv'=>?_) (λi hi=>?_) (by rw[l];exact hsz) its.length 0 _ [] rfl (zero_le _) Nh G_ (zero_le _) (λb o _ _ e=>k1 b o (k0 b o e)) λh2 Oa U k2=>?_
  .obtain⟨t,pp,z,J,_⟩:=g i (by rw[<-l];exact hi)
   have e:its[i]?=some v:=by simpa using hv'
   rw[z] at e;cases e;have Y:t<s.heap.objs.size:=J.lt;exact⟨t,rfl,ne_of_lt Y,by simp only[mem_singleton];exact ne_of_lt (lt_trans Y hI),J⟩
  .obtain⟨t,pp,z,J,B,P,M,y⟩:=g i (by rw[<-l];exact hi)
   rw[P];exact jD M
  .have hn:H s.heap.objs.size=none:=I.hok.fresh (le_refl _)
   have IP:∀b o,s.heap.get? b=some o->h2.get? b=some o:=λb o e=>by
    have hb:b<s.heap.objs.size:=lt_size e;exact k2 b o (ne_of_lt hb) (by simp only[mem_singleton];exact ne_of_lt (lt_trans hb hI)) (k1 b o (k0 b o e))
   rw[List.drop_zero,l] at U;have hkv:KV (putAll ps) ((range ps.length).foldl (λacc j=>stored acc (key j) (N j)) []):=IT rfl λi pp e=>by
    obtain⟨t,pp',z,J,B,P,M,y⟩:=g i (List.getElem?_eq_some_iff.mp e).1;rw[e] at B;cases B;exact⟨P,y⟩
   have hns:(s.heap.objs.size==sysModules)=false:=beq_false_of_ne (ne_of_gt I.big);refine⟨rfl,.ref s.heap.objs.size,_,I.laid (t':=Oa) (o:=.dK (putAll ps)) IP (le_refl _) ⟨?_,hns,_,hkv,U⟩,rfl,q _ hn⟩;have:=LN ps [];unfold putAll;simp only[length_nil,zero_add] at this;omega
 rcases D with⟨n,e⟩|⟨n,e⟩
 .have C:=k0 _ _ e
  refine wpAny_bind (wpAny_typeOf (T:="list") ⟨_,C,rfl⟩ ?_);rw[if_pos (by decide)];refine wpAny_bind (DP.JT (s:={s with heap:=s.heap.push {cls:=.type "dict",data:=.dict #[]}}) C hh λh1 L k1=>?_);rw[if_pos (show(none:Option Value).isNone=true from rfl)];refine wpAny_bind (wpAny_rule ?_);have m:h1.IsList p its.toArray:=⟨_,k1 _ _ C,rfl,n,rfl⟩;have x:p<h1.objs.size:=lt_size (k1 _ _ C);have f:s.heap.objs.size<h1.objs.size:=by obtain⟨o,_,_,E,_⟩:=c;exact lt_size (k1 _ _ E)
  refine wpAny_bind (wpAny_pyIter_list (s:={s with heap:=h1,toks:=L}) m ?_);have W:=Walks.list (prog:=X.prog) (w:=X.w) (A:=X.A.in1.in1) hh h1.objs.size p (ne_of_lt x) its.toArray;rw[size_toArray] at W;refine wpAny_pure ⟨plainId_quiet DP.mY _,go _ _ _ _ _ (λb o q=>get?_push_of_some _ (k1 b o q)) f W ⟨⟨_,get?_push_size _ rfl,rfl,rfl⟩,m.push _⟩ ?_⟩;simp only[mem_cons,not_mem_nil,or_false,not_or];exact⟨ne_of_lt f,Ne.symm pD⟩
 .have C:=k0 _ _ e
  refine wpAny_bind (wpAny_typeOf (T:="tuple") ⟨_,C,rfl⟩ ?_);rw[if_pos (by decide)];refine wpAny_bind (DP.JU (s:={s with heap:=s.heap.push {cls:=.type "dict",data:=.dict #[]}}) C hh λh1 L k1=>?_);rw[if_pos (show(none:Option Value).isNone=true from rfl)];refine wpAny_bind (wpAny_rule ?_);have m:h1.IsTuple p its.toArray:=⟨_,k1 _ _ C,rfl,n,rfl⟩;have x:p<h1.objs.size:=lt_size (k1 _ _ C);have f:s.heap.objs.size<h1.objs.size:=by obtain⟨o,_,_,E,_⟩:=c;exact lt_size (k1 _ _ E)
  refine wpAny_bind (wpAny_pyIter_tuple (s:={s with heap:=h1,toks:=L}) m ?_);have W:=Walks.tuple (prog:=X.prog) (w:=X.w) (A:=X.A.in1.in1) hh h1.objs.size p (ne_of_lt x) its.toArray;rw[size_toArray] at W;refine wpAny_pure ⟨plainId_quiet DP.mY _,go _ _ _ _ _ (λb o q=>get?_push_of_some _ (k1 b o q)) f W ⟨⟨_,get?_push_size _ rfl,rfl,rfl⟩,m.push _⟩ ?_⟩;simp only[mem_cons,not_mem_nil,or_false,not_or];exact⟨ne_of_lt f,Ne.symm pD⟩
end
section
variable{X:Cx}
end
end L2
end
namespace PySem
open Sem (wp)
open AutoSeq1 (wpAny_loadPart')
namespace ZL
section
variable{prog:Program}{w:World}{A:Around}{E:aE}{s:Shared}{z TI TO i1 i2 l1 l2:Addr}{xs ys:Array Value}
theorem Ep{R:List Value->Shared->Prop}(k:A.handled=none)(D:ZipApart z TI TO i1 i2 l1 l2)(L:jY z TI TO i1 i2 l1 l2 (s.heap.objs.size+1))(O:lE z TI TO i1 i2 l1 l2 (s.heap.objs.size+1) s.heap.objs.size)(m:min xs.size ys.size<=sizeLine)
  (n:ZS z TI TO i1 i2 l1 l2 (s.heap.objs.size+1) xs ys 0 (s.heap.push {cls:= .type "list",data:= .seq #[]}))
  (h:∀h':Heap,(∀(j:Nat) x y,xs[j]? =some x->ys[j]? =some y->IsPair h' (s.heap.objs.size+1+j) x y)->s.heap.objs.size<h'.objs.size->
   (∀b o,b≠z->b≠TO->b≠i1->b≠i2->s.heap.get? b=some o->h'.get? b=some o)->R (dj (s.heap.objs.size+1) (min xs.size ys.size)).toList {s with heap:=h'}):
  wpAny (model prog w) A (collect (.ref z)) R E s:=by
 unfold collect
 refine wpAny_bind (wpAny_runValue (codeAny_builtin PySem.F.entry_proto_collect ?_))
 rw[Around.under_plainId PySem.F.plain_proto_collect _]
 show wpAny _ A.in1 (newList []>>=λl=>again (.builtin "list.__iadd__" ⟨[l,.ref z],[]⟩)) _ _ s
 refine wpAny_bind (wpAny_newObj_type ?_)
 refine wpAny_pure ⟨plainId_quiet PySem.F.plain_list_iadd _,codeAny_builtin PySem.F.entry_list_iadd ?_⟩
 rw[Around.under_plainId PySem.F.plain_list_iadd _]
 have c:(s.heap.push {cls:= .type "list",data:= .seq ([]:List Value).toArray}).get? s.heap.objs.size=some {cls:= .type "list",data:= .seq #[]}:=get?_push_size _ rfl
 show wpAny _ A.in1 (Builtin.List.listExtendWith (.ref s.heap.objs.size) (.ref z) (.ref s.heap.objs.size)) _ _ _
 have key:=FW (prog:=prog) (w:=w) (A:=A) (s:={s with heap:=s.heap.push {cls:= .type "list",data:= .seq ([]:List Value).toArray}})
  (R:=λ(q:Result) (s':Shared)=>∃(h':Heap) (c':Nat),q= .ok (.ret (.ref s.heap.objs.size))/\s'={s with heap:=h'}/\
   (∀(j:Nat) x y,xs[j]? =some x->ys[j]? =some y->IsPair h' (s.heap.objs.size+1+j) x y)/\h'.get? s.heap.objs.size=some {cls:= .type "list",dict:=none,data:= .seq (dj (s.heap.objs.size+1) (min xs.size ys.size)) c',slots:= #[]}/\
   ∀b o,b≠z->b≠TO->b≠i1->b≠i2->s.heap.get? b=some o->h'.get? b=some o)
  k D L O m (.ref s.heap.objs.size) 0 n c
  (λh' c' a1 a2 p=>⟨h',c',rfl,rfl,a1,a2,λb o r t u v e=>p b o (ne_of_lt (lt_size e)) r t u v (get?_push_of_some _ e)⟩)
 refine wpAny_mono key (λfin s' x=> ?_) λe s' x=> ?_
 .cases fin with
  |done f=>
   obtain⟨h',c',e,rfl,d,a,g⟩:=x
   cases e
   show wpAny _ A (load s.heap.objs.size>>=_) _ _ _
   refine wpAny_bind (wpAny_load a ?_)
   exact wpAny_pure (h h' d (lt_size a) g)
  |again c₁=>
   refine⟨x.1,codeAny_mono x.2 λq i y=> ?_⟩
   obtain⟨h',c',rfl,rfl,d,a,g⟩:=y
   show wpAny _ A (load s.heap.objs.size>>=_) _ _ _
   refine wpAny_bind (wpAny_load a ?_)
   exact wpAny_pure (h h' d (lt_size a) g)
 .obtain⟨_,_,B,_⟩:=x
  cases B
theorem Eo{Q₁:aE}(g:A.handled=none)(i:s.TypeIs (.ref z) "zip")(D:ZipApart z TI TO i1 i2 l1 l2)(L:jY z TI TO i1 i2 l1 l2 (s.heap.objs.size+1))(O:lE z TI TO i1 i2 l1 l2 (s.heap.objs.size+1) s.heap.objs.size)(d:min xs.size ys.size<=sizeLine)
  (k:ZS z TI TO i1 i2 l1 l2 (s.heap.objs.size+1) xs ys 0 (s.heap.push {cls:= .type "list",data:= .seq #[]}))
  (h:∀h':Heap,(∀(j:Nat) x y,xs[j]? =some x->ys[j]? =some y->IsPair h' (s.heap.objs.size+1+j) x y)->s.heap.objs.size<h'.objs.size->
   (∀b o,b≠z->b≠TO->b≠i1->b≠i2->s.heap.get? b=some o->h'.get? b=some o)->Q₁ (.ref h'.objs.size) {s with heap:=h'.push {cls:= .type "tuple",data:= .seq (dj (s.heap.objs.size+1) (min xs.size ys.size))}}):
  codeAny (model prog w) A (.call (.builtin "tuple.__new__") ⟨[.type "tuple",.ref z],[]⟩) (wants Q₁ E) s:=by
 refine codeAny_of_tree ?_
 show wpAny _ A.in1 (do checkBuiltinCall "tuple.__new__" ⟨[.type "tuple",.ref z],[]⟩;again (.builtin "tuple.__new__" ⟨[.type "tuple",.ref z],[]⟩)) _ _ s
 refine wpAny_bind (wpAny_of_eq (PySem.F.newCall_tuple_1 _) (wpAny_pure ⟨plainId_quiet PySem.F.plain_tuple_new _,codeAny_builtin PySem.F.entry_tuple_new ?_⟩))
 rw[Around.under_plainId PySem.F.plain_tuple_new _]
 have f:=sub_tuple_self
 have a:=init_tuple_lookup
 have l:=madeHere_tuple
 wp_walk using wpAny_typeOf i,Ep (A:=A.in1) g D L O d k
 intro h' m c n
 show wpAny _ _ (Builtin.Tuple.tupleExact (dj (s.heap.objs.size+1) (min xs.size ys.size)).toList.toArray>>=λv=>ret v) _ _ _
 unfold Builtin.Tuple.tupleExact
 refine wpAny_bind (wpAny_newObj_type ?_ (by show(dj (s.heap.objs.size+1) (min xs.size ys.size)).toList.toArray.size<=sizeLine;simp only[toArray_toList];rw[uE];exact d))
 refine wpAny_pure ?_
 have e:(dj (s.heap.objs.size+1) (min xs.size ys.size)).toList.toArray=dj (s.heap.objs.size+1) (min xs.size ys.size):=by simp
 rw[e]
 exact h h' m c n
end
section
variable{prog:Program}{w:World}{A:Around}{E:aE}{s:Shared}
theorem Of{l1 l2:Addr}{xs ys:Array Value}{Q:aE}(u:A.handled=none)(f:s.heap.IsList l1 xs)(g:s.heap.IsList l2 ys)(v:min xs.size ys.size<=sizeLine)
  (B:∀(h':Heap) (T:Addr),(∀(j:Nat) x y,xs[j]?=some x->ys[j]?=some y->IsPair h' (s.heap.objs.size+6+j) x y/\@LT.lt Nat _ (s.heap.objs.size+6+j) T)->@LT.lt Nat _ (s.heap.objs.size+5) T->
   h'.get? T=some {cls:=.type "tuple",data:=.seq (dj (s.heap.objs.size+6) (min xs.size ys.size))}->
   (∀b o,s.heap.get? b=some o->h'.get? b=some o)->Q (.ref T) {s with heap:=h'}):
  wpAny (model prog w) A (call (.type "zip") [.ref l1,.ref l2]) (λz c=>wpAny (model prog w) A (call (.type "tuple") [z]) Q E c) E s:=by
 have C: @LT.lt Nat _ l1 s.heap.objs.size:=by obtain⟨_,e,_⟩:=f;exact lt_size e
 have G: @LT.lt Nat _ l2 s.heap.objs.size:=by obtain⟨_,e,_⟩:=g;exact lt_size e
 refine call_zip_2 f g λa hz h i k l hsz m=>?_;have hsz: @Eq Nat a.objs.size (s.heap.objs.size+5):=hsz;have D:ZipApart (s.heap.objs.size+4) (s.heap.objs.size+2) (s.heap.objs.size+3) s.heap.objs.size (s.heap.objs.size+1) l1 l2:=by
  constructor<;>first|(show(_:Nat)<(_:Nat);omega)|(intro e;have r: @Eq Nat _ _:=e;omega)
 have L:jY (s.heap.objs.size+4) (s.heap.objs.size+2) (s.heap.objs.size+3) s.heap.objs.size (s.heap.objs.size+1) l1 l2 (a.objs.size+1):=by
  rw[hsz];constructor<;>first|(show(_:Nat)<(_:Nat);omega)|(intro e;have r: @Eq Nat _ _:=e;omega)
 have O:lE (s.heap.objs.size+4) (s.heap.objs.size+2) (s.heap.objs.size+3) s.heap.objs.size (s.heap.objs.size+1) l1 l2 (a.objs.size+1) a.objs.size:=by
  rw[hsz];constructor<;>first|(show(_:Nat)<(_:Nat);omega)|(intro e;have r: @Eq Nat _ _:=e;omega)
 have H:ZS (s.heap.objs.size+4) (s.heap.objs.size+2) (s.heap.objs.size+3) s.heap.objs.size (s.heap.objs.size+1) l1 l2 (a.objs.size+1) xs ys 0 (a.push {cls:=.type "list",data:=.seq #[]}):=
  ⟨.inl ⟨rfl,get?_push_of_some _ hz⟩,get?_push_of_some _ h,⟨_,_,get?_push_of_some _ i⟩,k.at λo e=>get?_push_of_some _ e,l.at λo e=>get?_push_of_some _ e,
   f.at λo e=>get?_push_of_some _ (m _ o e),g.at λo e=>get?_push_of_some _ (m _ o e),by rw[size_push],λj x y I=>absurd I (Nat.not_lt_zero _)⟩
 refine callType_codes (Q₁:=λobj c=>c.TypeIs obj "tuple"/\Q obj c) called_tuple (PySem.F.typeCall_tuple_1 _) PySem.F.entry_object_init
  (Eo (s:={s with heap:=a}) (xs:=xs) (ys:=ys) u ⟨_,hz,rfl⟩ D L O v H λh' J n p=>⟨⟨_,get?_push_size _ rfl,rfl⟩,?_⟩) λobj c d=>?_
 .have t:a.objs.size+1=s.heap.objs.size+6:=by rw[hsz]
  have q:=B (h'.push {cls:=.type "tuple",data:=.seq (dj (s.heap.objs.size+6) (min xs.size ys.size))}) h'.objs.size (λj x y K M=>?_) (by rw[<-hsz];exact n) (get?_push_size _ rfl) λb o e=>?_
  .show Q (.ref h'.objs.size) {s with heap:=h'.push {cls:=.type "tuple",data:=.seq (dj (a.objs.size+1) (min xs.size ys.size))}}
   rw[t];exact q
  .have pr:=J j x y K M
   have pr:IsPair h' (a.objs.size+1+j) x y:=pr;rw[t] at pr;exact⟨get?_push_of_some _ pr,lt_size pr⟩
  .have hb: @LT.lt Nat _ b s.heap.objs.size:=lt_size e
   have ne:∀j:Nat,b≠s.heap.objs.size+j:=λj z=>by have N: @Eq Nat b (s.heap.objs.size+j):=z;omega
   exact get?_push_of_some _ (p b o (ne 4) (ne 3) (ne 0) (ne 1) (m b o e))
 .exact⟨d.1,PySem.F.args_object_init_2 obj _,object_init_meets called_tuple.init.lookup called_tuple.made (by decide) prog w A.in1 _ c ⟨d.1,rfl,d.2⟩⟩
end
end ZL
end PySem
section
open PySem PySem.Spec PyProof.Rows
namespace L2
section
variable{X:Cx}
def NZ(K:PySem.W.Frag)(ta:TA):TE:=λσ H Q=>ta σ H λvs H1=>∃a b xs ys,vs=[.ref a,.ref b]/\aO K H1 a xs/\aO K H1 b ys/\
 ∀(l:Addr) (H':Hp) (ps:List V),h_ H1 H'->H1 l=none->H' l=some (.tup ps)->ps.length=min xs.length ys.length->(∀(j:Nat) p,ps[j]?=some p->∃t x y,p=.ref t/\xs[j]?=some x/\ys[j]?=some y/\H' t=some (.tup [x,y]))->Q (.ref l) H'
theorem K6{a b:Expr}{ta:TA}{p1 p2 pos1 pos2:Pos}(P:Gl X "tuple")(R:X.mg "tuple"=none)(S:bootBuiltins "tuple"=some (.type "tuple"))(U:Gl X "zip")(W:X.mg "zip"=none)(Y:bootBuiltins "zip"=some (.type "zip"))(hc:X.calm=true)(ha:PA X [a,b] ta)
  (hs:starEach [a,b] X.env=[(false,eval a X.env),(false,eval b X.env)]:=by rfl)(B:starEach [b] X.env=[(false,eval b X.env)]:=by rfl)
  (hz:starEach [.Call (.Name "zip" p2) [a,b] [] pos2] X.env=[(false,eval (.Call (.Name "zip" p2) [a,b] [] pos2) X.env)]:=by rfl):
  PE X (.Call (.Name "tuple" p1) [.Call (.Name "zip" p2) [a,b] [] pos2] [] pos1) (NZ X.K ta):=by
 intro pins s σ H Q I h
 refine wpAny_Call_Name_kw (jc I P R S ?_)
 refine PyProof.Rows.callWith_type1 ?_ hz rfl
 rw[hz]
 refine Calls.spliced_cons (wpAny_Call_Name_kw (jc I U W Y (PyProof.Rows.callWith_type1 (aF (ha pos2 pins s σ H _ I h) λus c ⟨vs,H1,g,r1,q1⟩=> ?_) (by rw[hs,B]) (by rw[B];rfl))))
 obtain⟨pa,pb,xs,ys,e,hx,hy,q⟩:=q1
 subst e
 obtain⟨u1,u2,rfl,Z,Ma⟩:=vals2 r1
 cases Z
 cases Ma
 obtain⟨C,i,Lg,hz1⟩:=g.list hx
 obtain⟨D,k,Lh,hz2⟩:=g.list hy
 have l1:=i.length
 have l2:=k.length
 refine aF (ZL.Of (E:=X.xe) (Q:=EP X pins σ Q) (g.ok.hd hc) Lg.isList Lh.isList (by simp only[size_toArray];omega) λh' T F m hS kp=> ?_) λz s2 hq=>Calls.spliced_nil hq
 have em:min C.toArray.size D.toArray.size=min xs.length ys.length:=by simp only[size_toArray];omega
 rw[em] at hS
 have hn:∀j:Nat,H1 (c.heap.objs.size+j)=none:=λj=>g.hok.fresh (le_add_right _ _)
 have Hs:∀j:Nat,j<min xs.length ys.length->@LT.lt Nat _ (c.heap.objs.size+6+j) T:=λj hj=>by
  have d:xs[j]? =some (xs[j]'(by omega)):=getElem?_eq_getElem _
  have f:ys[j]? =some (ys[j]'(by omega)):=getElem?_eq_getElem _
  obtain⟨u,hu,_⟩:=i.get d
  obtain⟨v,hv,_⟩:=k.get f
  exact(F j u v (by simpa using hu) (by simpa using hv)).2
 have Ht:H1 T=none:=g.hok.fresh (by show @LE.le Nat _ c.heap.objs.size T;have: @LT.lt Nat _ (c.heap.objs.size+5) T:=m;omega)
 have pair:∀j:Nat,j<min xs.length ys.length->∃x y u v,xs[j]? =some x/\ys[j]? =some y/\RelV x u/\RelV y v/\IsPair h' (c.heap.objs.size+6+j) u v:=λj hj=>by
  have d:xs[j]? =some (xs[j]'(by omega)):=getElem?_eq_getElem _
  have f:ys[j]? =some (ys[j]'(by omega)):=getElem?_eq_getElem _
  obtain⟨u,hu,ru⟩:=i.get d
  obtain⟨v,hv,n⟩:=k.get f
  exact⟨_,_,u,v,d,f,ru,n,(F j u v (by simpa using hu) (by simpa using hv)).1⟩
 let H':Hp:=λb=>if b=T then some (.tup ((range (min xs.length ys.length)).map λj=>V.ref (c.heap.objs.size+6+j))) else
  if c.heap.objs.size+6<=b/\b - (c.heap.objs.size+6)<min xs.length ys.length then some (.tup [(xs[b - (c.heap.objs.size+6)]?).getD .ao,(ys[b - (c.heap.objs.size+6)]?).getD .ao]) else H1 b
 have G:H' (T)=some (.tup ((range (min xs.length ys.length)).map λj=>V.ref (c.heap.objs.size+6+j))):=by
  show(if _ then _ else _)=_
  rw[if_pos rfl]
 have J:∀(j:Nat) x y,xs[j]? =some x->ys[j]? =some y->H' (c.heap.objs.size+6+j)=some (.tup [x,y]):=λj x y t A=>by
  have j1:=(List.getElem?_eq_some_iff.mp t).1
  have j2:=(List.getElem?_eq_some_iff.mp A).1
  have L:c.heap.objs.size+6+j - (c.heap.objs.size+6)=j:=Nat.add_sub_cancel_left _ _
  have M:j<min xs.length ys.length:=Nat.lt_min.mpr ⟨j1,j2⟩
  show(if _ then _ else if _ then _ else _)=_
  rw[if_neg (λz=>by have z': @Eq Nat (c.heap.objs.size+6+j) (T):=z;have:=Hs j M;omega),if_pos ⟨le_add_right _ _,by rw[L];exact M⟩,L,t,A]
  rfl
 have hold:h_ H1 H':=λb o e=>by
  have hb: @LT.lt Nat _ b c.heap.objs.size:=g.hok.lt e
  show(if _ then _ else if _ then _ else _)=_
  rw[if_neg (λz=>by have z': @Eq Nat b (T):=z;have: @LT.lt Nat _ (c.heap.objs.size+5) T:=m;omega),if_neg (λz=>by have z': @LE.le Nat _ (c.heap.objs.size+6) b:=z.1;omega)]
  exact e
 have N:∀b o,H' b=some o->H1 b=some o\/(c.heap.objs.size<=b/\bw X.prog X.w H' h' b o):=λb o e=>by
  by_cases hb:b=T
  .subst hb
   rw[G] at e
   cases e
   refine .inr ⟨by show @LE.le Nat _ c.heap.objs.size b;have: @LT.lt Nat _ (c.heap.objs.size+5) b:=m;omega,by rw[length_map,length_range];omega,(range (min xs.length ys.length)).map λj=>Value.ref (c.heap.objs.size+6+j),?_,⟨_,hS⟩⟩
   have:∀l:List Nat,Vals (l.map λj=>V.ref (c.heap.objs.size+6+j)) (l.map λj=>Value.ref (c.heap.objs.size+6+j)):=λl=>by
    induction l with
    |nil=>exact .nil
    |cons j r ih=>exact .cons rfl ih
   exact this _
  .by_cases O:c.heap.objs.size+6<=b/\b - (c.heap.objs.size+6)<min xs.length ys.length
   .obtain⟨g1,g2⟩:=O
    have eb:b=c.heap.objs.size+6+(b - (c.heap.objs.size+6)):=(Nat.add_sub_cancel' g1).symm
    obtain⟨x,y,u,v,t,A,ru,n,pr⟩:=pair _ g2
    rw[eb,J _ x y t A] at e
    cases e
    refine .inr ⟨le_trans (le_add_right _ 6) g1,by show 2<=sizeLine;decide,[u,v],.cons ru (.cons n .nil),?_⟩
    rw[eb]
    exact⟨_,pr⟩
   .left
    have e':(if b=T then some (HO.tup ((range (min xs.length ys.length)).map λj=>V.ref (c.heap.objs.size+6+j))) else
     if c.heap.objs.size+6<=b/\b - (c.heap.objs.size+6)<min xs.length ys.length then some (.tup [(xs[b - (c.heap.objs.size+6)]?).getD .ao,(ys[b - (c.heap.objs.size+6)]?).getD .ao]) else H1 b)=some o:=e
    rw[if_neg hb,if_neg O] at e'
    exact e'
 refine⟨.ref (T),H',g.many (h':=h') (t':=c.toks) kp hold N,rfl,q _ H' _ hold Ht G (by rw[length_map,length_range]) λj p e=> ?_⟩
 rw[getElem?_map] at e
 cases er:(range (min xs.length ys.length))[j]? with
 |none=>rw[er] at e;cases e
 |some j'=>
  rw[er] at e
  obtain⟨hj,L⟩:=List.getElem?_eq_some_iff.mp er
  rw[List.getElem_range] at L
  subst L
  cases e
  have hj':j<min xs.length ys.length:=by simpa using hj
  obtain⟨x,y,u,v,t,A,_⟩:=pair j hj'
  exact⟨_,x,y,rfl,t,A,J j x y t A⟩
end
theorem uQ:∀{vs:List Value} {a:List Str},vs.length=a.length->(∀(i:Nat) v x,vs[i]?=some v->a[i]?=some x->∃t,v=Value.str x t)->StrsAre vs a
 |[],[],_,_=>.nil
 |v::vs,x::a,b,h=>by
  obtain⟨t,rfl⟩:=h 0 v x rfl rfl;exact .cons x t (uQ (by simpa using b) λi c d e f=>h (i+1) c d (by simpa using e) (by simpa using f))
theorem KV.at{kvs:List (Key×V)}{vs:List (Key×Value)}(r:KV kvs vs):∀{i:Nat} {q:Key×Value},vs[i]?=some q->∃p,kvs[i]?=some p/\p.1=q.1/\RelV p.2 q.2:=by
 induction r with
 |nil=>intro i q h;simp at h
 |cons h1 h2 a=>
  intro i q h;cases i with
  |zero=>simp at h;subst h;exact⟨_,rfl,h1⟩
  |succ i=>exact a (by simpa using h)
theorem KV.len{kvs:List (Key×V)}{vs:List (Key×Value)}(r:KV kvs vs):kvs.length=vs.length:=by
 induction r with
 |nil=>rfl
 |cons h1 h2 a=>simp[a]
section
variable{X:Cx}
theorem Inv.tW{pins:aK}{σ:St}{H H':Hp}{s:Shared}{h':Heap}{t':Nat}(I:Inv X pins σ H s)(kp:∀b o,s.heap.get? b=some o->h'.get? b=some o)(d:h_ H H')
  (a:∀b o,H' b=some o->H b=some o\/((∀u,s.heap.get? b≠some u)/\bw X.prog X.w H' h' b o)):Inv X pins σ H' {s with heap:=h',toks:=t'}:=by
 refine I.un (h':=h') (t':=t') ⟨λb o q _ _ _=>kp b o q,λb o q _ _ _=>⟨o.slots,kp b o q⟩,λb o q n _=>?_,λb o q _=>⟨o,kp b o q⟩,λb xs q=>d _ _ q,λb o u q=>d _ _ q,λb ps q=>⟨#[],by rw[d _ _ q];simp⟩⟩ λb o q=>?_
 .cases e:H' b with
  |none=>rfl
  |some u=>
   rcases a b u e with z|⟨z,_⟩
   .rw[n] at z;cases z
   .exact absurd q (z _)
 .rcases a b o q with z|⟨_,z⟩
  .exact(I.hok b o z).stay (λc v _ r=>kp c v r) (λc r=>d _ _ r) λc xs r=>d _ _ r
  .exact z
theorem Ea(hc:X.calm=true):c_ X (.builtin "sorted") (λxs H Q=>∃(d:Addr) (kvs:List (Key×V)) (ns:List Str),xs=[.ref d]/\H d=some (.dK kvs)/\kvs.map (·.1)=ns.map Sum.inr/\ns.Nodup/\ns.length<64/\
  ∀(l:Addr) (ys:List Str),H l=none->ys.Pairwise strLt->(∀x,x∈ys↔x∈ns)->Q (.ref l) (upd H l (.lst (ys.map V.str)))):=by
 intro pins s σ H xs us Q I r h;obtain⟨d,kvs,ns,rfl,hd,L,F,n,q⟩:=h;obtain⟨u,rfl,T⟩:=vals1 r;cases T;obtain⟨hz,U,vs,rel,dd⟩:=(show bw X.prog X.w H s.heap d (.dK kvs) from I.hok d _ hd);obtain⟨ep,G⟩:=dd.dictAt;have B:kvs.length=ns.length:=by
  have:=congrArg List.length L;simpa using this
 have c:vs.length=ns.length:=by rw[<-rel.len,B]
 refine Calls.call_function_entry kind_sorted plain_sorted entry_sorted (args_sorted1 _) ?_;unfold Builtin.«sorted»;refine wpAny_bind (m:=checkCount "sorted" 1 1 _) (wpAny_pure ?_);refine wpAny_bind (PySem.W.kdu_collect (A:=X.A.in1) (PySem.W.kdl_dict (knd:=cg X.prog X.w) (kvs:=vs) (ep:=ep) U) (I.ok.hd hc) G (by rw[c];omega) λh1 tk acc k1 a=>?_);have f:StrsAre acc.toList ns:=by
  refine uQ (by rw[length_toList,a.1,c]) λi v x M Y=>?_;rw[Array.getElem?_toList] at M;obtain⟨k,y,Z,N⟩:=a.2 i v M;obtain⟨p,e5,e6,_⟩:=rel.at Z;have O:(kvs.map (·.1))[i]?=some k:=by rw[getElem?_map,e5];exact congrArg some e6
  rw[L,getElem?_map,Y] at O;have e8:k=Sum.inr x:=(Option.some.inj O).symm;rw[e8] at N;rcases f9 (show iP (Sum.inr x) v=true from N) with⟨_,_,z,_⟩|⟨x',t,z,z2⟩
  .cases z
  .cases z;exact⟨t,z2⟩
 have J:acc.toList.length<64:=by rw[length_toList,a.1,c];exact n
 refine wpAny_bind (wpAny_newList ?_);have g:(h1.push (seqObj "list" acc.toList.toArray 0)).get? h1.objs.size=some (seqObj "list" acc.toList.toArray 0):=get?_push_size _ rfl;show wpAny _ _ _ _ _ {s with heap:=h1.push (seqObj "list" acc.toList.toArray 0),toks:=tk};refine wpAny_bind (wpAny_holding (wpAny_call_entry slot_list_sort ⟨_,g,rfl⟩ entry_list_sort (list_sort_treeK strKind_oneLt g f.keysOf (λP R rest e=>keyKind_strs (by rw[<-e];exact f)) J λj a1 a2=>⟨_,rfl,?_⟩) (args_list_sort _)));obtain⟨C,q1,K,q3⟩:=sorted_out_str f a1 a2;obtain⟨e,he⟩:=sortedHeap_at (out:=(arrOf j).map (·.2)) g;have kp:∀b o,s.heap.get? b=some o->(sortedHeap (h1.push (seqObj "list" acc.toList.toArray 0)) h1.objs.size acc.toList ((arrOf j).map (·.2))).get? b=some o:=λb o q=>by
  have hb:=k1 b o q;rw[sortedHeap_old (ne_of_lt (lt_size hb)) (by rw[size_push'];exact lt_succ_of_lt (lt_size hb))];exact get?_push_of_some _ hb
 have D:∀u,s.heap.get? h1.objs.size≠some u:=λu z=>lt_irrefl _ (lt_size (k1 _ _ z));have S:H h1.objs.size=none:=by
  cases e0:H h1.objs.size with
  |none=>rfl
  |some o=>
   obtain⟨u,z⟩:=(I.hok _ _ e0).obj;exact absurd z (D u)
 refine wpAny_pure ⟨_,rfl,.ref h1.objs.size,upd H h1.objs.size (.lst (C.map V.str)),?_,rfl,q _ C S (Cr (Cg q3) (K.nodup_iff.mpr F)) λx=>K.mem_iff⟩;refine I.tW (t':=tk) kp (h_.new S _) λb o E=>?_;by_cases hb:b=h1.objs.size
 .subst hb
  rw[cW] at E;cases E;refine .inr ⟨D,?_⟩;refine⟨by rw[length_map,K.length_eq];exact le_of_lt (lt_of_lt_of_le n (by decide)),((arrOf j).map (·.2)).toList,e,vd q1,?_⟩;rw[toArray_toList];exact he
 .rw[aS hb] at E
  exact .inl E
end
section
variable{X:Cx}
end
end L2
end
namespace MA
namespace aD
variable{N:Type}
end aD
theorem zq{b d:Int}(hb:0<b)(hd:0<d):0<b*d/(Int.gcd b d:Int)/\b∣b*d/(Int.gcd b d:Int)/\d∣b*d/(Int.gcd b d:Int)/\b*d/(Int.gcd b d:Int)<=b*d:=by
 have g:0<(Int.gcd b d:Int):=by
  have:0<Int.gcd b d:=Int.gcd_pos_of_ne_zero_right _ (by omega);omega
 obtain⟨a,c⟩:=gcd_dvd_left b d;obtain⟨d',e⟩:=Int.gcd_dvd_right b d;have f:b*d/(Int.gcd b d:Int)=a*d:=by
  conv=>lhs;lhs;lhs;rw[c]
  rw[mul_assoc,Int.mul_ediv_cancel_left _ (by omega)]
 have i:b*d/(Int.gcd b d:Int)=b*d':=by
  conv=>lhs;lhs;rhs;rw[e]
  rw[mul_comm (Int.gcd b d:Int) d',<-mul_assoc,Int.mul_ediv_cancel _ (by omega)]
 refine⟨?_,⟨d',i⟩,⟨a,by rw[f,mul_comm]⟩,ediv_le_self _ (Int.le_of_lt (mul_pos hb hd))⟩;rw[f];refine mul_pos ?_ hd;rcases Int.lt_or_le 0 a with h|h
 .exact h
 .have:(Int.gcd b d:Int)*a<=0:=Int.mul_nonpos_of_nonneg_of_nonpos (Int.le_of_lt g) h
  omega
def bot:List Rat->Int->Int
 |[],b=>b
 |x::r,b=>bot r (b*(rf x).2/(Int.gcd b (rf x).2:Int))
theorem jn:∀(xs:List Rat) (b:Int),0<b->0<bot xs b/\b∣bot xs b/\∀x∈xs,(rf x).2∣bot xs b
 |[],b,h=>⟨h,Int.dvd_refl _,by simp⟩
 |x::r,b,h=>by
  obtain⟨h1,h2,c,_⟩:=zq h (cK x);obtain⟨d,a,e⟩:=jn r _ h1;refine⟨d,dvd_trans h2 a,λy hy=>?_⟩;rcases mem_cons.mp hy with rfl|hy
  .exact dvd_trans c a
  .exact e y hy
theorem bot_le(D:Int)(c:1<=D):∀(xs:List Rat) (b:Int),0<b->(∀x∈xs,(rf x).2<=D)->bot xs b<=b*D ^ xs.length
 |[],b,_,_=>by simp[bot]
 |x::r,b,h,a=>by
  obtain⟨h1,h2,f,d⟩:=zq h (cK x);have:=bot_le D c r _ h1 λy e=>a y (mem_cons_of_mem _ e);refine Int.le_trans this ?_;rw[length_cons,pow_succ,mul_comm (D ^ r.length) D,<-mul_assoc];refine Int.mul_le_mul_of_nonneg_right ?_ (pow_nonneg (by omega));exact Int.le_trans d (Int.mul_le_mul_of_nonneg_left (a x (by simp)) (Int.le_of_lt h))
def cP:List Int->Int->Int
 |[],d=>d
 |n::r,d=>cP r (Int.gcd d n:Int)
theorem l7:∀(ns:List Int) (d:Int),0<=d->0<=cP ns d/\cP ns d∣d/\(∀n∈ns,cP ns d∣n)/\∀k,k∣d->(∀n∈ns,k∣n)->k∣cP ns d
 |[],d,h=>⟨h,Int.dvd_refl _,by simp,λk a _=>a⟩
 |n::r,d,h=>by
  obtain⟨e,b,f,g⟩:=l7 r (Int.gcd d n:Int) (by omega);refine⟨e,dvd_trans b (gcd_dvd_left d n),λm hm=>?_,λk a c=>g k (Int.dvd_coe_gcd a (c n (by simp))) λm hm=>c m (mem_cons_of_mem _ hm)⟩;rcases mem_cons.mp hm with rfl|hm
  .exact dvd_trans b (Int.gcd_dvd_right d m)
  .exact f m hm
theorem oF{ns:List Int}{d:Int}(h:0<=d){n:Int}(a:n∈ns)(b:0<n):0<cP ns d/\cP ns d<=n:=by
 obtain⟨f,g,c,i⟩:=l7 ns d h;have hd:=c n a;have hle:=le_of_dvd b hd;refine⟨?_,hle⟩;rcases Int.lt_or_le 0 (cP ns d) with z|z
 .exact z
 .have e:cP ns d=0:=by omega
  rw[e] at hd;have:=Int.zero_dvd.mp hd;omega
def ups(xs:List Rat):List Int:=xs.map λx=>(rf x).1*(bot xs 1/(rf x).2)
def lw(xs:List Rat):List Int:=(ups xs).map (·/cP (ups xs) 0)
theorem OH{xs:List Rat}{x:Rat}(a:x∈xs):(((rf x).1*(bot xs 1/(rf x).2):Int):Rat)=(bot xs 1:Rat)*x:=by
 obtain⟨h1,_,b⟩:=jn xs 1 (by decide);obtain⟨k,c⟩:=b x a;have d:=dg (Int.ne_of_gt (cK x));rw[c,Int.mul_ediv_cancel_left _ (Int.ne_of_gt (cK x)),Rat.intCast_mul,Rat.intCast_mul];have e:=gj x;grind
theorem qI{xs:List Rat}{x:Rat}(a:x∈xs)(b:0<x):0<(rf x).1*(bot xs 1/(rf x).2):=by
 obtain⟨h1,_,c⟩:=jn xs 1 (by decide);refine mul_pos (dh b) ?_;exact Int.ediv_pos_of_pos_of_dvd h1 (Int.le_of_lt (cK x)) (c x a)
theorem kH(xs:List Rat):(lw xs).length=xs.length:=by simp[lw,ups]
theorem tV{xs:List Rat}(f:∀x∈xs,0<x)(b:xs≠[]):∃c:Rat,0<c/\(lw xs).map (λn:Int=>(n:Rat))=xs.map (c*·):=by
 obtain⟨x0,a⟩:∃x,x∈xs:=by
  cases xs with
  |nil=>exact absurd rfl b
  |cons x r=>exact⟨x,by simp⟩
 have m0:(rf x0).1*(bot xs 1/(rf x0).2)∈ups xs:=mem_map.mpr ⟨x0,a,rfl⟩;obtain⟨d,_⟩:=oF (Int.le_refl 0) m0 (qI a (f x0 a));obtain⟨_,_,g,_⟩:=l7 (ups xs) 0 (Int.le_refl 0);have h:=dg (Int.ne_of_gt d);obtain⟨i,_,_⟩:=jn xs 1 (by decide);refine⟨(bot xs 1:Rat)/(cP (ups xs) 0:Rat),?_,?_⟩
 .rw[Rat.div_def]
  exact Rat.mul_pos (by exact_mod_cast i) (Rat.inv_pos.mpr (by exact_mod_cast d))
 .unfold lw
  rw[map_map];conv=>lhs;rw[show ups xs=xs.map (λx=>(rf x).1*(bot xs 1/(rf x).2)) from rfl]
  rw[map_map];refine map_congr_left λx e=>?_;have j:(rf x).1*(bot xs 1/(rf x).2)∈ups xs:=mem_map.mpr ⟨x,e,rfl⟩;obtain⟨k,l⟩:=g _ j;have ev:=OH e;show((((rf x).1*(bot xs 1/(rf x).2))/cP (ups xs) 0:Int):Rat)=_;rw[l] at ev ⊢;rw[Int.mul_ediv_cancel_left _ (Int.ne_of_gt d)];rw[Rat.intCast_mul] at ev;grind
theorem zH{xs:List Rat}(d:∀x∈xs,0<x):∀n∈lw xs,1<=n:=by
 intro n e;obtain⟨u,b,rfl⟩:=mem_map.mp e;obtain⟨x,c,rfl⟩:=mem_map.mp b;have a:=qI c (d x c);obtain⟨f,gl⟩:=oF (Int.le_refl 0) b a;have:=(Int.le_ediv_iff_mul_le f).mpr (by rw[one_mul];exact gl:1*cP (ups xs) 0<=_);exact this
theorem tU{xs:List Rat}(f:∀x∈xs,0<x)(b:xs≠[]){k:Int}(g:∀n∈lw xs,k∣n):k∣1:=by
 obtain⟨x0,a⟩:∃x,x∈xs:=by
  cases xs with
  |nil=>exact absurd rfl b
  |cons x r=>exact⟨x,by simp⟩
 have m0:(rf x0).1*(bot xs 1/(rf x0).2)∈ups xs:=mem_map.mpr ⟨x0,a,rfl⟩;obtain⟨c,_⟩:=oF (Int.le_refl 0) m0 (qI a (f x0 a));obtain⟨_,_,l,m⟩:=l7 (ups xs) 0 (Int.le_refl 0);have h:cP (ups xs) 0*k∣cP (ups xs) 0:=by
  refine m _ (Int.dvd_zero _) λn d=>?_;obtain⟨j,e⟩:=l n d;have h1:n/cP (ups xs) 0∈lw xs:=mem_map.mpr ⟨n,d,rfl⟩;obtain⟨i,hi⟩:=g _ h1;rw[e,Int.mul_ediv_cancel_left _ (Int.ne_of_gt c)] at hi;exact⟨i,by rw[e,hi,mul_assoc]⟩
 obtain⟨i,hi⟩:=h;refine⟨i,?_⟩;have:cP (ups xs) 0*1=cP (ups xs) 0*(k*i):=by rw[Int.mul_one,<-mul_assoc];exact hi
 exact Int.eq_of_mul_eq_mul_left (Int.ne_of_gt c) this
end MA
section
open PySem PySem.Spec PyProof.Rows
namespace DP
open L2
inductive D where
 |ao|bl (b:Bool)|int (i:Int)|str (x:Str)|tup (xs:List D)|ref (r:Nat)|fl (xs:List Int)|exc (c:Str)
inductive C where
 |lst (xs:List D)|dct (kvs:List (Key×D))|bf (o:Obj) (kvs:List (Key×D))|ins (cl:Str) (fs:List (Str×D))
abbrev Ar:=List C
abbrev Io:=Nat->Addr
section
variable(mg:aj)
mutual
def RV(ι:Io)(n:Nat)(H:Hp):D->V->Prop
 |.ao,v=>v=.ao
 |.bl b,v=>v=.bl b
 |.int i,v=>v=.int i
 |.str x,v=>v=.str x
 |.tup ds,v=>∃a xs,v=.ref a/\H a=some (.tup xs)/\ah ι n H ds xs
 |.ref r,v=>r<n/\v=.ref (ι r)
 |.fl ns,v=>∃a o,v=.ref a/\H a=some (.bh o (.lst (ns.map V.int)))
 |.exc c,v=>∃a C,v=.ref a/\mg c=some (.ref C)/\H a=some (FO a C)
def ah(ι:Io)(n:Nat)(H:Hp):List D->List V->Prop
 |[],xs=>xs=[]
 |d::ds,xs=>∃x r,xs=x::r/\RV ι n H d x/\ah ι n H ds r
end
def RK(ι:Io)(n:Nat)(H:Hp):List (Key×D)->List (Key×V)->Prop
 |[],xs=>xs=[]
 |p::ds,xs=>∃x r,xs=(p.1,x)::r/\RV mg ι n H p.2 x/\RK ι n H ds r
def RF(ι:Io)(n:Nat)(H:Hp):List (Str×D)->List (Str×V)->Prop
 |[],xs=>xs=[]
 |p::ds,xs=>∃x r,xs=(p.1,x)::r/\RV mg ι n H p.2 x/\RF ι n H ds r
def CO(ι:Io)(n:Nat)(H:Hp)(a:Addr):C->Prop
 |.lst ds=>∃xs,H a=some (.lst xs)/\ah mg ι n H ds xs
 |.dct kvs=>∃xs,H a=some (.dK xs)/\RK mg ι n H kvs xs
 |.bf o kvs=>∃xs,H a=some (.bh o (.dK xs))/\RK mg ι n H kvs xs
 |.ins cl fs=>∃Cc dx xs,mg cl=some (.ref Cc)/\H a=some (.ins Cc dx xs)/\RF mg ι n H fs xs
structure RA(ι:Io)(H:Hp)(A:Ar):Prop where
 fk:∀r c,A[r]? =some c->CO mg ι A.length H (ι r) c
 inj:∀r q,r<A.length->q<A.length->ι r=ι q->r=q
end
def gc:HO->Bool
 |.lst _|.dK _|.bh _ (.dK _)|.ins _ _ _=>true
 |_=>false
structure Ext(A:Ar)(ι:Io)(H:Hp)(A':Ar)(ι':Io)(H':Hp):Prop where
 len:A.length<=A'.length
 ag:∀r,r<A.length->ι' r=ι r
 im:∀r,r<A.length->∃o,H (ι r)=some o/\gc o=true
 mo:∀b o,H b=some o->(∀r,r<A.length->ι r≠b)->H' b=some o
 nw:∀r,A.length<=r->r<A'.length->H (ι' r)=none
 al:∀b o,H b=some o->∃o',H' b=some o'
theorem Ext.fix{A A':Ar}{ι ι':Io}{H H':Hp}(e:Ext A ι H A' ι' H'){b:Addr}{o:HO}(a:gc o=false)(h:H b=some o):H' b=some o:=e.mo b o h λr c z=>by
 obtain⟨u,h1,h2⟩:=e.im r c;rw[z,h] at h1;cases h1;rw[a] at h2;cases h2
theorem Ext.trans{A g i:Ar}{ι e d:Io}{H H1 H2:Hp}(a:Ext A ι H g e H1)(b:Ext g e H1 i d H2):Ext A ι H i d H2 where
 len:=le_trans a.len b.len
 ag:=λr h=>(b.ag r (lt_of_lt_of_le h a.len)).trans (a.ag r h)
 im:=a.im
 mo:=λc o h j=>b.mo c o (a.mo c o h j) λr k z=>by
  by_cases f:r<A.length
  .rw[a.ag r f] at z;exact j r f z
  .have:=a.nw r (by omega) k
   rw[z,h] at this;cases this
 nw:=λr h1 h2=>by
  by_cases f:r<g.length
  .rw[b.ag r f];exact a.nw r h1 f
  .have n1:=b.nw r (by omega) h2
   cases q:H (d r) with
   |none=>rfl
   |some o=>
    obtain⟨o',h'⟩:=a.al _ o q
    rw[h'] at n1;cases n1
 al:=λc o h=>by
  obtain⟨l,h1⟩:=a.al c o h
  exact b.al c l h1
section
variable{mg:aj}{A A':Ar}{ι ι':Io}{H H':Hp}
section
variable{n n':Nat}
mutual
theorem RV.ag(k:n<=n')(e:∀r,r<n->ι' r=ι r)(i:∀b o,gc o=false->H b=some o->H' b=some o):∀(d:D) (v:V),RV mg ι n H d v->RV mg ι' n' H' d v
 |.ao,_,h=>h
 |.bl _,_,h=>h
 |.int _,_,h=>h
 |.str _,_,h=>h
 |.tup ds,v,h=>by
  obtain⟨a,xs,f,g,j⟩:=h;exact⟨a,xs,f,i _ _ rfl g,ah.ag k e i ds xs j⟩
 |.ref r,v,h=>⟨lt_of_lt_of_le h.1 k,by rw[e r h.1];exact h.2⟩
 |.fl ns,v,h=>by
  obtain⟨a,o,f,g⟩:=h;exact⟨a,o,f,i _ _ rfl g⟩
 |.exc c,v,h=>by
  obtain⟨a,C,f,g,j⟩:=h;exact⟨a,C,f,g,i _ _ rfl j⟩
theorem ah.ag(c:n<=n')(a:∀r,r<n->ι' r=ι r)(e:∀b o,gc o=false->H b=some o->H' b=some o):∀(ds:List D) (vs:List V),ah mg ι n H ds vs->ah mg ι' n' H' ds vs
 |[],_,h=>h
 |d::ds,vs,h=>by
  obtain⟨x,r,f,g,i⟩:=h;exact⟨x,r,f,RV.ag c a e d x g,ah.ag c a e ds r i⟩
end
theorem RK.ag(c:n<=n')(a:∀r,r<n->ι' r=ι r)(e:∀b o,gc o=false->H b=some o->H' b=some o):∀(ds:List (Key×D)) (vs:List (Key×V)),RK mg ι n H ds vs->RK mg ι' n' H' ds vs
 |[],_,h=>h
 |d::ds,vs,h=>by
  obtain⟨x,r,f,g,i⟩:=h;exact⟨x,r,f,RV.ag c a e _ x g,RK.ag c a e ds r i⟩
theorem RF.ag(c:n<=n')(a:∀r,r<n->ι' r=ι r)(e:∀b o,gc o=false->H b=some o->H' b=some o):∀(ds:List (Str×D)) (vs:List (Str×V)),RF mg ι n H ds vs->RF mg ι' n' H' ds vs
 |[],_,h=>h
 |d::ds,vs,h=>by
  obtain⟨x,r,f,g,i⟩:=h;exact⟨x,r,f,RV.ag c a e _ x g,RF.ag c a e ds r i⟩
theorem CO.ag{a:Addr}(g:n<=n')(d:∀r,r<n->ι' r=ι r)(i:∀b o,gc o=false->H b=some o->H' b=some o)(ha:∀o,H a=some o->H' a=some o):∀(c:C),CO mg ι n H a c->CO mg ι' n' H' a c
 |.lst ds,h=>by
  obtain⟨xs,e,f⟩:=h;exact⟨xs,ha _ e,ah.ag g d i ds xs f⟩
 |.dct ds,h=>by
  obtain⟨xs,e,f⟩:=h;exact⟨xs,ha _ e,RK.ag g d i ds xs f⟩
 |.bf o ds,h=>by
  obtain⟨xs,e,f⟩:=h;exact⟨xs,ha _ e,RK.ag g d i ds xs f⟩
 |.ins cl ds,h=>by
  obtain⟨j,dx,xs,k,e,f⟩:=h;exact⟨j,dx,xs,k,ha _ e,RF.ag g d i ds xs f⟩
end
theorem RV.ext(e:Ext A ι H A' ι' H')(d:D)(v:V)(h:RV mg ι A.length H d v):RV mg ι' A'.length H' d v:=RV.ag e.len e.ag (λ_ _ m h=>e.fix m h) d v h
theorem ah.ext(e:Ext A ι H A' ι' H')(d:List D)(v:List V)(h:ah mg ι A.length H d v):ah mg ι' A'.length H' d v:=ah.ag e.len e.ag (λ_ _ m h=>e.fix m h) d v h
theorem RK.ext(e:Ext A ι H A' ι' H')(d:List (Key×D))(v:List (Key×V))(h:RK mg ι A.length H d v):RK mg ι' A'.length H' d v:=RK.ag e.len e.ag (λ_ _ m h=>e.fix m h) d v h
theorem CO.ext{a:Addr}(e:Ext A ι H A' ι' H')(ha:∀o,H a=some o->H' a=some o)(c:C)(h:CO mg ι A.length H a c):CO mg ι' A'.length H' a c:=CO.ag (a:=a) (H:=H) (H':=H') e.len e.ag (λ_ _ m h=>e.fix m h) ha c h
theorem ah.length:∀{ds:List D} {vs:List V} {n:Nat},ah mg ι n H ds vs->ds.length=vs.length
 |[],vs,_,h=>by have h':vs=[]:=h;rw[h'];rfl
 |d::ds,vs,n,h=>by
  obtain⟨x,r,rfl,_,a⟩:=h;simp[ah.length a]
theorem ah.get:∀{ds:List D} {vs:List V} {n i:Nat} {d:D},ah mg ι n H ds vs->ds[i]?=some d->∃v,vs[i]?=some v/\RV mg ι n H d v
 |[],_,_,_,_,_,e=>by simp at e
 |d::ds,vs,n,0,d',h,e=>by
  obtain⟨x,r,rfl,a,_⟩:=h;simp at e;subst e;exact⟨x,rfl,a⟩
 |d::ds,vs,n,i+1,d',h,e=>by
  obtain⟨x,r,rfl,_,b⟩:=h;obtain⟨v,h1,h2⟩:=ah.get (i:=i) b (by simpa using e);exact⟨v,by simpa using h1,h2⟩
theorem ah.app:∀{ds es:List D} {vs ws:List V} {n:Nat},ah mg ι n H ds vs->ah mg ι n H es ws->ah mg ι n H (ds++es) (vs++ws)
 |[],_,vs,_,_,h,q=>by have h':vs=[]:=h;rw[h'];exact q
 |d::ds,es,vs,ws,n,h,q=>by
  obtain⟨x,r,rfl,a,b⟩:=h;exact⟨x,r++ws,rfl,a,ah.app b q⟩
theorem ah.take:∀{ds:List D} {vs:List V} {n:Nat} (k:Nat),ah mg ι n H ds vs->ah mg ι n H (ds.take k) (vs.take k)
 |ds,vs,n,0,h=>by simp[ah]
 |[],vs,n,k+1,h=>by have h':vs=[]:=h;rw[h'];simp[ah]
 |d::ds,vs,n,k+1,h=>by
  obtain⟨x,r,rfl,a,b⟩:=h;exact⟨x,r.take k,rfl,a,ah.take k b⟩
theorem ah.drop:∀{ds:List D} {vs:List V} {n:Nat} (k:Nat),ah mg ι n H ds vs->ah mg ι n H (ds.drop k) (vs.drop k)
 |ds,vs,n,0,h=>by simpa using h
 |[],vs,n,k+1,h=>by have h':vs=[]:=h;rw[h'];simp[ah]
 |d::ds,vs,n,k+1,h=>by
  obtain⟨x,r,rfl,b,a⟩:=h;exact ah.drop k a
theorem RA.im(R:RA mg ι H A):∀r,r<A.length->∃o,H (ι r)=some o/\gc o=true:=λr h=>by
 obtain⟨c',b⟩:∃c',A[r]?=some c':=⟨A[r],by rw[getElem?_eq_getElem h]⟩;have:=R.fk r c' b;cases c' with
 |lst ds=>obtain⟨xs,a,_⟩:=this;exact⟨_,a,rfl⟩
 |dct ds=>obtain⟨xs,a,_⟩:=this;exact⟨_,a,rfl⟩
 |bf o ds=>obtain⟨xs,a,_⟩:=this;exact⟨_,a,rfl⟩
 |ins cl ds=>obtain⟨c,dx,xs,_,a,_⟩:=this;exact⟨_,a,rfl⟩
theorem RA.refl(R:RA mg ι H A):Ext A ι H A ι H:=⟨le_refl _,λ_ _=>rfl,R.im,λ_ _ h _=>h,λr h1 h2=>absurd h2 (by omega),λ_ o h=>⟨o,h⟩⟩
theorem RA.oB(R:RA mg ι H A){p:Addr}{o:HO}(a:H p=none):Ext A ι H A ι (upd H p o):=
 ⟨le_refl _,λ_ _=>rfl,R.im,λb u h _=>by rw[aS (cQ h a)];exact h,λr h1 h2=>absurd h2 (by omega),λb u h=>⟨u,by rw[aS (cQ h a)];exact h⟩⟩
theorem RA.sI(R:RA mg ι H A){p:Addr}{o:HO}{c:C}(a:H p=none):Ext A ι H (A++[c]) (λr=>if r=A.length then p else ι r) (upd H p o):=
 ⟨by simp,λr h=>by
  show(if r=A.length then p else ι r)=ι r;rw[if_neg (by omega)],R.im,λb u h _=>by rw[aS (cQ h a)];exact h,λr h1 h2=>by
  have e:r=A.length:=by simp at h2;omega
  show H (if r=A.length then p else ι r)=none;rw[if_pos e];exact a,λb u h=>⟨u,by rw[aS (cQ h a)];exact h⟩⟩
theorem RA.kc(R:RA mg ι H A){r:Nat}{o:HO}{c:C}(a:r<A.length):Ext A ι H (A.set r c) ι (upd H (ι r) o):=
 ⟨by simp,λ_ _=>rfl,R.im,λb u h d=>by rw[aS (λe=>d r a e.symm)];exact h,λq h1 h2=>absurd h2 (by simp;omega),λb u h=>by
  by_cases hb:b=ι r
  .subst hb;exact⟨o,cW⟩
  .exact⟨u,by rw[aS hb];exact h⟩⟩
theorem RA.fix(R:RA mg ι H A)(e:Ext A ι H A ι H')(k:∀b o,H b=some o->H' b=some o):RA mg ι H' A:=⟨λr c h=>CO.ext e (λo q=>k _ o q) c (R.fk r c h),R.inj⟩
theorem RA.push{p:Addr}{o:HO}{c:C}(R:RA mg ι H A)(e:H p=none)(hc:CO mg (λr=>if r=A.length then p else ι r) (A.length+1) (upd H p o) p c):
  RA mg (λr=>if r=A.length then p else ι r) (upd H p o) (A++[c])/\Ext A ι H (A++[c]) (λr=>if r=A.length then p else ι r) (upd H p o):=by
 have E:Ext A ι H (A++[c]) (λr=>if r=A.length then p else ι r) (upd H p o):=R.sI e;have i:∀r,r<A.length->∃u,H (ι r)=some u:=λr h=>by
  obtain⟨c',f⟩:∃c',A[r]?=some c':=⟨A[r],by rw[getElem?_eq_getElem h]⟩;have:=R.fk r c' f;cases c' with
  |lst ds=>obtain⟨xs,b,_⟩:=this;exact⟨_,b⟩
  |dct ds=>obtain⟨xs,b,_⟩:=this;exact⟨_,b⟩
  |bf o ds=>obtain⟨xs,b,_⟩:=this;exact⟨_,b⟩
  |ins cl ds=>obtain⟨l,dx,xs,_,b,_⟩:=this;exact⟨_,b⟩
 refine⟨⟨λr c' h=>?_,λr q g j h=>?_⟩,E⟩
 .by_cases g:r<A.length
  .rw[getElem?_append_left g] at h
   have:=CO.ext E (a:=ι r) (λo' q=>by rw[aS (cQ q e)];exact q) c' (R.fk r c' h);show CO mg _ _ _ (if r=A.length then p else ι r) c';rw[if_neg (by omega)];exact this
  .have k:r=A.length:=by
    have:=(List.getElem?_eq_some_iff.mp h).1;simp at this;omega
   subst k;simp at h;subst h;show CO mg _ _ _ (if A.length=A.length then p else ι A.length) c;rw[if_pos rfl];simpa using hc
 .simp at g j
  have h':(if r=A.length then p else ι r)=(if q=A.length then p else ι q):=h;by_cases h1:r=A.length
  .by_cases h2:q=A.length
   .rw[h1,h2]
   .rw[if_pos h1,if_neg h2] at h'
    obtain⟨u,d⟩:=i q (by omega);rw[<-h',e] at d;cases d
  .by_cases h2:q=A.length
   .rw[if_neg h1,if_pos h2] at h'
    obtain⟨u,d⟩:=i r (by omega);rw[h',e] at d;cases d
   .rw[if_neg h1,if_neg h2] at h'
    exact R.inj r q (by omega) (by omega) h'
theorem RA.put{r:Nat}{u o:HO}{c c':C}(R:RA mg ι H A)(i:A[r]?=some c)(k:H (ι r)=some u)(l:gc u=true)(hc:CO mg ι A.length (upd H (ι r) o) (ι r) c'):
  RA mg ι (upd H (ι r) o) (A.set r c')/\Ext A ι H (A.set r c') ι (upd H (ι r) o):=by
 have f:=(List.getElem?_eq_some_iff.mp i).1;have E:Ext A ι H (A.set r c') ι (upd H (ι r) o):=R.kc f;refine⟨⟨λq d h=>?_,λa b ha hb=>R.inj a b (by simpa using ha) (by simpa using hb)⟩,E⟩;by_cases g:q=r
 .subst g
  rw[getElem?_set_self f] at h;cases h;simpa using hc
 .rw[getElem?_set_ne (Ne.symm g)] at h
  have j:=(List.getElem?_eq_some_iff.mp h).1;have:=CO.ext E (a:=ι q) (λo' z=>by rw[aS (λe=>g (R.inj q r j f e))];exact z) d (R.fk q d h);simpa using this
end
abbrev bx:=List (Option D)
def lk:bx->Nat->Option D
 |[],_=>none
 |x::_,0=>x
 |_::r,i+1=>lk r i
theorem oZ:∀(τ:bx) (i:Nat),lk τ i=(τ[i]?).join
 |[],i=>by simp[lk]
 |x::r,0=>by simp[lk]
 |x::r,i+1=>by simp[lk,oZ r i]
structure En where
 A:Ar
 ι:Io
 H:Hp
structure RS(mg:aj)(ι:Io)(n:Nat)(H:Hp)(τ:bx)(σ:L2.St):Prop where
 len:τ.length=σ.length
 at':∀i d,lk τ i=some d->∃v,σ[i]?=some (some v)/\RV mg ι n H d v
structure cC(mg:aj)(N:En)(A:Ar)(ι:Io)(τ:bx)(σ:L2.St)(H:Hp):Prop where
 ra:RA mg ι H A
 rs:RS mg ι A.length H τ σ
 ex:Ext N.A N.ι N.H A ι H
abbrev DK:=D->Ar->Prop
abbrev aC:=bx->Ar->DK->Prop
abbrev dN:=bx->Ar->(Bool->Ar->Prop)->Prop
abbrev bZ:=bx->Ar->(List D->Ar->Prop)->Prop
def Kt(mg:aj)(A:Ar)(ι:Io)(H:Hp)(R:DK)(Q:VK):Prop:=∀v A' ι' H' u,R v A'->Ext A ι H A' ι' H'->RA mg ι' H' A'->RV mg ι' A'.length H' v u->Q u H'
def jU(mg:aj)(A:Ar)(ι:Io)(H:Hp)(R:Bool->Ar->Prop)(Q:Bool->Hp->Prop):Prop:=∀v A' ι' H',R v A'->Ext A ι H A' ι' H'->RA mg ι' H' A'->Q v H'
def Dz(mg:aj)(A:Ar)(ι:Io)(H:Hp)(R:List D->Ar->Prop)(Q:List V->Hp->Prop):Prop:=∀v A' ι' H' u,R v A'->Ext A ι H A' ι' H'->RA mg ι' H' A'->ah mg ι' A'.length H' v u->Q u H'
def up(mg:aj)(N:En)(m:aC):TE:=λσ H Q=>∃A ι τ R,cC mg N A ι τ σ H/\m τ A R/\Kt mg A ι H R Q
def cz(mg:aj)(N:En)(m:dN):TT:=λσ H Q=>∃A ι τ R,cC mg N A ι τ σ H/\m τ A R/\jU mg A ι H R Q
def dW(mg:aj)(N:En)(m:bZ):TA:=λσ H Q=>∃A ι τ R,cC mg N A ι τ σ H/\m τ A R/\Dz mg A ι H R Q
section
variable{mg:aj}{N:En}{A A':Ar}{ι ι':Io}{τ:bx}{σ:L2.St}{H H':Hp}
theorem RS.ext(e:Ext A ι H A' ι' H')(r:RS mg ι A.length H τ σ):RS mg ι' A'.length H' τ σ:=⟨r.len,λi d h=>by
 obtain⟨v,h1,h2⟩:=r.at' i d h;exact⟨v,h1,RV.ext e d v h2⟩⟩
theorem cC.next(S:cC mg N A ι τ σ H)(e:Ext A ι H A' ι' H')(r:RA mg ι' H' A'):cC mg N A' ι' τ σ H':=⟨r,S.rs.ext e,S.ex.trans e⟩
theorem Kt.from{R:DK}{Q:VK}(k:Kt mg A ι H R Q)(e:Ext A ι H A' ι' H'):Kt mg A' ι' H' R Q:=λv b a H2 u q c=>k v b a H2 u q (e.trans c)
theorem jU.from{R:Bool->Ar->Prop}{Q:Bool->Hp->Prop}(k:jU mg A ι H R Q)(e:Ext A ι H A' ι' H'):jU mg A' ι' H' R Q:=λv b a H2 q c=>k v b a H2 q (e.trans c)
theorem Kt.here{R:DK}{Q:VK}{d:D}{v:V}(k:Kt mg A ι H R Q)(r:RA mg ι H A)(q:R d A)(h:RV mg ι A.length H d v):Q v H:=k d A ι H v q r.refl r h
theorem jU.here{R:Bool->Ar->Prop}{Q:Bool->Hp->Prop}{b:Bool}(k:jU mg A ι H R Q)(r:RA mg ι H A)(q:R b A):Q b H:=k b A ι H q r.refl r
end
section
variable{X:Cx}{e:Expr}
theorem c7{t t':TE}(h:PE X e t)(w:∀σ H Q,t' σ H Q->t σ H Q):PE X e t':=λpins s σ H Q I q=>h pins s σ H Q I (w σ H Q q)
theorem oq{t t':TT}(h:PT X e t)(w:∀σ H Q,t' σ H Q->t σ H Q):PT X e t':=λpins s σ H Q I q=>h pins s σ H Q I (w σ H Q q)
theorem x9{t t':TT}(h:PW X e t)(w:∀σ H Q,t' σ H Q->t σ H Q):PW X e t':=λwhole pins s σ H Q I q=>h whole pins s σ H Q I (w σ H Q q)
theorem xA{es:List Expr}{t t':TA}(h:PA X es t)(w:∀σ H Q,t' σ H Q->t σ H Q):PA X es t':=λpos pins s σ H Q I q=>h pos pins s σ H Q I (w σ H Q q)
theorem fZ{st:Stmt}{t t':TS}(h:PS X st t)(w:∀D σ H,t' D σ H->t D σ H):PS X st t':=λpins s σ H D I q=>h pins s σ H D I (w D σ H q)
theorem xZ{st:List Stmt}{t t':TS}(h:cG X st t)(w:∀D σ H,t' D σ H->t D σ H):cG X st t':=λpins s σ H D I q=>h pins s σ H D I (w D σ H q)
end
def cT(i:Nat):aC:=λτ A R=>match lk τ i with
 |some v=>R v A
 |none=>False
def dC(d:D):aC:=λ_ A R=>R d A
section
variable{X:Cx}{N:En}{pos:Pos}
theorem Fe{i:Nat}{x:Str}(b:X.N[i]?=some x)(c:jX X.env.scope x)(hd:(x==("__debug__":Str))=false:=by decide)(a:(x==("__classdict__":Str))=false:=by decide):PE X (.Name x pos) (up X.mg N (cT i)):=
 c7 (K8 b c hd a) λσ H Q h=>by
  obtain⟨A,ι,τ,R,S,h,k⟩:=h;unfold cT at h;split at h
  .rename_i v e
   obtain⟨u,h1,h2⟩:=S.rs.at' i v e;exact⟨u,h1,k.here S.ra h h2⟩
  .exact h.elim
theorem lS{e:Expr}{d:D}{v:V}(h:PE X e (tC v))(r:∀ι n H,RV X.mg ι n H d v):PE X e (up X.mg N (dC d)):=
 c7 h λσ H Q h=>by
  obtain⟨A,ι,τ,R,S,h,k⟩:=h;exact k.here S.ra h (r _ _ _)
theorem ai{i j}:PE X (.Constant (.int i) j pos) (up X.mg N (dC (.int i))):=lS KW λ_ _ _=>rfl
theorem eY{b j}:PE X (.Constant (.bool b) j pos) (up X.mg N (dC (.bl b))):=lS KD λ_ _ _=>rfl
theorem ic{j}:PE X (.Constant .none j pos) (up X.mg N (dC .ao)):=lS K0 λ_ _ _=>rfl
theorem aV{x j}:PE X (.Constant (.str x) j pos) (up X.mg N (dC (.str x))):=lS K4 λ_ _ _=>rfl
theorem lT{x:Str}{i:Int}{t:Tok}(a:X.mg x=some (.int i t))(b:Gl X x:=by rfl)(hd:(x==("__debug__":Str))=false:=by decide):PE X (.Name x pos) (up X.mg N (dC (.int i))):=
 lS (KU (v:=.int i) b a ⟨_,rfl⟩ hd) λ_ _ _=>rfl
end
abbrev cO:=D->D->Ar->DK->Prop
def cF(mg:aj)(r:R2)(f:cO):Prop:=∀x y A ι H u v R Q,RA mg ι H A->RV mg ι A.length H x u->RV mg ι A.length H y v->f x y A R->Kt mg A ι H R Q->r u v H Q
def b9(f:cO)(ma mb:aC):aC:=λτ A R=>ma τ A λx A1=>mb τ A1 λy A2=>f x y A2 R
section
variable{X:Cx}{N:En}{pos:Pos}{a b c:Expr}{ma mb mc:aC}{f f':cO}{r r':R2}
theorem qG(h:cF X.mg r f){σ:L2.St}{H:Hp}{Q:VK}(q:up X.mg N (b9 f ma mb) σ H Q):nj r (up X.mg N ma) (up X.mg N mb) σ H Q:=by
 obtain⟨A,ι,τ,R,S,q,k⟩:=q;have q:ma τ A (λx a=>mb τ a λy b=>f x y b R):=q;refine⟨A,ι,τ,_,S,q,λx a c H1 u i e j l=>?_⟩;refine⟨a,c,τ,_,S.next e j,i,λy b d H2 v m g n v2=>?_⟩;exact h x y b d H2 u v R Q n (RV.ext g x u l) v2 m (k.from (e.trans g))
theorem j8{op:Operator}(c:aX X (binaryOp op) r)(hd:cF X.mg r f)(ha:PE X a (up X.mg N ma))(hb:PE X b (up X.mg N mb)):PE X (.BinOp a op b pos) (up X.mg N (b9 f ma mb)):=
 c7 (K2 c ha hb) λ_ _ _ h=>qG hd h
theorem sj{op:CmpOp}(c:aX X (compareOp op) r)(hd:cF X.mg r f)(ha:PE X a (up X.mg N ma))(hb:PE X b (up X.mg N mb))(d:behindInMarks op b=false):PE X (.Compare a [op] [b] pos) (up X.mg N (b9 f ma mb)):=
 c7 (KN c ha hb d) λ_ _ _ h=>qG hd h
def eW(m:aC):dN:=λτ A R=>m τ A λx A1=>match x with
 |.bl k=>R k A1
 |_=>False
theorem u7{t:TE}{m:aC}(d:∀σ H Q,up X.mg N m σ H Q->t σ H Q){σ:L2.St}{H:Hp}{Q:Bool->Hp->Prop}(q:cz X.mg N (eW m) σ H Q):uW t σ H Q:=by
 obtain⟨A,ι,τ,R,S,q,k⟩:=q;refine d _ _ _ ⟨A,ι,τ,_,S,q,λx e a H1 u c f g h=>?_⟩;cases x with
 |bl b=>exact⟨b,h,k b e a H1 c f g⟩
 |_=>exact c.elim
theorem iL{op:CmpOp}(c:aX X (compareOp op) r)(hd:cF X.mg r f)(ha:PE X a (up X.mg N ma))(hb:PE X b (up X.mg N mb))(d:behindInMarks op b=false):PT X (.Compare a [op] [b] pos) (cz X.mg N (eW (b9 f ma mb))):=
 oq (LK c ha hb d) λ_ _ _ h=>u7 (λ_ _ _ h=>qG hd h) h
def lR(f f':cO)(ma mb mc:aC):aC:=λτ A R=>ma τ A λx A1=>mb τ A1 λy A2=>f x y A2 λz A3=>match z with
 |.bl k=>cond k (mc τ A3 λw A4=>f' y w A4 R) (R (.bl false) A3)
 |_=>False
theorem CQ(h:cF X.mg r f)(h':cF X.mg r' f'){σ:L2.St}{H:Hp}{Q:VK}(q:up X.mg N (lR f f' ma mb mc) σ H Q):uT r r' (up X.mg N ma) (up X.mg N mb) (up X.mg N mc) σ H Q:=by
 obtain⟨A,ι,τ,R,S,q,k⟩:=q;refine⟨A,ι,τ,_,S,q,λx s e H1 u t a m B=>?_⟩;refine⟨s,e,τ,_,S.next a m,t,λy C g H2 v D c n v2=>?_⟩;refine h x y C g H2 u v _ _ n (RV.ext c x u B) v2 D λz E i L w j d o F=>?_;cases z with
 |bl b=>
  refine⟨b,F,?_⟩;cases b with
  |true=>
   rw[if_pos rfl];refine⟨E,i,τ,_,((S.next a m).next c n).next d o,j,λz G l I w J p K v4=>?_⟩;exact h' y z G l I v w R Q K (RV.ext (d.trans p) y v v2) v4 J (k.from (((a.trans c).trans d).trans p))
  |false=>
   rw[if_neg Bool.false_ne_true];exact(k.from ((a.trans c).trans d)).here o j rfl
 |_=>exact j.elim
theorem E8{op d:CmpOp}(i:aX X (compareOp op) r)(e:aX X (compareOp d) r')(hd:cF X.mg r f)(g:cF X.mg r' f')(ha:PE X a (up X.mg N ma))(hb:PE X b (up X.mg N mb))(hc:PE X c (up X.mg N mc))
  (j:lastMarks [op,d] [b,c]=false:=by with_unfolding_all rfl):PE X (.Compare a [op,d] [b,c] pos) (up X.mg N (lR f f' ma mb mc)):=
 c7 (KL i e ha hb hc j) λ_ _ _ h=>CQ hd g h
theorem Fz{op d:CmpOp}(i:aX X (compareOp op) r)(e:aX X (compareOp d) r')(hd:cF X.mg r f)(g:cF X.mg r' f')(ha:PE X a (up X.mg N ma))(hb:PE X b (up X.mg N mb))(hc:PE X c (up X.mg N mc))
  (j:lastMarks [op,d] [b,c]=false:=by with_unfolding_all rfl):PT X (.Compare a [op,d] [b,c] pos) (cz X.mg N (eW (lR f f' ma mb mc))):=
 oq (LJ i e ha hb hc j) λ_ _ _ h=>u7 (λ_ _ _ h=>CQ hd g h) h
theorem dZ{m:aC}(h:PE X a (up X.mg N m))(b:∀whole,isTrue a X.env whole=(do let v <-whole;standAt a.pos;holding [v] (truthy v)):=by intro _;rfl):PT X a (cz X.mg N (eW m)):=
 oq (LM h b) λ_ _ _ q=>u7 (λ_ _ _ h=>h) q
def EA(t u:dN):dN:=λτ A R=>t τ A λc A1=>cond c (u τ A1 R) (R false A1)
def EH(t u:dN):dN:=λτ A R=>t τ A λc A1=>cond c (R true A1) (u τ A1 R)
def EG(t:dN):dN:=λτ A R=>t τ A λc A1=>R (!c) A1
variable{tA tB:dN}{rest:List Expr}
theorem x8(ha:PT X a (cz X.mg N tA)):PW X (.BoolOp .And [a] pos) (cz X.mg N tA):=pw_and1 ha
theorem f6(ha:PT X a (cz X.mg N tA)):PW X (.BoolOp .Or [a] pos) (cz X.mg N tA):=pw_or1 ha
theorem x6(ha:PT X a (cz X.mg N tA))(hb:PW X (.BoolOp .And (b::rest) pos) (cz X.mg N tB)):PW X (.BoolOp .And (a::b::rest) pos) (cz X.mg N (EA tA tB)):=
 x9 (pw_and ha hb) λσ H Q q=>by
  obtain⟨A,ι,τ,R,S,q,k⟩:=q;refine⟨A,ι,τ,_,S,q,λx g c H1 e d f=>?_⟩;cases x with
  |true=>rw[if_pos rfl];exact⟨g,c,τ,_,S.next d f,e,k.from d⟩
  |false=>rw[if_neg Bool.false_ne_true];exact(k.from d).here f e
theorem e9(ha:PT X a (cz X.mg N tA))(hb:PW X (.BoolOp .Or (b::rest) pos) (cz X.mg N tB)):PW X (.BoolOp .Or (a::b::rest) pos) (cz X.mg N (EH tA tB)):=
 x9 (pw_or ha hb) λσ H Q q=>by
  obtain⟨A,ι,τ,R,S,q,k⟩:=q;refine⟨A,ι,τ,_,S,q,λx g c H1 e d f=>?_⟩;cases x with
  |true=>rw[if_pos rfl];exact(k.from d).here f e
  |false=>rw[if_neg Bool.false_ne_true];exact⟨g,c,τ,_,S.next d f,e,k.from d⟩
theorem fM(ha:PT X a (cz X.mg N tA)):PT X (.UnaryOp .Not a pos) (cz X.mg N (EG tA)):=
 oq (LL ha) λσ H Q q=>by
  obtain⟨A,ι,τ,R,S,q,k⟩:=q;exact⟨A,ι,τ,_,S,q,λx f b H1 c d e=>(k.from d).here e c⟩
def EB(ma mb:aC):aC:=λτ A R=>ma τ A λx A1=>match x with
 |.bl c=>cond c (mb τ A1 R) (R (.bl false) A1)
 |_=>False
theorem xE{op}(h:PE X a (up X.mg N ma)):PE X (.BoolOp op [a] pos) (up X.mg N ma):=K1 h
theorem xC(ha:PE X a (up X.mg N ma))(hb:PE X (.BoolOp .And (b::rest) pos) (up X.mg N mb)):PE X (.BoolOp .And (a::b::rest) pos) (up X.mg N (EB ma mb)):=
 c7 (KC ha hb) λσ H Q q=>by
  obtain⟨A,ι,τ,R,S,q,k⟩:=q;refine⟨A,ι,τ,_,S,q,λx h d H1 u e f g i=>?_⟩;cases x with
  |bl c=>
   refine⟨c,i,?_⟩;cases c with
   |true=>rw[if_pos rfl];exact⟨h,d,τ,_,S.next f g,e,k.from f⟩
   |false=>rw[if_neg Bool.false_ne_true];exact(k.from f).here g e rfl
  |_=>exact e.elim
end
def gI:bZ:=λ_ A R=>R [] A
def dF(m:aC)(n:bZ):bZ:=λτ A R=>m τ A λx A1=>n τ A1 λxs A2=>R (x::xs) A2
def xo(n:bZ):aC:=λτ A R=>n τ A λxs A1=>xs.length<=sizeLine/\R (.tup xs) A1
def xj(n:bZ):aC:=λτ A R=>n τ A λxs A1=>xs.length<=sizeLine/\R (.ref A1.length) (A1++[.lst xs])
section
variable{X:Cx}{N:En}{pos:Pos}{e:Expr}{es:List Expr}{m:aC}{n:bZ}
theorem af:PA X [] (dW X.mg N gI):=xA Aa λσ H Q q=>by
 obtain⟨A,ι,τ,R,S,q,k⟩:=q;exact k [] A ι H [] q S.ra.refl S.ra rfl
theorem aa(ha:PE X e (up X.mg N m))(f:PA X es (dW X.mg N n))(g:starEach (e::es) X.env=(false,eval e X.env)::starEach es X.env:=by rfl):PA X (e::es) (dW X.mg N (dF m n)):=
 xA (ur ha f g) λσ H Q q=>by
  obtain⟨A,ι,τ,R,S,q,k⟩:=q;refine⟨A,ι,τ,_,S,q,λx h a H1 u i c j l=>?_⟩;refine⟨h,a,τ,_,S.next c j,i,λy o b H2 v p d r v2=>?_⟩;exact k _ o b H2 _ p (c.trans d) r ⟨u,v,rfl,RV.ext d x u l,v2⟩
theorem pB{mg:aj}{A:Ar}{ι:Io}{H:Hp}{R:DK}{Q:VK}{ds:List D}{xs:List V}{p:Addr}(k:Kt mg A ι H R Q)(r:RA mg ι H A)(h:ah mg ι A.length H ds xs)(q:R (.tup ds) A)(a:H p=none):Q (.ref p) (upd H p (.tup xs)):=by
 have E:Ext A ι H A ι (upd H p (.tup xs)):=r.oB a;exact k _ A ι _ _ q E (r.fix E λb o z=>by rw[aS (cQ z a)];exact z) ⟨p,xs,rfl,cW,ah.ext E ds xs h⟩
theorem kI{mg:aj}{A:Ar}{ι:Io}{H:Hp}{R:DK}{Q:VK}{ds:List D}{xs:List V}{p:Addr}(k:Kt mg A ι H R Q)(r:RA mg ι H A)(h:ah mg ι A.length H ds xs)(q:R (.ref A.length) (A++[.lst ds]))(a:H p=none):Q (.ref p) (upd H p (.lst xs)):=by
 have E:Ext A ι H (A++[.lst ds]) (λr=>if r=A.length then p else ι r) (upd H p (.lst xs)):=r.sI a;obtain⟨b,d⟩:=r.push (c:=.lst ds) (o:=.lst xs) a ⟨xs,cW,by simpa using ah.ext E ds xs h⟩;refine k _ _ _ _ _ q d b ⟨by simp,?_⟩;show V.ref p=V.ref (if A.length=A.length then p else ι A.length);rw[if_pos rfl]
theorem bg{c}(h:PA X es (dW X.mg N n)):PE X (.Tuple es c pos) (up X.mg N (xo n)):=c7 (K5 h) λσ H Q q=>by
 obtain⟨A,ι,τ,R,S,q,k⟩:=q;refine⟨A,ι,τ,_,S,q,λx i d H1 u a e f b=>?_⟩;exact⟨by rw[<-ah.length b];exact a.1,λp g=>pB (k.from e) f b a.2 g⟩
theorem eE(h:PA X es (dW X.mg N n)):PE X (.List es pos) (up X.mg N (xj n)):=c7 (KZ h) λσ H Q q=>by
 obtain⟨A,ι,τ,R,S,q,k⟩:=q;refine⟨A,ι,τ,_,S,q,λx g c H1 u a d e b=>?_⟩;exact⟨by rw[<-ah.length b];exact a.1,λp f=>kI (k.from d) e b a.2 f⟩
end
section
variable{mg:aj}{K:PySem.W.Frag}{A:Ar}{ι:Io}{H:Hp}
theorem RA.lst(r:RA mg ι H A){q:Nat}{ds:List D}(h:A[q]?=some (.lst ds)):∃xs,H (ι q)=some (.lst xs)/\ah mg ι A.length H ds xs:=r.fk q _ h
theorem RA.dct(r:RA mg ι H A){q:Nat}{ds:List (Key×D)}(h:A[q]?=some (.dct ds)):∃xs,H (ι q)=some (.dK xs)/\RK mg ι A.length H ds xs:=r.fk q _ h
theorem RA.bf(r:RA mg ι H A){q:Nat}{o:Obj}{ds:List (Key×D)}(h:A[q]?=some (.bf o ds)):∃xs,H (ι q)=some (.bh o (.dK xs))/\RK mg ι A.length H ds xs:=r.fk q _ h
theorem ah.ints:∀(ns:List Int) {n:Nat},ah mg ι n H (ns.map D.int) (ns.map V.int)
 |[],_=>rfl
 |i::r,n=>⟨_,_,rfl,rfl,ah.ints r⟩
theorem ah.zV{n:Nat}{ds:List D}(h:ah mg ι n H ds []):ds=[]:=by
 cases ds with
 |nil=>rfl
 |cons d r=>obtain⟨x,r,e,_⟩:=h;cases e
end
abbrev As(K:PySem.W.Frag):R2:=λx y H Q=>gi (λi j=>.int (i+j)) x y H Q\/(∃i j,x=.str i/\y=.str j/\i.length+j.length<=sizeLine/\Q (.str (i++j)) H)\/Aw K x y H Q\/Av x y H Q
theorem JX{X:Cx}:aX X (binaryOp .Add) (As X.K):=J9.or (J_.or (Ka.or J'))
@[irreducible] def nW(r q:Nat)(A:Ar)(R:DK):Prop:=match A[r]?,A[q]? with
 |some (.lst xs),some (.lst ys)=>xs.length+ys.length<=sizeLine/\R (.ref A.length) (A++[.lst (xs++ys)])
 |_,_=>False
def lG:cO:=λx y A R=>match x,y with
 |.int i,.int j=>R (.int (i+j)) A
 |.str a,.str b=>a.length+b.length<=sizeLine/\R (.str (a++b)) A
 |.tup xs,.tup ys=>xs.length+ys.length<=sizeLine/\R (.tup (xs++ys)) A
 |.ref r,.ref q=>nW r q A R
 |_,_=>False
theorem EK{mg:aj}{K:PySem.W.Frag}:cF mg (As K) lG:=by
 intro x y A ι H u v R Q ra e f h k;unfold lG at h;split at h
 .cases e;cases f
  exact .inl ⟨_,_,rfl,rfl,k.here ra h rfl⟩
 .cases e;cases f
  exact .inr (.inl ⟨_,_,rfl,rfl,h.1,k.here ra h.2 rfl⟩)
 .obtain⟨a,xs,rfl,g,c⟩:=e
  obtain⟨b,ys,rfl,i,d⟩:=f;refine .inr (.inr (.inl ⟨a,b,xs,ys,rfl,rfl,bq.of g,bq.of i,by rw[<-ah.length c,<-ah.length d];exact h.1,λz=>?_,λ_ z=>?_,λ_ _ p j=>pB k ra (c.app d) h.2 j⟩))
  .subst z
   obtain rfl:=ah.zV c;exact k.here ra h.2 ⟨b,ys,rfl,i,d⟩
  .subst z
   obtain rfl:=ah.zV d;exact k.here ra h.2 ⟨a,xs,rfl,g,by rw[append_nil];exact c⟩
 .rename_i r q
  unfold nW at h;split at h
  .rename_i xs ys g i
   obtain⟨l,h1,c⟩:=ra.lst g;obtain⟨vs,h2,d⟩:=ra.lst i;obtain⟨_,rfl⟩:=e;obtain⟨_,rfl⟩:=f;exact .inr (.inr (.inr ⟨_,_,l,vs,rfl,rfl,h1,h2,by rw[<-ah.length c,<-ah.length d];exact h.1,λp j=>kI k ra (c.app d) h.2 j⟩))
  .exact h.elim
 .exact h.elim
def intD(C:Int->Int->Prop)(g:Int->Int->D):cO:=λx y A R=>match x,y with
 |.int i,.int j=>C i j/\R (g i j) A
 |_,_=>False
def oQ(g:Int->Int->D):cO:=λx y A R=>match x,y with
 |.int i,.int j=>R (g i j) A
 |_,_=>False
theorem nY{mg:aj}{C:Int->Int->Prop}{g:Int->Int->V}{g':Int->Int->D}(a:∀i j ι n H,RV mg ι n H (g' i j) (g i j)):cF mg (rI C g) (intD C g'):=by
 intro x y A ι H u v R Q ra b c h k;unfold intD at h;split at h
 .cases b;cases c
  exact⟨_,_,rfl,rfl,h.1,k.here ra h.2 (a _ _ _ _ _)⟩
 .exact h.elim
theorem xw{mg:aj}{g:Int->Int->V}{g':Int->Int->D}(a:∀i j ι n H,RV mg ι n H (g' i j) (g i j)):cF mg (gi g) (oQ g'):=by
 intro x y A ι H u v R Q ra b c h k;unfold oQ at h;split at h
 .cases b;cases c
  exact⟨_,_,rfl,rfl,k.here ra h (a _ _ _ _ _)⟩
 .exact h.elim
abbrev Nu:cO:=oQ λi j=>.int (i - j)
abbrev JC:cO:=intD nD λi j=>.int (i*j)
abbrev xR:cO:=intD (λ_ j=>0<j/\j.natAbs.log2<9000) λi j=>.int (i/j)
abbrev zM:cO:=intD (λ_ j=>0<j) λi j=>.int (i%j)
section
variable{X:Cx}{N:En}{pos:Pos}{a b c:Expr}{ma mb mc:aC}
theorem cU(ha:PE X a (up X.mg N ma))(hb:PE X b (up X.mg N mb)):PE X (.BinOp a .Add b pos) (up X.mg N (b9 lG ma mb)):=j8 JX EK ha hb
theorem su(ha:PE X a (up X.mg N ma))(hb:PE X b (up X.mg N mb)):PE X (.BinOp a .Sub b pos) (up X.mg N (b9 Nu ma mb)):=j8 Kz (xw λ_ _ _ _ _=>rfl) ha hb
theorem fL(ha:PE X a (up X.mg N ma))(hb:PE X b (up X.mg N mb)):PE X (.BinOp a .Mult b pos) (up X.mg N (b9 JC ma mb)):=j8 Kr (nY λ_ _ _ _ _=>rfl) ha hb
theorem iY(ha:PE X a (up X.mg N ma))(hb:PE X b (up X.mg N mb)):PE X (.BinOp a .FloorDiv b pos) (up X.mg N (b9 xR ma mb)):=j8 Kg (nY λ_ _ _ _ _=>rfl) ha hb
theorem jv(ha:PE X a (up X.mg N ma))(hb:PE X b (up X.mg N mb)):PE X (.BinOp a .Mod b pos) (up X.mg N (b9 zM ma mb)):=j8 Kq (nY λ_ _ _ _ _=>rfl) ha hb
def EE(m:aC):aC:=λτ A R=>m τ A λx A1=>match x with
 |.int i=>R (.int (-i)) A1
 |_=>False
theorem Fc(ha:PE X a (up X.mg N ma)):PE X (.UnaryOp .USub a pos) (up X.mg N (EE ma)):=c7 (K7 OE ha) λσ H Q q=>by
 obtain⟨A,ι,τ,R,S,q,k⟩:=q;refine⟨A,ι,τ,_,S,q,λx g c H1 u b d e f=>?_⟩;cases x with
 |int i=>cases f;exact⟨i,rfl,(k.from d).here e b rfl⟩
 |_=>exact b.elim
end
abbrev AJ:R2:=λx y H Q=>gi (λi j=>.bl (decide (i<j))) x y H Q\/∃i j,x=.str i/\y=.str j/\Q (.bl (decide (i.cps.toList<j.cps.toList))) H
abbrev AI:R2:=λx y H Q=>gi (λi j=>.bl (decide (i<=j))) x y H Q\/∃i j,x=.str i/\y=.str j/\Q (.bl (!decide (j.cps.toList<i.cps.toList))) H
theorem JZ{X:Cx}:aX X (compareOp .Lt) AJ:=Ko.or Kp
theorem pL{X:Cx}:aX X (compareOp .LtE) AI:=Km.or Kn
def tS:cO:=λx y A R=>match x,y with
 |.int i,.int j=>R (.bl (decide (i<j))) A
 |.str a,.str b=>R (.bl (decide (a.cps.toList<b.cps.toList))) A
 |_,_=>False
def kD:cO:=λx y A R=>match x,y with
 |.int i,.int j=>R (.bl (decide (i<=j))) A
 |.str a,.str b=>R (.bl (!decide (b.cps.toList<a.cps.toList))) A
 |_,_=>False
theorem EX{mg:aj}:cF mg AJ tS:=by
 intro x y A ι H u v R Q ra a b h k;unfold tS at h;split at h
 .cases a;cases b;exact .inl ⟨_,_,rfl,rfl,k.here ra h rfl⟩
 .cases a;cases b;exact .inr ⟨_,_,rfl,rfl,k.here ra h rfl⟩
 .exact h.elim
theorem nZ{mg:aj}:cF mg AI kD:=by
 intro x y A ι H u v R Q ra a b h k;unfold kD at h;split at h
 .cases a;cases b;exact .inl ⟨_,_,rfl,rfl,k.here ra h rfl⟩
 .cases a;cases b;exact .inr ⟨_,_,rfl,rfl,k.here ra h rfl⟩
 .exact h.elim
abbrev yS:cO:=oQ λi j=>.bl (decide (j<i))
theorem EO{mg:aj}:cF mg (gi λi j=>.bl (decide (j<i))) yS:=xw λ_ _ _ _ _=>rfl
def jB:D->Bool
 |.ao=>true
 |_=>false
def s_:cO:=λx y A R=>match y with
 |.ao=>R (.bl (jB x)) A
 |_=>False
def pJ:cO:=λx y A R=>match y with
 |.ao=>R (.bl (!jB x)) A
 |_=>False
theorem RV.zZ{mg:aj}{ι:Io}{n:Nat}{H:Hp}{x:D}{u:V}(r:RV mg ι n H x u):decide (u=.ao)=jB x:=by
 cases x with
 |ao=>cases r;rfl
 |bl b=>cases r;rfl
 |int b=>cases r;rfl
 |str b=>cases r;rfl
 |tup ds=>obtain⟨a,xs,rfl,_⟩:=r;rfl
 |ref q=>obtain⟨_,rfl⟩:=r;rfl
 |fl ns=>obtain⟨a,o,rfl,_⟩:=r;rfl
 |exc c=>obtain⟨a,C,rfl,_⟩:=r;rfl
theorem EV{mg:aj}:cF mg (λx y H Q=>y=.ao/\Q (.bl (decide (x=.ao))) H) s_:=by
 intro x y A ι H u v R Q ra a b h k;unfold s_ at h;split at h
 .cases b
  refine⟨rfl,?_⟩;rw[a.zZ];exact k.here ra h rfl
 .exact h.elim
theorem xx{mg:aj}:cF mg (λx y H Q=>y=.ao/\Q (.bl (!decide (x=.ao))) H) pJ:=by
 intro x y A ι H u v R Q ra a b h k;unfold pJ at h;split at h
 .cases b
  refine⟨rfl,?_⟩;rw[a.zZ];exact k.here ra h rfl
 .exact h.elim
mutual
def toQ:D->PyData
 |.ao=>.none
 |.bl b=>.bool b
 |.int i=>.int i
 |.str x=>.str x
 |.tup xs=>.tuple (bu xs)
 |.ref _=>.none
 |.fl ns=>.list (ns.map .int)
 |.exc _=>.none
def bu:List D->List PyData
 |[]=>[]
 |d::r=>toQ d::bu r
end
mutual
def eH:D->Bool
 |.tup xs=>gR xs
 |.ref _=>false
 |.exc _=>false
 |_=>true
def gR:List D->Bool
 |[]=>true
 |d::r=>eH d&&gR r
end
def cV(A:Ar):D->PyData
 |.ref r=>match A[r]? with
  |some (.lst xs)=>.list (bu xs)
  |_=>.none
 |d=>toQ d
def ji(A:Ar):D->Bool
 |.ref r=>match A[r]? with
  |some (.lst xs)=>gR xs
  |_=>false
 |d=>eH d
section
variable{mg:aj}{K:PySem.W.Frag}{A:Ar}{ι:Io}{H:Hp}
theorem Ft:∀ns:List Int,ef K H (ns.map V.int) (ns.map PyData.int):=ef.ints
mutual
theorem RV.dp{n:Nat}:∀(d:D) (v:V),eH d=true->RV mg ι n H d v->Dp K H v (toQ d)
 |.ao,_,_,h=>by cases h;exact .ao
 |.bl b,_,_,h=>by cases h;exact .bl b
 |.int i,_,_,h=>by cases h;exact .int i
 |.str x,_,_,h=>by cases h;exact .str x
 |.tup ds,v,p,h=>by
  obtain⟨a,xs,rfl,e,r⟩:=h;exact .tup (bq.of e) (ah.dp ds xs (by simpa[eH] using p) r)
 |.ref _,_,p,_=>by simp[eH] at p
 |.fl ns,v,_,h=>by
  obtain⟨a,o,rfl,e⟩:=h;exact .lst (.inl (.inr ⟨o,e⟩)) (Ft ns)
 |.exc _,_,p,_=>by simp[eH] at p
theorem ah.dp{n:Nat}:∀(ds:List D) (vs:List V),gR ds=true->ah mg ι n H ds vs->ef K H vs (bu ds)
 |[],vs,_,h=>by cases (show vs=[] from h);exact .nil
 |d::ds,vs,p,h=>by
  obtain⟨x,r,rfl,h1,h2⟩:=h;have a:eH d=true/\gR ds=true:=by simpa[gR] using p
  exact .cons (RV.dp d x a.1 h1) (ah.dp ds r a.2 h2)
end
theorem RA.dp(ra:RA mg ι H A){d:D}{v:V}(p:ji A d=true)(h:RV mg ι A.length H d v):Dp K H v (cV A d):=by
 cases d with
 |ref r=>
  obtain⟨_,rfl⟩:=h;unfold ji at p;unfold cV;simp only at p ⊢;split at p
  .rename_i xs e
   obtain⟨a,h1,b⟩:=ra.lst e;exact .lst (aO.of h1) (ah.dp xs a p b)
  .cases p
 |_=>exact RV.dp _ v p h
end
@[irreducible] def fJ(neg:Bool)(x y:D)(A:Ar)(R:DK):Prop:=ji A x=true/\ji A y=true/\(cV A x).canLay0=true/\(cV A y).canLay0=true/\min (cV A x).depth (cV A y).depth<=64/\R (.bl (if neg then !PyData.eqv (cV A x) (cV A y) else PyData.eqv (cV A x) (cV A y))) A
def ow:cO:=λx y A R=>match x,y with
 |.int i,.int j=>R (.bl (decide (i=j))) A
 |.str a,.str b=>R (.bl (decide (a=b))) A
 |.bl a,.bl b=>R (.bl (decide (a=b))) A
 |x,y=>fJ false x y A R
def uc:cO:=λx y A R=>match x,y with
 |.int i,.int j=>R (.bl (!decide (i=j))) A
 |.str a,.str b=>R (.bl (!decide (a=b))) A
 |.bl a,.bl b=>R (.bl (!decide (a=b))) A
 |x,y=>fJ true x y A R
theorem z4{X:Cx}(a:X.A.units+64<cLine):aX X (compareOp .Eq) (λx y H Q=>uA x y H Q\/uB X.K x y H Q):=Ke.or (Kf a)
theorem J1{X:Cx}(a:X.A.units+64<cLine):aX X (compareOp .NotEq) (λx y H Q=>uC x y H Q\/uD X.K x y H Q):=Ku.or (Kv a)
theorem xr{mg:aj}{K:PySem.W.Frag}:cF mg (λx y H Q=>uA x y H Q\/uB K x y H Q) ow:=by
 intro x y A ι H u v R Q ra a b h k;unfold ow at h;split at h
 .cases a;cases b
  rename_i i j;refine .inl ⟨rfl,?_⟩;have e:decide (V.int i=V.int j)=decide (i=j):=by simp
  rw[e];exact k.here ra h rfl
 .cases a;cases b
  rename_i i j;refine .inl ⟨rfl,?_⟩;have e:decide (V.str i=V.str j)=decide (i=j):=by simp
  rw[e];exact k.here ra h rfl
 .cases a;cases b
  rename_i i j;refine .inl ⟨rfl,?_⟩;have e:decide (V.bl i=V.bl j)=decide (i=j):=by simp
  rw[e];exact k.here ra h rfl
 .unfold fJ at h
  obtain⟨p1,p2,c,d,hd,q⟩:=h;exact .inr ⟨_,_,ra.dp p1 a,ra.dp p2 b,c,d,hd,k.here ra q rfl⟩
theorem EZ{mg:aj}{K:PySem.W.Frag}:cF mg (λx y H Q=>uC x y H Q\/uD K x y H Q) uc:=by
 intro x y A ι H u v R Q ra a b h k;unfold uc at h;split at h
 .cases a;cases b
  rename_i i j;refine .inl ⟨rfl,?_⟩;have e:decide (V.int i=V.int j)=decide (i=j):=by simp
  rw[e];exact k.here ra h rfl
 .cases a;cases b
  rename_i i j;refine .inl ⟨rfl,?_⟩;have e:decide (V.str i=V.str j)=decide (i=j):=by simp
  rw[e];exact k.here ra h rfl
 .cases a;cases b
  rename_i i j;refine .inl ⟨rfl,?_⟩;have e:decide (V.bl i=V.bl j)=decide (i=j):=by simp
  rw[e];exact k.here ra h rfl
 .unfold fJ at h
  obtain⟨p1,p2,c,d,hd,q⟩:=h;exact .inr ⟨_,_,ra.dp p1 a,ra.dp p2 b,c,d,hd,k.here ra q rfl⟩
def dQ:D->Option Key
 |.int i=>some (.inl i)
 |.str x=>some (.inr x)
 |_=>none
def aN:List (Key×D)->Key->Option D
 |[],_=>none
 |p::r,k=>if p.1=k then some p.2 else aN r k
@[irreducible] def iO(r:Nat)(y:D)(A:Ar)(R:DK):Prop:=match A[r]? with
 |some (.lst xs)=>(match y with
  |.int i=>(match bJ xs i with
   |some v=>R v A
   |none=>False)
  |_=>False)
 |some (.dct kvs)=>(match dQ y with
  |some k=>(match aN kvs k with
   |some v=>R v A
   |none=>False)
  |none=>False)
 |some (.bf _ kvs)=>(match dQ y with
  |some k=>(match aN kvs k with
   |some v=>R v A
   |none=>False)
  |none=>False)
 |_=>False
def jC:cO:=λx y A R=>match x,y with
 |.tup xs,.int i=>match bJ xs i with
  |some v=>R v A
  |none=>False
 |.str z,.int i=>match bJ z.cps.toList i with
  |some c=>z.length<=sizeLine/\R (.str ⟨#[c]⟩) A
  |none=>False
 |.fl ns,.int i=>match bJ ns i with
  |some c=>R (.int c) A
  |none=>False
 |.ref r,y=>iO r y A R
 |_,_=>False
section
variable{mg:aj}{K:PySem.W.Frag}{A:Ar}{ι:Io}{H:Hp}
theorem ah.bJ{n:Nat}{ds:List D}{vs:List V}{i:Int}{d:D}(r:ah mg ι n H ds vs)(h:L2.bJ ds i=some d):∃v,L2.bJ vs i=some v/\RV mg ι n H d v:=by
 unfold L2.bJ at h ⊢;rw[<-ah.length r];cases q:gM ds.length i with
 |none=>rw[q] at h;cases h
 |some j=>
  rw[q] at h;exact ah.get r h
theorem DQ{α β:Type}(f:α->β)(xs:List α)(i:Int):L2.bJ (xs.map f) i=(L2.bJ xs i).map f:=by
 unfold L2.bJ;rw[length_map];cases gM xs.length i with
 |none=>rfl
 |some j=>simp
theorem RK.get{n:Nat}:∀{kvs:List (Key×D)} {xs:List (Key×V)} {k:Key},RK mg ι n H kvs xs->(∀d,aN kvs k=some d->∃v,cX xs k=some v/\RV mg ι n H d v)/\(aN kvs k=none->cX xs k=none)
 |[],xs,k,h=>by
  cases (show xs=[] from h);exact⟨λd e=>by simp[aN] at e,λ_=>rfl⟩
 |p::r,xs,k,h=>by
  obtain⟨x,r',rfl,h1,h2⟩:=h;obtain⟨b,c⟩:=RK.get (k:=k) h2;unfold aN;by_cases a:p.1=k
  .rw[if_pos a]
   have e:cX ((p.1,x)::r') k=some x:=by simp[cX,a]
   rw[e];exact⟨λd z=>by cases z;exact⟨x,rfl,h1⟩,λz=>by cases z⟩
  .rw[if_neg a]
   have e:cX ((p.1,x)::r') k=cX r' k:=by simp[cX,find?_cons,a]
   rw[e];exact⟨b,c⟩
theorem jE{n:Nat}{y:D}{v:V}{k:Key}(h:dQ y=some k)(r:RV mg ι n H y v):v=kV k:=by
 cases y with
 |int i=>cases h;exact r
 |str x=>cases h;exact r
 |_=>cases h
end
def AE:R2:=λx y H Q=>∃a v,x=.ref a/\jR H a y (some v)/\Q v H
theorem Ig{X:Cx}(i:X.A.units+64<cLine):gw X AE:=by
 intro value slice pins s σ H x y v u Q I c d h e;obtain⟨a,z,rfl,g,q⟩:=h;cases c;exact tail_any (Fq I g) PySem.F.slot_dict_getitem.lookup (EN (by omega) I g d λj k f b=>⟨z,H,f,b,q⟩) e
abbrev AD(K:PySem.W.Frag):R2:=λx y H Q=>AB K x y H Q\/AE x y H Q
theorem HS{X:Cx}(a:X.A.units+64<cLine):gw X (AD X.K):=Ii.or (Ig a)
theorem EW{mg:aj}{K:PySem.W.Frag}:cF mg (AD K) jC:=by
 intro x y A ι H u v R Q ra i f h k;unfold jC at h;split at h
 .obtain⟨a,xs,rfl,j,b⟩:=i
  cases f;split at h
  .rename_i d e
   obtain⟨z,hz,c⟩:=b.bJ e;exact .inl (.inr (.inl ⟨a,xs,_,z,rfl,rfl,bq.of j,hz,k.here ra h c⟩))
  .exact h.elim
 .cases i;cases f
  split at h
  .rename_i d e
   exact .inl (.inr (.inr ⟨_,_,_,rfl,rfl,h.1,e,k.here ra h.2 rfl⟩))
  .exact h.elim
 .obtain⟨a,o,rfl,j⟩:=i
  cases f;split at h
  .rename_i d e
   exact .inl (.inl ⟨a,_,_,_,rfl,rfl,.inl (.inr ⟨o,j⟩),by rw[DQ,e];rfl,k.here ra h rfl⟩)
  .exact h.elim
 .obtain⟨_,rfl⟩:=i
  unfold iO at h;split at h
  .rename_i xs e
   obtain⟨g,h1,b⟩:=ra.lst e;split at h
   .cases f
    split at h
    .rename_i d e
     obtain⟨z,hz,c⟩:=b.bJ e;exact .inl (.inl ⟨_,g,_,z,rfl,rfl,aO.of h1,hz,k.here ra h c⟩)
    .exact h.elim
   .exact h.elim
  .rename_i kvs e
   obtain⟨g,h1,b⟩:=ra.dct e;split at h
   .rename_i l m
    cases jE m f;split at h
    .rename_i d n
     obtain⟨z,hz,c⟩:=(RK.get b).1 d n;exact .inr ⟨_,z,rfl,.inl ⟨g,l,.inl h1,rfl,hz.symm⟩,k.here ra h c⟩
    .exact h.elim
   .exact h.elim
  .rename_i o kvs e
   obtain⟨g,h1,b⟩:=ra.bf e;split at h
   .rename_i l m
    cases jE m f;split at h
    .rename_i d n
     obtain⟨z,hz,c⟩:=(RK.get b).1 d n;exact .inr ⟨_,z,rfl,.inl ⟨g,l,.inr ⟨o,h1⟩,rfl,hz.symm⟩,k.here ra h c⟩
    .exact h.elim
   .exact h.elim
  .exact h.elim
 .exact h.elim
theorem E_{X:Cx}{N:En}{pos:Pos}{a b:Expr}{ma mb:aC}(c:X.A.units+64<cLine)(ha:PE X a (up X.mg N ma))(hb:PE X b (up X.mg N mb))(d:q8 b):PE X (.Subscript a b pos) (up X.mg N (b9 jC ma mb)):=
 c7 (KY (HS c) ha hb d) λ_ _ _ h=>qG EW h
structure jj where
 nx:bx->Ar->Prop
 rt:DK
 bk:bx->Ar->Prop:=λ_ _=>False
 ct:bx->Ar->Prop:=λ_ _=>False
abbrev cB:=jj->bx->Ar->Prop
def gY(mg:aj)(A:Ar)(ι:Io)(H:Hp)(R:bx->Ar->Prop)(Q:L2.St->Hp->Prop):Prop:=∀τ A' ι' σ H',R τ A'->Ext A ι H A' ι' H'->RA mg ι' H' A'->RS mg ι' A'.length H' τ σ->Q σ H'
structure nJ(mg:aj)(A:Ar)(ι:Io)(H:Hp)(R:jj)(Q:Ends):Prop where
 nx:gY mg A ι H R.nx Q.nx
 rt:Kt mg A ι H R.rt Q.rt
 bk:gY mg A ι H R.bk Q.bk
 ct:gY mg A ι H R.ct Q.ct
def cj(mg:aj)(N:En)(m:cB):TS:=λQ σ H=>∃A ι τ R,cC mg N A ι τ σ H/\m R τ A/\nJ mg A ι H R Q
section
variable{mg:aj}{N:En}{A A':Ar}{ι ι':Io}{τ bU:bx}{σ σ':L2.St}{H H':Hp}
theorem gY.from{R:bx->Ar->Prop}{Q:L2.St->Hp->Prop}(k:gY mg A ι H R Q)(e:Ext A ι H A' ι' H'):gY mg A' ι' H' R Q:=λτ b a σ H2 q c=>k τ b a σ H2 q (e.trans c)
theorem nJ.from{R:jj}{Q:Ends}(k:nJ mg A ι H R Q)(e:Ext A ι H A' ι' H'):nJ mg A' ι' H' R Q:=⟨k.nx.from e,k.rt.from e,k.bk.from e,k.ct.from e⟩
theorem gY.here{R:bx->Ar->Prop}{Q:L2.St->Hp->Prop}(k:gY mg A ι H R Q)(S:cC mg N A ι τ σ H)(q:R τ A):Q σ H:=k τ A ι σ H q S.ra.refl S.ra S.rs
theorem cC.to(S:cC mg N A ι τ σ H)(e:Ext A ι H A' ι' H')(r:RA mg ι' H' A')(s:RS mg ι' A'.length H' bU σ'):cC mg N A' ι' bU σ' H':=⟨r,s,S.ex.trans e⟩
theorem zB:∀(τ:bx) (i:Nat) (d:D),i<τ.length->lk (τ.set i (some d)) i=some d
 |[],i,d,h=>by simp at h
 |x::r,0,d,_=>rfl
 |x::r,i+1,d,h=>zB r i d (by simpa using h)
theorem zA:∀(τ:bx) (i j:Nat) (d:Option D),j≠i->lk (τ.set i d) j=lk τ j
 |[],i,j,d,_=>rfl
 |x::r,0,0,d,h=>absurd rfl h
 |x::r,0,j+1,d,_=>rfl
 |x::r,i+1,0,d,_=>rfl
 |x::r,i+1,j+1,d,h=>zA r i j d (by omega)
theorem RS.set{n:Nat}{i:Nat}{d:D}{v:V}(r:RS mg ι n H τ σ)(h:RV mg ι n H d v):RS mg ι n H (τ.set i (some d)) (σ.set i (some v)):=⟨by simp[r.len],λj e q=>by
 by_cases a:j=i
 .subst a
  by_cases b:j<τ.length
  .rw[zB _ _ _ b] at q
   cases q;refine⟨v,?_,h⟩;rw[getElem?_set_self (by rw[<-r.len];exact b)]
  .rw[List.set_eq_of_length_le (by omega)] at q
   rw[oZ,getElem?_eq_none (by omega)] at q;cases q
 .rw[zA _ _ _ _ a] at q
  obtain⟨w,h1,h2⟩:=r.at' j e q;exact⟨w,by rw[getElem?_set_ne (Ne.symm a)];exact h1,h2⟩⟩
theorem cC.set{i:Nat}{d:D}{v:V}(S:cC mg N A ι τ σ H)(h:RV mg ι A.length H d v):cC mg N A ι (τ.set i (some d)) (σ.set i (some v)) H:=⟨S.ra,S.rs.set h,S.ex⟩
end
def Bb:cB:=λR τ A=>R.nx τ A
def qt(t u:cB):cB:=λR τ A=>t {R with nx:=u R} τ A
def qq(m:aC):cB:=λR τ A=>m τ A λ_ A1=>R.nx τ A1
def Bc(m:aC):cB:=λR τ A=>m τ A R.rt
def Ba(c:dN)(t u:cB):cB:=λR τ A=>c τ A λb A1=>cond b (t R τ A1) (u R τ A1)
section
variable{X:Cx}{N:En}{pos:Pos}{st:Stmt}{rest:List Stmt}{t u:cB}{e:Expr}{m:aC}
theorem bR:cG X [] (cj X.mg N Bb):=xZ LH λQ σ H q=>by
 obtain⟨A,ι,τ,R,S,q,k⟩:=q;exact k.nx.here S q
theorem ay(h1:PS X st (cj X.mg N t))(h2:cG X rest (cj X.mg N u)):cG X (st::rest) (cj X.mg N (qt t u)):=xZ (LG h1 h2) λQ σ H q=>by
 obtain⟨A,ι,τ,R,S,q,k⟩:=q;exact⟨A,ι,τ,_,S,q,⟨λa d b e H1 f c g h=>⟨d,b,a,R,S.to c g h,f,k.from c⟩,k.rt,k.bk,k.ct⟩⟩
theorem aB(h1:PS X st (cj X.mg N t)):cG X [st] (cj X.mg N t):=LI h1
theorem fY(b:PE X e (up X.mg N m))(c:swapsWith e none pos.line X.env=pure false:=by rfl):PS X (.Expr e pos) (cj X.mg N (qq m)):=fZ (Lx b c) λQ σ H q=>by
 obtain⟨A,ι,τ,R,S,q,k⟩:=q;exact⟨A,ι,τ,_,S,q,λv h d H1 u f a g i=>(k.nx.from a).here (S.next a g) f⟩
theorem aP(a:PE X e (up X.mg N m)):PS X (.Return (some e) pos) (cj X.mg N (Bc m)):=fZ (LC a) λQ σ H q=>by
 obtain⟨A,ι,τ,R,S,q,k⟩:=q;exact⟨A,ι,τ,_,S,q,k.rt⟩
theorem bO{c:Expr}{a b:List Stmt}{tc:dN}(hc:PT X c (cz X.mg N tc))(ha:cG X a (cj X.mg N t))(hb:cG X b (cj X.mg N u)):PS X (.If c a b pos) (cj X.mg N (Ba tc t u)):=fZ (Lz hc ha hb) λQ σ H q=>by
 obtain⟨A,ι,τ,R,S,q,k⟩:=q;refine⟨A,ι,τ,_,S,q,λx f d H1 g e h=>?_⟩;cases x with
 |true=>rw[if_pos rfl];exact⟨f,d,τ,R,S.next e h,g,k.from e⟩
 |false=>rw[if_neg Bool.false_ne_true];exact⟨f,d,τ,R,S.next e h,g,k.from e⟩
end
abbrev gU:=D->bx->Ar->(bx->Ar->Prop)->Prop
abbrev jS:=List D->bx->Ar->(bx->Ar->Prop)->Prop
def jO(mg:aj)(N:En)(g:gU):TG:=λv σ H Q=>∃A ι τ d R,cC mg N A ι τ σ H/\RV mg ι A.length H d v/\g d τ A R/\gY mg A ι H R Q
def qE(mg:aj)(N:En)(g:jS):ia:=λvs σ H Q=>∃A ι τ ds R,cC mg N A ι τ σ H/\ah mg ι A.length H ds vs/\g ds τ A R/\gY mg A ι H R Q
def gN(i:Nat):gU:=λd τ A R=>R (τ.set i (some d)) A
def yQ:jS:=λds τ A R=>match ds with
 |[]=>R τ A
 |_=>False
def G5(g:gU)(h:jS):jS:=λds τ A R=>match ds with
 |d::r=>g d τ A λvf A1=>h r vf A1 R
 |[]=>False
def gT(n:Nat)(g:jS):gU:=λd τ A R=>match d with
 |.tup ds=>ds.length=n/\g ds τ A R
 |_=>False
def AY(m:aC)(g:gU):cB:=λR τ A=>m τ A λv A1=>g v τ A1 R.nx
section
variable{X:Cx}{N:En}{pos:Pos}{e tg:Expr}{es:List Expr}{m:aC}{g:gU}{gs:jS}
theorem xO{t t':TG}(h:PG X tg t)(w:∀v σ H Q,t' v σ H Q->t v σ H Q):PG X tg t':=λpins s σ H v u Q I r q=>h pins s σ H v u Q I r (w v σ H Q q)
theorem xP{t t':ia}(h:gZ X es t)(w:∀v σ H Q,t' v σ H Q->t v σ H Q):gZ X es t':=λpins s σ H v u Q I r q=>h pins s σ H v u Q I r (w v σ H Q q)
theorem Fj{i:Nat}{x:Str}(a:X.N.Nodup)(hi:X.N[i]?=some x)(b:Loc X.env.scope x)(c:X.fn x=true\/X.env.scope.names.lookup x=some .local:=by first|exact .inl rfl|exact .inr rfl|assumption):PG X (.Name x pos) (jO X.mg N (gN i)):=
 xO (Ai a hi b c) λv σ H Q q=>by
  obtain⟨A,ι,τ,d,R,S,r,q,k⟩:=q;exact k.here (S.set r) q
theorem lV:gZ X [] (qE X.mg N yQ):=xP mW λv σ H Q q=>by
 obtain⟨A,ι,τ,ds,R,S,r,q,k⟩:=q;unfold yQ at q;split at q
 .exact⟨r,k.here S q⟩
 .exact q.elim
theorem fX(h1:PG X e (jO X.mg N g))(h2:gZ X es (qE X.mg N gs))(f:(assignEach (e::es) X.env).map (·.2)=assign e X.env::(assignEach es X.env).map (·.2):=by rfl):gZ X (e::es) (qE X.mg N (G5 g gs)):=
 xP (gh h1 h2 f) λv σ H Q q=>by
  obtain⟨A,ι,τ,ds,R,S,r,q,k⟩:=q;cases ds with
  |nil=>exact q.elim
  |cons d ds=>
   obtain⟨x,xs,rfl,h,i⟩:=r;refine⟨x,xs,rfl,A,ι,τ,d,_,S,h,q,λa j b l H1 m c a1 n=>?_⟩;exact⟨j,b,a,ds,R,S.to c a1 n,ah.ext c ds xs i,m,k.from c⟩
theorem lU{k n:Nat}(hc:X.calm=true)(h:gZ X es (qE X.mg N gs))(c:(assignEach es X.env).length=n:=by rfl)(b:(assignEach es X.env).findIdx? (·.1)=none:=by rfl):PG X (.Tuple es k pos) (jO X.mg N (gT n gs)):=
 xO (mV hc h c b) λv σ H Q q=>by
  obtain⟨A,ι,τ,d,R,S,r,q,k⟩:=q;cases d with
  |tup ds=>
   obtain⟨a,xs,rfl,h1,h2⟩:=r;exact⟨a,xs,rfl,bq.of h1,by rw[<-ah.length h2];exact q.1,A,ι,τ,ds,R,S,h2,q.2,k⟩
  |_=>exact q.elim
theorem OG{te:TE}{σ:L2.St}{H:Hp}{Q:Ends}(c:∀σ H Q,up X.mg N m σ H Q->te σ H Q)(q:cj X.mg N (AY m g) Q σ H):qz te (jO X.mg N g) Q σ H:=by
 obtain⟨A,ι,τ,R,S,q,k⟩:=q;exact c _ _ _ ⟨A,ι,τ,_,S,q,λv d a H1 u e b f h=>⟨d,a,τ,v,_,S.next b f,h,e,k.nx.from b⟩⟩
theorem Fv(a:PE X e (up X.mg N m))(b:PG X tg (jO X.mg N g))(c:swapsWithSole [tg] e pos.line X.env=pure false:=by rfl)(d:swappedStores [tg] e X.env=pure none:=by rfl)
 (h1:(assignEach [tg] X.env).map (·.2)=[assign tg X.env]:=by rfl):PS X (.Assign [tg] e pos) (cj X.mg N (AY m g)):=fZ (Ls a b c d h1) λ_ _ _ q=>OG (λ_ _ _ h=>h) q
def qu(i:Nat)(m:aC):cB:=λR τ A=>m τ A λv A1=>R.nx (τ.set i (some v)) A1
theorem Fy{i:Nat}{x:Str}{pos':Pos}(b:X.N.Nodup)(hi:X.N[i]?=some x)(c:Loc X.env.scope x)(d:PE X e (up X.mg N m))(f:swapsWith e (some (.Name x pos')) pos.line X.env=pure false:=by rfl)(g:X.fn x=true\/X.env.scope.names.lookup x=some .local:=by first|exact .inl rfl|exact .inr rfl|assumption):
  PS X (.Assign [.Name x pos'] e pos) (cj X.mg N (qu i m)):=fZ (LD b hi c d f g) λQ σ H q=>by
 obtain⟨A,ι,τ,R,S,q,k⟩:=q;exact⟨A,ι,τ,_,S,q,λv o h H1 u j a l n=>(k.nx.from a).here ((S.next a l).set n) j⟩
def Mk(i j:Nat)(n:bZ):cB:=λR τ A=>n τ A λvs A1=>match vs with
 |[v,w]=>R.nx ((τ.set i (some v)).set j (some w)) A1
 |_=>False
theorem xX{i j:Nat}{x y:Str}{a b:Expr}{n:bZ}{px py pt:Pos}{kt k2 d}(hc:X.calm=true)(h:X.N.Nodup)(hi:X.N[i]? =some x)(l:X.N[j]? =some y)(e:i≠j)
  (m:X.env.scope.names.lookup x=some .local)(o:X.env.scope.names.lookup y=some .local)(ha:PA X [a,b] (dW X.mg N n))
  (p:swappedStores [.Tuple [.Name x px,.Name y py] kt pt] (.Tuple [a,b] k2 d) X.env=pure (some [x,y]))
  (r:swapsWithSole [.Tuple [.Name x px,.Name y py] kt pt] (.Tuple [a,b] k2 d) pos.line X.env=pure false:=by rfl):
  PS X (.Assign [.Tuple [.Name x px,.Name y py] kt pt] (.Tuple [a,b] k2 d) pos) (cj X.mg N (Mk i j n)):=fZ (LA hc h hi l e m o ha p r) λQ σ H q=>by
 obtain⟨A,ι,τ,R,S,q,k⟩:=q
 refine⟨A,ι,τ,_,S,q,λvs C s H1 D c g t f=> ?_⟩
 match vs,c,f with
 |[v,w],c,f=>
  obtain⟨u,_,rfl,h1,z,_,rfl,h2,B⟩:=f
  obtain rfl:=B
  exact⟨u,z,rfl,(k.nx.from g).here (((S.next g t).set h1).set h2) c⟩
 |[],c,_=>exact c.elim
 |[_],c,_=>exact c.elim
 |_::_::_::_,c,_=>exact c.elim
end
abbrev DX:=Str->Ar->Prop
abbrev Ct:=List D->Ar->DK->DX->Prop
def DA(mg:aj)(A:Ar)(ι:Io)(H:Hp)(R:DX)(E:XK):Prop:=∀c A' ι' H' C,R c A'->mg c=some (.ref C)->Ext A ι H A' ι' H'->RA mg ι' H' A'->E (.ref C) none H'
def au(mg:aj)(n:Nat)(S:Ct):Sp:=λvs H Q E=>∃A ι ds R RE,ds.length=n/\RA mg ι H A/\ah mg ι A.length H ds vs/\S ds A R RE/\Kt mg A ι H R Q/\DA mg A ι H RE E
def EL(mg:aj)(N:En)(R:DX):XK:=λC _ H'=>∃c A' ι',(∃a,C=.ref a/\mg c=some (.ref a))/\Ext N.A N.ι N.H A' ι' H'/\RA mg ι' H' A'/\R c A'
def lO(n:Nat)(S:Ct)(RE:DX)(m:bZ):aC:=λτ A R=>m τ A λvs A1=>vs.length=n/\S vs A1 R RE
section
variable{X:Cx}{N:En}{k n:Nat}{x:Str}{ps:List Str}{S:Ct}{RE:DX}{e:Expr}{es:List Expr}{m:bZ}{p pos:Pos}
theorem E7(F:av X.prog X.w X.K X.mg X.base k x ps (au X.mg n S))(i:cH k X.A)(j:Passes (br X.prog X.w) X (EL X.mg N RE))(ha:PA X (e::es) (dW X.mg N m))(l:Gl X x:=by rfl)(a:(x==("__debug__":Str))=false:=by decide)
  (o:starEach (e::es) X.env=(false,eval e X.env)::starEach es X.env:=by rfl)(b:(backTo pos (starEach es X.env)).any (·.1)=false:=by rfl):
  PE X (.Call (.Name x p) (e::es) [] pos) (up X.mg N (lO n S RE m)):=c7 (KJ F i j ha l a o b) λσ H Q q=>by
 obtain⟨A,ι,τ,R,Z,q,k⟩:=q;refine⟨A,ι,τ,_,Z,q,λvs r d H1 s g h t u=>?_⟩;show au X.mg n S (s++[]) H1 Q (EL X.mg N RE);rw[append_nil];exact⟨r,d,vs,R,RE,g.1,t,u,g.2,k.from h,λc v f H2 C y hc z B=>⟨c,v,f,⟨C,rfl,hc⟩,(Z.ex.trans h).trans z,B,y⟩⟩
end
def iS(n:Nat)(ds:List D):bx:=ds.map some++replicate n none
theorem tQ:∀(ds:List D) (n i:Nat) (d:D),lk (iS n ds) i=some d->ds[i]?=some d
 |[],n,i,d,h=>by
  rw[oZ] at h;simp[iS,List.getElem?_replicate] at h;split at h<;>simp at h
 |x::r,n,0,d,h=>by simpa[iS,lk] using h
 |x::r,n,i+1,d,h=>by simpa using tQ r n i d h
theorem TopD.ig{P:Program}{w:World}{K:PySem.W.Frag}{mg:aj}{base:Heap}{x:Str}{st:Stmt}{Nm ps:List Str}{k n:Nat}{S:Ct}(T:TopD K mg x st ps)(Sc:a_ Nm ps (aI st))(D:ps.length=n)(Y:ps.length<=Nm.length)
  (g:∀(N:En) (RE:DX) (X:Cx),X.prog=P->X.w=w->X.K=K->X.mg=mg->X.base=base->X.N=Nm->X.calm=true->X.ex=[]->(∃f j A outer s H E,X=b7 (br P w) P w K mg base Nm x (aI st) f j A outer s H E)->cH k X.A->Raises X (EL X.mg N RE)->Passes (br X.prog X.w) X (EL X.mg N RE)->
   ∀ds A R,S ds A R RE->ds.length=n->∃m,cG X (fm st) (cj X.mg N m)/\m {nx:=λ_ A'=>R .ao A',rt:=R} (iS (Nm.length - n) ds) A):av P w K mg base (k+1) x ps (au mg n S):=by
 refine T.fnX Sc (λvs H Q E h=> ?_) λf j A outer s H vs Q E F h=> ?_
 .obtain⟨A,ι,ds,R,RE,t,_,o,_⟩:=h
  rw[<-ah.length o,t,D]
 .obtain⟨p,l,ds,R,RE,t,ra,o,G,y,J⟩:=h
  have B:∀C a H',EL mg ⟨p,l,H⟩ RE C a H'->E C none H':=λC a H' z=>by
   obtain⟨c,A',ι',⟨b,rfl,hc⟩,ex,r,q⟩:=z
   exact J c A' ι' H' b q hc ex r
  obtain⟨m,L,M⟩:=g ⟨p,l,H⟩ RE (b7 (br P w) P w K mg base Nm x (aI st) f j A outer s H E) rfl rfl rfl rfl rfl rfl rfl rfl ⟨_,_,_,_,_,_,_,rfl⟩ F
   (λpins σ H1 u e h' C args I O z=>AM pins σ H1 u e h' C args I O (B _ _ _ z))
   (λpins σ H1 u e s' I z=>Af pins σ H1 u e s' I (by
    obtain⟨a,C,H',h1,h2,U⟩:=z
    exact⟨a,C,H',h1,h2,B _ _ _ U⟩)) ds p R G t
  have V:=ah.length o
  refine⟨_,L,p,l,_,_,⟨ra,⟨?_,λi d q=> ?_⟩,ra.refl⟩,M,⟨λτ A' ι' σ H' q e r _=>y _ A' ι' H' _ q e r rfl,y,λ_ _ _ _ _ q _ _ _=>q.elim,λ_ _ _ _ _ q _ _ _=>q.elim⟩⟩
  .simp[iS,L2.start]
   omega
  .obtain⟨v,h1,h2⟩:=ah.get o (tQ ds _ i d q)
   refine⟨v,?_,h2⟩
   have hi:=(List.getElem?_eq_some_iff.mp h1).1
   unfold L2.start
   rw[getElem?_append_left (by simpa using hi),getElem?_map,h1]
   rfl
abbrev fU:=List D->Ar->DK->Prop
def gq(mg:aj)(r:List V->Hp->VK->Prop)(f:fU):Prop:=∀ds A ι H us R Q,RA mg ι H A->ah mg ι A.length H ds us->f ds A R->Kt mg A ι H R Q->r us H Q
def lQ(f:fU)(m:bZ):aC:=λτ A R=>m τ A λvs A1=>f vs A1 R
section
variable{X:Cx}{N:En}{e:Expr}{es:List Expr}{m:bZ}{p pos:Pos}{f:fU}{r:List V->Hp->VK->Prop}{x:Str}{id T:String}
theorem CN(h:gq X.mg r f){σ:L2.St}{H:Hp}{Q:VK}(q:up X.mg N (lQ f m) σ H Q):uS r (dW X.mg N m) σ H Q:=by
 obtain⟨A,ι,τ,R,S,q,k⟩:=q;exact⟨A,ι,τ,_,S,q,λvs b a H1 c d e g i=>h vs b a H1 c R Q g i d (k.from e)⟩
theorem cZ(hc:c_ X (.builtin id) r)(hd:gq X.mg r f)(c:X.mg x=none)(d:bootBuiltins x=some (.builtin id))(ha:PA X (e::es) (dW X.mg N m))(g:Gl X x:=by rfl)(i:x≠"__name__":=by decide)(a:(x==("__debug__":Str))=false:=by decide)
 (j:starEach (e::es) X.env=(false,eval e X.env)::starEach es X.env:=by rfl)(b:(backTo pos (starEach es X.env)).any (·.1)=false:=by rfl):PE X (.Call (.Name x p) (e::es) [] pos) (up X.mg N (lQ f m)):=c7 (Ah hc g c d ha i a j b) λ_ _ _ h=>CN hd h
theorem iX(hc:c_ X (.type T) r)(hd:gq X.mg r f)(c:X.mg x=none)(d:bootBuiltins x=some (.type T))(ha:PA X (e::es) (dW X.mg N m))(g:Gl X x:=by rfl)(i:x≠"__name__":=by decide)(a:(x==("__debug__":Str))=false:=by decide)
 (j:starEach (e::es) X.env=(false,eval e X.env)::starEach es X.env:=by rfl)(b:(backTo pos (starEach es X.env)).any (·.1)=false:=by rfl):PE X (.Call (.Name x p) (e::es) [] pos) (up X.mg N (lQ f m)):=c7 (KI hc g c d ha i a j b) λ_ _ _ h=>CN hd h
end
@[irreducible] def oY(r:Nat)(A:Ar)(R:DK):Prop:=match A[r]? with
 |some (.lst xs)=>R (.int xs.length) A
 |some (.dct kvs)=>R (.int kvs.length) A
 |_=>False
def oX:fU:=λvs A R=>match vs with
 |[.tup xs]=>R (.int xs.length) A
 |[.str z]=>z.length<=sizeLine/\R (.int z.length) A
 |[.fl ns]=>R (.int ns.length) A
 |[.ref r]=>oY r A R
 |_=>False
theorem RK.length{mg:aj}{ι:Io}{H:Hp}:∀{ds:List (Key×D)} {vs:List (Key×V)} {n:Nat},RK mg ι n H ds vs->ds.length=vs.length
 |[],vs,_,h=>by have h':vs=[]:=h;rw[h'];rfl
 |d::ds,vs,n,h=>by
  obtain⟨x,r,rfl,_,a⟩:=h;simp[RK.length a]
theorem eV{X:Cx}:c_ X (.builtin "len") (λxs H Q=>(∃p ys,xs=[.ref p]/\(aO X.K H p ys\/bq X.K H p ys)/\Q (.int ys.length) H)\/(∃z,xs=[.str z]/\z.length<=sizeLine/\Q (.int z.length) H)\/∃a kvs,xs=[V.ref a]/\H a=some (.dK kvs)/\Q (.int kvs.length) H):=D8.or (D9.or D7)
theorem dY{mg:aj}{K:PySem.W.Frag}:gq mg (λxs H Q=>(∃p ys,xs=[.ref p]/\(aO K H p ys\/bq K H p ys)/\Q (.int ys.length) H)\/(∃z,xs=[.str z]/\z.length<=sizeLine/\Q (.int z.length) H)\/∃a kvs,xs=[V.ref a]/\H a=some (.dK kvs)/\Q (.int kvs.length) H) oX:=by
 intro ds A ι H c R Q ra rs h k;unfold oX at h;split at h
 .obtain⟨_,_,rfl,⟨a,xs,rfl,d,b⟩,rfl⟩:=rs
  exact .inl ⟨a,xs,rfl,.inr (bq.of d),k.here ra h (by rw[ah.length b];rfl)⟩
 .obtain⟨_,_,rfl,rfl,rfl⟩:=rs
  exact .inr (.inl ⟨_,rfl,h.1,k.here ra h.2 rfl⟩)
 .obtain⟨_,_,rfl,⟨a,o,rfl,d⟩,rfl⟩:=rs
  exact .inl ⟨a,_,rfl,.inl (.inl (.inr ⟨o,d⟩)),k.here ra h (by rw[length_map];rfl)⟩
 .obtain⟨_,_,rfl,⟨_,rfl⟩,rfl⟩:=rs
  unfold oY at h;split at h
  .rename_i xs e
   obtain⟨c,h1,b⟩:=ra.lst e;exact .inl ⟨_,c,rfl,.inl (aO.of h1),k.here ra h (by rw[ah.length b];rfl)⟩
  .rename_i xs e
   obtain⟨c,h1,b⟩:=ra.dct e;exact .inr (.inr ⟨_,c,rfl,h1,k.here ra h (by rw[RK.length b];rfl)⟩)
  .exact h.elim
 .exact h.elim
@[irreducible] def Ph(r:Nat)(A:Ar)(R:DK):Prop:=match A[r]? with
 |some (.lst xs)=>R (.ref A.length) (A++[.lst xs])
 |_=>False
@[irreducible] def qD(r:Nat)(A:Ar)(R:DK):Prop:=match A[r]? with
 |some (.lst xs)=>R (.tup xs) A
 |_=>False
def CH:fU:=λvs A R=>match vs with
 |[.tup xs]=>R (.tup xs) A
 |[.ref r]=>qD r A R
 |_=>False
theorem E6{mg:aj}{K:PySem.W.Frag}:gq mg (λxs H Q=>∃p ys,xs=[.ref p]/\((aO K H p ys/\∀l,H l=none->Q (.ref l) (upd H l (.tup ys)))\/(bq K H p ys/\Q (.ref p) H))) CH:=by
 intro ds A ι H c R Q ra rs h k;unfold CH at h;split at h
 .obtain⟨_,_,rfl,⟨a,xs,rfl,d,b⟩,rfl⟩:=rs
  exact⟨a,xs,rfl,.inr ⟨bq.of d,k.here ra h ⟨a,xs,rfl,d,b⟩⟩⟩
 .obtain⟨_,_,rfl,⟨_,rfl⟩,rfl⟩:=rs
  unfold qD at h;split at h
  .rename_i xs e
   obtain⟨c,h1,b⟩:=ra.lst e;exact⟨_,c,rfl,.inl ⟨aO.of h1,λp f=>pB k ra b h f⟩⟩
  .exact h.elim
 .exact h.elim
def gz:List D->Option (List Bool)
 |[]=>some []
 |.bl b::r=>(gz r).map (b::·)
 |_::_=>none
theorem wH{mg:aj}{ι:Io}{n:Nat}{H:Hp}:∀{ds:List D} {a:List V} {bs:List Bool},gz ds=some bs->ah mg ι n H ds a->a=bs.map V.bl
 |[],a,bs,h,r=>by cases h;exact r
 |d::ds,a,bs,h,r=>by
  obtain⟨x,r',rfl,h1,h2⟩:=r;cases d with
  |bl b=>
   cases q:gz ds with
   |none=>simp[gz,q] at h
   |some l=>
    simp[gz,q] at h;subst h;rw[wH q h2];cases h1;rfl
  |_=>simp[gz] at h
@[irreducible] def allR(r:Nat)(A:Ar)(R:DK):Prop:=match A[r]? with
 |some (.lst xs)=>(match gz xs with
  |some bs=>R (.bl (bs.all id)) A
  |none=>False)
 |_=>False
def v_:fU:=λvs A R=>match vs with
 |[.ref r]=>allR r A R
 |_=>False
theorem xq{mg:aj}{K:PySem.W.Frag}:gq mg (λxs H Q=>∃(p:Addr) (bs:List Bool),xs=[.ref p]/\aO K H p (bs.map V.bl)/\Q (.bl (bs.all id)) H) v_:=by
 intro ds A ι H a R Q ra rs h k;unfold v_ at h;split at h
 .obtain⟨_,_,rfl,⟨_,rfl⟩,rfl⟩:=rs
  unfold allR at h;split at h
  .rename_i xs e
   split at h
   .rename_i bs b
    obtain⟨a,h1,c⟩:=ra.lst e;exact⟨_,bs,rfl,aO.of (by rw[h1,wH b c]),k.here ra h rfl⟩
   .exact h.elim
  .exact h.elim
 .exact h.elim
def iG(A:Ar):D->Option String
 |.ao=>some "NoneType"
 |.bl _=>some "bool"
 |.int _=>some "int"
 |.str _=>some "str"
 |.tup _=>some "tuple"
 |.fl _=>some "list"
 |.exc _=>none
 |.ref r=>match A[r]? with
  |some (.lst _)=>some "list"
  |some (.dct _)=>some "dict"
  |_=>none
def ja(t c:String):Bool:=t==c||(t=="bool"&&c=="int")
def ED(c:String)(m:aC):aC:=λτ A R=>m τ A λx A1=>match iG A1 x with
 |some t=>R (.bl (ja t c)) A1
 |none=>False
def tys:List String:=["NoneType","bool","int","str","tuple","list","dict"]
theorem Oz{A:Ar}{d:D}{t:String}(h:iG A d=some t):t∈tys:=by
 cases d with
 |ref r=>
  unfold iG at h;simp only at h;split at h<;>first|(cases h;decide)|cases h
 |exc c=>cases h
 |_=>cases h;decide
theorem RA.ty{mg:aj}{K:PySem.W.Frag}{A:Ar}{ι:Io}{H:Hp}(ra:RA mg ι H A){d:D}{v:V}{t:String}(h:iG A d=some t)(r:RV mg ι A.length H d v):lD K H v (.type t):=by
 cases d with
 |ao=>cases h;cases r;exact .of .ao
 |bl b=>cases h;cases r;exact .of (.bl b)
 |int b=>cases h;cases r;exact .of (.int b)
 |str b=>cases h;cases r;exact .of (.str b)
 |tup ds=>cases h;obtain⟨a,xs,rfl,e,_⟩:=r;exact .of (.tup e)
 |fl ns=>cases h;obtain⟨a,o,rfl,e⟩:=r;exact .of (.bh e)
 |exc c=>cases h
 |ref q=>
  obtain⟨_,rfl⟩:=r;unfold iG at h;simp only at h;split at h
  .rename_i xs e
   cases h;obtain⟨f,h1,_⟩:=ra.lst e;exact .of (.lst h1)
  .rename_i xs e
   cases h;obtain⟨f,h1,_⟩:=ra.dct e;exact .of (.dK h1)
  .cases h
section
variable{X:Cx}{N:En}{e:Expr}{es:List Expr}{m:aC}{p p2 pos:Pos}{x:Str}{c:String}
theorem j7(n:∀t∈tys,kitOne X.K (.type t) (.type c)=some (ja t c))(o:X.mg "isinstance"=none)(b:X.mg x=none)(d:bootBuiltins x=some (.type c))(ha:PE X e (up X.mg N m))(r:Gl X "isinstance":=by rfl)(f:Gl X x:=by rfl)(s:x≠"__name__":=by decide)(g:(x==("__debug__":Str))=false:=by decide)
  (h:starEach [e,.Name x p2] X.env=[(false,eval e X.env),(false,eval (.Name x p2) X.env)]:=by rfl):
  PE X (.Call (.Name "isinstance" p) [e,.Name x p2] [] pos) (up X.mg N (ED c m)):=by
 have w:PE X (.Name x p2) (tC (.ty c)):=KG f b d rfl s g;refine c7 (Ah D6 r o boot_isinstance (ur ha (ur w Aa rfl) (by rw[h];rfl)) (by decide) (by decide) (by rw[h];rfl) rfl) λσ H Q q=>?_;obtain⟨A,ι,τ,R,S,q,k⟩:=q;refine⟨A,ι,τ,_,S,q,λv i y H1 u a z j B=>?_⟩;have a:(match iG i v with|some t=>R (.bl (ja t c)) i|none=>False):=a;split at a
 .rename_i t l
  exact⟨u,c,.type t,ja t c,rfl,j.ty l B,n t (Oz l),(k.from z).here j a rfl⟩
 .exact a.elim
end
abbrev gv:=D->List D->Ar->DK->Prop
def jV(mg:aj)(K:PySem.W.Frag)(T:String)(r:V->List V->Hp->VK->Prop)(f:gv):Prop:=∀x ds A ι H u us R Q,RA mg ι H A->RV mg ι A.length H x u->ah mg ι A.length H ds us->f x ds A R->Kt mg A ι H R Q->r u us H Q
def jz(A:Ar):D->Bool
 |.ref r=>match A[r]? with
  |some (.lst _)=>true
  |_=>false
 |_=>false
def sd(f:gv)(mo:aC)(m:bZ):aC:=λτ A R=>mo τ A λx A1=>jz A1 x=true/\m τ A1 λvs A2=>f x vs A2 R
theorem RA.jz{mg:aj}{K:PySem.W.Frag}{A:Ar}{ι:Io}{H:Hp}(ra:RA mg ι H A){d:D}{v:V}(h:jz A d=true)(r:RV mg ι A.length H d v):u5 K "list" v H:=by
 cases d with
 |ref q=>
  obtain⟨_,rfl⟩:=r;unfold DP.jz at h;simp only at h;split at h
  .rename_i xs e
   obtain⟨a,h1,_⟩:=ra.lst e;exact .inl ⟨rfl,a,aO.of h1⟩
  .cases h
 |_=>cases h
section
variable{X:Cx}{N:En}{e o:Expr}{es:List Expr}{mo:aC}{m:bZ}{apos cpos:Pos}{f:gv}{r:V->List V->Hp->VK->Prop}{name:Str}{id:String}
theorem jw(t:PlainAttrs "list")(slot:Slot "list" name id)(g:typeOf (.builtin id)=pure (.type "method_descriptor"))(v:qX X id r)(hd:jV X.mg X.K "list" r f)(w:PE X o (up X.mg N mo))(ha:PA X (e::es) (dW X.mg N m))
  (b:attributeBase o name X.env (eval o X.env)=eval o X.env:=by rfl)
  (d:((backTo cpos (starEach (e::es) X.env)).all (λx=> !x.1)&&(backToKw cpos (keywordEach [] X.env)).all (λx=>x.1.isSome)
   &&decide ((e::es).length+([]:List Keyword).length+(if ([]:List Keyword).isEmpty then 0 else 1)<30))=true:=by rfl)
  (c:(apos.endLine==cpos.line)=true:=by rfl)(y:starEach (e::es) X.env=(false,eval e X.env)::starEach es X.env:=by rfl)(a:(backTo cpos (starEach es X.env)).any (·.1)=false:=by rfl):
  PE X (.Call (.Attribute o name apos) (e::es) [] cpos) (up X.mg N (sd f mo m)):=c7 (Ag t slot g v w ha b d c y a) λσ H Q q=>by
 obtain⟨A,ι,τ,R,S,q,k⟩:=q
 refine⟨A,ι,τ,_,S,q,λx z h H1 u j l n p=> ?_⟩
 refine⟨n.jz j.1 p,z,h,τ,_,S.next l n,j.2,λys B i H2 C D s E v2=> ?_⟩
 exact hd x ys B i H2 u C R Q E (RV.ext s x u p) v2 D (k.from (l.trans s))
end
theorem uy{mg:aj}{A:Ar}{ι:Io}{H:Hp}{R:DK}{Q:VK}{ds es:List D}{xs ys:List V}{q:Nat}{d:D}{v:V}(k:Kt mg A ι H R Q)(r:RA mg ι H A)(a:A[q]?=some (.lst ds))(b:H (ι q)=some (.lst xs))(h:ah mg ι A.length H es ys)
  (c:R d (A.set q (.lst es)))(hd:∀H',RV mg ι A.length H' d v):Q v (upd H (ι q) (.lst ys)):=by
 have E:Ext A ι H (A.set q (.lst es)) ι (upd H (ι q) (.lst ys)):=r.kc (List.getElem?_eq_some_iff.mp a).1;obtain⟨e,f⟩:=r.put (c':=.lst es) (o:=.lst ys) a b rfl ⟨ys,cW,by simpa using ah.ext E es ys h⟩;exact k _ _ _ _ _ c f e (by simpa using hd _)
@[irreducible] def nS(r:Nat)(y:D)(A:Ar)(R:DK):Prop:=match A[r]? with
 |some (.lst xs)=>xs.length<sizeLine/\R .ao (A.set r (.lst (xs++[y])))
 |_=>False
def nR:gv:=λx vs A R=>match x,vs with
 |.ref r,[y]=>nS r y A R
 |_,_=>False
theorem nX{mg:aj}{K:PySem.W.Frag}:jV mg K "list" Au nR:=by
 intro x ds A ι H u d R Q ra b rs h k;unfold nR at h;split at h
 .obtain⟨_,rfl⟩:=b
  obtain⟨v,_,rfl,c,rfl⟩:=rs;unfold nS at h;split at h
  .rename_i xs e
   obtain⟨ws,h1,a⟩:=ra.lst e;exact⟨_,ws,v,rfl,rfl,h1,by rw[<-ah.length a];exact h.1,uy k ra e h1 (a.app (es:=[_]) (ws:=[v]) ⟨v,[],rfl,c,rfl⟩) h.2 λ_=>rfl⟩
  .exact h.elim
 .exact h.elim
@[irreducible] def oz(r q:Nat)(A:Ar)(R:DK):Prop:=match A[r]?,A[q]? with
 |some (.lst xs),some (.lst ys)=>xs.length+ys.length<=sizeLine/\R .ao (A.set r (.lst (xs++ys)))
 |_,_=>False
def yj:gv:=λx vs A R=>match x,vs with
 |.ref r,[.ref q]=>oz r q A R
 |_,_=>False
theorem xu{mg:aj}{K:PySem.W.Frag}:jV mg K "list" Ax yj:=by
 intro x ds A ι H u f R Q ra c rs h k;unfold yj at h;split at h
 .obtain⟨_,rfl⟩:=c
  obtain⟨v,_,rfl,⟨_,rfl⟩,rfl⟩:=rs;unfold oz at h;split at h
  .rename_i xs ys e d
   obtain⟨ws,h1,a⟩:=ra.lst e;obtain⟨zs,h2,b⟩:=ra.lst d;exact⟨_,_,ws,zs,rfl,rfl,h1,h2,by rw[<-ah.length a,<-ah.length b];exact h.1,uy k ra e h1 (a.app b) h.2 λ_=>rfl⟩
  .exact h.elim
 .exact h.elim
def Mm(RE:DX)(c:Str)(m:bZ):cB:=λ_ τ A=>m τ A λvs A1=>vs.length<=sizeLine/\RE c A1
theorem lX{X:Cx}{N:En}{RE:DX}{x:Str}{C:Addr}{e:Expr}{m:bZ}{np cpos pos:Pos}(f:Raises X (EL X.mg N RE))(hc:X.calm=true)(c:X.mg x=some (.ref C))(g:excIn X.K C k9 "ValueError.__new__"=true)(ha:PA X [e] (dW X.mg N m))(h:Gl X x:=by rfl)(a:(x==("__debug__":Str))=false:=by decide)
  (i:starEach [e] X.env=[(false,eval e X.env)]:=by rfl):PS X (.Raise (some (.Call (.Name x np) [e] [] cpos)) none pos) (cj X.mg N (Mm RE x m)):=fZ (LB f hc c g ha h a i) λQ σ H q=>by
 obtain⟨A,ι,τ,R,S,q,k⟩:=q;exact⟨A,ι,τ,_,S,q,λvs j b H1 p d l n o=>⟨by rw[<-ah.length o];exact d.1,x,j,b,⟨C,rfl,c⟩,S.ex.trans l,n,d.2⟩⟩
def gJ:D->Bool
 |.int _|.str _=>true
 |_=>false
def lZ:D->D->Bool
 |.int i,.int j=>decide (i=j)
 |.str a,.str b=>decide (a=b)
 |_,_=>false
def kr(x:D)(xs:List D):Bool:=xs.any λy=>lZ y x
section
variable{mg:aj}{K:PySem.W.Frag}{A:Ar}{ι:Io}{H:Hp}{n:Nat}
theorem sJ{d:D}{v:V}(h:gJ d=true)(r:RV mg ι n H d v):ie v=true:=by
 cases d with
 |int i=>cases r;rfl
 |str i=>cases r;rfl
 |_=>cases h
theorem FI{d e:D}{u v:V}(h1:gJ d=true)(h2:gJ e=true)(b:RV mg ι n H d u)(a:RV mg ι n H e v):f7 u v=lZ d e:=by
 cases d with
 |int i=>
  cases b;cases e with
  |int j=>cases a;simp[f7,lZ,Bool.beq_eq_decide_eq]
  |str j=>cases a;rfl
  |_=>cases h2
 |str i=>
  cases b;cases e with
  |int j=>cases a;rfl
  |str j=>cases a;simp[f7,lZ,Bool.beq_eq_decide_eq]
  |_=>cases h2
 |_=>cases h1
theorem sZ{x:D}{v:V}(a:gJ x=true)(b:RV mg ι n H x v):∀{ds:List D} {vs:List V},ds.all gJ=true->ah mg ι n H ds vs->oO v vs=kr x ds/\vs.all ie=true
 |[],vs,_,r=>by cases (show vs=[] from r);exact⟨rfl,rfl⟩
 |d::ds,vs,h,r=>by
  obtain⟨y,r',rfl,h1,h2⟩:=r;have h':gJ d=true/\ds.all gJ=true:=by simpa using h
  obtain⟨c,e⟩:=sZ a b h'.2 h2;constructor
  .show(f7 y v||oO v r')=(lZ d x||kr x ds)
   rw[FI h'.1 a h1 b,c]
  .simp[sJ h'.1 h1,e]
end
abbrev m6(neg:Bool):R2:=λx y H Q=>∃a o,y=.ref a/\jR H a x o/\Q (.bl (if neg then !o.isSome else o.isSome)) H
theorem JY{X:Cx}(e:X.A.units+64<cLine):aX X (compareOp .In) (m6 false):=by
 intro pins s σ H x y v u Q I b c h;obtain⟨a,o,rfl,g,q⟩:=h;cases c;exact ER (by omega) I g b λf d=>⟨.bl o.isSome,H,d,rfl,q⟩
theorem J3{X:Cx}(e:X.A.units+64<cLine):aX X (compareOp .NotIn) (m6 true):=by
 intro pins s σ H x y v u Q I b c h;obtain⟨a,o,rfl,g,q⟩:=h;cases c;exact E1 (by omega) I g b λf d=>⟨.bl (!o.isSome),H,d,rfl,q⟩
@[irreducible] def inR(neg:Bool)(x:D)(r:Nat)(A:Ar)(R:DK):Prop:=match A[r]? with
 |some (.lst xs)=>gJ x=true/\xs.all gJ=true/\R (.bl (if neg then !kr x xs else kr x xs)) A
 |some (.dct kvs)=>(match dQ x with
  |some k=>R (.bl (if neg then !(aN kvs k).isSome else (aN kvs k).isSome)) A
  |none=>False)
 |_=>False
def inD(neg:Bool):cO:=λx y A R=>match y with
 |.tup xs=>gJ x=true/\xs.all gJ=true/\R (.bl (if neg then !kr x xs else kr x xs)) A
 |.ref r=>inR neg x r A R
 |_=>False
theorem ES{mg:aj}{K:PySem.W.Frag}(neg:Bool):cF mg (λx y H Q=>Az K neg x y H Q\/m6 neg x y H Q) (inD neg):=by
 intro x y A ι H u v R Q ra c l h k;unfold inD at h;split at h
 .obtain⟨a,xs,rfl,m,f⟩:=l
  obtain⟨g,i⟩:=sZ h.1 c h.2.1 f;exact .inl ⟨a,xs,rfl,.inr (bq.of m),sJ h.1 c,i,by rw[g];exact k.here ra h.2.2 rfl⟩
 .obtain⟨_,rfl⟩:=l
  unfold inR at h;split at h
  .rename_i xs e
   obtain⟨j,h1,f⟩:=ra.lst e;obtain⟨g,i⟩:=sZ h.1 c h.2.1 f;exact .inl ⟨_,j,rfl,.inl (aO.of h1),sJ h.1 c,i,by rw[g];exact k.here ra h.2.2 rfl⟩
  .rename_i kvs e
   obtain⟨j,h1,f⟩:=ra.dct e;split at h
   .rename_i b n
    cases jE n c;obtain⟨g,i⟩:=RK.get (k:=b) f;refine .inr ⟨_,cX j b,rfl,.inl ⟨j,b,.inl h1,rfl,rfl⟩,?_⟩;have o:(cX j b).isSome=(aN kvs b).isSome:=by
     cases q:aN kvs b with
     |none=>rw[i q];rfl
     |some d=>obtain⟨z,hz,_⟩:=g d q;rw[hz];rfl
    rw[o];exact k.here ra h rfl
   .exact h.elim
  .exact h.elim
 .exact h.elim
section
variable{X:Cx}{N:En}{pos:Pos}{a b c:Expr}{ma mb mc:aC}{x:Str}
theorem vr(i:Nat)(b:X.N[i]?=some x:=by rfl)(c:jX X.env.scope x:=by first|exact Or.inl rfl|exact Or.inr (Or.inl rfl)|exact Or.inr (Or.inr rfl))(hd:(x==("__debug__":Str))=false:=by decide)
 (a:(x==("__classdict__":Str))=false:=by decide):PE X (.Name x pos) (up X.mg N (cT i)):=Fe b c hd a
theorem jy(c:X.A.units+64<cLine)(ha:PE X a (up X.mg N ma))(hb:PE X b (up X.mg N mb)):PE X (.Compare a [.Eq] [b] pos) (up X.mg N (b9 ow ma mb)):=sj (z4 c) xr ha hb (iQ _)
theorem fQ(c:X.A.units+64<cLine)(ha:PE X a (up X.mg N ma))(hb:PE X b (up X.mg N mb)):PT X (.Compare a [.Eq] [b] pos) (cz X.mg N (eW (b9 ow ma mb))):=iL (z4 c) xr ha hb (iQ _)
theorem iE(c:X.A.units+64<cLine)(ha:PE X a (up X.mg N ma))(hb:PE X b (up X.mg N mb)):PT X (.Compare a [.NotEq] [b] pos) (cz X.mg N (eW (b9 uc ma mb))):=iL (J1 c) EZ ha hb (iQ _)
theorem CA(ha:PE X a (up X.mg N ma))(hb:PE X b (up X.mg N mb)):PT X (.Compare a [.Lt] [b] pos) (cz X.mg N (eW (b9 tS ma mb))):=iL JZ EX ha hb (iQ _)
theorem Cy(ha:PE X a (up X.mg N ma))(hb:PE X b (up X.mg N mb)):PT X (.Compare a [.Gt] [b] pos) (cz X.mg N (eW (b9 yS ma mb))):=iL Kh EO ha hb (iQ _)
theorem e_is(ha:PE X a (up X.mg N ma))(hb:PE X b (up X.mg N mb)):PE X (.Compare a [.Is] [b] pos) (up X.mg N (b9 s_ ma mb)):=sj Kl EV ha hb (iQ _)
theorem x_(ha:PE X a (up X.mg N ma))(hb:PE X b (up X.mg N mb)):PE X (.Compare a [.IsNot] [b] pos) (up X.mg N (b9 pJ ma mb)):=sj z_ xx ha hb (iQ _)
theorem uX(ha:PE X a (up X.mg N ma))(hb:PE X b (up X.mg N mb)):PT X (.Compare a [.IsNot] [b] pos) (cz X.mg N (eW (b9 pJ ma mb))):=iL z_ xx ha hb (iQ _)
theorem uY(c:X.A.units+64<cLine)(ha:PE X a (up X.mg N ma))(hb:PE X b (up X.mg N mb))(d:behindInMarks .NotIn b=false:=by rfl):PT X (.Compare a [.NotIn] [b] pos) (cz X.mg N (eW (b9 (inD true) ma mb))):=iL (Ky.or (J3 c)) (ES true) ha hb d
theorem ya(ha:PE X a (up X.mg N ma))(hb:PE X b (up X.mg N mb))(hc:PE X c (up X.mg N mc))(d:lastMarks [.LtE,.LtE] [b,c]=false:=by with_unfolding_all rfl):PE X (.Compare a [.LtE,.LtE] [b,c] pos) (up X.mg N (lR kD kD ma mb mc)):=E8 pL pL nZ nZ ha hb hc d
theorem Cz(ha:PE X a (up X.mg N ma))(hb:PE X b (up X.mg N mb))(hc:PE X c (up X.mg N mc))(d:lastMarks [.LtE,.LtE] [b,c]=false:=by with_unfolding_all rfl):PT X (.Compare a [.LtE,.LtE] [b,c] pos) (cz X.mg N (eW (lR kD kD ma mb mc))):=Fz pL pL nZ nZ ha hb hc d
end
theorem ig{P:Program}{w:World}{K:PySem.W.Frag}{mg:aj}{base:Heap}{x:Str}{st:Stmt}{Nm ps:List Str}{k n:Nat}{S:Ct}(T:TopD K mg x st ps)(Sc:a_ Nm ps (aI st))(c:ps.length=n)(d:ps.length<=Nm.length)
  (b:∀(N:En) (RE:DX) (f:Addr) (a:Value) (B:Around) (outer:List Env) (s:Shared) (H:Hp) (E:XK),cH k (b7 (br P w) P w K mg base Nm x (aI st) f a B outer s H E).A->
   Raises (b7 (br P w) P w K mg base Nm x (aI st) f a B outer s H E) (EL mg N RE)->Passes (br P w) (b7 (br P w) P w K mg base Nm x (aI st) f a B outer s H E) (EL mg N RE)->
   ∀ds A R,S ds A R RE->ds.length=n->∃m,cG (b7 (br P w) P w K mg base Nm x (aI st) f a B outer s H E) (fm st) (cj mg N m)/\m {nx:=λ_ A'=>R .ao A',rt:=R} (iS (Nm.length - n) ds) A):av P w K mg base (k+1) x ps (au mg n S):=by
 refine TopD.ig T Sc c d λN RE X _ _ _ _ _ _ _ _ e g i j ds A R h l=>?_;obtain⟨f,a,B,outer,s,H,E,rfl⟩:=e;exact b N RE f a B outer s H E g i j ds A R h l
def Mn(c:dN)(b:cB):cB:=λR τ A=>∃W:Nat->bx->Ar->Prop,(∃n,W n τ A)/\∀n τ A,W n τ A->c τ A λk A1=>cond k (∃Nx:bx->Ar->Prop,(∀bU A',Nx bU A'->∃n',n'<n/\W n' bU A')/\b {R with nx:=Nx,ct:=Nx,bk:=R.nx} τ A1) (R.nx τ A1)
section
variable{X:Cx}{N:En}{pos:Pos}{c:Expr}{body:List Stmt}{tc:dN}{tb:cB}
theorem sE(y:PassesOwn (model X.prog X.w) X.A X.env X.xe)(hc:PT X c (cz X.mg N tc))(hb:cG X body (cj X.mg N tb)):PS X (.While c body [] pos) (cj X.mg N (Mn tc tb)):=fZ (LF y hc hb) λQ σ H q=>by
 obtain⟨A,ι,τ,R,S,⟨W,⟨n,B⟩,turn⟩,k⟩:=q;refine⟨λn σ' H'=>∃A' ι' bU,cC X.mg N A' ι' bU σ' H'/\Ext A ι H A' ι' H'/\W n bU A',⟨n,A,ι,τ,S,S.ra.refl,B⟩,?_⟩;rintro m C H1 ⟨x,o,d,g,h,D⟩;refine⟨x,o,d,_,g,turn m d x D,λb E p H2 j a l=>?_⟩;cases b with
 |true=>
  rw[if_pos rfl];obtain⟨F,G,j⟩:=j;refine⟨λσ' H'=>∃A' ι' bU,cC X.mg N A' ι' bU σ' H'/\Ext A ι H A' ι' H'/\F bU A',λσ' H' ⟨A',ι',bU,I,J,z⟩=>?_,?_⟩
  .obtain⟨K,L,M⟩:=G bU A' z
   exact⟨K,L,A',ι',bU,I,J,M⟩
  .refine⟨E,p,d,_,g.next a l,j,⟨?_,k.rt.from (h.trans a),k.nx.from (h.trans a),?_⟩⟩
   .exact λe r f s O t i u v=>⟨r,f,e,(g.next a l).to i u v,(h.trans a).trans i,t⟩
   .exact λe r f s O t i u v=>⟨r,f,e,(g.next a l).to i u v,(h.trans a).trans i,t⟩
 |false=>
  rw[if_neg Bool.false_ne_true];exact(k.nx.from (h.trans a)).here (g.next a l) j
end
structure iK(mg:aj)(A0:Ar)(CZ:Io)(H0:Hp)(J:It)(items:List D)(dB:Ar->Prop):Prop where
 go:∀(i:Nat) d A ι H,items[i]? =some d->Ext A0 CZ H0 A ι H->RA mg ι H A->dB A->J.go i H/\∀x H',J.qK i H x H'->Ext A ι H A ι H'/\RA mg ι H' A/\RV mg ι A.length H' d x
 stop:∀A ι H,Ext A0 CZ H0 A ι H->RA mg ι H A->dB A->J.stop items.length H
abbrev fF:=bx->Ar->(List D->(Ar->Prop)->Ar->Prop)->Prop
def iH(mg:aj)(N:En)(m:fF):TI:=λσ H Q=>∃A ι τ R,cC mg N A ι τ σ H/\m τ A R/\∀items dB A' ι' H' J,R items dB A'->Ext A ι H A' ι' H'->RA mg ι' H' A'->iK mg A' ι' H' J items dB->Q J H'
theorem j9{X:Cx}{tg e:Expr}{t t':TI}(h:PI X tg e t)(w:∀σ H Q,t' σ H Q->t σ H Q):PI X tg e t':=λpins s σ H Q I q=>h pins s σ H Q I (w σ H Q q)
section
variable{mg:aj}{K:PySem.W.Frag}{A:Ar}{ι:Io}{H:Hp}
theorem Iw{a:Addr}{ds:List D}{xs:List V}(f:H a=some (.tup xs))(g:ah mg ι A.length H ds xs):iK mg A ι H (qV K a) ds (λ_=>True) where
 go:=λi d h c H1 hd e r _=>by
  have b:=e.fix rfl f;obtain⟨v,h1,h2⟩:=ah.get (ah.ext e ds xs g) hd;refine⟨⟨xs,v,bq.of b,h1⟩,λx H' y=>?_⟩;obtain⟨rfl,y⟩:=y;have:=y xs (bq.of b);rw[h1] at this;cases this;exact⟨r.refl,r,h2⟩
 stop:=λh c H1 e r _=>⟨xs,bq.of (e.fix rfl f),by rw[ah.length g];exact le_refl _⟩
theorem Im{a:Addr}{o:Obj}{ns:List Int}(f:H a=some (.bh o (.lst (ns.map V.int)))):iK mg A ι H (nH K a) (ns.map D.int) (λ_=>True) where
 go:=λi d g b H1 hd e r _=>by
  have c:aO K H1 a (ns.map V.int):=.inl (.inr ⟨o,e.fix rfl f⟩);obtain⟨v,h1,h2⟩:=ah.get (ah.ints (mg:=mg) (ι:=b) (H:=H1) ns (n:=g.length)) hd;refine⟨⟨_,v,c,h1⟩,λx H' y=>?_⟩;obtain⟨rfl,y⟩:=y;have:=y _ c;rw[h1] at this;cases this;exact⟨r.refl,r,h2⟩
 stop:=λg b H1 e r _=>⟨_,.inl (.inr ⟨o,e.fix rfl f⟩),by simp⟩
theorem Iq{q:Nat}{ds:List D}(b:q<A.length):iK mg A ι H (nH K (ι q)) ds (λA'=>A'[q]?=some (.lst ds)) where
 go:=λi d f a H1 hd e r hc=>by
  obtain⟨xs,h1,h2⟩:=r.lst hc;rw[e.ag q b] at h1;obtain⟨v,c,g⟩:=ah.get h2 hd;refine⟨⟨xs,v,aO.of h1,c⟩,λx H' y=>?_⟩;obtain⟨rfl,y⟩:=y;have:=y xs (aO.of h1);rw[c] at this;cases this;exact⟨r.refl,r,g⟩
 stop:=λf a H1 e r hc=>by
  obtain⟨xs,h1,h2⟩:=r.lst hc;rw[e.ag q b] at h1;exact⟨xs,aO.of h1,by rw[ah.length h2];exact le_refl _⟩
def dw(lo:Int)(n:Nat):List D:=(range n).map λ(i:Nat)=>D.int (lo+i)
theorem Iu{lo:Int}{n:Nat}:iK mg A ι H (nI lo n) (dw lo n) (λ_=>True) where
 go:=λi d c a H1 hd e r _=>by
  unfold dw at hd;rw[getElem?_map] at hd;cases q:(range n)[i]? with
  |none=>rw[q] at hd;cases hd
  |some j=>
   rw[q] at hd;have hi:=(List.getElem?_eq_some_iff.mp q).1;have b:=(List.getElem?_eq_some_iff.mp q).2;simp at hi b;subst b;cases hd;refine⟨hi,λx H' y=>?_⟩;obtain⟨rfl,rfl⟩:=y;exact⟨r.refl,r,rfl⟩
 stop:=λc a H1 e r _=>by
  show n<=_;simp[dw]
def gm(z:Str):List D:=z.cps.toList.map λc=>D.str ⟨#[c]⟩
theorem Iv{z:Str}:iK mg A ι H (qU z) (gm z) (λ_=>True) where
 go:=λi d b a H1 hd e r _=>by
  unfold gm at hd;rw[getElem?_map] at hd;cases q:z.cps.toList[i]? with
  |none=>rw[q] at hd;cases hd
  |some j=>
   rw[q] at hd;cases hd;have hi:=(List.getElem?_eq_some_iff.mp q).1;refine⟨show i<z.cps.size by simpa using hi,λx H' y=>?_⟩;obtain⟨rfl,c,hc,rfl⟩:=y;have:z.cps.toList[i]?=some c:=by simpa using hc
   rw[q] at this;cases this;exact⟨r.refl,r,rfl⟩
 stop:=λb a H1 e r _=>by
  show _=_;simp[gm]
end
def HP(K:PySem.W.Frag)(tl:TE):TI:=λσ H R=>tl σ H λx H1=>(∃a,x=.ref a/\(∃xs,aO K H1 a xs)/\R (nH K a) H1)\/(∃a,x=.ref a/\(∃xs,bq K H1 a xs)/\R (qV K a) H1)
theorem Ld{X:Cx}{tg l:Expr}{tl:TE}(i:PE X l tl):PI X tg l (HP X.K tl):=by
 intro pins s σ H R I h;refine aF (i pins s σ H _ I h) λv c ⟨x,H1,d,g,j⟩=>?_;rcases j with⟨a,e,⟨xs,f⟩,q⟩|⟨a,e,⟨xs,f⟩,q⟩
 .subst e
  cases g;obtain⟨its,k,p,hz⟩:=d.list f;refine wpAny_pyIter_list p.isList ?_;refine⟨c.heap.objs.size,[c.heap.objs.size],_,_,H1,rfl,d.kept (t':=c.toks) λb o e=>get?_push_of_some _ e,Oi a _,⟨_,get?_push_size _ rfl,rfl,rfl⟩,λb hb=>?_,q⟩;have e:b=c.heap.objs.size:=by simpa using hb
  subst e;exact d.i8 (le_refl _) (d.hok.fresh (le_refl _))
 .subst e
  cases g;obtain⟨its,k,p,hz⟩:=d.tuple f;refine wpAny_pyIter_tuple (show c.heap.IsTuple a its.toArray from p) ?_;refine⟨c.heap.objs.size,[c.heap.objs.size],_,_,H1,rfl,d.kept (t':=c.toks) λb o e=>get?_push_of_some _ e,Oo a _,⟨_,get?_push_size _ rfl,rfl,rfl⟩,λb hb=>?_,q⟩;have e:b=c.heap.objs.size:=by simpa using hb
  subst e;exact d.i8 (le_refl _) (d.hok.fresh (le_refl _))
@[irreducible] def itR(r:Nat)(A:Ar)(R:List D->(Ar->Prop)->Ar->Prop):Prop:=match A[r]? with
 |some (.lst xs)=>R xs (λA'=>A'[r]?=some (.lst xs)) A
 |_=>False
def HN(m:aC):fF:=λτ A R=>m τ A λx A1=>match x with
 |.tup xs=>R xs (λ_=>True) A1
 |.fl ns=>R (ns.map .int) (λ_=>True) A1
 |.ref r=>itR r A1 R
 |_=>False
def HR(m:aC):fF:=λτ A R=>m τ A λx A1=>match x with
 |.str z=>R (gm z) (λ_=>True) A1
 |_=>False
def HJ(n:bZ):fF:=λτ A R=>n τ A λvs A1=>match vs with
 |[.int j]=> -(2 ^ 62)<=j/\j<2 ^ 62/\R (dw 0 j.toNat) (λ_=>True) A1
 |_=>False
section
variable{X:Cx}{N:En}{pos p:Pos}{tg e a b:Expr}{m:aC}{n:bZ}{nm:Str}{px:Pos}
theorem dP(i:PE X e (up X.mg N m)):PI X tg e (iH X.mg N (HN m)):=j9 (Ld i) λσ H Q q=>by
 obtain⟨A,ι,τ,R,S,q,k⟩:=q;refine⟨A,ι,τ,_,S,q,λx d c H1 u a g f h=>?_⟩;cases x with
 |tup ds=>
  obtain⟨b,xs,rfl,h1,h2⟩:=h;exact .inr ⟨b,rfl,⟨xs,bq.of h1⟩,k ds _ d c H1 _ a g f (Iw h1 h2)⟩
 |fl ns=>
  obtain⟨b,o,rfl,h1⟩:=h;exact .inl ⟨b,rfl,⟨_,.inl (.inr ⟨o,h1⟩)⟩,k _ _ d c H1 _ a g f (Im h1)⟩
 |ref r=>
  obtain⟨j,rfl⟩:=h;have a:itR r d R:=a;unfold itR at a;split at a
  .rename_i xs e
   obtain⟨l,h1,_⟩:=f.lst e;exact .inl ⟨_,rfl,⟨l,aO.of h1⟩,k _ _ d c H1 _ a g f (Iq j)⟩
  .exact a.elim
 |_=>exact a.elim
theorem Fo(c:PE X e (up X.mg N m)):PI X (.Name nm px) e (iH X.mg N (HR m)):=j9 (Le c) λσ H Q q=>by
 obtain⟨A,ι,τ,R,S,q,k⟩:=q;refine⟨A,ι,τ,_,S,q,λx d a H1 u b f g h=>?_⟩;cases x with
 |str z=>exact⟨z,h,k _ _ d a H1 _ b f g Iv⟩
 |_=>exact b.elim
theorem lW(e:X.mg "range"=none)(ha:PA X [a] (dW X.mg N n))(f:Gl X "range":=by rfl)(g:starEach [a] X.env=[(false,eval a X.env)]:=by rfl):PI X tg (.Call (.Name "range" p) [a] [] pos) (iH X.mg N (HJ n)):=j9 (Lb f e ha g) λσ H Q q=>by
 obtain⟨A,ι,τ,R,S,q,k⟩:=q;refine⟨A,ι,τ,_,S,q,λx h c H1 u b i l d=>?_⟩;match x,b,d with
 |[.int j],b,d=>
  obtain⟨_,_,rfl,rfl,rfl⟩:=d;exact⟨j,rfl,b.1,b.2.1,k _ _ h c H1 _ b.2.2 i l Iu⟩
end
def j5(dB:Ar->Prop)(g:gU)(b:cB)(R:jj):List D->bx->Ar->Prop
 |[],τ,A=>dB A/\R.nx τ A
 |x::xs,τ,A=>dB A/\g x τ A λvf A1=>b {R with nx:=j5 dB g b R xs,ct:=j5 dB g b R xs,bk:=R.nx} vf A1
def A_(it:fF)(g:gU)(b:cB):cB:=λR τ A=>it τ A λitems dB A1=>j5 dB g b R items τ A1
theorem fu{X:Cx}{N:En}{pos:Pos}{tg iter:Expr}{body:List Stmt}{it:fF}{g:gU}{tb:cB}(T:PassesOwn (model X.prog X.w) X.A X.env X.xe)(hc:X.calm=true)(hi:PI X tg iter (iH X.mg N it))(U:PG X tg (jO X.mg N g))(hb:cG X body (cj X.mg N tb))
  (V:∀x,foldedSetIterable iter X.env x=pure x:=by intro _;rfl):PS X (.For tg iter body [] pos) (cj X.mg N (A_ it g tb)):=fZ (Ly T hc hi U hb V) λQ σ H q=>by
 obtain⟨A,ι,τ,R,S,q,k⟩:=q;refine⟨A,ι,τ,_,S,q,λitems n v b H1 J W s O P=>?_⟩;have Y:=S.next s O;refine⟨λi m σ' H'=>m=items.length - i/\i<=items.length/\∃A' ι' bU,cC X.mg N A' ι' bU σ' H'/\Ext v b H1 A' ι' H'/\j5 n g tb R (items.drop i) bU A',⟨_,rfl,zero_le _,v,b,τ,Y,O.refl,by simpa using W⟩,?_⟩;rintro i m Z H2 ⟨rfl,hi,B,c,C,d,f,h⟩;by_cases D:i<items.length
 .right
  have hd:items.drop i=items[i]::items.drop (i+1):=by rw[drop_eq_getElem_cons D]
  rw[hd] at h;obtain⟨o,h⟩:=h;obtain⟨g1,g2⟩:=P.go i items[i] B c H2 (by rw[getElem?_eq_getElem D]) f d.ra o;refine⟨g1,λσ' H'=>∃A' ι' bU,cC X.mg N A' ι' bU σ' H'/\Ext v b H1 A' ι' H'/\j5 n g tb R (items.drop (i+1)) bU A',λσ' H' ⟨A',ι',bU,z⟩=>⟨_,by omega,rfl,D,A',ι',bU,z⟩,λx H3 y=>?_⟩;obtain⟨p,t,v3⟩:=g2 x H3 y;refine⟨B,c,C,items[i],_,d.next p t,v3,h,λE A4 F OV H4 q4 u G s4=>?_⟩;have a:=p.trans u;refine⟨A4,F,E,_,(d.next p t).to u G s4,q4,⟨?_,k.rt.from ((s.trans f).trans a),k.nx.from ((s.trans f).trans a),?_⟩⟩
  .exact λj I l K H5 L r M s5=>⟨I,l,j,((d.next p t).to u G s4).to r M s5,(f.trans a).trans r,L⟩
  .exact λj I l K H5 L r M s5=>⟨I,l,j,((d.next p t).to u G s4).to r M s5,(f.trans a).trans r,L⟩
 .left
  have e:i=items.length:=by omega
  subst e;rw[List.drop_length] at h;exact⟨P.stop B c H2 f d.ra h.1,(k.nx.from (s.trans f)).here d h.2⟩
def nA:Option Nat->D->Option (List D)
 |none,x=>some [x]
 |some k,.tup ds=>if ds.length=k then some ds else none
 |some _,_=>none
def iV(dB:Ar->Prop)(k:Option Nat)(fr:bx)(tt:dN)(te:aC)(R:List D->Ar->Prop):List D->List D->Ar->Prop
 |[],ys,A=>dB A/\R ys A
 |x::xs,ys,A=>dB A/\match nA k x with
  |some vs=>tt (vs.map some++fr) A λb A3=>cond b (te (vs.map some++fr) A3 λy A4=>ys.length<sizeLine/\iV dB k fr tt te R xs (ys++[y]) A4) (iV dB k fr tt te R xs ys A3)
  |none=>False
def j4(k:Option Nat)(ix:List Nat)(it:fF)(tt:dN)(te:aC):aC:=λτ A R=>it τ A λitems dB A1=>iV dB k (ix.map (lk τ)) tt te (λys A2=>R (.ref A2.length) (A2++[.lst ys])) items [] A1
def l9:Nat->Nat->ia
 |_,0=>yH
 |i,n+1=>yG (kj i) (l9 (i+1) n)
def qB(K:PySem.W.Frag):Option Nat->TG
 |none=>kj 0
 |some k=>yI K k (l9 0 k)
theorem yR{Q:L2.St->Hp->Prop}{H:Hp}{fs:L2.St}:∀(xs:List V) (a:L2.St),Q (a++(xs.map some++fs)) H->l9 a.length xs.length xs (a++(replicate xs.length none++fs)) H Q
 |[],a,h=>⟨rfl,by simpa using h⟩
 |x::r,a,h=>by
  refine⟨x,r,rfl,?_⟩;show l9 (a.length+1) r.length r ((a++(replicate (r.length+1) none++fs)).set a.length (some x)) H Q;have e:(a++(replicate (r.length+1) none++fs)).set a.length (some x)=(a++[some x])++(replicate r.length none++fs):=by
   rw[List.set_append_right _ _ (le_refl _)];simp[List.replicate_succ]
  rw[e];have:=yR r (a++[some x]) (by simpa using h);simpa using this
theorem zj{fs:L2.St}:∀(xs:L2.St),eT (replicate xs.length none++fs) (xs++fs)
 |[]=>eT.refl fs
 |x::r=>.own (zj r)
section
variable{mg:aj}{K:PySem.W.Frag}{A:Ar}{ι:Io}{H:Hp}
theorem N9{k:Option Nat}{d:D}{vs:List D}{x:V}{n:Nat}(b:nA k d=some vs)(r:RV mg ι n H d x):∃xs,ah mg ι n H vs xs/\vs.length=k.getD 1/\∀(fs:L2.St) (Q:L2.St->Hp->Prop),Q (xs.map some++fs) H->qB K k x (replicate (k.getD 1) none++fs) H Q:=by
 cases k with
 |none=>
  cases b;exact⟨[x],⟨x,[],rfl,r,rfl⟩,rfl,λfs Q q=>q⟩
 |some k=>
  cases d with
  |tup ds=>
   have b:(if ds.length=k then some ds else none)=some vs:=b;by_cases c:ds.length=k
   .rw[if_pos c] at b
    cases b;obtain⟨a,xs,rfl,h1,h2⟩:=r;have f:=ah.length h2;refine⟨xs,h2,c,λfs Q q=>⟨a,xs,rfl,bq.of h1,by rw[<-f];exact c,?_⟩⟩;have:=yR (Q:=Q) (H:=H) (fs:=fs) xs [] q;show l9 0 k xs (replicate k none++fs) H Q;have e:k=xs.length:=by rw[<-f,c]
    rw[e];exact this
   .rw[if_neg c] at b
    cases b
  |_=>cases b
theorem RA.off(R:RA mg ι H A){p:Addr}{o u:HO}(a:∀r,r<A.length->ι r≠p)(d:H p=some u)(e:gc u=true):RA mg ι (upd H p o) A:=
 ⟨λr c h=>CO.ag (le_refl _) (λ_ _=>rfl) (λb q m z=>by
  rw[aS]
  .exact z
  .rintro rfl
   rw[d] at z;cases z;rw[e] at m;cases m) (λq z=>by rw[aS (a r (List.getElem?_eq_some_iff.mp h).1)];exact z) c (R.fk r c h),R.inj⟩
end
theorem Nk{own:List Str}{ix:List Nat}{σ:L2.St}:L2.stC own ix σ=replicate own.length none++ix.map λi=>(σ[i]?).join:=by
 unfold L2.stC;rw[List.map_const']
theorem zz:∀(ds:List D) (fr:bx) (i:Nat) (d:D),lk (ds.map some++fr) i=some d->(ds[i]?=some d)\/(ds.length<=i/\lk fr (i - ds.length)=some d)
 |[],fr,i,d,h=>.inr ⟨zero_le _,by simpa using h⟩
 |x::r,fr,0,d,h=>.inl (by simpa[lk] using h)
 |x::r,fr,i+1,d,h=>by
  rcases zz r fr i d (by simpa[lk] using h) with q|⟨a,b⟩
  .exact .inl (by simpa using q)
  .exact .inr ⟨by simpa using a,by simpa using b⟩
theorem RS.block{mg:aj}{ι:Io}{n:Nat}{H:Hp}{τ:bx}{σ:L2.St}{ix:List Nat}{vs:List D}{xs:List V}(r:RS mg ι n H τ σ)(h:ah mg ι n H vs xs):RS mg ι n H (vs.map some++ix.map (lk τ)) (xs.map some++ix.map λi=>(σ[i]?).join):=⟨by simp[ah.length h],λi d q=>by
 have b:=ah.length h;rcases zz vs _ i d q with q|⟨c,a⟩
 .obtain⟨v,h1,h2⟩:=ah.get h q
  have hi:=(List.getElem?_eq_some_iff.mp h1).1;exact⟨v,by rw[getElem?_append_left (by simpa using hi),getElem?_map,h1];rfl,h2⟩
 .rw[oZ,getElem?_map] at a
  cases e:ix[i - vs.length]? with
  |none=>rw[e] at a;simp at a
  |some j=>
   rw[e] at a;have a:lk τ j=some d:=by simpa using a
   obtain⟨v,h1,h2⟩:=r.at' j d a;refine⟨v,?_,h2⟩;rw[getElem?_append_right (by simpa[<-b] using c),getElem?_map,length_map,<-b,e];simp[h1]⟩
section
variable{X:Cx}{N:En}{own frees:List Str}{ix:List Nat}{it:fF}{tt:dN}{te:aC}{k:Option Nat}
theorem CS(hk:own.length=k.getD 1){tT:CP->TT}(hT:∀c σ H Q,cz X.mg N tt σ H Q->tT c σ H Q){σ:L2.St}{H:Hp}{Q:VK}(q:up X.mg N (j4 k ix it tt te) σ H Q):uU own ix (iH X.mg N it) (λ_=>qB X.K k) tT (λ_=>up X.mg N te) σ H Q:=by
 obtain⟨A,ι,τ,R,S,q,kq⟩:=q;refine⟨A,ι,τ,_,S,q,λitems W A1 F H1 J q1 e1 r1 j1 c acc f=>?_⟩;have S1:=S.next e1 r1;rw[Nk,hk];have Y:∀r,r<A1.length->F r≠acc:=λr n z=>by
  obtain⟨o,h1,_⟩:=r1.im r n;rw[z,f] at h1;cases h1
 have rn:=r1.oB (o:=.lst []) f;refine⟨λi m ys H'=>m=items.length - i/\i<=items.length/\∃A' ι' d,RA X.mg ι' H' A'/\Ext A1 F H1 A' ι' H'/\(∀r,r<A'.length->ι' r≠acc)/\H' acc=some (.lst ys)/\ah X.mg ι' A'.length H' d ys/\iV W k (ix.map (lk τ)) tt te (λys a=>R (.ref a.length) (a++[.lst ys])) (items.drop i) d A',
  ⟨_,rfl,zero_le _,A1,F,[],r1.fix rn (λb o z=>by rw[aS (cQ z f)];exact z),rn,Y,cW,rfl,by simpa using q1⟩,?_⟩
 rintro i m ys H2 ⟨rfl,hi,a,g,d,r2,D,l,hy,ry,E⟩;refine⟨hy,?_⟩;by_cases G:i<items.length
 .right
  have hd:items.drop i=items[i]::items.drop (i+1):=by rw[drop_eq_getElem_cons G]
  rw[hd] at E;obtain⟨t,E⟩:=E;obtain⟨g1,g2⟩:=j1.go i items[i] a g H2 (by rw[getElem?_eq_getElem G]) D r2 t;refine⟨g1,λO H'=>∃A' ι' L,RA X.mg ι' H' A'/\Ext A1 F H1 A' ι' H'/\(∀r,r<A'.length->ι' r≠acc)/\H' acc=some (.lst O)/\ah X.mg ι' A'.length H' L O/\iV W k (ix.map (lk τ)) tt te (λys a=>R (.ref a.length) (a++[.lst ys])) (items.drop (i+1)) L A',λO H' z=>⟨_,by omega,rfl,G,z⟩,λx H3 y=>?_⟩;obtain⟨e3,r3,v3⟩:=g2 x H3 y;split at E
  .rename_i vs hu
   obtain⟨xs,h1,h2,h3⟩:=N9 (K:=X.K) hu v3;refine h3 _ _ ⟨by have:=zj (fs:=ix.map λi=>(σ[i]?).join) (xs.map some);rw[length_map,<-ah.length h1,h2] at this;exact this,?_⟩;have I:=D.trans e3;have S3:cC X.mg N a g (vs.map some++ix.map (lk τ)) (xs.map some++ix.map λi=>(σ[i]?).join) H3:=⟨r3,RS.block (S1.rs.ext I) h1,S1.ex.trans I⟩;have Z:H3 acc=some (.lst ys):=e3.mo acc _ hy l;refine hT _ _ _ _ ⟨a,g,_,_,S3,E,λb A4 P H4 q4 T r4=>?_⟩;have w:∀r,r<A4.length->P r≠acc:=λr n z=>by
    by_cases G:r<a.length
    .rw[T.ag r G] at z;exact l r G z
    .have:=T.nw r (by omega) n
     rw[z,Z] at this;cases this
   have U:H4 acc=some (.lst ys):=T.mo acc _ Z l;have AW:=ah.ext (e3.trans T) d ys ry;cases b with
   |true=>
    refine Ic ?_;refine⟨A4,P,_,_,S3.next T r4,q4,λv A5 C0 H5 u q5 e5 r5 v5=>?_⟩;have V:H5 acc=some (.lst ys):=e5.mo acc _ U w;have M:∀r,r<A5.length->C0 r≠acc:=λr n z=>by
     by_cases G:r<A4.length
     .rw[e5.ag r G] at z;exact w r G z
     .have:=e5.nw r (by omega) n
      rw[z,U] at this;cases this
    have AX:=ah.ext e5 d ys AW;have p:=(I.trans T).trans e5;have fx:∀b o,gc o=false->H5 b=some o->upd H5 acc (.lst (ys++[u])) b=some o:=λb o m z=>by
     rw[aS]
     .exact z
     .rintro rfl
      rw[V] at z;cases z;cases m
    refine⟨V,by rw[<-ah.length AX];exact q5.1,A5,C0,d++[v],r5.off M V rfl,⟨p.len,p.ag,p.im,λb o z hn=>?_,p.nw,λb o z=>?_⟩,M,cW,?_,q5.2⟩
    .rw[aS (cQ z f)];exact p.mo b o z hn
    .obtain⟨o',h'⟩:=p.al b o z
     exact⟨o',by rw[aS (cQ z f)];exact h'⟩
    .exact ah.ag (le_refl _) (λ_ _=>rfl) fx _ _ (AX.app (es:=[v]) (ws:=[u]) ⟨u,[],rfl,v5,rfl⟩)
   |false=>
    refine Ib ?_;exact⟨A4,P,d,r4,I.trans T,w,U,AW,q4⟩
  .exact E.elim
 .left
  have e:i=items.length:=by omega
  subst e;rw[List.drop_length] at E;obtain⟨t,E⟩:=E;refine⟨j1.stop a g H2 D r2 t,?_⟩;obtain⟨B,j,at2⟩:∃B:Io,(∀r,r<a.length->B r=g r)/\B a.length=acc:=⟨λr=>if r=a.length then acc else g r,λr h=>by
   show(if r=a.length then acc else g r)=g r;rw[if_neg (by omega)],by
   show(if a.length=a.length then acc else g a.length)=acc;rw[if_pos rfl]⟩
  refine kq (.ref a.length) (a++[.lst d]) B H2 _ E (e1.trans ⟨by have:=D.len;simp;omega,λr h=>by rw[j r (lt_of_lt_of_le h D.len)];exact D.ag r h,D.im,D.mo,λr h1 h2=>?_,D.al⟩) ⟨λr c h=>?_,λr s n hs h=>?_⟩ ⟨by simp,by rw[at2]⟩
  .by_cases n:r<a.length
   .rw[j r n];exact D.nw r h1 n
   .have:r=a.length:=by simp at h2;omega
    subst this;rw[at2];exact f
  .by_cases n:r<a.length
   .rw[getElem?_append_left n] at h
    have:=CO.ag (n':=(a++[C.lst d]).length) (ι':=B) (H':=H2) (by simp) j (λ_ _ _ z=>z) (λ_ z=>z) c (r2.fk r c h);rw[j r n];exact this
   .have hr':r=a.length:=by
     have:=(List.getElem?_eq_some_iff.mp h).1;simp at this;omega
    subst hr';simp at h;subst h;rw[at2];exact⟨ys,hy,ah.ag (by simp) j (λ_ _ _ z=>z) d ys ry⟩
  .simp at n hs
   by_cases h1:r=a.length
   .by_cases h2:s=a.length
    .rw[h1,h2]
    .subst h1
     rw[at2,j s (by omega)] at h;exact absurd h.symm (l s (by omega))
   .by_cases h2:s=a.length
    .subst h2
     rw[at2,j r (by omega)] at h;exact absurd h (l r (by omega))
    .rw[j r (by omega),j s (by omega)] at h
     exact r2.inj r s (by omega) (by omega) h
end
def jN:dN:=λ_ A R=>R true A
section
variable{X:Cx}{N:En}{own frees:List Str}{ix:List Nat}{it:fF}{tt:dN}{te:aC}(k:Option Nat){tg iter elt O3:Expr}{scope:Scope}{pos:Pos}
theorem fK(a:own.length=k.getD 1)(hi:PI X tg iter (iH X.mg N it))(b:∀c,PG (bM X (own++frees) scope c) tg (qB X.K k))(d:∀c,PE (bM X (own++frees) scope c) elt (up X.mg N te))(S:fh X scope frees:=by exact⟨rfl,by decide+kernel,by decide+kernel,by decide+kernel,by decide+kernel,rfl⟩)(hc:X.calm=true:=by rfl)(e:ix.map (λi=>X.N[i]?)=frees.map some:=by rfl)(f:∀x,foldedSetIterable iter X.env x=pure x:=by intro _;rfl):
  PE X (.ListComp elt [⟨tg,iter,[],0⟩] scope pos) (up X.mg N (j4 k ix it jN te)):=
 c7 (KQ hi b (λc=>g_.nil) d S hc e f) λσ H Q q=>CS (own:=own) a (λ_ σ H Q h=>by
  obtain⟨A,ι,τ,R,S,h,k⟩:=h;exact k.here S.ra h) q
variable{i:Nat}{x:Str}{pos' spos:Pos}
theorem om(a:X.N.Nodup)(b:X.N[i]?=some x)(f:Loc X.env.scope x)(g:own.length=k.getD 1)(hi:PI X tg iter (iH X.mg N it))(j:∀c,PG (bM X (own++frees) scope c) tg (qB X.K k))(l:∀c,PE (bM X (own++frees) scope c) elt (up X.mg N te))(S:fh X scope frees:=by exact⟨rfl,by decide+kernel,by decide+kernel,by decide+kernel,by decide+kernel,rfl⟩)(hc:X.calm=true:=by rfl)(m:ix.map (λi=>X.N[i]?)=frees.map some:=by rfl)(n:∀x,foldedSetIterable iter X.env x=pure x:=by intro _;rfl)
  (d:swapsWith (.ListComp elt [⟨tg,iter,[],0⟩] scope pos) (some (.Name x pos')) spos.line X.env=pure true:=by rfl)(o:X.fn x=true\/X.env.scope.names.lookup x=some .local:=by first|exact .inl rfl|exact .inr rfl|assumption):
  PS X (.Assign [.Name x pos'] (.ListComp elt [⟨tg,iter,[],0⟩] scope pos) spos) (cj X.mg N (qu i (j4 k ix it jN te))):=
 fZ (Lv a b f hi j (λc=>g_.nil) l S hc m n d o) λQ σ H q=>by
  obtain⟨A,ι,τ,R,Z,q,k⟩:=q;exact CS (own:=own) g (λ_ σ H Q h=>by
   obtain⟨A,ι,τ,R,S,h,k⟩:=h;exact k.here S.ra h) ⟨A,ι,τ,_,Z,q,λv w p H1 u r e s t=>(k.nx.from e).here ((Z.next e s).set t) r⟩
end
abbrev jT:=bx->Ar->(Option Int->Ar->Prop)->Prop
def qF(mg:aj)(N:En)(m:jT):TO:=λσ H Q=>∃A ι τ R,cC mg N A ι τ σ H/\m τ A R/\∀o A' ι' H',R o A'->Ext A ι H A' ι' H'->RA mg ι' H' A'->Q o H'
def oN:jT:=λ_ A R=>R none A
def oS(m:aC):jT:=λτ A R=>m τ A λx A1=>match x with
 |.int i=>R (some i) A1
 |_=>False
def cutD(xs:List D)(lo hi:Option Int):List D:=(xs.drop (HT.aT xs.length 0 lo)).take (HT.aT xs.length xs.length hi - HT.aT xs.length 0 lo)
theorem ah.cut{mg:aj}{ι:Io}{H:Hp}{n:Nat}{ds:List D}{vs:List V}(r:ah mg ι n H ds vs)(lo hi:Option Int):ah mg ι n H (cutD ds lo hi) (iW vs lo hi):=by
 unfold cutD iW;rw[<-ah.length r];exact(r.drop _).take _
@[irreducible] def nh(r:Nat)(lo hi:Option Int)(A:Ar)(R:DK):Prop:=match A[r]? with
 |some (.lst xs)=>R (.ref A.length) (A++[.lst (cutD xs lo hi)])
 |_=>False
def M3(x:D)(lo hi:Option Int)(A:Ar)(R:DK):Prop:=match x with
 |.tup xs=>¬(HT.aT xs.length 0 lo=0/\HT.aT xs.length xs.length hi=xs.length)/\R (.tup (cutD xs lo hi)) A
 |.ref r=>nh r lo hi A R
 |_=>False
def EI(m:aC)(l u:jT):aC:=λτ A R=>m τ A λx A1=>l τ A1 λlo A2=>u τ A2 λhi A3=>M3 x lo hi A3 R
section
variable{X:Cx}{N:En}{pos p2:Pos}{e:Expr}{lo hi:Option Expr}{m:aC}{l u:jT}
theorem xW{t t':TO}(h:PO X lo t)(w:∀σ H Q,t' σ H Q->t σ H Q):PO X lo t':=λpins s σ H Q I q=>h pins s σ H Q I (w σ H Q q)
theorem xU:PO X none (qF X.mg N oN):=xW Lk λσ H Q q=>by
 obtain⟨A,ι,τ,R,S,q,k⟩:=q;exact k none A ι H q S.ra.refl S.ra
theorem xV(h:PE X e (up X.mg N m)):PO X (some e) (qF X.mg N (oS m)):=xW (Ll h) λσ H Q q=>by
 obtain⟨A,ι,τ,R,S,q,k⟩:=q;refine⟨A,ι,τ,_,S,q,λx c a H1 u b d f g=>?_⟩;cases x with
 |int i=>exact⟨i,g,k (some i) c a H1 b d f⟩
 |_=>exact b.elim
theorem xF(t:PE X e (up X.mg N m))(w:PO X lo (qF X.mg N l))(y:PO X hi (qF X.mg N u)):PE X (.Subscript e (.Slice lo hi none p2) pos) (up X.mg N (EI m l u)):=
 c7 (K3 (M5.or M4) t w y) λσ H Q q=>by
  obtain⟨A,ι,τ,R,S,q,k⟩:=q;refine⟨A,ι,τ,_,S,q,λx z d H1 v B f n C=>?_⟩;refine⟨z,d,τ,_,S.next f n,B,λD E g H2 F h G=>?_⟩;refine⟨E,g,τ,_,(S.next f n).next h G,F,λI J K M b o i=>?_⟩;have c:=(f.trans h).trans o;have s:=RV.ext (h.trans o) x v C;cases x with
  |tup ds=>
   obtain⟨a,xs,rfl,h1,h2⟩:=s;refine .inl ⟨a,xs,rfl,bq.of h1,by rw[<-ah.length h2];exact b.1,λp j=>pB (k.from c) i (h2.cut _ _) b.2 j⟩
  |ref r=>
   obtain⟨_,rfl⟩:=s;have b:nh r D I J R:=b;unfold nh at b;split at b
   .rename_i xs e
    obtain⟨L,h1,h2⟩:=i.lst e;exact .inr ⟨_,L,rfl,aO.of h1,λp j=>kI (k.from c) i (h2.cut _ _) b j⟩
   .exact b.elim
  |_=>exact b.elim
end
def Cu:List D->Option (List Str)
 |[]=>some []
 |.str b::r=>(Cu r).map (b::·)
 |_::_=>none
theorem ah.strs{mg:aj}{ι:Io}{H:Hp}:∀(ns:List Str) {n:Nat},ah mg ι n H (ns.map D.str) (ns.map V.str)
 |[],_=>rfl
 |i::r,n=>⟨_,_,rfl,rfl,ah.strs r⟩
@[irreducible] def Nf(r:Nat)(A:Ar)(R:DK):Prop:=match A[r]? with
 |some (.lst xs)=>(match Cu xs with
  |some ss=>ss.length<64/\∀ys:List Str,ys.Pairwise strLt->(∀x,x∈ys↔x∈ss)->R (.ref A.length) (A++[.lst (ys.map D.str)])
  |none=>False)
 |_=>False
def Pq:fU:=λvs A R=>match vs with
 |[.ref r]=>Nf r A R
 |_=>False
def bL{β:Type}(kvs:List (Key×β))(k:Key)(v:β):List (Key×β):=
 if (kvs.any λkv=>decide (kv.1=k))=true then kvs.map (λkv=>if kv.1=k then (kv.1,v) else kv) else kvs++[(k,v)]
section
variable{mg:aj}{ι:Io}{H:Hp}{n:Nat}
theorem RK.any{k:Key}:∀{kvs:List (Key×D)} {xs:List (Key×V)},RK mg ι n H kvs xs->(kvs.any λa=>decide (a.1=k))=(xs.any λa=>decide (a.1=k))
 |[],xs,h=>by cases (show xs=[] from h);rfl
 |p::r,xs,h=>by
  obtain⟨x,r',rfl,h1,h2⟩:=h;rw[any_cons,any_cons,RK.any h2]
theorem RK.tX{k:Key}{d:D}{v:V}(c:RV mg ι n H d v):∀{kvs:List (Key×D)} {xs:List (Key×V)},RK mg ι n H kvs xs->RK mg ι n H (kvs.map λa=>if a.1=k then (a.1,d) else a) (xs.map λa=>if a.1=k then (a.1,v) else a)
 |[],xs,h=>by cases (show xs=[] from h);rfl
 |p::r,xs,h=>by
  obtain⟨x,r',rfl,h1,h2⟩:=h;rw[map_cons,map_cons];by_cases b:p.1=k
  .rw[if_pos b,if_pos b];exact⟨v,_,rfl,c,RK.tX c h2⟩
  .rw[if_neg b,if_neg b];exact⟨x,_,rfl,h1,RK.tX c h2⟩
theorem RK.app:∀{ds es:List (Key×D)} {vs ws:List (Key×V)},RK mg ι n H ds vs->RK mg ι n H es ws->RK mg ι n H (ds++es) (vs++ws)
 |[],_,vs,_,h,q=>by have h':vs=[]:=h;rw[h'];exact q
 |d::ds,es,vs,ws,h,q=>by
  obtain⟨x,r,rfl,a,b⟩:=h;exact⟨x,r++ws,rfl,a,RK.app b q⟩
theorem RK.put{k:Key}{d:D}{v:V}(a:RV mg ι n H d v){kvs:List (Key×D)}{xs:List (Key×V)}(h:RK mg ι n H kvs xs):RK mg ι n H (bL kvs k d) (putK xs k v):=by
 unfold bL putK;rw[RK.any h];split
 .exact RK.tX a h
 .exact h.app (es:=[(k,d)]) (ws:=[(k,v)]) ⟨v,[],rfl,a,rfl⟩
end
def c9:List D->Option (List (Key×D))
 |[]=>some []
 |.tup [a,b]::r=>(match dQ a,c9 r with
  |some k,some l=>some ((k,b)::l)
  |_,_=>none)
 |_::_=>none
def kR(ps:List (Key×D)):List (Key×D):=ps.foldl (λacc p=>bL acc p.1 p.2) []
section
variable{mg:aj}{K:PySem.W.Frag}{ι:Io}{H:Hp}{n:Nat}
theorem Ab:∀{ds:List D} {c:List V} {ps:List (Key×D)},c9 ds=some ps->ah mg ι n H ds c->∃qs,RK mg ι n H ps qs/\c.length=qs.length/\∀(i:Nat) (x:V) (p:Key×V),c[i]?=some x->qs[i]?=some p->∃t,x=.ref t/\bq K H t [kV p.1,p.2]
 |[],c,ps,h,r=>by
  cases h;cases (show c=[] from r);exact⟨[],rfl,rfl,λi x p e=>by simp at e⟩
 |.tup [a,b]::ds,c,ps,h,r=>by
  obtain⟨x,r',rfl,h1,h2⟩:=r;unfold c9 at h;split at h
  .rename_i k l m o
   cases h;obtain⟨qs,q,s,u⟩:=Ab o h2;obtain⟨t,xs,rfl,v,B,_,rfl,w,d,_,rfl,y,A⟩:=h1;obtain rfl:=A;cases jE m w;refine⟨(k,d)::qs,⟨d,qs,rfl,y,q⟩,by simp[s],λi z p hz j=>?_⟩;cases i with
   |zero=>
    have f:V.ref t=z:=by simpa using hz
    have g:(k,d)=p:=by simpa using j
    subst f g;exact⟨t,rfl,bq.of v⟩
   |succ i=>exact u i z p (by simpa using hz) (by simpa using j)
  .cases h
 |.ao::_,_,_,h,_=>by simp[c9] at h
 |.bl _::_,_,_,h,_=>by simp[c9] at h
 |.int _::_,_,_,h,_=>by simp[c9] at h
 |.str _::_,_,_,h,_=>by simp[c9] at h
 |.ref _::_,_,_,h,_=>by simp[c9] at h
 |.fl _::_,_,_,h,_=>by simp[c9] at h
 |.exc _::_,_,_,h,_=>by simp[c9] at h
 |.tup []::_,_,_,h,_=>by simp[c9] at h
 |.tup [_]::_,_,_,h,_=>by simp[c9] at h
 |.tup (_::_::_::_)::_,_,_,h,_=>by simp[c9] at h
theorem RK.fold{ps:List (Key×D)}{qs:List (Key×V)}(h:RK mg ι n H ps qs):∀{acc:List (Key×D)} {lF:List (Key×V)},RK mg ι n H acc lF->RK mg ι n H (ps.foldl (λacc p=>bL acc p.1 p.2) acc) (qs.foldl (λacc p=>putK acc p.1 p.2) lF):=by
 induction ps generalizing qs with
 |nil=>intro acc lF ha;cases (show qs=[] from h);exact ha
 |cons p r a=>
  intro acc lF ha;obtain⟨x,r',rfl,h1,h2⟩:=h;exact a h2 (RK.put h1 ha)
end
theorem zU{mg:aj}{A:Ar}{ι:Io}{H:Hp}{R:DK}{Q:VK}{ds:List (Key×D)}{xs:List (Key×V)}{p:Addr}(k:Kt mg A ι H R Q)(r:RA mg ι H A)(h:RK mg ι A.length H ds xs)(q:R (.ref A.length) (A++[.dct ds]))(a:H p=none):Q (.ref p) (upd H p (.dK xs)):=by
 have E:Ext A ι H (A++[.dct ds]) (λr=>if r=A.length then p else ι r) (upd H p (.dK xs)):=r.sI a;obtain⟨b,d⟩:=r.push (c:=.dct ds) (o:=.dK xs) a ⟨xs,cW,by simpa using RK.ext E ds xs h⟩;refine k _ _ _ _ _ q d b ⟨by simp,?_⟩;show V.ref p=V.ref (if A.length=A.length then p else ι A.length);rw[if_pos rfl]
@[irreducible] def dctP(xs:List D)(A:Ar)(R:DK):Prop:=match c9 xs with
 |some ps=>ps.length<=1000/\R (.ref A.length) (A++[.dct (kR ps)])
 |none=>False
@[irreducible] def j6(r:Nat)(A:Ar)(R:DK):Prop:=match A[r]? with
 |some (.lst xs)=>dctP xs A R
 |_=>False
def xB:fU:=λvs A R=>match vs with
 |[.tup xs]=>dctP xs A R
 |[.ref r]=>j6 r A R
 |_=>False
theorem RK.len'{mg:aj}{ι:Io}{H:Hp}{n:Nat}{ds:List (Key×D)}{vs:List (Key×V)}(h:RK mg ι n H ds vs):vs.length=ds.length:=(RK.length h).symm
theorem ju{mg:aj}{K:PySem.W.Frag}:gq mg (λxs H Q=>∃(p:Addr) (ts:List V) (ps:List (Key×V)),xs=[.ref p]/\(H p=some (.lst ts)\/H p=some (.tup ts))/\Pairs K H ts ps/\ps.length<=1000/\∀d,H d=none->Q (.ref d) (upd H d (.dK (putAll ps)))) xB:=by
 intro ds A ι H c R Q ra rs h k;have fin:∀(xs:List D) (ts:List V) (p:Addr),ah mg ι A.length H xs ts->(H p=some (.lst ts)\/H p=some (.tup ts))->dctP xs A R->∃(q:Addr) (ts:List V) (ps:List (Key×V)),[V.ref p]=[.ref q]/\(H q=some (.lst ts)\/H q=some (.tup ts))/\Pairs K H ts ps/\ps.length<=1000/\∀d,H d=none->Q (.ref d) (upd H d (.dK (putAll ps))):=λxs ts p r g h=>by
  unfold dctP at h;split at h
  .rename_i ps ep
   obtain⟨qs,f,i,j⟩:=Ab (K:=K) ep r;exact⟨p,ts,qs,rfl,g,⟨i,j⟩,by rw[RK.len' f];exact h.1,λd hd=>zU k ra (RK.fold f (acc:=[]) (lF:=[]) rfl) h.2 hd⟩
  .exact h.elim
 unfold xB at h;split at h
 .obtain⟨_,_,rfl,⟨a,xs,rfl,l,b⟩,rfl⟩:=rs
  exact fin _ xs a b (.inr l) h
 .obtain⟨_,_,rfl,⟨_,rfl⟩,rfl⟩:=rs
  unfold j6 at h;split at h
  .rename_i xs e
   obtain⟨c,h1,b⟩:=ra.lst e;exact fin _ c _ b (.inl h1) h
  .exact h.elim
 .exact h.elim
def EF:aC:=λ_ A R=>R (.ref A.length) (A++[.dct []])
theorem sq{X:Cx}{N:En}{pos:Pos}:PE X (.Dict [] [] pos) (up X.mg N EF):=c7 KS λσ H Q q=>by
 obtain⟨A,ι,τ,R,S,q,k⟩:=q;exact λp a=>zU (ds:=[]) (xs:=[]) k S.ra rfl q a
@[irreducible] def m5(r:Nat)(y v:D)(A:Ar)(R:Ar->Prop):Prop:=match A[r]?,dQ y with
 |some (.dct kvs),some k=>kvs.length<sizeLine/\R (A.set r (.dct (bL kvs k v)))
 |_,_=>False
def Ml(mo mi mv:aC):cB:=λR τ A=>mv τ A λv A1=>mo τ A1 λx A2=>mi τ A2 λy A3=>match x with
 |.ref r=>m5 r y v A3 λA4=>R.nx τ A4
 |_=>False
theorem xY{X:Cx}{N:En}{pos pos':Pos}{o i value:Expr}{mo s mv:aC}(Y:X.A.units+64<cLine)(C:PE X o (up X.mg N mo))(hi:PE X i (up X.mg N s))(D:PE X value (up X.mg N mv))(F:swapsWith value (some (.Subscript o i pos')) pos.line X.env=pure false):
  PS X (.Assign [.Subscript o i pos'] value pos) (cj X.mg N (Ml mo s mv)):=fZ (Lw (by omega) C hi D F) λQ σ H q=>by
 obtain⟨A,ι,τ,R,S,q,k⟩:=q;refine⟨A,ι,τ,_,S,q,λv G j H1 w I b l J=>?_⟩;refine⟨G,j,τ,_,S.next b l,I,λx K m H2 u L d t v2=>?_⟩;refine⟨K,m,τ,_,(S.next b l).next d t,L,λy M O Z z a f g P=>?_⟩;have n:=RV.ext (d.trans f) v w J;have p:=RV.ext f x u v2;cases x with
 |ref r=>
  obtain⟨_,rfl⟩:=p;have a:m5 r y v M (λT=>R.nx τ T):=a;unfold m5 at a;split at a
  .rename_i kvs h e U
   obtain⟨xs,h1,h2⟩:=g.dct e;cases jE U P;refine⟨_,_,rfl,k_.k h1 (by rw[<-RK.length h2];exact a.1),?_⟩;have V:=(List.getElem?_eq_some_iff.mp e).1;have E:=g.kc (o:=.dK (putK xs h w)) (c:=.dct (bL kvs h v)) V;obtain⟨W,B⟩:=g.put (c':=.dct (bL kvs h v)) (o:=.dK (putK xs h w)) e h1 rfl ⟨_,cW,by simpa using RK.ext E _ _ (RK.put n h2)⟩;exact(k.nx.from (((b.trans d).trans f).trans B)).here ((((S.next b l).next d t).next f g).next B W) a.2
  .exact a.elim
 |_=>exact a.elim
def ug:DX:=λ_ _=>False
theorem kO{X:Cx}{N:En}{P:Program}{w:World}:Passes (br P w) X (EL X.mg N ug):=λpins σ H s e s' I h=>by
 obtain⟨a,C,H',_,_,c,A',ι',_,_,_,z⟩:=h;exact z.elim
theorem IL{K:PySem.W.Frag}:∀t∈tys,kitOne K (.type t) (.type "bool")=some (ja t "bool"):=by
 intro t a;simp only[tys,mem_cons,not_mem_nil,or_false] at a;rcases a with rfl|rfl|rfl|rfl|rfl|rfl|rfl<;>rfl
theorem IM{K:PySem.W.Frag}:∀t∈tys,kitOne K (.type t) (.type "int")=some (ja t "int"):=by
 intro t a;simp only[tys,mem_cons,not_mem_nil,or_false] at a;rcases a with rfl|rfl|rfl|rfl|rfl|rfl|rfl<;>rfl
theorem zh{K:PySem.W.Frag}:∀t∈tys,kitOne K (.type t) (.type "str")=some (ja t "str"):=by
 intro t a;simp only[tys,mem_cons,not_mem_nil,or_false] at a;rcases a with rfl|rfl|rfl|rfl|rfl|rfl|rfl<;>rfl
theorem kit_tuple{K:PySem.W.Frag}:∀t∈tys,kitOne K (.type t) (.type "tuple")=some (ja t "tuple"):=by
 intro t a;simp only[tys,mem_cons,not_mem_nil,or_false] at a;rcases a with rfl|rfl|rfl|rfl|rfl|rfl|rfl<;>rfl
theorem cI{b:Bool}{X Y:Prop}(h1:b=true->X)(h2:b=false->Y):cond b X Y:=by
 cases b with
 |true=>exact h1 rfl
 |false=>exact h2 rfl
theorem cD{p:Prop}[Decidable p]{X Y:Prop}(h1:p->X)(h2:¬p->Y):cond (decide p) X Y:=cI (λe=>h1 (of_decide_eq_true e)) λe=>h2 (of_decide_eq_false e)
theorem cN{p:Prop}[Decidable p]{X Y:Prop}(h1:¬p->X)(h2:p->Y):cond (!decide p) X Y:=cI (λe=>h1 (of_decide_eq_false (by simpa using e))) λe=>h2 (of_decide_eq_true (by simpa using e))
def cY(t:Nat)(A A':Ar):Prop:=∀q c,q≠t->A[q]?=some c->A'[q]?=some c
theorem cY.refl{t:Nat}{A:Ar}:cY t A A:=λ_ _ _ h=>h
theorem cY.trans{t:Nat}{A B C:Ar}(a:cY t A B)(b:cY t B C):cY t A C:=λq c n h=>b q c n (a q c n h)
theorem cY.set{t:Nat}{A:Ar}{c:C}:cY t A (A.set t c):=λq d n h=>by rw[getElem?_set_ne (Ne.symm n)];exact h
def Tw(t n:Nat)(A:Ar):Prop:=∃xs,A[t]?=some (.lst xs)/\xs.length<=n
theorem Tw.mono{t n m:Nat}{A:Ar}(h:Tw t n A)(l:n<=m):Tw t m A:=let ⟨xs,a,b⟩:=h;⟨xs,a,le_trans b l⟩
theorem getElem?_push{A T:Ar}{q:Nat}{c:C}(h:A[q]?=some c):(A++T)[q]?=some c:=by
 have:=(List.getElem?_eq_some_iff.mp h).1;rw[getElem?_append_left this];exact h
def Gr(A A':Ar):Prop:=∃T,A'=A++T
theorem Gr.refl{A:Ar}:Gr A A:=⟨[],by simp⟩
theorem Gr.push{A T:Ar}:Gr A (A++T):=⟨T,rfl⟩
theorem Gr.trans{A B C:Ar}(a:Gr A B)(b:Gr B C):Gr A C:=by
 obtain⟨T,rfl⟩:=a;obtain⟨c,rfl⟩:=b;exact⟨T++c,by simp⟩
theorem Gr.get{A B:Ar}(a:Gr A B){q:Nat}{c:C}(h:A[q]?=some c):B[q]?=some c:=by
 obtain⟨T,rfl⟩:=a;exact getElem?_push h
theorem Gr.but{A B:Ar}{t:Nat}(a:Gr A B):cY t A B:=λ_ _ _ h=>a.get h
theorem Tw.gr{A B:Ar}{t n:Nat}(h:Tw t n A)(a:Gr A B):Tw t n B:=let ⟨xs,x,y⟩:=h;⟨xs,a.get x,y⟩
def vG:Ct:=λds A R _=>∃ns k,ds=[.fl ns,.int k]/\0<=k/\∀i A',Gr A A'->R (.int i) A'
def vQ:Ct:=λds A R _=>∃ns k m,ds=[.fl ns,.int k,.int m]/\0<=k/\0<m/\∀i A',0<=i->i<m->Gr A A'->R (.int i) A'
def lz:Ct:=λds A R _=>∃ns t m n,ds=[.fl ns,.ref t,.int m]/\Tw t n A/\n<1000000/\0<m/\∀i A',0<=i->i<m->cY t A A'->Tw t (n+1) A'->R (.int i) A'
def rB:Ct:=λds A R _=>∃ns t q xs n,ds=[.fl ns,.ref t,.ref q]/\q≠t/\A[q]?=some (.lst xs)/\xs≠[]/\Tw t n A/\n<1000000/\∀x A',x∈xs->cY t A A'->Tw t (n+1) A'->R x A'
theorem rM{α:Type}{xs:List α}{k:Int}(h0:0<=k)(h:k<(xs.length:Int)):∃v,bJ xs k=some v/\v∈xs:=by
 have a:k.toNat<xs.length:=by omega
 refine⟨xs[k.toNat],?_,List.getElem_mem a⟩;unfold bJ gM;rw[if_pos h0,if_pos h];simp[getElem?_eq_getElem a]
theorem lay_ints:∀ns:List Int,canLayAll0 (ns.map PyData.int)=true
 |[]=>by simp[canLayAll0]
 |n::r=>by simp[canLayAll0,canLay0,lay_ints r]
theorem aR{A:Ar}{c:C}:(A++[c])[A.length]?=some c:=by simp
theorem FJ{ns:List Int}{A:Ar}{R:DK}(h:R (.bl (decide (ns=[]))) (A++[.lst []])):fJ false (.fl ns) (.ref A.length) (A++[.lst []]) R:=by
 unfold fJ;have a:cV (A++[.lst []]) (.ref A.length)=.list []:=by unfold cV;simp only[aR];rfl
 have b:cV (A++[.lst []]) (.fl ns)=.list (ns.map PyData.int):=by unfold cV;rfl
 refine⟨rfl,?_,?_,?_,?_,?_⟩
 .unfold ji;simp only[aR];rfl
 .rw[b];simpa[canLay0] using lay_ints ns
 .rw[a];simp[canLay0,canLayAll0]
 .rw[a];simp[PyData.depth,depthAll];omega
 .rw[b,a]
  have e:PyData.eqv (.list (ns.map PyData.int)) (.list [])=decide (ns=[]):=by cases ns<;>simp[PyData.eqv,eqvAll]
  rw[if_neg Bool.false_ne_true,e];exact h
section
variable{A:Ar}{r q t:Nat}{xs ys:List D}{kvs:List (Key×D)}{R:DK}
theorem jA(h:A[r]?=some (.lst xs)):jz A (.ref r)=true:=by unfold jz;simp only[h]
theorem nU{y:D}(h:A[r]?=some (.lst xs))(hz:xs.length<sizeLine)(k:R .ao (A.set r (.lst (xs++[y])))):nS r y A R:=by
 unfold nS;simp only[h];exact⟨hz,k⟩
theorem ym(h:A[r]?=some (.lst xs))(h2:A[q]?=some (.lst ys))(hz:xs.length+ys.length<=sizeLine)(k:R .ao (A.set r (.lst (xs++ys)))):oz r q A R:=by
 unfold oz;simp only[h,h2];exact⟨hz,k⟩
theorem j0(h:A[r]?=some (.lst xs))(h2:A[q]?=some (.lst ys))(hz:xs.length+ys.length<=sizeLine)(k:R (.ref A.length) (A++[.lst (xs++ys)])):nW r q A R:=by
 unfold nW;simp only[h,h2];exact⟨hz,k⟩
theorem kE(h:A[r]?=some (.lst xs))(k:R (.int xs.length) A):oY r A R:=by
 unfold oY;simp only[h];exact k
theorem bE{i:Int}{v:D}(h:A[r]?=some (.lst xs))(hi:bJ xs i=some v)(k:R v A):iO r (.int i) A R:=by
 unfold iO;simp only[h,hi];exact k
theorem Oc(h:A[r]?=some (.lst xs))(k:R (.tup xs) A):qD r A R:=by
 unfold qD;simp only[h];exact k
theorem get_set(h:A[t]?=some (.lst xs)):(A.set t (.lst ys))[t]?=some (.lst ys):=by
 rw[getElem?_set_self (List.getElem?_eq_some_iff.mp h).1]
theorem dJ{c:C}(h:A[t]?=some c):t<A.length:=(List.getElem?_eq_some_iff.mp h).1
end
end DP
namespace L2
section
variable{X:Cx}{D:Addr}{cn:Str}{b₀:Stmt}{suite body:List Stmt}{tb:List (Addr×Obj)->(aE)->XK->TS}{th:TS}{np hpos pos:Pos}
end
end L2
namespace DP
open L2
open MA
abbrev M:=aD Str
def enc:M->D
 |.wt n=>.tup [.str "weight",.str n]
 |.aM l r a b=>.tup [.str "rod",.int l,.int r,enc a,enc b]
theorem gH{k:Option Nat}{fr:bx}{te:aC}{a:Ar->Prop}{R:List D->Ar->Prop}{A:Ar}(hc:a A)(f:D->D):∀(items ys:List D),(∀x∈items,∃vs,nA k x=some vs/\∀Q:DK,Q (f x) A->te (vs.map some++fr) A Q)->ys.length+items.length<=sizeLine->R (ys++items.map f) A->iV a k fr jN te R items ys A
 |[],ys,_,_,h=>⟨hc,by simpa using h⟩
 |x::xs,ys,b,c,h=>by
  obtain⟨vs,d,e⟩:=b x (mem_cons_self ..);refine⟨hc,?_⟩;rw[d];refine e _ ⟨by simp at c;omega,gH hc f xs (ys++[f x]) (λy g=>b y (mem_cons_of_mem _ g)) (by simp at c ⊢;omega) (by simpa using h)⟩
theorem rS{α:Type}(f:α->Bool):∀xs:List α,gz (xs.map λx=>D.bl (f x))=some (xs.map f)
 |[]=>rfl
 |x::r=>by simp[gz,rS f r]
theorem wc{A:Ar}{r:Nat}{xs:List D}{bs:List Bool}{R:DK}(h:A[r]?=some (.lst xs))(hb:gz xs=some bs)(k:R (.bl (bs.all id)) A):allR r A R:=by
 unfold allR;simp only[h,hb];exact k
theorem eG{A:Ar}{r:Nat}{xs:List D}{R:List D->(Ar->Prop)->Ar->Prop}(h:A[r]?=some (.lst xs))(k:R xs (λA'=>A'[r]?=some (.lst xs)) A):itR r A R:=by
 unfold itR;simp only[h];exact k
structure Nm(n:Str):Prop where
 lo:1<=n.length
 hi:n.length<=3
 az:∀c∈n.cps.toList,97<=c/\c<=122
structure Wf(m:M):Prop where
 arms:m.arms
 nm:∀n∈m.names,Nm n
def SV(dom:List D->D->Prop):Ct:=λds A R _=>∃v,dom ds v/\∀A',Gr A A'->R v A'
def SL(dom:List D->List D->Prop):Ct:=λds A R _=>∃v,dom ds v/\∀A' r,Gr A A'->A'[r]?=some (.lst v)->R (.ref r) A'
abbrev q9:Ct:=SV λds v=>∃m,ds=[enc m]/\Wf m/\m.deep<=5/\v=.ao
theorem l0{P:Program}{w:World}{K:PySem.W.Frag}{mg:aj}{base:Heap}{x:Str}{st:Stmt}{ps:List Str}{k n:Nat}{S:Ct}(T:TopD K mg x st ps)(no:∀ds A R RE,¬S ds A R RE):av P w K mg base k x ps (au mg n S):=by
 obtain⟨f,fd,F,b,m⟩:=T;have a:∀vs H Q E,¬au mg n S vs H Q E:=λvs H Q E h=>by
  obtain⟨A,ι,ds,R,RE,_,_,_,z,_⟩:=h;exact no _ _ _ _ z
 exact⟨f,fd,⟨λvs H Q E h=>absurd h (a vs H Q E),λA outer s H args c vs Q E _ _ _ _ h=>absurd h (a vs H Q E)⟩,b,F.kp,m⟩
def aW(r:Str×Int):D:=.tup [.str r.1,.int r.2]
def d7(rs:List (Str×Int)):D:=.tup (rs.map aW)
def bY(rs:List (Str×Int)):List (Key×D):=rs.map λr=>(Sum.inr r.1,.int r.2)
def val(rs:List (Str×Int))(n:Str):Int:=((rs.find? λr=>r.1=n).map (·.2)).getD 0
theorem uP{a b:Str}(h:strLt a b):a≠b:=λe=>by
 subst e;exact List.lt_irrefl _ h
theorem sR:∀(rs:List (Str×Int)) (n:Str),n∈rs.map (·.1)->aN (bY rs) (Sum.inr n)=some (.int (val rs n))
 |[],n,h=>by simp at h
 |r::rs,n,h=>by
  unfold bY aN val;by_cases e:r.1=n
  .simp[e]
  .have h':n∈rs.map (·.1):=by
    rcases mem_cons.mp (show n∈r.1::rs.map (·.1) from h) with q|q
    .exact absurd q.symm e
    .exact q
   have a:¬(Sum.inr r.1:Key)=Sum.inr n:=λz=>e (Sum.inr.inj z);have:=sR rs n h';simp only[map_cons,a,if_false,find?_cons,e,decide_false];exact this
theorem Ao{kvs:List (Key×D)}{k:Key}{v:D}(h:∀p∈kvs,p.1≠k):bL kvs k v=kvs++[(k,v)]:=by
 unfold bL;rw[if_neg];intro z;obtain⟨p,a,e⟩:=any_eq_true.mp z;exact h p a (of_decide_eq_true e)
theorem Am:∀(rs:List (Str×Int)) (acc:List (Key×D)),(rs.map (·.1)).Pairwise strLt->(∀p∈acc,∀r∈rs,p.1≠Sum.inr r.1)->(bY rs).foldl (λacc p=>bL acc p.1 p.2) acc=acc++bY rs
 |[],acc,_,_=>by simp[bY]
 |r::rs,acc,f,c=>by
  have b:=pairwise_cons.mp (show(r.1::rs.map (·.1)).Pairwise strLt from f);have e:bL acc (Sum.inr r.1) (.int r.2)=acc++[(Sum.inr r.1,.int r.2)]:=Ao λp a=>c p a r (mem_cons_self ..);show(bY rs).foldl _ (bL acc (Sum.inr r.1) (.int r.2))=_;rw[e,Am rs _ b.2]
  .simp[bY]
  .intro p a q d
   rcases mem_append.mp a with z|z
   .exact c p z q (mem_cons_of_mem _ d)
   .have g:p=(Sum.inr r.1,.int r.2):=by simpa using z
    subst g;exact λe=>uP (b.1 q.1 (mem_map_of_mem d)) (Sum.inr.inj e)
theorem Ac:∀rs:List (Str×Int),c9 (rs.map aW)=some (bY rs)
 |[]=>rfl
 |r::rs=>by
  have:=Ac rs;simp only[map_cons,aW,c9,dQ,this,bY]
def jf:M->Str->List (Str×Str)
 |.wt n,w=>[(w,n)]
 |.aM _ _ a b,w=>jf a (w++"l")++jf b (w++"r")
theorem o6:∀(m:M) (w:Str),(jf m w).map (·.2)=m.names
 |.wt n,w=>rfl
 |.aM _ _ a b,w=>by
  show List.map _ (_++_)=a.names++b.names;rw[map_append,o6 a,o6 b]
theorem o5(m:M)(w:Str):(jf m w).length=m.names.length:=by rw[<-o6 m w,length_map]
def zG(p:Str×Str):D:=.tup [.str p.1,.str p.2]
abbrev vM(d:Nat):Ct:=SL λds v=>∃m w,ds=[enc m,.str w]/\m.deep<d/\w.length+d<=100/\d<=8/\v=(jf m w).map zG
theorem rZ{k:Option Nat}{fr:bx}{te:aC}{a:Ar->Prop}{R:List D->Ar->Prop}(f:D->D):∀(items ys:List D) (A:Ar),(∀A',Gr A A'->a A')->(∀x∈items,∀A',Gr A A'->∃vs,nA k x=some vs/\∀Q:DK,(∀b,Gr A' b->Q (f x) b)->te (vs.map some++fr) A' Q)->ys.length+items.length<=sizeLine->(∀A',Gr A A'->R (ys++items.map f) A')->iV a k fr jN te R items ys A
 |[],ys,A,hc,_,_,h=>⟨hc A Gr.refl,by simpa using h A Gr.refl⟩
 |x::xs,ys,A,hc,d,e,h=>by
  obtain⟨vs,i,j⟩:=d x (mem_cons_self ..) A Gr.refl;refine⟨hc A Gr.refl,?_⟩;rw[i];refine j _ λl c=>⟨by simp at e;omega,rZ f xs (ys++[f x]) l (λA' g=>hc A' (c.trans g)) (λy m A' g=>d y (mem_cons_of_mem _ m) A' (c.trans g)) (by simp at e ⊢;omega) (λA' g=>by simpa using h A' (c.trans g))⟩
theorem Nm.ok{n:Str}(h:Nm n):canLay0 (.str n)=true:=by
 have e:n.cps.all (λc=>decide (c<0x110000))=true:=by
  rw[<-Array.all_toList,all_eq_true];intro c hc;have:=h.az c hc;exact decide_eq_true (by omega)
 simpa[canLay0,PyData.strOk] using e
theorem d8{A:Ar}{r:Nat}{kvs:List (Key×D)}{y v:D}{k:Key}{R:DK}(h:A[r]?=some (.dct kvs))(a:dQ y=some k)(b:aN kvs k=some v)(q:R v A):iO r y A R:=by
 unfold iO;simp only[h,a,b];exact q
theorem s8{A:Ar}{r:Nat}{kvs:List (Key×D)}{y:D}{k:Key}{R:DK}{neg:Bool}(h:A[r]?=some (.dct kvs))(a:dQ y=some k)(q:R (.bl (if neg then !(aN kvs k).isSome else (aN kvs k).isSome)) A):inR neg y r A R:=by
 unfold inR;simp only[h,a];exact q
def rd(a b:Int):Int×Int:=(a/(Int.gcd a b:Int),b/(Int.gcd a b:Int))
abbrev rj:Ct:=SV λds v=>∃a b:Int,ds=[.int a,.int b]/\0<=a/\0<=b/\v=.int (Int.gcd a b:Int)
abbrev nN:Ct:=SV λds v=>∃a b:Int,ds=[.int a,.int b]/\0<a/\0<b/\a<2 ^ 2000/\v=.tup [.int (rd a b).1,.int (rd a b).2]
theorem Gr.len{A B:Ar}(a:Gr A B):A.length<=B.length:=by
 obtain⟨T,rfl⟩:=a;simp
theorem zg{z:Str}{i:Int}{c:Nat}{A:Ar}{R:DK}(h:bJ z.cps.toList i=some c)(hz:z.length<=sizeLine)(k:R (.str ⟨#[c]⟩) A):jC (.str z) (.int i) A R:=by
 show(match bJ z.cps.toList i with|some c=>z.length<=sizeLine/\R (.str ⟨#[c]⟩) A|none=>False);rw[h];exact⟨hz,k⟩
end DP
namespace DP
open L2
section
variable{X:Cx}{N:En}{e:Expr}{m:aC}{p p2 pos:Pos}{x:Str}{O0:Str->Option Bool}
end
section
variable{X:Cx}{N:En}{k n:Nat}{x:Str}{ps:List Str}{S:Ct}{e:Expr}{es:List Expr}{m:bZ}{p pos:Pos}
end
end DP
namespace L2
section
variable{X:Cx}
def AA(K:PySem.W.Frag)(neg:Bool):R2:=λx y H Q=>∃xs d,(Dp K H y (.tuple xs)\/Dp K H y (.list xs))/\Dp K H x d/\canLayAll0 xs=true/\d.canLay0=true/\min (depthAll xs) d.depth<=60/\Q (.bl (if neg then !(xs.any λz=>PyData.eqv z d) else xs.any λz=>PyData.eqv z d)) H
theorem Kw(i:X.A.units+64<cLine):aX X (compareOp .NotIn) (AA X.K true):=by
 intro pins s σ H x y v u Q I f a h;obtain⟨xs,d,hy,g,b,c,hd,q⟩:=h;obtain⟨bs,e⟩:=Dp.reads I d x v g f;rcases hy with hy|hy
 .obtain⟨as,ra⟩:=Dp.reads I _ y u hy a
  exact SeqAt.notIn_tuple_reads ra e b c (by omega) ⟨.bl _,H,I,rfl,q⟩
 .obtain⟨as,ra⟩:=Dp.reads I _ y u hy a
  exact SeqAt.notIn_list_reads ra e b c (by omega) ⟨.bl _,H,I,rfl,q⟩
end
end L2
namespace DP
open L2
@[irreducible] def ku(neg:Bool)(x:D)(xs:List D)(A:Ar)(R:DK):Prop:=ji A x=true/\gR xs=true/\canLayAll0 (bu xs)=true/\(cV A x).canLay0=true/\min (depthAll (bu xs)) (cV A x).depth<=60/\R (.bl (if neg then !((bu xs).any λz=>PyData.eqv z (cV A x)) else (bu xs).any λz=>PyData.eqv z (cV A x))) A
@[irreducible] def za(neg:Bool)(x:D)(r:Nat)(A:Ar)(R:DK):Prop:=match A[r]? with
 |some (.lst xs)=>ku neg x xs A R
 |_=>False
def oK(neg:Bool):cO:=λx y A R=>match y with
 |.tup xs=>ku neg x xs A R
 |.ref r=>za neg x r A R
 |_=>False
theorem EU{mg:aj}{K:PySem.W.Frag}(neg:Bool):cF mg (AA K neg) (oK neg):=by
 intro x y A ι H u v R Q ra f g h k;unfold oK at h;split at h
 .obtain⟨a,xs,rfl,i,b⟩:=g
  unfold ku at h;obtain⟨p1,p2,c,d,hd,q⟩:=h;exact⟨_,_,.inl (.tup (bq.of i) (ah.dp _ xs p2 b)),ra.dp p1 f,c,d,hd,k.here ra q rfl⟩
 .obtain⟨_,rfl⟩:=g
  unfold za at h;split at h
  .rename_i xs e
   obtain⟨j,h1,b⟩:=ra.lst e;unfold ku at h;obtain⟨p1,p2,c,d,hd,q⟩:=h;exact⟨_,_,.inr (.lst (aO.of h1) (ah.dp _ j p2 b)),ra.dp p1 f,c,d,hd,k.here ra q rfl⟩
  .exact h.elim
 .exact h.elim
section
variable{X:Cx}{N:En}{pos:Pos}{a b:Expr}{ma mb:aC}
theorem N7(c:X.A.units+64<cLine)(ha:PE X a (up X.mg N ma))(hb:PE X b (up X.mg N mb))(d:behindInMarks .NotIn b=false:=by rfl):PT X (.Compare a [.NotIn] [b] pos) (cz X.mg N (eW (b9 (oK true) ma mb))):=iL (Kw c) (EU true) ha hb d
end
end DP
namespace L2
section
variable{prog:Program}{w:World}{B:Around}{E:aE}
end
section
variable{X:Cx}{pos:Pos}
end
end L2
namespace DP
open L2
theorem Gr.set{A B:Ar}{r:Nat}{c:C}(g:Gr A B)(h:A.length<=r):Gr A (B.set r c):=by
 obtain⟨T,rfl⟩:=g;exact⟨T.set (r - A.length) c,by rw[List.set_append_right _ _ h]⟩
open MA
theorem Wf.left{l r:Int}{a b:M}(h:Wf (.aM l r a b)):Wf a:=⟨h.arms.2.2.2.2.1,λn c=>h.nm n (by simp[aD.names,c])⟩
theorem Wf.right{l r:Int}{a b:M}(h:Wf (.aM l r a b)):Wf b:=⟨h.arms.2.2.2.2.2,λn c=>h.nm n (by simp[aD.names,c])⟩
theorem ah.of_get{mg:aj}{ι:Io}{H:Hp}{n:Nat}:∀{ds:List D} {vs:List V},ds.length=vs.length->(∀(i:Nat) d v,ds[i]?=some d->vs[i]?=some v->RV mg ι n H d v)->ah mg ι n H ds vs
 |[],[],_,_=>rfl
 |[],_::_,h,_=>by cases h
 |_::_,[],h,_=>by cases h
 |d::ds,v::vs,h,k=>⟨v,vs,rfl,k 0 d v rfl rfl,ah.of_get (by simpa using h) λi d v h1 h2=>k (i+1) d v (by simpa using h1) (by simpa using h2)⟩
theorem RA.FU{mg:aj}{A:Ar}{ι:Io}{H H':Hp}(R:RA mg ι H A)(g:h_ H H'):Ext A ι H A ι H':=⟨le_refl _,λ_ _=>rfl,R.im,λb u h _=>g b u h,λr h1 h2=>absurd h2 (by omega),λb u h=>⟨u,g b u h⟩⟩
@[irreducible] def nu(a b:Nat)(A:Ar)(R:DK):Prop:=match A[a]?,A[b]? with
 |some (.lst xs),some (.lst ys)=>R (.tup ((xs.zip ys).map λp=>.tup [p.1,p.2])) A
 |_,_=>False
def EJ(n:bZ):aC:=λτ A R=>n τ A λvs A1=>match vs with
 |[.ref a,.ref b]=>nu a b A1 R
 |_=>False
theorem Fd{X:Cx}{N:En}{a b:Expr}{n:bZ}{p1 p2 pos1 pos2:Pos}(r:X.mg "tuple"=none)(s:X.mg "zip"=none)(hc:X.calm=true)(ha:PA X [a,b] (dW X.mg N n))(u:Gl X "tuple":=by rfl)(v:Gl X "zip":=by rfl)
  (O:starEach [a,b] X.env=[(false,eval a X.env),(false,eval b X.env)]:=by rfl)(w:starEach [b] X.env=[(false,eval b X.env)]:=by rfl)
  (hz:starEach [.Call (.Name "zip" p2) [a,b] [] pos2] X.env=[(false,eval (.Call (.Name "zip" p2) [a,b] [] pos2) X.env)]:=by rfl):
  PE X (.Call (.Name "tuple" p1) [.Call (.Name "zip" p2) [a,b] [] pos2] [] pos1) (up X.mg N (EJ n)):=
 c7 (K6 u r boot_tuple v s (by decide+kernel) hc ha O w hz) λσ H Q q=>by
  obtain⟨A,ι,τ,R,S,q,k⟩:=q
  refine⟨A,ι,τ,_,S,q,λvs I z H1 us e P m o=> ?_⟩
  match vs,e,o with
  |[.ref x,.ref y],e,o=>
   obtain⟨_,_,rfl,⟨_,rfl⟩,_,_,rfl,⟨_,rfl⟩,rfl⟩:=o
   have e:nu x y I R:=e
   unfold nu at e
   split at e
   .rename_i ds es T U
    obtain⟨xs,h1,J⟩:=m.lst T
    obtain⟨ys,h2,K⟩:=m.lst U
    refine⟨_,_,xs,ys,rfl,aO.of h1,aO.of h2,λl H' ps L hl V f g=> ?_⟩
    have E:=m.FU L
    refine k _ I z H' _ e (P.trans E) (m.fix E L) ⟨l,ps,rfl,V,ah.of_get ?_ λi d p hd B=> ?_⟩
    .rw[f,length_map,length_zip,ah.length J,ah.length K]
    .obtain⟨t,M,C,rfl,W,Y,Z⟩:=g i p B
     rw[getElem?_map] at hd
     cases c:(ds.zip es)[i]? with
     |none=>rw[c] at hd;cases hd
     |some pr=>
      rw[c] at hd
      cases hd
      have D:ds[i]? =some pr.1:=by
       rw[List.getElem?_zip_eq_some] at c
       exact c.1
      have hd2:es[i]? =some pr.2:=by
       rw[List.getElem?_zip_eq_some] at c
       exact c.2
      obtain⟨o,h,F⟩:=ah.get J D
      obtain⟨v2,j,G⟩:=ah.get K hd2
      rw[W] at h
      rw[Y] at j
      cases h
      cases j
      exact⟨t,[M,C],rfl,Z,M,[C],rfl,RV.ext E _ _ F,C,[],rfl,RV.ext E _ _ G,rfl⟩
   .exact e.elim
@[irreducible] def qv(r:Nat)(A:Ar)(R:DK):Prop:=match A[r]? with
 |some (.dct kvs)=>∃ns:List Str,kvs.map (·.1)=ns.map Sum.inr/\ns.Nodup/\ns.length<64/\∀ys:List Str,ys.Pairwise strLt->(∀x,x∈ys↔x∈ns)->R (.ref A.length) (A++[.lst (ys.map D.str)])
 |_=>False
def Ca:fU:=λvs A R=>match vs with
 |[.ref r]=>qv r A R
 |_=>False
theorem RK.keys{mg:aj}{ι:Io}{H:Hp}{n:Nat}:∀{ds:List (Key×D)} {vs:List (Key×V)},RK mg ι n H ds vs->vs.map (·.1)=ds.map (·.1)
 |[],vs,h=>by have h':vs=[]:=h;rw[h'];rfl
 |d::ds,vs,h=>by
  obtain⟨x,r,rfl,_,a⟩:=h;simp[RK.keys a]
theorem E3{mg:aj}:gq mg (λxs H Q=>∃(d:Addr) (kvs:List (Key×V)) (ns:List Str),xs=[.ref d]/\H d=some (.dK kvs)/\kvs.map (·.1)=ns.map Sum.inr/\ns.Nodup/\ns.length<64/\
  ∀(l:Addr) (ys:List Str),H l=none->ys.Pairwise strLt->(∀x,x∈ys↔x∈ns)->Q (.ref l) (upd H l (.lst (ys.map V.str)))) Ca:=by
 intro ds A ι H m R Q ra rs h k;unfold Ca at h;split at h
 .obtain⟨_,_,rfl,⟨_,rfl⟩,rfl⟩:=rs
  unfold qv at h;split at h
  .rename_i kvs e
   obtain⟨ns,h1,h2,a,b⟩:=h;obtain⟨xs,c,f⟩:=ra.dct e;exact⟨_,xs,ns,rfl,c,by rw[RK.keys f,h1],h2,a,λl ys g i j=>kI k ra (ah.strs ys) (b ys i j) g⟩
  .exact h.elim
 .exact h.elim
theorem MZ{A:Ar}{r:Nat}{kvs:List (Key×D)}{ns:List Str}{R:DK}(h:A[r]?=some (.dct kvs))(b:kvs.map (·.1)=ns.map Sum.inr)(c:ns.Nodup)(a:ns.length<64)(k:∀ys:List Str,ys.Pairwise strLt->(∀x,x∈ys↔x∈ns)->R (.ref A.length) (A++[.lst (ys.map D.str)])):qv r A R:=by
 unfold qv;simp only[h];exact⟨ns,b,c,a,k⟩
theorem OB{A:Ar}{a b:Nat}{xs ys:List D}{R:DK}(h1:A[a]?=some (.lst xs))(h2:A[b]?=some (.lst ys))(k:R (.tup ((xs.zip ys).map λp=>.tup [p.1,p.2])) A):nu a b A R:=by
 unfold nu;simp only[h1,h2];exact k
open MA
def aZ:M->Str->Rat->List (Str×Str×Rat)
 |.wt n,w,x=>[(w,n,x)]
 |.aM l r a b,w,x=>aZ a (w++("l":Str)) (x*((r:Rat)/((l+r:Int):Rat)))++aZ b (w++("r":Str)) (x*((l:Rat)/((l+r:Int):Rat)))
theorem kU:∀(m:M) (w:Str) (x:Rat),(aZ m w x).length=m.names.length
 |.wt _,_,_=>rfl
 |.aM _ _ a b,w,x=>by
  show List.length (_++_)=List.length (_++_);rw[length_append,length_append,kU a,kU b]
theorem jh{m:M}(h:m.deep<=5):m.names.length<=32:=
 le_trans (aD.jg m) (pow_le_pow_right (by decide) h:2 ^ m.deep<=2 ^ 5)
theorem mZ{j k:Nat}(h:j<=k):(18:Int) ^ j<=18 ^ k:=by
 have:(18:Nat) ^ j<=18 ^ k:=pow_le_pow_right (by decide) h;exact_mod_cast this
theorem uw(k:Nat):(1:Int)<=18 ^ k:=by
 have:1<=(18:Nat) ^ k:=Nat.one_le_pow _ _ (by decide);exact_mod_cast this
theorem xM{D a:Int}{j k:Nat}(h:D*18 ^ (max j k+1)<=1000000000)(hd:a<=D*18)(c:0<D):a*18 ^ j<=1000000000/\a*18 ^ k<=1000000000/\D<=1000000000:=by
 have e:D*18 ^ (max j k+1)=D*18*18 ^ max j k:=by rw[pow_succ,mul_comm (18 ^ max j k) 18,<-mul_assoc]
 rw[e] at h;have p1:=mZ (le_max_left j k);have p2:=mZ (le_max_right j k);have b:=uw (max j k);have d:=uw j;have f:=uw k;refine⟨Int.le_trans (mul_le_mul hd p1 (by omega) (by omega)) h,Int.le_trans (mul_le_mul hd p2 (by omega) (by omega)) h,?_⟩;have:D*1<=D*18*18 ^ max j k:=mul_le_mul (by omega) b (by omega) (by omega);omega
theorem Jc{n:Nat}(h:n<2 ^ 2000):n.log2<9000:=by
 by_cases h0:n=0
 .rw[h0];decide+kernel
 .exact(log2_lt h0).mpr (lt_of_lt_of_le h (pow_le_pow_right (by decide) (by decide)))
theorem wJ:∀(xs:List Rat) (x:Rat) (b:Int),bot (xs++[x]) b=bot xs b*(rf x).2/(Int.gcd (bot xs b) (rf x).2:Int)
 |[],x,b=>rfl
 |y::r,x,b=>by
  show bot (r++[x]) _=_;rw[wJ r x];rfl
theorem yK:∀(ns:List Int) (n d:Int),cP (ns++[n]) d=(Int.gcd (cP ns d) n:Int)
 |[],n,d=>rfl
 |m::r,n,d=>by
  show cP (r++[n]) _=_;rw[yK r n];rfl
structure gW(x:Rat):Prop where
 pos:0<x
 num:(rf x).1<=2000000
 den:(rf x).2<=2000000
theorem Lp{c a b:Nat}(hc:0<c)(h:a<=b):(c:Int) ^ a<=(c:Int) ^ b:=by
 rw[<-natCast_pow,<-natCast_pow];exact Int.ofNat_le.mpr (pow_le_pow_right hc h)
theorem Lo{a b:Nat}(h:a<=b):(2000000:Int) ^ a<=2000000 ^ b:=Lp (c:=2000000) (by decide) h
theorem JF{n:Int}{c k:Nat}(h0:0<n)(h:n<=(c:Int) ^ k):n.natAbs<=c ^ k:=by
 have:(n.natAbs:Int)<=(c:Int) ^ k:=by omega
 rw[<-natCast_pow] at this;exact Int.ofNat_le.mp this
theorem JE{n:Int}{k:Nat}(h0:0<n)(h:n<=2000000 ^ k):n.natAbs<=2000000 ^ k:=JF (c:=2000000) h0 h
theorem D0{xs:List Rat}(h:∀x∈xs,gW x)(a:xs.length<=32):bot xs 1<=2000000 ^ 32:=by
 have:=bot_le 2000000 (by decide) xs 1 (by decide) λx b=>(h x b).den;rw[one_mul] at this;exact Int.le_trans this (Lo a)
theorem u6{xs:List Rat}(h:∀x∈xs,gW x)(c:xs.length<=32){n:Int}(d:n∈ups xs):0<n/\n<=2000000 ^ 33:=by
 obtain⟨x,a,rfl⟩:=mem_map.mp d;have f:=h x a;refine⟨qI a f.pos,?_⟩;have hb:=D0 h c;obtain⟨b,_,_⟩:=jn xs 1 (by decide);have h1:bot xs 1/(rf x).2<=bot xs 1:=ediv_le_self _ (Int.le_of_lt b);have h0:0<=bot xs 1/(rf x).2:=Int.ediv_nonneg (Int.le_of_lt b) (Int.le_of_lt (cK x));have e:=dh f.pos;rw[show(33:Nat)=32+1 from rfl,pow_succ,mul_comm _ (2000000:Int)];exact mul_le_mul f.num (Int.le_trans h1 hb) h0 (by decide)
theorem o4{n:Int}(h0:0<n)(h:n<=2000000 ^ 33):n.natAbs.log2<9000:=
 Jc (Nat.lt_of_le_of_lt (JE h0 h) (by decide+kernel))
theorem Cf{n:Int}(h:n<=2000000):n<=2000000 ^ 33:=Int.le_trans h (by decide+kernel)
def Cons{W N S:Type}(l:List (W×N×S)):Prop:=∀a∈l,∀b∈l,a.2.1=b.2.1->a.2.2=b.2.2
theorem found{W N S:Type}[DecidableEq N]{l:List (W×N×S)}{n:N}{p:W×N×S}(h:l.find? (λp=>decide (p.2.1=n))=some p):p.2.1=n:=by
 have:=find?_some h;simpa using this
theorem rP{W N S:Type}[DecidableEq N][DecidableEq S]:∀(r pre:List (W×N×S)),bC pre r=none->Cons pre->Cons (pre++r)
 |[],pre,_,h=>by rw[append_nil];exact h
 |(g,n,s)::r,pre,hb,h=>by
  have e:pre++(g,n,s)::r=(pre++[(g,n,s)])++r:=by simp
  rw[e];cases j:pre.find? (λp=>decide (p.2.1=n)) with
  |none=>
   have i:bC (pre++[(g,n,s)]) r=none:=by
    have:=hb;unfold bC at this;rw[j] at this;exact this
   refine rP r _ i λa ha b hbm d=>?_;have no:∀c∈pre,c.2.1≠n:=λc hc z=>by
    have:=find?_eq_none.mp j c hc;exact this (decide_eq_true z)
   rcases mem_append.mp ha with ha|ha<;>rcases mem_append.mp hbm with hbm|hbm
   .exact h a ha b hbm d
   .rw[mem_singleton.mp hbm] at d
    exact absurd d (no a ha)
   .rw[mem_singleton.mp ha] at d
    exact absurd d.symm (no b hbm)
   .rw[mem_singleton.mp ha,mem_singleton.mp hbm]
  |some p=>
   have f:=hb;unfold bC at f;rw[j] at f;by_cases es:p.2.2=s
   .have i:bC (pre++[(g,n,s)]) r=none:=by
     have:(if p.2.2=s then bC (pre++[(g,n,s)]) r else some (p.1,g))=none:=f;rwa [if_pos es] at this
    have l:=mem_of_find?_eq_some j;have k:p.2.1=n:=found j;refine rP r _ i λa ha b hbm d=>?_;have to:∀c∈pre,c.2.1=n->c.2.2=s:=λc hc z=>by rw[h c hc p l (by rw[z,k]),es]
    rcases mem_append.mp ha with ha|ha<;>rcases mem_append.mp hbm with hbm|hbm
    .exact h a ha b hbm d
    .rw[mem_singleton.mp hbm] at d ⊢
     exact to a ha d
    .rw[mem_singleton.mp ha] at d ⊢
     exact(to b hbm d.symm).symm
    .rw[mem_singleton.mp ha,mem_singleton.mp hbm]
   .have:(if p.2.2=s then bC (pre++[(g,n,s)]) r else some (p.1,g))=none:=f
    rw[if_neg es] at this;cases this
theorem kW:∀(m:M) (w:Str) (x:Rat),(aZ m w x).map (·.2.1)=m.names
 |.wt _,_,_=>rfl
 |.aM _ _ a b,w,x=>by
  show((aZ a _ _++aZ b _ _).map (·.2.1))=a.names++b.names;rw[map_append,kW a,kW b]
theorem uK:∀(m:M) (w:Str) (x:Rat),(aZ m w x).map (·.2.2)=m.sh x
 |.wt _,_,_=>rfl
 |.aM _ _ a b,w,x=>by
  show((aZ a _ _++aZ b _ _).map (·.2.2))=a.sh _++b.sh _;rw[map_append,uK a,uK b]
noncomputable def shr(m:M):Str->Rat:=λx=>match (aZ m "" 1).find? (λp=>decide (p.2.1=x)) with|some p=>p.2.2|none=>0
theorem jM{m:M}(h:bC [] (aZ m "" 1)=none):(∀a∈aZ m "" 1,a.2.2=shr m a.2.1)/\m.names.map (shr m)=m.sh 1:=by
 have hc:=rP (aZ m "" 1) [] h (by intro a ha;simp at ha);rw[nil_append] at hc;have key:∀a∈aZ m "" 1,a.2.2=shr m a.2.1:=λa ha=>by
  show _=(match (aZ m "" 1).find? (λp=>decide (p.2.1=a.2.1)) with|some p=>p.2.2|none=>0);cases b:(aZ m "" 1).find? (λp=>decide (p.2.1=a.2.1)) with
  |none=>exact absurd (decide_eq_true rfl) (find?_eq_none.mp b a ha)
  |some p=>exact(hc p (mem_of_find?_eq_some b) a ha (found b)).symm
 refine⟨key,?_⟩;rw[<-kW m "" 1,<-uK m "" 1,map_map];exact map_congr_left λa ha=>(key a ha).symm
theorem num_mul{t:Rat}{a b:Int}(hb:0<b)(c:0<=(rf t).1*a):(rf (t*((a:Rat)/(b:Rat)))).1<=(rf t).1*a:=by
 rw[<-uF,<-ql (mul_pos (cK t) hb)];exact ediv_le_self _ c
theorem uN:∀(m:M) (x:Rat) (B:Int),m.arms->0<x->(rf x).1<=B->∀s∈m.sh x,(rf s).1<=B*18 ^ m.deep
 |.wt _,x,B,_,h1,h2,s,hs=>by
  have:s=x:=by simpa[aD.sh] using hs
  subst this;simpa[aD.deep] using h2
 |.aM l r a b,x,B,h,h1,h2,s,hs=>by
  obtain⟨c,o,d,p,e,f⟩:=h;have g:0<B:=Int.lt_of_lt_of_le (dh h1) h2;have np:=dh h1;have i:(rf (x*((r:Rat)/((l+r:Int):Rat)))).1<=B*18:=by
   refine Int.le_trans (num_mul (by omega) (mul_nonneg (by omega) (by omega))) ?_;exact mul_le_mul h2 (by omega) (by omega) (by omega)
  have j:(rf (x*((l:Rat)/((l+r:Int):Rat)))).1<=B*18:=by
   refine Int.le_trans (num_mul (by omega) (mul_nonneg (by omega) (by omega))) ?_;exact mul_le_mul h2 (by omega) (by omega) (by omega)
  have p1:0<x*((r:Rat)/((l+r:Int):Rat)):=aD.step_pos c d h1;have p2:0<x*((l:Rat)/((l+r:Int):Rat)):=by
   have:=aD.step_pos (l:=r) (r:=l) d c h1;rwa [add_comm r l] at this
  have up:∀k:Nat,k<=max a.deep b.deep->B*18*18 ^ k<=B*18 ^ (max a.deep b.deep+1):=λk n=>by
   rw[pow_succ,mul_assoc,mul_comm 18 (18 ^ k)];refine Int.mul_le_mul_of_nonneg_left ?_ (Int.le_of_lt g);exact Int.mul_le_mul_of_nonneg_right (mZ n) (by decide)
  rcases mem_append.mp (show s∈a.sh _++b.sh _ from hs) with hs|hs
  .exact Int.le_trans (uN a _ _ e p1 i s hs) (up _ (le_max_left _ _))
  .exact Int.le_trans (uN b _ _ f p2 j s hs) (up _ (le_max_right _ _))
theorem M0{m:M}(ha:m.arms)(d:m.deep<=5):∀s∈m.sh 1,0<s/\(rf s).1<=1889568/\(rf s).2<=1889568:=λs a=>by
 obtain⟨f,b⟩:=aD.uL m 1 1 ha (by decide) (by decide) s a;have c:=uN m 1 1 ha (by decide) (by decide) s a;have p:=mZ d;have e:(18:Int) ^ 5=1889568:=by decide
 rw[e] at p;rw[one_mul] at b c;exact⟨f,Int.le_trans c p,Int.le_trans b p⟩
theorem ng{m:M}(ha:m.arms)(a:m.deep<=5)(h:bC [] (aZ m "" 1)=none){x:Str}(b:x∈m.names):gW (shr m x):=by
 have:shr m x∈m.sh 1:=by
  rw[<-(jM h).2];exact mem_map.mpr ⟨x,b,rfl⟩
 obtain⟨h1,h2,c⟩:=M0 ha a _ this;exact⟨h1,by omega,by omega⟩
structure Lst(m:M)(s:Str->Rat)(B:Str->Int):Prop where
 pos:∀x∈m.names,1<=B x
 gcd:∀k:Int,(∀x∈m.names,k∣B x)->k∣1
 prop:∃c:Rat,0<c/\∀x∈m.names,(B x:Rat)=c*s x
section
variable{m:M}{s:Str->Rat}{B:Str->Int}
end
theorem OP{ys:List Str}{ks:List Int}(h:ks.length=ys.length):(ys.zip ks).map (·.1)=ys:=by
 rw[show(λx:Str×Int=>x.1)=Prod.fst from rfl,map_fst_zip (by omega)]
theorem eZ{a:Ar->Prop}{g:gU}{b:cB}{R:jj}(J:List D->bx->Ar->Prop)(hc:∀rest τ A,J rest τ A->a A)
  (e:∀x rest τ A,J (x::rest) τ A->∀c:bx->Ar->Prop,(∀bU A',J rest bU A'->c bU A')->g x τ A λd h=>b {R with nx:=c,ct:=c,bk:=R.nx} d h)(f:∀τ A,J [] τ A->R.nx τ A):∀(items:List D) (τ:bx) (A:Ar),J items τ A->j5 a g b R items τ A
 |[],τ,A,j=>⟨hc _ _ _ j,f _ _ j⟩
 |x::rest,τ,A,j=>⟨hc _ _ _ j,e _ _ _ _ j _ λbU A' i=>eZ J hc e f rest bU A' i⟩
theorem rY{k:Option Nat}{fr:bx}{te:aC}{a:Ar->Prop}{R:List D->Ar->Prop}(J:List D->List D->Ar->Prop)(hc:∀rest ys A,J rest ys A->a A)(c:∀rest ys A,J rest ys A->ys.length<=sizeLine)
  (d:∀x rest ys A,J (x::rest) ys A->∃vs,nA k x=some vs/\∀Q:DK,(∀y b,J rest (ys++[y]) b->Q y b)->te (vs.map some++fr) A Q)(e:∀ys A,J [] ys A->R ys A):∀items ys A,J items ys A->iV a k fr jN te R items ys A
 |[],ys,A,j=>⟨hc _ _ _ j,e _ _ j⟩
 |x::rest,ys,A,j=>by
  obtain⟨vs,g,q⟩:=d _ _ _ _ j;refine⟨hc _ _ _ j,?_⟩;rw[g];refine q _ λy b f=>⟨?_,rY J hc c d e rest _ _ f⟩;have:=c _ _ _ f;simp at this;omega
theorem Gr.z5{A d A':Ar}{t:Nat}(g:Gr A d)(e:A.length<=t)(b:cY t d A'):Gr A A':=by
 have key:∀q c,A[q]?=some c->A'[q]?=some c:=λq c h=>b q c (by have:=dJ h;omega) (g.get h);refine⟨A'.drop A.length,ext_getElem? λq=>?_⟩;by_cases a:q<A.length
 .rw[getElem?_append_left a,getElem?_eq_getElem a]
  exact key q _ (getElem?_eq_getElem a)
 .rw[getElem?_append_right (by omega),List.getElem?_drop]
  congr 1;omega
end DP
namespace L2
end L2
namespace DP
open L2
end DP
namespace L2
open PySem.SeqAt
def jQ(op:CmpOp)(A:Around)(s:Shared)(y x:Value)(b:Bool):Prop:=∀(prog:Program) (w:World) (E:aE) (Q:aE),Q (.bool b) s->wpAny (model prog w) A (richCompare op y x) Q E s
inductive gx(op:CmpOp)(A:Around)(s:Shared)(fin b:Bool):List (Value×Value)->Prop
 |nil:fin=b->gx op A s fin b []
 |eq {y x:Value} {r:List (Value×Value)}:EqAt A s y x true->gx op A s fin b r->gx op A s fin b ((y,x)::r)
 |ne {y x:Value} {r:List (Value×Value)}:EqAt A s y x false->jQ op A s y x b->gx op A s fin b ((y,x)::r)
open AutoSeq1 (wpAny_loadPart')
open MeetsSeq MeetsSeq2 MeetsSeq3 SeqRoads2
theorem Oe(l b:Addr)(items a:Array Value)(n n2:Nat)(dd f:Option Addr)(m i:Array (Option Value))(res:Bool):
  Meets (Builtin.«tuple.__lt__» ⟨[.ref l,.ref b],[]⟩)
   (λA R s=>s.heap.get? l=some {cls:=.type "tuple",dict:=dd,data:=.seq items n,slots:=m}/\s.heap.get? b=some {cls:=.type "tuple",dict:=f,data:=.seq a n2,slots:=i}/\
    gx .Lt A.in1 s (decide (items.size<a.size)) res (items.toList.zip a.toList)/\R (.ok (.ret (.bool res))) s):=
 .of_wp λprog w A R s h=>by
  obtain⟨k,g,d,tk,os⟩:=s;obtain⟨o,hb,p,h⟩:=h;have f2:=AutoSeq1.sub_tuple_tuple;wp_walk using wpAny_loadPart' o,wpAny_loadPart' hb,wpAny_forIn_list _ (λrest b s'=>b.1=none/\s'=⟨k,g,d,tk,os⟩/\gx .Lt A.in1 ⟨k,g,d,tk,os⟩ (decide (items.size<a.size)) res rest) _;case turn=>
   rintro ⟨y,x⟩ rest b s' ⟨c,rfl,j⟩;cases j with
   |eq h1 h2=>
    refine wpAny_bind (h1 prog w _ _ ?_);wp_walk;exact⟨rfl,rfl,h2⟩
   |ne h1 h2=>
    refine wpAny_bind (h1 prog w _ _ ?_);simp only[Bool.not_false,if_true];refine wpAny_bind (wpAny_rule ?_);refine wpAny_bind (h2 prog w _ _ ?_);wp_walk;exact⟨_,rfl,h⟩
  case fin=>
   rintro ⟨q,r⟩ s' ⟨c,rfl,j⟩;simp only at c;subst c;cases j with
   |nil e=>
    wp_walk;exact⟨_,rfl,by rw[<-e] at h;simpa[Builtin.Tuple.tupleCompareSizes] using h⟩
  case h=>
   exact⟨rfl,rfl,p⟩
mutual
def ltQ:PyData->PyData->Option Bool
 |.int i,.int j=>some (decide (i<j))
 |.str x,.str y=>some (decide (x.cps.toList<y.cps.toList))
 |.tuple xs,.tuple ys=>dR xs ys
 |_,_=>none
def dR:List PyData->List PyData->Option Bool
 |[],[]=>some false
 |[],_::_=>some true
 |_::_,[]=>some false
 |x::xs,y::ys=>match PyData.eqv x y with
  |true=>dR xs ys
  |false=>ltQ x y
end
theorem Ef(i j:Int)(A:Around)(s:Shared)(a b:Value)(as bs:List Addr)(r:Bool)(e:ltQ (.int i) (.int j)=some r)(ra:Reads s.heap a (.int i) as)(c:Reads s.heap b (.int j) bs):jQ .Lt A s a b r:=by
 cases ra;cases c;rw[ltQ] at e;cases e;intro prog w E Q q;exact lt_int q
theorem Eg(xs ys:List PyData)(A:Around)(s:Shared)(a b:Value)(as bs:List Addr)(r:Bool)(i:A.units+min (PyData.tuple xs).depth (PyData.tuple ys).depth<cLine)(L:∀d vs as bs,ReadsAll s.heap d xs as->ReadsAll s.heap vs ys bs->A.in1.units+min (depthAll xs) (depthAll ys)<cLine->gx .Lt A.in1 s (decide (d.length<vs.length)) r (d.zip vs))(ra:Reads s.heap a (.tuple xs) as)(m:Reads s.heap b (.tuple ys) bs):jQ .Lt A s a b r:=by
 cases ra with
 | @tuple l o vs n _ e h1 h2 j p=>
  cases m with
  | @tuple t o' c n' _ f k1 k2 k3 u=>
   obtain⟨cls,dd,data,v⟩:=o;obtain⟨k,g,data2,h⟩:=o';simp only at h2 j k2 k3;subst h2 j k2 k3;have L:=L vs.toList c.toList _ _ p u (room_in i);intro prog w E Q q;exact richCompare_meets_room (op:=.Lt) ⟨_,h1,rfl⟩ ⟨_,k1,rfl⟩ F.slot_tuple_lt F.entry_tuple_lt (F.args_tuple_lt_2 _ _) (Oe l t vs c n n' dd g v h r)
    ⟨h1,k1,by simpa using L,show Value.bool r≠Value.notImplemented/\Q (.bool r) s from⟨(λx=>nomatch x),q⟩⟩ (room_here i)
theorem Ei(i j:Str)(A:Around)(s:Shared)(a b:Value)(as bs:List Addr)(r:Bool)(e:ltQ (.str i) (.str j)=some r)(ra:Reads s.heap a (.str i) as)(c:Reads s.heap b (.str j) bs):jQ .Lt A s a b r:=by
 cases ra;cases c;rw[ltQ] at e;cases e;intro prog w E Q q;exact lt_str q
theorem zu{α β:Type}{a:α}{b:β}{u:List α}{v:List β}:decide ((a::u).length<(b::v).length)=decide (u.length<v.length):=by simp
theorem Eh(x y:PyData)(xs ys:List PyData)(A:Around)(s:Shared)(a vs:List Value)(as bs:List Addr)(r:Bool)(e:dR (x::xs) (y::ys)=some r)(ra:ReadsAll s.heap a (x::xs) as)(i:ReadsAll s.heap vs (y::ys) bs)(ha:canLayAll0 (x::xs)=true)(hb:canLayAll0 (y::ys)=true)
 (g:A.units+min (depthAll (x::xs)) (depthAll (y::ys))<cLine)
 (j:∀a vs as bs,dR xs ys=some r->ReadsAll s.heap a xs as->ReadsAll s.heap vs ys bs->canLayAll0 xs=true->canLayAll0 ys=true->A.units+min (depthAll xs) (depthAll ys)<cLine->gx .Lt A s (decide (a.length<vs.length)) r (a.zip vs))
 (L2:∀u v as bs,ltQ x y=some r->Reads s.heap u x as->Reads s.heap v y bs->x.canLay0=true->y.canLay0=true->A.units+min x.depth y.depth<cLine->jQ .Lt A s u v r):gx .Lt A s (decide (a.length<vs.length)) r (a.zip vs):=by
  have b:x.canLay0=true/\canLayAll0 xs=true:=by simpa[canLayAll0] using ha
  have d:y.canLay0=true/\canLayAll0 ys=true:=by simpa[canLayAll0] using hb
  cases ra with
  |cons a1 a2=>
   cases i with
   |cons h k=>
    have f:=eqAt_reads x y A s _ _ _ _ a1 h b.1 d.1 (room_head g)
    rw[dR] at e
    cases c:PyData.eqv x y with
    |true=>
     rw[c] at e f
     have L:=j _ _ _ _ e a2 k b.2 d.2 (room_tail g)
     rw[zu]
     exact .eq f L
    |false=>
     rw[c] at e f
     exact .ne f (L2 _ _ _ _ e a1 h b.1 d.1 (room_head g))
mutual
theorem Ej:∀(d db:PyData) (A:Around) (s:Shared) (a b:Value) (as bs:List Addr) (r:Bool),ltQ d db=some r->Reads s.heap a d as->Reads s.heap b db bs->d.canLay0=true->db.canLay0=true->
  A.units+min d.depth db.depth<cLine->jQ .Lt A s a b r
 |.none,db,A,s,_,_,_,_,r,e,ra,c,_,_,_=>by simp[ltQ] at e
 |.bool _,db,A,s,_,_,_,_,r,e,ra,c,_,_,_=>by simp[ltQ] at e
 |.list _,db,A,s,_,_,_,_,r,e,ra,c,_,_,_=>by simp[ltQ] at e
 |.dict _,db,A,s,_,_,_,_,r,e,ra,c,_,_,_=>by simp[ltQ] at e
 |.int i,db,A,s,_,_,_,_,r,e,ra,c,_,_,_=>by
  cases db with
  |int j=>exact Ef i j A s _ _ _ _ r e ra c
  |_=>simp[ltQ] at e
 |.str i,db,A,s,_,_,_,_,r,e,ra,c,_,_,_=>by
  cases db with
  |str j=>exact Ei i j A s _ _ _ _ r e ra c
  |_=>simp[ltQ] at e
 |.tuple xs,db,A,s,_,_,_,_,r,e,ra,c,ha,hb,f=>by
  cases db with
  |tuple ys=>exact Eg xs ys A s _ _ _ _ r f (λg vs as bs h1 h2 h=>tM xs ys A.in1 s g vs as bs r (by rw[ltQ] at e;exact e) h1 h2 ha hb h) ra c
  |_=>simp[ltQ] at e
theorem tM:∀(xs ys:List PyData) (A:Around) (s:Shared) (a vs:List Value) (as bs:List Addr) (r:Bool),dR xs ys=some r->ReadsAll s.heap a xs as->ReadsAll s.heap vs ys bs->canLayAll0 xs=true->canLayAll0 ys=true->
  A.units+min (depthAll xs) (depthAll ys)<cLine->gx .Lt A s (decide (a.length<vs.length)) r (a.zip vs)
 |[],ys,A,s,_,_,_,_,r,e,ra,b,_,_,_=>by
  cases ys with
  |nil=>cases ra;cases b;rw[dR] at e;cases e;exact .nil (by simp)
  |cons y ys=>cases ra;cases b;rw[dR] at e;cases e;exact .nil (by simp)
 |x::xs,ys,A,s,a,vs,as,bs,r,e,ra,b,ha,hb,h=>by
  cases ys with
  |nil=>cases ra;cases b;rw[dR] at e;cases e;exact .nil (by simp)
  |cons y ys=>exact Eh x y xs ys A s a vs as bs r e ra b ha hb h (λa vs as bs h1 h2 c d f g=>tM xs ys A s a vs as bs r h1 h2 c d f g) (λu v as bs h1 h2 c d f g=>Ej x y A s u v as bs r h1 h2 c d f g)
end
section
variable{prog:Program}{w:World}{A:Around}{E:aE}{s:Shared}
end
section
variable{X:Cx}
end
end L2
namespace DP
open L2
end DP
namespace SR
end SR
namespace SI
open SS
section
variable{prog:Program}{w:World}{A:Around}{E:aE}{s:Shared}
end
section
variable{prog:Program}{w:World}{A:Around}{R:Result->Shared->Prop}{I:Addr}{fp wr:List Addr}{G:Array GenState->Array GenState->Prop}{n:Nat}{P:Nat->Value->Prop}{St:Nat->Shared->Prop}
end
section
variable{prog:Program}{w:World}{A:Around}{E:aE}{s:Shared}
end
section
variable{prog:Program}{w:World}{A:Around}{E:aE}{s:Shared}
end
section
variable{prog:Program}{w:World}{A:Around}{E:aE}{s:Shared}{it a:Addr}{es:Array (Int×Value)}{ep:Nat}{t:SetTable}
end
section
variable{prog:Program}{w:World}{A:Around}{E:aE}{s:Shared}{it a:Addr}{es:Array (Int×Value)}{ep:Nat}{t:SetTable}
end
end SI
namespace L2
section
variable{X:Cx}
end
end L2
namespace DP
open L2
section
variable{X:Cx}{N:En}{e:Expr}{n:bZ}{p1 p2 pos1 pos2:Pos}
end
end DP
namespace HT
open L2
section
variable{prog:Program}{w:World}{A:Around}{E:aE}{s:Shared}
end
end HT
namespace L2
section
variable{X:Cx}
end
end L2
namespace DP
open L2
section
variable{X:Cx}{N:En}{pos p2:Pos}{e:Expr}{lo hi:Option Expr}{m:aC}{l u:jT}
end
end DP
namespace L2
section
variable{X:Cx}{pins:aK}{σ:St}{H:Hp}{s:Shared}{d:Addr}{kvs:List (Key×V)}
theorem Inv.swap{u g:HO}(I:Inv X pins σ H s)(hd:H d=some u)(j:∀xs,u≠ .tup xs)(k:∀ps,u≠ .fR ps)(l:∀a,u≠ .own a)(m:∀o v,X.H₀ d=some (.bh o v)->False)(q:bw X.prog X.w H s.heap d g):Inv X pins σ (upd H d g) s:=by
 have nn:∀b,H b=none->upd H d g b=none:=λb h=>by
  rw[aS (λz=>by rw[z,hd] at h;cases h)];exact h
 have st:∀(a:Addr) (o:HO),bw X.prog X.w H s.heap a o->bw X.prog X.w (upd H d g) s.heap a o:=λa o x=>
  x.stay (λb v _ e=>e) (λb h=>by rw[aS (λz=>by rw[z,hd] at h;exact l a (Option.some.inj h))];exact h) λb xs h=>by rw[aS (λz=>by rw[z,hd] at h;exact j xs (Option.some.inj h))];exact h
 refine⟨I.ok,I.os,I.bare,⟨I.base.keep,I.base.slot,λb o e n r=>nn b (I.base.free b o e n r),I.base.there,λb xs h=>?_,λb o v h=>?_,λb ps h=>?_⟩,I.loc,I.cell,nn _ I.free,λx c e=>nn _ (I.ir x c e),λp i=>?_,λa o h=>?_,I.len⟩
 .have h':=I.base.tups b xs h
  rw[aS (λz=>by rw[z,hd] at h';exact j xs (Option.some.inj h'))];exact h'
 .have h':=I.base.eF b o v h
  rw[aS (λz=>by rw[z] at h;exact m o v h)];exact h'
 .obtain⟨f,h'⟩:=I.base.fD b ps h
  exact⟨f,by rw[aS (λz=>by rw[z,hd] at h';exact k _ (Option.some.inj h'))];exact h'⟩
 .obtain⟨h1,h2,t⟩:=I.pin p i
  exact⟨h1,nn _ h2,t⟩
 .by_cases z:a=d
  .subst z
   rw[cW] at h;cases h;exact st _ _ q
  .rw[aS z] at h
   exact st _ _ (I.hok a o h)
theorem Inv.fz(I:Inv X pins σ H s)(hd:H d=some (.dK kvs)):(∀o v,X.H₀ d=some (.bh o v)->False)/\∃o,Inv X pins σ (upd H d (.bh o (.dK kvs))) s:=by
 have a:∀o v,X.H₀ d=some (.bh o v)->False:=λo v h=>by
  have:=I.base.eF d o v h;rw[hd] at this;cases this
 have b:=I.hok d _ hd;obtain⟨h1,h2,vs,f,c⟩:=id b;obtain⟨o,es,ep,e,r⟩:=id c;exact⟨a,o,I.swap hd (λ_ z=>by cases z) (λ_ z=>by cases z) (λ_ z=>by cases z) a ⟨e,b⟩⟩
theorem Inv.CM{o:Obj}(I:Inv X pins σ H s)(hd:H d=some (.bh o (.dK kvs)))(a:∀o v,X.H₀ d=some (.bh o v)->False):Inv X pins σ (upd H d (.dK kvs)) s:=
 I.swap hd (λ_ z=>by cases z) (λ_ z=>by cases z) (λ_ z=>by cases z) a (I.hok d _ hd).2
end
def qT(a:Addr)(o:Obj)(ks:List Key):It:=
 ⟨λi H=>∃kvs,H a=some (.bh o (.dK kvs))/\kvs.map (·.1)=ks/\i<ks.length,λi H x H'=>H'=H/\∃k,ks[i]?=some k/\x=kV k,λi H=>∃kvs,H a=some (.bh o (.dK kvs))/\kvs.map (·.1)=ks/\ks.length<=i⟩
theorem LZ{k:Key}{v:Value}(h:iP k v=true):RelV (kV k) v:=by
 rcases f9 h with⟨i,t,rfl,rfl⟩|⟨x,t,rfl,rfl⟩
 .exact⟨t,rfl⟩
 .exact⟨t,rfl⟩
theorem sN{X:Cx}{pins:aK}{σ:St}{H:Hp}{s:Shared}{a:Addr}{o:Obj}{kvs:List (Key×V)}{es:Array DictEntry}{ep:Nat}(I:Inv X pins σ H s)(h:H a=some (.bh o (.dK kvs)))(b:o.data=.dict es ep):(a==sysModules)=false/\∃vs:List (Key×Value),vs.map (·.1)=kvs.map (·.1)/\s.heap.DictAt (cg X.prog X.w) a vs ep:=by
 obtain⟨e,hz,h2,vs,c,f⟩:=(show bw X.prog X.w H s.heap a (.bh o (.dK kvs)) from I.hok a _ h);obtain⟨o',g,i,d,hc,hd,r⟩:=f;rw[e] at d;cases d;rw[b] at hd;cases hd;refine⟨h2,vs,?_,⟨o,es,e,hc,b,r⟩⟩;clear r h2 h e hz;unfold KV at c;induction c with
 |nil=>rfl
 |cons p t j=>rw[map_cons,map_cons,j,p.1]
theorem Oh{P:Program}{w:World}{K:PySem.W.Frag}{tg:Expr}(a it:Addr){o:Obj}{ks:List Key}{es:Array DictEntry}{ep:Nat}(A:o.data= .dict es ep):Turn P w K tg (qT a o ks) [it] it (λi h=>h.IsKeyIter it a i ks.length ep) where
 mem:=by simp
 obj:=λi h st b hb=>by
  have e:b=it:=by simpa using hb
  subst e
  obtain⟨o,e,c,d⟩:=st
  exact⟨o,e,λv z=>by rw[d] at z;cases z⟩
 keep:=λi h h' st k=>st.at λo e=>k it (by simp) o e
 item:=by
  intro X p q r hc i pins s σ H E I l st t
  subst p q r
  obtain⟨kvs,h1,h2,C⟩:=t
  obtain⟨D,vs,m,f⟩:=sN I h1 A
  have n:vs.length=ks.length:=by rw[<-h2,<-m,length_map]
  obtain⟨f0,f1,f2,u,f4,x⟩:=l it (by simp)
  obtain⟨y,B⟩:∃y,vs[i]? =some y:=⟨vs[i]'(by omega),getElem?_eq_getElem _⟩
  have F:ks[i]? =some y.1:=by rw[<-h2,<-m,getElem?_map,B];rfl
  rw[<-n] at st
  refine wpAny_pyNext_dict_item (knd:=cg X.prog X.w) st f B λkey h' j g G=> ?_
  have J:Inv X pins σ H {s with heap:=h'}:=I.turned (t':=s.toks) (λb o hb e=>(G.2 b hb).trans e) f0 f1 u f4 x
  obtain⟨o',e,c,d⟩:=id g
  rw[n] at g
  exact⟨key,rfl,l8 (s:={s with heap:=h'}) e c d (by decide) ⟨_,H,J,LZ j,⟨rfl,_,F,rfl⟩,g,λb hb=>(l b hb).1⟩⟩
 done:=by
  intro X p q r hc i pins s σ H E I l st t
  subst p q r
  obtain⟨kvs,h1,h2,C⟩:=t
  obtain⟨D,vs,m,f⟩:=sN I h1 A
  have n:vs.length=ks.length:=by rw[<-h2,<-m,length_map]
  obtain⟨f0,f1,f2,u,f4,x⟩:=l it (by simp)
  rw[<-n] at st
  exact wpAny_pyNext_dict_end (knd:=cg X.prog X.w) (I.ok.hd hc) st f (getElem?_eq_none (by omega)) λh' L=>⟨rfl,I.turned (t':=s.toks) (λb o hb e=>L b o hb e) f0 f1 u f4 x⟩
 self:=λ_ _ _ _ _ st h=>wpAny_pyIter_keyiter st h
def HH(tl:TE):TI:=λσ H R=>tl σ H λx H1=>∃a o kvs,x=.ref a/\H1 a=some (.bh o (.dK kvs))/\R (qT a o (kvs.map (·.1))) H1
theorem La{X:Cx}{tg l:Expr}{tl:TE}(f:PE X l tl):PI X tg l (HH tl):=by
 intro pins s σ H R I h;refine aF (f pins s σ H _ I h) λv c ⟨x,H1,d,k,m⟩=>?_;obtain⟨a,o,kvs,e,i,q⟩:=m;subst e;cases k;obtain⟨e,_,h2,vs,u,n⟩:=(show bw X.prog X.w H1 c.heap a (.bh o (.dK kvs)) from d.hok a _ i);obtain⟨o',es,ep,j,hc,hd,r⟩:=id n;rw[e] at j;cases j;obtain⟨p,vs,t,g⟩:=sN d i hd;have f:(kvs.map (·.1)).length=vs.length:=by rw[<-t,length_map]
 refine wpAny_pyIter_dict (knd:=cg X.prog X.w) p g ?_;refine⟨c.heap.objs.size,[c.heap.objs.size],_,_,H1,rfl,d.kept (t':=c.toks) λb o e=>get?_push_of_some _ e,Oh a _ hd,⟨_,get?_push_size _ rfl,rfl,by rw[f];rfl⟩,λb hb=>?_,q⟩;have e:b=c.heap.objs.size:=by simpa using hb
 subst e;exact d.i8 (le_refl _) (d.hok.fresh (le_refl _))
end L2
namespace DP
open L2
def keyOf:Key->D
 |.inl i=>.int i
 |.inr x=>.str x
theorem Mc{mg:aj}{ι:Io}{n:Nat}{H:Hp}(k:Key):RV mg ι n H (keyOf k) (kV k):=by
 cases k<;>rfl
theorem RK.ki{mg:aj}{ι:Io}{H:Hp}:∀{ds:List (Key×D)} {vs:List (Key×V)} {n:Nat},RK mg ι n H ds vs->vs.map (·.1)=ds.map (·.1)
 |[],vs,_,h=>by have h':vs=[]:=h;rw[h'];rfl
 |d::ds,vs,n,h=>by
  obtain⟨x,r,rfl,_,a⟩:=h;rw[map_cons,map_cons,RK.ki a]
theorem Ip{mg:aj}{A:Ar}{ι:Io}{H:Hp}{q:Nat}{o:Obj}{kvs:List (Key×D)}(b:q<A.length):iK mg A ι H (qT (ι q) o (kvs.map (·.1))) (kvs.map λp=>keyOf p.1) (λA'=>A'[q]?=some (.bf o kvs)) where
 go:=λi d f a H1 hd e r hc=>by
  obtain⟨xs,h1,h2⟩:=r.bf hc;rw[e.ag q b] at h1;have hi:=(List.getElem?_eq_some_iff.mp hd).1;rw[length_map] at hi;refine⟨⟨xs,h1,RK.ki h2,by rw[length_map];exact hi⟩,λx H' y=>?_⟩;obtain⟨rfl,k,c,rfl⟩:=y;refine⟨r.refl,r,?_⟩;rw[getElem?_map,getElem?_eq_getElem hi] at hd c;cases hd;cases c;exact Mc _
 stop:=λf a H1 e r hc=>by
  obtain⟨xs,h1,h2⟩:=r.bf hc;rw[e.ag q b] at h1;exact⟨xs,h1,RK.ki h2,by simp⟩
@[irreducible] def mj(r:Nat)(A:Ar)(R:List D->(Ar->Prop)->Ar->Prop):Prop:=match A[r]? with
 |some (.bf o kvs)=>R (kvs.map λp=>keyOf p.1) (λA'=>A'[r]?=some (.bf o kvs)) A
 |_=>False
def l_(m:aC):fF:=λτ A R=>m τ A λx A1=>match x with
 |.ref r=>mj r A1 R
 |_=>False
section
variable{X:Cx}{N:En}{tg e:Expr}{m:aC}
theorem oh(f:PE X e (up X.mg N m)):PI X tg e (iH X.mg N (l_ m)):=j9 (La f) λσ H Q q=>by
 obtain⟨A,ι,τ,R,S,q,k⟩:=q;refine⟨A,ι,τ,_,S,q,λx c b H1 u a g d h=>?_⟩;cases x with
 |ref r=>
  obtain⟨i,rfl⟩:=h;have a:mj r c R:=a;unfold mj at a;split at a
  .rename_i o kvs e
   obtain⟨xs,h1,h2⟩:=d.bf e;refine⟨_,o,xs,rfl,h1,?_⟩;rw[RK.ki h2];exact k _ _ c b H1 _ a g d (Ip i)
  .exact a.elim
 |_=>exact a.elim
def CF(r:Nat)(o:Obj)(A2:Ar)(Q:Ar->Prop):Prop:=∃kvs,A2[r]?=some (.bf o kvs)/\Q (A2.set r (.dct kvs))
theorem yD{σ:L2.St}{H:Hp}{A:Ar}{ι:Io}{τ:bx}{r:Nat}{kvs:List (Key×D)}{xs:List (Key×V)}{o:Obj}(S:cC X.mg N A ι τ σ H)(e:A[r]?=some (.dct kvs))(h1:H (ι r)=some (.dK xs))(h2:RK X.mg ι A.length H kvs xs):
  cC X.mg N (A.set r (.bf o kvs)) ι τ σ (upd H (ι r) (.bh o (.dK xs)))/\Ext A ι H (A.set r (.bf o kvs)) ι (upd H (ι r) (.bh o (.dK xs))):=by
 have b:=(List.getElem?_eq_some_iff.mp e).1;have E:=S.ra.kc (o:=.bh o (.dK xs)) (c:=.bf o kvs) b;obtain⟨ra,a⟩:=S.ra.put (c':=.bf o kvs) (o:=.bh o (.dK xs)) e h1 rfl ⟨_,cW,by simpa using RK.ext E kvs xs h2⟩;exact⟨S.next a ra,a⟩
theorem yC{mg:aj}{H:Hp}{A:Ar}{ι:Io}{r:Nat}{kvs:List (Key×D)}{o:Obj}(ra:RA mg ι H A)(e:A[r]?=some (.bf o kvs)):∃xs,H (ι r)=some (.bh o (.dK xs))/\RA mg ι (upd H (ι r) (.dK xs)) (A.set r (.dct kvs))/\Ext A ι H (A.set r (.dct kvs)) ι (upd H (ι r) (.dK xs)):=by
 obtain⟨xs,h1,h2⟩:=ra.bf e;have a:=(List.getElem?_eq_some_iff.mp e).1;have E:=ra.kc (o:=.dK xs) (c:=.dct kvs) a;obtain⟨b,d⟩:=ra.put (c':=.dct kvs) (o:=.dK xs) e h1 rfl ⟨_,cW,by simpa using RK.ext E kvs xs h2⟩;exact⟨xs,h1,b,d⟩
end
theorem tw{A:Ar}{r:Nat}{o:Obj}{kvs:List (Key×D)}{R:List D->(Ar->Prop)->Ar->Prop}(h:A[r]?=some (.bf o kvs))(k:R (kvs.map λp=>keyOf p.1) (λA'=>A'[r]?=some (.bf o kvs)) A):mj r A R:=by
 unfold mj;rw[h];exact k
theorem zf{A:Ar}{r:Nat}{o:Obj}{kvs:List (Key×D)}{y v:D}{k:Key}{R:DK}(h:A[r]?=some (.bf o kvs))(a:dQ y=some k)(b:aN kvs k=some v)(q:R v A):iO r y A R:=by
 unfold iO;rw[h];simp only[a,b];exact q
end DP
namespace L2
section
variable{X:Cx}
end
end L2
namespace DP
open L2
@[irreducible] def anyR(r:Nat)(A:Ar)(R:DK):Prop:=match A[r]? with
 |some (.lst xs)=>(match gz xs with
  |some bs=>R (.bl (bs.any id)) A
  |none=>False)
 |_=>False
end DP
end
namespace KO
open PySem PySem.W PyProof.Rows
section
variable{O:KeyOrd}{key:Nat->O.α}{n:Nat}{cmp:Nat->Nat->(Bool->Shared->Prop)->Shared->Prop}{s:Shared}
def kp(O:KeyOrd)(key:Nat->O.α)(p:Array Nat)(i:Nat):O.α:=key (p.getD i 0)
def Up(O:KeyOrd)(key:Nat->O.α)(p:Array Nat)(k:Nat):Prop:=∀i j,i<=j->j<k->O.kle (kp O key p i) (kp O key p j)
def Dn(O:KeyOrd)(key:Nat->O.α)(p:Array Nat)(k:Nat):Prop:=∀i j,i<=j->j<k->O.kle (kp O key p j) (kp O key p i)
def Pm(n:Nat)(p:Array Nat):Prop:=p.Perm (range n).toArray
theorem Pm.size{p:Array Nat}(h:Pm n p):p.size=n:=by
 have:=Perm.size_eq h;simpa using this
theorem Pm.lt{p:Array Nat}(h:Pm n p){i:Nat}(hi:i<n):p.getD i 0<n:=by
 have hz:=h.size;have a:p[i]'(by omega)∈p:=Array.getElem_mem _;have:=(Perm.mem_iff h).mp a;rw[getD_eq_getD_getElem?,Array.getElem?_eq_getElem (by omega)];simpa using this
theorem mu{p q:Array Nat}{i j:Nat}(h:p[i]?=q[j]?):kp O key p i=kp O key q j:=by
 unfold kp;rw[getD_eq_getD_getElem?,getD_eq_getD_getElem?,h]
theorem tG{p:Array Nat}{i j:Nat}(a:j<=p.size)(k:Nat):kp O key (kas_rev p i j) k=if i<=k/\k<j then kp O key p (i+j - 1 - k) else kp O key p k:=by
 have e:=getElem?_mirror_all (xs:=p) (i:=i) a k;split
 .rename_i h;rw[if_pos h] at e;exact mu e
 .rename_i h;rw[if_neg h] at e;exact mu e
theorem tF{p:Array Nat}{i j:Nat}(b:j<=p.size)(a:∀k,i<=k->k<j->kp O key p k=kp O key p (j - 1))(k:Nat):kp O key (kas_rev p i j) k=kp O key p k:=by
 rw[tG b];split
 .rw[a _ (by omega) (by omega),a k (by omega) (by omega)]
 .rfl
theorem Pm.rev{p:Array Nat}(h:Pm n p)(i j:Nat):Pm n (kas_rev p i j):=(mirror_perm _ _ _ _).trans h
theorem Up.snoc{p:Array Nat}{x:Nat}(h:Up O key p x)(h1:1<=x)(c:O.blt (kp O key p x) (kp O key p (x - 1))=false):Up O key p (x+1):=λi j a d=>by
 by_cases b:j<x
 .exact h i j a b
 .have e:j=x:=by omega
  subst e;by_cases hi:i=j
  .subst hi;exact KeyOrd.kle_refl _
  .exact KeyOrd.kle_trans (h i (j - 1) (by omega) (by omega)) c
theorem Dn.snoc{p:Array Nat}{x:Nat}(h:Dn O key p x)(h1:1<=x)(c:O.kle (kp O key p x) (kp O key p (x - 1))):Dn O key p (x+1):=λi j a d=>by
 by_cases b:j<x
 .exact h i j a b
 .have e:j=x:=by omega
  subst e;by_cases hi:i=j
  .subst hi;exact KeyOrd.kle_refl _
  .exact KeyOrd.kle_trans c (h i (j - 1) (by omega) (by omega))
variable(hc:∀i j,i<n->j<n->∀C:Bool->Shared->Prop,C (O.blt (key i) (key j)) s->cmp i j C s)
include hc
theorem lI{α:Type}{p:Array Nat}(a:Pm n p){i j:Nat}(hi:i<n)(b:j<n){k:Bool->KasT α}{G:α->Shared->Prop}(h:(k (O.blt (kp O key p i) (kp O key p j))).kasWp cmp G s):(KasT.ask (p.getD i 0) (p.getD j 0) k).kasWp cmp G s:=
 hc _ _ (a.lt hi) (a.lt b) _ h
theorem rK{p:Array Nat}(d:Pm n p){b:Nat}(g:b<=n){G:Nat->Shared->Prop}:∀(f a:Nat),1<=a->a+f=b->Up O key p a->
  (∀m,a<=m->m<=b->Up O key p m->(m=b\/O.klt (kp O key p m) (kp O key p (m - 1)))->G m s)->(kas_asc p f a).kasWp cmp G s
 |0,a,h1,e,c,h=>h a (le_refl _) (by omega) c (.inl (by omega))
 |f+1,a,h1,e,c,h=>by
  refine lI hc d (i:=a) (j:=a - 1) (by omega) (by omega) ?_;cases hb:O.blt (kp O key p a) (kp O key p (a - 1)) with
  |true=>rw[if_pos rfl];exact h a (le_refl _) (by omega) c (.inr hb)
  |false=>
   rw[if_neg Bool.false_ne_true];exact rK d g f (a+1) (by omega) (by omega) (c.snoc h1 hb) λm k=>h m (by omega)
theorem n_{a:Nat}(r:a<=n){G:Array Nat×Nat×Nat->Shared->Prop}:∀(f:Nat) (p:Array Nat) (x q:Nat),Pm n p->1<=x->x+f=a->Dn O key p x->q+1<=x->(∀i,x - (q+1)<=i->i<x->kp O key p i=kp O key p (x - 1))->
  (∀b m d,Pm n b->x<=m->m<=a->Dn O key b m->d+1<=m->(∀i,m - (d+1)<=i->i<m->kp O key b i=kp O key b (m - 1))->G (b,m,d) s)->(kas_desc f p x q).kasWp cmp G s
 |0,p,x,q,g,h1,e,k,t,l,h=>h p x q g (le_refl _) (by omega) k t l
 |f+1,p,x,q,g,h1,e,k,t,l,h=>by
  have hz:=g.size;refine lI hc g (i:=x) (j:=x - 1) (by omega) (by omega) ?_;cases hb:O.blt (kp O key p x) (kp O key p (x - 1)) with
  |true=>
   rw[if_pos rfl];by_cases o:q>0
   .rw[if_pos o]
    have w:=tF (O:=O) (key:=key) (p:=p) (i:=x - (q+1)) (j:=x) (by omega) l;refine n_ r f _ (x+1) 0 (g.rev _ _) (by omega) (by omega) (λi j u z=>?_) (by omega) (λi i1 i2=>by congr 1;omega) λb m d c y=>h b m d c (by omega);rw[w,w];exact(k.snoc h1 (KeyOrd.kle_of_klt hb)) i j u z
   .rw[if_neg o]
    exact n_ r f p (x+1) 0 g (by omega) (by omega) (k.snoc h1 (KeyOrd.kle_of_klt hb)) (by omega) (λi i1 i2=>by congr 1;omega) λb m d c y=>h b m d c (by omega)
  |false=>
   rw[if_neg Bool.false_ne_true];refine lI hc g (i:=x - 1) (j:=x) (by omega) (by omega) ?_;cases hd:O.blt (kp O key p (x - 1)) (kp O key p x) with
   |true=>rw[if_pos rfl];exact h p x q g (le_refl _) (by omega) k t l
   |false=>
    rw[if_neg Bool.false_ne_true];have ex:kp O key p x=kp O key p (x - 1):=KeyOrd.kle_antisymm hd hb;refine n_ r f p (x+1) (q+1) g (by omega) (by omega) (k.snoc h1 hd) (by omega) (λi i1 i2=>?_) λb m d c y=>h b m d c (by omega);rw[show x+1 - 1=x by omega];by_cases v:i=x
    .rw[v]
    .rw[ex];exact l i (by omega) (by omega)
theorem CB{p:Array Nat}(b:Pm n p){m a:Nat}(e:a<=n)(h1:1<=m)(q:m<=a)(f:Dn O key p m){G:Nat×Array Nat->Shared->Prop}(h:∀k c,Pm n c->1<=k->k<=a->Up O key c k->G (k,c) s):(kas_tail3 m a p).kasWp cmp G s:=by
 have hz:=b.size;unfold kas_tail3;rw[KasT.kasWp_bind];refine rK hc (b.rev 0 m) e _ m h1 (by omega) (λi j g r=>?_) λk l d o _=>h k _ (b.rev 0 m) (by omega) d o;rw[tG (by omega),tG (by omega),if_pos (by omega),if_pos (by omega)];exact f _ _ (by omega) (by omega)
theorem Ae{p:Array Nat}(r:Pm n p){m a:Nat}(g:a<=n)(x:m+1<=a)(t:Dn O key p (m+1)){G:Nat×Array Nat->Shared->Prop}(h:∀k c,Pm n c->1<=k->k<=a->Up O key c k->G (k,c) s):(kas_descPart m a p).kasWp cmp G s:=by
 unfold kas_descPart;rw[KasT.kasWp_bind];refine n_ hc g _ p (m+1) 0 r (by omega) (by omega) t (by omega) (λi i1 i2=>by congr 1;omega) λc k q b u d e y v=>?_;have hz:=b.size;by_cases f:q>0
 .simp only[f,if_true]
  have o:=tF (O:=O) (key:=key) (p:=c) (i:=k - (q+1)) (j:=k) (by omega) v;refine CB hc (b.rev _ _) g (by omega) d (λi j l w=>?_) h;rw[o,o];exact e i j l w
 .simp only[f,if_false]
  exact CB hc b g (by omega) d e h
theorem Es{p:Array Nat}(b:Pm n p)(h1:1<=n){G:Nat×Array Nat->Shared->Prop}(h:∀k r,Pm n r->1<=k->k<=n->Up O key r k->G (k,r) s):(kas_count n p).kasWp cmp G s:=by
 have hz:=b.size;unfold kas_count;rw[KasT.kasWp_bind];refine rK hc b (le_refl n) _ 1 (le_refl _) (by omega) (λi j a f=>by have e:i=j:=(by omega);rw[e];exact KeyOrd.kle_refl _) λm c g o t=>?_;by_cases d:m=n
 .rw[if_pos (by simpa using d)]
  exact h m p b c g o
 .rw[if_neg (by simpa using d)]
  have l:=t.resolve_left d;by_cases v:m>1
  .rw[if_pos v]
   refine lI hc b (i:=0) (j:=m - 1) (by omega) (by omega) ?_;cases hb:O.blt (kp O key p 0) (kp O key p (m - 1)) with
   |true=>rw[if_pos rfl];exact h m p b c g o
   |false=>
    rw[if_neg Bool.false_ne_true];have u:∀k,0<=k->k<m->kp O key p k=kp O key p (m - 1):=λk _ q=>
     KeyOrd.kle_antisymm (o k (m - 1) (by omega) (by omega)) (KeyOrd.kle_trans hb (o 0 k (by omega) q))
    have q:=tF (O:=O) (key:=key) (p:=p) (i:=0) (j:=m) (by omega) u;refine Ae hc (b.rev 0 m) (le_refl n) (by omega) (λi j a f=>?_) h;rw[q,q];have hd:Dn O key p m:=λi j a f=>by rw[u i (by omega) (by omega),u j (by omega) f];exact KeyOrd.kle_refl _
    exact(hd.snoc c (KeyOrd.kle_of_klt l)) i j a f
  .rw[if_neg v]
   have e:m=1:=by omega
   subst e;have hd:Dn O key p 1:=λi j a f=>by have e:i=j:=(by omega);rw[e];exact KeyOrd.kle_refl _
   exact Ae hc b (le_refl n) (by omega) (hd.snoc (le_refl _) (KeyOrd.kle_of_klt l)) h
theorem uv{p:Array Nat}(g:Pm n p){k:Nat}(m:k<n)(d:Up O key p k){G:Nat->Shared->Prop}:∀(f l r:Nat),l<=r->r<=k->r - l<=f->(∀i,i<l->O.kle (kp O key p i) (kp O key p k))->(∀i,r<=i->i<k->O.klt (kp O key p k) (kp O key p i))->
  (∀l,l<=k->(∀i,i<l->O.kle (kp O key p i) (kp O key p k))->(∀i,l<=i->i<k->O.klt (kp O key p k) (kp O key p i))->G l s)->(kas_place p k f l r).kasWp cmp G s
 |0,l,r,o,q,t,a,b,h=>by
  have e:l=r:=by omega
  exact h l (by omega) a (e▸b)
 |f+1,l,r,o,q,t,a,b,h=>by
  unfold kas_place;by_cases c:l≥r
  .rw[if_pos c]
   have e:l=r:=by omega
   exact h l (by omega) a (e▸b)
  .rw[if_neg c]
   refine lI hc g (i:=k) (j:=(l+r)/2) m (by omega) ?_;cases hb:O.blt (kp O key p k) (kp O key p ((l+r)/2)) with
   |true=>
    rw[if_pos rfl];exact uv g m d f l ((l+r)/2) (by omega) (by omega) (by omega) a (λi i1 i2=>KeyOrd.klt_of_klt_of_kle hb (d _ _ i1 i2)) h
   |false=>
    rw[if_neg Bool.false_ne_true];exact uv g m d f ((l+r)/2+1) r (by omega) (by omega) (by omega) (λi i1=>KeyOrd.kle_trans (d i ((l+r)/2) (by omega) (by omega)) hb) b h
theorem wA{G:Array Nat->Shared->Prop}(h:∀g,Pm n g->Up O key g n->G g s):∀(f:Nat) (p:Array Nat) (k:Nat),Pm n p->k+f=n->Up O key p k->(kas_bin f p k).kasWp cmp G s
 |0,p,k,b,e,d=>h p b (by rw[<-e];exact d)
 |f+1,p,k,b,e,d=>by
  have hz:=b.size;unfold kas_bin;rw[KasT.kasWp_bind];refine uv hc b (by omega) d k 0 k (by omega) (le_refl _) (by omega) (λi hi=>by omega) (λi i1 i2=>by omega) λl r m o=>?_;refine wA h f _ (k+1) ((bubble_perm _ _ _).trans b) (by omega) λi j q t=>?_;have c:∀x,kp O key (bubble p k (k - l)) x=if x=l then kp O key p k else if l<x/\x<=k then kp O key p (x - 1) else kp O key p x:=λx=>by
   have a:=getElem?_bubble (xs:=p) (src:=k) (by omega) (k - l) (by omega) x;rw[show k - (k - l)=l by omega] at a;split
   .rename_i h1;rw[if_pos h1] at a;exact mu a
   .rename_i h1
    rw[if_neg h1] at a;split
    .rename_i h2;rw[if_pos h2] at a;exact mu a
    .rename_i h2;rw[if_neg h2] at a;exact mu a
  rw[c,c];repeat' split
  all_goals first
   |(exfalso;omega)
   |exact KeyOrd.kle_refl _
   |exact m _ (by omega)
   |exact KeyOrd.kle_of_klt (o _ (by omega) (by omega))
   |exact d _ _ (by omega) (by omega)
theorem M9{G:Array Nat->Shared->Prop}(h1:1<=n)(h:∀a,Pm n a->Up O key a n->G a s):(kas_sort n).kasWp cmp G s:=by
 unfold kas_sort;rw[KasT.kasWp_bind];refine Es hc (Perm.refl _) h1 λk p b e f c=>?_;by_cases d:k<n
 .simp only[d,if_true]
  rw[show max k 1=k by omega];exact wA hc h _ p k b (by omega) c
 .simp only[d,if_false]
  exact h p b (by rw[show n=k by omega];exact c)
end
end KO
namespace KP
open PySem PySem.W PySem.Spec PyProof.Rows KO
section
variable{prog:Program}{w:World}{A:Around}{E:aE}{s:Shared}
theorem I8{κ:SortKind}{O:KeyOrd}{key:Nat->O.α}{a:Addr}{vs:List Value}{n:Nat}{P:PySem.Fin->Shared->Prop}(m:s.heap.get? a=some (seqObj "list" vs.toArray n))(r:vs.length<64)
  (H:∀s':Shared,(∀b o,b≠a->s.heap.get? b=some o->s'.heap.get? b=some o)->2<=vs.length->∀R:SortKind->Shared->Prop,R κ s'->wpAny (model prog w) A (keyKind' vs.toArray) R (λ_ _=>False) s')
  (hc:∀s':Shared,(∀b o,b≠a->s.heap.get? b=some o->s'.heap.get? b=some o)->∀i j,i<vs.length->j<vs.length->∀C:Bool->Shared->Prop,C (O.blt (key i) (key j)) s'->kas_ask prog w A κ vs i j C s')
  (h:∀p:Array Nat,Pm vs.length p->Up O key p vs.length->P (.done (.ret .none)) {s with heap:=sortedHeap s.heap a vs (p.toList.map λi=>vs.getD i Value.none).toArray}):
  wpAny (model prog w) A (Builtin.«list.sort» ⟨[.ref a],[]⟩) P E s:=by
 rw[list_sort_plain]
 have ha:a<s.heap.objs.size:=lt_size m
 refine wpAny_bind (listItems_at m rfl ?_)
 refine wpAny_bind (listUpdate_at m rfl ?_ (by rw[size_toArray,sizeLine_eq];omega) (zero_le _))
 obtain⟨t,g⟩:∃t,(s.heap.update a (Obj.mapSeq λ_=>(#[]:Array Value))).get? a=some (seqObj "list" #[] t):=⟨_,get?_update_seq m λ_=> #[]⟩
 refine wpAny_bind (seqEpoch_at g rfl ?_)
 refine wpAny_bind (wpAny_newTuple ?_ (by show vs.length<=_;rw[sizeLine_eq];omega))
 refine wpAny_bind (wpAny_newList ?_ (zero_le _))
 refine wpAny_holding ?_
 have c:(((s.heap.update a (Obj.mapSeq λ_=>(#[]:Array Value))).push (seqObj "tuple" vs.toArray 0)).push (seqObj "list" #[] 0)).get? a=some (seqObj "list" #[] t):=by
  rw[get?_push_ne _ _ _ (by rw[size_push',size_update];exact ne_of_lt (lt_succ_of_lt ha)),get?_push_ne _ _ _ (by rw[size_update];exact ne_of_lt ha)]
  exact g
 have kp:∀b o,b≠a->s.heap.get? b=some o->(((s.heap.update a (Obj.mapSeq λ_=>(#[]:Array Value))).push (seqObj "tuple" vs.toArray 0)).push (seqObj "list" #[] 0)).get? b=some o:=λb o hb q=>
  get?_push_of_some _ (get?_push_of_some _ (by rw[Heap.get?_update_ne _ _ _ _ hb];exact q))
 show wpAny (model prog w) A _ P E {s with heap:=((s.heap.update a (Obj.mapSeq λ_=>(#[]:Array Value))).push (seqObj "tuple" vs.toArray 0)).push (seqObj "list" #[] 0)}
 dsimp only
 by_cases h2:vs.toArray.size<2
 .rw[if_pos h2,if_pos h2]
  refine wpAny_bind (wpAny_pure ?_)
  rw[StateT.run_pure]
  refine wpAny_bind (wpAny_pure ?_)
  dsimp only
  have u:vs.length<2:=by simpa using h2
  have e:=h (range vs.length).toArray (Perm.refl _) λi j I W=>by
   have J:i=j:=by omega
   rw[J];exact KeyOrd.kle_refl _
  have K:(arrOf (SortSt.mk' general' (vs.toArray.zip vs.toArray) #[] 7 none)).map (·.2)=((range vs.length).toArray.toList.map λi=>vs.getD i Value.none).toArray:=by
   refine kat_snds (ks:=vs) rfl ?_
   have e:=kas_range (vs.toArray.zip vs.toArray)
   rw[show(vs.toArray.zip vs.toArray).size=vs.length by simp] at e
   exact e.symm
  rw[K]
  refine wpAny_bind (seqEpoch_at c rfl ?_)
  refine wpAny_bind (listUpdate_at c rfl ?_ (zero_le _) (by rw[size_toArray,length_map,length_range,sizeLine_eq];omega))
  simp only[bne_self_eq_false,Bool.false_eq_true,if_false]
  exact wpAny_pure e
 .rw[if_neg h2,if_neg h2]
  have u:2<=vs.length:=by
   have:vs.toArray.size=vs.length:=by simp
   omega
  obtain⟨f,v⟩:∃f:Shared,f={s with heap:=((s.heap.update a (Obj.mapSeq λ_=>(#[]:Array Value))).push (seqObj "tuple" vs.toArray 0)).push (seqObj "list" #[] 0)}:=⟨_,rfl⟩
  have k:∀b o,b≠a->s.heap.get? b=some o->f.heap.get? b=some o:=by rw[v];exact kp
  rw[<-v]
  refine wpAny_bind (wpAny_mono (H f k u (λl s'=>l=κ/\s'=f) ⟨rfl,rfl⟩) ?_ λ_ _ x=>x.elim)
  rintro l s' ⟨L,es⟩
  rw[L,es]
  refine wpAny_bind (wpAny_mono (kat_run (ks:=vs) (vs:=vs) (Q:=λd s'=>∃p:Array Nat,p.size=vs.length/\arrOf d=p.map (kas_item (vs.toArray.zip vs.toArray))/\failedOf d=none/\Pm vs.length p/\Up O key p vs.length/\s'=f)
   (G:=λp s'=>Pm vs.length p/\Up O key p vs.length/\s'=f) rfl u r (λM d s' a1 a2 N S=>⟨M,a1,a2,N,S⟩)
   (M9 (O:=O) (key:=key) (hc f k) (by omega) λp y T=>⟨y,T,rfl⟩)) ?_ λ_ _ e=>e)
  rintro ⟨⟨⟩,d⟩ U ⟨p,y,z,V,B,D,F⟩
  dsimp only
  rw[F]
  rw[kat_snds rfl z]
  subst v
  refine wpAny_bind (seqEpoch_at c rfl ?_)
  refine wpAny_bind (listUpdate_at c rfl ?_ (zero_le _) (by rw[size_toArray,length_map,length_toList,y,sizeLine_eq];omega))
  rw[V]
  simp only[bne_self_eq_false,Bool.false_eq_true,if_false]
  exact wpAny_pure (h p B D)
theorem M_{κ:SortKind}{O:KeyOrd}{key:Nat->O.α}{l:Addr}{vs:List Value}{Q:aE}(f:s.heap.IsList l vs.toArray)(d:vs.length<64)
  (g:∀s':Shared,(∀b o,s.heap.get? b=some o->s'.heap.get? b=some o)->2<=vs.length->∀R:SortKind->Shared->Prop,R κ s'->wpAny (model prog w) A.in1.in1 (keyKind' vs.toArray) R (λ_ _=>False) s')
  (hc:∀s':Shared,(∀b o,s.heap.get? b=some o->s'.heap.get? b=some o)->∀i j,i<vs.length->j<vs.length->∀C:Bool->Shared->Prop,C (O.blt (key i) (key j)) s'->kas_ask prog w A.in1.in1 κ vs i j C s')
  (h:∀(p:Array Nat) (h':Heap) (D:Addr) (e:Nat),Pm vs.length p->Up O key p vs.length->s.heap.objs.size<=D->h'.get? D=some (seqObj "list" (p.toList.map λi=>vs.getD i Value.none).toArray e)->(∀b o,s.heap.get? b=some o->h'.get? b=some o)->Q (.ref D) {s with heap:=h'}):
  wpAny (model prog w) A (call (.builtin "sorted") [.ref l]) Q E s:=by
 refine Calls.call_function_entry kind_sorted plain_sorted entry_sorted (args_sorted1 _) ?_
 unfold Builtin.«sorted»
 refine wpAny_bind (m:=checkCount "sorted" 1 1 _) (wpAny_pure ?_)
 refine wpAny_bind (collect_list f ?_ (by rw[sizeLine_eq];omega))
 refine wpAny_bind (wpAny_newList ?_ (by rw[sizeLine_eq];omega))
 have hsz:((s.heap.push (seqObj "list" #[] 0)).update s.heap.objs.size (Obj.mapSeq (·++vs.toArray))).objs.size=s.heap.objs.size+1:=by
  rw[size_update,size_push']
 have a:(((s.heap.push (seqObj "list" #[] 0)).update s.heap.objs.size (Obj.mapSeq (·++vs.toArray))).push (seqObj "list" vs.toArray 0)).get? (s.heap.objs.size+1)=some (seqObj "list" vs.toArray 0):=by
  rw[<-hsz];exact get?_push_size _ rfl
 have keep:∀b o,s.heap.get? b=some o->(((s.heap.push (seqObj "list" #[] 0)).update s.heap.objs.size (Obj.mapSeq (·++vs.toArray))).push (seqObj "list" vs.toArray 0)).get? b=some o:=λb o q=>by
  have c:b<s.heap.objs.size:=lt_size q
  rw[get?_push_ne _ _ _ (by rw[hsz];exact ne_of_lt (lt_succ_of_lt c)),Heap.get?_update_ne _ _ _ _ (ne_of_lt c),get?_push_ne _ _ _ (ne_of_lt c)]
  exact q
 have ne:∀b o,s.heap.get? b=some o->b≠s.heap.objs.size+1:=λb o q=>ne_of_lt (lt_succ_of_lt (lt_size q))
 show wpAny _ _ _ _ _ {s with heap:=((s.heap.push (seqObj "list" #[] 0)).update s.heap.objs.size (Obj.mapSeq (·++vs.toArray))).push (seqObj "list" vs.toArray 0)}
 rw[hsz]
 refine wpAny_bind (wpAny_holding (wpAny_call_entry slot_list_sort ⟨_,a,rfl⟩ entry_list_sort ?body (args_list_sort _)))
 case body=>
  refine I8 (κ:=κ) (O:=O) (key:=key) (s:={s with heap:=((s.heap.push (seqObj "list" #[] 0)).update s.heap.objs.size (Obj.mapSeq (·++vs.toArray))).push (seqObj "list" vs.toArray 0)})
   a d (λs' k=>g s' λb o q=>k b o (ne b o q) (keep b o q)) (λs' k=>hc s' λb o q=>k b o (ne b o q) (keep b o q)) λp n r=>⟨_,rfl,wpAny_pure ⟨_,rfl,?_⟩⟩
  obtain⟨e,t⟩:=sortedHeap_at (out:=(p.toList.map λi=>vs.getD i Value.none).toArray) a
  refine h p _ _ e n r (le_succ _) t λb o q=> ?_
  rw[sortedHeap_old (ne b o q) (lt_size (keep b o q))]
  exact keep b o q
theorem zv{b fin r:Bool}{Q:Bool->Shared->Prop}(q:Q r s):∀{zs:List (Value×Value)} {i:Nat},0<i->L2.gx .Lt A s fin r zs->KatLex prog w A b fin Q zs i s
 |[],i,hi,h=>by
  cases h with
  |nil e=>exact kat_nil (by rw[e];exact q)
 |(y,x)::zs,i,hi,h=>by
  refine kat_cons ?_;cases h with
  |eq h1 h2=>exact h1 prog w _ _ (kat_yes (zv q (by omega) h2))
  |ne h1 h2=>
   refine h1 prog w _ _ (kat_no ?_);have e:(b&&i==0)=false:=by
    cases i with
    |zero=>omega
    |succ i=>simp
   rw[e];exact kat_one _ _ (h2 prog w _ _ q)
theorem IG{x y:Value}{a c:Str}{xs ys:List PyData}{as bs:List Addr}{r:Bool}{Q:Bool->Shared->Prop}(e:L2.ltQ (.tuple (.str a::xs)) (.tuple (.str c::ys))=some r)(t:Reads s.heap x (.tuple (.str a::xs)) as)(u:Reads s.heap y (.tuple (.str c::ys)) bs)
  (v:canLay0 (.tuple (.str a::xs))=true)(z:canLay0 (.tuple (.str c::ys))=true)(j:A.units+min (depthAll (.str a::xs)) (depthAll (.str c::ys))<cLine)(q:Q r s):wpAny (model prog w) A (keyLt' (tuples' true) x y) Q E s:=by
 cases t with
 | @tuple l o vs n _ h h1 h2 B k=>
  cases u with
  | @tuple F o' b n' _ i k1 k2 k3 m=>
   refine kat_lt h1 B k1 k3 ?_;rw[L2.ltQ] at e;have hsz:decide (vs.size<b.size)=decide (vs.toList.length<b.toList.length):=by simp
   rw[hsz];generalize vs.toList=G at k ⊢;generalize b.toList=C at m ⊢;have d:canLay0 (.str a)=true/\canLayAll0 xs=true:=by simpa[canLay0,canLayAll0] using v
   have f:canLay0 (.str c)=true/\canLayAll0 ys=true:=by simpa[canLay0,canLayAll0] using z
   cases k with
   |cons a1 a2=>
    cases m with
    |cons p D=>
     have g:=SeqAt.eqAt_reads (.str a) (.str c) A s _ _ _ _ a1 p d.1 f.1 (SeqAt.room_head j);cases a1;cases p;rw[List.zip_cons_cons,L2.zu];refine kat_cons ?_;rw[L2.dR] at e;cases ce:PyData.eqv (.str a) (.str c) with
     |true=>
      rw[ce] at e g;exact g prog w _ _ (kat_yes (zv q (by omega) (L2.tM xs ys A s _ _ _ _ r e a2 D d.2 f.2 (SeqAt.room_tail j))))
     |false=>
      rw[ce] at e g;refine g prog w _ _ (kat_no (oneLt_str ?_));have e:L2.ltQ (.str a) (.str c)=some r:=e;rw[L2.ltQ] at e;cases e;exact q
end
end KP
section
open PySem PySem.Spec PyProof.Rows
namespace L2
open PySem.SeqAt
theorem Fi{xs ys:List PyData}{u:Nat}(h1:(PyData.tuple xs).depth<=60)(a:u+64<cLine):u+2+min (depthAll xs) (depthAll ys)<cLine:=by
 have e:(PyData.tuple xs).depth=depthAll xs+1:=rfl;omega
theorem kat_tups{h:Heap}:∀{vs:List Value} {qs:List PyData},vs.length=qs.length->(∀(i:Nat) v q,vs[i]?=some v->qs[i]?=some q->∃as x r,Reads h v q as/\q=.tuple (.str x::r))->∃fs:List Value,fs.length=vs.length/\PySem.W.KatTups h vs fs/\∀v∈fs,∃x t,v=Value.str x t
 |[],[],_,_=>⟨[],rfl,.nil,λ_ h=>by cases h⟩
 |v::vs,q::qs,e,k=>by
  obtain⟨fs,h1,h2,c⟩:=kat_tups (vs:=vs) (qs:=qs) (by simpa using e) λi d f g j=>k (i+1) d f (by simpa using g) (by simpa using j);obtain⟨as,x,r,rd,rfl⟩:=k 0 v q rfl rfl;cases rd with
  | @tuple l o m n _ a p s u b=>
   generalize w:m.toList=ul at b;cases b with
   | @cons y vr _ _ _ _ a1 a2=>
    cases a1 with
    |str _ t=>
     refine⟨Value.str x t::fs,by simp[h1],.cons p s u ?_ h2,λv hv=>?_⟩
     .rw[<-Array.getElem?_toList,w];rfl
     .rcases mem_cons.mp hv with rfl|hv
      .exact⟨x,t,rfl⟩
      .exact c v hv
section
variable{X:Cx}
theorem Eb(hc:X.calm=true)(hu:X.A.units+64<cLine):c_ X (.builtin "sorted") (λxs H Q=>∃(a:Addr) (vs:List V) (qs:List PyData) (O:KeyOrd) (key:Nat->O.α),xs=[.ref a]/\aO X.K H a vs/\vs.length<64/\vs.length=qs.length/\
  (∀(i:Nat) v q,vs[i]? =some v->qs[i]? =some q->Dp X.K H v q/\q.canLay0=true/\q.depth<=60/\∃x r,q= .tuple (.str x::r))/\(∀(i j:Nat) p q,qs[i]? =some p->qs[j]? =some q->ltQ p q=some (O.blt (key i) (key j)))/\
  ∀(l:Addr) (p:Array Nat),H l=none->KO.Pm vs.length p->KO.Up O key p vs.length->Q (.ref l) (upd H l (.lst (p.toList.map λi=>vs.getD i .ao)))):=by
 intro pins s σ H xs us Q I r h
 obtain⟨a,vs,qs,O,key,rfl,hq,B,hl,hd,hk,q⟩:=h
 obtain⟨u,rfl,ru⟩:=vals1 r
 cases ru
 obtain⟨its,E,pl,hz⟩:=I.list hq
 have F:=E.length
 have rd:∀(i:Nat) u p,its[i]? =some u->qs[i]? =some p->∃as x r,Reads s.heap u p as/\p= .tuple (.str x::r)/\p.canLay0=true/\p.depth<=60:=λi u p k G=>by
  have hi:i<its.length:=(List.getElem?_eq_some_iff.mp k).1
  obtain⟨u',m,J⟩:=Vals.get E (getElem?_eq_getElem (show i<vs.length by omega))
  rw[k] at m
  cases m
  obtain⟨d1,d2,d3,x,r,d4⟩:=hd i _ p (getElem?_eq_getElem (show i<vs.length by omega)) G
  obtain⟨as,d5⟩:=Dp.reads I p _ u d1 J
  exact⟨as,x,r,d5,d4,d2,d3⟩
 refine KP.M_ (κ:=tuples' true) (O:=O) (key:=key) (vs:=its) pl.isList (by omega) (λs' kp h2 R hR=> ?_) (λs' kp i j hi hj C hC=> ?_) λp h' D e L d hD ho kp=> ?_
 .obtain⟨fs,f1,f2,f3⟩:=kat_tups (h:=s'.heap) (vs:=its) (qs:=qs) (by omega) λi v q k G=>by
   obtain⟨as,x,r,n,M,_⟩:=rd i v q k G
   exact⟨as,x,r,PyProof.Rows.Reads.keeps kp n,M⟩
  refine PySem.W.kat_kind (T:=Value.type "str") f2 (by omega) (λv hv=> ?_) (by decide) hR
  obtain⟨x,t,rfl⟩:=f3 v hv
  exact PySem.W.Looks.of_pure rfl
 .have N:=getElem?_eq_getElem hi
  have P:=getElem?_eq_getElem hj
  have S:=getElem?_eq_getElem (show i<qs.length by omega)
  have U:=getElem?_eq_getElem (show j<qs.length by omega)
  obtain⟨as,x,r,n,M,Y,Z⟩:=rd i _ _ N S
  obtain⟨bs,y,t,k1,k2,k3,k4⟩:=rd j _ _ P U
  have c:=hk i j _ _ S U
  rw[M] at n Y Z c
  rw[k2] at k1 k3 c
  unfold PySem.W.kas_ask
  rw[getD_eq_getElem?_getD,getD_eq_getElem?_getD,N,P]
  exact KP.IG c (PyProof.Rows.Reads.keeps kp n) (PyProof.Rows.Reads.keeps kp k1) Y k3 (Fi Z hu) hC
 .have f:∀u,s.heap.get? D≠some u:=λu z=>absurd (lt_of_lt_of_le (lt_size z) hD) (lt_irrefl _)
  have hn:H D=none:=by
   cases e0:H D with
   |none=>rfl
   |some o=>
    obtain⟨u,z⟩:=(I.hok _ _ e0).obj
    exact absurd z (f u)
  rw[<-F] at L d
  refine⟨.ref D,upd H D (.lst (p.toList.map λi=>vs.getD i .ao)),?_,rfl,q D p hn L d⟩
  refine I.tW (t':=s.toks) kp (h_.new hn _) λb o w=> ?_
  by_cases hb:b=D
  .subst hb
   rw[cW] at w
   cases w
   refine .inr ⟨f,?_⟩
   refine⟨by rw[length_map,length_toList,L.size];exact le_of_lt (lt_of_lt_of_le B (by decide)),p.toList.map λi=>its.getD i Value.none,e,?_,ho⟩
   generalize p.toList=g
   induction g with
   |nil=>exact .nil
   |cons i g ih=>
    refine .cons ?_ ih
    show RelV (vs.getD i .ao) (its.getD i Value.none)
    rw[getD_eq_getElem?_getD,getD_eq_getElem?_getD]
    by_cases hi:i<vs.length
    .obtain⟨u',m,J⟩:=Vals.get E (getElem?_eq_getElem hi)
     rw[getElem?_eq_getElem hi,m]
     exact J
    .rw[getElem?_eq_none (by omega),getElem?_eq_none (by omega)]
     rfl
  .rw[aS hb] at w
   exact .inl w
end
end L2
namespace DP
open L2
@[irreducible] def qx(r:Nat)(A:Ar)(R:DK):Prop:=match A[r]? with
 |some (.lst ds)=>ds.length<64/\(∀d∈ds,eH d=true/\(toQ d).canLay0=true/\(toQ d).depth<=60/\∃x r,toQ d=.tuple (.str x::r))/\
  ∃(O:KeyOrd) (key:D->O.α),(∀d∈ds,∀e∈ds,ltQ (toQ d) (toQ e)=some (O.blt (key d) (key e)))/\∀es:List D,es.Perm ds->es.Pairwise (λa b=>O.kle (key a) (key b))->R (.ref A.length) (A++[.lst es])
 |_=>False
def Ck:fU:=λvs A R=>match vs with
 |[.ref r]=>qx r A R
 |_=>False
theorem Jr{α:Type}(d:α):∀(l:List α),(range l.length).map (λi=>l.getD i d)=l:=λl=>by
 apply List.ext_getElem
 .simp
 .intro i h1 h2
  simp[h2]
theorem E4{mg:aj}{K:PySem.W.Frag}:gq mg (λxs H Q=>∃(a:Addr) (vs:List V) (qs:List PyData) (O:KeyOrd) (key:Nat->O.α),xs=[.ref a]/\aO K H a vs/\vs.length<64/\vs.length=qs.length/\
  (∀(i:Nat) v q,vs[i]? =some v->qs[i]? =some q->Dp K H v q/\q.canLay0=true/\q.depth<=60/\∃x r,q= .tuple (.str x::r))/\(∀(i j:Nat) p q,qs[i]? =some p->qs[j]? =some q->ltQ p q=some (O.blt (key i) (key j)))/\
  ∀(l:Addr) (p:Array Nat),H l=none->KO.Pm vs.length p->KO.Up O key p vs.length->Q (.ref l) (upd H l (.lst (p.toList.map λi=>vs.getD i .ao)))) Ck:=by
 intro ds A ι H T R Q ra rs h k
 unfold Ck at h
 split at h
 .obtain⟨_,_,rfl,⟨_,rfl⟩,rfl⟩:=rs
  unfold qx at h
  split at h
  .rename_i ds e
   obtain⟨E,hd,O,key,F,q⟩:=h
   obtain⟨xs,G,t⟩:=ra.lst e
   have z:=ah.length t
   refine⟨_,xs,ds.map toQ,O,λi=>key (ds.getD i .ao),rfl,aO.of G,by omega,by simp[z],λi v p c b=> ?_,λi j p U c b=> ?_,λl p I n g=> ?_⟩
   .rw[getElem?_map] at b
    cases f:ds[i]? with
    |none=>rw[f] at b;cases b
    |some d=>
     rw[f] at b
     cases b
     obtain⟨J,o,u⟩:=ah.get t f
     rw[c] at o
     cases o
     obtain⟨p1,p2,L,M⟩:=hd d (mem_of_getElem? f)
     exact⟨RV.dp _ _ p1 u,p2,L,M⟩
   .rw[getElem?_map] at c b
    cases f:ds[i]? with
    |none=>rw[f] at c;cases c
    |some d=>
     cases s:ds[j]? with
     |none=>rw[s] at b;cases b
     |some d'=>
      rw[f] at c
      rw[s] at b
      cases c
      cases b
      show ltQ (toQ d) (toQ d')=some (O.blt (key (ds.getD i .ao)) (key (ds.getD j .ao)))
      rw[getD_eq_getElem?_getD,getD_eq_getElem?_getD,f,s]
      exact F d (mem_of_getElem? f) d' (mem_of_getElem? s)
   .rw[<-z] at n g
    have hz:=n.size
    have w:(p.toList.map λi=>ds.getD i .ao).Perm ds:=by
     have:=(Array.perm_iff_toList_perm.mp n).map λi=>ds.getD i D.ao
     rwa [Jr] at this
    refine kI k ra (ds:=p.toList.map λi=>ds.getD i .ao) ?_ (q _ w ?_) I
    .refine ah.of_get (by simp) λi d v c b=> ?_
     rw[getElem?_map] at c b
     cases ep:p.toList[i]? with
     |none=>rw[ep] at c;cases c
     |some m=>
      rw[ep] at c b
      have N:m<ds.length:=by
       have:=(Array.perm_iff_toList_perm.mp n).mem_iff.mp (mem_of_getElem? ep)
       simpa using this
      have B:=getElem?_eq_getElem N
      obtain⟨J,o,u⟩:=ah.get t B
      have c:some (ds.getD m .ao)=some d:=c
      have b:some (xs.getD m .ao)=some v:=b
      rw[getD_eq_getElem?_getD,B] at c
      rw[getD_eq_getElem?_getD,o] at b
      cases c
      cases b
      exact u
    .rw[pairwise_map,List.pairwise_iff_getElem]
     intro i j hi C y
     have:=g i j (le_of_lt y) (by simpa[hz] using C)
     unfold KO.kp at this
     have P:p.getD i 0=p.toList[i]:=by
      rw[getD_eq_getD_getElem?,Array.getElem?_eq_getElem (by simpa using hi)]
      simp
     have S:p.getD j 0=p.toList[j]:=by
      rw[getD_eq_getD_getElem?,Array.getElem?_eq_getElem (by simpa using C)]
      simp
     rw[P,S] at this
     exact this
  .exact h.elim
 .exact h.elim
theorem Nd{A:Ar}{r:Nat}{ds:List D}{R:DK}(O:KeyOrd)(key:D->O.α)(h:A[r]?=some (.lst ds))(c:ds.length<64)(hd:∀d∈ds,eH d=true/\(toQ d).canLay0=true/\(toQ d).depth<=60/\∃x r,toQ d=.tuple (.str x::r))
  (f:∀d∈ds,∀e∈ds,ltQ (toQ d) (toQ e)=some (O.blt (key d) (key e)))(k:∀es:List D,es.Perm ds->es.Pairwise (λa b=>O.kle (key a) (key b))->R (.ref A.length) (A++[.lst es])):qx r A R:=by
 unfold qx;simp only[h];exact⟨c,hd,O,key,f,k⟩
def kQ(P Q:KeyOrd):KeyOrd where
 α:=P.α×Q.α
 blt a b:=P.blt a.1 b.1||(!P.blt b.1 a.1&&Q.blt a.2 b.2)
 irrefl a:=by simp[P.irrefl,Q.irrefl]
 trans a b c h1 h2:=by
  obtain⟨a1,a2⟩:=a
  obtain⟨b1,b2⟩:=b
  obtain⟨c1,c2⟩:=c
  simp only[or_eq_true,and_eq_true,not_eq_true'] at h1 h2 ⊢
  rcases h1 with h1|⟨h1,k1⟩
  .refine .inl ?_
   rcases h2 with h2|⟨h2,_⟩
   .exact P.trans _ _ _ h1 h2
   .exact KeyOrd.klt_of_klt_of_kle h1 h2
  .rcases h2 with h2|⟨h2,k2⟩
   .exact .inl (KeyOrd.klt_of_kle_of_klt h1 h2)
   .exact .inr ⟨KeyOrd.kle_trans h1 h2,Q.trans _ _ _ k1 k2⟩
 negTrans a b c h:=by
  obtain⟨a1,a2⟩:=a
  obtain⟨b1,b2⟩:=b
  obtain⟨c1,c2⟩:=c
  simp only[or_eq_true,and_eq_true,not_eq_true'] at h ⊢
  rcases h with h|⟨h,k⟩
  .rcases P.negTrans _ b1 _ h with h|h
   .exact .inl (.inl h)
   .exact .inr (.inl h)
  .cases e1:P.blt a1 b1 with
   |true=>exact .inl (.inl rfl)
   |false=>
    cases e2:P.blt b1 c1 with
    |true=>exact .inr (.inl rfl)
    |false=>
     have x1:P.blt b1 a1=false:=KeyOrd.kle_trans (O:=P) (a:=a1) (b:=c1) (c:=b1) h e2
     have x2:P.blt c1 b1=false:=KeyOrd.kle_trans (O:=P) (a:=b1) (b:=a1) (c:=c1) e1 h
     rcases Q.negTrans _ b2 _ k with k|k
     .exact .inl (.inr ⟨x1,k⟩)
     .exact .inr (.inr ⟨x2,k⟩)
 total a b h1 h2:=by
  obtain⟨a1,a2⟩:=a
  obtain⟨b1,b2⟩:=b
  simp only[Bool.or_eq_false_iff] at h1 h2
  have e:=P.total _ _ h1.1 h2.1
  subst e
  simp only[P.irrefl,Bool.not_false,Bool.true_and,true_and] at h1 h2
  rw[Q.total _ _ h1 h2]
def oJ:KeyOrd where
 α:=Int
 blt a b:=decide (a<b)
 irrefl a:=by simp
 trans a b c h1 h2:=by simp only[decide_eq_true_eq] at*;omega
 negTrans a b c h:=by simp only[decide_eq_true_eq] at*;omega
 total a b h1 h2:=by simp only[decide_eq_false_iff_not] at*;omega
abbrev d_:KeyOrd:=strKind.toKeyOrd
theorem Cq{a b:Str}(h:a.cps.toList=b.cps.toList):a=b:=by
 cases a;cases b;simp at h;simpa using Array.toList_inj.mp (by simpa using h)
theorem Ji{a b:Str}{O:KeyOrd}{x y:O.α}{xs ys:List PyData}(h:dR xs ys=some (O.blt x y)):ltQ (.tuple (.str a::xs)) (.tuple (.str b::ys))=some ((kQ d_ O).blt (a.cps.toList,x) (b.cps.toList,y)):=by
 rw[ltQ,dR];cases c:PyData.eqv (.str a) (.str b) with
 |true=>
  have e:a=b:=by simpa[PyData.eqv] using c
  subst e;show dR xs ys=_;rw[h];show some (O.blt x y)=some (d_.blt a.cps.toList a.cps.toList||(!d_.blt a.cps.toList a.cps.toList&&O.blt x y));have d:d_.blt a.cps.toList a.cps.toList=false:=d_.irrefl _;rw[d];simp
 |false=>
  have e:a≠b:=by
   intro z;subst z;simp[PyData.eqv] at c
  show ltQ (.str a) (.str b)=some (d_.blt a.cps.toList b.cps.toList||(!d_.blt b.cps.toList a.cps.toList&&O.blt x y));rw[ltQ];show some (d_.blt a.cps.toList b.cps.toList)=_;cases f:d_.blt a.cps.toList b.cps.toList with
  |true=>rfl
  |false=>
   cases g:d_.blt b.cps.toList a.cps.toList with
   |true=>rfl
   |false=>exact absurd (Cq (d_.total _ _ f g)) e
theorem Jg{i j:Int}{O:KeyOrd}{x y:O.α}{xs ys:List PyData}(h:dR xs ys=some (O.blt x y)):dR (.int i::xs) (.int j::ys)=some ((kQ oJ O).blt (i,x) (j,y)):=by
 rw[dR];show _=some (decide (i<j)||(!decide (j<i)&&O.blt x y));cases c:PyData.eqv (.int i) (.int j) with
 |true=>
  have e:i=j:=by simpa[PyData.eqv] using c
  subst e;show dR xs ys=_;rw[h];simp
 |false=>
  have e:i≠j:=by simpa[PyData.eqv] using c
  show ltQ (.int i) (.int j)=_;rw[ltQ];by_cases a:i<j
  .simp[a]
  .have b:j<i:=by omega
   simp[a,b]
def nv:KeyOrd where
 α:=Unit
 blt _ _:=false
 irrefl _:=rfl
 trans _ _ _ h _:=by cases h
 negTrans _ _ _ h:=by cases h
 total _ _ _ _:=rfl
theorem Jh:dR [] []=some (nv.blt () ()):=rfl
end DP
namespace L2
open PySem.SeqAt
open AutoSeq1 (wpAny_loadPart')
open MeetsSeq MeetsSeq2 MeetsSeq3 SeqRoads2
end L2
namespace DP
open L2
section
variable{X:Cx}{N:En}{a b:Expr}{ma mb:aC}{pos:Pos}
end
end DP
namespace L2
end L2
namespace DP
open L2
section
variable{X:Cx}{N:En}{a b:Expr}{ma mb:aC}{pos:Pos}
end
end DP
namespace L2
open Sem (wp)
open AutoSeq1 (wpAny_loadPart')
section
variable{prog:Program}{w:World}{A:Around}{E:aE}{s:Shared}
end
section
variable{prog:Program}{w:World}{A:Around}{E:aE}{s:Shared}
end
section
variable{X:Cx}
end
end L2
namespace DP
open L2
section
variable{es:List Expr}{env:Env}{p:Pos}
end
section
variable{X:Cx}{k n:Nat}
end
end DP
namespace HT
open L2
section
variable{prog:Program}{w:World}{A:Around}{E:aE}{s:Shared}
end
end HT
namespace L2
section
variable{X:Cx}{e se:Expr}{te ts:TE}{p2 pos:Pos}
end
end L2
namespace DP
open L2
end DP
namespace L2
section
variable{X:Cx}
end
end L2
namespace DP
open L2
section
variable{X:Cx}{N:En}{a b:Expr}{pos:Pos}{ma mb:aC}
end
section
variable{mg:aj}{ι:Io}{n:Nat}{H:Hp}
end
section
variable{X:Cx}{N:En}{cl f:Str}{C:Addr}{e o value:Expr}{pos pos':Pos}{m mo mv:aC}
end
section
variable{X:Cx}{N:En}{k n:Nat}{cl mn:Str}{ps:List Str}{S:Ct}{RE:DX}{o e:Expr}{es:List Expr}{mo:aC}{m:bZ}{p pos apos:Pos}
end
section
variable{X:Cx}{N:En}{o:Expr}{mo:aC}{apos cpos:Pos}{f:gv}{r:V->List V->Hp->VK->Prop}{name:Str}{id:String}
end
end DP
namespace L2
section
variable{X:Cx}
end
end L2
namespace DP
open L2
end DP
namespace L2
section
variable{X:Cx}
end
section
variable{X:Cx}{es:List Expr}{t:TJ}{te:TE}{e:Expr}{p pos:Pos}
end
end L2
namespace DP
open L2
section
variable{X:Cx}{N:En}{e o:Expr}{es:List Expr}{mo:aC}{m:bZ}{apos cpos:Pos}{f:gv}{r:V->List V->Hp->VK->Prop}{name:Str}{id:String}
end
section
variable{X:Cx}{N:En}{es:List Expr}{m:OY}{me:aC}{e:Expr}{p pos:Pos}
def AZ(i:Nat)(m:aC):cB:=λR τ A=>match lk τ i with
 |some (.int a)=>m τ A λy A1=>match y with
  |.int b=>R.nx (τ.set i (some (.int (a+b)))) A1
  |_=>False
 |_=>False
theorem Fw{i:Nat}{x:Str}{pos':Pos}(h:X.N.Nodup)(hi:X.N[i]?=some x)(j:Loc X.env.scope x)(l:PE X e (up X.mg N me))(m:X.fn x=true\/X.env.scope.names.lookup x=some .local:=by first|exact .inl rfl|exact .inr rfl|assumption):
  PS X (.AugAssign (.Name x pos') .Add e pos) (cj X.mg N (AZ i me)):=fZ (Lu h hi j l HZ m) λQ σ H q=>by
 obtain⟨A,ι,τ,R,S,q,k⟩:=q;unfold AZ at q;cases c:lk τ i with
 |none=>rw[c] at q;exact q.elim
 |some d=>
  rw[c] at q;cases d with
  |int a=>
   obtain⟨v,h1,h2⟩:=S.rs.at' i _ c;cases h2;refine⟨.int a,h1,A,ι,τ,_,S,q,λy r n H1 u f g o p=>?_⟩;cases y with
   |int b=>
    cases p;exact⟨a,b,rfl,rfl,(k.nx.from g).here ((S.next g o).set (d:=.int (a+b)) (v:=.int (a+b)) rfl) f⟩
   |_=>exact f.elim
  |_=>exact q.elim
end
end DP
namespace L2
section
variable{X:Cx}
end
section
variable{X:Cx}
end
end L2
namespace DP
open L2
section
variable{X:Cx}{N:En}{a b:Expr}{pos:Pos}{ma mb:aC}
end
end DP
namespace L2
section
variable{X:Cx}
end
end L2
namespace DP
open L2
end DP
namespace L2
section
variable{X:Cx}
end
end L2
namespace DP
open L2
section
variable{X:Cx}{N:En}{a b:Expr}{pos:Pos}{ma mb:aC}
end
end DP
namespace L2
section
variable{X:Cx}{es:List Expr}{t:TJ}{te:TE}{e:Expr}{p pos:Pos}
end
end L2
namespace DP
open L2
end DP
namespace L2
theorem boot_reversed:bootBuiltins "reversed"=some (.type "reversed"):=by decide+kernel
def qW(K:PySem.W.Frag)(a:Addr)(n:Nat):It:=
 ⟨λi H=>∃xs,aO K H a xs/\xs.length=n/\i<n,λi H x H'=>H'=H/\∀xs,aO K H a xs->xs[n - 1 - i]?=some x,λi H=>n<=i⟩
theorem Ol{P:Program}{w:World}{K:PySem.W.Frag}{tg:Expr}(a it:Addr)(n:Nat):Turn P w K tg (qW K a n) [it] it (λi h=>PySem.Heap.IsRevIter h it a ((n:Int) - 1 - i)/\i<=n) where
 mem:=by simp
 obj:=λi h st b hb=>by
  have e:b=it:=by simpa using hb
  subst e
  obtain⟨⟨o,e,c,d⟩,_⟩:=st
  exact⟨o,e,λv z=>by rw[d] at z;cases z⟩
 keep:=λi h h' st k=>⟨st.1.at λo e=>k it (by simp) o e,st.2⟩
 item:=by
  intro X m q r hc i pins s σ H E I j st l
  subst m q r
  obtain⟨xs,B,R,hi⟩:=l
  obtain⟨its,D,p,hz⟩:=I.list B
  have C:xs[n - 1 - i]? =some (xs[n - 1 - i]'(by omega)):=getElem?_eq_getElem (by omega)
  obtain⟨u,F,G⟩:=D.get C
  obtain⟨f0,f1,f2,t,f4,y⟩:=j it (by simp)
  have A:(n:Int) - 1 - i=((n - 1 - i:Nat):Int):=by omega
  have f:=st.1
  rw[A] at f
  refine PySem.wpAny_pyNext_rev_item f p.isList (x:=u) (by simpa using F) λh' g J=> ?_
  have L:Inv X pins σ H {s with heap:=h'}:=I.turned (t':=s.toks) (λb o hb e=>(J.2 b hb).trans e) f0 f1 t f4 y
  obtain⟨o,e,c,d⟩:=id g
  refine⟨u,rfl,l8 (s:={s with heap:=h'}) e c d (by decide) ⟨_,H,L,G,⟨rfl,λys M=>by rw[I.tO M B];exact C⟩,⟨?_,by omega⟩,λb hb=>(j b hb).1⟩⟩
  have N:(n:Int) - 1 - ((i+1:Nat):Int)=((n - 1 - i:Nat):Int) - 1:=by omega
  rw[N]
  exact g
 done:=by
  intro X m q r hc i pins s σ H E I j st l
  subst m q r
  have l:n<=i:=l
  obtain⟨f0,f1,f2,t,f4,y⟩:=j it (by simp)
  obtain⟨f,O⟩:=st
  have A:(n:Int) - 1 - i= -1:=by omega
  rw[A] at f
  exact PySem.wpAny_pyNext_rev_end (I.ok.hd hc) f λh' Q=>⟨rfl,I.turned (t':=s.toks) (λb o hb e=>Q b o hb e) f0 f1 t f4 y⟩
 self:=λ_ _ _ _ _ st h=>PySem.wpAny_pyIter_revIter st.1 h
section
variable{X:Cx}
def HK(K:PySem.W.Frag)(ta:TA):TI:=λσ H R=>ta σ H λvs H1=>∃a xs,vs=[.ref a]/\aO K H1 a xs/\R (qW K a xs.length) H1
theorem Lc{tg l:Expr}{ta:TA}{p pos:Pos}(f:Gl X "reversed")(g:X.mg "reversed"=none)(ha:PA X [l] ta)(i:starEach [l] X.env=[(false,eval l X.env)]:=by rfl):
  PI X tg (.Call (.Name "reversed" p) [l] [] pos) (HK X.K ta):=by
 intro pins s σ H R I h;refine Call_ (jc I f g boot_reversed (PyProof.Rows.callWith_type1 (aF (ha pos pins s σ H _ I h) λt c ⟨vs,H1,d,j,k⟩=>?_) i rfl));obtain⟨a,xs,e,m,q⟩:=k;subst e;obtain⟨u,rfl,n⟩:=vals1 j;cases n;obtain⟨its,r,pl,hz⟩:=d.list m;have v:=r.length;refine PySem.call_reversed_list pl.isList ?_;have st:PySem.Heap.IsRevIter (c.heap.push (PySem.revObj a ((its.toArray.size:Int) - 1))) c.heap.objs.size a ((xs.length:Int) - 1 - (0:Nat)):=by
  refine⟨_,get?_push_size _ rfl,rfl,?_⟩;have e:((its.toArray.size:Int) - 1)=((xs.length:Int) - 1 - (0:Nat)):=by simp;omega
  rw[<-e];rfl
 refine PySem.wpAny_pyIter_revIter st ⟨c.heap.objs.size,[c.heap.objs.size],_,_,H1,rfl,d.kept (t':=c.toks) λb o e=>get?_push_of_some _ e,Ol a _ _,⟨st,zero_le _⟩,λb hb=>?_,q⟩;have e:b=c.heap.objs.size:=by simpa using hb
 subst e;exact d.i8 (le_refl _) (d.hok.fresh (le_refl _))
end
end L2
namespace DP
open L2
section
variable{mg:aj}{K:PySem.W.Frag}{A:Ar}{ι:Io}{H:Hp}
def fy(ds:List D):List D:=ds.zipIdx.map λp=>D.tup [.int ((p.2:Nat):Int),p.1]
theorem FF{ds:List D}{i:Nat}{d:D}(h:(fy ds)[i]?=some d):∃x,ds[i]?=some x/\d=.tup [.int ((i:Nat):Int),x]:=by
 unfold fy at h;rw[getElem?_map,List.getElem?_zipIdx] at h;cases e:ds[i]? with
 |none=>rw[e] at h;cases h
 |some x=>
  rw[e] at h;simp at h;exact⟨x,rfl,h.symm⟩
theorem Il{q:Nat}{ds:List D}(f:q<A.length):iK mg A ι H (qS K (ι q)) (fy ds) (λA'=>A'[q]?=some (.lst ds)) where
 go:=λi d c a H1 hd e r hc=>by
  obtain⟨xs,h1,h2⟩:=r.lst hc;rw[e.ag q f] at h1;obtain⟨x,j,rfl⟩:=FF hd;obtain⟨v,g,k⟩:=ah.get h2 j;refine⟨⟨xs,v,aO.of h1,g⟩,λy H' z=>?_⟩;obtain⟨p,m,h,rfl,rfl,l⟩:=z;have:=l xs (aO.of h1);rw[g] at this;cases this;have E:Ext c a H1 c a (upd H1 p (.tup [.int (i:Nat),v])):=r.oB h;exact⟨E,r.fix E λb o z=>by rw[aS (cQ z h)];exact z,p,[.int (i:Nat),v],rfl,cW,_,_,rfl,rfl,_,_,rfl,RV.ext E _ _ k,rfl⟩
 stop:=λc a H1 e r hc=>by
  obtain⟨xs,h1,h2⟩:=r.lst hc;rw[e.ag q f] at h1;exact⟨xs,aO.of h1,by rw[<-ah.length h2];simp[fy]⟩
theorem Ir{q:Nat}{ds:List D}{n:Nat}(b:n=ds.length)(c:q<A.length):iK mg A ι H (qW K (ι q) n) ds.reverse (λA'=>A'[q]?=some (.lst ds)) where
 go:=λi d f a H1 hd e r hc=>by
  obtain⟨xs,h1,h2⟩:=r.lst hc;rw[e.ag q c] at h1;have j:=ah.length h2;have hi:=(List.getElem?_eq_some_iff.mp hd).1;rw[List.length_reverse] at hi;rw[List.getElem?_reverse hi] at hd;obtain⟨v,g,h⟩:=ah.get h2 hd;refine⟨⟨xs,aO.of h1,by omega,by omega⟩,λx H' y=>?_⟩;obtain⟨rfl,y⟩:=y;have:=y xs (aO.of h1);rw[b,g] at this;cases this;exact⟨r.refl,r,h⟩
 stop:=λf a H1 e r hc=>by
  show n<=ds.reverse.length;rw[List.length_reverse];omega
end
@[irreducible] def jb(f:List D->List D)(r:Nat)(A:Ar)(R:List D->(Ar->Prop)->Ar->Prop):Prop:=match A[r]? with
 |some (.lst ds)=>R (f ds) (λA'=>A'[r]?=some (.lst ds)) A
 |_=>False
theorem tu{f:List D->List D}{r:Nat}{A:Ar}{ds:List D}{R:List D->(Ar->Prop)->Ar->Prop}(h:A[r]?=some (.lst ds))(k:R (f ds) (λA'=>A'[r]?=some (.lst ds)) A):jb f r A R:=by
 unfold jb;rw[h];exact k
def HF(n:bZ):fF:=λτ A R=>n τ A λvs A1=>match vs with
 |[.ref r]=>jb fy r A1 R
 |_=>False
def HM(n:bZ):fF:=λτ A R=>n τ A λvs A1=>match vs with
 |[.ref r]=>jb List.reverse r A1 R
 |_=>False
section
variable{X:Cx}{N:En}{tg l:Expr}{n:bZ}{p pos:Pos}
theorem xQ{elts:List Expr}{k:Nat}{tpos:Pos}(g:X.mg "enumerate"=none)(ha:PA X [l] (dW X.mg N n))(h:Gl X "enumerate":=by rfl)(i:starEach [l] X.env=[(false,eval l X.env)]:=by rfl):PI X (.Tuple elts k tpos) (.Call (.Name "enumerate" p) [l] [] pos) (iH X.mg N (HF n)):=j9 (K_ h g ha boot_enumerate i) λσ H Q q=>by
 obtain⟨A,ι,τ,R,S,q,k⟩:=q;refine⟨A,ι,τ,_,S,q,λvs d b H1 o a j f c=>?_⟩;match vs,a,c with
 |[.ref r],a,c=>
  obtain⟨_,_,rfl,⟨m,rfl⟩,rfl⟩:=c;have a:jb fy r d R:=a;unfold jb at a;split at a
  .rename_i ds e
   obtain⟨xs,h1,h2⟩:=f.lst e;exact⟨_,xs,rfl,aO.of h1,k _ _ d b H1 _ a j f (Il m)⟩
  .exact a.elim
theorem Fl(g:X.mg "reversed"=none)(ha:PA X [l] (dW X.mg N n))(h:Gl X "reversed":=by rfl)(i:starEach [l] X.env=[(false,eval l X.env)]:=by rfl):PI X tg (.Call (.Name "reversed" p) [l] [] pos) (iH X.mg N (HM n)):=j9 (Lc h g ha i) λσ H Q q=>by
 obtain⟨A,ι,τ,R,S,q,k⟩:=q;refine⟨A,ι,τ,_,S,q,λvs d b H1 o a j f c=>?_⟩;match vs,a,c with
 |[.ref r],a,c=>
  obtain⟨_,_,rfl,⟨m,rfl⟩,rfl⟩:=c;have a:jb List.reverse r d R:=a;unfold jb at a;split at a
  .rename_i ds e
   obtain⟨xs,h1,h2⟩:=f.lst e;exact⟨_,xs,rfl,aO.of h1,k _ _ d b H1 _ a j f (Ir (ah.length h2).symm m)⟩
  .exact a.elim
end
end DP
namespace L2
section
variable{X:Cx}
def AL:V->List V->Hp->VK->Prop:=λx vs H Q=>∃d o kvs more,x=.ref d/\vs=[.ref o]/\d≠o/\H d=some (.dK kvs)/\H o=some (.dK more)/\kvs.length+more.length<=1000/\Q .ao (upd H d (.dK (iz kvs more)))
theorem zQ:nK X "dict.update" AL:=by
 intro pins s σ H x vs v y Q I i j h;obtain⟨d,o,kvs,a,rfl,rfl,b,hd,k,hz,q⟩:=h;cases i;obtain⟨u,rfl,l⟩:=j.one;cases l;obtain⟨z,m,c,k1,dd⟩:=oj I.hok hd;obtain⟨A,n,e,k2,f⟩:=oj I.hok k;have g:(1000:Nat)<=sizeLine:=by decide
 have l1:=k1.length;have l2:=k2.length;have lm:=tK a kvs;refine call_meetsIn slot_dict_update (dd.typeIs) PySem.F.entry_dict_update (PySem.F.args_dict_update_2 _ _) (PySem.meets_dict_update (cg X.prog X.w) d o b n) ?_;refine⟨c,e,dd,f,by omega,λh' h1 h2 p=>?_⟩;have r:∃q,h'.get? d=some q:=let ⟨q,_,_,t,_⟩:=h1;⟨q,t⟩;exact⟨.ao,_,n9 I (by rw[hd];exact True.intro) p r (sC (by omega) m (k2.merge k1) h1),rfl,q⟩
theorem CmpOf.Nt{prog:Program}{w:World}{A:Around}{P:Nat->Value->Prop}(val:Nat->Str)(a:∀i v,P i v->∃t,v=.str (val i) t):
  CmpOf prog w A .Lt P (λi j=>decide ((val i).cps.toList<(val j).cps.toList)):=λi j b c s Q E hi d h=>by
 obtain⟨t,rfl⟩:=a i b hi;obtain⟨u,rfl⟩:=a j c d;exact PySem.P.lt_str h
theorem wh(val:Nat->Str):∀k,argBest (λi j=>decide ((val i).cps.toList<(val j).cps.toList)) k<=k/\∀j,j<=k->¬(val j).cps.toList<(val (argBest (λi j=>decide ((val i).cps.toList<(val j).cps.toList)) k)).cps.toList
 |0=>⟨le_refl _,λj c=>by
  have:j=0:=by omega
  subst this;exact List.lt_irrefl _⟩
 |k+1=>by
  obtain⟨h1,h2⟩:=wh val k;have e:argBest (λi j=>decide ((val i).cps.toList<(val j).cps.toList)) (k+1)=if decide ((val (k+1)).cps.toList<(val (argBest (λi j=>decide ((val i).cps.toList<(val j).cps.toList)) k)).cps.toList)=true then k+1 else argBest (λi j=>decide ((val i).cps.toList<(val j).cps.toList)) k:=rfl
  rw[e];split
  .rename_i h
   rw[decide_eq_true_eq] at h;refine⟨le_refl _,λj c a=>?_⟩;by_cases b:j=k+1
   .subst b
    exact List.lt_irrefl _ a
   .exact h2 j (by omega) (List.lt_trans a h)
  .rename_i h
   rw[decide_eq_true_eq] at h;refine⟨by omega,λj c=>?_⟩;by_cases b:j=k+1
   .subst b
    exact h
   .exact h2 j (by omega)
theorem D_(hc:X.calm=true):c_ X (.builtin "min") (λxs H Q=>∃(d:Addr) (kvs:List (Key×V)) (ns:List Str),xs=[.ref d]/\Rd H d (.dK kvs)/\kvs.map (·.1)=ns.map Sum.inr/\ns≠[]/\∀m∈ns,(∀n∈ns,¬n.cps.toList<m.cps.toList)->Q (.str m) H):=by
 intro pins s σ H xs S Q I r h;obtain⟨d,kvs,ns,rfl,hd,C,p,q⟩:=h;obtain⟨u,rfl,E⟩:=vals1 r;cases E;have D:=List.length_pos_iff.mpr p;obtain⟨hz,F,vs,rel,dd⟩:=jx I.hok hd;obtain⟨ep,a⟩:=dd.dictAt;have f:kvs.length=ns.length:=by
  have:=congrArg List.length C;simpa using this
 have G:vs.length=ns.length:=by rw[<-rel.length,f]
 have g:d<s.heap.objs.size:=by obtain⟨o,_,y,_⟩:=a;exact lt_size y
 have keys:∀i v,(∃k x,vs[i]?=some (k,x)/\(cg X.prog X.w).is k v=true)->∃t:Tok,v=.str (ns.getD i default) t:=λi v ⟨k,x,h1,h2⟩=>by
  have J:=rel.keys;have c:(vs.map (·.1))[i]?=some k:=by rw[getElem?_map,h1];rfl
  rw[<-J,C,getElem?_map] at c;cases e:ns[i]? with
  |none=>rw[e] at c;cases c
  |some n=>
   rw[e] at c;have c:k=Sum.inr n:=(Option.some.inj c).symm;subst c;rcases f9 (show iP (Sum.inr n) v=true from h2) with⟨_,_,z,_⟩|⟨T,t,z,K⟩
   .cases z
   .cases z
    refine⟨t,?_⟩;rw[getD_eq_getElem?_getD,e];exact K
 refine call_min_walk ?_;refine wpAny_pyIter_dict (knd:=cg X.prog X.w) F a ⟨s.heap.objs.size,_,_,_,_,_,_,rfl,Walks.dictKeys (knd:=cg X.prog X.w) (A:=X.A.in1) (I.ok.hd hc) s.heap.objs.size d (ne_of_lt g) vs ep,⟨⟨_,get?_push_size _ rfl,rfl,rfl⟩,?_⟩,λb hb=>?_,by omega,CmpOf.Nt (λi=>ns.getD i default) keys,λv h' tk L B=>?_⟩
 .obtain⟨o,es,y,r⟩:=a
  exact⟨o,es,get?_push_of_some _ y,r⟩
 .show b<(s.heap.push _).objs.size
  rw[size_push'];rcases mem_cons.mp hb with e|hb
  .rw[e];exact Nat.lt_succ_self _
  .rw[mem_singleton.mp hb];exact lt_succ_of_lt g
 .obtain⟨t,rfl⟩:=keys _ v L
  obtain⟨U,M⟩:=wh (λi=>ns.getD i default) (vs.length - 1);have hi:argBest (λi j=>decide ((ns.getD i default).cps.toList<(ns.getD j default).cps.toList)) (vs.length - 1)<ns.length:=by omega
  have l:ns.getD (argBest (λi j=>decide ((ns.getD i default).cps.toList<(ns.getD j default).cps.toList)) (vs.length - 1)) default∈ns:=by
   rw[getD_eq_getElem?_getD,getElem?_eq_getElem hi];exact List.getElem_mem hi
  have N:=q _ l λn O=>by
   obtain⟨j,P,e⟩:=getElem_of_mem O;have:=M j (by omega);rw[getD_eq_getElem?_getD,getElem?_eq_getElem P] at this;rw[<-e];exact this
  exact⟨.str _,H,I.kept λb o e=>B b o (λz=>by
   have R:b=s.heap.objs.size:=by simpa using z
   exact absurd (lt_size e) (by rw[R];exact lt_irrefl _)) (get?_push_of_some _ e),⟨_,rfl⟩,N⟩
end
end L2
namespace DP
open L2
def EC(mk mv:aC):aC:=λτ A R=>mk τ A λk A1=>mv τ A1 λv A2=>match dQ k with
 |some ky=>R (.ref A2.length) (A2++[.dct [(ky,v)]])
 |none=>False
theorem E9{X:Cx}{N:En}{pos:Pos}{k v:Expr}{mk mv:aC}(O:PE X k (up X.mg N mk))(P:PE X v (up X.mg N mv)):PE X (.Dict [some k] [v] pos) (up X.mg N (EC mk mv)):=
 c7 (KR (Lq O P Lr) rfl rfl (by simp) (show 1<=15 by decide)) λσ H Q q=>by
  obtain⟨A,ι,τ,R,S,q,T⟩:=q;intro p n;have E:=S.ra.oB (o:=.dK []) n;have F:cC X.mg N A ι τ σ (upd H p (.dK [])):=S.next E (S.ra.fix E λb o z=>by rw[aS (cQ z n)];exact z);have off:∀r,r<A.length->ι r≠p:=λr g z=>by
   obtain⟨o,h1,_⟩:=S.ra.im r g;rw[z,n] at h1;cases h1
  refine⟨A,ι,τ,_,F,q,λG U w H1 x V I W Y=>?_⟩;refine⟨U,w,τ,_,F.next I W,V,λu a i H2 y t Z J v2=>?_⟩;have d:=I.trans Z;have K:H2 p=some (.dK []):=d.mo p _ cW off;have f:∀r,r<a.length->i r≠p:=λr g z=>by
   by_cases L:r<A.length
   .rw[d.ag r L] at z;exact off r L z
   .have:=d.nw r (by omega) g
    rw[z,cW] at this;cases this
  have t:(match dQ G with|some l=>R (.ref a.length) (a++[.dct [(l,u)]])|none=>False):=t;cases B:dQ G with
  |none=>rw[B] at t;exact t.elim
  |some l=>
  rw[B] at t;have ex:x=kV l:=jE B Y;subst ex;refine⟨K,[(l,y)],rfl,show 1<=15 by decide,?_⟩;have em:iz [] [(l,y)]=[(l,y)]:=rfl;rw[em];obtain⟨j,e,at2⟩:∃j:Io,(∀r,r<a.length->j r=i r)/\j a.length=p:=⟨λr=>if r=a.length then p else i r,λr h=>by
   show(if r=a.length then p else i r)=i r;rw[if_neg (by omega)],by
   show(if a.length=a.length then p else i a.length)=p;rw[if_pos rfl]⟩
  have M:∀b o,gc o=false->H2 b=some o->upd H2 p (.dK [(l,y)]) b=some o:=λb o m z=>by
   rw[aS]
   .exact z
   .rintro rfl
    rw[K] at z;cases z;cases m
  refine T (.ref a.length) (a++[.dct [(l,u)]]) j _ _ t ⟨?_,λr h=>?_,S.ra.im,λb o h hn=>?_,λr h1 h2=>?_,λb o h=>?_⟩ ⟨λr c h=>?_,λr s g hs h=>?_⟩ ⟨by simp,by rw[at2]⟩
  .have:=d.len;simp;omega
  .rw[e r (lt_of_lt_of_le h d.len)];exact d.ag r h
  .have hb:b≠p:=cQ h n
   rw[aS hb];exact d.mo b o (by rw[aS hb];exact h) hn
  .by_cases g:r<a.length
   .rw[e r g]
    have:=d.nw r h1 g;rw[aS (f r g)] at this;exact this
   .have:r=a.length:=by simp at h2;omega
    subst this;rw[at2];exact n
  .have hb:b≠p:=cQ h n
   obtain⟨o',h'⟩:=d.al b o (by rw[aS hb];exact h);exact⟨o',by rw[aS hb];exact h'⟩
  .by_cases g:r<a.length
   .rw[getElem?_append_left g] at h
    have:=CO.ag (n':=(a++[C.dct [(l,u)]]).length) (ι':=j) (H':=upd H2 p (.dK [(l,y)])) (by simp) e M (λo z=>by rw[aS (f r g)];exact z) c (J.fk r c h);rw[e r g];exact this
   .have D:r=a.length:=by
     have:=(List.getElem?_eq_some_iff.mp h).1;simp at this;omega
    subst D;simp at h;subst h;rw[at2];exact⟨_,cW,y,[],rfl,RV.ag (by simp) e M u y v2,rfl⟩
  .simp at g hs
   by_cases h1:r=a.length
   .by_cases h2:s=a.length
    .rw[h1,h2]
    .subst h1
     rw[at2,e s (by omega)] at h;exact absurd h.symm (f s (by omega))
   .by_cases h2:s=a.length
    .subst h2
     rw[at2,e r (by omega)] at h;exact absurd h (f r (by omega))
    .rw[e r (by omega),e s (by omega)] at h
     exact J.inj r s (by omega) (by omega) h
def oR(A:Ar):D->Bool
 |.ref r=>match A[r]? with
  |some (.dct _)=>true
  |_=>false
 |_=>false
def xm(f:gv)(mo:aC)(m:bZ):aC:=λτ A R=>mo τ A λx A1=>oR A1 x=true/\m τ A1 λvs A2=>f x vs A2 R
theorem zc{A:Ar}{r:Nat}{kvs:List (Key×D)}(h:A[r]?=some (.dct kvs)):oR A (.ref r)=true:=by unfold oR;simp only[h]
section
variable{X:Cx}{N:En}{e o:Expr}{es:List Expr}{mo:aC}{m:bZ}{apos cpos:Pos}{f:gv}{r:V->List V->Hp->VK->Prop}{name:Str}{id:String}
theorem xD(w:PlainAttrs "dict")(slot:Slot "dict" name id)(h:typeOf (.builtin id)=pure (.type "method_descriptor"))(y:qX X id r)(hd:jV X.mg X.K "dict" r f)(z:PE X o (up X.mg N mo))(ha:PA X (e::es) (dW X.mg N m))
  (b:attributeBase o name X.env (eval o X.env)=eval o X.env:=by rfl)
  (d:((backTo cpos (starEach (e::es) X.env)).all (λx=> !x.1)&&(backToKw cpos (keywordEach [] X.env)).all (λx=>x.1.isSome)
   &&decide ((e::es).length+([]:List Keyword).length+(if ([]:List Keyword).isEmpty then 0 else 1)<30))=true:=by rfl)
  (c:(apos.endLine==cpos.line)=true:=by rfl)(B:starEach (e::es) X.env=(false,eval e X.env)::starEach es X.env:=by rfl)(a:(backTo cpos (starEach es X.env)).any (·.1)=false:=by rfl):
  PE X (.Call (.Attribute o name apos) (e::es) [] cpos) (up X.mg N (xm f mo m)):=c7 (Ag w slot h y z ha b d c B a) λσ H Q q=>by
 obtain⟨A,ι,τ,R,S,q,k⟩:=q
 refine⟨A,ι,τ,_,S,q,λx C i H1 u j p s t=> ?_⟩
 obtain⟨g,j⟩:=j
 refine⟨?_,C,i,τ,_,S.next p s,j,λys D l H2 n E v F v2=> ?_⟩
 .cases x with
  |ref q=>
   obtain⟨_,rfl⟩:=t
   unfold oR at g
   simp only at g
   split at g
   .rename_i kvs G
    obtain⟨n,h1,_⟩:=s.dct G
    exact .inr (.inr (.inl ⟨rfl,.inl ⟨n,h1⟩⟩))
   .cases g
  |_=>cases g
 .exact hd x ys D l H2 _ n R Q F (RV.ext v x u t) v2 E (k.from (p.trans v))
end
def iA(kvs more:List (Key×D)):List (Key×D):=more.foldl (λacc p=>bL acc p.1 p.2) kvs
@[irreducible] def qH(r q:Nat)(A:Ar)(R:DK):Prop:=match A[r]?,A[q]? with
 |some (.dct kvs),some (.dct more)=>r≠q/\kvs.length+more.length<=1000/\R .ao (A.set r (.dct (iA kvs more)))
 |_,_=>False
theorem CU{A:Ar}{r q:Nat}{kvs a:List (Key×D)}{R:DK}(h1:A[r]?=some (.dct kvs))(h2:A[q]?=some (.dct a))(b:r≠q)(hz:kvs.length+a.length<=1000)(k:R .ao (A.set r (.dct (iA kvs a)))):qH r q A R:=by
 unfold qH;simp only[h1,h2];exact⟨b,hz,k⟩
def u9:gv:=λx vs A R=>match x,vs with
 |.ref r,[.ref q]=>qH r q A R
 |_,_=>False
theorem xy{mg:aj}{K:PySem.W.Frag}:jV mg K "dict" AL u9:=by
 intro x ds A ι H u s R Q ra j rs h k;unfold u9 at h;split at h
 .rename_i r q
  obtain⟨e,rfl⟩:=j;obtain⟨_,_,rfl,⟨l,rfl⟩,rfl⟩:=rs;unfold qH at h;split at h
  .rename_i kvs a f m
   obtain⟨b,hz,h⟩:=h;obtain⟨xs,h1,g⟩:=ra.dct f;obtain⟨ys,h2,i⟩:=ra.dct m;have l1:=RK.length g;have l2:=RK.length i;refine⟨_,_,xs,ys,rfl,rfl,λz=>b (ra.inj r q e l z),h1,h2,by omega,?_⟩;have E:=ra.kc (o:=.dK (iz xs ys)) (c:=.dct (iA kvs a)) e;have n:RK mg ι A.length H (iA kvs a) (iz xs ys):=RK.fold i g;obtain⟨d,p⟩:=ra.put (c':=.dct (iA kvs a)) (o:=.dK (iz xs ys)) f h1 rfl ⟨_,cW,by simpa using RK.ext E _ _ n⟩;exact k _ _ ι _ _ h p d rfl
  .exact h.elim
 .exact h.elim
@[irreducible] def o9(r:Nat)(A:Ar)(R:DK):Prop:=∃(kvs:List (Key×D)) (ns:List Str),(A[r]?=some (.dct kvs)\/∃o,A[r]?=some (.bf o kvs))/\kvs.map (·.1)=ns.map Sum.inr/\ns≠[]/\∀m∈ns,(∀n∈ns,¬n.cps.toList<m.cps.toList)->R (.str m) A
def zK:fU:=λvs A R=>match vs with
 |[.ref r]=>o9 r A R
 |_=>False
theorem Js{A:Ar}{r:Nat}{kvs:List (Key×D)}{ns:List Str}{R:DK}(h:A[r]?=some (.dct kvs)\/∃o,A[r]?=some (.bf o kvs))(b:kvs.map (·.1)=ns.map Sum.inr)(a:ns≠[])(k:∀m∈ns,(∀n∈ns,¬n.cps.toList<m.cps.toList)->R (.str m) A):o9 r A R:=by
 unfold o9;exact⟨kvs,ns,h,b,a,k⟩
theorem EY{mg:aj}:gq mg (λxs H Q=>∃(d:Addr) (kvs:List (Key×V)) (ns:List Str),xs=[.ref d]/\Rd H d (.dK kvs)/\kvs.map (·.1)=ns.map Sum.inr/\ns≠[]/\∀m∈ns,(∀n∈ns,¬n.cps.toList<m.cps.toList)->Q (.str m) H) zK:=by
 intro ds A ι H i R Q ra rs h k;unfold zK at h;split at h
 .obtain⟨_,_,rfl,⟨_,rfl⟩,rfl⟩:=rs
  unfold o9 at h;obtain⟨kvs,ns,h1,h2,f,g⟩:=h;rcases h1 with h1|⟨o,h1⟩
  .obtain⟨xs,b,c⟩:=ra.dct h1
   exact⟨_,xs,ns,rfl,.inl b,by rw[RK.ki c];exact h2,f,λm e a=>k.here ra (g m e a) rfl⟩
  .obtain⟨xs,b,c⟩:=ra.bf h1
   exact⟨_,xs,ns,rfl,.inr ⟨o,b⟩,by rw[RK.ki c];exact h2,f,λm e a=>k.here ra (g m e a) rfl⟩
 .exact h.elim
@[irreducible] def oM(neg:Bool)(x:D)(r:Nat)(A:Ar)(R:DK):Prop:=∃(kvs:List (Key×D)) (k:Key),(A[r]?=some (.dct kvs)\/∃o,A[r]?=some (.bf o kvs))/\dQ x=some k/\R (.bl (if neg then !(aN kvs k).isSome else (aN kvs k).isSome)) A
def sY(neg:Bool):cO:=λx y A R=>match y with
 |.ref r=>oM neg x r A R
 |_=>False
theorem HU{neg:Bool}{x:D}{r:Nat}{A:Ar}{R:DK}{kvs:List (Key×D)}{k:Key}(h:A[r]?=some (.dct kvs)\/∃o,A[r]?=some (.bf o kvs))(a:dQ x=some k)(q:R (.bl (if neg then !(aN kvs k).isSome else (aN kvs k).isSome)) A):oM neg x r A R:=by
 unfold oM;exact⟨kvs,k,h,a,q⟩
theorem ET{mg:aj}(neg:Bool):cF mg (m6 neg) (sY neg):=by
 intro x y A ι H u v R Q ra g i h k;unfold sY at h;split at h
 .rename_i f
  obtain⟨_,rfl⟩:=i;unfold oM at h;obtain⟨kvs,b,h1,j,h2⟩:=h;have ex:=jE j g;subst ex;have fin:∀a,RK mg ι A.length H kvs a->Rd H (ι f) (.dK a)->m6 neg (kV b) (.ref (ι f)) H Q:=λa c l=>by
   obtain⟨m,n⟩:=RK.get (k:=b) c;refine⟨_,cX a b,rfl,.inl ⟨a,b,l,rfl,rfl⟩,?_⟩;have p:(cX a b).isSome=(aN kvs b).isSome:=by
    cases q:aN kvs b with
    |none=>rw[n q];rfl
    |some d=>obtain⟨z,hz,_⟩:=m d q;rw[hz];rfl
   rw[p];exact k.here ra h2 rfl
  rcases h1 with h1|⟨o,h1⟩
  .obtain⟨a,e,c⟩:=ra.dct h1
   exact fin a c (.inl e)
  .obtain⟨a,e,c⟩:=ra.bf h1
   exact fin a c (.inr ⟨o,e⟩)
 .exact h.elim
section
variable{X:Cx}{N:En}{pos:Pos}{a b:Expr}{ma mb:aC}
theorem N4(c:X.A.units+64<cLine)(ha:PE X a (up X.mg N ma))(hb:PE X b (up X.mg N mb))(d:behindInMarks .In b=false:=by rfl):PT X (.Compare a [.In] [b] pos) (cz X.mg N (eW (b9 (sY false) ma mb))):=iL (JY c) (ET false) ha hb d
end
def xh(m:aC):aC:=λτ A R=>(∃r kvs,A[r]?=some (.dct kvs)/\∀o,m τ (A.set r (.bf o kvs)) λx A2=>CF r o A2 (R x))\/m τ A R
def Mi(m:cB):cB:=λR τ A=>(∃r kvs,A[r]?=some (.dct kvs)/\∀o,m {nx:=λbU A2=>CF r o A2 (R.nx bU),rt:=λ_ _=>False} τ (A.set r (.bf o kvs)))\/m R τ A
section
variable{X:Cx}{N:En}{e:Expr}{m:aC}
theorem sr(g:PE X e (up X.mg N m)):PE X e (up X.mg N (xh m)):=by
 intro pins s σ H Q I q;obtain⟨A,ι,τ,R,S,q,k⟩:=q;rcases q with⟨r,kvs,a,q⟩|q
 .obtain⟨xs,h1,h2⟩:=S.ra.dct a
  have n:=(List.getElem?_eq_some_iff.mp a).1;obtain⟨p,o,t⟩:=I.fz h1;obtain⟨w,x⟩:=yD (o:=o) S a h1 h2;refine aF (g pins s σ _ (λu H'=>∃xs,H' (ι r)=some (.bh o (.dK xs))/\Q u (upd H' (ι r) (.dK xs))) t ⟨_,ι,τ,_,w,q o,λv A' ι' H' u b h y v2=>?_⟩) λv s' ⟨u,H',z,B,C,h',D⟩=>⟨u,_,z.CM h' p,B,D⟩;obtain⟨i,c,b⟩:=b;have E:ι' r=ι r:=h.ag r (by simpa using n);obtain⟨d,j,l,f⟩:=yC y c;rw[E] at j l f;exact⟨d,j,k v _ ι' _ u b ((x.trans h).trans f) l (RV.ext f v u v2)⟩
 .exact g pins s σ H Q I ⟨A,ι,τ,R,S,q,k⟩
theorem Fx{st:Stmt}{ms:cB}(f:PS X st (cj X.mg N ms)):PS X st (cj X.mg N (Mi ms)):=by
 intro pins s σ H Q I q;obtain⟨A,ι,τ,R,S,q,k⟩:=q;rcases q with⟨r,kvs,a,q⟩|q
 .obtain⟨xs,h1,h2⟩:=S.ra.dct a
  have m:=(List.getElem?_eq_some_iff.mp a).1;obtain⟨n,o,p⟩:=I.fz h1;obtain⟨t,v⟩:=yD (o:=o) S a h1 h2;refine aF (f pins s σ _ {nx:=λσ' H'=>∃xs,H' (ι r)=some (.bh o (.dK xs))/\Q.nx σ' (upd H' (ι r) (.dK xs)),rt:=λ_ _=>False,bk:=λ_ _=>False,ct:=λ_ _=>False} p ⟨_,ι,τ,_,t,q o,⟨λbU A' ι' σ' H' b g w x=>?_,λ_ _ _ _ _ z=>z.elim,λ_ _ _ _ _ z=>z.elim,λ_ _ _ _ _ z=>z.elim⟩⟩) λfl s' h=>?_
  .obtain⟨i,c,b⟩:=b
   have y:ι' r=ι r:=g.ag r (by simpa using m);obtain⟨d,j,l,e⟩:=yC w c;rw[y] at j l e;exact⟨d,j,k.nx bU _ ι' σ' _ b ((v.trans g).trans e) l (x.ext e)⟩
  .cases fl with
   |next=>
    obtain⟨σ',H',B,C,h',D⟩:=h;exact⟨σ',_,B.CM h' n,D⟩
   |brk=>obtain⟨_,_,_,z⟩:=h;exact z.elim
   |cont=>obtain⟨_,_,_,z⟩:=h;exact z.elim
   |ret u=>obtain⟨_,_,_,_,_,z⟩:=h;exact z.elim
 .exact f pins s σ H Q I ⟨A,ι,τ,R,S,q,k⟩
end
section
variable{X:Cx}{N:En}{a b:Expr}{ma mb:aC}{pos:Pos}
end
section
variable{mg:aj}{K:PySem.W.Frag}{A:Ar}{ι:Io}{H:Hp}
end
section
variable{X:Cx}{N:En}{pos:Pos}{a b:Expr}{ma mb:aC}
end
end DP
namespace L2
section
variable{X:Cx}
def Ay:V->List V->Hp->VK->Prop:=λx vs H Q=>∃l b xs zs,x=.ref l/\vs=[.ref b]/\H l=some (.lst xs)/\H b=some (.tup zs)/\xs.length+zs.length<=sizeLine/\Q .ao (upd H l (.lst (xs++zs)))
theorem JA:nK X "list.extend" Ay:=by
 intro pins s σ H x vs v p Q I g i h;obtain⟨l,b,xs,zs,rfl,rfl,d,j,hz,q⟩:=h;cases g;obtain⟨u,rfl,k⟩:=i.one;cases k;obtain⟨z,its,n,r,t,e⟩:=I.kG d;obtain⟨a,n2,f,m,_⟩:=I.CI j;have o:=f.length;have hsz:its.toArray.size+a.toArray.size<=sizeLine:=by rw[size_toArray,size_toArray];omega
 have c:¬(!its.toArray.isEmpty&&Builtin.List.listTooLong (its.toArray.size+a.toArray.size))=true:=by
  rw[z0 hsz,Bool.and_false];exact Bool.false_ne_true
 refine call_meets slot_list_extend ⟨_,e,rfl⟩ PySem.F.entry_list_extend (PySem.F.args_list_extend_2 _ _)
  (AutoSeq1.list_extend_list_tuple_0 l its.toArray n b a.toArray n2 c (by rw[size_toArray];omega) (by omega)) ⟨e,m,?_⟩
 refine⟨.ao,_,I.tR (its':=its++a) d e (by simp) (r.append f) ?_,rfl,q⟩;rw[length_append];omega
end
end L2
namespace DP
open L2
@[irreducible] def oA(r:Nat)(ys:List D)(A:Ar)(R:DK):Prop:=match A[r]? with
 |some (.lst xs)=>xs.length+ys.length<=sizeLine/\R .ao (A.set r (.lst (xs++ys)))
 |_=>False
def yk:gv:=λx vs A R=>match x,vs with
 |.ref r,[.tup ys]=>oA r ys A R
 |_,_=>False
theorem EM{mg:aj}{K:PySem.W.Frag}:jV mg K "list" Ay yk:=by
 intro x ds A ι H u g R Q ra d rs h k;unfold yk at h;split at h
 .obtain⟨_,rfl⟩:=d
  obtain⟨v,_,rfl,⟨a,zs,rfl,f,b⟩,rfl⟩:=rs;unfold oA at h;split at h
  .rename_i xs e
   obtain⟨ws,h1,c⟩:=ra.lst e;exact⟨_,_,ws,zs,rfl,rfl,h1,f,by rw[<-ah.length c,<-ah.length b];exact h.1,uy k ra e h1 (c.app b) h.2 λ_=>rfl⟩
  .exact h.elim
 .exact h.elim
theorem FT{A:Ar}{r:Nat}{xs ys:List D}{R:DK}(h:A[r]?=some (.lst xs))(hz:xs.length+ys.length<=sizeLine)(k:R .ao (A.set r (.lst (xs++ys)))):oA r ys A R:=by
 unfold oA;simp only[h];exact⟨hz,k⟩
end DP
namespace L2
section
variable{M:Model}{A:Around}{E:aE}{s:Shared}{base:Heap}{env:Env}{outer:List Env}{L e:Addr}{cls a0 fl:Value}{Q:Unit->Shared->Prop}
end
section
variable{P:Program}{w:World}{K:PySem.W.Frag}{mg:aj}{base:Heap}{N:List Str}{qual:Str}{scope:Scope}{f:Addr}{cd:Value}{A:Around}{outer:List Env}{s:Shared}{H:Hp}{E:XK}
end
section
variable{X:Cx}{NC:List Str}{scope:Scope}{E:XK}{c:CP}{pins:aK}{σ:St}{H:Hp}{s:Shared}
end
section
variable{X:Cx}{scope:Scope}{own frees:List Str}{ix:List Nat}{tg elt iter:Expr}{pos:Pos}{wi:TI}{g:CP->TG}{te:CP->TE}{E:XK}
end
section
variable{X:Cx}{scope:Scope}{own frees:List Str}{ix:List Nat}{tg elt iter:Expr}{pos:Pos}{wi:TI}{g:CP->TG}{te:CP->TE}{E:XK}
end
end L2
namespace DP
open L2
section
variable{X:Cx}{N:En}{own frees:List Str}{ix:List Nat}{it:fF}{te:aC}(k:Option Nat){tg iter elt:Expr}{scope:Scope}{pos:Pos}{E:XK}
end
end DP
end
namespace L2
theorem bA{N P:List PySem.Str}{sc:PySem.Scope}(kind:sc.kind=.function:=by rfl)(co:sc.isCoroutine=false:=by rfl)(gen:sc.isGenerator=false:=by rfl)(nd:N.Nodup:=by decide+kernel)(pre:N.take P.length=P:=by rfl)
 (par:∀x∈P,sc.names.lookup x=some .local\/sc.names.lookup x=some .cell:=by decide+kernel)(uh:∀y∈sc.names,y.2≠ .free:=by decide+kernel):a_ N P sc:=⟨kind,co,gen,nd,pre,par,uh⟩
end L2
section
open PySem PySem.Spec PyProof.Rows
namespace DP
open L2
section
variable{X:Cx}{N:En}{pos pos':Pos}{e a b:Expr}{m ma mb:aC}{x:Str}(i:Nat)
theorem dS(a:X.N.Nodup)(b:PE X e (up X.mg N m))(hi:X.N[i]?=some x:=by rfl)(c:Loc X.env.scope x:=by first|exact .inl rfl|exact .inr rfl)(d:swapsWith e (some (.Name x pos')) pos.line X.env=pure false:=by rfl)(f:X.fn x=true\/X.env.scope.names.lookup x=some .local:=by first|exact .inl rfl|exact .inr rfl|assumption):
 PS X (.Assign [.Name x pos'] e pos) (cj X.mg N (qu i m)):=Fy a hi c b d f
theorem dG(a:X.N.Nodup)(hi:X.N[i]?=some x:=by rfl)(b:Loc X.env.scope x:=by first|exact .inl rfl|exact .inr rfl)(c:X.fn x=true\/X.env.scope.names.lookup x=some .local:=by first|exact .inl rfl|exact .inr rfl|assumption):PG X (.Name x pos) (jO X.mg N (gN i)):=Fj a hi b c
theorem pG(a:X.N.Nodup)(hi:X.N[i]?=some x:=by rfl)(b:Loc X.env.scope x:=by first|exact .inl rfl|exact .inr rfl)(c:X.fn x=true\/X.env.scope.names.lookup x=some .local:=by first|exact .inl rfl|exact .inr rfl|assumption):PG X (.Name x pos) (kj i):=Ai a hi b c
end
section
variable{X:Cx}{N:En}{pos p:Pos}{e a b:Expr}{ma mb:aC}{x:Str}{es:List Expr}{k r n:Nat}{ps:List Str}{S:Ct}{RE:DX}{m:bZ}
theorem dX(c:X.A.units+64<cLine)(ha:PE X a (up X.mg N ma))(hb:PE X b (up X.mg N mb))(d:q8 b:=by exact λ_ _=>rfl):PE X (.Subscript a b pos) (up X.mg N (b9 jC ma mb)):=E_ c ha hb d
theorem dL(F:av X.prog X.w X.K X.mg X.base k x ps (au X.mg n S))(c:cH r X.A)(d:Passes (br X.prog X.w) X (EL X.mg N RE))(ha:PA X (e::es) (dW X.mg N m))(f:k<=r:=by omega)(g:Gl X x:=by rfl)(a:(x==("__debug__":Str))=false:=by decide)
 (h:starEach (e::es) X.env=(false,eval e X.env)::starEach es X.env:=by rfl)(b:(backTo pos (starEach es X.env)).any (·.1)=false:=by rfl):
 PE X (.Call (.Name x p) (e::es) [] pos) (up X.mg N (lO n S RE m)):=E7 F (c.mono f) d ha g a h b
end
theorem bV{P:Program}{w:World}{K:PySem.W.Frag}{mg:aj}{base:Heap}{x:Str}{st:Stmt}{Nm ps:List Str}{k n:Nat}{S:Ct}(T:TopD K mg x st ps)(Sc:a_ Nm ps (aI st))
  (b:∀{N:En} {RE:DX} {f:Addr} {a:Value} {B:Around} {outer:List Env} {s:Shared} {H:Hp} {E:XK},cH k (b7 (br P w) P w K mg base Nm x (aI st) f a B outer s H E).A->
   Raises (b7 (br P w) P w K mg base Nm x (aI st) f a B outer s H E) (EL mg N RE)->Passes (br P w) (b7 (br P w) P w K mg base Nm x (aI st) f a B outer s H E) (EL mg N RE)->
   (b7 (br P w) P w K mg base Nm x (aI st) f a B outer s H E).A.units+64<cLine->Nm.Nodup->
   ∃m,cG (b7 (br P w) P w K mg base Nm x (aI st) f a B outer s H E) (fm st) (cj mg N m)/\∀ds A R,S ds A R RE->ds.length=n->m {nx:=λ_ A'=>R .ao A',rt:=R} (iS (Nm.length - n) ds) A)(d:ps.length=n:=by rfl)(e:ps.length<=Nm.length:=by decide):av P w K mg base (k+1) x ps (au mg n S):=
 ig T Sc d e λN RE f a B outer s H E c g i ds A R h j=>by
  obtain⟨m,h1,h2⟩:=b c g i c.units Sc.nd;exact⟨m,h1,h2 ds A R h j⟩
end DP
namespace L2
def v8(xs ys:List (Key×V)):Prop:=∀p∈xs,∃i:Int,p.2=.int i/\cX ys p.1=some (.int i)
theorem keq_hits{A:Around}{s:Shared}{ys:List (Key×V)}{a:List (Key×Value)}(b:KV ys a):∀{xs:List (Key×V)} {vs:List (Key×Value)},KV xs vs->v8 xs ys->KeqHits A s a vs true
 |_,_,.nil,_=>.nil
 |p::xs,q::vs,.cons r t,h=>by
  obtain⟨k,v⟩:=q;obtain⟨e,c⟩:=r;obtain⟨i,g,j⟩:=h p (mem_cons_self ..);rw[g] at c;obtain⟨t1,rfl⟩:∃t,v=.int i t:=by exact c
  have d:=b.val p.1;rw[j] at d;obtain⟨w,f,rw⟩:=fV.some_of d;obtain⟨l,rfl⟩:∃t,w=.int i t:=by exact rw
  have e:p.1=k:=e;rw[e] at f;have:=KeqHits.hit (A:=A) (s:=s) f (SeqAt.EqAt.int_int i t1 i l) (keq_hits b t λq m=>h q (mem_cons_of_mem _ m));simpa using this
abbrev AK:R2:=λx y H Q=>∃a b xs ys,x=.ref a/\y=.ref b/\H a=some (.dK xs)/\H b=some (.dK ys)/\xs.length=ys.length/\v8 xs ys/\Q (.bl false) H
theorem J2{X:Cx}(n:X.A.units+64<cLine):aX X (compareOp .NotEq) AK:=by
 intro pins s σ H x y v u Q I f g h;obtain⟨a,b,xs,ys,rfl,rfl,ha,hb,i,j,q⟩:=h;cases f;cases g;obtain⟨_,na,vs,c,k⟩:=(show bw X.prog X.w H s.heap a (.dK xs) from I.hok a _ ha);obtain⟨_,nb,l,d,m⟩:=(show bw X.prog X.w H s.heap b (.dK ys) from I.hok b _ hb);refine PySem.W.keq_ne (r:=true) na nb k m (by omega) (λ_=>keq_hits d c j) ?_;have e:(vs.length==l.length&&true)=true:=by
  rw[<-KV.len c,<-KV.len d,i];simp
 rw[e];exact⟨.bl false,H,I,rfl,q⟩
end L2
namespace DP
open L2
@[irreducible] def pA(r q:Nat)(A:Ar)(R:DK):Prop:=match A[r]?,A[q]? with
 |some (.dct ka),some (.dct kb)=>ka.length=kb.length/\(∀p∈ka,∃i:Int,p.2=.int i/\aN kb p.1=some (.int i))/\R (.bl false) A
 |_,_=>False
def ud:cO:=λx y A R=>match x,y with
 |.ref r,.ref q=>pA r q A R
 |_,_=>False
theorem vC{mg:aj}{ι:Io}{n:Nat}{H:Hp}:∀{ks:List (Key×D)} {xs:List (Key×V)},RK mg ι n H ks xs->∀q∈xs,∃p∈ks,p.1=q.1/\RV mg ι n H p.2 q.2
 |[],xs,r,q,hq=>by cases (show xs=[] from r);cases hq
 |p::ks,xs,r,q,hq=>by
  obtain⟨x,t,rfl,a,b⟩:=r;rcases mem_cons.mp hq with rfl|hq
  .exact⟨p,mem_cons_self ..,rfl,a⟩
  .obtain⟨c,h1,h2⟩:=vC b q hq
   exact⟨c,mem_cons_of_mem _ h1,h2⟩
theorem E0{mg:aj}:cF mg AK ud:=by
 intro x y A ι H u v R Q ra d f h k;unfold ud at h;split at h
 .obtain⟨_,rfl⟩:=d
  obtain⟨_,rfl⟩:=f;unfold pA at h;split at h
  .rename_i t w g j
   obtain⟨xs,h1,a⟩:=ra.dct g;obtain⟨ys,h2,b⟩:=ra.dct j;refine⟨_,_,xs,ys,rfl,rfl,h1,h2,by rw[RK.len' a,RK.len' b];exact h.1,λq l=>?_,k.here ra h.2.2 rfl⟩;obtain⟨p,m,e,c⟩:=vC a q l;obtain⟨i,n,o⟩:=h.2.1 p m;rw[n] at c;obtain⟨z,hz,r⟩:=(RK.get (k:=p.1) b).1 _ o;rw[e] at hz;have s:z=.int i:=r;have eq:q.2=.int i:=c;exact⟨i,eq,by rw[hz,s]⟩
  .exact h.elim
 .exact h.elim
theorem N5{X:Cx}{N:En}{pos:Pos}{a b:Expr}{ma mb:aC}(c:X.A.units+64<cLine)(ha:PE X a (up X.mg N ma))(hb:PE X b (up X.mg N mb)):PT X (.Compare a [.NotEq] [b] pos) (cz X.mg N (eW (b9 ud ma mb))):=iL (J2 c) E0 ha hb (iQ _)
theorem JH{A:Ar}{r q:Nat}{a b:List (Key×D)}{R:DK}(h1:A[r]?=some (.dct a))(h2:A[q]?=some (.dct b))(c:a.length=b.length)(d:∀p∈a,∃i:Int,p.2=.int i/\aN b p.1=some (.int i))(k:R (.bl false) A):pA r q A R:=by
 unfold pA;rw[h1,h2];exact⟨c,d,k⟩
end DP
namespace L2
section
variable{X:Cx}
theorem Ec(hc:X.calm=true):c_ X (.builtin "sorted") (λxs H Q=>∃(a:Addr) (ns:List Str),xs=[.ref a]/\aO X.K H a (ns.map V.str)/\ns.Nodup/\ns.length<64/\
  ∀(l:Addr) (ys:List Str),H l=none->ys.Pairwise strLt->(∀x,x∈ys↔x∈ns)->Q (.ref l) (upd H l (.lst (ys.map V.str)))):=by
 intro pins s σ H xs U Q I r h;obtain⟨a,ns,rfl,G,p,t,q⟩:=h;obtain⟨u,rfl,J⟩:=vals1 r;cases J;obtain⟨its,B,pl,hz⟩:=I.list G;have w:its.length=ns.length:=by have:=B.length;simpa using this.symm
 have c:StrsAre its ns:=by
  refine uQ w λi v x L M=>?_;obtain⟨W,C,N⟩:=Vals.get B (show(ns.map V.str)[i]?=some (.str x) by rw[getElem?_map,M];rfl);rw[L] at C;cases C;exact N
 have y:its.length<64:=by omega
 refine Calls.call_function_entry kind_sorted plain_sorted entry_sorted (args_sorted1 _) ?_;unfold Builtin.«sorted»;refine wpAny_bind (m:=checkCount "sorted" 1 1 _) (wpAny_pure ?_);refine wpAny_bind (collect_list pl.isList ?_ (by rw[sizeLine_eq];omega));refine wpAny_bind (wpAny_newList ?_ (by rw[sizeLine_eq];omega));have hsz:((s.heap.push (seqObj "list" #[] 0)).update s.heap.objs.size (Obj.mapSeq (·++its.toArray))).objs.size=s.heap.objs.size+1:=by
  rw[size_update,size_push']
 generalize O:(s.heap.push (seqObj "list" #[] 0)).update s.heap.objs.size (Obj.mapSeq (·++its.toArray))=h1 at hsz;have k1:∀b o,s.heap.get? b=some o->h1.get? b=some o:=λb o q=>by
  have g:b<s.heap.objs.size:=lt_size q;rw[<-O,Heap.get?_update_ne _ _ _ _ (ne_of_lt g),get?_push_ne _ _ _ (ne_of_lt g)];exact q
 have d:(h1.push (seqObj "list" its.toArray 0)).get? h1.objs.size=some (seqObj "list" its.toArray 0):=get?_push_size _ rfl;show wpAny _ _ _ _ _ {s with heap:=h1.push (seqObj "list" its.toArray 0)};refine wpAny_bind (wpAny_holding (wpAny_call_entry slot_list_sort ⟨_,d,rfl⟩ entry_list_sort (list_sort_treeK strKind_oneLt d c.keysOf (λD E rest e=>keyKind_strs (by rw[<-e];exact c)) y λf a1 a2=>⟨_,rfl,?_⟩) (args_list_sort _)));obtain⟨j,P,A,R⟩:=sorted_out_str c a1 a2;obtain⟨e,S⟩:=sortedHeap_at (out:=(arrOf f).map (·.2)) d;have kp:∀b o,s.heap.get? b=some o->(sortedHeap (h1.push (seqObj "list" its.toArray 0)) h1.objs.size its ((arrOf f).map (·.2))).get? b=some o:=λb o q=>by
  have hb:=k1 b o q;rw[sortedHeap_old (ne_of_lt (lt_size hb)) (by rw[size_push'];exact lt_succ_of_lt (lt_size hb))];exact get?_push_of_some _ hb
 have k:∀u,s.heap.get? h1.objs.size≠some u:=λu z=>lt_irrefl _ (lt_size (k1 _ _ z));have F:H h1.objs.size=none:=by
  cases T:H h1.objs.size with
  |none=>rfl
  |some o=>
   obtain⟨u,z⟩:=(I.hok _ _ T).obj;exact absurd z (k u)
 refine wpAny_pure ⟨_,rfl,.ref h1.objs.size,upd H h1.objs.size (.lst (j.map V.str)),?_,rfl,q _ j F (Cr (Cg R) (A.nodup_iff.mpr p)) λx=>A.mem_iff⟩;refine I.tW (t':=s.toks) kp (h_.new F _) λb o n=>?_;by_cases hb:b=h1.objs.size
 .subst hb
  rw[cW] at n;cases n;refine .inr ⟨k,?_⟩;refine⟨by rw[length_map,A.length_eq];exact le_of_lt (lt_of_lt_of_le t (by decide)),((arrOf f).map (·.2)).toList,e,vd P,?_⟩;rw[toArray_toList];exact S
 .rw[aS hb] at n
  exact .inl n
end
end L2
namespace DP
open L2
@[irreducible] def qy(r:Nat)(A:Ar)(R:DK):Prop:=match A[r]? with
 |some (.lst xs)=>∃ns:List Str,xs=ns.map D.str/\ns.Nodup/\ns.length<64/\∀ys:List Str,ys.Pairwise strLt->(∀x,x∈ys↔x∈ns)->R (.ref A.length) (A++[.lst (ys.map D.str)])
 |_=>False
def Cm:fU:=λvs A R=>match vs with
 |[.ref r]=>qy r A R
 |_=>False
theorem vD{mg:aj}{ι:Io}{n:Nat}{H:Hp}:∀{ns:List Str} {vs:List V},ah mg ι n H (ns.map D.str) vs->vs=ns.map V.str
 |[],vs,h=>h
 |n::ns,vs,h=>by
  obtain⟨x,r,rfl,h1,h2⟩:=h;rw[vD h2,show x=.str n from h1];rfl
theorem E5{mg:aj}{K:PySem.W.Frag}:gq mg (λxs H Q=>∃(a:Addr) (ns:List Str),xs=[.ref a]/\aO K H a (ns.map V.str)/\ns.Nodup/\ns.length<64/\
  ∀(l:Addr) (ys:List Str),H l=none->ys.Pairwise strLt->(∀x,x∈ys↔x∈ns)->Q (.ref l) (upd H l (.lst (ys.map V.str)))) Cm:=by
 intro ds A ι H m R Q ra rs h k;unfold Cm at h;split at h
 .obtain⟨_,_,rfl,⟨_,rfl⟩,rfl⟩:=rs
  unfold qy at h;split at h
  .rename_i xs e
   obtain⟨ns,rfl,h2,c,d⟩:=h;obtain⟨vs,b,f⟩:=ra.lst e;rw[vD f] at b;exact⟨_,ns,rfl,aO.of b,h2,c,λl ys g i j=>kI k ra (ah.strs ys) (d ys i j) g⟩
  .exact h.elim
 .exact h.elim
theorem Ng{A:Ar}{r:Nat}{ns:List Str}{R:DK}(h:A[r]?=some (.lst (ns.map D.str)))(b:ns.Nodup)(a:ns.length<64)(k:∀ys:List Str,ys.Pairwise strLt->(∀x,x∈ys↔x∈ns)->R (.ref A.length) (A++[.lst (ys.map D.str)])):qy r A R:=by
 unfold qy;simp only[h];exact⟨ns,rfl,b,a,k⟩
end DP
namespace L2
abbrev ez(i:Int):Nat:=Builtin.Int.intBits i
def nE(i j:Int):Prop:=ez i<=40000/\ez j<=40000
theorem nE.ok{i j:Int}(h:nE i j):IntMulOk i j:=IntMulOk.of_le h.1 h.2 (by decide)
theorem Ks{X:Cx}:aX X (binaryOp .Mult) (rI nE λi j=>.int (i*j)):=pM λ_ _ _ _ _ _ _ hc q=>mul_int q hc.ok
theorem DZ{i:Int}{k:Nat}(h:i.natAbs.log2<k):ez i<=k:=by
 unfold ez Builtin.Int.intBits;split
 .exact zero_le _
 .exact h
theorem wG{i j:Int}{m n:Nat}(h1:ez i<=m)(h2:ez j<=n):ez (i*j)<=m+n:=intBits_mul_le h1 h2
theorem rR{i:Int}(h0:0<=i)(h:i<=1000):ez i<=64:=intBits_le_64 (by omega) (by omega)
end L2
namespace DP
open L2
abbrev JB:cO:=intD nE λi j=>.int (i*j)
theorem iZ{X:Cx}{N:En}{pos:Pos}{a b:Expr}{ma mb:aC}(ha:PE X a (up X.mg N ma))(hb:PE X b (up X.mg N mb)):PE X (.BinOp a .Mult b pos) (up X.mg N (b9 JB ma mb)):=j8 Ks (nY λ_ _ _ _ _=>rfl) ha hb
end DP
variable{P:Program}{w:World}{K:PySem.W.Frag}{mg:aj}{base:Heap}
namespace My
open L2 DP
def top(i:Nat):Stmt:=PySem.Challenge.pw_hangstill_k10_whole_formulas.main.body.getD i (.Pass ⟨0,0,0,0⟩)
abbrev BF:Stmt:=top 9
abbrev p8:List Str:=["thing","first","last"]
theorem MM:a_ ["thing","first","last"] p8 (aI BF):=bA
abbrev BE:Stmt:=top 10
abbrev p7:List Str:=["thing"]
theorem ML:a_ ["thing"] p7 (aI BE):=bA
abbrev BD:Stmt:=top 11
abbrev p6:List Str:=["thing","rods"]
theorem MK:a_ ["thing","rods"] p6 (aI BD):=bA
abbrev BC:Stmt:=top 12
abbrev mR:List Str:=["thing"]
theorem MJ:a_ ["thing"] mR (aI BC):=bA
abbrev Bs:Stmt:=top 13
abbrev kK:List Str:=["thing"]
theorem MB:a_ ["thing"] kK (aI Bs):=bA
abbrev Bx:Stmt:=top 15
abbrev mO:List Str:=["one","other"]
theorem MG:a_ ["one","other","rest"] mO (aI Bx):=bA
abbrev BN:Stmt:=top 16
abbrev mU:List Str:=["top","bottom"]
theorem MT:a_ ["top","bottom","divisor"] mU (aI BN):=bA
abbrev BK:Stmt:=top 17
abbrev mT:List Str:=["one","other"]
theorem MR:a_ ["one","other"] mT (aI BK):=bA
abbrev BL:Stmt:=top 18
abbrev qb:List Str:=["one","other"]
theorem MS:a_ ["one","other"] qb (aI BL):=bA
abbrev BI:Stmt:=top 19
abbrev p_:List Str:=["fractions"]
theorem MP:a_ ["fractions","bottom","fraction","numbers","divisor","number"] p_ (aI BI):=bA
abbrev BQ:Stmt:=top 21
abbrev qd:List Str:=["mobile","way","share"]
theorem B0:a_ ["mobile","way","share","both","left","right"] qd (aI BQ):=bA
abbrev uJ:Stmt:=top 22
abbrev jK:List Str:=["mobile"]
theorem BZ:a_ ["mobile"] jK (aI uJ):=bA
abbrev BH:Stmt:=top 23
abbrev mS:List Str:=["fractions"]
theorem MO:a_ ["fractions","names"] mS (aI BH):=bA
abbrev BP:Stmt:=top 24
abbrev kN:List Str:=["mobile"]
theorem MV:a_ ["mobile"] kN (aI BP):=bA
abbrev Bq:Stmt:=top 25
abbrev jJ:List Str:=["mobile"]
theorem Mz:a_ ["mobile","first","way","name","share"] jJ (aI Bq):=bA
abbrev BG:Stmt:=top 26
abbrev kM:List Str:=["mobile"]
theorem MN:a_ ["mobile"] kM (aI BG):=bA
abbrev Bo:Stmt:=top 27
abbrev pV:List Str:=["one","other"]
theorem Mw:a_ ["one","other","one_barred","other_barred","weights","others"] pV (aI Bo):=bA
abbrev Br:Stmt:=top 30
abbrev pX:List Str:=["thing"]
theorem BW:a_ ["thing","mobile"] pX (aI Br):=bA
abbrev BB:Stmt:=top 31
abbrev mQ:List Str:=["hall"]
theorem MI:a_ ["hall"] mQ (aI BB):=bA
abbrev BR:Stmt:=top 32
abbrev qe:List Str:=["by_place","name"]
theorem MW:a_ ["by_place","name","steps","place","table"] qe (aI BR):=bA
abbrev BJ:Stmt:=top 33
abbrev qa:List Str:=["by_place","start"]
theorem MQ:a_ ["by_place","start","paths","reached","at","step"] qa (aI BJ):=bA
abbrev BA:Stmt:=top 34
abbrev mP:List Str:=["by_place"]
theorem BX:a_ ["by_place","told","seen","table","name","paths"] mP (aI BA):=bA
abbrev Bp:Stmt:=top 35
abbrev pW:List Str:=["steps"]
theorem Mx:a_ ["steps"] pW (aI Bp):=bA
abbrev Bv:Stmt:=top 36
abbrev mK:List Str:=["by_place","steps"]
theorem ME:a_ ["by_place","steps","ratio","place","one","other"] mK (aI Bv):=bA
abbrev Bu:Stmt:=top 37
abbrev pZ:List Str:=["by_place"]
theorem MD:a_ ["by_place","steps","place","table","first"] pZ (aI Bu):=bA
abbrev Bw:Stmt:=top 38
abbrev mL:List Str:=["by_place"]
theorem MF:a_ ["by_place","paths","group","step","steps"] mL (aI Bw):=bA
abbrev Bt:Stmt:=top 39
abbrev pY:List Str:=["by_place"]
theorem MC:a_ ["by_place"] pY (aI Bt):=bA
abbrev By:Stmt:=top 40
abbrev p5:List Str:=["by_place","paths"]
theorem MH:a_ ["by_place","paths"] p5 (aI By):=bA
abbrev BO:Stmt:=top 41
abbrev qc:List Str:=["hall"]
theorem MU:a_ ["hall"] qc (aI BO):=bA
abbrev BS:Stmt:=top 42
abbrev qf:List Str:=["hall"]
theorem MX:a_ ["hall","by_place","told","paths"] qf (aI BS):=bA
abbrev Bd:Stmt:=top 44
abbrev pN:List Str:=["_law_script","_law_k"]
theorem Mp:a_ ["_law_script","_law_k"] pN (aI Bd):=bA
abbrev Bj:Stmt:=top 45
abbrev pR:List Str:=["_law_script","_law_k","_law_many"]
theorem Mu:a_ ["_law_script","_law_k","_law_many","_law_drawn"] pR (aI Bj):=bA
abbrev Be:Stmt:=top 46
abbrev kJ:List Str:=["_law_script","_law_town","_law_many"]
theorem Mq:a_ ["_law_script","_law_town","_law_many"] kJ (aI Be):=bA
abbrev Bl:Stmt:=top 47
abbrev pT:List Str:=["_law_script","_law_town","_law_some"]
theorem Mv:a_ ["_law_script","_law_town","_law_some"] pT (aI Bl):=bA
abbrev Bm:Stmt:=top 48
abbrev pU:List Str:=["_law_script","_law_town","_law_deep","_law_count"]
theorem BV:a_ ["_law_script","_law_town","_law_deep","_law_count","_law_arms","_law_parts"] pU (aI Bm):=bA
abbrev Bg:Stmt:=top 49
abbrev pP:List Str:=["_law_mobile","_law_way"]
theorem Ms:a_ ["_law_mobile","_law_way"] pP (aI Bg):=bA
abbrev Bf:Stmt:=top 50
abbrev pO:List Str:=["_law_up","_law_down"]
theorem Mr:a_ ["_law_up","_law_down","_law_one","_law_other"] pO (aI Bf):=bA
abbrev Bk:Stmt:=top 51
abbrev pS:List Str:=["_law_mobile","_law_name","_law_arms"]
theorem BU:a_ ["_law_mobile","_law_name","_law_arms"] pS (aI Bk):=bA
abbrev Bh:Stmt:=top 52
abbrev pQ:List Str:=["_law_script","_law_town","_law_arms"]
theorem Mt:a_ ["_law_script","_law_town","_law_arms","_law_mobile","_law_names","_law_book","_law_more_here","_law_found","_law_both","_law_end","_law_heavy"] pQ (aI Bh):=bA
abbrev iR:Stmt:=top 53
abbrev uq:List Str:=["_law_script"]
theorem BY:a_ ["_law_script","_law_town","_law_deep","_law_chain","_law_k","_law_arms","_law_one","_law_other","_law_same","_law_like","_law_right","_law_left","_law_twice"] uq (aI iR):=bA
open MA
theorem um{c d:Nat}:([c]:List Nat)<[d]↔c<d:=by simp[List.cons_lt_cons_iff]
theorem Cb:("a":Str).cps.toList=[97]:=by decide+kernel
theorem Cd:("z":Str).cps.toList=[122]:=by decide+kernel
end My
namespace DP
open L2 MA
end DP
namespace My
open L2 DP MA
theorem pw_eq{ys b:List Str}(h1:ys.Pairwise strLt)(h2:b.Pairwise strLt)(c:∀x,x∈ys↔x∈b):ys=b:=by
 induction ys generalizing b with
 |nil=>
  cases b with
  |nil=>rfl
  |cons a r=>exact absurd ((c a).mpr (mem_cons_self ..)) (by simp)
 |cons y ys f=>
  cases b with
  |nil=>exact absurd ((c y).mp (mem_cons_self ..)) (by simp)
  |cons a r=>
   have p1:=pairwise_cons.mp h1;have p2:=pairwise_cons.mp h2;have e:y=a:=by
    have g:=(c y).mp (mem_cons_self ..);have h:=(c a).mpr (mem_cons_self ..);rcases mem_cons.mp g with q|q
    .exact q
    rcases mem_cons.mp h with q'|q'
    .exact q'.symm
    exact absurd (List.lt_trans (p2.1 y q) (p1.1 a q')) (List.lt_irrefl _)
   subst e;rw[f p1.2 p2.2 λx=>?_];constructor
   .intro d
    rcases mem_cons.mp ((c x).mp (mem_cons_of_mem _ d)) with q|q
    .subst q;exact absurd (p1.1 x d) (List.lt_irrefl _)
    .exact q
   .intro d
    rcases mem_cons.mp ((c x).mpr (mem_cons_of_mem _ d)) with q|q
    .subst q;exact absurd (p2.1 x d) (List.lt_irrefl _)
    .exact q
theorem Gd(T:TopD K mg "greatest_divisor" Bx mO):av P w K mg base 1 "greatest_divisor" mO (au mg 2 rj):=by
 refine bV T MG λm o p s nd=>⟨_,(ay (sE d9 (Cy (vr 1) ai) (ay (dS 2 nd (jv (vr 0) (vr 1)))
  (ay (dS 0 nd (vr 1))
  (aB (dS 1 nd (vr 2))))))
  (aB (aP (vr 0)))),λds A R h t=>?_⟩
 obtain⟨v,⟨a,b,rfl,ha,hb,rfl⟩,q⟩:=h;refine⟨λn τ A'=>A'=A/\∃(x y:Int) (r:Option D),τ=[some (.int x),some (.int y),r]/\0<=x/\0<=y/\Int.gcd x y=Int.gcd a b/\n=y.toNat,⟨_,rfl,a,b,none,rfl,ha,hb,rfl,rfl⟩,?_⟩;rintro n τ A' ⟨rfl,x,y,r,rfl,h0,h1,g,rfl⟩;refine cD (λc=>?_) (λc=>?_)
 .refine⟨λτ i=>i=A'/\∃(f d:Int) (r:Option D),τ=[some (.int f),some (.int d),r]/\0<=f/\0<=d/\Int.gcd f d=Int.gcd a b/\d.toNat<y.toNat,λbU A' ⟨e,f,d,r',h1,h2,j,k,l⟩=>⟨_,l,e,f,d,r',h1,h2,j,k,rfl⟩,?_⟩
  have m0:=emod_nonneg x (show y≠0 by omega);have u:=emod_lt_of_pos x (show 0<y by omega);exact⟨c,rfl,y,x%y,_,rfl,h1,m0,by rw[yJ h0 c];exact g,by omega⟩
 .have e:y=0:=by omega
  subst e;have:(x:Int)=(Int.gcd a b:Int):=by rw[<-g,Int.gcd_zero_right];omega
  show R (.int x) A';rw[this];exact q _ Gr.refl
theorem GC(T:TopD K mg "reduced" BN mU)(c:av P w K mg base 1 "greatest_divisor" mO (au mg 2 rj)):av P w K mg base 2 "reduced" mU (au mg 2 nN):=by
 refine bV T MT λf l g m nd=>⟨_,(ay (dS 2 nd (dL c f g (aa (vr 0) (aa (vr 1) af))))
  (aB (aP (bg (aa (iY (vr 0) (vr 2)) (aa (iY (vr 1) (vr 2)) af)))))),λds A R h i=>?_⟩
 obtain⟨v,⟨a,b,rfl,ha,hb,hz,rfl⟩,q⟩:=h;have d:0<(Int.gcd a b:Int):=by
  have:=Int.gcd_pos_of_ne_zero_left b (show a≠0 by omega);omega
 have i:(Int.gcd a b:Int)<=a:=le_of_dvd ha (gcd_dvd_left a b);have e:(Int.gcd a b:Int).natAbs.log2<9000:=by
  have h1:(Int.gcd a b:Int).natAbs<2 ^ 2000:=by omega
  have:=(log2_lt (n:=(Int.gcd a b:Int).natAbs) (k:=2000) (by omega)).mpr h1;omega
 refine⟨rfl,_,⟨a,b,rfl,by omega,by omega,rfl⟩,λo j=>?_⟩;exact⟨⟨d,e⟩,⟨d,e⟩,show 2<=sizeLine by decide,q _ j⟩
end My
namespace DP
open L2 MA
def fq(x:Rat):D:=.tup [.int (rf x).1,.int (rf x).2]
def m8(p:Str×Str×Rat):D:=.tup [.str p.1,.str p.2.1,fq p.2.2]
theorem AO{a b:Int}(hb:0<b):rd a b=rf ((a:Rat)/(b:Rat)):=ql hb
def lC:Ct:=λds A R _=>∃a b c d:Int,ds=[.tup [.int a,.int b],.tup [.int c,.int d]]/\0<a/\0<b/\0<c/\0<d/\c<2 ^ 64/\d<2 ^ 64/\a*c<2 ^ 2000/\∀A',Gr A A'->R (fq (((a:Rat)/(b:Rat))*((c:Rat)/(d:Rat)))) A'
theorem mul_div{a b c d:Int}(hb:0<b)(hd:0<d):((a*c:Int):Rat)/((b*d:Int):Rat)=((a:Rat)/(b:Rat))*((c:Rat)/(d:Rat)):=by
 have h1:=dg (Int.ne_of_gt hb);have h2:=dg (Int.ne_of_gt hd);rw[Rat.intCast_mul,Rat.intCast_mul];grind
def vY(d:Nat):Ct:=λds A R _=>∃m w x,ds=[enc m,.str w,fq x]/\m.arms/\m.deep<d/\d<=6/\w.length+d<=100/\0<x/\(rf x).1*18 ^ m.deep<=1000000000/\∀A' q,Gr A A'->A'[q]?=some (.lst ((aZ m w x).map m8))->A.length<=q->R (.ref q) A'
def nP:Ct:=λds A R _=>∃m,ds=[enc m]/\Wf m/\m.deep<=5/\∀A' q,Gr A A'->A'[q]?=some (.lst ((aZ m "" 1).map m8))->A.length<=q->R (.ref q) A'
theorem wz{a:Int}(h:a<=1000000000000):a<2 ^ 2000:=Int.lt_of_le_of_lt h (Int.lt_of_lt_of_le (show(1000000000000:Int)<2 ^ 64 by decide) (by
 have:(2:Nat) ^ 64<=2 ^ 2000:=pow_le_pow_right (by decide) (by decide);exact_mod_cast this))
end DP
namespace My
open L2 DP MA
theorem Gz(T:TopD K mg "product" BK mT)(e:av P w K mg base 2 "reduced" mU (au mg 2 nN)):av P w K mg base 3 "product" mT (au mg 2 lC):=by
 refine bV T MR λj s k f nd=>⟨_,(aB (aP (dL e j k (aa (fL (dX f (vr 0) ai) (dX f (vr 1) ai)) (aa (fL (dX f (vr 0) ai) (dX f (vr 1) ai)) af))))),λds A R h t=>?_⟩;obtain⟨a,b,c,d,rfl,h1,h2,l,i,m,n,o,q⟩:=h;refine⟨.inr ⟨by omega,m⟩,.inr ⟨by omega,n⟩,rfl,_,⟨_,_,rfl,mul_pos h1 l,mul_pos h2 i,o,rfl⟩,λp r=>?_⟩;have g:=q p r;rw[<-mul_div h2 i] at g;unfold fq at g;rw[<-AO (mul_pos h2 i)] at g;exact g
theorem GB(T:TopD K mg "quotient" BL qb)(f:av P w K mg base 2 "reduced" mU (au mg 2 nN)):av P w K mg base 3 "quotient" qb (au mg 2 (λds A R E=>∃a b c d:Int,ds=[.tup [.int a,.int b],.tup [.int c,.int d]]/\lC [.tup [.int a,.int b],.tup [.int d,.int c]] A R E)):=by
 refine bV T MS λk t l g nd=>⟨_,(aB (aP (dL f k l (aa (fL (dX g (vr 0) ai) (dX g (vr 1) ai)) (aa (fL (dX g (vr 0) ai) (dX g (vr 1) ai)) af))))),λds A R h u=>?_⟩;obtain⟨a,b,c,d,rfl,v,x,d',c',e,h1,h2,m,j,n,o,p,q⟩:=h;cases e;refine⟨.inr ⟨by omega,n⟩,.inr ⟨by omega,o⟩,rfl,_,⟨_,_,rfl,mul_pos h1 m,mul_pos h2 j,p,rfl⟩,λr s=>?_⟩;have i:=q r s;rw[<-mul_div h2 j] at i;unfold fq at i;rw[<-AO (mul_pos h2 j)] at i;exact i
theorem GH(T:TopD K mg "shares_below" BQ qd)(e:av P w K mg base 3 "product" mT (au mg 2 lC)):∀d,av P w K mg base (d+3) "shares_below" qd (au mg 3 (vY d)):=by
 intro d;induction d with
 |zero=>
  refine l0 T λds A R RE h=>?_;obtain⟨m,w,x,_,_,h,_⟩:=h;omega
 |succ d c=>
  refine ig T B0 rfl (by decide) λN RE f D B outer s H E j S k ds A R h U=>?_;have g:=j.units;have nd:=B0.nd;refine⟨_,(ay (bO (fQ g (dX g (vr 0) ai) aV) (aB (aP (eE (aa (bg (aa (vr 1) (aa (dX g (vr 0) ai) (aa (vr 2) af)))) af)))) bR)
  (ay (dS 3 nd (cU (dX g (vr 0) ai) (dX g (vr 0) ai)))
  (ay (dS 4 nd (dL e j k (aa (vr 2) (aa (bg (aa (dX g (vr 0) ai) (aa (vr 3) af))) af))))
  (ay (dS 5 nd (dL e j k (aa (vr 2) (aa (bg (aa (dX g (vr 0) ai) (aa (vr 3) af))) af))))
  (aB (aP (cU (dL c j k (aa (dX g (vr 0) ai) (aa (cU (vr 1) aV) (aa (vr 4) af)))) (dL c j k (aa (dX g (vr 0) ai) (aa (cU (vr 1) aV) (aa (vr 5) af))))))))))),?_⟩
  obtain⟨m,w,x,rfl,ha,hd,V,W,i,o,q⟩:=h;have X:(1000:Nat)<=sizeLine:=by decide
  cases m with
  |wt n=>exact⟨show 3<=sizeLine by decide,show 1<=sizeLine by decide,q _ _ Gr.push aR (le_refl _)⟩
  |aM l r a b=>
   have F:max a.deep b.deep+1<d+1:=hd;obtain⟨u,Y,v,Z,p,t⟩:=ha;have ll:("l":Str).length=1:=by decide+kernel
   have lr:("r":Str).length=1:=by decide+kernel
   have al:∀x y:Str,(x++y).length=x.length+y.length:=λx y=>Array.size_append;have np:=dh i;have dp:=cK x;have o:(rf x).1*18 ^ (max a.deep b.deep+1)<=1000000000:=o;have n1:(rf (x*((r:Rat)/((l+r:Int):Rat)))).1<=(rf x).1*18:=Int.le_trans (num_mul (by omega) (mul_nonneg (by omega) (by omega))) (Int.mul_le_mul_of_nonneg_left (by omega) (by omega));have n2:(rf (x*((l:Rat)/((l+r:Int):Rat)))).1<=(rf x).1*18:=Int.le_trans (num_mul (by omega) (mul_nonneg (by omega) (by omega))) (Int.mul_le_mul_of_nonneg_left (by omega) (by omega));obtain⟨k1,_,k0⟩:=xM o n1 np;obtain⟨_,k2,_⟩:=xM o n2 np;have p1:0<x*((r:Rat)/((l+r:Int):Rat)):=aD.step_pos u v i;have p2:0<x*((l:Rat)/((l+r:Int):Rat)):=by
    have:=aD.step_pos (l:=r) (r:=l) v u i;rwa [add_comm r l] at this
   have m1:(rf x).1*r<=1000000000*18:=mul_le_mul k0 (by omega) (by omega) (by omega);have m2:(rf x).1*l<=1000000000*18:=mul_le_mul k0 (by omega) (by omega) (by omega);have G:(18:Int)<2 ^ 64:=by decide
   refine⟨show 2<=sizeLine by decide,rfl,_,_,_,_,rfl,np,dp,by omega,by omega,by omega,by omega,wz (by omega),λA1 I=>?_⟩;refine⟨show 2<=sizeLine by decide,rfl,_,_,_,_,rfl,np,dp,by omega,by omega,by omega,by omega,wz (by omega),λA2 J=>?_⟩;rw[gj];refine⟨by omega,rfl,a,_,_,rfl,p,by omega,by omega,by rw[al];omega,p1,k1,λA3 q3 L M _=>?_⟩;refine⟨by omega,rfl,b,_,_,rfl,t,by omega,by omega,by rw[al];omega,p2,k2,λO q4 z Q _=>?_⟩;have z1:=jh (m:=a) (by omega);have z2:=jh (m:=b) (by omega);have C:Gr A O:=((I.trans J).trans L).trans z;refine j0 (z.get M) Q (by simp[kU];omega) (q _ _ (C.trans Gr.push) ?_ C.len);rw[aR];simp[aZ]
theorem GG(T:TopD K mg "shares" BP kN)(a:av P w K mg base 9 "check_mobile" kK (au mg 1 q9))(b:av P w K mg base 9 "shares_below" qd (au mg 3 (vY 6))):av P w K mg base 10 "shares" kN (au mg 1 nP):=by
 refine bV T MV λc j d k nd=>⟨_,(ay (fY (dL a c d (aa (vr 0) af)))
  (aB (aP (dL b c d (aa (vr 0) (aa aV (aa (bg (aa ai (aa ai af))) af))))))),λds A R h l=>?_⟩
 obtain⟨m,rfl,f,hd,q⟩:=h;refine⟨rfl,_,⟨m,rfl,f,hd,rfl⟩,λn g=>?_⟩;have o:(D.tup [.int 1,.int 1])=fq 1:=rfl;refine⟨show 2<=sizeLine by decide,rfl,m,_,1,rfl,f.arms,by omega,by omega,by decide+kernel,by decide,?_,λr s i h2 l2=>q _ _ (g.trans i) h2 (le_trans g.len l2)⟩;have p:=mZ hd;have e:(18:Int) ^ 5=1889568:=by decide
 rw[e] at p;show(1:Int)*18 ^ m.deep<=1000000000;omega
end My
namespace DP
open L2 MA
def bD:Option (Str×Str)->D
 |some p=>.tup [.str p.1,.str p.2]
 |none=>.ao
def ly:Ct:=λds A R _=>∃m,ds=[enc m]/\Wf m/\m.deep<=5/\∀A',Gr A A'->R (bD (bC [] (aZ m "" 1))) A'
theorem ko(k:Key)(v:D)(c:Key):∀kvs:List (Key×D),aN (bL kvs k v) c=if k=c then some v else aN kvs c:=by
 intro kvs;by_cases ha:(kvs.any λb=>decide (b.1=k))=true
 .have e:bL kvs k v=kvs.map λb=>if b.1=k then (b.1,v) else b:=by
   unfold bL;rw[if_pos ha]
  rw[e];clear e;induction kvs with
  |nil=>simp at ha
  |cons p r h=>
   by_cases d:p.1=k
   .rw[map_cons,if_pos d]
    unfold aN;by_cases a:k=c
    .rw[if_pos a,if_pos (by rw[<-a];exact d)]
    .rw[if_neg a,if_neg (λz=>a (by rw[<-d];exact z))]
     rw[if_neg (λz=>a (by rw[<-d];exact z))];by_cases f:(r.any λb=>decide (b.1=k))=true
     .rw[h f,if_neg a]
     .have:r.map (λb=>if b.1=k then (b.1,v) else b)=r:=by
       rw[map_congr_left (g:=id)]
       .simp
       .intro q i
        rw[if_neg]
        .rfl
        .intro z
         exact f (any_eq_true.mpr ⟨q,i,decide_eq_true z⟩)
      rw[this]
   .have f:(r.any λb=>decide (b.1=k))=true:=by simpa[d] using ha
    rw[map_cons,if_neg d];unfold aN;by_cases a:p.1=c
    .rw[if_pos a,if_neg (λz=>d (by rw[z];exact a)),if_pos a]
    .rw[if_neg a,if_neg a]
     exact h f
 .have e:bL kvs k v=kvs++[(k,v)]:=by
   unfold bL;rw[if_neg ha]
  rw[e];clear e;induction kvs with
  |nil=>simp[aN]
  |cons p r h=>
   have d:p.1≠k:=λz=>ha (by simp[z]);have f:¬(r.any λb=>decide (b.1=k))=true:=λz=>ha (by simp[z]);show(if p.1=c then some p.2 else aN (r++[(k,v)]) c)=if k=c then some v else (if p.1=c then some p.2 else aN r c)
   by_cases a:p.1=c
   .rw[if_pos a,if_neg (λz=>d (by rw[z];exact a)),if_pos a]
   .rw[if_neg a,if_neg a]
    exact h f
theorem LO(kvs:List (Key×D))(k:Key)(v:D):(bL kvs k v).length<=kvs.length+1:=by
 unfold bL;split<;>simp
theorem Aq{A:Ar}{r:Nat}{kvs:List (Key×D)}{y v:D}{k:Key}{R:Ar->Prop}(h:A[r]?=some (.dct kvs))(a:dQ y=some k)(b:kvs.length<sizeLine)(q:R (A.set r (.dct (bL kvs k v)))):m5 r y v A R:=by
 unfold m5;simp only[h,a];exact⟨b,q⟩
theorem GX{A:Ar}{r:Nat}{c c':C}(h:A[r]?=some c):(A.set r c')[r]?=some c':=by
 rw[getElem?_set_self (List.getElem?_eq_some_iff.mp h).1]
theorem zo(x:Rat):(toQ (fq x)).canLay0=true:=by simp[fq,toQ,bu,canLay0,canLayAll0]
theorem Fg(x:Rat):(toQ (fq x)).depth<=64:=by simp[fq,toQ,bu,PyData.depth,depthAll]
theorem FN(x y:Rat):PyData.eqv (toQ (fq x)) (toQ (fq y))=decide (x=y):=by
 by_cases h:x=y
 .subst h
  simp[fq,toQ,bu,PyData.eqv,eqvAll]
 .rw[decide_eq_false h]
  have:¬((rf x).1=(rf y).1/\(rf x).2=(rf y).2):=λz=>h (L0 (Prod.ext z.1 z.2));by_cases h1:(rf x).1=(rf y).1
  .have h2:¬(rf x).2=(rf y).2:=λz=>this ⟨h1,z⟩
   simp[fq,toQ,bu,PyData.eqv,eqvAll,h2]
  .simp[fq,toQ,bu,PyData.eqv,eqvAll,h1]
theorem zT{x y:Rat}{A:Ar}{R:DK}(k:R (.bl (!decide (x=y))) A):fJ true (fq x) (fq y) A R:=by
 unfold fJ;have h1:cV A (fq x)=toQ (fq x):=rfl;have h2:cV A (fq y)=toQ (fq y):=rfl;rw[h1,h2];have:=Fg x;refine⟨rfl,rfl,zo x,zo y,by omega,?_⟩;rw[FN];exact k
theorem yo{pre:List (Str×Str×Rat)}{p:Str×Str×Rat}{n:Str}:(pre++[p]).find? (λq=>decide (q.2.1=n))=match pre.find? (λq=>decide (q.2.1=n)) with|some q=>some q|none=>if p.2.1=n then some p else none:=by
 rw[find?_append];cases pre.find? (λq=>decide (q.2.1=n)) with
 |some q=>rfl
 |none=>
  by_cases h:p.2.1=n
  .simp[h]
  .simp[h]
end DP
namespace My
open L2 DP MA
theorem F5(T:TopD K mg "bar" Bq jJ)(d:av P w K mg base 10 "shares" kN (au mg 1 nP)):av P w K mg base 11 "bar" jJ (au mg 1 ly):=by
 refine bV T Mz λN X O l nd=>⟨_,(ay (dS 1 nd sq)
  (ay (fu d9 rfl (dP (dL d N O (aa (vr 0) af))) (lU rfl (fX (dG 2 nd) (fX (dG 3 nd) (fX (dG 4 nd) lV)))) (aB (bO (uY l (vr 3) (vr 1)) (aB (xY l (vr 1) (vr 3) (bg (aa (vr 2) (aa (vr 4) af))) rfl)) (aB (bO (iE l (dX l (dX l (vr 1) (vr 3)) ai) (vr 4)) (aB (aP (bg (aa (dX l (dX l (vr 1) (vr 3)) ai) (aa (vr 2) af))))) bR)))))
  (aB (aP ic)))),λds A R h Y=>?_⟩
 obtain⟨m,rfl,Q,hd,q⟩:=h;obtain⟨o,j⟩:∃t,t=bC [] (aZ m "" 1):=⟨_,rfl⟩;rw[<-j] at q;refine⟨rfl,m,rfl,Q,hd,λS L G h1 l1=>?_⟩;have l1:A.length+1<=L:=by simpa using l1
 refine eG h1 ?_;have ln:=kU m "" 1;have nl:=jh hd;have hz:(1000:Nat)<=sizeLine:=by decide
 have U:=G.get (aR (A:=A) (c:=C.dct []));refine eZ (λrest τ A'=>∃(pre a:List (Str×Str×Rat)) (kvs:List (Key×D)) (x y z:Option D),rest=a.map m8/\τ=[some (enc m),some (.ref A.length),x,y,z]/\pre++a=aZ m "" 1/\bC pre a=o/\A'[A.length]?=some (.dct kvs)/\kvs.length<=pre.length/\(∀n:Str,aN kvs (Sum.inr n)=(pre.find? λq=>decide (q.2.1=n)).map λp=>.tup [.str p.1,fq p.2.2])/\cY A.length S A'/\A.length+1<=A'.length) ?_ ?_ ?_ _ _ _ ⟨[],aZ m "" 1,[],none,none,none,rfl,rfl,rfl,j.symm,U,le_refl _,λn=>rfl,cY.refl,by have:=G.len;simpa using this⟩
 .rintro rest τ A' ⟨pre,a,kvs,x,y,z,_,_,_,_,_,_,_,b,_⟩
  exact b L _ (by omega) h1
 .rintro v rest τ A' ⟨pre,a,kvs,x,y,z,e,rfl,H,hb,r,V,I,b,s⟩ Z M
  cases a with
  |nil=>cases e
  |cons p a=>
   cases e;obtain⟨k,n,g⟩:=p;have f:=I n;have W:pre.length<=32:=by
    have:(pre++(k,n,g)::a).length=(aZ m "" 1).length:=by rw[H]
    simp at this;omega
   unfold bC at hb;refine⟨rfl,s8 r rfl ?_⟩;cases i:pre.find? (λq=>decide (q.2.1=n)) with
   |none=>
    rw[i] at f hb;have f:aN kvs (Sum.inr n)=none:=f;rw[f];refine⟨show 2<=sizeLine by decide,Aq r rfl (by omega) ?_⟩;refine M _ _ ⟨pre++[(k,n,g)],a,_,_,_,_,rfl,rfl,by simpa using H,hb,GX r,?_,λn'=>?_,b.trans cY.set,by simpa using s⟩
    .have:=LO kvs (Sum.inr n) (.tup [.str k,fq g])
     simp;omega
    .rw[ko,yo]
     by_cases B:n=n'
     .subst B
      rw[if_pos rfl,i];simp
     .rw[if_neg (λz=>B (Sum.inr.inj z)),I n']
      cases pre.find? (λq=>decide (q.2.1=n')) with
      |some q=>rfl
      |none=>simp[B]
   |some u=>
    rw[i] at f hb;have f:aN kvs (Sum.inr n)=some (.tup [.str u.1,fq u.2.2]):=f;rw[f];refine d8 r rfl f ?_;refine zT ?_;by_cases J:u.2.2=g
    .have hb:(if u.2.2=g then bC (pre++[(k,n,g)]) a else some (u.1,k))=o:=hb
     rw[if_pos J] at hb;refine cN (λc=>absurd J c) (λ_=>?_);refine M _ _ ⟨pre++[(k,n,g)],a,kvs,_,_,_,rfl,rfl,by simpa using H,hb,r,by simp;omega,λn'=>?_,b,s⟩;rw[yo,I n'];cases E:pre.find? (λq=>decide (q.2.1=n')) with
     |some q=>rfl
     |none=>
      by_cases B:n=n'
      .subst B
       rw[i] at E;cases E
      .simp[B]
    .have hb:(if u.2.2=g then bC (pre++[(k,n,g)]) a else some (u.1,k))=o:=hb
     rw[if_neg J] at hb;refine cN (λ_=>?_) (λc=>absurd c J);refine d8 r rfl f ?_;refine⟨show 2<=sizeLine by decide,?_⟩;have F:=q A' (Gr.z5 (Gr.push.trans G) (le_refl _) b);rw[<-hb] at F;exact F
 .rintro τ A' ⟨pre,a,kvs,x,y,z,e,rfl,H,hb,r,V,I,b,s⟩
  cases a with
  |cons p a=>cases e
  |nil=>
   have F:=q A' (Gr.z5 (Gr.push.trans G) (le_refl _) b);rw[<-hb] at F;exact F
theorem F7(T:TopD K mg "_law_cell_at" Bd pN)(a:mg "len"=none):av P w K mg base 1 "_law_cell_at" pN (au mg 2 vG):=by
 refine bV T Mp λi j l d nd=>⟨_,(ay (bO (CA (vr 1) (cZ eV dY a PySem.boot_len (aa (vr 0) af))) (aB (aP (dX d (vr 0) (vr 1)))) bR)
  (ay (bO (fQ d (vr 0) (eE af)) (aB (aP ai)) bR)
  (aB (aP (cU (fL (dX d (vr 0) (jv (vr 1) (cZ eV dY a PySem.boot_len (aa (vr 0) af)))) ai) (vr 1)))))),λds A R h m=>?_⟩
 obtain⟨ns,k,rfl,g,q⟩:=h;refine cD (λc=>?_) (λc=>?_)
 .obtain⟨v,e,_⟩:=rM g c
  conv=>whnf
  rw[e];exact q v _ Gr.refl
 .refine⟨zero_le _,FJ ?_⟩
  refine cD (λf=>?_) (λf=>?_)
  .exact q _ _ Gr.push
  .have b:0<(ns.length:Int):=by
    have:=List.length_pos_iff.mpr f;omega
   obtain⟨v,e,_⟩:=rM (xs:=ns) (emod_nonneg k (by omega)) (emod_lt_of_pos k b);refine⟨b,?_⟩;conv=>whnf
   rw[e];exact⟨.inr ⟨by decide,by decide⟩,q _ _ Gr.push⟩
theorem Gq(T:TopD K mg "_law_mixed" Bj pR)(a:av P w K mg base 1 "_law_cell_at" pN (au mg 2 vG)):av P w K mg base 2 "_law_mixed" pR (au mg 3 vQ):=by
 refine bV T Mu λc f d j nd=>⟨_,(ay (dS 3 nd (jv (fL (cU (cU (dL a c d (aa (vr 0) (aa (vr 1) af))) (fL ai (vr 1))) ai) ai) ai))
  (aB (aP (jv (jv (cU (cU (fL (vr 3) (vr 3)) (fL ai (vr 3))) (vr 1)) ai) (vr 2))))),λds A R h l=>?_⟩
 obtain⟨ns,k,m,rfl,e,b,q⟩:=h;refine⟨rfl,ns,k,rfl,e,λi A' g=>?_⟩;refine⟨.inl ⟨by decide,by decide⟩,.inr ⟨by decide,by decide⟩,(by decide:(0:Int)<2147483647),?_⟩;have n:=emod_nonneg ((i+7919*k+1)*48271) (show(2147483647:Int)≠0 by decide);have o:=emod_lt_of_pos ((i+7919*k+1)*48271) (show(0:Int)<2147483647 by decide);have p:(2147483647:Int)<2 ^ 64:=by decide
 refine⟨.inl ⟨by omega,by omega⟩,.inl ⟨by decide,by decide⟩,(by decide:(0:Int)<2147483629),b,?_⟩;exact q _ _ (emod_nonneg _ (by omega)) (emod_lt_of_pos _ b) g
theorem Gb(T:TopD K mg "_law_draw" Be kJ)(b:mg "len"=none)(a:av P w K mg base 2 "_law_mixed" pR (au mg 3 vQ)):av P w K mg base 3 "_law_draw" kJ (au mg 3 lz):=by
 refine bV T Mq λe k f l nd=>⟨_,(ay (fY (jw plainAttrs_list PySem.F.slot_list_append PySem.F.type_list_append mD nX (vr 1) (aa ai af)))
  (aB (aP (dL a e f (aa (vr 0) (aa (cZ eV dY b PySem.boot_len (aa (vr 1) af)) (aa (vr 2) af))))))),λds A R h o=>?_⟩
 obtain⟨ns,t,m,n,rfl,⟨xs,d,hz⟩,p,j,q⟩:=h;refine⟨jA d,nU d (by rw[sizeLine];omega) ?_⟩;have c:(A.set t (.lst (xs++[.int 0])))[t]?=some (.lst (xs++[.int 0])):=get_set d;refine kE c ⟨rfl,ns,_,m,rfl,by omega,j,λi A' h0 h1 g=>?_⟩;exact q i A' h0 h1 (cY.set.trans g.but) (Tw.gr ⟨_,c,by simpa using hz⟩ g)
theorem Gy(T:TopD K mg "_law_pick" Bl pT)(c:mg "len"=none)(a:av P w K mg base 3 "_law_draw" kJ (au mg 3 lz)):av P w K mg base 4 "_law_pick" pT (au mg 3 rB):=by
 refine bV T Mv λd o e g nd=>⟨_,(aB (aP (dX g (vr 2) (dL a d e (aa (vr 0) (aa (vr 1) (aa (cZ eV dY c PySem.boot_len (aa (vr 2) af)) af))))))),λds A R h p=>?_⟩;obtain⟨ns,t,r,xs,n,rfl,f,d,e,j,k,q⟩:=h;have s:=List.length_pos_iff.mpr e;refine kE d ⟨rfl,ns,t,_,n,rfl,j,k,by omega,λi A' h0 h1 b t'=>?_⟩;obtain⟨v,l,m⟩:=rM h0 h1;exact bE (b r _ f d) l (q v A' m b t')
theorem DE:("abcdefghijklmnopqrstuvwxyz":Str).cps.toList=(range 26).map (·+97):=by decide+kernel
end My
namespace DP
open L2 MA
end DP
namespace My
open L2 DP MA
end My
namespace L2
theorem iJ.J8{P:Program}{w:World}{K:PySem.W.Frag}{mg:aj}{base:Heap}{x:Str}{st:Stmt}{N ps:List Str}{k:Nat}{sp:Sp}{f:Addr}{fd:FuncData}(F:iJ K x x st f fd)(S:a_ N ps (aI st))(len:∀vs H Q E,sp vs H Q E->vs.length=ps.length)
  (b:∀(f:Addr) (a:Value) (A:Around) (outer:List Env) (s:Shared) (H:Hp) (vs:List V) (Q:VK) (E:XK),cH k (A.deeper (envOfC x (aI st) s.heap.objs.size f a))->sp vs H Q E->
   ∃t,cG (b7 (br P w) P w K mg base N x (aI st) f a A outer s H E) (fm st) t/\t {nx:=λ_ H'=>Q .ao H',rt:=Q} (start N vs) H):eO P w K mg base (br P w) (k+1) f fd ps sp:=by
 obtain⟨h,i,kV,doc,pm,an,a,ct,e,rfl,lk,c⟩:=F.ex;exact yu lk c S len λA outer s H vs Q E g d=>b f a A outer s H vs Q E g d
end L2
namespace DP
open L2 MA
theorem GL{P:Program}{w:World}{K:PySem.W.Frag}{mg:aj}{base:Heap}{x:Str}{st:Stmt}{Nm ps:List Str}{k n:Nat}{S:Ct}{y:Addr}{fd:FuncData}(T:iJ K x x st y fd)(Sc:a_ Nm ps (aI st))(G:ps.length=n)(Z:ps.length<=Nm.length)
  (j:∀(N:En) (RE:DX) (f:Addr) (g:Value) (B:Around) (outer:List Env) (s:Shared) (H:Hp) (E:XK),cH k (b7 (br P w) P w K mg base Nm x (aI st) f g B outer s H E).A->
   Raises (b7 (br P w) P w K mg base Nm x (aI st) f g B outer s H E) (EL mg N RE)->Passes (br P w) (b7 (br P w) P w K mg base Nm x (aI st) f g B outer s H E) (EL mg N RE)->
   ∀ds A R,S ds A R RE->ds.length=n->∃m,cG (b7 (br P w) P w K mg base Nm x (aI st) f g B outer s H E) (fm st) (cj mg N m)/\m {nx:=λ_ A'=>R .ao A',rt:=R} (iS (Nm.length - n) ds) A):eO P w K mg base (br P w) (k+1) y fd ps (au mg n S):=by
 refine T.J8 Sc (λvs H Q E h=> ?_) λf g A outer s H vs Q E J h=> ?_
 .obtain⟨A,ι,ds,R,RE,t,_,o,_⟩:=h
  rw[<-ah.length o,t,G]
 .obtain⟨p,l,ds,R,RE,t,ra,o,L,D,M⟩:=h
  have F:∀C a H',EL mg ⟨p,l,H⟩ RE C a H'->E C none H':=λC a H' z=>by
   obtain⟨c,A',ι',⟨b,rfl,hc⟩,ex,r,q⟩:=z
   exact M c A' ι' H' b q hc ex r
  obtain⟨m,O,U⟩:=j ⟨p,l,H⟩ RE f g A outer s H E J
   (λpins σ H1 u e h' C args I V z=>AM pins σ H1 u e h' C args I V (F _ _ _ z))
   (λpins σ H1 u e s' I z=>Af pins σ H1 u e s' I (by
    obtain⟨a,C,H',h1,h2,X⟩:=z
    exact⟨a,C,H',h1,h2,F _ _ _ X⟩)) ds p R L t
  have Y:=ah.length o
  refine⟨_,O,p,l,_,_,⟨ra,⟨?_,λi d q=> ?_⟩,ra.refl⟩,U,⟨λτ A' ι' σ H' q e r _=>D _ A' ι' H' _ q e r rfl,D,λ_ _ _ _ _ q _ _ _=>q.elim,λ_ _ _ _ _ q _ _ _=>q.elim⟩⟩
  .simp[iS,L2.start]
   omega
  .obtain⟨v,h1,h2⟩:=ah.get o (tQ ds _ i d q)
   refine⟨v,?_,h2⟩
   have hi:=(List.getElem?_eq_some_iff.mp h1).1
   unfold L2.start
   rw[getElem?_append_left (by simpa using hi),getElem?_map,h1]
   rfl
def vL:Ct:=λds A R _=>∃ns,ds=[.fl ns]/\∀A',R (.bl true) A'
def kX:Sp:=λvs H Q _=>∃(a:Addr) (o:Obj) (ns:List Int),vs=[.ref a]/\H a=some (.bh o (.lst (ns.map V.int)))/\∀H',Q (.bl true) H'
theorem Nb{mg:aj}{vs:List V}{H:Hp}{Q:VK}{E:XK}(h:kX vs H Q E):au mg 1 vL vs H Q E:=by
 obtain⟨a,o,ns,rfl,h,q⟩:=h;refine⟨[],λ_=>a,[.fl ns],λv _=>v=.bl true,λ_ _=>False,rfl,⟨λr c h=>by simp at h,λr s b=>by simp at b⟩,⟨_,[],rfl,⟨a,o,rfl,h⟩,rfl⟩,⟨ns,rfl,λ_=>rfl⟩,λv A' ι' H' u e _ _ r=>?_,λ_ _ _ _ _ z=>z.elim⟩;subst e;cases r;exact q _
def jI(o:Obj):Bool:=match o.cls with
 |.type t=> !(decide (t="list"))
 |_=>true
theorem JR{K:PySem.W.Frag}(h:K.all (λp=>jI p.2)=true){a:Addr}{o:Obj}(e:K.lookup a=some o):jI o=true:=by
 induction K with
 |nil=>cases e
 |cons p r b=>
  have h':jI p.2=true/\List.all r (λp=>jI p.2)=true:=by simpa using h
  rw[List.lookup] at e;split at e
  .cases e
   exact h'.1
  .exact b h'.2 e
theorem GO{K:PySem.W.Frag}(b:K.all (λp=>jI p.2)=true){H:Hp}{a:Addr}{ns:List Int}(d:nL H)(f:aO K H a (ns.map V.int)):kX [.ref a] H (λv _=>v=.bl true) λ_ _ _=>False:=by
 rcases f with (e|⟨o,e⟩)|⟨o,its,n,e,c,_⟩
 .rcases d a with z|⟨o,xs,z⟩
  .rw[z] at e;cases e
  .rw[z] at e;cases e
 .exact⟨a,o,ns,rfl,e,λ_=>rfl⟩
 .have:=JR b e
  unfold jI at this;rw[c] at this;simp at this
theorem pw_len:∀(ys a:List Str),ys.Pairwise strLt->(∀x∈ys,x∈a)->ys.length<=a.length
 |[],_,_,_=>zero_le _
 |y::r,a,e,b=>by
  have p:=pairwise_cons.mp e;have c:=b y (mem_cons_self ..);have:=pw_len r (a.erase y) p.2 λx d=>(List.mem_erase_of_ne (uP (p.1 x d)).symm).mpr (b x (mem_cons_of_mem _ d));rw[List.length_erase_of_mem c] at this;have:=List.length_pos_of_mem c;simp;omega
theorem qj:∀m:M,eH (enc m)=true
 |.wt n=>by simp[enc,eH,gR]
 |.aM l r a b=>by simp[enc,eH,gR,qj a,qj b]
theorem L7:canLay0 (.str "rod")=true:=by decide+kernel
theorem OJ:canLay0 (.str "weight")=true:=by decide+kernel
theorem oW:∀m:M,(∀n∈m.names,Nm n)->(toQ (enc m)).canLay0=true
 |.wt n,h=>by
  have h1:=(h n (by simp[aD.names])).ok;have h2:=OJ;simp only[enc,toQ,bu];simp only[canLay0,canLayAll0] at h1 h2 ⊢;simp[h1,h2]
 |.aM l r a b,h=>by
  have h1:=oW a λn c=>h n (by simp[aD.names,c]);have h2:=oW b λn c=>h n (by simp[aD.names,c]);have d:=L7;simp only[enc,toQ,bu];simp only[canLay0] at d;simp[canLay0,canLayAll0,h1,h2,d]
theorem sA:∀m:M,(toQ (enc m)).depth<=m.deep+1
 |.wt n=>by
  simp only[enc,toQ,bu];simp[PyData.depth,depthAll]
 |.aM l r a b=>by
  have h1:=sA a;have h2:=sA b;simp only[enc,toQ,bu];simp[PyData.depth,depthAll,aD.deep];omega
theorem CG{A:Ar}:∀m:M,cV A (enc m)=toQ (enc m)
 |.wt n=>rfl
 |.aM l r a b=>rfl
theorem z8{A:Ar}:∀m:M,ji A (enc m)=eH (enc m)
 |.wt n=>rfl
 |.aM l r a b=>rfl
def vP:Ct:=λds A R _=>∃r xs,ds=[.ref r]/\A[r]?=some (.lst (xs.map fq))/\xs.length<=32/\(∀x∈xs,gW x)/\xs≠[]/\∀A' q,Gr A A'->A'[q]?=some (.lst ((lw xs).map D.int))->A.length<=q->R (.ref q) A'
structure Fb(kvs:List (Key×D))(ns:List Str)(s:Str->Rat):Prop where
 keys:kvs.map (·.1)=ns.map Sum.inr
 nd:ns.Nodup
 get:∀n∈ns,aN kvs (Sum.inr n)=some (fq (s n))
def vV:Ct:=λds A R _=>∃m,ds=[enc m]/\Wf m/\m.deep<=5/\bC [] (aZ m "" 1)=none/\∀(A':Ar) (q:Nat) (kvs:List (Key×D)) (ns:List Str),Gr A A'->A'[q]?=some (.dct kvs)->A.length<=q->Fb kvs ns (shr m)->(∀n,n∈ns↔n∈m.names)->R (.ref q) A'
def rz:Ct:=λds A R _=>∃(r:Nat) (kvs:List (Key×D)) (ns:List Str) (s:Str->Rat),ds=[.ref r]/\A[r]?=some (.dct kvs)/\Fb kvs ns s/\ns.length<=32/\ns≠[]/\(∀n∈ns,gW (s n))/\∀(A':Ar) (ys:List Str),Gr A A'->ys.Pairwise strLt->(∀x,x∈ys↔x∈ns)->R (d7 (ys.zip (lw (ys.map s)))) A'
def lA:Ct:=λds A R RE=>∃m,ds=[enc m]/\Wf m/\m.deep<=5/\∀A',Gr A A'->if bC [] (aZ m "" 1)=none then ∀ys:List Str,ys.Pairwise strLt->(∀x,x∈ys↔x∈m.names)->R (d7 (ys.zip (lw (ys.map (shr m))))) A' else RE "Never" A'
theorem sM:∀(ps:List (Str×D)) (acc:List (Key×D)) (ns:List Str),acc.map (·.1)=ns.map Sum.inr->ns.Nodup->
  ∃d:List Str,((ps.map λp=>((Sum.inr p.1:Key),p.2)).foldl (λacc p=>bL acc p.1 p.2) acc).map (·.1)=d.map Sum.inr/\d.Nodup/\(∀n,n∈d↔n∈ns\/n∈ps.map (·.1))
 |[],acc,ns,h1,h2=>⟨ns,h1,h2,λn=>by simp⟩
 |p::ps,acc,ns,h1,h2=>by
  have key:∃f:List Str,(bL acc (Sum.inr p.1) p.2).map (·.1)=f.map Sum.inr/\f.Nodup/\∀n,n∈f↔n∈ns\/n=p.1:=by
   by_cases ha:(acc.any λc=>decide (c.1=(Sum.inr p.1:Key)))=true
   .have e:bL acc (Sum.inr p.1) p.2=acc.map λc=>if c.1=(Sum.inr p.1:Key) then (c.1,p.2) else c:=by
     unfold bL;rw[if_pos ha]
    refine⟨ns,?_,h2,λn=>?_⟩
    .rw[e,map_map,<-h1]
     refine map_congr_left λc _=>?_;show(if c.1=(Sum.inr p.1:Key) then (c.1,p.2) else c).1=c.1;split<;>rfl
    .have g:p.1∈ns:=by
      obtain⟨c,i,l⟩:=any_eq_true.mp ha;have:c.1∈acc.map (·.1):=mem_map_of_mem i;rw[h1,of_decide_eq_true l] at this;obtain⟨x,m,e⟩:=mem_map.mp this;rw[<-Sum.inr.inj e];exact m
     constructor
     .exact .inl
     .rintro (h|rfl)
      .exact h
      .exact g
   .have e:bL acc (Sum.inr p.1) p.2=acc++[(Sum.inr p.1,p.2)]:=by
     unfold bL;rw[if_neg ha]
    have j:p.1∉ns:=λg=>ha (by
     have:(Sum.inr p.1:Key)∈acc.map (·.1):=by rw[h1];exact mem_map_of_mem g
     obtain⟨c,i,e⟩:=mem_map.mp this;exact any_eq_true.mpr ⟨c,i,decide_eq_true e⟩)
    refine⟨ns++[p.1],by rw[e];simp[h1],?_,λn=>by simp⟩;rw[nodup_append];refine⟨h2,by simp,λa k b hb=>?_⟩;rw[mem_singleton.mp hb];exact λz=>j (by rw[<-z];exact k)
  obtain⟨f,k1,k2,k3⟩:=key;obtain⟨d,o,q,r⟩:=sM ps _ f k1 k2;refine⟨d,o,q,λn=>?_⟩;rw[r,k3];simp[or_assoc]
theorem yx(g:Str->D):∀(ps:List (Str×D)) (acc:List (Key×D)) (n:Str),(∀p∈ps,p.2=g p.1)->(n∈ps.map (·.1)\/aN acc (Sum.inr n)=some (g n))->aN ((ps.map λp=>((Sum.inr p.1:Key),p.2)).foldl (λacc p=>bL acc p.1 p.2) acc) (Sum.inr n)=some (g n)
 |[],acc,n,_,h=>by
  rcases h with h|h
  .simp at h
  .exact h
 |p::ps,acc,n,b,h=>by
  refine yx g ps _ n (λq c=>b q (mem_cons_of_mem _ c)) ?_;by_cases a:p.1=n
  .right
   rw[ko,if_pos (show(Sum.inr p.1:Key)=Sum.inr n by rw[a])];show some p.2=some (g n);rw[b p (mem_cons_self ..),a]
  .rcases h with h|h
   .rcases mem_cons.mp (show n∈p.1::ps.map (·.1) from h) with e|e
    .exact absurd e.symm a
    .exact .inl e
   .right
    rw[ko,if_neg (show ¬(Sum.inr p.1:Key)=Sum.inr n from λz=>a (Sum.inr.inj z))];exact h
def pK(p:Str×Str×Rat):D:=.tup [.str p.2.1,fq p.2.2]
theorem uu:∀a:List (Str×Str×Rat),c9 (a.map pK)=some ((a.map λp=>(p.2.1,fq p.2.2)).map λp=>((Sum.inr p.1:Key),p.2))
 |[]=>rfl
 |r::a=>by
  have:=uu a;simp only[map_cons,pK,c9,dQ,this]
theorem sf{A:Ar}{r:Nat}{xs:List D}{ps:List (Key×D)}{R:DK}(h:A[r]?=some (.lst xs))(a:c9 xs=some ps)(b:ps.length<=1000)(k:R (.ref A.length) (A++[.dct (kR ps)])):j6 r A R:=by
 unfold j6;simp only[h];unfold dctP;rw[a];exact⟨b,k⟩
theorem qJ{rs:List (Str×Int)}(b:(rs.map (·.1)).Nodup){r:Str×Int}(h:r∈rs):val rs r.1=r.2:=by
 unfold val;induction rs with
 |nil=>cases h
 |cons p rs c=>
  have a:=nodup_cons.mp (show(p.1::rs.map (·.1)).Nodup from b);rcases mem_cons.mp h with rfl|h
  .simp
  .have:¬p.1=r.1:=λz=>a.1 (by rw[z];exact mem_map_of_mem h)
   rw[List.find?_cons_of_neg (by simpa using this)];exact c a.2 h
theorem qm{xs:List Str}(h:xs.Pairwise strLt):xs.Nodup:=h.imp λz=>uP z
theorem zE{m:M}(ha:m.arms)(s:m.deep<=5)(hb:bC [] (aZ m "" 1)=none){ys:List Str}(j:ys.Pairwise strLt)(a:∀x,x∈ys↔x∈m.names):Lst m (shr m) (val (ys.zip (lw (ys.map (shr m))))):=by
 have t:(lw (ys.map (shr m))).length=ys.length:=by rw[kH,length_map]
 have f:((ys.zip (lw (ys.map (shr m)))).map (·.1)).Nodup:=by rw[OP t];exact qm j
 have o:∀x∈ys.map (shr m),0<x:=λx b=>by
  obtain⟨y,u,rfl⟩:=mem_map.mp b;exact(ng ha s hb ((a y).mp u)).pos
 have g:ys.map (shr m)≠[]:=λz=>by
  have v:ys=[]:=by simpa using z
  have hpos:=aD.mE m;cases e:m.names with
  |nil=>rw[e] at hpos;simp at hpos
  |cons n r=>
   have:=(a n).mpr (by rw[e];simp);rw[v] at this;simp at this
 have row:∀x∈m.names,∃i,∃k,ys[i]?=some x/\(lw (ys.map (shr m)))[i]?=some k/\val (ys.zip (lw (ys.map (shr m)))) x=k:=λx b=>by
  obtain⟨i,hi,e⟩:=getElem_of_mem ((a x).mpr b);have h:ys[i]?=some x:=by rw[getElem?_eq_getElem hi,e]
  have d:(lw (ys.map (shr m)))[i]?=some ((lw (ys.map (shr m)))[i]'(by omega)):=getElem?_eq_getElem _;have p:(ys.zip (lw (ys.map (shr m))))[i]?=some (x,(lw (ys.map (shr m)))[i]'(by omega)):=List.getElem?_zip_eq_some.mpr ⟨h,d⟩;exact⟨i,_,h,d,qJ f (mem_of_getElem? p)⟩
 refine⟨λx b=>?_,λk w=>?_,?_⟩
 .obtain⟨i,k,_,d,q⟩:=row x b
  rw[q];exact zH o k (mem_of_getElem? d)
 .refine tU o g λn A=>?_
  obtain⟨i,hi,e⟩:=getElem_of_mem A;have b:ys[i]?=some (ys[i]'(by omega)):=getElem?_eq_getElem _;have p:(ys.zip (lw (ys.map (shr m))))[i]?=some (ys[i]'(by omega),n):=List.getElem?_zip_eq_some.mpr ⟨b,by rw[getElem?_eq_getElem hi,e]⟩;have:=w _ ((a _).mp (mem_of_getElem? b));rw[qJ f (mem_of_getElem? p)] at this;exact this
 .obtain⟨c,hc,e⟩:=tV o g
  refine⟨c,hc,λx b=>?_⟩;obtain⟨i,k,h,d,q⟩:=row x b;rw[q];have z:=congrArg (λl=>l[i]?) e;simp only[getElem?_map,d,h,map_some] at z;exact Option.some.inj z
end DP
namespace My
open L2 DP MA
theorem Gn(T:TopD K mg "least_whole" BI p_)(k:av P w K mg base 1 "greatest_divisor" mO (au mg 2 rj)):av P w K mg base 2 "least_whole" p_ (au mg 1 vP):=by
 refine bV T MP λO hR S F nd=>⟨_,(ay (dS 1 nd ai)
  (ay (fu d9 rfl (dP (vr 0)) (dG 2 nd) (aB (dS 1 nd (iY (fL (vr 1) (dX F (vr 2) ai)) (dL k O S (aa (vr 1) (aa (dX F (vr 2) ai) af)))))))
  (ay (om none (own:=["fraction"]) (frees:=["bottom"]) (ix:=[1]) (i:=3) nd rfl (by first|exact Or.inl rfl|exact Or.inr rfl) rfl (dP (vr 0)) (λc=>(pG 0 (show(["fraction","bottom"]:List Str).Nodup by decide+kernel))) (λc=>(fL (dX F (vr 0) ai) (iY (vr 1) (dX F (vr 0) ai)))))
  (ay (dS 4 nd ai)
  (ay (fu d9 rfl (dP (vr 3)) (dG 5 nd) (aB (dS 4 nd (dL k O S (aa (vr 4) (aa (vr 5) af))))))
  (aB (aP (fK none (own:=["number"]) (frees:=["divisor"]) (ix:=[4]) rfl (dP (vr 3)) (λc=>(pG 0 (show(["number","divisor"]:List Str).Nodup by decide+kernel))) (λc=>(iY (vr 0) (vr 1))))))))))),λds A R h hl=>?_⟩
 obtain⟨r,xs,rfl,H,l,hok,I,q⟩:=h;have hz:(1000:Nat)<=sizeLine:=by decide
 have DS:(2000000:Int)<2 ^ 64:=by decide
 obtain⟨b0,_,b3⟩:=jn xs 1 (by decide);refine eG H ?_;refine eZ (λrest τ A'=>∃(pre j:List Rat) (x:Option D),rest=j.map fq/\τ=[some (.ref r),some (.int (bot pre 1)),x,none,none,none]/\pre++j=xs/\Gr A A') ?_ ?_ ?_ _ _ _ ⟨[],xs,none,rfl,rfl,rfl,Gr.refl⟩
 .rintro rest τ A' ⟨pre,j,x,_,_,_,g⟩
  exact g.get H
 .rintro v rest τ A' ⟨pre,j,x,e,rfl,o,g⟩ Nx J
  cases j with
  |nil=>cases e
  |cons y j=>
   cases e;have t:=hok y (by rw[<-o];simp);have G:=cK y;have U:=t.den;obtain⟨V,_,_⟩:=jn pre 1 (by decide);have W:0<(Int.gcd (bot pre 1) (rf y).2:Int):=by
    have:=Int.gcd_pos_of_ne_zero_right (bot pre 1) (show(rf y).2≠0 by omega);omega
   have L:(Int.gcd (bot pre 1) (rf y).2:Int)<=(rf y).2:=le_of_dvd G (Int.gcd_dvd_right _ _);refine⟨.inr ⟨by omega,by omega⟩,rfl,_,⟨_,_,rfl,by omega,by omega,rfl⟩,λs h1=>⟨⟨W,o4 W (Cf (by omega))⟩,?_⟩⟩;refine J _ _ ⟨pre++[y],j,some (fq y),rfl,?_,by simpa using o,g.trans h1⟩;rw[wJ];rfl
 rintro τ s ⟨pre,j,x,e,rfl,o,L⟩;cases j with
 |cons p j=>cases e
 |nil=>
 have o:pre=xs:=by simpa using o
 subst o;have u:=L.get H;refine eG u ?_;refine gH (f:=λd=>match d with|.tup [.int a,.int b]=>.int (a*(bot pre 1/b))|d=>d) u _ _ (λd hd=>?_) (by simp;omega) ?_
 .obtain⟨y,hy,rfl⟩:=mem_map.mp hd
  have t:=hok y hy;have x1:=dh t.pos;have G:=cK y;have U:=t.den;have x4:=t.num;exact⟨[fq y],rfl,λQ M=>⟨⟨G,o4 G (Cf U)⟩,.inl ⟨by omega,by omega⟩,M⟩⟩
 have eu:(pre.map fq).map (λd=>match d with|.tup [.int a,.int b]=>D.int (a*(bot pre 1/b))|d=>d)=(ups pre).map D.int:=by
  unfold ups;rw[map_map,map_map];rfl
 rw[nil_append,eu];have z:(ups pre).length=pre.length:=by simp[ups]
 have N:=aR (A:=s) (c:=C.lst ((ups pre).map D.int));have g2:Gr s (s++[C.lst ((ups pre).map D.int)]):=Gr.push;generalize O5:s++[C.lst ((ups pre).map D.int)]=A2 at*
 refine eG N ?_;refine eZ (λrest τ A'=>∃(m j:List Int) (y:Option D),rest=j.map D.int/\τ=[some (.ref r),some (.int (bot pre 1)),x,some (.ref s.length),some (.int (cP m 0)),y]/\m++j=ups pre/\Gr A2 A') ?_ ?_ ?_ _ _ _ ⟨[],ups pre,none,rfl,rfl,rfl,Gr.refl⟩
 .rintro rest τ A' ⟨m,j,y,_,_,_,g⟩
  exact g.get N
 .rintro v rest τ A' ⟨m,j,y,e,rfl,hd,g⟩ Nx J
  cases j with
  |nil=>cases e
  |cons n j=>
   cases e;obtain⟨X,_⟩:=u6 hok l (show n∈ups pre by rw[<-hd];simp);obtain⟨V,_⟩:=l7 m 0 (Int.le_refl 0);refine⟨rfl,_,⟨_,_,rfl,V,by omega,rfl⟩,λY h3=>?_⟩;refine J _ _ ⟨m++[n],j,some (.int n),rfl,?_,by simpa using hd,g.trans h3⟩;rw[yK];rfl
 rintro τ Y ⟨m,j,y,e,rfl,hd,Z⟩;cases j with
 |cons p j=>cases e
 |nil=>
 have hd:m=ups pre:=by simpa using hd
 subst hd;obtain⟨n0,B⟩:∃n,n∈ups pre:=by
  cases e:ups pre with
  |nil=>
   rw[e] at z;exact absurd (List.length_eq_zero_iff.mp z.symm) I
  |cons n r=>exact⟨n,by simp⟩
 obtain⟨X,u1⟩:=u6 hok l B;obtain⟨d0,d1⟩:=oF (Int.le_refl 0) B X;have E:=Z.get N;refine eG E ?_;refine gH (f:=λd=>match d with|.int n=>.int (n/cP (ups pre) 0)|d=>d) E _ _ (λd hd=>?_) (by simp;omega) ?_
 .obtain⟨n,hn,rfl⟩:=mem_map.mp hd
  exact⟨[.int n],rfl,λQ M=>⟨⟨d0,o4 d0 (Int.le_trans d1 u1)⟩,M⟩⟩
 have el:((ups pre).map D.int).map (λd=>match d with|.int n=>D.int (n/cP (ups pre) 0)|d=>d)=(lw pre).map D.int:=by
  unfold lw;rw[map_map,map_map];rfl
 rw[nil_append,el];have gg:Gr A Y:=(L.trans g2).trans Z;exact q _ _ (gg.trans Gr.push) aR gg.len
theorem Gw(T:TopD K mg "name_shares" uJ jK)(b:mg "dict"=none)(a:av P w K mg base 10 "shares" kN (au mg 1 nP)):av P w K mg base 11 "name_shares" jK (au mg 1 vV):=by
 refine bV T BZ λg u o v nd=>⟨_,(aB (aP (iX (jq rfl) ju b boot_dict (aa (fK (some 3) (own:=["way","name","share"]) (frees:=[]) (ix:=[]) rfl (dP (dL a g o (aa (vr 0) af))) (λc=>(mV rfl (gh (pG 0 (show(["way","name","share"]:List Str).Nodup by decide+kernel)) (gh (pG 1 (show(["way","name","share"]:List Str).Nodup by decide+kernel)) (gh (pG 2 (show(["way","name","share"]:List Str).Nodup by decide+kernel)) mW))))) (λc=>(bg (aa (vr 1) (aa (vr 2) af))))) af)))),λds A R h y=>?_⟩;obtain⟨m,rfl,s,hd,hb,q⟩:=h;have hz:(1000:Nat)<=sizeLine:=by decide
 refine⟨rfl,m,rfl,s,hd,λz B j h1 l1=>?_⟩;refine eG h1 ?_;have ln:=kU m "" 1;have nl:=jh hd;refine gH (f:=λd=>match d with|.tup [_,n,x]=>.tup [n,x]|d=>d) h1 _ _ (λd hd=>?_) (by simp;omega) ?_
 .obtain⟨p,k,rfl⟩:=mem_map.mp hd
  exact⟨[.str p.1,.str p.2.1,fq p.2.2],rfl,λQ t=>⟨show 2<=sizeLine by decide,t⟩⟩
 have e:((aZ m "" 1).map m8).map (λd=>match d with|.tup [_,n,x]=>D.tup [n,x]|d=>d)=(aZ m "" 1).map pK:=by
  rw[map_map];rfl
 rw[nil_append,e];refine sf aR (uu _) (by simp;omega) ?_;obtain⟨k1,k2⟩:=jM hb;obtain⟨ns,n1,n2,n3⟩:=sM ((aZ m "" 1).map λp=>(p.2.1,fq p.2.2)) [] [] rfl nodup_nil;have l:((aZ m "" 1).map λp=>(p.2.1,fq p.2.2)).map (·.1)=m.names:=by
  rw[map_map,<-kW m "" 1];rfl
 rw[l] at n3;refine q _ _ _ ns ((j.trans Gr.push).trans Gr.push) aR (by have:=j.len;simp;omega) ⟨n1,n2,λn i=>?_⟩ (λn=>by rw[n3];simp);refine yx (λn=>fq (shr m n)) _ [] n (λp k=>?_) (.inl ?_)
 .obtain⟨r,g,rfl⟩:=mem_map.mp k
  show fq r.2.2=fq (shr m r.2.1);rw[<-k1 r g]
 .rw[l]
  have:=(n3 n).mp i;simpa using this
theorem Gp(T:TopD K mg "least_weights" BH mS)(b:mg "sorted"=none)(g:mg "tuple"=none)(i:mg "zip"=none)(a:av P w K mg base 2 "least_whole" p_ (au mg 1 vP)):av P w K mg base 3 "least_weights" mS (au mg 1 rz):=by
 refine bV T MO λE J k F nd=>⟨_,(ay (dS 1 nd (cZ (Ea rfl) E3 b boot_sorted (aa (vr 0) af)))
  (aB (aP (Fd g i rfl (aa (vr 1) (aa (dL a E k (aa (fK none (own:=["name"]) (frees:=["fractions"]) (ix:=[0]) rfl (dP (vr 1)) (λc=>(pG 0 (show(["name","fractions"]:List Str).Nodup by decide+kernel))) (λc=>(dX F (vr 1) (vr 0)))) af)) af)))))),λds A R h L=>?_⟩
 obtain⟨r,kvs,ns,j,rfl,v,o,y,s,hok,q⟩:=h;have hz:(1000:Nat)<=sizeLine:=by decide
 refine MZ v o.keys o.nd (by omega) λys B l=>?_;have M:=pw_len ys ns B λx k=>(l x).mp k;refine eG aR ?_;refine gH (f:=λd=>match d with|.str n=>fq (j n)|d=>d) aR _ _ (λd hd=>?_) (by simp;omega) ?_
 .obtain⟨n,u,rfl⟩:=mem_map.mp hd
  exact⟨[.str n],rfl,λQ G=>d8 (getElem?_push v) rfl (o.get n ((l n).mp u)) G⟩
 have e:(ys.map D.str).map (λd=>match d with|.str n=>fq (j n)|d=>d)=(ys.map j).map fq:=by
  rw[map_map,map_map];rfl
 rw[nil_append,e];have m:ys≠[]:=λz=>by
  cases e:ns with
  |nil=>exact s e
  |cons n t=>
   have:=(l n).mpr (by rw[e];simp);rw[z] at this;cases this
 refine⟨rfl,_,ys.map j,rfl,aR,by simp;omega,λx k=>?_,by simpa using m,λN O C H _=>?_⟩
 .obtain⟨n,u,rfl⟩:=mem_map.mp k
  exact hok n ((l n).mp u)
 refine OB (C.get (getElem?_push aR)) H ?_;have I:(((ys.map D.str).zip ((lw (ys.map j)).map D.int)).map λp=>D.tup [p.1,p.2])=(ys.zip (lw (ys.map j))).map aW:=by
  rw[List.zip_map,map_map];rfl
 rw[I];exact q _ ys (((Gr.push.trans Gr.push)).trans C) B l
theorem Gj(T:TopD K mg "least" BG kM){c:Addr}(d:mg "Never"=some (.ref c))(f:excIn K c k9 "ValueError.__new__"=true)(i:av P w K mg base 11 "bar" jJ (au mg 1 ly))(b:av P w K mg base 11 "name_shares" jK (au mg 1 vV))(a:av P w K mg base 3 "least_weights" mS (au mg 1 rz)):av P w K mg base 12 "least" kM (au mg 1 lA):=by
 refine bV T MN λs F g N nd=>⟨_,(ay (bO (uX (dL i s g (aa (vr 0) af)) ic) (aB (lX F rfl d f (aa aV af))) bR)
  (aB (aP (dL a s g (aa (dL b s g (aa (vr 0) af)) af))))),λds A R h O=>?_⟩
 obtain⟨m,rfl,u,hd,q⟩:=h;refine⟨rfl,m,rfl,u,hd,λG C=>?_⟩;cases hb:bC [] (aZ m "" 1) with
 |some p=>
  have j:=q G C;rw[if_neg (by rw[hb];simp)] at j;exact⟨by decide,j⟩
 |none=>
  refine⟨rfl,m,rfl,u,hd,hb,λQ S kvs ns H h2 l2 D l=>?_⟩;have nl:=jh hd;have l1:ns.length<=m.names.length:=by
   have key:∀(xs ys:List Str),xs.Nodup->(∀x∈xs,x∈ys)->xs.length<=ys.length:=by
    intro xs;induction xs with
    |nil=>intro ys _ _;exact zero_le _
    |cons x r I=>
     intro ys v E;have k:=nodup_cons.mp v;have g:=E x (mem_cons_self ..);have:=I (ys.erase x) k.2 λy o=>(List.mem_erase_of_ne (λz=>k.1 (by rw[<-z];exact o))).mpr (E y (mem_cons_of_mem _ o));rw[List.length_erase_of_mem g] at this;have:=List.length_pos_of_mem g;simp;omega
   exact key ns m.names D.nd λx g=>(l x).mp g
  have B:ns≠[]:=λz=>by
   have hpos:=aD.mE m;cases e:m.names with
   |nil=>rw[e] at hpos;simp at hpos
   |cons n t=>
    have:=(l n).mpr (by rw[e];simp);rw[z] at this;cases this
  refine⟨rfl,_,kvs,ns,shr m,rfl,h2,D,by omega,B,λn v=>ng u.arms hd hb ((l n).mp v),λJ ys L M o=>?_⟩;have j:=q J ((C.trans H).trans L);rw[if_pos hb] at j;exact j ys M λx=>by rw[o,l]
end My
namespace DP
open L2 MA
abbrev Tb:=List (Str×Rat)
abbrev aU:=Nat×Str×Str
abbrev aH:=List (Str×List aU)
def bH(s:aU):D:=.tup [.int ((s.1:Nat):Int),.str s.2.1,.str s.2.2]
def aA(T:Tb):List Str:=T.map (·.1)
def bz(T:Tb):List (Key×D):=T.map λp=>((Sum.inr p.1:Key),fq p.2)
noncomputable def bQ(T:Tb)(n:Str):Rat:=match T.find? (λp=>decide (p.1=n)) with
 |some p=>p.2
 |none=>0
def eL(n:Str)(p:Tb×Nat):List aU:=if n∈aA p.1 then (aA p.1).map (λo=>(p.2,n,o)) else []
def cM(Ts:List Tb)(n:Str):List aU:=Ts.zipIdx.flatMap (eL n)
def bP(P:aH)(n:Str):List aU:=match P.find? (λp=>decide (p.1=n)) with
 |some p=>p.2
 |none=>[]
def ak(P:aH):List Str:=P.map (·.1)
def bI(P:aH)(s:aU):aH:=if s.2.2∈ak P then P else P++[(s.2.2,bP P s.2.1++[s])]
def cE(Ts:List Tb):Nat->Nat->aH->aH
 |0,_,P=>P
 |f+1,i,P=>match P[i]? with
  |some p=>cE Ts f (i+1) ((cM Ts p.1).foldl bI P)
  |none=>P
def aJ(Ts:List Tb)(n:Str):aH:=cE Ts 14 0 [(n,[])]
structure gy(T:Tb):Prop where
 nd:(aA T).Nodup
 ne:T≠[]
 len:T.length<=32
 GN:∀p∈T,gW p.2
structure cR(Ts:List Tb)(NN:List Str):Prop where
 len:Ts.length<=7
 tok:∀T∈Ts,gy T
 nn:NN.length<=12
 sub:∀T∈Ts,∀n∈aA T,n∈NN
theorem sQ:∀(T:Tb) (n:Str),aN (bz T) (Sum.inr n)=(T.find? (λp=>decide (p.1=n))).map (λp=>fq p.2)
 |[],n=>rfl
 |p::T,n=>by
  show(if (Sum.inr p.1:Key)=Sum.inr n then some (fq p.2) else aN (bz T) (Sum.inr n))=_;by_cases h:p.1=n
  .rw[if_pos (by rw[h]),List.find?_cons_of_pos (by simpa using h)]
   rfl
  .rw[if_neg (λz=>h (Sum.inr.inj z)),List.find?_cons_of_neg (by simpa using h)]
   exact sQ T n
theorem find_some{β:Type}{T:List (Str×β)}{n:Str}:(T.find? (λp=>decide (p.1=n))).isSome=decide (n∈T.map (·.1)):=by
 rw[Bool.eq_iff_iff,List.find?_isSome,decide_eq_true_eq];constructor
 .rintro ⟨p,a,h⟩
  rw[<-of_decide_eq_true h];exact mem_map_of_mem a
 .intro h
  obtain⟨p,a,e⟩:=mem_map.mp h;exact⟨p,a,decide_eq_true e⟩
theorem GW(T:Tb)(n:Str):(aN (bz T) (Sum.inr n)).isSome=decide (n∈aA T):=by
 rw[sQ,isSome_map];exact find_some
theorem yM{T:Tb}{n:Str}(h:n∈aA T):aN (bz T) (Sum.inr n)=some (fq (bQ T n)):=by
 have:=find_some (T:=T) (n:=n);rw[decide_eq_true (show n∈T.map (·.1) from h)] at this;obtain⟨p,a⟩:=isSome_iff_exists.mp this;rw[sQ,a];unfold bQ;rw[a];rfl
theorem IQ(T:Tb):(bz T).map (·.1)=(aA T).map Sum.inr:=by
 unfold bz aA;rw[map_map,map_map];rfl
theorem zm(T:Tb):((bz T).map λp=>keyOf p.1)=(aA T).map D.str:=by
 unfold bz aA;rw[map_map,map_map];rfl
theorem iD{T:Tb}(h:gy T){n:Str}(b:n∈aA T):gW (bQ T n):=by
 have:=find_some (T:=T) (n:=n);rw[decide_eq_true (show n∈T.map (·.1) from b)] at this;obtain⟨p,a⟩:=isSome_iff_exists.mp this;unfold bQ;rw[a];exact h.GN p (mem_of_find?_eq_some a)
theorem lH(P:aH)(s:aU):∀n,n∈ak (bI P s)↔n∈ak P\/n=s.2.2:=λn=>by
 unfold bI;split
 .rename_i h
  constructor
  .exact .inl
  .rintro (h'|rfl)
   .exact h'
   .exact h
 .simp[ak]
theorem DG{P:aH}(s:aU)(h:(ak P).Nodup):(ak (bI P s)).Nodup:=by
 unfold bI;split
 .exact h
 .rename_i c
  unfold ak;rw[map_append,nodup_append];refine⟨h,by simp,λa ha b hb=>?_⟩;simp at hb;rw[hb];exact λz=>c (by rw[<-z];exact ha)
theorem jG:∀(xs ys:List Str),xs.Nodup->(∀x∈xs,x∈ys)->xs.length<=ys.length:=by
 intro xs;induction xs with
 |nil=>intro ys _ _;exact zero_le _
 |cons x r e=>
  intro ys f b;have a:=nodup_cons.mp f;have c:=b x (mem_cons_self ..);have:=e (ys.erase x) a.2 λy d=>(List.mem_erase_of_ne (λz=>a.1 (by rw[<-z];exact d))).mpr (b y (mem_cons_of_mem _ d));rw[List.length_erase_of_mem c] at this;have:=List.length_pos_of_mem c;simp;omega
theorem jF{Ts:List Tb}{n:Str}{s:aU}:s∈cM Ts n↔∃T,Ts[s.1]?=some T/\n∈aA T/\s.2.1=n/\s.2.2∈aA T:=by
 unfold cM;rw[mem_flatMap];constructor
 .rintro ⟨⟨T,i⟩,b,a⟩
  have b:=mem_zipIdx_iff_getElem?.mp b;unfold eL at a;split at a
  .rename_i c
   obtain⟨o,d,rfl⟩:=mem_map.mp a;exact⟨T,b,c,rfl,d⟩
  .cases a
 .rintro ⟨T,f,c,e,d⟩
  refine⟨(T,s.1),mem_zipIdx_iff_getElem?.mpr f,?_⟩;unfold eL;rw[if_pos c];exact mem_map.mpr ⟨s.2.2,d,by rw[<-e]⟩
theorem sL:∀(a:List aU) (P:aH) (n:Str),n∈ak (a.foldl bI P)↔n∈ak P\/n∈a.map (·.2.2)
 |[],P,n=>by simp
 |s::a,P,n=>by
  rw[foldl_cons,sL a,lH];simp[or_assoc]
theorem DH(P:aH)(s:aU):∃X,bI P s=P++X:=by
 unfold bI;split
 .exact⟨[],by simp⟩
 .exact⟨_,rfl⟩
theorem oE:∀(a:List aU) (P:aH),∃X,a.foldl bI P=P++X
 |[],P=>⟨[],by simp⟩
 |s::a,P=>by
  obtain⟨X,e⟩:=DH P s;obtain⟨Y,b⟩:=oE a (bI P s);exact⟨X++Y,by rw[foldl_cons,b,e,List.append_assoc]⟩
def TabAt(A:Ar)(t:Nat)(T:Tb):Prop:=A[t]?=some (.dct (bz T))\/∃o,A[t]?=some (.bf o (bz T))
def TabsAt(A:Ar):List Nat->List Tb->Prop
 |[],[]=>True
 |t::ts,T::Ts=>TabAt A t T/\TabsAt A ts Ts
 |_,_=>False
def fE(A:Ar)(r:Nat)(Ts:List Tb):Prop:=∃ts,A[r]?=some (.lst (ts.map D.ref))/\TabsAt A ts Ts
theorem TabAt.gr{A B:Ar}{t:Nat}{T:Tb}(h:TabAt A t T)(g:Gr A B):TabAt B t T:=by
 rcases h with h|⟨o,h⟩
 .exact .inl (g.get h)
 .exact .inr ⟨o,g.get h⟩
theorem TabsAt.gr{A B:Ar}(g:Gr A B):∀{ts:List Nat} {Ts:List Tb},TabsAt A ts Ts->TabsAt B ts Ts
 |[],[],_=>trivial
 |t::ts,T::Ts,h=>⟨h.1.gr g,TabsAt.gr g h.2⟩
 |[],_::_,h=>h.elim
 |_::_,[],h=>h.elim
theorem TabsAt.len{A:Ar}:∀{ts:List Nat} {Ts:List Tb},TabsAt A ts Ts->ts.length=Ts.length
 |[],[],_=>rfl
 |t::ts,T::Ts,h=>by simp[TabsAt.len h.2]
 |[],_::_,h=>h.elim
 |_::_,[],h=>h.elim
theorem TabsAt.get{A:Ar}:∀{ts:List Nat} {Ts:List Tb} {i t:Nat},TabsAt A ts Ts->ts[i]?=some t->∃T,Ts[i]?=some T/\TabAt A t T
 |[],[],i,t,_,e=>by simp at e
 |t::ts,T::Ts,0,_,h,e=>by
  simp at e;subst e;exact⟨T,rfl,h.1⟩
 |t::ts,T::Ts,i+1,_,h,e=>by
  obtain⟨a,h1,h2⟩:=TabsAt.get (i:=i) h.2 (by simpa using e);exact⟨a,by simpa using h1,h2⟩
 |[],_::_,_,_,h,_=>h.elim
 |_::_,[],_,_,h,_=>h.elim
theorem fE.gr{A B:Ar}{r:Nat}{Ts:List Tb}(h:fE A r Ts)(g:Gr A B):fE B r Ts:=by
 obtain⟨ts,h1,h2⟩:=h;exact⟨ts,g.get h1,h2.gr g⟩
theorem yy{τ:bx}{A:Ar}{j t:Nat}{ix:List Nat}{te:aC}{R:DK}{T:Tb}(f:D->D)(g:lk τ j=some (.ref t))(l:TabAt A t T)(v:T.length<=1000)
  (b:∀A':Ar,∀o∈aA T,∀Q:DK,Q (f (.str o)) A'->te ([some (.str o)]++ix.map (lk τ)) A' Q)(k:R (.ref A.length) (A++[.lst ((aA T).map λo=>f (.str o))])):xh (j4 none ix (l_ (cT j)) jN te) τ A R:=by
 have hz:(1000:Nat)<=sizeLine:=by decide
 have c:(aA T).length=T.length:=by simp[aA]
 have em:((bz T).map λp=>keyOf p.1)=(aA T).map D.str:=zm T;have go:∀(A':Ar) (o:Obj) (d:DK),A'[t]?=some (.bf o (bz T))->d (.ref A'.length) (A'++[.lst ((aA T).map λo=>f (.str o))])->j4 none ix (l_ (cT j)) jN te τ A' d:=λA' o d h' m=>by
  unfold j4 l_ cT;rw[g];refine tw h' ?_;rw[em];refine gH (f:=f) h' _ _ (λx q=>?_) (by simp[c];omega) ?_
  .obtain⟨n,r,rfl⟩:=mem_map.mp q
   exact⟨[.str n],rfl,λQ s=>b A' n r Q s⟩
  .rw[nil_append,map_map]
   exact m
 rcases l with h|⟨o,h⟩
 .have a:=dJ h
  refine .inl ⟨t,bz T,h,λo=>go _ o _ (getElem?_set_self a) ⟨bz T,?_,?_⟩⟩
  .rw[getElem?_append_left (by simpa using a)]
   exact getElem?_set_self a
  .have e:(A.set t (.bf o (bz T))++[C.lst ((aA T).map λo=>f (.str o))]).set t (.dct (bz T))=A++[.lst ((aA T).map λo=>f (.str o))]:=by
    rw[set_append_left _ _ (by simpa using a),set_set];congr 1;refine ext_getElem? λi=>?_;by_cases hi:i=t
    .rw[hi,getElem?_set_self a,h]
    .rw[getElem?_set_ne (Ne.symm hi)]
   rw[e];have u:(A.set t (C.bf o (bz T))).length=A.length:=by simp
   rw[u];exact k
 .exact .inr (go A o R h k)
def vZ:Ct:=λds A R _=>∃r n Ts,ds=[.ref r,.str n]/\fE A r Ts/\Ts.length<=7/\(∀T∈Ts,T.length<=32)/\∀A' q,Gr A A'->A'[q]?=some (.lst ((cM Ts n).map bH))->A.length<=q->R (.ref q) A'
theorem j_(ds:List D):(fy ds).length=ds.length:=by simp[fy]
theorem yc{ds:List D}{i:Nat}{x:D}(h:ds[i]?=some x):(fy ds)[i]?=some (.tup [.int ((i:Nat):Int),x]):=by
 unfold fy;rw[getElem?_map,List.getElem?_zipIdx,h];simp
theorem CY{Ts:List Tb}{i:Nat}{T:Tb}(h:Ts[i]?=some T):Ts.zipIdx.take (i+1)=Ts.zipIdx.take i++[(T,i)]:=by
 rw[take_succ,List.getElem?_zipIdx,h];simp
theorem Nn(n:Str)(p:Tb×Nat)(h:p.1.length<=32):(eL n p).length<=32:=by
 unfold eL;split
 .simp[aA];exact h
 .simp
theorem yr(n:Str):∀(l:List (Tb×Nat)),(∀p∈l,p.1.length<=32)->(l.flatMap (eL n)).length<=32*l.length
 |[],_=>by simp
 |p::l,h=>by
  have h1:=yr n l λq a=>h q (mem_cons_of_mem _ a);have h2:=Nn n p (h p (mem_cons_self ..));rw[flatMap_cons,length_append,length_cons];omega
end DP
namespace My
open L2 DP MA
theorem GI(T:TopD K mg "steps_from" BR qe)(a:mg "enumerate"=none):av P w K mg base 1 "steps_from" qe (au mg 2 vZ):=by
 refine bV T MW λN O S C nd=>⟨_,(ay (dS 2 nd (eE af))
  (ay (fu d9 rfl (xQ a (aa (vr 0) af)) (lU rfl (fX (dG 3 nd) (fX (dG 4 nd) lV))) (aB (bO (N4 C (vr 1) (vr 4)) (aB (fY (jw plainAttrs_list slot_list_extend type_list_extend zP xu (vr 2) (aa (sr (fK none (own:=["other"]) (frees:=["place","name"]) (ix:=[3,1]) rfl (oh (vr 4)) (λc=>(pG 0 (show(["other","place","name"]:List Str).Nodup by decide+kernel))) (λc=>(bg (aa (vr 1) (aa (vr 2) (aa (vr 0) af))))))) af)))) bR)))
  (aB (aP (vr 2))))),λds A R h U=>?_⟩
 obtain⟨r,n,Ts,rfl,E,V,d,q⟩:=h;obtain⟨ts,h1,h2⟩:=E;have hz:(1000:Nat)<=sizeLine:=by decide
 have l:=h2.len;have len:∀i,((Ts.zipIdx.take i).flatMap (eL n)).length<=224:=λi=>by
  have:=yr n (Ts.zipIdx.take i) λp F=>by
   have:=mem_zipIdx_iff_getElem?.mp (mem_of_mem_take F);exact d _ (mem_of_getElem? this)
  rw[length_take,length_zipIdx] at this;omega
 refine⟨zero_le _,tu (getElem?_push h1) ?_⟩;refine eZ (λrest τ A'=>∃(i:Nat) (x y:Option D),i<=ts.length/\rest=(fy (ts.map D.ref)).drop i/\τ=[some (.ref r),some (.str n),some (.ref A.length),x,y]/\A'[A.length]?=some (.lst (((Ts.zipIdx.take i).flatMap (eL n)).map bH))/\Gr A A') ?_ ?_ ?_ _ _ _ ⟨0,none,none,zero_le _,rfl,rfl,aR,Gr.push⟩
 .rintro rest τ A' ⟨i,x,y,_,_,_,_,g⟩
  exact g.get h1
 .rintro v rest τ G ⟨i,x,y,hi,e,rfl,hc,g⟩ W u
  by_cases f:i<ts.length
  .obtain⟨t,z⟩:∃t,ts[i]?=some t:=⟨ts[i],getElem?_eq_getElem f⟩
   obtain⟨T,B,H⟩:=h2.get z;have j:=H.gr g;have b:i<(fy (ts.map D.ref)).length:=by rw[j_,length_map];exact f
   have ev:=yc (ds:=ts.map D.ref) (i:=i) (x:=.ref t) (by rw[getElem?_map,z];rfl);rw[drop_eq_getElem_cons b] at e;rw[getElem?_eq_getElem b] at ev;have ev:=Option.some.inj ev;rw[ev] at e;cases e;have k:∀L,L=eL n (T,i)->((Ts.zipIdx.take (i+1)).flatMap (eL n))=((Ts.zipIdx.take i).flatMap (eL n))++L:=λL I=>by
    rw[CY B,flatMap_append,I];simp
   have ln:=len i;refine⟨rfl,HU j rfl ?_⟩;rw[if_neg Bool.false_ne_true,GW];refine cD (λc=>?_) (λc=>?_)
   .have m:eL n (T,i)=(aA T).map (λo=>(i,n,o)):=by unfold eL;rw[if_pos c]
    have J:=d T (mem_of_getElem? B);have s:(aA T).length=T.length:=by simp[aA]
    refine⟨jA hc,yy (λo=>.tup [.int ((i:Nat):Int),.str n,o]) rfl j (by omega) (λA' o X Q M=>⟨show 3<=sizeLine by omega,M⟩) ?_⟩;refine ym (getElem?_push hc) aR (by rw[length_map,length_map,s];omega) ?_;have em:((aA T).map λo=>D.tup [.int ((i:Nat):Int),.str n,.str o])=(eL n (T,i)).map bH:=by
     rw[m,map_map];rfl
    refine u _ _ ⟨i+1,_,_,by omega,rfl,rfl,?_,(g.trans Gr.push).set (le_refl _)⟩;rw[k _ rfl,map_append,em];exact get_set (getElem?_push hc)
   .have m:eL n (T,i)=[]:=by unfold eL;rw[if_neg c]
    refine u _ _ ⟨i+1,_,_,by omega,rfl,rfl,?_,g⟩;rw[k _ rfl,m,append_nil];exact hc
  .rw[drop_eq_nil_of_le (by rw[j_,length_map];omega)] at e
   cases e
 .rintro τ G ⟨i,x,y,hi,e,rfl,hc,g⟩
  have hi:i=ts.length:=by
   have:=congrArg List.length e;simp[j_] at this;omega
  rw[hi,l,List.take_of_length_le (by rw[length_zipIdx];exact le_refl _)] at hc;exact q _ _ g hc (le_refl _)
end My
namespace DP
open L2 MA
theorem zy{P X:aH}{n:Str}(h:n∈ak P):bP (P++X) n=bP P n:=by
 have:=find_some (T:=P) (n:=n);rw[decide_eq_true (show n∈P.map (·.1) from h)] at this;obtain⟨p,a⟩:=isSome_iff_exists.mp this;unfold bP;rw[find?_append,a];rfl
theorem Jb{P:aH}{n:Str}{l:List aU}(h:n∉ak P):bP (P++[(n,l)]) n=l:=by
 have:=find_some (T:=P) (n:=n);rw[decide_eq_false (show ¬n∈P.map (·.1) from h)] at this;have e:P.find? (λp=>decide (p.1=n))=none:=by
  cases e:P.find? (λp=>decide (p.1=n)) with
  |none=>rfl
  |some p=>rw[e] at this;cases this
 unfold bP;rw[find?_append,e];simp
theorem gO{P:aH}{n:Str}(h:n∈ak P):(n,bP P n)∈P:=by
 have:=find_some (T:=P) (n:=n);rw[decide_eq_true (show n∈P.map (·.1) from h)] at this;obtain⟨p,a⟩:=isSome_iff_exists.mp this;have h1:=mem_of_find?_eq_some a;have h2:=find?_some a;unfold bP;rw[a];have h2:p.1=n:=of_decide_eq_true h2;rw[<-h2];exact h1
def jk(b:Nat)(A:Ar)(P:aH):Prop:=∃kvs,A[b+1]?=some (.dct kvs)/\A[b+2]?=some (.lst ((ak P).map D.str))/\kvs.map (·.1)=(ak P).map Sum.inr/\∀n∈ak P,∃a,a≠b+2/\b<=a/\aN kvs (Sum.inr n)=some (.ref a)/\A[a]?=some (.lst ((bP P n).map bH))
structure dO(P:aH)(NN:List Str):Prop where
 nd:(ak P).Nodup
 sub:∀n∈ak P,n∈NN
 pl:∀p∈P,p.2.length+1<=P.length
theorem dO.len{P:aH}{NN:List Str}(h:dO P NN):P.length<=NN.length:=by
 have:=jG (ak P) NN h.nd h.sub;simpa[ak] using this
theorem dO.add{P:aH}{NN:List Str}(h:dO P NN){s:aU}(h1:s.2.1∈ak P)(h2:s.2.2∈NN):dO (bI P s) NN:=by
 refine⟨DG s h.nd,λn a=>?_,λp hp=>?_⟩
 .rcases (lH P s n).mp a with h'|rfl
  .exact h.sub n h'
  .exact h2
 .unfold bI at hp ⊢
  split at hp
  .rename_i hc
   rw[if_pos hc];exact h.pl p hp
  .rename_i hc
   rw[if_neg hc,length_append];rcases mem_append.mp hp with hp|hp
   .have:=h.pl p hp
    simp;omega
   .rw[mem_singleton.mp hp]
    have:=h.pl _ (gO h1);simp at this ⊢;omega
def eo(lo:Nat)(A:Ar)(q:Nat)(P:aH):Prop:=lo<=q/\∃kvs,A[q]?=some (.dct kvs)/\kvs.map (·.1)=(ak P).map Sum.inr/\∀n∈ak P,∃a,lo<=a/\aN kvs (Sum.inr n)=some (.ref a)/\A[a]?=some (.lst ((bP P n).map bH))
theorem eo.gr{A B:Ar}{lo q:Nat}{P:aH}(h:eo lo A q P)(g:Gr A B):eo lo B q P:=by
 obtain⟨h0,kvs,h1,h2,b⟩:=h;exact⟨h0,kvs,g.get h1,h2,λn c=>by obtain⟨a,z,x,y⟩:=b n c;exact⟨a,z,x,g.get y⟩⟩
theorem eo.set{A:Ar}{lo q t:Nat}{P:aH}{c:C}(h:eo lo A q P)(g:t<lo):eo lo (A.set t c) q P:=by
 obtain⟨h0,kvs,h1,h2,e⟩:=h;have b:∀(j:Nat) (d:C),lo<=j->A[j]?=some d->(A.set t c)[j]?=some d:=λj d i hd=>by
  rw[getElem?_set_ne (by omega)];exact hd
 exact⟨h0,kvs,b _ _ h0 h1,h2,λn f=>by obtain⟨a,z,x,y⟩:=e n f;exact⟨a,z,x,b _ _ z y⟩⟩
theorem eo.lo{A:Ar}{lo b q:Nat}{P:aH}(h:eo lo A q P)(e:b<=lo):eo b A q P:=by
 obtain⟨h0,kvs,h1,h2,c⟩:=h;exact⟨by omega,kvs,h1,h2,λn d=>by obtain⟨a,z,x,y⟩:=c n d;exact⟨a,by omega,x,y⟩⟩
theorem jk.gr{A B:Ar}{b:Nat}{P:aH}(h:jk b A P)(g:Gr A B):jk b B P:=by
 obtain⟨kvs,h1,h2,c,d⟩:=h;exact⟨kvs,g.get h1,g.get h2,c,λn e=>by obtain⟨a,z,f,x,y⟩:=d n e;exact⟨a,z,f,x,g.get y⟩⟩
theorem tE{kvs:List (Key×D)}{ns:List Str}{n:Str}(h:kvs.map (·.1)=ns.map Sum.inr):(aN kvs (Sum.inr n)).isSome=decide (n∈ns):=by
 induction kvs generalizing ns with
 |nil=>
  cases ns with
  |nil=>rfl
  |cons _ _=>cases h
 |cons p kvs a=>
  cases ns with
  |nil=>cases h
  |cons m ns=>
   rw[map_cons,map_cons,List.cons.injEq] at h;show(if p.1=Sum.inr n then some p.2 else aN kvs (Sum.inr n)).isSome=_;rw[h.1];by_cases e:m=n
   .rw[if_pos (by rw[e])]
    simp[e]
   .rw[if_neg (λz=>e (Sum.inr.inj z)),a h.2]
    simp[Ne.symm e]
theorem lK{Ts:List Tb}{f i:Nat}{P:aH}{p:Str×List aU}(h:P[i]?=some p):cE Ts (f+1) i P=cE Ts f (i+1) ((cM Ts p.1).foldl bI P):=by
 show(match P[i]? with|some p=>cE Ts f (i+1) ((cM Ts p.1).foldl bI P)|none=>P)=_;rw[h]
theorem DY{Ts:List Tb}{f i:Nat}{P:aH}(h:P.length<=i):cE Ts f i P=P:=by
 cases f with
 |zero=>rfl
 |succ f=>
  show(match P[i]? with|some p=>cE Ts f (i+1) ((cM Ts p.1).foldl bI P)|none=>P)=_;rw[getElem?_eq_none h]
def rC:Ct:=λds A R _=>∃r n Ts NN,ds=[.ref r,.str n]/\fE A r Ts/\cR Ts NN/\n∈NN/\∀A' q,Gr A A'->eo A.length A' q (aJ Ts n)->R (.ref q) A'
theorem dU{A:Ar}{i j:Nat}{c d:C}(a:i≠j)(h:A[j]?=some d):(A.set i c)[j]?=some d:=by
 rw[getElem?_set_ne a];exact h
theorem m_{A:Ar}{i:Nat}{c d:C}(h:A[i]?=some d):(A.set i c)[i]?=some c:=getElem?_set_self (dJ h)
theorem IK{kvs:List (Key×D)}{ns:List Str}{n:Str}{v:D}(h:kvs.map (·.1)=ns.map Sum.inr)(a:n∉ns):(bL kvs (Sum.inr n) v).map (·.1)=(ns++[n]).map Sum.inr:=by
 rw[Ao (λp b z=>?_)]
 .simp[h]
 .have:p.1∈kvs.map (·.1):=mem_map_of_mem b
  rw[h,z] at this;obtain⟨m,c,e⟩:=mem_map.mp this;rw[<-Sum.inr.inj e] at a;exact a c
end DP
namespace My
open L2 DP MA
theorem GA(T:TopD K mg "paths_from" BJ qa)(B:mg "len"=none)(d:av P w K mg base 1 "steps_from" qe (au mg 2 vZ)):av P w K mg base 2 "paths_from" qa (au mg 2 rC):=by
 refine bV T MQ λhr hR hx u nd=>⟨_,(ay (dS 2 nd (E9 (vr 1) (eE af)))
  (ay (dS 3 nd (eE (aa (vr 1) af)))
  (ay (dS 4 nd ai)
  (ay (sE d9 (CA (vr 4) (cZ eV dY B PySem.boot_len (aa (vr 3) af))) (ay (fu d9 rfl (dP (dL d hr hx (aa (vr 0) (aa (dX u (vr 3) (vr 4)) af)))) (dG 5 nd) (aB (bO (uY u (dX u (vr 5) ai) (vr 2)) (ay (xY u (vr 2) (dX u (vr 5) ai) (cU (dX u (vr 2) (dX u (vr 5) ai)) (eE (aa (vr 5) af))) rfl)
  (aB (fY (jw plainAttrs_list PySem.F.slot_list_append PySem.F.type_list_append mD nX (vr 3) (aa (dX u (vr 5) ai) af))))) bR)))
  (aB (Fw (i:=4) nd rfl (by first|exact Or.inl rfl|exact Or.inr rfl) ai))))
  (aB (aP (vr 2))))))),λds A R h hl=>?_⟩
 obtain⟨r,n,Ts,NN,rfl,hB,hok,hn,q⟩:=h;have hz:(1000:Nat)<=sizeLine:=by decide
 have e1:(A++[C.lst []]).length=A.length+1:=by simp
 have e2:(A++[C.lst []]++[C.dct [(Sum.inr n,D.ref A.length)]]).length=A.length+2:=by simp
 refine⟨zero_le _,show 1<=sizeLine by omega,?_⟩;have sX:jk A.length (A++[C.lst []]++[C.dct [(Sum.inr n,D.ref A.length)]]++[C.lst [D.str n]]) [(n,[])]:=by
  refine⟨[(Sum.inr n,D.ref A.length)],?_,?_,rfl,λm hm=>⟨A.length,by omega,le_refl _,?_,?_⟩⟩
  .rw[<-e1];exact getElem?_push aR
  .rw[<-e2];exact aR
  .have:m=n:=by simpa[ak] using hm
   subst this;exact if_pos rfl
  .have:m=n:=by simpa[ak] using hm
   subst this;have e:bP [(m,[])] m=[]:=by simp[bP]
   rw[e];exact getElem?_push (getElem?_push aR)
 refine⟨λk τ A'=>∃(i:Nat) (Q:aH) (x:Option D),k=13 - i/\τ=[some (.ref r),some (.str n),some (.ref (A++[C.lst []]).length),some (.ref (A++[C.lst []]++[C.dct [(Sum.inr n,D.ref A.length)]]).length),some (.int ((i:Nat):Int)),x]/\i<=Q.length/\jk A.length A' Q/\dO Q NN/\cE Ts (14 - i) i Q=aJ Ts n/\Gr A A',⟨13,0,[(n,[])],none,rfl,rfl,by simp,sX,⟨by simp[ak],λm hm=>by
   have:m=n:=by simpa[ak] using hm
   rw[this];exact hn,λp M=>by
   have:p=(n,[]):=by simpa using M
   rw[this];simp⟩,rfl,((Gr.push.trans Gr.push).trans Gr.push)⟩,?_⟩
 rw[e1,e2];rintro k τ A1 ⟨i,Q,x,rfl,rfl,hi,hS,hP,hb,g1⟩;have IW:Q.length<=12:=le_trans hP.len hok.nn;obtain⟨N,hd0,E,hk0,hv0⟩:=id hS;refine kE E ?_;have O:((ak Q).map D.str).length=Q.length:=by simp[ak]
 refine cD (λc=>?_) (λc=>?_)
 .rw[O] at c
  have c:i<Q.length:=by omega
  obtain⟨p,M⟩:∃p,Q[i]?=some p:=⟨Q[i],getElem?_eq_getElem c⟩;have Hy:p.1∈ak Q:=mem_map_of_mem (mem_of_getElem? M);refine⟨λτ A'=>∃(I:aH) (x:Option D),τ=[some (.ref r),some (.str n),some (.ref (A.length+1)),some (.ref (A.length+2)),some (.int ((i+1:Nat):Int)),x]/\i+1<=I.length/\jk A.length A' I/\dO I NN/\cE Ts (14 - (i+1)) (i+1) I=aJ Ts n/\Gr A A',λbU A' ⟨I,x,h1,h2,S,h4,h5,h6⟩=>⟨13 - (i+1),by omega,i+1,I,x,rfl,h1,h2,S,h4,h5,h6⟩,?_⟩;refine bE E (v:=.str p.1) (dz (by rw[getElem?_map];unfold ak;rw[getElem?_map,M];rfl)) ?_;refine⟨rfl,r,p.1,Ts,rfl,hB.gr g1,hok.len,λT hT=>(hok.tok T hT).len,λA2 q2 g2 h2 l2=>?_⟩;have gl:=g1.len;have lr:=dJ E;refine eG h2 ?_;refine eZ (λrest τ A'=>∃(l b:List aU) (x:Option D),rest=b.map bH/\l++b=cM Ts p.1/\τ=[some (.ref r),some (.str n),some (.ref (A.length+1)),some (.ref (A.length+2)),some (.int ((i:Nat):Int)),x]/\jk A.length A' (l.foldl bI Q)/\dO (l.foldl bI Q) NN/\A'[q2]?=some (.lst ((cM Ts p.1).map bH))/\Gr A A') ?_ ?_ ?_ _ _ _ ⟨[],cM Ts p.1,x,rfl,rfl,rfl,hS.gr g2,hP,h2,g1.trans g2⟩
  .rintro rest τ A' ⟨l,b,x,_,_,_,_,_,h,_⟩
   exact h
  .rintro v rest τ U ⟨l,b,x,e,g,rfl,t,j,S,g3⟩ Nx hN
   cases b with
   |nil=>cases e
   |cons st b=>
   cases e;have hst:st∈cM Ts p.1:=by rw[<-g];simp
   obtain⟨T,hT,hn1,hn2,Hw⟩:=jF.mp hst;obtain⟨kvs,hd,V,hk,hv⟩:=id t;have f:(l++[st]).foldl bI Q=bI (l.foldl bI Q) st:=by rw[foldl_append];rfl
   generalize Ho:l.foldl bI Q=o at*
   have G:st.2.1∈ak o:=by
    rw[<-Ho,sL,hn2];exact .inl Hy
   have Mg:st.2.2∈NN:=hok.sub T (mem_of_getElem? hT) _ Hw;have l3:o.length<=12:=le_trans j.len hok.nn;refine s8 hd rfl ?_;rw[if_pos rfl,tE hk];refine cN (λJ=>?_) (λJ=>?_)
   .obtain⟨a1,na,Pn,ga,ha⟩:=hv _ G
    refine d8 hd rfl ga ?_;have hpl:=j.pl _ (gO G);simp at hpl;refine⟨show 1<=sizeLine by omega,j0 (getElem?_push ha) aR (by simp;omega) ?_⟩;have Pe:kvs.length=o.length:=by
     have:=congrArg List.length hk;simpa[ak] using this
    refine Aq (getElem?_push (getElem?_push hd)) rfl (by omega) ?_;have W:=getElem?_push (T:=[C.lst ((bP o st.2.1).map bH++[bH st])]) (getElem?_push (T:=[C.lst [bH st]]) V);have hd2:=getElem?_push (T:=[C.lst ((bP o st.2.1).map bH++[bH st])]) (getElem?_push (T:=[C.lst [bH st]]) hd);have s:=dU (i:=A.length+1) (c:=C.dct (bL kvs (Sum.inr st.2.2) (D.ref (U++[C.lst [bH st]]).length))) (by omega) W;refine⟨jA s,nU s (by simp[ak];omega) ?_⟩;have Pp:A1.length<=q2:=l2;have nq:A.length+2≠q2:=by omega
    have JV:A.length+1≠q2:=by omega
    have L:bI o st=o++[(st.2.2,bP o st.2.1++[st])]:=by unfold bI;rw[if_neg J]
    have ek:ak (bI o st)=ak o++[st.2.2]:=by rw[L];simp[ak]
    refine hN _ _ ⟨l++[st],b,_,rfl,by simpa using g,rfl,?_,?_,?_,?_⟩
    .rw[f]
     refine⟨_,dU (by omega) (m_ hd2),?_,?_,λm hm=>?_⟩
     .rw[ek,map_append]
      exact m_ s
     .rw[ek]
      exact IK hk J
     .rw[ek] at hm
      have la:(U++[C.lst [bH st]]).length=U.length+1:=by simp
      have Jf:=dJ V;rcases mem_append.mp hm with hm|hm
      .obtain⟨a,Y,Z,GR,H⟩:=hv m hm
       have hne:¬(Sum.inr st.2.2:Key)=Sum.inr m:=λz=>J (by rw[Sum.inr.inj z];exact hm);refine⟨a,Y,Z,by rw[ko,if_neg hne];exact GR,?_⟩;rw[L,zy hm];have hd':A.length+1≠a:=λz=>by rw[<-z,hd] at H;cases H
       exact dU (Ne.symm Y) (dU hd' (getElem?_push (getElem?_push H)))
      .have hm:m=st.2.2:=by simpa using hm
       subst hm;refine⟨(U++[C.lst [bH st]]).length,by omega,by omega,by rw[ko,if_pos rfl],?_⟩;rw[L,Jb J,map_append];exact dU (by omega) (dU (by omega) aR)
    .rw[f]
     exact j.add G Mg
    .exact dU nq (dU JV (getElem?_push (getElem?_push S)))
    .exact((((g3.trans Gr.push).trans Gr.push).set (by omega)).set (by omega))
   .have L:bI o st=o:=by unfold bI;rw[if_pos J]
    refine hN _ _ ⟨l++[st],b,_,rfl,by simpa using g,rfl,?_,?_,S,g3⟩
    .rw[f,L];exact t
    .rw[f,L];exact j
  .rintro τ U ⟨l,b,x,e,g,rfl,t,j,S,g3⟩
   cases b with
   |cons _ _=>cases e
   |nil=>
   have g:l=cM Ts p.1:=by simpa using g
   subst g;refine⟨_,x,by rfl,?_,t,j,?_,g3⟩
   .obtain⟨X,e⟩:=oE (cM Ts p.1) Q
    rw[e,length_append];omega
   .rw[<-hb,show 14 - i=(14 - (i+1))+1 by omega,lK M]
 .rw[O] at c
  have c:Q.length<=i:=by omega
  rw[DY c] at hb;rw[<-hb] at q;refine q A1 _ g1 ⟨by omega,N,hd0,hk0,λm hm=>?_⟩;obtain⟨a,_,z,x,y⟩:=hv0 m hm;exact⟨a,z,x,y⟩
end My
namespace DP
open L2 MA
end DP
namespace My
open L2 DP MA
end My
namespace DP
open L2 MA
end DP
namespace My
open L2 DP MA
end My
namespace DP
open L2 MA
end DP
namespace My
open L2 DP MA
end My
namespace DP
open L2 MA
theorem GZ{A b:Ar}{r:Nat}{o:Obj}{kvs:List (Key×D)}(h:A[r]?=some (.dct kvs))(g:Gr (A.set r (.bf o kvs)) b):b[r]?=some (.bf o kvs)/\Gr A (b.set r (.dct kvs)):=by
 obtain⟨T,rfl⟩:=g;have a:=(List.getElem?_eq_some_iff.mp h).1;refine⟨by rw[getElem?_append_left (by simpa using a),getElem?_set_self a],T,?_⟩;rw[set_append_left _ _ (by simpa using a),set_set];congr 1;apply ext_getElem?;intro i;by_cases e:i=r
 .subst e;rw[getElem?_set_self a,h]
 .rw[getElem?_set_ne (Ne.symm e)]
theorem An:∀(ps acc:List (Key×D)),((acc++ps).map (·.1)).Nodup->ps.foldl (λacc p=>bL acc p.1 p.2) acc=acc++ps
 |[],acc,_=>by simp
 |p::ps,acc,h=>by
  rw[foldl_cons];have c:(acc.any λa=>decide (a.1=p.1))=false:=by
   rw[List.any_eq_false];intro a b z;rw[map_append] at h;exact(nodup_append.mp h).2.2 a.1 (mem_map_of_mem b) p.1 (by simp) (of_decide_eq_true z)
  have e:bL acc p.1 p.2=acc++[p]:=by
   unfold bL;rw[c];rfl
  rw[e,An ps (acc++[p]) (by simpa using h)];simp
theorem yL(g:Str->D):∀(ns:List Str) (n:Str),n∈ns->aN (ns.map λn=>((Sum.inr n:Key),g n)) (Sum.inr n)=some (g n)
 |[],n,h=>by cases h
 |x::ns,n,h=>by
  show(if (Sum.inr x:Key)=Sum.inr n then some (g x) else aN _ _)=_;by_cases e:x=n
  .rw[if_pos (by rw[e]),e]
  .rw[if_neg (λz=>e (Sum.inr.inj z))]
   rcases mem_cons.mp h with z|z
   .exact absurd z.symm e
   .exact yL g ns n z
def iB(g:Str->Rat)(n:Str):D:=.tup [.str n,fq (g n)]
theorem Ad(g:Str->Rat):∀ns:List Str,c9 (ns.map (iB g))=some (ns.map λn=>((Sum.inr n:Key),fq (g n)))
 |[]=>rfl
 |n::ns=>by
  have:=Ad g ns;simp[iB,c9,this,dQ]
end DP
namespace My
open L2 DP MA
end My
namespace DP
open L2 MA
def cS(Gs:List aH):List Str:=Gs.flatMap ak
def bX(Ts:List Tb)(Gs:List aH)(n:Str):List aH:=if n∈cS Gs then Gs else Gs++[aJ Ts n]
def aY(Ts:List Tb):List aH:=(Ts.flatMap aA).foldl (bX Ts) []
def dc(lo:Nat)(A:Ar):List Nat->List aH->Prop
 |[],[]=>True
 |q::qs,P::Ps=>eo lo A q P/\dc lo A qs Ps
 |_,_=>False
theorem dc.iy{lo a:Nat}{A B:Ar}(f:∀q P,eo lo A q P->eo a B q P):∀{qs:List Nat} {Ps:List aH},dc lo A qs Ps->dc a B qs Ps
 |[],[],_=>trivial
 |q::qs,P::Ps,h=>⟨f q P h.1,dc.iy f h.2⟩
 |[],_::_,h=>h.elim
 |_::_,[],h=>h.elim
theorem dc.snoc{lo:Nat}{A:Ar}{q:Nat}{P:aH}(a:eo lo A q P):∀{qs:List Nat} {Ps:List aH},dc lo A qs Ps->dc lo A (qs++[q]) (Ps++[P])
 |[],[],_=>⟨a,trivial⟩
 |_::qs,_::Ps,h=>⟨h.1,dc.snoc a h.2⟩
 |[],_::_,h=>h.elim
 |_::_,[],h=>h.elim
theorem dc.len{lo:Nat}{A:Ar}:∀{qs:List Nat} {Ps:List aH},dc lo A qs Ps->qs.length=Ps.length
 |[],[],_=>rfl
 |q::qs,P::Ps,h=>by simp[dc.len h.2]
 |[],_::_,h=>h.elim
 |_::_,[],h=>h.elim
def Dy(lo:Nat)(A:Ar)(q:Nat)(Gs:List aH):Prop:=lo<=q/\∃gs,A[q]?=some (.lst (gs.map D.ref))/\dc lo A gs Gs
def iT(b:Nat)(NN:List Str)(A:Ar)(Gs:List aH):Prop:=∃(gs:List Nat) (kvs:List (Key×D)) (ns:List Str),A[b]?=some (.lst (gs.map D.ref))/\dc (b+2) A gs Gs/\A[b+1]?=some (.dct kvs)/\kvs.map (·.1)=ns.map Sum.inr/\ns.Nodup/\(∀n,n∈ns↔n∈cS Gs)/\∀n∈ns,n∈NN
theorem iT.set{b t:Nat}{NN:List Str}{A:Ar}{Gs:List aH}{c:C}(h:iT b NN A Gs)(e:t<b):iT b NN (A.set t c) Gs:=by
 obtain⟨gs,kvs,ns,h1,h2,a,d⟩:=h;exact⟨gs,kvs,ns,dU (by omega) h1,h2.iy λq P z=>z.set (by omega),dU (by omega) a,d⟩
theorem IV{kvs:List (Key×D)}{ns:List Str}(h:kvs.map (·.1)=ns.map Sum.inr):∃ps:List (Str×D),kvs=ps.map (λp=>((Sum.inr p.1:Key),p.2))/\ps.map (·.1)=ns:=by
 induction kvs generalizing ns with
 |nil=>
  cases ns with
  |nil=>exact⟨[],rfl,rfl⟩
  |cons _ _=>cases h
 |cons p kvs a=>
  cases ns with
  |nil=>cases h
  |cons m ns=>
   rw[map_cons,map_cons,List.cons.injEq] at h;obtain⟨ps,b,c⟩:=a h.2;exact⟨(m,p.2)::ps,by rw[map_cons,<-b,<-h.1],by rw[map_cons,c]⟩
theorem zO{kvs b:List (Key×D)}{ns ms:List Str}(h1:kvs.map (·.1)=ns.map Sum.inr)(h2:b.map (·.1)=ms.map Sum.inr)(c:ns.Nodup):∃a:List Str,(iA kvs b).map (·.1)=a.map Sum.inr/\a.Nodup/\∀n,n∈a↔n∈ns\/n∈ms:=by
 obtain⟨ps,d,e⟩:=IV h2;obtain⟨a,k1,k2,k3⟩:=sM ps kvs ns h1 c;refine⟨a,?_,k2,λn=>by rw[k3,e]⟩;unfold iA;rw[d];exact k1
theorem wo{Ts:List Tb}{NN:List Str}(hok:cR Ts NN):∀(f i:Nat) (P:aH),dO P NN->dO (cE Ts f i P) NN/\∃X,cE Ts f i P=P++X
 |0,i,P,h=>⟨h,[],by simp[cE]⟩
 |f+1,i,P,h=>by
  cases e:P[i]? with
  |none=>
   have:cE Ts (f+1) i P=P:=by
    show(match P[i]? with|some p=>cE Ts f (i+1) ((cM Ts p.1).foldl bI P)|none=>P)=_;rw[e]
   rw[this];exact⟨h,[],by simp⟩
  |some p=>
   rw[lK e];have key:∀(a:List aU) (Q:aH),(∀s∈a,s∈cM Ts p.1)->dO Q NN->p.1∈ak Q->dO (a.foldl bI Q) NN:=by
    intro a;induction a with
    |nil=>intro Q _ h _;exact h
    |cons s a d=>
     intro Q c g b;obtain⟨T,j,_,k,l⟩:=jF.mp (c s (mem_cons_self ..));refine d _ (λx m=>c x (mem_cons_of_mem _ m)) (g.add (by rw[k];exact b) (hok.sub T (mem_of_getElem? j) _ l)) ?_;exact(lH Q s p.1).mpr (.inl b)
   have b:p.1∈ak P:=mem_map_of_mem (mem_of_getElem? e);obtain⟨h1,X,h2⟩:=wo hok f (i+1) _ (key (cM Ts p.1) P (λs h=>h) h b);obtain⟨Y,n⟩:=oE (cM Ts p.1) P;exact⟨h1,Y++X,by rw[h2,n,List.append_assoc]⟩
theorem gQ{Ts:List Tb}{NN:List Str}(hok:cR Ts NN){n:Str}(a:n∈NN):dO (aJ Ts n) NN/\n∈ak (aJ Ts n)/\bP (aJ Ts n) n=[]:=by
 have h0:dO [(n,[])] NN:=⟨by simp[ak],λm b=>by
  have:m=n:=by simpa[ak] using b
  rw[this];exact a,λp c=>by
  have:p=(n,[]):=by simpa using c
  rw[this];simp⟩
 obtain⟨h1,X,h2⟩:=wo hok 14 0 _ h0;have d:n∈ak [(n,([]:List aU))]:=by simp[ak]
 refine⟨h1,?_,?_⟩
 .show n∈ak (cE Ts 14 0 [(n,[])])
  rw[h2];simp[ak]
 .show bP (cE Ts 14 0 [(n,[])]) n=[]
  rw[h2,zy d];simp[bP]
theorem G0{Ts:List Tb}{NN:List Str}(hok:cR Ts NN){Gs:List aH}{n:Str}(a:n∈NN):n∈cS (bX Ts Gs n)/\∀m∈cS Gs,m∈cS (bX Ts Gs n):=by
 unfold bX;split
 .rename_i h
  exact⟨h,λ_ h=>h⟩
 .unfold cS
  rw[flatMap_append];refine⟨mem_append_right _ ?_,λm b=>List.mem_append_left _ b⟩;simp;exact(gQ hok a).2.1
theorem yO{Ts:List Tb}{NN:List Str}(hok:cR Ts NN):∀(ns:List Str) (Gs:List aH),(∀n∈ns,n∈NN)->(∀n∈ns,n∈cS (ns.foldl (bX Ts) Gs))/\∀m∈cS Gs,m∈cS (ns.foldl (bX Ts) Gs)
 |[],Gs,_=>⟨(λ_ h=>by cases h),λ_ h=>h⟩
 |n::ns,Gs,h=>by
  obtain⟨k1,k2⟩:=G0 hok (Gs:=Gs) (h n (mem_cons_self ..));obtain⟨b,a⟩:=yO hok ns (bX Ts Gs n) λm hm=>h m (mem_cons_of_mem _ hm);refine⟨λm hm=>?_,λm hm=>a m (k2 m hm)⟩;rcases mem_cons.mp hm with rfl|hm
  .exact a _ k1
  .exact b m hm
theorem oG{Ts:List Tb}{NN:List Str}(hok:cR Ts NN){T:Tb}(a:T∈Ts){n:Str}(b:n∈aA T):n∈cS (aY Ts):=by
 refine(yO hok (Ts.flatMap aA) [] λm c=>?_).1 n (mem_flatMap.mpr ⟨T,a,b⟩);obtain⟨d,h1,h2⟩:=mem_flatMap.mp c;exact hok.sub d h1 m h2
theorem sS(Ts:List Tb):∀(ns:List Str) (Gs:List aH),(ns.foldl (bX Ts) Gs).length<=Gs.length+ns.length
 |[],Gs=>le_refl _
 |n::ns,Gs=>by
  have h:=sS Ts ns (bX Ts Gs n);have h2:(bX Ts Gs n).length<=Gs.length+1:=by
   unfold bX;split
   .omega
   .simp
  rw[foldl_cons,length_cons];omega
theorem zR:∀(Ts:List Tb),(∀T∈Ts,T.length<=32)->(Ts.flatMap aA).length<=32*Ts.length
 |[],_=>by simp
 |T::Ts,h=>by
  have h1:=zR Ts λq a=>h q (mem_cons_of_mem _ a);have h2:=h T (mem_cons_self ..);have e:(aA T).length=T.length:=by simp[aA]
  rw[flatMap_cons,length_append,length_cons];omega
def rm:Ct:=λds A R _=>∃r Ts NN,ds=[.ref r]/\fE A r Ts/\cR Ts NN/\∀A' q,Gr A A'->Dy A.length A' q (aY Ts)->R (.ref q) A'
theorem TabsAt.fz{A:Ar}{t:Nat}{o:Obj}{T0:Tb}(h0:A[t]?=some (.dct (bz T0))):∀{ts:List Nat} {Ts:List Tb},TabsAt A ts Ts->TabsAt (A.set t (.bf o (bz T0))) ts Ts
 |[],[],_=>trivial
 |q::qs,T::Ts,h=>by
  refine⟨?_,TabsAt.fz h0 h.2⟩;by_cases e:t=q
  .subst e
   rcases h.1 with h'|⟨o',h'⟩
   .rw[h0] at h'
    have a:bz T0=bz T:=by
     have h':=Option.some.inj h';injection h'
    exact .inr ⟨o,by rw[getElem?_set_self (dJ h0),a]⟩
   .rw[h0] at h'
    cases h'
  .rcases h.1 with h'|⟨o',h'⟩
   .exact .inl (dU e h')
   .exact .inr ⟨o',dU e h'⟩
 |[],_::_,h=>h.elim
 |_::_,[],h=>h.elim
end DP
namespace My
open L2 DP MA
theorem Ge(T:TopD K mg "groups" BA mP)(b:av P w K mg base 2 "paths_from" qa (au mg 2 rC)):av P w K mg base 3 "groups" mP (au mg 1 rm):=by
 refine ig T BX rfl (by decide) λN RE f cdv B outer s H E hr hR hx ds A R h hl=>?_;have hu:=hr.units;have nd:=BX.nd;refine⟨_,(ay (dS 1 nd (eE af))
  (ay (dS 2 nd sq)
  (ay (fu d9 rfl (dP (vr 0)) (dG 3 nd) (aB (Fx (fu d9 rfl (oh (vr 3)) (dG 4 nd) (aB (bO (uY hu (vr 4) (vr 2)) (ay (dS 5 nd (dL b hr hx (aa (vr 0) (aa (vr 4) af))))
  (ay (fY (xD PySem.F.plainAttrs_dict slot_dict_update PySem.F.type_dict_update zQ xy (vr 2) (aa (vr 5) af)))
  (aB (fY (jw plainAttrs_list PySem.F.slot_list_append PySem.F.type_list_append mD nX (vr 1) (aa (vr 5) af)))))) bR))))))
  (aB (aP (vr 1)))))),?_⟩
 obtain⟨r,Ts,NN,rfl,hB,hok,q⟩:=h;obtain⟨ts,h1,h2⟩:=id hB;have hz:(1000:Nat)<=sizeLine:=by decide
 have e1:(A++[C.lst []]).length=A.length+1:=by simp
 have g0:Gr A (A++[C.lst []]++[C.dct []]):=Gr.push.trans Gr.push;refine⟨zero_le _,eG (g0.get h1) ?_⟩;rw[e1];have sX:iT A.length NN (A++[C.lst []]++[C.dct []]) []:=⟨[],[],[],getElem?_push aR,trivial,by rw[<-e1];exact aR,rfl,nodup_nil,λn=>by simp[cS],λn h=>by cases h⟩;refine eZ (λrest τ A'=>∃(i:Nat) (x y z:Option D),i<=ts.length/\rest=(ts.map D.ref).drop i/\τ=[some (.ref r),some (.ref A.length),some (.ref (A.length+1)),x,y,z]/\iT A.length NN A' (((Ts.take i).flatMap aA).foldl (bX Ts) [])/\Gr A A') ?_ ?_ ?_ _ _ _ ⟨0,none,none,none,zero_le _,rfl,rfl,sX,g0⟩
 .rintro rest τ A' ⟨i,x,y,z,_,_,_,_,g⟩
  exact g.get h1
 .rintro v rest τ A1 ⟨i,x,y,z,hi,e,rfl,W,g⟩ Nx hN
  by_cases hlt:i<ts.length
  .obtain⟨t,ht⟩:∃t,ts[i]?=some t:=⟨ts[i],getElem?_eq_getElem hlt⟩
   obtain⟨T0,hT,hA⟩:=h2.get ht;have yV:=hA.gr g;have L:i<(ts.map D.ref).length:=by rw[length_map];exact hlt
   have ev:(ts.map D.ref)[i]?=some (.ref t):=by rw[getElem?_map,ht];rfl
   rw[drop_eq_getElem_cons L] at e;rw[getElem?_eq_getElem L] at ev;have ev:=Option.some.inj ev;rw[ev] at e;cases e;have y_:T0∈Ts:=mem_of_getElem? hT;have tl:t<A.length:=by
    rcases hA with h'|⟨_,h'⟩
    .exact dJ h'
    .exact dJ h'
   have sG:(Ts.take (i+1)).flatMap aA=(Ts.take i).flatMap aA++aA T0:=by
    rw[take_succ,hT,flatMap_append];simp
   obtain⟨M,Q⟩:∃G,G=((Ts.take i).flatMap aA).foldl (bX Ts) []:=⟨_,rfl⟩;have O:((Ts.take (i+1)).flatMap aA).foldl (bX Ts) []=(aA T0).foldl (bX Ts) M:=by rw[sG,foldl_append,Q]
   rw[<-Q] at W;have em:((bz T0).map λp=>keyOf p.1)=(aA T0).map D.str:=zm T0;have go:∀(o:Obj) (S B1:Ar) (Dn:jj),S.length=A.length->S[t]?=some (.bf o (bz T0))->fE S r Ts->Gr S B1->iT A.length NN B1 M->(∀(Y:Ar) (y z:Option D),iT A.length NN Y ((aA T0).foldl (bX Ts) M)->Gr S Y->Dn.nx [some (.ref r),some (.ref A.length),some (.ref (A.length+1)),some (.ref t),y,z] Y)->
     A_ (l_ (cT 3)) (gN 4) (Ba (eW (b9 (inD true) (cT 4) (cT 2))) (qt (qu 5 (lO 2 rC RE (dF (cT 0) (dF (cT 4) gI)))) (qt (qq (xm u9 (cT 2) (dF (cT 5) gI))) (qq (sd nR (cT 1) (dF (cT 5) gI))))) Bb) Dn [some (.ref r),some (.ref A.length),some (.ref (A.length+1)),some (.ref t),y,z] B1:=λo S B1 Dn O8 hf G9 g1 Hq fin=>by
    refine tw (g1.get hf) ?_;rw[em];refine eZ (λrest τ Z=>∃(k a:List Str) (y z:Option D),rest=a.map D.str/\k++a=aA T0/\τ=[some (.ref r),some (.ref A.length),some (.ref (A.length+1)),some (.ref t),y,z]/\iT A.length NN Z (k.foldl (bX Ts) M)/\Gr S Z) ?_ ?_ ?_ _ _ _ ⟨[],aA T0,y,z,rfl,rfl,rfl,Hq,g1⟩
    .rintro rest τ Z ⟨_,_,_,_,_,_,_,_,g'⟩
     exact g'.get hf
    .rintro v rest τ Z ⟨k,a,y,z,e,d,rfl,J,g'⟩ OZ yX
     cases a with
     |nil=>cases e
     |cons n a=>
     cases e;have Hx:n∈aA T0:=by rw[<-d];simp
     have y9:n∈NN:=hok.sub T0 y_ n Hx;have l:(k++[n]).foldl (bX Ts) M=bX Ts (k.foldl (bX Ts) M) n:=by rw[foldl_append];rfl
     generalize Hf:k.foldl (bX Ts) M=G3 at*
     obtain⟨gs,kvs,ns,k1,k2,k3,k4,k5,k6,k7⟩:=id J;refine s8 k3 rfl ?_;rw[if_pos rfl,tE k4];refine cN (λc=>?_) (λc=>?_)
     .have U:n∉cS G3:=λz=>c ((k6 n).mpr z)
      obtain⟨qi,_,_⟩:=gQ hok y9;refine⟨rfl,r,n,Ts,NN,rfl,G9.gr g',hok,y9,λY q2 I h2=>?_⟩;obtain⟨lq,u,m1,m2,m3⟩:=id h2;have lB:=dJ k3;have ln:ns.length<=12:=le_trans (jG ns NN k5 k7) hok.nn;have I9:kvs.length=ns.length:=by
       have:=congrArg List.length k4;simpa using this
      have I_:u.length=(aJ Ts n).length:=by
       have:=congrArg List.length m2;simpa[ak] using this
      have lP:=qi.len;have JQ:=hok.nn;refine⟨zc (I.get k3),CU (I.get k3) m1 (by omega) (by omega) ?_⟩;have hb:=dU (i:=A.length+1) (j:=A.length) (c:=C.dct (iA kvs u)) (by omega) (I.get k1);have mw:=k2.len;refine⟨jA hb,nU hb ?_ ?_⟩
      .rw[length_map,mw]
       have l1:=sS Ts k M;have l2:=sS Ts ((Ts.take i).flatMap aA) [];have l3:=zR (Ts.take i) λT' Hr=>(hok.tok T' (mem_of_mem_take Hr)).len;have l4:k.length<=32:=by
        have h1:=congrArg List.length d;have h2:=(hok.tok T0 y_).len;have e:(aA T0).length=T0.length:=by simp[aA]
        rw[length_append] at h1;omega
       rw[length_take] at l3;have h7:=hok.len;rw[Hf] at l1;rw[<-Q] at l2;rw[length_nil,zero_add] at l2;omega
      obtain⟨ns',j1,j2,j3⟩:=zO k4 m2 k5;have eg:bX Ts G3 n=G3++[aJ Ts n]:=by unfold bX;rw[if_neg U]
      refine yX _ _ ⟨k++[n],a,_,_,rfl,by simpa using d,rfl,?_,?_⟩
      .rw[l,eg]
       refine⟨gs++[q2],_,ns',?_,?_,dU (by omega) (m_ (I.get k3)),j1,j2,λm=>?_,λm hm=>?_⟩
       .rw[map_append]
        exact m_ hb
       .refine dc.snoc ?_ (k2.iy λq P z=>((z.gr I).set (by omega)).set (by omega))
        exact((h2.lo (by omega)).set (by omega)).set (by omega)
       .rw[j3,k6]
        simp[cS]
       .rcases (j3 m).mp hm with h'|h'
        .exact k7 m h'
        .exact qi.sub m h'
      .exact(((g'.trans I).set (by omega)).set (by omega))
     .have U:n∈cS G3:=(k6 n).mp c
      have eg:bX Ts G3 n=G3:=by unfold bX;rw[if_pos U]
      refine yX _ _ ⟨k++[n],a,_,_,rfl,by simpa using d,rfl,?_,g'⟩;rw[l,eg];exact J
    .rintro τ Z ⟨k,a,y,z,e,d,rfl,J,g'⟩
     cases a with
     |cons _ _=>cases e
     |nil=>
     have d:k=aA T0:=by simpa using d
     subst d;exact fin Z y z J g'
   rcases hA with hd|⟨o,hd⟩
   .refine .inl ⟨t,bz T0,g.get hd,λo=>?_⟩
    have O4:A1.set t (.bf o (bz T0))=A1.set t (.bf o (bz T0)):=rfl;have G6:Gr (A.set t (.bf o (bz T0))) (A1.set t (.bf o (bz T0))):=by
     obtain⟨X,rfl⟩:=g;exact⟨X,by rw[set_append_left _ _ tl]⟩
    refine go o (A.set t (.bf o (bz T0))) _ _ (by simp) (getElem?_set_self tl) ⟨ts,?_,h2.fz hd⟩ G6 (W.set tl) λY y z V I=>?_
    .have:t≠r:=λz=>by rw[z,h1] at hd;cases hd
     exact dU this h1
    .obtain⟨u1,u2⟩:=GZ hd I
     refine⟨bz T0,u1,hN _ _ ⟨i+1,_,_,_,by omega,rfl,rfl,?_,u2⟩⟩;rw[O];exact V.set tl
   .refine .inr (go o A _ _ rfl hd hB g W λY y z V I=>hN _ _ ⟨i+1,_,_,_,by omega,rfl,rfl,?_,I⟩)
    rw[O];exact V
  .rw[drop_eq_nil_of_le (by rw[length_map];omega)] at e
   cases e
 .rintro τ A1 ⟨i,x,y,z,hi,e,rfl,W,g⟩
  have hi:i=ts.length:=by
   have:=congrArg List.length e;simp at this;omega
  have Jj:=h2.len;rw[hi,Jj,take_length] at W;obtain⟨gs,kvs,ns,k1,k2,_⟩:=W;exact q _ _ g ⟨le_refl _,gs,k1,k2.iy λq P z=>z.lo (by omega)⟩
end My
namespace DP
open L2 MA
def bwd(ss:List aU):List aU:=ss.reverse.map λs=>(s.1,s.2.2,s.2.1)
noncomputable def qw(Ts:List Tb)(i:Nat)(n:Str):Rat:=match Ts[i]? with
 |some T=>bQ T n
 |none=>0
noncomputable def bG(Ts:List Tb)(s:aU):Rat:=qw Ts s.1 s.2.2/qw Ts s.1 s.2.1
noncomputable def ck(Ts:List Tb)(ss:List aU):Rat:=ss.foldl (λx s=>x*bG Ts s) 1
def cJ(Ts:List Tb)(s:aU):Prop:=∃T,Ts[s.1]?=some T/\s.2.1∈aA T/\s.2.2∈aA T
theorem iC{Ts:List Tb}{i:Nat}{T:Tb}(h:Ts[i]?=some T)(n:Str):qw Ts i n=bQ T n:=by
 unfold qw;rw[h]
theorem qk{a b:Int}(ha:0<a)(hb:0<b):(rf ((a:Rat)/(b:Rat))).1<=a/\(rf ((a:Rat)/(b:Rat))).2<=b:=by
 rw[<-ql hb];exact⟨ediv_le_self _ (Int.le_of_lt ha),ediv_le_self _ (Int.le_of_lt hb)⟩
theorem L1{x y:Rat}(a:0<x)(b:0<y):(rf (x*y)).1<=(rf x).1*(rf y).1:=by
 rw[<-AS];exact(qk (mul_pos (dh a) (dh b)) (mul_pos (cK x) (cK y))).1
theorem xS{x y:Rat}(b:0<x)(a:0<y):x/y=(((rf x).1*(rf y).2:Int):Rat)/(((rf x).2*(rf y).1:Int):Rat):=by
 have h1:=dg (Int.ne_of_gt (cK x));have h2:=dg (Int.ne_of_gt (cK y));have c:=dg (Int.ne_of_gt (dh a));conv=>lhs;rw[<-gj x,<-gj y]
 rw[Rat.intCast_mul,Rat.intCast_mul];grind
theorem Ci{Ts:List Tb}{s:aU}(d:∀T∈Ts,gy T)(h:cJ Ts s):0<bG Ts s/\(rf (bG Ts s)).1<=4000000000000/\(rf (bG Ts s)).2<=4000000000000:=by
 obtain⟨T,h1,h2,e⟩:=h;have b:=d T (mem_of_getElem? h1);have f2:=iD b h2;have a:=iD b e;unfold bG;rw[iC h1,iC h1];have p2:=dh f2.pos;have f:=dh a.pos;have c:=cK (bQ T s.2.1);have g:=cK (bQ T s.2.2);have hpos:0<bQ T s.2.2/bQ T s.2.1:=by
  rw[Rat.div_def];exact Rat.mul_pos a.pos (Rat.inv_pos.mpr f2.pos)
 refine⟨hpos,?_⟩;rw[xS a.pos f2.pos];obtain⟨k1,k2⟩:=qk (mul_pos f c) (mul_pos g p2);have i:(rf (bQ T s.2.2)).1*(rf (bQ T s.2.1)).2<=2000000*2000000:=mul_le_mul a.num f2.den (Int.le_of_lt c) (by decide);have j:(rf (bQ T s.2.2)).2*(rf (bQ T s.2.1)).1<=2000000*2000000:=mul_le_mul a.den f2.num (Int.le_of_lt p2) (by decide);exact⟨by omega,by omega⟩
theorem wZ{Ts:List Tb}(b:∀T∈Ts,gy T):∀(a:List aU) (x:Rat) (k:Nat),(∀s∈a,cJ Ts s)->0<x->(rf x).1<=(4000000000000:Int) ^ k->0<a.foldl (λx s=>x*bG Ts s) x/\(rf (a.foldl (λx s=>x*bG Ts s) x)).1<=(4000000000000:Int) ^ (k+a.length)
 |[],x,k,_,h1,h2=>⟨h1,h2⟩
 |s::a,x,k,c,h1,h2=>by
  obtain⟨p,q,_⟩:=Ci b (c s (mem_cons_self ..));have d:(rf (x*bG Ts s)).1<=(4000000000000:Int) ^ (k+1):=by
   refine Int.le_trans (L1 h1 p) ?_;rw[pow_succ];exact mul_le_mul h2 q (Int.le_of_lt (dh p)) (pow_nonneg (by decide))
  have:=wZ b a (x*bG Ts s) (k+1) (λy e=>c y (mem_cons_of_mem _ e)) (Rat.mul_pos h1 p) d;rw[foldl_cons,length_cons,show k+(a.length+1)=k+1+a.length by omega];exact this
theorem wY{Ts:List Tb}(b:∀T∈Ts,gy T){a:List aU}(c:∀s∈a,cJ Ts s):0<ck Ts a/\(rf (ck Ts a)).1<=(4000000000000:Int) ^ a.length:=by
 have:=wZ b a 1 0 c (by decide) (by rw[uG];decide);rw[zero_add] at this;exact this
theorem lN(Ts:List Tb)(a:List aU)(s:aU):ck Ts (a++[s])=ck Ts a*bG Ts s:=by
 unfold ck;rw[foldl_append];rfl
theorem ze{A:Ar}{t:Nat}{T:Tb}{n:Str}{R:DK}(h:TabAt A t T)(a:n∈aA T)(k:R (fq (bQ T n)) A):iO t (.str n) A R:=by
 rcases h with h|⟨o,h⟩
 .exact d8 h rfl (yM a) k
 .exact zf h rfl (yM a) k
def vE:Ct:=λds A R _=>∃q ss,ds=[.ref q]/\A[q]?=some (.lst (ss.map bH))/\ss.length<=100/\∀A' p,Gr A A'->A'[p]?=some (.lst ((bwd ss).map bH))->A.length<=p->R (.ref p) A'
def ri:Ct:=λds A R _=>∃r q Ts ss,ds=[.ref r,.ref q]/\fE A r Ts/\(∀T∈Ts,gy T)/\A[q]?=some (.lst (ss.map bH))/\(∀s∈ss,cJ Ts s)/\ss.length<=40/\∀A',Gr A A'->R (fq (ck Ts ss)) A'
theorem Ln{c k:Nat}(h:c ^ (k+1)<2 ^ 2000):(c:Int) ^ k*(c:Int)<2 ^ 2000:=by
 have e:(c:Int) ^ k*(c:Int)=((c ^ (k+1):Nat):Int):=by rw[natCast_pow,pow_succ]
 rw[e];have h2:((2 ^ 2000:Nat):Int)=(2:Int) ^ 2000:=natCast_pow 2 2000;rw[<-h2];exact Int.ofNat_lt.mpr h
theorem Ak{k:Nat}(h:k<=40):(4000000000000:Int) ^ k*4000000000000<2 ^ 2000:=
 Ln (c:=4000000000000) (Nat.lt_of_le_of_lt (pow_le_pow_right (by decide) (show k+1<=41 by omega)) (by decide+kernel))
noncomputable def gb(T:Tb):Str:=open Classical in if h:∃m,m∈aA T/\∀n∈aA T,¬n.cps.toList<m.cps.toList then Classical.choose h else default
theorem zL{T:Tb}{m:Str}(h1:m∈aA T)(h2:∀n∈aA T,¬n.cps.toList<m.cps.toList):gb T=m:=by
 have h:∃m,m∈aA T/\∀n∈aA T,¬n.cps.toList<m.cps.toList:=⟨m,h1,h2⟩;have e:gb T=Classical.choose h:=by unfold gb;rw[dif_pos h]
 obtain⟨k1,k2⟩:=Classical.choose_spec h;rw[e];generalize Classical.choose h=x at k1 k2;have a:=h2 x k1;have b:=k2 m h1;have c:x.cps.toList=m.cps.toList:=List.le_antisymm (not_lt.mp b) (not_lt.mp a);obtain⟨⟨x⟩⟩:=x;obtain⟨⟨m⟩⟩:=m;simp at c;rw[c]
noncomputable def fW(p:Tb×Nat):List aU:=(aA p.1).map (λo=>(p.2,gb p.1,o))
noncomputable def gG(Ts:List Tb):List aU:=Ts.zipIdx.flatMap fW
def vI:Ct:=λds A R _=>∃r Ts,ds=[.ref r]/\fE A r Ts/\Ts.length<=7/\(∀T∈Ts,gy T)/\∀A' q,Gr A A'->A'[q]?=some (.lst ((gG Ts).map bH))->A.length<=q->R (.ref q) A'
theorem wV:∀(l:List (Tb×Nat)),(∀p∈l,p.1.length<=32)->(l.flatMap fW).length<=32*l.length
 |[],_=>by simp
 |p::l,h=>by
  have h1:=wV l λq a=>h q (mem_cons_of_mem _ a);have h2:(fW p).length<=32:=by
   unfold fW;rw[length_map];have:=h p (mem_cons_self ..);simpa[aA] using this
  rw[flatMap_cons,length_append,length_cons];omega
end DP
namespace My
open L2 DP MA
theorem F6(T:TopD K mg "backward" Bp pW)(g:mg "reversed"=none):av P w K mg base 1 "backward" pW (au mg 1 vE):=by
 refine bV T Mx λl m n o nd=>⟨_,(aB (aP (fK (some 3) (own:=["place","one","other"]) (frees:=[]) (ix:=[]) rfl (Fl g (aa (vr 0) af)) (λc=>(mV rfl (gh (pG 0 (show(["place","one","other"]:List Str).Nodup by decide+kernel)) (gh (pG 1 (show(["place","one","other"]:List Str).Nodup by decide+kernel)) (gh (pG 2 (show(["place","one","other"]:List Str).Nodup by decide+kernel)) mW))))) (λc=>(bg (aa (vr 0) (aa (vr 2) (aa (vr 1) af)))))))),λds A R h p=>?_⟩;obtain⟨r,i,rfl,h1,j,q⟩:=h;have hz:(1000:Nat)<=sizeLine:=by decide
 refine tu h1 ?_;refine gH (f:=λd=>match d with|.tup [a,b,c]=>.tup [a,c,b]|d=>d) h1 _ _ (λd hd=>?_) (by simp;omega) ?_
 .rw[List.mem_reverse] at hd
  obtain⟨st,_,rfl⟩:=mem_map.mp hd;exact⟨[.int ((st.1:Nat):Int),.str st.2.1,.str st.2.2],rfl,λQ k=>⟨show 3<=sizeLine by omega,k⟩⟩
 have e:((i.map bH).reverse.map λd=>match d with|.tup [a,b,c]=>D.tup [a,c,b]|d=>d)=(bwd i).map bH:=by
  unfold bwd;rw[<-List.map_reverse,map_map,map_map];rfl
 rw[nil_append,e];exact q _ _ Gr.push aR (le_refl _)
theorem Ga(T:TopD K mg "comes_to" Bv mK)(k:av P w K mg base 3 "product" mT (au mg 2 lC))(i:av P w K mg base 3 "quotient" qb (au mg 2 (λds A R E=>∃a b c d:Int,ds=[.tup [.int a,.int b],.tup [.int c,.int d]]/\lC [.tup [.int a,.int b],.tup [.int d,.int c]] A R E))):av P w K mg base 4 "comes_to" mK (au mg 2 ri):=by
 refine bV T ME λN hR O H nd=>⟨_,(ay (dS 2 nd (bg (aa ai (aa ai af))))
  (ay (fu d9 rfl (dP (vr 1)) (lU rfl (fX (dG 3 nd) (fX (dG 4 nd) (fX (dG 5 nd) lV)))) (aB (dS 2 nd (dL k N O (aa (vr 2) (aa (dL i N O (aa (dX H (dX H (vr 0) (vr 3)) (vr 5)) (aa (dX H (dX H (vr 0) (vr 3)) (vr 4)) af))) af))))))
  (aB (aP (vr 2))))),λds A R h hl=>?_⟩
 obtain⟨r,Z,Ts,I,rfl,hB,J,h1,Q,S,q⟩:=h;obtain⟨ts,n,o⟩:=hB;have hz:(1000:Nat)<=sizeLine:=by decide
 refine⟨show 2<=sizeLine by omega,eG h1 ?_⟩;refine eZ (λrest τ A'=>∃(l f:List aU) (x y z:Option D),rest=f.map bH/\l++f=I/\τ=[some (.ref r),some (.ref Z),some (fq (ck Ts l)),x,y,z]/\Gr A A') ?_ ?_ ?_ _ _ _ ⟨[],I,none,none,none,rfl,rfl,rfl,Gr.refl⟩
 .rintro rest τ A' ⟨_,_,_,_,_,_,_,_,g⟩
  exact g.get h1
 .rintro v rest τ A1 ⟨l,f,x,y,z,e,j,rfl,g⟩ Nx hN
  cases f with
  |nil=>cases e
  |cons st f=>
  cases e;have p:=Q st (by rw[<-j];simp);have L:∀s∈l,cJ Ts s:=λs h=>Q s (by rw[<-j];simp[h]);obtain⟨c1,c2⟩:=wY J L;obtain⟨U,d2,d3⟩:=Ci J p;have ldn:l.length<=40:=by
   have:=congrArg List.length j;simp at this;omega
  obtain⟨T0,u,V,W⟩:=p;have M:st.1<ts.length:=by rw[o.len];exact(List.getElem?_eq_some_iff.mp u).1
  obtain⟨t,B⟩:∃t,ts[st.1]?=some t:=⟨ts[st.1],getElem?_eq_getElem M⟩;obtain⟨T1,C,hA⟩:=o.get B;rw[u] at C;cases C;have F:=hA.gr g;have G:bJ (ts.map D.ref) ((st.1:Nat):Int)=some (.ref t):=dz (by rw[getElem?_map,B];rfl);have m:=J T0 (mem_of_getElem? u);have f1:=iD m V;have f2:=iD m W;have p1:=dh f1.pos;have p2:=dh f2.pos;have X:=cK (bQ T0 st.2.1);have Y:=cK (bQ T0 st.2.2);have DS:(2000000:Int)<2 ^ 64:=by decide
  have n1:=f1.num;have n2:=f2.num;have k1:=f1.den;have k2:=f2.den;refine⟨rfl,bE (g.get n) G (ze F W (bE (g.get n) G (ze F V ?_)))⟩;refine⟨rfl,_,_,_,_,rfl,_,_,_,_,rfl,p2,Y,X,p1,by omega,by omega,?_,λA2 g2=>?_⟩
  .have:(rf (bQ T0 st.2.2)).1*(rf (bQ T0 st.2.1)).2<=2000000*2000000:=mul_le_mul n2 k1 (Int.le_of_lt X) (by decide)
   exact Int.lt_of_le_of_lt (show _<=(4000000000000:Int) ^ 0*4000000000000 by rw[Int.pow_zero];omega) (Ak (by decide))
  have eq:((rf (bQ T0 st.2.2)).1:Rat)/((rf (bQ T0 st.2.2)).2:Rat)*(((rf (bQ T0 st.2.1)).2:Rat)/((rf (bQ T0 st.2.1)).1:Rat))=bG Ts st:=by
   unfold bG;rw[iC u,iC u,<-mul_div Y p1,<-xS f2.pos f1.pos]
  rw[eq];refine⟨rfl,_,_,_,_,rfl,dh c1,cK _,dh U,cK _,by omega,by omega,?_,λA3 g3=>?_⟩
  .refine Int.lt_of_le_of_lt ?_ (Ak ldn)
   exact mul_le_mul c2 d2 (Int.le_of_lt (dh U)) (pow_nonneg (by decide))
  rw[gj,gj];exact hN _ _ ⟨l++[st],f,_,_,_,rfl,by simpa using j,by rw[lN];rfl,(g.trans g2).trans g3⟩
 .rintro τ A1 ⟨l,f,x,y,z,e,j,rfl,g⟩
  cases f with
  |cons _ _=>cases e
  |nil=>
  have j:l=I:=by simpa using j
  subst j;exact q _ g
theorem F_(T:TopD K mg "closing_steps" Bu pZ)(a:mg "enumerate"=none)(j:mg "min"=none):av P w K mg base 1 "closing_steps" pZ (au mg 1 vI):=by
 refine bV T MD λV W X Y nd=>⟨_,(ay (dS 1 nd (eE af))
  (ay (fu d9 rfl (xQ a (aa (vr 0) af)) (lU rfl (fX (dG 2 nd) (fX (dG 3 nd) lV))) (ay (dS 4 nd (cZ (D_ rfl) EY j boot_min (aa (vr 3) af)))
  (aB (fY (jw plainAttrs_list slot_list_extend type_list_extend zP xu (vr 1) (aa (sr (fK none (own:=["other"]) (frees:=["place","first"]) (ix:=[2,4]) rfl (oh (vr 3)) (λc=>(pG 0 (show(["other","place","first"]:List Str).Nodup by decide+kernel))) (λc=>(bg (aa (vr 1) (aa (vr 2) (aa (vr 0) af))))))) af))))))
  (aB (aP (vr 1))))),λds A R h Z=>?_⟩
 obtain⟨r,Ts,rfl,I,h7,b,q⟩:=h;obtain⟨ts,h1,h2⟩:=I;have hz:(1000:Nat)<=sizeLine:=by decide
 have u:=h2.len;have B:∀T∈Ts,T.length<=32:=λT s=>(b T s).len;have len:∀i,((Ts.zipIdx.take i).flatMap fW).length<=224:=λi=>by
  have:=wV (Ts.zipIdx.take i) λp J=>by
   have:=mem_zipIdx_iff_getElem?.mp (mem_of_mem_take J);exact B _ (mem_of_getElem? this)
  rw[length_take,length_zipIdx] at this;omega
 refine⟨zero_le _,tu (getElem?_push h1) ?_⟩;refine eZ (λrest τ A'=>∃(i:Nat) (x y z:Option D),i<=ts.length/\rest=(fy (ts.map D.ref)).drop i/\τ=[some (.ref r),some (.ref A.length),x,y,z]/\A'[A.length]?=some (.lst (((Ts.zipIdx.take i).flatMap fW).map bH))/\Gr A A') ?_ ?_ ?_ _ _ _ ⟨0,none,none,none,zero_le _,rfl,rfl,aR,Gr.push⟩
 .rintro rest τ A' ⟨i,x,y,z,_,_,_,_,g⟩
  exact g.get h1
 .rintro v rest τ L ⟨i,x,y,z,hi,e,rfl,hc,g⟩ Nx M
  by_cases k:i<ts.length
  .obtain⟨t,H⟩:∃t,ts[i]?=some t:=⟨ts[i],getElem?_eq_getElem k⟩
   obtain⟨T0,s,N⟩:=h2.get H;have l:=N.gr g;have d:i<(fy (ts.map D.ref)).length:=by rw[j_,length_map];exact k
   have ev:=yc (ds:=ts.map D.ref) (i:=i) (x:=.ref t) (by rw[getElem?_map,H];rfl);rw[drop_eq_getElem_cons d] at e;rw[getElem?_eq_getElem d] at ev;have ev:=Option.some.inj ev;rw[ev] at e;cases e;have f:=b T0 (mem_of_getElem? s);have C:((Ts.zipIdx.take (i+1)).flatMap fW)=((Ts.zipIdx.take i).flatMap fW)++fW (T0,i):=by
    rw[CY s,flatMap_append];simp
   have ln:=len i;have E:aA T0≠[]:=λz=>f.ne (by simpa[aA] using z);have O:=f.len;have F:(aA T0).length=T0.length:=by simp[aA]
   refine⟨rfl,Js l (IQ T0) E λm S n=>?_⟩;have G:=zL S n;refine⟨jA hc,yy (λo=>.tup [.int ((i:Nat):Int),.str m,o]) rfl l (by omega) (λA' o ho Q U=>⟨show 3<=sizeLine by omega,U⟩) ?_⟩;refine ym (getElem?_push hc) aR (by rw[length_map,length_map,F];omega) ?_;have em:((aA T0).map λo=>D.tup [.int ((i:Nat):Int),.str m,.str o])=(fW (T0,i)).map bH:=by
    unfold fW;rw[map_map,G];rfl
   refine M _ _ ⟨i+1,_,_,_,by omega,rfl,rfl,?_,(g.trans Gr.push).set (le_refl _)⟩;rw[C,map_append,em];exact get_set (getElem?_push hc)
  .rw[drop_eq_nil_of_le (by rw[j_,length_map];omega)] at e
   cases e
 .rintro τ L ⟨i,x,y,z,hi,e,rfl,hc,g⟩
  have hi:i=ts.length:=by
   have:=congrArg List.length e;simp[j_] at this;omega
  rw[hi,u,List.take_of_length_le (by rw[length_zipIdx];exact le_refl _)] at hc;exact q _ _ g hc (le_refl _)
end My
namespace DP
open L2 MA
def dI(Gs:List aH)(n:Str):List aU:=Gs.foldl (λacc P=>if n∈ak P then bP P n else acc) []
theorem Ja(Gs:List aH)(P:aH)(n:Str):dI (Gs++[P]) n=if n∈ak P then bP P n else dI Gs n:=by
 unfold dI;rw[foldl_append];rfl
noncomputable def fC(Ts:List Tb)(s:aU):List aU:=dI (aY Ts) s.2.1++[s]++bwd (dI (aY Ts) s.2.2)
noncomputable def eK(Ts:List Tb):Option (List aU):=((gG Ts).map (fC Ts)).find? (λss=> !decide (ck Ts ss=1))
theorem dc.get{lo:Nat}{A:Ar}:∀{qs:List Nat} {Ps:List aH} {i q:Nat},dc lo A qs Ps->qs[i]?=some q->∃P,Ps[i]?=some P/\eo lo A q P
 |[],[],i,t,_,e=>by simp at e
 |t::ts,T::Ts,0,_,h,e=>by
  simp at e;subst e;exact⟨T,rfl,h.1⟩
 |t::ts,T::Ts,i+1,_,h,e=>by
  obtain⟨a,h1,h2⟩:=dc.get (i:=i) h.2 (by simpa using e);exact⟨a,by simpa using h1,h2⟩
 |[],_::_,_,_,h,_=>h.elim
 |_::_,[],_,_,h,_=>h.elim
theorem yP{Ts:List Tb}:∀(ns:List Str) (Gs:List aH) (P:aH),P∈ns.foldl (bX Ts) Gs->P∈Gs\/∃n∈ns,P=aJ Ts n
 |[],Gs,P,h=>.inl h
 |n::ns,Gs,P,h=>by
  rcases yP ns (bX Ts Gs n) P h with h|⟨m,h1,h2⟩
  .unfold bX at h
   split at h
   .exact .inl h
   .rcases mem_append.mp h with h|h
    .exact .inl h
    .exact .inr ⟨n,mem_cons_self ..,mem_singleton.mp h⟩
  .exact .inr ⟨m,mem_cons_of_mem _ h1,h2⟩
theorem iw{Ts:List Tb}{NN:List Str}(hok:cR Ts NN){P:aH}(h:P∈aY Ts):∃n∈NN,(∃T∈Ts,n∈aA T)/\P=aJ Ts n:=by
 rcases yP _ _ P h with h|⟨n,h1,h2⟩
 .cases h
 .obtain⟨T,a,b⟩:=mem_flatMap.mp h1
  exact⟨n,hok.sub T a n b,⟨T,a,b⟩,h2⟩
theorem wu{Ts:List Tb}:∀(f i:Nat) (P:aH),(∀p∈P,∀s∈p.2,cJ Ts s)->∀p∈cE Ts f i P,∀s∈p.2,cJ Ts s
 |0,i,P,h=>h
 |f+1,i,P,h=>by
  cases e:P[i]? with
  |none=>
   have:cE Ts (f+1) i P=P:=by
    show(match P[i]? with|some p=>cE Ts f (i+1) ((cM Ts p.1).foldl bI P)|none=>P)=_;rw[e]
   rw[this];exact h
  |some g=>
   rw[lK e];refine wu f (i+1) _ ?_;have key:∀(a:List aU) (Q:aH),(∀s∈a,s∈cM Ts g.1)->(∀p∈Q,∀s∈p.2,cJ Ts s)->∀p∈a.foldl bI Q,∀s∈p.2,cJ Ts s:=by
    intro a;induction a with
    |nil=>intro Q _ h;exact h
    |cons s a j=>
     intro Q c b;refine j _ (λx k=>c x (mem_cons_of_mem _ k)) λp hp s' hs'=>?_;unfold bI at hp;split at hp
     .exact b p hp s' hs'
     .rcases mem_append.mp hp with hp|hp
      .exact b p hp s' hs'
      .rw[mem_singleton.mp hp] at hs'
       rcases mem_append.mp hs' with hs'|hs'
       .by_cases d:s.2.1∈ak Q
        .exact b _ (gO d) s' hs'
        .have l:bP Q s.2.1=[]:=by
          have:=find_some (T:=Q) (n:=s.2.1);rw[decide_eq_false (show ¬s.2.1∈Q.map (·.1) from d)] at this;unfold bP;cases e:Q.find? (λp=>decide (p.1=s.2.1)) with
          |none=>rfl
          |some p=>rw[e] at this;cases this
         rw[l] at hs';cases hs'
       .rw[mem_singleton.mp hs']
        obtain⟨T,h1,h2,m,o⟩:=jF.mp (c s (mem_cons_self ..));exact⟨T,h1,by rw[m];exact h2,o⟩
   exact key _ _ (λs h=>h) h
theorem qg{Ts:List Tb}{n:Str}:∀p∈aJ Ts n,∀s∈p.2,cJ Ts s:=
 wu 14 0 _ λp b s a=>by
  have:p=(n,[]):=by simpa using b
  rw[this] at a;cases a
theorem zx{Ts:List Tb}{NN:List Str}(hok:cR Ts NN)(n:Str):∀(Gs:List aH) (acc:List aU),(∀P∈Gs,P∈aY Ts)->((∀s∈acc,cJ Ts s)/\acc.length<=11)->(∀s∈Gs.foldl (λacc P=>if n∈ak P then bP P n else acc) acc,cJ Ts s)/\(Gs.foldl (λacc P=>if n∈ak P then bP P n else acc) acc).length<=11
 |[],acc,_,h=>h
 |P::Gs,acc,h,ha=>by
  rw[foldl_cons];refine zx hok n Gs _ (λQ c=>h Q (mem_cons_of_mem _ c)) ?_;split
  .rename_i d
   obtain⟨m,e,_,rfl⟩:=iw hok (h P (mem_cons_self ..));obtain⟨b,_,_⟩:=gQ hok e;have a:=gO d;refine⟨qg _ a,?_⟩;have h1:=b.pl _ a;have h2:=b.len;have f:=hok.nn;simp at h1;omega
  .exact ha
theorem kF{Ts:List Tb}{NN:List Str}(hok:cR Ts NN)(Gs:List aH)(n:Str)(h:∀P∈Gs,P∈aY Ts):(∀s∈dI Gs n,cJ Ts s)/\(dI Gs n).length<=11:=
 zx hok n Gs [] h ⟨(λs h=>by cases h),zero_le _⟩
theorem D3{Ts:List Tb}{d:List aU}(h:∀s∈d,cJ Ts s):∀s∈bwd d,cJ Ts s:=λs e=>by
 unfold bwd at e;obtain⟨s',h1,rfl⟩:=mem_map.mp e;obtain⟨T,a,b,c⟩:=h s' (List.mem_reverse.mp h1);exact⟨T,a,c,b⟩
theorem rX{Ts:List Tb}{s:aU}(h:s∈gG Ts):∃T,Ts[s.1]?=some T/\s.2.1=gb T/\s.2.2∈aA T:=by
 unfold gG at h;obtain⟨⟨T,i⟩,a,b⟩:=mem_flatMap.mp h;have a:=mem_zipIdx_iff_getElem?.mp a;unfold fW at b;obtain⟨o,c,rfl⟩:=mem_map.mp b;exact⟨T,a,rfl,c⟩
theorem o_{T:Tb}(h:T≠[]):gb T∈aA T/\∀n∈aA T,¬n.cps.toList<(gb T).cps.toList:=by
 have key:∀ns:List Str,ns≠[]->∃m,m∈ns/\∀n∈ns,¬n.cps.toList<m.cps.toList:=by
  intro ns;induction ns with
  |nil=>intro h;exact absurd rfl h
  |cons a ns c=>
   intro _;by_cases hn:ns=[]
   .subst hn
    exact⟨a,by simp,λn hn=>by
     have:n=a:=by simpa using hn
     rw[this];exact List.lt_irrefl _⟩
   .obtain⟨m,h1,h2⟩:=c hn
    by_cases b:a.cps.toList<m.cps.toList
    .refine⟨a,by simp,λn hn=>?_⟩
     rcases mem_cons.mp hn with rfl|hn
     .exact List.lt_irrefl _
     .exact λz=>h2 n hn (List.lt_trans z b)
    .refine⟨m,by simp[h1],λn hn=>?_⟩
     rcases mem_cons.mp hn with rfl|hn
     .exact b
     .exact h2 n hn
 obtain⟨m,h1,h2⟩:=key (aA T) (λz=>h (by simpa[aA] using z));rw[zL h1 h2];exact⟨h1,h2⟩
theorem L3{Ts:List Tb}{NN:List Str}(hok:cR Ts NN){s:aU}(h:s∈gG Ts):(∀x∈fC Ts s,cJ Ts x)/\(fC Ts s).length<=40:=by
 obtain⟨T,h1,h2,a⟩:=rX h;have b:=mem_of_getElem? h1;obtain⟨a1,a2⟩:=kF hok (aY Ts) s.2.1 λP h=>h;obtain⟨c,e⟩:=kF hok (aY Ts) s.2.2 λP h=>h;have d:cJ Ts s:=⟨T,h1,by rw[h2];exact(o_ (hok.tok T b).ne).1,a⟩;unfold fC;constructor
 .intro x hx
  rcases mem_append.mp hx with hx|hx
  .rcases mem_append.mp hx with hx|hx
   .exact a1 x hx
   .rw[mem_singleton.mp hx]
    exact d
  .exact D3 c x hx
 .simp[bwd]
  omega
def rE:Ct:=λds A R _=>∃r Ts NN,ds=[.ref r]/\fE A r Ts/\cR Ts NN/\(eK Ts=none->∀A',Gr A A'->R .ao A')/\∀ss,eK Ts=some ss->∀A' q,Gr A A'->A'[q]?=some (.lst (ss.map bH))->A.length<=q->R (.ref q) A'
def vU:Ct:=λds A R E=>∃r Ts NN,ds=[.ref r]/\fE A r Ts/\cR Ts NN/\(eK Ts=none->∀A',Gr A A'->R .ao A')/\(eK Ts≠none->∀A',Gr A A'->E "Never" A')
theorem ua:∀(a kvs:List (Key×D)) (k:Key),(a.map (·.1)).Nodup->aN (iA kvs a) k=match aN a k with|some v=>some v|none=>aN kvs k
 |[],kvs,k,_=>rfl
 |p::a,kvs,k,c=>by
  have b:=nodup_cons.mp (show(p.1::a.map (·.1)).Nodup from c);show aN (iA (bL kvs p.1 p.2) a) k=_;rw[ua a _ k b.2,ko];show _=match (if p.1=k then some p.2 else aN a k) with|some v=>some v|none=>aN kvs k
  by_cases e:p.1=k
  .rw[if_pos e,if_pos e]
   have:aN a k=none:=by
    cases h:aN a k with
    |none=>rfl
    |some v=>
     exfalso;refine b.1 ?_;rw[e];clear ua c b;induction a with
     |nil=>cases h
     |cons q a f=>
      have h:(if q.1=k then some q.2 else aN a k)=some v:=h;by_cases d:q.1=k
      .simp[d]
      .rw[if_neg d] at h
       simp[f h]
   rw[this]
  .rw[if_neg e,if_neg e]
def lg(b:Nat)(NN:List Str)(A:Ar)(Gs:List aH):Prop:=∃(kvs:List (Key×D)) (ns:List Str),A[b]?=some (.dct kvs)/\kvs.map (·.1)=ns.map Sum.inr/\ns.Nodup/\(∀n,n∈ns↔n∈cS Gs)/\(∀n∈ns,n∈NN)/\∀n∈ns,∃a,b<a/\aN kvs (Sum.inr n)=some (.ref a)/\A[a]?=some (.lst ((dI Gs n).map bH))
theorem lg.gr{b:Nat}{NN:List Str}{A B:Ar}{Gs:List aH}(h:lg b NN A Gs)(g:Gr A B):lg b NN B Gs:=by
 obtain⟨kvs,ns,h1,h2,c,d,e,f⟩:=h;exact⟨kvs,ns,g.get h1,h2,c,d,e,λn i=>by obtain⟨a,x,y,z⟩:=f n i;exact⟨a,x,y,g.get z⟩⟩
theorem zS{ns:List Str}(h:ns.Nodup):(ns.map (Sum.inr:Str->Key)).Nodup:=by
 exact Pairwise.map _ (λa b c e=>c (Sum.inr.inj e)) h
end DP
namespace My
open L2 DP MA
theorem GF(T:TopD K mg "find_ring" Bw mL)(l:av P w K mg base 3 "groups" mP (au mg 1 rm))(d:av P w K mg base 1 "closing_steps" pZ (au mg 1 vI))(f:av P w K mg base 1 "backward" pW (au mg 1 vE))(j:av P w K mg base 4 "comes_to" mK (au mg 2 ri)):av P w K mg base 5 "find_ring" mL (au mg 1 rE):=by
 refine bV T MF λX hR Y L nd=>⟨_,(ay (dS 1 nd sq)
  (ay (fu d9 rfl (dP (dL l X Y (aa (vr 0) af))) (dG 2 nd) (aB (fY (xD PySem.F.plainAttrs_dict slot_dict_update PySem.F.type_dict_update zQ xy (vr 1) (aa (vr 2) af)))))
  (ay (fu d9 rfl (dP (dL d X Y (aa (vr 0) af))) (dG 3 nd) (ay (dS 4 nd (cU (cU (dX L (vr 1) (dX L (vr 3) ai)) (eE (aa (vr 3) af))) (dL f X Y (aa (dX L (vr 1) (dX L (vr 3) ai)) af))))
  (aB (bO (iE L (dL j X Y (aa (vr 0) (aa (vr 4) af))) (bg (aa ai (aa ai af)))) (aB (aP (vr 4))) bR))))
  (aB (aP ic))))),λds A R h hl=>?_⟩
 obtain⟨r,Ts,NN,rfl,hB,hok,q1,q2⟩:=h;have hz:(1000:Nat)<=sizeLine:=by decide
 have e1:(A++[C.dct []]).length=A.length+1:=by simp
 refine⟨rfl,r,Ts,NN,rfl,hB.gr Gr.push,hok,λA1 q0 g1 hG=>?_⟩;obtain⟨lq,gs,M,B⟩:=hG;rw[e1] at lq B;have mw:=B.len;have Hg:lg A.length NN A1 []:=⟨[],[],g1.get aR,rfl,nodup_nil,λn=>by simp[cS],(λn h=>by cases h),(λn h=>by cases h)⟩;have GQ:Gr A A1:=Gr.push.trans g1;refine eG M ?_;refine eZ (λrest τ A'=>∃(i:Nat) (x:Option D),i<=gs.length/\rest=(gs.map D.ref).drop i/\τ=[some (.ref r),some (.ref A.length),x,none,none]/\lg A.length NN A' ((aY Ts).take i)/\A'[q0]?=some (.lst (gs.map D.ref))/\dc (A.length+1) A' gs (aY Ts)/\Gr A A') ?_ ?_ ?_ _ _ _ ⟨0,none,zero_le _,rfl,rfl,Hg,M,B,GQ⟩
 .rintro rest τ A' ⟨_,_,_,_,_,_,h,_,_⟩
  exact h
 .rintro v rest τ A2 ⟨i,x,hi,e,rfl,Z,hq,hP,E⟩ Nx hN
  by_cases N:i<gs.length
  .obtain⟨t,ht⟩:∃t,gs[i]?=some t:=⟨gs[i],getElem?_eq_getElem N⟩
   obtain⟨P0,O,Hi⟩:=hP.get ht;have u:i<(gs.map D.ref).length:=by rw[length_map];exact N
   have ev:(gs.map D.ref)[i]?=some (.ref t):=by rw[getElem?_map,ht];rfl
   rw[drop_eq_getElem_cons u] at e;rw[getElem?_eq_getElem u] at ev;have ev:=Option.some.inj ev;rw[ev] at e;cases e;obtain⟨m,hm,_,eP⟩:=iw hok (mem_of_getElem? O);obtain⟨p,_,_⟩:=gQ hok hm;rw[<-eP] at p;obtain⟨Je,b,m1,m2,m3⟩:=id Hi;obtain⟨kvs,ns,k1,k2,k3,k4,k5,k6⟩:=Z;have sG:(aY Ts).take (i+1)=(aY Ts).take i++[P0]:=by rw[take_succ,O];rfl
   have ln:ns.length<=12:=le_trans (jG ns NN k3 k5) hok.nn;have I9:kvs.length=ns.length:=by
    have:=congrArg List.length k2;simpa using this
   have I_:b.length=P0.length:=by
    have:=congrArg List.length m2;simpa[ak] using this
   have lP:=p.len;have JQ:=hok.nn;obtain⟨ns',j1,j2,j3⟩:=zO k2 m2 k3;have Jx:(b.map (·.1)).Nodup:=by rw[m2];exact zS p.nd
   refine⟨zc k1,CU k1 m1 (by omega) (by omega) ?_⟩;refine hN _ _ ⟨i+1,_,by omega,rfl,rfl,?_,dU (by omega) hq,hP.iy λq P z=>z.set (by omega),E.set (le_refl _)⟩;rw[sG];refine⟨_,ns',m_ k1,j1,j2,λn=>?_,λn hn=>?_,λn hn=>?_⟩
   .rw[j3,k4]
    simp[cS]
   .rcases (j3 n).mp hn with h'|h'
    .exact k5 n h'
    .exact p.sub n h'
   .rw[ua _ _ _ Jx,Ja]
    by_cases o:n∈ak P0
    .obtain⟨a,z,ga,ha⟩:=m3 n o
     rw[ga,if_pos o];exact⟨a,by omega,rfl,dU (by omega) ha⟩
    .have hn1:n∈ns:=by
      rcases (j3 n).mp hn with h'|h'
      .exact h'
      .exact absurd h' o
     have e0:aN b (Sum.inr n)=none:=by
      have:=tE (n:=n) m2;rw[decide_eq_false o] at this;cases e:aN b (Sum.inr n) with
      |none=>rfl
      |some v=>rw[e] at this;cases this
     obtain⟨a,z,ga,ha⟩:=k6 n hn1;rw[e0,if_neg o];exact⟨a,z,ga,dU (by omega) ha⟩
  .rw[drop_eq_nil_of_le (by rw[length_map];omega)] at e
   cases e
 rintro τ A2 ⟨i,x,hi,e,rfl,Z,hq,hP,E⟩;have hi:i=gs.length:=by
  have:=congrArg List.length e;simp at this;omega
 rw[hi,mw,take_length] at Z;refine⟨rfl,r,Ts,rfl,hB.gr E,hok.len,hok.tok,λA3 q3 g3 h3 l3=>?_⟩;refine eG h3 ?_;refine eZ (λrest τ A'=>∃(G b:List aU) (y z:Option D),rest=b.map bH/\G++b=gG Ts/\(∀s∈G,ck Ts (fC Ts s)=1)/\τ=[some (.ref r),some (.ref A.length),x,y,z]/\Gr A3 A') ?_ ?_ ?_ _ _ _ ⟨[],gG Ts,none,none,rfl,rfl,(λ_ h=>by cases h),rfl,Gr.refl⟩
 .rintro rest τ A' ⟨_,_,_,_,_,_,_,_,g⟩
  exact g.get h3
 .rintro v rest τ A4 ⟨G,b,y,z,e,k,h1,rfl,J⟩ Nx hN
  cases b with
  |nil=>cases e
  |cons st b=>
  cases e;have Q:st∈gG Ts:=by rw[<-k];simp
  obtain⟨T0,hT,c1,c2⟩:=rX Q;have H:=mem_of_getElem? hT;have n1:st.2.1∈cS (aY Ts):=oG hok H (by rw[c1];exact(o_ (hok.tok T0 H).ne).1);have n2:st.2.2∈cS (aY Ts):=oG hok H c2;obtain⟨kvs,ns,k1,k2,k3,k4,k5,k6⟩:=Z.gr (g3.trans J);obtain⟨a1,_,GS,ha1⟩:=k6 _ ((k4 _).mpr n1);obtain⟨a2,_,GU,ha2⟩:=k6 _ ((k4 _).mpr n2);obtain⟨_,b1⟩:=kF hok (aY Ts) st.2.1 λP h=>h;obtain⟨_,b2⟩:=kF hok (aY Ts) st.2.2 λP h=>h;obtain⟨r1,r2⟩:=L3 hok Q;refine d8 k1 rfl GS ⟨show 1<=sizeLine by omega,j0 (getElem?_push ha1) aR (by simp;omega) ?_⟩;refine d8 (getElem?_push (getElem?_push k1)) rfl GU ?_;refine⟨rfl,a2,_,rfl,getElem?_push (getElem?_push ha2),by omega,λA5 q5 g5 h5 l5=>?_⟩;have S:A5[(A4++[C.lst [bH st]]).length]?=some (.lst ((dI (aY Ts) st.2.1).map bH++[bH st])):=g5.get aR;have Pb:(bwd (dI (aY Ts) st.2.2)).length<=11:=by simp[bwd];exact b2
  refine j0 S h5 (by simp;omega) ?_;have em:(dI (aY Ts) st.2.1).map bH++[bH st]++(bwd (dI (aY Ts) st.2.2)).map bH=(fC Ts st).map bH:=by
   unfold fC;simp
  rw[em];have U:Gr A4 (A5++[C.lst ((fC Ts st).map bH)]):=((Gr.push.trans Gr.push).trans g5).trans Gr.push;have V:=(g3.trans J).trans U;refine⟨rfl,r,A5.length,Ts,fC Ts st,rfl,hB.gr (E.trans V),hok.tok,aR,r1,r2,λA6 g6=>⟨show 2<=sizeLine by omega,zT (y:=1) ?_⟩⟩;refine cN (λc=>?_) (λc=>?_)
  .have er:eK Ts=some (fC Ts st):=by
    unfold eK;rw[<-k,map_append,find?_append,map_cons];have e0:(G.map (fC Ts)).find? (λss=> !decide (ck Ts ss=1))=none:=by
     rw[find?_eq_none];intro ss I;obtain⟨s,W,rfl⟩:=mem_map.mp I;simp[h1 s W]
    rw[e0,List.find?_cons_of_pos (by simpa using c)];rfl
   have ll:=(E.trans (g3.trans J)).len;have IX:=g5.len;simp at IX;exact q2 _ er A6 _ ((E.trans V).trans g6) (g6.get aR) (by omega)
  .refine hN _ _ ⟨G++[st],b,_,_,rfl,by simpa using k,λs W=>?_,rfl,(J.trans U).trans g6⟩
   rcases mem_append.mp W with h'|h'
   .exact h1 s h'
   .rw[mem_singleton.mp h']
    exact c
 .rintro τ A4 ⟨G,b,y,z,e,k,h1,rfl,J⟩
  cases b with
  |cons _ _=>cases e
  |nil=>
  have k:G=gG Ts:=by simpa using k
  subst k;refine q1 ?_ _ ((E.trans g3).trans J);unfold eK;rw[find?_eq_none];intro ss I;obtain⟨s,W,rfl⟩:=mem_map.mp I;simp[h1 s W]
theorem Gv(T:TopD K mg "check_no_ring" Bt pY){b:Addr}(c:mg "Never"=some (.ref b))(d:excIn K b k9 "ValueError.__new__"=true)(a:av P w K mg base 5 "find_ring" mL (au mg 1 rE)):av P w K mg base 6 "check_no_ring" pY (au mg 1 vU):=by
 refine bV T MC λi j k o nd=>⟨_,(aB (bO (uX (dL a i k (aa (vr 0) af)) ic) (aB (lX j rfl c d (aa aV af))) bR)),λds A R h p=>?_⟩;obtain⟨r,Ts,NN,rfl,l,hok,m,n⟩:=h;exact⟨rfl,r,Ts,NN,rfl,l,hok,λe f g=>m e f g,λq e f s g h1 l1=>⟨show 1<=sizeLine by decide,n (by rw[e];simp) f g⟩⟩
end My
namespace DP
open L2 MA
mutual
def bK(A:Ar):D->Bool
 |.tup xs=>gf A xs
 |.exc _=>false
 |.str z=>decide (z.length<=sizeLine)
 |.ref r=>match A[r]? with
  |some (.lst _)=>true
  |some (.dct _)=>true
  |_=>false
 |_=>true
def gf(A:Ar):List D->Bool
 |[]=>true
 |x::xs=>bK A x&&gf A xs
end
def e_(x:D)(a b:Int):Bool:=match x with
 |.int i=>decide (a<=i)&&decide (i<=b)
 |_=>false
def jZ:D->Bool
 |.str z=> !decide (z.cps.toList<("a":Str).cps.toList)&& !decide (("z":Str).cps.toList<z.cps.toList)
 |_=>false
def gK:D->Bool
 |.str n=>decide ((1:Int)<=(n.length:Nat))&&decide (((n.length:Nat):Int)<=3)&&(gm n).all jZ
 |_=>false
def cy:Nat->D->Bool
 |_,.tup [.str k,n]=>decide (k="weight")&&gK n
 |d+1,.tup [.str k,l,r,a,b]=>decide (k="rod")&&e_ l 1 9&&e_ r 1 9&&cy d a&&cy d b
 |_,_=>false
def vX:Ct:=λds A R _=>∃x a b,ds=[x,.int a,.int b]/\bK A x=true/\∀A',Gr A A'->R (.bl (e_ x a b)) A'
def vS:Ct:=λds A R _=>∃x,ds=[x]/\bK A x=true/\∀A',Gr A A'->R (.bl (gK x)) A'
def vK(d:Nat):Ct:=λds A R _=>∃x,ds=[x,.int ((d:Int) - 1)]/\0<d/\bK A x=true/\∀A',Gr A A'->R (.bl (cy (d - 1) x)) A'
def rA:Ct:=λds A R _=>∃x,ds=[x]/\bK A x=true/\∀A',Gr A A'->R (.bl (cy 5 x)) A'
def q_:Ct:=λds A R E=>∃x,ds=[x]/\bK A x=true/\∀A',Gr A A'->if cy 5 x=true then R .ao A' else E "NoMobile" A'
mutual
theorem mG{A A':Ar}(g:Gr A A'):∀x,bK A x=true->bK A' x=true
 |.tup xs,h=>by
  have h:gf A xs=true:=h;exact z6 g xs h
 |.ao,h=>rfl
 |.bl _,h=>rfl
 |.int _,h=>rfl
 |.str _,h=>h
 |.fl _,h=>rfl
 |.exc _,h=>by cases h
 |.ref r,h=>by
  unfold bK at h ⊢;cases e:A[r]? with
  |none=>rw[e] at h;cases h
  |some c=>rw[e] at h;rw[g.get e];exact h
theorem z6{A A':Ar}(g:Gr A A'):∀xs,gf A xs=true->gf A' xs=true
 |[],h=>rfl
 |x::xs,h=>by
  have h:(bK A x&&gf A xs)=true:=h;rw[and_eq_true] at h;show(bK A' x&&gf A' xs)=true;rw[and_eq_true];exact⟨mG g x h.1,z6 g xs h.2⟩
end
theorem rN{α:Type}(y:α)(ys:List α):bJ (y::ys) 0=some y:=dz (j:=0) rfl
theorem s9{d:Nat}{k:Str}{ys:List D}(h1:∀n,ys=[n]->¬k="weight")(h2:∀l r a b,ys=[l,r,a,b]->¬k="rod"):cy d (.tup (.str k::ys))=false:=by
 match ys with
 |[]=>cases d<;>rfl
 |[n]=>
  have e:cy d (.tup [.str k,n])=(decide (k="weight")&&gK n):=by cases d<;>rfl
  rw[e,decide_eq_false (h1 n rfl)];rfl
 |[_,_]=>cases d<;>rfl
 |[_,_,_]=>cases d<;>rfl
 |[l,r,a,b]=>
  cases d with
  |zero=>rfl
  |succ d=>
   show(decide (k="rod")&&e_ l 1 9&&e_ r 1 9&&cy d a&&cy d b)=false;rw[decide_eq_false (h2 l r a b rfl)];rfl
 |_::_::_::_::_::_=>cases d<;>rfl
theorem H8{d:Nat}{k:Str}{ys:List D}(h1:¬k="weight")(h2:¬k="rod"):cy d (.tup (.str k::ys))=false:=s9 (λ_ _=>h1) λ_ _ _ _ _=>h2
theorem mH{A:Ar}{r:Nat}(h:bK A (.ref r)=true):iG A (.ref r)=some "list"\/iG A (.ref r)=some "dict":=by
 unfold bK at h;cases e:A[r]? with
 |none=>rw[e] at h;cases h
 |some c=>
  rw[e] at h;cases c with
  |lst xs=>exact .inl (by unfold iG;simp only[e])
  |dct kvs=>exact .inr (by unfold iG;simp only[e])
  |bf o kvs=>cases h
  |ins cl fs=>cases h
theorem H9{n:Str}(h:Nm n):gK (.str n)=true:=by
 have h1:=h.lo;have e:=h.hi;unfold gK;rw[and_eq_true,and_eq_true,decide_eq_true_eq,decide_eq_true_eq];refine⟨⟨by omega,by omega⟩,all_eq_true.mpr λx a=>?_⟩;obtain⟨c,hc,rfl⟩:=mem_map.mp a;obtain⟨f,g⟩:=h.az c hc;have b:¬((⟨#[c]⟩:Str).cps.toList<("a":Str).cps.toList):=by
  rw[My.Cb];intro h;have:=My.um.mp h;omega
 have d:¬(("z":Str).cps.toList<(⟨#[c]⟩:Str).cps.toList):=by
  rw[My.Cd];intro h;have:=My.um.mp h;omega
 show(!decide ((⟨#[c]⟩:Str).cps.toList<("a":Str).cps.toList)&& !decide (("z":Str).cps.toList<(⟨#[c]⟩:Str).cps.toList))=true;rw[decide_eq_false b,decide_eq_false d];rfl
theorem J7{A:Ar}{n:Str}(h:Nm n):bK A (.str n)=true:=decide_eq_true (le_trans h.hi (by decide))
theorem mF{A:Ar}:∀{m:M},(∀n∈m.names,Nm n)->bK A (enc m)=true
 |.wt n,h=>by
  have c:=J7 (A:=A) (h n (by simp[aD.names]));have e:bK A (.str "weight")=true:=show decide (("weight":Str).length<=sizeLine)=true by decide+kernel
  show(bK A (.str "weight")&&(bK A (.str n)&&true))=true;rw[c,e];rfl
 |.aM l r a b,h=>by
  have ha:=mF (A:=A) (m:=a) λn c=>h n (by simp[aD.names,c]);have hb:=mF (A:=A) (m:=b) λn c=>h n (by simp[aD.names,c]);have e:bK A (.str "rod")=true:=show decide (("rod":Str).length<=sizeLine)=true by decide+kernel
  show(bK A (.str "rod")&&(true&&(true&&(bK A (enc a)&&(bK A (enc b)&&true)))))=true;rw[ha,hb,e];rfl
theorem oU:∀{m:M} {d:Nat},Wf m->m.deep<=d->cy d (enc m)=true
 |.wt n,d,c,_=>by
  have e:=H9 (c.nm n (by simp[aD.names]));cases d<;>(show(decide (("weight":Str)="weight")&&gK (.str n))=true;rw[e];decide+kernel)
 |.aM l r a b,d,c,hd=>by
  have hd:max a.deep b.deep+1<=d:=hd;cases d with
  |zero=>omega
  |succ d=>
   obtain⟨h1,h2,f,g,h,i⟩:=c.arms;show(decide (("rod":Str)="rod")&&e_ (.int l) 1 9&&e_ (.int r) 1 9&&cy d (enc a)&&cy d (enc b))=true;rw[oU c.left (by omega),oU c.right (by omega)];simp[e_,h1,h2,f,g]
end DP
namespace My
open L2 DP MA
theorem F3(T:TopD K mg "is_number" BF p8)(d:mg "isinstance"=none)(f:mg "bool"=none)(g:mg "int"=none):av P w K mg base 1 "is_number" p8 (au mg 3 vX):=by
 refine bV T MM λk l m n nd=>⟨_,(ay (bO (PW.pt (e9 (dZ (j7 IL d f boot_bool (vr 0))) (f6 (fM (dZ (j7 IM d g boot_int (vr 0))))))) (aB (aP eY)) bR)
  (aB (aP (ya (vr 1) (vr 0) (vr 2))))),λds A R h o=>?_⟩
 obtain⟨x,a,b,rfl,j,q⟩:=h;cases x with
 |int i=>
  have q:∀A',Gr A A'->R (.bl (decide (a<=i)&&decide (i<=b))) A':=q;refine cD (λc=>?_) (λc=>?_)
  .have e:(decide (a<=i)&&decide (i<=b))=decide (i<=b):=by simp[c]
   rw[e] at q;exact q _ Gr.refl
  .have e:(decide (a<=i)&&decide (i<=b))=false:=by simp[c]
   rw[e] at q;exact q _ Gr.refl
 |exc c=>cases j
 |ref r=>
  rcases mH j with e|e;all_goals
   conv=>whnf
   rw[e];conv=>whnf
   rw[e];exact q _ Gr.refl
 |_=>exact q _ Gr.refl
theorem F2(T:TopD K mg "is_name" BE p7)(b:mg "isinstance"=none)(d:mg "str"=none)(g:mg "len"=none)(i:mg "all"=none){t:Tok}(a:mg "LONGEST_NAME"=some (.int 3 t)):av P w K mg base 1 "is_name" p7 (au mg 1 vS):=by
 refine bV T ML λs u p v nd=>⟨_,(ay (bO (PW.pt (e9 (fM (dZ (j7 zh b d boot_str (vr 0)))) (f6 (fM (Cz ai (cZ eV dY g PySem.boot_len (aa (vr 0) af)) (lT a)))))) (aB (aP eY)) bR)
  (aB (aP (cZ (wK rfl) xq i boot_all (aa (fK none (own:=["letter"]) (frees:=[]) (ix:=[]) rfl (Fo (vr 0)) (λc=>(pG 0 (show(["letter"]:List Str).Nodup by decide+kernel))) (λc=>(ya aV (vr 0) aV))) af))))),λds A R h y=>?_⟩
 obtain⟨x,rfl,k,q⟩:=h;cases x with
 |str n=>
  have hz:n.length<=sizeLine:=of_decide_eq_true k;have q:∀A',Gr A A'->R (.bl (decide ((1:Int)<=(n.length:Nat))&&decide (((n.length:Nat):Int)<=3)&&(gm n).all jZ)) A':=q;refine⟨hz,cD (λl=>?_) (λl=>?_)⟩
  .refine cN (λm=>?_) (λm=>?_)
   .rw[decide_eq_false m] at q
    simp only[Bool.and_false,Bool.false_and] at q;exact q _ Gr.refl
   rw[decide_eq_true l,decide_eq_true m] at q;simp only[Bool.true_and] at q;refine gH (f:=λx=>.bl (jZ x)) trivial _ _ (λx p=>⟨[x],rfl,λQ j=>?_⟩) ?_ ?_
   .obtain⟨c,hc,rfl⟩:=mem_map.mp p
    have j:Q (.bl (!decide ((⟨#[c]⟩:Str).cps.toList<("a":Str).cps.toList)&& !decide (("z":Str).cps.toList<(⟨#[c]⟩:Str).cps.toList))) A:=j;refine cN (λo=>?_) (λo=>?_)
    .rw[decide_eq_false o] at j
     exact j
    .rw[decide_eq_true o] at j
     exact j
   .have:(gm n).length=n.length:=by simp[gm,Str.length]
    show 0+(gm n).length<=sizeLine;omega
   .refine wc (bs:=(gm n).map jZ) aR (rS _ _) ?_
    have e:((gm n).map jZ).all id=(gm n).all jZ:=by simp
    rw[e];exact q _ Gr.push
  .rw[decide_eq_false l] at q
   simp only[Bool.false_and] at q;exact q _ Gr.refl
 |exc c=>cases k
 |ref r=>
  rcases mH k with e|e;all_goals
   conv=>whnf
   rw[e];exact q _ Gr.refl
 |_=>exact q _ Gr.refl
theorem F0 (T : TopD K mg "is_mobile_within" BD p6) (j : mg "isinstance" = none) (F : mg "str" = none) (z : mg "tuple" = none) (p : mg "len" = none) {t : Tok} (i : mg "LONGEST_ARM" = some (.int 9 t))
    (u:av P w K mg base 1 "is_name" p7 (au mg 1 vS))(m:av P w K mg base 1 "is_number" p8 (au mg 3 vX)):∀d,av P w K mg base (d+1) "is_mobile_within" p6 (au mg 2 (vK d)):=by
  intro d
  induction d with
  | zero =>
    refine l0 T λds A R RE h=> ?_
    obtain⟨x,_,h,_⟩:=h
    omega
  | succ d g =>
    refine ig T MK rfl (by decide) λN RE f Z B outer s H E J hR L ds A R h hl=> ?_
    have v:=J.units
    refine⟨_,(ay (bO (PW.pt (e9 (fM (dZ (j7 kit_tuple j z boot_tuple (vr 0)))) (e9 (fQ v (cZ eV dY p PySem.boot_len (aa (vr 0) af)) ai) (f6 (fM (dZ (j7 zh j F boot_str (dX v (vr 0) ai)))))))) (aB (aP eY)) bR)
    (ay (bO (fQ v (dX v (vr 0) ai) aV) (aB (aP (xC (jy v (cZ eV dY p PySem.boot_len (aa (vr 0) af)) ai) (xE (dL u J L (aa (dX v (vr 0) ai) af)))))) bR)
    (ay (bO (PW.pt (e9 (iE v (dX v (vr 0) ai) aV) (e9 (iE v (cZ eV dY p PySem.boot_len (aa (vr 0) af)) ai) (f6 (fQ v (vr 1) ai))))) (aB (aP eY)) bR)
    (ay (bO (PW.pt (e9 (fM (dZ (dL m J L (aa (dX v (vr 0) ai) (aa ai (aa (lT i) af)))))) (f6 (fM (dZ (dL m J L (aa (dX v (vr 0) ai) (aa ai (aa (lT i) af))))))))) (aB (aP eY)) bR)
    (aB (aP (xC (dL g J L (aa (dX v (vr 0) ai) (aa (su (vr 1) ai) af))) (xE (dL g J L (aa (dX v (vr 0) ai) (aa (su (vr 1) ai) af))))))))))),?_⟩
    obtain⟨x,rfl,_,C,q⟩:=h
    have q:∀A',Gr A A'->R (.bl (cy d x)) A':=q
    have no : cy d x = false → R (.bl false) A := fun e => by
      have:=q A Gr.refl
      rwa [e] at this
    cases x with
    | tup xs =>
      cases xs with
      |nil=>exact no (by cases d<;>rfl)
      | cons y ys =>
        have C:(bK A y&&gf A ys)=true:=C
        rw[and_eq_true] at C
        have ln:(((y::ys).length:Nat):Int)=(ys.length:Int)+1:=by simp
        conv=>whnf
        rw[rN]
        cases y with
        | str k =>
          conv=>whnf
          rw[rN]
          refine cD (λM=> ?_) (λM=> ?_)
          · refine cD (fun o => ?_) (fun o => ?_)
            · have o : (((D.str k :: ys).length : Nat) : Int) = 2 := o
              obtain ⟨n, rfl⟩ : ∃ n, ys = [n] := by
                match ys,ln,o with
                |[],ln,o=>simp at o
                |[n],_,_=>exact⟨n,rfl⟩
                |_::_::_,ln,o=>simp at o;omega
              refine⟨rfl,n,rfl,?_,λA1 O=> ?_⟩
              · have := C.2
                simp only[gf,Bool.and_true] at this
                exact this
              · have e : cy d (.tup [.str k, n]) = gK n := by
                  have:cy d (.tup [.str k,n])=(decide (k="weight")&&gK n):=by cases d<;>rfl
                  rw[this,decide_eq_true M,Bool.true_and]
                rw[<-e]
                exact q _ O
            · refine no (s9 (fun n e => ?_) fun l r a b e => ?_)
              · exact absurd (by rw[e];rfl) o
              · rw[M];decide+kernel
          · conv => whnf
            rw[rN]
            refine cN (λU=> ?_) (λU=> ?_)
            · exact no (H8 M U)
            · refine cN (fun o => ?_) (fun o => ?_)
              · refine no (s9 (fun n e => ?_) fun l r a b e => ?_)
                · exact M
                · exact absurd (by rw[e];rfl) o
              · have o : (((D.str k :: ys).length : Nat) : Int) = 5 := o
                obtain ⟨l, r, a, b, rfl⟩ : ∃ l r a b, ys = [l, r, a, b] := by
                  match ys,o with
                  |[l,r,a,b],_=>exact⟨l,r,a,b,rfl⟩
                  |[],o=>simp at o
                  |[_],o=>simp at o
                  |[_,_],o=>simp at o
                  |[_,_,_],o=>simp at o
                  |_::_::_::_::_::_,o=>simp at o;omega
                have Q:(bK A l&&(bK A r&&(bK A a&&(bK A b&&true))))=true:=C.2
                simp only[and_eq_true,and_true] at Q
                obtain⟨k1,k2,k3,k4⟩:=Q
                refine cD (λS=> ?_) (λS=> ?_)
                · have : d = 0 := by have S : ((d + 1 : Nat) : Int) - 1 = 0 := S
                                     omega
                  subst this
                  exact no rfl
                · cases d with
                  |zero=>exact absurd rfl S
                  | succ d =>
                    have V:((d+1+1:Nat):Int) - 1 - 1=((d+1:Nat):Int) - 1:=by omega
                    have eM : cy (d + 1) (.tup [.str k, l, r, a, b]) = (e_ l 1 9 && e_ r 1 9 && cy d a && cy d b) := by
                      show(decide (k="rod")&&e_ l 1 9&&e_ r 1 9&&cy d a&&cy d b)=_
                      rw[decide_eq_true U,Bool.true_and]
                    rw[eM] at q
                    refine⟨rfl,l,1,9,rfl,k1,λA1 O=> ?_⟩
                    cases W:e_ l 1 9 with
                    | false =>
                      rw[W] at q
                      exact q _ O
                    | true =>
                      refine⟨rfl,r,1,9,rfl,mG O _ k2,λA2 g2=> ?_⟩
                      rw[W] at q
                      have G:=O.trans g2
                      cases X:e_ r 1 9 with
                      | false =>
                        rw[X] at q
                        exact q _ G
                      | true =>
                        rw[X] at q
                        refine⟨rfl,a,show [a,D.int (((d+1+1:Nat):Int) - 1 - 1)]=_ by rw[V],by omega,mG G _ k3,λA3 g3=> ?_⟩
                        have I:=G.trans g3
                        show cond (cy d a) _ _
                        cases Y:cy d a with
                        | false =>
                          rw[Y] at q
                          exact q _ I
                        | true =>
                          rw[Y] at q
                          refine⟨rfl,b,show [b,D.int (((d+1+1:Nat):Int) - 1 - 1)]=_ by rw[V],by omega,mG I _ k4,λA4 g4=> ?_⟩
                          exact q _ (I.trans g4)
        |exc c=>exact absurd C.1 (by simp[bK])
        | ref r =>
          rcases mH C.1 with e|e
          all_goals
            conv=>whnf
            rw[e]
            exact no (by cases d<;>rfl)
        |_=>exact no (by cases d<;>rfl)
    |exc c=>cases C
    | ref r =>
      rcases mH C with e|e
      all_goals
        conv=>whnf
        rw[e]
        exact no (by cases d<;>rfl)
    |_=>exact no (by cases d<;>rfl)
theorem F1(T:TopD K mg "is_mobile" BC mR){t:Tok}(b:mg "MOST_RODS"=some (.int 5 t))(a:av P w K mg base 7 "is_mobile_within" p6 (au mg 2 (vK 6))):av P w K mg base 8 "is_mobile" mR (au mg 1 rA):=by
 refine bV T MJ λc f d g nd=>⟨_,(aB (aP (dL a c d (aa (vr 0) (aa (lT b) af))))),λds A R h i=>?_⟩;obtain⟨x,rfl,e,q⟩:=h;exact⟨rfl,x,rfl,by decide,e,q⟩
theorem FZ(T:TopD K mg "check_mobile" Bs kK){a:Addr}(c:mg "NoMobile"=some (.ref a))(d:excIn K a k9 "ValueError.__new__"=true)(b:av P w K mg base 8 "is_mobile" mR (au mg 1 rA)):av P w K mg base 9 "check_mobile" kK (au mg 1 q_):=by
 refine bV T MB λf g i m nd=>⟨_,(aB (bO (fM (dZ (dL b f i (aa (vr 0) af)))) (aB (lX g rfl c d (aa aV af))) bR)),λds A R h n=>?_⟩;obtain⟨x,rfl,j,q⟩:=h;refine⟨rfl,x,rfl,j,λk l=>?_⟩;have q:=q k l;cases e:cy 5 x with
 |true=>rw[e] at q;exact q
 |false=>rw[e] at q;exact⟨by decide,q⟩
end My
namespace DP
open L2 MA
theorem H_{x:D}(h:gK x=true):∃n,x=.str n/\Nm n:=by
 cases x with
 |str n=>
  unfold gK at h;rw[and_eq_true,and_eq_true,decide_eq_true_eq,decide_eq_true_eq] at h;obtain⟨⟨h1,h2⟩,a⟩:=h;refine⟨n,rfl,⟨by omega,by omega,λc hc=>?_⟩⟩;have:=all_eq_true.mp a (.str ⟨#[c]⟩) (mem_map.mpr ⟨c,hc,rfl⟩);have this:(!decide ((⟨#[c]⟩:Str).cps.toList<("a":Str).cps.toList)&& !decide (("z":Str).cps.toList<(⟨#[c]⟩:Str).cps.toList))=true:=this;rw[My.Cb,My.Cd] at this;simp only[and_eq_true,not_eq_true',decide_eq_false_iff_not] at this;have t1:¬([c]:List Nat)<[97]:=this.1;have b:¬([122]:List Nat)<[c]:=this.2;rw[My.um] at t1 b;omega
 |_=>cases h
theorem z7{A:Ar}:∀{xs:List D} {x:D},gf A xs=true->x∈xs->bK A x=true
 |y::xs,x,h,hx=>by
  have h:(bK A y&&gf A xs)=true:=h;rw[and_eq_true] at h;rcases mem_cons.mp hx with rfl|hx
  .exact h.1
  .exact z7 h.2 hx
end DP
namespace My
open L2 DP MA
end My
namespace DP
open L2 MA
theorem z3{x:D}{a b:Int}(h:e_ x a b=true):∃i,x=.int i/\a<=i/\i<=b:=by
 cases x with
 |int i=>
  have h:(decide (a<=i)&&decide (i<=b))=true:=h;rw[and_eq_true,decide_eq_true_eq,decide_eq_true_eq] at h;exact⟨i,rfl,h.1,h.2⟩
 |_=>cases h
theorem Jy:∀(d:Nat) (x:D),cy d x=true->∃m:M,x=enc m/\Wf m/\m.deep<=d:=by
 have leaf:∀(d:Nat) (k:Str) (n:D),(decide (k="weight")&&gK n)=true->∃m:M,D.tup [.str k,n]=enc m/\Wf m/\m.deep<=d:=λd k n h=>by
  rw[and_eq_true,decide_eq_true_eq] at h;obtain⟨rfl,h⟩:=h;obtain⟨n,rfl,i⟩:=H_ h;exact⟨.wt n,rfl,⟨trivial,λz hz=>by rw[show z=n by simpa[aD.names] using hz];exact i⟩,zero_le _⟩
 intro d;induction d with
 |zero=>
  intro x h;unfold cy at h;split at h
  .exact leaf _ _ _ h
  .rename_i e
   cases e
  .cases h
 |succ d c=>
  intro x h;unfold cy at h;split at h
  .exact leaf _ _ _ h
  .rename_i d' k l r a b e
   cases e;rw[and_eq_true,and_eq_true,and_eq_true,and_eq_true,decide_eq_true_eq] at h;obtain⟨⟨⟨⟨rfl,j⟩,o⟩,ha⟩,hb⟩:=h;obtain⟨l,rfl,l1,l2⟩:=z3 j;obtain⟨r,rfl,p,q⟩:=z3 o;obtain⟨a,rfl,f,s⟩:=c a ha;obtain⟨b,rfl,g,db⟩:=c b hb;refine⟨.aM l r a b,rfl,⟨⟨l1,l2,p,q,f.arms,g.arms⟩,λz hz=>?_⟩,?_⟩
   .have hz:z∈a.names++b.names:=hz
    rcases mem_append.mp hz with hz|hz
    .exact f.nm z hz
    .exact g.nm z hz
   .show max a.deep b.deep+1<=d+1
    omega
  .cases h
def fP(T:Tb)(n:Str)(x:Rat):Tb:=if (T.any λp=>decide (p.1=n))=true then T.map (λp=>if p.1=n then (p.1,x) else p) else T++[(n,x)]
def aG(m:M):Tb:=(aZ m "" 1).foldl (λT p=>fP T p.2.1 p.2.2) []
theorem IS(T:Tb)(n:Str)(x:Rat):bz (fP T n x)=bL (bz T) (Sum.inr n) (fq x):=by
 have e:((bz T).any λa=>decide (a.1=(Sum.inr n:Key)))=T.any λp=>decide (p.1=n):=by
  unfold bz;rw[List.any_map];congr 1;funext p;show decide ((Sum.inr p.1:Key)=Sum.inr n)=decide (p.1=n);by_cases h:p.1=n
  .rw[decide_eq_true h,decide_eq_true (by rw[h])]
  .rw[decide_eq_false h,decide_eq_false (λz=>h (Sum.inr.inj z))]
 unfold fP bL;rw[e];split
 .unfold bz
  rw[map_map,map_map];refine map_congr_left λp _=>?_;show((Sum.inr (if p.1=n then (p.1,x) else p).1:Key),fq (if p.1=n then (p.1,x) else p).2)=if (Sum.inr p.1:Key)=Sum.inr n then (Sum.inr p.1,fq x) else (Sum.inr p.1,fq p.2)
  by_cases h:p.1=n
  .rw[if_pos h,if_pos (by rw[h])]
  .rw[if_neg h,if_neg (λz=>h (Sum.inr.inj z))]
 .unfold bz
  simp
theorem zk:∀(a:List (Str×Str×Rat)) (T:Tb),bz (a.foldl (λT p=>fP T p.2.1 p.2.2) T)=((a.map λp=>(p.2.1,fq p.2.2)).map λp=>((Sum.inr p.1:Key),p.2)).foldl (λacc p=>bL acc p.1 p.2) (bz T)
 |[],T=>rfl
 |p::a,T=>by
  rw[foldl_cons,zk a,IS];rfl
theorem Al(T:Tb)(n:Str)(x:Rat):aA (fP T n x)=if n∈aA T then aA T else aA T++[n]:=by
 have e:(T.any λp=>decide (p.1=n))=decide (n∈aA T):=by
  rw[Bool.eq_iff_iff,any_eq_true,decide_eq_true_eq];constructor
  .rintro ⟨p,a,h⟩
   rw[<-of_decide_eq_true h];exact mem_map_of_mem a
  .intro h
   obtain⟨p,a,e⟩:=mem_map.mp h;exact⟨p,a,decide_eq_true e⟩
 unfold fP;rw[e];by_cases h:n∈aA T
 .rw[if_pos (decide_eq_true h),if_pos h]
  unfold aA;rw[map_map];refine map_congr_left λp _=>?_;show(if p.1=n then (p.1,x) else p).1=p.1;split<;>rfl
 .rw[if_neg (by simpa using h),if_neg h]
  simp[aA]
theorem yw:∀(c:List (Str×Str×Rat)) (T:Tb) (g:Str->Rat),(aA T).Nodup->(∀p∈T,p.2=g p.1)->(∀r∈c,r.2.2=g r.2.1)->
  (aA (c.foldl (λT p=>fP T p.2.1 p.2.2) T)).Nodup/\(∀p∈c.foldl (λT p=>fP T p.2.1 p.2.2) T,p.2=g p.1)/\∀n,n∈aA (c.foldl (λT p=>fP T p.2.1 p.2.2) T)↔n∈aA T\/n∈c.map (·.2.1)
 |[],T,g,h1,h2,_=>⟨h1,h2,λn=>by simp⟩
 |r::c,T,g,h1,h2,i=>by
  have k1:(aA (fP T r.2.1 r.2.2)).Nodup:=by
   rw[Al];split
   .exact h1
   .rename_i j
    rw[nodup_append];refine⟨h1,by simp,λa ha b hb=>?_⟩;simp at hb;rw[hb];exact λz=>j (by rw[<-z];exact ha)
  have k2:∀p∈fP T r.2.1 r.2.2,p.2=g p.1:=λp hp=>by
   have e:=i r (mem_cons_self ..);unfold fP at hp;split at hp
   .obtain⟨d,f,rfl⟩:=mem_map.mp hp
    by_cases hc:d.1=r.2.1
    .rw[if_pos hc]
     show r.2.2=g d.1;rw[e,hc]
    .rw[if_neg hc]
     exact h2 d f
   .rcases mem_append.mp hp with hp|hp
    .exact h2 p hp
    .rw[mem_singleton.mp hp]
     exact e
  obtain⟨k,l,m⟩:=yw c _ g k1 k2 λx o=>i x (mem_cons_of_mem _ o);refine⟨k,l,λn=>?_⟩;rw[foldl_cons,m,Al];by_cases h:r.2.1∈aA T
  .rw[if_pos h]
   simp;constructor
   .rintro (h'|h')
    .exact .inl h'
    .exact .inr (.inr h')
   .rintro (h'|rfl|h')
    .exact .inl h'
    .exact .inl h
    .exact .inr h'
  .rw[if_neg h]
   simp[or_assoc]
structure Hl(m:M):Prop where
 wf:Wf m
 deep:m.deep<=5
 bar:bC [] (aZ m "" 1)=none
theorem iF{m:M}(h:Hl m):gy (aG m)/\(∀n,n∈aA (aG m)↔n∈m.names)/\∀n∈aA (aG m),bQ (aG m) n=shr m n:=by
 obtain⟨k1,k2⟩:=jM h.bar;obtain⟨c,d,f⟩:=yw (aZ m "" 1) [] (shr m) nodup_nil (λp a=>by cases a) k1;have g:(aZ m "" 1).map (·.2.1)=m.names:=kW m "" 1;have mem:∀n,n∈aA (aG m)↔n∈m.names:=λn=>by
  show n∈aA ((aZ m "" 1).foldl (λT p=>fP T p.2.1 p.2.2) [])↔_;rw[f,g];simp[aA]
 have i:(aA (aG m)).length=(aG m).length:=by simp[aA]
 have nl:=jh h.deep;refine⟨⟨c,λz=>?_,?_,λp a=>?_⟩,mem,λn b=>?_⟩
 .have hpos:=aD.mE m
  cases e:m.names with
  |nil=>rw[e] at hpos;simp at hpos
  |cons n t=>
   have:=(mem n).mpr (by rw[e];simp);rw[z] at this;cases this
 .have:=jG (aA (aG m)) m.names c λx j=>(mem x).mp j
  omega
 .have e:p.2=shr m p.1:=d p a
  rw[e];exact ng h.wf.arms h.deep h.bar ((mem p.1).mp (mem_map_of_mem a))
 .have:=find_some (T:=aG m) (n:=n)
  rw[decide_eq_true (show n∈(aG m).map (·.1) from b)] at this;obtain⟨p,a⟩:=isSome_iff_exists.mp this;unfold bQ;rw[a];have h2:=find?_some a;have k:p.1=n:=of_decide_eq_true h2;rw[<-k];exact d p (mem_of_find?_eq_some a)
def vW:Ct:=λds A R _=>∃m,ds=[enc m]/\Hl m/\∀A' q,Gr A A'->A'[q]?=some (.dct (bz (aG m)))->A.length<=q->R (.ref q) A'
def fG(x:D)(ms:List M):Prop:=x=.tup (ms.map enc)/\1<=ms.length/\ms.length<=6/\∀m∈ms,Hl m
def vH:Ct:=λds A R E=>∃x,ds=[x]/\bK A x=true/\((∃ms,fG x ms)->∀A',Gr A A'->R .ao A')/\((¬∃ms,fG x ms)->∀A',Gr A A'->E "NoHall" A')
def rq:Ct:=λds A R E=>∃x,ds=[x]/\bK A x=true/\(∀ms,fG x ms->∀A' q,Gr A A'->fE A' q (ms.map aG)->A.length<=q->R (.ref q) A')/\((¬∃ms,fG x ms)->∀A',Gr A A'->E "NoHall" A')
theorem ou:∀{a b:M},enc a=enc b->a=b
 |.wt n,.wt k,h=>by
  have h:D.tup [.str "weight",.str n]=.tup [.str "weight",.str k]:=h;simp at h;rw[h]
 |.wt n,.aM l r a b,h=>by
  have h:D.tup [.str "weight",.str n]=.tup [.str "rod",.int l,.int r,enc a,enc b]:=h;simp at h
 |.aM l r a b,.wt n,h=>by
  have h:D.tup [.str "rod",.int l,.int r,enc a,enc b]=.tup [.str "weight",.str n]:=h;simp at h
 |.aM l r a b,.aM c r' d e,h=>by
  have h:D.tup [.str "rod",.int l,.int r,enc a,enc b]=.tup [.str "rod",.int c,.int r',enc d,enc e]:=h;simp at h;obtain⟨h1,h2,f,g⟩:=h;rw[h1,h2,ou f,ou g]
theorem yb:∀{ms ms':List M},ms.map enc=ms'.map enc->ms=ms'
 |[],[],_=>rfl
 |[],_::_,h=>by cases h
 |_::_,[],h=>by cases h
 |m::ms,a::ms',h=>by
  rw[map_cons,map_cons,List.cons.injEq] at h;rw[ou h.1,yb h.2]
theorem TabsAt.snoc{A:Ar}{q:Nat}{T:Tb}(a:TabAt A q T):∀{qs:List Nat} {Ts:List Tb},TabsAt A qs Ts->TabsAt A (qs++[q]) (Ts++[T])
 |[],[],_=>⟨a,trivial⟩
 |_::qs,_::Ts,h=>⟨h.1,TabsAt.snoc a h.2⟩
 |[],_::_,h=>h.elim
 |_::_,[],h=>h.elim
end DP
namespace My
open L2 DP MA
theorem Gx(T:TopD K mg "name_shares" uJ jK)(b:mg "dict"=none)(a:av P w K mg base 10 "shares" kN (au mg 1 nP)):av P w K mg base 11 "name_shares" jK (au mg 1 vW):=by
 refine bV T BZ λj r k s nd=>⟨_,(aB (aP (iX (jq rfl) ju b boot_dict (aa (fK (some 3) (own:=["way","name","share"]) (frees:=[]) (ix:=[]) rfl (dP (dL a j k (aa (vr 0) af))) (λc=>(mV rfl (gh (pG 0 (show(["way","name","share"]:List Str).Nodup by decide+kernel)) (gh (pG 1 (show(["way","name","share"]:List Str).Nodup by decide+kernel)) (gh (pG 2 (show(["way","name","share"]:List Str).Nodup by decide+kernel)) mW))))) (λc=>(bg (aa (vr 1) (aa (vr 2) af))))) af)))),λds A R h t=>?_⟩;obtain⟨m,rfl,g,q⟩:=h;have hd:=g.deep;have hz:(1000:Nat)<=sizeLine:=by decide
 refine⟨rfl,m,rfl,g.wf,hd,λu v i h1 l1=>?_⟩;refine eG h1 ?_;have ln:=kU m "" 1;have nl:=jh hd;refine gH (f:=λd=>match d with|.tup [_,n,x]=>.tup [n,x]|d=>d) h1 _ _ (λd hd=>?_) (by simp;omega) ?_
 .obtain⟨p,y,rfl⟩:=mem_map.mp hd
  exact⟨[.str p.1,.str p.2.1,fq p.2.2],rfl,λQ l=>⟨show 2<=sizeLine by decide,l⟩⟩
 have e:((aZ m "" 1).map m8).map (λd=>match d with|.tup [_,n,x]=>D.tup [n,x]|d=>d)=(aZ m "" 1).map pK:=by
  rw[map_map];rfl
 rw[nil_append,e];refine sf aR (uu _) (by simp;omega) ?_;refine q _ _ ((i.trans Gr.push).trans Gr.push) ?_ (by have:=i.len;simp;omega);have o:bz (aG m)=kR (((aZ m "" 1).map λp=>(p.2.1,fq p.2.2)).map λp=>((Sum.inr p.1:Key),p.2)):=zk _ [];rw[o];exact aR
theorem F8(T:TopD K mg "check_hall" Br pX)(b:mg "isinstance"=none)(o:mg "tuple"=none)(u:mg "len"=none){t:Tok}(a:mg "MOST_MOBILES"=some (.int 6 t)){d:Addr}(i:mg "NoHall"=some (.ref d))(j:excIn K d k9 "ValueError.__new__"=true)
  (k:av P w K mg base 8 "is_mobile" mR (au mg 1 rA))(z:av P w K mg base 11 "bar" jJ (au mg 1 ly)):av P w K mg base 12 "check_hall" pX (au mg 1 vH):=by
 refine ig T BW rfl (by decide) λN RE f cdv B outer s H E O W X ds A R h hl=>?_;have hu:=O.units;have nd:=BW.nd;refine⟨_,(ay (bO (PW.pt (e9 (fM (dZ (j7 kit_tuple b o boot_tuple (vr 0)))) (f6 (fM (Cz ai (cZ eV dY u PySem.boot_len (aa (vr 0) af)) (lT a)))))) (aB (lX W rfl i j (aa aV af))) bR)
  (aB (fu d9 rfl (dP (vr 0)) (dG 1 nd) (aB (bO (PW.pt (e9 (fM (dZ (dL k O X (aa (vr 1) af)))) (f6 (uX (dL z O X (aa (vr 1) af)) ic)))) (aB (lX W rfl i j (aa aV af))) bR))))),?_⟩
 obtain⟨x,rfl,I,q1,q2⟩:=h;have hz:(1000:Nat)<=sizeLine:=by decide
 have no:(¬∃ms,fG x ms)->∀A',Gr A A'->1<=sizeLine/\RE "NoHall" A':=λh A' g=>⟨by omega,q2 h A' g⟩;have q:(∀xs,x≠ .tup xs)->¬∃ms,fG x ms:=λh ⟨ms,e,_⟩=>h _ e;cases x with
 |tup xs=>
  have I:gf A xs=true:=I;refine cD (λC=>?_) (λC=>?_);rotate_left
  .have C:¬(1:Int)<=((xs.length:Nat):Int):=C
   exact no (λ⟨ms,e,h1,_,_⟩=>by
    have e:=D.tup.inj e;rw[e,length_map] at C;omega) _ Gr.refl
  refine cN (λF=>?_) (λF=>?_)
  .have F:¬((xs.length:Nat):Int)<=6:=F
   exact no (λ⟨ms,e,_,h2,_⟩=>by
    have e:=D.tup.inj e;rw[e,length_map] at F;omega) _ Gr.refl
  have C:(1:Int)<=((xs.length:Nat):Int):=C;have F:((xs.length:Nat):Int)<=6:=F;refine eZ (λrest τ A'=>∃(G:List M) (n:List D) (y:Option D),rest=n/\G.map enc++n=xs/\(∀m∈G,Hl m)/\τ=[some (.tup xs),y]/\Gr A A') ?_ ?_ ?_ _ _ _ ⟨[],xs,none,rfl,rfl,(λ_ h=>by cases h),rfl,Gr.refl⟩
  .intro _ _ _ _
   trivial
  .rintro v rest τ A1 ⟨G,n,y,rfl,l,Q,rfl,g⟩ Nx hN
   have S:v∈xs:=by rw[<-l];simp
   have bad:(¬∃m,v=enc m/\Hl m)->¬∃ms,fG (.tup xs) ms:=λhb ⟨ms,e,_,_,h4⟩=>by
    have e:=D.tup.inj e;rw[e] at S;obtain⟨m,J,rfl⟩:=mem_map.mp S;exact hb ⟨m,rfl,h4 m J⟩
   refine⟨rfl,v,rfl,mG g _ (z7 I S),λA2 U=>?_⟩;cases J:cy 5 v with
   |false=>
    refine no (bad λ⟨m,e,h⟩=>?_) _ (g.trans U);rw[e,oU h.wf h.deep] at J;cases J
   |true=>
    obtain⟨m,rfl,Y,Z⟩:=Jy 5 v J;refine⟨rfl,m,rfl,Y,Z,λA3 g3=>?_⟩;cases hb:bC [] (aZ m "" 1) with
    |some p=>
     refine no (bad λ⟨m',e,h⟩=>?_) _ ((g.trans U).trans g3);rw[<-ou e] at h;have L:=h.bar;rw[hb] at L;cases L
    |none=>
     exact hN _ _ ⟨G++[m],rest,_,rfl,by simpa using l,λm' V=>by
      rcases mem_append.mp V with h|h
      .exact Q m' h
      .rw[mem_singleton.mp h]
       exact⟨Y,Z,hb⟩,rfl,(g.trans U).trans g3⟩
  .rintro τ A1 ⟨G,n,y,e,l,Q,rfl,g⟩
   subst e;rw[append_nil] at l;refine q1 ⟨G,by rw[l],?_,?_,Q⟩ _ g
   .rw[<-l,length_map] at C
    omega
   .rw[<-l,length_map] at F
    omega
 |exc c=>cases I
 |ref r=>
  rcases mH I with e|e;all_goals
   conv=>whnf
   rw[e];exact no (q λxs h=>by cases h) _ Gr.refl
 |_=>exact no (q λxs h=>by cases h) _ Gr.refl
theorem Gg(T:TopD K mg "hall_shares" BB mQ)(d:av P w K mg base 12 "check_hall" pX (au mg 1 vH))(b:av P w K mg base 11 "name_shares" jK (au mg 1 vW)):av P w K mg base 13 "hall_shares" mQ (au mg 1 rq):=by
 refine bV T MI λo E s F nd=>⟨_,(ay (fY (dL d o s (aa (vr 0) af)))
  (aB (aP (fK none (own:=["mobile"]) (frees:=[]) (ix:=[]) rfl (dP (vr 0)) (λc=>(pG 0 (show(["mobile"]:List Str).Nodup by decide+kernel))) (λc=>(dL b o kO (aa (vr 0) af))))))),λds A R h G=>?_⟩
 obtain⟨x,rfl,t,p,n⟩:=h;have hz:(1000:Nat)<=sizeLine:=by decide
 refine⟨rfl,x,rfl,t,λ⟨ms,q⟩ r k=>?_,λu r k=>n u _ k⟩;have v:=p ms q;clear p;obtain⟨rfl,h1,H,z⟩:=q;refine rY (λrest ys A'=>∃(i a:List M) (ts:List Nat),rest=a.map enc/\i++a=ms/\ys=ts.map D.ref/\TabsAt A' ts (i.map aG)/\Gr r A') ?_ ?_ ?_ ?_ _ _ _ ⟨[],ms,[],rfl,rfl,rfl,trivial,Gr.refl⟩
 .intro _ _ _ _
  trivial
 .rintro rest ys A' ⟨i,a,ts,_,e,rfl,j,_⟩
  have l1:=j.len;have l2:=congrArg List.length e;rw[length_append] at l2;rw[length_map] at l1 ⊢;omega
 .rintro y rest ys A' ⟨i,a,ts,e,f,rfl,j,g⟩
  cases a with
  |nil=>cases e
  |cons m a=>
   cases e;refine⟨[enc m],rfl,λQ B=>⟨rfl,m,rfl,z m (by rw[<-f];simp),λI n l h2 l2=>B _ _ ⟨i++[m],a,ts++[n],rfl,by simpa using f,by simp,?_,g.trans l⟩⟩⟩;rw[map_append];exact TabsAt.snoc (.inl h2) (j.gr l)
 .rintro ys A' ⟨i,a,ts,e,f,rfl,j,g⟩
  cases a with
  |cons _ _=>cases e
  |nil=>
   have f:i=ms:=by simpa using f
   subst f;have l:=(k.trans g).trans (Gr.push (T:=[C.lst (ts.map D.ref)]));exact v _ _ l ⟨ts,aR,j.gr Gr.push⟩ (k.trans g).len
end My
namespace DP
open L2 MA
def rD:Ct:=λds A R E=>∃x NN,ds=[x]/\bK A x=true/\(∀ms,fG x ms->cR (ms.map aG) NN/\(eK (ms.map aG)=none->∀A',Gr A A'->R .ao A')/\∀ss,eK (ms.map aG)=some ss->∀A' q,Gr A A'->A'[q]?=some (.lst (ss.map bH))->A.length<=q->R (.ref q) A')/\((¬∃ms,fG x ms)->∀A',Gr A A'->E "NoHall" A')
end DP
namespace My
open L2 DP MA
theorem GD(T:TopD K mg "ring" BO qc)(a:av P w K mg base 13 "hall_shares" mQ (au mg 1 rq))(b:av P w K mg base 5 "find_ring" mL (au mg 1 rE)):av P w K mg base 14 "ring" qc (au mg 1 rD):=by
 refine bV T MU λf v g y nd=>⟨_,(aB (aP (dL b f g (aa (dL a f g (aa (vr 0) af)) af)))),λds A R h z=>?_⟩;obtain⟨x,NN,rfl,i,j,k⟩:=h;refine⟨rfl,x,rfl,i,λms l m n c o l1=>?_,λq m c=>k q _ c⟩;obtain⟨hok,r,s⟩:=j ms l;exact⟨rfl,n,_,NN,rfl,o,hok,λe t d=>r e _ (c.trans d),λu e t p d h2 l2=>s u e _ _ (c.trans d) h2 (by have:=c.len;omega)⟩
end My
namespace DP
open L2 MA
def iI(Ts:List Tb)(a b:Str):Prop:=∃T∈Ts,a∈aA T/\b∈aA T
inductive fj(Ts:List Tb):Str->Str->Prop
 |refl (a:Str):fj Ts a a
 |step {a b c:Str}:fj Ts a b->iI Ts b c->fj Ts a c
theorem iI.symm{Ts:List Tb}{a b:Str}(h:iI Ts a b):iI Ts b a:=by
 obtain⟨T,h1,h2,c⟩:=h;exact⟨T,h1,c,h2⟩
theorem fj.trans{Ts:List Tb}{a b c:Str}(h:fj Ts a b)(k:fj Ts b c):fj Ts a c:=by
 induction k with
 |refl=>exact h
 |step _ e d=>exact .step d e
theorem fj.symm{Ts:List Tb}{a b:Str}(h:fj Ts a b):fj Ts b a:=by
 induction h with
 |refl=>exact .refl _
 |step _ e c=>exact(fj.step (.refl _) e.symm).trans c
theorem DJ{Ts:List Tb}{a b:Str}:iI Ts a b↔∃s∈cM Ts a,s.2.2=b:=by
 constructor
 .rintro ⟨T,c,h1,h2⟩
  obtain⟨i,hi,e⟩:=getElem_of_mem c;exact⟨(i,a,b),jF.mpr ⟨T,by rw[getElem?_eq_getElem hi,e],h1,rfl,h2⟩,rfl⟩
 .rintro ⟨s,d,rfl⟩
  obtain⟨T,h1,h2,g,f⟩:=jF.mp d;exact⟨T,mem_of_getElem? h1,h2,f⟩
inductive gu(Ts:List Tb):Str->List aU->Str->Prop
 |nil (a:Str):gu Ts a [] a
 |snoc {a b:Str} {l:List aU} {s:aU}:gu Ts a l s.2.1->cJ Ts s->s.2.2=b->gu Ts a (l++[s]) b
theorem gu.LX{Ts:List Tb}{a b:Str}{l:List aU}(h:gu Ts a l b):fj Ts a b:=by
 induction h with
 |nil=>exact .refl _
 |snoc _ c e d=>
  obtain⟨T,h1,h2,f⟩:=c;exact .step d ⟨T,mem_of_getElem? h1,h2,by rw[<-e];exact f⟩
theorem yv{Ts:List Tb}{a:Str}:∀(b:List aU) (P:aH),(∀s∈b,cJ Ts s/\s.2.1∈ak P)->(∀p∈P,gu Ts a p.2 p.1)->∀p∈b.foldl bI P,gu Ts a p.2 p.1
 |[],P,_,h=>h
 |s::b,P,c,h=>by
  obtain⟨e,f⟩:=c s (mem_cons_self ..);refine yv b (bI P s) (λx d=>⟨(c x (mem_cons_of_mem _ d)).1,(lH P s _).mpr (.inl (c x (mem_cons_of_mem _ d)).2)⟩) λp hp=>?_;unfold bI at hp;split at hp
  .exact h p hp
  .rcases mem_append.mp hp with hp|hp
   .exact h p hp
   .rw[mem_singleton.mp hp]
    exact .snoc (h _ (gO f)) e rfl
theorem Nl{Ts:List Tb}{n:Str}{s:aU}(h:s∈cM Ts n):cJ Ts s/\s.2.1=n:=by
 obtain⟨T,h1,h2,a,b⟩:=jF.mp h;exact⟨⟨T,h1,by rw[a];exact h2,b⟩,a⟩
theorem wj{Ts:List Tb}{a:Str}:∀(f i:Nat) (P:aH),(∀p∈P,gu Ts a p.2 p.1)->∀p∈cE Ts f i P,gu Ts a p.2 p.1
 |0,i,P,h=>h
 |f+1,i,P,h=>by
  cases e:P[i]? with
  |none=>
   have:cE Ts (f+1) i P=P:=by
    show(match P[i]? with|some p=>cE Ts f (i+1) ((cM Ts p.1).foldl bI P)|none=>P)=_;rw[e]
   rw[this];exact h
  |some c=>
   rw[lK e];refine wj f (i+1) _ (yv _ _ (λs b=>?_) h);obtain⟨h1,h2⟩:=Nl b;exact⟨h1,by rw[h2];exact mem_map_of_mem (mem_of_getElem? e)⟩
theorem wk{Ts:List Tb}{NN:List Str}(hok:cR Ts NN):∀(f i:Nat) (P:aH),dO P NN->13<=f+i->(∀j,j<i->∀p,P[j]?=some p->∀b,iI Ts p.1 b->b∈ak P)->∀p∈cE Ts f i P,∀b,iI Ts p.1 b->b∈ak (cE Ts f i P)
 |0,i,P,l,r,hc=>λp a b hb=>by
  have A:=le_trans l.len hok.nn;obtain⟨j,g,e⟩:=getElem_of_mem (show p∈P from a);exact hc j (by omega) p (by rw[getElem?_eq_getElem g,e]) b hb
 |f+1,i,P,l,r,hc=>by
  cases e:P[i]? with
  |none=>
   have t:cE Ts (f+1) i P=P:=by
    show(match P[i]? with|some p=>cE Ts f (i+1) ((cM Ts p.1).foldl bI P)|none=>P)=_;rw[e]
   rw[t];intro p a b hb;obtain⟨j,g,m⟩:=getElem_of_mem a;have:P.length<=i:=List.getElem?_eq_none_iff.mp e;exact hc j (by omega) p (by rw[getElem?_eq_getElem g,m]) b hb
  |some c=>
   rw[lK e];obtain⟨X,eX⟩:=oE (cM Ts c.1) P;have n:c.1∈ak P:=mem_map_of_mem (mem_of_getElem? e);have o:=(List.getElem?_eq_some_iff.mp e).1;have key:∀(d:List aU) (Q:aH),(∀s∈d,s∈cM Ts c.1)->dO Q NN->c.1∈ak Q->dO (d.foldl bI Q) NN:=by
    intro d;induction d with
    |nil=>intro Q _ h _;exact h
    |cons s d u=>
     intro Q k v a;obtain⟨T,w,_,m,y⟩:=jF.mp (k s (mem_cons_self ..));exact u _ (λx z=>k x (mem_cons_of_mem _ z)) (v.add (by rw[m];exact a) (hok.sub T (mem_of_getElem? w) _ y)) ((lH Q s c.1).mpr (.inl a))
   refine wk hok f (i+1) _ (key _ _ (λs h=>h) l n) (by omega) λj g p a b hb=>?_;rw[sL];by_cases q:j<i
   .rw[eX,getElem?_append_left (by omega)] at a
    exact .inl (hc j q p a b hb)
   .have:j=i:=by omega
    subst this;rw[eX,getElem?_append_left o,e] at a;cases a;obtain⟨s,k,rfl⟩:=DJ.mp hb;exact .inr (mem_map_of_mem k)
theorem qh{Ts:List Tb}{n:Str}:∀p∈aJ Ts n,gu Ts n p.2 p.1:=wj 14 0 _ λp a=>by
 have:p=(n,[]):=by simpa using a
 rw[this];exact .nil _
theorem kP{Ts:List Tb}{NN:List Str}(hok:cR Ts NN){n:Str}(c:n∈NN){m:Str}:m∈ak (aJ Ts n)↔fj Ts n m:=by
 constructor
 .intro h
  obtain⟨p,a,rfl⟩:=mem_map.mp h;exact(qh p a).LX
 .intro h
  have h0:dO [(n,[])] NN:=⟨by simp[ak],λm d=>by
   have:m=n:=by simpa[ak] using d
   rw[this];exact c,λp a=>by
   have:p=(n,[]):=by simpa using a
   rw[this];simp⟩
  have b:=wk hok 14 0 [(n,[])] h0 (by omega) λj g=>by omega
  induction h with
  |refl=>exact(gQ hok c).2.1
  |step _ e f=>
   obtain⟨p,a,rfl⟩:=mem_map.mp f;exact b p a _ e
theorem yN{Ts:List Tb}{NN:List Str}(hok:cR Ts NN):∀(ns:List Str) (Gs:List aH),(∀n∈ns,n∈NN)->(∀P∈Gs,∃n∈NN,P=aJ Ts n)->Gs.Pairwise (λP Q=>∀m,m∈ak P->m∉ak Q)->(ns.foldl (bX Ts) Gs).Pairwise (λP Q=>∀m,m∈ak P->m∉ak Q)
 |[],Gs,_,_,h=>h
 |n::ns,Gs,f,e,h=>by
  have b:=f n (mem_cons_self ..);refine yN hok ns (bX Ts Gs n) (λm d=>f m (mem_cons_of_mem _ d)) (λP hP=>?_) ?_
  .unfold bX at hP
   split at hP
   .exact e P hP
   .rcases mem_append.mp hP with hP|hP
    .exact e P hP
    .exact⟨n,b,mem_singleton.mp hP⟩
  .unfold bX
   split
   .exact h
   .rename_i c
    rw[List.pairwise_append];refine⟨h,by simp,λP hP Q g m d a=>?_⟩;rw[mem_singleton.mp g] at a;obtain⟨k,i,rfl⟩:=e P hP;refine c (mem_flatMap.mpr ⟨_,hP,?_⟩);rw[kP hok i] at d ⊢;rw[kP hok b] at a;exact d.trans a.symm
theorem oH{Ts:List Tb}{NN:List Str}(hok:cR Ts NN):(aY Ts).Pairwise (λP Q=>∀m,m∈ak P->m∉ak Q):=
 yN hok _ [] (λm a=>by
  obtain⟨T,h1,h2⟩:=mem_flatMap.mp a;exact hok.sub T h1 m h2) (λP h=>by cases h) Pairwise.nil
theorem tP{n:Str}:∀(Gs:List aH) (acc:List aU) (P:aH),Gs.Pairwise (λP Q=>∀m,m∈ak P->m∉ak Q)->P∈Gs->n∈ak P->Gs.foldl (λacc P=>if n∈ak P then bP P n else acc) acc=bP P n
 |[],acc,P,_,h,_=>by cases h
 |Q::Gs,acc,P,hd,hP,a=>by
  obtain⟨h1,h2⟩:=pairwise_cons.mp hd;rw[foldl_cons];rcases mem_cons.mp hP with rfl|hP
  .rw[if_pos a]
   have:∀(Gs:List aH) (acc:List aU),(∀Q∈Gs,n∉ak Q)->Gs.foldl (λacc P=>if n∈ak P then bP P n else acc) acc=acc:=by
    intro Gs;induction Gs with
    |nil=>intro acc _;rfl
    |cons Q Gs c=>
     intro acc h;rw[foldl_cons,if_neg (h Q (mem_cons_self ..))];exact c acc λd b=>h d (mem_cons_of_mem _ b)
   exact this Gs _ λQ e=>h1 Q e n a
  .exact tP Gs _ P h2 hP a
structure Cs(Ts:List Tb)(w:Str->Rat):Prop where
 pos:∀n,0<w n
 eq:∀T∈Ts,∀a∈aA T,∀b∈aA T,w a*bQ T b=w b*bQ T a
theorem fO{x:Rat}(h:0<x):x≠0:=λe=>by rw[e] at h;exact absurd h (by decide)
theorem Cj{Ts:List Tb}{w:Str->Rat}(b:∀T∈Ts,gy T)(h:Cs Ts w){s:aU}(c:cJ Ts s):bG Ts s*w s.2.1=w s.2.2:=by
 obtain⟨T,h1,h2,d⟩:=c;have a:=mem_of_getElem? h1;have e:=h.eq T a _ h2 _ d;have p1:=fO (iD (b T a) h2).pos;unfold bG;rw[iC h1,iC h1];grind
theorem r9(Ts:List Tb)(a:List aU):∀b:List aU,ck Ts (a++b)=ck Ts a*ck Ts b:=by
 have key:∀(b:List aU) (x:Rat),b.foldl (λx s=>x*bG Ts s) x=x*b.foldl (λx s=>x*bG Ts s) 1:=by
  intro b;induction b with
  |nil=>intro x;simp[Rat.mul_one]
  |cons s b c=>
   intro x;rw[foldl_cons,foldl_cons,c (x*bG Ts s),c (1*bG Ts s),Rat.one_mul,Rat.mul_assoc]
 intro b;unfold ck;rw[foldl_append,key]
theorem rW{Ts:List Tb}{w:Str->Rat}(c:∀T∈Ts,gy T)(h:Cs Ts w){a b:Str}{l:List aU}(hc:gu Ts a l b):ck Ts l*w a=w b:=by
 induction hc with
 |nil=>exact Rat.one_mul _
 |snoc hc d e f=>
  rw[lN,<-e,<-Cj c h d,<-f];grind
theorem r_{Ts:List Tb}(a:∀T∈Ts,gy T):∀(l:List aU),(∀s∈l,cJ Ts s)->ck Ts (bwd l)*ck Ts l=1
 |[],_=>by show(1:Rat)*1=1;exact Rat.one_mul _
 |s::l,b=>by
  have h:=r_ a l λx d=>b x (mem_cons_of_mem _ d);have e:bwd (s::l)=bwd l++[(s.1,s.2.2,s.2.1)]:=by
   unfold bwd;simp
  have f:ck Ts (s::l)=bG Ts s*ck Ts l:=by
   rw[show s::l=[s]++l from rfl,r9];congr 1;show(1:Rat)*bG Ts s=bG Ts s;exact Rat.one_mul _
  obtain⟨T,h1,h2,g⟩:=b s (mem_cons_self ..);have c:=a T (mem_of_getElem? h1);have p2:=fO (iD c h2).pos;have i:=fO (iD c g).pos;have j:bG Ts (s.1,s.2.2,s.2.1)*bG Ts s=1:=by
   unfold bG;simp only[iC h1];grind
  rw[e,lN,f];grind
theorem L5{Ts:List Tb}{NN:List Str}(hok:cR Ts NN){w:Str->Rat}(h:Cs Ts w):eK Ts=none:=by
 unfold eK;rw[find?_eq_none];intro q g;obtain⟨s,m,rfl⟩:=mem_map.mp g;obtain⟨T,h1,h2,l⟩:=rX m;have i:=mem_of_getElem? h1;have c:=(o_ (hok.tok T i).ne).1;have f:cJ Ts s:=⟨T,h1,by rw[h2];exact c,l⟩;have n1:s.2.1∈cS (aY Ts):=oG hok i (by rw[h2];exact c);obtain⟨P,j,b⟩:=mem_flatMap.mp n1;obtain⟨k,n,_,rfl⟩:=iw hok j;have a:s.2.2∈ak (aJ Ts k):=by
  rw[kP hok n] at b ⊢;exact .step b ⟨T,i,by rw[h2];exact c,l⟩
 have d:=oH hok;have l1:dI (aY Ts) s.2.1=bP (aJ Ts k) s.2.1:=tP _ _ _ d j b;have l2:dI (aY Ts) s.2.2=bP (aJ Ts k) s.2.2:=tP _ _ _ d j a;have o:=rW hok.tok h (qh _ (gO b));have p:=rW hok.tok h (qh _ (gO a));have r:=r_ hok.tok (bP (aJ Ts k) s.2.2) (qg _ (gO a));have t:=Cj hok.tok h f;simp only at o p;have e:ck Ts (fC Ts s)=1:=by
  unfold fC;rw[l1,l2,r9,lN];have u:=fO (h.pos k);have v:=fO (h.pos s.2.2);have x:=fO (h.pos s.2.1);grind
 simp[e]
theorem J6{Ts:List Tb}{NN:List Str}(hok:cR Ts NN)(h:eK Ts=none):∃w,Cs Ts w:=by
 have pos:∀n,0<ck Ts (dI (aY Ts) n):=λn=>(wY hok.tok (kF hok (aY Ts) n λP h=>h).1).1;refine⟨λn=>ck Ts (dI (aY Ts) n),pos,λT g a ha b hb=>?_⟩;obtain⟨i,hi,e⟩:=getElem_of_mem g;have c:Ts[i]?=some T:=by rw[getElem?_eq_getElem hi,e]
 have d:=(o_ (hok.tok T g).ne).1;have key:∀o∈aA T,ck Ts (dI (aY Ts) o)*bQ T (gb T)=ck Ts (dI (aY Ts) (gb T))*bQ T o:=λo j=>by
  have k:(i,gb T,o)∈gG Ts:=by
   unfold gG;exact mem_flatMap.mpr ⟨(T,i),mem_zipIdx_iff_getElem?.mpr c,mem_map.mpr ⟨o,j,rfl⟩⟩
  unfold eK at h;rw[find?_eq_none] at h;have f:=h _ (mem_map_of_mem k);simp at f;unfold fC at f;rw[r9,lN] at f;have l:=r_ hok.tok (dI (aY Ts) o) (kF hok (aY Ts) o λP h=>h).1;have p1:=fO (iD (hok.tok T g) d).pos;have es:bG Ts (i,gb T,o)=bQ T o/bQ T (gb T):=by
   unfold bG;simp only[iC c]
  rw[es] at f;simp only at f;grind
 have m:=key a ha;have p:=key b hb;have p1:=fO (iD (hok.tok T g) d).pos;grind
theorem G2:∀{Gs:List aH} {NN:List Str},(∀P∈Gs,∃n∈ak P,n∈NN)->Gs.Pairwise (λP Q=>∀m,m∈ak P->m∉ak Q)->Gs.length<=NN.length:=by
 intro Gs NN h hd;have:∃a:List Str,a.length=Gs.length/\a.Nodup/\(∀x∈a,x∈NN)/\∀x∈a,∃P∈Gs,x∈ak P:=by
  induction Gs with
  |nil=>exact⟨[],rfl,nodup_nil,(λ_ h=>by cases h),(λ_ h=>by cases h)⟩
  |cons P Gs e=>
   obtain⟨f,g⟩:=pairwise_cons.mp hd;obtain⟨a,k1,k2,k3,d⟩:=e (λQ b=>h Q (mem_cons_of_mem _ b)) g;obtain⟨n,n1,n2⟩:=h P (mem_cons_self ..);refine⟨n::a,by simp[k1],nodup_cons.mpr ⟨λi=>?_,k2⟩,λx hx=>?_,λx hx=>?_⟩
   .obtain⟨Q,b,c⟩:=d n i
    exact f Q b n n1 c
   .rcases mem_cons.mp hx with rfl|hx
    .exact n2
    .exact k3 x hx
   .rcases mem_cons.mp hx with rfl|hx
    .exact⟨P,mem_cons_self ..,n1⟩
    .obtain⟨Q,b,c⟩:=d x hx
     exact⟨Q,mem_cons_of_mem _ b,c⟩
 obtain⟨a,k1,k2,k3,_⟩:=this;have:=jG a NN k2 k3;omega
end DP
namespace My
open L2 DP MA
end My
namespace DP
open L2 MA
theorem N_{A B:Ar}{q:Nat}{c d:C}(h:A[q]?=some d)(g:Gr (A.set q c) B):Gr A (B.set q d):=by
 obtain⟨T,rfl⟩:=g;refine⟨T,?_⟩;have a:=dJ h;rw[set_append_left _ _ (by simpa using a),set_set];congr 1;refine ext_getElem? λi=>?_;by_cases hi:i=q
 .rw[hi,getElem?_set_self a,h]
 .rw[getElem?_set_ne (Ne.symm hi)]
noncomputable def c8(Ts:List Tb)(P:aH)(n:Str):Rat:=ck Ts (bP P n)
def vJ:Ct:=λds A R _=>∃r q Ts NN n A0,ds=[.ref r,.ref q]/\fE A0 r Ts/\Gr A0 A/\cR Ts NN/\n∈NN/\eo A0.length A q (aJ Ts n)/\∀A' p kvs,Gr A A'->A'[p]?=some (.dct kvs)->A.length<=p->Fb kvs (ak (aJ Ts n)) (c8 Ts (aJ Ts n))->R (.ref p) A'
end DP
namespace My
open L2 DP MA
theorem Gf(T:TopD K mg "group_weights" By p5)(f:mg "dict"=none)(b:av P w K mg base 4 "comes_to" mK (au mg 2 ri)):av P w K mg base 5 "group_weights" p5 (au mg 2 vJ):=by
 refine bV T MH λN hR hx O nd=>⟨_,(aB (aP (iX (jq rfl) ju f boot_dict (aa (sr (fK none (own:=["name"]) (frees:=["by_place","paths"]) (ix:=[0,1]) rfl (oh (vr 1)) (λc=>(pG 0 (show(["name","by_place","paths"]:List Str).Nodup by decide+kernel))) (λc=>(bg (aa (vr 0) (aa (dL b N kO (aa (vr 1) (aa (dX O (vr 2) (vr 0)) af))) af)))))) af)))),λds A R h hl=>?_⟩;obtain⟨r,q,Ts,NN,n,S,rfl,U,V,hok,W,X,k⟩:=h;obtain⟨Y,kvs,hd,Z,hv⟩:=X;have hz:(1000:Nat)<=sizeLine:=by decide
 obtain⟨i,_,_⟩:=gQ hok W;have pl:=i.len;have JD:=hok.nn;have t:(ak (aJ Ts n)).length=(aJ Ts n).length:=by simp[ak]
 have y:=dJ hd;refine .inl ⟨q,kvs,hd,λo=>?_⟩;generalize e:A.set q (.bf o kvs)=u;have j:u[q]?=some (.bf o kvs):=by rw[<-e];exact getElem?_set_self y
 have B:Gr S u:=by rw[<-e];exact V.set Y
 have E:=U.gr B;refine tw j ?_;have ek:(kvs.map λp=>keyOf p.1)=(ak (aJ Ts n)).map D.str:=by
  have:(kvs.map λp=>keyOf p.1)=(kvs.map (·.1)).map keyOf:=by rw[map_map];rfl
  rw[this,Z,map_map];rfl
 rw[ek];refine rZ (λd=>match d with|.str m=>iB (c8 Ts (aJ Ts n)) m|d=>d) _ [] u (λA' g=>g.get j) (λd F l s=>?_) (by simp[t];omega) (λl s=>?_)
 .obtain⟨m,x,rfl⟩:=mem_map.mp F
  obtain⟨a,la,ga,ha⟩:=hv m x;have aq:a≠q:=λz=>by rw[z,hd] at ha;cases ha
  have G:u[a]?=some (.lst ((bP (aJ Ts n) m).map bH)):=by
   rw[<-e,getElem?_set_ne (Ne.symm aq)];exact ha
  refine⟨[.str m],rfl,λQ hQ=>?_⟩;refine zf (s.get j) rfl ga ?_;have pm:=gO x;have H:=i.pl _ pm;refine⟨rfl,r,a,Ts,_,rfl,E.gr s,hok.tok,s.get G,λst I=>qg _ pm st I,by simp at H;omega,λA3 g3=>⟨show 2<=sizeLine by omega,hQ _ g3⟩⟩
 have em:((ak (aJ Ts n)).map D.str).map (λd=>match d with|.str m=>iB (c8 Ts (aJ Ts n)) m|d=>d)=(ak (aJ Ts n)).map (iB (c8 Ts (aJ Ts n))):=by
  rw[map_map];rfl
 rw[nil_append,em];have v:Gr u (l++[C.lst ((ak (aJ Ts n)).map (iB (c8 Ts (aJ Ts n))))]):=s.trans Gr.push;have l2:A.length<=l.length:=by
  have:=s.len;rw[<-e,List.length_set] at this;exact this
 refine⟨kvs,v.get j,?_⟩;have L:Gr A ((l++[C.lst ((ak (aJ Ts n)).map (iB (c8 Ts (aJ Ts n))))]).set q (.dct kvs)):=N_ hd (by rw[e];exact v);have hL:((l++[C.lst ((ak (aJ Ts n)).map (iB (c8 Ts (aJ Ts n))))]).set q (.dct kvs))[l.length]?=some (.lst ((ak (aJ Ts n)).map (iB (c8 Ts (aJ Ts n))))):=by
  rw[getElem?_set_ne (by omega)];exact aR
 generalize ((l++[C.lst ((ak (aJ Ts n)).map (iB (c8 Ts (aJ Ts n))))]).set q (.dct kvs):Ar)=A3 at*
 refine sf hL (Ad _ _) (by simp[t];omega) ?_;have M:(((ak (aJ Ts n)).map λm=>((Sum.inr m:Key),fq (c8 Ts (aJ Ts n) m))).map (·.1))=(ak (aJ Ts n)).map Sum.inr:=by
  rw[map_map];rfl
 have J:=zS i.nd;have ep:kR ((ak (aJ Ts n)).map λm=>((Sum.inr m:Key),fq (c8 Ts (aJ Ts n) m)))=(ak (aJ Ts n)).map λm=>((Sum.inr m:Key),fq (c8 Ts (aJ Ts n) m)):=by
  have:=An ((ak (aJ Ts n)).map λm=>((Sum.inr m:Key),fq (c8 Ts (aJ Ts n) m))) [] (by rw[nil_append,M];exact J);simpa[kR] using this
 rw[ep];exact k _ _ _ (L.trans Gr.push) aR L.len ⟨M,i.nd,λm x=>yL (λm=>fq (c8 Ts (aJ Ts n) m)) _ m x⟩
end My
namespace DP
open L2 MA
theorem Cp(a:Str):¬strLt a a:=λh=>List.lt_irrefl _ (show a.cps.toList<a.cps.toList from h)
theorem Nq{a b:Str}(h:strLt a b):¬strLt b a:=λk=>List.lt_irrefl _ (List.lt_trans (show a.cps.toList<b.cps.toList from h) (show b.cps.toList<a.cps.toList from k))
theorem CT{α:Type}{r:α->α->Prop}(as:∀a b,r a b->¬r b a):∀{xs ys:List α},xs.Pairwise r->ys.Pairwise r->(∀x,x∈xs↔x∈ys)->xs=ys
 |[],[],_,_,_=>rfl
 |[],y::ys,_,_,h=>by have:=(h y).mpr (mem_cons_self ..);cases this
 |x::xs,[],_,_,h=>by have:=(h x).mp (mem_cons_self ..);cases this
 |x::xs,y::ys,g,i,h=>by
  obtain⟨d,j⟩:=pairwise_cons.mp g;obtain⟨f,l⟩:=pairwise_cons.mp i;have e:x=y:=by
   rcases mem_cons.mp ((h x).mp (mem_cons_self ..)) with e|m1
   .exact e
   rcases mem_cons.mp ((h y).mpr (mem_cons_self ..)) with e|m2
   .exact e.symm
   exact absurd (d y m2) (as _ _ (f x m1))
  subst e;have c:∀z,¬r z z:=λz k=>as _ _ k k;rw[CT as j l λz=>⟨λhz=>?_,λhz=>?_⟩]
  .rcases mem_cons.mp ((h z).mp (mem_cons_of_mem _ hz)) with rfl|k
   .exact absurd (d _ hz) (c _)
   .exact k
  .rcases mem_cons.mp ((h z).mpr (mem_cons_of_mem _ hz)) with rfl|k
   .exact absurd (f _ hz) (c _)
   .exact k
noncomputable def gp(ns:List Str):List Str:=open Classical in if h:∃ys:List Str,ys.Pairwise strLt/\∀x,x∈ys↔x∈ns then Classical.choose h else []
theorem nC{ns ys:List Str}(h1:ys.Pairwise strLt)(h2:∀x,x∈ys↔x∈ns):gp ns=ys:=by
 have h:∃ys:List Str,ys.Pairwise strLt/\∀x,x∈ys↔x∈ns:=⟨ys,h1,h2⟩;have e:gp ns=Classical.choose h:=by unfold gp;rw[dif_pos h]
 obtain⟨k1,k2⟩:=Classical.choose_spec h;rw[e];exact CT (λ_ _=>Nq) k1 h1 λx=>by rw[k2,h2]
noncomputable def ee(Ts:List Tb)(P:aH):List (Str×Int):=(gp (ak P)).zip (lw ((gp (ak P)).map (c8 Ts P)))
noncomputable def kZ(Ts:List Tb):List (Str×Int):=(aY Ts).flatMap (ee Ts)
def rF:Ct:=λds A R E=>∃x NN,ds=[x]/\bK A x=true/\(∀n∈NN,Nm n)/\(∀ms,fG x ms->cR (ms.map aG) NN/\(eK (ms.map aG)=none->(∀P∈aY (ms.map aG),∀n∈ak P,gW (c8 (ms.map aG) P n))/\∀A' rs,Gr A A'->rs.Perm (kZ (ms.map aG))->(rs.map (·.1)).Pairwise strLt->R (d7 rs) A')/\(eK (ms.map aG)≠none->∀A',Gr A A'->E "Never" A'))/\((¬∃ms,fG x ms)->∀A',Gr A A'->E "NoHall" A')
abbrev qo:KeyOrd:=kQ d_ (kQ oJ nv)
def m7:D->qo.α
 |.tup [.str n,.int a]=>(n.cps.toList,a,())
 |_=>([],(0:Int),())
theorem rw_ltU(p q:Str×Int):ltQ (toQ (aW p)) (toQ (aW q))=some (qo.blt (m7 (aW p)) (m7 (aW q))):=
 Ji (O:=kQ oJ nv) (Jg (O:=nv) Jh)
theorem rw_okU{p:Str×Int}(h:Nm p.1):eH (aW p)=true/\(toQ (aW p)).canLay0=true/\(toQ (aW p)).depth<=60/\∃x r,toQ (aW p)=.tuple (.str x::r):=by
 have h1:=h.ok;refine⟨rfl,?_,?_,_,_,rfl⟩
 .simp[aW,toQ,bu,canLay0,canLayAll0] at h1 ⊢
  exact h1
 .simp[aW,toQ,bu,PyData.depth,depthAll]
theorem we:∀{ds:List D},(∀d∈ds,∃p,d=aW p)->∃rs:List (Str×Int),ds=rs.map aW
 |[],_=>⟨[],rfl⟩
 |d::ds,h=>by
  obtain⟨rs,rfl⟩:=we (ds:=ds) λx a=>h x (mem_cons_of_mem _ a);obtain⟨p,rfl⟩:=h d (mem_cons_self ..);exact⟨p::rs,rfl⟩
theorem K9{rs qs:List (Str×Int)}(h:(rs.map aW).Perm (qs.map aW)):rs.Perm qs:=by
 have inv:∀l:List (Str×Int),(l.map aW).map (λd=>match d with|.tup [.str n,.int a]=>(n,a)|_=>(("":Str),(0:Int)))=l:=λl=>by
  rw[map_map];have:((λd=>match d with|D.tup [.str n,.int a]=>(n,a)|_=>(("":Str),(0:Int)))∘aW)=id:=by
   funext p;rfl
  rw[this,List.map_id]
 have:=h.map (λd=>match d with|.tup [.str n,.int a]=>(n,a)|_=>(("":Str),(0:Int)));rw[inv,inv] at this;exact this
theorem N8{Ts:List Tb}{P:aH}(h:∃ys:List Str,ys.Pairwise strLt/\∀x,x∈ys↔x∈ak P):(ee Ts P).map (·.1)=gp (ak P)/\(gp (ak P)).Pairwise strLt/\∀x,x∈gp (ak P)↔x∈ak P:=by
 obtain⟨ys,h1,h2⟩:=h;rw[nC h1 h2];refine⟨?_,h1,h2⟩;unfold ee;rw[nC h1 h2];exact map_fst_zip (by rw[kH,length_map];exact le_refl _)
theorem OF(ns:List Str):(gp ns).length<=ns.length:=by
 by_cases h:∃ys:List Str,ys.Pairwise strLt/\∀x,x∈ys↔x∈ns
 .obtain⟨ys,h1,h2⟩:=h
  rw[nC h1 h2];refine jG ys ns (Pairwise.imp (S:=λa b:Str=>a≠b) (λ {a b} c (z:a=b)=>Cp b (by rw[z] at c;exact c)) h1) λx d=>(h2 x).mp d
 .have:gp ns=[]:=by unfold gp;rw[dif_neg h]
  rw[this];exact zero_le _
theorem CC(Ts:List Tb)(P:aH):(ee Ts P).length<=(ak P).length:=by
 have:=OF (ak P);unfold ee;rw[length_zip];omega
theorem yq{f:aH->List (Str×Int)}{k:Nat}:∀{l:List aH},(∀P∈l,(f P).length<=k)->(l.flatMap f).length<=k*l.length
 |[],_=>by simp
 |P::l,h=>by
  have h1:=yq (l:=l) λQ a=>h Q (mem_cons_of_mem _ a);have h2:=h P (mem_cons_self ..);rw[flatMap_cons,length_append,length_cons,Nat.mul_succ];omega
theorem CD{Ts:List Tb}:∀{Gs:List aH},Gs.Pairwise (λP Q=>∀m,m∈ak P->m∉ak Q)->(∀P∈Gs,∃ys:List Str,ys.Pairwise strLt/\∀x,x∈ys↔x∈ak P)->((Gs.flatMap (ee Ts)).map (·.1)).Nodup/\∀x,x∈(Gs.flatMap (ee Ts)).map (·.1)↔x∈cS Gs
 |[],_,_=>⟨nodup_nil,λx=>by simp[cS]⟩
 |P::Gs,hd,e=>by
  obtain⟨f,g⟩:=pairwise_cons.mp hd;obtain⟨i1,i2⟩:=CD (Ts:=Ts) g λQ d=>e Q (mem_cons_of_mem _ d);obtain⟨n1,n2,n3⟩:=N8 (Ts:=Ts) (e P (mem_cons_self ..));rw[flatMap_cons,map_append,n1];constructor
  .rw[nodup_append]
   refine⟨Pairwise.imp (S:=λa b:Str=>a≠b) (λ {a b} c (z:a=b)=>Cp b (by rw[z] at c;exact c)) n2,i1,λa ha b hb z=>?_⟩;subst z;obtain⟨Q,d,h⟩:=mem_flatMap.mp (show a∈Gs.flatMap ak from (i2 a).mp hb);exact f Q d a ((n3 a).mp ha) h
  .intro x
   rw[mem_append,n3,i2];simp[cS]
theorem L_{rs:List (Str×Int)}(f:(rs.map (·.1)).Nodup)(e:(rs.map aW).Pairwise (λa b=>qo.kle (m7 a) (m7 b))):(rs.map (·.1)).Pairwise strLt:=by
 rw[pairwise_map] at e;have d:rs.Pairwise λa b=>a.1≠b.1:=pairwise_map.mp f;refine pairwise_map.mpr ((e.and d).imp ?_);rintro a b ⟨k1,k2⟩;have k1:(d_.blt b.1.cps.toList a.1.cps.toList||(!d_.blt a.1.cps.toList b.1.cps.toList&&(kQ oJ nv).blt (b.2,()) (a.2,())))=false:=k1;rw[Bool.or_eq_false_iff] at k1;have k3:d_.blt a.1.cps.toList b.1.cps.toList=true:=by
  cases c:d_.blt a.1.cps.toList b.1.cps.toList with
  |true=>rfl
  |false=>exact absurd (Cq (d_.total _ _ c k1.1)) k2
 exact show a.1.cps.toList<b.1.cps.toList from of_decide_eq_true k3
end DP
namespace My
open L2 DP MA
theorem GJ(T:TopD K mg "together" BS qf)(k:mg "sorted"=none)(s:mg "tuple"=none)(g:av P w K mg base 13 "hall_shares" mQ (au mg 1 rq))(a:av P w K mg base 6 "check_no_ring" pY (au mg 1 vU))(l:av P w K mg base 3 "groups" mP (au mg 1 rm))(b:av P w K mg base 3 "least_weights" mS (au mg 1 rz))(c:av P w K mg base 5 "group_weights" p5 (au mg 2 vJ)):av P w K mg base 14 "together" qf (au mg 1 rF):=by
 refine bV T MX λM hR E hu nd=>⟨_,(ay (dS 1 nd (dL g M E (aa (vr 0) af)))
  (ay (fY (dL a M E (aa (vr 1) af)))
  (ay (dS 2 nd (eE af))
  (ay (fu d9 rfl (dP (dL l M E (aa (vr 1) af))) (dG 3 nd) (aB (fY (jw plainAttrs_list slot_list_extend type_list_extend JA EM (vr 2) (aa (dL b M E (aa (dL c M E (aa (vr 1) (aa (vr 3) af))) af)) af)))))
  (aB (aP (iX Ed E6 s boot_tuple (aa (cZ (Eb rfl hu) E4 k boot_sorted (aa (vr 2) af)) af)))))))),λds A R h hl=>?_⟩
 obtain⟨x,NN,rfl,hk,Hh,q1,q2⟩:=h;have hz:(1000:Nat)<=sizeLine:=by decide
 refine⟨rfl,x,rfl,hk,λms hH A1 r Z hB l1=>?_,λF A1 Z=>q2 F _ Z⟩;obtain⟨hok,q4,q5⟩:=q1 ms hH;refine⟨rfl,r,_,NN,rfl,hB,hok,λe u g2=>?_,λe u g2=>q5 e _ (Z.trans g2)⟩;obtain⟨hF,q6⟩:=q4 e;have N:=hB.gr g2;clear q1 q2 q4 q5;generalize O6:ms.map aG=Ts at*
 refine⟨zero_le _,rfl,r,Ts,NN,rfl,N.gr Gr.push,hok,λA3 q3 g3 hG=>?_⟩;obtain⟨lq,gs,O,G⟩:=hG;have mw:=G.len;have H:(u++[C.lst []]).length=u.length+1:=by simp
 rw[H] at G lq;have gl:(aY Ts).length<=12:=by
  have:=G2 (Gs:=aY Ts) (NN:=NN) (λP hP=>?_) (oH hok)
  .have:=hok.nn
   omega
  .obtain⟨n,F,_,rfl⟩:=iw hok hP
   exact⟨n,(gQ hok F).2.1,F⟩
 have HA:A3[u.length]?=some (.lst []):=g3.get aR;refine eG O ?_;refine eZ (λrest τ A'=>∃(L f:List Nat) (i:Nat) (x3:Option D),rest=f.map D.ref/\L++f=gs/\i=L.length/\τ=[some x,some (.ref r),some (.ref u.length),x3]/\A'[u.length]?=some (.lst ((((aY Ts).take i).flatMap (ee Ts)).map aW))/\A'[q3]?=some (.lst (gs.map D.ref))/\dc (u.length+1) A' gs (aY Ts)/\Gr u A'/\(∀P∈(aY Ts).take i,∃ys:List Str,ys.Pairwise strLt/\∀x,x∈ys↔x∈ak P)) ?_ ?_ ?_ _ _ _ ⟨[],gs,0,none,rfl,rfl,rfl,rfl,HA,O,G,Gr.push.trans g3,λP h=>by simp at h⟩
 .rintro rest τ A' ⟨_,_,_,_,_,_,_,_,_,h,_⟩
  exact h
 .rintro v rest τ A4 ⟨L,f,i,x3,e1,o,hi,rfl,j,S,I,g4,y⟩ Nx hN
  cases f with
  |nil=>cases e1
  |cons t f=>
  cases e1;have hgt:gs[i]?=some t:=by rw[hi,<-o];simp
  obtain⟨Pg,U,Hj⟩:=I.get hgt;have B:=mem_of_getElem? U;obtain⟨n,F,_,FD⟩:=iw hok B;subst FD;obtain⟨qi,pin,_⟩:=gQ hok F;refine⟨jA j,rfl,r,t,Ts,NN,n,u,rfl,N,g4,hok,F,Hj.lo (by omega),λA5 p kvs g5 h5 l5 fb=>?_⟩;have Po:=qi.len;have JD:=hok.nn;have Pd:(ak (aJ Ts n)).length=(aJ Ts n).length:=by simp[ak]
  refine⟨rfl,p,kvs,_,_,rfl,h5,fb,by omega,(λz=>by rw[z] at pin;cases pin),λm hm=>hF _ B m hm,λA6 ys g6 y1 y2=>?_⟩;have eU:=nC y1 y2;have et:ys.zip (lw (ys.map (c8 Ts (aJ Ts n))))=ee Ts (aJ Ts n):=by
   unfold ee;rw[eU]
  rw[et];have V:=g6.get (g5.get j);have W:((aY Ts).take (i+1))=(aY Ts).take i++[aJ Ts n]:=by
   rw[take_succ,U];rfl
  have X:=(g4.trans g5).trans g6;have sz:((((aY Ts).take i).flatMap (ee Ts)).map aW).length+((ee Ts (aJ Ts n)).map aW).length<=sizeLine:=by
   have b1:(((aY Ts).take i).flatMap (ee Ts)).length<=12*((aY Ts).take i).length:=yq λQ hQ=>by
    obtain⟨n',J,_,rfl⟩:=iw hok (mem_of_mem_take hQ);have:=CC Ts (aJ Ts n');have:=(gQ hok J).1.len;simp[ak] at*
    omega
   have b2:=CC Ts (aJ Ts n);have b3:((aY Ts).take i).length<=12:=by rw[length_take];omega
   rw[length_map,length_map];omega
  refine FT V sz ?_;refine hN _ _ ⟨L++[t],f,i+1,_,rfl,by simpa using o,by simp[hi],rfl,?_,?_,?_,X.set (le_refl _),λP hP=>?_⟩
  .rw[W,flatMap_append,map_append]
   have:([aJ Ts n].flatMap (ee Ts))=ee Ts (aJ Ts n):=by simp
   rw[this];exact getElem?_set_self (dJ V)
  .rw[getElem?_set_ne (by omega)]
   exact g6.get (g5.get S)
  .exact I.iy λq P hP=>(hP.gr (g5.trans g6)).set (by omega)
  .rw[W] at hP
   rcases mem_append.mp hP with hP|hP
   .exact y P hP
   .rw[mem_singleton.mp hP]
    exact⟨ys,y1,y2⟩
 .rintro τ A4 ⟨L,f,i,x3,e1,o,hi,rfl,j,S,I,g4,y⟩
  cases f with
  |cons _ _=>cases e1
  |nil=>
  have o:L=gs:=by simpa using o
  have hil:i=(aY Ts).length:=by rw[hi,o,mw]
  rw[hil,List.take_of_length_le (le_refl _)] at j y;have j:A4[u.length]?=some (.lst ((kZ Ts).map aW)):=j;obtain⟨t1,t2⟩:=CD (Ts:=Ts) (oH hok) y;have Y:∀x∈(kZ Ts).map (·.1),x∈NN:=λx E=>by
   obtain⟨Q,hQ,hq⟩:=mem_flatMap.mp (show x∈(aY Ts).flatMap ak from (t2 x).mp E);obtain⟨n',J,_,rfl⟩:=iw hok hQ;exact(gQ hok J).1.sub x hq
  have IW:(kZ Ts).length<=12:=by
   have:=jG _ NN t1 Y;have:=hok.nn;rw[length_map] at*
   exact le_trans (by assumption) (by assumption)
  refine Nd qo m7 j (by rw[length_map];omega) (λd hd=>?_) (λd hd e he=>?_) λes pe se=>?_
  .obtain⟨p,hp,rfl⟩:=mem_map.mp hd
   exact rw_okU (Hh _ (Y _ (mem_map_of_mem hp)))
  .obtain⟨p,hp,rfl⟩:=mem_map.mp hd
   obtain⟨p',O9,rfl⟩:=mem_map.mp he;exact rw_ltU p p'
  obtain⟨rs,rfl⟩:=we (ds:=es) λd hd=>by
   obtain⟨p,_,rfl⟩:=mem_map.mp (pe.mem_iff.mp hd);exact⟨p,rfl⟩
  have pr:=K9 pe;refine Oc aR ?_;exact q6 _ rs (((Z.trans g2).trans g4).trans Gr.push) pr (L_ ((pr.map (·.1)).nodup_iff.mpr t1) se)
end My
namespace DP
open L2 MA
end DP
namespace My
open L2 DP MA
end My
namespace DP
open L2 MA
end DP
namespace My
open L2 DP MA
end My
namespace DP
open L2 MA
end DP
namespace My
open L2 DP MA
end My
namespace DP
open L2 MA
def N6:List Str:=["a","b","c","d","e","f"]
theorem pC:∀n∈N6,Nm n:=λn a=>by
 simp only[N6,mem_cons,not_mem_nil,or_false] at a;rcases a with rfl|rfl|rfl|rfl|rfl|rfl<;>exact⟨by decide+kernel,by decide+kernel,by decide+kernel⟩
def One(m:M):Prop:=(∃n∈N6,m=.wt n)\/∃(l r:Int) (a b:Str),m=.aM l r (.wt a) (.wt b)/\(1<=l/\l<=9)/\(1<=r/\r<=9)/\a∈N6/\b∈N6/\a≠b
theorem L6{k i:Nat}{v:D}{rest:List D}(h:v::rest=(dw 0 k).drop i):v=.int ((i:Nat):Int)/\rest=(dw 0 k).drop (i+1)/\i<k:=by
 have l:(dw 0 k).length=k:=by simp[dw]
 have hi:i<k:=by
  have:=congrArg List.length h;rw[length_drop,l] at this;simp at this;omega
 rw[drop_eq_getElem_cons (by omega),List.cons.injEq] at h;refine⟨?_,h.2,hi⟩;rw[h.1];simp[dw]
end DP
namespace My
open L2 DP MA
end My
namespace DP
open L2 MA
theorem p9{k:Nat}(h:k<=6):(9:Int) ^ k<=531441:=by
 have:(9:Nat) ^ k<=9 ^ 6:=pow_le_pow_right (by decide) h;have e:((9:Int)) ^ k=((9 ^ k:Nat):Int):=by rw[natCast_pow];rfl
 rw[e];have:(9:Nat) ^ 6=531441:=by decide
 omega
end DP
namespace My
open L2 DP MA
end My
namespace DP
open L2 MA
theorem di{m:M}(h:One m):Hl m:=by
 rcases h with⟨n,i,rfl⟩|⟨l,r,a,b,rfl,f,g,ha,hb,c⟩
 .refine⟨⟨trivial,λx d=>?_⟩,by decide+revert,rfl⟩
  rw[show x=n by simpa[aD.names] using d];exact pC n i
 .refine⟨⟨⟨f.1,f.2,g.1,g.2,trivial,trivial⟩,λx d=>?_⟩,show max 0 0+1<=5 by decide,?_⟩
  .have:x=a\/x=b:=by simpa[aD.names] using d
   rcases this with rfl|rfl
   .exact pC _ ha
   .exact pC _ hb
  .have e:aZ (.aM l r (.wt a) (.wt b)) "" 1=[(""++("l":Str),a,1*((r:Rat)/((l+r:Int):Rat))),(""++("r":Str),b,1*((l:Rat)/((l+r:Int):Rat)))]:=rfl
   rw[e];simp[bC,c]
theorem nc{l r:Int}{a b:Str}(c:a≠b):shr (.aM l r (.wt a) (.wt b)) a=(r:Rat)/((l+r:Int):Rat)/\shr (.aM l r (.wt a) (.wt b)) b=(l:Rat)/((l+r:Int):Rat):=by
 have e:aZ (.aM l r (.wt a) (.wt b)) "" 1=[(""++("l":Str),a,1*((r:Rat)/((l+r:Int):Rat))),(""++("r":Str),b,1*((l:Rat)/((l+r:Int):Rat)))]:=rfl;unfold shr;rw[e];constructor
 .simp[Rat.one_mul]
 .simp[c,Rat.one_mul]
theorem i_{ms:List M}(g:ms.length<=6)(h:∀m∈ms,One m):cR (ms.map aG) N6:=by
 refine⟨by rw[length_map];omega,λT d=>?_,by decide,λT d n e=>?_⟩
 .obtain⟨m,c,rfl⟩:=mem_map.mp d
  exact(iF (di (h m c))).1
 .obtain⟨m,c,rfl⟩:=mem_map.mp d
  have:=((iF (di (h m c))).2.1 n).mp e;rcases h m c with⟨k,f,rfl⟩|⟨l,r,a,b,rfl,_,_,ha,hb,_⟩
  .rw[show n=k by simpa[aD.names] using this]
   exact f
  .have:n=a\/n=b:=by simpa[aD.names] using this
   rcases this with rfl|rfl
   .exact ha
   .exact hb
section
open Classical
abbrev RM(ms:List M)(a b:Str):Prop:=fj (ms.map aG) a b
theorem DI{ms:List M}(h:∀m∈ms,One m){a b:Str}:iI (ms.map aG) a b↔∃m∈ms,a∈m.names/\b∈m.names:=by
 constructor
 .rintro ⟨T,d,h1,h2⟩
  obtain⟨m,c,rfl⟩:=mem_map.mp d;have k:=(iF (di (h m c))).2.1;exact⟨m,c,(k a).mp h1,(k b).mp h2⟩
 .rintro ⟨m,c,h1,h2⟩
  have k:=(iF (di (h m c))).2.1;exact⟨_,mem_map_of_mem c,(k a).mpr h1,(k b).mpr h2⟩
end
section
open Classical
theorem Nr(a:Str):¬strLt a a:=λh=>List.lt_irrefl _ (show a.cps.toList<a.cps.toList from h)
theorem Np{a b:Str}(h:strLt a b):¬strLt b a:=λk=>List.lt_irrefl _ (List.lt_trans (show a.cps.toList<b.cps.toList from h) (show b.cps.toList<a.cps.toList from k))
theorem up_eq{α:Type}{r:α->α->Prop}(as:∀a b,r a b->¬r b a):∀{xs ys:List α},xs.Pairwise r->ys.Pairwise r->(∀x,x∈xs↔x∈ys)->xs=ys
 |[],[],_,_,_=>rfl
 |[],y::ys,_,_,h=>by have:=(h y).mpr (mem_cons_self ..);cases this
 |x::xs,[],_,_,h=>by have:=(h x).mp (mem_cons_self ..);cases this
 |x::xs,y::ys,g,i,h=>by
  obtain⟨d,j⟩:=pairwise_cons.mp g;obtain⟨f,l⟩:=pairwise_cons.mp i;have e:x=y:=by
   rcases mem_cons.mp ((h x).mp (mem_cons_self ..)) with e|m1
   .exact e
   rcases mem_cons.mp ((h y).mpr (mem_cons_self ..)) with e|m2
   .exact e.symm
   exact absurd (d y m2) (as _ _ (f x m1))
  subst e;have c:∀z,¬r z z:=λz k=>as _ _ k k;rw[up_eq as j l λz=>⟨λhz=>?_,λhz=>?_⟩]
  .rcases mem_cons.mp ((h z).mp (mem_cons_of_mem _ hz)) with rfl|k
   .exact absurd (d _ hz) (c _)
   .exact k
  .rcases mem_cons.mp ((h z).mpr (mem_cons_of_mem _ hz)) with rfl|k
   .exact absurd (f _ hz) (c _)
   .exact k
end
theorem zb{a b c:Int}(h:a∣b*c)(g:Int.gcd a b=1):a∣c:=
 Int.natAbs_dvd_natAbs.mp (Nat.Coprime.dvd_of_dvd_mul_left (show Nat.Coprime a.natAbs b.natAbs from g) (by rw[<-Int.natAbs_mul];exact Int.natAbs_dvd_natAbs.mpr h))
theorem Jm{xs:List Rat}(m:∀x∈xs,0<x){c:Rat}(hc:0<c):lw (xs.map (c*·))=lw xs:=by
 by_cases b:xs=[]
 .subst b
  rfl
 have g:∀x∈xs.map (c*·),0<x:=λx s=>by
  obtain⟨y,t,rfl⟩:=mem_map.mp s;exact Rat.mul_pos hc (m y t)
 have d:xs.map (c*·)≠[]:=by simpa using b
 obtain⟨k,q,e⟩:=tV m b;obtain⟨r,o,u⟩:=tV g d;have l1:=kH xs;have l2:=kH (xs.map (c*·));rw[length_map] at l2;obtain⟨a,h⟩:∃a:Rat,a=r*c/k:=⟨_,rfl⟩;have v:=fO q;have rel:∀i (h1:i<(lw xs).length) (h2:i<(lw (xs.map (c*·))).length),(((lw (xs.map (c*·)))[i]:Int):Rat)=a*(((lw xs)[i]:Int):Rat):=λi h1 h2=>by
  have a1:((lw xs).map (λn:Int=>(n:Rat)))[i]?=(xs.map (k*·))[i]? :=by rw[e]
  have a2:((lw (xs.map (c*·))).map (λn:Int=>(n:Rat)))[i]?=((xs.map (c*·)).map (r*·))[i]? :=by rw[u]
  have hi:i<xs.length:=by omega
  rw[getElem?_eq_getElem (by simpa using h1),getElem?_eq_getElem (by simpa using hi)] at a1;rw[getElem?_eq_getElem (by simpa using h2),getElem?_eq_getElem (by simpa using hi)] at a2;have a1:=Option.some.inj a1;have a2:=Option.some.inj a2;simp at a1 a2;rw[a1,a2,h];grind
 have f:(0:Int)<(a.den:Int):=Int.natCast_pos.mpr a.den_pos;have w:=dg (Int.ne_of_gt f);have int:∀i (h1:i<(lw xs).length) (h2:i<(lw (xs.map (c*·))).length),(a.den:Int)*(lw (xs.map (c*·)))[i]=a.num*(lw xs)[i]:=λi h1 h2=>by
  have:=rel i h1 h2;have ev:a=(a.num:Rat)/((a.den:Int):Rat):=(gj a).symm;rw[ev] at this;refine Rat.intCast_inj.mp ?_;rw[Rat.intCast_mul,Rat.intCast_mul,this];grind
 have j:Int.gcd a.num (a.den:Int)=1:=by
  have:=a.reduced;exact this
 have z:(a.den:Int)∣1:=tU m b λn p=>by
  obtain⟨i,hi,rfl⟩:=getElem_of_mem p;have:=int i hi (by omega);have hd:(a.den:Int)∣a.num*(lw xs)[i]:=⟨_,this.symm⟩;exact zb hd (by rw[Int.gcd_comm];exact j)
 have A:a.num∣1:=tU g d λn p=>by
  obtain⟨i,hi,rfl⟩:=getElem_of_mem p;have:=int i (by omega) hi;have hd:a.num∣(a.den:Int)*(lw (xs.map (c*·)))[i]:=⟨_,this⟩;exact zb hd j
 have l:0<a.num:=by
  have:0<a:=by
   rw[h,Rat.div_def];exact Rat.mul_pos (Rat.mul_pos o hc) (Rat.inv_pos.mpr q)
  exact dh this
 have n1:a.num=1:=Int.eq_one_of_dvd_one (Int.le_of_lt l) A;have B:(a.den:Int)=1:=Int.eq_one_of_dvd_one (Int.le_of_lt f) z;refine List.ext_getElem (by omega) λi h1 h2=>?_;have:=int i h2 h1;rw[n1,B] at this;omega
theorem Na{ms:List M}(h:∀m∈ms,One m){s:aU}(t:cJ (ms.map aG) s):∃p q:Int,(1<=p/\p<=9)/\(1<=q/\q<=9)/\bG (ms.map aG) s=(p:Rat)/(q:Rat):=by
 obtain⟨T,h1,h2,f⟩:=t;have d:=mem_of_getElem? h1;unfold bG;rw[iC h1,iC h1];obtain⟨m,g,rfl⟩:=mem_map.mp d;have c:=iF (di (h m g));have f2:=fO (iD c.1 h2).pos;have a:=(c.2.1 _).mp h2;have b:=(c.2.1 _).mp f;have same:s.2.1=s.2.2->∃p q:Int,(1<=p/\p<=9)/\(1<=q/\q<=9)/\bQ (aG m) s.2.2/bQ (aG m) s.2.1=(p:Rat)/(q:Rat):=λe=>by
  refine⟨1,1,⟨by decide,by decide⟩,⟨by decide,by decide⟩,?_⟩;have:((1:Int):Rat)=1:=rfl;rw[<-e,this];grind
 by_cases e:s.2.1=s.2.2
 .exact same e
 rw[c.2.2 _ h2,c.2.2 _ f];rcases h m g with⟨n,_,rfl⟩|⟨l,r,x,y,rfl,i,j,_,_,u⟩
 .exact absurd ((show s.2.1=n by simpa[aD.names] using a).trans (show s.2.2=n by simpa[aD.names] using b).symm) e
 .obtain⟨k,o⟩:=nc (l:=l) (r:=r) u
  have z:=dg (show(l+r:Int)≠0 by omega);have v:=dg (show(l:Int)≠0 by omega);have w:=dg (show(r:Int)≠0 by omega);have a:s.2.1=x\/s.2.1=y:=by simpa[aD.names] using a
  have b:s.2.2=x\/s.2.2=y:=by simpa[aD.names] using b
  rcases a with a|a<;>rcases b with b|b
  .exact absurd (a.trans b.symm) e
  .refine⟨l,r,i,j,?_⟩
   rw[a,b,k,o];grind
  .refine⟨r,l,j,i,?_⟩
   rw[a,b,k,o];grind
  .exact absurd (a.trans b.symm) e
theorem w4{ms:List M}(h:∀m∈ms,One m):∀(c:List aU) (x:Rat) (k:Nat),(∀s∈c,cJ (ms.map aG) s)->0<x->(rf x).1<=(9:Int) ^ k->(rf x).2<=(9:Int) ^ k->0<c.foldl (λx s=>x*bG (ms.map aG) s) x/\(rf (c.foldl (λx s=>x*bG (ms.map aG) s) x)).1<=(9:Int) ^ (k+c.length)/\(rf (c.foldl (λx s=>x*bG (ms.map aG) s) x)).2<=(9:Int) ^ (k+c.length)
 |[],x,k,_,h1,h2,d=>⟨h1,h2,d⟩
 |s::c,x,k,f,h1,h2,d=>by
  obtain⟨p,q,w,A,e⟩:=Na h (f s (mem_cons_self ..));have pos:0<bG (ms.map aG) s:=by
   rw[e,Rat.div_def];have j:(0:Rat)<(p:Rat):=by
    have:((0:Int):Rat)<(p:Rat):=Rat.intCast_lt_intCast.mpr (by omega);simpa using this
   have l:(0:Rat)<(q:Rat):=by
    have:((0:Int):Rat)<(q:Rat):=Rat.intCast_lt_intCast.mpr (by omega);simpa using this
   exact Rat.mul_pos j (Rat.inv_pos.mpr l)
  obtain⟨n,o⟩:=qk (a:=p) (b:=q) (by omega) (by omega);rw[<-e] at n o;have z:(0:Int)<=9 ^ k:=pow_nonneg (by decide);have r:=dh h1;have xd:=cK x;have g:=dh pos;have i:=cK (bG (ms.map aG) s);obtain⟨t,u⟩:=qk (a:=(rf x).1*(rf (bG (ms.map aG) s)).1) (b:=(rf x).2*(rf (bG (ms.map aG) s)).2) (mul_pos r g) (mul_pos xd i);rw[AS] at t u;have B:(rf x).1*(rf (bG (ms.map aG) s)).1<=9 ^ k*9:=mul_le_mul h2 (by omega) (Int.le_of_lt g) z;have C:(rf x).2*(rf (bG (ms.map aG) s)).2<=9 ^ k*9:=mul_le_mul d (by omega) (Int.le_of_lt i) z;have:=w4 h c (x*bG (ms.map aG) s) (k+1) (λy v=>f y (mem_cons_of_mem _ v)) (Rat.mul_pos h1 pos) (by rw[pow_succ];omega) (by rw[pow_succ];omega);rw[foldl_cons,length_cons,show k+(c.length+1)=k+1+c.length by omega];exact this
theorem G7{ms:List M}(h:∀m∈ms,One m)(d:ms.length<=6):∀P∈aY (ms.map aG),∀n∈ak P,gW (c8 (ms.map aG) P n):=λP e n f=>by
 have hok:=i_ d h;obtain⟨b,c,_,rfl⟩:=iw hok e;have a:=(gQ hok c).1;have pm:=gO f;have pl:=a.pl _ pm;have pn:=a.len;have i:N6.length=6:=rfl;obtain⟨k1,k2,k3⟩:=w4 h (bP (aJ (ms.map aG) b) n) 1 0 (λs g=>qg _ pm s g) (by decide) (by rw[uG];decide) (by rw[uG];decide);have j:(bP (aJ (ms.map aG) b) n).length<=6:=by
  simp at pl;omega
 have:=p9 (k:=0+(bP (aJ (ms.map aG) b) n).length) (by omega);exact⟨k1,by show(rf (ck _ _)).1<=_;unfold ck;omega,by show(rf (ck _ _)).2<=_;unfold ck;omega⟩
theorem G8{ms:List M}(h:∀m∈ms,One m)(b:ms.length<=6){w:Str->Rat}(c:Cs (ms.map aG) w){a n:Str}(d:a∈N6)(e:n∈ak (aJ (ms.map aG) a)):c8 (ms.map aG) (aJ (ms.map aG) a) n*w a=w n:=by
 have hok:=i_ b h;exact rW hok.tok c (qh _ (gO e))
def qR(ms:List M)(n:Str):Prop:=∃m∈ms,n∈m.names
theorem G1{ms:List M}(h:∀m∈ms,One m)(g:ms.length<=6){n:Str}(c:qR ms n):∃b∈N6,aJ (ms.map aG) b∈aY (ms.map aG)/\∀x,x∈ak (aJ (ms.map aG) b)↔RM ms n x:=by
 obtain⟨m,d,c⟩:=c;have hok:=i_ g h;have:=oG hok (mem_map_of_mem d) (((iF (di (h m d))).2.1 n).mpr c);obtain⟨P,e,i⟩:=mem_flatMap.mp this;obtain⟨b,a,_,rfl⟩:=iw hok e;have f:=(kP hok a).mp i;exact⟨b,a,e,λx=>by rw[kP hok a];exact⟨λz=>f.symm.trans z,λz=>f.trans z⟩⟩
theorem G4{ms:List M}(h:∀m∈ms,One m)(e:ms.length<=6){P:aH}(f:P∈aY (ms.map aG)):∃a∈N6,qR ms a/\P=aJ (ms.map aG) a/\∀x,x∈ak P↔RM ms a x:=by
 have hok:=i_ e h;obtain⟨a,b,⟨T,g,c⟩,rfl⟩:=iw hok f;obtain⟨m,d,rfl⟩:=mem_map.mp g;exact⟨a,b,⟨m,d,((iF (di (h m d))).2.1 a).mp c⟩,rfl,λx=>kP hok b⟩
theorem Nc{mg:aj}{n:Nat}{S a:Ct}(h:∀ds A R E,a ds A R E->S ds A R E):∀vs H Q E,au mg n a vs H Q E->au mg n S vs H Q E:=λvs H Q E ⟨A,ι,ds,R,RE,h1,h2,b,c,d⟩=>⟨A,ι,ds,R,RE,h1,h2,b,h _ _ _ _ c,d⟩
theorem El:∀ds A R E,q9 ds A R E->q_ ds A R E:=λds A R E ⟨v,⟨m,e,a,hd,ev⟩,q⟩=>⟨enc m,e,mF a.nm,λA' g=>by
 rw[if_pos (oU a hd),<-ev];exact q A' g⟩
end DP
namespace My
open L2 DP MA
theorem F9(F:av P w K mg base 9 "check_mobile" kK (au mg 1 q_)):av P w K mg base 9 "check_mobile" kK (au mg 1 q9):=by
 obtain⟨f,fd,a,h1,h2⟩:=F;exact⟨f,fd,a.imp (Nc El),h1,h2⟩
end My
namespace DP
open L2 MA
def fc(j:Nat):Str:=⟨#[97+j%26,120+j/26]⟩
theorem JK{i j:Nat}(h:fc i=fc j):i=j:=by
 unfold fc at h;simp at h;omega
theorem JM{j:Nat}(h:j<78):Nm (fc j):=by
 refine⟨by show 1<=2;decide,by show 2<=3;decide,λc hc=>?_⟩;have:c=97+j%26\/c=120+j/26:=by simpa[fc] using hc
 omega
def gS(t c:Nat)(A A':Ar):Prop:=∀q x,q≠t->q≠c->A[q]?=some x->A'[q]?=some x
theorem gS.refl{t c:Nat}{A:Ar}:gS t c A A:=λ_ _ _ _ h=>h
theorem gS.trans{t c:Nat}{A B C:Ar}(a:gS t c A B)(b:gS t c B C):gS t c A C:=λq x h1 h2 h=>b q x h1 h2 (a q x h1 h2 h)
theorem cY.two{t c:Nat}{A A':Ar}(b:cY t A A'):gS t c A A':=λq x h1 _ h=>b q x h1 h
def Cn(c k:Nat)(A:Ar):Prop:=∃xs,A[c]?=some (.lst xs)/\xs.length=k
def jt:Nat->Nat
 |0=>0
 |d+1=>5+2*jt d
def v7(d:Nat):Ct:=λds A R _=>∃ns t c n k,ds=[.fl ns,.ref t,.int ((d:Int) - 1),.ref c]/\0<d/\t≠c/\Tw t n A/\n+jt d<=1000000/\Cn c k A/\k+2 ^ (d - 1)<78/\
 ∀m A',Wf m->m.deep<d->m.names=(range m.names.length).map (λi=>fc (k+1+i))->gS t c A A'->Tw t (n+jt d) A'->Cn c (k+m.names.length) A'->R (enc m) A'
theorem ON:("xyz":Str).cps.toList=[120,121,122]:=by decide+kernel
theorem OM{j:Nat}(h:j<78):bJ ("xyz":Str).cps.toList ((j:Int)/26)=some (120+j/26):=by
 have e:((j:Int)/26)=((j/26:Nat):Int):=by omega
 rw[e,ON];have:j/26=0\/j/26=1\/j/26=2:=by omega
 rcases this with h|h|h<;>rw[h]<;>rfl
theorem DC{j:Nat}:bJ ("abcdefghijklmnopqrstuvwxyz":Str).cps.toList ((j:Int)%26)=some (97+j%26):=by
 have e:((j:Int)%26)=((j%26:Nat):Int):=by omega
 rw[e,My.DE];refine dz ?_;rw[getElem?_map,List.getElem?_range (by omega)];simp;omega
def zI:cB:=qt (qq (sd nR (cT 3) (dF (dC (D.int 1)) gI)))
 (Bc (xo (dF (dC (D.str "weight")) (dF (b9 lG (b9 jC (dC (D.str "abcdefghijklmnopqrstuvwxyz")) (b9 zM (lQ oX (dF (cT 3) gI)) (dC (D.int 26)))) (b9 jC (dC (D.str "xyz")) (b9 xR (lQ oX (dF (cT 3) gI)) (dC (D.int 26))))) gI))))
theorem I0{R:DK}{E:jj}(h:E.rt=R){a b e:Option D}{c k:Nat}{τ:bx}{A:Ar}(hc:Cn c k A)(i:k+1<78)(q:∀A',(∀q x,q≠c->A[q]?=some x->A'[q]?=some x)->Cn c (k+1) A'->R (.tup [.str "weight",.str (fc (k+1))]) A'):zI E (a::b::e::some (.ref c)::τ) A:=by
 have hz:(1000000:Nat)<sizeLine:=by decide
 obtain⟨xs,f,rfl⟩:=hc;refine⟨jA f,nU f (by omega) ?_⟩;have d:(A.set c (.lst (xs++[.int 1])))[c]?=some (.lst (xs++[.int 1])):=get_set f;have g:(xs++[D.int 1]).length=xs.length+1:=by simp
 refine kE d ⟨(by decide:(0:Int)<26),?_⟩;rw[g];refine zg DC (by decide+kernel) ?_;refine kE d ⟨⟨by decide,by decide⟩,?_⟩;rw[g];refine zg (OM i) (by decide+kernel) ?_;refine⟨show 1+1<=sizeLine by decide,show 2<=sizeLine by decide,?_⟩;rw[h];exact q _ (λq x h1 h2=>by rw[getElem?_set_ne (Ne.symm h1)];exact h2) ⟨_,d,g⟩
end DP
namespace My
open L2 DP MA
theorem GK(T:TopD K mg "_law_unlike" Bm pU)(o:mg "len"=none)(j:mg "range"=none)(a:av P w K mg base 3 "_law_draw" kJ (au mg 3 lz))(g:av P w K mg base 4 "_law_pick" pT (au mg 3 rB)):∀d,av P w K mg base (d+4) "_law_unlike" pU (au mg 4 (v7 d)):=by
 intro d;induction d with
 |zero=>
  refine l0 T λds A R RE h=>?_;obtain⟨ns,t,c,n,k,_,h,_⟩:=h;omega
 |succ d e=>
  refine ig T BV rfl (by decide) λN RE f cdv B outer s H E L hR u ds A R h hl=>?_;have y:=L.units;have nd:=BV.nd;refine⟨_,(ay (bO (PW.pt (e9 (fQ y (vr 2) ai) (f6 (fQ y (dL a L u (aa (vr 0) (aa (vr 1) (aa ai af)))) ai)))) (ay (fY (jw plainAttrs_list PySem.F.slot_list_append PySem.F.type_list_append mD nX (vr 3) (aa ai af)))
  (aB (aP (bg (aa aV (aa (cU (dX y aV (jv (cZ eV dY o PySem.boot_len (aa (vr 3) af)) ai)) (dX y aV (iY (cZ eV dY o PySem.boot_len (aa (vr 3) af)) ai))) af)))))) bR)
  (ay (om none (own:=["_law_k"]) (frees:=["_law_script","_law_town"]) (ix:=[0,1]) (i:=4) nd rfl (by first|exact Or.inl rfl|exact Or.inr rfl) rfl (lW j (aa ai af)) (λc=>(pG 0 (show(["_law_k","_law_script","_law_town"]:List Str).Nodup by decide+kernel))) (λc=>(cU ai (dL a L kO (aa (vr 1) (aa (vr 2) (aa (dL g L kO (aa (vr 1) (aa (vr 2) (aa (eE (aa ai (aa ai (aa ai af)))) af)))) af)))))))
  (ay (om none (own:=["_law_k"]) (frees:=["_law_script","_law_town","_law_count","_law_deep"]) (ix:=[0,1,3,2]) (i:=5) nd rfl (by first|exact Or.inl rfl|exact Or.inr rfl) rfl (lW j (aa ai af)) (λc=>(pG 0 (show(["_law_k","_law_script","_law_town","_law_count","_law_deep"]:List Str).Nodup by decide+kernel))) (λc=>(dL e L kO (aa (vr 1) (aa (vr 2) (aa (su (vr 4) ai) (aa (vr 3) af)))))))
  (aB (aP (bg (aa aV (aa (dX y (vr 4) ai) (aa (dX y (vr 4) ai) (aa (dX y (vr 5) ai) (aa (dX y (vr 5) ai) af))))))))))),?_⟩
  obtain⟨ns,t,c,n,k,rfl,_,r,ht,hn,hc,hk,q⟩:=h;have hz:(1000000:Nat)<sizeLine:=by decide
  have hcs:jt (d+1)=5+2*jt d:=rfl;have O:((d+1:Nat):Int) - 1=(d:Int):=by omega
  have hk:k+2 ^ d<78:=by simpa using hk
  have p0:0<2 ^ d:=Nat.pow_pos (by decide);have leaf:∀G n1,gS t c A G->Tw t n1 G->n1<=n+jt (d+1)->Cn c k G->zI {nx:=λx A'=>R D.ao A',rt:=R} [some (.fl ns),some (.ref t),some (.int (((d+1:Nat):Int) - 1)),some (.ref c),none,none] G:=λG n1 S t1 h1 c1=>by
   refine I0 (R:=R) rfl c1 (by omega) λA' f' c'=>?_;have one:∀z∈aD.names (aD.wt (fc (k+1))),z=fc (k+1):=λz hz=>by simpa[aD.names] using hz
   refine q (.wt (fc (k+1))) A' ⟨trivial,λz hz=>by rw[one z hz];exact JM (by omega)⟩ (succ_pos _) rfl (λq x h1 h2 h=>f' q x h2 (S q x h1 h2 h)) ?_ c';obtain⟨xs,u,hl'⟩:=t1;exact⟨xs,f' t _ r u,by omega⟩
  refine cD (λ_=>leaf A n gS.refl ht (by omega) hc) (λc0=>?_);have U:0<d:=by
   have c0:¬(((d+1:Nat):Int) - 1=0):=c0;omega
  refine⟨rfl,ns,t,3,n,rfl,ht,by omega,by decide,λi G _ _ S t1=>?_⟩;have cn:∀{A A':Ar},cY t A A'->∀{k:Nat},Cn c k A->Cn c k A':=by
   rintro A A' b k ⟨xs,h1,h2⟩;exact⟨xs,b c _ (Ne.symm r) h1,h2⟩
  have gn:∀{A A':Ar},Gr A A'->∀{k:Nat},Cn c k A->Cn c k A':=by
   rintro A A' b k ⟨xs,h1,h2⟩;exact⟨xs,b.get h1,h2⟩
  refine cD (λ_=>leaf G (n+1) S.two t1 (by omega) (cn S hc)) (λ_=>?_);have p:∀(x0:D) (J:Ar) (n2:Nat) (Q:DK),Tw t n2 J->n2+2<=1000000->(∀(most:Int) (l:Ar),1<=most->most<=9->cY t J l->Tw t (n2+2) l->Q (.int most) l)->b9 lG (dC (D.int 1)) (lO 3 lz ug (dF (cT 1) (dF (cT 2) (dF (lO 3 rB ug (dF (cT 1) (dF (cT 2) (dF (xj (dF (dC (D.int 2)) (dF (dC (D.int 3)) (dF (dC (D.int 9)) gI)))) gI)))) gI)))) [some x0,some (.fl ns),some (.ref t)] J Q:=by
   intro x0 J n2 Q X hn2 hQ;obtain⟨Pw,Y,_⟩:=id X;have l2:=dJ Y;refine⟨show 3<=sizeLine by decide,rfl,ns,t,_,[.int 2,.int 3,.int 9],n2,rfl,by omega,aR,by simp,X.gr Gr.push,by omega,λx l u Z t3=>?_⟩;obtain⟨most,rfl,m0,m9⟩:∃k:Int,x=.int k/\2<=k/\k<=9:=by
    simp at u;rcases u with h|h|h<;>exact⟨_,h,by omega,by omega⟩
   refine⟨rfl,ns,t,most,n2+1,rfl,t3,by omega,by omega,λi A4 i0 i1 b4 t4=>?_⟩;exact hQ (1+i) A4 (by omega) (by omega) ((Gr.push.but.trans Z).trans b4) t4
  refine⟨by decide,by decide,trivial,p _ G (n+1) _ t1 (by omega) λa1 J u1 u2 b2 X=>⟨show 0<sizeLine by decide,trivial,p _ J (n+1+2) _ X (by omega) λa2 l u3 u4 Z t3=>⟨show 1<sizeLine by decide,trivial,?_⟩⟩⟩;have V:cY t A l:=(S.trans b2).trans Z;have c3:=cn V hc;have t4:=t3.gr (Gr.push (T:=[C.lst [D.int a1,D.int a2]]));have c4:=gn (Gr.push (T:=[C.lst [D.int a1,D.int a2]])) c3;have h4:=aR (A:=l) (c:=C.lst [D.int a1,D.int a2]);obtain⟨xt,HE,_⟩:=id t3;obtain⟨xc,hxc,_⟩:=id c3;have Jf:=dJ HE;have Pc:=dJ hxc;have GP:Gr l (l++[C.lst [D.int a1,D.int a2]]):=Gr.push;have l4:(l++[C.lst [D.int a1,D.int a2]]).length=l.length+1:=by simp
  have e4:[]++[D.int a1]++[D.int a2]=[D.int a1,D.int a2]:=rfl;rw[e4];have pd:2 ^ d=2*2 ^ (d - 1):=by rw[show d=(d - 1)+1 by omega,Nat.pow_succ];simp;omega
  refine⟨by decide,by decide,trivial,?_⟩;refine⟨rfl,ns,t,c,n+1+2+2,k,show [D.fl ns,D.ref t,D.int (((d+1:Nat):Int) - 1 - 1),D.ref c]=_ by rw[O],U,r,t4,by omega,c4,by omega,λm A5 w1 d1 e1 b5 t5 c5=>?_⟩;have n1:=aD.jg m;have p1:2 ^ m.deep<=2 ^ (d - 1):=pow_le_pow_right (by decide) (by omega);refine⟨show 0<sizeLine by decide,trivial,?_⟩;refine⟨rfl,ns,t,c,_,_,show [D.fl ns,D.ref t,D.int (((d+1:Nat):Int) - 1 - 1),D.ref c]=_ by rw[O],U,r,t5,by omega,c5,by omega,λI A6 w2 d2 e2 b6 t6 c6=>?_⟩;refine⟨show 1<sizeLine by decide,trivial,?_⟩;have W:=(b5.trans b6) l.length _ (by omega) (by omega) h4;have e6:[]++[enc m]++[enc I]=[enc m,enc I]:=rfl;rw[e6];refine bE (getElem?_push W) (v:=.int a1) rfl ?_;refine bE (getElem?_push W) (v:=.int a2) rfl ?_;refine bE aR (v:=enc m) rfl ?_;refine bE aR (v:=enc I) rfl ?_;refine⟨show 5<=sizeLine by decide,?_⟩;have nn:(aD.aM a1 a2 m I:M).names=m.names++I.names:=rfl;refine q (.aM a1 a2 m I) _ ⟨⟨u1,u2,u3,u4,w1.arms,w2.arms⟩,λx u=>?_⟩ (show max m.deep I.deep+1<d+1 by omega) ?_ ?_ ?_ ?_
  .rcases mem_append.mp (show x∈m.names++I.names from u) with h|h
   .exact w1.nm x h
   .exact w2.nm x h
  .rw[nn,length_append,List.range_add,map_append,map_map,<-e1]
   congr 1;rw[e2];simp only[length_map,length_range];refine map_congr_left λi _=>?_;show fc (k+m.names.length+1+i)=fc (k+1+(m.names.length+i));congr 1;omega
  .intro q x h1 h2 h
   exact getElem?_push ((b5.trans b6) q x h1 h2 (GP.get (V q x h1 h)))
  .exact(t6.gr Gr.push).mono (by omega)
  .rw[nn,length_append,<-Nat.add_assoc]
   exact gn Gr.push c6
end My
namespace DP
open L2 MA
def vN:Ct:=nN
end DP
namespace My
open L2 DP MA
theorem Gi(T:TopD K mg "_law_least" Bf pO):av P w K mg base 1 "_law_least" pO (au mg 2 vN):=by
 refine bV T Mr λu z B C nd=>⟨_,(ay (xX (i:=2) (j:=3) rfl nd rfl rfl (by decide) rfl rfl (aa (vr 0) (aa (vr 1) af)) rfl)
  (ay (sE d9 (Cy (vr 3) ai) (aB (xX (i:=2) (j:=3) rfl nd rfl rfl (by decide) rfl rfl (aa (vr 3) (aa (jv (vr 2) (vr 3)) af)) rfl)))
  (aB (aP (bg (aa (iY (vr 0) (vr 2)) (aa (iY (vr 1) (vr 2)) af))))))),λds A R h o=>?_⟩
 obtain⟨v,⟨a,b,rfl,ha,hb,hz,rfl⟩,q⟩:=h;have l:0<(Int.gcd a b:Int):=by
  have:=Int.gcd_pos_of_ne_zero_left b (show a≠0 by omega);omega
 have o:(Int.gcd a b:Int)<=a:=le_of_dvd ha (gcd_dvd_left a b);have m:(Int.gcd a b:Int).natAbs.log2<9000:=by
  have h1:(Int.gcd a b:Int).natAbs<2 ^ 2000:=by omega
  have:=(log2_lt (n:=(Int.gcd a b:Int).natAbs) (k:=2000) (by omega)).mpr h1;omega
 refine⟨λn τ A'=>A'=A/\∃(x y:Int),τ=[some (.int a),some (.int b),some (.int x),some (.int y)]/\0<=x/\0<=y/\Int.gcd x y=Int.gcd a b/\n=y.toNat,⟨_,rfl,a,b,rfl,by omega,by omega,rfl,rfl⟩,?_⟩;rintro n τ A' ⟨rfl,x,y,rfl,h0,h1,f,rfl⟩;refine cD (λc=>?_) (λc=>?_)
 .refine⟨λτ p=>p=A'/\∃(g d:Int),τ=[some (.int a),some (.int b),some (.int g),some (.int d)]/\0<=g/\0<=d/\Int.gcd g d=Int.gcd a b/\d.toNat<y.toNat,λbU A' ⟨e,g,d,h1,h2,r,s,t⟩=>⟨_,t,e,g,d,h1,h2,r,s,rfl⟩,?_⟩
  have m0:=emod_nonneg x (show y≠0 by omega);have D:=emod_lt_of_pos x (show 0<y by omega);exact⟨c,rfl,y,x%y,rfl,h1,m0,by rw[yJ h0 c];exact f,by omega⟩
 .have e:y=0:=by omega
  subst e;have ex:(x:Int)=(Int.gcd a b:Int):=by rw[<-f,Int.gcd_zero_right];omega
  subst ex;exact⟨⟨l,m⟩,⟨l,m⟩,show 2<=sizeLine by decide,q _ Gr.refl⟩
end My
namespace DP
open L2 MA
end DP
namespace My
open L2 DP MA
end My
namespace DP
open L2 MA
end DP
namespace DP
open L2
end DP
namespace My
open L2 DP MA
end My
namespace DP
open L2
end DP
namespace My
open L2 DP MA
end My
namespace DP
open L2 MA
end DP
namespace My
open L2 DP MA
end My
namespace DP
open L2 MA
end DP
namespace My
open L2 DP MA
end My
namespace DP
open L2 MA
end DP
namespace My
open L2 DP MA
end My
namespace DP
open L2 MA
end DP
namespace My
open L2 DP MA
end My
namespace DP
open L2 MA
def sy:∀x y:M,Decidable (x=y)
 |.wt a,.wt b=>if h:a=b then .isTrue (by rw[h]) else .isFalse λz=>h (by injection z)
 |.wt _,.aM _ _ _ _=>.isFalse λz=>by cases z
 |.aM _ _ _ _,.wt _=>.isFalse λz=>by cases z
 |.aM l r a b,.aM l' r' a' b'=>
  if h1:l=l' then if h2:r=r' then match sy a a',sy b b' with
   |.isTrue h3,.isTrue h4=>.isTrue (by rw[h1,h2,h3,h4])
   |.isFalse h3,_=>.isFalse λz=>h3 (by injection z)
   |_,.isFalse h4=>.isFalse λz=>h4 (by injection z)
  else .isFalse λz=>h2 (by injection z) else .isFalse λz=>h1 (by injection z)
instance:DecidableEq M:=sy
theorem pF:∀m:M,dM (toQ (enc m))=true
 |.wt n=>by simp[enc,toQ,bu,dM,gP]
 |.aM l r a b=>by simp[enc,toQ,bu,dM,gP,pF a,pF b]
theorem toQ_inj:∀x y:M,toQ (enc x)=toQ (enc y)->x=y
 |.wt n,.wt m,h=>by simp[enc,toQ,bu] at h;rw[h]
 |.wt n,.aM _ _ _ _,h=>by simp[enc,toQ,bu] at h
 |.aM _ _ _ _,.wt n,h=>by simp[enc,toQ,bu] at h
 |.aM l r a b,.aM g r' c d,h=>by
  simp only[enc,toQ,bu,PyData.tuple.injEq,List.cons.injEq,PyData.int.injEq,true_and,and_true] at h;obtain⟨h1,h2,e,f⟩:=h;rw[h1,h2,toQ_inj a c e,toQ_inj b d f]
theorem FL(x y:M):PyData.eqv (toQ (enc x)) (toQ (enc y))=decide (x=y):=by
 rw[Bool.eq_iff_iff,yg _ _ (pF x) (pF y),decide_eq_true_eq];exact⟨toQ_inj x y,λh=>by rw[h]⟩
theorem yf{x y:M}{A:Ar}{R:DK}(a:∀n∈x.names,Nm n)(b:∀n∈y.names,Nm n)(hd:x.deep<=60)(k:R (.bl (decide (x=y))) A):fJ false (enc x) (enc y) A R:=by
 unfold fJ;rw[CG,CG,z8,z8,qj,qj];have:=sA x;refine⟨rfl,rfl,oW x a,oW y b,by omega,?_⟩;rw[FL];exact k
end DP
namespace My
open L2 DP MA
end My
namespace DP
open L2 MA
theorem ux:∀rs:List (Str×Int),gR (rs.map aW)=true
 |[]=>rfl
 |r::rs=>by simp[gR,eH,aW,ux rs]
theorem zp:∀rs:List (Str×Int),(∀r∈rs,Nm r.1)->canLayAll0 (bu (rs.map aW))=true
 |[],_=>rfl
 |r::rs,h=>by
  have h1:=(h r (mem_cons_self ..)).ok;have h2:=zp rs λq a=>h q (mem_cons_of_mem _ a);simp only[canLay0] at h1;simp[bu,toQ,aW,canLayAll0,canLay0,h1,h2]
theorem xN:∀rs:List (Str×Int),depthAll (bu (rs.map aW))<=1
 |[]=>by simp[bu,depthAll]
 |r::rs=>by
  have:=xN rs;simp[bu,toQ,aW,depthAll,PyData.depth];omega
theorem yh:∀l k:List (Str×Int),eqvAll (bu (l.map aW)) (bu (k.map aW))=decide (l=k)
 |[],[]=>by simp[bu,eqvAll]
 |[],_::_=>by simp[bu,eqvAll]
 |_::_,[]=>by simp[bu,eqvAll]
 |a::l,b::k=>by
  have c:=yh l k;obtain⟨a1,a2⟩:=a;obtain⟨d,e⟩:=b;simp only[map_cons,bu,eqvAll,c,aW,toQ,PyData.eqv];rw[Bool.eq_iff_iff];simp[and_assoc]
theorem uz{neg:Bool}{l k:List (Str×Int)}{A:Ar}{R:DK}(a:∀r∈l,Nm r.1)(b:∀r∈k,Nm r.1)(q:R (.bl (if neg then !decide (l=k) else decide (l=k))) A):fJ neg (d7 l) (d7 k) A R:=by
 unfold fJ;have c:∀l:List (Str×Int),(∀r∈l,Nm r.1)->(toQ (d7 l)).canLay0=true:=λl f=>by
  show canLay0 (.tuple (bu (l.map aW)))=true;have:=zp l f;simpa[canLay0] using this
 have d:(toQ (d7 l)).depth<=64:=by
  show depthAll (bu (l.map aW))+1<=64;have:=xN l;omega
 have h1:∀l,cV A (d7 l)=toQ (d7 l):=λ_=>rfl;have h2:∀l,ji A (d7 l)=eH (d7 l):=λ_=>rfl;rw[h1,h1,h2,h2];refine⟨ux l,ux k,c l a,c k b,by omega,?_⟩;have e:PyData.eqv (toQ (d7 l)) (toQ (d7 k))=decide (l=k):=by
  show PyData.eqv (.tuple (bu (l.map aW))) (.tuple (bu (k.map aW)))=_;simp only[PyData.eqv];exact yh l k
 rw[e];exact q
noncomputable def rws(m:M)(ys:List Str):List (Str×Int):=ys.zip (lw (ys.map (shr m)))
def jW:Ct:=λds A R _=>∃x y xs ys,ds=[enc x,enc y]/\Wf x/\Wf y/\x.deep<=5/\y.deep<=5/\bC [] (aZ x "" 1)=none/\bC [] (aZ y "" 1)=none/\xs.Pairwise strLt/\(∀n,n∈xs↔n∈x.names)/\ys.Pairwise strLt/\(∀n,n∈ys↔n∈y.names)/\
 ∀A',Gr A A'->R (.bl ((decide (xs.length=1)&&decide (ys.length=1))||decide (rws x xs=rws y ys))) A'
theorem uI{m:M}(h:Wf m){ys:List Str}(a:∀n,n∈ys↔n∈m.names):∀r∈rws m ys,Nm r.1:=λr b=>h.nm _ ((a _).mp (of_mem_zip (show(r.1,r.2)∈_ from b)).1)
theorem kT(m:M)(ys:List Str):(rws m ys).length=ys.length:=by unfold rws;rw[length_zip,kH,length_map];omega
def cA(n:Str)(p q:Int):M->M
 |.wt x=>if x=n then .aM p q (.wt x) (.wt "q") else .wt x
 |.aM l r a b=>.aM l r (cA n p q a) (cA n p q b)
theorem t7(n:Str)(p q:Int):∀m:M,(cA n p q m).deep<=m.deep+1
 |.wt x=>by
  unfold cA;split
  .exact le_refl 1
  .exact zero_le _
 |.aM l r a b=>by
  have h1:=t7 n p q a;have h2:=t7 n p q b;show max (cA n p q a).deep (cA n p q b).deep+1<=max a.deep b.deep+1+1;omega
theorem tZ{n:Str}{p q:Int}(c:1<=p/\p<=9)(d:1<=q/\q<=9):∀m:M,m.arms->(cA n p q m).arms
 |.wt x,_=>by
  unfold cA;split
  .exact⟨c.1,c.2,d.1,d.2,trivial,trivial⟩
  .trivial
 |.aM l r a b,h=>⟨h.1,h.2.1,h.2.2.1,h.2.2.2.1,tZ c d a h.2.2.2.2.1,tZ c d b h.2.2.2.2.2⟩
theorem mC(n:Str)(p q:Int):∀m:M,(cA n p q m).names=m.names.flatMap λx=>if x=n then [x,"q"] else [x]
 |.wt x=>by
  unfold cA;split
  .rename_i h
   simp[aD.names,h]
  .rename_i h
   simp[aD.names,h]
 |.aM l r a b=>by
  show(cA n p q a).names++(cA n p q b).names=(a.names++b.names).flatMap _;rw[mC n p q a,mC n p q b,flatMap_append]
def vR(d:Nat):Ct:=λds A R _=>∃m n r p q more,ds=[enc m,.str n,.ref r]/\Wf m/\m.deep<d/\m.deep<=5/\Nm n/\A[r]?=some (.lst (.int p:: .int q::more))/\∀A',Gr A A'->R (enc (cA n p q m)) A'
end DP
namespace My
open L2 DP MA
theorem F4(T:TopD K mg "alike" Bo pV)(f:mg "len"=none)(i:av P w K mg base 11 "bar" jJ (au mg 1 ly))(d:av P w K mg base 12 "least" kM (au mg 1 lA)):av P w K mg base 13 "alike" pV (au mg 2 jW):=by
 refine bV T Mw λk I l m nd=>⟨_,(ay (dS 2 nd (x_ (dL i k l (aa (vr 0) af)) ic))
  (ay (dS 3 nd (x_ (dL i k l (aa (vr 1) af)) ic))
  (ay (bO (PW.pt (e9 (dZ (vr 2)) (f6 (dZ (vr 3))))) (aB (aP (jy m (vr 2) (vr 3)))) bR)
  (ay (dS 4 nd (dL d k l (aa (vr 0) af)))
  (ay (dS 5 nd (dL d k l (aa (vr 1) af)))
  (ay (bO (PW.pt (x6 (fQ m (cZ eV dY f PySem.boot_len (aa (vr 4) af)) ai) (x8 (fQ m (cZ eV dY f PySem.boot_len (aa (vr 5) af)) ai)))) (aB (aP eY)) bR)
  (aB (aP (jy m (vr 4) (vr 5)))))))))),λds A R h J=>?_⟩
 obtain⟨x,y,xs,ys,rfl,o,p,dx,r,s,j,px,t,py,u,q⟩:=h;refine⟨rfl,x,rfl,o,dx,λL B=>?_⟩;rw[s];refine⟨rfl,y,rfl,p,r,λM C=>?_⟩;rw[j];refine⟨rfl,x,rfl,o,dx,λN D=>?_⟩;rw[if_pos s];intro a p1 E;obtain rfl:a=xs:=pw_eq p1 px λn=>by rw[E,t]
 refine⟨rfl,y,rfl,p,r,λF G=>?_⟩;rw[if_pos j];intro b p2 H;obtain rfl:b=ys:=pw_eq p2 py λn=>by rw[H,u]
 have g:=((B.trans C).trans D).trans G;have q:=q _ g;have l1:=kT x a;have l2:=kT y b;have v:((rws x a).map aW).length=a.length:=by rw[length_map,l1]
 have z:((rws y b).map aW).length=b.length:=by rw[length_map,l2]
 have fin:¬(a.length=1/\b.length=1)->fJ false (d7 (rws x a)) (d7 (rws y b)) F R:=λh=>by
  refine uz (neg:=false) (uI o t) (uI p u) ?_;have e:(decide (a.length=1)&&decide (b.length=1))=false:=by
   rw[Bool.eq_false_iff];simpa using h
  rw[e,Bool.false_or] at q;exact q
 refine cD (λc=>?_) (λc=>fin λh=>c ?_)
 .have c:((((rws x a).map aW).length:Nat):Int)=1:=c
  rw[v] at c;refine cD (λc'=>?_) (λc'=>fin λh=>c' ?_)
  .have c':((((rws y b).map aW).length:Nat):Int)=1:=c'
   rw[z] at c';rw[decide_eq_true (show a.length=1 by omega),decide_eq_true (show b.length=1 by omega)] at q;exact q
  .show((((rws y b).map aW).length:Nat):Int)=1
   rw[z];omega
 .show((((rws x a).map aW).length:Nat):Int)=1
  rw[v];omega
theorem Gk(T:TopD K mg "_law_leaves" Bg pP):∀d,av P w K mg base (d+1) "_law_leaves" pP (au mg 2 (vM d)):=by
 intro d;induction d with
 |zero=>
  refine l0 T λds A R RE h=>?_;obtain⟨v,⟨m,w,_,h,_⟩,_⟩:=h;omega
 |succ d c=>
  refine ig T Ms rfl (by decide) λN RE f k B outer s H E g t i ds A R h u=>?_;have e:=g.units;refine⟨_,(ay (bO (fQ e (dX e (vr 0) ai) aV) (aB (aP (eE (aa (bg (aa (vr 1) (aa (dX e (vr 0) ai) af))) af)))) bR)
  (aB (aP (cU (dL c g i (aa (dX e (vr 0) ai) (aa (cU (vr 1) aV) af))) (dL c g i (aa (dX e (vr 0) ai) (aa (cU (vr 1) aV) af))))))),?_⟩
  obtain⟨v,⟨m,w,rfl,hd,z,C,rfl⟩,q⟩:=h;have D:(100:Nat)<=sizeLine:=by decide
  cases m with
  |wt n=>exact⟨by show 2<=sizeLine;omega,by show 1<=sizeLine;omega,q _ _ Gr.push aR⟩
  |aM l r a b=>
   have o:max a.deep b.deep+1<d+1:=hd;have F:("l":Str).length=1:=by decide+kernel
   have G:("r":Str).length=1:=by decide+kernel
   have al:∀x y:Str,(x++y).length=x.length+y.length:=λx y=>Array.size_append;refine⟨by omega,rfl,_,⟨a,_,rfl,by omega,by rw[al];omega,by omega,rfl⟩,λI J p h1=>?_⟩;refine⟨by omega,rfl,_,⟨b,_,rfl,by omega,by rw[al];omega,by omega,rfl⟩,λL M j h2=>?_⟩;have n1:=aD.jg a;have n2:=aD.jg b;have p1:2 ^ a.deep<=2 ^ 8:=pow_le_pow_right (by decide) (by omega);have p2:2 ^ b.deep<=2 ^ 8:=pow_le_pow_right (by decide) (by omega);have hz:(512:Nat)<=sizeLine:=by decide
   refine j0 (j.get h1) h2 (by rw[length_map,length_map,o5,o5];omega) (q _ _ ((p.trans j).trans Gr.push) ?_);rw[aR];simp[jf]
theorem Gu(T:TopD K mg "_law_more" Bk pS):∀d,av P w K mg base (d+1) "_law_more" pS (au mg 3 (vR d)):=by
 intro d;induction d with
 |zero=>
  refine l0 T λds A R RE h=>?_;obtain⟨m,n,r,p,q,g,_,_,h,_⟩:=h;omega
 |succ d e=>
  refine ig T BU rfl (by decide) λN RE f I B outer s H E D S t ds A R h U=>?_;have i:=D.units;have nd:=BU.nd;refine⟨_,(ay (bO (fQ i (vr 0) (bg (aa aV (aa (vr 1) af)))) (aB (aP (bg (aa aV (aa (dX i (vr 2) ai) (aa (dX i (vr 2) ai) (aa (vr 0) (aa (bg (aa aV (aa aV af))) af)))))))) bR)
  (ay (bO (fQ i (dX i (vr 0) ai) aV) (aB (aP (vr 0))) bR)
  (aB (aP (cU (xF (vr 0) xU (xV ai)) (bg (aa (dL e D t (aa (dX i (vr 0) ai) (aa (vr 1) (aa (vr 2) af)))) (aa (dL e D t (aa (dX i (vr 0) ai) (aa (vr 1) (aa (vr 2) af)))) af)))))))),?_⟩
  obtain⟨m,n,r,p,q,g,rfl,u,hd,J,F,C,k⟩:=h;have hz:(100:Nat)<=sizeLine:=by decide
  have o:∀x∈aD.names (aD.wt n),Nm x:=λx t=>by
   have:x=n:=by simpa[aD.names] using t
   rw[this];exact F
  refine⟨show 2<=sizeLine by omega,?_⟩;cases m with
  |wt x=>
   refine yf (x:=.wt x) (y:=.wt n) u.nm o (show 0<=60 by decide) ?_;refine cD (λc=>?_) (λc=>?_)
   .have c:(aD.wt x:M)=aD.wt n:=c
    have c:x=n:=by injection c
    subst c;have k:=k A Gr.refl;unfold cA at k;rw[if_pos rfl] at k;refine bE C (v:=.int p) (dz (j:=0) rfl) (bE C (v:=.int q) (dz (j:=1) rfl) ?_);exact⟨show 2<=sizeLine by omega,show 5<=sizeLine by omega,k⟩
   .have c:¬(aD.wt x:M)=aD.wt n:=c
    have c:x≠n:=λz=>c (by rw[z]);have k:=k A Gr.refl;unfold cA at k;rw[if_neg c] at k;exact k
  |aM l r' a b=>
   refine yf (x:=.aM l r' a b) (y:=.wt n) u.nm o (show(aD.aM l r' a b:M).deep<=60 by omega) ?_;refine cD (λc=>?_) (λc=>?_)
   .have c:(aD.aM l r' a b:M)=aD.wt n:=c
    cases c
   have L:max a.deep b.deep+1<d+1:=hd;have O:max a.deep b.deep+1<=5:=J;refine⟨show ¬(HT.aT 5 0 none=0/\HT.aT 5 5 (some 3)=5) by decide,rfl,a,n,r,p,q,g,rfl,u.left,by omega,by omega,F,C,λV G=>?_⟩;refine⟨rfl,b,n,r,p,q,g,rfl,u.right,by omega,by omega,F,G.get C,λW Q=>?_⟩;exact⟨show 2<=sizeLine by omega,show 3+2<=sizeLine by omega,k _ (G.trans Q)⟩
end My
namespace DP
open L2 MA
theorem wg{W N S:Type}[DecidableEq N][DecidableEq S]:∀(r pre:List (W×N×S)),((pre++r).map (·.2.1)).Nodup->bC pre r=none
 |[],pre,_=>by unfold bC;rfl
 |(a,n,s)::r,pre,h=>by
  have b:pre.find? (λp=>decide (p.2.1=n))=none:=find?_eq_none.mpr λc hc z=>by
   have z:c.2.1=n:=of_decide_eq_true z;rw[map_append,nodup_append] at h;exact h.2.2 _ (mem_map_of_mem hc) n (by simp) z
  unfold bC;rw[b];exact wg r (pre++[(a,n,s)]) (by simpa using h)
theorem lJ{m:M}(h:m.names.Nodup):bC [] (aZ m "" 1)=none:=wg _ [] (by rw[nil_append,kW];exact h)
theorem yp{α β:Type}{f g:α->List β}(a:∀y,(f y).length=(g y).length):∀{l:List α},l.flatMap f=l.flatMap g->∀y∈l,f y=g y
 |[],_,y,hy=>by cases hy
 |x::l,h,y,hy=>by
  rw[flatMap_cons,flatMap_cons] at h;obtain⟨h1,h2⟩:=List.append_inj h (a x);rcases mem_cons.mp hy with rfl|hy
  .exact h1
  .exact yp a h2 y hy
theorem t_{n:Str}{p q:Int}(f:Str->Rat):∀(m:M) (x:Rat),m.names.map f=m.sh x->(cA n p q m).sh x=m.names.flatMap λy=>if y=n then [f y*((q:Rat)/((p+q:Int):Rat)),f y*((p:Rat)/((p+q:Int):Rat))] else [f y]
 |.wt y,x,h=>by
  have h:[f y]=[x]:=h;have h:f y=x:=by simpa using h
  unfold cA;by_cases c:y=n
  .rw[if_pos c]
   subst c;simp[aD.names,aD.sh,h]
  .rw[if_neg c]
   simp[aD.names,aD.sh,c,h]
 |.aM l r a b,x,h=>by
  have h:(a.names++b.names).map f=a.sh (x*((r:Rat)/((l+r:Int):Rat)))++b.sh (x*((l:Rat)/((l+r:Int):Rat))):=h;rw[map_append] at h;obtain⟨h1,h2⟩:=List.append_inj h (by rw[length_map,aD.uM]);show(cA n p q a).sh _++(cA n p q b).sh _=(a.names++b.names).flatMap _;rw[flatMap_append,t_ f a _ h1,t_ f b _ h2]
theorem zN{n:Str}{p q:Int}{m:M}(h:m.names.Nodup)(b:("q":Str)∉m.names):(cA n p q m).names.Nodup:=by
 rw[mC];generalize m.names=l at*
 have mem:∀(l:List Str) (z:Str),z∈(l.flatMap λx=>if x=n then [x,"q"] else [x])->z∈l\/(z="q"/\n∈l):=λl z hz=>by
  obtain⟨y,d,hm⟩:=mem_flatMap.mp hz;split at hm
  .rename_i e
   rcases mem_cons.mp hm with rfl|hm
   .exact .inl d
   .exact .inr ⟨by simpa using hm,e▸d⟩
  .have:z=y:=by simpa using hm
   exact .inl (this▸d)
 induction l with
 |nil=>simp
 |cons x l a=>
  obtain⟨h1,h2⟩:=nodup_cons.mp h;have a:=a h2 λz=>b (mem_cons_of_mem _ z);have f:x≠"q":=λz=>b (by rw[z];simp);rw[flatMap_cons];by_cases c:x=n
  .rw[if_pos c]
   show(x::"q"::_).Nodup;refine nodup_cons.mpr ⟨λz=>?_,nodup_cons.mpr ⟨λz=>?_,a⟩⟩
   .rcases mem_cons.mp z with e|z
    .exact f e
    .rcases mem l x z with k|k
     .exact h1 k
     .exact f k.1
   .rcases mem l "q" z with k|k
    .exact b (mem_cons_of_mem _ k)
    .exact h1 (c▸k.2)
  .rw[if_neg c]
   show(x::_).Nodup;refine nodup_cons.mpr ⟨λz=>?_,a⟩;rcases mem l x z with k|k
   .exact h1 k
   .exact f k.1
theorem Jz{n:Str}{p q:Int}{m:M}(h:m.names.Nodup)(d:("q":Str)∉m.names):∀y∈m.names,(y≠n->shr (cA n p q m) y=shr m y)/\(y=n->shr (cA n p q m) y=shr m y*((q:Rat)/((p+q:Int):Rat))/\shr (cA n p q m) "q"=shr m y*((p:Rat)/((p+q:Int):Rat))):=by
 have e:=(jM (lJ h)).2;have b:=(jM (lJ (zN (n:=n) (p:=p) (q:=q) h d))).2;rw[t_ (shr m) m 1 e,mC,List.map_flatMap] at b;intro y g;have:=yp (f:=λa=>List.map (shr (cA n p q m)) (if a=n then [a,"q"] else [a])) (λy=>by split<;>rfl) b y g;constructor
 .intro c
  simpa[if_neg c] using this
 .intro c
  simpa[if_pos c] using this
theorem oi{rs:List (Str×Int)}(a:(rs.map (·.1)).Pairwise strLt)(b:rs.length<=1000){A:Ar}{R:DK}(k:R (.ref A.length) (A++[.dct (bY rs)])):dctP (rs.map aW) A R:=by
 unfold dctP;rw[Ac];refine⟨by simp[bY];omega,?_⟩;unfold kR;rw[Am rs [] a (λp h=>by simp at h)];exact k
theorem Fp{rs:List (Str×Int)}{A:Ar}{r:Nat}{R:DK}(h:A[r]?=some (.lst (rs.map aW)))(a:(rs.map (·.1)).Pairwise strLt)(b:rs.length<=1000)(k:R (.ref A.length) (A++[.dct (bY rs)])):j6 r A R:=by
 unfold j6;simp only[h];exact oi a b k
theorem jL(m:M)(ys:List Str):(rws m ys).map (·.1)=ys:=by
 unfold rws;rw[map_fst_zip];rw[kH,length_map];exact le_refl _
theorem uH{m:M}{ys:List Str}{x:Str}(h:x∈ys):aN (bY (rws m ys)) (Sum.inr x)=some (.int (val (rws m ys) x)):=sR _ _ (by rw[jL];exact h)
theorem JL(j:Nat):fc j≠"q":=λh=>by
 have:(fc j).length=("q":Str).length:=by rw[h]
 have h2:("q":Str).length=1:=by decide+kernel
 rw[h2] at this;exact absurd (show(2:Nat)=1 from this) (by decide)
theorem OD{m:M}{k:Nat}(h:m.names=(range m.names.length).map (λi=>fc (k+1+i))):m.names.Nodup/\("q":Str)∉m.names:=by
 rw[h];constructor
 .rw[List.nodup_iff_pairwise_ne] at*
  rw[pairwise_map];refine Pairwise.imp ?_ List.nodup_range;intro a b c z;have:=JK z;exact c (by omega)
 .intro z
  obtain⟨i,_,e⟩:=mem_map.mp z;exact JL _ e
def vO:Ct:=λds A R _=>∃ns t r n a0 a1 a2 a3,ds=[.fl ns,.ref t,.ref r]/\r≠t/\A[r]?=some (.lst [.int a0,.int a1,.int a2,.int a3])/\(1<=a0/\a0<=9)/\(1<=a1/\a1<=9)/\Tw t n A/\n+1000<=1000000/\∀A',R (.bl true) A'
theorem Jo{m:M}(ha:m.arms)(d:m.deep<=5)(hb:bC [] (aZ m "" 1)=none){ys:List Str}(c:ys.Pairwise strLt)(a:∀x,x∈ys↔x∈m.names):∀k∈lw (ys.map (shr m)),1<=k/\k.natAbs.log2<9000:=by
 have e:∀x∈ys.map (shr m),gW x:=λx b=>by
  obtain⟨y,g,rfl⟩:=mem_map.mp b;exact ng ha d hb ((a y).mp g)
 have h:(ys.map (shr m)).length<=32:=by
  rw[length_map];exact le_trans (pw_len ys m.names c λx b=>(a x).mp b) (jh d)
 intro k f;have h1:=zH (λx b=>(e x b).pos) k f;obtain⟨n,i,rfl⟩:=mem_map.mp f;obtain⟨j,n1⟩:=u6 e h i;exact⟨h1,o4 (by omega) (Int.le_trans (ediv_le_self _ (by omega)) n1)⟩
end DP
namespace My
open L2 DP MA
end My
namespace DP
open L2 MA
theorem Et{x:D}{xs:List D}:cutD (x::xs) (some 1) none=xs:=by
 unfold cutD HT.aT;simp
theorem M1{A:Ar}{r:Nat}{x:D}{xs:List D}{R:DK}(h:A[r]?=some (.lst (x::xs)))(k:R (.ref A.length) (A++[.lst xs])):nh r (some 1) none A R:=by
 unfold nh;simp only[h,Et];exact k
theorem AV{m:M}(ha:m.arms)(f:m.deep<=5)(hb:bC [] (aZ m "" 1)=none){ys:List Str}(a:ys.Pairwise strLt)(b:∀x,x∈ys↔x∈m.names){x:Str}(c:x∈ys):ez (val (rws m ys) x)<=9000:=by
 have h:=uH (m:=m) c;have g:(x,val (rws m ys) x)∈rws m ys:=by
  have:x∈(rws m ys).map (·.1):=by rw[jL];exact c
  obtain⟨r,d,e⟩:=mem_map.mp this;have i:val (rws m ys) x=r.2:=by
   subst e;exact qJ (by rw[jL];exact qm a) d
  rw[i,<-e];exact d
 exact DZ (Jo ha f hb a b _ (of_mem_zip (show(x,val (rws m ys) x)∈ys.zip _ from g)).2).2
end DP
namespace My
open L2 DP MA
theorem Gm (T : TopD K mg "_law_longer_one" Bh pQ) (Z : mg "len" = none) (DT : mg "all" = none) (S : mg "dict" = none) (U : mg "sorted" = none) (s : av P w K mg base 9 "_law_unlike" pU (au mg 4 (v7 5))) (u : av P w K mg base 9 "_law_leaves" pP (au mg 2 (vM 8))) (H : av P w K mg base 12 "least" kM (au mg 1 lA)) (F : av P w K mg base 7 "_law_more" pS (au mg 3 (vR 6))) : av P w K mg base 14 "_law_longer_one" pQ (au mg 3 vO) := by
  refine bV T Mt fun hr hR g i nd => ⟨_, (ay (dS 3 nd (dL s hr g (aa (vr 0) (aa (vr 1) (aa ai (aa (eE af) af))))))
    (ay (dS 4 nd (cZ (Ec rfl) E5 U boot_sorted (aa (fK (some 2) (own:=["_law_way","_law_name"]) (frees:=[]) (ix:=[]) rfl (dP (dL u hr g (aa (vr 3) (aa aV af)))) (λc=>(mV rfl (gh (pG 0 (show(["_law_way","_law_name"]:List Str).Nodup by decide+kernel)) (gh (pG 1 (show(["_law_way","_law_name"]:List Str).Nodup by decide+kernel)) mW)))) (λc=>(vr 1))) af)))
    (ay (dS 5 nd (iX (jq rfl) ju S boot_dict (aa (dL H hr g (aa (vr 3) af)) af)))
    (ay (dS 6 nd (dL F hr g (aa (vr 3) (aa (dX i (vr 4) ai) (aa (vr 2) af)))))
    (ay (dS 7 nd (iX (jq rfl) ju S boot_dict (aa (dL H hr g (aa (vr 6) af)) af)))
    (ay (dS 8 nd (cU (dX i (vr 2) ai) (dX i (vr 2) ai)))
    (ay (dS 9 nd (dX i (vr 4) (Fc ai)))
    (ay (bO (fM (dZ (cZ (wK rfl) xq DT boot_all (aa (fK none (own:=["_law_name"]) (frees:=["_law_found","_law_book","_law_end"]) (ix:=[7,5,9]) rfl (dP (xF (vr 4) (xV ai) xU)) (λc=>(pG 0 (show(["_law_name","_law_found","_law_book","_law_end"]:List Str).Nodup by decide+kernel))) (λc=>(jy i (iZ (dX i (vr 1) (vr 0)) (dX i (vr 2) (vr 3))) (iZ (dX i (vr 2) (vr 0)) (dX i (vr 1) (vr 3)))))) af)))) (aB (aP eY)) bR)
    (ay (bO (iE i (iZ (dX i (vr 7) aV) (dX i (vr 2) ai)) (iZ (dX i (vr 7) (dX i (vr 4) ai)) (dX i (vr 2) ai))) (aB (aP eY)) bR)
    (ay (bO (fQ i (cZ eV dY Z PySem.boot_len (aa (vr 4) af)) ai) (aB (aP eY)) bR)
    (ay (dS 10 nd (iZ (iZ (dX i (vr 2) ai) (dX i (vr 5) (dX i (vr 4) ai))) (dX i (vr 7) (dX i (vr 4) ai))))
    (aB (aP (jy i (iZ (iZ (dX i (vr 7) aV) (vr 8)) (dX i (vr 5) (dX i (vr 4) ai))) (vr 10))))))))))))))),λds A R h hl=> ?_⟩
  obtain⟨ns,t,r,n,a0,a1,a2,a3,rfl,Hz,hA,h0,h1,ht,hn,q⟩:=h
  have hz:(2000:Nat)<=sizeLine:=by decide
  obtain⟨Pr,HB,_⟩:=id ht
  have Je:=dJ HB
  have Pf:=dJ hA
  refine⟨zero_le _,rfl,ns,t,A.length,n,0,rfl,by decide,by omega,ht.gr Gr.push,by have:jt 5=155:=rfl;omega,⟨[],aR,rfl⟩,by decide,λm A1 wm dm hnm b1 t1 c1=> ?_⟩
  have yV:=b1 r _ Hz (by omega) (getElem?_push hA)
  have V:=OD hnm
  have bm:=lJ V.1
  have Jk : (jf m "").length ≤ 16 := by
    rw[o5]
    have h2:=aD.jg m
    have h3:2 ^ m.deep<=2 ^ 4:=pow_le_pow_right (by decide) (by omega)
    omega
  have nl:m.names.length<=16:=by rw[<-o5 m ""];exact Jk
  refine⟨rfl,_,⟨m,"",rfl,by omega,by decide+kernel,by decide,rfl⟩,λA2 r2 g2 h2=> ?_⟩
  refine eG h2 ?_
  refine gH (f:=λx=>match x with| .tup [_,y]=>y|x=>x) h2 _ _ (λx g=> ?_) (by simp;omega) ?_
  · obtain ⟨p, hp, rfl⟩ := mem_map.mp g
    exact⟨[.str p.1,.str p.2],rfl,λQ hQ=>hQ⟩
  have e : ((jf m "").map zG).map (fun x => match x with | .tup [_, y] => y | x => x) = m.names.map D.str := by
    rw[<-o6 m "",map_map,map_map]
    rfl
  rw[nil_append,e]
  refine Ng aR V.1 (by omega) λys hp hm=> ?_
  have h4:(A2++[C.lst (m.names.map D.str)]++[C.lst (ys.map D.str)])[(A2++[C.lst (m.names.map D.str)]).length]? =some (.lst (ys.map D.str)):=aR
  have g3:=(g2.trans (Gr.push (T:=[C.lst (m.names.map D.str)]))).trans (Gr.push (T:=[C.lst (ys.map D.str)]))
  generalize (A2++[C.lst (m.names.map D.str)]).length=q4 at*
  generalize A2++[C.lst (m.names.map D.str)]++[C.lst (ys.map D.str)]=A3 at*
  have yW:=g3.get yV
  have yl:ys.length<=16:=le_trans (pw_len ys m.names hp λx g=>(hm x).mp g) nl
  refine⟨rfl,m,rfl,wm,by omega,λA4 g4=> ?_⟩
  rw[if_pos bm]
  intro I p1 X
  obtain rfl:I=ys:=pw_eq p1 hp λx=>by rw[X,hm]
  refine oi (rs:=rws m I) (by rw[jL];exact p1) (by rw[kT];omega) ?_
  have h5:(A4++[C.dct (bY (rws m I))])[A4.length]? =some (.dct (bY (rws m I))):=aR
  have g5:=g4.trans (Gr.push (T:=[C.dct (bY (rws m I))]))
  have L:=zE wm.arms (by omega) bm p1 X
  generalize A4.length=q5 at*
  generalize A4++[C.dct (bY (rws m I))]=A5 at*
  obtain ⟨b, o, rfl⟩ : ∃ b o, I = b :: o := by
    cases I with
    | nil =>
      have hpos:=aD.mE m
      cases e:m.names with
      |nil=>rw[e] at hpos;simp at hpos
      | cons a l =>
        have:=(X a).mpr (by rw[e];simp)
        cases this
    |cons a l=>exact⟨a,l,rfl⟩
  have E:b∈m.names:=(X b).mp (mem_cons_self ..)
  refine bE (g5.get h4) (v:= .str b) (dz (j:=0) rfl) ?_
  refine⟨rfl,m,b,r,a0,a1,_,rfl,wm,by omega,by omega,wm.nm _ E,g5.get yW,λA6 g6=> ?_⟩
  have JG:=zN (n:=b) (p:=a0) (q:=a1) V.1 V.2
  have rT:=lJ JG
  have rJ:=tZ (n:=b) h0 h1 m wm.arms
  have sD:(cA b a0 a1 m).deep<=5:=by have:=t7 b a0 a1 m;omega
  have uf : ∀ z, z ∈ (cA b a0 a1 m).names ↔ z ∈ m.names ∨ z = "q" := fun z => by
    rw[mC]
    constructor
    · intro hz
      obtain⟨y,Y,hm⟩:=mem_flatMap.mp hz
      split at hm
      · rcases mem_cons.mp hm with rfl | hm
        · exact .inl Y
        · exact .inr (by simpa using hm)
      · exact .inl (by have : z = y := by simpa using hm
                       rw[this];exact Y)
    · rintro (hz | rfl)
      · refine mem_flatMap.mpr ⟨z, hz, ?_⟩
        split<;>simp
      · exact mem_flatMap.mpr ⟨b,E,by rw[if_pos rfl];simp⟩
  have JP:Nm ("q":Str):=⟨by decide+kernel,by decide+kernel,by decide+kernel⟩
  have OL : Wf (cA b a0 a1 m) := ⟨rJ, fun z hz => by
    rcases (uf z).mp hz with h|rfl
    · exact wm.nm z h
    · exact JP⟩
  have sh:=Jz (n:=b) (p:=a0) (q:=a1) V.1 V.2
  generalize cA b a0 a1 m=J at*
  refine⟨rfl,J,rfl,OL,sD,λA7 g7=> ?_⟩
  rw[if_pos rT]
  intro zs p2 W
  have zl : zs.length ≤ 40 := by
    have h1:=pw_len zs J.names p2 λx g=>(W x).mp g
    have h2:=aD.jg J
    have h3:2 ^ J.deep<=2 ^ 5:=pow_le_pow_right (by decide) (by omega)
    omega
  refine oi (rs:=rws J zs) (by rw[jL];exact p2) (by rw[kT];omega) ?_
  have h7:(A7++[C.dct (bY (rws J zs))])[A7.length]? =some (.dct (bY (rws J zs))):=aR
  have g8:=(g6.trans g7).trans (Gr.push (T:=[C.dct (bY (rws J zs))]))
  have DB:=zE rJ sD rT p2 W
  generalize A7.length=q7 at*
  generalize A7++[C.dct (bY (rws J zs))]=A8 at*
  have yT:=g8.get h5
  have sU:=g8.get (g5.get h4)
  have sV:=g8.get (g5.get yW)
  obtain⟨c,hc,pc⟩:=L.prop
  obtain⟨d,hd,pd⟩:=DB.prop
  have k:∀x∈m.names,x∈zs:=λx g=>(W x).mpr ((uf x).mpr (.inl g))
  have M:("q":Str)∈zs:=(W _).mpr ((uf _).mpr (.inr rfl))
  have gB:∀x∈m.names,aN (bY (rws m (b::o))) (Sum.inr x)=some (.int (val (rws m (b::o)) x)):=λx g=>uH ((X x).mpr g)
  have gF:∀x∈zs,aN (bY (rws J zs)) (Sum.inr x)=some (.int (val (rws J zs) x)):=λx g=>uH g
  have bB:∀x∈m.names,ez (val (rws m (b::o)) x)<=9000:=λx g=>AV wm.arms (by omega) bm p1 X ((X x).mpr g)
  have bF:∀x∈zs,ez (val (rws J zs) x)<=9000:=λx g=>AV rJ sD rT p2 W g
  have vB:∀x∈m.names,(val (rws m (b::o)) x:Rat)=c*shr m x:=pc
  have vF:∀x∈zs,(val (rws J zs) x:Rat)=d*shr J x:=λx g=>pd x ((W x).mp g)
  generalize val (rws m (b::o))=bk at*
  generalize val (rws J zs)=fd at*
  have ve:∀y∈o,y≠b/\y∈m.names:=λy Y=>⟨λz=>Nr b ((pairwise_cons.mp p1).1 b (z▸Y)),(X y).mp (mem_cons_of_mem _ Y)⟩
  have DU:ez a0<=64:=rR (by omega) (by omega)
  have O1:ez a1<=64:=rR (by omega) (by omega)
  obtain⟨s1,s2⟩:=(sh b E).2 rfl
  have pq:((a0+a1:Int):Rat)≠0:=dg (by omega)
  refine bE sV (v:= .int a0) (dz (j:=0) rfl) (bE sV (v:= .int a1) (dz (j:=1) rfl) ?_)
  obtain⟨yi,B,eye⟩:∃yi B,b::o=yi++[B]:=⟨_,_,(List.dropLast_concat_getLast (List.cons_ne_nil b o)).symm⟩
  refine bE sU (v:= .str B) (by rw[eye,map_append];exact DO _ _) ?_
  have N:B∈m.names:=(X B).mp (by rw[eye];simp)
  refine M1 sU ?_
  refine eG aR ?_
  have P1:=getElem?_push (T:=[C.lst (o.map D.str)]) yT
  have P2:=getElem?_push (T:=[C.lst (o.map D.str)]) h7
  refine gH (f:=λ_=> .bl true) aR _ _ (λx g=> ?_) (by simp at yl ⊢;omega) ?_
  · obtain ⟨y, Y, rfl⟩ := mem_map.mp g
    obtain⟨ny,O⟩:=ve y Y
    refine⟨[.str y],rfl,λQ hQ=> ?_⟩
    have JW : B ≠ b := by
      cases yi with
      | nil =>
        have : o = [] := by
          have:=congrArg List.length eye
          simp at this
          exact this
        rw[this] at Y
        cases Y
      | cons a l =>
        have e2:b=a/\o=l++[B]:=by simpa using eye
        exact(ve B (by rw[e2.2];simp)).1
    have key : fd y * bk B = bk y * fd B := by
      refine Rat.intCast_inj.mp ?_
      rw[Rat.intCast_mul,Rat.intCast_mul,vF y (k y O),vF B (k B N),vB y O,vB B N,(sh y O).1 ny,(sh B N).1 JW]
      grind
    refine d8 P2 rfl (gF y (k y O)) (d8 P1 rfl (gB B N) ⟨⟨by have:=bF y (k y O);omega,by have:=bB B N;omega⟩,?_⟩)
    refine d8 P1 rfl (gB y O) (d8 P2 rfl (gF B (k B N)) ⟨⟨by have:=bB y O;omega,by have:=bF B (k B N);omega⟩,?_⟩)
    show Q (.bl (decide (fd y*bk B=bk y*fd B))) _
    rw[decide_eq_true key]
    exact hQ
  rw[nil_append]
  refine wc (bs:=(o.map D.str).map λ_=>true) aR (rS (λ_=>true) _) ?_
  have FE:((o.map D.str).map λ_=>true).all id=true:=by simp
  rw[FE]
  have g9:=(Gr.push (T:=[C.lst (o.map D.str)])).trans (Gr.push (A:=A8++[C.lst (o.map D.str)]) (T:=[C.lst ((o.map D.str).map λ_=>D.bl true)]))
  generalize A8++[C.lst (o.map D.str)]++[C.lst ((o.map D.str).map λ_=>D.bl true)]=A9 at*
  have k5:=g9.get yT
  have k7:=g9.get h7
  have k4:=g9.get sU
  have kA:=g9.get sV
  refine d8 k7 rfl (gF "q" M) (bE kA (v:= .int a1) (dz (j:=1) rfl) ⟨⟨by have:=bF "q" M;omega,by omega⟩,?_⟩)
  refine bE k4 (v:= .str b) (dz (j:=0) rfl) (d8 k7 rfl (gF b (k b E)) (bE kA (v:= .int a0) (dz (j:=0) rfl) ⟨⟨by have:=bF b (k b E);omega,by omega⟩,?_⟩))
  have Iz : fd "q" * a1 = fd b * a0 := by
    refine Rat.intCast_inj.mp ?_
    rw[Rat.intCast_mul,Rat.intCast_mul,vF _ M,vF b (k b E),s1,s2]
    grind
  refine cN (λc=>absurd Iz c) (λ_=> ?_)
  refine kE k4 ?_
  refine cD (λc=>q _) (λc=> ?_)
  have c:¬((((b::o).map D.str).length:Nat):Int)=1:=c
  obtain ⟨G, Py, rfl⟩ : ∃ G l, o = G :: l := by
    cases o with
    |nil=>exact absurd rfl c
    |cons a l=>exact⟨a,l,rfl⟩
  obtain⟨ny,O⟩:=ve G (mem_cons_self ..)
  refine bE kA (v:= .int a0) (dz (j:=0) rfl) (bE k4 (v:= .str b) (dz (j:=0) rfl) (d8 k5 rfl (gB b E) ⟨⟨by omega,by have:=bB b E;omega⟩,?_⟩))
  have bp:ez (a0*bk b)<=64+9000:=wG DU (bB b E)
  refine bE k4 (v:= .str G) (dz (j:=1) rfl) (d8 k7 rfl (gF G (k G O)) ⟨⟨by omega,by have:=bF G (k G O);omega⟩,?_⟩)
  have bb:ez (a0+a1)<=64:=rR (by omega) (by omega)
  refine d8 k7 rfl (gF "q" M) ⟨⟨by have:=bF "q" M;omega,by omega⟩,?_⟩
  have O2:ez (fd "q"*(a0+a1))<=9000+64:=wG (bF "q" M) bb
  refine bE k4 (v:= .str G) (dz (j:=1) rfl) (d8 k5 rfl (gB G O) ⟨⟨by omega,by have:=bB G O;omega⟩,?_⟩)
  have IA : fd "q" * (a0 + a1) * bk G = a0 * bk b * fd G := by
    refine Rat.intCast_inj.mp ?_
    rw[Rat.intCast_mul,Rat.intCast_mul,Rat.intCast_mul,Rat.intCast_mul,vF _ M,vB G O,vB b E,vF G (k G O),s2,(sh G O).1 ny]
    grind
  show R (.bl (decide (fd "q"*(a0+a1)*bk G=a0*bk b*fd G))) _
  rw[decide_eq_true IA]
  exact q _
end My
namespace DP
open L2 MA
def fN(k:Nat):Str:=⟨#[98+k]⟩
def eB:Nat->M
 |0=>.wt "a"
 |k+1=>.aM 3 3 (eB k) (.wt (fN k))
def ff(d:Nat):List (Str×Int):=("a",1)::(range d).map λk=>(fN k,(([1,2,4,8,16]:List Int).getD k 0))
theorem zF{k:Nat}(h:k<5):bJ ("bcdef":Str).cps.toList ((k:Nat):Int)=some (98+k):=by
 have:k=0\/k=1\/k=2\/k=3\/k=4:=by omega
 rcases this with rfl|rfl|rfl|rfl|rfl<;>decide+kernel
theorem pw_at{k:Nat}(h:k<5):bJ [D.int 1,D.int 2,D.int 4,D.int 8,D.int 16] ((k:Nat):Int)=some (.int (([1,2,4,8,16]:List Int).getD k 0)):=by
 have:k=0\/k=1\/k=2\/k=3\/k=4:=by omega
 rcases this with rfl|rfl|rfl|rfl|rfl<;>rfl
theorem wO:∀k,(eB k).deep=k
 |0=>rfl
 |k+1=>by
  show max (eB k).deep 0+1=k+1;rw[wO k];simp
theorem zW:Nm ("a":Str):=⟨by decide+kernel,by decide+kernel,by decide+kernel⟩
theorem JN:Nm ("b":Str):=⟨by decide+kernel,by decide+kernel,by decide+kernel⟩
theorem JO{k:Nat}(h:k<5):Nm (fN k):=⟨le_refl 1,show 1<=3 by decide,λc hc=>by
 have:c=98+k:=by simpa[fN] using hc
 omega⟩
theorem wU:∀k,k<=5->Wf (eB k)
 |0,_=>⟨trivial,λx a=>by
  rw[show x="a" by simpa[eB,aD.names] using a];exact zW⟩
 |k+1,h=>by
  have b:=wU k (by omega);refine⟨⟨by decide,by decide,by decide,by decide,b.arms,trivial⟩,λx a=>?_⟩;rcases mem_append.mp (show x∈(eB k).names++[fN k] from a) with h1|h1
  .exact b.nm x h1
  .rw[mem_singleton.mp h1]
   exact JO (by omega)
theorem c5{d:Nat}(h1:1<=d)(a:d<=5):d=1\/d=2\/d=3\/d=4\/d=5:=by omega
theorem wR{d:Nat}(h1:1<=d)(a:d<=5):(eB d).names.Pairwise strLt:=by
 unfold strLt;rcases c5 h1 a with rfl|rfl|rfl|rfl|rfl<;>decide+kernel
theorem Em{d:Nat}(h1:1<=d)(a:d<=5):(eB d).names.zip (lw ((eB d).sh 1))=ff d:=by
 rcases c5 h1 a with rfl|rfl|rfl|rfl|rfl<;>decide+kernel
theorem wN{d:Nat}(h1:1<=d)(a:d<=5):bC [] (aZ (eB d) "" 1)=none:=lJ (qm (wR h1 a))
theorem wQ{d:Nat}(h1:1<=d)(a:d<=5):rws (eB d) (eB d).names=ff d:=by
 unfold rws;rw[(jM (wN h1 a)).2,Em h1 a]
theorem Me{d:Nat}(h1:1<=d)(a:d<=5):(ff d).map (·.1)=(eB d).names:=by rw[<-wQ h1 a,jL]
theorem IU{rs:List (Str×Int)}(b:(rs.map (·.1)).Nodup):∀p∈bY rs,∃i:Int,p.2=.int i/\aN (bY rs) p.1=some (.int i):=λp c=>by
 obtain⟨r,a,rfl⟩:=mem_map.mp c;exact⟨r.2,rfl,by rw[show aN (bY rs) (Sum.inr r.1)=_ from sR rs r.1 (mem_map_of_mem a),qJ b a]⟩
def aQ(p q:Int):M:=.aM p q (.wt "a") (.wt "b")
def ab:List Str:=["a","b"]
theorem jm:ab.Pairwise strLt:=by unfold ab strLt;decide+kernel
theorem jH:("a":Str)≠"b":=by decide+kernel
theorem fB{p q:Int}(a:1<=p/\p<=9)(b:1<=q/\q<=9):One (aQ p q):=.inr ⟨p,q,"a","b",rfl,a,b,by decide+kernel,by decide+kernel,jH⟩
theorem mJ(p q:Int)(n:Str):n∈ab↔n∈(aQ p q).names:=Iff.rfl
def gk(p q:Int):List (Str×Int):=[("a",(rd q p).1),("b",(rd q p).2)]
theorem i9{p:Int}(h:1<=p/\p<=9):∃k:Fin 9,p=((k.val+1:Nat):Int):=⟨⟨(p - 1).toNat,by omega⟩,by simp;omega⟩
theorem Jl:∀i j:Fin 9,ab.zip (lw ((aQ ((i.val+1:Nat):Int) ((j.val+1:Nat):Int)).sh 1))=gk ((i.val+1:Nat):Int) ((j.val+1:Nat):Int):=by decide+kernel
theorem qp{p q:Int}(a:1<=p/\p<=9)(b:1<=q/\q<=9):rws (aQ p q) ab=gk p q:=by
 have hb:=(di (fB a b)).bar;obtain⟨i,rfl⟩:=i9 a;obtain⟨j,rfl⟩:=i9 b;unfold rws;rw[show ab.map (shr (aQ ((i.val+1:Nat):Int) ((j.val+1:Nat):Int)))=_ from (jM hb).2];exact Jl i j
theorem Mf{a b c d:Int}(ha:1<=a/\a<=9)(hb:1<=b/\b<=9)(hc:1<=c/\c<=9)(hd:1<=d/\d<=9):gk a b=gk c d↔a*d=b*c:=by
 have e:0<(Int.gcd b a:Int):=Int.natCast_pos.mpr (Int.gcd_pos_of_ne_zero_left _ (by omega));have f:0<(Int.gcd d c:Int):=Int.natCast_pos.mpr (Int.gcd_pos_of_ne_zero_left _ (by omega));have key:∀i j k l:Fin 9,decide (gk ((i.val+1:Nat):Int) ((j.val+1:Nat):Int)=gk ((k.val+1:Nat):Int) ((l.val+1:Nat):Int))=decide (((i.val+1:Nat):Int)*((l.val+1:Nat):Int)=((j.val+1:Nat):Int)*((k.val+1:Nat):Int)):=by decide+kernel
 obtain⟨i,rfl⟩:=i9 ha;obtain⟨j,rfl⟩:=i9 hb;obtain⟨k,rfl⟩:=i9 hc;obtain⟨l,rfl⟩:=i9 hd;exact decide_eq_decide.mp (key i j k l)
theorem DW{b g c i:Str}{x y a d:Rat}(j:x=a->y=d):bC [] [(b,("a":Str),x),(g,("b":Str),y),(c,("a":Str),a),(i,("b":Str),d)]=if x=a then none else some (b,c):=by
 have e:decide (("a":Str)="b")=false:=by decide+kernel
 have f:decide (("b":Str)="a")=false:=by decide+kernel
 by_cases h:x=a
 .have h':=j h
  subst h h';simp[bC,find?,e,f]
 .simp[bC,find?,e,f,h]
theorem DV{a b:Str}{x:Rat}:bC [] [(a,("b":Str),x),(b,("b":Str),x)]=none:=by
 simp[bC,find?]
section
variable{a b c d:Int}(ha:1<=a/\a<=9)(hb:1<=b/\b<=9)(hc:1<=c/\c<=9)(hd:1<=d/\d<=9)
def two(a b c d:Int):List M:=[aQ a b,aQ c d]
include ha hb hc hd
theorem k8:∀m∈two a b c d,One m:=λm hm=>by
 rcases mem_cons.mp hm with rfl|hm
 .exact fB ha hb
 .rw[mem_singleton.mp hm]
  exact fB hc hd
theorem Ov{w:Str->Rat}:Cs ((two a b c d).map aG) w->a*d=b*c:=λe=>by
 have k1:=iF (di (fB ha hb));have k2:=iF (di (fB hc hd));have f:=e.eq (aG (aQ a b)) (mem_cons_self ..) "a" ((k1.2.1 _).mpr (by simp[aQ,aD.names])) "b" ((k1.2.1 _).mpr (by simp[aQ,aD.names]));have g:=e.eq (aG (aQ c d)) (mem_cons_of_mem _ (mem_cons_self ..)) "a" ((k2.2.1 _).mpr (by simp[aQ,aD.names])) "b" ((k2.2.1 _).mpr (by simp[aQ,aD.names]));rw[k1.2.2 _ ((k1.2.1 _).mpr (by simp[aQ,aD.names])),k1.2.2 _ ((k1.2.1 _).mpr (by simp[aQ,aD.names]))] at f;rw[k2.2.2 _ ((k2.2.1 _).mpr (by simp[aQ,aD.names])),k2.2.2 _ ((k2.2.1 _).mpr (by simp[aQ,aD.names]))] at g;obtain⟨h,i⟩:=nc (l:=a) (r:=b) jH;obtain⟨j,s4⟩:=nc (l:=c) (r:=d) jH;have f:w "a"*shr (.aM a b (.wt "a") (.wt "b")) "b"=w "b"*shr (.aM a b (.wt "a") (.wt "b")) "a":=f;have g:w "a"*shr (.aM c d (.wt "a") (.wt "b")) "b"=w "b"*shr (.aM c d (.wt "a") (.wt "b")) "a":=g;rw[h,i] at f;rw[j,s4] at g;have n1:=dg (show(a+b:Int)≠0 by omega);have n2:=dg (show(c+d:Int)≠0 by omega);have k:=fO (e.pos "a");have m:=fO (e.pos "b");refine Rat.intCast_inj.mp ?_;rw[Rat.intCast_mul,Rat.intCast_mul];have n:w "a"*(a:Rat)=w "b"*(b:Rat):=by grind
 have o:w "a"*(c:Rat)=w "b"*(d:Rat):=by grind
 grind
def fS(a b:Int)(n:Str):Rat:=if n="a" then (b:Rat) else if n="b" then (a:Rat) else 1
theorem w_(h:a*d=b*c):Cs ((two a b c d).map aG) (fS a b):=by
 have o:((a:Rat))*(d:Rat)=(b:Rat)*(c:Rat):=by rw[<-Rat.intCast_mul,<-Rat.intCast_mul,h]
 have s:(0:Rat)<(a:Rat):=Rat.intCast_pos.mpr (by omega);have t:(0:Rat)<(b:Rat):=Rat.intCast_pos.mpr (by omega);have k:fS a b "a"=(b:Rat):=if_pos rfl;have m:fS a b "b"=(a:Rat):=by unfold fS;rw[if_neg (Ne.symm jH),if_pos rfl]
 refine⟨λn=>?_,λT hT x f y g=>?_⟩
 .unfold fS
  split
  .exact t
  .split
   .exact s
   .decide
 have go:∀p q:Int,(1<=p/\p<=9)->(1<=q/\q<=9)->(a:Rat)*(q:Rat)=(b:Rat)*(p:Rat)->x∈aA (aG (aQ p q))->y∈aA (aG (aQ p q))->fS a b x*bQ (aG (aQ p q)) y=fS a b y*bQ (aG (aQ p q)) x:=λp q u v e f g=>by
  have k1:=iF (di (fB u v));rw[k1.2.2 x f,k1.2.2 y g];have w:x="a"\/x="b":=by simpa[aQ,aD.names] using (k1.2.1 x).mp f
  have z:y="a"\/y="b":=by simpa[aQ,aD.names] using (k1.2.1 y).mp g
  obtain⟨i,j⟩:=nc (l:=p) (r:=q) jH;have i:shr (aQ p q) "a"=_:=i;have j:shr (aQ p q) "b"=_:=j;have n1:=dg (show(p+q:Int)≠0 by omega);rcases w with rfl|rfl<;>rcases z with rfl|rfl
  .rfl
  .rw[i,j,k,m];grind
  .rw[i,j,k,m];grind
  .rfl
 rcases mem_cons.mp hT with rfl|hT
 .exact go a b ha hb (by grind) f g
 .rw[mem_singleton.mp hT] at f g ⊢
  exact go c d hc hd o f g
theorem u0:eK ((two a b c d).map aG)=none↔a*d=b*c:=by
 have hok:=i_ (ms:=two a b c d) (by show 2<=6;decide) (k8 ha hb hc hd);constructor
 .intro h
  obtain⟨w,e⟩:=J6 hok h;exact Ov ha hb hc hd e
 .intro h
  exact L5 hok (w_ ha hb hc hd h)
theorem Ow{n x:Str}(g:n∈ab):RM (two a b c d) n x↔x∈ab:=by
 have h1:=k8 ha hb hc hd;have e:∀{y z:Str},iI ((two a b c d).map aG) y z↔(y∈ab/\z∈ab):=λ {y z}=>by
  rw[DI h1];constructor
  .rintro ⟨m,hm,h2,f⟩
   rcases mem_cons.mp hm with rfl|hm
   .exact⟨h2,f⟩
   .rw[mem_singleton.mp hm] at h2 f
    exact⟨h2,f⟩
  .rintro ⟨h2,f⟩
   exact⟨_,mem_cons_self ..,h2,f⟩
 constructor
 .intro h
  cases h with
  |refl=>exact g
  |step _ h=>exact(e.mp h).2
 .intro i
  exact .step (.refl _) (e.mpr ⟨g,i⟩)
theorem Ox(h:a*d=b*c):kZ ((two a b c d).map aG)=rws (aQ a b) ab:=by
 have h1:=k8 ha hb hc hd;have i:(two a b c d).length<=6:=by show 2<=6;decide
 have hok:=i_ i h1;have s:=w_ ha hb hc hd h;have has:∀n,qR (two a b c d) n->n∈ab:=λn ⟨m,hm,g⟩=>by
  rcases mem_cons.mp hm with rfl|hm
  .exact g
  .rw[mem_singleton.mp hm] at g
   exact g
 have all:∀P∈aY ((two a b c d).map aG),(∀x,x∈ak P↔x∈ab)/\ee ((two a b c d).map aG) P=rws (aQ a b) ab:=λP v=>by
  obtain⟨f,h0,j,rfl,w⟩:=G4 h1 i v;have hm:∀x,x∈ak (aJ ((two a b c d).map aG) f)↔x∈ab:=λx=>by rw[w,Ow ha hb hc hd (has f j)]
  refine⟨hm,?_⟩;have z:gp (ak (aJ ((two a b c d).map aG) f))=ab:=nC jm λx=>(hm x).symm;unfold ee rws;rw[z];have wp:=s.pos f;have A:ab.map (c8 ((two a b c d).map aG) (aJ ((two a b c d).map aG) f))=((ab.map (shr (aQ a b))).map ((((a+b:Int):Rat)/fS a b f)*·)):=by
   rw[map_map];refine map_congr_left λn g=>?_;have e:=G8 h1 i s h0 ((hm n).mpr g);obtain⟨k,o⟩:=nc (l:=a) (r:=b) jH;have k:shr (aQ a b) "a"=_:=k;have o:shr (aQ a b) "b"=_:=o;have n1:=dg (show(a+b:Int)≠0 by omega);have ws:fS a b n=((a+b:Int):Rat)*shr (aQ a b) n:=by
    have p:n="a"\/n="b":=by simpa[ab] using g
    rcases p with rfl|rfl
    .rw[k,show fS a b "a"=(b:Rat) from if_pos rfl];grind
    .rw[o,show fS a b "b"=(a:Rat) by unfold fS;rw[if_neg (Ne.symm jH),if_pos rfl]];grind
   have wn:=fO wp;show c8 ((two a b c d).map aG) (aJ ((two a b c d).map aG) f) n=((a+b:Int):Rat)/fS a b f*shr (aQ a b) n;rw[ws] at e;grind
  rw[A,Jm]
  .intro x B
   obtain⟨y,C,rfl⟩:=mem_map.mp B;have q:=di (fB ha hb);exact(ng q.wf.arms q.deep q.bar C).pos
  .have:(0:Rat)<((a+b:Int):Rat):=Rat.intCast_pos.mpr (by omega)
   rw[Rat.div_def];exact Rat.mul_pos this (Rat.inv_pos.mpr wp)
 obtain⟨f,_,t,_⟩:=G1 h1 i (n:="a") ⟨_,mem_cons_self ..,by simp[aQ,aD.names]⟩;have u:=oH hok;unfold kZ;cases e:aY ((two a b c d).map aG) with
 |nil=>rw[e] at t;cases t
 |cons P l=>
  rw[e] at all u;cases l with
  |nil=>rw[flatMap_cons,List.flatMap_nil,append_nil,(all P (mem_cons_self ..)).2]
  |cons Q l=>
   have h2:=(pairwise_cons.mp u).1 Q (mem_cons_self ..) "a" (((all P (mem_cons_self ..)).1 _).mpr (by simp[ab]));exact absurd (((all Q (mem_cons_of_mem _ (mem_cons_self ..))).1 _).mpr (by simp[ab])) h2
end
theorem CJ{a b c d:Int}{ms:List M}(h:fG (.tup [enc (aQ a b),enc (aQ c d)]) ms):ms=two a b c d:=by
 have e:=h.1;injection e with e;exact(yb (ms:=two a b c d) (ms':=ms) e).symm
theorem L8{rs qs:List (Str×Int)}(h:rs.Perm qs)(h1:(rs.map (·.1)).Pairwise strLt)(h2:(qs.map (·.1)).Pairwise strLt):rs=qs:=
 up_eq (r:=λa b:Str×Int=>strLt a.1 b.1) (λ_ _=>Np) (pairwise_map.mp h1) (pairwise_map.mp h2) λ_=>h.mem_iff
section
variable{a b c d:Int}(ha:1<=a/\a<=9)(hb:1<=b/\b<=9)(hc:1<=c/\c<=9)(hd:1<=d/\d<=9)
include ha hb hc hd
theorem CK:fG (.tup [enc (aQ a b),enc (aQ c d)]) (two a b c d):=⟨rfl,by show 1<=2;decide,by show 2<=6;decide,λm e=>di (k8 ha hb hc hd m e)⟩
theorem CL{A:Ar}:bK A (.tup [enc (aQ a b),enc (aQ c d)])=true:=by
 show(bK A (enc (aQ a b))&&(bK A (enc (aQ c d))&&true))=true;rw[mF (di (fB ha hb)).wf.nm,mF (di (fB hc hd)).wf.nm];rfl
theorem L4{A:Ar}{Q:DK}{E:DX}(k:∀A',Gr A A'->∀v,jB v=decide (a*d=b*c)->Q v A'):rD [.tup [enc (aQ a b),enc (aQ c d)]] A Q E:=by
 refine⟨_,N6,rfl,CL ha hb hc hd,λms e=>?_,λf=>absurd ⟨_,CK ha hb hc hd⟩ f⟩;obtain rfl:=CJ e;refine⟨i_ (by show 2<=6;decide) (k8 ha hb hc hd),λi A' g=>k A' g .ao ?_,λj h A' q g _ _=>k A' g (.ref q) ?_⟩
 .rw[decide_eq_true ((u0 ha hb hc hd).mp i)]
  rfl
 .rw[decide_eq_false λz=>by rw[(u0 ha hb hc hd).mpr z] at h;cases h]
  rfl
theorem Ob{A:Ar}{Q:DK}{E:DX}(h:a*d=b*c)(k:∀A',Gr A A'->Q (d7 (gk a b)) A'):rF [.tup [enc (aQ a b),enc (aQ c d)]] A Q E:=by
 refine⟨_,N6,rfl,CL ha hb hc hd,pC,λms e=>?_,λf=>absurd ⟨_,CK ha hb hc hd⟩ f⟩;obtain rfl:=CJ e;have h1:=k8 ha hb hc hd;have i:(two a b c d).length<=6:=by show 2<=6;decide
 refine⟨i_ i h1,λj=>⟨G7 h1 i,λA' rs g l m=>?_⟩,λj=>absurd ((u0 ha hb hc hd).mpr h) j⟩;rw[Ox ha hb hc hd h] at l;have:=L8 l m (by rw[jL];exact jm);rw[this,qp ha hb];exact k A' g
theorem DM{A:Ar}{Q:DK}{E:DX}(k:∀A',Gr A A'->Q (.bl (decide (a*d=b*c))) A'):jW [enc (aQ a b),enc (aQ c d)] A Q E:=by
 have h1:=di (fB ha hb);have h2:=di (fB hc hd);refine⟨aQ a b,aQ c d,ab,ab,rfl,h1.wf,h2.wf,h1.deep,h2.deep,h1.bar,h2.bar,jm,mJ a b,jm,mJ c d,λA' g=>?_⟩;rw[qp ha hb,qp hc hd];have e:((decide (ab.length=1)&&decide (ab.length=1))||decide (gk a b=gk c d))=decide (a*d=b*c):=by
  rw[show decide (ab.length=1)=false from rfl,Bool.false_and,Bool.false_or];exact decide_eq_decide.mpr (Mf ha hb hc hd)
 rw[e];exact k A' g
end
def f_(a:Int):M:=.aM a a (.wt "b") (.wt "b")
theorem zw{a:Int}(ha:1<=a/\a<=9):Hl (f_ a):=⟨⟨⟨ha.1,ha.2,ha.1,ha.2,trivial,trivial⟩,λx b=>by
 have:x="b":=by simpa[f_,aD.names] using b
 rw[this];exact JN⟩,by show 1<=5;decide,DV⟩
theorem tN(a:Int)(n:Str):n∈[("b":Str)]↔n∈(f_ a).names:=by simp[f_,aD.names]
theorem pw_1{x:Str}:[x].Pairwise strLt:=List.pairwise_singleton _ _
theorem DN{a:Int}(ha:1<=a/\a<=9){A:Ar}{Q:DK}{E:DX}(k:∀A',Gr A A'->Q (.bl true) A'):jW [enc (.wt "a"),enc (f_ a)] A Q E:=by
 have h2:=zw ha;refine⟨.wt "a",f_ a,["a"],["b"],rfl,⟨trivial,λx b=>?_⟩,h2.wf,by decide,h2.deep,rfl,h2.bar,pw_1,λn=>Iff.rfl,pw_1,tN a,λA' g=>k A' g⟩;have:x="a":=by simpa[aD.names] using b
 rw[this];exact zW
theorem v9{a b c:Int}(ha:1<=a/\a<=9)(hb:1<=b/\b<=9)(hc:1<=c/\c<=9){A:Ar}{Q:DK}{E:DX}(k:∀A',Gr A A'->Q (.bl false) A'):jW [enc (aQ a b),enc (f_ c)] A Q E/\jW [enc (f_ c),enc (aQ a b)] A Q E:=by
 have h1:=di (fB ha hb);have h2:=zw hc;have l1:=kT (aQ a b) ab;have l2:=kT (f_ c) ["b"];have n1:rws (aQ a b) ab≠rws (f_ c) ["b"]:=λz=>by rw[z,l2] at l1;exact absurd l1 (by decide)
 refine⟨⟨aQ a b,f_ c,ab,["b"],rfl,h1.wf,h2.wf,h1.deep,h2.deep,h1.bar,h2.bar,jm,mJ a b,pw_1,tN c,λA' g=>?_⟩,⟨f_ c,aQ a b,["b"],ab,rfl,h2.wf,h1.wf,h2.deep,h1.deep,h2.bar,h1.bar,pw_1,tN c,jm,mJ a b,λA' g=>?_⟩⟩
 .rw[decide_eq_false n1]
  exact k A' g
 .rw[decide_eq_false (Ne.symm n1)]
  exact k A' g
def nk(a b c d:Int):M:=.aM c d (aQ a b) (aQ a b)
theorem Oq{a b c d:Int}(ha:1<=a/\a<=9)(hb:1<=b/\b<=9)(hc:1<=c/\c<=9)(hd:1<=d/\d<=9):bC [] (aZ (nk a b c d) "" 1)=if c=d then none else some (("ll":Str),("rl":Str)):=by
 have e:aZ (nk a b c d) "" 1=[(""++("l":Str)++("l":Str),("a":Str),1*((d:Rat)/((c+d:Int):Rat))*((b:Rat)/((a+b:Int):Rat))),(""++("l":Str)++("r":Str),("b":Str),1*((d:Rat)/((c+d:Int):Rat))*((a:Rat)/((a+b:Int):Rat))),(""++("r":Str)++("l":Str),("a":Str),1*((c:Rat)/((c+d:Int):Rat))*((b:Rat)/((a+b:Int):Rat))),(""++("r":Str)++("r":Str),("b":Str),1*((c:Rat)/((c+d:Int):Rat))*((a:Rat)/((a+b:Int):Rat)))]:=rfl;have n1:=dg (show(a+b:Int)≠0 by omega);have n2:=dg (show(c+d:Int)≠0 by omega);have nb:=dg (show b≠0 by omega);have key:(1*((d:Rat)/((c+d:Int):Rat))*((b:Rat)/((a+b:Int):Rat))=1*((c:Rat)/((c+d:Int):Rat))*((b:Rat)/((a+b:Int):Rat)))↔c=d:=by
  constructor
  .intro h
   refine Rat.intCast_inj.mp ?_;grind
  .intro h
   rw[h]
 rw[e,DW (λh=>by rw[key.mp h])];by_cases h:c=d
 .rw[if_pos (key.mpr h),if_pos h]
 .rw[if_neg (λz=>h (key.mp z)),if_neg h]
  decide+kernel
theorem Ou{a b c d:Int}(ha:1<=a/\a<=9)(hb:1<=b/\b<=9)(hc:1<=c/\c<=9)(hd:1<=d/\d<=9):Wf (nk a b c d):=by
 have h1:=(di (fB ha hb)).wf;refine⟨⟨hc.1,hc.2,hd.1,hd.2,h1.arms,h1.arms⟩,λx e=>?_⟩;rcases mem_append.mp (show x∈(aQ a b).names++(aQ a b).names from e) with h|h
 .exact h1.nm x h
 .exact h1.nm x h
theorem Ot{c d:Int}{A:Ar}{Q:DK}(k:Q (.bl false) A):oK true (bD (if c=d then none else some (("ll":Str),("rl":Str)))) (.tup [.ao,.tup [.str "ll",.str "rl"]]) A Q:=by
 show ku true _ _ A Q;unfold ku;by_cases h:c=d
 .rw[if_pos h]
  refine⟨rfl,rfl,by decide+kernel,?_,?_,k⟩
  .show(toQ D.ao).canLay0=true
   decide+kernel
  .show min (depthAll (bu [D.ao,D.tup [D.str "ll",D.str "rl"]])) (toQ D.ao).depth<=60
   decide+kernel
 .rw[if_neg h]
  refine⟨rfl,rfl,by decide+kernel,?_,?_,k⟩
  .show(toQ (D.tup [D.str "ll",D.str "rl"])).canLay0=true
   decide+kernel
  .show min (depthAll (bu [D.ao,D.tup [D.str "ll",D.str "rl"]])) (toQ (D.tup [D.str "ll",D.str "rl"])).depth<=60
   decide+kernel
end DP
namespace My
open L2 DP MA
theorem Gh{fo:Addr}{fd:FuncData}(T:iJ K "law" "law" iR fo fd)(t:mg "range"=none)(J:mg "dict"=none)(m:av P w K mg base 3 "_law_draw" kJ (au mg 3 lz))(u:av P w K mg base 12 "least" kM (au mg 1 lA))(X:av P w K mg base 14 "ring" qc (au mg 1 rD))(n:av P w K mg base 13 "alike" pV (au mg 2 jW))(F:av P w K mg base 14 "together" qf (au mg 1 rF))(S:av P w K mg base 11 "bar" jJ (au mg 1 ly))(y:av P w K mg base 1 "_law_least" pO (au mg 2 vN))(l:av P w K mg base 14 "_law_longer_one" pQ (au mg 3 vO)):eO P w K mg base (br P w) 26 fo fd uq (au mg 1 vL):=by
 refine GL T BY rfl (by decide) λN RE f cdv B outer s H E I hR G ds A R h hl=>?_;have o:=I.units;have nd:=BY.nd;refine⟨_,(@ay _ _ _ _ _ _ (dS 1 nd (eE af)) (@ay _ _ _ _ _ _ (dS 2 nd (cU ai (dL m I G (aa (vr 0) (aa (vr 1) (aa ai af)))))) (@ay _ _ _ _ _ _ (dS 3 nd (bg (aa aV (aa aV af)))) (@ay _ _ _ _ _ _ (fu d9 rfl (lW t (aa (vr 2) af)) (dG 4 nd) (@aB _ _ _ _ (dS 3 nd (bg (aa aV (aa ai (aa ai (aa (vr 3) (aa (bg (aa aV (aa (dX o aV (vr 4)) af))) af))))))))) (@ay _ _ _ _ _ _ (bO (N5 o (iX (jq rfl) ju J boot_dict (aa (dL u I G (aa (vr 3) af)) af)) (iX (jq rfl) ju J boot_dict (aa (cU (eE (aa (bg (aa aV (aa ai af))) af)) (fK none (own:=["_law_k"]) (frees:=[]) (ix:=[]) rfl (lW t (aa (vr 2) af)) (λc=>(pG 0 (show(["_law_k"]:List Str).Nodup by decide+kernel))) (λc=>(bg (aa (dX o aV (vr 0)) (aa (dX o (eE (aa ai (aa ai (aa ai (aa ai (aa ai af)))))) (vr 0)) af)))))) af))) (@aB _ _ _ _ (aP eY)) bR) (@ay _ _ _ _ _ _ (om none (own:=["_law_k"]) (frees:=["_law_script","_law_town"]) (ix:=[0,1]) (i:=5) nd rfl (by first|exact Or.inl rfl|exact Or.inr rfl) rfl (lW t (aa ai af)) (λc=>(pG 0 (show(["_law_k","_law_script","_law_town"]:List Str).Nodup by decide+kernel))) (λc=>(cU ai (dL m I kO (aa (vr 1) (aa (vr 2) (aa ai af))))))) (@ay _ _ _ _ _ _ (dS 6 nd (bg (aa aV (aa (dX o (vr 5) ai) (aa (dX o (vr 5) ai) (aa (bg (aa aV (aa aV af))) (aa (bg (aa aV (aa aV af))) af))))))) (@ay _ _ _ _ _ _ (dS 7 nd (bg (aa aV (aa (dX o (vr 5) ai) (aa (dX o (vr 5) ai) (aa (bg (aa aV (aa aV af))) (aa (bg (aa aV (aa aV af))) af))))))) (@ay _ _ _ _ _ _ (dS 8 nd (jy o (fL (dX o (vr 5) ai) (dX o (vr 5) ai)) (fL (dX o (vr 5) ai) (dX o (vr 5) ai)))) (@ay _ _ _ _ _ _ (bO (PW.pt (e9 (iE o (e_is (dL X I G (aa (bg (aa (vr 6) (aa (vr 7) af))) af)) ic) (vr 8)) (f6 (iE o (dL n I G (aa (vr 6) (aa (vr 7) af))) (vr 8))))) (@aB _ _ _ _ (aP eY)) bR) (@ay _ _ _ _ _ _ (bO (PW.pt (x6 (dZ (vr 8)) (x8 (iE o (dL F I G (aa (bg (aa (vr 6) (aa (vr 7) af))) af)) (dL u I G (aa (vr 6) af)))))) (@aB _ _ _ _ (aP eY)) bR) (@ay _ _ _ _ _ _ (dS 9 nd (bg (aa aV (aa (dX o (vr 5) ai) (aa (dX o (vr 5) ai) (aa (bg (aa aV (aa aV af))) (aa (bg (aa aV (aa aV af))) af))))))) (@ay _ _ _ _ _ _ (bO (PW.pt (e9 (fM (dZ (dL n I G (aa (bg (aa aV (aa aV af))) (aa (vr 9) af))))) (e9 (dZ (dL n I G (aa (vr 6) (aa (vr 9) af)))) (f6 (dZ (dL n I G (aa (vr 9) (aa (vr 6) af)))))))) (@aB _ _ _ _ (aP eY)) bR) (@ay _ _ _ _ _ _ (Fv (dL y I G (aa (dX o (vr 5) ai) (aa (dX o (vr 5) ai) af))) (lU rfl (fX (dG 10 nd) (fX (dG 11 nd) lV)))) (@ay _ _ _ _ _ _ (bO (iE o (dL u I G (aa (vr 6) af)) (bg (aa (bg (aa aV (aa (vr 10) af))) (aa (bg (aa aV (aa (vr 11) af))) af)))) (@aB _ _ _ _ (aP eY)) bR) (@ay _ _ _ _ _ _ (dS 12 nd (bg (aa aV (aa (dX o (vr 5) ai) (aa (dX o (vr 5) ai) (aa (vr 6) (aa (vr 6) af))))))) (@ay _ _ _ _ _ _ (bO (PW.pt (e9 (iE o (e_is (dL S I G (aa (vr 12) af)) ic) (jy o (dX o (vr 5) ai) (dX o (vr 5) ai))) (f6 (N7 o (dL S I G (aa (vr 12) af)) (bg (aa ic (aa (bg (aa aV (aa aV af))) af))))))) (@aB _ _ _ _ (aP eY)) bR) (@aB _ _ _ _ (aP (dL l I G (aa (vr 0) (aa (vr 1) (aa (vr 5) af))))))))))))))))))))))),?_⟩;obtain⟨ns,rfl,q⟩:=h;have hz:(3000:Nat)<=sizeLine:=by decide
 refine⟨zero_le _,rfl,ns,_,5,0,rfl,⟨[],aR,le_refl _⟩,by decide,by decide,λdp A1 d0 d5 b1 t1=>?_⟩;obtain⟨d,rfl⟩:∃d:Nat,dp=d:=⟨dp.toNat,by omega⟩;have O7:d<5:=by omega
 obtain⟨Pu,HC,_⟩:=id t1;have Pj:=dJ HC;refine⟨show 2<=sizeLine by omega,?_⟩;have Z:(1+(d:Int)).toNat=d+1:=by omega
 refine⟨by omega,by omega,?_⟩;rw[Z];refine eZ (λrest τ A'=>∃(i:Nat) (x:Option D),rest=(dw 0 (d+1)).drop i/\i<=d+1/\τ=[some (.fl ns),some (.ref A.length),some (.int (1+(d:Int))),some (enc (eB i)),x,none,none,none,none,none,none,none,none]/\A'=A1) ?_ ?_ ?_ _ _ _ ⟨0,none,rfl,zero_le _,rfl,rfl⟩
 .intro _ _ _ _
  trivial
 .rintro v rest τ A' ⟨i,x,e,hi,rfl,rfl⟩ Nx hN
  obtain⟨rfl,e2,hi2⟩:=L6 e;have hat:=zF (k:=i) (by omega);conv=>whnf
  rw[hat];refine⟨by decide+kernel,show 2<=sizeLine by omega,show 5<=sizeLine by omega,?_⟩;exact hN _ _ ⟨i+1,_,e2,hi2,rfl,rfl⟩
 rintro τ A' ⟨i,x,e,hi,rfl,rfl⟩;have ei:i=d+1:=by
  have:=congrArg List.length e;rw[length_drop] at this;simp[dw] at this;omega
 subst ei;have cw:=wU (d+1) (by omega);have cd:=wO (d+1);have cb:=wN (d:=d+1) (by omega) (by omega);have cu:=wR (d:=d+1) (by omega) (by omega);have cf:=Me (d:=d+1) (by omega) (by omega);have cl:(ff (d+1)).length=d+2:=by simp[ff]
 refine⟨rfl,eB (d+1),rfl,cw,by omega,λA2 g2=>?_⟩;rw[if_pos cb];intro ys p1 m1;obtain rfl:ys=(eB (d+1)).names:=pw_eq p1 cu m1;have er:=wQ (d:=d+1) (by omega) (by omega);unfold rws at er;rw[er];refine oi (rs:=ff (d+1)) (by rw[cf];exact cu) (by omega) ?_;have h5:(A2++[C.dct (bY (ff (d+1)))])[A2.length]?=some (.dct (bY (ff (d+1)))):=aR;have g5:=g2.trans (Gr.push (T:=[C.dct (bY (ff (d+1)))]));generalize A2.length=q5 at*
 generalize A2++[C.dct (bY (ff (d+1)))]=A5 at*
 refine⟨show 2<=sizeLine by omega,show 1<=sizeLine by omega,by omega,by omega,?_⟩;rw[Z];have hL:(A5++[C.lst [D.tup [D.str "a",D.int 1]]])[A5.length]?=some (.lst [D.tup [D.str "a",D.int 1]]):=aR;have gL:=g5.trans (Gr.push (T:=[C.lst [D.tup [D.str "a",D.int 1]]]));have yU:=getElem?_push (T:=[C.lst [D.tup [D.str "a",D.int 1]]]) h5;generalize A5.length=qL at*
 generalize A5++[C.lst [D.tup [D.str "a",D.int 1]]]=A6 at*
 refine rZ (λx=>match x with|.int k=>aW (fN k.toNat,([1,2,4,8,16]:List Int).getD k.toNat 0)|x=>x) _ _ _ (λ_ _=>trivial) (λx G B1 g1=>?_) (by simp[dw];omega) (λB1 g1=>?_)
 .unfold dw at G
  obtain⟨k,hk,rfl⟩:=mem_map.mp G;have yZ:k<5:=by have:=List.mem_range.mp hk;omega
  refine⟨[.int (0+(k:Int))],rfl,λQ hQ=>?_⟩;have e0:(0:Int)+(k:Int)=((k:Nat):Int):=by omega
  rw[e0] at hQ ⊢;have hat:=zF yZ;conv=>whnf
  rw[hat];refine⟨by decide+kernel,show 5<=sizeLine by omega,?_⟩;refine bE aR (pw_at yZ) ?_;refine⟨show 2<=sizeLine by omega,?_⟩;have:=hQ _ (Gr.push (T:=[C.lst [D.int 1,D.int 2,D.int 4,D.int 8,D.int 16]]));simpa[aW,fN] using this
 have em:(dw 0 (d+1)).map (λx=>match x with|.int k=>aW (fN k.toNat,([1,2,4,8,16]:List Int).getD k.toNat 0)|x=>x)=((range (d+1)).map λk=>(fN k,([1,2,4,8,16]:List Int).getD k 0)).map aW:=by
  unfold dw;rw[map_map,map_map];refine map_congr_left λk _=>?_;show aW (fN (0+(k:Int)).toNat,_)=_;rw[show(0+(k:Int)).toNat=k by omega];rfl
 rw[nil_append,em];refine j0 (getElem?_push (g1.get hL)) aR (by simp;omega) ?_;have ec:[D.tup [D.str "a",D.int 1]]++((range (d+1)).map λk=>(fN k,([1,2,4,8,16]:List Int).getD k 0)).map aW=(ff (d+1)).map aW:=rfl;rw[ec];refine Fp aR (by rw[cf];exact cu) (by omega) ?_;have sP:=((g1.trans (Gr.push (T:=[C.lst (((range (d+1)).map λk=>(fN k,([1,2,4,8,16]:List Int).getD k 0)).map aW)]))).trans (Gr.push (T:=[C.lst ((ff (d+1)).map aW)]))).trans (Gr.push (T:=[C.dct (bY (ff (d+1)))]));refine JH (sP.get yU) aR rfl (IU (by rw[cf];exact qm cu)) ?_;have gA:=gL.trans sP;have tA:Tw A.length 1 _:=t1.gr gA;clear sP ec em;generalize B1++[C.lst (((range (d+1)).map λk=>(fN k,([1,2,4,8,16]:List Int).getD k 0)).map aW)]++[C.lst ((ff (d+1)).map aW)]++[C.dct (bY (ff (d+1)))]=A7 at*
 clear h5 g5 hL gL yU g1 g2;refine⟨by omega,by omega,?_⟩;refine rY (λrest ys A'=>∃is:List Int,ys=is.map D.int/\is.length+rest.length=4/\(∀i∈is,1<=i/\i<=9)/\Tw A.length (1+is.length) A') (λ_ _ _ _=>trivial) ?_ ?_ ?_ _ _ _ ⟨[],rfl,rfl,λ_ h=>(by cases h),tA⟩
 .rintro rest ys A' ⟨is,rfl,e,_,_⟩
  simp;omega
 .rintro x rest ys A' ⟨is,rfl,e,hi,t'⟩
  rw[length_cons] at e;refine⟨[x],rfl,λQ hQ=>⟨rfl,ns,A.length,9,1+is.length,rfl,t',by omega,by decide,λi A8 i0 i1 b8 t8=>hQ _ _ ⟨is++[1+i],by simp,by simp;omega,λj hj=>?_,by rw[length_append];exact t8⟩⟩⟩;rcases mem_append.mp hj with h|h
  .exact hi j h
  .rw[mem_singleton.mp h]
   omega
 rintro ys A8 ⟨is,rfl,e,hi,t8⟩;obtain⟨a0,a1,a2,p,rfl⟩:∃a0 a1 a2 p,is=[a0,a1,a2,p]:=by
  match is,e with
  |[a,b,c,d],_=>exact⟨a,b,c,d,rfl⟩
 have O:=hi a0 (by simp);have U:=hi a1 (by simp);have r2:=hi a2 (by simp);have r3:=hi p (by simp);have z:(A8++[C.lst ([a0,a1,a2,p].map D.int)])[A8.length]?=some (.lst [.int a0,.int a1,.int a2,.int p]):=aR;have t9:Tw A.length 5 (A8++[C.lst ([a0,a1,a2,p].map D.int)]):=t8.gr Gr.push;obtain⟨Px,HD,_⟩:=id t8;have Pk:=dJ HD;have JJ:A8.length≠A.length:=by omega
 generalize A8.length=qr at*
 generalize A8++[C.lst ([a0,a1,a2,p].map D.int)]=A9 at*
 have i0:bJ [D.int a0,.int a1,.int a2,.int p] 0=some (.int a0):=rfl;have i1:bJ [D.int a0,.int a1,.int a2,.int p] 1=some (.int a1):=dz (j:=1) rfl;have i2:bJ [D.int a0,.int a1,.int a2,.int p] 2=some (.int a2):=dz (j:=2) rfl;have i3:bJ [D.int a0,.int a1,.int a2,.int p] 3=some (.int p):=dz (j:=3) rfl;have L:2<=sizeLine:=by omega
 have s5:5<=sizeLine:=by omega
 refine bE z i0 (bE z i1 ⟨L,L,s5,?_⟩);refine bE z i2 (bE z i3 ⟨L,L,s5,?_⟩);refine bE z i0 (bE z i3 ⟨.inl ⟨by omega,by omega⟩,bE z i1 (bE z i2 ⟨.inl ⟨by omega,by omega⟩,?_⟩)⟩);have rO:=qp O U;have hO:=di (fB O U);have nO:∀r∈gk a0 a1,Nm r.1:=by rw[<-rO];exact uI hO.wf (mJ a0 a1)
 refine⟨L,rfl,L4 O U r2 r3 λOW yE v hv=>?_⟩;show cond (!decide (jB v=decide (a0*p=a1*a2))) _ _;rw[hv,decide_eq_true rfl];refine⟨rfl,DM O U r2 r3 λOX yF=>?_⟩;show cond (!decide (decide (a0*p=a1*a2)=decide (a0*p=a1*a2))) _ _;rw[decide_eq_true rfl];have V:=yE.trans yF;have W:=V.get z;have uR:=t9.gr V;clear yE yF V z t9 hv;have zD:∀(B:Ar) (Q:DK),(∀B',Gr B B'->Q (d7 (gk a0 a1)) B')->lA [enc (aQ a0 a1)] B Q RE:=λB Q k=>by
  refine⟨aQ a0 a1,rfl,hO.wf,hO.deep,λB' g=>?_⟩;rw[if_pos hO.bar];intro ys p1 m1;obtain rfl:ys=ab:=pw_eq p1 jm m1;have:=k B' g;rw[<-rO] at this;exact this
 show cond (decide (a0*p=a1*a2)) _ _;rcases Decidable.em (a0*p=a1*a2) with hs|hs;case' inl=>
  rw[decide_eq_true hs];refine⟨L,rfl,Ob O U r2 r3 hs λB1 g1=>⟨rfl,zD B1 _ λB2 g2=>?_⟩⟩;refine uz (neg:=true) nO nO ?_;rw[if_pos rfl,decide_eq_true rfl];have M:=(g1.trans g2).get W;have Cv:=uR.gr (g1.trans g2);clear g1 g2
 case' inr=>
  rw[decide_eq_false hs];have M:=W;have Cv:=uR
 all_goals
  clear hs W uR;refine bE M i0 (bE M i0 ⟨L,L,s5,?_⟩);refine⟨L,rfl,DN O λB3 g3=>?_⟩;refine⟨rfl,(v9 O U O λB4 g4=>?_).1⟩;refine⟨rfl,(v9 O U O λB5 g5=>?_).2⟩;have gB:=(g3.trans g4).trans g5;have sW:=gB.get M;have tB:=Cv.gr gB;refine bE sW i1 (bE sW i0 ⟨rfl,_,⟨a1,a0,rfl,by omega,by omega,Int.lt_of_le_of_lt U.2 (by decide+kernel),rfl⟩,λB6 g6=>⟨rfl,?_⟩⟩);refine⟨rfl,zD B6 _ λB7 g7=>⟨L,L,L,?_⟩⟩;refine uz (neg:=true) (k:=gk a0 a1) nO nO ?_;rw[if_pos rfl,decide_eq_true rfl];have gC:=g6.trans g7;have Y:=gC.get sW;have tC:=tB.gr gC;refine bE Y i2 (bE Y i3 ⟨s5,?_⟩);have wT:=Ou O U r2 r3;have bT:=Oq O U r2 r3;refine⟨rfl,nk a0 a1 a2 p,rfl,wT,by show 2<=5;decide,λB8 g8=>?_⟩;rw[bT];have yY:=g8.get Y;refine bE yY i2 (bE yY i3 ?_);have eN:jB (bD (if a2=p then none else some (("ll":Str),("rl":Str))))=decide (a2=p):=by
   by_cases h:a2=p
   .rw[if_pos h,decide_eq_true h];rfl
   .rw[if_neg h,decide_eq_false h];rfl
  show cond (!decide (jB (bD (if a2=p then none else some (("ll":Str),("rl":Str))))=decide (a2=p))) _ _;rw[eN,decide_eq_true rfl];refine⟨rfl,nk a0 a1 a2 p,rfl,wT,by show 2<=5;decide,λB9 g9=>?_⟩;rw[bT];refine⟨L,L,Ot ?_⟩;have gD:=g8.trans g9;exact⟨rfl,ns,A.length,qr,5,a0,a1,a2,p,rfl,JJ,gD.get Y,O,U,tC.gr gD,by decide,λA'=>q A'⟩
end My
namespace L2
theorem tD{K:PySem.W.Frag}{h:Heap}{mg:aj}{x:Str}{st:Stmt}{ps:List Str}{f:Addr}{i:Value}{j an:Option Addr}{g:Array (Option Value)}{kV doc pm d ct:Value}(X:K.In h)(G:h.Ns mainGlobals mg)
  (a:nsIn K mainGlobals x=some (some (.ref f)):=by k_is)(l:K.lookup f=some ⟨i,j,.func (fnOf x x (i6 st) (fm st) (aI st) .none kV doc pm an d ct),g⟩:=by k_is)(c:codeIn K d x=true:=by k_is)(k:keepIn K (.ref f)=true:=by k_is)
  (hb:∀(kV doc pm:Value) (an:Option Addr) (d ct:Value) (b:List Value),b.length=ps.length->bindArgs (fnOf x x (i6 st) (fm st) (aI st) .none kV doc pm an d ct) ⟨b,[]⟩=pure (ps.zip b):=by first|(exact λ_ _ _ _ _ _ b e=>match b,e with|[_],_=>rfl)|(exact λ_ _ _ _ _ _ b e=>match b,e with|[_,_],_=>rfl)|(exact λ_ _ _ _ _ _ b e=>match b,e with|[_,_,_],_=>rfl)|(exact λ_ _ _ _ _ _ b e=>match b,e with|[_,_,_,_],_=>rfl)|(exact λ_ _ _ _ _ _ b e=>match b,e with|[],_=>rfl)):TopD K mg x st ps:=
 ⟨f,_,sO l c k,(sO l c k).binds hb,mg_of X G a⟩
theorem bN{K:PySem.W.Frag}{h:Heap}{mg:aj}{x:Str}(X:K.In h)(G:h.Ns mainGlobals mg)(a:nsIn K mainGlobals x=some none:=by k_is):mg x=none:=PySem.W.mg_none_of X G a
theorem eX{K:PySem.W.Frag}{h:Heap}{mg:aj}{x:Str}{v:Value}(X:K.In h)(G:h.Ns mainGlobals mg)(a:nsIn K mainGlobals x=some (some v):=by k_is):mg x=some v:=mg_of X G a
end L2
namespace My
open L2 DP MA
theorem walk{l:PySem.W.OpenLaw}{q:Program}{loose:List Str}{i:(aj)->Heap->Prop}{c:World->Heap->Prop}{d:DefRec}{K:Params->PySem.W.Frag}(j:l.most=some 63)(b:d.params.defaults=[])(m:∀p,(K p).all (λp=>jI p.2)=true)
  (o:∀(w:World) (h:Heap),c w h->(K w.params).In h)
  (F:∀(w:World) (mg:aj) (g:Addr) (h:Heap),(K w.params).In h->h.Ns mainGlobals mg->mg d.name=some (.ref g)->
   ∃fd:FuncData,(∀(s:Shared) (u:Value),BindsTo s fd ⟨[u],[]⟩ [("_law_script",u)])/\∀base:Heap,(K w.params).In base->base.Ns mainGlobals mg->eO l.prog w (K w.params) mg base (br l.prog w) 26 g fd ["_law_script"] kX):
  PySem.W.WalkO q loose i c l.row.toRowW d [] (λf vs=>PySem.call f vs):=
 L2.OI (n:=63) (k:=26) (x:="_law_script") (CX:=λw=>br l.prog w) (sp:=λ_=>kX) j (by decide) b ⟨rfl,by decide,by decide⟩ o F (λw H a ns _ r t=>GO (m w.params) r t) λw H s e s' z=>by
  obtain⟨_,_,_,_,_,z⟩:=z
  exact z
theorem IZ{P:Program}{w:World}{K:PySem.W.Frag}{h:Heap}{mg:aj}{o j:Addr}{k b:Option Addr}{l:Array (Option Value)}{m c d g a i:Value}(X:K.In h)(G:h.Ns mainGlobals mg)(n:mg "law"=some (.ref o))
  (p:nsIn K mainGlobals "law"=some (some (.ref j)))(q:K.lookup j=some ⟨m,k,.func (fnOf "law" "law" (i6 iR) (fm iR) (aI iR) .none c d g b a i),l⟩)(r:codeIn K a "law"=true)(k3:keepIn K (.ref j)=true)
  (go:∀(base:Heap) {f:Addr} {fd:FuncData},iJ K "law" "law" iR f fd->eO P w K mg base (br P w) 26 f fd uq kX):
  ∃fd:FuncData,(∀(s:Shared) (v:Value),BindsTo s fd ⟨[v],[]⟩ [("_law_script",v)])/\∀base:Heap,K.In base->base.Ns mainGlobals mg->eO P w K mg base (br P w) 26 o fd ["_law_script"] kX:=by
 have e:=n.symm.trans (mg_of X G p)
 cases e
 exact⟨fnOf "law" "law" (i6 iR) (fm iR) (aI iR) .none c d g b a i,λs v=> .of_eq rfl,λbase _ _=>go base (sO q r k3)⟩
end My
end
open PySem PySem.W PyProof.Rows
set_option maxHeartbeats 0
namespace PySem.W.Fast
def tw10434061796476090227:=()
def tw861502493610598483:=()
def tw7774113678449685934:=()
def tw6112720402860494327:=()
def tw13797646191491285992:=()
def tw1116146690788884255:=()
def tw1054878856607437042:=()
def tw15606834981724049387:=()
def tw17071478250421689845:=()
def tw11524677903986383763:=()
def tw10910644110388302437:=()
def tw14520296925931582552:=()
def tw11692469974320434101:=()
def tw12701470058032328615:=()
def tw3215387988796971590:=()
def tw16766683885213920930:=()
def tw615563214671542189:=()
def tw6056707288978253535:=()
def tw17351735930882485243:=()
def tw2244103112122482387:=()
def tw6472337539984862722:=()
def tw16670775579421159206:=()
def tw2403389108928632939:=()
def tw1725486776273817318:=()
def tw13114645530532618160:=()
def tw4562827626845409882:=()
def tw15173544498738437827:=()
def tw87601786513091389:=()
def tw6128106870883400570:=()
def tw12652081859355081885:=()
def tw12269216009862288129:=()
def tw17318462890700432884:=()
def tw17338325484393633139:=()
def tw4804111812005502284:=()
def tw16723463757517087524:=()
def tw896878414759379649:=()
def tw16822532161544500889:=()
def tw15438627641174518403:=()
def tw8374155422468719031:=()
def tw18157406047293677543:=()
def tw9592521066531166775:=()
def tw13055953723892786844:=()
def tw6170744672141170255:=()
def tw18418582437962087742:=()
def tw12297992134047619483:=()
def tw13953587524928339648:=()
def tw8912161614967838395:=()
def tw14958820412457663293:=()
def tw15779231459743154856:=()
def tw13547939009206843870:=()
def tw14564479935002850509:=()
def tw4849480874435393781:=()
def tw17518593693041627797:=()
def tw1825952489489211193:=()
def tw6427576097997697322:=()
def tw9536688357841153863:=()
def tw13444670453868202053:=()
def tw14022695629967993375:=()
def tw10826640976665885199:=()
def tw447263597446747957:=()
end PySem.W.Fast
open L2 DP MA My
open_top hd for PySem.Challenge.rw_hangstill_k10_whole_formulas
theorem PySem.Challenge.cw_hangstill_k10_whole_formulas_holds : PySem.Challenge.rw_hangstill_k10_whole_formulas.Holds := by
 refine hd ?_;k_fill;refine My.walk (l:=PySem.Challenge.rw_hangstill_k10_whole_formulas) rfl rfl ?K (λw h Y=>PySem.W.kIn_of Y) ?F;case K=>exact λp=>(Eq.refl true:true=true)
 case F=>
  intro w mg fa h KX G hmg;refine' My.IZ KX G hmg ?aL ?lL ?cL ?kL ?GY;(case aL=>k_is);(case lL=>k_is);(case cL=>k_is);(case kL=>k_is);case GY=>
   intro base f fd T;have Jq:mg "NoMobile"=some _:=eX KX G;have Jp:mg "NoHall"=some _:=eX KX G;have zJ:mg "Never"=some _:=eX KX G;have Dl:=F3 (P:=PySem.Challenge.rw_hangstill_k10_whole_formulas.prog) (w:=w) (base:=base) (tD KX G) (bN KX G) (bN KX G) (bN KX G);have Dh:=F2 (P:=PySem.Challenge.rw_hangstill_k10_whole_formulas.prog) (w:=w) (base:=base) (tD KX G) (bN KX G) (bN KX G) (bN KX G) (bN KX G) (eX KX G);have C9:=F0 (tD KX G) (bN KX G) (bN KX G) (bN KX G) (bN KX G) (eX KX G) Dh Dl 6;have vq:=F1 (tD KX G) (eX KX G) C9;have C6:=FZ (tD KX G) Jq (by k_exc) vq;have C5:=F9 C6;have vj:=Gd (P:=PySem.Challenge.rw_hangstill_k10_whole_formulas.prog) (w:=w) (base:=base) (tD KX G);have vv:=GC (tD KX G) vj;have vt:=Gz (tD KX G) vv;have Dr:=GB (tD KX G) vv;have Dt:=GH (tD KX G) vt 6;have qQ:=GG (tD KX G) C5 Dt;have nG:=F5 (tD KX G) qQ;have Dk:=Gx (tD KX G) (bN KX G) qQ;have Du:=GI (P:=PySem.Challenge.rw_hangstill_k10_whole_formulas.prog) (w:=w) (base:=base) (tD KX G) (bN KX G);have Dq:=GA (tD KX G) (bN KX G) Du;have vm:=Ge (tD KX G) Dq;have C2:=F6 (P:=PySem.Challenge.rw_hangstill_k10_whole_formulas.prog) (w:=w) (base:=base) (tD KX G) (bN KX G);have vh:=Ga (tD KX G) vt Dr;have C7:=F_ (P:=PySem.Challenge.rw_hangstill_k10_whole_formulas.prog) (w:=w) (base:=base) (tD KX G) (bN KX G) (bN KX G);have vz:=GF (tD KX G) vm C7 C2 vh;have Di:=Gv (tD KX G) zJ (by k_exc) vz;have C4:=F8 (tD KX G) (bN KX G) (bN KX G) (bN KX G) (eX KX G) Jp (by k_exc) vq nG;have vn:=Gg (tD KX G) C4 Dk;have Ds:=GD (tD KX G) vn vz;have De:=Gn (tD KX G) vj;have vo:=Gp (tD KX G) (bN KX G) (bN KX G) (bN KX G) De;have C8:=Gf (tD KX G) (bN KX G) vh;have Dv:=GJ (tD KX G) (bN KX G) (bN KX G) vn Di vm vo C8;have Dj:=Gw (tD KX G) (bN KX G) qQ;have qP:=Gj (tD KX G) zJ (by k_exc) nG Dj vo;have C1:=F4 (tD KX G) (bN KX G) nG qP;have C3:=F7 (P:=PySem.Challenge.rw_hangstill_k10_whole_formulas.prog) (w:=w) (base:=base) (tD KX G) (bN KX G);have Df:=Gq (tD KX G) C3;have qO:=Gb (tD KX G) (bN KX G) Df;have Dm:=Gy (tD KX G) (bN KX G) qO;have Dw:=GK (tD KX G) (bN KX G) (bN KX G) qO Dm 5;have C_:=Gi (P:=PySem.Challenge.rw_hangstill_k10_whole_formulas.prog) (w:=w) (base:=base) (tD KX G);have Dc:=Gk (P:=PySem.Challenge.rw_hangstill_k10_whole_formulas.prog) (w:=w) (base:=base) (tD KX G) 8;have Dg:=Gu (P:=PySem.Challenge.rw_hangstill_k10_whole_formulas.prog) (w:=w) (base:=base) (tD KX G) 6;have Dd:=Gm (tD KX G) (bN KX G) (bN KX G) (bN KX G) (bN KX G) Dw Dc qP Dg;exact(Gh T (bN KX G) (bN KX G) qO qP Ds C1 Dv nG C_ Dd).imp λvs H Q E h=>Nb h
