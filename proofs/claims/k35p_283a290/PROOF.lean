import PyProof.Rows.All
import Wide.All
import OpenK.AllK
import Wide.FinOn
import Lean
import PyProof.EqAt
import PyProof.EqKinds
import PyProof.NeKinds
import PyProof.TupleCall
import PyProof.ZipIter
import PyProof.ListNew
import PyProof.P3Eq
import PyProof.NeData
import PyProof.EnumFor
import PyProof.EnumMake
import PyProof.ExcBaseAll.ValueError
import PyProof.Rows.SetFrom
import PyProof.CollectWalk
import PyProof.SumWalk
import PyProof.FString
import KE.KDictOf
import PyProof.AttrMissHeap
import PyProof.TupleOfGen
import KE.KDictSum
import PyProof.ConsumeS
import PyProof.P3In
import PyProof.Rows.RuleN_abs
import PyProof.Rows.FactsN_abs
import PyProof.StrBlockI
import PyProof.SliceStr2
import PyProof.Rows.StrClose
import PyProof.FactsAll.tuple_2
import PyProof.MinMaxWalk
import PyProof.WalksMore
import PyProof.Rows.RowHeap
import PyProof.DictWalks
import KE.KSortTup
import PyProof.Rows.ListMul
import PyProof.ListRange
import PyProof.TupleOfStr
import KE.KRevSl
import KE.KDictList
import KE.KIntText
import PyProof.ReprStr
import KE.KRevIter
import PyProof.DictUpdate
import PyProof.StrOps
import PySem.Challenge.RW_hangstill_k35_whole_spare_together
import KE.RegKIsAll
import KE.RegKTryMore
set_option Elab.async false
set_option linter.all false
set_option maxRecDepth 100000
set_option maxHeartbeats 4000000
namespace L2
open PySem PySem.Spec PyProof.Rows
abbrev Key:=Sum Int Str
def keyIs:Key->Value->Bool
 | .inl k,v=>Value.isInt k v
 | .inr x,v=>Value.isStrOf x v
def keyH(w:World):Key->Int
 | .inl k=>hashInt k
 | .inr x=>hashStr w x
theorem keyIs_shape:∀{k:Key} {v:Value},keyIs k v=true->(∃i t,k=Sum.inl i∧v=Value.int i t)∨(∃x t,k=Sum.inr x∧v=Value.str x t)
 | .inl i,v,h=>by
  obtain⟨t,e⟩:=Value.isInt_shape (k:=i) (v:=v) h
  exact .inl ⟨i,t,rfl,e⟩
 | .inr x,v,h=>by
  obtain⟨t,e⟩:=Value.isStrOf_shape (x:=x) (v:=v) h
  exact .inr ⟨x,t,rfl,e⟩
theorem keyIs_int(i:Int)(t:Tok):keyIs (.inl i) (.int i t)=true:=by simp[keyIs,Value.isInt]
theorem keyIs_str(x:Str)(t:Tok):keyIs (.inr x) (.str x t)=true:=by simp[keyIs,Value.isStrOf]
theorem key_ll(a b:Int):decide ((Sum.inl a:Key)=Sum.inl b)=(a==b):=by
 by_cases e:a=b
 .subst e;simp
 .have h:¬(Sum.inl a:Key)=Sum.inl b:=λq=>e (Sum.inl.inj q)
  rw[decide_eq_false h]
  exact(beq_eq_false_iff_ne.mpr e).symm
theorem key_rr(a b:Str):decide ((Sum.inr a:Key)=Sum.inr b)=decide (a=b):=by
 by_cases e:a=b
 .subst e;simp
 .have h:¬(Sum.inr a:Key)=Sum.inr b:=λq=>e (Sum.inr.inj q)
  rw[decide_eq_false h,decide_eq_false e]
theorem key_lr(a:Int)(b:Str):decide ((Sum.inl a:Key)=Sum.inr b)=false:=decide_eq_false (λq=>nomatch q)
theorem key_rl(a:Str)(b:Int):decide ((Sum.inr a:Key)=Sum.inl b)=false:=decide_eq_false (λq=>nomatch q)
def mixKind(prog:Program)(w:World):PySem.KeyKind prog w Key where
 is:=keyIs
 hash:=keyH w
 inj:=λv a b ha hb=>by
  rcases keyIs_shape ha with⟨i,t,rfl,rfl⟩|⟨x,t,rfl,rfl⟩
  .rcases keyIs_shape hb with⟨j,u,rfl,e⟩|⟨y,u,rfl,e⟩
   .injection e with e1 _;rw[e1]
   .exact nomatch e
  .rcases keyIs_shape hb with⟨j,u,rfl,e⟩|⟨y,u,rfl,e⟩
   .exact nomatch e
   .injection e with e1 _;rw[e1]
 byValue:=λk v h=>by
  rcases keyIs_shape h with⟨i,t,rfl,rfl⟩|⟨x,t,rfl,rfl⟩<;>rfl
 pyHash:=λhv h=>by
  rcases keyIs_shape hv with⟨i,t,rfl,rfl⟩|⟨x,t,rfl,rfl⟩
  .exact wpAny_pyHash_int h
  .exact wpAny_pyHash_str h
 eqBool:=λhu hv h=>by
  rcases keyIs_shape hu with⟨i,t,rfl,rfl⟩|⟨x,t,rfl,rfl⟩
  .rcases keyIs_shape hv with⟨j,u,rfl,rfl⟩|⟨y,u,rfl,rfl⟩
   .rw[key_ll] at h;exact wpAny_eqBool_int h
   .rw[key_lr] at h;exact SeqAt.EqAt.int_str i t y u _ _ _ _ h
  .rcases keyIs_shape hv with⟨j,u,rfl,rfl⟩|⟨y,u,rfl,rfl⟩
   .rw[key_rl] at h;exact SeqAt.EqAt.str_int x t j u _ _ _ _ h
   .rw[key_rr] at h;exact wpAny_eqBool_str h
 «strs»:=λk x t v h=>by
  rcases keyIs_shape h with⟨i,u,rfl,e⟩|⟨y,u,rfl,e⟩
  .exact nomatch e
  .injection e with e1 _
   subst e1
   cases v<;>rfl
theorem mixKind_int(prog:Program)(w:World)(i:Int)(t:Tok):(mixKind prog w).is (.inl i) (.int i t)=true:=keyIs_int i t
theorem mixKind_str(prog:Program)(w:World)(x:Str)(t:Tok):(mixKind prog w).is (.inr x) (.str x t)=true:=keyIs_str x t
end L2
namespace L2
open PySem PySem.Spec PyProof.Rows
inductive V where
 |non|bl (b:Bool)|int (i:Int)|str (x:Str)|byt (b:Array UInt8)|flt (b:UInt64)|ref (a:Addr)|ty (n:String)
 deriving DecidableEq
def RelV:V->Value->Prop
 | .non,u=>u=Value.none
 | .bl b,u=>u=Value.bool b
 | .int i,u=>∃t,u=Value.int i t
 | .str x,u=>∃t,u=Value.str x t
 | .byt b,u=>∃t,u=Value.bytes b t
 | .flt b,u=>∃t,u=Value.float b t
 | .ref a,u=>u=Value.ref a
 | .ty n,u=>u=Value.type n
abbrev Vals:List V->List Value->Prop:=Paired RelV
theorem Vals.length{xs:List V}{us:List Value}(r:Vals xs us):xs.length=us.length:=Paired.length r
theorem Vals.get:∀{xs:List V} {us:List Value} {i:Nat} {x:V},Vals xs us->xs[i]? =some x->∃u,us[i]? =some u∧RelV x u
 |_,_,_,_,.nil,e=>by simp at e
 |_,_,0,_,.cons r _,e=>by simp at e;subst e;exact⟨_,rfl,r⟩
 |_,_,i+1,x,.cons _ t,e=>by
  obtain⟨u,h1,h2⟩:=Vals.get (i:=i) (x:=x) t (by simpa using e)
  exact⟨u,by simpa using h1,h2⟩
theorem Vals.append:∀{xs ys:List V} {us ws:List Value},Vals xs us->Vals ys ws->Vals (xs++ys) (us++ws)
 |_,_,_,_,.nil,s=>s
 |_,_,_,_,.cons r t,s=> .cons r (Vals.append t s)
theorem Vals.take:∀{xs:List V} {us:List Value} (n:Nat),Vals xs us->Vals (xs.take n) (us.take n)
 |_,_,0,_=> .nil
 |_,_,_+1,.nil=> .nil
 |_,_,n+1,.cons r t=> .cons r (Vals.take n t)
theorem Vals.drop:∀{xs:List V} {us:List Value} (n:Nat),Vals xs us->Vals (xs.drop n) (us.drop n)
 |_,_,0,r=>r
 |_,_,_+1,.nil=> .nil
 |_,_,n+1,.cons _ t=>Vals.drop n t
def RelO:Option V->Option Value->Prop
 |some v,some u=>RelV v u
 |none,none=>True
 |_,_=>False
def KV{κ:Type}:List (κ×V)->List (κ×Value)->Prop:=Paired λ(p:κ×V) (q:κ×Value)=>p.1=q.1∧RelV p.2 q.2
def kV:Key->V
 | .inl i=> .int i
 | .inr x=> .str x
def TupO(h:Heap)(a:Addr)(items:Array Value):Prop:=∃n,h.get? a=some {cls:= .type "tuple",data:= .seq items n}
theorem TupO.is{h:Heap}{a:Addr}{items:Array Value}(x:TupO h a items):IsTup h a items:=let ⟨n,e⟩:=x;⟨_,e,rfl,n,rfl⟩
theorem TupO.new(h:Heap)(items:Array Value):TupO (h.push {cls:= .type "tuple",data:= .seq items}) h.objs.size items:=⟨0,Heap.get?_push_size _ rfl⟩
inductive HO where
  /-- a list -/
  | lst (xs : List V)
  /-- a tuple (never changes) -/
  | tup (xs : List V)
  /-- a dict whose keys are ints and texts; one whose keys are tuples of ints and texts (the empty one is both) -/
  | dK (kvs : List (Key × V)) | dT (kvs : List (List Key × V))
  /-- a set of ints: its members, its size -/
  | set (S : Int → Bool) (n : Nat)
  /-- an instance of the class at C, its dict at dx, its attributes -/
  | ins (C dx : Addr) (fs : List (Str × V))
  /-- the dict of the instance at x -/
  | own (x : Addr)
  /-- the dict of an exception -/
  | xd (fs : List (Str × V))
  /-- a bound method, f of x -/
  | met (f x : Addr)
  /-- a range object lo, lo + 1, .. below hi -/
  | rng (lo hi : Int)
  /-- a thing that is known to the object (the script; a dict while a loop walks it): read, never written while it is so -/
  | frz (o : Obj) (u : HO)
  /-- a code object's table -/
  | tbl (ps : Array Value)
  /-- any other thing, by what is true of its one object (a def of one's own: SetO a S n := HO.ext fun h => ..) -/
  | ext (φ : Heap → Prop)
abbrev Hp:=Addr->Option HO
def upd(H:Hp)(a:Addr)(o:HO):Hp:=λb=>if b=a then some o else H b
theorem upd_same{H:Hp}{a:Addr}{o:HO}:upd H a o a=some o:=by unfold upd;rw[if_pos rfl]
theorem upd_ne{H:Hp}{a b:Addr}{o:HO}(h:b≠a):upd H a o b=H b:=by unfold upd;rw[if_neg h]
theorem ne_of{H:Hp}{a b:Addr}{o u:HO}(h:H a=some o)(h':H b=some u)(d:o≠u):a≠b:=by
 intro e;subst e;rw[h] at h';exact d (Option.some.inj h')
theorem ne_of_none{H:Hp}{a b:Addr}{o:HO}(h:H a=some o)(h':H b=none):a≠b:=by
 intro e;subst e;rw[h] at h';cases h'
section
variable(P:Program)(w:World)
def ObjOk(H:Hp)(h:Heap)(a:Addr):HO->Prop
 | .lst xs=>xs.length≤sizeLine∧∃(its:List Value) (n:Nat),Vals xs its∧h.get? a=some {cls:= .type "list",data:= .seq its.toArray n}
 | .tup xs=>xs.length≤sizeLine∧∃its:List Value,Vals xs its∧TupO h a its.toArray
 | .dK kvs=>kvs.length≤sizeLine∧(a==sysModules)=false∧∃vs,KV kvs vs∧h.DictOf (mixKind P w) a vs
 | .dT kvs=>kvs.length≤sizeLine∧(a==sysModules)=false∧∃xs:List (List Key×Addr×Value),
  Paired (λ(p:List Key×V) (q:List Key×Addr×Value)=>p.1=q.1∧H q.2.1=some (.tup (p.1.map kV))∧RelV p.2 q.2.2) kvs xs∧
  ∃o es ep,h.get? a=some o∧o.ExactDict∧o.data= .dict es ep∧es.toList=xs.map (entryOfKey (tupleKind (mixKind P w)))∧(xs.map (·.1)).Nodup
 | .set S n=>h.SetOf (intKind P w) a S n
 | .ins C dx fs=>H dx=some (.own a)∧fs.length≤1000∧dx≠a∧h.get? a=some (PySem.W.instObj C dx)∧
  ∃mA,h.Ns1 dx mA∧(∀f,RelO (fs.lookup f) (mA f))∧PySem.Within mA (fs.map (·.1))
 | .own _=>∃o,h.get? a=some o
 | .xd fs=>∃mA,h.Ns1 a mA∧∀f,RelO (fs.lookup f) (mA f)
 | .rng lo hi=>∃t u v,h.get? a=some {cls:= .type "range",data:= .fields #[.int lo t,.int hi u,.int 1 v]}
 | .frz o u=>h.get? a=some o∧ObjOk H h a u
 | .tbl ps=>h.get? a=some {cls:= .none,data:= .fields ps}
 | .met f x=>h.get? a=some (PySem.W.methodObj (.ref f) (.ref x))
 | .ext φ=>φ h∧(∃o,h.get? a=some o)∧∀h1 h2:Heap,φ h1->(∀o,h1.get? a=some o->h2.get? a=some o)->φ h2
def HOk(H:Hp)(h:Heap):Prop:=∀a o,H a=some o->ObjOk P w H h a o
end
section
variable{P:Program}{w:World}{H H':Hp}{h h':Heap}{a:Addr}{o:HO}
theorem ObjOk.lt(x:ObjOk P w H h a o):a<h.objs.size:=by
 cases o with
 |lst xs=>obtain⟨_,_,_,_,e⟩:=x;exact Heap.lt_size e
 |tup xs=>obtain⟨_,_,_,p⟩:=x;exact p.is.lt
 |dK kvs=>obtain⟨_,_,_,_,o,_,_,e,_⟩:=x;exact Heap.lt_size e
 |dT kvs=>obtain⟨_,_,_,_,o,_,_,e,_⟩:=x;exact Heap.lt_size e
 |set S n=>obtain⟨o,_,_,_,e,_⟩:=x;exact Heap.lt_size e
 |ins C dx fs=>obtain⟨_,_,_,e,_⟩:=x;exact Heap.lt_size e
 |own y=>obtain⟨_,e⟩:=x;exact Heap.lt_size e
 |xd fs=>obtain⟨_,⟨_,_,_,e,_⟩,_⟩:=x;exact Heap.lt_size e
 |rng lo hi=>obtain⟨_,_,_,e⟩:=x;exact Heap.lt_size e
 |frz ob u=>obtain⟨e,_⟩:=x;exact Heap.lt_size e
 |tbl ps=>exact Heap.lt_size (show h.get? a=some _ from x)
 |met f y=>exact Heap.lt_size (show h.get? a=some _ from x)
 |ext φ=>obtain⟨_,⟨_,e⟩,_⟩:=x;exact Heap.lt_size e
theorem Paired.mapP{α β:Type}{F G:α->β->Prop}:∀{l₁:List α} {l₂:List β},Paired F l₁ l₂->(∀a b,F a b->G a b)->Paired G l₁ l₂
 |_,_,.nil,_=> .nil
 |_,_,.cons r t,f=> .cons (f _ _ r) (Paired.mapP t f)
theorem ObjOk.stay(x:ObjOk P w H h a o)(k:∀b u,(b=a∨H b=some (.own a))->h.get? b=some u->h'.get? b=some u)
  (ho:∀b,H b=some (.own a)->H' b=some (.own a))(ht:∀b xs,H b=some (.tup xs)->H' b=some (.tup xs)):ObjOk P w H' h' a o:=by
 induction o with
 |lst xs=>obtain⟨z,its,n,r,e⟩:=x;exact⟨z,its,n,r,k _ _ (.inl rfl) e⟩
 |tup xs=>obtain⟨z,its,r,n,e⟩:=x;exact⟨z,its,r,n,k _ _ (.inl rfl) e⟩
 |dK kvs=>obtain⟨z,y,vs,r,ob,es,ep,e,c⟩:=x;exact⟨z,y,vs,r,ob,es,ep,k _ _ (.inl rfl) e,c⟩
 |dT kvs=>
  obtain⟨z,y,xs,r,ob,es,ep,e,c⟩:=x
  exact⟨z,y,xs,Paired.mapP r λp q z=>⟨z.1,ht _ _ z.2.1,z.2.2⟩,ob,es,ep,k _ _ (.inl rfl) e,c⟩
 |set S n=>obtain⟨ob,es,ep,t,e,c⟩:=x;exact⟨ob,es,ep,t,k _ _ (.inl rfl) e,c⟩
 |ins C dx fs=>
  obtain⟨d,z,ne,e,mA,⟨od,es,ep,e2,c⟩,r⟩:=x
  exact⟨ho _ d,z,ne,k _ _ (.inl rfl) e,mA,⟨od,es,ep,k _ _ (.inr d) e2,c⟩,r⟩
 |own y=>obtain⟨ob,e⟩:=x;exact⟨ob,k _ _ (.inl rfl) e⟩
 |xd fs=>obtain⟨mA,⟨od,es,ep,e,c⟩,r⟩:=x;exact⟨mA,⟨od,es,ep,k _ _ (.inl rfl) e,c⟩,r⟩
 |rng lo hi=>obtain⟨t,u,v,e⟩:=x;exact⟨t,u,v,k _ _ (.inl rfl) e⟩
 |frz ob u ih=>obtain⟨e,q⟩:=x;exact⟨k _ _ (.inl rfl) e,ih q⟩
 |tbl ps=>
  have e:h.get? a=some {cls:= .none,data:= .fields ps}:=x
  show h'.get? a=some {cls:= .none,data:= .fields ps}
  exact k a _ (.inl rfl) e
 |met f y=>
  have e:h.get? a=some (PySem.W.methodObj (.ref f) (.ref y)):=x
  show h'.get? a=some (PySem.W.methodObj (.ref f) (.ref y))
  exact k a _ (.inl rfl) e
 |ext φ=>obtain⟨p,⟨o,e⟩,st⟩:=x;exact⟨st _ _ p λo q=>k _ _ (.inl rfl) q,⟨o,k _ _ (.inl rfl) e⟩,st⟩
theorem HOk.lt(x:HOk P w H h)(e:H a=some o):a<h.objs.size:=(x a o e).lt
theorem HOk.fresh(x:HOk P w H h)(e:h.objs.size≤a):H a=none:=by
 cases q:H a with
 |none=>rfl
 |some u=>exact absurd (Nat.lt_of_lt_of_le (x.lt q) e) (Nat.lt_irrefl _)
theorem HOk.kept(x:HOk P w H h)(k:∀b u,h.get? b=some u->h'.get? b=some u):HOk P w H h':=λa o e=>
 (x a o e).stay (λb u _ q=>k b u q) (λ_ q=>q) λ_ _ q=>q
theorem HOk.laid(x:HOk P w H h)(k:∀b u,h.get? b=some u->h'.get? b=some u)(hp:h.objs.size≤a)(new:ObjOk P w (upd H a o) h' a o):HOk P w (upd H a o) h':=λb u e=>by
 have hn:=x.fresh hp
 by_cases hb:b=a
 .subst hb;rw[upd_same] at e;cases e;exact new
 .rw[upd_ne hb] at e
  exact(x b u e).stay (λc v _ q=>k c v q) (λc q=>by rw[upd_ne (ne_of_none q hn)];exact q) λc xs q=>by rw[upd_ne (ne_of_none q hn)];exact q
end
def Rd(H:Hp)(a:Addr)(u:HO):Prop:=H a=some u∨∃o,H a=some (.frz o u)
theorem Rd.ok{P:Program}{w:World}{H:Hp}{h:Heap}{a:Addr}{u:HO}(r:Rd H a u)(x:HOk P w H h):ObjOk P w H h a u:=by
 rcases r with r|⟨o,r⟩
 .exact x a u r
 .obtain⟨_,q⟩:=x a _ r
  exact q
def Mut:Option HO->Prop
 |some (.lst _)=>True
 |some (.dK _)=>True
 |some (.dT _)=>True
 |some (.set _ _)=>True
 |some (.ins _ _ _)=>True
 |some (.ext _)=>True
 |_=>False
section
variable{P:Program}{w:World}{H:Hp}{h h':Heap}{x e:Addr}{o':HO}
theorem HOk.write(ok:HOk P w H h)(mu:Mut (H x))(he:e=x∨H e=some (.own x))(k:∀b u,b≠e->h.get? b=some u->h'.get? b=some u)(heo:∃u,h'.get? e=some u)
  (new:ObjOk P w (upd H x o') h' x o'):HOk P w (upd H x o') h':=λb u q=>by
 have nown:∀c y,H c=some (.own y)->c≠x:=λc y r z=>by subst z;rw[r] at mu;exact mu
 have ntup:∀c xs,H c=some (.tup xs)->c≠x:=λc xs r z=>by subst z;rw[r] at mu;exact mu
 by_cases hb:b=x
 .subst hb;rw[upd_same] at q;cases q;exact new
 .rw[upd_ne hb] at q
  by_cases hbe:b=e
  .have q':H b=some (.own x):=by
    rcases he with z|z
    .exact absurd (hbe.trans z) hb
    .rw[hbe];exact z
   rw[q] at q';cases q'
   obtain⟨v,hv⟩:=heo
   exact⟨v,by rw[hbe];exact hv⟩
  .refine(ok b u q).stay (λc v hc r=>k c v ?_ r) (λc r=>by rw[upd_ne (nown c b r)];exact r) λc xs r=>by rw[upd_ne (ntup c xs r)];exact r
   rcases hc with rfl|hc
   .exact hbe
   .rintro rfl
    rcases he with z|z
    .exact nown c b hc z
    .rw[hc] at z;cases z;exact hb rfl
end
structure Un(fs ex:List Addr)(H H':Hp)(h h':Heap):Prop where
 keep:∀b o,h.get? b=some o->H b=none->b∉fs->b∉ex->h'.get? b=some o
 slot:∀b o,h.get? b=some o->H b=none->b∈fs->b∉ex->∃sl,h'.get? b=some {o with slots:=sl}
 free:∀b o,h.get? b=some o->H b=none->b∉ex->H' b=none
 there:∀b o,h.get? b=some o->b∉ex->∃o',h'.get? b=some o'
 tups:∀b xs,H b=some (.tup xs)->H' b=some (.tup xs)
 frzs:∀b o u,H b=some (.frz o u)->H' b=some (.frz o u)
 tbls:∀b ps,H b=some (.tbl ps)->∃more,H' b=some (.tbl (ps++more))
section
variable{fs fs' ex ex':List Addr}{H H1 H2:Hp}{h h1 h2 h':Heap}{a x e:Addr}{o:HO}
theorem Un.any(u:Un fs ex H H1 h h1){b:Addr}{ob:Obj}(q:h.get? b=some ob)(n:H b=none)(hx:b∉ex):∃sl,h1.get? b=some {ob with slots:=sl}:=by
 by_cases hb:b∈fs
 .exact u.slot b ob q n hb hx
 .exact⟨ob.slots,u.keep b ob q n hb hx⟩
theorem Un.kept(k:∀b u,h.get? b=some u->h'.get? b=some u):Un fs ex H H h h':=
 ⟨λb ob q _ _ _=>k b ob q,λb ob q _ _ _=>⟨ob.slots,k b ob q⟩,λ_ _ _ n _=>n,λb ob q _=>⟨ob,k b ob q⟩,λ_ _ q=>q,λ_ _ _ q=>q,λ_ ps q=>⟨#[],by rw[q];simp⟩⟩
theorem Un.refl:Un fs ex H H h h:=Un.kept λ_ _ q=>q
theorem Un.laid(k:∀b u,h.get? b=some u->h'.get? b=some u)(hp:h.objs.size≤a)(hn:H a=none):Un fs ex H (upd H a o) h h' where
 keep:=λb u q _ _ _=>k b u q
 slot:=λb u q _ _ _=>⟨u.slots,k b u q⟩
 free:=λb u q n _=>by rw[upd_ne (Nat.ne_of_lt (Nat.lt_of_lt_of_le (Heap.lt_size q) hp))];exact n
 there:=λb u q _=>⟨u,k b u q⟩
 tups:=λb xs q=>by rw[upd_ne (ne_of_none q hn)];exact q
 frzs:=λb u xs q=>by rw[upd_ne (ne_of_none q hn)];exact q
 tbls:=λb ps q=>⟨#[],by rw[upd_ne (ne_of_none q hn),q];simp⟩
theorem Un.write(mu:Mut (H x))(he:e=x∨H e=some (.own x))(k:∀b u,b≠e->h.get? b=some u->h'.get? b=some u)(heo:∃u,h'.get? e=some u):Un fs ex H (upd H x o) h h':=by
 have hx:∀b,H b=none->b≠x:=λb n z=>by subst z;rw[n] at mu;exact mu
 have hb:∀b,H b=none->b≠e:=λb n z=>by
  subst z
  rcases he with r|r
  .exact hx b n r
  .rw[n] at r;cases r
 have hm:∀b u,H b=some u->¬Mut (some u)->b≠x:=λb u q nm z=>by subst z;rw[q] at mu;exact nm mu
 refine⟨λb u q n _ _=>k b u (hb b n) q,λb u q n _ _=>⟨u.slots,k b u (hb b n) q⟩,λb u q n _=>by rw[upd_ne (hx b n)];exact n,λb u q _=> ?_,
  λb xs q=>by rw[upd_ne (hm b _ q λz=>z)];exact q,λb u xs q=>by rw[upd_ne (hm b _ q λz=>z)];exact q,λb ps q=>⟨#[],by rw[upd_ne (hm b _ q λz=>z),q];simp⟩⟩
 by_cases hbe:b=e
 .subst hbe;exact heo
 .exact⟨u,k b u hbe q⟩
end
def trk(h:Heap)(H:Hp):List Addr:=(List.range h.objs.size).filter λa=>(H a).isSome
def hidT(h:Heap)(H:Hp):Heap:=PySem.W.hideAll h (trk h H)
theorem hidT_size(h:Heap)(H:Hp):(hidT h H).objs.size=h.objs.size:=PySem.W.hideAll_size _ _
theorem hidT_get{h:Heap}{H:Hp}{b:Addr}{o:Obj}(e:h.get? b=some o)(n:H b=none):(hidT h H).get? b=some o:=
 PySem.W.hideAll_get _ e λhm=>by
  have q:(H b).isSome=true:=(List.mem_filter.mp hm).2
  rw[n] at q;simp at q
theorem of_hidT{h:Heap}{H:Hp}{b:Addr}{o:Obj}(e:(hidT h H).get? b=some o):h.get? b=some o∧H b=none:=by
 have e':h.get? b=some o:=PySem.W.of_hideAll (trk h H) e
 refine⟨e',?_⟩
 cases q:H b with
 |none=>rfl
 |some x=>
  have hm:b∈trk h H:=List.mem_filter.mpr ⟨List.mem_range.mpr (Heap.lt_size e'),by simp[q]⟩
  have z:(hidT h H).get? b=none:=PySem.W.hideAll_none (trk h H) hm
  rw[z] at e;cases e
end L2
namespace L2
open PySem PySem.Spec PyProof.Rows
structure Mod(K:PySem.W.Frag)(mg:Str->Option Value)(base:Heap):Prop where
 kin:K.In base
 glob:base.Ns mainGlobals mg
 blt:∃mb,base.Ns builtinsNs mb∧∀x:Str,x≠"__name__"->mb x=bootBuiltins x
 nolimit:base.NoLimit
structure Cx where
 prog:Program
 w:World
 K:PySem.W.Frag
 mg:Str->Option Value
 base:Heap
 A:Around
 N:List Str
 s₀:Shared
 H₀:Hp
 env:Env
 outer:List Env
 stack:List Env
 ex:List Addr
 fn:Str->Bool
 calm:Bool
 pn:List (Addr×Obj)
 xe:Value->Shared->Prop
def frs(l:List Env):List Addr:=l.filterMap (·.frame)
abbrev Cx.fs(X:Cx):List Addr:=frs X.outer
def Vis(sc:Scope)(x:Str):Prop:=sc.names.lookup x=some .local∨sc.names.lookup x=some .cell∨sc.names.lookup x=some .free
def Loc(sc:Scope)(x:Str):Prop:=sc.names.lookup x=some .local∨sc.names.lookup x=some .cell
def Look(env:Env)(h:Heap)(m:Str->Option Value)(x:Str)(u:Value):Prop:=
 (env.kindOf x=some .local∧m x=some u)∨((env.kindOf x=some .cell∨env.kindOf x=some .free)∧∃c,env.cells.lookup x=some c∧h.IsCell c (some u))
structure Cx.Ok(X:Cx):Prop where
 mod:Mod X.K X.mg X.base
 kind:X.env.scope.kind= .function
 glob:X.env.globals=mainGlobals
 blt:X.env.builtins=builtinsNs
 above:X.s₀.heap.objs.size≤X.env.locals
 inj:∀x y c,X.env.cells.lookup x=some c->X.env.cells.lookup y=some c->x=y
 has:∀x,(X.env.kindOf x=some .cell∨X.env.kindOf x=some .free)->∃c,X.env.cells.lookup x=some c
 cab:∀x c,X.fn x=true->X.env.cells.lookup x=some c->X.s₀.heap.objs.size≤c
 hd:X.calm=true->X.A.handled=none
 frames:X.A.frames=some X.stack
 stk:X.stack=X.outer∨(X.stack=X.env::X.outer∧X.env.frame=some X.env.locals)
 exf:∀b∈X.ex,b≠X.env.locals∧∀x c,X.env.cells.lookup x=some c->c≠b
 bs:∀b o,X.base.get? b=some o->X.s₀.heap.get? b=some o∧X.H₀ b=none
 bsz:X.base.objs.size≤X.s₀.heap.objs.size
 noex:∀b o,X.base.get? b=some o->b∉X.ex
 exfs:∀b∈X.ex,b∉X.fs
 funs:X.s₀.heap.FunFrames X.base X.outer
 frf:∀b∈X.fs,X.H₀ b=none
structure Inv(X:Cx)(pins:List (Addr×Obj))(σ:List (Option V))(H:Hp)(s:Shared):Prop where
 ok:X.Ok
 os:s.os=X.s₀.os
 bare:AllBare s.gens
 base:Un X.fs X.ex X.H₀ H X.s₀.heap s.heap
 loc:∃m,s.heap.Ns X.env.locals m∧∀(i:Nat) (x:Str) (v:V),X.N[i]? =some x->σ[i]? =some (some v)->Vis X.env.scope x->∃u,RelV v u∧Look X.env s.heap m x u
 cell:∀x c,X.env.cells.lookup x=some c->∃v,s.heap.IsCell c v
 free:H X.env.locals=none
 freeC:∀x c,X.env.cells.lookup x=some c->H c=none
 pin:∀p∈X.pn++pins,s.heap.get? p.1=some p.2∧H p.1=none∧p.1≠X.env.locals∧p.1∉X.fs∧∀v,p.2.data≠ .cell v
 hok:HOk X.prog X.w H s.heap
 len:σ.length=X.N.length
section
variable{X:Cx}{pins:List (Addr×Obj)}{σ:List (Option V)}{H H':Hp}{s:Shared}{h':Heap}
theorem Cx.Ok.nofr(ok:X.Ok){b:Addr}{o:Obj}(e:X.base.get? b=some o):b∉X.fs:=λhb=>by
 have:=(ok.funs.mem hb).1
 rw[e] at this;cases this
theorem Inv.bs(I:Inv X pins σ H s):∀b o,X.base.get? b=some o->s.heap.get? b=some o∧H b=none:=λb o e=>
 ⟨I.base.keep b o (I.ok.bs b o e).1 (I.ok.bs b o e).2 (I.ok.nofr e) (I.ok.noex b o e),I.base.free b o (I.ok.bs b o e).1 (I.ok.bs b o e).2 (I.ok.noex b o e)⟩
theorem Inv.bk(I:Inv X pins σ H s):∀b o,X.base.get? b=some o->s.heap.get? b=some o:=λb o e=>(I.bs b o e).1
theorem Inv.mod(I:Inv X pins σ H s):Mod X.K X.mg X.base:=I.ok.mod
theorem Inv.kIn(I:Inv X pins σ H s):X.K.In s.heap:=I.ok.mod.kin.keeps I.bk
theorem Inv.lt(I:Inv X pins σ H s):X.env.locals<s.heap.objs.size:=let ⟨_,hn,_⟩:=I.loc;hn.lt
theorem Inv.sz(I:Inv X pins σ H s):X.s₀.heap.objs.size≤s.heap.objs.size:=Nat.le_trans I.ok.above (Nat.le_of_lt I.lt)
theorem Inv.nofs(I:Inv X pins σ H s){a:Addr}(h:s.heap.objs.size≤a):a∉X.fs:=λhb=>by
 obtain⟨_,o,ho,_⟩:=I.ok.funs.mem hb
 exact absurd (Nat.lt_of_lt_of_le (Heap.lt_size ho) (Nat.le_trans I.sz h)) (Nat.lt_irrefl _)
theorem Inv.cne(I:Inv X pins σ H s):∀x c,X.env.cells.lookup x=some c->c≠X.env.locals:=λx c e z=>by
 obtain⟨v,o,ho,hd⟩:=I.cell x c e
 obtain⟨m,⟨o',es,ep,ho',hd',_⟩,_⟩:=I.loc
 rw[z,ho'] at ho;cases ho;rw[hd'] at hd;cases hd
theorem Inv.funs(I:Inv X pins σ H s):s.heap.FunFrames X.base X.outer:=by
 have all:∀(l:List Env),(∀b∈frs l,b∈X.fs)->X.s₀.heap.FunFrames X.base l->s.heap.FunFrames X.base l:=by
  intro l
  induction l with
  |nil=>intro _ _;trivial
  |cons env r ih=>
   intro hs hl
   obtain⟨hk,⟨L,o,hf,hn,ho,hd⟩,hr⟩:=hl
   have hL:L∈X.fs:=hs L (by unfold frs;rw[List.filterMap_cons,hf];exact List.mem_cons_self)
   obtain⟨sl,e⟩:=I.base.slot L o ho (I.ok.frf L hL) hL λz=>I.ok.exfs L z hL
   exact⟨hk,⟨L,_,hf,hn,e,hd⟩,ih (λb hb=>hs b (by unfold frs;rw[List.filterMap_cons,hf];exact List.mem_cons_of_mem _ hb)) hr⟩
 exact all X.outer (λ_ hb=>hb) I.ok.funs
theorem Inv.stack(I:Inv X pins σ H s):s.heap.FunFrames X.base X.stack:=by
 rcases I.ok.stk with e|⟨e,hf⟩
 .rw[e];exact I.funs
 .rw[e]
  obtain⟨m,hn,_⟩:=I.loc
  refine .cons (by rw[I.ok.kind];decide) hf hn ?_ I.funs
  exact Heap.get?_none_of_le (Nat.le_trans I.ok.bsz I.ok.above)
theorem Inv.stkSub(I:Inv X pins σ H s):∀b∈frs X.stack,b∈X.env.locals::X.fs:=λb hb=>by
 rcases I.ok.stk with e|⟨e,hf⟩
 .rw[e] at hb;exact List.mem_cons_of_mem _ hb
 .rw[e] at hb
  unfold frs at hb
  rw[List.filterMap_cons,hf] at hb
  exact hb
theorem Inv.stkFree(I:Inv X pins σ H s):∀b∈frs X.stack,H b=none:=λb hb=>by
 rcases List.mem_cons.mp (I.stkSub b hb) with e|hb
 .rw[e];exact I.free
 .obtain⟨_,o,ho,_⟩:=I.ok.funs.mem hb
  exact I.base.free b o ho (I.ok.frf b hb) λz=>I.ok.exfs b z hb
theorem Inv.step{g':Array GenState}{t':Nat}{d':Drawn}{ch:List Addr}(I:Inv X pins σ H s)
  (hch:∀b∈ch,(b∈X.ex∨X.s₀.heap.objs.size≤b)∧b≠X.env.locals∧(∀x c,X.env.cells.lookup x=some c->c≠b)∧∀p∈X.pn++pins,p.1≠b)
  (keep:∀b o,b≠X.env.locals->b∉X.fs->b∉ch->s.heap.get? b=some o->H b=none->h'.get? b=some o)
  (slot:∀b o,b≠X.env.locals->b∈X.fs->b∉ch->s.heap.get? b=some o->H b=none->∃sl,h'.get? b=some {o with slots:=sl})(free:∀b o,b∉ch->s.heap.get? b=some o->H b=none->H' b=none)
  (there:∀b o,b∉ch->s.heap.get? b=some o->∃o',h'.get? b=some o')
  (tups:∀b xs,H b=some (.tup xs)->H' b=some (.tup xs))(frzs:∀b o u,H b=some (.frz o u)->H' b=some (.frz o u))(tbls:∀b ps,H b=some (.tbl ps)->∃more,H' b=some (.tbl (ps++more)))
  (ns:∀m,s.heap.Ns X.env.locals m->h'.Ns X.env.locals m)(hok:HOk X.prog X.w H' h')(hg:AllBare g'):
  Inv X pins σ H' {s with heap:=h',gens:=g',drawn:=d',toks:=t'}:=by
 have neL:∀b o,X.s₀.heap.get? b=some o->b≠X.env.locals:=λb o e=>Nat.ne_of_lt (Nat.lt_of_lt_of_le (Heap.lt_size e) I.ok.above)
 have neC:∀b o,X.s₀.heap.get? b=some o->b∉X.ex->b∉ch:=λb o e hx hb=>by
  rcases (hch b hb).1 with z|z
  .exact hx z
  .exact absurd (Nat.lt_of_lt_of_le (Heap.lt_size e) z) (Nat.lt_irrefl _)
 have cellK:∀x c,X.env.cells.lookup x=some c->∀v,s.heap.IsCell c v->h'.IsCell c v:=λx c e v ⟨o,ho,hd⟩=>by
  have nch:c∉ch:=λz=>(hch c z).2.2.1 x c e rfl
  by_cases hc:c∈X.fs
  .obtain⟨sl,q⟩:=slot c o (I.cne x c e) hc nch ho (I.freeC x c e)
   exact⟨_,q,hd⟩
  .exact⟨o,keep c o (I.cne x c e) hc nch ho (I.freeC x c e),hd⟩
 refine⟨I.ok,I.os,hg,⟨λb o e n hb hx=> ?_,λb o e n hb hx=> ?_,λb o e n hx=> ?_,λb o e hx=> ?_,λb xs e=>tups b xs (I.base.tups b xs e),λb o xs e=>frzs b o xs (I.base.frzs b o xs e),λb ps e=> ?_⟩,?_,λx c e=> ?_,?_,λx c e=> ?_,λp hp=> ?_,hok,I.len⟩
 .exact keep b o (neL b o e) hb (neC b o e hx) (I.base.keep b o e n hb hx) (I.base.free b o e n hx)
 .obtain⟨sl,e1⟩:=I.base.slot b o e n hb hx
  obtain⟨sl',e2⟩:=slot b _ (neL b o e) hb (neC b o e hx) e1 (I.base.free b o e n hx)
  exact⟨sl',e2⟩
 .obtain⟨o',e1⟩:=I.base.there b o e hx
  exact free b o' (neC b o e hx) e1 (I.base.free b o e n hx)
 .obtain⟨o',e1⟩:=I.base.there b o e hx
  exact there b o' (neC b o e hx) e1
 .obtain⟨m1,e1⟩:=I.base.tbls b ps e
  obtain⟨m2,e2⟩:=tbls b _ e1
  exact⟨m1++m2,by rw[e2,Array.append_assoc]⟩
 .obtain⟨m,hn,hl⟩:=I.loc
  refine⟨m,ns m hn,λi x v e1 e2 e3=> ?_⟩
  obtain⟨u,r,l⟩:=hl i x v e1 e2 e3
  refine⟨u,r,?_⟩
  rcases l with l|⟨k,c,e,z⟩
  .exact .inl l
  .exact .inr ⟨k,c,e,cellK x c e _ z⟩
 .obtain⟨v,z⟩:=I.cell x c e
  exact⟨v,cellK x c e v z⟩
 .obtain⟨m,⟨o,_,_,ho,_⟩,_⟩:=I.loc
  exact free _ o (λz=>(hch _ z).2.1 rfl) ho I.free
 .obtain⟨v,o,ho,hd⟩:=I.cell x c e
  exact free c o (λz=>(hch c z).2.2.1 x c e rfl) ho (I.freeC x c e)
 .obtain⟨e,n,ne,nf,d⟩:=I.pin p hp
  have nch:p.1∉ch:=λz=>(hch p.1 z).2.2.2 p hp rfl
  exact⟨keep p.1 p.2 ne nf nch e n,free p.1 p.2 nch e n,ne,nf,d⟩
theorem Inv.un{t':Nat}(I:Inv X pins σ H s)(u:Un X.fs [] H H' s.heap h')(hok:HOk X.prog X.w H' h'):Inv X pins σ H' {s with heap:=h',toks:=t'}:=by
 obtain⟨m,⟨o,es,ep,ho,r⟩,_⟩:=id I.loc
 obtain⟨sl,hL⟩:=u.any ho I.free (by simp)
 exact I.step (g':=s.gens) (d':=s.drawn) (ch:=[]) (λ_ z=>nomatch z) (λb o _ hb _ e n=>u.keep b o e n hb (by simp)) (λb o _ hb _ e n=>u.slot b o e n hb (by simp)) (λb o _ e n=>u.free b o e n (by simp)) (λb o _ e=>u.there b o e (by simp)) u.tups u.frzs u.tbls (λm' hm=>by
  obtain⟨o',es',ep',ho',r'⟩:=hm
  rw[ho] at ho';cases ho'
  exact⟨_,es',ep',hL,r'⟩) hok I.bare
theorem Inv.call{g':Array GenState}{t':Nat}{d':Drawn}{ch:List Addr}(I:Inv X pins σ H s)(u:Un (frs X.stack) ch H H' s.heap h')(hok:HOk X.prog X.w H' h')(hg:AllBare g')
  (hch:∀b∈ch,(b∈X.ex∨X.s₀.heap.objs.size≤b)∧b≠X.env.locals∧(∀x c,X.env.cells.lookup x=some c->c≠b)∧∀p∈X.pn++pins,p.1≠b):
  Inv X pins σ H' {s with heap:=h',gens:=g',drawn:=d',toks:=t'}:=by
 obtain⟨m,⟨o,es,ep,ho,r⟩,_⟩:=id I.loc
 obtain⟨sl,hL⟩:=u.any ho I.free λz=>(hch _ z).2.1 rfl
 exact I.step (ch:=ch) hch (λb o hL hb hc e n=>u.keep b o e n (λz=>(List.mem_cons.mp (I.stkSub b z)).elim hL hb) hc) (λb o _ _ hc e n=>u.any e n hc) (λb o hc e n=>u.free b o e n hc) (λb o hc e=>u.there b o e hc) u.tups u.frzs u.tbls (λm' hm=>by
  obtain⟨o',es',ep',ho',r'⟩:=hm
  rw[ho] at ho';cases ho'
  exact⟨_,es',ep',hL,r'⟩) hok hg
theorem Inv.turned{t':Nat}{it:Addr}(I:Inv X pins σ H s)(k:∀b o,b≠it->s.heap.get? b=some o->h'.get? b=some o)(hn:H it=none)(hL:it≠X.env.locals)
  (h1:it∈X.ex∨X.s₀.heap.objs.size≤it)(h2:∀x c,X.env.cells.lookup x=some c->c≠it)(h3:∀p∈X.pn++pins,p.1≠it):Inv X pins σ H {s with heap:=h',toks:=t'}:=by
 have nit:∀b u,H b=some u->b≠it:=λb u e z=>by rw[z,hn] at e;cases e
 refine I.step (g':=s.gens) (d':=s.drawn) (ch:=[it]) (λb hb=> ?_) (λb o _ _ hc e _=>k b o (λz=>hc (by simp[z])) e) (λb o _ _ hc e _=>⟨o.slots,k b o (λz=>hc (by simp[z])) e⟩) (λ_ _ _ _ n=>n)
  (λb o hc e=>⟨o,k b o (λz=>hc (by simp[z])) e⟩) (λ_ _ e=>e) (λ_ _ _ e=>e) (λb ps e=>⟨#[],by rw[e];simp⟩) (λm hm=> ?_) (λb u e=> ?_) I.bare
 .have e:b=it:=by simpa using hb
  subst e
  exact⟨h1,hL,h2,h3⟩
 .obtain⟨o,es,ep,ho,r⟩:=hm
  exact⟨o,es,ep,k _ o (Ne.symm hL) ho,r⟩
 .refine(I.hok b u e).stay (λc v hc q=>k c v ?_ q) (λ_ q=>q) λ_ _ q=>q
  rcases hc with z|z
  .rw[z];exact nit b u e
  .exact nit c _ z
theorem Inv.tok(I:Inv X pins σ H s)(t:Nat):Inv X pins σ H {s with toks:=t}:=I.un (h':=s.heap) (t':=t) Un.refl I.hok
theorem Inv.kept{t':Nat}(I:Inv X pins σ H s)(k:∀b u,s.heap.get? b=some u->h'.get? b=some u):Inv X pins σ H {s with heap:=h',toks:=t'}:=I.un (Un.kept k) (I.hok.kept k)
theorem Inv.laid{a:Addr}{o:HO}{t':Nat}(I:Inv X pins σ H s)(k:∀b u,s.heap.get? b=some u->h'.get? b=some u)(hp:s.heap.objs.size≤a)(new:ObjOk X.prog X.w (upd H a o) h' a o):
 Inv X pins σ (upd H a o) {s with heap:=h',toks:=t'}:=I.un (Un.laid k hp (I.hok.fresh hp)) (I.hok.laid k hp new)
theorem Inv.write{x e:Addr}{o:HO}{t':Nat}(I:Inv X pins σ H s)(mu:Mut (H x))(he:e=x∨H e=some (.own x))(k:∀b u,b≠e->s.heap.get? b=some u->h'.get? b=some u)(heo:∃u,h'.get? e=some u)
 (new:ObjOk X.prog X.w (upd H x o) h' x o):Inv X pins σ (upd H x o) {s with heap:=h',toks:=t'}:=I.un (Un.write mu he k heo) (I.hok.write mu he k heo new)
theorem Inv.weak{σ':List (Option V)}(I:Inv X pins σ H s)(hl:σ'.length=σ.length)(w:∀(i:Nat) v,σ'[i]? =some (some v)->σ[i]? =some (some v)):Inv X pins σ' H s:=
 ⟨I.ok,I.os,I.bare,I.base,let ⟨m,hn,hl'⟩:=I.loc;⟨m,hn,λi x v e1 e2 e3=>hl' i x v e1 (w i v e2) e3⟩,I.cell,I.free,I.freeC,I.pin,I.hok,hl.trans I.len⟩
theorem Inv.pins_of{pins':List (Addr×Obj)}(I:Inv X pins σ H s)(h:∀p∈pins',s.heap.get? p.1=some p.2∧H p.1=none∧p.1≠X.env.locals∧p.1∉X.fs∧∀v,p.2.data≠ .cell v):Inv X pins' σ H s:=
 ⟨I.ok,I.os,I.bare,I.base,I.loc,I.cell,I.free,I.freeC,λp hp=>(List.mem_append.mp hp).elim (λz=>I.pin p (List.mem_append_left _ z)) (h p),I.hok,I.len⟩
theorem nodup_ix{N:List Str}(hN:N.Nodup){i j:Nat}{x:Str}(a:N[i]? =some x)(b:N[j]? =some x):i=j:=by
 obtain⟨h1,e1⟩:=List.getElem?_eq_some_iff.mp a
 obtain⟨h2,e2⟩:=List.getElem?_eq_some_iff.mp b
 exact(List.getElem_inj hN).mp (e1.trans e2.symm)
theorem store_ok2 {M : Model} {A : Around} {E : Value → Shared → Prop} {i : Nat} {x : Str} {v : V} {u : Value} {Q : Unit → Shared → Prop} (I : Inv X pins σ H s) (hN : X.N.Nodup) (hi : X.N[i]? = some x) (hx : Loc X.env.scope x) (r : RelV v u)
    (h : ∀ s', Inv X pins (σ.set i (some v)) H s' → (∃ a, Heap.SameBut a s.heap s'.heap ∧ (a = X.env.locals ∨ X.env.cells.lookup x = some a)) → Q () s') (hf : X.fn x = true ∨ X.env.scope.names.lookup x = some .local := by first | exact .inl rfl | exact .inr rfl | assumption) : wpAny M A (storeName X.env x u) Q E s := by
  obtain ⟨m, hn, hl⟩ := id I.loc
  have hcls : (X.env.scope.kind == .class || (X.env.scope.kind == .module && X.env.locals != X.env.globals)) = false := by rw [I.ok.kind]; rfl
  have hiσ : i < σ.length := by rw [I.len]; exact (List.getElem?_eq_some_iff.mp hi).1
  have cne := I.cne
  have tracked : ∀ {a : Addr} {h' : Heap}, (∃ o, s.heap.get? a = some o ∧ H a = none) → Heap.SameBut a s.heap h' → HOk X.prog X.w H h' := fun {a h'} ha hs b ob e => by
    obtain ⟨_, _, hfree⟩ := ha
    refine (I.hok b ob e).stay (fun c w' hc q => (hs.2 c ?_).trans q) (fun _ q => q) fun _ _ q => q
    rintro rfl
    rcases hc with rfl | hc
    · rw [hfree] at e; cases e
    · rw [hfree] at hc; cases hc
  rcases hx with hk | hk
  · refine wpAny_storeName_local hk hn (fun h' hn' hs => ?_) hcls
    obtain ⟨oL, _, _, hoL, _⟩ := id hn
    refine h _ ⟨I.ok, I.os, I.bare, ⟨fun b o e n hb hx => ?_, fun b o e n hb hx => ?_, I.base.free, fun b o e hx => ?_, I.base.tups, I.base.frzs, I.base.tbls⟩, ⟨_, hn', fun j y v' e1 e2 e3 => ?_⟩, fun y c e => ?_, I.free, I.freeC, fun p hp => ?_, tracked ⟨oL, hoL, I.free⟩ hs, by simpa using I.len⟩ ⟨_, hs, .inl rfl⟩
    · exact (hs.2 b (Nat.ne_of_lt (Nat.lt_of_lt_of_le (Heap.lt_size e) I.ok.above))).trans (I.base.keep b o e n hb hx)
    · obtain ⟨sl, e1⟩ := I.base.slot b o e n hb hx
      exact ⟨sl, (hs.2 b (Nat.ne_of_lt (Nat.lt_of_lt_of_le (Heap.lt_size e) I.ok.above))).trans e1⟩
    · obtain ⟨o', e1⟩ := I.base.there b o e hx
      exact ⟨o', (hs.2 b (Nat.ne_of_lt (Nat.lt_of_lt_of_le (Heap.lt_size e) I.ok.above))).trans e1⟩
    · by_cases hj : j = i
      · subst hj
        rw [hi] at e1; cases e1
        rw [List.getElem?_set_self hiσ] at e2
        cases e2
        exact ⟨u, r, .inl ⟨hk, by simp⟩⟩
      · rw [List.getElem?_set_ne (Ne.symm hj)] at e2
        obtain ⟨u', r', q⟩ := hl j y v' e1 e2 e3
        refine ⟨u', r', ?_⟩
        rcases q with ⟨k, e⟩ | ⟨k, c, e, z⟩
        · refine .inl ⟨k, ?_⟩
          have : y ≠ x := fun e => hj (nodup_ix hN e1 (e ▸ hi))
          simp [this, e]
        · exact .inr ⟨k, c, e, z.sameBut hs (cne y c e)⟩
    · obtain ⟨w', z⟩ := I.cell y c e
      exact ⟨w', z.sameBut hs (cne y c e)⟩
    · obtain ⟨e, n, ne, nf, d⟩ := I.pin p hp
      exact ⟨(hs.2 p.1 ne).trans e, n, ne, nf, d⟩
  · have hfn : X.fn x = true := by
      rcases hf with z | z
      · exact z
      · rw [z] at hk; cases hk
    obtain ⟨c, hc⟩ := I.ok.has x (.inl hk)
    obtain ⟨w', z⟩ := I.cell x c hc
    refine wpAny_storeName_cell I.ok.kind hk hc z (fun h' hc' hs => ?_)
    obtain ⟨oc, hoc, hocd⟩ := id z
    refine h { s with heap := h' } ⟨I.ok, I.os, I.bare, ⟨fun b o e n hb hx => ?_, fun b o e n hb hx => ?_, I.base.free, fun b o e hx => ?_, I.base.tups, I.base.frzs, I.base.tbls⟩, ⟨m, hn.sameBut hs (Ne.symm (cne x c hc)), fun j y v' e1 e2 e3 => ?_⟩, fun y c' e => ?_, I.free, I.freeC, fun p hp => ?_, tracked ⟨oc, hoc, I.freeC x c hc⟩ hs, by simpa using I.len⟩ ⟨c, hs, .inr hc⟩
    · exact (hs.2 b (Nat.ne_of_lt (Nat.lt_of_lt_of_le (Heap.lt_size e) (I.ok.cab x c hfn hc)))).trans (I.base.keep b o e n hb hx)
    · obtain ⟨sl, e1⟩ := I.base.slot b o e n hb hx
      exact ⟨sl, (hs.2 b (Nat.ne_of_lt (Nat.lt_of_lt_of_le (Heap.lt_size e) (I.ok.cab x c hfn hc)))).trans e1⟩
    · obtain ⟨o', e1⟩ := I.base.there b o e hx
      exact ⟨o', (hs.2 b (Nat.ne_of_lt (Nat.lt_of_lt_of_le (Heap.lt_size e) (I.ok.cab x c hfn hc)))).trans e1⟩
    · by_cases hj : j = i
      · subst hj
        rw [hi] at e1; cases e1
        rw [List.getElem?_set_self hiσ] at e2
        cases e2
        exact ⟨u, r, .inr ⟨.inl hk, c, hc, hc'⟩⟩
      · rw [List.getElem?_set_ne (Ne.symm hj)] at e2
        obtain ⟨u', r', q⟩ := hl j y v' e1 e2 e3
        refine ⟨u', r', ?_⟩
        rcases q with q | ⟨k, c', e, z'⟩
        · exact .inl q
        · refine .inr ⟨k, c', e, z'.sameBut hs ?_⟩
          rintro rfl
          exact hj (nodup_ix hN e1 (I.ok.inj _ _ _ e hc ▸ hi))
    · by_cases hcc : c' = c
      · subst hcc; exact ⟨_, hc'⟩
      · obtain ⟨w2, z2⟩ := I.cell y c' e
        exact ⟨w2, z2.sameBut hs hcc⟩
    · obtain ⟨e, n, ne, nf, d⟩ := I.pin p hp
      refine ⟨(hs.2 p.1 ?_).trans e, n, ne, nf, d⟩
      intro q
      rw [q, hoc] at e
      have q' : oc = p.2 := Option.some.inj e
      exact d w' (by rw [← q']; exact hocd)
theorem store_ok{M:Model}{A:Around}{E:Value->Shared->Prop}{i:Nat}{x:Str}{v:V}{u:Value}{Q:Unit->Shared->Prop}(I:Inv X pins σ H s)(hN:X.N.Nodup)(hi:X.N[i]? =some x)(hx:Loc X.env.scope x)(r:RelV v u)
  (h:∀s',Inv X pins (σ.set i (some v)) H s'->Q () s')(hf:X.fn x=true∨X.env.scope.names.lookup x=some .local:=by first|exact .inl rfl|exact .inr rfl|assumption):wpAny M A (storeName X.env x u) Q E s:=
 store_ok2 I hN hi hx r (λs' I' _=>h s' I') hf
theorem Inv.call'{s':Shared}{ch:List Addr}(I:Inv X pins σ H s)(ho:s'.os=s.os)(u:Un (frs X.stack) ch H H' s.heap s'.heap)(hok:HOk X.prog X.w H' s'.heap)(hg:AllBare s'.gens)
  (hch:∀b∈ch,(b∈X.ex∨X.s₀.heap.objs.size≤b)∧b≠X.env.locals∧(∀x c,X.env.cells.lookup x=some c->c≠b)∧∀p∈X.pn++pins,p.1≠b):Inv X pins σ H' s':=by
 obtain⟨h',g',d',t',o'⟩:=s'
 have e:o'=s.os:=ho
 subst e
 exact I.call (g':=g') (t':=t') (d':=d') u hok hg hch
end
abbrev XK:=Value->Option Addr->Hp->Prop
abbrev St:=List (Option V)
abbrev VK:=V->Hp->Prop
abbrev TE:=St->Hp->VK->Prop
abbrev TT:=St->Hp->(Bool->Hp->Prop)->Prop
abbrev TA:=St->Hp->(List V->Hp->Prop)->Prop
structure Ends where
 nx:St->Hp->Prop
 rt:VK
 bk:St->Hp->Prop:=λ_ _=>False
 ct:St->Hp->Prop:=λ_ _=>False
abbrev TS:=Ends->St->Hp->Prop
def EP(X:Cx)(pins:List (Addr×Obj))(σ:St)(Q:VK)(u:Value)(s':Shared):Prop:=∃v H',Inv X pins σ H' s'∧RelV v u∧Q v H'
def TP(X:Cx)(pins:List (Addr×Obj))(σ:St)(Q:Bool->Hp->Prop)(b:Bool)(s':Shared):Prop:=∃H',Inv X pins σ H' s'∧Q b H'
def AP(X:Cx)(pins:List (Addr×Obj))(σ:St)(Q:List V->Hp->Prop)(us:List Value)(s':Shared):Prop:=∃vs H',Inv X pins σ H' s'∧Vals vs us∧Q vs H'
def SP(X:Cx)(pins:List (Addr×Obj))(D:Ends)(f:Flow)(s':Shared):Prop:=
 match f with
 | .next=>∃σ' H',Inv X pins σ' H' s'∧D.nx σ' H'
 | .brk=>∃σ' H',Inv X pins σ' H' s'∧D.bk σ' H'
 | .cont=>∃σ' H',Inv X pins σ' H' s'∧D.ct σ' H'
 | .ret u=>∃v σ' H',Inv X pins σ' H' s'∧RelV v u∧D.rt v H'
def PE(X:Cx)(e:Expr)(t:TE):Prop:=
 ∀(pins:List (Addr×Obj)) (s:Shared) (σ:St) (H:Hp) (Q:VK),Inv X pins σ H s->t σ H Q->wpAny (model X.prog X.w) X.A (eval e X.env) (EP X pins σ Q) X.xe s
def PT(X:Cx)(e:Expr)(t:TT):Prop:=
 ∀(pins:List (Addr×Obj)) (s:Shared) (σ:St) (H:Hp) (Q:Bool->Hp->Prop),Inv X pins σ H s->t σ H Q->wpAny (model X.prog X.w) X.A (isTrue e X.env (eval e X.env)) (TP X pins σ Q) X.xe s
def PW(X:Cx)(e:Expr)(t:TT):Prop:=
 ∀(whole:Sem Value) (pins:List (Addr×Obj)) (s:Shared) (σ:St) (H:Hp) (Q:Bool->Hp->Prop),Inv X pins σ H s->t σ H Q->wpAny (model X.prog X.w) X.A (isTrue e X.env whole) (TP X pins σ Q) X.xe s
theorem PW.pt{X:Cx}{e:Expr}{t:TT}(h:PW X e t):PT X e t:=h _
def PA(X:Cx)(es:List Expr)(t:TA):Prop:=
 ∀(pos:Pos) (pins:List (Addr×Obj)) (s:Shared) (σ:St) (H:Hp) (Q:List V->Hp->Prop),Inv X pins σ H s->t σ H Q->wpAny (model X.prog X.w) X.A (spliced (backTo pos (starEach es X.env))) (AP X pins σ Q) X.xe s
def PS(X:Cx)(st:Stmt)(t:TS):Prop:=
 ∀(pins:List (Addr×Obj)) (s:Shared) (σ:St) (H:Hp) (D:Ends),Inv X pins σ H s->t D σ H->wpAny (model X.prog X.w) X.A (exec st X.env) (SP X pins D) X.xe s
def PSs(X:Cx)(st:List Stmt)(t:TS):Prop:=
 ∀(pins:List (Addr×Obj)) (s:Shared) (σ:St) (H:Hp) (D:Ends),Inv X pins σ H s->t D σ H->wpAny (model X.prog X.w) X.A (execs st X.env) (SP X pins D) X.xe s
theorem thn{α:Type}{t:Sem α}{Q Q':α->Shared->Prop}{M:Model}{A:Around}{E:Value->Shared->Prop}{s:Shared}(h:wpAny M A t Q E s)(hQ:∀a s,Q a s->Q' a s):wpAny M A t Q' E s:=wpAny_mono h hQ λ_ _ x=>x
end L2
namespace L2
open PySem PySem.Spec PyProof.Rows
section
variable{X:Cx}
def tVar(i:Nat):TE:=λσ H Q=>∃v,σ[i]? =some (some v)∧Q v H
def tC(v:V):TE:=λ_ H Q=>Q v H
theorem pe_var{i:Nat}{x:Str}{pos:Pos}(hN:X.N[i]? =some x)(hv:Vis X.env.scope x)(hd:(x==("__debug__" :Str))=false:=by decide)(hcd:(x==("__classdict__" :Str))=false:=by decide):PE X (.Name x pos) (tVar i):=by
 intro pins s σ H Q I h
 obtain⟨v,e,h⟩:=h
 obtain⟨m,hn,hl⟩:=I.loc
 obtain⟨u,r,l⟩:=hl i x v hN e hv
 have fin:EP X pins σ Q u s:=⟨v,H,I,r,h⟩
 rcases l with⟨hk,hm⟩|⟨hk,c,hc,hcell⟩
 .exact wpAny_Name (wpAny_loadName_local I.ok.kind hk hn hm fin) hd
 .rcases hk with hk|hk
  .exact wpAny_Name (wpAny_loadName_cell I.ok.kind hk hc hcell fin) hd
  .exact wpAny_Name (wpAny_loadName_free I.ok.kind hk hc hcell fin hcd) hd
theorem pe_int{i j pos}:PE X (.Constant (.int i) j pos) (tC (.int i)):=λ_ _ _ H _ I h=>wpAny_Constant_int ⟨.int i,H,I.tok _,⟨_,rfl⟩,h⟩
theorem pe_bl{b j pos}:PE X (.Constant (.bool b) j pos) (tC (.bl b)):=λ_ _ _ H _ I h=>Constant_bool ⟨.bl b,H,I,rfl,h⟩
theorem pe_non{j pos}:PE X (.Constant .none j pos) (tC .non):=λ_ _ _ H _ I h=>Constant_none ⟨.non,H,I,rfl,h⟩
theorem pe_str{x j pos}:PE X (.Constant (.str x) j pos) (tC (.str x)):=λ_ _ _ H _ I h=>Calls.Constant_str ⟨.str x,H,I.tok _,⟨_,rfl⟩,h⟩
def Gl(X:Cx)(x:Str):Prop:=X.env.kindOf x=some .globalImplicit
theorem ld_glob{E:Value->Shared->Prop}{pins:List (Addr×Obj)}{s:Shared}{σ:St}{H:Hp}{x:Str}{u:Value}{pos:Pos}{Q:Value->Shared->Prop}(I:Inv X pins σ H s)(hg:Gl X x)(hm:X.mg x=some u)(h:Q u s)
  (hd:(x==("__debug__" :Str))=false:=by decide):wpAny (model X.prog X.w) X.A (eval (.Name x pos) X.env) Q E s:=
 Calls.Name_function_global I.ok.kind hg (Calls.loadGlobal_global (by rw[I.ok.glob];exact I.mod.glob.keeps I.bk) hm h) hd
theorem ld_blt{E:Value->Shared->Prop}{pins:List (Addr×Obj)}{s:Shared}{σ:St}{H:Hp}{x:Str}{u:Value}{pos:Pos}{Q:Value->Shared->Prop}(I:Inv X pins σ H s)(hg:Gl X x)(hm:X.mg x=none)(hv:bootBuiltins x=some u)(h:Q u s)
  (hn:x≠"__name__" :=by decide)(hd:(x==("__debug__" :Str))=false:=by decide):wpAny (model X.prog X.w) X.A (eval (.Name x pos) X.env) Q E s:=by
 obtain⟨mb,h1,h2⟩:=I.mod.blt
 exact Calls.Name_function_global I.ok.kind hg (Calls.loadGlobal_builtin (by rw[I.ok.glob];exact I.mod.glob.keeps I.bk) hm (by rw[I.ok.blt];exact h1.keeps I.bk) ((h2 x hn).trans hv) h) hd
theorem pe_glob{x:Str}{v:V}{u:Value}{pos:Pos}(hg:Gl X x)(hm:X.mg x=some u)(r:RelV v u)(hd:(x==("__debug__" :Str))=false:=by decide):PE X (.Name x pos) (tC v):=
 λ_ _ _ H _ I h=>ld_glob I hg hm ⟨v,H,I,r,h⟩ hd
theorem pe_bltn{x:Str}{v:V}{u:Value}{pos:Pos}(hg:Gl X x)(hm:X.mg x=none)(hv:bootBuiltins x=some u)(r:RelV v u)(hn:x≠"__name__" :=by decide)(hd:(x==("__debug__" :Str))=false:=by decide):PE X (.Name x pos) (tC v):=
 λ_ _ _ H _ I h=>ld_blt I hg hm hv ⟨v,H,I,r,h⟩ hn hd
variable{a b:Expr}{ta tb:TE}{pos:Pos}
def tB(t:TE):TT:=λσ H Q=>t σ H λx H1=>∃c,x= .bl c∧Q c H1
theorem pt_val{e:Expr}{t:TE}(h:PE X e t)(he:∀whole,isTrue e X.env whole=(do let v ←whole;standAt e.pos;holding [v] (truthy v)):=by intro _;rfl):PT X e (tB t):=by
 intro pins s σ H Q I hw
 refine isTrue_plain (thn (h pins s σ H _ I hw) λv s1 ⟨x,H1,I1,r1,q1⟩=> ?_) (he _)
 obtain⟨d,rfl,q⟩:=q1
 cases r1
 exact wpAny_truthy_bool ⟨H1,I1,q⟩
variable{tA tB':TT}{rest:List Expr}
def tAnd(t u:TT):TT:=λσ H Q=>t σ H λc H1=>if c=true then u σ H1 Q else Q false H1
def tOr(t u:TT):TT:=λσ H Q=>t σ H λc H1=>if c=true then Q true H1 else u σ H1 Q
def tNot(t:TT):TT:=λσ H Q=>t σ H λc H1=>Q (!c) H1
theorem pw_and1(ha:PT X a tA):PW X (.BoolOp .And [a] pos) tA:=by
 intro wh pins s σ H Q I h
 refine isTrue_and (thn (ha pins s σ H Q I h) λc s1 e=> ?_)
 cases c with
 |true=>exact isTrue_and_nil e
 |false=>exact e
theorem pw_or1(ha:PT X a tA):PW X (.BoolOp .Or [a] pos) tA:=by
 intro wh pins s σ H Q I h
 refine isTrue_or (thn (ha pins s σ H Q I h) λc s1 e=> ?_)
 cases c with
 |false=>exact isTrue_or_nil e
 |true=>exact e
theorem pw_and(ha:PT X a tA)(hb:PW X (.BoolOp .And (b::rest) pos) tB'):PW X (.BoolOp .And (a::b::rest) pos) (tAnd tA tB'):=by
 intro wh pins s σ H Q I h
 refine isTrue_and (thn (ha pins s σ H _ I h) λc s1 ⟨H1,I1,q1⟩=> ?_)
 cases c with
 |true=>exact hb wh pins s1 σ H1 Q I1 q1
 |false=>exact⟨H1,I1,q1⟩
theorem pw_or(ha:PT X a tA)(hb:PW X (.BoolOp .Or (b::rest) pos) tB'):PW X (.BoolOp .Or (a::b::rest) pos) (tOr tA tB'):=by
 intro wh pins s σ H Q I h
 refine isTrue_or (thn (ha pins s σ H _ I h) λc s1 ⟨H1,I1,q1⟩=> ?_)
 cases c with
 |true=>exact⟨H1,I1,q1⟩
 |false=>exact hb wh pins s1 σ H1 Q I1 q1
theorem pt_not(ha:PT X a tA):PT X (.UnaryOp .Not a pos) (tNot tA):=by
 intro pins s σ H Q I h
 exact isTrue_not (ha pins s σ H (λc H1=>Q (!c) H1) I h)
def tAndV(ta tb:TE):TE:=λσ H Q=>ta σ H λx H1=>∃c,x= .bl c∧if c=true then tb σ H1 Q else Q (.bl false) H1
def tOrV(ta tb:TE):TE:=λσ H Q=>ta σ H λx H1=>∃c,x= .bl c∧if c=true then Q (.bl true) H1 else tb σ H1 Q
def tNotV(ta:TE):TE:=λσ H Q=>ta σ H λx H1=>∃c,x= .bl c∧Q (.bl (!c)) H1
theorem pe_one{op}{t:TE}(h:PE X a t):PE X (.BoolOp op [a] pos) t:=λpins s σ H Q I hw=>BoolOp_one (h pins s σ H Q I hw)
theorem pe_and(ha:PE X a ta)(hb:PE X (.BoolOp .And (b::rest) pos) tb):PE X (.BoolOp .And (a::b::rest) pos) (tAndV ta tb):=by
 intro pins s σ H Q I h
 refine BoolOp_and (thn (ha pins s σ H _ I h) λv s1 ⟨x,H1,I1,r1,q1⟩=> ?_)
 obtain⟨c,rfl,q1⟩:=q1
 cases r1
 refine wpAny_truthy_bool ?_
 cases c with
 |true=>exact hb pins s1 σ H1 Q I1 q1
 |false=>exact⟨.bl false,H1,I1,rfl,q1⟩
theorem pe_or(ha:PE X a ta)(hb:PE X (.BoolOp .Or (b::rest) pos) tb):PE X (.BoolOp .Or (a::b::rest) pos) (tOrV ta tb):=by
 intro pins s σ H Q I h
 refine BoolOp_or (thn (ha pins s σ H _ I h) λv s1 ⟨x,H1,I1,r1,q1⟩=> ?_)
 obtain⟨c,rfl,q1⟩:=q1
 cases r1
 refine wpAny_truthy_bool ?_
 cases c with
 |false=>exact hb pins s1 σ H1 Q I1 q1
 |true=>exact⟨.bl true,H1,I1,rfl,q1⟩
theorem pe_not(ha:PE X a ta):PE X (.UnaryOp .Not a pos) (tNotV ta):=by
 intro pins s σ H Q I h
 refine UnaryOp_ (thn (ha pins s σ H _ I h) λv s1 ⟨x,H1,I1,r1,q1⟩=> ?_)
 obtain⟨c,rfl,q1⟩:=q1
 cases r1
 exact not_of (wpAny_truthy_bool ⟨.bl (!c),H1,I1,rfl,q1⟩)
def tIf(t:TT)(ta tb:TE):TE:=λσ H Q=>t σ H λc H1=>if c=true then ta σ H1 Q else tb σ H1 Q
theorem pe_ifExp{c:Expr}(hc:PT X c tA)(ha:PE X a ta)(hb:PE X b tb):PE X (.IfExp c a b pos) (tIf tA ta tb):=by
 intro pins s σ H Q I h
 refine wpAny_IfExp (thn (hc pins s σ H _ I h) λd s1 ⟨H1,I1,q1⟩=> ?_)
 cases d with
 |true=>exact ha pins s1 σ H1 Q I1 q1
 |false=>exact hb pins s1 σ H1 Q I1 q1
end
end L2
namespace L2
open PySem PySem.Spec PyProof.Rows
def SqL(K:PySem.W.Frag)(H:Hp)(a:Addr)(xs:List V):Prop:=
 Rd H a (.lst xs)∨
  ∃(o:Obj) (its:Array Value) (n:Nat),K.lookup a=some o∧o.cls= .type "list"∧o.dict=none∧o.data= .seq its n∧its.size≤sizeLine∧Vals xs its.toList
def SqT(K:PySem.W.Frag)(H:Hp)(a:Addr)(xs:List V):Prop:=
 Rd H a (.tup xs)∨
  ∃(o:Obj) (its:Array Value) (n:Nat),K.lookup a=some o∧o.cls= .type "tuple"∧o.data= .seq its n∧its.size≤sizeLine∧Vals xs its.toList
def absV:Value->Option V
 | .none=>some .non
 | .bool b=>some (.bl b)
 | .int i _=>some (.int i)
 | .str x _=>some (.str x)
 | .bytes b _=>some (.byt b)
 | .float b _=>some (.flt b)
 | .ref a=>some (.ref a)
 | .type n=>some (.ty n)
 |_=>none
theorem RelV.abs{x:V}{u:Value}(r:RelV x u):absV u=some x:=by
 cases x with
 |non=>cases r;rfl
 |bl _=>cases r;rfl
 |int _=>obtain⟨t,rfl⟩:=r;rfl
 |str _=>obtain⟨t,rfl⟩:=r;rfl
 |byt _=>obtain⟨t,rfl⟩:=r;rfl
 |flt _=>obtain⟨t,rfl⟩:=r;rfl
 |ref _=>cases r;rfl
 |ty _=>cases r;rfl
theorem RelV.inj{x y:V}{u:Value}(r:RelV x u)(q:RelV y u):x=y:=Option.some.inj (r.abs.symm.trans q.abs)
theorem Vals.inj:∀{xs ys:List V} {us:List Value},Vals xs us->Vals ys us->xs=ys
 |_,_,_,.nil,.nil=>rfl
 |_,_,_,.cons r t,.cons r' t'=>by rw[r.inj r',Vals.inj t t']
section
variable{X:Cx}{pins:List (Addr×Obj)}{σ:St}{H:Hp}{s:Shared}{a:Addr}{xs ys:List V}
theorem SqL.of{K:PySem.W.Frag}(h:H a=some (.lst xs)):SqL K H a xs:= .inl (.inl h)
theorem SqT.of{K:PySem.W.Frag}(h:H a=some (.tup xs)):SqT K H a xs:= .inl (.inl h)
theorem Inv.list(I:Inv X pins σ H s)(h:SqL X.K H a xs):∃its:List Value,Vals xs its∧PlainL s.heap a its.toArray∧xs.length≤sizeLine:=by
 rcases h with h|⟨o,its,n,hk,hc,hd,hs,hz,r⟩
 .obtain⟨z,its,n,r,e⟩:=h.ok I.hok
  exact⟨its,r,⟨_,n,e,rfl,rfl,rfl⟩,z⟩
 .refine⟨its.toList,r,⟨o,n,I.kIn a o hk,hc,hd,by simpa using hs⟩,?_⟩
  have e:=r.length
  simp only[Array.length_toList] at e
  omega
theorem Inv.tuple(I:Inv X pins σ H s)(h:SqT X.K H a xs):∃its:List Value,Vals xs its∧IsTup s.heap a its.toArray∧xs.length≤sizeLine:=by
 rcases h with h|⟨o,its,n,hk,hc,hs,hz,r⟩
 .obtain⟨z,its,r,p⟩:=h.ok I.hok
  exact⟨its,r,p.is,z⟩
 .refine⟨its.toList,r,⟨o,I.kIn a o hk,hc,n,by simpa using hs⟩,?_⟩
  have e:=r.length
  simp only[Array.length_toList] at e
  omega
theorem Inv.tupleO(I:Inv X pins σ H s)(h:H a=some (.tup xs)):∃(its:List Value) (n:Nat),Vals xs its∧s.heap.get? a=some {cls:= .type "tuple",data:= .seq its.toArray n}∧xs.length≤sizeLine:=by
 obtain⟨z,its,r,n,e⟩:=(show ObjOk X.prog X.w H s.heap a (.tup xs) from I.hok a _ h)
 exact⟨its,n,r,e,z⟩
theorem Inv.list_inj(I:Inv X pins σ H s)(h:SqL X.K H a xs)(h':SqL X.K H a ys):xs=ys:=by
 obtain⟨its,r,⟨o,n,e,_,_,d⟩,_⟩:=I.list h
 obtain⟨its',r',⟨o',n',e',_,_,d'⟩,_⟩:=I.list h'
 rw[e] at e';cases e'
 rw[d] at d'
 injection d' with d1 _
 have:its=its':=by simpa using congrArg Array.toList d1
 subst this
 exact r.inj r'
theorem Inv.tuple_inj(I:Inv X pins σ H s)(h:SqT X.K H a xs)(h':SqT X.K H a ys):xs=ys:=by
 obtain⟨its,r,⟨o,e,_,n,d⟩,_⟩:=I.tuple h
 obtain⟨its',r',⟨o',e',_,n',d'⟩,_⟩:=I.tuple h'
 rw[e] at e';cases e'
 rw[d] at d'
 injection d' with d1 _
 have:its=its':=by simpa using congrArg Array.toList d1
 subst this
 exact r.inj r'
end
section
variable{X:Cx}{pins:List (Addr×Obj)}{σ:St}{H:Hp}{s:Shared}{E:Value->Shared->Prop}
end
section
variable{X:Cx}{st:Stmt}{rest:List Stmt}{t u:TS}{e:Expr}{te:TE}{pos:Pos}
def tNext:TS:=λD σ H=>D.nx σ H
def tSeq(t u:TS):TS:=λD σ H=>t {D with nx:=u D} σ H
theorem pss_nil:PSs X [] tNext:=λ_ _ σ H _ I h=>wpAny_execs_nil ⟨σ,H,I,h⟩
theorem pss_cons(h1:PS X st t)(h2:PSs X rest u):PSs X (st::rest) (tSeq t u):=by
 intro pins s σ H D I h
 refine wpAny_execs_cons (thn (h1 pins s σ H {D with nx:=u D} I h) λf s1 q=> ?_)
 cases f with
 |next=>
  obtain⟨σ',H',I',q⟩:=q
  exact h2 pins s1 σ' H' D I' q
 |ret v=>exact q
 |brk=>exact q
 |cont=>exact q
theorem pss_one(h1:PS X st t):PSs X [st] t:=by
 intro pins s σ H D I h
 refine wpAny_execs_cons (thn (h1 pins s σ H D I h) λf s1 q=> ?_)
 cases f with
 |next=>exact wpAny_execs_nil q
 |ret v=>exact q
 |brk=>exact q
 |cont=>exact q
theorem Inv.quiet{pins:List (Addr×Obj)}{σ:St}{H:Hp}{s:Shared}(I:Inv X pins σ H s):interactive X.env=false:=by simp[interactive,I.ok.kind]
def tDrop(te:TE):TS:=λD σ H=>te σ H λ_ H1=>D.nx σ H1
theorem ps_expr(he:PE X e te)(hs:swapsWith e none pos.line X.env=pure false:=by rfl):PS X (.Expr e pos) (tDrop te):=by
 intro pins s σ H D I h
 exact wpAny_Expr_any (thn (he pins s σ H _ I h) λv s1 ⟨x,H1,I1,r1,q1⟩=>⟨σ,H1,I1,q1⟩) I.quiet hs
def tRet(te:TE):TS:=λD σ H=>te σ H D.rt
theorem ps_ret(he:PE X e te):PS X (.Return (some e) pos) (tRet te):=by
 intro pins s σ H D I h
 exact wpAny_Return_some (thn (he pins s σ H _ I h) λv s1 ⟨x,H1,I1,r1,q1⟩=>⟨x,σ,H1,I1,r1,q1⟩)
def tIfS(c:TT)(t u:TS):TS:=λD σ H=>c σ H λb H1=>if b=true then t D σ H1 else u D σ H1
theorem ps_if{c:Expr}{a b:List Stmt}{tc:TT}(hc:PT X c tc)(ha:PSs X a t)(hb:PSs X b u):PS X (.If c a b pos) (tIfS tc t u):=by
 intro pins s σ H D I h
 refine wpAny_If (thn (hc pins s σ H _ I h) λd s1 ⟨H1,I1,q1⟩=> ?_)
 cases d with
 |true=>exact ha pins s1 σ H1 D I1 q1
 |false=>exact hb pins s1 σ H1 D I1 q1
end
abbrev TG:=V->St->Hp->(St->Hp->Prop)->Prop
abbrev TGs:=List V->St->Hp->(St->Hp->Prop)->Prop
def PG(X:Cx)(target:Expr)(t:TG):Prop:=
 ∀(pins:List (Addr×Obj)) (s:Shared) (σ:St) (H:Hp) (v:V) (u:Value) (Q:St->Hp->Prop),Inv X pins σ H s->RelV v u->t v σ H Q->
  wpAny (model X.prog X.w) X.A (assign target X.env u) (λ_ s'=>∃σ' H',Inv X pins σ' H' s'∧Q σ' H') X.xe s
def PGs(X:Cx)(ts:List Expr)(t:TGs):Prop:=
 ∀(pins:List (Addr×Obj)) (s:Shared) (σ:St) (H:Hp) (vs:List V) (us:List Value) (Q:St->Hp->Prop),Inv X pins σ H s->Vals vs us->t vs σ H Q->
  wpAny (model X.prog X.w) X.A (assignInOrder ((assignEach ts X.env).map (·.2)) us) (λ_ s'=>∃σ' H',Inv X pins σ' H' s'∧Q σ' H') X.xe s
abbrev TIp:=V->V->Hp->VK->Prop
def PIp(X:Cx)(op:Operator)(t:TIp):Prop:=
 ∀(pins:List (Addr×Obj)) (s:Shared) (σ:St) (H:Hp) (x y:V) (v u:Value) (Q:VK),Inv X pins σ H s->RelV x v->RelV y u->t x y H Q->
  wpAny (model X.prog X.w) X.A (inplaceOp op v u) (EP X pins σ Q) X.xe s
section
variable{X:Cx}{pos:Pos}
def gName(i:Nat):TG:=λv σ H Q=>Q (σ.set i (some v)) H
theorem pg_name{i:Nat}{x:Str}(hN:X.N.Nodup)(hi:X.N[i]? =some x)(hx:Loc X.env.scope x)(hf:X.fn x=true∨X.env.scope.names.lookup x=some .local:=by first|exact .inl rfl|exact .inr rfl|assumption):PG X (.Name x pos) (gName i):=by
 intro pins s σ H v u Q I r h
 exact wpAny_assign_Name (store_ok I hN hi hx r (λs' I'=>⟨_,H,I',h⟩) hf)
def gNil:TGs:=λvs σ H Q=>vs=[]∧Q σ H
def gCons(t:TG)(u:TGs):TGs:=λvs σ H Q=>∃v r,vs=v::r∧t v σ H λσ' H'=>u r σ' H' Q
theorem pgs_nil:PGs X [] gNil:=by
 intro pins s σ H vs us Q I r h
 obtain⟨e,h⟩:=h
 subst e
 cases r
 exact assignInOrder_nil ⟨σ,H,I,h⟩
theorem pgs_cons{e:Expr}{es:List Expr}{t:TG}{u:TGs}(h1:PG X e t)(h2:PGs X es u)
  (hs:(assignEach (e::es) X.env).map (·.2)=assign e X.env::(assignEach es X.env).map (·.2):=by rfl):PGs X (e::es) (gCons t u):=by
 intro pins s σ H vs us Q I r h
 obtain⟨v,vr,e1,h⟩:=h
 subst e1
 cases r with
 |cons r rr=>
  rw[hs]
  refine assignInOrder_cons (thn (h1 pins s σ H _ _ _ I r h) λ_ s1 ⟨σ1,H1,I1,q1⟩=> ?_)
  exact h2 pins s1 σ1 H1 _ _ Q I1 rr q1
def gTup(K:PySem.W.Frag)(n:Nat)(t:TGs):TG:=λv σ H Q=>∃a xs,v= .ref a∧SqT K H a xs∧xs.length=n∧t xs σ H Q
theorem pg_tup{es:List Expr}{k:Nat}{t:TGs}{n:Nat}(hc:X.calm=true)(h:PGs X es t)
  (hn:(assignEach es X.env).length=n:=by rfl)(hst:(assignEach es X.env).findIdx? (·.1)=none:=by rfl):PG X (.Tuple es k pos) (gTup X.K n t):=by
 intro pins s σ H v u Q I r hw
 obtain⟨a,xs,e1,hq,hl,hw⟩:=hw
 subst e1
 cases r
 obtain⟨its,rv,ht,hz⟩:=I.tuple hq
 refine assign_Tuple_tuple (I.ok.hd hc) ht (by simp[hn,←hl,rv.length]) hst λh' hx=> ?_
 have I1:Inv X pins σ H {s with heap:=h'}:=I.kept (t':=s.toks) λb o e=>hx b o (Nat.ne_of_lt (Heap.lt_size e)) e
 exact h pins _ σ H xs _ Q I1 (by simpa using rv) hw
def tAsg(te:TE)(g:TG):TS:=λD σ H=>te σ H λx H1=>g x σ H1 D.nx
theorem ps_set{i:Nat}{x:Str}{e:Expr}{te:TE}{pos':Pos}(hN:X.N.Nodup)(hi:X.N[i]? =some x)(hx:Loc X.env.scope x)(he:PE X e te)(hs:swapsWith e (some (.Name x pos')) pos.line X.env=pure false:=by rfl)(hf:X.fn x=true∨X.env.scope.names.lookup x=some .local:=by first|exact .inl rfl|exact .inr rfl|assumption):
  PS X (.Assign [.Name x pos'] e pos) (tAsg te (gName i)):=by
 intro pins s σ H D I h
 refine wpAny_Assign_Name (thn (he pins s σ H _ I h) λv s1 ⟨y,H1,I1,r1,q1⟩=> ?_) hs
 exact store_ok I1 hN hi hx r1 (λs2 I2=>⟨_,H1,I2,q1⟩) hf
def tPar(i j:Nat)(ta:TA):TS:=λD σ H=>ta σ H λvs H1=>∃v w,vs=[v,w]∧D.nx ((σ.set i (some v)).set j (some w)) H1
theorem ps_par{i j:Nat}{x y:Str}{a b:Expr}{ta:TA}{px py pt:Pos}{kt k2 pt2}(hc:X.calm=true)(hN:X.N.Nodup)(hi:X.N[i]? =some x)(hj:X.N[j]? =some y)(hij:i≠j)
  (hx:X.env.scope.names.lookup x=some .local)(hy:X.env.scope.names.lookup y=some .local)(ha:PA X [a,b] ta)
  (hw:swappedStores [.Tuple [.Name x px,.Name y py] kt pt] (.Tuple [a,b] k2 pt2) X.env=pure (some [x,y]))
  (hs:swapsWithSole [.Tuple [.Name x px,.Name y py] kt pt] (.Tuple [a,b] k2 pt2) pos.line X.env=pure false:=by rfl):
  PS X (.Assign [.Tuple [.Name x px,.Name y py] kt pt] (.Tuple [a,b] k2 pt2) pos) (tPar i j ta):=by
 intro pins s σ H D I h
 rw[exec_Assign_arm]
 refine wpAny_bind (wpAny_standAt ?_)
 rw[hs]
 refine wpAny_bind (wpAny_pure ?_)
 rw[if_neg (by decide)]
 refine wpAny_bind (Tuple_ (thn (ha _ pins s σ H _ I h) λus s1 ⟨vs,H1,I1,r1,q1⟩=> ?_))
 obtain⟨v,w,e1,q1⟩:=q1
 subst e1
 obtain⟨u1,u2,rfl,rv,rw'⟩:∃u1 u2,us=[u1,u2]∧RelV v u1∧RelV w u2:=by
  cases r1 with
  |cons p q=>
   cases q with
   |cons p' q'=>
    cases q'
    exact⟨_,_,rfl,p,p'⟩
 refine wpAny_newObj_type ?_ (by show 2≤sizeLine;decide)
 have I2:Inv X pins σ H1 {s1 with heap:=s1.heap.push {cls:= .type "tuple",data:= .seq [u1,u2].toArray}}:=I1.kept (t':=s1.toks) λb o e=>Heap.get?_push_of_some _ e
 rw[hw]
 refine wpAny_bind (wpAny_pure ?_)
 show wpAny (model X.prog X.w) X.A (do rule "assign.swapped-stores";let items ←unpackItems (.ref s1.heap.objs.size) 2 none;assignInOrder [λv=>bindName X.env y v,λv=>bindName X.env x v] items.reverse;pure Flow.next) _ _ _
 refine wpAny_bind (wpAny_rule (wpAny_bind (unpackItems_tuple (items:= #[u1,u2]) (I.ok.hd hc) (IsTup.new s1.heap _) λh' hx'=> ?_)))
 have I3:=I2.kept (h':=h') (t':=s1.toks) λb o e=>hx' b o (Nat.ne_of_lt (Heap.lt_size e)) e
 show wpAny _ _ (assignInOrder [λv=>bindName X.env y v,λv=>bindName X.env x v] [u2,u1]>>=λ_=>pure Flow.next) _ _ _
 refine wpAny_bind (assignInOrder_cons (wpAny_bindName (store_ok I3 hN hj (.inl hy) rw' (λs2 I4=> ?_) (.inr hy))))
 refine assignInOrder_cons (wpAny_bindName (store_ok I4 hN hi (.inl hx) rv (λs3 I5=>assignInOrder_nil (wpAny_pure ?_)) (.inr hx)))
 rw[List.set_comm _ _ (Ne.symm hij)] at I5
 exact⟨_,H1,I5,q1⟩
def tAug(i:Nat)(te:TE)(ti:TIp):TS:=λD σ H=>∃x,σ[i]? =some (some x)∧te σ H λy H1=>ti x y H1 λz H2=>D.nx (σ.set i (some z)) H2
theorem ps_aug{i:Nat}{x:Str}{e:Expr}{te:TE}{op:Operator}{ti:TIp}{pos':Pos}(hN:X.N.Nodup)(hi:X.N[i]? =some x)(hx:Loc X.env.scope x)(he:PE X e te)(ho:PIp X op ti)(hf:X.fn x=true∨X.env.scope.names.lookup x=some .local:=by first|exact .inl rfl|exact .inr rfl|assumption):
  PS X (.AugAssign (.Name x pos') op e pos) (tAug i te ti):=by
 intro pins s σ H D I h
 obtain⟨v,e1,h⟩:=h
 obtain⟨m,hn,hl⟩:=I.loc
 have vis:Vis X.env.scope x:=by rcases hx with k|k;exact .inl k;exact .inr (.inl k)
 obtain⟨u,r,l⟩:=hl i x v hi e1 vis
 refine wpAny_AugAssign_Name ?_
 have go:wpAny (model X.prog X.w) X.A (eval e X.env) (λw s₂=>wpAny (model X.prog X.w) X.A (inplaceOp op u w) (λr s₃=>wpAny (model X.prog X.w) X.A (storeName X.env x r) (λ_=>SP X pins D .next) X.xe s₃) X.xe s₂) X.xe s:=by
  refine thn (he pins s σ H _ I h) λw s1 ⟨y,H1,I1,r1,q1⟩=> ?_
  refine thn (ho pins s1 σ H1 v y u w _ I1 r r1 q1) λz s2 ⟨zv,H2,I2,r2,q2⟩=> ?_
  exact store_ok I2 hN hi hx r2 (λs3 I3=>⟨_,H2,I3,q2⟩) hf
 rcases l with⟨hk,hm⟩|⟨hk,c,hc,hcell⟩
 .exact wpAny_loadName_local I.ok.kind hk hn hm go
 .rcases hk with hk|hk
  .exact wpAny_loadName_cell I.ok.kind hk hc hcell go
  .rcases hx with k|k
   .have:X.env.scope.names.lookup x=some .free:=hk
    rw[k] at this;cases this
   .have:X.env.scope.names.lookup x=some .free:=hk
    rw[k] at this;cases this
def ipI(f:Int->Int->Int):TIp:=λx y H Q=>∃i j,x= .int i∧y= .int j∧Q (.int (f i j)) H
theorem ip_add:PIp X .Add (ipI λi j=>i+j):=by
 intro pins s σ H x y v u Q I r1 r2 h
 obtain⟨i,j,e1,e2,q⟩:=h
 subst e1;subst e2
 obtain⟨t,rfl⟩:=r1
 obtain⟨t',rfl⟩:=r2
 exact iadd_int ⟨.int _,H,I.tok _,⟨_,rfl⟩,q⟩
end
section
variable{X:Cx}{pos:Pos}
def tWhile(c:TT)(tb:TS):TS:=λD σ H=>∃W:Nat->St->Hp->Prop,(∃m,W m σ H)∧∀m σ H,W m σ H->
 c σ H λb H1=>if b=true then ∃N:St->Hp->Prop,(∀σ' H',N σ' H'->∃m',m'<m∧W m' σ' H')∧tb {D with nx:=N,ct:=N,bk:=D.nx} σ H1 else D.nx σ H1
theorem ps_while{c:Expr}{body:List Stmt}{tc:TT}{tb:TS}(hp:PassesOwn (model X.prog X.w) X.A X.env X.xe)(hc:PT X c tc)(hb:PSs X body tb):PS X (.While c body [] pos) (tWhile tc tb):=by
 intro pins s σ H D I h
 obtain⟨W,⟨m0,w0⟩,turn⟩:=h
 refine wpAny_While (codeAny_whileLoop (λn s'=>∃σ' H',Inv X pins σ' H' s'∧W n σ' H') ?_ m0 ⟨σ,H,I,w0⟩)
 rintro n s1 ⟨σ1,H1,I1,w1⟩
 refine wpAny_passesOwn hp (thn (hc pins s1 σ1 H1 _ I1 (turn n σ1 H1 w1)) λb s2 ⟨H2,I2,q2⟩=> ?_)
 cases b with
 |true=>
  obtain⟨N,hN,q2⟩:=q2
  rw[if_pos rfl]
  refine wpAny_passesOwn hp (thn (hb pins s2 σ1 H2 _ I2 q2) λf s3 q3=> ?_)
  cases f with
  |next=>
   obtain⟨σ3,H3,I3,n3⟩:=q3
   obtain⟨m',hm,w3⟩:=hN σ3 H3 n3
   exact⟨m',hm,σ3,H3,I3,w3⟩
  |cont=>
   obtain⟨σ3,H3,I3,n3⟩:=q3
   obtain⟨m',hm,w3⟩:=hN σ3 H3 n3
   exact⟨m',hm,σ3,H3,I3,w3⟩
  |brk=>exact q3
  |ret v=>exact q3
 |false=>
  rw[if_neg Bool.false_ne_true]
  exact wpAny_execs_nil ⟨σ1,H2,I2,q2⟩
end
structure It where
 go:Nat->Hp->Prop
 yld:Nat->Hp->V->Hp->Prop
 stop:Nat->Hp->Prop
def FpOk(X:Cx)(pins:List (Addr×Obj))(H:Hp)(b:Addr):Prop:=
 H b=none∧b≠X.env.locals∧b∉X.fs∧(b∈X.ex∨X.s₀.heap.objs.size≤b)∧(∀x c,X.env.cells.lookup x=some c->c≠b)∧∀p∈X.pn++pins,p.1≠b
theorem Inv.fpOk{X:Cx}{pins:List (Addr×Obj)}{σ:St}{H H':Hp}{s:Shared}{b:Addr}(I:Inv X pins σ H s)(hb:s.heap.objs.size≤b)(hn:H' b=none):FpOk X pins H' b:=by
 refine⟨hn,Nat.ne_of_gt (Nat.lt_of_lt_of_le I.lt hb),I.nofs hb,.inr (Nat.le_trans I.sz hb),λx c e z=> ?_,λp hp z=> ?_⟩
 .obtain⟨v,q⟩:=I.cell x c e
  exact absurd (Nat.lt_of_lt_of_le q.lt (by rw[z];exact hb)) (Nat.lt_irrefl _)
 .exact absurd (Nat.lt_of_lt_of_le (Heap.lt_size (I.pin p hp).1) (by rw[z];exact hb)) (Nat.lt_irrefl _)
structure Turn(P:Program)(w:World)(K:PySem.W.Frag)(tg:Expr)(J:It)(fp:List Addr)(it:Addr)(tn:Nat->Heap->Prop):Prop where
 mem:it∈fp
 obj:∀i h,tn i h->∀b∈fp,∃o,h.get? b=some o∧∀v,o.data≠ .cell v
 keep:∀i h h',tn i h->(∀b∈fp,∀o,h.get? b=some o->h'.get? b=some o)->tn i h'
 item:∀(X:Cx),X.prog=P->X.w=w->X.K=K->X.calm=true->∀(i:Nat) (pins:List (Addr×Obj)) (s:Shared) (σ:St) (H:Hp) (E:Value->Shared->Prop),Inv X pins σ H s->(∀b∈fp,FpOk X pins H b)->tn i s.heap->J.go i H->
  wpAny (model P w) X.A (pyNext (.ref it)) (λr s1=>∃u,r=some u∧
   wpAny (model P w) X.A (letOwnedTupleGo tg (.ref it) u) (λ_ s2=>∃x H',Inv X pins σ H' s2∧RelV x u∧J.yld i H x H'∧tn (i+1) s2.heap∧∀b∈fp,H' b=none) E s1) E s
 done:∀(X:Cx),X.prog=P->X.w=w->X.K=K->X.calm=true->∀(i:Nat) (pins:List (Addr×Obj)) (s:Shared) (σ:St) (H:Hp) (E:Value->Shared->Prop),Inv X pins σ H s->(∀b∈fp,FpOk X pins H b)->tn i s.heap->J.stop i H->
  wpAny (model P w) X.A (pyNext (.ref it)) (λr s1=>r=none∧Inv X pins σ H s1) E s
 self:∀(A:Around) (i:Nat) (s:Shared) (Q:Value->Shared->Prop) (E:Value->Shared->Prop),tn i s.heap->Q (.ref it) s->wpAny (model P w) A (pyIter (.ref it)) Q E s
abbrev TI:=St->Hp->(It->Hp->Prop)->Prop
def PIE(X:Cx)(pins:List (Addr×Obj))(σ:St)(tg:Expr)(R:It->Hp->Prop)(itv:Value)(s2:Shared):Prop:=
 ∃(it:Addr) (fp:List Addr) (tn:Nat->Heap->Prop) (J:It) (H':Hp),itv= .ref it∧Inv X pins σ H' s2∧Turn X.prog X.w X.K tg J fp it tn∧tn 0 s2.heap∧(∀b∈fp,FpOk X pins H' b)∧R J H'
def PI(X:Cx)(tg iter:Expr)(wi:TI):Prop:=
 ∀(pins:List (Addr×Obj)) (s:Shared) (σ:St) (H:Hp) (R:It->Hp->Prop),Inv X pins σ H s->wi σ H R->
  wpAny (model X.prog X.w) X.A (eval iter X.env) (λv s1=>wpAny (model X.prog X.w) X.A (pyIter v) (PIE X pins σ tg R) X.xe s1) X.xe s
theorem go_of{M:Model}{A:Around}{E:Value->Shared->Prop}{s:Shared}{tg:Expr}{it:Addr}{u:Value}{o:Obj}{n:String}{vs:Array Value}{Q:Unit->Shared->Prop}(ho:s.heap.get? it=some o)(hc:o.cls= .type n)(hd:o.data= .fields vs)
  (hn:["enumerate","zip","dict_itemiterator","dict_reverseitemiterator","odict_iterator","itertools.zip_longest","itertools.pairwise"].contains n=false)(hQ:Q () s):wpAny M A (letOwnedTupleGo tg (.ref it) u) Q E s:=by
 unfold letOwnedTupleGo
 cases tg<;>first
  |exact wpAny_pure hQ
  |(cases u<;>first
    |exact wpAny_pure hQ
    |(refine wpAny_bind (wpAny_load ho ?_)
      rw[hc,hd]
      show wpAny M A (if (["enumerate","zip","dict_itemiterator","dict_reverseitemiterator","odict_iterator","itertools.zip_longest","itertools.pairwise"].contains n&&vs[0]? ==some (rawInt _))=true then _ else _) Q E s
      rw[if_neg (by intro h;rw[hn,Bool.false_and] at h;cases h)]
      exact wpAny_pure hQ))
def Itl(K:PySem.W.Frag)(a:Addr):It:=
 ⟨λi H=>∃xs x,SqL K H a xs∧xs[i]? =some x,λi H x H'=>H'=H∧∀xs,SqL K H a xs->xs[i]? =some x,λi H=>∃xs,SqL K H a xs∧xs.length≤i⟩
def Itt(K:PySem.W.Frag)(a:Addr):It:=
 ⟨λi H=>∃xs x,SqT K H a xs∧xs[i]? =some x,λi H x H'=>H'=H∧∀xs,SqT K H a xs->xs[i]? =some x,λi H=>∃xs,SqT K H a xs∧xs.length≤i⟩
def Itr(lo:Int)(n:Nat):It:=⟨λi _=>i<n,λi H x H'=>H'=H∧x= .int (lo+i),λi _=>n≤i⟩
theorem turn_list{P:Program}{w:World}{K:PySem.W.Frag}{tg:Expr}(a it:Addr):Turn P w K tg (Itl K a) [it] it (λi h=>h.IsListIter it a i) where
 mem:=by simp
 obj:=λi h st b hb=>by
  have e:b=it:=by simpa using hb
  subst e
  obtain⟨o,e,c,d⟩:=st
  exact⟨o,e,λv z=>by rw[d] at z;cases z⟩
 keep:=λi h h' st k=>st.at λo e=>k it (by simp) o e
 item:=by
  intro X hP hw hK hc i pins s σ H E I hf st hg
  subst hP hw hK
  obtain⟨xs,x,hq,hx⟩:=hg
  obtain⟨its,rv,p,hz⟩:=I.list hq
  obtain⟨u,hu,ru⟩:=rv.get hx
  obtain⟨f0,f1,f2,f3,f4,f5⟩:=hf it (by simp)
  refine wpAny_pyNext_list_item st p.isList (x:=u) (by simpa using hu) λh' st' sb=> ?_
  have I1:Inv X pins σ H {s with heap:=h'}:=I.turned (t':=s.toks) (λb o hb e=>(sb.2 b hb).trans e) f0 f1 f3 f4 f5
  obtain⟨o,e,c,d⟩:=id st'
  exact⟨u,rfl,go_of (s:={s with heap:=h'}) e c d (by decide) ⟨x,H,I1,ru,⟨rfl,λys hy=>by rw[I.list_inj hy hq];exact hx⟩,st',λb hb=>(hf b hb).1⟩⟩
 done:=by
  intro X hP hw hK hc i pins s σ H E I hf st hg
  subst hP hw hK
  obtain⟨xs,hq,hx⟩:=hg
  obtain⟨its,rv,p,hz⟩:=I.list hq
  obtain⟨f0,f1,f2,f3,f4,f5⟩:=hf it (by simp)
  have hl:=rv.length
  exact wpAny_pyNext_list_end (I.ok.hd hc) st p.isList (by simp;omega) λh' eb=>⟨rfl,I.turned (t':=s.toks) (λb o hb e=>eb b o hb e) f0 f1 f3 f4 f5⟩
 self:=λ_ _ _ _ _ st h=>wpAny_pyIter_listiter st h
theorem turn_tuple{P:Program}{w:World}{K:PySem.W.Frag}{tg:Expr}(a it:Addr):Turn P w K tg (Itt K a) [it] it (λi h=>h.IsTupleIter it a i) where
 mem:=by simp
 obj:=λi h st b hb=>by
  have e:b=it:=by simpa using hb
  subst e
  obtain⟨o,e,c,d⟩:=st
  exact⟨o,e,λv z=>by rw[d] at z;cases z⟩
 keep:=λi h h' st k=>st.at λo e=>k it (by simp) o e
 item:=by
  intro X hP hw hK hc i pins s σ H E I hf st hg
  subst hP hw hK
  obtain⟨xs,x,hq,hx⟩:=hg
  obtain⟨its,rv,p,hz⟩:=I.tuple hq
  obtain⟨u,hu,ru⟩:=rv.get hx
  obtain⟨f0,f1,f2,f3,f4,f5⟩:=hf it (by simp)
  refine wpAny_pyNext_tuple_item st (show s.heap.IsTuple a its.toArray from p) (x:=u) (by simpa using hu) λh' st' sb=> ?_
  have I1:Inv X pins σ H {s with heap:=h'}:=I.turned (t':=s.toks) (λb o hb e=>(sb.2 b hb).trans e) f0 f1 f3 f4 f5
  obtain⟨o,e,c,d⟩:=id st'
  exact⟨u,rfl,go_of (s:={s with heap:=h'}) e c d (by decide) ⟨x,H,I1,ru,⟨rfl,λys hy=>by rw[I.tuple_inj hy hq];exact hx⟩,st',λb hb=>(hf b hb).1⟩⟩
 done:=by
  intro X hP hw hK hc i pins s σ H E I hf st hg
  subst hP hw hK
  obtain⟨xs,hq,hx⟩:=hg
  obtain⟨its,rv,p,hz⟩:=I.tuple hq
  obtain⟨f0,f1,f2,f3,f4,f5⟩:=hf it (by simp)
  have hl:=rv.length
  exact wpAny_pyNext_tuple_end (I.ok.hd hc) st (show s.heap.IsTuple a its.toArray from p) (by simp;omega) λh' eb=>⟨rfl,I.turned (t':=s.toks) (λb o hb e=>eb b o hb e) f0 f1 f3 f4 f5⟩
 self:=λ_ _ _ _ _ st h=>wpAny_pyIter_tupleiter st h
theorem turn_range{P:Program}{w:World}{K:PySem.W.Frag}{tg:Expr}(it:Addr)(lo:Int)(n:Nat):Turn P w K tg (Itr lo n) [it] it (λi h=>IsRangeIter h it (lo+(i:Nat)*1) ((n:Int) - (i:Nat)) 1) where
 mem:=by simp
 obj:=λi h st b hb=>by
  have e:b=it:=by simpa using hb
  subst e
  exact⟨_,st,λv z=>by
   have z':Data.fields _=Data.cell v:=z
   cases z'⟩
 keep:=λi h h' st k=>k it (by simp) _ st
 item:=by
  intro X hP hw hK hc i pins s σ H E I hf st hg
  subst hP hw hK
  obtain⟨f0,f1,f2,f3,f4,f5⟩:=hf it (by simp)
  have W:=Walks.range (prog:=X.prog) (w:=X.w) (I.ok.hd hc) it lo 1 n
  refine W.item i s _ _ hg st λv h' tk hv st' kk=> ?_
  obtain⟨t,rfl⟩:=hv
  have I1:Inv X pins σ H {s with heap:=h',toks:=tk}:=I.turned (λb o hb e=>kk b o (by simpa using hb) e) f0 f1 f3 f4 f5
  refine⟨_,rfl,go_of (s:={s with heap:=h',toks:=tk}) (n:="range_iterator") st' rfl rfl (by decide) ⟨.int (lo+i),H,I1,⟨t,?_⟩,⟨rfl,rfl⟩,st',λb hb=>(hf b hb).1⟩⟩
  rw[Int.mul_one]
 done:=by
  intro X hP hw hK hc i pins s σ H E I hf st hg
  subst hP hw hK
  obtain⟨f0,f1,f2,f3,f4,f5⟩:=hf it (by simp)
  exact wpAny_pyNext_range_end (I.ok.hd hc) st (by have:n≤i:=hg;omega) λh' eb=>⟨rfl,I.turned (t':=s.toks) (λb o hb e=>eb b o hb e) f0 f1 f3 f4 f5⟩
 self:=λ_ _ _ _ _ st h=>wpAny_pyIter_rangeiter st h
end L2
namespace L2
open PySem PySem.Spec PyProof.Rows
section
variable{X:Cx}{tg:Expr}
theorem range_it{pins:List (Addr×Obj)}{σ:St}{H:Hp}{s:Shared}{R:It->Hp->Prop}{E:Value->Shared->Prop}{lo hi:Int}{t u v:Tok}{tk:Nat}(I:Inv X pins σ H s)(h1: -(2 ^ 62)≤lo)(h2:lo<2 ^ 62)(h3: -(2 ^ 62)≤hi)(h4:hi<2 ^ 62)
  (q:R (Itr lo (hi - lo).toNat) H):wpAny (model X.prog X.w) X.A (pyIter (.ref s.heap.objs.size)) (PIE X pins σ tg R) E {s with heap:=s.heap.push {cls:= .type "range",data:= .fields #[.int lo t,.int hi u,.int 1 v]},toks:=tk}:=by
 refine wpAny_pyIter_range (IsRange.new ..) (small_one h1 h2 h3 h4) ?_
 have I1:Inv X pins σ H {s with heap:=s.heap.push {cls:= .type "range",data:= .fields #[.int lo t,.int hi u,.int 1 v]},toks:=tk}:=I.kept λb o e=>Heap.get?_push_of_some _ e
 refine⟨(s.heap.push {cls:= .type "range",data:= .fields #[.int lo t,.int hi u,.int 1 v]}).objs.size,[(s.heap.push {cls:= .type "range",data:= .fields #[.int lo t,.int hi u,.int 1 v]}).objs.size],_,_,H,rfl,
  I1.kept (t':=tk) λb o e=>Heap.get?_push_of_some _ e,turn_range _ lo (hi - lo).toNat,?_,λb hb=> ?_,q⟩
 .have e1:lo+((0:Nat):Int)*1=lo:=by simp
  have e2:(((hi - lo).toNat:Nat):Int) - ((0:Nat):Int)=Builtin.Range.rangeSize lo hi 1:=by rw[rangeSize_one];split<;>omega
  show IsRangeIter _ _ (lo+((0:Nat):Int)*1) ((((hi - lo).toNat:Nat):Int) - ((0:Nat):Int)) 1
  rw[e1,e2]
  exact Heap.get?_push_size _ rfl
 .have e:b=(s.heap.push {cls:= .type "range",data:= .fields #[.int lo t,.int hi u,.int 1 v]}).objs.size:=by simpa using hb
  subst e
  exact I1.fpOk (Nat.le_refl _) (I1.hok.fresh (Nat.le_refl _))
def iRng1(ta:TA):TI:=λσ H R=>ta σ H λvs H1=>∃j:Int,vs=[.int j]∧-(2 ^ 62)≤j∧j<2 ^ 62∧R (Itr 0 j.toNat) H1
theorem pi_range1{a:Expr}{ta:TA}{p pos:Pos}(hg:Gl X "range")(hm:X.mg "range" =none)(ha:PA X [a] ta)(hs:starEach [a] X.env=[(false,eval a X.env)]:=by rfl):PI X tg (.Call (.Name "range" p) [a] [] pos) (iRng1 ta):=by
 intro pins s σ H R I h
 refine Call_ (ld_blt I hg hm boot_range (PyProof.Rows.callWith_type1 (thn (ha pos pins s σ H _ I h) λus s1 ⟨vs,H1,I1,r1,q1⟩=> ?_) hs rfl))
 obtain⟨j,e,q1,q2,q⟩:=q1
 subst e
 cases r1 with
 |cons r rr=>
  cases rr
  obtain⟨t,rfl⟩:=r
  exact call_range_1 (range_it I1 (by omega) (by omega) q1 q2 (by simpa using q))
def tFor(wi:TI)(g:TG)(tb:TS):TS:=λD σ H=>wi σ H λJ H1=>∃W:Nat->Nat->St->Hp->Prop,(∃m,W 0 m σ H1)∧∀i m σ H,W i m σ H->
 (J.stop i H∧D.nx σ H)∨(J.go i H∧∃N:St->Hp->Prop,(∀σ' H',N σ' H'->∃m',m'<m∧W (i+1) m' σ' H')∧∀x H',J.yld i H x H'->g x σ H' λσ2 H2=>tb {D with nx:=N,ct:=N,bk:=D.nx} σ2 H2)
def pinsAt(fp:List Addr)(h:Heap):List (Addr×Obj):=fp.filterMap λb=>(h.get? b).map λo=>(b,o)
theorem mem_pinsAt{fp:List Addr}{h:Heap}{b:Addr}{o:Obj}(hb:b∈fp)(e:h.get? b=some o):(b,o)∈pinsAt fp h:=List.mem_filterMap.mpr ⟨b,hb,by rw[e];rfl⟩
theorem of_pinsAt{fp:List Addr}{h:Heap}{p:Addr×Obj}(hp:p∈pinsAt fp h):p.1∈fp∧h.get? p.1=some p.2:=by
 obtain⟨b,hb,e⟩:=List.mem_filterMap.mp hp
 cases q:h.get? b with
 |none=>rw[q] at e;cases e
 |some o=>
  rw[q] at e
  have e':(b,o)=p:=Option.some.inj e
  subst e'
  exact⟨hb,q⟩
theorem Inv.pinned{pins:List (Addr×Obj)}{σ:St}{H:Hp}{s:Shared}{fp:List Addr}(I:Inv X pins σ H s)(hf:∀b∈fp,FpOk X pins H b)(ho:∀b∈fp,∃o,s.heap.get? b=some o∧∀v,o.data≠ .cell v):Inv X (pins++pinsAt fp s.heap) σ H s:=
 I.pins_of λp hp=>(List.mem_append.mp hp).elim (λz=>I.pin p (List.mem_append_right _ z)) λz=>by
  obtain⟨hb,e⟩:=of_pinsAt z
  obtain⟨f0,f1,f2,_⟩:=hf p.1 hb
  obtain⟨o,e',d⟩:=ho p.1 hb
  rw[e] at e';cases e'
  exact⟨e,f0,f1,f2,d⟩
theorem Inv.unpinned{pins pl:List (Addr×Obj)}{σ:St}{H:Hp}{s:Shared}(I:Inv X (pins++pl) σ H s):Inv X pins σ H s:=I.pins_of λp hp=>I.pin p (List.mem_append_right _ (List.mem_append_left _ hp))
theorem ps_for{iter:Expr}{body:List Stmt}{wi:TI}{g:TG}{tb:TS}{pos:Pos}(hp:PassesOwn (model X.prog X.w) X.A X.env X.xe)(hc:X.calm=true)(hi:PI X tg iter wi)(hg:PG X tg g)(hb:PSs X body tb)
  (hs:∀x,foldedSetIterable iter X.env x=pure x:=by intro _;rfl):PS X (.For tg iter body [] pos) (tFor wi g tb):=by
 intro pins s σ H D I h
 refine wpAny_For (thn (hi pins s σ H _ I h) λv s1 h1=>thn h1 λitv s2 h2=> ?_) hs
 obtain⟨it,fp,tn,J,H2,e,I2,T,st2,f2,W,⟨m0,w0⟩,turn⟩:=h2
 subst e
 have stat:∀{H':Hp},(∀b∈fp,H' b=none)->∀b∈fp,FpOk X pins H' b:=λhn b hb=>⟨hn b hb,(f2 b hb).2⟩
 refine codeAny_forLoop_any (λn s'=>∃i σ' H',Inv X pins σ' H' s'∧tn i s'.heap∧(∀b∈fp,H' b=none)∧W i n σ' H') ?_ m0 ⟨0,σ,H2,I2,st2,λb hb=>(f2 b hb).1,w0⟩
 rintro n s3 ⟨i,σ3,H3,I3,st3,fr3,w3⟩
 rcases turn i n σ3 H3 w3 with⟨stop,qn⟩|⟨go,N,hN,step⟩
 .refine wpAny_passesOwn hp (thn (T.done X rfl rfl rfl hc i pins s3 σ3 H3 X.xe I3 (stat fr3) st3 stop) λr s4 ⟨hr,I4⟩=> ?_)
  subst hr
  exact wpAny_execs_nil ⟨σ3,H3,I4,qn⟩
 .refine wpAny_passesOwn hp (thn (T.item X rfl rfl rfl hc i pins s3 σ3 H3 X.xe I3 (stat fr3) st3 go) λr s4 ⟨u,hr,h4⟩=> ?_)
  subst hr
  refine wpAny_passesOwn hp (thn h4 λ_ s5 ⟨x,H5,I5,r5,y5,st5,fr5⟩=> ?_)
  have I5':=I5.pinned (stat fr5) (T.obj _ _ st5)
  refine wpAny_passesOwn hp (thn (hg _ s5 σ3 H5 x u _ I5' r5 (step x H5 y5)) λ_ s6 ⟨σ6,H6,I6,q6⟩=> ?_)
  refine wpAny_passesOwn hp (thn (hb _ s6 σ6 H6 _ I6 q6) λf s7 q7=> ?_)
  have again:∀{σ7:St} {H7:Hp},Inv X (pins++pinsAt fp s5.heap) σ7 H7 s7->N σ7 H7->∃m,m<n∧∃i σ' H',Inv X pins σ' H' s7∧tn i s7.heap∧(∀b∈fp,H' b=none)∧W i m σ' H':=λ {σ7 H7} I7 n7=>by
   obtain⟨m',hm,w7⟩:=hN σ7 H7 n7
   refine⟨m',hm,i+1,σ7,H7,I7.unpinned,T.keep _ _ _ st5 λb hb o e=>(I7.pin (b,o) (List.mem_append_right _ (List.mem_append_right _ (mem_pinsAt hb e)))).1,λb hb=> ?_,w7⟩
   obtain⟨o,e,d⟩:=T.obj _ _ st5 b hb
   exact(I7.pin (b,o) (List.mem_append_right _ (List.mem_append_right _ (mem_pinsAt hb e)))).2.1
  cases f with
  |next=>obtain⟨σ7,H7,I7,n7⟩:=q7;exact again I7 n7
  |cont=>obtain⟨σ7,H7,I7,n7⟩:=q7;exact again I7 n7
  |brk=>obtain⟨σ7,H7,I7,q7⟩:=q7;exact⟨σ7,H7,I7.unpinned,q7⟩
  |ret v=>obtain⟨x7,σ7,H7,I7,r7,q7⟩:=q7;exact⟨x7,σ7,H7,I7.unpinned,r7,q7⟩
end
end L2
namespace L2
open PySem PySem.Spec PyProof.Rows
abbrev R2:=V->V->Hp->VK->Prop
def OpR(X:Cx)(f:Value->Value->Sem Value)(r:R2):Prop:=
 ∀(pins:List (Addr×Obj)) (s:Shared) (σ:St) (H:Hp) (x y:V) (v u:Value) (Q:VK),Inv X pins σ H s->RelV x v->RelV y u->r x y H Q->
  wpAny (model X.prog X.w) X.A (f v u) (EP X pins σ Q) X.xe s
def CallR(X:Cx)(f:Value)(r:List V->Hp->VK->Prop):Prop:=
 ∀(pins:List (Addr×Obj)) (s:Shared) (σ:St) (H:Hp) (xs:List V) (us:List Value) (Q:VK),Inv X pins σ H s->Vals xs us->r xs H Q->
  wpAny (model X.prog X.w) X.A (call f us) (EP X pins σ Q) X.xe s
def tOp(r:R2)(ta tb:TE):TE:=λσ H Q=>ta σ H λx H1=>tb σ H1 λy H2=>r x y H2 Q
def rI(C:Int->Int->Prop)(g:Int->Int->V):R2:=λx y H Q=>∃i j,x= .int i∧y= .int j∧C i j∧Q (g i j) H
def rI0(g:Int->Int->V):R2:=λx y H Q=>∃i j,x= .int i∧y= .int j∧Q (g i j) H
section
variable{X:Cx}{a b c:Expr}{ta tb tc:TE}{pos:Pos}
theorem binT(ha:PE X a ta)(hb:PE X b tb){pins:List (Addr×Obj)}{s:Shared}{σ:St}{H:Hp}{R:V->V->Hp->Prop}(I:Inv X pins σ H s)
  (h:ta σ H λx H1=>tb σ H1 λy H2=>R x y H2){Q:Value->Shared->Prop}{f:Value->Value->Sem Value}
  (hf:∀v u s2 x y H2,Inv X pins σ H2 s2->RelV x v->RelV y u->R x y H2->wpAny (model X.prog X.w) X.A (f v u) Q X.xe s2):
  wpAny (model X.prog X.w) X.A (eval a X.env) (λv s₁=>wpAny (model X.prog X.w) X.A (eval b X.env) (λu s₂=>wpAny (model X.prog X.w) X.A (f v u) Q X.xe s₂) X.xe s₁) X.xe s:=by
 refine thn (ha pins s σ H _ I h) λv s1 ⟨x,H1,I1,r1,q1⟩=> ?_
 refine thn (hb pins s1 σ H1 _ I1 q1) λu s2 ⟨y,H2,I2,r2,q2⟩=> ?_
 exact hf v u s2 x y H2 I2 r1 r2 q2
theorem pe_op{op:Operator}{r:R2}(ho:OpR X (binaryOp op) r)(ha:PE X a ta)(hb:PE X b tb):PE X (.BinOp a op b pos) (tOp r ta tb):=by
 intro pins s σ H Q I h
 exact wpAny_BinOp (binT ha hb I h λv u s2 x y H2 I2 rx ry q=>ho pins s2 σ H2 x y v u Q I2 rx ry q)
theorem opI{f:Value->Value->Sem Value}{C:Int->Int->Prop}{g:Int->Int->Int}
  (rule:∀(i j:Int) (t u:Tok) (s:Shared) (Q:Value->Shared->Prop) (E:Value->Shared->Prop),C i j->Q (.int (g i j) s.toks) {s with toks:=s.toks+1}->wpAny (model X.prog X.w) X.A (f (.int i t) (.int j u)) Q E s):
  OpR X f (rI C λi j=> .int (g i j)):=by
 intro pins s σ H x y v u Q I rx ry h
 obtain⟨i,j,rfl,rfl,hc,q⟩:=h
 obtain⟨t,rfl⟩:=rx
 obtain⟨t',rfl⟩:=ry
 exact rule i j t t' s _ _ hc ⟨.int (g i j),H,I.tok _,⟨_,rfl⟩,q⟩
theorem opI0{f:Value->Value->Sem Value}{g:Int->Int->Int}
  (rule:∀(i j:Int) (t u:Tok) (s:Shared) (Q:Value->Shared->Prop) (E:Value->Shared->Prop),Q (.int (g i j) s.toks) {s with toks:=s.toks+1}->wpAny (model X.prog X.w) X.A (f (.int i t) (.int j u)) Q E s):
  OpR X f (rI0 λi j=> .int (g i j)):=by
 intro pins s σ H x y v u Q I rx ry h
 obtain⟨i,j,rfl,rfl,q⟩:=h
 obtain⟨t,rfl⟩:=rx
 obtain⟨t',rfl⟩:=ry
 exact rule i j t t' s _ _ ⟨.int (g i j),H,I.tok _,⟨_,rfl⟩,q⟩
theorem opB0{f:Value->Value->Sem Value}{g:Int->Int->Bool}
  (rule:∀(i j:Int) (t u:Tok) (s:Shared) (Q:Value->Shared->Prop) (E:Value->Shared->Prop),Q (.bool (g i j)) s->wpAny (model X.prog X.w) X.A (f (.int i t) (.int j u)) Q E s):
  OpR X f (rI0 λi j=> .bl (g i j)):=by
 intro pins s σ H x y v u Q I rx ry h
 obtain⟨i,j,rfl,rfl,q⟩:=h
 obtain⟨t,rfl⟩:=rx
 obtain⟨t',rfl⟩:=ry
 exact rule i j t t' s _ _ ⟨.bl (g i j),H,I,rfl,q⟩
def CPow(i j:Int):Prop:=0≤j∧j≤1000000∧i.natAbs<2 ^ 64
def CMul(i j:Int):Prop:=(-(2 ^ 64)<i∧i<2 ^ 64)∨(-(2 ^ 64)<j∧j<2 ^ 64)
theorem CMul.ok{i j:Int}(h:CMul i j):IntMulOk i j:=by
 rcases h with⟨h1,h2⟩|⟨h1,h2⟩
 .exact .of_left (intBits_le_64 h1 h2)
 .exact .of_right (intBits_le_64 h1 h2)
theorem op_add:OpR X (binaryOp .Add) (rI0 λi j=> .int (i+j)):=opI0 λ_ _ _ _ _ _ _ q=>add_int q
theorem op_sub:OpR X (binaryOp .Sub) (rI0 λi j=> .int (i - j)):=opI0 λ_ _ _ _ _ _ _ q=>sub_int q
theorem op_mul:OpR X (binaryOp .Mult) (rI CMul λi j=> .int (i*j)):=opI λ_ _ _ _ _ _ _ hc q=>mul_int q hc.ok
theorem op_mod:OpR X (binaryOp .Mod) (rI (λ_ j=>0<j) λi j=> .int (i%j)):=opI λi j _ _ _ _ _ hc q=>by
 have h1:(0:Int)<j:=hc
 exact mod_int' (by omega) (by rw[Int.fmod_eq_emod_of_nonneg i (by omega)];exact q)
theorem op_pow:OpR X (binaryOp .Pow) (rI CPow λi j=> .int (i ^ j.toNat)):=opI λ_ _ _ _ _ _ _ hc q=>pow_int_small hc.1 hc.2.1 hc.2.2 q
end
def scal:V->V->Bool
 | .non,.non=>true| .non,.int _=>true| .int _,.non=>true| .non,.bl _=>true| .bl _,.non=>true| .non,.str _=>true| .str _,.non=>true
 | .int _,.int _=>true| .bl _,.bl _=>true| .str _,.str _=>true| .byt _,.byt _=>true
 | .int _,.str _=>true| .str _,.int _=>true| .bl _,.str _=>true| .str _,.bl _=>true
 |_,_=>false
def rEq:R2:=λx y H Q=>scal x y=true∧Q (.bl (decide (x=y))) H
def rNe:R2:=λx y H Q=>scal x y=true∧Q (.bl (!decide (x=y))) H
theorem dec_int{i j:Int}:decide (V.int i=V.int j)=(i==j):=by
 rw[Bool.eq_iff_iff]
 simp
theorem dec_bl{i j:Bool}:decide (V.bl i=V.bl j)=(i==j):=by
 rw[Bool.eq_iff_iff]
 simp
theorem dec_str{i j:Str}:decide (V.str i=V.str j)=(i==j):=by
 rw[Bool.eq_iff_iff]
 simp
theorem dec_byt{i j:Array UInt8}:decide (V.byt i=V.byt j)=(i.toList==j.toList):=by
 rw[Bool.eq_iff_iff]
 cases i
 cases j
 simp
section
variable{X:Cx}{a b c:Expr}{ta tb tc:TE}{pos:Pos}
theorem fin_bl{pins:List (Addr×Obj)}{σ:St}{H:Hp}{s:Shared}{Q:VK}{k k':Bool}(I:Inv X pins σ H s)(q:Q (.bl k) H)(e:k=k'):EP X pins σ Q (.bool k') s:=by
 subst e
 exact⟨.bl k,H,I,rfl,q⟩
theorem op_eq:OpR X (compareOp .Eq) rEq:=by
 intro pins s σ H x y v u Q I rx ry h
 obtain⟨hs,q⟩:=h
 cases x with
 |non=>
  cases rx
  cases y with
  |non=>cases ry;exact PySem.EqNone.eq_none_none (fin_bl I q (by simp))
  |bl j=>cases ry;exact PySem.EqNone.eq_none_bool (fin_bl I q (by simp))
  |int j=>obtain⟨t',rfl⟩:=ry;exact PySem.EqNone.eq_none_int (fin_bl I q (by simp))
  |str j=>obtain⟨t',rfl⟩:=ry;exact PySem.EqNone.eq_none_str (fin_bl I q (by simp))
  |_=>exact absurd (show false=true from hs) Bool.false_ne_true
 |bl i=>
  cases rx
  cases y with
  |non=>cases ry;exact PySem.EqNone.eq_bool_none (fin_bl I q (by simp))
  |bl j=>cases ry;exact eq_bool (fin_bl I q dec_bl)
  |str j=>obtain⟨t',rfl⟩:=ry;exact PySem.EqMixed.eq_bool_str (fin_bl I q (by simp))
  |_=>exact absurd (show false=true from hs) Bool.false_ne_true
 |int i=>
  obtain⟨t,rfl⟩:=rx
  cases y with
  |non=>cases ry;exact PySem.EqNone.eq_int_none (fin_bl I q (by simp))
  |int j=>obtain⟨t',rfl⟩:=ry;exact eq_int (fin_bl I q dec_int)
  |str j=>obtain⟨t',rfl⟩:=ry;exact PySem.EqMixed.eq_int_str (fin_bl I q (by simp))
  |_=>exact absurd (show false=true from hs) Bool.false_ne_true
 |str i=>
  obtain⟨t,rfl⟩:=rx
  cases y with
  |non=>cases ry;exact PySem.EqNone.eq_str_none (fin_bl I q (by simp))
  |bl j=>cases ry;exact PySem.EqMixed.eq_str_bool (fin_bl I q (by simp))
  |int j=>obtain⟨t',rfl⟩:=ry;exact PySem.EqMixed.eq_str_int (fin_bl I q (by simp))
  |str j=>obtain⟨t',rfl⟩:=ry;exact eq_str (fin_bl I q dec_str)
  |_=>exact absurd (show false=true from hs) Bool.false_ne_true
 |byt i=>
  obtain⟨t,rfl⟩:=rx
  cases y with
  |byt j=>obtain⟨t',rfl⟩:=ry;exact PySem.W.eq_bytes (fin_bl I q dec_byt)
  |_=>exact absurd (show false=true from hs) Bool.false_ne_true
 |_=>cases y<;>exact absurd (show false=true from hs) Bool.false_ne_true
theorem op_ne:OpR X (compareOp .NotEq) rNe:=by
 intro pins s σ H x y v u Q I rx ry h
 obtain⟨hs,q⟩:=h
 cases x with
 |non=>
  cases rx
  cases y with
  |non=>cases ry;exact PySem.EqNone.ne_none_none (fin_bl I q (by simp))
  |bl j=>cases ry;exact PySem.EqNone.ne_none_bool (fin_bl I q (by simp))
  |int j=>obtain⟨t',rfl⟩:=ry;exact PySem.EqNone.ne_none_int (fin_bl I q (by simp))
  |str j=>obtain⟨t',rfl⟩:=ry;exact PySem.EqNone.ne_none_str (fin_bl I q (by simp))
  |_=>exact absurd (show false=true from hs) Bool.false_ne_true
 |bl i=>
  cases rx
  cases y with
  |non=>cases ry;exact PySem.EqNone.ne_bool_none (fin_bl I q (by simp))
  |bl j=>cases ry;exact ne_bool (fin_bl I q (congrArg not dec_bl))
  |str j=>obtain⟨t',rfl⟩:=ry;exact PySem.EqMixed.ne_bool_str (fin_bl I q (by simp))
  |_=>exact absurd (show false=true from hs) Bool.false_ne_true
 |int i=>
  obtain⟨t,rfl⟩:=rx
  cases y with
  |non=>cases ry;exact PySem.EqNone.ne_int_none (fin_bl I q (by simp))
  |int j=>obtain⟨t',rfl⟩:=ry;exact ne_int (fin_bl I q (congrArg not dec_int))
  |str j=>obtain⟨t',rfl⟩:=ry;exact PySem.EqMixed.ne_int_str (fin_bl I q (by simp))
  |_=>exact absurd (show false=true from hs) Bool.false_ne_true
 |str i=>
  obtain⟨t,rfl⟩:=rx
  cases y with
  |non=>cases ry;exact PySem.EqNone.ne_str_none (fin_bl I q (by simp))
  |bl j=>cases ry;exact PySem.EqMixed.ne_str_bool (fin_bl I q (by simp))
  |int j=>obtain⟨t',rfl⟩:=ry;exact PySem.EqMixed.ne_str_int (fin_bl I q (by simp))
  |str j=>obtain⟨t',rfl⟩:=ry;exact ne_str (fin_bl I q (congrArg not dec_str))
  |_=>exact absurd (show false=true from hs) Bool.false_ne_true
 |byt i=>
  obtain⟨t,rfl⟩:=rx
  cases y with
  |byt j=>obtain⟨t',rfl⟩:=ry;exact PySem.W.ne_bytes (fin_bl I q (congrArg not dec_byt))
  |_=>exact absurd (show false=true from hs) Bool.false_ne_true
 |_=>cases y<;>exact absurd (show false=true from hs) Bool.false_ne_true
theorem op_lt:OpR X (compareOp .Lt) (rI0 λi j=> .bl (decide (i<j))):=opB0 λ_ _ _ _ _ _ _ q=>lt_int q
theorem op_le:OpR X (compareOp .LtE) (rI0 λi j=> .bl (decide (i≤j))):=opB0 λ_ _ _ _ _ _ _ q=>le_int q
theorem op_gt:OpR X (compareOp .Gt) (rI0 λi j=> .bl (decide (j<i))):=opB0 λ_ _ _ _ _ _ _ q=>gt_int q
theorem op_lt_str:OpR X (compareOp .Lt) (λx y H Q=>∃i j,x= .str i∧y= .str j∧Q (.bl (decide (i.cps.toList<j.cps.toList))) H):=by
 intro pins s σ H x y v u Q I rx ry h
 obtain⟨i,j,rfl,rfl,q⟩:=h
 obtain⟨t,rfl⟩:=rx
 obtain⟨t',rfl⟩:=ry
 exact lt_str (fin_bl I q rfl)
theorem op_notN:OpR X (compareOp .IsNot) (λx y H Q=>y= .non∧Q (.bl (!decide (x= .non))) H):=by
 intro pins s σ H x y v u Q I rx ry h
 obtain⟨rfl,q⟩:=h
 cases ry
 refine isnot_none_gen (fin_bl I q ?_)
 cases x<;>first
  |(cases rx;rfl)
  |(obtain⟨t,rfl⟩:=rx;rfl)
theorem OpR.or{f:Value->Value->Sem Value}{r r':R2}(h:OpR X f r)(h':OpR X f r'):OpR X f (λx y H Q=>r x y H Q∨r' x y H Q):=by
 intro pins s σ H x y v u Q I rx ry q
 rcases q with q|q
 .exact h pins s σ H x y v u Q I rx ry q
 .exact h' pins s σ H x y v u Q I rx ry q
theorem nomark(b:Expr){op:CmpOp}(h:op≠ .In:=by decide)(h2:op≠ .NotIn:=by decide):behindInMarks op b=false:=by
 have e1:(op==CmpOp.In)=false:=by cases op<;>first|rfl|exact absurd rfl h
 have e2:(op==CmpOp.NotIn)=false:=by cases op<;>first|rfl|exact absurd rfl h2
 cases b<;>simp[behindInMarks,e1,e2]
theorem pe_cmpR{op:CmpOp}{r:R2}(ho:OpR X (compareOp op) r)(ha:PE X a ta)(hb:PE X b tb)(hm:behindInMarks op b=false):PE X (.Compare a [op] [b] pos) (tOp r ta tb):=by
 intro pins s σ H Q I h
 exact wpAny_Compare1 (binT ha hb I h λv u s2 x y H2 I2 rx ry q=>ho pins s2 σ H2 x y v u Q I2 rx ry q) hm
def tTest(t:TE):TT:=λσ H Q=>t σ H λx H'=>∃k,x= .bl k∧Q k H'
theorem pt_cmpR{op:CmpOp}{r:R2}(ho:OpR X (compareOp op) r)(ha:PE X a ta)(hb:PE X b tb)(hm:behindInMarks op b=false):PT X (.Compare a [op] [b] pos) (tTest (tOp r ta tb)):=by
 intro pins s σ H Q I h
 refine wpAny_isTrue_Compare1 (thn (ha pins s σ H _ I h) λv s1 ⟨x,H1,I1,r1,q1⟩=>thn (hb pins s1 σ H1 _ I1 q1) λu s2 ⟨y,H2,I2,r2,q2⟩=>
  thn (ho pins s2 σ H2 x y v u _ I2 r1 r2 q2) λc s3 ⟨z,H3,I3,r3,k,e,q3⟩=> ?_) hm
 subst e
 cases r3
 exact wpAny_truthy_bool ⟨H3,I3,q3⟩
def tChain(r r':R2)(ta tb tc:TE):TE:=λσ H Q=>ta σ H λx H1=>tb σ H1 λy H2=>r x y H2 λz H3=>∃k,z= .bl k∧
 (if k=true then tc σ H3 λw' H4=>r' y w' H4 Q else Q (.bl false) H3)
theorem pe_chain{op op':CmpOp}{r r':R2}(ho:OpR X (compareOp op) r)(ho':OpR X (compareOp op') r')(ha:PE X a ta)(hb:PE X b tb)(hc:PE X c tc)
  (hm:lastMarks [op,op'] [b,c]=false:=by with_unfolding_all rfl):PE X (.Compare a [op,op'] [b,c] pos) (tChain r r' ta tb tc):=by
 intro pins s σ H Q I h
 refine Compare_chain (thn (ha pins s σ H _ I h) λv s1 ⟨x,H1,I1,r1,q1⟩=>chain_link (thn (hb pins s1 σ H1 _ I1 q1) λu s2 ⟨y,H2,I2,r2,q2⟩=>
  thn (ho pins s2 σ H2 x y v u _ I2 r1 r2 q2) λd s3 ⟨z,H3,I3,r3,k,e,q3⟩=> ?_)) hm
 subst e
 cases r3
 refine wpAny_truthy_bool ?_
 cases k with
 |false=>exact ite_ff ⟨.bl false,H3,I3,rfl,q3⟩
 |true=>exact ite_tt (chain_last (thn (hc pins s3 σ H3 _ I3 q3) λw' s4 ⟨z',H4,I4,r4,q4⟩=>ho' pins s4 σ H4 y z' u w' Q I4 r2 r4 q4))
theorem pt_chain{op op':CmpOp}{r r':R2}(ho:OpR X (compareOp op) r)(ho':OpR X (compareOp op') r')(ha:PE X a ta)(hb:PE X b tb)(hc:PE X c tc)
  (hm:lastMarks [op,op'] [b,c]=false:=by with_unfolding_all rfl):PT X (.Compare a [op,op'] [b,c] pos) (tTest (tChain r r' ta tb tc)):=by
 intro pins s σ H Q I h
 refine isTrue_chain (thn (ha pins s σ H _ I h) λv s1 ⟨x,H1,I1,r1,q1⟩=>test_link (thn (hb pins s1 σ H1 _ I1 q1) λu s2 ⟨y,H2,I2,r2,q2⟩=>
  thn (ho pins s2 σ H2 x y v u _ I2 r1 r2 q2) λd s3 ⟨z,H3,I3,r3,k,e,q3⟩=> ?_)) hm
 subst e
 cases r3
 refine wpAny_truthy_bool ?_
 cases k with
 |false=>
  obtain⟨k',e',q'⟩:=q3
  cases e'
  exact ite_ff ⟨H3,I3,q'⟩
 |true=>
  refine ite_tt (test_last (thn (hc pins s3 σ H3 _ I3 q3) λw' s4 ⟨z',H4,I4,r4,q4⟩=>thn (ho' pins s4 σ H4 y z' u w' _ I4 r2 r4 q4) λd' s5 ⟨z2,H5,I5,r5,k2,e2,q5⟩=> ?_))
  subst e2
  cases r5
  exact wpAny_truthy_bool ⟨H5,I5,q5⟩
theorem isEmpty_kv{κ:Type}{kvs:List (κ×V)}{vs:List (κ×Value)}(r:KV kvs vs):(!vs.isEmpty)= !kvs.isEmpty:=by
 cases r<;>rfl
theorem isEmpty_of{xs:List V}{its:List Value}(r:Vals xs its):(!its.toArray.isEmpty)= !xs.isEmpty:=by
 cases r<;>simp
theorem line63:(sizeLine:Nat)<2 ^ 63:=by rw[sizeLine_eq];decide
theorem op_add_str:OpR X (binaryOp .Add) (λx y H Q=>∃i j,x= .str i∧y= .str j∧i.length+j.length≤sizeLine∧Q (.str (i++j)) H):=by
 intro pins s σ H x y v u Q I rx ry h
 obtain⟨i,j,rfl,rfl,hz,q⟩:=h
 obtain⟨t,rfl⟩:=rx
 obtain⟨t',rfl⟩:=ry
 exact add_str (λt' tk=>⟨.str (i++j),H,I.tok _,⟨_,rfl⟩,q⟩) hz
theorem vals1{x:V}{us:List Value}(r:Vals [x] us):∃u,us=[u]∧RelV x u:=by
 cases r with
 |cons r1 r2=>cases r2;exact⟨_,rfl,r1⟩
theorem vals2{x y:V}{us:List Value}(r:Vals [x,y] us):∃u w',us=[u,w']∧RelV x u∧RelV y w':=by
 cases r with
 |cons r1 r2=>
  cases r2 with
  |cons r3 r4=>cases r4;exact⟨_,_,rfl,r1,r3⟩
theorem call_max2(hc:X.calm=true):CallR X (.builtin "max") (λxs H Q=>∃i j,xs=[.int i,.int j]∧Q (.int (if j>i then j else i)) H):=by
 intro pins s σ H xs us Q I r h
 obtain⟨i,j,rfl,q⟩:=h
 obtain⟨u,w',rfl,⟨t,rfl⟩,⟨t',rfl⟩⟩:=vals2 r
 refine max_two_ints (I.ok.hd hc) λh' tk k=>⟨_,H,I.kept k,?_,q⟩
 by_cases hj:j>i
 .rw[if_pos hj,if_pos hj];exact⟨_,rfl⟩
 .rw[if_neg hj,if_neg hj];exact⟨_,rfl⟩
end
end L2
namespace L2
open PySem PySem.Spec PyProof.Rows
structure ObjM(h:Heap)(x dx C:Addr)(mA:Str->Option Value):Prop where
 obj:h.get? x=some (PySem.W.instObj C dx)
 ns:h.Ns1 dx mA
 ne:dx≠x
theorem lookIn_ns{h:Heap}{dx:Addr}{mA:Str->Option Value}(n:h.Ns1 dx mA):∃od,h.get? dx=some od∧∀name,PySem.W.lookIn name od=some (mA name):=by
 obtain⟨o,es,ep,ho,hd,hk,_,hm⟩:=n
 refine⟨o,ho,λname=> ?_⟩
 have e:=hm name
 unfold nsFind findBy at e
 rw[←Array.find?_toList] at e
 unfold PySem.W.lookIn
 rw[hd]
 dsimp only
 split
 .rename_i y q
  rw[q] at e
  exact congrArg some e
 .rename_i q
  rw[q] at e
  have a:es.toList.any (·.refKey)=false:=by
   rw[List.any_eq_false]
   intro y hy
   obtain⟨z,t,hkey⟩:=hk y (Array.mem_toList_iff.mp hy)
   simp[DictEntry.refKey,hkey]
  have a':¬es.toList.any (·.refKey)=true:=by rw[a];exact Bool.false_ne_true
  rw[if_neg a']
  exact congrArg some e
theorem ObjM.look{h:Heap}{x dx C:Addr}{mA:Str->Option Value}(I:ObjM h x dx C mA):∃od,PySem.W.InstAt h x (PySem.W.instObj C dx) C (some od)∧∀name,PySem.W.lookIn name od=some (mA name):=
 let ⟨od,ho,hl⟩:=lookIn_ns I.ns
 ⟨od,⟨I.obj,rfl,rfl,ho⟩,hl⟩
section
variable{prog:Program}{w:World}{A:Around}{E:Value->Shared->Prop}{s:Shared}{K:PySem.W.Frag}{x dx C f:Addr}{mA:Str->Option Value}{name:Str}{v:Value}
end
theorem RelO.some_of{v:V}{o:Option Value}(r:RelO (some v) o):∃u,o=some u∧RelV v u:=by
 cases o with
 |none=>exact(show False from r).elim
 |some u=>exact⟨u,rfl,r⟩
section
variable{P:Program}{w:World}{H H':Hp}{h h':Heap}{a C dx:Addr}{fs fs':List (Str×V)}
theorem ins_get(hok:HOk P w H h)(e:H a=some (.ins C dx fs)):∃mA,ObjM h a dx C mA∧(∀f,RelO (fs.lookup f) (mA f))∧PySem.Within mA (fs.map (·.1))∧fs.length≤1000∧H dx=some (.own a):=by
 obtain⟨d,z,ne,ob,mA,n,r,q⟩:=(show ObjOk P w H h a (.ins C dx fs) from hok a _ e)
 exact⟨mA,⟨ob,n,ne⟩,r,q,z,d⟩
end
structure Cls(K:PySem.W.Frag)(C:Addr):Prop where
 pg:PySem.W.plainGet K C Str.empty=true
 hd:PySem.W.hasDictIn K C=true
 po:PySem.W.plainOver K C=true
 sa:PySem.W.findIn K (.ref C) "__setattr__" =some (some (.builtin "object.__setattr__"))
theorem Cls.get{K:PySem.W.Frag}{C:Addr}(c:Cls K C)(f:Str):PySem.W.plainGet K C f=true:=c.pg
section
variable{X:Cx}{pins:List (Addr×Obj)}{σ:St}{H:Hp}{s:Shared}{a C dx:Addr}{fs:List (Str×V)}{f:Str}{v:V}{A:Around}{E:Value->Shared->Prop}
end
section
variable{X:Cx}{o e value:Expr}{f:Str}{pos pos' tpos:Pos}{ta tv:TE}
end
section
variable{X:Cx}{pins:List (Addr×Obj)}{σ:St}{H:Hp}{s:Shared}{A:Around}{E:Value->Shared->Prop}{Q:Value->Shared->Prop}{c:Value}{b:Bool}
inductive TyOf(K:PySem.W.Frag)(H:Hp):V->Value->Prop where
 |non:TyOf K H .non (.type "NoneType")
 |bl (x:Bool):TyOf K H (.bl x) (.type "bool")
 |int (i:Int):TyOf K H (.int i) (.type "int")
 |str (x:Str):TyOf K H (.str x) (.type "str")
 |flt (x:UInt64):TyOf K H (.flt x) (.type "float")
 |lst {a:Addr} {xs:List V} (e:H a=some (.lst xs)):TyOf K H (.ref a) (.type "list")
 |frz {a:Addr} {o:Obj} {xs:List V} (e:H a=some (.frz o (.lst xs))):TyOf K H (.ref a) (.type "list")
 |tup {a:Addr} {xs:List V} (e:H a=some (.tup xs)):TyOf K H (.ref a) (.type "tuple")
 |dK {a:Addr} {kvs:List (Key×V)} (e:H a=some (.dK kvs)):TyOf K H (.ref a) (.type "dict")
 |dT {a:Addr} {kvs:List (List Key×V)} (e:H a=some (.dT kvs)):TyOf K H (.ref a) (.type "dict")
 |ins {a C dx:Addr} {fs:List (Str×V)} (e:H a=some (.ins C dx fs)) (cl:Cls K C) (ha:PySem.W.findIn K (.ref C) "__class__" =some (some (.builtin "object.__class__")))
  (hn:PySem.W.specialIn K (.builtin "object.__class__") "__get__" =some (some (.builtin "getset_descriptor.__get__"))) (htk:PySem.W.takesIn K (.builtin "object.__class__")=some true)
  (hm:PySem.W.mroIn K C (.type "object")=some true):TyOf K H (.ref a) (.ref C)
theorem isinst_ok{x:V}{u t:Value}(I:Inv X pins σ H s)(rx:RelV x u)(ty:TyOf X.K H x t)(e:PySem.W.kitOne X.K t c=some b)(h:∀tk,Q (.bool b) {s with toks:=tk}):
  wpAny (model X.prog X.w) A (call (.builtin "isinstance") [u,c]) Q E s:=by
 cases ty with
 |non=>cases (show u=Value.none from rx);exact PySem.W.kia_one PySem.W.kitx_none I.kIn True.intro e (λz=>nomatch z) h
 |bl y=>cases (show u=Value.bool y from rx);exact PySem.W.kia_one PySem.W.kitx_bool I.kIn True.intro e (λz=>nomatch z) h
 |int i=>obtain⟨t,q⟩:=(show ∃t,u=Value.int i t from rx);cases q;exact PySem.W.kia_one PySem.W.kitx_int I.kIn True.intro e (λz=>nomatch z) h
 |str y=>obtain⟨t,q⟩:=(show ∃t,u=Value.str y t from rx);cases q;exact PySem.W.kia_one PySem.W.kitx_str I.kIn True.intro e (λz=>nomatch z) h
 |flt y=>obtain⟨t,q⟩:=(show ∃t,u=Value.float y t from rx);cases q;exact PySem.W.kia_one PySem.W.kitx_float I.kIn True.intro e (λz=>nomatch z) h
 | @lst a xs ea=>
  cases (show u=Value.ref a from rx)
  obtain⟨_,_,n,_,h1⟩:=(show ObjOk X.prog X.w H s.heap a (.lst xs) from I.hok a _ ea)
  exact PySem.W.kia_one PySem.W.kitx_list I.kIn ⟨_,h1,rfl⟩ e (λz=>nomatch z) h
 | @frz a ob xs ea=>
  cases (show u=Value.ref a from rx)
  obtain⟨_,_,_,n,_,h1⟩:=(show ObjOk X.prog X.w H s.heap a (.frz ob (.lst xs)) from I.hok a _ ea)
  exact PySem.W.kia_one PySem.W.kitx_list I.kIn ⟨_,h1,rfl⟩ e (λz=>nomatch z) h
 | @tup a xs ea=>
  cases (show u=Value.ref a from rx)
  obtain⟨_,_,_,p⟩:=(show ObjOk X.prog X.w H s.heap a (.tup xs) from I.hok a _ ea)
  obtain⟨o,h1,h2,_⟩:=p.is
  exact PySem.W.kia_one PySem.W.kitx_tuple I.kIn ⟨o,h1,h2⟩ e (λz=>nomatch z) h
 | @dK a kvs ea=>
  cases (show u=Value.ref a from rx)
  obtain⟨_,_,vs,_,p⟩:=(show ObjOk X.prog X.w H s.heap a (.dK kvs) from I.hok a _ ea)
  obtain⟨o,es,ep,h1,h2,_⟩:=p
  exact PySem.W.kia_one PySem.W.kitx_dict I.kIn ⟨o,h1,h2.1⟩ e (λz=>nomatch z) h
 | @dT a kvs ea=>
  cases (show u=Value.ref a from rx)
  obtain⟨_,_,xs,_,o,es,ep,h1,h2,_⟩:=(show ObjOk X.prog X.w H s.heap a (.dT kvs) from I.hok a _ ea)
  exact PySem.W.kia_one PySem.W.kitx_dict I.kIn ⟨o,h1,h2.1⟩ e (λz=>nomatch z) h
 | @ins a C dx fs ea cl ha hn htk hm=>
  cases (show u=Value.ref a from rx)
  obtain⟨mA,O,_⟩:=ins_get I.hok ea
  obtain⟨od,J,_⟩:=O.look
  exact PySem.W.kia_one (PySem.W.kitx_own (cl.get _) cl.hd ha hn htk hm) I.kIn J e (λz=>nomatch z) h
end
end L2
namespace L2
open PySem PySem.Spec PyProof.Rows
structure Room(k:Nat)(A:Around):Prop where
 hd:A.handled=none
 dp:A.depth+3*k+5<recursionLimit
 un:A.units+16*k+200<cLine
theorem Room.mono{j k:Nat}{A:Around}(r:Room k A)(h:j≤k):Room j A:=⟨r.hd,by have:=r.dp;omega,by have:=r.un;omega⟩
theorem Room.deeper{k:Nat}{A:Around}(r:Room (k+1) A)(env:Env):Room k (A.deeper env):=
 ⟨r.hd,by have:=r.dp;show A.depth+1+3*k+5<_;omega,by have:=r.un;show A.units+3+16*k+200<_;omega⟩
theorem Room.depth{k:Nat}{A:Around}(r:Room k A):A.depth<recursionLimit:=by have:=r.dp;omega
theorem Room.units{k:Nat}{A:Around}(r:Room k A):A.units+64<cLine:=by have:=r.un;omega
def tNil:TA:=λ_ H Q=>Q [] H
def tCons(ta:TE)(tr:TA):TA:=λσ H Q=>ta σ H λx H1=>tr σ H1 λxs H2=>Q (x::xs) H2
section
variable{X:Cx}{e:Expr}{es:List Expr}{te:TE}{t:TA}{pos:Pos}
theorem pa_nil:PA X [] tNil:=λ_ _ _ _ H Q I h=>Calls.spliced_nil ⟨[],H,I,.nil,h⟩
theorem pa_cons(ha:PE X e te)(hr:PA X es t)(hs:starEach (e::es) X.env=(false,eval e X.env)::starEach es X.env:=by rfl):PA X (e::es) (tCons te t):=by
 intro pos pins s σ H Q I h
 rw[hs]
 show wpAny _ _ (spliced ((false,eval e X.env)::backTo pos (starEach es X.env))) _ _ s
 refine Calls.spliced_cons (thn (ha pins s σ H _ I h) λu s1 ⟨x,H1,I1,r1,q1⟩=> ?_)
 exact thn (hr pos pins s1 σ H1 _ I1 q1) λus s2 ⟨xs,H2,I2,r2,q2⟩=>⟨x::xs,H2,I2,.cons r1 r2,q2⟩
def tTup(t:TA):TE:=λσ H Q=>t σ H λxs H1=>xs.length≤sizeLine∧∀p,H1 p=none->Q (.ref p) (upd H1 p (.tup xs))
def tLst(t:TA):TE:=λσ H Q=>t σ H λxs H1=>xs.length≤sizeLine∧∀p,H1 p=none->Q (.ref p) (upd H1 p (.lst xs))
theorem pe_tup{x1}(h:PA X es t):PE X (.Tuple es x1 pos) (tTup t):=by
 intro pins s σ H Q I hq
 refine wpAny_Tuple_spliced (thn (h pos pins s σ H _ I hq) λus s1 ⟨xs,H1,I1,r,z,q⟩=>⟨by rw[←r.length];exact z,?_⟩)
 have hf:H1 s1.heap.objs.size=none:=I1.hok.fresh (Nat.le_refl _)
 refine⟨.ref s1.heap.objs.size,upd H1 s1.heap.objs.size (.tup xs),I1.laid (t':=s1.toks) (λb u e=>Heap.get?_push_of_some _ e) (Nat.le_refl _) ?_,rfl,q _ hf⟩
 exact⟨z,us,r,⟨_,Heap.get?_push_size _ rfl⟩⟩
theorem pe_lst(h:PA X es t):PE X (.List es pos) (tLst t):=by
 intro pins s σ H Q I hq
 refine wpAny_List_spliced (thn (h pos pins s σ H _ I hq) λus s1 ⟨xs,H1,I1,r,z,q⟩=>⟨by rw[←r.length];exact z,?_⟩)
 have hf:H1 s1.heap.objs.size=none:=I1.hok.fresh (Nat.le_refl _)
 refine⟨.ref s1.heap.objs.size,upd H1 s1.heap.objs.size (.lst xs),I1.laid (t':=s1.toks) (λb u e=>Heap.get?_push_of_some _ e) (Nat.le_refl _) ?_,rfl,q _ hf⟩
 exact⟨z,us,0,r,Heap.get?_push_size _ rfl⟩
end
abbrev Sp:=List V->Hp->VK->XK->Prop
abbrev CXT:=List Env->Hp->Shared->XK->Value->Shared->Prop
structure Env0(P:Program)(w:World)(K:PySem.W.Frag)(mg:Str->Option Value)(base:Heap)(A:Around)(outer:List Env)(s:Shared)(H:Hp):Prop where
 frames:A.frames=some outer
 mod:Mod K mg base
 bs:∀b o,base.get? b=some o->s.heap.get? b=some o∧H b=none
 bsz:base.objs.size≤s.heap.objs.size
 funs:s.heap.FunFrames base outer
 frf:∀b∈frs outer,H b=none
 hok:HOk P w H s.heap
 bare:AllBare s.gens
def CE(outer:List Env)(P:Program)(w:World)(H:Hp)(s:Shared)(Q:VK)(u:Value)(s':Shared):Prop:=
 ∃v H',s'.os=s.os∧AllBare s'.gens∧Un (frs outer) [] H H' s.heap s'.heap∧HOk P w H' s'.heap∧RelV v u∧Q v H'
def CR(CX:CXT)(outer:List Env)(P:Program)(w:World)(H:Hp)(s:Shared)(Q:VK)(E:XK)(r:Result)(s':Shared):Prop:=
 match r with
 | .ok (.ret u)=>CE outer P w H s Q u s'
 | .ok _=>False
 | .error e=>CX outer H s E e s'
structure FnOk(P:Program)(w:World)(K:PySem.W.Frag)(mg:Str->Option Value)(base:Heap)(CX:CXT)(k:Nat)(f:Addr)(fd:FuncData)(ps:List Str)(sp:Sp):Prop where
 len:∀vs H Q E,sp vs H Q E->vs.length=ps.length
 run:∀(A:Around) (outer:List Env) (s:Shared) (H:Hp) (args:Args) (us:List Value) (vs:List V) (Q:VK) (E:XK),Room k A->Env0 P w K mg base A outer s H->BindsTo s fd args (ps.zip us)->Vals vs us->sp vs H Q E->
  codeAny (model P w) A (.call (.ref f) args) (CR CX outer P w H s Q E) s
theorem FnOk.imp{P:Program}{w:World}{K:PySem.W.Frag}{mg:Str->Option Value}{base:Heap}{CX:CXT}{k:Nat}{f:Addr}{fd:FuncData}{ps:List Str}{sp sp':Sp}(F:FnOk P w K mg base CX k f fd ps sp)
  (h:∀vs H Q E,sp' vs H Q E->sp vs H Q E):FnOk P w K mg base CX k f fd ps sp':=
 ⟨λvs H Q E q=>F.len vs H Q E (h _ _ _ _ q),λA outer s H args us vs Q E hr he hb hv hs=>F.run A outer s H args us vs Q E hr he hb hv (h _ _ _ _ hs)⟩
section
variable{X:Cx}{pins:List (Addr×Obj)}{σ:St}{H:Hp}{s s':Shared}
theorem Inv.env0(I:Inv X pins σ H s):Env0 X.prog X.w X.K X.mg X.base X.A X.stack s H:=
 ⟨I.ok.frames,I.ok.mod,I.bs,Nat.le_trans I.ok.bsz I.sz,I.stack,I.stkFree,I.hok,I.bare⟩
theorem Inv.after{Q:VK}{u:Value}(I:Inv X pins σ H s)(h:CE X.stack X.prog X.w H s Q u s'):EP X pins σ Q u s':=by
 obtain⟨v,H',os,bare,un,hok,r,q⟩:=h
 obtain⟨hh,g,d,t,os'⟩:=s'
 obtain rfl:os'=s.os:=os
 exact⟨v,H',I.call (h':=hh) (g':=g) (d':=d) (t':=t) (ch:=[]) un hok bare (λb z=>absurd z (by simp)),r,q⟩
end
def tCall(sp:Sp)(dvs:List V)(E:XK)(t:TA):TE:=λσ H Q=>t σ H λvs H1=>sp (vs++dvs) H1 Q E
def Binds(K:PySem.W.Frag)(fd:FuncData)(ps:List Str)(ds:List Value):Prop:=
 ∀(s:Shared) (us:List Value),K.In s.heap->(us++ds).length=ps.length->BindsTo s fd ⟨us,[]⟩ (ps.zip (us++ds))
theorem Binds.all{K:PySem.W.Frag}{fd:FuncData}{ps:List Str}(h:∀us:List Value,us.length=ps.length->bindArgs fd ⟨us,[]⟩=pure (ps.zip us)):Binds K fd ps []:=λs us _ hl=>by
 rw[List.append_nil] at hl ⊢
 exact .of_eq (h us hl)
def Passes(CX:CXT)(X:Cx)(E:XK):Prop:=∀(pins:List (Addr×Obj)) (σ:St) (H:Hp) (s:Shared) (e:Value) (s':Shared),Inv X pins σ H s->CX X.stack H s E e s'->X.xe e s'
section
variable{X:Cx}{CX:CXT}{k:Nat}{f C:Addr}{fd:FuncData}{ps:List Str}{sp:Sp}{dvs:List V}{ds:List Value}{E:XK}{x m:Str}{p pos apos:Pos}{e o:Expr}{es:List Expr}{ta:TE}{t:TA}
theorem run_fn{pins:List (Addr×Obj)}{σ:St}{H:Hp}{s:Shared}{Q:VK}{us:List Value}{vs:List V}(F:FnOk X.prog X.w X.K X.mg X.base CX k f fd ps sp)(hr:Room k X.A)(hb:Binds X.K fd ps ds)(hd:Vals dvs ds)(hx:Passes CX X E)
  (I:Inv X pins σ H s)(r:Vals vs us)(h:sp (vs++dvs) H Q E):wpAny (model X.prog X.w) X.A (call (.ref f) us) (EP X pins σ Q) X.xe s:=by
 have r2:Vals (vs++dvs) (us++ds):=r.append hd
 have hl:(us++ds).length=ps.length:=by rw[←r2.length];exact F.len _ _ _ _ h
 refine wpAny_call (codeAny_mono (F.run X.A X.stack s H ⟨us,[]⟩ (us++ds) (vs++dvs) Q E hr I.env0 (hb s us I.kIn hl) r2 h) λr s' hq=> ?_)
 cases r with
 |error e=>exact hx pins σ H s e s' I hq
 |ok fl=>
  cases fl with
  |ret u=>exact I.after hq
  |next=>exact False.elim hq
  |brk=>exact False.elim hq
  |cont=>exact False.elim hq
theorem pe_call(F:FnOk X.prog X.w X.K X.mg X.base CX k f fd ps sp)(hr:Room k X.A)(hg:Gl X x)(hm:X.mg x=some (.ref f))(hk:PySem.W.keepIn X.K (.ref f)=true)(hb:Binds X.K fd ps ds)(hd:Vals dvs ds)(hx:Passes CX X E)
  (ha:PA X (e::es) t)(hdb:(x==("__debug__" :Str))=false:=by decide)(he:starEach (e::es) X.env=(false,eval e X.env)::starEach es X.env:=by rfl)(hpl:(backTo pos (starEach es X.env)).any (·.1)=false:=by rfl):
  PE X (.Call (.Name x p) (e::es) [] pos) (tCall sp dvs E t):=by
 intro pins s σ H Q I h
 refine wpAny_Call_Name_kw (ld_glob I hg hm ?_ hdb)
 refine PySem.W.callWith_K (h₀:=X.base) I.ok.mod.kin hk (thn (ha pos pins s σ H _ I h) λus s1 ⟨vs,H1,I1,r,q⟩=>⟨I1.kIn,?_⟩) he hpl
 exact run_fn F hr hb hd hx I1 r q
end
section
variable{X:Cx}{CX:CXT}{k:Nat}{f C:Addr}{fd:FuncData}{ps ks:List Str}{sp:Sp}{E:XK}{x m:Str}{p pos apos kpos:Pos}{e o:Expr}{es:List Expr}{kws:List Keyword}{te ta:TE}{t tk:TA}{nm:Option Str}
variable{g:List Value->List Value->List Value}{gV:List V->List V->List V}
end
structure FnScope(N P:List Str)(sc:Scope):Prop where
 kind:sc.kind= .function
 co:sc.isCoroutine=false
 gen:sc.isGenerator=false
 nd:N.Nodup
 pre:N.take P.length=P
 par:∀x∈P,sc.names.lookup x=some .local∨sc.names.lookup x=some .cell
 nofree:∀y∈sc.names,y.2≠ .free
theorem bindL_out{kindOf:Str->Option NameKind}{x:Str}:∀{binds:List (Str×Value)} {m:Str->Option Value},(∀v,(x,v)∉binds)->bindL kindOf binds m x=m x
 |[],_,_=>rfl
 |(n,v)::r,m,h=>by
  unfold bindL
  rw[bindL_out λw hw=>h w (List.mem_cons_of_mem _ hw)]
  split
  .have:x≠n:=by rintro rfl;exact h v List.mem_cons_self
   simp[this]
  .rfl
theorem bindC_out{kindOf:Str->Option NameKind}{x:Str}:∀{binds:List (Str×Value)} {m:Str->Option Value},(∀v,(x,v)∉binds)->bindC kindOf binds m x=m x
 |[],_,_=>rfl
 |(n,v)::r,m,h=>by
  unfold bindC
  rw[bindC_out λw hw=>h w (List.mem_cons_of_mem _ hw)]
  split
  .rfl
  .have:x≠n:=by rintro rfl;exact h v List.mem_cons_self
   simp[this]
theorem bindL_get{kindOf:Str->Option NameKind}{x:Str}{v:Value}:∀{P:List Str} {vs:List Value} {i:Nat} {m:Str->Option Value},P.Nodup->P[i]? =some x->vs[i]? =some v->kindOf x=some .local->
  bindL kindOf (P.zip vs) m x=some v
 |[],_,_,_,_,h,_,_=>by simp at h
 |_::_,[],_,_,_,_,h,_=>by simp at h
 |p::P,w::vs,0,m,nd,h1,h2,hk=>by
  simp at h1 h2;subst h1;subst h2
  show bindL kindOf ((p,w)::P.zip vs) m p=_
  unfold bindL
  rw[bindL_out λv hv=>(List.nodup_cons.mp nd).1 (List.of_mem_zip hv).1,if_pos hk]
  simp
 |p::P,w::vs,i+1,m,nd,h1,h2,hk=>by
  show bindL kindOf ((p,w)::P.zip vs) m x=_
  unfold bindL
  exact bindL_get (i:=i) (List.nodup_cons.mp nd).2 (by simpa using h1) (by simpa using h2) hk
theorem bindC_get{kindOf:Str->Option NameKind}{x:Str}{v:Value}:∀{P:List Str} {vs:List Value} {i:Nat} {m:Str->Option Value},P.Nodup->P[i]? =some x->vs[i]? =some v->kindOf x≠some .local->
  bindC kindOf (P.zip vs) m x=some v
 |[],_,_,_,_,h,_,_=>by simp at h
 |_::_,[],_,_,_,_,h,_=>by simp at h
 |p::P,w::vs,0,m,nd,h1,h2,hk=>by
  simp at h1 h2;subst h1;subst h2
  show bindC kindOf ((p,w)::P.zip vs) m p=_
  unfold bindC
  rw[bindC_out λv hv=>(List.nodup_cons.mp nd).1 (List.of_mem_zip hv).1,if_neg hk]
  simp
 |p::P,w::vs,i+1,m,nd,h1,h2,hk=>by
  show bindC kindOf ((p,w)::P.zip vs) m x=_
  unfold bindC
  exact bindC_get (i:=i) (List.nodup_cons.mp nd).2 (by simpa using h1) (by simpa using h2) hk
def start(N:List Str)(vs:List V):St:=vs.map some++List.replicate (N.length - vs.length) none
def cxOf(CX:CXT)(P:Program)(w:World)(K:PySem.W.Frag)(mg:Str->Option Value)(base:Heap)(N:List Str)(qual:Str)(scope:Scope)(f:Addr)(cd:Value)(A:Around)(outer:List Env)(s:Shared)(H:Hp)(E:XK):Cx where
 prog:=P
 w:=w
 K:=K
 mg:=mg
 base:=base
 A:=A.deeper (envOfC qual scope s.heap.objs.size f cd)
 N:=N
 s₀:=s
 H₀:=H
 env:=envOfC qual scope s.heap.objs.size f cd
 outer:=outer
 stack:=envOfC qual scope s.heap.objs.size f cd::outer
 ex:=[]
 calm:=true
 fn:=λ_=>true
 pn:=[]
 xe:=λe s'=>wpAny (model P w) (A.deeper (envOfC qual scope s.heap.objs.size f cd)) (leaving (envOfC qual scope s.heap.objs.size f cd) e) (λ_ s''=>CX outer H s E e s'') (λe' s''=>CX outer H s E e' s'') s'
theorem cell_has{sc:Scope}{n:Nat}{x:Str}(h:sc.names.lookup x=some .cell):∃c,(cellsFrom n sc.names []).lookup x=some c:=by
 have q:=PySem.W.cellsFrom_some sc.names n [] (.inl h)
 exact Option.isSome_iff_exists.mp q
theorem inv_start{CX:CXT}{P:Program}{w:World}{K:PySem.W.Frag}{mg:Str->Option Value}{base:Heap}{N ps:List Str}{qual:Str}{scope:Scope}{f:Addr}{cd:Value}{A:Around}{outer:List Env}{s s1:Shared}{H:Hp}{E:XK}{us:List Value}{vs:List V}
  (S:FnScope N ps scope)(hd:A.handled=none)(e0:Env0 P w K mg base A outer s H)(hl:vs.length=ps.length)(r:Vals vs us)
  (x:InCallC s s.heap.objs.size (bindL (envOfC qual scope s.heap.objs.size f cd).kindOf (ps.zip us) λ_=>none) (cellsFrom (s.heap.objs.size+1) scope.names []) (bindC (envOfC qual scope s.heap.objs.size f cd).kindOf (ps.zip us) λ_=>none) s1):
  Inv (cxOf CX P w K mg base N qual scope f cd A outer s H E) [] (start N vs) H s1:=by
 have hpl:ps.length≤N.length:=by have:=congrArg List.length S.pre;rw[List.length_take] at this;omega
 obtain⟨h1,tk,rfl,hk⟩:=x.done
 have noA:∀b:Addr,b∉(cxOf CX P w K mg base N qual scope f cd A outer s H E).ex:=λb z=>absurd (show b∈([]:List Addr) from z) (by simp)
 refine⟨⟨e0.mod,S.kind,rfl,rfl,Nat.le_refl _,λy z c h1 h2=> ?_,λy hy=> ?_,λy c _ h=> ?_,λ_=>hd,Around.frames_deeper e0.frames,.inr ⟨rfl,rfl⟩,λb z=>absurd z (noA b),e0.bs,e0.bsz,λb _ _=>noA b,λb z=>absurd z (noA b),e0.funs,e0.frf⟩,
  rfl,e0.bare,Un.kept hk,⟨_,x.toInCall.ns,λi y v h1 h2 h3=> ?_⟩,λy c h=>⟨_,x.cell y c h⟩,e0.hok.fresh (Nat.le_refl _),λy c h=> ?_,λp hp=>absurd (show p∈([]:List (Addr×Obj)) from hp) (by simp),e0.hok.kept hk,?_⟩
 .exact name_of_addr x.apart (PySem.mem_of_lookup h1) (PySem.mem_of_lookup h2)
 .have hy:scope.names.lookup y=some .cell∨scope.names.lookup y=some .free:=hy
  rcases hy with hy|hy
  .exact cell_has hy
  .exact absurd rfl (S.nofree _ (PySem.mem_of_lookup hy))
 .exact Nat.le_of_lt (x.above y c (PySem.mem_of_lookup h))
 .have hi:i<vs.length:=by
   unfold start at h2
   by_cases hi:i<vs.length
   .exact hi
   .rw[List.getElem?_append_right (by simpa using hi)] at h2
    rw[List.getElem?_replicate] at h2
    split at h2<;>cases h2
  have ha:vs[i]? =some v:=by
   unfold start at h2
   rw[List.getElem?_append_left (by simpa using hi),List.getElem?_map] at h2
   cases e:vs[i]? with
   |none=>rw[e] at h2;cases h2
   |some a=>rw[e] at h2;cases h2;rfl
  obtain⟨u,hu,rv⟩:=r.get ha
  have hp:ps[i]? =some y:=by
   rw[←S.pre,List.getElem?_take_of_lt (by omega)];exact h1
  have ndP:ps.Nodup:=by rw[←S.pre];exact S.nd.sublist (List.take_sublist _ _)
  refine⟨u,rv,?_⟩
  rcases S.par y (List.mem_of_getElem? hp) with k|k
  .exact .inl ⟨k,bindL_get ndP hp hu k⟩
  .obtain⟨c,e⟩:=cell_has (n:=s.heap.objs.size+1) k
   refine .inr ⟨.inl k,c,e,?_⟩
   have q:=x.cell y c e
   rw[bindC_get ndP hp hu (by show scope.names.lookup y≠_;rw[k];decide)] at q
   exact q
 .exact e0.hok.fresh (Nat.le_of_lt (x.above y c (PySem.mem_of_lookup h)))
 .unfold start
  show _=N.length
  rw[List.length_append,List.length_map,List.length_replicate]
  omega
theorem fn_of{CX:CXT}{P:Program}{w:World}{K:PySem.W.Frag}{mg:Str->Option Value}{base:Heap}{k:Nat}{f:Addr}{name qual:Str}{params:Arguments}{body:List Stmt}{scope:Scope}{dV kV doc pm cdv ct oc:Value}{an od:Option Addr}
  {osl:Array (Option Value)}{N ps:List Str}{sp:Sp}(lk:K.lookup f=some ⟨oc,od,.func (PySem.W.fnOf name qual params body scope dV kV doc pm an cdv ct),osl⟩)(hcd:PySem.W.codeIn K cdv qual=true)(S:FnScope N ps scope)
  (len:∀vs H Q E,sp vs H Q E->vs.length=ps.length)
  (hbody:∀(A:Around) (outer:List Env) (s:Shared) (H:Hp) (vs:List V) (Q:VK) (E:XK),Room k (A.deeper (envOfC qual scope s.heap.objs.size f cdv))->sp vs H Q E->
   ∃t,PSs (cxOf CX P w K mg base N qual scope f cdv A outer s H E) body t∧t {nx:=λ_ H'=>Q .non H',rt:=Q} (start N vs) H):
  FnOk P w K mg base CX (k+1) f (PySem.W.fnOf name qual params body scope dV kV doc pm an cdv ct) ps sp:=by
 refine⟨len,λA outer s H args us vs Q E hr e0 hb r hsp=> ?_⟩
 have hl:=len _ _ _ _ hsp
 have KX:K.In s.heap:=e0.mod.kin.keeps λb o e=>(e0.bs b o e).1
 have lim:s.heap.NoLimit:=e0.mod.nolimit.keeps λb o e=>(e0.bs b o e).1
 have hkind:∀y∈ps.zip us,scope.names.lookup y.1=some .local∨(scope.names.lookup y.1=some .cell∧((cellsFrom (s.heap.objs.size+1) scope.names []).lookup y.1).isSome=true):=λ⟨n,v⟩ hy=>by
  rcases S.par n (List.of_mem_zip hy).1 with q|q
  .exact .inl q
  .exact .inr ⟨q,PySem.W.cellsFrom_some _ _ _ (.inl q)⟩
 refine codeAny_call_function hr.depth (KX _ _ lk) rfl S.co S.gen rfl (PySem.W.codeRec_of KX hcd) (hb _ _ _ _ ?_)
 refine wpAny_newFunctionEnv_cells S.kind hkind λenv he s1 x=> ?_
 subst he
 refine⟨lim.keeps x.toInCall.keep,codeAny_func ?_⟩
 obtain⟨t,ht,hq⟩:=hbody A outer s H vs Q E (hr.deeper _) hsp
 have I:Inv (cxOf CX P w K mg base N qual scope f cdv A outer s H E) [] (start N vs) H s1:=inv_start S hr.hd e0 hl r x
 refine wpAny_mono (ht [] s1 (start N vs) H _ I hq) (λfl s' hs=> ?_) λe s' hs=>hs
 have fin:∀{σ':St} {H':Hp} {v:V} {u:Value},Inv (cxOf CX P w K mg base N qual scope f cdv A outer s H E) [] σ' H' s'->RelV v u->Q v H'->CE outer P w H s Q u s':=
  λ {σ' H' v u} J rv q=>⟨v,H',J.os,J.bare,J.base,J.hok,rv,q⟩
 cases fl with
 |ret u=>
  obtain⟨v,σ',H',J,rv,q⟩:=hs
  exact fin J rv q
 |next=>
  obtain⟨σ',H',J,q⟩:=hs
  exact fin (v:=V.non) (u:=Value.none) J rfl q
 |brk=>
  obtain⟨_,_,_,q⟩:=hs
  exact False.elim q
 |cont=>
  obtain⟨_,_,_,q⟩:=hs
  exact False.elim q
end L2
namespace L2
open PySem PySem.Spec PyProof.Rows
section
variable{X:Cx}{x:Str}{p pos:Pos}{e:Expr}{es:List Expr}{t:TA}{id T:String}{r:List V->Hp->VK->Prop}
def tCB(r:List V->Hp->VK->Prop)(t:TA):TE:=λσ H Q=>t σ H λvs H1=>r vs H1 Q
theorem pe_callB(hc:CallR X (.builtin id) r)(hg:Gl X x)(hm:X.mg x=none)(hv:bootBuiltins x=some (.builtin id))(ha:PA X (e::es) t)(hn:x≠"__name__" :=by decide)(hdb:(x==("__debug__" :Str))=false:=by decide)
  (he:starEach (e::es) X.env=(false,eval e X.env)::starEach es X.env:=by rfl)(hpl:(backTo pos (starEach es X.env)).any (·.1)=false:=by rfl):PE X (.Call (.Name x p) (e::es) [] pos) (tCB r t):=by
 intro pins s σ H Q I h
 refine wpAny_Call_Name_kw (ld_blt I hg hm hv ?_ hn hdb)
 exact PyProof.Rows.callWith_builtin1 (thn (ha pos pins s σ H _ I h) λus s1 ⟨vs,H1,I1,r1,q1⟩=>hc pins s1 σ H1 vs us Q I1 r1 q1) he hpl
theorem pe_callTy(hc:CallR X (.type T) r)(hg:Gl X x)(hm:X.mg x=none)(hv:bootBuiltins x=some (.type T))(ha:PA X (e::es) t)(hn:x≠"__name__" :=by decide)(hdb:(x==("__debug__" :Str))=false:=by decide)
  (he:starEach (e::es) X.env=(false,eval e X.env)::starEach es X.env:=by rfl)(hpl:(backTo pos (starEach es X.env)).any (·.1)=false:=by rfl):PE X (.Call (.Name x p) (e::es) [] pos) (tCB r t):=by
 intro pins s σ H Q I h
 refine wpAny_Call_Name_kw (ld_blt I hg hm hv ?_ hn hdb)
 exact PyProof.Rows.callWith_type1 (thn (ha pos pins s σ H _ I h) λus s1 ⟨vs,H1,I1,r1,q1⟩=>hc pins s1 σ H1 vs us Q I1 r1 q1) he hpl
end
end L2
namespace HT
open PySem PyProof.Rows
section
open PySem.SeqAt
open PySem.AutoSeq1 (wpAny_loadPart')
open PySem.MeetsSeq PySem.MeetsSeq2 PySem.MeetsSeq3
end
section
variable{prog:Program}{w:World}{A:Around}{E:Value->Shared->Prop}{s:Shared}
theorem cat_tup{t b:Addr}{vs ws:List Value}{Q:Value->Shared->Prop}(ht:IsTup s.heap t vs.toArray)(hb:IsTup s.heap b ws.toArray)(hv:vs≠[])
  (h1:ws=[]->Q (.ref t) s)(h2:ws≠[]->Q (.ref s.heap.objs.size) {s with heap:=s.heap.push {cls:= .type "tuple",data:= .seq (vs++ws).toArray}})
  (hsz:vs.length+ws.length≤sizeLine):wpAny (model prog w) A (binaryOp .Add (.ref t) (.ref b)) Q E s:=by
 obtain⟨⟨cls,dd,data,sl⟩,ho,hc,n,hd⟩:=id ht
 obtain⟨⟨cls2,dd2,data2,sl2⟩,ho2,hc2,n2,hd2⟩:=id hb
 simp only at hc hd hc2 hd2
 subst hc hd hc2 hd2
 have e:vs.toArray++ws.toArray=(vs++ws).toArray:=by simp
 by_cases hw:ws=[]
 .exact concat_meets ⟨_,ho,rfl⟩ ⟨_,ho2,rfl⟩ noFill_tuple_add seq_tuple_add PySem.F.slot_tuple_add PySem.F.entry_tuple_add (PySem.F.args_tuple_add_2 _ _)
   (tuple_addW1 t b vs.toArray ws.toArray n n2 dd dd2 sl sl2 (by simpa using hv) (by simp[hw])) ⟨ho,ho2,h1 hw⟩
 .refine concat_meets ⟨_,ho,rfl⟩ ⟨_,ho2,rfl⟩ noFill_tuple_add seq_tuple_add PySem.F.slot_tuple_add PySem.F.entry_tuple_add (PySem.F.args_tuple_add_2 _ _)
   (tuple_addW2 t b vs.toArray ws.toArray n n2 dd dd2 sl sl2 (by simpa using hv) (by simpa using hw) (by rw[List.size_toArray,List.size_toArray];exact hsz)) ⟨ho,ho2,?_⟩
  rw[e]
  exact h2 hw
def sIx(n d:Nat):Option Int->Nat
 |none=>d
 |some v=>if v<0 then (v+(n:Int)).toNat else min v.toNat n
theorem sIx_le(n d:Nat)(hd:d≤n)(o:Option Int):sIx n d o≤n:=by
 cases o with
 |none=>exact hd
 |some v=>
  show(if v<0 then (v+(n:Int)).toNat else min v.toNat n)≤n
  by_cases hv:v<0
  .rw[if_pos hv];omega
  .rw[if_neg hv];exact Nat.min_le_right _ _
theorem clip_eq(v:Int)(n d:Nat):(if v<0 then max (v+(n:Int)) 0 else min v (n:Int))=((sIx n d (some v):Nat):Int):=by
 show(if v<0 then max (v+(n:Int)) 0 else min v (n:Int))=(((if v<0 then (v+(n:Int)).toNat else min v.toNat n):Nat):Int)
 by_cases hv:v<0
 .simp only[if_pos hv];omega
 .simp only[if_neg hv];omega
theorem adjust_gen(lo hi:Option Int)(n:Nat):Builtin.Slice.sliceAdjust lo hi 1 (n:Int)=(((sIx n 0 lo:Nat):Int),((sIx n n hi:Nat):Int)):=by
 have h1:¬((1:Int)<0):=by omega
 unfold Builtin.Slice.sliceAdjust
 simp only[h1,if_false]
 refine Prod.ext ?_ ?_
 .cases lo with
  |none=>rfl
  |some v=>exact clip_eq v n 0
 .cases hi with
  |none=>rfl
  |some v=>exact clip_eq v n n
theorem places_gen(i j:Nat):Builtin.Slice.slicePlaces (i:Int) (j:Int) 1=j - i:=by
 unfold Builtin.Slice.slicePlaces
 have h1:(1:Int)>0:=by omega
 simp only[h1,if_true,Int.ediv_one]
 split<;>omega
theorem slicePart_{v:Value}{o:Option Int}{Q:Option Int->Shared->Prop}(p:IsPart v o)(h:Q o s):wpAny (model prog w) A (Builtin.Slice.slicePartIndex v) Q E s:=by
 cases p with
 |none=>exact slicePart_none h
 |int i t=>exact slicePart_int h
theorem sliceApplied_gen{sl:Addr}{vl vu:Value}{lo hi:Option Int}{n:Nat}{Q:Int×Int×Nat->Shared->Prop}(hs:s.heap.IsSliceOf sl vl vu .none)(pl:IsPart vl lo)(pu:IsPart vu hi)
  (h:Q (((sIx n 0 lo:Nat):Int),1,sIx n n hi - sIx n 0 lo) s):wpAny (model prog w) A (Builtin.Slice.sliceApplied (.ref sl) (pure (n:Int))) Q E s:=by
 obtain⟨os,hos,hcs,hds⟩:=id hs
 unfold Builtin.Slice.sliceApplied Builtin.Slice.sliceFields
 refine wpAny_bind (wpAny_bind (wpAny_field hos hds (x:=vl) rfl (wpAny_bind (wpAny_field hos hds (x:=vu) rfl (wpAny_bind (wpAny_field hos hds (x:= .none) rfl (wpAny_pure ?_)))))))
 refine wpAny_bind (slicePart_none ?_)
 show wpAny _ _ (if ((1:Int)==0)=true then _ else _) _ _ s
 rw[if_neg (by decide)]
 refine wpAny_bind (slicePart_ pl (wpAny_bind (slicePart_ pu (wpAny_bind (wpAny_pure ?_)))))
 show wpAny _ _ (match Builtin.Slice.sliceAdjust lo hi 1 (n:Int) with|(lo,hi)=>pure (lo,(1:Int),Builtin.Slice.slicePlaces lo hi 1)) _ _ s
 rw[adjust_gen lo hi n]
 show wpAny _ _ (pure (((sIx n 0 lo:Nat):Int),(1:Int),Builtin.Slice.slicePlaces ((sIx n 0 lo:Nat):Int) ((sIx n n hi:Nat):Int) 1)) _ _ s
 rw[places_gen]
 exact wpAny_pure h
theorem pick_gen(xs:Array Value)(i k:Nat):((List.range k).filterMap λ(m:Nat)=>xs[((i:Int)+(m:Int)*1).toNat]?).toArray=((xs.toList.drop i).take k).toArray:=by
 have e:(λ(m:Nat)=>xs[((i:Int)+(m:Int)*1).toNat]?)=λm=>xs[i+m]? :=by
  funext m
  have:((i:Int)+(m:Int)*1).toNat=i+m:=by omega
  rw[this]
 rw[e]
 have:=pick_run xs i k
 rw[List.filterMap_map] at this
 have e2:((λx=>xs[x]?)∘λx=>i+x)=λm=>xs[i+m]? :=rfl
 rw[e2] at this
 rw[this]
theorem getItem_tuple_cut{t sl:Addr}{items:Array Value}{vl vu:Value}{lo hi:Option Int}{Q:Value->Shared->Prop}(ht:IsTup s.heap t items)(hs:s.heap.IsSliceOf sl vl vu .none)(pl:IsPart vl lo)(pu:IsPart vu hi)
  (hw:¬(sIx items.size 0 lo=0∧sIx items.size items.size hi=items.size))
  (h:Q (.ref s.heap.objs.size) {s with heap:=s.heap.push {cls:= .type "tuple",data:= .seq ((items.toList.drop (sIx items.size 0 lo)).take (sIx items.size items.size hi - sIx items.size 0 lo)).toArray}})
  (hsz:items.size≤sizeLine):wpAny (model prog w) A (getItem (.ref t) (.ref sl)) Q E s:=by
 have htake:sizeOk (.seq ((items.toList.drop (sIx items.size 0 lo)).take (sIx items.size items.size hi - sIx items.size 0 lo)).toArray):=by
  show((items.toList.drop (sIx items.size 0 lo)).take (sIx items.size items.size hi - sIx items.size 0 lo)).toArray.size≤sizeLine
  rw[List.size_toArray,List.length_take,List.length_drop,Array.length_toList]
  omega
 have hj:sIx items.size items.size hi≤items.size:=sIx_le _ _ (Nat.le_refl _) hi
 obtain⟨os,hos,hcs,hds⟩:=id hs
 have hTs:s.TypeIs (.ref sl) "slice" :=⟨os,hos,hcs⟩
 unfold getItem
 try with_reducible refine wpAny_holding ?_
 first|refine wpAny_bind (wpAny_pure ?_)|skip
 refine wpAny_bind (wpAny_sequenceKey ht.typeIs (by decide) ?_)
 refine wpAny_bind (wpAny_callSpecial?_slot (name:=Str.ofString "__getitem__") ht.typeIs PyProof.Rows.slot_tuple_getitem
  (wpAny_call_entry PyProof.Rows.slot_tuple_getitem ht.typeIs entry_tuple_getitem ?_ (args_tuple_getitem _ _)))
 show wpAny _ _ (Builtin.Tuple.tupleItemsOf (.ref t)>>=_) _ _ s
 refine wpAny_bind (tupleItemsOf_ ht ?_)
 refine wpAny_bind (wpAny_typeOf hTs ?_)
 rw[if_pos (by decide)]
 refine wpAny_bind (sliceApplied_gen hs pl pu ?_)
 have hno:¬((((sIx items.size 0 lo:Nat):Int)==0&&(1:Int)==1&&(sIx items.size items.size hi - sIx items.size 0 lo)==items.size)=true):=by
  intro q
  rw[Bool.and_eq_true,Bool.and_eq_true] at q
  have q1:((sIx items.size 0 lo:Nat):Int)=0:=eq_of_beq q.1.1
  have q2:sIx items.size items.size hi - sIx items.size 0 lo=items.size:=eq_of_beq q.2
  exact hw ⟨by omega,by omega⟩
 show wpAny _ _ (if (((sIx items.size 0 lo:Nat):Int)==0&&(1:Int)==1&&(sIx items.size items.size hi - sIx items.size 0 lo)==items.size)=true then _ else _) _ _ s
 rw[if_neg hno,pick_gen]
 first
  |exact wpAny_bind (m:=Builtin.Tuple.tupleExact _) (wpAny_newObj_type (wpAny_pure ⟨_,rfl,wpAny_pure h⟩) htake)
  |exact wpAny_bind (m:=Builtin.Tuple.tupleExact _) (wpAny_newObj_type (wpAny_bind (wpAny_pure (wpAny_pure ⟨_,rfl,wpAny_pure h⟩))) htake)
  |exact wpAny_bind (wpAny_bind (m:=Builtin.Tuple.tupleExact _) (wpAny_newObj_type (wpAny_pure (wpAny_pure ⟨_,rfl,wpAny_pure h⟩)) htake))
  |exact wpAny_bind (wpAny_bind (m:=Builtin.Tuple.tupleExact _) (wpAny_newObj_type (wpAny_pure ⟨_,rfl,wpAny_pure h⟩) htake))
end
end HT
namespace L2
open PySem PySem.Spec PyProof.Rows
abbrev TO:=St->Hp->(Option Int->Hp->Prop)->Prop
def PO(X:Cx)(e:Option Expr)(t:TO):Prop:=
 ∀(pins:List (Addr×Obj)) (s:Shared) (σ:St) (H:Hp) (Q:Option Int->Hp->Prop),Inv X pins σ H s->t σ H Q->
  wpAny (model X.prog X.w) X.A (evalPart e X.env) (λu s'=>∃o H',Inv X pins σ H' s'∧IsPart u o∧Q o H') X.xe s
def tNoPart:TO:=λ_ H Q=>Q none H
def tPart(t:TE):TO:=λσ H Q=>t σ H λx H1=>∃i,x= .int i∧Q (some i) H1
section
variable{X:Cx}{e:Expr}{te:TE}{lo hi:Option Expr}{tl th:TO}{pos p2:Pos}
theorem po_none:PO X none tNoPart:=by
 intro pins s σ H Q I h
 rw[evalPart_none]
 exact wpAny_pure ⟨none,H,I,.none,h⟩
theorem po_some(h:PE X e te):PO X (some e) (tPart te):=by
 intro pins s σ H Q I hw
 rw[evalPart_some]
 refine thn (h pins s σ H _ I hw) λu s1 ⟨x,H1,I1,r1,q1⟩=> ?_
 obtain⟨i,rfl,q⟩:=q1
 obtain⟨t,rfl⟩:=r1
 exact⟨some i,H1,I1,.int i t,q⟩
def SlR(X:Cx)(r:V->Option Int->Option Int->Hp->VK->Prop):Prop:=
 ∀(pins:List (Addr×Obj)) (s:Shared) (σ:St) (H:Hp) (x:V) (v vl vu:Value) (lo hi:Option Int) (sl:Addr) (Q:VK),Inv X pins σ H s->RelV x v->s.heap.IsSliceOf sl vl vu .none->IsPart vl lo->IsPart vu hi->r x lo hi H Q->
  ∃T id,typeLookup (.type T) "__getitem__" =pure (some (.builtin id))∧s.TypeIs v T∧wpAny (model X.prog X.w) X.A (getItem v (.ref sl)) (EP X pins σ Q) X.xe s
theorem SlR.or{r r':V->Option Int->Option Int->Hp->VK->Prop}(h:SlR X r)(h':SlR X r'):SlR X (λx lo hi H Q=>r x lo hi H Q∨r' x lo hi H Q):=by
 intro pins s σ H x v vl vu lo hi sl Q I rx hs pl pu q
 rcases q with q|q
 .exact h pins s σ H x v vl vu lo hi sl Q I rx hs pl pu q
 .exact h' pins s σ H x v vl vu lo hi sl Q I rx hs pl pu q
def tSl(r:V->Option Int->Option Int->Hp->VK->Prop)(te:TE)(tl th:TO):TE:=λσ H Q=>te σ H λx H1=>tl σ H1 λl H2=>th σ H2 λu H3=>r x l u H3 Q
theorem pe_slice{r:V->Option Int->Option Int->Hp->VK->Prop}(hr:SlR X r)(he:PE X e te)(hl:PO X lo tl)(hu:PO X hi th):PE X (.Subscript e (.Slice lo hi none p2) pos) (tSl r te tl th):=by
 intro pins s σ H Q I h
 refine Subscript_ (thn (he pins s σ H _ I h) λv s1 ⟨x,H1,I1,r1,q1⟩=> ?_)
 refine wpAny_Slice (thn (hl pins s1 σ H1 _ I1 q1) λvl s2 ⟨l,H2,I2,pl,q2⟩=>thn (hu pins s2 σ H2 _ I2 q2) λvu s3 ⟨u,H3,I3,pu,q3⟩=> ?_)
 rw[evalPart_none]
 refine wpAny_pure ?_
 have I4:Inv X pins σ H3 {s3 with heap:=s3.heap.push {cls:= .type "slice",data:= .fields #[vl,vu,.none]}}:=I3.kept (t':=s3.toks) λb ob q=>Heap.get?_push_of_some _ q
 obtain⟨T,id,hT,ht,hg⟩:=hr pins {s3 with heap:=s3.heap.push {cls:= .type "slice",data:= .fields #[vl,vu,.none]}} σ H3 x v vl vu l u s3.heap.objs.size Q I4 r1 (Heap.IsSliceOf.new ..) pl pu q3
 show wpAny (model X.prog X.w) X.A (subscriptTail e (.Slice lo hi none p2) v (.ref s3.heap.objs.size)) (EP X pins σ Q) X.xe {s3 with heap:=s3.heap.push {cls:= .type "slice",data:= .fields #[vl,vu,.none]}}
 exact tail_any (ops:=[.ref s3.heap.objs.size,v]) ht hT hg (by with_unfolding_all rfl)
def cutV(xs:List V)(lo hi:Option Int):List V:=(xs.drop (HT.sIx xs.length 0 lo)).take (HT.sIx xs.length xs.length hi - HT.sIx xs.length 0 lo)
theorem cutV_length(xs:List V)(lo hi:Option Int):(cutV xs lo hi).length≤xs.length:=by
 unfold cutV
 rw[List.length_take,List.length_drop]
 omega
def rSlT(K:PySem.W.Frag):V->Option Int->Option Int->Hp->VK->Prop:=λx lo hi H Q=>∃a xs,x= .ref a∧SqT K H a xs∧
 ¬(HT.sIx xs.length 0 lo=0∧HT.sIx xs.length xs.length hi=xs.length)∧∀p,H p=none->Q (.ref p) (upd H p (.tup (cutV xs lo hi)))
theorem sl_tup:SlR X (rSlT X.K):=by
 intro pins s σ H x v vl vu lo hi sl Q I rx hs pl pu h
 obtain⟨a,xs,rfl,hx,hw,q⟩:=h
 cases rx
 obtain⟨its,r,ht,hz⟩:=I.tuple hx
 have hlen:its.toArray.size=xs.length:=by rw[List.size_toArray];exact r.length.symm
 refine⟨"tuple",_,PyProof.Rows.slot_tuple_getitem.lookup,ht.typeIs,?_⟩
 refine HT.getItem_tuple_cut ht hs pl pu (by rw[hlen];exact hw) ?_ (by rw[hlen];exact hz)
 rw[hlen]
 refine⟨.ref s.heap.objs.size,_,I.laid (t':=s.toks) (o:= .tup (cutV xs lo hi)) (λb ob q=>Heap.get?_push_of_some _ q) (Nat.le_refl _) ?_,rfl,q _ (I.hok.fresh (Nat.le_refl _))⟩
 exact⟨Nat.le_trans (cutV_length xs lo hi) hz,_,(r.drop (HT.sIx xs.length 0 lo)).take (HT.sIx xs.length xs.length hi - HT.sIx xs.length 0 lo),TupO.new _ _⟩
def rCatT(K:PySem.W.Frag):R2:=λx y H Q=>∃a b xs ys,x= .ref a∧y= .ref b∧SqT K H a xs∧SqT K H b ys∧xs≠[]∧xs.length+ys.length≤sizeLine∧
 (ys=[]->Q (.ref a) H)∧(ys≠[]->∀p,H p=none->Q (.ref p) (upd H p (.tup (xs++ys))))
theorem Vals.nil_iff{xs:List V}{us:List Value}(r:Vals xs us):us=[]↔xs=[]:=by
 cases r with
 |nil=>simp
 |cons _ _=>simp
theorem op_catT:OpR X (binaryOp .Add) (rCatT X.K):=by
 intro pins s σ H x y v u Q I rx ry h
 obtain⟨a,b,xs,ys,rfl,rfl,ha,hb,hx,hz,q1,q2⟩:=h
 cases rx
 cases ry
 obtain⟨its,r1,p1,_⟩:=I.tuple ha
 obtain⟨its2,r2,p2,_⟩:=I.tuple hb
 refine HT.cat_tup p1 p2 (λz=>hx (r1.nil_iff.mp z)) (λz=>⟨.ref a,H,I,rfl,q1 (r2.nil_iff.mp z)⟩) (λz=> ?_) (by rw[←r1.length,←r2.length];exact hz)
 refine⟨.ref s.heap.objs.size,_,I.laid (t':=s.toks) (o:= .tup (xs++ys)) (λb ob q=>Heap.get?_push_of_some _ q) (Nat.le_refl _) ?_,rfl,q2 (λw=>z (r2.nil_iff.mpr w)) _ (I.hok.fresh (Nat.le_refl _))⟩
 exact⟨by rw[List.length_append];exact hz,_,r1.append r2,TupO.new _ _⟩
end
end L2
namespace L2
open PySem PySem.Spec PyProof.Rows
def ixN(n:Nat)(i:Int):Option Nat:=if 0≤i then (if i<n then some i.toNat else none) else if -(n:Int)≤i then some (i+n).toNat else none
def atI{α:Type}(xs:List α)(i:Int):Option α:=(ixN xs.length i).bind λj=>xs[j]?
theorem ixN_seq{n:Nat}{i:Int}{j:Nat}(h:ixN n i=some j):seqIndex? i n=some j∧j<n∧-(n:Int)≤i∧i<n:=by
 unfold ixN at h
 by_cases h0:0≤i
 .rw[if_pos h0] at h
  by_cases h1:i<n
  .rw[if_pos h1] at h
   have e:i.toNat=j:=Option.some.inj h
   exact⟨by rw[seqIndex_of h0 h1,e],by omega,by omega,h1⟩
  .rw[if_neg h1] at h;cases h
 .rw[if_neg h0] at h
  by_cases h1: -(n:Int)≤i
  .rw[if_pos h1] at h
   have e:(i+n).toNat=j:=Option.some.inj h
   exact⟨by rw[seqIndex_neg (by omega) h1,e],by omega,h1,by omega⟩
  .rw[if_neg h1] at h;cases h
theorem atI_get{α:Type}{xs:List α}{i:Int}{v:α}(h:atI xs i=some v):∃j,seqIndex? i xs.length=some j∧xs[j]? =some v∧j<xs.length∧-(xs.length:Int)≤i∧i<xs.length:=by
 unfold atI at h
 cases e:ixN xs.length i with
 |none=>rw[e] at h;cases h
 |some j=>
  rw[e] at h
  obtain⟨h1,h2,h3,h4⟩:=ixN_seq e
  exact⟨j,h1,h,h2,h3,h4⟩
theorem atI_nat{α:Type}{xs:List α}{j:Nat}{v:α}(h:xs[j]? =some v):atI xs (j:Int)=some v:=by
 have hj:j<xs.length:=(List.getElem?_eq_some_iff.mp h).1
 have e:ixN xs.length (j:Int)=some j:=by
  unfold ixN
  rw[if_pos (by omega),if_pos (by omega)];simp
 unfold atI;rw[e];exact h
def PlainIx(b:Expr):Prop:=∀o i,subscripted b false o i=operate [o,i] (getItem o i)
def IxR(X:Cx)(r:R2):Prop:=
 ∀(value slice:Expr) (pins:List (Addr×Obj)) (s:Shared) (σ:St) (H:Hp) (x y:V) (v u:Value) (Q:VK),Inv X pins σ H s->RelV x v->RelV y u->r x y H Q->
  subscripted slice false v u=operate [v,u] (getItem v u)->wpAny (model X.prog X.w) X.A (subscriptTail value slice v u) (EP X pins σ Q) X.xe s
def MtR(X:Cx)(id:String)(r:V->List V->Hp->VK->Prop):Prop:=
 ∀(pins:List (Addr×Obj)) (s:Shared) (σ:St) (H:Hp) (x:V) (xs:List V) (v:Value) (us:List Value) (Q:VK),Inv X pins σ H s->RelV x v->Vals xs us->r x xs H Q->
  wpAny (model X.prog X.w) X.A (call (.builtin id) (v::us)) (EP X pins σ Q) X.xe s
section
variable{X:Cx}{a b:Expr}{ta tb:TE}{pos:Pos}
theorem IxR.or{r r':R2}(h:IxR X r)(h':IxR X r'):IxR X (λx y H Q=>r x y H Q∨r' x y H Q):=by
 intro value slice pins s σ H x y v u Q I rx ry q hs
 rcases q with q|q
 .exact h value slice pins s σ H x y v u Q I rx ry q hs
 .exact h' value slice pins s σ H x y v u Q I rx ry q hs
theorem pe_ix{r:R2}(hr:IxR X r)(ha:PE X a ta)(hb:PE X b tb)(hs:PlainIx b):PE X (.Subscript a b pos) (tOp r ta tb):=by
 intro pins s σ H Q I h
 exact Subscript_ (binT ha hb I h λv u s2 x y H2 I2 rx ry q=>hr a b pins s2 σ H2 x y v u Q I2 rx ry q (hs _ _))
def rIxL(K:PySem.W.Frag):R2:=λx y H Q=>∃p xs i v,x= .ref p∧y= .int i∧SqL K H p xs∧atI xs i=some v∧Q v H
def rIxT(K:PySem.W.Frag):R2:=λx y H Q=>∃p xs i v,x= .ref p∧y= .int i∧SqT K H p xs∧atI xs i=some v∧Q v H
def rIxS:R2:=λx y H Q=>∃z i c,x= .str z∧y= .int i∧z.length≤sizeLine∧atI z.cps.toList i=some c∧Q (.str ⟨#[c]⟩) H
theorem ix_list:IxR X (rIxL X.K):=by
 intro value slice pins s σ H x y v u Q I rx ry h hs
 obtain⟨p,xs,i,z,rfl,rfl,hq,he,q⟩:=h
 cases rx
 obtain⟨t,rfl⟩:=ry
 obtain⟨its,r,pl,hz⟩:=I.list hq
 obtain⟨j,h1,h2,h3,h4,h5⟩:=atI_get he
 obtain⟨w,ew,rw'⟩:=r.get h2
 have hl:=r.length
 have hn:=line63
 have fin:EP X pins σ Q w s:=⟨z,H,I,rw',q⟩
 by_cases h0:0≤i
 .have hj:i.toNat=j:=by
   rw[seqIndex_of h0 h5] at h1
   exact Option.some.inj h1
  exact item_listR pl.isList h0 (by omega) (by rw[hj];simpa using ew) fin hs
 .have hj:(i+(its.toArray.size:Int)).toNat=j:=by
   rw[seqIndex_neg (by omega) h4] at h1
   rw[List.size_toArray,←hl]
   exact Option.some.inj h1
  exact subscriptTail_builtinR (x:=w) pl.isList.typeIs slot_list_getitem.lookup
   (wpAny_getItem_list_neg (Q:=λr s'=>r=w∧EP X pins σ Q r s') pl.isList (by omega) (by rw[List.size_toArray]<;>omega) (by omega) (by rw[hj];simpa using ew) ⟨rfl,fin⟩) hs
theorem ix_tup:IxR X (rIxT X.K):=by
 intro value slice pins s σ H x y v u Q I rx ry h hs
 obtain⟨p,xs,i,z,rfl,rfl,hq,he,q⟩:=h
 cases rx
 obtain⟨t,rfl⟩:=ry
 obtain⟨its,r,pl,hz⟩:=I.tuple hq
 obtain⟨j,h1,h2,h3,h4,h5⟩:=atI_get he
 obtain⟨w,ew,rw'⟩:=r.get h2
 have hl:=r.length
 have hn:=line63
 have fin:EP X pins σ Q w s:=⟨z,H,I,rw',q⟩
 exact subscriptTail_builtinR (x:=w) pl.typeIs slot_tuple_getitem.lookup
  (getItem_tuple (j:=j) (Q:=λr s'=>r=w∧EP X pins σ Q r s') pl (by omega) (by omega) (by rw[List.size_toArray,←hl];exact h1) (by simpa using ew) ⟨rfl,fin⟩) hs
theorem ix_str:IxR X rIxS:=by
 intro value slice pins s σ H x y v u Q I rx ry h hs
 obtain⟨z,i,c,rfl,rfl,hz,he,q⟩:=h
 obtain⟨t,rfl⟩:=rx
 obtain⟨t',rfl⟩:=ry
 obtain⟨j,h1,h2,h3,h4,h5⟩:=atI_get he
 have hl:z.cps.toList.length=z.length:=by simp[Str.length]
 rw[hl] at h1 h4 h5
 have hn:=line63
 exact tail_any (typeIs_str s z t) slot_str_getitem.lookup (getItem_str (c:=c) (by
  have e1:decide (i< -(2 ^ 63:Int))=false:=decide_eq_false (by omega)
  have e2:decide (i≥2 ^ 63)=false:=decide_eq_false (by omega)
  rw[e1,e2,Bool.or_false]) (by rw[h1];simpa using h2) ⟨.str ⟨#[c]⟩,H,I.tok _,⟨_,rfl⟩,q⟩) hs
def rIx(K:PySem.W.Frag):R2:=λx y H Q=>rIxL K x y H Q∨rIxT K x y H Q∨rIxS x y H Q
theorem ix_seq:IxR X (rIx X.K):=ix_list.or (ix_tup.or ix_str)
theorem slice_bounds(lo hi:Option Int)(n:Nat):(sliceBounds lo hi none n).1=((HT.sIx n 0 lo:Nat):Int)∧(sliceBounds lo hi none n).2.1=((HT.sIx n n hi:Nat):Int)∧(sliceBounds lo hi none n).2.2=1:=by
 refine⟨?_,?_,rfl⟩
 .cases lo with
  |none=>simp[sliceBounds,HT.sIx]
  |some i=>
   simp only[sliceBounds,HT.sIx,Option.getD_none,show(1:Int)>0 by decide,if_true]
   by_cases h:i<0
   .simp only[h,if_true]<;>omega
   .simp only[h,if_false]<;>omega
 .cases hi with
  |none=>simp[sliceBounds,HT.sIx]
  |some i=>
   simp only[sliceBounds,HT.sIx,Option.getD_none,show(1:Int)>0 by decide,if_true]
   by_cases h:i<0
   .simp only[h,if_true]<;>omega
   .simp only[h,if_false]<;>omega
theorem slicePick_cut(its:List Value)(lo hi:Option Int):slicePick its.toArray lo hi none=((its.drop (HT.sIx its.length 0 lo)).take (HT.sIx its.length its.length hi - HT.sIx its.length 0 lo)).toArray:=by
 obtain⟨h1,h2,h3⟩:=slice_bounds lo hi its.toArray.size
 unfold slicePick
 rw[h1,h2,h3]
 simp only[sliceRange_one,pick_run,List.size_toArray]<;>rfl
def rSlL(K:PySem.W.Frag):V->Option Int->Option Int->Hp->VK->Prop:=λx lo hi H Q=>∃a xs,x= .ref a∧SqL K H a xs∧∀p,H p=none->Q (.ref p) (upd H p (.lst (cutV xs lo hi)))
theorem sl_list:SlR X (rSlL X.K):=by
 intro pins s σ H x v vl vu lo hi sl Q I rx hs pl pu h
 obtain⟨a,xs,rfl,hx,q⟩:=h
 cases rx
 obtain⟨its,r,ht,hz⟩:=I.list hx
 have hlen:=r.length
 refine⟨"list",_,slot_list_getitem.lookup,ht.isList.typeIs,?_⟩
 refine wpAny_getItem_list_slice ht.isList hs pl pu .none (by simp) ?_ (by rw[List.size_toArray]<;>omega)
 rw[slicePick_cut,←hlen]
 refine⟨.ref s.heap.objs.size,_,I.laid (t':=s.toks) (o:= .lst (cutV xs lo hi)) (λb ob q=>Heap.get?_push_of_some _ q) (Nat.le_refl _) ?_,rfl,q _ (I.hok.fresh (Nat.le_refl _))⟩
 exact⟨Nat.le_trans (cutV_length xs lo hi) hz,_,0,(r.drop (HT.sIx xs.length 0 lo)).take (HT.sIx xs.length xs.length hi - HT.sIx xs.length 0 lo),Heap.get?_push_size _ rfl⟩
def flatV:V->Bool
 | .non=>true
 | .bl _=>true
 | .int _=>true
 | .str _=>true
 |_=>false
def eqV:V->V->Bool
 | .non,.non=>true
 | .bl a,.bl b=>a==b
 | .bl a,.int b=>(if a then 1 else 0)==b
 | .int a,.bl b=>a==(if b then 1 else 0)
 | .int a,.int b=>a==b
 | .str a,.str b=>a==b
 |_,_=>false
theorem eqAt_V{A:Around}{s:Shared}{y x:V}{u v:Value}(ry:RelV y u)(rx:RelV x v)(fy:flatV y=true)(fx:flatV x=true):SeqAt.EqAt A s u v (eqV y x):=by
 cases y with
 |non=>
  cases ry
  cases x with
  |non=>cases rx;exact SeqAt.EqAt.same _
  |bl b=>cases rx;exact SeqAt.EqAt.none_bool b
  |int b=>obtain⟨t,rfl⟩:=rx;exact SeqAt.EqAt.none_int b t
  |str b=>obtain⟨t,rfl⟩:=rx;exact SeqAt.EqAt.none_str b t
  |_=>exact absurd (show false=true from fx) Bool.false_ne_true
 |bl a=>
  cases ry
  cases x with
  |non=>cases rx;exact SeqAt.EqAt.bool_none a
  |bl b=>cases rx;exact SeqAt.EqAt.bool_bool a b
  |int b=>obtain⟨t,rfl⟩:=rx;exact SeqAt.EqAt.bool_int a b t
  |str b=>obtain⟨t,rfl⟩:=rx;exact SeqAt.EqAt.bool_str a b t
  |_=>exact absurd (show false=true from fx) Bool.false_ne_true
 |int a=>
  obtain⟨t',rfl⟩:=ry
  cases x with
  |non=>cases rx;exact SeqAt.EqAt.int_none a t'
  |bl b=>cases rx;exact SeqAt.EqAt.int_bool a t' b
  |int b=>obtain⟨t,rfl⟩:=rx;exact SeqAt.EqAt.int_int a t' b t
  |str b=>obtain⟨t,rfl⟩:=rx;exact SeqAt.EqAt.int_str a t' b t
  |_=>exact absurd (show false=true from fx) Bool.false_ne_true
 |str a=>
  obtain⟨t',rfl⟩:=ry
  cases x with
  |non=>cases rx;exact SeqAt.EqAt.str_none a t'
  |bl b=>cases rx;exact SeqAt.EqAt.str_bool a t' b
  |int b=>obtain⟨t,rfl⟩:=rx;exact SeqAt.EqAt.str_int a t' b t
  |str b=>obtain⟨t,rfl⟩:=rx;exact SeqAt.EqAt.str_str a t' b t
  |_=>exact absurd (show false=true from fx) Bool.false_ne_true
 |_=>exact absurd (show false=true from fy) Bool.false_ne_true
def eqU(x:V)(u:Value):Bool:=match u with
 | .none=>eqV .non x
 | .bool b=>eqV (.bl b) x
 | .int i _=>eqV (.int i) x
 | .str z _=>eqV (.str z) x
 |_=>false
theorem eqU_of{x y:V}{u:Value}(r:RelV y u)(f:flatV y=true):eqU x u=eqV y x:=by
 cases y with
 |non=>cases r;rfl
 |bl b=>cases r;rfl
 |int i=>obtain⟨t,rfl⟩:=r;rfl
 |str z=>obtain⟨t,rfl⟩:=r;rfl
 |_=>exact absurd (show false=true from f) Bool.false_ne_true
theorem any_eqU{x:V}:∀{xs:List V} {us:List Value},Vals xs us->xs.all flatV=true->us.any (eqU x)=xs.any λy=>eqV y x
 |_,_,.nil,_=>rfl
 |y::xs,u::us,.cons r t,f=>by
  rw[List.all_cons,Bool.and_eq_true] at f
  rw[List.any_cons,List.any_cons,eqU_of r f.1,any_eqU t f.2]
theorem mem_eqAt{A:Around}{s:Shared}{x:V}{v:Value}(rx:RelV x v)(fx:flatV x=true):∀{xs:List V} {us:List Value},Vals xs us->xs.all flatV=true->∀u∈us,SeqAt.EqAt A s u v (eqU x u)
 |_,_,.nil,_=>λu hu=>by cases hu
 |y::xs,u::us,.cons r t,f=>λu' hu=>by
  rw[List.all_cons,Bool.and_eq_true] at f
  rcases List.mem_cons.mp hu with rfl|hu
  .rw[eqU_of r f.1];exact eqAt_V r rx f.1 fx
  .exact mem_eqAt rx fx t f.2 u' hu
def inV(x:V)(xs:List V):Bool:=xs.any λy=>eqV y x
def rIn(K:PySem.W.Frag)(neg:Bool):R2:=λx y H Q=>∃p xs,y= .ref p∧(SqL K H p xs∨SqT K H p xs)∧flatV x=true∧xs.all flatV=true∧Q (.bl (if neg then !inV x xs else inV x xs)) H
theorem op_in_seq:OpR X (compareOp .In) (rIn X.K false):=by
 intro pins s σ H x y v u Q I rx ry h
 obtain⟨p,xs,rfl,hq,fx,fs,q⟩:=h
 cases ry
 rcases hq with hq|hq
 .obtain⟨its,r,pl,hz⟩:=I.list hq
  refine SeqAt.in_listAt (eqU x) pl.isList (λw hw=>mem_eqAt rx fx r fs w (by simpa using hw)) ⟨.bl _,H,I,rfl,?_⟩
  rw[show its.toArray.any (eqU x)=its.any (eqU x) by simp,any_eqU r fs]
  exact q
 .obtain⟨its,r,pl,hz⟩:=I.tuple hq
  refine SeqAt.in_tupleAt (eqU x) pl (λw hw=>mem_eqAt rx fx r fs w (by simpa using hw)) ⟨.bl _,H,I,rfl,?_⟩
  rw[show its.toArray.any (eqU x)=its.any (eqU x) by simp,any_eqU r fs]
  exact q
theorem op_notIn_seq:OpR X (compareOp .NotIn) (rIn X.K true):=by
 intro pins s σ H x y v u Q I rx ry h
 obtain⟨p,xs,rfl,hq,fx,fs,q⟩:=h
 cases ry
 rcases hq with hq|hq
 .obtain⟨its,r,pl,hz⟩:=I.list hq
  refine SeqAt.notIn_listAt (eqU x) pl.isList (λw hw=>mem_eqAt rx fx r fs w (by simpa using hw)) ⟨.bl _,H,I,rfl,?_⟩
  rw[show its.toArray.any (eqU x)=its.any (eqU x) by simp,any_eqU r fs]
  exact q
 .obtain⟨its,r,pl,hz⟩:=I.tuple hq
  refine SeqAt.notIn_tupleAt (eqU x) pl (λw hw=>mem_eqAt rx fx r fs w (by simpa using hw)) ⟨.bl _,H,I,rfl,?_⟩
  rw[show its.toArray.any (eqU x)=its.any (eqU x) by simp,any_eqU r fs]
  exact q
theorem call_len_seq:CallR X (.builtin "len") (λxs H Q=>∃p ys,xs=[.ref p]∧(SqL X.K H p ys∨SqT X.K H p ys)∧Q (.int ys.length) H):=by
 intro pins s σ H xs us Q I r h
 obtain⟨p,ys,rfl,hq,q⟩:=h
 obtain⟨u,rfl,rx⟩:=vals1 r
 cases rx
 have hn:=line63
 rcases hq with hq|hq
 .obtain⟨its,r',pl,hz⟩:=I.list hq
  have hlen:=r'.length
  exact Calls.call_len_list pl.isList (by simp only[List.size_toArray]<;>omega) ⟨.int ys.length,H,I.tok _,⟨s.toks+1,by rw[List.size_toArray,hlen]⟩,q⟩
 .obtain⟨its,r',pl,hz⟩:=I.tuple hq
  have hlen:=r'.length
  exact len_tuple pl (by simp only[List.size_toArray]<;>omega) ⟨.int ys.length,H,I.tok _,⟨s.toks+1,by rw[List.size_toArray,hlen]⟩,q⟩
theorem call_len_str:CallR X (.builtin "len") (λxs H Q=>∃z,xs=[.str z]∧z.length≤sizeLine∧Q (.int z.length) H):=by
 intro pins s σ H xs us Q I r h
 obtain⟨z,rfl,hz,q⟩:=h
 obtain⟨u,rfl,t,rfl⟩:=vals1 r
 have hn:=line63
 exact len_str (by omega) ⟨.int z.length,H,I.tok _,⟨_,rfl⟩,q⟩
theorem CallR.or{f:Value}{r r':List V->Hp->VK->Prop}(h:CallR X f r)(h':CallR X f r'):CallR X f (λxs H Q=>r xs H Q∨r' xs H Q):=by
 intro pins s σ H xs us Q I rs q
 rcases q with q|q
 .exact h pins s σ H xs us Q I rs q
 .exact h' pins s σ H xs us Q I rs q
theorem call_tuple_of:CallR X (.type "tuple") (λxs H Q=>∃p ys,xs=[.ref p]∧((SqL X.K H p ys∧∀l,H l=none->Q (.ref l) (upd H l (.tup ys)))∨(SqT X.K H p ys∧Q (.ref p) H))):=by
 intro pins s σ H xs us Q I r h
 obtain⟨p,ys,rfl,h⟩:=h
 obtain⟨u,rfl,rx⟩:=vals1 r
 cases rx
 rcases h with⟨hq,q⟩|⟨hq,q⟩
 .obtain⟨its,r',pl,hz⟩:=I.list hq
  have hlen:=r'.length
  refine call_tuple_list pl.isList (λh' kp=> ?_) (by simp only[List.size_toArray]<;>omega)
  have I1:Inv X pins σ H {s with heap:=h'}:=I.kept (t':=s.toks) kp
  have I2:Inv X pins σ (upd H h'.objs.size (.tup ys)) {s with heap:=h'.push {cls:= .type "tuple",data:= .seq its.toArray}}:=
   I1.laid (t':=s.toks) (λb o e=>Heap.get?_push_of_some _ e) (Nat.le_refl _) (show ObjOk X.prog X.w _ _ _ (.tup ys) from⟨hz,its,r',TupO.new _ _⟩)
  exact⟨.ref h'.objs.size,_,I2,rfl,q _ (I1.hok.fresh (Nat.le_refl _))⟩
 .obtain⟨its,r',pl,hz⟩:=I.tuple hq
  exact call_tuple_same pl ⟨.ref p,H,I,rfl,q⟩
def tyV(K:PySem.W.Frag)(T:String)(x:V)(H:Hp):Prop:=match x with
 | .str _=>T="str"
 | .int _=>T="int"
 | .ref p=>(T="list"∧∃xs,SqL K H p xs)∨(T="tuple"∧∃o,K.lookup p=some o∧o.cls= .type "tuple"∧o.dict=none)∨
  (T="dict"∧((∃kvs,H p=some (.dK kvs))∨∃kvs,H p=some (.dT kvs)))∨(T="set"∧∃S n,H p=some (.set S n))
 |_=>False
theorem tyV_is{pins:List (Addr×Obj)}{σ:St}{H:Hp}{s:Shared}{T:String}{x:V}{v:Value}(I:Inv X pins σ H s)(r:RelV x v)(ty:tyV X.K T x H):
  s.TypeIs v T∧∀a,v= .ref a->∃ob,s.heap.get? a=some ob∧ob.dict=none:=by
 cases x with
 |str z=>
  obtain⟨t,rfl⟩:=r
  cases (show T="str" from ty)
  exact⟨typeIs_str s z t,λ_ e=>nomatch e⟩
 |int i=>
  obtain⟨t,rfl⟩:=r
  cases (show T="int" from ty)
  exact⟨typeIs_int s i t,λ_ e=>nomatch e⟩
 |ref p=>
  cases r
  rcases ty with⟨rfl,xs,hq⟩|⟨rfl,o,hk,hc,hd⟩|⟨rfl,hk⟩|⟨rfl,S,n,hk⟩
  .obtain⟨its,_,pl,_⟩:=I.list hq
   refine⟨pl.isList.typeIs,λa e=> ?_⟩
   cases e
   obtain⟨o,n,e,c,hd,_⟩:=pl
   exact⟨o,e,hd⟩
  .refine⟨⟨o,I.kIn p o hk,hc⟩,λa e=> ?_⟩
   cases e
   exact⟨o,I.kIn _ o hk,hd⟩
  .have z:∃o,s.heap.get? p=some o∧o.ExactDict:=by
    rcases hk with⟨kvs,hk⟩|⟨kvs,hk⟩
    .obtain⟨_,_,_,_,o,_,_,e,ex,_⟩:=I.hok p _ hk
     exact⟨o,e,ex⟩
    .obtain⟨_,_,_,_,o,_,_,e,ex,_⟩:=I.hok p _ hk
     exact⟨o,e,ex⟩
   obtain⟨o,e,ex⟩:=z
   refine⟨⟨o,e,ex.1⟩,λa e2=> ?_⟩
   cases e2
   exact⟨o,e,ex.2.1⟩
  .obtain⟨o,_,_,_,e,ex,_⟩:=I.hok p _ hk
   refine⟨⟨o,e,ex.1⟩,λa e2=> ?_⟩
   cases e2
   exact⟨o,e,ex.2.1⟩
 |_=>exact False.elim ty
def tBM(K:PySem.W.Frag)(T:String)(r:V->List V->Hp->VK->Prop)(to:TE)(t:TA):TE:=λσ H Q=>to σ H λx H1=>tyV K T x H1∧t σ H1 λxs H2=>r x xs H2 Q
variable{o e:Expr}{es:List Expr}{to:TE}{t:TA}{name:Str}{apos cpos:Pos}{T id:String}{r:V->List V->Hp->VK->Prop}
theorem pe_bm(pa:PlainAttrs T)(slot:Slot T name id)(hty:typeOf (.builtin id)=pure (.type "method_descriptor"))(hm:MtR X id r)(ho:PE X o to)(ha:PA X (e::es) t)
  (hbase:attributeBase o name X.env (eval o X.env)=eval o X.env:=by rfl)
  (hfew:((backTo cpos (starEach (e::es) X.env)).all (λx=> !x.1)&&(backToKw cpos (keywordEach [] X.env)).all (λx=>x.1.isSome)
   &&decide ((e::es).length+([]:List Keyword).length+(if ([]:List Keyword).isEmpty then 0 else 1)<30))=true:=by rfl)
  (hline:(apos.endLine==cpos.line)=true:=by rfl)(hs:starEach (e::es) X.env=(false,eval e X.env)::starEach es X.env:=by rfl)(hplain:(backTo cpos (starEach es X.env)).any (·.1)=false:=by rfl):
  PE X (.Call (.Attribute o name apos) (e::es) [] cpos) (tBM X.K T r to t):=by
 intro pins s σ H Q I h
 refine wpAny_Call_method_late hbase hfew hline rfl (thn (ho pins s σ H _ I h) λv s1 ⟨x,H1,I1,r1,ty,q1⟩=> ?_)
 obtain⟨h1,h2⟩:=tyV_is I1 r1 ty
 refine⟨T,id,pa,slot,hty,h1,h2,?_⟩
 have hA:=ha cpos pins s1 σ H1 _ I1 q1
 rw[hs] at hA ⊢
 refine Calls.callWith_builtin (by show(false||(backTo cpos (starEach es X.env)).any (·.1))=false;rw[hplain]<;>rfl) (Calls.evalArgs_plain ?_)
 exact thn hA λus s2 ⟨vs,H2,I2,r2,q2⟩=>hm pins s2 σ H2 x vs v us Q I2 r1 r2 q2
end
end L2
namespace L2
open PySem PySem.Spec PyProof.Rows
def MtM(X:Cx)(id:String)(r:V->List V->Hp->VK->Prop):Prop:=
 ∀(pins:List (Addr×Obj)) (s:Shared) (σ:St) (H:Hp) (x:V) (xs:List V) (v:Value) (us:List Value) (Q:VK),Inv X pins σ H s->RelV x v->Vals xs us->r x xs H Q->
  wpAny (model X.prog X.w) X.A (call (.builtin id) (v::us)) (EP X pins σ Q) X.xe s
theorem Vals.one:∀{x:V} {us:List Value},Vals [x] us->∃u,us=[u]∧RelV x u
 |_,_,.cons r .nil=>⟨_,rfl,r⟩
section
variable{X:Cx}{pins:List (Addr×Obj)}{σ:St}{H:Hp}{s:Shared}{l b:Addr}{xs ys zs:List V}
theorem Inv.lset{its its':List Value}{n:Nat}{f:Array Value->Array Value}{t':Nat}(I:Inv X pins σ H s)(hH:H l=some (.lst xs))
  (e:s.heap.get? l=some {cls:= .type "list",data:= .seq its.toArray n})(hf:f its.toArray=its'.toArray)(hv:Vals ys its')(hz:ys.length≤sizeLine):
  Inv X pins σ (upd H l (.lst ys)) {s with heap:=s.heap.update l (Obj.mapSeq f),toks:=t'}:=by
 have q:=PySem.IsL.update e f
 rw[hf] at q
 refine I.write (x:=l) (e:=l) (by rw[hH];exact trivial) (.inl rfl) (λb' u hb hu=>(Heap.get?_update_other s.heap (Obj.mapSeq f) (Ne.symm hb)).trans hu) ⟨_,q⟩ ?_
 exact⟨hz,its',_,hv,q⟩
theorem Inv.lnew{its:List Value}{t':Nat}(I:Inv X pins σ H s)(hv:Vals ys its)(hz:ys.length≤sizeLine):
  Inv X pins σ (upd H s.heap.objs.size (.lst ys)) {s with heap:=s.heap.push {cls:= .type "list",data:= .seq its.toArray},toks:=t'}:=
 I.laid (λ_ _ q=>Heap.get?_push_of_some _ q) (Nat.le_refl _) ⟨hz,its,0,hv,Heap.get?_push_size _ rfl⟩
theorem Inv.fresh(I:Inv X pins σ H s):H s.heap.objs.size=none:=I.hok.fresh (Nat.le_refl _)
theorem Inv.lstM(I:Inv X pins σ H s)(hH:H l=some (.lst xs)):xs.length≤sizeLine∧∃(its:List Value) (n:Nat),Vals xs its∧xs.length=its.length∧s.heap.get? l=some {cls:= .type "list",data:= .seq its.toArray n}:=by
 obtain⟨z,its,n,r,e⟩:=I.hok l _ hH
 exact⟨z,its,n,r,r.length,e⟩
theorem notLongL{n:Nat}(h:n≤sizeLine):Builtin.List.listTooLong n=false:=by
 unfold Builtin.List.listTooLong
 exact decide_eq_false (by omega)
end
section
variable{X:Cx}
def rAppend:V->List V->Hp->VK->Prop:=λx vs H Q=>∃l xs y,x= .ref l∧vs=[y]∧H l=some (.lst xs)∧xs.length<sizeLine∧Q .non (upd H l (.lst (xs++[y])))
theorem mt_append:MtM X "list.append" rAppend:=by
 intro pins s σ H x vs v us Q I rx rv h
 obtain⟨l,xs,y,rfl,rfl,hH,hz,q⟩:=h
 cases rx
 obtain⟨u,rfl,ru⟩:=rv.one
 obtain⟨z,its,n,r,hl,e⟩:=I.lstM hH
 refine call_meets F.slot_list_append ⟨_,e,rfl⟩ F.entry_list_append (F.args_list_append_2 _ _) (PySem.list_append l its.toArray n u (by rw[List.size_toArray];omega)) ⟨e,?_⟩
 refine⟨.non,_,I.lset (its':=its++[u]) hH e (by simp) (r.append (.cons ru .nil)) ?_,rfl,q⟩
 rw[List.length_append,List.length_singleton]
 omega
def rExtend:V->List V->Hp->VK->Prop:=λx vs H Q=>∃l b xs zs,x= .ref l∧vs=[.ref b]∧H l=some (.lst xs)∧H b=some (.lst zs)∧xs.length+zs.length≤sizeLine∧Q .non (upd H l (.lst (xs++zs)))
theorem mt_extend:MtM X "list.extend" rExtend:=by
 intro pins s σ H x vs v us Q I rx rv h
 obtain⟨l,b,xs,zs,rfl,rfl,hH,hB,hz,q⟩:=h
 cases rx
 obtain⟨u,rfl,ru⟩:=rv.one
 cases ru
 obtain⟨z,its,n,r,hl,e⟩:=I.lstM hH
 obtain⟨z2,its2,n2,r2,hl2,e2⟩:=I.lstM hB
 have hsz:its.toArray.size+its2.toArray.size≤sizeLine:=by rw[List.size_toArray,List.size_toArray];omega
 have hlong:¬(!its.toArray.isEmpty&&Builtin.List.listTooLong (its.toArray.size+its2.toArray.size))=true:=by
  rw[notLongL hsz,Bool.and_false]
  exact Bool.false_ne_true
 refine call_meets F.slot_list_extend ⟨_,e,rfl⟩ F.entry_list_extend (F.args_list_extend_2 _ _)
  (AutoSeq1.list_extend_list_list_0 l its.toArray n b its2.toArray n2 hlong (by rw[List.size_toArray];omega) (by omega)) ⟨e,e2,?_⟩
 refine⟨.non,_,I.lset (its':=its++its2) hH e (by simp) (r.append r2) ?_,rfl,q⟩
 rw[List.length_append]
 omega
def rCat:R2:=λx y H Q=>∃l b xs zs,x= .ref l∧y= .ref b∧H l=some (.lst xs)∧H b=some (.lst zs)∧xs.length+zs.length≤sizeLine∧∀p,H p=none->Q (.ref p) (upd H p (.lst (xs++zs)))
theorem op_cat:OpR X (binaryOp .Add) rCat:=by
 intro pins s σ H x y v u Q I rx ry h
 obtain⟨l,b,xs,zs,rfl,rfl,hH,hB,hz,q⟩:=h
 cases rx
 cases ry
 obtain⟨z,its,n,r,hl,e⟩:=I.lstM hH
 obtain⟨z2,its2,n2,r2,hl2,e2⟩:=I.lstM hB
 refine PySem.P.add_list e e2 ?_ (by rw[List.size_toArray,List.size_toArray];omega)
 have ea:its.toArray++its2.toArray=(its++its2).toArray:=by simp
 rw[ea]
 exact⟨.ref _,_,I.lnew (t':=s.toks) (r.append r2) (by rw[List.length_append];omega),rfl,q _ I.fresh⟩
end
section
variable{prog:Program}{w:World}{A:Around}{E:Value->Shared->Prop}{s:Shared}
end
section
variable{X:Cx}
end
end L2
namespace L2
open PySem PySem.Spec PyProof.Rows
section
variable{κ:Type}[DecidableEq κ]
def valV(kvs:List (κ×V))(k:κ):Option V:=(kvs.find? λkv=>decide (kv.1=k)).map (·.2)
def putK(kvs:List (κ×V))(k:κ)(v:V):List (κ×V):=
 if (kvs.any λkv=>decide (kv.1=k))=true then kvs.map (λkv=>if kv.1=k then (kv.1,v) else kv) else kvs++[(k,v)]
theorem valV_pos{p:κ×V}{r:List (κ×V)}{k:κ}(e:p.1=k):valV (p::r) k=some p.2:=by simp[valV,List.find?_cons,e]
theorem valV_neg{p:κ×V}{r:List (κ×V)}{k:κ}(e:¬p.1=k):valV (p::r) k=valV r k:=by simp[valV,List.find?_cons,e]
theorem valV_any(k:κ):∀kvs:List (κ×V),(kvs.any λkv=>decide (kv.1=k))=(valV kvs k).isSome
 |[]=>rfl
 |p::r=>by
  rw[List.any_cons]
  by_cases e:p.1=k
  .simp only[valV_pos e,decide_eq_true e,Bool.true_or,Option.isSome_some]
  .rw[valV_neg e,decide_eq_false e,Bool.false_or];exact valV_any k r
theorem length_putK(kvs:List (κ×V))(k:κ)(v:V):(putK kvs k v).length≤kvs.length+1:=by
 unfold putK
 split
 .rw[List.length_map];omega
 .rw[List.length_append,List.length_cons,List.length_nil];omega
theorem RelO.isSome_eq{o:Option V}{u:Option Value}(r:RelO o u):o.isSome=u.isSome:=by
 cases o with
 |none=>cases u with
  |none=>rfl
  |some _=>exact(show False from r).elim
 |some _=>cases u with
  |none=>exact(show False from r).elim
  |some _=>rfl
theorem KV.val{kvs:List (κ×V)}{vs:List (κ×Value)}(r:KV kvs vs)(k:κ):RelO (valV kvs k) (valueAt vs k):=by
 unfold KV at r
 induction r with
 |nil=>exact True.intro
 | @cons p q ps qs h t ih=>
  obtain⟨h1,h2⟩:=h
  by_cases e:p.1=k
  .have e':q.1=k:=h1.symm.trans e
   have b:valueAt (q::qs) k=some q.2:=by simp[valueAt,List.find?_cons,e']
   rw[valV_pos e,b];exact h2
  .have e':¬q.1=k:=λz=>e (h1.trans z)
   have b:valueAt (q::qs) k=valueAt qs k:=by simp[valueAt,List.find?_cons,e']
   rw[valV_neg e,b];exact ih
theorem KV.any{kvs:List (κ×V)}{vs:List (κ×Value)}(r:KV kvs vs)(k:κ):(kvs.any λkv=>decide (kv.1=k))=vs.any λkv=>decide (kv.1=k):=by
 unfold KV at r
 induction r with
 |nil=>rfl
 |cons h t ih=>rw[List.any_cons,List.any_cons,ih,h.1]
theorem KV.repl{kvs:List (κ×V)}{vs:List (κ×Value)}(r:KV kvs vs)(k:κ){y:V}{u:Value}(ry:RelV y u):
  KV (kvs.map λkv=>if kv.1=k then (kv.1,y) else kv) (vs.map λkv=>if kv.1=k then (kv.1,u) else kv):=by
 unfold KV at r ⊢
 induction r with
 |nil=>exact .nil
 | @cons p q ps qs h t ih=>
  rw[List.map_cons,List.map_cons]
  refine .cons ?_ ih
  obtain⟨h1,h2⟩:=h
  by_cases e:p.1=k
  .rw[if_pos e,if_pos (h1.symm.trans e)];exact⟨h1,ry⟩
  .rw[if_neg e,if_neg (λz=>e (h1.trans z))];exact⟨h1,h2⟩
theorem KV.put{kvs:List (κ×V)}{vs:List (κ×Value)}(r:KV kvs vs)(k:κ){y:V}{u:Value}(ry:RelV y u):KV (putK kvs k y) (stored vs k u):=by
 unfold putK stored
 rw[r.any k]
 by_cases e:(vs.any λkv=>decide (kv.1=k))=true
 .rw[if_pos e,if_pos e];exact r.repl k ry
 .rw[if_neg e,if_neg e];exact Paired.snoc r ⟨rfl,ry⟩
theorem KV.keys{kvs:List (κ×V)}{vs:List (κ×Value)}(r:KV kvs vs):kvs.map (·.1)=vs.map (·.1):=by
 unfold KV at r
 induction r with
 |nil=>rfl
 |cons h t ih=>rw[List.map_cons,List.map_cons,ih,h.1]
theorem KV.length{kvs:List (κ×V)}{vs:List (κ×Value)}(r:KV kvs vs):kvs.length=vs.length:=Paired.length r
end
theorem kV_is{P:Program}{w:World}{k:Key}{u:Value}(r:RelV (kV k) u):(mixKind P w).is k u=true:=by
 cases k with
 |inl i=>obtain⟨t,e⟩:=(show ∃t,u=Value.int i t from r);subst e;exact mixKind_int P w i t
 |inr x=>obtain⟨t,e⟩:=(show ∃t,u=Value.str x t from r);subst e;exact mixKind_str P w x t
theorem items_are{P:Program}{w:World}:∀{ks:List Key} {us:List Value},Vals (ks.map kV) us->ItemsAre (mixKind P w) ks us
 |[],_,r=>by rw[List.map_nil] at r;cases r;exact .nil
 |k::ks,_,r=>by
  rw[List.map_cons] at r
  cases r with
  |cons h t=>exact .cons (kV_is h) (items_are t)
abbrev KT(H:Hp):List (List Key×V)->List (List Key×Addr×Value)->Prop:=Paired λp q=>p.1=q.1∧H q.2.1=some (.tup (p.1.map kV))∧RelV p.2 q.2.2
theorem KT.val{H:Hp}{kvs:List (List Key×V)}{xs:List (List Key×Addr×Value)}(r:KT H kvs xs)(k:List Key):RelO (valV kvs k) ((atKey xs k).map (·.2)):=by
 induction r with
 |nil=>exact True.intro
 | @cons p q ps qs h t ih=>
  obtain⟨h1,_,h2⟩:=h
  by_cases e:p.1=k
  .have e':q.1=k:=h1.symm.trans e
   have b:atKey (q::qs) k=some q.2:=by simp[atKey,List.find?_cons,e']
   rw[valV_pos e,b];exact h2
  .have e':¬q.1=k:=λz=>e (h1.trans z)
   have b:atKey (q::qs) k=atKey qs k:=by simp[atKey,List.find?_cons,e']
   rw[valV_neg e,b];exact ih
theorem KT.repl{H:Hp}{kvs:List (List Key×V)}{xs:List (List Key×Addr×Value)}(r:KT H kvs xs)(k:List Key){y:V}{u:Value}(ry:RelV y u):
  KT H (kvs.map λkv=>if kv.1=k then (kv.1,y) else kv) (xs.map (putAt k u)):=by
 induction r with
 |nil=>exact .nil
 | @cons p q ps qs h t ih=>
  rw[List.map_cons,List.map_cons]
  refine .cons ?_ ih
  obtain⟨h1,h2,h3⟩:=h
  unfold putAt
  by_cases e:p.1=k
  .rw[if_pos e,if_pos (h1.symm.trans e)];exact⟨h1,h2,ry⟩
  .rw[if_neg e,if_neg (λz=>e (h1.trans z))];exact⟨h1,h2,h3⟩
theorem KT.put{H:Hp}{kvs:List (List Key×V)}{xs:List (List Key×Addr×Value)}(r:KT H kvs xs)(k:List Key){b:Addr}{y:V}{u:Value}(hb:H b=some (.tup (k.map kV)))(ry:RelV y u):
  KT H (putK kvs k y) (storedH xs k b u):=by
 have e:(kvs.any λkv=>decide (kv.1=k))=(atKey xs k).isSome:=by
  rw[valV_any,(r.val k).isSome_eq,Option.isSome_map]
 unfold putK storedH
 rw[e]
 by_cases q:(atKey xs k).isSome=true
 .rw[if_pos q,if_pos q];exact r.repl k ry
 .rw[if_neg q,if_neg q];exact Paired.snoc r ⟨rfl,hb,ry⟩
theorem KT.keeps{H H':Hp}{kvs:List (List Key×V)}{xs:List (List Key×Addr×Value)}(r:KT H kvs xs)(ht:∀b ys,H b=some (.tup ys)->H' b=some (.tup ys)):KT H' kvs xs:=
 Paired.mapP r λ_ _ z=>⟨z.1,ht _ _ z.2.1,z.2.2⟩
section
variable{P:Program}{w:World}{H:Hp}{h:Heap}{a:Addr}
theorem rd_of{u:HO}(ok:HOk P w H h)(e:Rd H a u):ObjOk P w H h a u:=e.ok ok
theorem dk_rd{kvs:List (Key×V)}(ok:HOk P w H h)(e:Rd H a (.dK kvs)):kvs.length≤sizeLine∧(a==sysModules)=false∧∃vs,KV kvs vs∧h.DictOf (mixKind P w) a vs:=
 show ObjOk P w H h a (.dK kvs) from rd_of ok e
theorem dk_of{kvs:List (Key×V)}(ok:HOk P w H h)(e:H a=some (.dK kvs)):kvs.length≤sizeLine∧(a==sysModules)=false∧∃vs,KV kvs vs∧h.DictOf (mixKind P w) a vs:=dk_rd ok (.inl e)
theorem key_of{ks:List Key}(ok:HOk P w H h)(e:H a=some (.tup (ks.map kV))):(tupleKind (mixKind P w)).is h ks a:=by
 obtain⟨_,its,r,p⟩:=(show ObjOk P w H h a (.tup (ks.map kV)) from ok a _ e)
 obtain⟨o,h1,h2,n,h3⟩:=p.is
 exact⟨o,its.toArray,n,h1,h2,h3,by simpa using items_are r⟩
theorem dt_rd{kvs:List (List Key×V)}(ok:HOk P w H h)(e:Rd H a (.dT kvs)):kvs.length≤sizeLine∧(a==sysModules)=false∧
  ∃xs,KT H kvs xs∧h.DictOfH (tupleKind (mixKind P w)) a xs:=by
 obtain⟨z,y,xs,r,o,es,ep,h1,h2,h3,h4,h5⟩:=(show ObjOk P w H h a (.dT kvs) from rd_of ok e)
 refine⟨z,y,xs,r,o,es,ep,h1,h2,h3,h4,λx hx=> ?_,h5⟩
 have all:∀{l:List (List Key×V)} {m:List (List Key×Addr×Value)},KT H l m->∀x∈m,(tupleKind (mixKind P w)).is h x.1 x.2.1:=by
  intro l m q
  induction q with
  |nil=>intro x hx;exact nomatch hx
  | @cons p q ps qs hq t ih=>
   intro x hx
   rcases List.mem_cons.mp hx with e|hx
   .subst e
    exact key_of ok (by rw[←hq.1];exact hq.2.1)
   .exact ih x hx
 exact all r x hx
theorem dt_of{kvs:List (List Key×V)}(ok:HOk P w H h)(e:H a=some (.dT kvs)):kvs.length≤sizeLine∧(a==sysModules)=false∧
 ∃xs,KT H kvs xs∧h.DictOfH (tupleKind (mixKind P w)) a xs:=dt_rd ok (.inl e)
end
def DGet(H:Hp)(a:Addr)(y:V)(r:Option V):Prop:=
 (∃kvs k,Rd H a (.dK kvs)∧y=kV k∧r=valV kvs k)∨∃kvs k b,Rd H a (.dT kvs)∧y= .ref b∧H b=some (.tup (k.map kV))∧r=valV kvs k
def DPut(H:Hp)(a:Addr)(y v:V)(H':Hp):Prop:=
 (∃kvs k,H a=some (.dK kvs)∧y=kV k∧kvs.length<sizeLine∧H'=upd H a (.dK (putK kvs k v)))∨
 ∃kvs k b,H a=some (.dT kvs)∧y= .ref b∧H b=some (.tup (k.map kV))∧kvs.length<sizeLine∧H'=upd H a (.dT (putK kvs k v))
theorem DPut.k{H:Hp}{a:Addr}{kvs:List (Key×V)}{k:Key}{v:V}(e:H a=some (.dK kvs))(hl:kvs.length<sizeLine):DPut H a (kV k) v (upd H a (.dK (putK kvs k v))):= .inl ⟨kvs,k,e,rfl,hl,rfl⟩
section
variable{X:Cx}{pins:List (Addr×Obj)}{σ:St}{H:Hp}{s:Shared}{a:Addr}{y v:V}{u r:Value}{o:Option V}{A:Around}{E:Value->Shared->Prop}
theorem Inv.big(I:Inv X pins σ H s):sysModules<s.heap.objs.size:=by
 have h:mainGlobals<s.heap.objs.size:=(I.mod.glob.keeps I.bk).lt
 exact Nat.lt_trans (by decide) h
theorem d_getItem{Q:Value->Shared->Prop}(hu:A.units+1<cLine)(I:Inv X pins σ H s)(g:DGet H a y (some v))(ry:RelV y u)(h:∀w' s',Inv X pins σ H s'->RelV v w'->Q w' s'):
  wpAny (model X.prog X.w) A (getItem (.ref a) u) Q E s:=by
 rcases g with⟨kvs,k,e,ey,l⟩|⟨kvs,k,b,e,ey,eb,l⟩
 .subst ey
  obtain⟨z,hd,vs,rel,dd⟩:=dk_rd I.hok e
  obtain⟨w',hw,rw'⟩:=RelO.some_of (v:=v) (o:=valueAt vs k) (by rw[l];exact rel.val k)
  exact wpAny_getItem_of (kV_is ry) dd.mapOf hw (h w' _ (I.tok _) rw')
 .subst ey
  cases (show u=Value.ref b from ry)
  obtain⟨z,hd,xs,rel,dd⟩:=dt_rd I.hok e
  obtain⟨w',hw,rw'⟩:=RelO.some_of (v:=v) (o:=(atKey xs k).map (·.2)) (by rw[l];exact rel.val k)
  obtain⟨p,hp,hp2⟩:=Option.map_eq_some_iff.mp hw
  refine wpAny_getItem_heap (tupleKind_room_in1 hu) (key_of I.hok eb) dd hp ?_
  rw[hp2]
  exact h w' _ (I.tok _) rw'
theorem d_in{Q:Value->Shared->Prop}(hu:A.units+1<cLine)(I:Inv X pins σ H s)(g:DGet H a y o)(ry:RelV y u)(h:∀s',Inv X pins σ H s'->Q (.bool o.isSome) s'):
  wpAny (model X.prog X.w) A (compareOp .In u (.ref a)) Q E s:=by
 rcases g with⟨kvs,k,e,ey,l⟩|⟨kvs,k,b,e,ey,eb,l⟩
 .subst ey
  obtain⟨z,hd,vs,rel,dd⟩:=dk_rd I.hok e
  refine wpAny_in_of (kV_is ry) hd dd.mapOf ?_
  rw[←(rel.val k).isSome_eq,←l]
  exact h _ (I.tok _)
 .subst ey
  cases (show u=Value.ref b from ry)
  obtain⟨z,hd,xs,rel,dd⟩:=dt_rd I.hok e
  refine wpAny_in_heap (tupleKind_room_in1 hu) (key_of I.hok eb) hd dd ?_
  have q:=(rel.val k).isSome_eq
  rw[Option.isSome_map] at q
  rw[←q,←l]
  exact h _ (I.tok _)
theorem d_notIn{Q:Value->Shared->Prop}(hu:A.units+1<cLine)(I:Inv X pins σ H s)(g:DGet H a y o)(ry:RelV y u)(h:∀s',Inv X pins σ H s'->Q (.bool (!o.isSome)) s'):
  wpAny (model X.prog X.w) A (compareOp .NotIn u (.ref a)) Q E s:=by
 rcases g with⟨kvs,k,e,ey,l⟩|⟨kvs,k,b,e,ey,eb,l⟩
 .subst ey
  obtain⟨z,hd,vs,rel,dd⟩:=dk_rd I.hok e
  refine wpAny_notIn_of (kV_is ry) hd dd.mapOf ?_
  rw[←(rel.val k).isSome_eq,←l]
  exact h _ (I.tok _)
 .subst ey
  cases (show u=Value.ref b from ry)
  obtain⟨z,hd,xs,rel,dd⟩:=dt_rd I.hok e
  refine wpAny_notIn_heap (tupleKind_room_in1 hu) (key_of I.hok eb) hd dd ?_
  have q:=(rel.val k).isSome_eq
  rw[Option.isSome_map] at q
  rw[←q,←l]
  exact h _ (I.tok _)
theorem d_write{h':Heap}{t':Nat}{ob:HO}(I:Inv X pins σ H s)(mu:Mut (H a))(hs:Heap.SameBut a s.heap h')(he:∃q,h'.get? a=some q)(new:ObjOk X.prog X.w (upd H a ob) h' a ob):
  Inv X pins σ (upd H a ob) {s with heap:=h',toks:=t'}:=
 I.write (x:=a) (e:=a) mu (.inl rfl) (λb q hb z=>(hs.2 b hb).trans z) he new
theorem dk_new{P:Program}{w:World}{H':Hp}{h':Heap}{kvs:List (Key×V)}{vs:List (Key×Value)}(z:kvs.length≤sizeLine)(hd:(a==sysModules)=false)(rel:KV kvs vs)(dd:h'.DictOf (mixKind P w) a vs):
 ObjOk P w H' h' a (.dK kvs):=⟨z,hd,vs,rel,dd⟩
theorem d_setItem{H':Hp}{Q:Unit->Shared->Prop}(hu:A.units+1<cLine)(I:Inv X pins σ H s)(g:DPut H a y v H')(ry:RelV y u)(rv:RelV v r)(h:∀s',Inv X pins σ H' s'->Q () s'):
  wpAny (model X.prog X.w) A (setItem (.ref a) u r) Q E s:=by
 rcases g with⟨kvs,k,e,ey,l,eH⟩|⟨kvs,k,b,e,ey,eb,l,eH⟩
 .subst ey eH
  obtain⟨z,hd,vs,rel,dd⟩:=dk_of I.hok e
  have hz:vs.length≤sizeLine:=by rw[←rel.length];exact z
  have hl:(putK kvs k v).length≤sizeLine:=by have:=length_putK kvs k v;omega
  refine wpAny_setItem_pairs (hsz:=hz) (kV_is ry) dd λh' dd' hs=>h _ ?_
  have he:∃q,h'.get? a=some q:=let ⟨q,_,_,hq,_⟩:=dd';⟨q,hq⟩
  exact d_write I (by rw[e];exact True.intro) hs he (dk_new hl hd (rel.put k rv) dd')
 .subst ey eH
  cases (show u=Value.ref b from ry)
  obtain⟨z,hd,xs,rel,dd⟩:=dt_of I.hok e
  have hz:xs.length≤sizeLine:=by rw[←Paired.length rel];exact z
  have hl:(putK kvs k v).length≤sizeLine:=by have:=length_putK kvs k v;omega
  refine wpAny_setItem_heap (hsz:=hz) (tupleKind_room_in1 hu) (key_of I.hok eb) dd λh' dd' hs=>h _ ?_
  obtain⟨q,es,ep,hq,h2,h3,h4,_,h5⟩:=dd'
  refine d_write I (by rw[e];exact True.intro) hs ⟨q,hq⟩ ⟨hl,hd,_,(rel.put k eb rv).keeps λc ys ec=> ?_,q,es,ep,hq,h2,h3,h4,h5⟩
  rw[upd_ne (ne_of ec e (λz=>nomatch z))]
  exact ec
end
section
variable{X:Cx}{pins:List (Addr×Obj)}{σ:St}{H:Hp}{s:Shared}{a:Addr}{kvs:List (Key×V)}{k:Key}{u:Value}{A:Around}{E:Value->Shared->Prop}
theorem d_len{Q:Value->Shared->Prop}(I:Inv X pins σ H s)(e:Rd H a (.dK kvs))(h:∀t s',Inv X pins σ H s'->Q (.int kvs.length t) s'):wpAny (model X.prog X.w) A (call (.builtin "len") [.ref a]) Q E s:=by
 obtain⟨z,hd,vs,rel,dd⟩:=dk_rd I.hok e
 refine call_len_dict hd dd (by rw[←rel.length];rw[sizeLine_eq] at z;omega) ?_
 rw[←rel.length]
 exact h _ _ (I.tok _)
end
theorem dict_typeIs{X:Cx}{pins:List (Addr×Obj)}{σ:St}{H:Hp}{s:Shared}{a:Addr}{y:V}{o:Option V}(I:Inv X pins σ H s)(g:DGet H a y o):s.TypeIs (.ref a) "dict" :=by
 rcases g with⟨kvs,k,e,_,_⟩|⟨kvs,k,b,e,_,_,_⟩
 .obtain⟨_,_,vs,_,dd⟩:=dk_rd I.hok e
  exact dd.typeIs
 .obtain⟨_,_,xs,_,dd⟩:=dt_rd I.hok e
  exact dd.typeIs
def sDPut(td ty tv:TE):TS:=λD σ H=>tv σ H λv H1=>td σ H1 λx H2=>ty σ H2 λy H3=>∃a H4,x= .ref a∧DPut H3 a y v H4∧D.nx σ H4
section
variable{X:Cx}{o i e value:Expr}{pos pos' tpos:Pos}{td ty tv:TE}
theorem ps_dput(hu:X.A.units+1<cLine)(ho:PE X o td)(hi:PE X i ty)(hv:PE X value tv)(hs:swapsWith value (some (.Subscript o i pos')) pos.line X.env=pure false):
  PS X (.Assign [.Subscript o i pos'] value pos) (sDPut td ty tv):=by
 intro pins s σ H D I h
 refine wpAny_Assign_Subscript (thn (hv pins s σ H _ I h) λr s1 ⟨v,H1,I1,rv,q1⟩=>thn (ho pins s1 σ H1 _ I1 q1) λu s2 ⟨x,H2,I2,rx,q2⟩=>thn (hi pins s2 σ H2 _ I2 q2) λiv s3 ⟨y,H3,I3,ry,a,H4,ex,g,q3⟩=> ?_) hs
 subst ex
 obtain rfl:u=Value.ref a:=rx
 exact d_setItem hu I3 g ry rv λs4 I4=>⟨σ,H4,I4,q3⟩
end
theorem dk_empty{P:Program}{w:World}{H:Hp}(h:Heap)(hb:sysModules<h.objs.size):ObjOk P w H (h.push {cls:= .type "dict",data:= .dict #[]}) h.objs.size (.dK []):=
 ⟨Nat.zero_le _,beq_eq_false_iff_ne.mpr (Ne.symm (Nat.ne_of_lt hb)),[],.nil,Heap.DictOf.new h⟩
def tDNewK:TE:=λ_ H Q=>∀p,H p=none->Q (.ref p) (upd H p (.dK []))
section
variable{X:Cx}{pos:Pos}
theorem pe_dnewK:PE X (.Dict [] [] pos) tDNewK:=λpins s σ H Q I h=>
 wpAny_Dict_empty ⟨.ref s.heap.objs.size,_,I.laid (a:=s.heap.objs.size) (o:= .dK []) (t':=s.toks) (λ_ _ q=>Heap.get?_push_of_some _ q) (Nat.le_refl _) (dk_empty s.heap I.big),rfl,h _ (I.hok.fresh (Nat.le_refl _))⟩
end
def tPairs:List (TE×TE)->St->Hp->(List (V×V)->Hp->Prop)->Prop
 |[],_,H,Q=>Q [] H
 |(tk,tv)::r,σ,H,Q=>tk σ H λx H1=>tv σ H1 λy H2=>tPairs r σ H2 λps H3=>Q ((x,y)::ps) H3
abbrev VV:List (V×V)->List (Value×Value)->Prop:=Paired λp q=>RelV p.1 q.1∧RelV p.2 q.2
def PPs(X:Cx)(pos:Pos)(keys:List (Option Expr))(values:List Expr)(trs:List (TE×TE)):Prop:=
 ∀(pins:List (Addr×Obj)) (s:Shared) (σ:St) (H:Hp) (Q:List (V×V)->Hp->Prop),Inv X pins σ H s->tPairs trs σ H Q->
  wpAny (model X.prog X.w) X.A (evalPairs (pairTrees keys values X.env pos)) (λvs s'=>∃ps H',Inv X pins σ H' s'∧VV ps vs∧Q ps H') X.xe s
theorem pps_nil{X:Cx}{pos:Pos}:PPs X pos [] [] []:=λpins s σ H Q I h=>pairTrees_nil_walk ⟨[],H,I,.nil,h⟩
theorem pps_cons{X:Cx}{pos:Pos}{k v:Expr}{ks:List (Option Expr)}{vs:List Expr}{tk tv:TE}{trs:List (TE×TE)}(hk:PE X k tk)(hv:PE X v tv)(hr:PPs X pos ks vs trs):
  PPs X pos (some k::ks) (v::vs) ((tk,tv)::trs):=λpins s σ H Q I h=>
 pairTrees_cons_walk (thn (hk pins s σ H _ I h) λu s1 ⟨x,H1,I1,rx,q1⟩=>thn (hv pins s1 σ H1 _ I1 q1) λw2 s2 ⟨y,H2,I2,ry,q2⟩=>
  thn (hr pins s2 σ H2 _ I2 q2) λws s3 ⟨ps,H3,I3,rel,q3⟩=>⟨(x,y)::ps,H3,I3,.cons ⟨rx,ry⟩ rel,q3⟩)
def mergeK(kvs more:List (Key×V)):List (Key×V):=more.foldl (λacc kv=>putK acc kv.1 kv.2) kvs
theorem KV.merge:∀{more:List (Key×V)} {rs:List (Key×Value)} {kvs:List (Key×V)} {vs:List (Key×Value)},KV more rs->KV kvs vs->KV (mergeK kvs more) (merged vs rs):=by
 intro more rs kvs vs r
 unfold KV at r
 induction r generalizing kvs vs with
 |nil=>intro q;exact q
 | @cons p q ps qs h t ih=>
  intro r0
  have e:KV (putK kvs p.1 p.2) (stored vs q.1 q.2):=by
   have:=r0.put p.1 h.2
   rw[←h.1];exact this
  exact ih e
theorem length_mergeK:∀(more kvs:List (Key×V)),(mergeK kvs more).length≤kvs.length+more.length
 |[],kvs=>by show kvs.length≤kvs.length+0;omega
 |p::r,kvs=>by
  have h1:=length_mergeK r (putK kvs p.1 p.2)
  have h2:=length_putK kvs p.1 p.2
  show(mergeK (putK kvs p.1 p.2) r).length≤_
  rw[List.length_cons];omega
theorem carries_of{P:Program}{w:World}:∀{kvs:List (Key×V)} {ws:List (Value×Value)},VV (kvs.map λkv=>(kV kv.1,kv.2)) ws->∃rs,Carries (mixKind P w) ws rs∧KV kvs rs
 |[],_,r=>by rw[List.map_nil] at r;cases r;exact⟨[],True.intro,.nil⟩
 |p::kvs,_,r=>by
  rw[List.map_cons] at r
  cases r with
  | @cons a b as bs h t=>
   obtain⟨rs,c,q⟩:=carries_of (P:=P) (w:=w) t
   obtain⟨b1,b2⟩:=b
   exact⟨(p.1,b2)::rs,⟨kV_is h.1,rfl,c⟩,.cons ⟨rfl,h.2⟩ q⟩
def tDisp(trs:List (TE×TE)):TE:=λσ H Q=>∀p,H p=none->tPairs trs σ (upd H p (.dK [])) λps H2=>H2 p=some (.dK [])∧∃kvs:List (Key×V),ps=kvs.map (λkv=>(kV kv.1,kv.2))∧kvs.length≤15∧Q (.ref p) (upd H2 p (.dK (mergeK [] kvs)))
theorem pe_disp{X:Cx}{pos:Pos}{keys:List (Option Expr)}{values:List Expr}{trs:List (TE×TE)}(h:PPs X pos keys values trs)(hall:keys.all (·.isSome)=true)(hl:keys.length=values.length)(h0:keys≠[])
  (h15:keys.length≤15):PE X (.Dict keys values pos) (tDisp trs):=by
 intro pins s σ H Q I q
 have hn:=I.hok.fresh (Nat.le_refl s.heap.objs.size)
 have I1:=I.laid (a:=s.heap.objs.size) (o:= .dK []) (h':=s.heap.push {cls:= .type "dict",data:= .dict #[]}) (t':=s.toks) (λ_ _ q=>Heap.get?_push_of_some _ q) (Nat.le_refl _) (dk_empty s.heap I.big)
 refine wpAny_Dict_walk (knd:=mixKind X.prog X.w) hall hl h0 h15 (thn (h pins _ σ _ _ I1 (q _ hn)) λws s2 ⟨ps,H2,I2,rel,e,kvs,ep,lk,q2⟩=> ?_)
 subst ep
 obtain⟨rs,c,rk⟩:=carries_of (P:=X.prog) (w:=X.w) rel
 obtain⟨z,hd,vs0,r0,dd⟩:=dk_of I2.hok e
 cases r0
 refine⟨rs,c,dd,λh' dd' hs=>⟨.ref s.heap.objs.size,_,?_,rfl,q2⟩⟩
 have hz:(mergeK [] kvs).length≤sizeLine:=by
  have h1:=length_mergeK kvs []
  rw[List.length_nil] at h1
  rw[sizeLine_eq];omega
 have he:∃q,h'.get? s.heap.objs.size=some q:=let ⟨q,_,_,hq,_⟩:=dd';⟨q,hq⟩
 exact d_write I2 (by rw[e];exact True.intro) hs he (dk_new hz hd (rk.merge .nil) dd')
section
variable{X:Cx}{pins:List (Addr×Obj)}{σ:St}{H:Hp}{s:Shared}{a:Addr}{y d:V}{u r:Value}{o:Option V}{A:Around}{E:Value->Shared->Prop}
end
section
variable{X:Cx}{o e f:Expr}{apos cpos:Pos}{td ty tx:TE}
end
section
variable{X:Cx}{pins:List (Addr×Obj)}{σ:St}{H:Hp}{s:Shared}{a:Addr}{kvs:List (Key×V)}{A:Around}{E:Value->Shared->Prop}
end
section
variable{X:Cx}{pins:List (Addr×Obj)}{σ:St}{H:Hp}{s:Shared}{a:Addr}{y:V}{u:Value}{A:Around}{E:Value->Shared->Prop}
end
end L2
namespace Att
open PySem PySem.W PySem.Calls PyProof.Rows
theorem ints_of_wellAll{P:Params}{h:Heap}:∀(ns:List Int) (vs:List Value),WellAll P h vs (ns.map WData.int)->IntsAre vs ns:=by
 intro ns
 induction ns with
 |nil=>
  intro vs w
  rw[List.map_nil] at w
  cases w
  exact .nil
 |cons n ns ih=>
  intro vs w
  rw[List.map_cons] at w
  cases w with
  |cons a b=>
   cases a
   exact .cons _ _ (ih _ b)
theorem script_of{l:OpenLaw}{n:Nat}(hn:l.most=some n){P:Params}{h:Heap}{args:List WData}{vals:List Value}
  (hpre:l.row.toRowW.claim.pre args=true)(hwl:WellAll P h vals args):
  ∃a vs ns,vals=[Value.ref a]∧args=[WData.list (ns.map WData.int)]∧h.get? a=some {cls:= .type "list",data:= .seq vs.toArray}∧IntsAre vs ns∧ns.length≤n:=by
 have hsh:WShape.hasAll [] args [.list .int]=true:=(pre_splitW hpre).1
 have hc:l.pre.holds [] {args:=args}=true:=(pre_splitW hpre).2
 obtain⟨d,r,rfl,h1,h2⟩:=hasAllW_cons hsh
 obtain rfl:=hasAllW_nil h2
 obtain⟨xs,rfl,h3⟩:=hasW_list h1
 obtain⟨ns,rfl⟩:=items_int h3
 have hlen:ns.length≤n:=by
  unfold OpenLaw.pre at hc
  have h4:(WTm.not (.lt (.lit (.int (n:Int))) (.len (.arg 0)))).holds [] {args:=[.list (ns.map .int)]}=true:=by
   have h4:=(holds_andW hc).1
   rw[hn] at h4
   exact h4
  have h5:=condW_of h4 (w_not (w_lt w_lit (w_len_list (w_arg rfl))))
  rw[List.length_map] at h5
  refine Nat.le_of_not_lt λq=> ?_
  have q':(n:Int)<((ns.length:Nat):Int):=by omega
  first
   |(rw[decide_eq_true q'] at h5;exact absurd h5 (by decide))
   |(simp at h5;omega)
 cases hwl with
 |cons w1 w2=>
  cases w2
  cases w1 with
  |list ho hall=>exact⟨_,_,ns,rfl,rfl,ho,ints_of_wellAll ns _ hall,hlen⟩
theorem post_true(l:OpenLaw)(args:List WData):l.row.toRowW.claim.post args (.bool true) args=true:=
 postW_of (r:=l.row.toRowW) (X:=(true==true))
  (show WShape.has [] (.bool true) .bool=true by first|rfl|decide|simp[WShape.has,WShape.arms,WShape.armsAll])
  (show(WTm.eq .res (.lit (.bool true))).value [] {args:=args,res:=some (.bool true),after:=args}=some (.bool (true==true)) from w_eq_bool (w_res rfl) w_lit) rfl
theorem attach_call{l:OpenLaw}{n:Nat}{q:Program}{loose:List Str}{XP:(Str->Option Value)->Heap->Prop}{YP:World->Heap->Prop}{d:DefRec}
  (hn:l.most=some n)(hdf:d.params.defaults=[])
  (call:∀(w:World) (s₀ s₁:Shared) (mg mb:Str->Option Value) (fa:Addr) (o:Obj) (pm cd doc:Value) (a:Addr) (vs:List Value) (ns:List Int),
   Ground q loose [] XP w s₀ mg mb s₁.heap->YP w s₁.heap->
   s₁.heap.get? fa=some o->o.data= .func (docDef d.name d.params d.body d.scope pm cd doc)->s₁.heap.CodeRec cd d.name->mg d.name=some (.ref fa)->
   s₁.heap.get? a=some {cls:= .type "list",data:= .seq vs.toArray}->IntsAre vs ns->ns.length≤n->s₁.gens= #[]->
   codeAny (model l.prog w) callerA (.call (.ref fa) ⟨[.ref a],[]⟩) (λr s'=>r= .ok (.ret (.bool true))∧OldK s₁.heap s'.heap∧s'.os=s₁.os∧AllBare s'.gens) s₁):
  WalkO q loose XP YP l.row.toRowW d [] (λf vs=>PySem.call f vs):=by
 intro w s₀ s₁ mg mb G Y fa o pm cd doc dV kV ho hd hcd hD hmg hg args vals as hpre hlay hrd hwl hlo
 obtain rfl:dV= .none:=Dflts.none hD hdf
 obtain rfl:kV= .none:=Dflts.noKw hD
 obtain⟨a,vs,ns,rfl,rfl,hobj,hints,hlen⟩:=script_of hn hpre hwl
 refine enter_call (codeAny_mono (call w s₀ s₁ mg mb fa o pm cd doc a vs ns G Y ho (fd_plain hd) hcd hmg hobj hints hlen hg) λr s' hq=> ?_)
 obtain⟨rfl,h2,h3,h4⟩:=hq
 exact⟨.inl ⟨.bool true,.bool true,[],rfl,λ_=>rfl,.bool true,post_true l _,λ_=>⟨List.Pairwise.nil,λ_ hm=>(nomatch hm)⟩⟩,h2,h3,h4⟩
section
variable{prog:Program}{w:World}{A:Around}{E:Value->Shared->Prop}{s:Shared}{K:Frag}
end
end Att
namespace L2
open PySem PySem.Spec PyProof.Rows
theorem vals_ints:∀{vs:List Value} {ns:List Int},IntsAre vs ns->Vals (ns.map V.int) vs
 |_,_,.nil=> .nil
 |_,_,.cons n t h=> .cons ⟨t,rfl⟩ (vals_ints h)
def Only(H:Hp):Prop:=∀b,H b=none∨∃o xs,H b=some (.frz o (.lst xs))
theorem law_call{P:Program}{w:World}{K:PySem.W.Frag}{mg mb:Str->Option Value}{CX:CXT}{k:Nat}{fa a:Addr}{fd:FuncData}{x:Str}{sp:Sp}{s₁:Shared}{vs:List Value}{ns:List Int}
  (KX:K.In s₁.heap)(hns:s₁.heap.Ns mainGlobals mg)(hb:s₁.heap.Ns builtinsNs mb)(hbb:∀x:Str,x≠"__name__"->mb x=bootBuiltins x)(hlim:s₁.heap.NoLimit)(hg:s₁.gens= #[])
  (ha:s₁.heap.get? a=some {cls:= .type "list",data:= .seq vs.toArray})(hi:IntsAre vs ns)(hl:ns.length≤sizeLine)(hr:Room k callerA)
  (F:∀base:Heap,K.In base->base.Ns mainGlobals mg->FnOk P w K mg base CX k fa fd [x] sp)(hbind:∀(s:Shared) (u:Value),BindsTo s fd ⟨[u],[]⟩ [(x,u)])
  (hsp:∀H:Hp,Only H->SqL K H a (ns.map V.int)->sp [.ref a] H (λv _=>v= .bl true) λ_ _ _=>False)
  (hCX:∀H e s',CX [] H s₁ (λ_ _ _=>False) e s'->False):
  codeAny (model P w) callerA (.call (.ref fa) ⟨[.ref a],[]⟩) (λr s'=>r= .ok (.ret (.bool true))∧OldK s₁.heap s'.heap∧s'.os=s₁.os∧AllBare s'.gens) s₁:=by
 have rv:=vals_ints hi
 have lenV:=hi.length
 have core:∀H:Hp,Only H->SqL K H a (ns.map V.int)->HOk P w H s₁.heap->(∀b,H b≠none->b=a)->(H a≠none->K.lookup a=none)->
   codeAny (model P w) callerA (.call (.ref fa) ⟨[.ref a],[]⟩) (λr s'=>r= .ok (.ret (.bool true))∧OldK s₁.heap s'.heap∧s'.os=s₁.os∧AllBare s'.gens) s₁:=by
  intro H hO hS hok hA hK
  have base_of:∀{b:Addr} {o:Obj},s₁.heap.get? b=some o->H b=none->(hidT s₁.heap H).get? b=some o:=λe n=>hidT_get e n
  have noA:∀{b:Addr} {o:Obj} {es:Array DictEntry} {ep:Nat},s₁.heap.get? b=some o->o.data= .dict es ep->H b=none:=λ {b o es ep} e d=>by
   cases q:H b with
   |none=>rfl
   |some u=>
    have e':b=a:=hA b (by rw[q];simp)
    subst e'
    rw[ha] at e;cases e
    have d':Data.seq vs.toArray _=Data.dict es ep:=d
    cases d'
  have nsK:∀{b:Addr} {m:Str->Option Value},s₁.heap.Ns b m->(hidT s₁.heap H).Ns b m:=λ {b m} ⟨o,es,ep,e,d,r⟩=>⟨o,es,ep,base_of e (noA e d),d,r⟩
  have hKb:K.In (hidT s₁.heap H):=λb o e=>base_of (KX b o e) (by
   cases q:H b with
   |none=>rfl
   |some u=>
    have e':b=a:=hA b (by rw[q];simp)
    subst e'
    rw[hK (by rw[q];simp)] at e;cases e)
  have hM:Mod K mg (hidT s₁.heap H):=⟨hKb,nsK hns,⟨mb,nsK hb,hbb⟩,let ⟨mc,h1,h2⟩:=hlim;⟨mc,nsK h1,h2⟩⟩
  have e0:Env0 P w K mg (hidT s₁.heap H) callerA [] s₁ H:=⟨rfl,hM,λb o e=>of_hidT e,Nat.le_of_eq (hidT_size _ _),trivial,λb hb=>absurd (show b∈([]:List Addr) from hb) (by simp),hok,.of_eq hg⟩
  refine codeAny_mono ((F _ hKb (nsK hns)).run callerA [] s₁ H ⟨[.ref a],[]⟩ [.ref a] [.ref a] _ _ hr e0 (hbind s₁ (.ref a)) (.cons rfl .nil) (hsp H hO hS)) λr s' h=> ?_
  cases r with
  |error e=>exact(hCX H e s' h).elim
  |ok fl=>
   cases fl with
   |next=>exact False.elim h
   |brk=>exact False.elim h
   |cont=>exact False.elim h
   |ret u=>
    obtain⟨v,H',os,bare,un,hok',r',q⟩:=h
    have q':v= .bl true:=q
    subst q'
    obtain rfl:u=Value.bool true:=r'
    refine⟨rfl,OldK.of_keep λb o e=> ?_,os,bare⟩
    cases q:H b with
    |none=>exact un.keep b o e q (by intro z;exact absurd (show b∈([]:List Addr) from z) (by simp)) (by simp)
    |some u=>
     rcases hO b with z|⟨ob,xs,z⟩
     .rw[q] at z;cases z
     .have z2:=un.frzs b ob _ z
      obtain⟨e1,_⟩:=hok b _ z
      obtain⟨e2,_⟩:=hok' b _ z2
      rw[e] at e1;cases e1
      exact e2
 cases hk:K.lookup a with
 |some o=>
  have e:=KX a o hk
  rw[ha] at e
  cases e
  refine core (λ_=>none) (λ_=> .inl rfl) (.inr ⟨_,vs.toArray,_,hk,rfl,rfl,rfl,by rw[List.size_toArray,lenV];exact hl,by simpa using rv⟩) (λb u z=>by have z':(none:Option HO)=some u:=z;cases z') (λb z=>absurd rfl z) λz=>absurd rfl z
 |none=>
  refine core (λb=>if b=a then some (.frz {cls:= .type "list",data:= .seq vs.toArray} (.lst (ns.map V.int))) else none) (λb=> ?_) (.inl (.inr ⟨{cls:= .type "list",data:= .seq vs.toArray},if_pos rfl⟩)) (λb u z=> ?_) (λb z=> ?_) λ_=>hk
  .by_cases hb:b=a
   .exact .inr ⟨_,_,if_pos hb⟩
   .exact .inl (if_neg hb)
  .by_cases hb:b=a
   .have z':=(if_pos hb).symm.trans z
    cases z'
    subst hb
    exact⟨ha,by rw[List.length_map];exact hl,vs,_,rv,ha⟩
   .have z':=(if_neg hb).symm.trans z
    cases z'
  .by_cases hb:b=a
   .exact hb
   .exact absurd (if_neg hb) z
end L2
namespace L2
open PySem PySem.Spec PyProof.Rows
theorem walk_of{l:PySem.W.OpenLaw}{n k:Nat}{q:Program}{loose:List Str}{XP:(Str->Option Value)->Heap->Prop}{YP:World->Heap->Prop}{d:DefRec}{K:Params->PySem.W.Frag}{CX:World->CXT}{sp:World->Sp}{x:Str}
  (hn:l.most=some n)(hn2:n≤sizeLine)(hdf:d.params.defaults=[])(hr:Room k callerA)
  (hY:∀(w:World) (h:Heap),YP w h->(K w.params).In h)
  (F:∀(w:World) (mg:Str->Option Value) (fa:Addr) (h:Heap),(K w.params).In h->h.Ns mainGlobals mg->mg d.name=some (.ref fa)->
   ∃fd:FuncData,(∀(s:Shared) (u:Value),BindsTo s fd ⟨[u],[]⟩ [(x,u)])∧
    ∀base:Heap,(K w.params).In base->base.Ns mainGlobals mg->FnOk l.prog w (K w.params) mg base (CX w) k fa fd [x] (sp w))
  (hsp:∀(w:World) (H:Hp) (a:Addr) (ns:List Int),ns.length≤n->Only H->SqL (K w.params) H a (ns.map V.int)->sp w [.ref a] H (λv _=>v= .bl true) λ_ _ _=>False)
  (hCX:∀(w:World) (H:Hp) (s:Shared) (e:Value) (s':Shared),CX w [] H s (λ_ _ _=>False) e s'->False):
  PySem.W.WalkO q loose XP YP l.row.toRowW d [] (λf vs=>PySem.call f vs):=by
 refine Att.attach_call hn hdf λw s₀ s₁ mg mb fa o pm cd doc a vs ns G Y ho hd hcd hmg hobj hints hlen hg=> ?_
 have KX:=hY w _ Y
 obtain⟨fd,hb,hF⟩:=F w mg fa _ KX G.T.g hmg
 exact law_call KX G.T.g G.T.b G.T.builtins G.T.nolimit hg hobj hints (Nat.le_trans hlen hn2) hr hF hb (λH hO hS=>hsp w H a ns hlen hO hS) λH e s'=>hCX w H s₁ e s'
end L2
namespace L2
open PySem PySem.Spec PyProof.Rows
def defArgs(s:Stmt):Arguments:=match s with
 | .FunctionDef _ a _ _ _ _ _ _ _ _=>a
 |_=>{posonlyargs:=[],args:=[],vararg:=none,kwonlyargs:=[],kw_defaults:=[],kwarg:=none,defaults:=[]}
def defBody(s:Stmt):List Stmt:=match s with
 | .FunctionDef _ _ b _ _ _ _ _ _ _=>b
 |_=>[]
def defScope(s:Stmt):Scope:=match s with
 | .FunctionDef _ _ _ _ _ _ sc _ _ _=>sc
 |_=>{kind:= .function,names:=[],isGenerator:=false,isCoroutine:=false}
structure Fun(K:PySem.W.Frag)(x qual:Str)(st:Stmt)(f:Addr)(fd:FuncData):Prop where
 ex:∃(oc:Value) (od:Option Addr) (kV doc pm:Value) (an:Option Addr) (cdv ct:Value) (osl:Array (Option Value)),
  fd=PySem.W.fnOf x qual (defArgs st) (defBody st) (defScope st) .none kV doc pm an cdv ct∧K.lookup f=some ⟨oc,od,.func fd,osl⟩∧PySem.W.codeIn K cdv qual=true
 kp:PySem.W.keepIn K (.ref f)=true
section
variable{P:Program}{w:World}{K:PySem.W.Frag}{mg:Str->Option Value}{base:Heap}
theorem Fun.binds{x qual:Str}{st:Stmt}{f:Addr}{fd:FuncData}{ps:List Str}(F:Fun K x qual st f fd)
  (h:∀(kV doc pm:Value) (an:Option Addr) (cdv ct:Value) (us:List Value),us.length=ps.length->bindArgs (PySem.W.fnOf x qual (defArgs st) (defBody st) (defScope st) .none kV doc pm an cdv ct) ⟨us,[]⟩=pure (ps.zip us)):Binds K fd ps []:=by
 obtain⟨oc,od,kV,doc,pm,an,cdv,ct,osl,rfl,lk,hcd⟩:=F.ex
 exact .all (h kV doc pm an cdv ct)
theorem fun_mk{x qual:Str}{st:Stmt}{f:Addr}{oc:Value}{od an:Option Addr}{osl:Array (Option Value)}{kV doc pm cdv ct:Value}(l:K.lookup f=some ⟨oc,od,.func (PySem.W.fnOf x qual (defArgs st) (defBody st) (defScope st) .none kV doc pm an cdv ct),osl⟩)
 (c:PySem.W.codeIn K cdv qual=true)(k:PySem.W.keepIn K (.ref f)=true):Fun K x qual st f (PySem.W.fnOf x qual (defArgs st) (defBody st) (defScope st) .none kV doc pm an cdv ct):=⟨⟨oc,od,kV,doc,pm,an,cdv,ct,osl,rfl,l,c⟩,k⟩
end
section
variable{X:Cx}
theorem call_lenD:CallR X (.builtin "len") (λxs H Q=>∃a kvs,xs=[V.ref a]∧H a=some (.dK kvs)∧Q (.int kvs.length) H):=by
 intro pins s σ H xs us Q I r h
 obtain⟨a,kvs,rfl,ha,q⟩:=h
 obtain⟨u,rfl,ru⟩:=vals1 r
 cases ru
 exact d_len I (.inl ha) λt s' I'=>⟨.int kvs.length,H,I',⟨t,rfl⟩,q⟩
end
theorem iteF{A B:Prop}(h:B):if false=true then A else B:=by
 rw[if_neg Bool.false_ne_true]
 exact h
theorem iteT{A B:Prop}(h:A):if true=true then A else B:=by
 rw[if_pos rfl]
 exact h
def Same(H H':Hp):Prop:=∀b o,H b=some o->H' b=some o
section
variable{κ:Type}[DecidableEq κ]
end
end L2
namespace PySem
open Sem (wp)
namespace ZL
section
variable{prog:Program}{w:World}{A:Around}{E:Value->Shared->Prop}{s:Shared}
end
namespace F
end F
section
variable{prog:Program}{w:World}{A:Around}{s:Shared}{R:Result->Shared->Prop}{z TI TO i1 i2 l1 l2 base S:Addr}{xs ys:Array Value}
end
section
variable{prog:Program}{w:World}{A:Around}{E:Value->Shared->Prop}{s:Shared}
end
end ZL
end PySem
namespace L2
open PySem PySem.Spec PyProof.Rows
def freesOf:List (Str×NameKind)->List Str
 |[]=>[]
 |(n,k)::r=>if (k==NameKind.free)=true then n::freesOf r else freesOf r
def clFrom(env:Env):List (Str×NameKind)->List (Str×Addr)->List (Str×Addr)
 |[],acc=>acc
 |(n,k)::r,acc=>if (k==NameKind.free)=true then clFrom env r ((n,(env.cells.lookup n).getD 0)::acc) else clFrom env r acc
theorem closure_loop{env:Env}{f:(Str×NameKind)->List (Str×Addr)->Sem (ForInStep (List (Str×Addr)))}
  (h1:∀n k cs c,(k==NameKind.free)=true->env.cells.lookup n=some c->f (n,k) cs=pure (.yield ((n,c)::cs)))(h2:∀n k cs,(k==NameKind.free)=false->f (n,k) cs=pure (.yield cs)):
  ∀(names:List (Str×NameKind)) (acc:List (Str×Addr)),(∀n∈freesOf names,∃c,env.cells.lookup n=some c)->forIn names acc f=pure (clFrom env names acc)
 |[],acc,_=>by rw[List.forIn_nil];rfl
 |(n,k)::r,acc,h=>by
  rw[List.forIn_cons]
  cases e:(k==NameKind.free) with
  |true=>
   have hf:freesOf ((n,k)::r)=n::freesOf r:=by show(if (k==NameKind.free)=true then n::freesOf r else freesOf r)=_;rw[if_pos e]
   obtain⟨c,hc⟩:=h n (by rw[hf];exact List.mem_cons_self)
   rw[h1 n k acc c e hc,pure_bind]
   show forIn r ((n,c)::acc) f=_
   rw[closure_loop h1 h2 r _ λm hm=>h m (by rw[hf];exact List.mem_cons_of_mem _ hm)]
   have hcl:clFrom env ((n,k)::r) acc=clFrom env r ((n,(env.cells.lookup n).getD 0)::acc):=by
    show(if (k==NameKind.free)=true then _ else _)=_
    rw[if_pos e]
   rw[hcl,hc]
   rfl
  |false=>
   have hf:freesOf ((n,k)::r)=freesOf r:=by show(if (k==NameKind.free)=true then n::freesOf r else freesOf r)=_;rw[if_neg (by rw[e];decide)]
   rw[h2 n k acc e,pure_bind]
   show forIn r acc f=_
   rw[closure_loop h1 h2 r _ λm hm=>h m (by rw[hf];exact hm)]
   have hcl:clFrom env ((n,k)::r) acc=clFrom env r acc:=by
    show(if (k==NameKind.free)=true then _ else _)=_
    rw[if_neg (by rw[e];decide)]
   rw[hcl]
theorem closure_is{scope:Scope}{env:Env}(h:∀n∈freesOf scope.names,∃c,env.cells.lookup n=some c):closureFor scope env=pure (clFrom env scope.names []):=by
 unfold closureFor
 show(forIn scope.names [] _>>=_)=_
 rw[closure_loop (env:=env) (λn k cs c hk hc=> ?_) (λn k cs hk=> ?_) scope.names [] h]
 .exact pure_bind _ _
 .dsimp only
  rw[if_pos hk]
  unfold cellOf
  rw[hc]
  rfl
 .dsimp only
  rw[if_neg (by rw[hk];decide)]
theorem clFrom_lookup{env:Env}{x:Str}:∀(names:List (Str×NameKind)) (acc:List (Str×Addr)),(∀n∈freesOf names,∃c,env.cells.lookup n=some c)->
  (clFrom env names acc).lookup x=if x∈freesOf names then env.cells.lookup x else acc.lookup x
 |[],acc,_=>by simp[clFrom,freesOf]
 |(n,k)::r,acc,h=>by
  cases e:(k==NameKind.free) with
  |true=>
   have hf:freesOf ((n,k)::r)=n::freesOf r:=by show(if (k==NameKind.free)=true then n::freesOf r else freesOf r)=_;rw[if_pos e]
   obtain⟨c,hc⟩:=h n (by rw[hf];exact List.mem_cons_self)
   have hcl:clFrom env ((n,k)::r) acc=clFrom env r ((n,(env.cells.lookup n).getD 0)::acc):=by
    show(if (k==NameKind.free)=true then _ else _)=_
    rw[if_pos e]
   rw[hcl,hf,clFrom_lookup r _ λm hm=>h m (by rw[hf];exact List.mem_cons_of_mem _ hm)]
   by_cases hr:x∈freesOf r
   .rw[if_pos hr,if_pos (List.mem_cons_of_mem _ hr)]
   .rw[if_neg hr]
    by_cases hx:x=n
    .subst hx
     rw[if_pos List.mem_cons_self,hc]
     simp
    .rw[if_neg (by intro z;rcases List.mem_cons.mp z with z|z;exact hx z;exact hr z)]
     have hb:(x==n)=false:=by simpa using hx
     rw[List.lookup_cons,hb]
  |false=>
   have hf:freesOf ((n,k)::r)=freesOf r:=by show(if (k==NameKind.free)=true then n::freesOf r else freesOf r)=_;rw[if_neg (by rw[e];decide)]
   have hcl:clFrom env ((n,k)::r) acc=clFrom env r acc:=by
    show(if (k==NameKind.free)=true then _ else _)=_
    rw[if_neg (by rw[e];decide)]
   rw[hcl,hf,clFrom_lookup r _ λm hm=>h m (by rw[hf];exact hm)]
structure CScope(X:Cx)(scope:Scope)(frees:List Str):Prop where
 kind:scope.kind= .function
 nocell:∀y∈scope.names,y.2≠ .cell
 locs:∀y∈scope.names,y.2= .local->scope.names.lookup y.1=some .local
 sub:∀n∈freesOf scope.names,n∈frees
 free:∀n∈frees,scope.names.lookup n=some .free
 kinds:(frees.all λn=>X.env.kindOf n==some .cell||X.env.kindOf n==some .free)=true
theorem CScope.frees{X:Cx}{scope:Scope}{fr:List Str}(S:CScope X scope fr):∀n∈freesOf scope.names,X.env.kindOf n=some .cell∨X.env.kindOf n=some .free:=λn hn=>by
 have h:=List.all_eq_true.mp S.kinds n (S.sub n hn)
 rcases Bool.or_eq_true _ _▸h with h|h
 .exact .inl (eq_of_beq h)
 .exact .inr (eq_of_beq h)
theorem mem_freesOf{x:Str}:∀{names:List (Str×NameKind)},(x,NameKind.free)∈names->x∈freesOf names
 |(n,k)::r,h=>by
  unfold freesOf
  rcases List.mem_cons.mp h with e|e
  .injection e with e1 e2
   subst e1 e2
   rw[if_pos (by rfl)]
   exact List.mem_cons_self
  .split
   .exact List.mem_cons_of_mem _ (mem_freesOf e)
   .exact mem_freesOf e
theorem relabel_lookup{env:Env}{x:Str}:∀{names:List (Str×NameKind)} {k:NameKind},(names.map λ(n,k)=>if (k==NameKind.free&&env.scope.kind== .function&&env.kindOf n==some .cell) then (n,NameKind.cell) else (n,k)).lookup x=some k->
  ∃k0,names.lookup x=some k0∧(k=k0∨(k0= .free∧k= .cell))
 |[],k,h=>by simp at h
 |(n,k1)::r,k,h=>by
  rw[List.map_cons] at h
  by_cases hx:(x==n)=true
  .by_cases hc:(k1==NameKind.free&&env.scope.kind== .function&&env.kindOf n==some .cell)=true
   .dsimp only at h
    rw[if_pos hc,List.lookup_cons,hx] at h
    have e:k= .cell:=by injection h with h;exact h.symm
    have e1:k1= .free:=by
     have:=(Bool.and_eq_true _ _▸(Bool.and_eq_true _ _▸hc).1).1
     exact eq_of_beq this
    exact⟨k1,by rw[List.lookup_cons,hx],.inr ⟨e1,e⟩⟩
   .dsimp only at h
    rw[if_neg hc,List.lookup_cons,hx] at h
    injection h with h
    exact⟨k1,by rw[List.lookup_cons,hx],.inl h.symm⟩
  .have hx':(x==n)=false:=by simpa using hx
   have h':(List.map (λ(n,k)=>if (k==NameKind.free&&env.scope.kind== .function&&env.kindOf n==some .cell) then (n,NameKind.cell) else (n,k)) r).lookup x=some k:=by
    by_cases hc:(k1==NameKind.free&&env.scope.kind== .function&&env.kindOf n==some .cell)=true
    .dsimp only at h;rw[if_pos hc,List.lookup_cons,hx'] at h;exact h
    .dsimp only at h;rw[if_neg hc,List.lookup_cons,hx'] at h;exact h
   obtain⟨k0,e1,e2⟩:=relabel_lookup h'
   exact⟨k0,by rw[List.lookup_cons,hx'];exact e1,e2⟩
theorem relabel_free{env:Env}{x:Str}:∀{names:List (Str×NameKind)},names.lookup x=some .free->
  (names.map λ(n,k)=>if (k==NameKind.free&&env.scope.kind== .function&&env.kindOf n==some .cell) then (n,NameKind.cell) else (n,k)).lookup x=some .cell∨
  (names.map λ(n,k)=>if (k==NameKind.free&&env.scope.kind== .function&&env.kindOf n==some .cell) then (n,NameKind.cell) else (n,k)).lookup x=some .free
 |[],h=>by simp at h
 |(n,k1)::r,h=>by
  rw[List.map_cons]
  by_cases hx:(x==n)=true
  .rw[List.lookup_cons,hx] at h
   injection h with h
   subst h
   by_cases hc:(NameKind.free==NameKind.free&&env.scope.kind== .function&&env.kindOf n==some .cell)=true
   .left;dsimp only;rw[if_pos hc,List.lookup_cons,hx]
   .right;dsimp only;rw[if_neg hc,List.lookup_cons,hx]
  .have hx':(x==n)=false:=by simpa using hx
   rw[List.lookup_cons,hx'] at h
   have ih:=relabel_free (env:=env) h
   by_cases hc:(k1==NameKind.free&&env.scope.kind== .function&&env.kindOf n==some .cell)=true
   .dsimp only;rw[if_pos hc,List.lookup_cons,hx'];exact ih
   .dsimp only;rw[if_neg hc,List.lookup_cons,hx'];exact ih
structure CP where
 C:Addr
 s:Shared
 H:Hp
 pins:List (Addr×Obj)
 fp:List Addr
def cxC(X:Cx)(NC:List Str)(scope:Scope)(c:CP):Cx where
 prog:=X.prog
 w:=X.w
 K:=X.K
 mg:=X.mg
 base:=X.base
 A:=X.A
 N:=NC
 s₀:=c.s
 H₀:=c.H
 env:=compEnvC scope (clFrom X.env scope.names []) c.C X.env
 outer:=X.stack
 stack:=X.stack
 ex:=c.fp
 fn:=λ_=>false
 calm:=true
 pn:=X.pn++c.pins
 xe:=λ_ _=>False
section
variable{X:Cx}{scope:Scope}{frees:List Str}{NC:List Str}{pins:List (Addr×Obj)}{σ σc:St}{H H':Hp}{s s':Shared}{fp:List Addr}{C:Addr}
theorem CScope.has(S:CScope X scope frees)(ok:X.Ok):∀n∈freesOf scope.names,∃c,X.env.cells.lookup n=some c:=λn hn=>ok.has n (S.frees n hn)
theorem CScope.cells(S:CScope X scope frees)(ok:X.Ok){x:Str}{c:Addr}(h:(clFrom X.env scope.names []).lookup x=some c):x∈freesOf scope.names∧X.env.cells.lookup x=some c:=by
 rw[clFrom_lookup scope.names [] (S.has ok)] at h
 by_cases hx:x∈freesOf scope.names
 .rw[if_pos hx] at h;exact⟨hx,h⟩
 .rw[if_neg hx] at h;simp at h
theorem cxC_ok(S:CScope X scope frees)(hc:X.calm=true)(I:Inv X pins σ H s)(hf:∀b∈fp,FpOk X pins H b∧b<s.heap.objs.size)(hC:C=s.heap.objs.size):(cxC X NC scope ⟨C,s,H,pins,fp⟩).Ok where
 mod:=I.ok.mod
 kind:=S.kind
 glob:=I.ok.glob
 blt:=I.ok.blt
 above:=by show s.heap.objs.size≤C;rw[hC];exact Nat.le_refl _
 inj:=λx y c h1 h2=>I.ok.inj x y c (S.cells I.ok h1).2 (S.cells I.ok h2).2
 has:=λx hx=>by
  have hx':∃k,(relabel scope X.env).names.lookup x=some k∧(k= .cell∨k= .free):=by
   rcases hx with h|h
   .exact⟨_,h,.inl rfl⟩
   .exact⟨_,h,.inr rfl⟩
  obtain⟨k,h,hk⟩:=hx'
  obtain⟨k0,e0,e1⟩:=relabel_lookup h
  have hm:=PySem.mem_of_lookup e0
  have k0f:k0= .free:=by
   rcases e1 with e1|⟨e1,_⟩
   .rcases hk with hk|hk
    .exact absurd (e1▸hk:k0= .cell) (S.nocell _ hm)
    .exact e1▸hk
   .exact e1
  subst k0f
  have hx2:=mem_freesOf hm
  obtain⟨c,hcc⟩:=S.has I.ok x hx2
  exact⟨c,by show(clFrom X.env scope.names []).lookup x=some c;rw[clFrom_lookup scope.names [] (S.has I.ok),if_pos hx2];exact hcc⟩
 cab:=λx c h=>nomatch h
 hd:=λ_=>I.ok.hd hc
 frames:=I.ok.frames
 stk:= .inl rfl
 exf:=λb hb=>⟨λz=>by have:=(hf b hb).2;rw[z] at this;exact absurd (hC▸this) (Nat.lt_irrefl _),λx c h=>(hf b hb).1.2.2.2.2.1 x c (S.cells I.ok h).2⟩
 bs:=I.bs
 bsz:=Nat.le_trans I.ok.bsz I.sz
 noex:=λb o e hb=>by
  rcases (hf b hb).1.2.2.2.1 with z|z
  .exact I.ok.noex b o e z
  .exact absurd (Nat.lt_of_lt_of_le (Heap.lt_size e) (Nat.le_trans I.ok.bsz z)) (Nat.lt_irrefl _)
 exfs:=λb hb z=>by
  rcases List.mem_cons.mp (I.stkSub b z) with e|e
  .exact(hf b hb).1.2.1 e
  .exact(hf b hb).1.2.2.1 e
 funs:=I.stack
 frf:=I.stkFree
def stC(own:List Str)(ix:List Nat)(σ:St):St:=own.map (λ_=>none)++ix.map λi=>(σ[i]?).join
theorem stC_get{own frees:List Str}{ix:List Nat}{σ:St}{NX:List Str}(hN:ix.map (λi=>NX[i]?)=frees.map some){j:Nat}{x:Str}{v:V}(h1:(own++frees)[j]? =some x)(h2:(stC own ix σ)[j]? =some (some v)):
  x∈frees∧∃i:Nat,NX[i]? =some x∧σ[i]? =some (some v):=by
 have hl:ix.length=frees.length:=by have:=congrArg List.length hN;simpa using this
 unfold stC at h2
 by_cases hj:j<own.length
 .rw[List.getElem?_append_left (by simpa using hj),List.getElem?_map] at h2
  cases e:own[j]? with
  |none=>rw[e] at h2;simp at h2
  |some o=>rw[e] at h2;simp at h2
 .rw[List.getElem?_append_right (by simpa using hj),List.getElem?_map,List.length_map] at h2
  rw[List.getElem?_append_right (by omega)] at h1
  have hm:(ix.map (λi=>NX[i]?))[j - own.length]? =(frees.map some)[j - own.length]? :=by rw[hN]
  rw[List.getElem?_map,List.getElem?_map,h1] at hm
  cases e:ix[j - own.length]? with
  |none=>rw[e] at h2;simp at h2
  |some i=>
   rw[e] at h2 hm
   simp only[Option.map_some,Option.some.injEq] at h2 hm
   refine⟨List.mem_of_getElem? h1,i,hm,?_⟩
   cases q:σ[i]? with
   |none=>rw[q] at h2;simp at h2
   |some o=>rw[q] at h2;simp at h2;rw[h2]
theorem stC_len{own frees:List Str}{ix:List Nat}{σ:St}{NX:List Str}(hN:ix.map (λi=>NX[i]?)=frees.map some):(stC own ix σ).length=(own++frees).length:=by
 have hl:ix.length=frees.length:=by have:=congrArg List.length hN;simpa using this
 unfold stC
 simp[hl]
theorem cxC_inv{own:List Str}{ix:List Nat}{h₁:Heap}{tk:Nat}(S:CScope X scope frees)(hc:X.calm=true)(I:Inv X pins σ H s)(hf:∀b∈fp,FpOk X pins H b∧b<s.heap.objs.size)(hC:C=s.heap.objs.size)
  (hN:ix.map (λi=>X.N[i]?)=frees.map some)(hns:∃m,h₁.Ns C m)(hk:∀b o,s.heap.get? b=some o->h₁.get? b=some o):
  Inv (cxC X (own++frees) scope ⟨C,s,H,pins,fp⟩) [] (stC own ix σ) H {s with heap:=h₁,toks:=tk}:=by
 obtain⟨m,hm⟩:=hns
 refine⟨cxC_ok S hc I hf hC,rfl,I.bare,Un.kept hk,⟨m,hm,λj x v h1 h2 h3=> ?_⟩,λx c h=> ?_,?_,λx c h=> ?_,λp hp=> ?_,I.hok.kept hk,stC_len hN⟩
 .obtain⟨hx,i,e1,e2⟩:=stC_get hN h1 h2
  have hfree:=S.free x hx
  have hmf:=mem_freesOf (PySem.mem_of_lookup hfree)
  have hkx:=S.frees x hmf
  obtain⟨m0,_,hl⟩:=I.loc
  have vis:Vis X.env.scope x:=by rcases hkx with z|z;exact .inr (.inl z);exact .inr (.inr z)
  obtain⟨u,r,l⟩:=hl i x v e1 e2 vis
  refine⟨u,r,?_⟩
  rcases l with⟨kl,_⟩|⟨_,c,ec,ic⟩
  .rcases hkx with z|z
   .rw[kl] at z;cases z
   .rw[kl] at z;cases z
  .refine .inr ⟨relabel_free (env:=X.env) hfree,c,?_,?_⟩
   .show(clFrom X.env scope.names []).lookup x=some c
    rw[clFrom_lookup scope.names [] (S.has I.ok),if_pos hmf]
    exact ec
   .obtain⟨o,ho,hd⟩:=ic
    exact⟨o,hk _ _ ho,hd⟩
 .obtain⟨_,e⟩:=S.cells I.ok h
  obtain⟨v,o,ho,hd⟩:=I.cell x c e
  exact⟨v,o,hk _ _ ho,hd⟩
 .show H C=none
  rw[hC]
  exact I.hok.fresh (Nat.le_refl _)
 .exact I.freeC x c (S.cells I.ok h).2
 .have hp':p∈X.pn++pins:=by
   have:p∈(X.pn++pins)++[]:=hp
   rwa [List.append_nil] at this
  obtain⟨e,n,ne,nf,d⟩:=I.pin p hp'
  refine⟨hk _ _ e,n,?_,λz=> ?_,d⟩
  .show p.1≠C
   rw[hC]
   exact Nat.ne_of_lt (Heap.lt_size e)
  .rcases List.mem_cons.mp (I.stkSub p.1 z) with q|q
   .exact ne q
   .exact nf q
theorem cxC_fp{NC:List Str}(S:CScope X scope frees)(I:Inv X pins σ H s)(hf:∀b∈fp,FpOk X pins H b∧b<s.heap.objs.size)(hC:C=s.heap.objs.size){b:Addr}(hb:b∈fp)(hn:H' b=none):FpOk (cxC X NC scope ⟨C,s,H,pins,fp⟩) [] H' b:=by
 refine⟨hn,?_,λz=> ?_,.inl hb,λx c h=>(hf b hb).1.2.2.2.2.1 x c (S.cells I.ok h).2,λp hp=>(hf b hb).1.2.2.2.2.2 p ?_⟩
 .show b≠C
  rw[hC]
  exact Nat.ne_of_lt (hf b hb).2
 .rcases List.mem_cons.mp (I.stkSub b z) with q|q
  .exact(hf b hb).1.2.1 q
  .exact(hf b hb).1.2.2.1 q
 .have:p∈(X.pn++pins)++[]:=hp
  rwa [List.append_nil] at this
theorem cxC_back{NC:List Str}(I:Inv X pins σ H s)(hf:∀b∈fp,FpOk X pins H b∧b<s.heap.objs.size)(J:Inv (cxC X NC scope ⟨C,s,H,pins,fp⟩) [] σc H' s'):Inv X pins σ H' s':=
 I.call' J.os J.base J.hok J.bare λb hb=>⟨(hf b hb).1.2.2.2.1,(hf b hb).1.2.1,(hf b hb).1.2.2.2.2.1,(hf b hb).1.2.2.2.2.2⟩
theorem cxC_gone{h':Heap}(I:Inv X pins σ H s)(hn:H C=none)(h1:C≠X.env.locals)(h2:X.s₀.heap.objs.size≤C)(h3:∀x c,X.env.cells.lookup x=some c->c≠C)(h4:∀p∈X.pn++pins,p.1≠C)(hs:Heap.SameBut C s.heap h'):
 Inv X pins σ H {s with heap:=h'}:=I.turned (t':=s.toks) (λb o hb e=>(hs.2 b hb).trans e) hn h1 (.inr h2) h3 h4
end
inductive KSt:St->St->Prop
 |nil:KSt [] []
 |own {o:Option V} {a b:St}:KSt a b->KSt (none::a) (o::b)
 |keep {o:Option V} {a b:St}:KSt a b->KSt (o::a) (o::b)
theorem KSt.len:∀{a b:St},KSt a b->b.length=a.length
 |_,_,.nil=>rfl
 |_,_,.own h=>congrArg (·+1) h.len
 |_,_,.keep h=>congrArg (·+1) h.len
theorem KSt.get:∀{a b:St},KSt a b->∀(i:Nat) v,a[i]? =some (some v)->b[i]? =some (some v)
 |_,_,.nil,i,v,e=>by simp at e
 |_,_,.own h,0,v,e=>by simp at e
 |_,_,.own h,i+1,v,e=>by
  rw[List.getElem?_cons_succ] at e ⊢
  exact h.get i v e
 |_,_,.keep h,0,v,e=>by simpa using e
 |_,_,.keep h,i+1,v,e=>by
  rw[List.getElem?_cons_succ] at e ⊢
  exact h.get i v e
theorem KSt.refl:∀a:St,KSt a a
 |[]=> .nil
 |_::r=> .keep (KSt.refl r)
inductive PIf(X:Cx):List Expr->TT->Prop
 |nil:PIf X [] (λ_ H Q=>Q true H)
 |one {c:Expr} {t:TT}:PT X c t->PIf X [c] t
theorem PIf.run{X:Cx}{ifs:List Expr}{t:TT}(h:PIf X ifs t){pins:List (Addr×Obj)}{s:Shared}{σ:St}{H:Hp}{Q:Bool->Hp->Prop}(I:Inv X pins σ H s)(hw:t σ H Q):
  wpAny (model X.prog X.w) X.A (forIn ifs true λc r=>if r=true then do let ok ←isTrue c X.env (eval c X.env);pure (ForInStep.yield ok) else pure (ForInStep.yield r)) (TP X pins σ Q) X.xe s:=by
 cases h with
 |nil=>exact wpAny_tests_nil ⟨H,I,hw⟩
 |one h=>exact wpAny_tests_one (h pins s σ H Q I hw)
def cBody(σc:St)(acc:Addr)(g:TG)(tt:TT)(te:TE)(x:V)(ys:List V)(H:Hp)(N:List V->Hp->Prop):Prop:=
 g x σc H λσ2 H2=>KSt σc σ2∧tt σ2 H2 λb H3=>if b=true then te σ2 H3 λy H4=>H4 acc=some (.lst ys)∧ys.length<sizeLine∧N (ys++[y]) (upd H4 acc (.lst (ys++[y]))) else N ys H3
def cLoop(J:It)(σc:St)(acc:Addr)(g:TG)(tt:TT)(te:TE)(H:Hp)(Q:VK):Prop:=
 ∃W:Nat->Nat->List V->Hp->Prop,(∃m,W 0 m [] H)∧∀i m ys H,W i m ys H->H acc=some (.lst ys)∧
  ((J.stop i H∧Q (.ref acc) H)∨(J.go i H∧∃N:List V->Hp->Prop,(∀ys' H',N ys' H'->∃m',m'<m∧W (i+1) m' ys' H')∧∀x H',J.yld i H x H'->cBody σc acc g tt te x ys H' N))
def tComp(own:List Str)(ix:List Nat)(wi:TI)(g:CP->TG)(tt:CP->TT)(te:CP->TE):TE:=λσ H Q=>
 wi σ H λJ H1=>∀(c:CP) (acc:Addr),H1 acc=none->cLoop J (stC own ix σ) acc (g c) (tt c) (te c) (upd H1 acc (.lst [])) Q
section
variable{X:Cx}{scope:Scope}{own frees:List Str}{ix:List Nat}{tg elt iter:Expr}{ifs:List Expr}{pos:Pos}{wi:TI}{g:CP->TG}{tt:CP->TT}{te:CP->TE}
theorem comp_loop{J:It}{it acc:Addr}{fp:List Addr}{tn:Nat->Heap->Prop}{c:CP}{σ:St}{H:Hp}{s:Shared}{Q:VK}{R:Result->Shared->Prop}
  (hfp:c.fp=fp)(T:Turn X.prog X.w X.K tg J fp it tn)(hg:PG (cxC X (own++frees) scope c) tg (g c))(ht:PIf (cxC X (own++frees) scope c) ifs (tt c))(he:PE (cxC X (own++frees) scope c) elt (te c))
  (fpk:∀b∈fp,∀H':Hp,H' b=none->FpOk (cxC X (own++frees) scope c) [] H' b)
  (I:Inv (cxC X (own++frees) scope c) [] (stC own ix σ) H s)(st:tn 0 s.heap)(fr:∀b∈fp,H b=none)(h:cLoop J (stC own ix σ) acc (g c) (tt c) (te c) H Q)
  (hR:∀s' H',Inv (cxC X (own++frees) scope c) [] (stC own ix σ) H' s'->Q (.ref acc) H'->R (.ok .next) s'):
  codeAny (model X.prog X.w) X.A (.compLoop (.ListComp elt [⟨tg,iter,ifs,0⟩] scope pos) 0 (.ref it) (.ref acc) (cxC X (own++frees) scope c).env) R s:=by
 obtain⟨W,⟨m0,w0⟩,turn⟩:=h
 refine codeAny_loop rfl (λn s'=>∃i ys H',Inv (cxC X (own++frees) scope c) [] (stC own ix σ) H' s'∧tn i s'.heap∧(∀b∈fp,H' b=none)∧W i n ys H') (λn s1 hI=> ?_) m0 ⟨0,[],H,I,st,fr,w0⟩
 obtain⟨i,ys,H1,I1,st1,fr1,w1⟩:=hI
 show wpAny _ X.A ((compTurn (.ListComp elt [⟨tg,iter,ifs,0⟩] scope pos) 0 (.ref it) (.ref acc) (cxC X (own++frees) scope c).env).onRaise (λx=>do noteFrame x (cxC X (own++frees) scope c).env;theTreesLotGoes x)) _ _ s1
 have nv:∀{α:Type} {t:Sem α} {P:α->Shared->Prop} {s:Shared},wpAny (model X.prog X.w) X.A t P (λ_ _=>False) s->wpAny (model X.prog X.w) X.A t P (notedBy (model X.prog X.w) X.A (cxC X (own++frees) scope c).env λe s'=>R (.error e) s') s:=
  λh=>wpAny_mono h (λ_ _ q=>q) λ_ _ z=>z.elim
 refine wpAny_noted ?_
 rw[compTurn_list]
 obtain⟨ha,hw⟩:=turn i n ys H1 w1
 rcases hw with⟨stop,q⟩|⟨go,N,hN,step⟩
 .refine wpAny_bind (wpAny_standAt (wpAny_bind (nv (thn (T.done (cxC X (own++frees) scope c) rfl rfl rfl rfl i [] s1 _ H1 (λ_ _=>False) I1 (λb hb=>fpk b hb H1 (fr1 b hb)) st1 stop) λr s2 ⟨hr,I2⟩=> ?_))))
  subst hr
  exact wpAny_pure (hR s2 H1 I2 q)
 .refine wpAny_bind (wpAny_standAt (wpAny_bind (nv (thn (T.item (cxC X (own++frees) scope c) rfl rfl rfl rfl i [] s1 _ H1 (λ_ _=>False) I1 (λb hb=>fpk b hb H1 (fr1 b hb)) st1 go) λr s2 ⟨u,hr,h2⟩=> ?_))))
  subst hr
  refine wpAny_bind (nv (thn h2 λ_ s3 ⟨x,H3,I3,r3,y3,st3,fr3⟩=> ?_))
  have I3':=I3.pinned (λb hb=>fpk b hb H3 (fr3 b hb)) (T.obj _ _ st3)
  refine wpAny_bind (nv (thn (hg _ s3 _ H3 x u _ I3' r3 (step x H3 y3)) λ_ s4 ⟨σ4,H4,I4,ks,q4⟩=> ?_))
  refine wpAny_bind (nv (thn (ht.run I4 q4) λok s5 ⟨H5,I5,q5⟩=> ?_))
  have keepT:∀{s6:Shared} {σ6:St} {H6:Hp},Inv (cxC X (own++frees) scope c) ([]++pinsAt fp s3.heap) σ6 H6 s6->tn (i+1) s6.heap∧∀b∈fp,H6 b=none:=λ {s6 σ6 H6} I6=>
   ⟨T.keep _ _ _ st3 λb hb o e=>(I6.pin (b,o) (List.mem_append_right _ (List.mem_append_right _ (mem_pinsAt hb e)))).1,λb hb=>by
    obtain⟨o,e,d⟩:=T.obj _ _ st3 b hb
    exact(I6.pin (b,o) (List.mem_append_right _ (List.mem_append_right _ (mem_pinsAt hb e)))).2.1⟩
  cases ok with
  |false=>
   rw[if_neg (by decide)] at q5
   obtain⟨m',hm,w5⟩:=hN _ _ q5
   obtain⟨k1,k2⟩:=keepT I5
   exact wpAny_pure ⟨rfl,m',hm,i+1,ys,H5,(I5.unpinned).weak ks.len.symm ks.get,k1,k2,w5⟩
  |true=>
   rw[if_pos rfl] at q5
   refine wpAny_bind (wpAny_bind (nv (thn (he _ s5 _ H5 _ I5 q5) λy s6 ⟨yv,H6,I6,r6,a6,l6,q6⟩=> ?_)))
   obtain⟨m',hm,w6⟩:=hN _ _ q6
   obtain⟨k1,k2⟩:=keepT I6
   refine wpAny_bind (nv (thn (mt_append (X:=cxC X (own++frees) scope c) _ s6 _ H6 (.ref acc) [yv] (.ref acc) [y] (λ_ H7=>H7=upd H6 acc (.lst (ys++[yv]))) I6 rfl (.cons r6 .nil) ⟨acc,ys,yv,rfl,rfl,a6,l6,rfl⟩) λ_ s7 ⟨_,H7,I7,_,e7⟩=> ?_))
   subst e7
   obtain⟨k1,k2⟩:=keepT I7
   exact wpAny_pure (wpAny_pure ⟨rfl,m',hm,i+1,ys++[yv],_,(I7.unpinned).weak ks.len.symm ks.get,k1,k2,w6⟩)
structure CGone(X:Cx)(pins:List (Addr×Obj))(C:Addr)(H:Hp):Prop where
 no:H C=none
 loc:C≠X.env.locals
 old:X.s₀.heap.objs.size≤C
 cel:∀x c,X.env.cells.lookup x=some c->c≠C
 pin:∀p∈X.pn++pins,p.1≠C
theorem CGone.inv{pins:List (Addr×Obj)}{σ:St}{H:Hp}{s:Shared}{C:Addr}{h':Heap}(G:CGone X pins C H)(I:Inv X pins σ H s)(hs:Heap.SameBut C s.heap h'):Inv X pins σ H {s with heap:=h'}:=
 cxC_gone I G.no G.loc G.old G.cel G.pin hs
theorem comp_block{pins:List (Addr×Obj)}{σ:St}{H:Hp}{s:Shared}{Q:VK}{RR:Value->Addr->Result->Shared->Prop}{E:Value->Shared->Prop}{J:It}{it:Addr}{fp:List Addr}{tn:Nat->Heap->Prop}
  (S:CScope X scope frees)(hc:X.calm=true)(hN:ix.map (λi=>X.N[i]?)=frees.map some)
  (hg:∀c,PG (cxC X (own++frees) scope c) tg (g c))(ht:∀c,PIf (cxC X (own++frees) scope c) ifs (tt c))(he:∀c,PE (cxC X (own++frees) scope c) elt (te c))
  (I:Inv X pins σ H s)(T:Turn X.prog X.w X.K tg J fp it tn)(st:tn 0 s.heap)(hf:∀b∈fp,FpOk X pins H b)
  (h:∀(c:CP) (acc:Addr),H acc=none->cLoop J (stC own ix σ) acc (g c) (tt c) (te c) (upd H acc (.lst [])) Q)
  (hRR:∀(acc C:Addr) s' H' m,Inv X pins σ H' s'->s'.heap.Ns C m->CGone X pins C H'->Q (.ref acc) H'->RR (.ref acc) C (.ok .next) s'):
  wpAny (model X.prog X.w) X.A (newList []) (λacc s₃=>wpAny (model X.prog X.w) X.A (newFunctionEnv scope X.env.globals (clFrom X.env scope.names []) [] X.env.qual none .none (some X.env)) (λcenv s₄=>
   codeAny (model X.prog X.w) X.A (.compStart (.ListComp elt [⟨tg,iter,ifs,0⟩] scope pos) 0 (.ref it) acc {cenv with scope:=relabel scope X.env}) (RR acc cenv.locals) s₄) E s₃) E s:=by
 refine wpAny_newObj_type (wpAny_newFunctionEnv S.nocell (by intro y hy;simp at hy) (λh₁ hns hsb=> ?_) S.kind)
 dsimp only at hns hsb ⊢
 have hn0:H s.heap.objs.size=none:=I.hok.fresh (Nat.le_refl _)
 have I3:Inv X pins σ (upd H s.heap.objs.size (.lst [])) {s with heap:=s.heap.push {cls:= .type "list",data:= .seq ([]:List Value).toArray}}:=I.lnew (its:=[]) (t':=s.toks) .nil (Nat.zero_le _)
 generalize hs3:({s with heap:=s.heap.push {cls:= .type "list",data:= .seq ([]:List Value).toArray}}:Shared)=s3 at I3
 have e3:s3.heap=s.heap.push {cls:= .type "list",data:= .seq ([]:List Value).toArray}:=by rw[←hs3]
 have ob:∀b∈fp,b<s.heap.objs.size:=λb hb=>by
  obtain⟨o,e,_⟩:=T.obj _ _ st b hb
  exact Heap.lt_size e
 have sz:s3.heap.objs.size=s.heap.objs.size+1:=by rw[e3,Heap.size_push]
 have hf3:∀b∈fp,FpOk X pins (upd H s.heap.objs.size (.lst [])) b∧b<s3.heap.objs.size:=λb hb=>
  ⟨⟨by rw[upd_ne (Nat.ne_of_lt (ob b hb))];exact(hf b hb).1,(hf b hb).2⟩,by rw[sz];exact Nat.lt_succ_of_lt (ob b hb)⟩
 have kp:∀b o,s3.heap.get? b=some o->h₁.get? b=some o:=λb o e=>by
  refine hsb.extBut b o ?_ (Heap.get?_push_of_some _ (e3▸e))
  rw[←e3]
  exact Nat.ne_of_lt (Heap.lt_size e)
 have nsC:h₁.Ns s3.heap.objs.size (λx=>([]:List (Str×Value)).reverse.lookup x):=by rw[e3];exact hns
 have J0:Inv (cxC X (own++frees) scope ⟨s3.heap.objs.size,s3,upd H s.heap.objs.size (.lst []),pins,fp⟩) [] (stC own ix σ) (upd H s.heap.objs.size (.lst [])) {s3 with heap:=h₁,toks:=s.toks+0}:=
  cxC_inv S hc I3 hf3 rfl hN ⟨_,nsC⟩ kp
 have fpk:∀b∈fp,∀H':Hp,H' b=none->FpOk (cxC X (own++frees) scope ⟨s3.heap.objs.size,s3,upd H s.heap.objs.size (.lst []),pins,fp⟩) [] H' b:=λb hb H' hn=>cxC_fp S I3 hf3 rfl hb hn
 have st1:tn 0 h₁:=T.keep _ _ _ st λb hb o e=>kp b o (by rw[e3];exact Heap.get?_push_of_some _ e)
 have loop:codeAny (model X.prog X.w) X.A (.compLoop (.ListComp elt [⟨tg,iter,ifs,0⟩] scope pos) 0 (.ref it) (.ref s.heap.objs.size) (cxC X (own++frees) scope ⟨s3.heap.objs.size,s3,upd H s.heap.objs.size (.lst []),pins,fp⟩).env)
   (RR (.ref s.heap.objs.size) s3.heap.objs.size) {s3 with heap:=h₁,toks:=s.toks+0}:=by
  refine comp_loop rfl T (hg _) (ht _) (he _) fpk J0 st1 (λb hb=>(hf3 b hb).1.1) (h _ _ hn0) λs' H' I' q=> ?_
  obtain⟨m,hm,_⟩:=I'.loc
  refine hRR _ _ s' H' m (cxC_back I3 hf3 I') hm ⟨I'.free,Nat.ne_of_gt I3.lt,I3.sz,λx c e z=> ?_,λp hp z=> ?_⟩ q
  .obtain⟨v,q⟩:=I3.cell x c e
   exact absurd (Nat.lt_of_lt_of_le q.lt (by rw[z];exact Nat.le_refl _)) (Nat.lt_irrefl _)
  .exact absurd (Nat.lt_of_lt_of_le (Heap.lt_size (I3.pin p hp).1) (by rw[z];exact Nat.le_refl _)) (Nat.lt_irrefl _)
 have loop':=loop
 rw[←hs3] at loop'
 exact codeAny_compStart_list loop' (T.self _ 0 _ _ _ st1 loop')
theorem pe_comp(hi:PI X tg iter wi)
  (hg:∀c,PG (cxC X (own++frees) scope c) tg (g c))(ht:∀c,PIf (cxC X (own++frees) scope c) ifs (tt c))(he:∀c,PE (cxC X (own++frees) scope c) elt (te c))(S:CScope X scope frees:=by exact⟨rfl,by decide+kernel,by decide+kernel,by decide+kernel,by decide+kernel,rfl⟩)(hc:X.calm=true:=by rfl)(hN:ix.map (λi=>X.N[i]?)=frees.map some:=by rfl)(hs:∀x,foldedSetIterable iter X.env x=pure x:=by intro _;rfl):
  PE X (.ListComp elt [⟨tg,iter,ifs,0⟩] scope pos) (tComp own ix wi g tt te):=by
 intro pins s σ H Q I h
 rw[eval_ListComp]
 refine wpAny_comprehension_free (use:=none) rfl hs (closure_is (S.has I.ok)) S.kind S.locs (thn (hi pins s σ H _ I h) λv s1 h1=>thn h1 λitv s2 h2=> ?_)
 obtain⟨it,fp,tn,J,H2,e,I2,T,st2,f2,hw⟩:=h2
 subst e
 refine comp_block S hc hN hg ht he I2 T st2 f2 hw λacc C s' H' m I' hm G q=> ?_
 exact⟨m,hm,λh' hs'=>⟨.ref acc,H',G.inv I' hs',rfl,q⟩⟩
theorem ps_comp{i:Nat}{x:Str}{pos' spos:Pos}(hNd:X.N.Nodup)(hi':X.N[i]? =some x)(hx:Loc X.env.scope x)(hi:PI X tg iter wi)
  (hg:∀c,PG (cxC X (own++frees) scope c) tg (g c))(ht:∀c,PIf (cxC X (own++frees) scope c) ifs (tt c))(he:∀c,PE (cxC X (own++frees) scope c) elt (te c))(S:CScope X scope frees:=by exact⟨rfl,by decide+kernel,by decide+kernel,by decide+kernel,by decide+kernel,rfl⟩)(hc:X.calm=true:=by rfl)(hN:ix.map (λi=>X.N[i]?)=frees.map some:=by rfl)(hs:∀x,foldedSetIterable iter X.env x=pure x:=by intro _;rfl)
  (hsw:swapsWith (.ListComp elt [⟨tg,iter,ifs,0⟩] scope pos) (some (.Name x pos')) spos.line X.env=pure true:=by rfl)(hf:X.fn x=true∨X.env.scope.names.lookup x=some .local:=by first|exact .inl rfl|exact .inr rfl|assumption):
  PS X (.Assign [.Name x pos'] (.ListComp elt [⟨tg,iter,ifs,0⟩] scope pos) spos) (tAsg (tComp own ix wi g tt te) (gName i)):=by
 intro pins s σ H D I h
 rw[exec_Assign_Name_used _ _ _ _ hsw]
 refine wpAny_bind (wpAny_standAt (wpAny_bind ?_))
 show wpAny _ X.A (do let _ ←comprehension (.ListComp elt [⟨tg,iter,ifs,0⟩] scope pos) scope X.env _ (newList []) false (eval iter X.env) (some (assign (.Name x pos') X.env))) _ _ s
 refine wpAny_bind (wpAny_mono (wpAny_comprehension_free (use:=some (assign (.Name x pos') X.env)) (Q:=λ_ s'=>SP X pins D .next s') rfl hs (closure_is (S.has I.ok)) S.kind S.locs
  (thn (hi pins s σ H _ I h) λv s1 h1=>thn h1 λitv s2 h2=> ?_)) (λ_ s' hq=>wpAny_pure (wpAny_pure hq)) λ_ _ e=>e)
 obtain⟨it,fp,tn,J,H2,e,I2,T,st2,f2,hw⟩:=h2
 subst e
 refine comp_block S hc hN hg ht he I2 T st2 f2 hw λacc C s' H' m I' hm G q=> ?_
 show wpAny _ X.A (assign (.Name x pos') X.env (.ref acc)) _ _ _
 refine wpAny_assign_Name (store_ok2 I' hNd hi' hx (v:= .ref acc) rfl (λs2 I2' ch=> ?_) hf)
 obtain⟨a,sb,ha⟩:=ch
 have hne:C≠a:=by
  rcases ha with e|e
  .rw[e];exact G.loc
  .exact(G.cel _ _ e).symm
 exact⟨m,hm.sameBut sb hne,λh' hs'=>⟨_,H',G.inv I2' hs',q⟩⟩
end
section
variable{σc:St}{acc:Addr}{g:TG}{tt:TT}{te:TE}{H:Hp}{Q:VK}
end
end L2
namespace L2
open PySem PySem.Spec PyProof.Rows
section
variable{X:Cx}
theorem bools_of:∀{bs:List Bool} {its:List Value},Vals (bs.map V.bl) its->LSm.BoolsAre its bs
 |[],_,.nil=> .nil
 |b::r,_,.cons q t=>by
  cases q
  exact .cons b (bools_of t)
theorem call_all(hc:X.calm=true):CallR X (.builtin "all") (λxs H Q=>∃(p:Addr) (bs:List Bool),xs=[.ref p]∧SqL X.K H p (bs.map V.bl)∧Q (.bl (bs.all id)) H):=by
 intro pins s σ H xs us Q I r h
 obtain⟨p,bs,rfl,hq,q⟩:=h
 obtain⟨u,rfl,ru⟩:=vals1 r
 cases ru
 obtain⟨vs,rv,pl,hz⟩:=I.list hq
 have hb:=bools_of rv
 have hl:=pl.isList
 have hlt:p<s.heap.objs.size:=by obtain⟨_,e,_⟩:=hl;exact Heap.lt_size e
 refine call_all_walk (wpAny_pyIter_list hl ?_)
 refine⟨s.heap.objs.size,[s.heap.objs.size,p],[s.heap.objs.size],vs.toArray.size,_,_,λi=>(bs[i]?).getD true,rfl,Walks.list (A:=X.A.in1) (I.ok.hd hc) _ p (Nat.ne_of_lt hlt) vs.toArray,
  ⟨⟨_,Heap.get?_push_size _ rfl,rfl,rfl⟩,hl.push _⟩,λi v s' Q' E' hP hQ=> ?_,λh' tk hk=> ?_⟩
 .obtain⟨b,e,rfl⟩:=hb.get i v (by simpa using hP)
  simp only[e,Option.getD_some] at hQ
  exact wpAny_truthy_bool hQ
 .have e:((List.range vs.toArray.size).all λi=>(bs[i]?).getD true)=bs.all id:=by
   rw[List.size_toArray,hb.length];exact LSm.range_all bs
  rw[e]
  exact⟨.bl _,H,I.kept (h':=h') (t':=tk) (LSm.kept_iter hk),rfl,q⟩
theorem op_fdivL:OpR X (binaryOp .FloorDiv) (rI (λ_ j=>0<j∧j.natAbs.log2<9000) λi j=> .int (i/j)):=opI λi j _ _ _ _ _ hc q=>by
 have h1:(0:Int)<j:=hc.1
 exact floordiv_int (by omega) (by rw[Int.fdiv_eq_ediv_of_nonneg i (by omega)];exact q) (.inl (PyProof.noPylong_of_log2 hc.2))
def Its(y:Str):It:=⟨λi _=>i<y.cps.size,λi H x H'=>H'=H∧∃c,y.cps[i]? =some c∧x= .str ⟨#[c]⟩,λi _=>i=y.cps.size⟩
theorem turn_str{P:Program}{w:World}{K:PySem.W.Frag}{nm:Str}{px:Pos}{ty:String}{y:Str}{t:Tok}(it:Addr)
  (W:∀A:Around,A.handled=none->Walks P w A it [it] [it] y.cps.size (SignAt y) (λi h=>h.IsStrIter it ty y t i))
  (sf:∀(A:Around) (i:Nat) (s:Shared) (Q:Value->Shared->Prop) (E:Value->Shared->Prop),s.heap.IsStrIter it ty y t i->Q (.ref it) s->wpAny (model P w) A (pyIter (.ref it)) Q E s):Turn P w K (.Name nm px) (Its y) [it] it (λi h=>h.IsStrIter it ty y t i) where
 mem:=by simp
 obj:=λi h st b hb=>by
  have e:b=it:=by simpa using hb
  subst e
  obtain⟨o,e,c,d⟩:=st
  exact⟨o,e,λv z=>by rw[d] at z;cases z⟩
 keep:=λi h h' st k=>let ⟨o,ho,r⟩:=st;⟨o,k it (by simp) o ho,r⟩
 item:=by
  intro X hP hw hK hc i pins s σ H E I hf st hg
  subst hP hw hK
  obtain⟨f0,f1,f2,f3,f4,f5⟩:=hf it (by simp)
  refine(W X.A (I.ok.hd hc)).item i s _ _ hg st λv h' tk hP st' hk=> ?_
  obtain⟨c,u,hcx,rfl⟩:=hP
  have I1:Inv X pins σ H {s with heap:=h',toks:=tk}:=I.turned (λb o hb e=>hk b o (by simpa using hb) e) f0 f1 f3 f4 f5
  exact⟨_,rfl,wpAny_pure ⟨.str ⟨#[c]⟩,H,I1,⟨u,rfl⟩,⟨rfl,c,hcx,rfl⟩,st',λb hb=>(hf b hb).1⟩⟩
 done:=by
  intro X hP hw hK hc i pins s σ H E I hf st hg
  subst hP hw hK
  obtain⟨f0,f1,f2,f3,f4,f5⟩:=hf it (by simp)
  have hg':i=y.cps.size:=hg
  subst hg'
  exact(W X.A (I.ok.hd hc)).done s _ _ st λh' tk hk=>⟨rfl,I.turned (λb o hb e=>hk b o (by simpa using hb) e) f0 f1 f3 f4 f5⟩
 self:=λA i s Q E st h=>sf A i s Q E st h
def iStr(tl:TE):TI:=λσ H R=>tl σ H λx H1=>∃y,x= .str y∧R (Its y) H1
theorem pi_str{l:Expr}{tl:TE}{nm:Str}{px:Pos}(hl:PE X l tl):PI X (.Name nm px) l (iStr tl):=by
 intro pins s σ H R I h
 refine thn (hl pins s σ H _ I h) λv s1 ⟨x,H1,I1,r1,q1⟩=> ?_
 obtain⟨y,e,q⟩:=q1
 subst e
 obtain⟨t,rfl⟩:=r1
 have fin:∀(ty:String) (o:Obj) (W:∀A:Around,A.handled=none->Walks X.prog X.w A s1.heap.objs.size [s1.heap.objs.size] [s1.heap.objs.size] y.cps.size (SignAt y) (λi h=>h.IsStrIter s1.heap.objs.size ty y t i))
   (sf:∀(A:Around) (i:Nat) (s:Shared) (Q:Value->Shared->Prop) (E:Value->Shared->Prop),s.heap.IsStrIter s1.heap.objs.size ty y t i->Q (.ref s1.heap.objs.size) s->wpAny (model X.prog X.w) A (pyIter (.ref s1.heap.objs.size)) Q E s),
   (s1.heap.push o).IsStrIter s1.heap.objs.size ty y t 0->PIE X pins σ (.Name nm px) R (.ref s1.heap.objs.size) {s1 with heap:=s1.heap.push o}:=λty o W sf st=>by
  refine⟨s1.heap.objs.size,[s1.heap.objs.size],_,_,H1,rfl,I1.kept (t':=s1.toks) λb o e=>Heap.get?_push_of_some _ e,turn_str _ W sf,st,λb hb=> ?_,q⟩
  have e:b=s1.heap.objs.size:=by simpa using hb
  subst e
  exact I1.fpOk (Nat.le_refl _) (I1.hok.fresh (Nat.le_refl _))
 cases ha:y.cps.all (·<128)
 .exact wpAny_pyIter_wide ha (fin _ _ (λA' hA=>Walks.strWide hA _ y t) (λ_ _ _ _ _ st h=>wpAny_pyIter_striter_wide st h) ⟨_,Heap.get?_push_size _ rfl,rfl,rfl⟩)
 .exact wpAny_pyIter_ascii ha (fin _ _ (λA' hA=>Walks.strAscii hA _ y t) (λ_ _ _ _ _ st h=>wpAny_pyIter_striter_ascii st h) ⟨_,Heap.get?_push_size _ rfl,rfl,rfl⟩)
end
end L2
namespace L2
open PySem PySem.Spec PyProof.Rows
mutual
inductive Dp(K:PySem.W.Frag)(H:Hp):V->PyData->Prop
 |non:Dp K H .non .none
 |bl (b:Bool):Dp K H (.bl b) (.bool b)
 |int (i:Int):Dp K H (.int i) (.int i)
 |str (x:Str):Dp K H (.str x) (.str x)
 |lst {a:Addr} {xs:List V} {ds:List PyData}:SqL K H a xs->DpAll K H xs ds->Dp K H (.ref a) (.list ds)
 |tup {a:Addr} {xs:List V} {ds:List PyData}:SqT K H a xs->DpAll K H xs ds->Dp K H (.ref a) (.tuple ds)
inductive DpAll(K:PySem.W.Frag)(H:Hp):List V->List PyData->Prop
 |nil:DpAll K H [] []
 |cons {v:V} {vs:List V} {d:PyData} {ds:List PyData}:Dp K H v d->DpAll K H vs ds->DpAll K H (v::vs) (d::ds)
end
section
variable{X:Cx}{pins:List (Addr×Obj)}{σ:St}{H H':Hp}{s:Shared}{K:PySem.W.Frag}
mutual
theorem Dp.reads(I:Inv X pins σ H s):∀(d:PyData) (v:V) (u:Value),Dp X.K H v d->RelV v u->∃as,Reads s.heap u d as
 | .none,_,_,h,r=>by cases h;cases r;exact⟨_,.none⟩
 | .bool b,_,_,h,r=>by cases h;cases r;exact⟨_,.bool b⟩
 | .int i,_,_,h,r=>by cases h;obtain⟨t,rfl⟩:=r;exact⟨_,.int i t⟩
 | .str x,_,_,h,r=>by cases h;obtain⟨t,rfl⟩:=r;exact⟨_,.str x t⟩
 | .list ds,_,_,h,r=>by
  cases h with
  |lst hq hs=>
   cases r
   obtain⟨its,rv,pl,hz⟩:=I.list hq
   obtain⟨as,ra⟩:=DpAll.reads I ds _ _ hs rv
   obtain⟨o,e,hc,n,hd⟩:=pl.isList
   exact⟨_,.list e hc hd (by simpa using ra)⟩
 | .tuple ds,_,_,h,r=>by
  cases h with
  |tup hq hs=>
   cases r
   obtain⟨its,rv,pl,hz⟩:=I.tuple hq
   obtain⟨as,ra⟩:=DpAll.reads I ds _ _ hs rv
   obtain⟨o,e,hc,n,hd⟩:=pl
   exact⟨_,.tuple e hc hd (by simpa using ra)⟩
 | .dict _,_,_,h,_=>nomatch h
theorem DpAll.reads(I:Inv X pins σ H s):∀(ds:List PyData) (vs:List V) (us:List Value),DpAll X.K H vs ds->Vals vs us->∃as,ReadsAll s.heap us ds as
 |[],_,_,h,r=>by cases h;cases r;exact⟨_,.nil⟩
 |d::ds,_,_,h,r=>by
  cases h with
  |cons h1 h2=>
   cases r with
   |cons r1 r2=>
    obtain⟨as,a1⟩:=Dp.reads I d _ _ h1 r1
    obtain⟨bs,a2⟩:=DpAll.reads I ds _ _ h2 r2
    exact⟨_,.cons a1 a2⟩
end
def rEqD(K:PySem.W.Frag):R2:=λx y H Q=>∃d e,Dp K H x d∧Dp K H y e∧d.canLay0=true∧e.canLay0=true∧min d.depth e.depth≤64∧Q (.bl (PyData.eqv d e)) H
def rNeD(K:PySem.W.Frag):R2:=λx y H Q=>∃d e,Dp K H x d∧Dp K H y e∧d.canLay0=true∧e.canLay0=true∧min d.depth e.depth≤64∧Q (.bl (!PyData.eqv d e)) H
theorem op_eqD(hu:X.A.units+64<cLine):OpR X (compareOp .Eq) (rEqD X.K):=by
 intro pins s σ H x y v u Q I rx ry h
 obtain⟨d,e,h1,h2,c1,c2,hd,q⟩:=h
 obtain⟨as,ra⟩:=Dp.reads I d x v h1 rx
 obtain⟨bs,rb⟩:=Dp.reads I e y u h2 ry
 exact SeqAt.compareEq_reads ra rb c1 c2 (by omega) ⟨.bl _,H,I,rfl,q⟩
theorem op_neD(hu:X.A.units+64<cLine):OpR X (compareOp .NotEq) (rNeD X.K):=by
 intro pins s σ H x y v u Q I rx ry h
 obtain⟨d,e,h1,h2,c1,c2,hd,q⟩:=h
 obtain⟨as,ra⟩:=Dp.reads I d x v h1 rx
 obtain⟨bs,rb⟩:=Dp.reads I e y u h2 ry
 exact SeqAt.compareNe_reads ra rb c1 c2 (by omega) ⟨.bl _,H,I,rfl,q⟩
theorem Same.new{p:Addr}(h:H p=none)(o:HO):Same H (upd H p o):=λb u q=>by rw[upd_ne (ne_of_none q h)];exact q
theorem DpAll.ints:∀(xs:List Int),DpAll K H (xs.map V.int) (xs.map PyData.int)
 |[]=> .nil
 |x::r=> .cons (.int x) (DpAll.ints r)
end
end L2
namespace L2
open PySem PySem.Spec PyProof.Rows
section
variable{P:Program}{w:World}{K:PySem.W.Frag}{mg:Str->Option Value}{base:Heap}
def TopD(K:PySem.W.Frag)(mg:Str->Option Value)(x:Str)(st:Stmt)(ps:List Str):Prop:=∃f fd,Fun K x x st f fd∧Binds K fd ps []∧mg x=some (.ref f)
end
section
variable{X:Cx}{k:Nat}{x:Str}{ps:List Str}{sp:Sp}{e:Expr}{es:List Expr}{t:TA}{p pos:Pos}
theorem op_le_str:OpR X (compareOp .LtE) (λx y H Q=>∃i j,x= .str i∧y= .str j∧Q (.bl (!decide (j.cps.toList<i.cps.toList))) H):=by
 intro pins s σ H x y v u Q I rx ry h
 obtain⟨i,j,rfl,rfl,q⟩:=h
 obtain⟨t,rfl⟩:=rx
 obtain⟨t',rfl⟩:=ry
 exact PySem.P.le_str (fin_bl I q rfl)
end
end L2
namespace L2
open PySem PySem.Spec PyProof.Rows
def Ite(K:PySem.W.Frag)(a:Addr):It:=
 ⟨λi H=>∃xs x,SqL K H a xs∧xs[i]? =some x,λi H x H'=>∃p y,H p=none∧x= .ref p∧H'=upd H p (.tup [.int (i:Nat),y])∧∀xs,SqL K H a xs->xs[i]? =some y,λi H=>∃xs,SqL K H a xs∧xs.length≤i⟩
theorem turn_enum{P:Program}{w:World}{K:PySem.W.Frag}{elts:List Expr}{k:Nat}{pos:Pos}(a e it:Addr)(hne:e≠it):
  Turn P w K (.Tuple elts k pos) (Ite K a) [e,it] e (λi h=>(∃old,IsEnum h e it i old)∧h.IsListIter it a i) where
 mem:=by simp
 obj:=λi h st b hb=>by
  have hb':b=e∨b=it:=by simpa using hb
  obtain⟨⟨old,he⟩,o,e1,c,d⟩:=st
  rcases hb' with z|z
  .subst z
   exact⟨_,he,λv z=>nomatch (show Data.fields _=Data.cell v from z)⟩
  .subst z
   exact⟨o,e1,λv z=>by rw[d] at z;cases z⟩
 keep:=λi h h' st kp=>by
  obtain⟨⟨old,he⟩,st⟩:=st
  exact⟨⟨old,kp e (by simp) _ he⟩,st.at λo q=>kp it (by simp) o q⟩
 item:=by
  intro X hP hw hK hc i pins s σ H E I hf st hg
  subst hP hw hK
  obtain⟨xs,x,hq,hx⟩:=hg
  obtain⟨its,rv,p,hz⟩:=I.list hq
  obtain⟨u,hu,ru⟩:=rv.get hx
  obtain⟨f0,f1,f2,f3,f4,f5⟩:=hf e (by simp)
  obtain⟨g0,g1,g2,g3,g4,g5⟩:=hf it (by simp)
  obtain⟨⟨old,he⟩,sti⟩:=st
  refine wpAny_pyNext_enum_item he sti p.isList (x:=u) (by simpa using hu) hne λh' ho hit' hT hsz hk=> ?_
  refine⟨_,rfl,wpAny_letOwnedTupleGo_enum ho λh'' he'' hs''=> ?_⟩
  have hn:H s.heap.objs.size=none:=I.hok.fresh (Nat.le_refl _)
  have elt:e<s.heap.objs.size:=Heap.lt_size he
  have ilt:it<s.heap.objs.size:=by obtain⟨_,q,_⟩:=sti;exact Heap.lt_size q
  have kp:∀b o,b≠e->b≠it->s.heap.get? b=some o->h''.get? b=some o:=λb o n1 n2 q=>(hs''.2 b n1).trans (hk b o n1 n2 q)
  have hT':h''.get? s.heap.objs.size=some {cls:= .type "tuple",data:= .seq #[.int i s.toks,u]}:=(hs''.2 _ (Nat.ne_of_gt elt)).trans hT
  have nb:∀b,b∉[e,it]->b≠e∧b≠it:=λb hb=>⟨λz=>hb (by simp[z]),λz=>hb (by simp[z])⟩
  have nT:∀b o,s.heap.get? b=some o->b≠s.heap.objs.size:=λb o q=>Nat.ne_of_lt (Heap.lt_size q)
  have I1:Inv X pins σ (upd H s.heap.objs.size (.tup [.int (i:Nat),x])) {s with heap:=h'',toks:=s.toks+1}:=by
   refine I.step (g':=s.gens) (d':=s.drawn) (ch:=[e,it]) (λb hb=> ?_) (λb o _ _ hb q _=>kp b o (nb b hb).1 (nb b hb).2 q) (λb o _ _ hb q _=>⟨o.slots,kp b o (nb b hb).1 (nb b hb).2 q⟩)
    (λb o hb q n=>by rw[upd_ne (nT b o q)];exact n) (λb o hb q=>⟨o,kp b o (nb b hb).1 (nb b hb).2 q⟩) (λb ys q=>by rw[upd_ne (ne_of_none q hn)];exact q) (λb o v q=>by rw[upd_ne (ne_of_none q hn)];exact q)
    (λb ps q=>⟨#[],by rw[upd_ne (ne_of_none q hn),q];simp⟩) (λm hm=> ?_) (λb v q=> ?_) I.bare
   .have hb':b=e∨b=it:=by simpa using hb
    rcases hb' with z|z
    .subst z;exact⟨f3,f1,f4,f5⟩
    .subst z;exact⟨g3,g1,g4,g5⟩
   .obtain⟨o,es,ep,q,r⟩:=hm
    exact⟨o,es,ep,kp _ o (Ne.symm f1) (Ne.symm g1) q,r⟩
   .by_cases hb:b=s.heap.objs.size
    .subst hb
     rw[upd_same] at q
     cases q
     exact⟨by show 2≤sizeLine;decide,[.int i s.toks,u],.cons ⟨_,rfl⟩ (.cons ru .nil),_,hT'⟩
    .rw[upd_ne hb] at q
     have ne1:∀c v',H c=some v'->c≠e∧c≠it:=λc v' q'=>⟨λz=>(by rw[z,f0] at q';cases q'),λz=>(by rw[z,g0] at q';cases q')⟩
     refine(I.hok b v q).stay (λc w' hc' q'=>kp c w' ?_ ?_ q') (λc q'=>by rw[upd_ne (ne_of_none q' hn)];exact q') λc ys q'=>by rw[upd_ne (ne_of_none q' hn)];exact q'
     .rcases hc' with z|z
      .rw[z];exact(ne1 b v q).1
      .exact(ne1 c _ z).1
     .rcases hc' with z|z
      .rw[z];exact(ne1 b v q).2
      .exact(ne1 c _ z).2
  refine⟨.ref s.heap.objs.size,_,I1,rfl,⟨s.heap.objs.size,x,hn,rfl,rfl,λys hy=>by rw[I.list_inj hy hq];exact hx⟩,⟨⟨u,by simpa using he''⟩,hit'.at λo q=>(hs''.2 it hne.symm).trans q⟩,λb hb=> ?_⟩
  have hb':b=e∨b=it:=by simpa using hb
  rcases hb' with z|z
  .subst z;rw[upd_ne (Nat.ne_of_lt elt)];exact f0
  .subst z;rw[upd_ne (Nat.ne_of_lt ilt)];exact g0
 done:=by
  intro X hP hw hK hc i pins s σ H E I hf st hg
  subst hP hw hK
  obtain⟨xs,hq,hx⟩:=hg
  obtain⟨its,rv,p,hz⟩:=I.list hq
  obtain⟨g0,g1,g2,g3,g4,g5⟩:=hf it (by simp)
  obtain⟨⟨old,he⟩,sti⟩:=st
  have hl:=rv.length
  exact wpAny_pyNext_enum_end (I.ok.hd hc) he sti p.isList (by simp;omega) λh' eb=>⟨rfl,I.turned (t':=s.toks) (λb o hb e=>eb b o hb e) g0 g1 g3 g4 g5⟩
 self:=λ_ _ _ _ _ st h=>by
  obtain⟨⟨old,he⟩,_⟩:=st
  exact wpAny_pyIter_enum he h
section
variable{X:Cx}
def iEnum(K:PySem.W.Frag)(ta:TA):TI:=λσ H R=>ta σ H λvs H1=>∃a xs,vs=[.ref a]∧SqL K H1 a xs∧R (Ite K a) H1
theorem pi_enum{l:Expr}{ta:TA}{elts:List Expr}{k:Nat}{tpos p pos:Pos}(hg:Gl X "enumerate")(hm:X.mg "enumerate" =none)(ha:PA X [l] ta)(hb:bootBuiltins "enumerate" =some (.type "enumerate"))(hs:starEach [l] X.env=[(false,eval l X.env)]:=by rfl):
  PI X (.Tuple elts k tpos) (.Call (.Name "enumerate" p) [l] [] pos) (iEnum X.K ta):=by
 intro pins s σ H R I h
 refine Call_ (ld_blt I hg hm hb (PyProof.Rows.callWith_type1 (thn (ha pos pins s σ H _ I h) λus s1 ⟨vs,H1,I1,r1,q1⟩=> ?_) hs rfl))
 obtain⟨a,xs,e,hq,q⟩:=q1
 subst e
 obtain⟨u,rfl,ru⟩:=vals1 r1
 cases ru
 obtain⟨its,rv,pl,hz⟩:=I1.list hq
 refine call_enumerate_list pl.isList λh' he hit hsz hk=> ?_
 have I2:Inv X pins σ H1 {s1 with heap:=h'}:=I1.kept (t':=s1.toks) hk
 refine wpAny_pyIter_enum he ⟨_,[s1.heap.objs.size+1,s1.heap.objs.size],_,_,H1,rfl,I2,turn_enum a _ _ (Nat.ne_of_gt (Nat.lt_succ_self _)),⟨⟨_,he⟩,hit⟩,λb hb=> ?_,q⟩
 have hb':b=s1.heap.objs.size+1∨b=s1.heap.objs.size:=by simpa using hb
 rcases hb' with z|z
 .subst z
  exact I1.fpOk (Nat.le_succ _) (I1.hok.fresh (Nat.le_succ _))
 .subst z
  exact I1.fpOk (Nat.le_refl _) (I1.hok.fresh (Nat.le_refl _))
end
inductive TyR(K:PySem.W.Frag)(H:Hp):V->Value->Prop where
 |of {x:V} {t:Value} (h:TyOf K H x t):TyR K H x t
 |tup {a:Addr} {xs:List V} (h:SqT K H a xs):TyR K H (.ref a) (.type "tuple")
 |lst {a:Addr} {xs:List V} (h:SqL K H a xs):TyR K H (.ref a) (.type "list")
theorem call_isI{X:Cx}:CallR X (.builtin "isinstance") (λxs H Q=>∃x c t b,xs=[x,.ty c]∧TyR X.K H x t∧PySem.W.kitOne X.K t (.type c)=some b∧Q (.bl b) H):=by
 intro pins s σ H xs us Q I r h
 obtain⟨x,c,t,b,rfl,ty,e,q⟩:=h
 obtain⟨u,w',rfl,ru,rw'⟩:=vals2 r
 cases rw'
 cases ty with
 |of ty=>exact isinst_ok I ru ty e λtk=>⟨.bl b,H,I.tok tk,rfl,q⟩
 |tup hq=>
  cases ru
  obtain⟨its,rv,⟨o,h1,h2,_⟩,_⟩:=I.tuple hq
  exact PySem.W.kia_one PySem.W.kitx_tuple I.kIn ⟨o,h1,h2⟩ e (λz=>nomatch z) λtk=>⟨.bl b,H,I.tok tk,rfl,q⟩
 |lst hq=>
  cases ru
  obtain⟨its,rv,pl,_⟩:=I.list hq
  obtain⟨o,h1,h2,_⟩:=pl.isList
  exact PySem.W.kia_one PySem.W.kitx_list I.kIn ⟨o,h1,h2⟩ e (λz=>nomatch z) λtk=>⟨.bl b,H,I.tok tk,rfl,q⟩
end L2
namespace MA
theorem gcd_step{a b:Int}(ha:0≤a)(hb:0<b):Int.gcd b (a%b)=Int.gcd a b:=by
 obtain⟨m,rfl⟩:=Int.eq_ofNat_of_zero_le ha
 obtain⟨n,rfl⟩:=Int.eq_ofNat_of_zero_le (Int.le_of_lt hb)
 rw[←Int.natCast_emod,Int.gcd_natCast_natCast,Int.gcd_natCast_natCast,Nat.gcd_comm n (m%n),←Nat.gcd_rec,Nat.gcd_comm]
def rf(x:Rat):Int×Int:=(x.num,(x.den:Int))
theorem rf_pos(x:Rat):0<(rf x).2:=by
 have:=x.den_pos
 show(0:Int)<(x.den:Int)
 omega
theorem rf_val(x:Rat):((rf x).1:Rat)/((rf x).2:Rat)=x:=by
 show(x.num:Rat)/((x.den:Int):Rat)=x
 rw[←Rat.divInt_eq_div,Rat.divInt_ofNat,Rat.mkRat_self]
theorem rf_inj{x y:Rat}(h:rf x=rf y):x=y:=by rw[←rf_val x,←rf_val y,h]
theorem rf_red{a b:Int}(hb:0<b):(a/(Int.gcd a b:Int),b/(Int.gcd a b:Int))=rf ((a:Rat)/(b:Rat)):=by
 rw[←Rat.divInt_eq_div]
 unfold rf
 have h1:=Rat.num_divInt a b
 have h2:=Rat.den_divInt a b
 rw[h1,h2]
 have hs:b.sign=1:=Int.sign_eq_one_of_pos hb
 rw[hs,if_neg (by omega),Int.one_mul,Int.gcd_comm b a]
 congr 1
 have:(b.natAbs:Int)=b:=by omega
 rw[Int.natCast_ediv,this]
inductive Mob(N:Type) where
 |wt (n:N)
 |rod (l r:Int) (a b:Mob N)
namespace Mob
variable{N:Type}
def arms:Mob N->Prop
 |wt _=>True
 |rod l r a b=>1≤l∧l≤9∧1≤r∧r≤9∧a.arms∧b.arms
def deep:Mob N->Nat
 |wt _=>0
 |rod _ _ a b=>max a.deep b.deep+1
def names:Mob N->List N
 |wt n=>[n]
 |rod _ _ a b=>a.names++b.names
def sh:Mob N->Rat->List Rat
 |wt _,x=>[x]
 |rod l r a b,x=>a.sh (x*((r:Rat)/((l+r:Int):Rat)))++b.sh (x*((l:Rat)/((l+r:Int):Rat)))
theorem names_le:∀(m:Mob N),m.names.length≤2 ^ m.deep
 |wt _=>Nat.le_refl 1
 |rod _ _ a b=>by
  have h1:=names_le a
  have h2:=names_le b
  have h3:2 ^ a.deep≤2 ^ max a.deep b.deep:=Nat.pow_le_pow_right (by decide) (Nat.le_max_left _ _)
  have h4:2 ^ b.deep≤2 ^ max a.deep b.deep:=Nat.pow_le_pow_right (by decide) (Nat.le_max_right _ _)
  show List.length (_++_)≤2 ^ (max a.deep b.deep+1)
  rw[List.length_append,Nat.pow_succ]
  omega
theorem names_pos:∀(m:Mob N),0<m.names.length
 |wt _=>Nat.zero_lt_one
 |rod _ _ a b=>by
  have h1:=names_pos a
  show 0<List.length (_++_)
  rw[List.length_append]
  omega
end Mob
end MA
namespace MA
theorem rf_one:rf 1=(1,1):=by rfl
theorem cast_ne{a:Int}(h:a≠0):(a:Rat)≠0:=by
 intro z
 exact h (by exact_mod_cast z)
theorem rf_mul(t:Rat)(a b:Int):rf ((((rf t).1*a:Int):Rat)/(((rf t).2*b:Int):Rat))=rf (t*((a:Rat)/(b:Rat))):=by
 have h1:=cast_ne (Int.ne_of_gt (rf_pos t))
 congr 1
 rw[Rat.intCast_mul,Rat.intCast_mul]
 have e1:=rf_val t
 by_cases hb:(b:Rat)=0
 .rw[hb];grind
 .grind
theorem rf_mul2(t s:Rat):rf ((((rf t).1*(rf s).1:Int):Rat)/(((rf t).2*(rf s).2:Int):Rat))=rf (t*s):=by
 rw[rf_mul,rf_val]
theorem den_le{a b:Int}(hb:0<b):(rf ((a:Rat)/(b:Rat))).2≤b:=by
 rw[←rf_red hb]
 show b/(Int.gcd a b:Int)≤b
 exact Int.ediv_le_self _ (Int.le_of_lt hb)
theorem den_mul{t:Rat}{a b:Int}(hb:0<b):(rf (t*((a:Rat)/(b:Rat)))).2≤(rf t).2*b:=by
 rw[←rf_mul]
 exact den_le (Int.mul_pos (rf_pos t) hb)
theorem num_pos{x:Rat}(h:0<x):0<(rf x).1:=by
 have h1:0≤(rf x).1:=Rat.num_nonneg.mpr (Rat.le_of_lt h)
 have h2:(rf x).1≠0:=λz=>by
  have e:=rf_val x
  rw[z] at e
  have e0:x=0:=by rw[←e,Rat.div_def];grind
  rw[e0] at h
  exact absurd h (by decide)
 omega
namespace Mob
variable{N:Type}
theorem step_pos{l r:Int}{x:Rat}(hl:1≤l)(hr:1≤r)(h:0<x):0<x*((r:Rat)/((l+r:Int):Rat)):=by
 have h1:(0:Rat)<(r:Rat):=by exact_mod_cast (show(0:Int)<r by omega)
 have h2:(0:Rat)<((l+r:Int):Rat):=by exact_mod_cast (show(0:Int)<l+r by omega)
 exact Rat.mul_pos h (by rw[Rat.div_def];exact Rat.mul_pos h1 (Rat.inv_pos.mpr h2))
theorem sh_bound:∀(m:Mob N) (x:Rat) (B:Int),m.arms->0<x->(rf x).2≤B->∀s∈m.sh x,0<s∧(rf s).2≤B*18 ^ m.deep
 |wt _,x,B,_,h1,h2,s,hs=>by
  have:s=x:=by simpa[sh] using hs
  subst this
  exact⟨h1,by simpa[deep] using h2⟩
 |rod l r a b,x,B,h,h1,h2,s,hs=>by
  obtain⟨g1,g2,g3,g4,g5,g6⟩:=h
  have hB:0<B:=Int.lt_of_lt_of_le (rf_pos x) h2
  have d1:(rf (x*((r:Rat)/((l+r:Int):Rat)))).2≤B*18:=by
   refine Int.le_trans (den_mul (by omega)) ?_
   exact Int.mul_le_mul h2 (by omega) (by omega) (by omega)
  have d2:(rf (x*((l:Rat)/((l+r:Int):Rat)))).2≤B*18:=by
   refine Int.le_trans (den_mul (by omega)) ?_
   exact Int.mul_le_mul h2 (by omega) (by omega) (by omega)
  have p1:0<x*((r:Rat)/((l+r:Int):Rat)):=step_pos g1 g3 h1
  have p2:0<x*((l:Rat)/((l+r:Int):Rat)):=by
   have:=step_pos (l:=r) (r:=l) g3 g1 h1
   rwa [Int.add_comm r l] at this
  have up:∀k:Nat,k≤max a.deep b.deep->B*18*18 ^ k≤B*18 ^ (max a.deep b.deep+1):=λk hk=>by
   rw[Int.pow_succ,Int.mul_assoc,Int.mul_comm 18 (18 ^ k)]
   refine Int.mul_le_mul_of_nonneg_left ?_ (Int.le_of_lt hB)
   refine Int.mul_le_mul_of_nonneg_right ?_ (by decide)
   have:(18:Nat) ^ k≤18 ^ max a.deep b.deep:=Nat.pow_le_pow_right (by decide) hk
   exact_mod_cast this
  have hs':s∈a.sh (x*((r:Rat)/((l+r:Int):Rat)))∨s∈b.sh (x*((l:Rat)/((l+r:Int):Rat))):=List.mem_append.mp hs
  rcases hs' with hs|hs
  .obtain⟨q1,q2⟩:=sh_bound a _ _ g5 p1 d1 s hs
   exact⟨q1,Int.le_trans q2 (up _ (Nat.le_max_left _ _))⟩
  .obtain⟨q1,q2⟩:=sh_bound b _ _ g6 p2 d2 s hs
   exact⟨q1,Int.le_trans q2 (up _ (Nat.le_max_right _ _))⟩
end Mob
def barM{W N S:Type}[DecidableEq N][DecidableEq S](pre:List (W×N×S)):List (W×N×S)->Option (W×W)
 |[]=>none
 |(w,n,s)::r=>match pre.find? (λp=>decide (p.2.1=n)) with
  |some p=>if p.2.2=s then barM (pre++[(w,n,s)]) r else some (p.1,w)
  |none=>barM (pre++[(w,n,s)]) r
end MA
namespace L2
open PySem PySem.Spec PyProof.Rows
section
variable{P:Program}{w:World}{H H':Hp}{h:Heap}{a:Addr}{o:HO}
theorem ObjOk.obj(x:ObjOk P w H h a o):∃u,h.get? a=some u:=by
 cases o with
 |lst xs=>obtain⟨_,_,_,_,e⟩:=x;exact⟨_,e⟩
 |tup xs=>obtain⟨_,_,_,_,e⟩:=x;exact⟨_,e⟩
 |dK kvs=>obtain⟨_,_,_,_,o,_,_,e,_⟩:=x;exact⟨_,e⟩
 |dT kvs=>obtain⟨_,_,_,_,o,_,_,e,_⟩:=x;exact⟨_,e⟩
 |set S n=>obtain⟨o,_,_,_,e,_⟩:=x;exact⟨_,e⟩
 |ins C dx fs=>obtain⟨_,_,_,e,_⟩:=x;exact⟨_,e⟩
 |own y=>exact x
 |xd fs=>obtain⟨_,⟨_,_,_,e,_⟩,_⟩:=x;exact⟨_,e⟩
 |rng lo hi=>obtain⟨_,_,_,e⟩:=x;exact⟨_,e⟩
 |frz ob u=>obtain⟨e,_⟩:=x;exact⟨_,e⟩
 |tbl ps=>exact⟨_,(show h.get? a=some _ from x)⟩
 |met f y=>exact⟨_,(show h.get? a=some _ from x)⟩
 |ext φ=>obtain⟨_,e,_⟩:=x;exact e
end
structure Fly(P:Program)(w:World)(outer:List Env)(H H':Hp)(s s':Shared)(a:Addr)(C:Value):Prop where
 os:s'.os=s.os
 bare:AllBare s'.gens
 slot:∀b o,s.heap.get? b=some o->b∈frs outer->∃sl,s'.heap.get? b=some {o with slots:=sl}
 free:∀b o,s.heap.get? b=some o->H b=none->H' b=none
 tups:∀b xs,H b=some (.tup xs)->H' b=some (.tup xs)
 frzs:∀b o u,H b=some (.frz o u)->H' b=some (.frz o u)
 tbls:∀b ps,H b=some (.tbl ps)->∃more,H' b=some (.tbl (ps++more))
 fl:∃(B:Heap) (a0:Value),(∀b o,s.heap.get? b=some o->H b=none->b∉frs outer->B.get? b=some o)∧(∀b o,s.heap.get? b=some o->b∉frs outer->∃o',B.get? b=some o')∧HOk P w H' B∧Heap.FlyingW B outer a C a0 s'.heap
section
variable{P:Program}{w:World}{outer:List Env}{H H':Hp}{s s':Shared}{a:Addr}{C:Value}
end
def CX1(P:Program)(w:World):CXT:=λouter H s E e s'=>∃(a:Addr) (C:Value) (H':Hp),e= .ref a∧Fly P w outer H H' s s' a C∧E C none H'
section
variable{X:Cx}{pins:List (Addr×Obj)}{σ:St}{H H':Hp}{s s':Shared}{a:Addr}{C:Value}
theorem fly_out(I:Inv X pins σ H s)(hex:X.ex=[])(os:s'.os=s.os)(bare:AllBare s'.gens)(slot:∀b o,s.heap.get? b=some o->b∈frs X.outer->∃sl,s'.heap.get? b=some {o with slots:=sl})
  (free:∀b o,s.heap.get? b=some o->H b=none->H' b=none)(tups:∀b xs,H b=some (.tup xs)->H' b=some (.tup xs))(frzs:∀b o u,H b=some (.frz o u)->H' b=some (.frz o u))
  (tbls:∀b ps,H b=some (.tbl ps)->∃more,H' b=some (.tbl (ps++more)))
  (fl:∃(B:Heap) (a0:Value),(∀b o,s.heap.get? b=some o->H b=none->b∉frs X.stack->B.get? b=some o)∧(∀b o,s.heap.get? b=some o->b∉frs X.stack->∃o',B.get? b=some o')∧HOk X.prog X.w H' B∧Heap.FlyingW B X.outer a C a0 s'.heap):
  Fly X.prog X.w X.outer X.H₀ H' X.s₀ s' a C:=by
 have nx:∀b:Addr,b∉X.ex:=λb=>by rw[hex];simp
 have nst:∀b o,X.s₀.heap.get? b=some o->b∉frs X.outer->b∉frs X.stack:=λb o q hb z=>by
  rcases List.mem_cons.mp (I.stkSub b z) with e|e
  .exact absurd (Nat.lt_of_lt_of_le (Heap.lt_size q) I.ok.above) (by rw[e];exact Nat.lt_irrefl _)
  .exact hb e
 refine⟨os.trans I.os,bare,λb o q hb=> ?_,λb o q n=> ?_,λb xs q=>tups b xs (I.base.tups b xs q),λb o u q=>frzs b o u (I.base.frzs b o u q),λb ps q=> ?_,?_⟩
 .obtain⟨sl,e⟩:=I.base.slot b o q (I.ok.frf b hb) hb (nx b)
  obtain⟨sl',e'⟩:=slot b _ e hb
  exact⟨sl',e'⟩
 .obtain⟨sl,e⟩:=I.base.any q n (nx b)
  exact free b _ e (I.base.free b o q n (nx b))
 .obtain⟨m1,e1⟩:=I.base.tbls b ps q
  obtain⟨m2,e2⟩:=tbls b _ e1
  exact⟨m1++m2,by rw[e2,Array.append_assoc]⟩
 .obtain⟨B,a0,k,t,h,f⟩:=fl
  refine⟨B,a0,λb o q n hb=>k b o (I.base.keep b o q n hb (nx b)) (I.base.free b o q n (nx b)) (nst b o q hb),λb o q hb=> ?_,h,f⟩
  obtain⟨o',e⟩:=I.base.there b o q (nx b)
  exact t b o' e (nst b o q hb)
end
def Raises(X:Cx)(E:XK):Prop:=∀(pins:List (Addr×Obj)) (σ:St) (H:Hp) (s:Shared) (e:Addr) (h':Heap) (C:Value) (args:List Value),Inv X pins σ H s->Heap.MadeExcOf s.heap h' e C args->E C none H->X.xe (.ref e) {s with heap:=h'}
section
variable{P:Program}{w:World}{K:PySem.W.Frag}{mg:Str->Option Value}{base:Heap}{N:List Str}{qual:Str}{scope:Scope}{f:Addr}{cd:Value}{A:Around}{outer:List Env}{s:Shared}{H:Hp}{E:XK}
theorem frs_cons{env:Env}{l:List Env}{b:Addr}(h:b∈frs l):b∈frs (env::l):=by
 obtain⟨e,he,hf⟩:=List.mem_filterMap.mp h
 exact List.mem_filterMap.mpr ⟨e,List.mem_cons_of_mem _ he,hf⟩
theorem raisesX:Raises (cxOf (CX1 P w) P w K mg base N qual scope f cd A outer s H E) E:=by
 intro pins σ H1 s1 e h' C args I mx hE
 have stk:=I.stack
 have nofr:∀b o,H1 b=some o->b∉frs (cxOf (CX1 P w) P w K mg base N qual scope f cd A outer s H E).stack:=λb o q z=>by
  rw[I.stkFree b z] at q;cases q
 have hin:∀env'∈(cxOf (CX1 P w) P w K mg base N qual scope f cd A outer s H E).stack,∀b,env'.frame=some b->b∈frs (cxOf (CX1 P w) P w K mg base N qual scope f cd A outer s H E).stack:=λenv' he b hb=>List.mem_filterMap.mpr ⟨env',he,hb⟩
 show wpAny (model P w) _ (leaving _ (.ref e)) _ _ _
 refine wpAny_leaves_madeW (base:=PySem.W.hideAll s1.heap (frs (cxOf (CX1 P w) P w K mg base N qual scope f cd A outer s H E).stack)) I.ok.frames rfl (λb o q=>PySem.W.of_hideAll _ q) (PySem.W.funFrames_hide stk hin) mx λh'' t fl tup bt up=> ?_
 refine⟨e,C,H1,rfl,fly_out I rfl rfl I.bare (λb o q hb=> ?_) (λ_ _ _ n=>n) (λ_ _ q=>q) (λ_ _ _ q=>q) (λ_ ps q=>⟨#[],by rw[q];simp⟩) ⟨_,_,λb o q n hb=>PySem.W.hideAll_get _ q hb,λb o q hb=>⟨o,PySem.W.hideAll_get _ q hb⟩,λb o q=> ?_,fl⟩,hE⟩
 .obtain⟨_,o',ho',hd⟩:=stk.mem (frs_cons (env:=envOfC qual scope s.heap.objs.size f cd) hb)
  rw[q] at ho'
  cases ho'
  exact up b o (mx.keeps b o q) hd
 .refine(I.hok b o q).stay (λc u hc r=>PySem.W.hideAll_get _ r ?_) (λ_ r=>r) λ_ _ r=>r
  rcases hc with z|z
  .rw[z];exact nofr b o q
  .exact nofr c _ z
theorem passX:Passes (CX1 P w) (cxOf (CX1 P w) P w K mg base N qual scope f cd A outer s H E) E:=by
 intro pins σ H1 s1 e s' I h
 obtain⟨a,C,H',rfl,F,hE⟩:=h
 obtain⟨B,a0,kb,th,hok,fl⟩:=F.fl
 show wpAny (model P w) _ (leaving _ (.ref a)) _ _ _
 refine wpAny_leaves_onW I.ok.frames rfl fl λh'' fl' up=>⟨a,C,H',rfl,fly_out I rfl F.os F.bare (λb o q hb=> ?_) F.free F.tups F.frzs F.tbls ⟨B,a0,kb,th,hok,fl'⟩,hE⟩
 have hb':=frs_cons (env:=envOfC qual scope s.heap.objs.size f cd) hb
 obtain⟨sl,e⟩:=F.slot b o q hb'
 obtain⟨_,o',ho',hd⟩:=fl.2.2.1.mem hb'
 rw[e] at ho'
 cases ho'
 obtain⟨sl',e'⟩:=up b _ e hd
 exact⟨sl',e'⟩
theorem ownX:PassesOwn (model P w) (cxOf (CX1 P w) P w K mg base N qual scope f cd A outer s H E).A (cxOf (CX1 P w) P w K mg base N qual scope f cd A outer s H E).env (cxOf (CX1 P w) P w K mg base N qual scope f cd A outer s H E).xe:=
 PassesOwn.leaving
end
abbrev vErr:List Value:=[.type "ValueError",.type "Exception",.type "BaseException",.type "object"]
theorem exc_of_in{K:PySem.W.Frag}{h:Heap}{C:Addr}{bmB:List Value}{newId:String}(X:K.In h)(q:PySem.W.excIn K C bmB newId=true):∃nm qn N bs bm hdct sn sub ab col dd k0 k1 k2 k3 k5,∃mN:Str->Option Value,
  h.get? C=some (excClassObj nm qn C N bs bm hdct sn sub ab col dd k0 k1 k2 k3 k5 newId)∧h.Ns N mN∧mN "__init__" =none∧OwnTail h bmB bm:=by
 unfold PySem.W.excIn at q
 split at q
 .rename_i dd cd sl ho
  split at q
  .rename_i C' bm k0 k1 k2 k3 n k5 hm hs
   simp only[Bool.and_eq_true,beq_iff_eq,Bool.not_eq_true'] at q
   obtain⟨⟨⟨⟨⟨rfl,rfl⟩,hdel⟩,ht⟩,hok⟩,hni⟩:=q
   obtain⟨nm,bs,mro,ns,qn,hd,sn,sub,ab,col,del⟩:=cd
   dsimp only at hm hdel hok hni
   subst hm hdel
   have hsl:sl= #[k0,k1,k2,k3,some (.builtin n),k5]:=by
    obtain⟨l⟩:=sl
    simp only at hs
    rw[hs]
   subst hsl
   exact⟨nm,qn,ns,bs,bm,hd,sn,sub,ab,col,dd,k0,k1,k2,k3,k5,_,X _ _ ho,.of_isNs (PySem.W.isNs_of_in X hok),PySem.W.nsMap_none_of_in X hok hni,PySem.W.tail_of_in X ht⟩
  .cases q
 .cases q
section
variable{X:Cx}{E:XK}{x:Str}{C:Addr}{e:Expr}{t:TA}{np cpos pos:Pos}
def tRaise(E:XK)(C:Addr)(t:TA):TS:=λ_ σ H=>t σ H λvs H1=>vs.length≤sizeLine∧E (.ref C) none H1
theorem ps_raise(hR:Raises X E)(hc:X.calm=true)(hm:X.mg x=some (.ref C))(hC:PySem.W.excIn X.K C vErr "ValueError.__new__" =true)(ha:PA X [e] t)(hg:Gl X x:=by rfl)(hdb:(x==("__debug__" :Str))=false:=by decide)
  (he:starEach [e] X.env=[(false,eval e X.env)]:=by rfl):PS X (.Raise (some (.Call (.Name x np) [e] [] cpos)) none pos) (tRaise E C t):=by
 intro pins s σ H D I h
 obtain⟨nm,qn,N,bs,bm,hdct,sn,sub,ab,col,dd,k0,k1,k2,k3,k5,mN,hCo,hN,hni,hT⟩:=exc_of_in I.mod.kin hC
 refine wpAny_Raise_call_subT (nm:=nm) (q:=qn) (C:=C) (N:=N) (bs:=bs) (bm:=bm) (hdct:=hdct) (sn:=sn) (sub:=sub) (ab:=ab) (col:=col) (dd:=dd) (k0:=k0) (k1:=k1) (k2:=k2) (k3:=k3) (k5:=k5) (mN:=mN) PySem.F.excBase_ValueError (hT.hasType (by decide+kernel)) (I.ok.hd hc) (by rw[he];rfl) hni (ld_glob I hg hm ⟨rfl,?_⟩ hdb)
 have h':=ha cpos pins s σ H _ I h
 rw[he] at h' ⊢
 refine Calls.evalArgs_plain (thn h' λus s1 ⟨vs,H1,I1,r1,q1⟩=> ?_)
 have hl:=r1.length
 exact⟨rfl,by show us.length≤sizeLine;rw[←hl];exact q1.1,I1.bk _ _ hCo,hN.keeps I1.bk,hT.keeps I1.bk,λh2 e2 mx=>hR _ _ _ _ _ _ _ _ I1 mx q1.2⟩
end
end L2
namespace L2
open PySem PySem.Spec PyProof.Rows
def excAt(a:Addr)(C:Value)(h:Heap):Prop:=∃o,h.get? a=some o∧o.cls=C
section
variable{prog:Program}{w:World}{A:Around}{E:Value->Shared->Prop}{s:Shared}{K:PySem.W.Frag}{x C:Addr}{ox:Obj}
end
abbrev excO(a C:Addr):HO:= .ext (excAt a (.ref C))
section
variable{X:Cx}
end
end L2
namespace L2
open PySem PySem.Spec PyProof.Rows
section
variable{X:Cx}{pins:List (Addr×Obj)}{σ:St}{H:Hp}{s:Shared}
end
section
variable{P:Program}{w:World}{outer:List Env}{H H':Hp}{s s':Shared}{a:Addr}{C a0:Value}{B h'':Heap}
end
section
variable{X:Cx}{D:Addr}{i:Nat}{n cn:Str}{b₀:Stmt}{suite body:List Stmt}{tb:List (Addr×Obj)->(Value->Shared->Prop)->XK->TS}{th:TS}{np hpos pos:Pos}
end
end L2
namespace L2
open PySem PySem.Spec PyProof.Rows
section
variable{P:Program}{w:World}{K:PySem.W.Frag}{mg:Str->Option Value}{base:Heap}
def FnX(P:Program)(w:World)(K:PySem.W.Frag)(mg:Str->Option Value)(base:Heap)(k:Nat)(x:Str)(ps:List Str)(sp:Sp):Prop:=
 ∃f fd,FnOk P w K mg base (CX1 P w) k f fd ps sp∧Binds K fd ps []∧PySem.W.keepIn K (.ref f)=true∧mg x=some (.ref f)
theorem TopD.fnX{x:Str}{st:Stmt}{N ps:List Str}{k:Nat}{sp:Sp}(T:TopD K mg x st ps)(S:FnScope N ps (defScope st))(len:∀vs H Q E,sp vs H Q E->vs.length=ps.length)
  (hbody:∀(f:Addr) (cdv:Value) (A:Around) (outer:List Env) (s:Shared) (H:Hp) (vs:List V) (Q:VK) (E:XK),Room k (A.deeper (envOfC x (defScope st) s.heap.objs.size f cdv))->sp vs H Q E->
   ∃t,PSs (cxOf (CX1 P w) P w K mg base N x (defScope st) f cdv A outer s H E) (defBody st) t∧t {nx:=λ_ H'=>Q .non H',rt:=Q} (start N vs) H):FnX P w K mg base (k+1) x ps sp:=by
 obtain⟨f,fd,F,b,m⟩:=T
 have kp:=F.kp
 obtain⟨oc,od,kV,doc,pm,an,cdv,ct,osl,rfl,lk,hcd⟩:=F.ex
 exact⟨f,_,fn_of lk hcd S len λA outer s H vs Q E hr hsp=>hbody f cdv A outer s H vs Q E hr hsp,b,kp,m⟩
end
section
variable{X:Cx}{k:Nat}{x:Str}{ps:List Str}{sp:Sp}{e fe:Expr}{es:List Expr}{t:TA}{tf:TE}{p pos:Pos}{E:XK}
theorem pe_callX(F:FnX X.prog X.w X.K X.mg X.base k x ps sp)(hr:Room k X.A)(hx:Passes (CX1 X.prog X.w) X E)(ha:PA X (e::es) t)(hg:Gl X x:=by rfl)(hdb:(x==("__debug__" :Str))=false:=by decide)
  (he:starEach (e::es) X.env=(false,eval e X.env)::starEach es X.env:=by rfl)(hpl:(backTo pos (starEach es X.env)).any (·.1)=false:=by rfl):
  PE X (.Call (.Name x p) (e::es) [] pos) (tCall sp [] E t):=by
 obtain⟨f,fd,F,b,kp,m⟩:=F
 exact pe_call F hr hg m kp b .nil hx ha hdb he hpl
end
end L2
namespace SS
open PySem PySem.Spec PyProof.Rows
theorem orStandIn_led(t:SetTable)(n:Nat):(t.orStandIn n).led=t.led:=by
 unfold SetTable.orStandIn
 split<;>rfl
theorem orStandIn_plain(t:SetTable)(n:Nat)(h:t.plain=false):(t.orStandIn n).plain=false:=by
 unfold SetTable.orStandIn
 split
 .exact h
 .rfl
theorem layNew_led(t:SetTable)(es:Array (Int×Value))(h:Int)(x:Value):(layNew t es h x).2.1.led=t.led:=by
 unfold layNew
 split
 .exact orStandIn_led _ _
 .rfl
theorem layNew_plain(t:SetTable)(es:Array (Int×Value))(h:Int)(x:Value)(hp:t.plain=false):(layNew t es h x).2.1.plain=false:=by
 unfold layNew
 split
 .exact orStandIn_plain _ _ hp
 .rfl
theorem laid_led{mask finger moves:Nat}{led plain:Bool}{hs:Array Int}{t:SetTable}{o:Array Nat}(h:SetTable.laid mask finger moves led plain hs=some (t,o)):t.led=led∧t.plain=plain:=by
 unfold SetTable.laid at h
 obtain⟨w,_,h⟩:=Option.bind_eq_some_iff.mp h
 cases h
 exact⟨rfl,rfl⟩
theorem relayAll_led(t:SetTable)(es:Array (Int×Value))(n:Nat):(relayAll t es n).2.1.led=t.led:=by
 unfold relayAll
 split
 .rename_i t' o e
  dsimp only
  split
  .exact(laid_led e).1
  .rfl
 .rfl
theorem relayAll_plain(t:SetTable)(es:Array (Int×Value))(n:Nat)(hp:t.plain=false):(relayAll t es n).2.1.plain=false:=by
 unfold relayAll
 split
 .rename_i t' o e
  dsimp only
  split
  .exact(laid_led e).2.trans hp
  .rfl
 .rfl
def strOf(v:Value):Str:=match v with| .str x _=>x|_=>⟨#[]⟩
def SetX(prog:Program)(w:World)(h:Heap)(a:Addr)(es:Array (Int×Value)):Prop:=
 ∃o ep t,h.get? a=some o∧o.ExactSet∧o.data= .set es ep t∧ElemsOf (PySem.strKind prog w) es.toList∧(es.toList.map λe=>strOf e.2).Nodup∧es.size<scanBound∧t.fits es.size=true∧
  t.led= !w.params.followText "set-order"∧(es.size≠0->t.plain=false)
section
variable{prog:Program}{w:World}{A:Around}{E:Value->Shared->Prop}{s:Shared}
theorem elems_str{l:List (Int×Value)}(h:ElemsOf (PySem.strKind prog w) l){e:Int×Value}(he:e∈l):∃t,e.2= .str (strOf e.2) t:=by
 obtain⟨⟨k,hk,_⟩,_⟩:=h e he
 obtain⟨t,q⟩:=Value.isStrOf_shape hk
 exact⟨t,by rw[q];rfl⟩
theorem is_strOf{e:Int×Value}{x:Str}(h:∃t,e.2= .str (strOf e.2) t):(PySem.strKind prog w).is x e.2=decide (strOf e.2=x):=by
 obtain⟨t,q⟩:=h
 rw[q]
 show Value.isStrOf x (.str (strOf e.2) t)=decide (strOf (.str (strOf e.2) t)=x)
 by_cases hx:strOf e.2=x
 .rw[decide_eq_true (by rw[←hx];rfl),hx]
  simp[Value.isStrOf]
 .rw[decide_eq_false (by exact hx)]
  simp only[Value.isStrOf]
  simpa[beq_iff_eq] using λz=>hx (by first|exact z.symm|exact z)
theorem add{a:Addr}{es:Array (Int×Value)}{x:Str}{tk:Tok}{Q:Bool->Shared->Prop}(hS:SetX prog w s.heap a es)(hroom:es.size+1<scanBound)
  (h:∀h' es' b,Heap.SameBut a s.heap h'->SetX prog w h' a es'->(x∈es.toList.map (λe=>strOf e.2)->es'=es)->(x∉es.toList.map (λe=>strOf e.2)->es'.toList.Perm (es.toList++[((PySem.strKind prog w).hash x,.str x tk)]))->Q b {s with heap:=h'}):
  wpAny (model prog w) A (setAddHashed a (.str x tk) ((PySem.strKind prog w).hash x)) Q E s:=by
 obtain⟨o,ep,t,ho,hex,hd,hel,hnd,hb,hf,hled,hpl⟩:=hS
 have hkey:(PySem.strKind prog w).is x (.str x tk)=true:=by show Value.isStrOf x (.str x tk)=true;simp[Value.isStrOf]
 have hsc:(Value.str x tk).scannable=true:=rfl
 unfold setAddHashed setAddHashedIn
 refine wpAny_holding (wpAny_bind (wpAny_setState_of ho hd hf ?_))
 dsimp only
 rw[byScan_of hsc hb hel]
 simp only[↓reduceIte]
 unfold setAddByScan
 refine wpAny_bind ?_
 refine wpAny_bind (wpAny_rule ?_)
 refine wpAny_bind (wpAny_setScan_of hkey ho hd hf hel ?_)
 cases hr:List.findIdx? (λe=>(PySem.strKind prog w).is x e.2) es.toList with
 |some j=>
  dsimp only
  obtain⟨hj,hpj,_⟩:=List.findIdx?_eq_some_iff_getElem.mp hr
  have hin:x∈es.toList.map (λe=>strOf e.2):=by
   rw[is_strOf (elems_str hel (List.getElem_mem hj))] at hpj
   exact List.mem_map.mpr ⟨_,List.getElem_mem hj,of_decide_eq_true hpj⟩
  refine wpAny_pure (wpAny_pure ?_)
  have e:s={s with heap:=s.heap}:=by cases s;rfl
  rw[e]
  exact h s.heap es _ (Heap.SameBut.refl a s.heap) ⟨o,ep,t,ho,hex,hd,hel,hnd,hb,hf,hled,hpl⟩ (λ_=>rfl) λz=>absurd hin z
 |none=>
  dsimp only
  have hnin:x∉es.toList.map (λe=>strOf e.2):=λz=>by
   obtain⟨e,he,q⟩:=List.mem_map.mp z
   have:=List.findIdx?_eq_none_iff.mp hr e he
   rw[is_strOf (elems_str hel he),decide_eq_true q] at this
   exact Bool.noConfusion this
  have hgw:∀(b:Bool) {s₁:Shared} {Q':Unit->Shared->Prop},Q' () s₁->wpAny (model prog w) A (match b with|true=>rule "set.scan.the-table-gave-way" |false=>pure ()) Q' E s₁:=
   λb s₁ Q' hq=>by cases b<;>first|exact wpAny_pure hq|exact wpAny_rule hq
  have hperm:=layNew_perm t es ((PySem.strKind prog w).hash x) (.str x tk)
  have hfits:=layNew_fits t es ((PySem.strKind prog w).hash x) (.str x tk)
  have hl1:=layNew_led t es ((PySem.strKind prog w).hash x) (.str x tk)
  have hp1:=layNew_plain t es ((PySem.strKind prog w).hash x) (.str x tk)
  generalize hL:layNew t es ((PySem.strKind prog w).hash x) (.str x tk)=L at hperm hfits hl1 hp1 ⊢
  obtain⟨es1,t1,wasDummy,gave⟩:=L
  dsimp only at hperm hfits hl1 hp1 ⊢
  rw[Array.toList_push] at hperm
  have hel1:ElemsOf (PySem.strKind prog w) es1.toList:=(hel.push hkey hsc).perm hperm
  have hnd0:((es.toList++[((PySem.strKind prog w).hash x,Value.str x tk)]).map λe=>strOf e.2).Nodup:=by
   rw[List.map_append]
   refine List.nodup_append.mpr ⟨hnd,by simp,λy hy z hz=> ?_⟩
   have hz':z=x:=by simpa[strOf] using hz
   rw[hz']
   rintro rfl
   exact hnin hy
  have hnd1:(es1.toList.map λe=>strOf e.2).Nodup:=(hperm.map _).nodup_iff.mpr hnd0
  have hsz1:es1.size=es.size+1:=by rw[←Array.length_toList,hperm.length_eq,List.length_append,Array.length_toList];rfl
  have hb1':es1.size<scanBound:=by rw[hsz1];exact hroom
  refine wpAny_bind (hgw _ ?_)
  have fin:∀{g:Bool->Sem Unit} {R:Option Bool->Shared->Prop},(∀(b:Bool) (s₁:Shared) (Q':Unit->Shared->Prop),Q' () s₁->wpAny (model prog w) A (g b) Q' E s₁)->(∀h',Q true {s with heap:=h'}->R (some true) {s with heap:=h'})->
    ∀t2:SetTable,t2.fits es1.size=true->t2.led=t.led->t2.plain=false->
    wpAny (model prog w) A (do
     storeSet a es1 t2
     if (!wasDummy&&t2.tooFull)=true then do
       g (relayAll t2 es1 (SetTable.grown es1.size)).2.2
       storeSet a (relayAll t2 es1 (SetTable.grown es1.size)).1 (relayAll t2 es1 (SetTable.grown es1.size)).2.1
       pure (some true)
      else pure (some true)) R E s:=λ {g R} hg hR t2 hf2 hl2 hp2=>by
   have go:∀h' es',Heap.SameBut a s.heap h'->SetX prog w h' a es'->es'.toList.Perm es1.toList->R (some true) {s with heap:=h'}:=λh' es' q1 q2 q3=>hR h' (h h' es' true q1 q2 (λz=>absurd z hnin) λ_=>q3.trans hperm)
   refine wpAny_bind (wpAny_storeSet_of ho hd ?_ (fits_of_scanBound hb1'))
   have hg1:(s.heap.update a (Obj.putSet es1 t2)).get? a=some {o with data:= .set es1 (ep+1) t2}:=by
    have:=Heap.get?_update_self (Obj.putSet es1 t2) ho (by rw[putSet_of es1 t2 hd];rfl)
    rw[putSet_of es1 t2 hd] at this;exact this
   have hsb1:=Heap.SameBut.update s.heap a (Obj.putSet es1 t2)
   split
   .have hp:=relayAll_perm t2 es1 (SetTable.grown es1.size)
    have hfr:=relayAll_fits t2 es1 (SetTable.grown es1.size)
    have hlr:=relayAll_led t2 es1 (SetTable.grown es1.size)
    have hpr:=relayAll_plain t2 es1 (SetTable.grown es1.size) hp2
    generalize hRl:relayAll t2 es1 (SetTable.grown es1.size)=Rl at hp hfr hlr hpr ⊢
    obtain⟨es2,t3,gave2⟩:=Rl
    dsimp only at hp hfr hlr hpr ⊢
    have hsz:es2.size=es1.size:=by rw[←Array.length_toList,hp.length_eq,Array.length_toList]
    have hb2:es2.size<scanBound:=by rw[hsz];exact hb1'
    refine wpAny_bind (hg _ _ _ ?_)
    refine wpAny_bind (wpAny_storeSet_of hg1 rfl ?_ (fits_of_scanBound hb2))
    have hg2:((s.heap.update a (Obj.putSet es1 t2)).update a (Obj.putSet es2 t3)).get? a=some {o with data:= .set es2 (ep+1+1) t3}:=by
     have:=Heap.get?_update_self (Obj.putSet es2 t3) hg1 (by rw[putSet_of (ep:=ep+1) (t:=t2) es2 t3 rfl];rfl)
     rw[putSet_of (ep:=ep+1) (t:=t2) es2 t3 rfl] at this;exact this
    refine wpAny_pure (go _ es2 (hsb1.trans (Heap.SameBut.update _ a _)) ⟨_,_,_,hg2,hex,rfl,hel1.perm hp,(hp.map _).nodup_iff.mpr hnd1,hb2,hfr,?_,λ_=>hpr⟩ hp)
    rw[hlr,hl2];exact hled
   .exact wpAny_pure (go _ es1 hsb1 ⟨_,_,_,hg1,hex,rfl,hel1,hnd1,hb1',hf2,by rw[hl2];exact hled,λ_=>hp2⟩ .rfl)
  split
  .refine wpAny_bind ?_
   rw[hashByValue_scannable 8 hsc]
   refine wpAny_pure ?_
   simp only[show plainKind (Value.str x tk)=false from rfl,Bool.false_eq_true,if_false]
   refine fin ?_ ?_ {t1 with plain:=false} (SetTable.fits_plain_off hfits) hl1 rfl
   .intro b s₁ Q' hq;cases b<;>first|exact wpAny_pure hq|exact wpAny_rule hq
   .exact λh' hq=>wpAny_pure hq
  .rename_i hp
   refine wpAny_bind (wpAny_pure ?_)
   simp only[↓reduceIte]
   refine fin ?_ ?_ t1 hfits hl1 (by simpa using hp)
   .intro b s₁ Q' hq;cases b<;>first|exact wpAny_pure hq|exact wpAny_rule hq
   .exact λh' hq=>wpAny_pure hq
end
end SS
namespace SS
open PySem PySem.Spec PyProof.Rows
abbrev names(es:Array (Int×Value)):List Str:=es.toList.map λe=>strOf e.2
theorem SetX.keeps{prog:Program}{w:World}{h h':Heap}{a:Addr}{es:Array (Int×Value)}(S:SetX prog w h a es)(k:∀o,h.get? a=some o->h'.get? a=some o):SetX prog w h' a es:=by
 obtain⟨o,ep,t,ho,r⟩:=S
 exact⟨o,ep,t,k o ho,r⟩
section
variable{prog:Program}{w:World}{A:Around}{R:Result->Shared->Prop}{I:Addr}{fp wr:List Addr}{G:Array GenState->Array GenState->Prop}{n:Nat}{P:Nat->Value->Prop}{St:Nat->Shared->Prop}
theorem loop(W:WalksS prog w A.in1 I fp wr G n P St)(S:Addr)(hSf:S∉fp)(val:Nat->Str)(hval:∀i v,P i v->∃t,v= .str (val i) t)(hb:n+1<scanBound):
  ∀(k i:Nat) (s:Shared) (es:Array (Int×Value)),n - i=k->i≤n->St i s->SetX prog w s.heap S es->es.size≤i->(∀x,x∈names es↔∃j,j<i∧val j=x)->
   (∀s' es',Moved (S::wr) G s s'->SetX prog w s'.heap S es'->es'.size≤n->(∀x,x∈names es'↔∃j,j<n∧val j=x)->R (.ok (.ret .none)) s')->
   codeAny (model prog w) A (.builtin "set.update.loop" ⟨[.ref S,.ref I],[]⟩) R s:=by
 have hSw:S∉wr:=λh=>hSf (W.sub _ h)
 have hsub:∀b∈wr,b∈S::wr:=λb hb=>List.mem_cons_of_mem _ hb
 intro k
 induction k with
 |zero=>
  intro i s es hk hi hst hS hsz hmem hR
  have hin:i=n:=by omega
  subst hin
  refine codeAny_builtin F.entry_set_update_loop ?_
  rw[Around.under_plainId F.plain_set_update_loop _]
  show wpAny _ A.in1 (pyNext (.ref I)>>=_) _ _ s
  refine wpAny_bind (W.done s _ _ hst λs' hm=> ?_)
  show wpAny _ A.in1 (ret Value.none) _ _ s'
  exact wpAny_pure (hR s' es (hm.mono hsub) (hS.keeps λo ho=>hm.heap S _ hSw ho) hsz hmem)
 |succ k ih=>
  intro i s es hk hi hst hS hsz hmem hR
  have hlt:i<n:=by omega
  refine codeAny_builtin F.entry_set_update_loop ?_
  rw[Around.under_plainId F.plain_set_update_loop _]
  show wpAny _ A.in1 (pyNext (.ref I)>>=_) _ _ s
  refine wpAny_bind (W.item i s _ _ hlt hst λv s' hP hst' hm=> ?_)
  obtain⟨t,rfl⟩:=hval i v hP
  have hS':SetX prog w s'.heap S es:=hS.keeps λo ho=>hm.heap S _ hSw ho
  show wpAny _ A.in1 (holding [Value.str (val i) t] (setAdd S (.str (val i) t))>>=_) _ _ s'
  refine wpAny_bind (wpAny_holding ?_)
  unfold setAdd
  refine wpAny_holding ?_
  refine wpAny_bind ((PySem.strKind prog w).pyHash (k:=val i) (by show Value.isStrOf (val i) (.str (val i) t)=true;simp[Value.isStrOf]) ?_)
  refine add (s:={s' with toks:=s'.toks+1}) hS' (by omega) λh' es' b hsb hS2 q1 q2=> ?_
  have hsz':es'.size≤i+1:=by
   by_cases hx:val i∈es.toList.map (λe=>strOf e.2)
   .rw[q1 hx];omega
   .rw[←Array.length_toList,(q2 hx).length_eq,List.length_append,Array.length_toList]
    simp only[List.length_cons,List.length_nil];omega
  have hmem':∀x,x∈names es'↔∃j,j<i+1∧val j=x:=λx=>by
   have e1:x∈names es'↔x∈names es∨x=val i:=by
    by_cases hx:val i∈es.toList.map (λe=>strOf e.2)
    .rw[q1 hx]
     exact⟨.inl,λz=>z.elim id λe=>e▸hx⟩
    .have hp:=((q2 hx).map λe=>strOf e.2).mem_iff (a:=x)
     rw[List.map_append,List.mem_append] at hp
     refine hp.trans ⟨λz=>z.imp id λy=>by simpa[strOf] using y,λz=>z.imp id λy=>by simpa[strOf] using y⟩
   rw[e1,hmem x]
   constructor
   .rintro (⟨j,hj,e⟩|rfl)
    .exact⟨j,by omega,e⟩
    .exact⟨i,by omega,rfl⟩
   .rintro ⟨j,hj,e⟩
    by_cases hji:j=i
    .exact .inr (by rw[←e,hji])
    .exact .inl ⟨j,by omega,e⟩
  refine wpAny_pure ⟨plainId_quiet F.plain_set_update_loop _,ih (i+1) _ es' (by omega) hlt (W.frame _ s' _ _ hst' (Nat.le_succ _) λb hb o e=> ?_) hS2 hsz' hmem' λs'' es'' hm'' hS'' hz hm2=> ?_⟩
  .rw[hsb.2 b (λh:b=S=>hSf (by rw[←h];exact hb))];exact e
  .refine hR s'' es'' (Moved.trans W.gtrans ((hm.mono hsub).then_heap (Nat.le_succ _) λb o hb e=> ?_) hm'') hS'' hz hm2
   rw[hsb.2 b (λh:b=S=>hb (by rw[h];exact List.mem_cons_self))];exact e
end
section
variable{prog:Program}{w:World}{A:Around}{E:Value->Shared->Prop}{s:Shared}
abbrev ledOf(w:World):Bool:= !w.params.followText "set-order"
abbrev freshO(w:World):Obj:={cls:= .type "set",dict:=none,data:= .set #[] 0 (.fresh 0 0 (ledOf w))}
theorem code_set_new(a:Value){Q₁:Value->Shared->Prop}(h:Q₁ (.ref s.heap.objs.size) {s with heap:=s.heap.push (freshO w)}):
  codeAny (model prog w) A (.call (.builtin "set.__new__") ⟨[.type "set",a],[]⟩) (wants Q₁ E) s:=by
 refine codeAny_of_tree ?_
 show wpAny _ A.in1 (do checkBuiltinCall "set.__new__" ⟨[.type "set",a],[]⟩;again (.builtin "set.__new__" ⟨[.type "set",a],[]⟩)) _ _ s
 refine wpAny_bind (wpAny_of_eq (PySem.F.newCall_set_1 a) (wpAny_pure ⟨plainId_quiet PySem.F.plain_set_new _,codeAny_builtin PySem.F.entry_set_new ?_⟩))
 rw[Around.under_plainId PySem.F.plain_set_new _]
 unfold Builtin.«set.__new__» Builtin.Frozenset.newClass
 have hsub:=sub_set_self
 obtain⟨hp,g,d,tk,os⟩:=s
 dsimp only
 wp_walk
 refine wpAny_askSetting (wpAny_pure ?_)
 dsimp only
 simp only[newObj]
 refine wpAny_bind (wpAny_alloc (wpAny_pure ?_))
 exact wpAny_pure h
theorem SetX.fresh{h:Heap}{a:Addr}(ho:h.get? a=some (freshO w)):SetX prog w h a #[]:=
 ⟨_,_,_,ho,⟨rfl,rfl,rfl⟩,rfl,λe he=>by simp at he,by simp,by decide,by rfl,rfl,λz=>absurd rfl z⟩
theorem call_set{l:Addr}{items:Array Value}{val:Nat->Str}{Q:Value->Shared->Prop}
  (hh:A.handled=none)(hl:s.heap.IsList l items)(hi:∀(i:Nat) (v:Value),items[i]? =some v->∃t:Tok,v=Value.str (val i) t)(hb:items.size+1<scanBound)
  (h:∀(h':Heap) (tk:Nat) (es:Array (Int×Value)),SetX prog w h' s.heap.objs.size es->es.size≤items.size->(∀x,x∈names es↔∃j,j<items.size∧val j=x)->
   (∀b o,b<s.heap.objs.size->s.heap.get? b=some o->h'.get? b=some o)->Q (.ref s.heap.objs.size) {s with heap:=h',toks:=tk}):
  wpAny (model prog w) A (call (.type "set") [.ref l]) Q E s:=by
 obtain⟨c,tl,hmro⟩:=PySem.F.called_set.mro
 have hmade:=PySem.F.called_set.made
 have hsub:=PySem.F.called_set.sub
 refine wpAny_call (codeAny_of_tree ?_)
 show wpAny _ _ (callAny (.type "set") _) _ _ _
 refine wpAny_pure ⟨Code.quiet_builtin _ (by decide+kernel),codeAny_builtin PySem.F.entry_type_call ?_⟩
 rw[Around.under_plain (weight_type_call_type "set" [.ref l] []) rfl]
 have h1:=PySem.F.called_set.notType
 have h2:=PySem.F.called_set.canCreate
 have hct:=PySem.F.typeCall_set_1 (.ref l)
 repeat (any_goals (first|assumption|wp_step))
 refine codeAny_mono (code_set_new (.ref l) (E:=E) (Q₁:=λobj s₁=>obj= .ref s.heap.objs.size∧s₁={s with heap:=s.heap.push (freshO w)}) ⟨rfl,rfl⟩) λr s₁ hr=> ?_
 cases r with
 |error e=>exact hr
 |ok fl=>
  cases fl with
  |ret obj=>
   obtain⟨rfl,rfl⟩:=hr
   have hS:(s.heap.push (freshO w)).get? s.heap.objs.size=some (freshO w):=Heap.get?_push_size _ rfl
   have hT:Shared.TypeIs {s with heap:=s.heap.push (freshO w)} (.ref s.heap.objs.size) "set" :=⟨_,hS,rfl⟩
   have hli:=PySem.F.called_set.init.lookup
   have hbi:=PySem.F.called_set.init.bind (.ref s.heap.objs.size)
   repeat (any_goals (first|assumption|wp_step))
   refine codeAny_mono (codeAny_call_builtin (R:=wants (λr s₂=>r= .none∧∃h' tk es,s₂={s with heap:=h',toks:=tk}∧
     SetX prog w h' s.heap.objs.size es∧es.size≤items.size∧(∀x,x∈names es↔∃j,j<items.size∧val j=x)∧
     (∀b o,b<s.heap.objs.size->s.heap.get? b=some o->h'.get? b=some o)) E) PySem.F.called_set.init.plain PySem.F.entry_set_init (check_set_init_1 hT ?_)) λr₂ s₂ hr₂=> ?_
   .obtain⟨ol,hol,hcl,nl,hdl⟩:=hl
    obtain⟨ocls,odict,odata,oslots⟩:=ol
    simp only at hcl hdl
    subst hcl;subst hdl
    have hol':(s.heap.push (freshO w)).get? l=some {cls:= .type "list",dict:=odict,data:= .seq items nl,slots:=oslots}:=Heap.get?_push_of_some _ hol
    have hsls:=PySem.F.sub_list_set
    have hslf:=PySem.F.sub_list_frozenset
    have hne:(Value.type "list" ==Value.type "dict")=false:=by decide
    have hl1:(s.heap.push (freshO w)).IsList l items:=⟨_,hol',rfl,nl,rfl⟩
    unfold Builtin.«set.__init__» noKeywords Builtin.Frozenset.updateFrom
    generalize hPI:pyIter=PI
    wp_walk
    subst hPI
    refine wpAny_pyIter_list hl1 ?_
    refine wpAny_bind (wpAny_runValue ?_)
    have hlS:l<s.heap.objs.size:=Heap.lt_size hol
    have hh3:A.in1.in1.in1.handled=none:=by simp[hh]
    have hneI:l≠(s.heap.push (freshO w)).objs.size:=by
     rw[Heap.size_push];exact Nat.ne_of_lt (Nat.lt_succ_of_lt hlS)
    have hSf:s.heap.objs.size∉[(s.heap.push (freshO w)).objs.size,l]:=by
     rw[Heap.size_push];simp only[List.mem_cons,List.mem_singleton,List.not_mem_nil,or_false,not_or]
     exact⟨Nat.ne_of_lt (Nat.lt_succ_self _),Nat.ne_of_gt hlS⟩
    refine loop ((Walks.list hh3 _ l hneI items).toS) s.heap.objs.size hSf val (λi v hv=>hi i v hv) hb (items.size - 0) 0 _ #[] (by omega) (Nat.zero_le _)
     ⟨⟨_,Heap.get?_push_size _ rfl,rfl,rfl⟩,(hl1.push _)⟩ ?hS0 (Nat.le_refl _) (λx=>⟨λz=>by simp[names] at z,λ⟨j,hj,_⟩=>absurd hj (Nat.not_lt_zero _)⟩) ?hR
    case hS0=>exact SetX.fresh (Heap.get?_push_of_some _ hS)
    case hR=>
     intro s' es' hm hS' hz' hm'
     obtain⟨h',g',d',tk',os'⟩:=s'
     have eg:g'=s.gens:=hm.gens
     have ed:d'=s.drawn:=hm.drawn
     have eo:os'=s.os:=hm.os
     subst eg;subst ed;subst eo
     show wpAny _ _ _ _ _ _
     refine wpAny_pure ?_
     show wpAny _ _ (ret Value.none) _ _ _
     refine wpAny_pure ⟨rfl,h',tk',es',rfl,hS',hz',hm',λb o hb e=> ?_⟩
     have hb1:b≠s.heap.objs.size:=Nat.ne_of_lt hb
     have hb2:b≠(s.heap.push (freshO w)).objs.size:=by
      rw[Heap.size_push];exact Nat.ne_of_lt (Nat.lt_succ_of_lt hb)
     exact hm.heap b o (by simp only[List.mem_cons,List.mem_singleton,List.not_mem_nil,or_false,not_or];exact⟨hb1,hb2⟩) (Heap.get?_push_of_some _ (Heap.get?_push_of_some _ e))
   .cases r₂ with
    |error e=>exact hr₂
    |ok fl₂=>
     cases fl₂ with
     |ret r=>
      obtain⟨rfl,h',tk,es,rfl,hS',hz',hm',hk'⟩:=hr₂
      repeat (any_goals (first|assumption|wp_step))
      exact h _ _ es hS' hz' hm' hk'
     |_=>exact hr₂.elim
  |_=>exact hr.elim
end
end SS
namespace SS
open PySem PySem.Spec PyProof.Rows
theorem slot_iter:Slot "set" "__iter__" "set.__iter__" :=
 .of (owner:="set") (n:="__iter__") (by rw[typeLookup_type,builtinLookup_eq_fast];kernel_rfl) (by decide+kernel) (by decide+kernel) (by decide+kernel)
  (by first|exact .inl (by decide+kernel)|exact .inr (by decide+kernel)) (by rw[isSubtype_type];kernel_rfl)
theorem slot_next:Slot "set_iterator" "__next__" "set_iterator.__next__" :=
 .of (owner:="set_iterator") (n:="__next__") (by rw[typeLookup_type,builtinLookup_eq_fast];kernel_rfl) (by decide+kernel) (by decide+kernel) (by decide+kernel)
  (by first|exact .inl (by decide+kernel)|exact .inr (by decide+kernel)) (by rw[isSubtype_type];kernel_rfl)
theorem slot_iter2:Slot "set_iterator" "__iter__" "set_iterator.__iter__" :=
 .of (owner:="set_iterator") (n:="__iter__") (by rw[typeLookup_type,builtinLookup_eq_fast];kernel_rfl) (by decide+kernel) (by decide+kernel) (by decide+kernel)
  (by first|exact .inl (by decide+kernel)|exact .inr (by decide+kernel)) (by rw[isSubtype_type];kernel_rfl)
theorem entry_iter:entryFor table "set.__iter__" =some Builtin.«frozenset.__iter__»:=
 entryFor_alias (id':="frozenset.__iter__") (by kernel_rfl) (by first|rfl|decide+kernel) (by decide+kernel) (by kernel_rfl)
theorem entry_next:entryFor table "set_iterator.__next__" =some Builtin.«set_iterator.__next__»:=entryFor_of_fast (by kernel_rfl)
theorem args_iter(a:Value):argsOk "set.__iter__" ⟨[a],[]⟩:=by unfold argsOk;kernel_rfl
theorem args_next(a:Value):argsOk "set_iterator.__next__" ⟨[a],[]⟩:=by unfold argsOk;kernel_rfl
theorem wpAny_choose{M:Model}{A:Around}{E:Value->Shared->Prop}{s:Shared}{src:Source}{n:Nat}{Q:Nat->Shared->Prop}(hn:n≠0)(h:∀i d,i<n->Q i {s with drawn:=d}):wpAny M A (choose src n) Q E s:=λΓ p _=>by
 unfold choose
 rw[Sem.wp_choose]
 exact⟨hn,h _ _ (Nat.mod_lt _ (Nat.pos_of_ne_zero hn))⟩
theorem perm_eraseIdx{α:Type}:∀(xs:List α) (i:Nat) (x:α),xs[i]? =some x->xs.Perm (x::xs.eraseIdx i)
 |[],i,x,h=>by simp at h
 |y::r,0,x,h=>by
  simp at h
  subst h
  simp
 |y::r,i+1,x,h=>by
  simp only[List.getElem?_cons_succ] at h
  have:=perm_eraseIdx r i x h
  simp only[List.eraseIdx_cons_succ]
  exact(this.cons y).trans (List.Perm.swap x y _)
section
variable{M:Model}{A:Around}{E:Value->Shared->Prop}{s:Shared}
theorem drawOrder_ok{α:Type}:∀(n:Nat) (xs:List α) (s:Shared) (Q:List α->Shared->Prop),n=xs.length->(∀ys d,ys.Perm xs->Q ys {s with drawn:=d})->wpAny M A (drawOrder n xs) Q E s
 |0,xs,s,Q,hn,h=>by
  cases xs with
  |nil=>unfold drawOrder;exact wpAny_pure (h [] s.drawn .nil)
  |cons x r=>simp at hn
 |n+1,[],s,Q,hn,h=>by simp at hn
 |n+1,x::r,s,Q,hn,h=>by
  unfold drawOrder
  refine wpAny_bind (wpAny_choose (by simp) λi d hi=> ?_)
  have e:(x::r)[i]? =some ((x::r)[i]'hi):=List.getElem?_eq_getElem hi
  rw[e]
  dsimp only
  have hp:=perm_eraseIdx (x::r) i _ e
  refine wpAny_bind (drawOrder_ok n _ _ _ ?_ λys d' hy=>wpAny_pure ?_)
  .have:=hp.length_eq
   simp only[List.length_cons] at this hn ⊢
   omega
  .exact h _ d' ((hy.cons _).trans hp.symm)
end
theorem pick_ok{α:Type}(next:Nat->Nat):∀(fuel k:Nat) (left:List α) (out:Array α),fuel=left.length->(pickOrder.go next fuel k left out).toList.Perm (out.toList++left)
 |0,k,left,out,h=>by
  cases left with
  |nil=>unfold pickOrder.go;simp
  |cons x r=>simp at h
 |fuel+1,k,[],out,h=>by simp at h
 |fuel+1,k,x::r,out,h=>by
  unfold pickOrder.go
  have hi:next k%(x::r).length<(x::r).length:=Nat.mod_lt _ (by simp)
  have e:(x::r)[next k%(x::r).length]? =some ((x::r)[next k%(x::r).length]'hi):=List.getElem?_eq_getElem hi
  rw[e]
  dsimp only
  have hp:=perm_eraseIdx (x::r) _ _ e
  refine(pick_ok next fuel (k+1) _ _ ?_).trans ?_
  .have:=hp.length_eq
   simp only[List.length_cons] at this h ⊢
   omega
  .rw[Array.toList_push,List.append_assoc]
   exact List.Perm.append_left _ hp.symm
theorem pickOrder_perm{α:Type}(next:Nat->Nat)(xs:Array α):(pickOrder next xs).toList.Perm xs.toList:=by
 unfold pickOrder
 exact(pick_ok next xs.size 0 xs.toList #[] (by simp)).trans (by simp)
def IsIt(h:Heap)(it a:Addr)(first:Value)(i n ep:Nat):Prop:=∃o,h.get? it=some o∧o.cls= .type "set_iterator"∧o.data= .fields #[first,.int i 0,.ref a,.int n 0,.int ep 0]
def SetAt(h:Heap)(a:Addr)(es:Array (Int×Value))(ep:Nat)(t:SetTable):Prop:=∃o,h.get? a=some o∧o.data= .set es ep t∧t.fits es.size=true
section
variable{prog:Program}{w:World}{A:Around}{E:Value->Shared->Prop}{s:Shared}{it a:Addr}{es:Array (Int×Value)}{ep:Nat}{t:SetTable}
theorem IsIt.typeIs{first:Value}{i n:Nat}(h:IsIt s.heap it a first i n ep):s.TypeIs (.ref it) "set_iterator" :=by
 obtain⟨o,h1,h2,_⟩:=h
 exact⟨o,h1,h2⟩
theorem IsIt.put{first v:Value}{i n k:Nat}{h:Heap}(x:IsIt h it a first i n ep)(o:Obj)(ho:h.get? it=some o):(h.update it (Obj.mapFields (·.setIfInBounds k v))).get? it=some (o.mapFields (·.setIfInBounds k v)):=by
 obtain⟨o',h1,h2,h3⟩:=x
 rw[h1] at ho
 cases ho
 exact Heap.get?_update_self _ h1 (Obj.isFreed_of_fields (Obj.data_mapFields h3 _))
theorem next_slot{slot:Int}{i:Nat}{x:Value}{nx:Nat}{Q:Option Value->Shared->Prop}(hi:IsIt s.heap it a (.int slot 0) i es.size ep)(hs:SetAt s.heap a es ep t)
  (hn:∀(A:Around) (Q:Option (Value×Nat)->Shared->Prop) (E:Value->Shared->Prop),Q (some (x,nx)) s->wpAny (model prog w) A (setNext a slot.toNat i ep) Q E s)
  (hQ:∀h',IsIt h' it a (.int nx 0) (i+1) es.size ep->Heap.SameBut it s.heap h'->Q (some x) {s with heap:=h'}):wpAny (model prog w) A (pyNext (.ref it)) Q E s:=by
 obtain⟨o,ho,hc,hd⟩:=id hi
 obtain⟨os,hos,hds,hf⟩:=hs
 unfold pyNext
 refine wpAny_bind (wpAny_attempt (wpAny_callSpecial?_slot (name:=Str.ofString "__next__") hi.typeIs slot_next (wpAny_call_entry slot_next hi.typeIs entry_next ?_ (args_next _))))
 show wpAny _ _ (fieldsOf (.ref it)>>=_) _ _ s
 refine wpAny_bind (wpAny_fieldsOf ho hd ?_)
 show wpAny _ _ (setEntries a>>=_) _ _ s
 refine wpAny_bind (wpAny_setEntries_of hos hds hf ?_)
 simp only[bne_self_eq_false,Bool.false_eq_true,if_false]
 refine wpAny_bind (hn _ _ _ ?_)
 dsimp only
 refine wpAny_bind (wpAny_setField ho hd (by simp) ?_)
 have ho2:=hi.put (k:=0) (v:=rawInt nx) o ho
 refine wpAny_bind (wpAny_setField ho2 (Obj.data_mapFields hd _) (by simp) (wpAny_pure ⟨x,rfl,wpAny_pure (hQ _ ?_ ((Heap.SameBut.update ..).trans (Heap.SameBut.update ..)))⟩))
 refine⟨_,Heap.get?_update_self _ ho2 (Obj.isFreed_of_fields (Obj.data_mapFields (Obj.data_mapFields hd _) _)),(Obj.cls_mapFields ..).trans ((Obj.cls_mapFields ..).trans hc),?_⟩
 rw[Obj.data_mapFields (Obj.data_mapFields hd _)]
 simp[rawInt]
end
end SS
namespace SS
open PySem PySem.Spec PyProof.Rows
theorem entry_iter2:entryFor table "set_iterator.__iter__" =some Builtin.«dict_keyiterator.__iter__»:=
 entryFor_alias (id':="dict_keyiterator.__iter__") (by kernel_rfl) (by first|rfl|decide+kernel) (by decide+kernel) (by kernel_rfl)
theorem args_iter2(a:Value):argsOk "set_iterator.__iter__" ⟨[a],[]⟩:=by unfold argsOk;kernel_rfl
section
variable{prog:Program}{w:World}{A:Around}{E:Value->Shared->Prop}{s:Shared}{it a:Addr}{es:Array (Int×Value)}{ep:Nat}{t:SetTable}
theorem iter_self{first:Value}{i n:Nat}{Q:Value->Shared->Prop}(hi:IsIt s.heap it a first i n ep)(h:Q (.ref it) s):wpAny (model prog w) A (pyIter (.ref it)) Q E s:=by
 refine wpAny_pyIter_slot hi.typeIs slot_iter2 (wpAny_call_entry slot_iter2 hi.typeIs entry_iter2 ?_ (args_iter2 _))
 show wpAny _ _ (ret (.ref it)) _ _ s
 exact wpAny_pure ⟨_,rfl,"set_iterator",_,hi.typeIs,slot_next.lookup,h⟩
theorem end_slot{slot:Int}{i:Nat}{Q:Option Value->Shared->Prop}(hh:A.handled=none)(hi:IsIt s.heap it a (.int slot 0) i es.size ep)(hs:SetAt s.heap a es ep t)
  (hn:∀(A:Around) (Q:Option (Value×Nat)->Shared->Prop) (E:Value->Shared->Prop),Q none s->wpAny (model prog w) A (setNext a slot.toNat i ep) Q E s)
  (hQ:∀h',Heap.ExtBut it s.heap h'->Q none {s with heap:=h'}):wpAny (model prog w) A (pyNext (.ref it)) Q E s:=by
 obtain⟨o,ho,hc,hd⟩:=id hi
 obtain⟨os,hos,hds,hf⟩:=hs
 unfold pyNext
 refine wpAny_bind (wpAny_attempt (wpAny_callSpecial?_slot (name:=Str.ofString "__next__") hi.typeIs slot_next (wpAny_call_entry slot_next hi.typeIs entry_next ?_ (args_next _))))
 show wpAny _ _ (fieldsOf (.ref it)>>=_) _ _ s
 refine wpAny_bind (wpAny_fieldsOf ho hd ?_)
 show wpAny _ _ (setEntries a>>=_) _ _ s
 refine wpAny_bind (wpAny_setEntries_of hos hds hf ?_)
 simp only[bne_self_eq_false,Bool.false_eq_true,if_false]
 refine wpAny_bind (hn _ _ _ ?_)
 dsimp only
 refine wpAny_bind (wpAny_setField ho hd (by simp) ?_)
 show wpAny _ _ (newExc (.type "StopIteration") []>>=_) _ _ _
 refine wpAny_bind ?_
 simp only[newExc,newTuple]
 refine wpAny_bind (wpAny_newObj_type ?_ (by size_fits))
 refine wpAny_bind (m:=firstArgMember _ _) (wpAny_of_eq (a:=Value.none) (by first|rfl|(simp only[firstArgMember];rfl)) ?_)
 refine wpAny_newObj_type ?_ (by size_fits)
 simp only[raiseNew]
 refine wpAny_bind (wpAny_handled ?_)
 rw[show A.in1.handled=none from hh]
 refine wpAny_bind (wpAny_pure (wpAny_throw ?_))
 refine wpAny_bind (wpAny_isInstance (T:="StopIteration") (b:=true) ⟨_,Heap.get?_push_size _ rfl,rfl⟩ isSubtype_stop ?_)
 exact wpAny_pure (hQ _ (((Heap.SameBut.update ..).extBut.push _).push _))
theorem next_drawn{tp:Addr}{ps:List Nat}{i p:Nat}{h0:Int}{x:Value}{Q:Option Value->Shared->Prop}(hi:IsIt s.heap it a (.ref tp) i es.size ep)(hs:SetAt s.heap a es ep t)
  (ht:∃o n,s.heap.get? tp=some o∧o.data= .seq ((ps.map λ(i:Nat)=>rawInt i).toArray) n)(hp:ps[i]? =some p)(hx:es[p]? =some (h0,x))
  (hQ:∀h',IsIt h' it a (.ref tp) (i+1) es.size ep->Heap.SameBut it s.heap h'->Q (some x) {s with heap:=h'}):wpAny (model prog w) A (pyNext (.ref it)) Q E s:=by
 obtain⟨o,ho,hc,hd⟩:=id hi
 obtain⟨os,hos,hds,hf⟩:=hs
 obtain⟨ot,nt,hot,hdt⟩:=ht
 unfold pyNext
 refine wpAny_bind (wpAny_attempt (wpAny_callSpecial?_slot (name:=Str.ofString "__next__") hi.typeIs slot_next (wpAny_call_entry slot_next hi.typeIs entry_next ?_ (args_next _))))
 show wpAny _ _ (fieldsOf (.ref it)>>=_) _ _ s
 refine wpAny_bind (wpAny_fieldsOf ho hd ?_)
 show wpAny _ _ (setEntries a>>=_) _ _ s
 refine wpAny_bind (wpAny_setEntries_of hos hds hf ?_)
 simp only[bne_self_eq_false,Bool.false_eq_true,if_false]
 refine wpAny_bind (wpAny_seqItems hot hdt ?_)
 have e:((ps.map λ(i:Nat)=>rawInt i).toArray)[((i:Int)).toNat]? =some (Value.int (p:Int) 0):=by
  simp[hp,rawInt]
 dsimp only
 rw[e]
 dsimp only
 refine wpAny_bind ?_
 unfold setNextDrawn
 refine wpAny_bind (wpAny_setState_of hos hds hf ?_)
 dsimp only
 simp only[Int.toNat_natCast,bne_self_eq_false,Bool.false_eq_true,if_false]
 rw[hx]
 refine wpAny_pure ?_
 refine wpAny_bind (wpAny_setField ho hd (by simp) (wpAny_pure ⟨x,rfl,wpAny_pure (hQ _ ?_ (Heap.SameBut.update ..))⟩))
 refine⟨_,Heap.get?_update_self _ ho (Obj.isFreed_of_fields (Obj.data_mapFields hd _)),(Obj.cls_mapFields ..).trans hc,?_⟩
 rw[Obj.data_mapFields hd]
 simp[rawInt]
theorem end_drawn{tp:Addr}{ps:List Nat}{i:Nat}{Q:Option Value->Shared->Prop}(hh:A.handled=none)(hi:IsIt s.heap it a (.ref tp) i es.size ep)(hs:SetAt s.heap a es ep t)
  (ht:∃o n,s.heap.get? tp=some o∧o.data= .seq ((ps.map λ(i:Nat)=>rawInt i).toArray) n)(hp:ps[i]? =none)
  (hQ:∀h',Heap.ExtBut it s.heap h'->Q none {s with heap:=h'}):wpAny (model prog w) A (pyNext (.ref it)) Q E s:=by
 obtain⟨o,ho,hc,hd⟩:=id hi
 obtain⟨os,hos,hds,hf⟩:=hs
 obtain⟨ot,nt,hot,hdt⟩:=ht
 unfold pyNext
 refine wpAny_bind (wpAny_attempt (wpAny_callSpecial?_slot (name:=Str.ofString "__next__") hi.typeIs slot_next (wpAny_call_entry slot_next hi.typeIs entry_next ?_ (args_next _))))
 show wpAny _ _ (fieldsOf (.ref it)>>=_) _ _ s
 refine wpAny_bind (wpAny_fieldsOf ho hd ?_)
 show wpAny _ _ (setEntries a>>=_) _ _ s
 refine wpAny_bind (wpAny_setEntries_of hos hds hf ?_)
 simp only[bne_self_eq_false,Bool.false_eq_true,if_false]
 refine wpAny_bind (wpAny_seqItems hot hdt ?_)
 have e:((ps.map λ(i:Nat)=>rawInt i).toArray)[((i:Int)).toNat]? =none:=by
  simp only[Int.toNat_natCast,List.getElem?_toArray,List.getElem?_map,hp,Option.map_none]
 dsimp only
 rw[e]
 dsimp only
 refine wpAny_bind (wpAny_setField ho hd (by simp) ?_)
 have ho2:=hi.put (k:=0) (v:=rawInt 0) o ho
 refine wpAny_bind (wpAny_setField ho2 (Obj.data_mapFields hd _) (by simp) ?_)
 show wpAny _ _ (newExc (.type "StopIteration") []>>=_) _ _ _
 refine wpAny_bind ?_
 simp only[newExc,newTuple]
 refine wpAny_bind (wpAny_newObj_type ?_ (by size_fits))
 refine wpAny_bind (m:=firstArgMember _ _) (wpAny_of_eq (a:=Value.none) (by first|rfl|(simp only[firstArgMember];rfl)) ?_)
 refine wpAny_newObj_type ?_ (by size_fits)
 simp only[raiseNew]
 refine wpAny_bind (wpAny_handled ?_)
 rw[show A.in1.handled=none from hh]
 refine wpAny_bind (wpAny_pure (wpAny_throw ?_))
 refine wpAny_bind (wpAny_isInstance (T:="StopIteration") (b:=true) ⟨_,Heap.get?_push_size _ rfl,rfl⟩ isSubtype_stop ?_)
 exact wpAny_pure (hQ _ ((((Heap.SameBut.update ..).trans (Heap.SameBut.update ..)).extBut.push _).push _))
end
end SS
namespace SS
open PySem PySem.Spec PyProof.Rows
section
variable{prog:Program}{w:World}{A:Around}{E:Value->Shared->Prop}{s:Shared}{it a:Addr}{es:Array (Int×Value)}{ep:Nat}{t:SetTable}
theorem byText_ok{Q:Bool->Shared->Prop}(h:Q (w.params.followText "set-order") s):wpAny (model prog w) A setsByText Q E s:=by
 unfold setsByText
 exact wpAny_bind (wpAny_askSetting (wpAny_pure h))
theorem SetAt.keep{h h':Heap}(x:SetAt h a es ep t)(k:∀o,h.get? a=some o->h'.get? a=some o):SetAt h' a es ep t:=by
 obtain⟨o,e,r⟩:=x
 exact⟨o,k o e,r⟩
theorem IsIt.keep{h h':Heap}{first:Value}{i n:Nat}(x:IsIt h it a first i n ep)(k:∀o,h.get? it=some o->h'.get? it=some o):IsIt h' it a first i n ep:=by
 obtain⟨o,e,r⟩:=x
 exact⟨o,k o e,r⟩
theorem nextT{slot i:Nat}{Q:Option (Value×Nat)->Shared->Prop}(hw:w.params.followText "set-order" =true)(hs:SetAt s.heap a es ep t)
  (h:Q (((pickOrder (w.params.setOrder a ep) es)[i]?).map λe=>(e.2,slot)) s):wpAny (model prog w) A (setNext a slot i ep) Q E s:=by
 obtain⟨os,hos,hds,hf⟩:=hs
 unfold setNext
 refine wpAny_bind (wpAny_setState_of hos hds hf ?_)
 dsimp only
 refine wpAny_bind (byText_ok ?_)
 rw[hw,if_pos rfl]
 simp only[bne_self_eq_false,Bool.false_eq_true,if_false]
 refine wpAny_bind ?_
 unfold setWalk
 refine wpAny_bind (wpAny_setState_of hos hds hf ?_)
 dsimp only
 refine wpAny_bind (byText_ok ?_)
 rw[hw,if_pos rfl]
 exact wpAny_bind (wpAny_askSetting (wpAny_pure (wpAny_pure h)))
theorem walksT(hw:w.params.followText "set-order" =true)(hh:A.handled=none)(hne:a≠it):
  Walks prog w A it [it,a] [it] ((pickOrder (w.params.setOrder a ep) es).toList.map (·.2)).length (λi v=>((pickOrder (w.params.setOrder a ep) es).toList.map (·.2))[i]? =some v) (λi h=>IsIt h it a (.int 0 0) i es.size ep∧SetAt h a es ep t) where
 sub:=λb hb=>by simp at hb;simp[hb]
 frame:=λ_ _ _ st hk=>⟨st.1.keep λo e=>hk it (by simp) o e,st.2.keep λo e=>hk a (by simp) o e⟩
 item:=λi s Q E hi st hQ=>by
  have hi':i<(pickOrder (w.params.setOrder a ep) es).size:=by simpa using hi
  have e1:(pickOrder (w.params.setOrder a ep) es)[i]? =some ((pickOrder (w.params.setOrder a ep) es)[i]'hi'):=Array.getElem?_eq_getElem hi'
  refine next_slot (slot:=0) (x:=((pickOrder (w.params.setOrder a ep) es)[i]'hi').2) (nx:=0) st.1 st.2 (λA' Q' E' hq=>nextT hw st.2 (by rw[e1];exact hq)) λh' hit' hs'=> ?_
  refine hQ _ h' s.toks ?_ ⟨hit',st.2.keep λo e=>(hs'.2 a hne).trans e⟩ λb o hb e=>(hs'.2 b λz=>hb (by simp[z])).trans e
  rw[List.getElem?_map,Array.getElem?_toList,e1];rfl
 done:=λs Q E st hQ=>by
  have e1:(pickOrder (w.params.setOrder a ep) es)[((pickOrder (w.params.setOrder a ep) es).toList.map (·.2)).length]? =none:=by simp
  exact end_slot (slot:=0) hh st.1 st.2 (λA' Q' E' hq=>nextT hw st.2 (by rw[e1];exact hq)) λh' he'=>hQ h' s.toks λb o hb e=>he' b o (λz=>hb (by simp[z])) e
 self:=λ_ _ _ _ st hQ=>iter_self st.1 hQ
theorem walksD{tp:Addr}{ps:List Nat}(hh:A.handled=none)(hne:a≠it)(hnt:tp≠it)(hps:ps.Perm (List.range es.size)):
  Walks prog w A it [it,a,tp] [it] (ps.map λp=>((es[p]?).getD (0,.none)).2).length (λi v=>(ps.map λp=>((es[p]?).getD (0,.none)).2)[i]? =some v)
   (λi h=>IsIt h it a (.ref tp) i es.size ep∧SetAt h a es ep t∧∃o n,h.get? tp=some o∧o.data= .seq ((ps.map λ(i:Nat)=>rawInt i).toArray) n) where
 sub:=λb hb=>by simp at hb;simp[hb]
 frame:=λ_ _ _ st hk=>⟨st.1.keep λo e=>hk it (by simp) o e,st.2.1.keep λo e=>hk a (by simp) o e,by obtain⟨o,n,e,r⟩:=st.2.2;exact⟨o,n,hk tp (by simp) o e,r⟩⟩
 item:=λi s Q E hi st hQ=>by
  have hi':i<ps.length:=by simpa using hi
  have e1:ps[i]? =some (ps[i]'hi'):=List.getElem?_eq_getElem hi'
  have hlt:(ps[i]'hi')<es.size:=List.mem_range.mp (hps.mem_iff.mp (List.getElem_mem hi'))
  have e2:es[ps[i]'hi']? =some ((es[ps[i]'hi']'hlt).1,(es[ps[i]'hi']'hlt).2):=Array.getElem?_eq_getElem hlt
  refine next_drawn st.1 st.2.1 st.2.2 e1 e2 λh' hit' hs'=> ?_
  refine hQ _ h' s.toks ?_ ⟨hit',st.2.1.keep λo e=>(hs'.2 a hne).trans e,by obtain⟨o,n,e,r⟩:=st.2.2;exact⟨o,n,(hs'.2 tp hnt).trans e,r⟩⟩ λb o hb e=>(hs'.2 b λz=>hb (by simp[z])).trans e
  rw[List.getElem?_map,e1]
  simp only[Option.map_some,e2,Option.getD_some]
 done:=λs Q E st hQ=>by
  exact end_drawn hh st.1 st.2.1 st.2.2 (by simp) λh' he'=>hQ h' s.toks λb o hb e=>he' b o (λz=>hb (by simp[z])) e
 self:=λ_ _ _ _ st hQ=>iter_self st.1 hQ
theorem nextS{slot i:Nat}{Q:Option (Value×Nat)->Shared->Prop}(hw:w.params.followText "set-order" =false)(hl:t.led=true)(hz:es.size≤1)(hs:SetAt s.heap a es ep t)
  (h:Q (match es[SetTable.below t.place slot]?,t.place[SetTable.below t.place slot]? with|some (_,x),some j=>some (x,j+1)|_,_=>none) s):wpAny (model prog w) A (setNext a slot i ep) Q E s:=by
 obtain⟨os,hos,hds,hf⟩:=hs
 unfold setNext
 refine wpAny_bind (wpAny_setState_of hos hds hf ?_)
 dsimp only
 refine wpAny_bind (byText_ok ?_)
 rw[hw,if_neg (by decide)]
 show wpAny _ _ (if (!t.plain&&decide (es.size>1))=true then _ else _) _ _ _
 rw[if_neg (by rw[decide_eq_false (Nat.not_lt.mpr hz),Bool.and_false];decide)]
 show wpAny _ _ ((if (!t.led&& !es.isEmpty)=true then _ else _)>>=_) _ _ _
 rw[hl,if_neg (by simp)]
 exact wpAny_bind (wpAny_pure (wpAny_pure h))
theorem below_0(xs:Array Nat)(h:xs.size≤1):SetTable.below xs 0=0:=by
 unfold SetTable.below
 have:xs.size=0∨xs.size=1:=by omega
 rcases this with z|z
 .rw[z];rfl
 .rw[z]
  unfold SetTable.below.go
  rw[if_pos (by decide)]
  dsimp only
  rw[if_neg (by omega)]
  rfl
theorem below_1(xs:Array Nat)(j:Nat)(h:xs.size=1)(hj:xs[0]? =some j):SetTable.below xs (j+1)=1:=by
 unfold SetTable.below
 rw[h]
 unfold SetTable.below.go
 rw[if_pos (by decide)]
 dsimp only
 have e:xs.getD ((0+1)/2) (j+1)=j:=by
  show xs.getD 0 (j+1)=j
  rw[Array.getD_eq_getD_getElem?,hj];rfl
 rw[e,if_pos (by omega)]
 rfl
theorem walksS(hw:w.params.followText "set-order" =false)(hl:t.led=true)(hz:es.size≤1)(hf:t.fits es.size=true)(hh:A.handled=none)(hne:a≠it):
  Walks prog w A it [it,a] [it] (es.toList.map (·.2)).length (λi v=>(es.toList.map (·.2))[i]? =some v) (λi h=>IsIt h it a (.int (if i=0 then 0 else t.place.getD 0 0+1:Nat) 0) i es.size ep∧SetAt h a es ep t) where
 sub:=λb hb=>by simp at hb;simp[hb]
 frame:=λ_ _ _ st hk=>⟨st.1.keep λo e=>hk it (by simp) o e,st.2.keep λo e=>hk a (by simp) o e⟩
 item:=λi s Q E hi st hQ=>by
  have hi':i<es.size:=by simpa using hi
  have h0:i=0:=by omega
  subst h0
  have hp:t.place.size=es.size:=by simp only[SetTable.fits,Bool.and_eq_true,beq_iff_eq] at hf;exact hf.1
  have e1:es[0]? =some (es[0]'hi'):=Array.getElem?_eq_getElem hi'
  have e2:t.place[0]? =some (t.place[0]'(by omega)):=Array.getElem?_eq_getElem (by omega)
  have e3:t.place.getD 0 0=t.place[0]'(by omega):=by rw[Array.getD_eq_getD_getElem?,e2];rfl
  refine next_slot (slot:=((if (0:Nat)=0 then 0 else t.place.getD 0 0+1:Nat):Int)) (x:=(es[0]'hi').2) (nx:=(t.place[0]'(by omega))+1) st.1 st.2 (λA' Q' E' hq=> ?_) λh' hit' hs'=> ?_
  .refine nextS hw hl hz st.2 ?_
   simp only[if_true,Int.toNat_natCast]
   rw[below_0 _ (by omega),e1,e2]
   exact hq
  .refine hQ _ h' s.toks ?_ ⟨?_,st.2.keep λo e=>(hs'.2 a hne).trans e⟩ λb o hb e=>(hs'.2 b λz=>hb (by simp[z])).trans e
   .rw[List.getElem?_map,Array.getElem?_toList,e1];rfl
   .rw[if_neg (by omega),e3];exact hit'
 done:=λs Q E st hQ=>by
  have hp:t.place.size=es.size:=by simp only[SetTable.fits,Bool.and_eq_true,beq_iff_eq] at hf;exact hf.1
  have hlen:(es.toList.map (·.2)).length=es.size:=by simp
  rw[hlen] at st
  refine end_slot hh st.1 st.2 (λA' Q' E' hq=>nextS hw hl hz st.2 ?_) λh' he'=>hQ h' s.toks λb o hb e=>he' b o (λz=>hb (by simp[z])) e
  simp only[Int.toNat_natCast]
  by_cases hz0:es.size=0
  .rw[if_pos hz0,below_0 _ (by omega),Array.getElem?_eq_none (by omega)]
   exact hq
  .have e2:t.place[0]? =some (t.place[0]'(by omega)):=Array.getElem?_eq_getElem (by omega)
   have e3:t.place.getD 0 0=t.place[0]'(by omega):=by rw[Array.getD_eq_getD_getElem?,e2];rfl
   rw[if_neg hz0,e3,below_1 _ _ (by omega) e2,Array.getElem?_eq_none (by omega)]
   exact hq
 self:=λ_ _ _ _ st hQ=>iter_self st.1 hQ
end
end SS
namespace SS
open PySem PySem.Spec PyProof.Rows
section
variable{prog:Program}{w:World}{A:Around}{E:Value->Shared->Prop}{s:Shared}{it a:Addr}{es:Array (Int×Value)}{ep:Nat}{t:SetTable}
theorem perm_places{ps:List Nat}(hps:ps.Perm (List.range es.size)):(ps.map λp=>((es[p]?).getD (0,.none)).2).Perm (es.toList.map (·.2)):=by
 refine(hps.map _).trans ?_
 have:((List.range es.size).map λp=>((es[p]?).getD (0,.none)).2)=es.toList.map (·.2):=by
  apply List.ext_getElem?
  intro i
  simp only[List.getElem?_map,Array.getElem?_toList]
  by_cases hi:i<es.size
  .rw[List.getElem?_range hi,Array.getElem?_eq_getElem hi]
   simp[Array.getElem?_eq_getElem hi]
  .rw[List.getElem?_eq_none (by simpa using hi),Array.getElem?_eq_none (by omega)];rfl
 rw[this]
theorem iter_set{Q:Value->Shared->Prop}(hS:SetX prog w s.heap a es)
  (h:∀(h':Heap) (d:Drawn) (it:Addr) (zs:List Value) (fp:List Addr) (St:Nat->Heap->Prop),zs.Perm (es.toList.map (·.2))->(∀A':Around,A'.handled=none->Walks prog w A' it fp [it] zs.length (λi v=>zs[i]? =some v) St)->St 0 h'->
   it∈fp->(∀b∈fp,b=a∨s.heap.objs.size≤b)->(∀b∈fp,b<h'.objs.size)->s.heap.objs.size≤it->(∀b o,s.heap.get? b=some o->h'.get? b=some o)->Q (.ref it) {s with heap:=h',drawn:=d}):wpAny (model prog w) A (pyIter (.ref a)) Q E s:=by
 obtain⟨o,ep,t,ho,hex,hd,hel,hnd,hb,hf,hled,hpl⟩:=hS
 have hT:s.TypeIs (.ref a) "set" :=⟨o,ho,hex.1⟩
 have alt:a<s.heap.objs.size:=Heap.lt_size ho
 refine wpAny_pyIter_slot hT slot_iter (wpAny_call_entry slot_iter hT entry_iter ?_ (args_iter _))
 show wpAny _ _ (Builtin.Frozenset.sizeOf a>>=_) _ _ s
 unfold Builtin.Frozenset.sizeOf
 refine wpAny_bind (wpAny_bind (wpAny_setEntries_of ho hd hf (wpAny_pure ?_)))
 refine wpAny_bind ?_
 unfold setDrawn
 refine wpAny_bind (wpAny_setState_of ho hd hf ?_)
 dsimp only
 refine wpAny_bind (byText_ok (wpAny_pure ?_))
 show wpAny _ _ (if (!w.params.followText "set-order" &&(!t.plain&&decide (es.size>1)))=true then _ else _) _ _ _
 by_cases hc:(!w.params.followText "set-order" &&(!t.plain&&decide (es.size>1)))=true
 .rw[if_pos hc]
  refine wpAny_bind (drawOrder_ok _ _ _ _ (by simp) λys d hys=> ?_)
  unfold newTuple
  have hsz:sizeOk (.seq ((ys.map λ(i:Nat)=>rawInt i).toArray) 0):=by
   show((ys.map λ(i:Nat)=>rawInt i).toArray).size≤sizeLine
   rw[List.size_toArray,List.length_map,hys.length_eq,List.length_range]
   exact fits_of_scanBound hb
  refine wpAny_bind (wpAny_newObj_type ?_ hsz)
  have hk1:=λb o (e:s.heap.get? b=some o)=>Heap.get?_push_of_some {cls:= .type "tuple",data:= .seq ((ys.map λ(i:Nat)=>rawInt i).toArray)} e
  have ho1:=hk1 a o ho
  refine wpAny_bind (wpAny_setEpoch_of ho1 hd hf ?_)
  refine wpAny_bind (wpAny_newObj_type (wpAny_pure ⟨_,rfl,"set_iterator",_,⟨_,Heap.get?_push_size _ rfl,rfl⟩,slot_next.lookup,?_⟩) (by size_fits))
  have ne1:a≠(s.heap.push {cls:= .type "tuple",data:= .seq ((ys.map λ(i:Nat)=>rawInt i).toArray)}).objs.size:=by rw[Heap.size_push];exact Nat.ne_of_lt (Nat.lt_succ_of_lt alt)
  have ne2:s.heap.objs.size≠(s.heap.push {cls:= .type "tuple",data:= .seq ((ys.map λ(i:Nat)=>rawInt i).toArray)}).objs.size:=by rw[Heap.size_push];exact Nat.ne_of_lt (Nat.lt_succ_self _)
  refine h _ d _ (ys.map λp=>((es[p]?).getD (0,.none)).2) [_,a,s.heap.objs.size] _ (perm_places hys) (λA' hh=>walksD (t:=t) (ep:=ep) hh ne1 ne2 hys) ⟨⟨_,Heap.get?_push_size _ rfl,rfl,rfl⟩,⟨o,Heap.get?_push_of_some _ ho1,hd,hf⟩,⟨_,_,Heap.get?_push_of_some _ (Heap.get?_push_size _ rfl),rfl⟩⟩ (by simp) (λb hb'=>by
   simp only[List.mem_cons,List.not_mem_nil,or_false] at hb'
   rcases hb' with z|z|z
   .exact .inr (by rw[z,Heap.size_push];exact Nat.le_succ _)
   .exact .inl z
   .exact .inr (by rw[z];exact Nat.le_refl _)) (λb hb'=> ?_) (by rw[Heap.size_push];exact Nat.le_succ _) λb o e=>Heap.get?_push_of_some _ (hk1 b o e)
  rw[Heap.size_push,Heap.size_push]
  simp only[List.mem_cons,List.not_mem_nil,or_false] at hb'
  rcases hb' with z|z|z
  .rw[z,Heap.size_push];exact Nat.lt_succ_self _
  .rw[z];exact Nat.lt_succ_of_lt (Nat.lt_succ_of_lt alt)
  .rw[z];exact Nat.lt_succ_of_lt (Nat.lt_succ_self _)
 .rw[if_neg hc]
  refine wpAny_bind (wpAny_pure ?_)
  refine wpAny_bind (wpAny_setEpoch_of ho hd hf ?_)
  refine wpAny_bind (wpAny_newObj_type (wpAny_pure ⟨_,rfl,"set_iterator",_,⟨_,Heap.get?_push_size _ rfl,rfl⟩,slot_next.lookup,?_⟩) (by size_fits))
  have ne1:a≠s.heap.objs.size:=Nat.ne_of_lt alt
  have hfp:∀b∈[s.heap.objs.size,a],b<(s.heap.push {cls:= .type "set_iterator",data:= .fields [rawInt 0,rawInt 0,.ref a,rawInt (es.size:Nat),rawInt (ep:Nat)].toArray}).objs.size:=λb hb'=>by
   rw[Heap.size_push]
   simp only[List.mem_cons,List.not_mem_nil,or_false] at hb'
   rcases hb' with z|z
   .rw[z];exact Nat.lt_succ_self _
   .rw[z];exact Nat.lt_succ_of_lt alt
  have hfq:∀b∈[s.heap.objs.size,a],b=a∨s.heap.objs.size≤b:=λb hb'=>by
   simp only[List.mem_cons,List.not_mem_nil,or_false] at hb'
   rcases hb' with z|z
   .exact .inr (by rw[z];exact Nat.le_refl _)
   .exact .inl z
  cases hw:w.params.followText "set-order" with
  |true=>
   exact h _ s.drawn _ ((pickOrder (w.params.setOrder a ep) es).toList.map (·.2)) [_,a] _ ((pickOrder_perm _ es).map _) (λA' hh=>walksT (t:=t) hw hh ne1) ⟨⟨_,Heap.get?_push_size _ rfl,rfl,rfl⟩,⟨o,Heap.get?_push_of_some _ ho,hd,hf⟩⟩ (by simp) hfq hfp (Nat.le_refl _) λb o e=>Heap.get?_push_of_some _ e
  |false=>
   have hz:es.size≤1:=by
    rw[hw] at hc
    by_cases hz:es.size≤1
    .exact hz
    .rw[hpl (by omega),decide_eq_true (by omega)] at hc
     exact absurd rfl hc
   have hl:t.led=true:=by rw[hled,hw];rfl
   exact h _ s.drawn _ (es.toList.map (·.2)) [_,a] _ (.refl _) (λA' hh=>walksS (t:=t) (ep:=ep) hw hl hz hf hh ne1) ⟨⟨_,Heap.get?_push_size _ rfl,rfl,rfl⟩,⟨o,Heap.get?_push_of_some _ ho,hd,hf⟩⟩ (by simp) hfq hfp (Nat.le_refl _) λb o e=>Heap.get?_push_of_some _ e
end
end SS
namespace SS
open PySem PySem.Spec PyProof.Rows
section
variable{prog:Program}{w:World}{A:Around}{E:Value->Shared->Prop}{s:Shared}{a:Addr}{es:Array (Int×Value)}
theorem collect_set{Q:List Value->Shared->Prop}(hh:A.handled=none)(hS:SetX prog w s.heap a es)
  (hQ:∀(h':Heap) (d:Drawn) (tk:Nat) (zs:List Value),zs.Perm (es.toList.map (·.2))->s.heap.objs.size≤h'.objs.size->(∀b o,s.heap.get? b=some o->h'.get? b=some o)->Q zs {s with heap:=h',drawn:=d,toks:=tk}):
  wpAny (model prog w) A (collect (.ref a)) Q E s:=by
 have alt:a<s.heap.objs.size:=by obtain⟨o,_,_,ho,_⟩:=hS;exact Heap.lt_size ho
 have hz:es.size<scanBound:=by obtain⟨_,_,_,_,_,_,_,_,hb,_⟩:=hS;exact hb
 unfold collect
 refine wpAny_bind (wpAny_runValue (codeAny_builtin PySem.F.entry_proto_collect ?_))
 rw[Around.under_plainId PySem.F.plain_proto_collect _]
 show wpAny _ A.in1 (newList []>>=λl=>again (.builtin "list.__iadd__" ⟨[l,.ref a],[]⟩)) _ _ s
 refine wpAny_bind (wpAny_newObj_type ?_)
 refine wpAny_pure ⟨plainId_quiet PySem.F.plain_list_iadd _,codeAny_builtin PySem.F.entry_list_iadd ?_⟩
 rw[Around.under_plainId PySem.F.plain_list_iadd _]
 have hS1:SetX prog w (s.heap.push {cls:= .type "list",data:= .seq ([]:List Value).toArray}) a es:=hS.keeps λo e=>Heap.get?_push_of_some _ e
 have hT:∀{s':Shared},SetX prog w s'.heap a es->s'.TypeIs (.ref a) "set" :=λ {s'} x=>by obtain⟨o,_,_,ho,hex,_⟩:=x;exact⟨o,ho,hex.1⟩
 show wpAny _ A.in1 (Builtin.List.listExtendWith (.ref s.heap.objs.size) (.ref a) (.ref s.heap.objs.size)) _ _ _
 unfold Builtin.List.listExtendWith
 refine wpAny_bind (wpAny_typeOf (hT (s':={s with heap:=s.heap.push {cls:= .type "list",data:= .seq ([]:List Value).toArray}}) hS1) ?_)
 have h1:Builtin.List.listSameRef (.ref s.heap.objs.size) (.ref a)=false:=by simp[Builtin.List.listSameRef,Nat.ne_of_gt alt]
 have h2:(Value.type "set" ==Value.type "list")=false:=by decide
 have h3:(Value.type "set" ==Value.type "tuple")=false:=by decide
 simp only[h1,h2,h3,Bool.or_false,Bool.false_eq_true,if_false]
 refine wpAny_bind (iter_set (s:={s with heap:=s.heap.push {cls:= .type "list",data:= .seq ([]:List Value).toArray}}) hS1 λh2 d it zs fp St hz' W st0 hit hfq hfp hge k2=> ?_)
 have hS2:SetX prog w h2 a es:=hS1.keeps λo e=>k2 _ _ e
 refine wpAny_bind (wpAny_holding ?_)
 unfold Builtin.List.listLengthHint
 refine wpAny_bind (wpAny_specialOf (hT (s':={s with heap:=h2,drawn:=d}) hS2) PySem.F.slot_set_len.lookup ?_)
 dsimp only
 have hsplit:splitId "set.__len__" =some ("set","__len__"):=by decide+kernel
 rw[hsplit]
 dsimp only
 refine wpAny_bind (wpAny_isInstance (hT (s':={s with heap:=h2,drawn:=d}) hS2) sub_set_self ?_)
 simp only[Bool.not_true,Bool.false_eq_true,if_false]
 rw[if_pos (by decide+kernel)]
 refine wpAny_bind (wpAny_typeOf (hT (s':={s with heap:=h2,drawn:=d}) hS2) ?_)
 refine wpAny_pure ?_
 rw[if_pos (by decide+kernel)]
 refine wpAny_bind (wpAny_rule ?_)
 have L0:(s.heap.push {cls:= .type "list",data:= .seq ([]:List Value).toArray}).get? s.heap.objs.size=some {cls:= .type "list",data:= .seq ([]:List Value).toArray}:=Heap.get?_push_size _ rfl
 have L1:=k2 _ _ L0
 have hSf:s.heap.objs.size∉fp:=λz=>by
  rcases hfq _ z with e|e
  .exact absurd alt (by rw[←e];exact Nat.lt_irrefl _)
  .rw[Heap.size_push] at e
   exact absurd e (Nat.not_succ_le_self _)
 have hge':s.heap.objs.size<it:=by rw[Heap.size_push] at hge;exact hge
 refine wpAny_bind ?_
 show wpAny _ A.in1 (updateSeq s.heap.objs.size (·.push .none)>>=λ_=>updateSeq s.heap.objs.size (·.pop)) _ _ _
 refine wpAny_bind (wpAny_updateSeq L1 rfl ?_)
 have L2:=Heap.get?_update_self (Obj.mapSeq (·.push Value.none)) L1 rfl
 refine wpAny_updateSeq L2 rfl ?_
 have L3:=Heap.get?_update_self (Obj.mapSeq (·.pop)) L2 rfl
 have oth:∀b o,b≠s.heap.objs.size->h2.get? b=some o->((h2.update s.heap.objs.size (Obj.mapSeq (·.push Value.none))).update s.heap.objs.size (Obj.mapSeq (·.pop))).get? b=some o:=
  λb o hb e=>(Heap.get?_update_other _ _ (Ne.symm hb)).trans ((Heap.get?_update_other _ _ (Ne.symm hb)).trans e)
 have WS:=(W A.in1 hh).toS
 have hn:zs.length≤sizeLine:=by rw[hz'.length_eq,List.length_map,Array.length_toList];exact fits_of_scanBound hz
 refine wpAny_pure ⟨plainId_quiet PySem.F.plain_extend_loop _,codeAny_extend_loopS WS hn _ hSf _ zs.length 0 _ _ _ rfl (Nat.zero_le _) ((W A.in1 hh).frame 0 _ _ st0 λb hb o e=>oth b o (λz=>hSf (z▸hb)) e) L3 (ItemsOf.nil _) λs' acc' c' hm hS' hacc=> ?_⟩
 show wpAny _ A (load s.heap.objs.size>>=_) _ _ s'
 refine wpAny_bind (wpAny_load hS' ?_)
 have eacc:acc'.toList=zs:=by
  apply List.ext_getElem?
  intro j
  rw[Array.getElem?_toList]
  by_cases hj:j<acc'.size
  .have e1:acc'[j]? =some (acc'[j]'hj):=Array.getElem?_eq_getElem hj
   rw[e1]
   exact(hacc.2 j _ e1).symm
  .rw[Array.getElem?_eq_none (by omega),List.getElem?_eq_none (by rw[←hacc.1];omega)]
 obtain⟨h',g',d',tk',os'⟩:=s'
 have eg:g'=s.gens:=hm.gens
 have ed:d'=d:=hm.drawn
 have eo:os'=s.os:=hm.os
 subst eg;subst ed;subst eo
 refine wpAny_pure ?_
 show Q acc'.toList _
 rw[eacc]
 have kp:∀b o,s.heap.get? b=some o->h'.get? b=some o:=λb o e=>by
  have hb:b<s.heap.objs.size:=Heap.lt_size e
  refine hm.heap b o ?_ (oth b o (Nat.ne_of_lt hb) (k2 _ _ (Heap.get?_push_of_some _ e)))
  simp only[List.mem_cons,List.not_mem_nil,or_false,not_or]
  exact⟨Nat.ne_of_lt hb,Nat.ne_of_lt (Nat.lt_trans hb hge')⟩
 exact hQ h' d' tk' zs hz' (Nat.le_of_lt (Heap.lt_size hS')) kp
theorem strs_of{l:List (Int×Value)}(h:ElemsOf (PySem.strKind prog w) l):∀{zs:List Value},zs.Perm (l.map (·.2))->StrsAre zs (zs.map strOf):=λ {zs} hp=>by
 have:∀v∈zs,∃t,v=Value.str (strOf v) t:=λv hv=>by
  obtain⟨e,he,rfl⟩:=List.mem_map.mp (hp.mem_iff.mp hv)
  exact elems_str h he
 clear hp
 induction zs with
 |nil=>exact .nil
 |cons v r ih=>
  obtain⟨t,e⟩:=this v (by simp)
  have r':=ih λv' h'=>this v' (by simp[h'])
  rw[List.map_cons]
  rw[e]
  exact .cons _ t r'
theorem sorted_set{Q:Value->Shared->Prop}(hh:A.handled=none)(hS:SetX prog w s.heap a es)(h64:es.size<64)
  (h:∀(h':Heap) (d:Drawn) (tk:Nat) (l:Addr) (e:Nat) (out:List Value) (ss:List Str),s.heap.objs.size≤l->h'.get? l=some (seqObj "list" out.toArray e)->StrsAre out ss->ss.Perm (names es)->sortedS ss=true->
   (∀b o,s.heap.get? b=some o->h'.get? b=some o)->Q (.ref l) {s with heap:=h',drawn:=d,toks:=tk}):
  wpAny (model prog w) A (call (.builtin "sorted") [.ref a]) Q E s:=by
 have hel:ElemsOf (PySem.strKind prog w) es.toList:=by obtain⟨_,_,_,_,_,_,hel,_⟩:=hS;exact hel
 refine Calls.call_function_entry kind_sorted plain_sorted entry_sorted (args_sorted1 _) ?_
 unfold Builtin.«sorted»
 refine wpAny_bind (m:=checkCount "sorted" 1 1 _) (wpAny_pure ?_)
 refine wpAny_bind (collect_set hh hS λh1 d tk zs hz hsz k1=> ?_)
 have hst:StrsAre zs (zs.map strOf):=strs_of hel hz
 have hlen:zs.length<64:=by rw[hz.length_eq,List.length_map,Array.length_toList];exact h64
 refine wpAny_bind (wpAny_newList ?_)
 have hoL:(h1.push (seqObj "list" zs.toArray 0)).get? h1.objs.size=some (seqObj "list" zs.toArray 0):=Heap.get?_push_size _ rfl
 show wpAny _ _ _ _ _ {s with heap:=h1.push (seqObj "list" zs.toArray 0),drawn:=d,toks:=tk}
 refine wpAny_bind (wpAny_holding (wpAny_call_entry slot_list_sort ⟨_,hoL,rfl⟩ entry_list_sort (list_sort_treeK strKind_oneLt hoL hst.keysOf (λv₁ v₂ rest e=>keyKind_strs (by rw[←e];exact hst)) hlen λst' a1 a2=>⟨_,rfl,?_⟩) (args_list_sort _)))
 obtain⟨ss',q1,q2,q3⟩:=sorted_out_str hst a1 a2
 obtain⟨e,he⟩:=sortedHeap_at (out:=(arrOf st').map (·.2)) hoL
 refine wpAny_pure ⟨_,rfl,h _ d tk h1.objs.size e ((arrOf st').map (·.2)).toList ss' hsz (by rw[Array.toArray_toList];exact he) q1 (q2.trans ?_) q3 λb o q=> ?_⟩
 .have:=hz.map strOf
  rw[List.map_map] at this
  exact this
 .have hb:=k1 b o q
  rw[sortedHeap_old (Nat.ne_of_lt (Heap.lt_size hb)) (by rw[size_push'];exact Nat.lt_succ_of_lt (Heap.lt_size hb))]
  exact Heap.get?_push_of_some _ hb
end
end SS
namespace L2
open PySem PySem.Spec PyProof.Rows
section
variable{X:Cx}
theorem strs_get{xs:List Str}{its:List Value}(r:Vals (xs.map V.str) its):∀(i:Nat) (v:Value),its.toArray[i]? =some v->∃t:Tok,v=Value.str (xs.getD i ⟨#[]⟩) t:=λi v h=>by
 have h':its[i]? =some v:=by simpa using h
 have hl:=r.length
 have hi:i<its.length:=(List.getElem?_eq_some_iff.mp h').1
 have hx:(xs.map V.str)[i]? =some (V.str (xs.getD i ⟨#[]⟩)):=by
  rw[List.getElem?_map,List.getD_eq_getElem?_getD]
  have:i<xs.length:=by rw[←hl,List.length_map] at hi;exact hi
  rw[List.getElem?_eq_getElem this];rfl
 obtain⟨u,hu,ru⟩:=r.get hx
 rw[h'] at hu
 cases hu
 exact ru
def strLt(a b:Str):Prop:=a.cps.toList<b.cps.toList
theorem rising_pw:∀(p:Str) (l:List Str),risingS p l=true->(p::l).Pairwise (λa b=>¬b.cps.toList<a.cps.toList)
 |p,[],_=>List.pairwise_singleton _ _
 |p,x::r,h=>by
  simp only[risingS,Bool.and_eq_true,Bool.not_eq_true',ltCps_eq,decide_eq_false_iff_not] at h
  have ih:=rising_pw x r h.2
  refine List.pairwise_cons.mpr ⟨λy hy=> ?_,ih⟩
  rcases List.mem_cons.mp hy with e|e
  .rw[e];exact h.1
  .have:=(List.pairwise_cons.mp ih).1 y e
   exact λz=>(List.not_lt.mp this)|>λq=>absurd z (List.not_lt.mpr (List.le_trans (List.not_lt.mp h.1) q))
theorem sorted_pw{l:List Str}(h:sortedS l=true):l.Pairwise (λa b=>¬b.cps.toList<a.cps.toList):=by
 cases l with
 |nil=>exact .nil
 |cons x r=>exact rising_pw x r h
theorem strictly{l:List Str}(h:l.Pairwise (λa b=>¬b.cps.toList<a.cps.toList))(nd:l.Nodup):l.Pairwise strLt:=by
 refine(h.and nd).imp λ {a b} q=> ?_
 by_cases z:a.cps.toList<b.cps.toList
 .exact z
 .have e:a.cps.toList=b.cps.toList:=List.le_antisymm (List.not_lt.mp q.1) (List.not_lt.mp z)
  refine absurd ?_ q.2
  obtain⟨⟨la⟩⟩:=a
  obtain⟨⟨lb⟩⟩:=b
  have e':la=lb:=e
  rw[e']
def tSortSet(K:PySem.W.Frag)(ta:TA):TE:=λσ H Q=>ta σ H λvs H1=>∃(a:Addr) (xs:List Str),vs=[.ref a]∧SqL K H1 a (xs.map V.str)∧xs.length<64∧
 ∀(l:Addr) (ys:List Str),H1 l=none->ys.Pairwise strLt->(∀x,x∈ys↔x∈xs)->Q (.ref l) (upd H1 l (.lst (ys.map V.str)))
theorem vals_strs:∀{out:List Value} {ss:List Str},StrsAre out ss->Vals (ss.map V.str) out
 |_,_,.nil=> .nil
 |_,_,.cons x t h=> .cons ⟨t,rfl⟩ (vals_strs h)
theorem pe_sortset{e:Expr}{ta:TA}{p1 p2 pos1 pos2:Pos}(hms:X.mg "sorted" =none)(hmt:X.mg "set" =none)(hc:X.calm=true)(ha:PA X [e] ta)(hgs:Gl X "sorted" :=by rfl)(hgt:Gl X "set" :=by rfl)
  (hs:starEach [e] X.env=[(false,eval e X.env)]:=by rfl)(hz:starEach [.Call (.Name "set" p2) [e] [] pos2] X.env=[(false,eval (.Call (.Name "set" p2) [e] [] pos2) X.env)]:=by rfl):
  PE X (.Call (.Name "sorted" p1) [.Call (.Name "set" p2) [e] [] pos2] [] pos1) (tSortSet X.K ta):=by
 intro pins s σ H Q I h
 refine wpAny_Call_Name_kw (ld_blt I hgs hms (show bootBuiltins "sorted" =some (.builtin "sorted") by with_unfolding_all rfl) ?_)
 refine PyProof.Rows.callWith_builtin1 ?_ hz rfl
 rw[hz]
 refine Calls.spliced_cons (wpAny_Call_Name_kw (ld_blt I hgt hmt (show bootBuiltins "set" =some (.type "set") by with_unfolding_all rfl) (PyProof.Rows.callWith_type1 (thn (ha pos2 pins s σ H _ I h) λus s1 ⟨vs,H1,I1,r1,q1⟩=> ?_) hs rfl)))
 obtain⟨a,xs,e,hq,h64,q⟩:=q1
 subst e
 obtain⟨u,rfl,ru⟩:=vals1 r1
 cases ru
 obtain⟨its,rv,pl,hzz⟩:=I1.list hq
 have hl:=rv.length
 have hsz:its.toArray.size=xs.length:=by rw[List.size_toArray,←hl,List.length_map]
 refine SS.call_set (val:=λi=>xs.getD i ⟨#[]⟩) (I1.ok.hd hc) pl.isList (λi v hv=>strs_get rv i v hv) (by rw[hsz,show scanBound=4096 from rfl];omega) λh2 tk es hS hsz' hmem k2=> ?_
 have hszE:es.size<64:=by omega
 have kp2:∀b o,s1.heap.get? b=some o->h2.get? b=some o:=λb o e=>k2 b o (Heap.lt_size e) e
 refine Calls.spliced_nil ?_
 refine SS.sorted_set (s:={s1 with heap:=h2,toks:=tk}) (I1.ok.hd hc) hS hszE λh3 d tk3 l ep out ss hge hl3 hss hperm hsort k3=> ?_
 have alt:s1.heap.objs.size<h2.objs.size:=by obtain⟨o,_,_,ho,_⟩:=hS;exact Heap.lt_size ho
 have hn:H1 l=none:=I1.hok.fresh (Nat.le_trans (Nat.le_of_lt alt) hge)
 have nd:ss.Nodup:=hperm.nodup_iff.mpr (by obtain⟨_,_,_,_,_,_,_,hnd,_⟩:=hS;exact hnd)
 have hmem2:∀x,x∈ss↔x∈xs:=λx=>by
  rw[hperm.mem_iff,hmem x,hsz]
  constructor
  .rintro ⟨j,hj,rfl⟩
   rw[List.getD_eq_getElem?_getD,List.getElem?_eq_getElem hj]
   exact List.getElem_mem hj
  .intro hx
   obtain⟨j,hj,e⟩:=List.getElem_of_mem hx
   exact⟨j,hj,by rw[List.getD_eq_getElem?_getD,List.getElem?_eq_getElem hj];exact e⟩
 have hlen:ss.length=es.size:=by rw[hperm.length_eq,List.length_map,Array.length_toList]
 have I2:Inv X pins σ (upd H1 l (.lst (ss.map V.str))) {s1 with heap:=h3,drawn:=d,toks:=tk3}:=by
  refine I1.call (ch:=[]) (g':=s1.gens) (d':=d) (t':=tk3) (h':=h3) (H':=upd H1 l (.lst (ss.map V.str))) ⟨λb o q _ _ _=>k3 b o (kp2 b o q),λb o q _ _ _=>⟨o.slots,k3 b o (kp2 b o q)⟩,λb o q n _=> ?_,λb o q _=>⟨o,k3 b o (kp2 b o q)⟩,λb xs q=> ?_,λb o u q=> ?_,λb ps q=>⟨#[],?_⟩⟩ ?_ I1.bare λb z=>absurd z (by simp)
  .rw[upd_ne (Nat.ne_of_lt (Nat.lt_of_lt_of_le (Heap.lt_size q) (Nat.le_trans (Nat.le_of_lt alt) hge)))];exact n
  .rw[upd_ne (ne_of_none q hn)];exact q
  .rw[upd_ne (ne_of_none q hn)];exact q
  .rw[upd_ne (ne_of_none q hn),q];simp
  .exact I1.hok.laid (λb u q=>k3 b u (kp2 b u q)) (Nat.le_trans (Nat.le_of_lt alt) hge) ⟨by rw[List.length_map,hlen];exact Nat.le_of_lt (Nat.lt_of_lt_of_le hszE (by decide)),out,ep,vals_strs hss,hl3⟩
 exact⟨.ref l,_,I2,rfl,q l ss hn (strictly (sorted_pw hsort) nd) hmem2⟩
end
end L2
namespace L2
open PySem PySem.Spec PyProof.Rows
theorem preSum_take(ns:List Int):∀k,k≤ns.length->preSum (λi=>ns.getD i 0) k=(ns.take k).sum
 |0,_=>by simp[preSum]
 |k+1,h=>by
  have e:preSum (λi=>ns.getD i 0) (k+1)=preSum (λi=>ns.getD i 0) k+ns.getD k 0:=by
   first|rfl|(unfold preSum;simp[List.range_succ])
  rw[e,preSum_take ns k (by omega),List.take_add_one,List.getElem?_eq_getElem (by omega),List.sum_append,List.getD_eq_getElem?_getD,List.getElem?_eq_getElem (by omega)]
  simp
theorem sum_small:∀(ns:List Int) (b:Int),(∀n∈ns,0≤n∧n≤b)->0≤ns.sum∧ns.sum≤b*ns.length
 |[],b,_=>by simp
 |x::r,b,h=>by
  obtain⟨h1,h2⟩:=h x (by simp)
  obtain⟨h3,h4⟩:=sum_small r b λn hn=>h n (by simp[hn])
  rw[List.sum_cons,List.length_cons]
  refine⟨by omega,?_⟩
  have:b*((r.length+1:Nat):Int)=b*(r.length:Int)+b:=by rw[Int.natCast_add,Int.mul_add];simp
  rw[this];omega
section
variable{X:Cx}
theorem call_sum(hc:X.calm=true):CallR X (.builtin "sum") (λxs H Q=>∃(p:Addr) (ns:List Int),xs=[.ref p]∧SqL X.K H p (ns.map V.int)∧(∀n∈ns,0≤n∧n≤2 ^ 40)∧ns.length≤1000∧Q (.int ns.sum) H):=by
 intro pins s σ H xs us Q I r h
 obtain⟨p,ns,rfl,hq,hb,hl,q⟩:=h
 obtain⟨u,rfl,ru⟩:=vals1 r
 cases ru
 obtain⟨vs,rv,pl,hz⟩:=I.list hq
 have hlen:vs.length=ns.length:=by rw[←rv.length,List.length_map]
 have hll:=pl.isList
 have hlt:p<s.heap.objs.size:=by obtain⟨_,e,_⟩:=hll;exact Heap.lt_size e
 have small:∀k,k≤ns.length->InLong (preSum (λi=>ns.getD i 0) k):=λk hk=>by
  rw[preSum_take ns k hk]
  obtain⟨h1,h2⟩:=sum_small (ns.take k) (2 ^ 40) λn hn=>hb n (List.mem_of_mem_take hn)
  have h3:((ns.take k).length:Int)≤1000:=by rw[List.length_take];omega
  have h4:(2 ^ 40:Int)*((ns.take k).length:Int)≤2 ^ 40*1000:=Int.mul_le_mul_of_nonneg_left h3 (by decide)
  unfold InLong
  first|(constructor<;>omega)|omega
 refine call_sum_walk (wpAny_pyIter_list hll ?_)
 refine⟨s.heap.objs.size,[s.heap.objs.size,p],[s.heap.objs.size],vs.toArray.size,_,_,λi=>ns.getD i 0,rfl,Walks.list (A:=X.A.in1) (I.ok.hd hc) _ p (Nat.ne_of_lt hlt) vs.toArray,
  ⟨⟨_,Heap.get?_push_size _ rfl,rfl,rfl⟩,hll.push _⟩,λb hb'=> ?_,λi v hv=> ?_,λj hj=>⟨?_,small (j+1) (by simp at hj;omega)⟩,λh' tk t' hk=> ?_⟩
 .rw[Heap.size_push]
  simp only[List.mem_cons,List.not_mem_nil,or_false] at hb'
  rcases hb' with z|z
  .rw[z];exact Nat.lt_succ_self _
  .rw[z];exact Nat.lt_succ_of_lt hlt
 .have h':vs[i]? =some v:=by simpa using hv
  have hi:i<ns.length:=by rw[←hlen];exact(List.getElem?_eq_some_iff.mp h').1
  have hx:(ns.map V.int)[i]? =some (V.int (ns.getD i 0)):=by
   rw[List.getElem?_map,List.getD_eq_getElem?_getD,List.getElem?_eq_getElem hi];rfl
  obtain⟨u,hu,ru⟩:=rv.get hx
  rw[h'] at hu
  cases hu
  exact ru
 .have hj':j<ns.length:=by simp at hj;omega
  obtain⟨h1,h2⟩:=hb (ns.getD j 0) (by rw[List.getD_eq_getElem?_getD,List.getElem?_eq_getElem hj'];exact List.getElem_mem hj')
  show InLong (ns.getD j 0)
  unfold InLong
  first|(constructor<;>omega)|omega
 .have e:preSum (λi=>ns.getD i 0) vs.toArray.size=ns.sum:=by
   rw[List.size_toArray,hlen,preSum_take ns _ (Nat.le_refl _),List.take_length]
  rw[e]
  exact⟨.int _,H,I.kept (h':=h') (t':=tk) (LSm.kept_iter hk),⟨_,rfl⟩,q⟩
end
end L2
namespace L2
open PySem PySem.Spec PyProof.Rows
section
variable{X:Cx}
end
section
variable{prog:Program}{w:World}{A:Around}{E:Value->Shared->Prop}{s:Shared}
theorem tuple_addW0(l b:Addr)(items items2:Array Value)(n n2:Nat)(dd dd2:Option Addr)(sl sl2:Array (Option Value))(hc0:items.isEmpty=true):
  Meets (Builtin.«tuple.__add__» ⟨[.ref l,.ref b],[]⟩) (λ_ R s=>s.heap.get? l=some {cls:= .type "tuple",dict:=dd,data:= .seq items n,slots:=sl}∧s.heap.get? b=some {cls:= .type "tuple",dict:=dd2,data:= .seq items2 n2,slots:=sl2}∧R (.ok (.ret (Value.ref b))) {s with heap:=s.heap,toks:=s.toks}):=
 .of_wp λprog w A R s h=>by obtain⟨hp,g,d,tk,os⟩:=s;obtain⟨hl,hb,h⟩:=h;have f1:=AutoSeq1.idx_int;have f2:=AutoSeq1.sub_tuple_tuple;have f3:=AutoSeq1.sub_list_list;have f4:=AutoSeq1.sub_tuple_list;have f5:=AutoSeq1.sub_list_tuple;wp_walk using wpAny_loadPart' hl,wpAny_loadPart' hb;exact⟨_,rfl,h⟩
end
section
variable{X:Cx}
def rCatT0(K:PySem.W.Frag):R2:=λx y H Q=>∃a b ys,x= .ref a∧y= .ref b∧SqT K H a []∧SqT K H b ys∧Q (.ref b) H
theorem op_catT0:OpR X (binaryOp .Add) (rCatT0 X.K):=by
 intro pins s σ H x y v u Q I rx ry h
 obtain⟨a,b,ys,rfl,rfl,ha,hb,q⟩:=h
 cases rx
 cases ry
 obtain⟨its,r1,p1,_⟩:=I.tuple ha
 obtain⟨its2,r2,p2,_⟩:=I.tuple hb
 cases r1
 obtain⟨⟨cls,dd,data,sl⟩,ho,hc,n,hd⟩:=id p1
 obtain⟨⟨cls2,dd2,data2,sl2⟩,ho2,hc2,n2,hd2⟩:=id p2
 simp only at hc hd hc2 hd2
 subst hc hd hc2 hd2
 exact concat_meets ⟨_,ho,rfl⟩ ⟨_,ho2,rfl⟩ noFill_tuple_add seq_tuple_add PySem.F.slot_tuple_add PySem.F.entry_tuple_add (PySem.F.args_tuple_add_2 _ _)
  (tuple_addW0 a b #[] its2.toArray n n2 dd dd2 sl sl2 rfl) ⟨ho,ho2,⟨.ref b,H,I,rfl,q⟩⟩
def rCatA(K:PySem.W.Frag):R2:=λx y H Q=>∃a b xs ys,x= .ref a∧y= .ref b∧SqT K H a xs∧SqT K H b ys∧xs.length+ys.length≤sizeLine∧
 (xs=[]->Q (.ref b) H)∧(xs≠[]->ys=[]->Q (.ref a) H)∧(xs≠[]->ys≠[]->∀p,H p=none->Q (.ref p) (upd H p (.tup (xs++ys))))
theorem op_catA:OpR X (binaryOp .Add) (rCatA X.K):=by
 intro pins s σ H x y v u Q I rx ry h
 obtain⟨a,b,xs,ys,rfl,rfl,ha,hb,hz,q0,q1,q2⟩:=h
 by_cases hx:xs=[]
 .subst hx
  exact op_catT0 pins s σ H _ _ v u Q I rx ry ⟨a,b,ys,rfl,rfl,ha,hb,q0 rfl⟩
 .exact op_catT pins s σ H _ _ v u Q I rx ry ⟨a,b,xs,ys,rfl,rfl,ha,hb,hx,hz,q1 hx,q2 hx⟩
end
end L2
namespace DP
open PySem PySem.Spec PyProof.Rows
theorem miss_list:typeLookup (.type "list") "keys" =pure none:=by rw[typeLookup_type,builtinLookup_eq_fast];kernel_rfl
theorem miss_tuple:typeLookup (.type "tuple") "keys" =pure none:=by rw[typeLookup_type,builtinLookup_eq_fast];kernel_rfl
section
variable{prog:Program}{w:World}{A:Around}{E:Value->Shared->Prop}{s:Shared}
theorem nokeys_list{a:Addr}{xs:Array Value}{k:Nat}{Q:Option Value->Shared->Prop}(hx:s.heap.get? a=some {cls:= .type "list",data:= .seq xs k})(hA:A.handled=none)
  (h:∀h' tk,(∀b o,s.heap.get? b=some o->h'.get? b=some o)->Q none {s with heap:=h',toks:=tk}):wpAny (model prog w) A (getAttr? (.ref a) "keys") Q E s:=by
 obtain⟨hp,g,d,tk,os⟩:=s
 have hT:∀tk',(⟨hp,g,d,tk',os⟩:Shared).TypeIs (.ref a) "list" :=λ_=>⟨_,hx,rfl⟩
 have f1:=sub_AttributeError
 have f3:=PySem.F.slot_list_getattribute.lookup
 have f4:=PySem.F.slot_list_getattribute.bind (.ref a)
 have f5:=am_list_getattr_none
 unfold getAttr? getAttrBy? getAttrBy
 repeat (any_goals (first|assumption|exact hT _|((with_reducible show wpAny _ _ (call (Value.builtin "list.__getattribute__") _ _) _ _ _);refine call_meets PySem.F.slot_list_getattribute (hT _) am_entry_list_getattribute (PySem.F.args_list_getattribute_2 _ _) (meets_getattribute_miss_list a xs k #[] "keys" _ miss_list (by decide) (by decide)) ⟨hx,hA,λh' tk' e hx'=> ?_⟩)|wp_step))
 obtain⟨t',u',he⟩:=hx'.there
 show wpAny _ _ (getattributeRaised _ _ _ _ _ _ _) _ _ _
 unfold getattributeRaised
 repeat (any_goals (first|assumption|wp_step))
 exact h _ _ hx'.keeps
theorem nokeys_tuple{a:Addr}{xs:Array Value}{k:Nat}{Q:Option Value->Shared->Prop}(hx:s.heap.get? a=some {cls:= .type "tuple",data:= .seq xs k})(hA:A.handled=none)
  (h:∀h' tk,(∀b o,s.heap.get? b=some o->h'.get? b=some o)->Q none {s with heap:=h',toks:=tk}):wpAny (model prog w) A (getAttr? (.ref a) "keys") Q E s:=by
 obtain⟨hp,g,d,tk,os⟩:=s
 have hT:∀tk',(⟨hp,g,d,tk',os⟩:Shared).TypeIs (.ref a) "tuple" :=λ_=>⟨_,hx,rfl⟩
 have f1:=sub_AttributeError
 have f3:=PySem.F.slot_tuple_getattribute.lookup
 have f4:=PySem.F.slot_tuple_getattribute.bind (.ref a)
 have f5:=am_tuple_getattr_none
 unfold getAttr? getAttrBy? getAttrBy
 repeat (any_goals (first|assumption|exact hT _|((with_reducible show wpAny _ _ (call (Value.builtin "tuple.__getattribute__") _ _) _ _ _);refine call_meets PySem.F.slot_tuple_getattribute (hT _) am_entry_tuple_getattribute (PySem.F.args_tuple_getattribute_2 _ _) (meets_getattribute_miss_tuple a xs k #[] "keys" _ miss_tuple (by decide) (by decide)) ⟨hx,hA,λh' tk' e hx'=> ?_⟩)|wp_step))
 obtain⟨t',u',he⟩:=hx'.there
 show wpAny _ _ (getattributeRaised _ _ _ _ _ _ _) _ _ _
 unfold getattributeRaised
 repeat (any_goals (first|assumption|wp_step))
 exact h _ _ hx'.keeps
end
theorem entry_loop:entryFor table "dict.update.loop" =some Builtin.«dict.update.loop»:=entryFor_of_tree (by kernel_rfl)
theorem plain_loop:plainId "dict.update.loop" =true:=by decide+kernel
section
variable{prog:Program}{w:World}{A:Around}{R:Result->Shared->Prop}{I:Addr}{fp wr:List Addr}{n:Nat}{P:Nat->Value->Prop}{St:Nat->Heap->Prop}
theorem loop(W:Walks prog w A.in1 I fp wr n P St)(D:Addr)(hDf:D∉fp)(h₀:Heap)(key:Nat->L2.Key)(kv vv:Nat->Value)
  (hval:∀i v,i<n->P i v->∃t,v= .ref t∧t≠D∧t∉wr∧IsTup h₀ t #[kv i,vv i])(hkey:∀i,i<n->(L2.mixKind prog w).is (key i) (kv i)=true)(hn:n≤sizeLine):
  ∀(k i:Nat) (s:Shared) (kvs:List (L2.Key×Value)),n - i=k->i≤n->St i s.heap->s.heap.DictOf (L2.mixKind prog w) D kvs->kvs.length≤i->(∀b o,b≠D->b∉wr->h₀.get? b=some o->s.heap.get? b=some o)->
   (∀h' tk,h'.DictOf (L2.mixKind prog w) D (((List.range n).drop i).foldl (λacc j=>stored acc (key j) (vv j)) kvs)->(∀b o,b≠D->b∉wr->s.heap.get? b=some o->h'.get? b=some o)->R (.ok (.ret .none)) {s with heap:=h',toks:=tk})->
   codeAny (model prog w) A (.builtin "dict.update.loop" ⟨[.ref D,.ref I,rawInt (i:Nat),.none],[]⟩) R s:=by
 have hDw:D∉wr:=λh=>hDf (W.sub _ h)
 intro k
 induction k with
 |zero=>
  intro i s kvs hk hi hst hD hl hh hR
  have hin:i=n:=by omega
  subst hin
  refine codeAny_builtin entry_loop ?_
  rw[Around.under_plainId plain_loop _]
  show wpAny _ A.in1 (pyNext (.ref I)>>=_) _ _ s
  refine wpAny_bind (W.done s _ _ hst λh' tk hm=> ?_)
  show wpAny _ A.in1 (Builtin.Dict.addKeywords D []>>=_) _ _ _
  refine wpAny_bind (wpAny_pure (wpAny_pure (hR h' tk ?_ λb o hb hb' e=>hm b o hb' e)))
  rw[List.drop_eq_nil_of_le (by simp),List.foldl_nil]
  obtain⟨o,es,ep,ho,r⟩:=hD
  exact⟨o,es,ep,hm D o hDw ho,r⟩
 |succ k ih=>
  intro i s kvs hk hi hst hD hl hh hR
  have hlt:i<n:=by omega
  refine codeAny_builtin entry_loop ?_
  rw[Around.under_plainId plain_loop _]
  show wpAny _ A.in1 (pyNext (.ref I)>>=_) _ _ s
  refine wpAny_bind (W.item i s _ _ hlt hst λv h1 tk hP hst' hm=> ?_)
  obtain⟨t,rfl,tD,tw,ht⟩:=hval i v hlt hP
  obtain⟨ot,hot,hct,nt,hdt⟩:=ht
  have hot1:h1.get? t=some ot:=hm t ot tw (hh t ot tD tw hot)
  refine wpAny_bind (wpAny_holding ?_)
  refine wpAny_bind (wpAny_tryCatch ?_)
  unfold Builtin.Dict.pairItems
  refine wpAny_bind (wpAny_typeOf (T:="tuple") ⟨ot,hot1,hct⟩ ?_)
  rw[if_pos (by decide)]
  refine wpAny_bind (wpAny_seqItems hot1 hdt (wpAny_pure ?_))
  show wpAny _ _ (holding [kv i,vv i] (dictSet D (kv i) (vv i))) _ _ _
  have hD1:h1.DictOf (L2.mixKind prog w) D kvs:=by
   obtain⟨o,es,ep,ho,r⟩:=hD
   exact⟨o,es,ep,hm D o hDw ho,r⟩
  refine wpAny_holding (wpAny_dictSet_pairs (s:={s with heap:=h1,toks:=tk}) (hkey i hlt) hD1 (λh2 hD2 hs2=> ?_) (by omega))
  have st2:St (i+1) h2:=W.frame _ _ _ hst' λb hb o e=>(hs2.2 b λz=>hDf (z▸hb)).trans e
  have e1:((i:Nat):Int)+1=((i+1:Nat):Int):=by omega
  refine wpAny_pure ⟨plainId_quiet plain_loop _,?_⟩
  show codeAny _ _ (.builtin "dict.update.loop" ⟨[.ref D,.ref I,rawInt (((i:Nat):Int)+1),.none],[]⟩) _ _
  rw[e1]
  refine ih (i+1) _ _ (by omega) hlt st2 hD2 ?_ (λb o hb hb' e=>(hs2.2 b hb).trans (hm b o hb' (hh b o hb hb' e))) λh' tk' hD' hk'=> ?_
  .have:=stored_length_le kvs (key i) (vv i)
   omega
  .refine hR h' tk' ?_ λb o hb hb' e=>hk' b o hb hb' ((hs2.2 b hb).trans (hm b o hb' e))
   have e2:(List.range n).drop i=i::(List.range n).drop (i+1):=by
    rw[List.drop_eq_getElem_cons (by simpa using hlt)]
    simp
   rw[e2,List.foldl_cons]
   exact hD'
end
end DP
namespace L2
open PySem PySem.Spec PyProof.Rows
def putAll(ps:List (Key×V)):List (Key×V):=ps.foldl (λacc p=>putK acc p.1 p.2) []
theorem putAll_len(ps acc:List (Key×V)):(ps.foldl (λacc p=>putK acc p.1 p.2) acc).length≤acc.length+ps.length:=by
 induction ps generalizing acc with
 |nil=>simp
 |cons p r ih=>
  rw[List.foldl_cons,List.length_cons]
  refine Nat.le_trans (ih _) ?_
  have:(putK acc p.1 p.2).length≤acc.length+1:=by
   unfold putK
   split
   .rw[List.length_map];omega
   .rw[List.length_append];simp
  omega
theorem kv_fold{ps:List (Key×V)}{n:Nat}{key:Nat->Key}{vv:Nat->Value}(hn:n=ps.length)(h:∀i p,ps[i]? =some p->key i=p.1∧RelV p.2 (vv i)):KV (putAll ps) ((List.range n).foldl (λacc j=>stored acc (key j) (vv j)) []):=by
 subst hn
 unfold putAll
 have gen:∀(m:Nat),m≤ps.length->KV ((ps.take m).foldl (λacc p=>putK acc p.1 p.2) []) ((List.range m).foldl (λacc j=>stored acc (key j) (vv j)) []):=λm=>by
  induction m with
  |zero=>intro _;simp;exact .nil
  |succ m ih=>
   intro hm
   have e:ps[m]? =some (ps[m]'(by omega)):=List.getElem?_eq_getElem (by omega)
   obtain⟨h1,h2⟩:=h m _ e
   rw[List.take_add_one,e,List.range_succ,List.foldl_append,List.foldl_append]
   simp only[Option.toList_some,List.foldl_cons,List.foldl_nil]
   rw[h1]
   exact KV.put (ih (by omega)) _ h2
 have:=gen ps.length (Nat.le_refl _)
 rwa [List.take_length] at this
section
variable{X:Cx}
def Pairs(K:PySem.W.Frag)(H:Hp)(ts:List V)(ps:List (Key×V)):Prop:=ts.length=ps.length∧∀(i:Nat) (x:V) (p:Key×V),ts[i]? =some x->ps[i]? =some p->∃t,x= .ref t∧SqT K H t [kV p.1,p.2]
theorem call_dictP(hc:X.calm=true):CallR X (.type "dict") (λxs H Q=>∃(p:Addr) (ts:List V) (ps:List (Key×V)),xs=[.ref p]∧(H p=some (.lst ts)∨H p=some (.tup ts))∧Pairs X.K H ts ps∧ps.length≤1000∧∀d,H d=none->Q (.ref d) (upd H d (.dK (putAll ps)))):=by
 intro pins s σ H xs us Q I r h
 obtain⟨p,ts,ps,rfl,hp,hP,hl,q⟩:=h
 obtain⟨u,rfl,ru⟩:=vals1 r
 cases ru
 have hh:=I.ok.hd hc
 obtain⟨its,hv,hobj⟩:∃its:List Value,Vals ts its∧((∃n,s.heap.get? p=some {cls:= .type "list",data:= .seq its.toArray n})∨∃n,s.heap.get? p=some {cls:= .type "tuple",data:= .seq its.toArray n}):=by
  rcases hp with hp|hp
  .obtain⟨_,its,n,rv,e⟩:=(show ObjOk X.prog X.w H s.heap p (.lst ts) from I.hok p _ hp)
   exact⟨its,rv,.inl ⟨n,e⟩⟩
  .obtain⟨its,n,rv,e,_⟩:=I.tupleO hp
   exact⟨its,rv,.inr ⟨n,e⟩⟩
 have hlen:its.length=ps.length:=by rw[←hv.length];exact hP.1
 have plt:p<s.heap.objs.size:=by rcases hobj with⟨_,e⟩|⟨_,e⟩<;>exact Heap.lt_size e
 have pair:∀i,i<ps.length->∃t k v,its[i]? =some (.ref t)∧IsTup s.heap t #[k,v]∧∃p,ps[i]? =some p∧RelV (kV p.1) k∧RelV p.2 v:=λi hi=>by
  have e1:ps[i]? =some (ps[i]'hi):=List.getElem?_eq_getElem hi
  have e2:ts[i]? =some (ts[i]'(by rw[hP.1];exact hi)):=List.getElem?_eq_getElem _
  obtain⟨t,ex,hq⟩:=hP.2 i _ _ e2 e1
  obtain⟨u,hu,ru⟩:=hv.get e2
  rw[ex] at ru
  cases ru
  obtain⟨its2,r2,p2,_⟩:=I.tuple hq
  obtain⟨k,v,rfl,rk,rv⟩:=vals2 r2
  exact⟨t,k,v,hu,p2,_,e1,rk,rv⟩
 let kk:Nat->Value:=λi=>match its[i]? with|some (.ref t)=>(match s.heap.get? t with|some o=>(match o.data with| .seq a _=>a.getD 0 .none|_=> .none)|none=> .none)|_=> .none
 let vv:Nat->Value:=λi=>match its[i]? with|some (.ref t)=>(match s.heap.get? t with|some o=>(match o.data with| .seq a _=>a.getD 1 .none|_=> .none)|none=> .none)|_=> .none
 let key:Nat->Key:=λi=>((ps[i]?).map (·.1)).getD (.inl 0)
 have pair2:∀i,i<ps.length->∃t p,its[i]? =some (.ref t)∧IsTup s.heap t #[kk i,vv i]∧ps[i]? =some p∧key i=p.1∧RelV (kV p.1) (kk i)∧RelV p.2 (vv i):=λi hi=>by
  obtain⟨t,k,v,e1,ht,pp,e2,rk,rv⟩:=pair i hi
  obtain⟨o,ho,hcl,n,hd⟩:=id ht
  have ek:kk i=k:=by simp only[kk,e1,ho,hd];rfl
  have ev:vv i=v:=by simp only[vv,e1,ho,hd];rfl
  have ey:key i=pp.1:=by simp only[key,e2];rfl
  rw[ek,ev,ey]
  exact⟨t,pp,e1,ht,e2,rfl,rk,rv⟩
 have hsz:ps.length≤sizeLine:=Nat.le_trans hl (by decide)
 refine callType_codes (Q₁:=λobj s₁=>obj= .ref s.heap.objs.size∧s₁={s with heap:=s.heap.push {cls:= .type "dict",data:= .dict #[]}}) PySem.F.kt_called_dict (PySem.F.kt_typeCall_dict_1 _) PySem.F.entry_dict_init (kt_code_dict_new _ ⟨rfl,rfl⟩) ?_
 rintro obj s₁ ⟨rfl,rfl⟩
 have hnew:(s.heap.push {cls:= .type "dict",data:= .dict #[]}).DictOf (mixKind X.prog X.w) s.heap.objs.size []:=Heap.DictOf.new s.heap
 refine⟨hnew.typeIs,PySem.F.args_dict_init_2 _ _,?_⟩
 unfold Builtin.«dict.__init__»
 refine wpAny_bind ?_
 unfold Builtin.Dict.selfAndRest
 refine wpAny_bind (wpAny_notOrdered_dict hnew.typeIs ?_)
 show wpAny _ _ (pure (s.heap.objs.size,[Value.ref p])) _ _ _
 refine wpAny_pure ?_
 show wpAny _ _ (Builtin.Dict.updateFrom "dict.__init__" s.heap.objs.size (.ref p) [] .none) _ _ _
 unfold Builtin.Dict.updateFrom
 have k0:∀b o,s.heap.get? b=some o->(s.heap.push {cls:= .type "dict",data:= .dict #[]}).get? b=some o:=λb o e=>Heap.get?_push_of_some _ e
 have pD:p≠s.heap.objs.size:=Nat.ne_of_lt plt
 have go:∀(h1:Heap) (tk:Nat) (I':Addr) (fp:List Addr) (St:Nat->Heap->Prop),(∀b o,(s.heap.push {cls:= .type "dict",data:= .dict #[]}).get? b=some o->h1.get? b=some o)->s.heap.objs.size<I'->
   Walks X.prog X.w X.A.in1.in1 I' fp [I'] its.length (λi v=>its.toArray[i]? =some v) St->St 0 h1->s.heap.objs.size∉fp->
   codeAny (model X.prog X.w) X.A.in1 (.builtin "dict.update.loop" ⟨[.ref s.heap.objs.size,.ref I',rawInt 0,.none],[]⟩) (wants (λr s₂=>r= .none∧EP X pins σ Q (.ref s.heap.objs.size) s₂) X.xe) {s with heap:=h1,toks:=tk}:=by
  intro h1 tk I' fp St k1 hI W st0 hDf
  have hD1:h1.DictOf (mixKind X.prog X.w) s.heap.objs.size []:=by
   obtain⟨o,es,ep,ho,r⟩:=hnew
   exact⟨o,es,ep,k1 _ o ho,r⟩
  refine DP.loop W s.heap.objs.size hDf s.heap key kk vv (λi v hi hv'=> ?_) (λi hi=> ?_) (by rw[hlen];exact hsz) its.length 0 _ [] rfl (Nat.zero_le _) st0 hD1 (Nat.zero_le _) (λb o _ _ e=>k1 b o (k0 b o e)) λh2 tk2 hD2 k2=> ?_
  .obtain⟨t,pp,e1,ht,_⟩:=pair2 i (by rw[←hlen];exact hi)
   have e:its[i]? =some v:=by simpa using hv'
   rw[e1] at e
   cases e
   have tlt:t<s.heap.objs.size:=ht.lt
   exact⟨t,rfl,Nat.ne_of_lt tlt,by simp only[List.mem_singleton];exact Nat.ne_of_lt (Nat.lt_trans tlt hI),ht⟩
  .obtain⟨t,pp,e1,ht,e2,ek,rk,rv⟩:=pair2 i (by rw[←hlen];exact hi)
   rw[ek]
   exact kV_is rk
  .have hn:H s.heap.objs.size=none:=I.hok.fresh (Nat.le_refl _)
   have kk2:∀b o,s.heap.get? b=some o->h2.get? b=some o:=λb o e=>by
    have hb:b<s.heap.objs.size:=Heap.lt_size e
    exact k2 b o (Nat.ne_of_lt hb) (by simp only[List.mem_singleton];exact Nat.ne_of_lt (Nat.lt_trans hb hI)) (k1 b o (k0 b o e))
   rw[List.drop_zero,hlen] at hD2
   have hkv:KV (putAll ps) ((List.range ps.length).foldl (λacc j=>stored acc (key j) (vv j)) []):=kv_fold rfl λi pp e=>by
    obtain⟨t,pp',e1,ht,e2,ek,rk,rv⟩:=pair2 i (List.getElem?_eq_some_iff.mp e).1
    rw[e] at e2
    cases e2
    exact⟨ek,rv⟩
   have hns:(s.heap.objs.size==sysModules)=false:=beq_false_of_ne (Nat.ne_of_gt I.big)
   refine⟨rfl,.ref s.heap.objs.size,_,I.laid (t':=tk2) (o:= .dK (putAll ps)) kk2 (Nat.le_refl _) ⟨?_,hns,_,hkv,hD2⟩,rfl,q _ hn⟩
   have:=putAll_len ps []
   unfold putAll
   simp only[List.length_nil,Nat.zero_add] at this
   omega
 rcases hobj with⟨n,e⟩|⟨n,e⟩
 .have e':=k0 _ _ e
  refine wpAny_bind (wpAny_typeOf (T:="list") ⟨_,e',rfl⟩ ?_)
  rw[if_pos (by decide)]
  refine wpAny_bind (DP.nokeys_list (s:={s with heap:=s.heap.push {cls:= .type "dict",data:= .dict #[]}}) e' hh λh1 tk1 k1=> ?_)
  rw[if_pos (show(none:Option Value).isNone=true from rfl)]
  refine wpAny_bind (wpAny_rule ?_)
  have hl1:h1.IsList p its.toArray:=⟨_,k1 _ _ e',rfl,n,rfl⟩
  have plt1:p<h1.objs.size:=Heap.lt_size (k1 _ _ e')
  have dlt1:s.heap.objs.size<h1.objs.size:=by obtain⟨o,_,_,ho,_⟩:=hnew;exact Heap.lt_size (k1 _ _ ho)
  refine wpAny_bind (wpAny_pyIter_list (s:={s with heap:=h1,toks:=tk1}) hl1 ?_)
  have W:=Walks.list (prog:=X.prog) (w:=X.w) (A:=X.A.in1.in1) hh h1.objs.size p (Nat.ne_of_lt plt1) its.toArray
  rw[List.size_toArray] at W
  refine wpAny_pure ⟨plainId_quiet DP.plain_loop _,go _ _ _ _ _ (λb o q=>Heap.get?_push_of_some _ (k1 b o q)) dlt1 W ⟨⟨_,Heap.get?_push_size _ rfl,rfl,rfl⟩,hl1.push _⟩ ?_⟩
  simp only[List.mem_cons,List.not_mem_nil,or_false,not_or]
  exact⟨Nat.ne_of_lt dlt1,Ne.symm pD⟩
 .have e':=k0 _ _ e
  refine wpAny_bind (wpAny_typeOf (T:="tuple") ⟨_,e',rfl⟩ ?_)
  rw[if_pos (by decide)]
  refine wpAny_bind (DP.nokeys_tuple (s:={s with heap:=s.heap.push {cls:= .type "dict",data:= .dict #[]}}) e' hh λh1 tk1 k1=> ?_)
  rw[if_pos (show(none:Option Value).isNone=true from rfl)]
  refine wpAny_bind (wpAny_rule ?_)
  have hl1:h1.IsTuple p its.toArray:=⟨_,k1 _ _ e',rfl,n,rfl⟩
  have plt1:p<h1.objs.size:=Heap.lt_size (k1 _ _ e')
  have dlt1:s.heap.objs.size<h1.objs.size:=by obtain⟨o,_,_,ho,_⟩:=hnew;exact Heap.lt_size (k1 _ _ ho)
  refine wpAny_bind (wpAny_pyIter_tuple (s:={s with heap:=h1,toks:=tk1}) hl1 ?_)
  have W:=Walks.tuple (prog:=X.prog) (w:=X.w) (A:=X.A.in1.in1) hh h1.objs.size p (Nat.ne_of_lt plt1) its.toArray
  rw[List.size_toArray] at W
  refine wpAny_pure ⟨plainId_quiet DP.plain_loop _,go _ _ _ _ _ (λb o q=>Heap.get?_push_of_some _ (k1 b o q)) dlt1 W ⟨⟨_,Heap.get?_push_size _ rfl,rfl,rfl⟩,hl1.push _⟩ ?_⟩
  simp only[List.mem_cons,List.not_mem_nil,or_false,not_or]
  exact⟨Nat.ne_of_lt dlt1,Ne.symm pD⟩
end
end L2
namespace L2
open PySem PySem.Spec PyProof.Rows
section
variable{X:Cx}
end
end L2
namespace PySem
open Sem (wp)
open AutoSeq1 (wpAny_loadPart')
namespace ZL
section
variable{prog:Program}{w:World}{A:Around}{E:Value->Shared->Prop}{s:Shared}{z TI TO i1 i2 l1 l2:Addr}{xs ys:Array Value}
end
section
variable{prog:Program}{w:World}{A:Around}{E:Value->Shared->Prop}{s:Shared}
end
end ZL
end PySem
namespace L2
open PySem PySem.Spec PyProof.Rows
section
variable{X:Cx}
end
theorem strs_pt:∀{vs:List Value} {ss:List Str},vs.length=ss.length->(∀(i:Nat) v x,vs[i]? =some v->ss[i]? =some x->∃t,v=Value.str x t)->StrsAre vs ss
 |[],[],_,_=> .nil
 |v::vs,x::ss,hl,h=>by
  obtain⟨t,rfl⟩:=h 0 v x rfl rfl
  exact .cons x t (strs_pt (by simpa using hl) λi v' x' e1 e2=>h (i+1) v' x' (by simpa using e1) (by simpa using e2))
theorem KV.at{kvs:List (Key×V)}{vs:List (Key×Value)}(r:KV kvs vs):∀{i:Nat} {q:Key×Value},vs[i]? =some q->∃p,kvs[i]? =some p∧p.1=q.1∧RelV p.2 q.2:=by
 induction r with
 |nil=>intro i q h;simp at h
 |cons h1 h2 ih=>
  intro i q h
  cases i with
  |zero=>simp at h;subst h;exact⟨_,rfl,h1⟩
  |succ i=>exact ih (by simpa using h)
theorem KV.len{kvs:List (Key×V)}{vs:List (Key×Value)}(r:KV kvs vs):kvs.length=vs.length:=by
 induction r with
 |nil=>rfl
 |cons h1 h2 ih=>simp[ih]
section
variable{X:Cx}
theorem Inv.manyF{pins:List (Addr×Obj)}{σ:St}{H H':Hp}{s:Shared}{h':Heap}{t':Nat}(I:Inv X pins σ H s)(kp:∀b o,s.heap.get? b=some o->h'.get? b=some o)(hs:Same H H')
  (hnew:∀b o,H' b=some o->H b=some o∨((∀u,s.heap.get? b≠some u)∧ObjOk X.prog X.w H' h' b o)):Inv X pins σ H' {s with heap:=h',toks:=t'}:=by
 refine I.un (h':=h') (t':=t') ⟨λb o q _ _ _=>kp b o q,λb o q _ _ _=>⟨o.slots,kp b o q⟩,λb o q n _=> ?_,λb o q _=>⟨o,kp b o q⟩,λb xs q=>hs _ _ q,λb o u q=>hs _ _ q,λb ps q=>⟨#[],by rw[hs _ _ q];simp⟩⟩ λb o q=> ?_
 .cases e:H' b with
  |none=>rfl
  |some u=>
   rcases hnew b u e with z|⟨z,_⟩
   .rw[n] at z;cases z
   .exact absurd q (z _)
 .rcases hnew b o q with z|⟨_,z⟩
  .exact(I.hok b o z).stay (λc v _ r=>kp c v r) (λc r=>hs _ _ r) λc xs r=>hs _ _ r
  .exact z
theorem call_sortD(hc:X.calm=true):CallR X (.builtin "sorted") (λxs H Q=>∃(d:Addr) (kvs:List (Key×V)) (ns:List Str),xs=[.ref d]∧H d=some (.dK kvs)∧kvs.map (·.1)=ns.map Sum.inr∧ns.Nodup∧ns.length<64∧
  ∀(l:Addr) (ys:List Str),H l=none->ys.Pairwise strLt->(∀x,x∈ys↔x∈ns)->Q (.ref l) (upd H l (.lst (ys.map V.str)))):=by
 intro pins s σ H xs us Q I r h
 obtain⟨d,kvs,ns,rfl,hd,hk,hnd,h64,q⟩:=h
 obtain⟨u,rfl,ru⟩:=vals1 r
 cases ru
 obtain⟨hz,hs,vs,rel,dd⟩:=(show ObjOk X.prog X.w H s.heap d (.dK kvs) from I.hok d _ hd)
 obtain⟨ep,hat⟩:=dd.dictAt
 have hlen:kvs.length=ns.length:=by
  have:=congrArg List.length hk
  simpa using this
 have hlv:vs.length=ns.length:=by rw[←rel.len,hlen]
 refine Calls.call_function_entry kind_sorted plain_sorted entry_sorted (args_sorted1 _) ?_
 unfold Builtin.«sorted»
 refine wpAny_bind (m:=checkCount "sorted" 1 1 _) (wpAny_pure ?_)
 refine wpAny_bind (PySem.W.kdu_collect (A:=X.A.in1) (PySem.W.kdl_dict (knd:=mixKind X.prog X.w) (kvs:=vs) (ep:=ep) hs) (I.ok.hd hc) hat (by rw[hlv];omega) λh1 tk acc k1 hacc=> ?_)
 have hst:StrsAre acc.toList ns:=by
  refine strs_pt (by rw[Array.length_toList,hacc.1,hlv]) λi v x e1 e2=> ?_
  rw[Array.getElem?_toList] at e1
  obtain⟨k,y,e3,e4⟩:=hacc.2 i v e1
  obtain⟨p,e5,e6,_⟩:=rel.at e3
  have e7:(kvs.map (·.1))[i]? =some k:=by rw[List.getElem?_map,e5];exact congrArg some e6
  rw[hk,List.getElem?_map,e2] at e7
  have e8:k=Sum.inr x:=(Option.some.inj e7).symm
  rw[e8] at e4
  rcases keyIs_shape (show keyIs (Sum.inr x) v=true from e4) with⟨_,_,z,_⟩|⟨x',t,z,z2⟩
  .cases z
  .cases z;exact⟨t,z2⟩
 have hl2:acc.toList.length<64:=by rw[Array.length_toList,hacc.1,hlv];exact h64
 refine wpAny_bind (wpAny_newList ?_)
 have hoL:(h1.push (seqObj "list" acc.toList.toArray 0)).get? h1.objs.size=some (seqObj "list" acc.toList.toArray 0):=Heap.get?_push_size _ rfl
 show wpAny _ _ _ _ _ {s with heap:=h1.push (seqObj "list" acc.toList.toArray 0),toks:=tk}
 refine wpAny_bind (wpAny_holding (wpAny_call_entry slot_list_sort ⟨_,hoL,rfl⟩ entry_list_sort (list_sort_treeK strKind_oneLt hoL hst.keysOf (λv₁ v₂ rest e=>keyKind_strs (by rw[←e];exact hst)) hl2 λst' a1 a2=>⟨_,rfl,?_⟩) (args_list_sort _)))
 obtain⟨ss',q1,q2,q3⟩:=sorted_out_str hst a1 a2
 obtain⟨e,he⟩:=sortedHeap_at (out:=(arrOf st').map (·.2)) hoL
 have kp:∀b o,s.heap.get? b=some o->(sortedHeap (h1.push (seqObj "list" acc.toList.toArray 0)) h1.objs.size acc.toList ((arrOf st').map (·.2))).get? b=some o:=λb o q=>by
  have hb:=k1 b o q
  rw[sortedHeap_old (Nat.ne_of_lt (Heap.lt_size hb)) (by rw[size_push'];exact Nat.lt_succ_of_lt (Heap.lt_size hb))]
  exact Heap.get?_push_of_some _ hb
 have hfr:∀u,s.heap.get? h1.objs.size≠some u:=λu z=>Nat.lt_irrefl _ (Heap.lt_size (k1 _ _ z))
 have hn:H h1.objs.size=none:=by
  cases e0:H h1.objs.size with
  |none=>rfl
  |some o=>
   obtain⟨u,z⟩:=(I.hok _ _ e0).obj
   exact absurd z (hfr u)
 refine wpAny_pure ⟨_,rfl,.ref h1.objs.size,upd H h1.objs.size (.lst (ss'.map V.str)),?_,rfl,q _ ss' hn (strictly (sorted_pw q3) (q2.nodup_iff.mpr hnd)) λx=>q2.mem_iff⟩
 refine I.manyF (t':=tk) kp (Same.new hn _) λb o eb=> ?_
 by_cases hb:b=h1.objs.size
 .subst hb
  rw[upd_same] at eb
  cases eb
  refine .inr ⟨hfr,?_⟩
  refine⟨by rw[List.length_map,q2.length_eq];exact Nat.le_of_lt (Nat.lt_of_lt_of_le h64 (by decide)),((arrOf st').map (·.2)).toList,e,vals_strs q1,?_⟩
  rw[Array.toArray_toList]
  exact he
 .rw[upd_ne hb] at eb
  exact .inl eb
end
end L2
namespace L2
open PySem PySem.Spec PyProof.Rows
section
variable{X:Cx}
end
end L2
namespace MA
namespace Mob
variable{N:Type}
end Mob
end MA
namespace MA
end MA
namespace DP
open PySem PySem.Spec PyProof.Rows L2
inductive D where
 |non|bl (b:Bool)|int (i:Int)|str (x:Str)|tup (xs:List D)|ref (r:Nat)|fl (xs:List Int)|exc (c:Str)
inductive C where
 |lst (xs:List D)|dct (kvs:List (Key×D))|fdc (o:Obj) (kvs:List (Key×D))|ins (cl:Str) (fs:List (Str×D))
abbrev Ar:=List C
abbrev Io:=Nat->Addr
section
variable(mg:Str->Option Value)
mutual
def RV(ι:Io)(n:Nat)(H:Hp):D->V->Prop
 | .non,v=>v= .non
 | .bl b,v=>v= .bl b
 | .int i,v=>v= .int i
 | .str x,v=>v= .str x
 | .tup ds,v=>∃a xs,v= .ref a∧H a=some (.tup xs)∧RVs ι n H ds xs
 | .ref r,v=>r<n∧v= .ref (ι r)
 | .fl ns,v=>∃a o,v= .ref a∧H a=some (.frz o (.lst (ns.map V.int)))
 | .exc c,v=>∃a C,v= .ref a∧mg c=some (.ref C)∧H a=some (excO a C)
def RVs(ι:Io)(n:Nat)(H:Hp):List D->List V->Prop
 |[],xs=>xs=[]
 |d::ds,xs=>∃x r,xs=x::r∧RV ι n H d x∧RVs ι n H ds r
end
def RK(ι:Io)(n:Nat)(H:Hp):List (Key×D)->List (Key×V)->Prop
 |[],xs=>xs=[]
 |p::ds,xs=>∃x r,xs=(p.1,x)::r∧RV mg ι n H p.2 x∧RK ι n H ds r
def RF(ι:Io)(n:Nat)(H:Hp):List (Str×D)->List (Str×V)->Prop
 |[],xs=>xs=[]
 |p::ds,xs=>∃x r,xs=(p.1,x)::r∧RV mg ι n H p.2 x∧RF ι n H ds r
def CO(ι:Io)(n:Nat)(H:Hp)(a:Addr):C->Prop
 | .lst ds=>∃xs,H a=some (.lst xs)∧RVs mg ι n H ds xs
 | .dct kvs=>∃xs,H a=some (.dK xs)∧RK mg ι n H kvs xs
 | .fdc o kvs=>∃xs,H a=some (.frz o (.dK xs))∧RK mg ι n H kvs xs
 | .ins cl fs=>∃Cc dx xs,mg cl=some (.ref Cc)∧H a=some (.ins Cc dx xs)∧RF mg ι n H fs xs
structure RA(ι:Io)(H:Hp)(A:Ar):Prop where
 cel:∀r c,A[r]? =some c->CO mg ι A.length H (ι r) c
 inj:∀r q,r<A.length->q<A.length->ι r=ι q->r=q
end
def mutO:HO->Bool
 | .lst _| .dK _| .frz _ (.dK _)| .ins _ _ _=>true
 |_=>false
structure Ext(A:Ar)(ι:Io)(H:Hp)(A':Ar)(ι':Io)(H':Hp):Prop where
 len:A.length≤A'.length
 ag:∀r,r<A.length->ι' r=ι r
 im:∀r,r<A.length->∃o,H (ι r)=some o∧mutO o=true
 mo:∀b o,H b=some o->(∀r,r<A.length->ι r≠b)->H' b=some o
 nw:∀r,A.length≤r->r<A'.length->H (ι' r)=none
 al:∀b o,H b=some o->∃o',H' b=some o'
theorem Ext.fix{A A':Ar}{ι ι':Io}{H H':Hp}(e:Ext A ι H A' ι' H'){b:Addr}{o:HO}(hm:mutO o=false)(h:H b=some o):H' b=some o:=e.mo b o h λr hr z=>by
 obtain⟨u,h1,h2⟩:=e.im r hr
 rw[z,h] at h1;cases h1;rw[hm] at h2;cases h2
theorem Ext.trans{A A1 A2:Ar}{ι ι1 ι2:Io}{H H1 H2:Hp}(a:Ext A ι H A1 ι1 H1)(b:Ext A1 ι1 H1 A2 ι2 H2):Ext A ι H A2 ι2 H2 where
 len:=Nat.le_trans a.len b.len
 ag:=λr h=>(b.ag r (Nat.lt_of_lt_of_le h a.len)).trans (a.ag r h)
 im:=a.im
 mo:=λc o h hn=>b.mo c o (a.mo c o h hn) λr hr z=>by
  by_cases hl:r<A.length
  .rw[a.ag r hl] at z;exact hn r hl z
  .have:=a.nw r (by omega) hr
   rw[z,h] at this;cases this
 nw:=λr h1 h2=>by
  by_cases hl:r<A1.length
  .rw[b.ag r hl];exact a.nw r h1 hl
  .have n1:=b.nw r (by omega) h2
   cases q:H (ι2 r) with
   |none=>rfl
   |some o=>
    obtain⟨o',h'⟩:=a.al _ o q
    rw[h'] at n1;cases n1
 al:=λc o h=>by
  obtain⟨o1,h1⟩:=a.al c o h
  exact b.al c o1 h1
section
variable{mg:Str->Option Value}{A A':Ar}{ι ι':Io}{H H':Hp}
section
variable{n n':Nat}
mutual
theorem RV.ag(hn:n≤n')(hι:∀r,r<n->ι' r=ι r)(hf:∀b o,mutO o=false->H b=some o->H' b=some o):∀(d:D) (v:V),RV mg ι n H d v->RV mg ι' n' H' d v
 | .non,_,h=>h
 | .bl _,_,h=>h
 | .int _,_,h=>h
 | .str _,_,h=>h
 | .tup ds,v,h=>by
  obtain⟨a,xs,e1,e2,e3⟩:=h
  exact⟨a,xs,e1,hf _ _ rfl e2,RVs.ag hn hι hf ds xs e3⟩
 | .ref r,v,h=>⟨Nat.lt_of_lt_of_le h.1 hn,by rw[hι r h.1];exact h.2⟩
 | .fl ns,v,h=>by
  obtain⟨a,o,e1,e2⟩:=h
  exact⟨a,o,e1,hf _ _ rfl e2⟩
 | .exc c,v,h=>by
  obtain⟨a,C,e1,e2,e3⟩:=h
  exact⟨a,C,e1,e2,hf _ _ rfl e3⟩
theorem RVs.ag(hn:n≤n')(hι:∀r,r<n->ι' r=ι r)(hf:∀b o,mutO o=false->H b=some o->H' b=some o):∀(ds:List D) (vs:List V),RVs mg ι n H ds vs->RVs mg ι' n' H' ds vs
 |[],_,h=>h
 |d::ds,vs,h=>by
  obtain⟨x,r,e1,e2,e3⟩:=h
  exact⟨x,r,e1,RV.ag hn hι hf d x e2,RVs.ag hn hι hf ds r e3⟩
end
theorem RK.ag(hn:n≤n')(hι:∀r,r<n->ι' r=ι r)(hf:∀b o,mutO o=false->H b=some o->H' b=some o):∀(ds:List (Key×D)) (vs:List (Key×V)),RK mg ι n H ds vs->RK mg ι' n' H' ds vs
 |[],_,h=>h
 |d::ds,vs,h=>by
  obtain⟨x,r,e1,e2,e3⟩:=h
  exact⟨x,r,e1,RV.ag hn hι hf _ x e2,RK.ag hn hι hf ds r e3⟩
theorem RF.ag(hn:n≤n')(hι:∀r,r<n->ι' r=ι r)(hf:∀b o,mutO o=false->H b=some o->H' b=some o):∀(ds:List (Str×D)) (vs:List (Str×V)),RF mg ι n H ds vs->RF mg ι' n' H' ds vs
 |[],_,h=>h
 |d::ds,vs,h=>by
  obtain⟨x,r,e1,e2,e3⟩:=h
  exact⟨x,r,e1,RV.ag hn hι hf _ x e2,RF.ag hn hι hf ds r e3⟩
theorem CO.ag{a:Addr}(hn:n≤n')(hι:∀r,r<n->ι' r=ι r)(hf:∀b o,mutO o=false->H b=some o->H' b=some o)(ha:∀o,H a=some o->H' a=some o):∀(c:C),CO mg ι n H a c->CO mg ι' n' H' a c
 | .lst ds,h=>by
  obtain⟨xs,e1,e2⟩:=h
  exact⟨xs,ha _ e1,RVs.ag hn hι hf ds xs e2⟩
 | .dct ds,h=>by
  obtain⟨xs,e1,e2⟩:=h
  exact⟨xs,ha _ e1,RK.ag hn hι hf ds xs e2⟩
 | .fdc o ds,h=>by
  obtain⟨xs,e1,e2⟩:=h
  exact⟨xs,ha _ e1,RK.ag hn hι hf ds xs e2⟩
 | .ins cl ds,h=>by
  obtain⟨Cc,dx,xs,e0,e1,e2⟩:=h
  exact⟨Cc,dx,xs,e0,ha _ e1,RF.ag hn hι hf ds xs e2⟩
end
theorem RV.ext(e:Ext A ι H A' ι' H')(d:D)(v:V)(h:RV mg ι A.length H d v):RV mg ι' A'.length H' d v:=RV.ag e.len e.ag (λ_ _ m h=>e.fix m h) d v h
theorem RVs.ext(e:Ext A ι H A' ι' H')(d:List D)(v:List V)(h:RVs mg ι A.length H d v):RVs mg ι' A'.length H' d v:=RVs.ag e.len e.ag (λ_ _ m h=>e.fix m h) d v h
theorem RK.ext(e:Ext A ι H A' ι' H')(d:List (Key×D))(v:List (Key×V))(h:RK mg ι A.length H d v):RK mg ι' A'.length H' d v:=RK.ag e.len e.ag (λ_ _ m h=>e.fix m h) d v h
theorem CO.ext{a:Addr}(e:Ext A ι H A' ι' H')(ha:∀o,H a=some o->H' a=some o)(c:C)(h:CO mg ι A.length H a c):CO mg ι' A'.length H' a c:=CO.ag (a:=a) (H:=H) (H':=H') e.len e.ag (λ_ _ m h=>e.fix m h) ha c h
theorem RVs.length:∀{ds:List D} {vs:List V} {n:Nat},RVs mg ι n H ds vs->ds.length=vs.length
 |[],vs,_,h=>by have h':vs=[]:=h;rw[h'];rfl
 |d::ds,vs,n,h=>by
  obtain⟨x,r,rfl,_,e3⟩:=h
  simp[RVs.length e3]
theorem RVs.get:∀{ds:List D} {vs:List V} {n i:Nat} {d:D},RVs mg ι n H ds vs->ds[i]? =some d->∃v,vs[i]? =some v∧RV mg ι n H d v
 |[],_,_,_,_,_,e=>by simp at e
 |d::ds,vs,n,0,d',h,e=>by
  obtain⟨x,r,rfl,e2,_⟩:=h
  simp at e;subst e
  exact⟨x,rfl,e2⟩
 |d::ds,vs,n,i+1,d',h,e=>by
  obtain⟨x,r,rfl,_,e3⟩:=h
  obtain⟨v,h1,h2⟩:=RVs.get (i:=i) e3 (by simpa using e)
  exact⟨v,by simpa using h1,h2⟩
theorem RVs.app:∀{ds es:List D} {vs ws:List V} {n:Nat},RVs mg ι n H ds vs->RVs mg ι n H es ws->RVs mg ι n H (ds++es) (vs++ws)
 |[],_,vs,_,_,h,q=>by have h':vs=[]:=h;rw[h'];exact q
 |d::ds,es,vs,ws,n,h,q=>by
  obtain⟨x,r,rfl,e2,e3⟩:=h
  exact⟨x,r++ws,rfl,e2,RVs.app e3 q⟩
theorem RVs.take:∀{ds:List D} {vs:List V} {n:Nat} (k:Nat),RVs mg ι n H ds vs->RVs mg ι n H (ds.take k) (vs.take k)
 |ds,vs,n,0,h=>by simp[RVs]
 |[],vs,n,k+1,h=>by have h':vs=[]:=h;rw[h'];simp[RVs]
 |d::ds,vs,n,k+1,h=>by
  obtain⟨x,r,rfl,e2,e3⟩:=h
  exact⟨x,r.take k,rfl,e2,RVs.take k e3⟩
theorem RVs.drop:∀{ds:List D} {vs:List V} {n:Nat} (k:Nat),RVs mg ι n H ds vs->RVs mg ι n H (ds.drop k) (vs.drop k)
 |ds,vs,n,0,h=>by simpa using h
 |[],vs,n,k+1,h=>by have h':vs=[]:=h;rw[h'];simp[RVs]
 |d::ds,vs,n,k+1,h=>by
  obtain⟨x,r,rfl,e2,e3⟩:=h
  exact RVs.drop k e3
theorem RA.im(R:RA mg ι H A):∀r,r<A.length->∃o,H (ι r)=some o∧mutO o=true:=λr h=>by
 obtain⟨c',hc'⟩:∃c',A[r]? =some c':=⟨A[r],by rw[List.getElem?_eq_getElem h]⟩
 have:=R.cel r c' hc'
 cases c' with
 |lst ds=>obtain⟨xs,e1,_⟩:=this;exact⟨_,e1,rfl⟩
 |dct ds=>obtain⟨xs,e1,_⟩:=this;exact⟨_,e1,rfl⟩
 |fdc o ds=>obtain⟨xs,e1,_⟩:=this;exact⟨_,e1,rfl⟩
 |ins cl ds=>obtain⟨Cc,dx,xs,_,e1,_⟩:=this;exact⟨_,e1,rfl⟩
theorem RA.refl(R:RA mg ι H A):Ext A ι H A ι H:=⟨Nat.le_refl _,λ_ _=>rfl,R.im,λ_ _ h _=>h,λr h1 h2=>absurd h2 (by omega),λ_ o h=>⟨o,h⟩⟩
theorem RA.ext_fix(R:RA mg ι H A){p:Addr}{o:HO}(hp:H p=none):Ext A ι H A ι (upd H p o):=
 ⟨Nat.le_refl _,λ_ _=>rfl,R.im,λb u h _=>by rw[upd_ne (ne_of_none h hp)];exact h,λr h1 h2=>absurd h2 (by omega),λb u h=>⟨u,by rw[upd_ne (ne_of_none h hp)];exact h⟩⟩
theorem RA.ext_push(R:RA mg ι H A){p:Addr}{o:HO}{c:C}(hp:H p=none):Ext A ι H (A++[c]) (λr=>if r=A.length then p else ι r) (upd H p o):=
 ⟨by simp,λr h=>by
  show(if r=A.length then p else ι r)=ι r
  rw[if_neg (by omega)],R.im,λb u h _=>by rw[upd_ne (ne_of_none h hp)];exact h,λr h1 h2=>by
  have e:r=A.length:=by simp at h2;omega
  show H (if r=A.length then p else ι r)=none
  rw[if_pos e];exact hp,λb u h=>⟨u,by rw[upd_ne (ne_of_none h hp)];exact h⟩⟩
theorem RA.ext_put(R:RA mg ι H A){r:Nat}{o:HO}{c:C}(hr:r<A.length):Ext A ι H (A.set r c) ι (upd H (ι r) o):=
 ⟨by simp,λ_ _=>rfl,R.im,λb u h hn=>by rw[upd_ne (λe=>hn r hr e.symm)];exact h,λq h1 h2=>absurd h2 (by simp;omega),λb u h=>by
  by_cases hb:b=ι r
  .subst hb;exact⟨o,upd_same⟩
  .exact⟨u,by rw[upd_ne hb];exact h⟩⟩
theorem RA.fix(R:RA mg ι H A)(e:Ext A ι H A ι H')(k:∀b o,H b=some o->H' b=some o):RA mg ι H' A:=⟨λr c h=>CO.ext e (λo q=>k _ o q) c (R.cel r c h),R.inj⟩
theorem RA.push{p:Addr}{o:HO}{c:C}(R:RA mg ι H A)(hp:H p=none)(hc:CO mg (λr=>if r=A.length then p else ι r) (A.length+1) (upd H p o) p c):
  RA mg (λr=>if r=A.length then p else ι r) (upd H p o) (A++[c])∧Ext A ι H (A++[c]) (λr=>if r=A.length then p else ι r) (upd H p o):=by
 have E:Ext A ι H (A++[c]) (λr=>if r=A.length then p else ι r) (upd H p o):=R.ext_push hp
 have tr:∀r,r<A.length->∃u,H (ι r)=some u:=λr h=>by
  obtain⟨c',hc'⟩:∃c',A[r]? =some c':=⟨A[r],by rw[List.getElem?_eq_getElem h]⟩
  have:=R.cel r c' hc'
  cases c' with
  |lst ds=>obtain⟨xs,e1,_⟩:=this;exact⟨_,e1⟩
  |dct ds=>obtain⟨xs,e1,_⟩:=this;exact⟨_,e1⟩
  |fdc o ds=>obtain⟨xs,e1,_⟩:=this;exact⟨_,e1⟩
  |ins cl ds=>obtain⟨Cc,dx,xs,_,e1,_⟩:=this;exact⟨_,e1⟩
 refine⟨⟨λr c' h=> ?_,λr q hr hq h=> ?_⟩,E⟩
 .by_cases hr:r<A.length
  .rw[List.getElem?_append_left hr] at h
   have:=CO.ext E (a:=ι r) (λo' q=>by rw[upd_ne (ne_of_none q hp)];exact q) c' (R.cel r c' h)
   show CO mg _ _ _ (if r=A.length then p else ι r) c'
   rw[if_neg (by omega)]
   exact this
  .have hl:r=A.length:=by
    have:=(List.getElem?_eq_some_iff.mp h).1
    simp at this;omega
   subst hl
   simp at h;subst h
   show CO mg _ _ _ (if A.length=A.length then p else ι A.length) c
   rw[if_pos rfl]
   simpa using hc
 .simp at hr hq
  have h':(if r=A.length then p else ι r)=(if q=A.length then p else ι q):=h
  by_cases h1:r=A.length
  .by_cases h2:q=A.length
   .rw[h1,h2]
   .rw[if_pos h1,if_neg h2] at h'
    obtain⟨u,hu⟩:=tr q (by omega)
    rw[←h',hp] at hu;cases hu
  .by_cases h2:q=A.length
   .rw[if_neg h1,if_pos h2] at h'
    obtain⟨u,hu⟩:=tr r (by omega)
    rw[h',hp] at hu;cases hu
   .rw[if_neg h1,if_neg h2] at h'
    exact R.inj r q (by omega) (by omega) h'
theorem RA.put{r:Nat}{u o:HO}{c c':C}(R:RA mg ι H A)(hr:A[r]? =some c)(hu:H (ι r)=some u)(hm:mutO u=true)(hc:CO mg ι A.length (upd H (ι r) o) (ι r) c'):
  RA mg ι (upd H (ι r) o) (A.set r c')∧Ext A ι H (A.set r c') ι (upd H (ι r) o):=by
 have lr:=(List.getElem?_eq_some_iff.mp hr).1
 have E:Ext A ι H (A.set r c') ι (upd H (ι r) o):=R.ext_put lr
 refine⟨⟨λq d h=> ?_,λa b ha hb=>R.inj a b (by simpa using ha) (by simpa using hb)⟩,E⟩
 by_cases hq:q=r
 .subst hq
  rw[List.getElem?_set_self lr] at h
  cases h
  simpa using hc
 .rw[List.getElem?_set_ne (Ne.symm hq)] at h
  have lq:=(List.getElem?_eq_some_iff.mp h).1
  have:=CO.ext E (a:=ι q) (λo' z=>by rw[upd_ne (λe=>hq (R.inj q r lq lr e))];exact z) d (R.cel q d h)
  simpa using this
end
end DP
namespace DP
open PySem PySem.Spec PyProof.Rows L2
abbrev DSt:=List (Option D)
def lk:DSt->Nat->Option D
 |[],_=>none
 |x::_,0=>x
 |_::r,i+1=>lk r i
theorem lk_get:∀(τ:DSt) (i:Nat),lk τ i=(τ[i]?).join
 |[],i=>by simp[lk]
 |x::r,0=>by simp[lk]
 |x::r,i+1=>by simp[lk,lk_get r i]
structure En where
 A:Ar
 ι:Io
 H:Hp
structure RS(mg:Str->Option Value)(ι:Io)(n:Nat)(H:Hp)(τ:DSt)(σ:L2.St):Prop where
 len:τ.length=σ.length
 at':∀i d,lk τ i=some d->∃v,σ[i]? =some (some v)∧RV mg ι n H d v
structure Sim(mg:Str->Option Value)(N:En)(A:Ar)(ι:Io)(τ:DSt)(σ:L2.St)(H:Hp):Prop where
 ra:RA mg ι H A
 rs:RS mg ι A.length H τ σ
 ex:Ext N.A N.ι N.H A ι H
abbrev DK:=D->Ar->Prop
abbrev DTE:=DSt->Ar->DK->Prop
abbrev DTT:=DSt->Ar->(Bool->Ar->Prop)->Prop
abbrev DTA:=DSt->Ar->(List D->Ar->Prop)->Prop
def Kt(mg:Str->Option Value)(A:Ar)(ι:Io)(H:Hp)(R:DK)(Q:VK):Prop:=∀v A' ι' H' u,R v A'->Ext A ι H A' ι' H'->RA mg ι' H' A'->RV mg ι' A'.length H' v u->Q u H'
def KtB(mg:Str->Option Value)(A:Ar)(ι:Io)(H:Hp)(R:Bool->Ar->Prop)(Q:Bool->Hp->Prop):Prop:=∀v A' ι' H',R v A'->Ext A ι H A' ι' H'->RA mg ι' H' A'->Q v H'
def KtA(mg:Str->Option Value)(A:Ar)(ι:Io)(H:Hp)(R:List D->Ar->Prop)(Q:List V->Hp->Prop):Prop:=∀v A' ι' H' u,R v A'->Ext A ι H A' ι' H'->RA mg ι' H' A'->RVs mg ι' A'.length H' v u->Q u H'
def up(mg:Str->Option Value)(N:En)(m:DTE):TE:=λσ H Q=>∃A ι τ R,Sim mg N A ι τ σ H∧m τ A R∧Kt mg A ι H R Q
def upT(mg:Str->Option Value)(N:En)(m:DTT):TT:=λσ H Q=>∃A ι τ R,Sim mg N A ι τ σ H∧m τ A R∧KtB mg A ι H R Q
def upA(mg:Str->Option Value)(N:En)(m:DTA):TA:=λσ H Q=>∃A ι τ R,Sim mg N A ι τ σ H∧m τ A R∧KtA mg A ι H R Q
section
variable{mg:Str->Option Value}{N:En}{A A':Ar}{ι ι':Io}{τ:DSt}{σ:L2.St}{H H':Hp}
theorem RS.ext(e:Ext A ι H A' ι' H')(r:RS mg ι A.length H τ σ):RS mg ι' A'.length H' τ σ:=⟨r.len,λi d h=>by
 obtain⟨v,h1,h2⟩:=r.at' i d h
 exact⟨v,h1,RV.ext e d v h2⟩⟩
theorem Sim.next(S:Sim mg N A ι τ σ H)(e:Ext A ι H A' ι' H')(r:RA mg ι' H' A'):Sim mg N A' ι' τ σ H':=⟨r,S.rs.ext e,S.ex.trans e⟩
theorem Kt.from{R:DK}{Q:VK}(k:Kt mg A ι H R Q)(e:Ext A ι H A' ι' H'):Kt mg A' ι' H' R Q:=λv A2 ι2 H2 u q e2=>k v A2 ι2 H2 u q (e.trans e2)
theorem KtB.from{R:Bool->Ar->Prop}{Q:Bool->Hp->Prop}(k:KtB mg A ι H R Q)(e:Ext A ι H A' ι' H'):KtB mg A' ι' H' R Q:=λv A2 ι2 H2 q e2=>k v A2 ι2 H2 q (e.trans e2)
theorem Kt.here{R:DK}{Q:VK}{d:D}{v:V}(k:Kt mg A ι H R Q)(r:RA mg ι H A)(q:R d A)(h:RV mg ι A.length H d v):Q v H:=k d A ι H v q r.refl r h
theorem KtB.here{R:Bool->Ar->Prop}{Q:Bool->Hp->Prop}{b:Bool}(k:KtB mg A ι H R Q)(r:RA mg ι H A)(q:R b A):Q b H:=k b A ι H q r.refl r
end
section
variable{X:Cx}{e:Expr}
theorem de_w{t t':TE}(h:PE X e t)(w:∀σ H Q,t' σ H Q->t σ H Q):PE X e t':=λpins s σ H Q I q=>h pins s σ H Q I (w σ H Q q)
theorem dt_w{t t':TT}(h:PT X e t)(w:∀σ H Q,t' σ H Q->t σ H Q):PT X e t':=λpins s σ H Q I q=>h pins s σ H Q I (w σ H Q q)
theorem dw_w{t t':TT}(h:PW X e t)(w:∀σ H Q,t' σ H Q->t σ H Q):PW X e t':=λwhole pins s σ H Q I q=>h whole pins s σ H Q I (w σ H Q q)
theorem da_w{es:List Expr}{t t':TA}(h:PA X es t)(w:∀σ H Q,t' σ H Q->t σ H Q):PA X es t':=λpos pins s σ H Q I q=>h pos pins s σ H Q I (w σ H Q q)
theorem ds_w{st:Stmt}{t t':TS}(h:PS X st t)(w:∀D σ H,t' D σ H->t D σ H):PS X st t':=λpins s σ H D I q=>h pins s σ H D I (w D σ H q)
theorem dss_w{st:List Stmt}{t t':TS}(h:PSs X st t)(w:∀D σ H,t' D σ H->t D σ H):PSs X st t':=λpins s σ H D I q=>h pins s σ H D I (w D σ H q)
end
def dVar(i:Nat):DTE:=λτ A R=>match lk τ i with
 |some v=>R v A
 |none=>False
def dC(d:D):DTE:=λ_ A R=>R d A
section
variable{X:Cx}{N:En}{pos:Pos}
theorem de_var{i:Nat}{x:Str}(hN:X.N[i]? =some x)(hv:Vis X.env.scope x)(hd:(x==("__debug__" :Str))=false:=by decide)(hcd:(x==("__classdict__" :Str))=false:=by decide):PE X (.Name x pos) (up X.mg N (dVar i)):=
 de_w (pe_var hN hv hd hcd) λσ H Q h=>by
  obtain⟨A,ι,τ,R,S,h,k⟩:=h
  unfold dVar at h
  split at h
  .rename_i v e
   obtain⟨u,h1,h2⟩:=S.rs.at' i v e
   exact⟨u,h1,k.here S.ra h h2⟩
  .exact h.elim
theorem de_const{e:Expr}{d:D}{v:V}(h:PE X e (tC v))(r:∀ι n H,RV X.mg ι n H d v):PE X e (up X.mg N (dC d)):=
 de_w h λσ H Q h=>by
  obtain⟨A,ι,τ,R,S,h,k⟩:=h
  exact k.here S.ra h (r _ _ _)
theorem de_int{i j}:PE X (.Constant (.int i) j pos) (up X.mg N (dC (.int i))):=de_const pe_int λ_ _ _=>rfl
theorem de_bl{b j}:PE X (.Constant (.bool b) j pos) (up X.mg N (dC (.bl b))):=de_const pe_bl λ_ _ _=>rfl
theorem de_non{j}:PE X (.Constant .none j pos) (up X.mg N (dC .non)):=de_const pe_non λ_ _ _=>rfl
theorem de_str{x j}:PE X (.Constant (.str x) j pos) (up X.mg N (dC (.str x))):=de_const pe_str λ_ _ _=>rfl
theorem de_num{x:Str}{i:Int}{t:Tok}(hm:X.mg x=some (.int i t))(hg:Gl X x:=by rfl)(hd:(x==("__debug__" :Str))=false:=by decide):PE X (.Name x pos) (up X.mg N (dC (.int i))):=
 de_const (pe_glob (v:= .int i) hg hm ⟨_,rfl⟩ hd) λ_ _ _=>rfl
end
abbrev DOp:=D->D->Ar->DK->Prop
def OpD(mg:Str->Option Value)(r:R2)(f:DOp):Prop:=∀x y A ι H u v R Q,RA mg ι H A->RV mg ι A.length H x u->RV mg ι A.length H y v->f x y A R->Kt mg A ι H R Q->r u v H Q
def dOp(f:DOp)(ma mb:DTE):DTE:=λτ A R=>ma τ A λx A1=>mb τ A1 λy A2=>f x y A2 R
section
variable{X:Cx}{N:En}{pos:Pos}{a b c:Expr}{ma mb mc:DTE}{f f':DOp}{r r':R2}
theorem up_op(h:OpD X.mg r f){σ:L2.St}{H:Hp}{Q:VK}(q:up X.mg N (dOp f ma mb) σ H Q):tOp r (up X.mg N ma) (up X.mg N mb) σ H Q:=by
 obtain⟨A,ι,τ,R,S,q,k⟩:=q
 have q:ma τ A (λx A1=>mb τ A1 λy A2=>f x y A2 R):=q
 refine⟨A,ι,τ,_,S,q,λx A1 ι1 H1 u q1 e1 r1 v1=> ?_⟩
 refine⟨A1,ι1,τ,_,S.next e1 r1,q1,λy A2 ι2 H2 v q2 e2 r2 v2=> ?_⟩
 exact h x y A2 ι2 H2 u v R Q r2 (RV.ext e2 x u v1) v2 q2 (k.from (e1.trans e2))
theorem de_op{op:Operator}(ho:OpR X (binaryOp op) r)(hd:OpD X.mg r f)(ha:PE X a (up X.mg N ma))(hb:PE X b (up X.mg N mb)):PE X (.BinOp a op b pos) (up X.mg N (dOp f ma mb)):=
 de_w (pe_op ho ha hb) λ_ _ _ h=>up_op hd h
theorem de_cmp{op:CmpOp}(ho:OpR X (compareOp op) r)(hd:OpD X.mg r f)(ha:PE X a (up X.mg N ma))(hb:PE X b (up X.mg N mb))(hm:behindInMarks op b=false):PE X (.Compare a [op] [b] pos) (up X.mg N (dOp f ma mb)):=
 de_w (pe_cmpR ho ha hb hm) λ_ _ _ h=>up_op hd h
def dTest(m:DTE):DTT:=λτ A R=>m τ A λx A1=>match x with
 | .bl k=>R k A1
 |_=>False
theorem up_test{t:TE}{m:DTE}(ht:∀σ H Q,up X.mg N m σ H Q->t σ H Q){σ:L2.St}{H:Hp}{Q:Bool->Hp->Prop}(q:upT X.mg N (dTest m) σ H Q):tTest t σ H Q:=by
 obtain⟨A,ι,τ,R,S,q,k⟩:=q
 refine ht _ _ _ ⟨A,ι,τ,_,S,q,λx A1 ι1 H1 u q1 e1 r1 v1=> ?_⟩
 cases x with
 |bl b=>exact⟨b,v1,k b A1 ι1 H1 q1 e1 r1⟩
 |_=>exact q1.elim
theorem dt_cmp{op:CmpOp}(ho:OpR X (compareOp op) r)(hd:OpD X.mg r f)(ha:PE X a (up X.mg N ma))(hb:PE X b (up X.mg N mb))(hm:behindInMarks op b=false):PT X (.Compare a [op] [b] pos) (upT X.mg N (dTest (dOp f ma mb))):=
 dt_w (pt_cmpR ho ha hb hm) λ_ _ _ h=>up_test (λ_ _ _ h=>up_op hd h) h
def dChain(f f':DOp)(ma mb mc:DTE):DTE:=λτ A R=>ma τ A λx A1=>mb τ A1 λy A2=>f x y A2 λz A3=>match z with
 | .bl k=>cond k (mc τ A3 λw A4=>f' y w A4 R) (R (.bl false) A3)
 |_=>False
theorem up_chain(h:OpD X.mg r f)(h':OpD X.mg r' f'){σ:L2.St}{H:Hp}{Q:VK}(q:up X.mg N (dChain f f' ma mb mc) σ H Q):tChain r r' (up X.mg N ma) (up X.mg N mb) (up X.mg N mc) σ H Q:=by
 obtain⟨A,ι,τ,R,S,q,k⟩:=q
 refine⟨A,ι,τ,_,S,q,λx A1 ι1 H1 u q1 e1 r1 v1=> ?_⟩
 refine⟨A1,ι1,τ,_,S.next e1 r1,q1,λy A2 ι2 H2 v q2 e2 r2 v2=> ?_⟩
 refine h x y A2 ι2 H2 u v _ _ r2 (RV.ext e2 x u v1) v2 q2 λz A3 ι3 H3 w q3 e3 r3 v3=> ?_
 cases z with
 |bl b=>
  refine⟨b,v3,?_⟩
  cases b with
  |true=>
   rw[if_pos rfl]
   refine⟨A3,ι3,τ,_,((S.next e1 r1).next e2 r2).next e3 r3,q3,λz A4 ι4 H4 w q4 e4 r4 v4=> ?_⟩
   exact h' y z A4 ι4 H4 v w R Q r4 (RV.ext (e3.trans e4) y v v2) v4 q4 (k.from (((e1.trans e2).trans e3).trans e4))
  |false=>
   rw[if_neg Bool.false_ne_true]
   exact(k.from ((e1.trans e2).trans e3)).here r3 q3 rfl
 |_=>exact q3.elim
theorem de_chain{op op':CmpOp}(ho:OpR X (compareOp op) r)(ho':OpR X (compareOp op') r')(hd:OpD X.mg r f)(hd':OpD X.mg r' f')(ha:PE X a (up X.mg N ma))(hb:PE X b (up X.mg N mb))(hc:PE X c (up X.mg N mc))
  (hm:lastMarks [op,op'] [b,c]=false:=by with_unfolding_all rfl):PE X (.Compare a [op,op'] [b,c] pos) (up X.mg N (dChain f f' ma mb mc)):=
 de_w (pe_chain ho ho' ha hb hc hm) λ_ _ _ h=>up_chain hd hd' h
theorem dt_chain{op op':CmpOp}(ho:OpR X (compareOp op) r)(ho':OpR X (compareOp op') r')(hd:OpD X.mg r f)(hd':OpD X.mg r' f')(ha:PE X a (up X.mg N ma))(hb:PE X b (up X.mg N mb))(hc:PE X c (up X.mg N mc))
  (hm:lastMarks [op,op'] [b,c]=false:=by with_unfolding_all rfl):PT X (.Compare a [op,op'] [b,c] pos) (upT X.mg N (dTest (dChain f f' ma mb mc))):=
 dt_w (pt_chain ho ho' ha hb hc hm) λ_ _ _ h=>up_test (λ_ _ _ h=>up_chain hd hd' h) h
theorem dt_val{m:DTE}(h:PE X a (up X.mg N m))(he:∀whole,isTrue a X.env whole=(do let v ←whole;standAt a.pos;holding [v] (truthy v)):=by intro _;rfl):PT X a (upT X.mg N (dTest m)):=
 dt_w (pt_val h he) λ_ _ _ q=>up_test (λ_ _ _ h=>h) q
def dAnd(t u:DTT):DTT:=λτ A R=>t τ A λc A1=>cond c (u τ A1 R) (R false A1)
def dOr(t u:DTT):DTT:=λτ A R=>t τ A λc A1=>cond c (R true A1) (u τ A1 R)
def dNot(t:DTT):DTT:=λτ A R=>t τ A λc A1=>R (!c) A1
variable{tA tB:DTT}{rest:List Expr}
theorem dw_and1(ha:PT X a (upT X.mg N tA)):PW X (.BoolOp .And [a] pos) (upT X.mg N tA):=pw_and1 ha
theorem dw_or1(ha:PT X a (upT X.mg N tA)):PW X (.BoolOp .Or [a] pos) (upT X.mg N tA):=pw_or1 ha
theorem dw_and(ha:PT X a (upT X.mg N tA))(hb:PW X (.BoolOp .And (b::rest) pos) (upT X.mg N tB)):PW X (.BoolOp .And (a::b::rest) pos) (upT X.mg N (dAnd tA tB)):=
 dw_w (pw_and ha hb) λσ H Q q=>by
  obtain⟨A,ι,τ,R,S,q,k⟩:=q
  refine⟨A,ι,τ,_,S,q,λx A1 ι1 H1 q1 e1 r1=> ?_⟩
  cases x with
  |true=>rw[if_pos rfl];exact⟨A1,ι1,τ,_,S.next e1 r1,q1,k.from e1⟩
  |false=>rw[if_neg Bool.false_ne_true];exact(k.from e1).here r1 q1
theorem dw_or(ha:PT X a (upT X.mg N tA))(hb:PW X (.BoolOp .Or (b::rest) pos) (upT X.mg N tB)):PW X (.BoolOp .Or (a::b::rest) pos) (upT X.mg N (dOr tA tB)):=
 dw_w (pw_or ha hb) λσ H Q q=>by
  obtain⟨A,ι,τ,R,S,q,k⟩:=q
  refine⟨A,ι,τ,_,S,q,λx A1 ι1 H1 q1 e1 r1=> ?_⟩
  cases x with
  |true=>rw[if_pos rfl];exact(k.from e1).here r1 q1
  |false=>rw[if_neg Bool.false_ne_true];exact⟨A1,ι1,τ,_,S.next e1 r1,q1,k.from e1⟩
theorem dt_not(ha:PT X a (upT X.mg N tA)):PT X (.UnaryOp .Not a pos) (upT X.mg N (dNot tA)):=
 dt_w (pt_not ha) λσ H Q q=>by
  obtain⟨A,ι,τ,R,S,q,k⟩:=q
  exact⟨A,ι,τ,_,S,q,λx A1 ι1 H1 q1 e1 r1=>(k.from e1).here r1 q1⟩
def dAndV(ma mb:DTE):DTE:=λτ A R=>ma τ A λx A1=>match x with
 | .bl c=>cond c (mb τ A1 R) (R (.bl false) A1)
 |_=>False
def dOrV(ma mb:DTE):DTE:=λτ A R=>ma τ A λx A1=>match x with
 | .bl c=>cond c (R (.bl true) A1) (mb τ A1 R)
 |_=>False
def dNotV(ma:DTE):DTE:=λτ A R=>ma τ A λx A1=>match x with
 | .bl c=>R (.bl (!c)) A1
 |_=>False
theorem de_one{op}(h:PE X a (up X.mg N ma)):PE X (.BoolOp op [a] pos) (up X.mg N ma):=pe_one h
theorem de_and(ha:PE X a (up X.mg N ma))(hb:PE X (.BoolOp .And (b::rest) pos) (up X.mg N mb)):PE X (.BoolOp .And (a::b::rest) pos) (up X.mg N (dAndV ma mb)):=
 de_w (pe_and ha hb) λσ H Q q=>by
  obtain⟨A,ι,τ,R,S,q,k⟩:=q
  refine⟨A,ι,τ,_,S,q,λx A1 ι1 H1 u q1 e1 r1 v1=> ?_⟩
  cases x with
  |bl c=>
   refine⟨c,v1,?_⟩
   cases c with
   |true=>rw[if_pos rfl];exact⟨A1,ι1,τ,_,S.next e1 r1,q1,k.from e1⟩
   |false=>rw[if_neg Bool.false_ne_true];exact(k.from e1).here r1 q1 rfl
  |_=>exact q1.elim
theorem de_or(ha:PE X a (up X.mg N ma))(hb:PE X (.BoolOp .Or (b::rest) pos) (up X.mg N mb)):PE X (.BoolOp .Or (a::b::rest) pos) (up X.mg N (dOrV ma mb)):=
 de_w (pe_or ha hb) λσ H Q q=>by
  obtain⟨A,ι,τ,R,S,q,k⟩:=q
  refine⟨A,ι,τ,_,S,q,λx A1 ι1 H1 u q1 e1 r1 v1=> ?_⟩
  cases x with
  |bl c=>
   refine⟨c,v1,?_⟩
   cases c with
   |true=>rw[if_pos rfl];exact(k.from e1).here r1 q1 rfl
   |false=>rw[if_neg Bool.false_ne_true];exact⟨A1,ι1,τ,_,S.next e1 r1,q1,k.from e1⟩
  |_=>exact q1.elim
theorem de_not(ha:PE X a (up X.mg N ma)):PE X (.UnaryOp .Not a pos) (up X.mg N (dNotV ma)):=
 de_w (pe_not ha) λσ H Q q=>by
  obtain⟨A,ι,τ,R,S,q,k⟩:=q
  refine⟨A,ι,τ,_,S,q,λx A1 ι1 H1 u q1 e1 r1 v1=> ?_⟩
  cases x with
  |bl c=>exact⟨c,v1,(k.from e1).here r1 q1 rfl⟩
  |_=>exact q1.elim
def dIte(t:DTT)(ma mb:DTE):DTE:=λτ A R=>t τ A λc A1=>cond c (ma τ A1 R) (mb τ A1 R)
theorem de_ite(hc:PT X c (upT X.mg N tA))(ha:PE X a (up X.mg N ma))(hb:PE X b (up X.mg N mb)):PE X (.IfExp c a b pos) (up X.mg N (dIte tA ma mb)):=
 de_w (pe_ifExp hc ha hb) λσ H Q q=>by
  obtain⟨A,ι,τ,R,S,q,k⟩:=q
  refine⟨A,ι,τ,_,S,q,λx A1 ι1 H1 q1 e1 r1=> ?_⟩
  cases x with
  |true=>rw[if_pos rfl];exact⟨A1,ι1,τ,_,S.next e1 r1,q1,k.from e1⟩
  |false=>rw[if_neg Bool.false_ne_true];exact⟨A1,ι1,τ,_,S.next e1 r1,q1,k.from e1⟩
end
def dNil:DTA:=λ_ A R=>R [] A
def dCons(m:DTE)(n:DTA):DTA:=λτ A R=>m τ A λx A1=>n τ A1 λxs A2=>R (x::xs) A2
def dTup(n:DTA):DTE:=λτ A R=>n τ A λxs A1=>xs.length≤sizeLine∧R (.tup xs) A1
def dLst(n:DTA):DTE:=λτ A R=>n τ A λxs A1=>xs.length≤sizeLine∧R (.ref A1.length) (A1++[.lst xs])
section
variable{X:Cx}{N:En}{pos:Pos}{e:Expr}{es:List Expr}{m:DTE}{n:DTA}
theorem da_nil:PA X [] (upA X.mg N dNil):=da_w pa_nil λσ H Q q=>by
 obtain⟨A,ι,τ,R,S,q,k⟩:=q
 exact k [] A ι H [] q S.ra.refl S.ra rfl
theorem da_cons(ha:PE X e (up X.mg N m))(hr:PA X es (upA X.mg N n))(hs:starEach (e::es) X.env=(false,eval e X.env)::starEach es X.env:=by rfl):PA X (e::es) (upA X.mg N (dCons m n)):=
 da_w (pa_cons ha hr hs) λσ H Q q=>by
  obtain⟨A,ι,τ,R,S,q,k⟩:=q
  refine⟨A,ι,τ,_,S,q,λx A1 ι1 H1 u q1 e1 r1 v1=> ?_⟩
  refine⟨A1,ι1,τ,_,S.next e1 r1,q1,λy A2 ι2 H2 v q2 e2 r2 v2=> ?_⟩
  exact k _ A2 ι2 H2 _ q2 (e1.trans e2) r2 ⟨u,v,rfl,RV.ext e2 x u v1,v2⟩
theorem new_tup{mg:Str->Option Value}{A:Ar}{ι:Io}{H:Hp}{R:DK}{Q:VK}{ds:List D}{xs:List V}{p:Addr}(k:Kt mg A ι H R Q)(r:RA mg ι H A)(h:RVs mg ι A.length H ds xs)(q:R (.tup ds) A)(hp:H p=none):Q (.ref p) (upd H p (.tup xs)):=by
 have E:Ext A ι H A ι (upd H p (.tup xs)):=r.ext_fix hp
 exact k _ A ι _ _ q E (r.fix E λb o z=>by rw[upd_ne (ne_of_none z hp)];exact z) ⟨p,xs,rfl,upd_same,RVs.ext E ds xs h⟩
theorem new_lst{mg:Str->Option Value}{A:Ar}{ι:Io}{H:Hp}{R:DK}{Q:VK}{ds:List D}{xs:List V}{p:Addr}(k:Kt mg A ι H R Q)(r:RA mg ι H A)(h:RVs mg ι A.length H ds xs)(q:R (.ref A.length) (A++[.lst ds]))(hp:H p=none):Q (.ref p) (upd H p (.lst xs)):=by
 have E:Ext A ι H (A++[.lst ds]) (λr=>if r=A.length then p else ι r) (upd H p (.lst xs)):=r.ext_push hp
 obtain⟨r1,e1⟩:=r.push (c:= .lst ds) (o:= .lst xs) hp ⟨xs,upd_same,by simpa using RVs.ext E ds xs h⟩
 refine k _ _ _ _ _ q e1 r1 ⟨by simp,?_⟩
 show V.ref p=V.ref (if A.length=A.length then p else ι A.length)
 rw[if_pos rfl]
theorem de_tup{x1}(h:PA X es (upA X.mg N n)):PE X (.Tuple es x1 pos) (up X.mg N (dTup n)):=de_w (pe_tup h) λσ H Q q=>by
 obtain⟨A,ι,τ,R,S,q,k⟩:=q
 refine⟨A,ι,τ,_,S,q,λx A1 ι1 H1 u q1 e1 r1 v1=> ?_⟩
 exact⟨by rw[←RVs.length v1];exact q1.1,λp hp=>new_tup (k.from e1) r1 v1 q1.2 hp⟩
theorem de_lst(h:PA X es (upA X.mg N n)):PE X (.List es pos) (up X.mg N (dLst n)):=de_w (pe_lst h) λσ H Q q=>by
 obtain⟨A,ι,τ,R,S,q,k⟩:=q
 refine⟨A,ι,τ,_,S,q,λx A1 ι1 H1 u q1 e1 r1 v1=> ?_⟩
 exact⟨by rw[←RVs.length v1];exact q1.1,λp hp=>new_lst (k.from e1) r1 v1 q1.2 hp⟩
end
end DP
namespace DP
open PySem PySem.Spec PyProof.Rows L2
section
variable{mg:Str->Option Value}{K:PySem.W.Frag}{A:Ar}{ι:Io}{H:Hp}
theorem RA.lst(r:RA mg ι H A){q:Nat}{ds:List D}(h:A[q]? =some (.lst ds)):∃xs,H (ι q)=some (.lst xs)∧RVs mg ι A.length H ds xs:=r.cel q _ h
theorem RA.dct(r:RA mg ι H A){q:Nat}{ds:List (Key×D)}(h:A[q]? =some (.dct ds)):∃xs,H (ι q)=some (.dK xs)∧RK mg ι A.length H ds xs:=r.cel q _ h
theorem RA.fdc(r:RA mg ι H A){q:Nat}{o:Obj}{ds:List (Key×D)}(h:A[q]? =some (.fdc o ds)):∃xs,H (ι q)=some (.frz o (.dK xs))∧RK mg ι A.length H ds xs:=r.cel q _ h
theorem RVs.ints:∀(ns:List Int) {n:Nat},RVs mg ι n H (ns.map D.int) (ns.map V.int)
 |[],_=>rfl
 |i::r,n=>⟨_,_,rfl,rfl,RVs.ints r⟩
theorem RVs.nilI{n:Nat}{ds:List D}(h:RVs mg ι n H ds []):ds=[]:=by
 cases ds with
 |nil=>rfl
 |cons d r=>obtain⟨x,r,e,_⟩:=h;cases e
end
abbrev rAdd4(K:PySem.W.Frag):R2:=λx y H Q=>rI0 (λi j=> .int (i+j)) x y H Q∨(∃i j,x= .str i∧y= .str j∧i.length+j.length≤sizeLine∧Q (.str (i++j)) H)∨rCatA K x y H Q∨rCat x y H Q
theorem o_add{X:Cx}:OpR X (binaryOp .Add) (rAdd4 X.K):=op_add.or (op_add_str.or (op_catA.or op_cat))
@[irreducible] def catR(r q:Nat)(A:Ar)(R:DK):Prop:=match A[r]?,A[q]? with
 |some (.lst xs),some (.lst ys)=>xs.length+ys.length≤sizeLine∧R (.ref A.length) (A++[.lst (xs++ys)])
 |_,_=>False
def addD:DOp:=λx y A R=>match x,y with
 | .int i,.int j=>R (.int (i+j)) A
 | .str a,.str b=>a.length+b.length≤sizeLine∧R (.str (a++b)) A
 | .tup xs,.tup ys=>xs.length+ys.length≤sizeLine∧R (.tup (xs++ys)) A
 | .ref r,.ref q=>catR r q A R
 |_,_=>False
theorem d_add{mg:Str->Option Value}{K:PySem.W.Frag}:OpD mg (rAdd4 K) addD:=by
 intro x y A ι H u v R Q ra rx ry h k
 unfold addD at h
 split at h
 .cases rx;cases ry
  exact .inl ⟨_,_,rfl,rfl,k.here ra h rfl⟩
 .cases rx;cases ry
  exact .inr (.inl ⟨_,_,rfl,rfl,h.1,k.here ra h.2 rfl⟩)
 .obtain⟨a,xs,rfl,e1,r1⟩:=rx
  obtain⟨b,ys,rfl,e2,r2⟩:=ry
  refine .inr (.inr (.inl ⟨a,b,xs,ys,rfl,rfl,SqT.of e1,SqT.of e2,by rw[←RVs.length r1,←RVs.length r2];exact h.1,λz=> ?_,λ_ z=> ?_,λ_ _ p hp=>new_tup k ra (r1.app r2) h.2 hp⟩))
  .subst z
   obtain rfl:=RVs.nilI r1
   exact k.here ra h.2 ⟨b,ys,rfl,e2,r2⟩
  .subst z
   obtain rfl:=RVs.nilI r2
   exact k.here ra h.2 ⟨a,xs,rfl,e1,by rw[List.append_nil];exact r1⟩
 .rename_i r q
  unfold catR at h
  split at h
  .rename_i xs ys e1 e2
   obtain⟨us,h1,r1⟩:=ra.lst e1
   obtain⟨vs,h2,r2⟩:=ra.lst e2
   obtain⟨_,rfl⟩:=rx
   obtain⟨_,rfl⟩:=ry
   exact .inr (.inr (.inr ⟨_,_,us,vs,rfl,rfl,h1,h2,by rw[←RVs.length r1,←RVs.length r2];exact h.1,λp hp=>new_lst k ra (r1.app r2) h.2 hp⟩))
  .exact h.elim
 .exact h.elim
def intD(C:Int->Int->Prop)(g:Int->Int->D):DOp:=λx y A R=>match x,y with
 | .int i,.int j=>C i j∧R (g i j) A
 |_,_=>False
def intD0(g:Int->Int->D):DOp:=λx y A R=>match x,y with
 | .int i,.int j=>R (g i j) A
 |_,_=>False
theorem d_int{mg:Str->Option Value}{C:Int->Int->Prop}{g:Int->Int->V}{g':Int->Int->D}(hg:∀i j ι n H,RV mg ι n H (g' i j) (g i j)):OpD mg (rI C g) (intD C g'):=by
 intro x y A ι H u v R Q ra rx ry h k
 unfold intD at h
 split at h
 .cases rx;cases ry
  exact⟨_,_,rfl,rfl,h.1,k.here ra h.2 (hg _ _ _ _ _)⟩
 .exact h.elim
theorem d_int0{mg:Str->Option Value}{g:Int->Int->V}{g':Int->Int->D}(hg:∀i j ι n H,RV mg ι n H (g' i j) (g i j)):OpD mg (rI0 g) (intD0 g'):=by
 intro x y A ι H u v R Q ra rx ry h k
 unfold intD0 at h
 split at h
 .cases rx;cases ry
  exact⟨_,_,rfl,rfl,k.here ra h (hg _ _ _ _ _)⟩
 .exact h.elim
abbrev subD:DOp:=intD0 λi j=> .int (i - j)
abbrev mulD:DOp:=intD CMul λi j=> .int (i*j)
abbrev divD:DOp:=intD (λ_ j=>0<j∧j.natAbs.log2<9000) λi j=> .int (i/j)
abbrev modD:DOp:=intD (λ_ j=>0<j) λi j=> .int (i%j)
abbrev powD:DOp:=intD CPow λi j=> .int (i ^ j.toNat)
section
variable{X:Cx}{N:En}{pos:Pos}{a b c:Expr}{ma mb mc:DTE}
theorem de_add(ha:PE X a (up X.mg N ma))(hb:PE X b (up X.mg N mb)):PE X (.BinOp a .Add b pos) (up X.mg N (dOp addD ma mb)):=de_op o_add d_add ha hb
theorem de_sub(ha:PE X a (up X.mg N ma))(hb:PE X b (up X.mg N mb)):PE X (.BinOp a .Sub b pos) (up X.mg N (dOp subD ma mb)):=de_op op_sub (d_int0 λ_ _ _ _ _=>rfl) ha hb
theorem de_mul(ha:PE X a (up X.mg N ma))(hb:PE X b (up X.mg N mb)):PE X (.BinOp a .Mult b pos) (up X.mg N (dOp mulD ma mb)):=de_op op_mul (d_int λ_ _ _ _ _=>rfl) ha hb
theorem de_div(ha:PE X a (up X.mg N ma))(hb:PE X b (up X.mg N mb)):PE X (.BinOp a .FloorDiv b pos) (up X.mg N (dOp divD ma mb)):=de_op op_fdivL (d_int λ_ _ _ _ _=>rfl) ha hb
theorem de_mod(ha:PE X a (up X.mg N ma))(hb:PE X b (up X.mg N mb)):PE X (.BinOp a .Mod b pos) (up X.mg N (dOp modD ma mb)):=de_op op_mod (d_int λ_ _ _ _ _=>rfl) ha hb
theorem de_pow(ha:PE X a (up X.mg N ma))(hb:PE X b (up X.mg N mb)):PE X (.BinOp a .Pow b pos) (up X.mg N (dOp powD ma mb)):=de_op op_pow (d_int λ_ _ _ _ _=>rfl) ha hb
end
abbrev rLt2:R2:=λx y H Q=>rI0 (λi j=> .bl (decide (i<j))) x y H Q∨∃i j,x= .str i∧y= .str j∧Q (.bl (decide (i.cps.toList<j.cps.toList))) H
abbrev rLe2:R2:=λx y H Q=>rI0 (λi j=> .bl (decide (i≤j))) x y H Q∨∃i j,x= .str i∧y= .str j∧Q (.bl (!decide (j.cps.toList<i.cps.toList))) H
theorem o_lt{X:Cx}:OpR X (compareOp .Lt) rLt2:=op_lt.or op_lt_str
theorem o_le{X:Cx}:OpR X (compareOp .LtE) rLe2:=op_le.or op_le_str
def ltD:DOp:=λx y A R=>match x,y with
 | .int i,.int j=>R (.bl (decide (i<j))) A
 | .str a,.str b=>R (.bl (decide (a.cps.toList<b.cps.toList))) A
 |_,_=>False
def leD:DOp:=λx y A R=>match x,y with
 | .int i,.int j=>R (.bl (decide (i≤j))) A
 | .str a,.str b=>R (.bl (!decide (b.cps.toList<a.cps.toList))) A
 |_,_=>False
theorem d_lt{mg:Str->Option Value}:OpD mg rLt2 ltD:=by
 intro x y A ι H u v R Q ra rx ry h k
 unfold ltD at h
 split at h
 .cases rx;cases ry;exact .inl ⟨_,_,rfl,rfl,k.here ra h rfl⟩
 .cases rx;cases ry;exact .inr ⟨_,_,rfl,rfl,k.here ra h rfl⟩
 .exact h.elim
theorem d_le{mg:Str->Option Value}:OpD mg rLe2 leD:=by
 intro x y A ι H u v R Q ra rx ry h k
 unfold leD at h
 split at h
 .cases rx;cases ry;exact .inl ⟨_,_,rfl,rfl,k.here ra h rfl⟩
 .cases rx;cases ry;exact .inr ⟨_,_,rfl,rfl,k.here ra h rfl⟩
 .exact h.elim
abbrev gtD:DOp:=intD0 λi j=> .bl (decide (j<i))
theorem d_gt{mg:Str->Option Value}:OpD mg (rI0 λi j=> .bl (decide (j<i))) gtD:=d_int0 λ_ _ _ _ _=>rfl
def isNo:D->Bool
 | .non=>true
 |_=>false
def notND:DOp:=λx y A R=>match y with
 | .non=>R (.bl (!isNo x)) A
 |_=>False
theorem RV.non_iff{mg:Str->Option Value}{ι:Io}{n:Nat}{H:Hp}{x:D}{u:V}(r:RV mg ι n H x u):decide (u= .non)=isNo x:=by
 cases x with
 |non=>cases r;rfl
 |bl b=>cases r;rfl
 |int b=>cases r;rfl
 |str b=>cases r;rfl
 |tup ds=>obtain⟨a,xs,rfl,_⟩:=r;rfl
 |ref q=>obtain⟨_,rfl⟩:=r;rfl
 |fl ns=>obtain⟨a,o,rfl,_⟩:=r;rfl
 |exc c=>obtain⟨a,C,rfl,_⟩:=r;rfl
theorem d_notN{mg:Str->Option Value}:OpD mg (λx y H Q=>y= .non∧Q (.bl (!decide (x= .non))) H) notND:=by
 intro x y A ι H u v R Q ra rx ry h k
 unfold notND at h
 split at h
 .cases ry
  refine⟨rfl,?_⟩
  rw[rx.non_iff]
  exact k.here ra h rfl
 .exact h.elim
mutual
def toQ:D->PyData
 | .non=> .none
 | .bl b=> .bool b
 | .int i=> .int i
 | .str x=> .str x
 | .tup xs=> .tuple (toQs xs)
 | .ref _=> .none
 | .fl ns=> .list (ns.map .int)
 | .exc _=> .none
def toQs:List D->List PyData
 |[]=>[]
 |d::r=>toQ d::toQs r
end
mutual
def pur:D->Bool
 | .tup xs=>purs xs
 | .ref _=>false
 | .exc _=>false
 |_=>true
def purs:List D->Bool
 |[]=>true
 |d::r=>pur d&&purs r
end
def toP(A:Ar):D->PyData
 | .ref r=>match A[r]? with
  |some (.lst xs)=> .list (toQs xs)
  |_=> .none
 |d=>toQ d
def okP(A:Ar):D->Bool
 | .ref r=>match A[r]? with
  |some (.lst xs)=>purs xs
  |_=>false
 |d=>pur d
section
variable{mg:Str->Option Value}{K:PySem.W.Frag}{A:Ar}{ι:Io}{H:Hp}
theorem dp_ints:∀ns:List Int,DpAll K H (ns.map V.int) (ns.map PyData.int):=DpAll.ints
mutual
theorem RV.dp{n:Nat}:∀(d:D) (v:V),pur d=true->RV mg ι n H d v->Dp K H v (toQ d)
 | .non,_,_,h=>by cases h;exact .non
 | .bl b,_,_,h=>by cases h;exact .bl b
 | .int i,_,_,h=>by cases h;exact .int i
 | .str x,_,_,h=>by cases h;exact .str x
 | .tup ds,v,p,h=>by
  obtain⟨a,xs,rfl,e,r⟩:=h
  exact .tup (SqT.of e) (RVs.dp ds xs (by simpa[pur] using p) r)
 | .ref _,_,p,_=>by simp[pur] at p
 | .fl ns,v,_,h=>by
  obtain⟨a,o,rfl,e⟩:=h
  exact .lst (.inl (.inr ⟨o,e⟩)) (dp_ints ns)
 | .exc _,_,p,_=>by simp[pur] at p
theorem RVs.dp{n:Nat}:∀(ds:List D) (vs:List V),purs ds=true->RVs mg ι n H ds vs->DpAll K H vs (toQs ds)
 |[],vs,_,h=>by cases (show vs=[] from h);exact .nil
 |d::ds,vs,p,h=>by
  obtain⟨x,r,rfl,h1,h2⟩:=h
  have p':pur d=true∧purs ds=true:=by simpa[purs] using p
  exact .cons (RV.dp d x p'.1 h1) (RVs.dp ds r p'.2 h2)
end
theorem RA.dp(ra:RA mg ι H A){d:D}{v:V}(p:okP A d=true)(h:RV mg ι A.length H d v):Dp K H v (toP A d):=by
 cases d with
 |ref r=>
  obtain⟨_,rfl⟩:=h
  unfold okP at p
  unfold toP
  simp only at p ⊢
  split at p
  .rename_i xs e
   obtain⟨us,h1,r1⟩:=ra.lst e
   exact .lst (SqL.of h1) (RVs.dp xs us p r1)
  .cases p
 |_=>exact RV.dp _ v p h
end
@[irreducible] def dataEq(neg:Bool)(x y:D)(A:Ar)(R:DK):Prop:=okP A x=true∧okP A y=true∧(toP A x).canLay0=true∧(toP A y).canLay0=true∧min (toP A x).depth (toP A y).depth≤64∧R (.bl (if neg then !PyData.eqv (toP A x) (toP A y) else PyData.eqv (toP A x) (toP A y))) A
def eqD:DOp:=λx y A R=>match x,y with
 | .int i,.int j=>R (.bl (decide (i=j))) A
 | .str a,.str b=>R (.bl (decide (a=b))) A
 | .bl a,.bl b=>R (.bl (decide (a=b))) A
 |x,y=>dataEq false x y A R
def neD:DOp:=λx y A R=>match x,y with
 | .int i,.int j=>R (.bl (!decide (i=j))) A
 | .str a,.str b=>R (.bl (!decide (a=b))) A
 | .bl a,.bl b=>R (.bl (!decide (a=b))) A
 |x,y=>dataEq true x y A R
theorem o_eq{X:Cx}(hu:X.A.units+64<cLine):OpR X (compareOp .Eq) (λx y H Q=>rEq x y H Q∨rEqD X.K x y H Q):=op_eq.or (op_eqD hu)
theorem o_ne{X:Cx}(hu:X.A.units+64<cLine):OpR X (compareOp .NotEq) (λx y H Q=>rNe x y H Q∨rNeD X.K x y H Q):=op_ne.or (op_neD hu)
theorem d_eq{mg:Str->Option Value}{K:PySem.W.Frag}:OpD mg (λx y H Q=>rEq x y H Q∨rEqD K x y H Q) eqD:=by
 intro x y A ι H u v R Q ra rx ry h k
 unfold eqD at h
 split at h
 .cases rx;cases ry
  rename_i i j
  refine .inl ⟨rfl,?_⟩
  have e:decide (V.int i=V.int j)=decide (i=j):=by simp
  rw[e]
  exact k.here ra h rfl
 .cases rx;cases ry
  rename_i i j
  refine .inl ⟨rfl,?_⟩
  have e:decide (V.str i=V.str j)=decide (i=j):=by simp
  rw[e]
  exact k.here ra h rfl
 .cases rx;cases ry
  rename_i i j
  refine .inl ⟨rfl,?_⟩
  have e:decide (V.bl i=V.bl j)=decide (i=j):=by simp
  rw[e]
  exact k.here ra h rfl
 .unfold dataEq at h
  obtain⟨p1,p2,c1,c2,hd,q⟩:=h
  exact .inr ⟨_,_,ra.dp p1 rx,ra.dp p2 ry,c1,c2,hd,k.here ra q rfl⟩
theorem d_ne{mg:Str->Option Value}{K:PySem.W.Frag}:OpD mg (λx y H Q=>rNe x y H Q∨rNeD K x y H Q) neD:=by
 intro x y A ι H u v R Q ra rx ry h k
 unfold neD at h
 split at h
 .cases rx;cases ry
  rename_i i j
  refine .inl ⟨rfl,?_⟩
  have e:decide (V.int i=V.int j)=decide (i=j):=by simp
  rw[e]
  exact k.here ra h rfl
 .cases rx;cases ry
  rename_i i j
  refine .inl ⟨rfl,?_⟩
  have e:decide (V.str i=V.str j)=decide (i=j):=by simp
  rw[e]
  exact k.here ra h rfl
 .cases rx;cases ry
  rename_i i j
  refine .inl ⟨rfl,?_⟩
  have e:decide (V.bl i=V.bl j)=decide (i=j):=by simp
  rw[e]
  exact k.here ra h rfl
 .unfold dataEq at h
  obtain⟨p1,p2,c1,c2,hd,q⟩:=h
  exact .inr ⟨_,_,ra.dp p1 rx,ra.dp p2 ry,c1,c2,hd,k.here ra q rfl⟩
def keyD:D->Option Key
 | .int i=>some (.inl i)
 | .str x=>some (.inr x)
 |_=>none
def getK:List (Key×D)->Key->Option D
 |[],_=>none
 |p::r,k=>if p.1=k then some p.2 else getK r k
@[irreducible] def ixR(r:Nat)(y:D)(A:Ar)(R:DK):Prop:=match A[r]? with
 |some (.lst xs)=>(match y with
  | .int i=>(match atI xs i with
   |some v=>R v A
   |none=>False)
  |_=>False)
 |some (.dct kvs)=>(match keyD y with
  |some k=>(match getK kvs k with
   |some v=>R v A
   |none=>False)
  |none=>False)
 |some (.fdc _ kvs)=>(match keyD y with
  |some k=>(match getK kvs k with
   |some v=>R v A
   |none=>False)
  |none=>False)
 |_=>False
def ixD:DOp:=λx y A R=>match x,y with
 | .tup xs,.int i=>match atI xs i with
  |some v=>R v A
  |none=>False
 | .str z,.int i=>match atI z.cps.toList i with
  |some c=>z.length≤sizeLine∧R (.str ⟨#[c]⟩) A
  |none=>False
 | .fl ns,.int i=>match atI ns i with
  |some c=>R (.int c) A
  |none=>False
 | .ref r,y=>ixR r y A R
 |_,_=>False
section
variable{mg:Str->Option Value}{K:PySem.W.Frag}{A:Ar}{ι:Io}{H:Hp}
theorem RVs.atI{n:Nat}{ds:List D}{vs:List V}{i:Int}{d:D}(r:RVs mg ι n H ds vs)(h:L2.atI ds i=some d):∃v,L2.atI vs i=some v∧RV mg ι n H d v:=by
 unfold L2.atI at h ⊢
 rw[←RVs.length r]
 cases q:ixN ds.length i with
 |none=>rw[q] at h;cases h
 |some j=>
  rw[q] at h
  exact RVs.get r h
theorem atI_map{α β:Type}(f:α->β)(xs:List α)(i:Int):L2.atI (xs.map f) i=(L2.atI xs i).map f:=by
 unfold L2.atI
 rw[List.length_map]
 cases ixN xs.length i with
 |none=>rfl
 |some j=>simp
theorem RK.get{n:Nat}:∀{kvs:List (Key×D)} {xs:List (Key×V)} {k:Key},RK mg ι n H kvs xs->(∀d,getK kvs k=some d->∃v,valV xs k=some v∧RV mg ι n H d v)∧(getK kvs k=none->valV xs k=none)
 |[],xs,k,h=>by
  cases (show xs=[] from h)
  exact⟨λd e=>by simp[getK] at e,λ_=>rfl⟩
 |p::r,xs,k,h=>by
  obtain⟨x,r',rfl,h1,h2⟩:=h
  obtain⟨g1,g2⟩:=RK.get (k:=k) h2
  unfold getK
  by_cases hk:p.1=k
  .rw[if_pos hk]
   have e:valV ((p.1,x)::r') k=some x:=by simp[valV,hk]
   rw[e]
   exact⟨λd z=>by cases z;exact⟨x,rfl,h1⟩,λz=>by cases z⟩
  .rw[if_neg hk]
   have e:valV ((p.1,x)::r') k=valV r' k:=by simp[valV,List.find?_cons,hk]
   rw[e]
   exact⟨g1,g2⟩
theorem keyD_kV{n:Nat}{y:D}{v:V}{k:Key}(h:keyD y=some k)(r:RV mg ι n H y v):v=kV k:=by
 cases y with
 |int i=>cases h;exact r
 |str x=>cases h;exact r
 |_=>cases h
end
def rIxD:R2:=λx y H Q=>∃a v,x= .ref a∧DGet H a y (some v)∧Q v H
theorem ix_dct{X:Cx}(hu:X.A.units+64<cLine):IxR X rIxD:=by
 intro value slice pins s σ H x y v u Q I rx ry h hs
 obtain⟨a,z,rfl,g,q⟩:=h
 cases rx
 exact tail_any (dict_typeIs I g) PySem.F.slot_dict_getitem.lookup (d_getItem (by omega) I g ry λw' s3 I3 rw'=>⟨z,H,I3,rw',q⟩) hs
abbrev rIx4(K:PySem.W.Frag):R2:=λx y H Q=>rIx K x y H Q∨rIxD x y H Q
theorem i_x{X:Cx}(hu:X.A.units+64<cLine):IxR X (rIx4 X.K):=ix_seq.or (ix_dct hu)
theorem d_ix{mg:Str->Option Value}{K:PySem.W.Frag}:OpD mg (rIx4 K) ixD:=by
 intro x y A ι H u v R Q ra rx ry h k
 unfold ixD at h
 split at h
 .obtain⟨a,xs,rfl,e1,r1⟩:=rx
  cases ry
  split at h
  .rename_i d e
   obtain⟨z,hz,rz⟩:=r1.atI e
   exact .inl (.inr (.inl ⟨a,xs,_,z,rfl,rfl,SqT.of e1,hz,k.here ra h rz⟩))
  .exact h.elim
 .cases rx;cases ry
  split at h
  .rename_i d e
   exact .inl (.inr (.inr ⟨_,_,_,rfl,rfl,h.1,e,k.here ra h.2 rfl⟩))
  .exact h.elim
 .obtain⟨a,o,rfl,e1⟩:=rx
  cases ry
  split at h
  .rename_i d e
   exact .inl (.inl ⟨a,_,_,_,rfl,rfl,.inl (.inr ⟨o,e1⟩),by rw[atI_map,e];rfl,k.here ra h rfl⟩)
  .exact h.elim
 .obtain⟨_,rfl⟩:=rx
  unfold ixR at h
  split at h
  .rename_i xs e
   obtain⟨us,h1,r1⟩:=ra.lst e
   split at h
   .cases ry
    split at h
    .rename_i d e
     obtain⟨z,hz,rz⟩:=r1.atI e
     exact .inl (.inl ⟨_,us,_,z,rfl,rfl,SqL.of h1,hz,k.here ra h rz⟩)
    .exact h.elim
   .exact h.elim
  .rename_i kvs e
   obtain⟨us,h1,r1⟩:=ra.dct e
   split at h
   .rename_i ky ek
    cases keyD_kV ek ry
    split at h
    .rename_i d ed
     obtain⟨z,hz,rz⟩:=(RK.get r1).1 d ed
     exact .inr ⟨_,z,rfl,.inl ⟨us,ky,.inl h1,rfl,hz.symm⟩,k.here ra h rz⟩
    .exact h.elim
   .exact h.elim
  .rename_i o kvs e
   obtain⟨us,h1,r1⟩:=ra.fdc e
   split at h
   .rename_i ky ek
    cases keyD_kV ek ry
    split at h
    .rename_i d ed
     obtain⟨z,hz,rz⟩:=(RK.get r1).1 d ed
     exact .inr ⟨_,z,rfl,.inl ⟨us,ky,.inr ⟨o,h1⟩,rfl,hz.symm⟩,k.here ra h rz⟩
    .exact h.elim
   .exact h.elim
  .exact h.elim
 .exact h.elim
theorem de_ix{X:Cx}{N:En}{pos:Pos}{a b:Expr}{ma mb:DTE}(hu:X.A.units+64<cLine)(ha:PE X a (up X.mg N ma))(hb:PE X b (up X.mg N mb))(hs:PlainIx b):PE X (.Subscript a b pos) (up X.mg N (dOp ixD ma mb)):=
 de_w (pe_ix (i_x hu) ha hb hs) λ_ _ _ h=>up_op d_ix h
end DP
namespace DP
open PySem PySem.Spec PyProof.Rows L2
structure DEnds where
 nx:DSt->Ar->Prop
 rt:DK
 bk:DSt->Ar->Prop:=λ_ _=>False
 ct:DSt->Ar->Prop:=λ_ _=>False
abbrev DTS:=DEnds->DSt->Ar->Prop
def KtN(mg:Str->Option Value)(A:Ar)(ι:Io)(H:Hp)(R:DSt->Ar->Prop)(Q:L2.St->Hp->Prop):Prop:=∀τ A' ι' σ H',R τ A'->Ext A ι H A' ι' H'->RA mg ι' H' A'->RS mg ι' A'.length H' τ σ->Q σ H'
structure KtS(mg:Str->Option Value)(A:Ar)(ι:Io)(H:Hp)(R:DEnds)(Q:Ends):Prop where
 nx:KtN mg A ι H R.nx Q.nx
 rt:Kt mg A ι H R.rt Q.rt
 bk:KtN mg A ι H R.bk Q.bk
 ct:KtN mg A ι H R.ct Q.ct
def upS(mg:Str->Option Value)(N:En)(m:DTS):TS:=λQ σ H=>∃A ι τ R,Sim mg N A ι τ σ H∧m R τ A∧KtS mg A ι H R Q
section
variable{mg:Str->Option Value}{N:En}{A A':Ar}{ι ι':Io}{τ τ':DSt}{σ σ':L2.St}{H H':Hp}
theorem KtN.from{R:DSt->Ar->Prop}{Q:L2.St->Hp->Prop}(k:KtN mg A ι H R Q)(e:Ext A ι H A' ι' H'):KtN mg A' ι' H' R Q:=λτ A2 ι2 σ H2 q e2=>k τ A2 ι2 σ H2 q (e.trans e2)
theorem KtS.from{R:DEnds}{Q:Ends}(k:KtS mg A ι H R Q)(e:Ext A ι H A' ι' H'):KtS mg A' ι' H' R Q:=⟨k.nx.from e,k.rt.from e,k.bk.from e,k.ct.from e⟩
theorem KtN.here{R:DSt->Ar->Prop}{Q:L2.St->Hp->Prop}(k:KtN mg A ι H R Q)(S:Sim mg N A ι τ σ H)(q:R τ A):Q σ H:=k τ A ι σ H q S.ra.refl S.ra S.rs
theorem Sim.to(S:Sim mg N A ι τ σ H)(e:Ext A ι H A' ι' H')(r:RA mg ι' H' A')(s:RS mg ι' A'.length H' τ' σ'):Sim mg N A' ι' τ' σ' H':=⟨r,s,S.ex.trans e⟩
theorem lk_set_self:∀(τ:DSt) (i:Nat) (d:D),i<τ.length->lk (τ.set i (some d)) i=some d
 |[],i,d,h=>by simp at h
 |x::r,0,d,_=>rfl
 |x::r,i+1,d,h=>lk_set_self r i d (by simpa using h)
theorem lk_set_ne:∀(τ:DSt) (i j:Nat) (d:Option D),j≠i->lk (τ.set i d) j=lk τ j
 |[],i,j,d,_=>rfl
 |x::r,0,0,d,h=>absurd rfl h
 |x::r,0,j+1,d,_=>rfl
 |x::r,i+1,0,d,_=>rfl
 |x::r,i+1,j+1,d,h=>lk_set_ne r i j d (by omega)
theorem RS.set{n:Nat}{i:Nat}{d:D}{v:V}(r:RS mg ι n H τ σ)(h:RV mg ι n H d v):RS mg ι n H (τ.set i (some d)) (σ.set i (some v)):=⟨by simp[r.len],λj e q=>by
 by_cases hj:j=i
 .subst hj
  by_cases hl:j<τ.length
  .rw[lk_set_self _ _ _ hl] at q
   cases q
   refine⟨v,?_,h⟩
   rw[List.getElem?_set_self (by rw[←r.len];exact hl)]
  .rw[List.set_eq_of_length_le (by omega)] at q
   rw[lk_get,List.getElem?_eq_none (by omega)] at q
   cases q
 .rw[lk_set_ne _ _ _ _ hj] at q
  obtain⟨w,h1,h2⟩:=r.at' j e q
  exact⟨w,by rw[List.getElem?_set_ne (Ne.symm hj)];exact h1,h2⟩⟩
theorem Sim.set{i:Nat}{d:D}{v:V}(S:Sim mg N A ι τ σ H)(h:RV mg ι A.length H d v):Sim mg N A ι (τ.set i (some d)) (σ.set i (some v)) H:=⟨S.ra,S.rs.set h,S.ex⟩
end
def sNext:DTS:=λR τ A=>R.nx τ A
def sSeq(t u:DTS):DTS:=λR τ A=>t {R with nx:=u R} τ A
def sExpr(m:DTE):DTS:=λR τ A=>m τ A λ_ A1=>R.nx τ A1
def sRet(m:DTE):DTS:=λR τ A=>m τ A R.rt
def sIf(c:DTT)(t u:DTS):DTS:=λR τ A=>c τ A λb A1=>cond b (t R τ A1) (u R τ A1)
section
variable{X:Cx}{N:En}{pos:Pos}{st:Stmt}{rest:List Stmt}{t u:DTS}{e:Expr}{m:DTE}
theorem dss_nil:PSs X [] (upS X.mg N sNext):=dss_w pss_nil λQ σ H q=>by
 obtain⟨A,ι,τ,R,S,q,k⟩:=q
 exact k.nx.here S q
theorem dss_cons(h1:PS X st (upS X.mg N t))(h2:PSs X rest (upS X.mg N u)):PSs X (st::rest) (upS X.mg N (sSeq t u)):=dss_w (pss_cons h1 h2) λQ σ H q=>by
 obtain⟨A,ι,τ,R,S,q,k⟩:=q
 exact⟨A,ι,τ,_,S,q,⟨λτ1 A1 ι1 σ1 H1 q1 e1 r1 s1=>⟨A1,ι1,τ1,R,S.to e1 r1 s1,q1,k.from e1⟩,k.rt,k.bk,k.ct⟩⟩
theorem dss_one(h1:PS X st (upS X.mg N t)):PSs X [st] (upS X.mg N t):=pss_one h1
theorem ds_expr(he:PE X e (up X.mg N m))(hs:swapsWith e none pos.line X.env=pure false:=by rfl):PS X (.Expr e pos) (upS X.mg N (sExpr m)):=ds_w (ps_expr he hs) λQ σ H q=>by
 obtain⟨A,ι,τ,R,S,q,k⟩:=q
 exact⟨A,ι,τ,_,S,q,λv A1 ι1 H1 u q1 e1 r1 v1=>(k.nx.from e1).here (S.next e1 r1) q1⟩
theorem ds_ret(he:PE X e (up X.mg N m)):PS X (.Return (some e) pos) (upS X.mg N (sRet m)):=ds_w (ps_ret he) λQ σ H q=>by
 obtain⟨A,ι,τ,R,S,q,k⟩:=q
 exact⟨A,ι,τ,_,S,q,k.rt⟩
theorem ds_if{c:Expr}{a b:List Stmt}{tc:DTT}(hc:PT X c (upT X.mg N tc))(ha:PSs X a (upS X.mg N t))(hb:PSs X b (upS X.mg N u)):PS X (.If c a b pos) (upS X.mg N (sIf tc t u)):=ds_w (ps_if hc ha hb) λQ σ H q=>by
 obtain⟨A,ι,τ,R,S,q,k⟩:=q
 refine⟨A,ι,τ,_,S,q,λx A1 ι1 H1 q1 e1 r1=> ?_⟩
 cases x with
 |true=>rw[if_pos rfl];exact⟨A1,ι1,τ,R,S.next e1 r1,q1,k.from e1⟩
 |false=>rw[if_neg Bool.false_ne_true];exact⟨A1,ι1,τ,R,S.next e1 r1,q1,k.from e1⟩
end
abbrev DTG:=D->DSt->Ar->(DSt->Ar->Prop)->Prop
abbrev DTGs:=List D->DSt->Ar->(DSt->Ar->Prop)->Prop
def upG(mg:Str->Option Value)(N:En)(g:DTG):TG:=λv σ H Q=>∃A ι τ d R,Sim mg N A ι τ σ H∧RV mg ι A.length H d v∧g d τ A R∧KtN mg A ι H R Q
def upGs(mg:Str->Option Value)(N:En)(g:DTGs):TGs:=λvs σ H Q=>∃A ι τ ds R,Sim mg N A ι τ σ H∧RVs mg ι A.length H ds vs∧g ds τ A R∧KtN mg A ι H R Q
def gN(i:Nat):DTG:=λd τ A R=>R (τ.set i (some d)) A
def gs0:DTGs:=λds τ A R=>match ds with
 |[]=>R τ A
 |_=>False
def gsC(g:DTG)(h:DTGs):DTGs:=λds τ A R=>match ds with
 |d::r=>g d τ A λτ1 A1=>h r τ1 A1 R
 |[]=>False
def gT(n:Nat)(g:DTGs):DTG:=λd τ A R=>match d with
 | .tup ds=>ds.length=n∧g ds τ A R
 |_=>False
section
variable{X:Cx}{N:En}{pos:Pos}{e tg:Expr}{es:List Expr}{m:DTE}{g:DTG}{gs:DTGs}
theorem dg_w{t t':TG}(h:PG X tg t)(w:∀v σ H Q,t' v σ H Q->t v σ H Q):PG X tg t':=λpins s σ H v u Q I r q=>h pins s σ H v u Q I r (w v σ H Q q)
theorem dgs_w{t t':TGs}(h:PGs X es t)(w:∀v σ H Q,t' v σ H Q->t v σ H Q):PGs X es t':=λpins s σ H v u Q I r q=>h pins s σ H v u Q I r (w v σ H Q q)
theorem dg_name{i:Nat}{x:Str}(hN:X.N.Nodup)(hi:X.N[i]? =some x)(hx:Loc X.env.scope x)(hf:X.fn x=true∨X.env.scope.names.lookup x=some .local:=by first|exact .inl rfl|exact .inr rfl|assumption):PG X (.Name x pos) (upG X.mg N (gN i)):=
 dg_w (pg_name hN hi hx hf) λv σ H Q q=>by
  obtain⟨A,ι,τ,d,R,S,r,q,k⟩:=q
  exact k.here (S.set r) q
theorem dgs_nil:PGs X [] (upGs X.mg N gs0):=dgs_w pgs_nil λv σ H Q q=>by
 obtain⟨A,ι,τ,ds,R,S,r,q,k⟩:=q
 unfold gs0 at q
 split at q
 .exact⟨r,k.here S q⟩
 .exact q.elim
theorem dgs_cons(h1:PG X e (upG X.mg N g))(h2:PGs X es (upGs X.mg N gs))(hs:(assignEach (e::es) X.env).map (·.2)=assign e X.env::(assignEach es X.env).map (·.2):=by rfl):PGs X (e::es) (upGs X.mg N (gsC g gs)):=
 dgs_w (pgs_cons h1 h2 hs) λv σ H Q q=>by
  obtain⟨A,ι,τ,ds,R,S,r,q,k⟩:=q
  cases ds with
  |nil=>exact q.elim
  |cons d ds=>
   obtain⟨x,xs,rfl,r1,r2⟩:=r
   refine⟨x,xs,rfl,A,ι,τ,d,_,S,r1,q,λτ1 A1 ι1 σ1 H1 q1 e1 a1 s1=> ?_⟩
   exact⟨A1,ι1,τ1,ds,R,S.to e1 a1 s1,RVs.ext e1 ds xs r2,q1,k.from e1⟩
theorem dg_tup{k n:Nat}(hc:X.calm=true)(h:PGs X es (upGs X.mg N gs))(hn:(assignEach es X.env).length=n:=by rfl)(hst:(assignEach es X.env).findIdx? (·.1)=none:=by rfl):PG X (.Tuple es k pos) (upG X.mg N (gT n gs)):=
 dg_w (pg_tup hc h hn hst) λv σ H Q q=>by
  obtain⟨A,ι,τ,d,R,S,r,q,k⟩:=q
  cases d with
  |tup ds=>
   obtain⟨a,xs,rfl,h1,h2⟩:=r
   exact⟨a,xs,rfl,SqT.of h1,by rw[←RVs.length h2];exact q.1,A,ι,τ,ds,R,S,h2,q.2,k⟩
  |_=>exact q.elim
def sSet(i:Nat)(m:DTE):DTS:=λR τ A=>m τ A λv A1=>R.nx (τ.set i (some v)) A1
theorem ds_set{i:Nat}{x:Str}{pos':Pos}(hN:X.N.Nodup)(hi:X.N[i]? =some x)(hx:Loc X.env.scope x)(he:PE X e (up X.mg N m))(hs:swapsWith e (some (.Name x pos')) pos.line X.env=pure false:=by rfl)(hf:X.fn x=true∨X.env.scope.names.lookup x=some .local:=by first|exact .inl rfl|exact .inr rfl|assumption):
  PS X (.Assign [.Name x pos'] e pos) (upS X.mg N (sSet i m)):=ds_w (ps_set hN hi hx he hs hf) λQ σ H q=>by
 obtain⟨A,ι,τ,R,S,q,k⟩:=q
 exact⟨A,ι,τ,_,S,q,λv A1 ι1 H1 u q1 e1 r1 v1=>(k.nx.from e1).here ((S.next e1 r1).set v1) q1⟩
def sPar(i j:Nat)(n:DTA):DTS:=λR τ A=>n τ A λvs A1=>match vs with
 |[v,w]=>R.nx ((τ.set i (some v)).set j (some w)) A1
 |_=>False
theorem ds_par{i j:Nat}{x y:Str}{a b:Expr}{n:DTA}{px py pt:Pos}{kt k2 pt2}(hc:X.calm=true)(hN:X.N.Nodup)(hi:X.N[i]? =some x)(hj:X.N[j]? =some y)(hij:i≠j)
  (hx:X.env.scope.names.lookup x=some .local)(hy:X.env.scope.names.lookup y=some .local)(ha:PA X [a,b] (upA X.mg N n))
  (hw:swappedStores [.Tuple [.Name x px,.Name y py] kt pt] (.Tuple [a,b] k2 pt2) X.env=pure (some [x,y]))
  (hs:swapsWithSole [.Tuple [.Name x px,.Name y py] kt pt] (.Tuple [a,b] k2 pt2) pos.line X.env=pure false:=by rfl):
  PS X (.Assign [.Tuple [.Name x px,.Name y py] kt pt] (.Tuple [a,b] k2 pt2) pos) (upS X.mg N (sPar i j n)):=ds_w (ps_par hc hN hi hj hij hx hy ha hw hs) λQ σ H q=>by
 obtain⟨A,ι,τ,R,S,q,k⟩:=q
 refine⟨A,ι,τ,_,S,q,λvs A1 ι1 H1 us q1 e1 r1 v1=> ?_⟩
 match vs,q1,v1 with
 |[v,w],q1,v1=>
  obtain⟨x1,_,rfl,h1,x2,_,rfl,h2,h3⟩:=v1
  obtain rfl:=h3
  exact⟨x1,x2,rfl,(k.nx.from e1).here (((S.next e1 r1).set h1).set h2) q1⟩
 |[],q1,_=>exact q1.elim
 |[_],q1,_=>exact q1.elim
 |_::_::_::_,q1,_=>exact q1.elim
end
abbrev DX:=Str->Ar->Prop
abbrev Ct:=List D->Ar->DK->DX->Prop
def KtX(mg:Str->Option Value)(A:Ar)(ι:Io)(H:Hp)(R:DX)(E:XK):Prop:=∀c A' ι' H' C,R c A'->mg c=some (.ref C)->Ext A ι H A' ι' H'->RA mg ι' H' A'->E (.ref C) none H'
def spOf(mg:Str->Option Value)(n:Nat)(S:Ct):Sp:=λvs H Q E=>∃A ι ds R RE,ds.length=n∧RA mg ι H A∧RVs mg ι A.length H ds vs∧S ds A R RE∧Kt mg A ι H R Q∧KtX mg A ι H RE E
def EL(mg:Str->Option Value)(N:En)(R:DX):XK:=λC _ H'=>∃c A' ι',(∃a,C= .ref a∧mg c=some (.ref a))∧Ext N.A N.ι N.H A' ι' H'∧RA mg ι' H' A'∧R c A'
def dCall(n:Nat)(S:Ct)(RE:DX)(m:DTA):DTE:=λτ A R=>m τ A λvs A1=>vs.length=n∧S vs A1 R RE
section
variable{X:Cx}{N:En}{k n:Nat}{x:Str}{ps:List Str}{S:Ct}{RE:DX}{e:Expr}{es:List Expr}{m:DTA}{p pos:Pos}
theorem de_call(F:FnX X.prog X.w X.K X.mg X.base k x ps (spOf X.mg n S))(hr:Room k X.A)(hx:Passes (CX1 X.prog X.w) X (EL X.mg N RE))(ha:PA X (e::es) (upA X.mg N m))(hg:Gl X x:=by rfl)(hdb:(x==("__debug__" :Str))=false:=by decide)
  (he:starEach (e::es) X.env=(false,eval e X.env)::starEach es X.env:=by rfl)(hpl:(backTo pos (starEach es X.env)).any (·.1)=false:=by rfl):
  PE X (.Call (.Name x p) (e::es) [] pos) (up X.mg N (dCall n S RE m)):=de_w (pe_callX F hr hx ha hg hdb he hpl) λσ H Q q=>by
 obtain⟨A,ι,τ,R,Z,q,k⟩:=q
 refine⟨A,ι,τ,_,Z,q,λvs A1 ι1 H1 us q1 e1 r1 v1=> ?_⟩
 show spOf X.mg n S (us++[]) H1 Q (EL X.mg N RE)
 rw[List.append_nil]
 exact⟨A1,ι1,vs,R,RE,q1.1,r1,v1,q1.2,k.from e1,λc A2 ι2 H2 C q2 hc e2 r2=>⟨c,A2,ι2,⟨C,rfl,hc⟩,(Z.ex.trans e1).trans e2,r2,q2⟩⟩
end
def startD(n:Nat)(ds:List D):DSt:=ds.map some++List.replicate n none
theorem lk_start:∀(ds:List D) (n i:Nat) (d:D),lk (startD n ds) i=some d->ds[i]? =some d
 |[],n,i,d,h=>by
  rw[lk_get] at h
  simp[startD,List.getElem?_replicate] at h
  split at h<;>simp at h
 |x::r,n,0,d,h=>by simpa[startD,lk] using h
 |x::r,n,i+1,d,h=>by simpa using lk_start r n i d h
theorem TopD.fnD{P:Program}{w:World}{K:PySem.W.Frag}{mg:Str->Option Value}{base:Heap}{x:Str}{st:Stmt}{Nm ps:List Str}{k n:Nat}{S:Ct}(T:TopD K mg x st ps)(Sc:FnScope Nm ps (defScope st))(hn:ps.length=n)(hN:ps.length≤Nm.length)
  (hbody:∀(N:En) (RE:DX) (X:Cx),X.prog=P->X.w=w->X.K=K->X.mg=mg->X.base=base->X.N=Nm->X.calm=true->X.ex=[]->(∃f cdv A outer s H E,X=cxOf (CX1 P w) P w K mg base Nm x (defScope st) f cdv A outer s H E)->Room k X.A->Raises X (EL X.mg N RE)->Passes (CX1 X.prog X.w) X (EL X.mg N RE)->
   ∀ds A R,S ds A R RE->ds.length=n->∃m,PSs X (defBody st) (upS X.mg N m)∧m {nx:=λ_ A'=>R .non A',rt:=R} (startD (Nm.length - n) ds) A):FnX P w K mg base (k+1) x ps (spOf mg n S):=by
 refine T.fnX Sc (λvs H Q E h=> ?_) λf cdv A outer s H vs Q E hr h=> ?_
 .obtain⟨A,ι,ds,R,RE,hl,_,hv,_⟩:=h
  rw[←RVs.length hv,hl,hn]
 .obtain⟨A0,ι0,ds,R,RE,hl,ra,hv,hS,kq,kx⟩:=h
  have hE:∀C a H',EL mg ⟨A0,ι0,H⟩ RE C a H'->E C none H':=λC a H' z=>by
   obtain⟨c,A',ι',⟨b,rfl,hc⟩,ex,r,q⟩:=z
   exact kx c A' ι' H' b q hc ex r
  obtain⟨m,hP,hm⟩:=hbody ⟨A0,ι0,H⟩ RE (cxOf (CX1 P w) P w K mg base Nm x (defScope st) f cdv A outer s H E) rfl rfl rfl rfl rfl rfl rfl rfl ⟨_,_,_,_,_,_,_,rfl⟩ hr
   (λpins σ H1 s1 e h' C args I mx z=>raisesX pins σ H1 s1 e h' C args I mx (hE _ _ _ z))
   (λpins σ H1 s1 e s' I z=>passX pins σ H1 s1 e s' I (by
    obtain⟨a,C,H',h1,h2,h3⟩:=z
    exact⟨a,C,H',h1,h2,hE _ _ _ h3⟩)) ds A0 R hS hl
  have hlv:=RVs.length hv
  refine⟨_,hP,A0,ι0,_,_,⟨ra,⟨?_,λi d q=> ?_⟩,ra.refl⟩,hm,⟨λτ A' ι' σ H' q e r _=>kq _ A' ι' H' _ q e r rfl,kq,λ_ _ _ _ _ q _ _ _=>q.elim,λ_ _ _ _ _ q _ _ _=>q.elim⟩⟩
  .simp[startD,L2.start]
   omega
  .obtain⟨v,h1,h2⟩:=RVs.get hv (lk_start ds _ i d q)
   refine⟨v,?_,h2⟩
   have hi:=(List.getElem?_eq_some_iff.mp h1).1
   unfold L2.start
   rw[List.getElem?_append_left (by simpa using hi),List.getElem?_map,h1]
   rfl
end DP
namespace DP
open PySem PySem.Spec PyProof.Rows L2
abbrev DCb:=List D->Ar->DK->Prop
def CbD(mg:Str->Option Value)(r:List V->Hp->VK->Prop)(f:DCb):Prop:=∀ds A ι H us R Q,RA mg ι H A->RVs mg ι A.length H ds us->f ds A R->Kt mg A ι H R Q->r us H Q
def dCb(f:DCb)(m:DTA):DTE:=λτ A R=>m τ A λvs A1=>f vs A1 R
section
variable{X:Cx}{N:En}{e:Expr}{es:List Expr}{m:DTA}{p pos:Pos}{f:DCb}{r:List V->Hp->VK->Prop}{x:Str}{id T:String}
theorem up_cb(h:CbD X.mg r f){σ:L2.St}{H:Hp}{Q:VK}(q:up X.mg N (dCb f m) σ H Q):tCB r (upA X.mg N m) σ H Q:=by
 obtain⟨A,ι,τ,R,S,q,k⟩:=q
 exact⟨A,ι,τ,_,S,q,λvs A1 ι1 H1 us q1 e1 r1 v1=>h vs A1 ι1 H1 us R Q r1 v1 q1 (k.from e1)⟩
theorem de_cb(hc:CallR X (.builtin id) r)(hd:CbD X.mg r f)(hm:X.mg x=none)(hv:bootBuiltins x=some (.builtin id))(ha:PA X (e::es) (upA X.mg N m))(hg:Gl X x:=by rfl)(hn:x≠"__name__" :=by decide)(hdb:(x==("__debug__" :Str))=false:=by decide)
 (he:starEach (e::es) X.env=(false,eval e X.env)::starEach es X.env:=by rfl)(hpl:(backTo pos (starEach es X.env)).any (·.1)=false:=by rfl):PE X (.Call (.Name x p) (e::es) [] pos) (up X.mg N (dCb f m)):=de_w (pe_callB hc hg hm hv ha hn hdb he hpl) λ_ _ _ h=>up_cb hd h
theorem de_cty(hc:CallR X (.type T) r)(hd:CbD X.mg r f)(hm:X.mg x=none)(hv:bootBuiltins x=some (.type T))(ha:PA X (e::es) (upA X.mg N m))(hg:Gl X x:=by rfl)(hn:x≠"__name__" :=by decide)(hdb:(x==("__debug__" :Str))=false:=by decide)
 (he:starEach (e::es) X.env=(false,eval e X.env)::starEach es X.env:=by rfl)(hpl:(backTo pos (starEach es X.env)).any (·.1)=false:=by rfl):PE X (.Call (.Name x p) (e::es) [] pos) (up X.mg N (dCb f m)):=de_w (pe_callTy hc hg hm hv ha hn hdb he hpl) λ_ _ _ h=>up_cb hd h
end
@[irreducible] def lenR(r:Nat)(A:Ar)(R:DK):Prop:=match A[r]? with
 |some (.lst xs)=>R (.int xs.length) A
 |some (.dct kvs)=>R (.int kvs.length) A
 |_=>False
def lenD:DCb:=λvs A R=>match vs with
 |[.tup xs]=>R (.int xs.length) A
 |[.str z]=>z.length≤sizeLine∧R (.int z.length) A
 |[.fl ns]=>R (.int ns.length) A
 |[.ref r]=>lenR r A R
 |_=>False
theorem RK.length{mg:Str->Option Value}{ι:Io}{H:Hp}:∀{ds:List (Key×D)} {vs:List (Key×V)} {n:Nat},RK mg ι n H ds vs->ds.length=vs.length
 |[],vs,_,h=>by have h':vs=[]:=h;rw[h'];rfl
 |d::ds,vs,n,h=>by
  obtain⟨x,r,rfl,_,e3⟩:=h
  simp[RK.length e3]
theorem c_len{X:Cx}:CallR X (.builtin "len") (λxs H Q=>(∃p ys,xs=[.ref p]∧(SqL X.K H p ys∨SqT X.K H p ys)∧Q (.int ys.length) H)∨(∃z,xs=[.str z]∧z.length≤sizeLine∧Q (.int z.length) H)∨∃a kvs,xs=[V.ref a]∧H a=some (.dK kvs)∧Q (.int kvs.length) H):=call_len_seq.or (call_len_str.or call_lenD)
theorem d_len{mg:Str->Option Value}{K:PySem.W.Frag}:CbD mg (λxs H Q=>(∃p ys,xs=[.ref p]∧(SqL K H p ys∨SqT K H p ys)∧Q (.int ys.length) H)∨(∃z,xs=[.str z]∧z.length≤sizeLine∧Q (.int z.length) H)∨∃a kvs,xs=[V.ref a]∧H a=some (.dK kvs)∧Q (.int kvs.length) H) lenD:=by
 intro ds A ι H us R Q ra rs h k
 unfold lenD at h
 split at h
 .obtain⟨_,_,rfl,⟨a,xs,rfl,e1,r1⟩,rfl⟩:=rs
  exact .inl ⟨a,xs,rfl,.inr (SqT.of e1),k.here ra h (by rw[RVs.length r1];rfl)⟩
 .obtain⟨_,_,rfl,rfl,rfl⟩:=rs
  exact .inr (.inl ⟨_,rfl,h.1,k.here ra h.2 rfl⟩)
 .obtain⟨_,_,rfl,⟨a,o,rfl,e1⟩,rfl⟩:=rs
  exact .inl ⟨a,_,rfl,.inl (.inl (.inr ⟨o,e1⟩)),k.here ra h (by rw[List.length_map];rfl)⟩
 .obtain⟨_,_,rfl,⟨_,rfl⟩,rfl⟩:=rs
  unfold lenR at h
  split at h
  .rename_i xs e
   obtain⟨us,h1,r1⟩:=ra.lst e
   exact .inl ⟨_,us,rfl,.inl (SqL.of h1),k.here ra h (by rw[RVs.length r1];rfl)⟩
  .rename_i xs e
   obtain⟨us,h1,r1⟩:=ra.dct e
   exact .inr (.inr ⟨_,us,rfl,h1,k.here ra h (by rw[RK.length r1];rfl)⟩)
  .exact h.elim
 .exact h.elim
@[irreducible] def lstR(r:Nat)(A:Ar)(R:DK):Prop:=match A[r]? with
 |some (.lst xs)=>R (.ref A.length) (A++[.lst xs])
 |_=>False
@[irreducible] def tupR(r:Nat)(A:Ar)(R:DK):Prop:=match A[r]? with
 |some (.lst xs)=>R (.tup xs) A
 |_=>False
def tupD:DCb:=λvs A R=>match vs with
 |[.tup xs]=>R (.tup xs) A
 |[.ref r]=>tupR r A R
 |_=>False
theorem d_tup{mg:Str->Option Value}{K:PySem.W.Frag}:CbD mg (λxs H Q=>∃p ys,xs=[.ref p]∧((SqL K H p ys∧∀l,H l=none->Q (.ref l) (upd H l (.tup ys)))∨(SqT K H p ys∧Q (.ref p) H))) tupD:=by
 intro ds A ι H us R Q ra rs h k
 unfold tupD at h
 split at h
 .obtain⟨_,_,rfl,⟨a,xs,rfl,e1,r1⟩,rfl⟩:=rs
  exact⟨a,xs,rfl,.inr ⟨SqT.of e1,k.here ra h ⟨a,xs,rfl,e1,r1⟩⟩⟩
 .obtain⟨_,_,rfl,⟨_,rfl⟩,rfl⟩:=rs
  unfold tupR at h
  split at h
  .rename_i xs e
   obtain⟨us,h1,r1⟩:=ra.lst e
   exact⟨_,us,rfl,.inl ⟨SqL.of h1,λp hp=>new_tup k ra r1 h hp⟩⟩
  .exact h.elim
 .exact h.elim
def maxD:DCb:=λvs A R=>match vs with
 |[.int i,.int j]=>R (.int (if j>i then j else i)) A
 |_=>False
theorem d_max{mg:Str->Option Value}:CbD mg (λxs H Q=>∃i j,xs=[.int i,.int j]∧Q (.int (if j>i then j else i)) H) maxD:=by
 intro ds A ι H us R Q ra rs h k
 unfold maxD at h
 split at h
 .obtain⟨_,_,rfl,rfl,_,_,rfl,rfl,rfl⟩:=rs
  exact⟨_,_,rfl,k.here ra h rfl⟩
 .exact h.elim
def bls:List D->Option (List Bool)
 |[]=>some []
 | .bl b::r=>(bls r).map (b::·)
 |_::_=>none
def intsD:List D->Option (List Int)
 |[]=>some []
 | .int b::r=>(intsD r).map (b::·)
 |_::_=>none
theorem bls_V{mg:Str->Option Value}{ι:Io}{n:Nat}{H:Hp}:∀{ds:List D} {us:List V} {bs:List Bool},bls ds=some bs->RVs mg ι n H ds us->us=bs.map V.bl
 |[],us,bs,h,r=>by cases h;exact r
 |d::ds,us,bs,h,r=>by
  obtain⟨x,r',rfl,h1,h2⟩:=r
  cases d with
  |bl b=>
   cases q:bls ds with
   |none=>simp[bls,q] at h
   |some l=>
    simp[bls,q] at h
    subst h
    rw[bls_V q h2]
    cases h1;rfl
  |_=>simp[bls] at h
theorem ints_V{mg:Str->Option Value}{ι:Io}{n:Nat}{H:Hp}:∀{ds:List D} {us:List V} {bs:List Int},intsD ds=some bs->RVs mg ι n H ds us->us=bs.map V.int
 |[],us,bs,h,r=>by cases h;exact r
 |d::ds,us,bs,h,r=>by
  obtain⟨x,r',rfl,h1,h2⟩:=r
  cases d with
  |int b=>
   cases q:intsD ds with
   |none=>simp[intsD,q] at h
   |some l=>
    simp[intsD,q] at h
    subst h
    rw[ints_V q h2]
    cases h1;rfl
  |_=>simp[intsD] at h
@[irreducible] def allR(r:Nat)(A:Ar)(R:DK):Prop:=match A[r]? with
 |some (.lst xs)=>(match bls xs with
  |some bs=>R (.bl (bs.all id)) A
  |none=>False)
 |_=>False
def allD:DCb:=λvs A R=>match vs with
 |[.ref r]=>allR r A R
 |_=>False
theorem d_all{mg:Str->Option Value}{K:PySem.W.Frag}:CbD mg (λxs H Q=>∃(p:Addr) (bs:List Bool),xs=[.ref p]∧SqL K H p (bs.map V.bl)∧Q (.bl (bs.all id)) H) allD:=by
 intro ds A ι H us R Q ra rs h k
 unfold allD at h
 split at h
 .obtain⟨_,_,rfl,⟨_,rfl⟩,rfl⟩:=rs
  unfold allR at h
  split at h
  .rename_i xs e
   split at h
   .rename_i bs eb
    obtain⟨us,h1,r1⟩:=ra.lst e
    exact⟨_,bs,rfl,SqL.of (by rw[h1,bls_V eb r1]),k.here ra h rfl⟩
   .exact h.elim
  .exact h.elim
 .exact h.elim
@[irreducible] def sumR(r:Nat)(A:Ar)(R:DK):Prop:=match A[r]? with
 |some (.lst xs)=>(match intsD xs with
  |some ns=>(∀n∈ns,0≤n∧n≤2 ^ 40)∧ns.length≤1000∧R (.int ns.sum) A
  |none=>False)
 |_=>False
def sumD:DCb:=λvs A R=>match vs with
 |[.ref r]=>sumR r A R
 |_=>False
theorem d_sum{mg:Str->Option Value}{K:PySem.W.Frag}:CbD mg (λxs H Q=>∃(p:Addr) (ns:List Int),xs=[.ref p]∧SqL K H p (ns.map V.int)∧(∀n∈ns,0≤n∧n≤2 ^ 40)∧ns.length≤1000∧Q (.int ns.sum) H) sumD:=by
 intro ds A ι H us R Q ra rs h k
 unfold sumD at h
 split at h
 .obtain⟨_,_,rfl,⟨_,rfl⟩,rfl⟩:=rs
  unfold sumR at h
  split at h
  .rename_i xs e
   split at h
   .rename_i bs eb
    obtain⟨us,h1,r1⟩:=ra.lst e
    exact⟨_,bs,rfl,SqL.of (by rw[h1,ints_V eb r1]),h.1,h.2.1,k.here ra h.2.2 rfl⟩
   .exact h.elim
  .exact h.elim
 .exact h.elim
def tyD(A:Ar):D->Option String
 | .non=>some "NoneType"
 | .bl _=>some "bool"
 | .int _=>some "int"
 | .str _=>some "str"
 | .tup _=>some "tuple"
 | .fl _=>some "list"
 | .exc _=>none
 | .ref r=>match A[r]? with
  |some (.lst _)=>some "list"
  |some (.dct _)=>some "dict"
  |_=>none
def isT(t c:String):Bool:=t==c||(t=="bool" &&c=="int")
def dIs(c:String)(m:DTE):DTE:=λτ A R=>m τ A λx A1=>match tyD A1 x with
 |some t=>R (.bl (isT t c)) A1
 |none=>False
def tys:List String:=["NoneType","bool","int","str","tuple","list","dict"]
theorem tyD_mem{A:Ar}{d:D}{t:String}(h:tyD A d=some t):t∈tys:=by
 cases d with
 |ref r=>
  unfold tyD at h
  simp only at h
  split at h<;>first|(cases h;decide)|cases h
 |exc c=>cases h
 |_=>cases h;decide
theorem RA.ty{mg:Str->Option Value}{K:PySem.W.Frag}{A:Ar}{ι:Io}{H:Hp}(ra:RA mg ι H A){d:D}{v:V}{t:String}(h:tyD A d=some t)(r:RV mg ι A.length H d v):TyR K H v (.type t):=by
 cases d with
 |non=>cases h;cases r;exact .of .non
 |bl b=>cases h;cases r;exact .of (.bl b)
 |int b=>cases h;cases r;exact .of (.int b)
 |str b=>cases h;cases r;exact .of (.str b)
 |tup ds=>cases h;obtain⟨a,xs,rfl,e,_⟩:=r;exact .of (.tup e)
 |fl ns=>cases h;obtain⟨a,o,rfl,e⟩:=r;exact .of (.frz e)
 |exc c=>cases h
 |ref q=>
  obtain⟨_,rfl⟩:=r
  unfold tyD at h
  simp only at h
  split at h
  .rename_i xs e
   cases h
   obtain⟨us,h1,_⟩:=ra.lst e
   exact .of (.lst h1)
  .rename_i xs e
   cases h
   obtain⟨us,h1,_⟩:=ra.dct e
   exact .of (.dK h1)
  .cases h
section
variable{X:Cx}{N:En}{e:Expr}{es:List Expr}{m:DTE}{p p2 pos:Pos}{x:Str}{c:String}
theorem de_is(hk:∀t∈tys,PySem.W.kitOne X.K (.type t) (.type c)=some (isT t c))(hm:X.mg "isinstance" =none)(hmx:X.mg x=none)(hvx:bootBuiltins x=some (.type c))(ha:PE X e (up X.mg N m))(hg:Gl X "isinstance" :=by rfl)(hgx:Gl X x:=by rfl)(hn:x≠"__name__" :=by decide)(hdb:(x==("__debug__" :Str))=false:=by decide)
  (hs:starEach [e,.Name x p2] X.env=[(false,eval e X.env),(false,eval (.Name x p2) X.env)]:=by rfl):
  PE X (.Call (.Name "isinstance" p) [e,.Name x p2] [] pos) (up X.mg N (dIs c m)):=by
 have hT:PE X (.Name x p2) (tC (.ty c)):=pe_bltn hgx hmx hvx rfl hn hdb
 refine de_w (pe_callB call_isI hg hm boot_isinstance (pa_cons ha (pa_cons hT pa_nil rfl) (by rw[hs];rfl)) (by decide) (by decide) (by rw[hs];rfl) rfl) λσ H Q q=> ?_
 obtain⟨A,ι,τ,R,S,q,k⟩:=q
 refine⟨A,ι,τ,_,S,q,λv A1 ι1 H1 u q1 e1 r1 v1=> ?_⟩
 have q1:(match tyD A1 v with|some t=>R (.bl (isT t c)) A1|none=>False):=q1
 split at q1
 .rename_i t ht
  exact⟨u,c,.type t,isT t c,rfl,r1.ty ht v1,hk t (tyD_mem ht),(k.from e1).here r1 q1 rfl⟩
 .exact q1.elim
end
abbrev DMt:=D->List D->Ar->DK->Prop
def MtD(mg:Str->Option Value)(K:PySem.W.Frag)(T:String)(r:V->List V->Hp->VK->Prop)(f:DMt):Prop:=∀x ds A ι H u us R Q,RA mg ι H A->RV mg ι A.length H x u->RVs mg ι A.length H ds us->f x ds A R->Kt mg A ι H R Q->r u us H Q
def isL(A:Ar):D->Bool
 | .ref r=>match A[r]? with
  |some (.lst _)=>true
  |_=>false
 |_=>false
def dMt(f:DMt)(mo:DTE)(m:DTA):DTE:=λτ A R=>mo τ A λx A1=>isL A1 x=true∧m τ A1 λvs A2=>f x vs A2 R
theorem RA.isL{mg:Str->Option Value}{K:PySem.W.Frag}{A:Ar}{ι:Io}{H:Hp}(ra:RA mg ι H A){d:D}{v:V}(h:isL A d=true)(r:RV mg ι A.length H d v):tyV K "list" v H:=by
 cases d with
 |ref q=>
  obtain⟨_,rfl⟩:=r
  unfold DP.isL at h
  simp only at h
  split at h
  .rename_i xs e
   obtain⟨us,h1,_⟩:=ra.lst e
   exact .inl ⟨rfl,us,SqL.of h1⟩
  .cases h
 |_=>cases h
section
variable{X:Cx}{N:En}{e o:Expr}{es:List Expr}{mo:DTE}{m:DTA}{apos cpos:Pos}{f:DMt}{r:V->List V->Hp->VK->Prop}{name:Str}{id:String}
theorem de_mt(pa:PlainAttrs "list")(slot:Slot "list" name id)(hty:typeOf (.builtin id)=pure (.type "method_descriptor"))(hm:MtR X id r)(hd:MtD X.mg X.K "list" r f)(ho:PE X o (up X.mg N mo))(ha:PA X (e::es) (upA X.mg N m))
  (hbase:attributeBase o name X.env (eval o X.env)=eval o X.env:=by rfl)
  (hfew:((backTo cpos (starEach (e::es) X.env)).all (λx=> !x.1)&&(backToKw cpos (keywordEach [] X.env)).all (λx=>x.1.isSome)
   &&decide ((e::es).length+([]:List Keyword).length+(if ([]:List Keyword).isEmpty then 0 else 1)<30))=true:=by rfl)
  (hline:(apos.endLine==cpos.line)=true:=by rfl)(hs:starEach (e::es) X.env=(false,eval e X.env)::starEach es X.env:=by rfl)(hplain:(backTo cpos (starEach es X.env)).any (·.1)=false:=by rfl):
  PE X (.Call (.Attribute o name apos) (e::es) [] cpos) (up X.mg N (dMt f mo m)):=de_w (pe_bm pa slot hty hm ho ha hbase hfew hline hs hplain) λσ H Q q=>by
 obtain⟨A,ι,τ,R,S,q,k⟩:=q
 refine⟨A,ι,τ,_,S,q,λx A1 ι1 H1 u q1 e1 r1 v1=> ?_⟩
 refine⟨r1.isL q1.1 v1,A1,ι1,τ,_,S.next e1 r1,q1.2,λys A2 ι2 H2 us q2 e2 r2 v2=> ?_⟩
 exact hd x ys A2 ι2 H2 u us R Q r2 (RV.ext e2 x u v1) v2 q2 (k.from (e1.trans e2))
end
theorem put_lst{mg:Str->Option Value}{A:Ar}{ι:Io}{H:Hp}{R:DK}{Q:VK}{ds es:List D}{xs ys:List V}{q:Nat}{d:D}{v:V}(k:Kt mg A ι H R Q)(r:RA mg ι H A)(hA:A[q]? =some (.lst ds))(hH:H (ι q)=some (.lst xs))(h:RVs mg ι A.length H es ys)
  (hq:R d (A.set q (.lst es)))(hd:∀H',RV mg ι A.length H' d v):Q v (upd H (ι q) (.lst ys)):=by
 have E:Ext A ι H (A.set q (.lst es)) ι (upd H (ι q) (.lst ys)):=r.ext_put (List.getElem?_eq_some_iff.mp hA).1
 obtain⟨r1,e1⟩:=r.put (c':= .lst es) (o:= .lst ys) hA hH rfl ⟨ys,upd_same,by simpa using RVs.ext E es ys h⟩
 exact k _ _ _ _ _ hq e1 r1 (by simpa using hd _)
@[irreducible] def appR(r:Nat)(y:D)(A:Ar)(R:DK):Prop:=match A[r]? with
 |some (.lst xs)=>xs.length<sizeLine∧R .non (A.set r (.lst (xs++[y])))
 |_=>False
def appD:DMt:=λx vs A R=>match x,vs with
 | .ref r,[y]=>appR r y A R
 |_,_=>False
theorem d_app{mg:Str->Option Value}{K:PySem.W.Frag}:MtD mg K "list" rAppend appD:=by
 intro x ds A ι H u us R Q ra rx rs h k
 unfold appD at h
 split at h
 .obtain⟨_,rfl⟩:=rx
  obtain⟨v,_,rfl,rv,rfl⟩:=rs
  unfold appR at h
  split at h
  .rename_i xs e
   obtain⟨ws,h1,r1⟩:=ra.lst e
   exact⟨_,ws,v,rfl,rfl,h1,by rw[←RVs.length r1];exact h.1,put_lst k ra e h1 (r1.app (es:=[_]) (ws:=[v]) ⟨v,[],rfl,rv,rfl⟩) h.2 λ_=>rfl⟩
  .exact h.elim
 .exact h.elim
@[irreducible] def extR(r q:Nat)(A:Ar)(R:DK):Prop:=match A[r]?,A[q]? with
 |some (.lst xs),some (.lst ys)=>xs.length+ys.length≤sizeLine∧R .non (A.set r (.lst (xs++ys)))
 |_,_=>False
def extD:DMt:=λx vs A R=>match x,vs with
 | .ref r,[.ref q]=>extR r q A R
 |_,_=>False
theorem d_ext{mg:Str->Option Value}{K:PySem.W.Frag}:MtD mg K "list" rExtend extD:=by
 intro x ds A ι H u us R Q ra rx rs h k
 unfold extD at h
 split at h
 .obtain⟨_,rfl⟩:=rx
  obtain⟨v,_,rfl,⟨_,rfl⟩,rfl⟩:=rs
  unfold extR at h
  split at h
  .rename_i xs ys e e2
   obtain⟨ws,h1,r1⟩:=ra.lst e
   obtain⟨zs,h2,r2⟩:=ra.lst e2
   exact⟨_,_,ws,zs,rfl,rfl,h1,h2,by rw[←RVs.length r1,←RVs.length r2];exact h.1,put_lst k ra e h1 (r1.app r2) h.2 λ_=>rfl⟩
  .exact h.elim
 .exact h.elim
def sRaise(RE:DX)(c:Str)(m:DTA):DTS:=λ_ τ A=>m τ A λvs A1=>vs.length≤sizeLine∧RE c A1
theorem ds_raise{X:Cx}{N:En}{RE:DX}{x:Str}{C:Addr}{e:Expr}{m:DTA}{np cpos pos:Pos}(hR:Raises X (EL X.mg N RE))(hc:X.calm=true)(hm:X.mg x=some (.ref C))(hC:PySem.W.excIn X.K C vErr "ValueError.__new__" =true)(ha:PA X [e] (upA X.mg N m))(hg:Gl X x:=by rfl)(hdb:(x==("__debug__" :Str))=false:=by decide)
  (he:starEach [e] X.env=[(false,eval e X.env)]:=by rfl):PS X (.Raise (some (.Call (.Name x np) [e] [] cpos)) none pos) (upS X.mg N (sRaise RE x m)):=ds_w (ps_raise hR hc hm hC ha hg hdb he) λQ σ H q=>by
 obtain⟨A,ι,τ,R,S,q,k⟩:=q
 exact⟨A,ι,τ,_,S,q,λvs A1 ι1 H1 us q1 e1 r1 v1=>⟨by rw[←RVs.length v1];exact q1.1,x,A1,ι1,⟨C,rfl,hm⟩,S.ex.trans e1,r1,q1.2⟩⟩
end DP
namespace DP
open PySem PySem.Spec PyProof.Rows L2
def flD:D->Bool
 | .int _| .str _=>true
 |_=>false
def eqF:D->D->Bool
 | .int i,.int j=>decide (i=j)
 | .str a,.str b=>decide (a=b)
 |_,_=>false
def inF(x:D)(xs:List D):Bool:=xs.any λy=>eqF y x
section
variable{mg:Str->Option Value}{K:PySem.W.Frag}{A:Ar}{ι:Io}{H:Hp}{n:Nat}
theorem fl_V{d:D}{v:V}(h:flD d=true)(r:RV mg ι n H d v):flatV v=true:=by
 cases d with
 |int i=>cases r;rfl
 |str i=>cases r;rfl
 |_=>cases h
theorem eqF_V{d e:D}{u v:V}(h1:flD d=true)(h2:flD e=true)(r1:RV mg ι n H d u)(r2:RV mg ι n H e v):eqV u v=eqF d e:=by
 cases d with
 |int i=>
  cases r1
  cases e with
  |int j=>cases r2;simp[eqV,eqF,Bool.beq_eq_decide_eq]
  |str j=>cases r2;rfl
  |_=>cases h2
 |str i=>
  cases r1
  cases e with
  |int j=>cases r2;rfl
  |str j=>cases r2;simp[eqV,eqF,Bool.beq_eq_decide_eq]
  |_=>cases h2
 |_=>cases h1
theorem inF_V{x:D}{v:V}(hx:flD x=true)(rx:RV mg ι n H x v):∀{ds:List D} {vs:List V},ds.all flD=true->RVs mg ι n H ds vs->inV v vs=inF x ds∧vs.all flatV=true
 |[],vs,_,r=>by cases (show vs=[] from r);exact⟨rfl,rfl⟩
 |d::ds,vs,h,r=>by
  obtain⟨y,r',rfl,h1,h2⟩:=r
  have h':flD d=true∧ds.all flD=true:=by simpa using h
  obtain⟨g1,g2⟩:=inF_V hx rx h'.2 h2
  constructor
  .show(eqV y v||inV v r')=(eqF d x||inF x ds)
   rw[eqF_V h'.1 hx h1 rx,g1]
  .simp[fl_V h'.1 h1,g2]
end
abbrev rInD(neg:Bool):R2:=λx y H Q=>∃a o,y= .ref a∧DGet H a x o∧Q (.bl (if neg then !o.isSome else o.isSome)) H
theorem o_inD{X:Cx}(hu:X.A.units+64<cLine):OpR X (compareOp .In) (rInD false):=by
 intro pins s σ H x y v u Q I rx ry h
 obtain⟨a,o,rfl,g,q⟩:=h
 cases ry
 exact d_in (by omega) I g rx λs3 I3=>⟨.bl o.isSome,H,I3,rfl,q⟩
theorem o_notInD{X:Cx}(hu:X.A.units+64<cLine):OpR X (compareOp .NotIn) (rInD true):=by
 intro pins s σ H x y v u Q I rx ry h
 obtain⟨a,o,rfl,g,q⟩:=h
 cases ry
 exact d_notIn (by omega) I g rx λs3 I3=>⟨.bl (!o.isSome),H,I3,rfl,q⟩
@[irreducible] def inR(neg:Bool)(x:D)(r:Nat)(A:Ar)(R:DK):Prop:=match A[r]? with
 |some (.lst xs)=>flD x=true∧xs.all flD=true∧R (.bl (if neg then !inF x xs else inF x xs)) A
 |some (.dct kvs)=>(match keyD x with
  |some k=>R (.bl (if neg then !(getK kvs k).isSome else (getK kvs k).isSome)) A
  |none=>False)
 |_=>False
def inD(neg:Bool):DOp:=λx y A R=>match y with
 | .tup xs=>flD x=true∧xs.all flD=true∧R (.bl (if neg then !inF x xs else inF x xs)) A
 | .ref r=>inR neg x r A R
 |_=>False
theorem d_inD{mg:Str->Option Value}{K:PySem.W.Frag}(neg:Bool):OpD mg (λx y H Q=>rIn K neg x y H Q∨rInD neg x y H Q) (inD neg):=by
 intro x y A ι H u v R Q ra rx ry h k
 unfold inD at h
 split at h
 .obtain⟨a,xs,rfl,e1,r1⟩:=ry
  obtain⟨g1,g2⟩:=inF_V h.1 rx h.2.1 r1
  exact .inl ⟨a,xs,rfl,.inr (SqT.of e1),fl_V h.1 rx,g2,by rw[g1];exact k.here ra h.2.2 rfl⟩
 .obtain⟨_,rfl⟩:=ry
  unfold inR at h
  split at h
  .rename_i xs e
   obtain⟨us,h1,r1⟩:=ra.lst e
   obtain⟨g1,g2⟩:=inF_V h.1 rx h.2.1 r1
   exact .inl ⟨_,us,rfl,.inl (SqL.of h1),fl_V h.1 rx,g2,by rw[g1];exact k.here ra h.2.2 rfl⟩
  .rename_i kvs e
   obtain⟨us,h1,r1⟩:=ra.dct e
   split at h
   .rename_i ky ek
    cases keyD_kV ek rx
    obtain⟨g1,g2⟩:=RK.get (k:=ky) r1
    refine .inr ⟨_,valV us ky,rfl,.inl ⟨us,ky,.inl h1,rfl,rfl⟩,?_⟩
    have e2:(valV us ky).isSome=(getK kvs ky).isSome:=by
     cases q:getK kvs ky with
     |none=>rw[g2 q];rfl
     |some d=>obtain⟨z,hz,_⟩:=g1 d q;rw[hz];rfl
    rw[e2]
    exact k.here ra h rfl
   .exact h.elim
  .exact h.elim
 .exact h.elim
section
variable{X:Cx}{N:En}{pos:Pos}{a b c:Expr}{ma mb mc:DTE}{x:Str}
theorem vr(i:Nat)(hN:X.N[i]? =some x:=by rfl)(hv:Vis X.env.scope x:=by first|exact Or.inl rfl|exact Or.inr (Or.inl rfl)|exact Or.inr (Or.inr rfl))(hd:(x==("__debug__" :Str))=false:=by decide)
 (hcd:(x==("__classdict__" :Str))=false:=by decide):PE X (.Name x pos) (up X.mg N (dVar i)):=de_var hN hv hd hcd
theorem e_eq(hu:X.A.units+64<cLine)(ha:PE X a (up X.mg N ma))(hb:PE X b (up X.mg N mb)):PE X (.Compare a [.Eq] [b] pos) (up X.mg N (dOp eqD ma mb)):=de_cmp (o_eq hu) d_eq ha hb (nomark _)
theorem t_eq(hu:X.A.units+64<cLine)(ha:PE X a (up X.mg N ma))(hb:PE X b (up X.mg N mb)):PT X (.Compare a [.Eq] [b] pos) (upT X.mg N (dTest (dOp eqD ma mb))):=dt_cmp (o_eq hu) d_eq ha hb (nomark _)
theorem t_ne(hu:X.A.units+64<cLine)(ha:PE X a (up X.mg N ma))(hb:PE X b (up X.mg N mb)):PT X (.Compare a [.NotEq] [b] pos) (upT X.mg N (dTest (dOp neD ma mb))):=dt_cmp (o_ne hu) d_ne ha hb (nomark _)
theorem t_lt(ha:PE X a (up X.mg N ma))(hb:PE X b (up X.mg N mb)):PT X (.Compare a [.Lt] [b] pos) (upT X.mg N (dTest (dOp ltD ma mb))):=dt_cmp o_lt d_lt ha hb (nomark _)
theorem t_gt(ha:PE X a (up X.mg N ma))(hb:PE X b (up X.mg N mb)):PT X (.Compare a [.Gt] [b] pos) (upT X.mg N (dTest (dOp gtD ma mb))):=dt_cmp op_gt d_gt ha hb (nomark _)
theorem t_isnt(ha:PE X a (up X.mg N ma))(hb:PE X b (up X.mg N mb)):PT X (.Compare a [.IsNot] [b] pos) (upT X.mg N (dTest (dOp notND ma mb))):=dt_cmp op_notN d_notN ha hb (nomark _)
theorem e_in(hu:X.A.units+64<cLine)(ha:PE X a (up X.mg N ma))(hb:PE X b (up X.mg N mb))(hm:behindInMarks .In b=false:=by rfl):PE X (.Compare a [.In] [b] pos) (up X.mg N (dOp (inD false) ma mb)):=de_cmp (op_in_seq.or (o_inD hu)) (d_inD false) ha hb hm
theorem t_in(hu:X.A.units+64<cLine)(ha:PE X a (up X.mg N ma))(hb:PE X b (up X.mg N mb))(hm:behindInMarks .In b=false:=by rfl):PT X (.Compare a [.In] [b] pos) (upT X.mg N (dTest (dOp (inD false) ma mb))):=dt_cmp (op_in_seq.or (o_inD hu)) (d_inD false) ha hb hm
theorem t_nin(hu:X.A.units+64<cLine)(ha:PE X a (up X.mg N ma))(hb:PE X b (up X.mg N mb))(hm:behindInMarks .NotIn b=false:=by rfl):PT X (.Compare a [.NotIn] [b] pos) (upT X.mg N (dTest (dOp (inD true) ma mb))):=dt_cmp (op_notIn_seq.or (o_notInD hu)) (d_inD true) ha hb hm
theorem e_lele(ha:PE X a (up X.mg N ma))(hb:PE X b (up X.mg N mb))(hc:PE X c (up X.mg N mc))(hm:lastMarks [.LtE,.LtE] [b,c]=false:=by with_unfolding_all rfl):PE X (.Compare a [.LtE,.LtE] [b,c] pos) (up X.mg N (dChain leD leD ma mb mc)):=de_chain o_le o_le d_le d_le ha hb hc hm
theorem t_lele(ha:PE X a (up X.mg N ma))(hb:PE X b (up X.mg N mb))(hc:PE X c (up X.mg N mc))(hm:lastMarks [.LtE,.LtE] [b,c]=false:=by with_unfolding_all rfl):PT X (.Compare a [.LtE,.LtE] [b,c] pos) (upT X.mg N (dTest (dChain leD leD ma mb mc))):=dt_chain o_le o_le d_le d_le ha hb hc hm
end
theorem fnD{P:Program}{w:World}{K:PySem.W.Frag}{mg:Str->Option Value}{base:Heap}{x:Str}{st:Stmt}{Nm ps:List Str}{k n:Nat}{S:Ct}(T:TopD K mg x st ps)(Sc:FnScope Nm ps (defScope st))(hn:ps.length=n)(hN:ps.length≤Nm.length)
  (hbody:∀(N:En) (RE:DX) (f:Addr) (cdv:Value) (B:Around) (outer:List Env) (s:Shared) (H:Hp) (E:XK),Room k (cxOf (CX1 P w) P w K mg base Nm x (defScope st) f cdv B outer s H E).A->
   Raises (cxOf (CX1 P w) P w K mg base Nm x (defScope st) f cdv B outer s H E) (EL mg N RE)->Passes (CX1 P w) (cxOf (CX1 P w) P w K mg base Nm x (defScope st) f cdv B outer s H E) (EL mg N RE)->
   ∀ds A R,S ds A R RE->ds.length=n->∃m,PSs (cxOf (CX1 P w) P w K mg base Nm x (defScope st) f cdv B outer s H E) (defBody st) (upS mg N m)∧m {nx:=λ_ A'=>R .non A',rt:=R} (startD (Nm.length - n) ds) A):FnX P w K mg base (k+1) x ps (spOf mg n S):=by
 refine TopD.fnD T Sc hn hN λN RE X _ _ _ _ _ _ _ _ hX hr hR hx ds A R h hl=> ?_
 obtain⟨f,cdv,B,outer,s,H,E,rfl⟩:=hX
 exact hbody N RE f cdv B outer s H E hr hR hx ds A R h hl
end DP
namespace DP
open PySem PySem.Spec PyProof.Rows L2
def sWhile(c:DTT)(b:DTS):DTS:=λR τ A=>∃W:Nat->DSt->Ar->Prop,(∃n,W n τ A)∧∀n τ A,W n τ A->c τ A λk A1=>cond k (∃Nx:DSt->Ar->Prop,(∀τ' A',Nx τ' A'->∃n',n'<n∧W n' τ' A')∧b {R with nx:=Nx,ct:=Nx,bk:=R.nx} τ A1) (R.nx τ A1)
section
variable{X:Cx}{N:En}{pos:Pos}{c:Expr}{body:List Stmt}{tc:DTT}{tb:DTS}
theorem ds_while(hp:PassesOwn (model X.prog X.w) X.A X.env X.xe)(hc:PT X c (upT X.mg N tc))(hb:PSs X body (upS X.mg N tb)):PS X (.While c body [] pos) (upS X.mg N (sWhile tc tb)):=ds_w (ps_while hp hc hb) λQ σ H q=>by
 obtain⟨A,ι,τ,R,S,⟨W,⟨n,w0⟩,turn⟩,k⟩:=q
 refine⟨λn σ' H'=>∃A' ι' τ',Sim X.mg N A' ι' τ' σ' H'∧Ext A ι H A' ι' H'∧W n τ' A',⟨n,A,ι,τ,S,S.ra.refl,w0⟩,?_⟩
 rintro m σ1 H1 ⟨A1,ι1,τ1,S1,e1,w1⟩
 refine⟨A1,ι1,τ1,_,S1,turn m τ1 A1 w1,λb A2 ι2 H2 q2 e2 r2=> ?_⟩
 cases b with
 |true=>
  rw[if_pos rfl]
  obtain⟨Nx,hN,q2⟩:=q2
  refine⟨λσ' H'=>∃A' ι' τ',Sim X.mg N A' ι' τ' σ' H'∧Ext A ι H A' ι' H'∧Nx τ' A',λσ' H' ⟨A',ι',τ',S',e',z⟩=> ?_,?_⟩
  .obtain⟨m',hm,w'⟩:=hN τ' A' z
   exact⟨m',hm,A',ι',τ',S',e',w'⟩
  .refine⟨A2,ι2,τ1,_,S1.next e2 r2,q2,⟨?_,k.rt.from (e1.trans e2),k.nx.from (e1.trans e2),?_⟩⟩
   .exact λτ3 A3 ι3 σ3 H3 q3 e3 r3 s3=>⟨A3,ι3,τ3,(S1.next e2 r2).to e3 r3 s3,(e1.trans e2).trans e3,q3⟩
   .exact λτ3 A3 ι3 σ3 H3 q3 e3 r3 s3=>⟨A3,ι3,τ3,(S1.next e2 r2).to e3 r3 s3,(e1.trans e2).trans e3,q3⟩
 |false=>
  rw[if_neg Bool.false_ne_true]
  exact(k.nx.from (e1.trans e2)).here (S1.next e2 r2) q2
end
structure JOk(mg:Str->Option Value)(A0:Ar)(ι0:Io)(H0:Hp)(J:It)(items:List D)(chk:Ar->Prop):Prop where
 go:∀(i:Nat) d A ι H,items[i]? =some d->Ext A0 ι0 H0 A ι H->RA mg ι H A->chk A->J.go i H∧∀x H',J.yld i H x H'->Ext A ι H A ι H'∧RA mg ι H' A∧RV mg ι A.length H' d x
 stop:∀A ι H,Ext A0 ι0 H0 A ι H->RA mg ι H A->chk A->J.stop items.length H
abbrev DTI:=DSt->Ar->(List D->(Ar->Prop)->Ar->Prop)->Prop
def upI(mg:Str->Option Value)(N:En)(m:DTI):TI:=λσ H Q=>∃A ι τ R,Sim mg N A ι τ σ H∧m τ A R∧∀items chk A' ι' H' J,R items chk A'->Ext A ι H A' ι' H'->RA mg ι' H' A'->JOk mg A' ι' H' J items chk->Q J H'
theorem di_w{X:Cx}{tg e:Expr}{t t':TI}(h:PI X tg e t)(w:∀σ H Q,t' σ H Q->t σ H Q):PI X tg e t':=λpins s σ H Q I q=>h pins s σ H Q I (w σ H Q q)
section
variable{mg:Str->Option Value}{K:PySem.W.Frag}{A:Ar}{ι:Io}{H:Hp}
theorem jok_tup{a:Addr}{ds:List D}{xs:List V}(he:H a=some (.tup xs))(hr:RVs mg ι A.length H ds xs):JOk mg A ι H (Itt K a) ds (λ_=>True) where
 go:=λi d A1 ι1 H1 hd e r _=>by
  have he':=e.fix rfl he
  obtain⟨v,h1,h2⟩:=RVs.get (RVs.ext e ds xs hr) hd
  refine⟨⟨xs,v,SqT.of he',h1⟩,λx H' y=> ?_⟩
  obtain⟨rfl,y⟩:=y
  have:=y xs (SqT.of he')
  rw[h1] at this;cases this
  exact⟨r.refl,r,h2⟩
 stop:=λA1 ι1 H1 e r _=>⟨xs,SqT.of (e.fix rfl he),by rw[RVs.length hr];exact Nat.le_refl _⟩
theorem jok_fl{a:Addr}{o:Obj}{ns:List Int}(he:H a=some (.frz o (.lst (ns.map V.int)))):JOk mg A ι H (Itl K a) (ns.map D.int) (λ_=>True) where
 go:=λi d A1 ι1 H1 hd e r _=>by
  have he':SqL K H1 a (ns.map V.int):= .inl (.inr ⟨o,e.fix rfl he⟩)
  obtain⟨v,h1,h2⟩:=RVs.get (RVs.ints (mg:=mg) (ι:=ι1) (H:=H1) ns (n:=A1.length)) hd
  refine⟨⟨_,v,he',h1⟩,λx H' y=> ?_⟩
  obtain⟨rfl,y⟩:=y
  have:=y _ he'
  rw[h1] at this;cases this
  exact⟨r.refl,r,h2⟩
 stop:=λA1 ι1 H1 e r _=>⟨_,.inl (.inr ⟨o,e.fix rfl he⟩),by simp⟩
theorem jok_lst{q:Nat}{ds:List D}(hq:q<A.length):JOk mg A ι H (Itl K (ι q)) ds (λA'=>A'[q]? =some (.lst ds)) where
 go:=λi d A1 ι1 H1 hd e r hc=>by
  obtain⟨xs,h1,h2⟩:=r.lst hc
  rw[e.ag q hq] at h1
  obtain⟨v,h3,h4⟩:=RVs.get h2 hd
  refine⟨⟨xs,v,SqL.of h1,h3⟩,λx H' y=> ?_⟩
  obtain⟨rfl,y⟩:=y
  have:=y xs (SqL.of h1)
  rw[h3] at this;cases this
  exact⟨r.refl,r,h4⟩
 stop:=λA1 ι1 H1 e r hc=>by
  obtain⟨xs,h1,h2⟩:=r.lst hc
  rw[e.ag q hq] at h1
  exact⟨xs,SqL.of h1,by rw[RVs.length h2];exact Nat.le_refl _⟩
def rng(lo:Int)(n:Nat):List D:=(List.range n).map λ(i:Nat)=>D.int (lo+i)
theorem jok_rng{lo:Int}{n:Nat}:JOk mg A ι H (Itr lo n) (rng lo n) (λ_=>True) where
 go:=λi d A1 ι1 H1 hd e r _=>by
  unfold rng at hd
  rw[List.getElem?_map] at hd
  cases q:(List.range n)[i]? with
  |none=>rw[q] at hd;cases hd
  |some j=>
   rw[q] at hd
   have hi:=(List.getElem?_eq_some_iff.mp q).1
   have hj:=(List.getElem?_eq_some_iff.mp q).2
   simp at hi hj
   subst hj
   cases hd
   refine⟨hi,λx H' y=> ?_⟩
   obtain⟨rfl,rfl⟩:=y
   exact⟨r.refl,r,rfl⟩
 stop:=λA1 ι1 H1 e r _=>by
  show n≤_
  simp[rng]
def sgs(z:Str):List D:=z.cps.toList.map λc=>D.str ⟨#[c]⟩
theorem jok_str{z:Str}:JOk mg A ι H (Its z) (sgs z) (λ_=>True) where
 go:=λi d A1 ι1 H1 hd e r _=>by
  unfold sgs at hd
  rw[List.getElem?_map] at hd
  cases q:z.cps.toList[i]? with
  |none=>rw[q] at hd;cases hd
  |some j=>
   rw[q] at hd
   cases hd
   have hi:=(List.getElem?_eq_some_iff.mp q).1
   refine⟨show i<z.cps.size by simpa using hi,λx H' y=> ?_⟩
   obtain⟨rfl,c,hc,rfl⟩:=y
   have:z.cps.toList[i]? =some c:=by simpa using hc
   rw[q] at this;cases this
   exact⟨r.refl,r,rfl⟩
 stop:=λA1 ι1 H1 e r _=>by
  show _=_
  simp[sgs]
end
def iSq(K:PySem.W.Frag)(tl:TE):TI:=λσ H R=>tl σ H λx H1=>(∃a,x= .ref a∧(∃xs,SqL K H1 a xs)∧R (Itl K a) H1)∨(∃a,x= .ref a∧(∃xs,SqT K H1 a xs)∧R (Itt K a) H1)
theorem pi_sq{X:Cx}{tg l:Expr}{tl:TE}(hl:PE X l tl):PI X tg l (iSq X.K tl):=by
 intro pins s σ H R I h
 refine thn (hl pins s σ H _ I h) λv s1 ⟨x,H1,I1,r1,q1⟩=> ?_
 rcases q1 with⟨a,e,⟨xs,hq⟩,q⟩|⟨a,e,⟨xs,hq⟩,q⟩
 .subst e
  cases r1
  obtain⟨its,rv,p,hz⟩:=I1.list hq
  refine wpAny_pyIter_list p.isList ?_
  refine⟨s1.heap.objs.size,[s1.heap.objs.size],_,_,H1,rfl,I1.kept (t':=s1.toks) λb o e=>Heap.get?_push_of_some _ e,turn_list a _,⟨_,Heap.get?_push_size _ rfl,rfl,rfl⟩,λb hb=> ?_,q⟩
  have e:b=s1.heap.objs.size:=by simpa using hb
  subst e
  exact I1.fpOk (Nat.le_refl _) (I1.hok.fresh (Nat.le_refl _))
 .subst e
  cases r1
  obtain⟨its,rv,p,hz⟩:=I1.tuple hq
  refine wpAny_pyIter_tuple (show s1.heap.IsTuple a its.toArray from p) ?_
  refine⟨s1.heap.objs.size,[s1.heap.objs.size],_,_,H1,rfl,I1.kept (t':=s1.toks) λb o e=>Heap.get?_push_of_some _ e,turn_tuple a _,⟨_,Heap.get?_push_size _ rfl,rfl,rfl⟩,λb hb=> ?_,q⟩
  have e:b=s1.heap.objs.size:=by simpa using hb
  subst e
  exact I1.fpOk (Nat.le_refl _) (I1.hok.fresh (Nat.le_refl _))
@[irreducible] def itR(r:Nat)(A:Ar)(R:List D->(Ar->Prop)->Ar->Prop):Prop:=match A[r]? with
 |some (.lst xs)=>R xs (λA'=>A'[r]? =some (.lst xs)) A
 |_=>False
def iSeq(m:DTE):DTI:=λτ A R=>m τ A λx A1=>match x with
 | .tup xs=>R xs (λ_=>True) A1
 | .fl ns=>R (ns.map .int) (λ_=>True) A1
 | .ref r=>itR r A1 R
 |_=>False
def iStrD(m:DTE):DTI:=λτ A R=>m τ A λx A1=>match x with
 | .str z=>R (sgs z) (λ_=>True) A1
 |_=>False
def iR1(n:DTA):DTI:=λτ A R=>n τ A λvs A1=>match vs with
 |[.int j]=> -(2 ^ 62)≤j∧j<2 ^ 62∧R (rng 0 j.toNat) (λ_=>True) A1
 |_=>False
section
variable{X:Cx}{N:En}{pos p:Pos}{tg e a b:Expr}{m:DTE}{n:DTA}{nm:Str}{px:Pos}
theorem di_seq(he:PE X e (up X.mg N m)):PI X tg e (upI X.mg N (iSeq m)):=di_w (pi_sq he) λσ H Q q=>by
 obtain⟨A,ι,τ,R,S,q,k⟩:=q
 refine⟨A,ι,τ,_,S,q,λx A1 ι1 H1 u q1 e1 r1 v1=> ?_⟩
 cases x with
 |tup ds=>
  obtain⟨b,xs,rfl,h1,h2⟩:=v1
  exact .inr ⟨b,rfl,⟨xs,SqT.of h1⟩,k ds _ A1 ι1 H1 _ q1 e1 r1 (jok_tup h1 h2)⟩
 |fl ns=>
  obtain⟨b,o,rfl,h1⟩:=v1
  exact .inl ⟨b,rfl,⟨_,.inl (.inr ⟨o,h1⟩)⟩,k _ _ A1 ι1 H1 _ q1 e1 r1 (jok_fl h1)⟩
 |ref r=>
  obtain⟨hr,rfl⟩:=v1
  have q1:itR r A1 R:=q1
  unfold itR at q1
  split at q1
  .rename_i xs e
   obtain⟨us,h1,_⟩:=r1.lst e
   exact .inl ⟨_,rfl,⟨us,SqL.of h1⟩,k _ _ A1 ι1 H1 _ q1 e1 r1 (jok_lst hr)⟩
  .exact q1.elim
 |_=>exact q1.elim
theorem di_str(he:PE X e (up X.mg N m)):PI X (.Name nm px) e (upI X.mg N (iStrD m)):=di_w (pi_str he) λσ H Q q=>by
 obtain⟨A,ι,τ,R,S,q,k⟩:=q
 refine⟨A,ι,τ,_,S,q,λx A1 ι1 H1 u q1 e1 r1 v1=> ?_⟩
 cases x with
 |str z=>exact⟨z,v1,k _ _ A1 ι1 H1 _ q1 e1 r1 jok_str⟩
 |_=>exact q1.elim
theorem di_range1(hm:X.mg "range" =none)(ha:PA X [a] (upA X.mg N n))(hg:Gl X "range" :=by rfl)(hs:starEach [a] X.env=[(false,eval a X.env)]:=by rfl):PI X tg (.Call (.Name "range" p) [a] [] pos) (upI X.mg N (iR1 n)):=di_w (pi_range1 hg hm ha hs) λσ H Q q=>by
 obtain⟨A,ι,τ,R,S,q,k⟩:=q
 refine⟨A,ι,τ,_,S,q,λx A1 ι1 H1 u q1 e1 r1 v1=> ?_⟩
 match x,q1,v1 with
 |[.int j],q1,v1=>
  obtain⟨_,_,rfl,rfl,rfl⟩:=v1
  exact⟨j,rfl,q1.1,q1.2.1,k _ _ A1 ι1 H1 _ q1.2.2 e1 r1 jok_rng⟩
end
def dLoop(chk:Ar->Prop)(g:DTG)(b:DTS)(R:DEnds):List D->DSt->Ar->Prop
 |[],τ,A=>chk A∧R.nx τ A
 |x::xs,τ,A=>chk A∧g x τ A λτ1 A1=>b {R with nx:=dLoop chk g b R xs,ct:=dLoop chk g b R xs,bk:=R.nx} τ1 A1
def sFor(it:DTI)(g:DTG)(b:DTS):DTS:=λR τ A=>it τ A λitems chk A1=>dLoop chk g b R items τ A1
theorem ds_for{X:Cx}{N:En}{pos:Pos}{tg iter:Expr}{body:List Stmt}{it:DTI}{g:DTG}{tb:DTS}(hp:PassesOwn (model X.prog X.w) X.A X.env X.xe)(hc:X.calm=true)(hi:PI X tg iter (upI X.mg N it))(hg:PG X tg (upG X.mg N g))(hb:PSs X body (upS X.mg N tb))
  (hs:∀x,foldedSetIterable iter X.env x=pure x:=by intro _;rfl):PS X (.For tg iter body [] pos) (upS X.mg N (sFor it g tb)):=ds_w (ps_for hp hc hi hg hb hs) λQ σ H q=>by
 obtain⟨A,ι,τ,R,S,q,k⟩:=q
 refine⟨A,ι,τ,_,S,q,λitems chk A1 ι1 H1 J q1 e1 r1 j1=> ?_⟩
 have S1:=S.next e1 r1
 refine⟨λi m σ' H'=>m=items.length - i∧i≤items.length∧∃A' ι' τ',Sim X.mg N A' ι' τ' σ' H'∧Ext A1 ι1 H1 A' ι' H'∧dLoop chk g tb R (items.drop i) τ' A',⟨_,rfl,Nat.zero_le _,A1,ι1,τ,S1,r1.refl,by simpa using q1⟩,?_⟩
 rintro i m σ2 H2 ⟨rfl,hi,A2,ι2,τ2,S2,e2,q2⟩
 by_cases hl:i<items.length
 .right
  have hd:items.drop i=items[i]::items.drop (i+1):=by rw[List.drop_eq_getElem_cons hl]
  rw[hd] at q2
  obtain⟨hchk,q2⟩:=q2
  obtain⟨g1,g2⟩:=j1.go i items[i] A2 ι2 H2 (by rw[List.getElem?_eq_getElem hl]) e2 S2.ra hchk
  refine⟨g1,λσ' H'=>∃A' ι' τ',Sim X.mg N A' ι' τ' σ' H'∧Ext A1 ι1 H1 A' ι' H'∧dLoop chk g tb R (items.drop (i+1)) τ' A',λσ' H' ⟨A',ι',τ',z⟩=>⟨_,by omega,rfl,hl,A',ι',τ',z⟩,λx H3 y=> ?_⟩
  obtain⟨e3,r3,v3⟩:=g2 x H3 y
  refine⟨A2,ι2,τ2,items[i],_,S2.next e3 r3,v3,q2,λτ4 A4 ι4 σ4 H4 q4 e4 r4 s4=> ?_⟩
  have e24:=e3.trans e4
  refine⟨A4,ι4,τ4,_,(S2.next e3 r3).to e4 r4 s4,q4,⟨?_,k.rt.from ((e1.trans e2).trans e24),k.nx.from ((e1.trans e2).trans e24),?_⟩⟩
  .exact λτ5 A5 ι5 σ5 H5 q5 e5 r5 s5=>⟨A5,ι5,τ5,((S2.next e3 r3).to e4 r4 s4).to e5 r5 s5,(e2.trans e24).trans e5,q5⟩
  .exact λτ5 A5 ι5 σ5 H5 q5 e5 r5 s5=>⟨A5,ι5,τ5,((S2.next e3 r3).to e4 r4 s4).to e5 r5 s5,(e2.trans e24).trans e5,q5⟩
 .left
  have e:i=items.length:=by omega
  subst e
  rw[List.drop_length] at q2
  exact⟨j1.stop A2 ι2 H2 e2 S2.ra q2.1,(k.nx.from (e1.trans e2)).here S2 q2.2⟩
end DP
namespace DP
open PySem PySem.Spec PyProof.Rows L2
def unp:Option Nat->D->Option (List D)
 |none,x=>some [x]
 |some k,.tup ds=>if ds.length=k then some ds else none
 |some _,_=>none
def cLoopD(chk:Ar->Prop)(k:Option Nat)(fr:DSt)(tt:DTT)(te:DTE)(R:List D->Ar->Prop):List D->List D->Ar->Prop
 |[],ys,A=>chk A∧R ys A
 |x::xs,ys,A=>chk A∧match unp k x with
  |some vs=>tt (vs.map some++fr) A λb A3=>cond b (te (vs.map some++fr) A3 λy A4=>ys.length<sizeLine∧cLoopD chk k fr tt te R xs (ys++[y]) A4) (cLoopD chk k fr tt te R xs ys A3)
  |none=>False
def dComp(k:Option Nat)(ix:List Nat)(it:DTI)(tt:DTT)(te:DTE):DTE:=λτ A R=>it τ A λitems chk A1=>cLoopD chk k (ix.map (lk τ)) tt te (λys A2=>R (.ref A2.length) (A2++[.lst ys])) items [] A1
def gsN:Nat->Nat->TGs
 |_,0=>gNil
 |i,n+1=>gCons (gName i) (gsN (i+1) n)
def tgL(K:PySem.W.Frag):Option Nat->TG
 |none=>gName 0
 |some k=>gTup K k (gsN 0 k)
theorem gs_run{Q:L2.St->Hp->Prop}{H:Hp}{fs:L2.St}:∀(xs:List V) (dn:L2.St),Q (dn++(xs.map some++fs)) H->gsN dn.length xs.length xs (dn++(List.replicate xs.length none++fs)) H Q
 |[],dn,h=>⟨rfl,by simpa using h⟩
 |x::r,dn,h=>by
  refine⟨x,r,rfl,?_⟩
  show gsN (dn.length+1) r.length r ((dn++(List.replicate (r.length+1) none++fs)).set dn.length (some x)) H Q
  have e:(dn++(List.replicate (r.length+1) none++fs)).set dn.length (some x)=(dn++[some x])++(List.replicate r.length none++fs):=by
   rw[List.set_append_right _ _ (Nat.le_refl _)]
   simp[List.replicate_succ]
  rw[e]
  have:=gs_run r (dn++[some x]) (by simpa using h)
  simpa using this
theorem kst_own{fs:L2.St}:∀(xs:L2.St),KSt (List.replicate xs.length none++fs) (xs++fs)
 |[]=>KSt.refl fs
 |x::r=> .own (kst_own r)
section
variable{mg:Str->Option Value}{K:PySem.W.Frag}{A:Ar}{ι:Io}{H:Hp}
theorem tg_run{k:Option Nat}{d:D}{vs:List D}{x:V}{n:Nat}(hu:unp k d=some vs)(r:RV mg ι n H d x):∃xs,RVs mg ι n H vs xs∧vs.length=k.getD 1∧∀(fs:L2.St) (Q:L2.St->Hp->Prop),Q (xs.map some++fs) H->tgL K k x (List.replicate (k.getD 1) none++fs) H Q:=by
 cases k with
 |none=>
  cases hu
  exact⟨[x],⟨x,[],rfl,r,rfl⟩,rfl,λfs Q q=>q⟩
 |some k=>
  cases d with
  |tup ds=>
   have hu:(if ds.length=k then some ds else none)=some vs:=hu
   by_cases hl:ds.length=k
   .rw[if_pos hl] at hu
    cases hu
    obtain⟨a,xs,rfl,h1,h2⟩:=r
    have hx:=RVs.length h2
    refine⟨xs,h2,hl,λfs Q q=>⟨a,xs,rfl,SqT.of h1,by rw[←hx];exact hl,?_⟩⟩
    have:=gs_run (Q:=Q) (H:=H) (fs:=fs) xs [] q
    show gsN 0 k xs (List.replicate k none++fs) H Q
    have e:k=xs.length:=by rw[←hx,hl]
    rw[e]
    exact this
   .rw[if_neg hl] at hu
    cases hu
  |_=>cases hu
theorem RA.off(R:RA mg ι H A){p:Addr}{o u:HO}(hp:∀r,r<A.length->ι r≠p)(hu:H p=some u)(hm:mutO u=true):RA mg ι (upd H p o) A:=
 ⟨λr c h=>CO.ag (Nat.le_refl _) (λ_ _=>rfl) (λb q m z=>by
  rw[upd_ne]
  .exact z
  .rintro rfl
   rw[hu] at z;cases z;rw[hm] at m;cases m) (λq z=>by rw[upd_ne (hp r (List.getElem?_eq_some_iff.mp h).1)];exact z) c (R.cel r c h),R.inj⟩
end
theorem stC_rep{own:List Str}{ix:List Nat}{σ:L2.St}:L2.stC own ix σ=List.replicate own.length none++ix.map λi=>(σ[i]?).join:=by
 unfold L2.stC
 rw[List.map_const']
theorem lk_app1:∀(ds:List D) (fr:DSt) (i:Nat) (d:D),lk (ds.map some++fr) i=some d->(ds[i]? =some d)∨(ds.length≤i∧lk fr (i - ds.length)=some d)
 |[],fr,i,d,h=> .inr ⟨Nat.zero_le _,by simpa using h⟩
 |x::r,fr,0,d,h=> .inl (by simpa[lk] using h)
 |x::r,fr,i+1,d,h=>by
  rcases lk_app1 r fr i d (by simpa[lk] using h) with q|⟨q1,q2⟩
  .exact .inl (by simpa using q)
  .exact .inr ⟨by simpa using q1,by simpa using q2⟩
theorem RS.block{mg:Str->Option Value}{ι:Io}{n:Nat}{H:Hp}{τ:DSt}{σ:L2.St}{ix:List Nat}{vs:List D}{xs:List V}(r:RS mg ι n H τ σ)(h:RVs mg ι n H vs xs):RS mg ι n H (vs.map some++ix.map (lk τ)) (xs.map some++ix.map λi=>(σ[i]?).join):=⟨by simp[RVs.length h],λi d q=>by
 have hl:=RVs.length h
 rcases lk_app1 vs _ i d q with q|⟨q1,q2⟩
 .obtain⟨v,h1,h2⟩:=RVs.get h q
  have hi:=(List.getElem?_eq_some_iff.mp h1).1
  exact⟨v,by rw[List.getElem?_append_left (by simpa using hi),List.getElem?_map,h1];rfl,h2⟩
 .rw[lk_get,List.getElem?_map] at q2
  cases e:ix[i - vs.length]? with
  |none=>rw[e] at q2;simp at q2
  |some j=>
   rw[e] at q2
   have q2:lk τ j=some d:=by simpa using q2
   obtain⟨v,h1,h2⟩:=r.at' j d q2
   refine⟨v,?_,h2⟩
   rw[List.getElem?_append_right (by simpa[←hl] using q1),List.getElem?_map,List.length_map,←hl,e]
   simp[h1]⟩
section
variable{X:Cx}{N:En}{own frees:List Str}{ix:List Nat}{it:DTI}{tt:DTT}{te:DTE}{k:Option Nat}
theorem up_comp(hk:own.length=k.getD 1){tT:CP->TT}(hT:∀c σ H Q,upT X.mg N tt σ H Q->tT c σ H Q){σ:L2.St}{H:Hp}{Q:VK}(q:up X.mg N (dComp k ix it tt te) σ H Q):tComp own ix (upI X.mg N it) (λ_=>tgL X.K k) tT (λ_=>up X.mg N te) σ H Q:=by
 obtain⟨A,ι,τ,R,S,q,kq⟩:=q
 refine⟨A,ι,τ,_,S,q,λitems chk A1 ι1 H1 J q1 e1 r1 j1 c acc hacc=> ?_⟩
 have S1:=S.next e1 r1
 rw[stC_rep,hk]
 have off1:∀r,r<A1.length->ι1 r≠acc:=λr hr z=>by
  obtain⟨o,h1,_⟩:=r1.im r hr
  rw[z,hacc] at h1;cases h1
 have rn:=r1.ext_fix (o:= .lst []) hacc
 refine⟨λi m ys H'=>m=items.length - i∧i≤items.length∧∃A' ι' yds,RA X.mg ι' H' A'∧Ext A1 ι1 H1 A' ι' H'∧(∀r,r<A'.length->ι' r≠acc)∧H' acc=some (.lst ys)∧RVs X.mg ι' A'.length H' yds ys∧cLoopD chk k (ix.map (lk τ)) tt te (λys A2=>R (.ref A2.length) (A2++[.lst ys])) (items.drop i) yds A',
  ⟨_,rfl,Nat.zero_le _,A1,ι1,[],r1.fix rn (λb o z=>by rw[upd_ne (ne_of_none z hacc)];exact z),rn,off1,upd_same,rfl,by simpa using q1⟩,?_⟩
 rintro i m ys H2 ⟨rfl,hi,A2,ι2,yds,r2,e2,off2,hy,ry,q2⟩
 refine⟨hy,?_⟩
 by_cases hl:i<items.length
 .right
  have hd:items.drop i=items[i]::items.drop (i+1):=by rw[List.drop_eq_getElem_cons hl]
  rw[hd] at q2
  obtain⟨hchk,q2⟩:=q2
  obtain⟨g1,g2⟩:=j1.go i items[i] A2 ι2 H2 (by rw[List.getElem?_eq_getElem hl]) e2 r2 hchk
  refine⟨g1,λys' H'=>∃A' ι' yds',RA X.mg ι' H' A'∧Ext A1 ι1 H1 A' ι' H'∧(∀r,r<A'.length->ι' r≠acc)∧H' acc=some (.lst ys')∧RVs X.mg ι' A'.length H' yds' ys'∧cLoopD chk k (ix.map (lk τ)) tt te (λys A2=>R (.ref A2.length) (A2++[.lst ys])) (items.drop (i+1)) yds' A',λys' H' z=>⟨_,by omega,rfl,hl,z⟩,λx H3 y=> ?_⟩
  obtain⟨e3,r3,v3⟩:=g2 x H3 y
  split at q2
  .rename_i vs hu
   obtain⟨xs,h1,h2,h3⟩:=tg_run (K:=X.K) hu v3
   refine h3 _ _ ⟨by have:=kst_own (fs:=ix.map λi=>(σ[i]?).join) (xs.map some);rw[List.length_map,←RVs.length h1,h2] at this;exact this,?_⟩
   have e13:=e2.trans e3
   have S3:Sim X.mg N A2 ι2 (vs.map some++ix.map (lk τ)) (xs.map some++ix.map λi=>(σ[i]?).join) H3:=⟨r3,RS.block (S1.rs.ext e13) h1,S1.ex.trans e13⟩
   have hy3:H3 acc=some (.lst ys):=e3.mo acc _ hy off2
   refine hT _ _ _ _ ⟨A2,ι2,_,_,S3,q2,λb A4 ι4 H4 q4 e4 r4=> ?_⟩
   have off4:∀r,r<A4.length->ι4 r≠acc:=λr hr z=>by
    by_cases hl:r<A2.length
    .rw[e4.ag r hl] at z;exact off2 r hl z
    .have:=e4.nw r (by omega) hr
     rw[z,hy3] at this;cases this
   have hy4:H4 acc=some (.lst ys):=e4.mo acc _ hy3 off2
   have ry4:=RVs.ext (e3.trans e4) yds ys ry
   cases b with
   |true=>
    refine iteT ?_
    refine⟨A4,ι4,_,_,S3.next e4 r4,q4,λv A5 ι5 H5 u q5 e5 r5 v5=> ?_⟩
    have hy5:H5 acc=some (.lst ys):=e5.mo acc _ hy4 off4
    have off5:∀r,r<A5.length->ι5 r≠acc:=λr hr z=>by
     by_cases hl:r<A4.length
     .rw[e5.ag r hl] at z;exact off4 r hl z
     .have:=e5.nw r (by omega) hr
      rw[z,hy4] at this;cases this
    have ry5:=RVs.ext e5 yds ys ry4
    have e15:=(e13.trans e4).trans e5
    have fx:∀b o,mutO o=false->H5 b=some o->upd H5 acc (.lst (ys++[u])) b=some o:=λb o m z=>by
     rw[upd_ne]
     .exact z
     .rintro rfl
      rw[hy5] at z;cases z;cases m
    refine⟨hy5,by rw[←RVs.length ry5];exact q5.1,A5,ι5,yds++[v],r5.off off5 hy5 rfl,⟨e15.len,e15.ag,e15.im,λb o z hn=> ?_,e15.nw,λb o z=> ?_⟩,off5,upd_same,?_,q5.2⟩
    .rw[upd_ne (ne_of_none z hacc)];exact e15.mo b o z hn
    .obtain⟨o',h'⟩:=e15.al b o z
     exact⟨o',by rw[upd_ne (ne_of_none z hacc)];exact h'⟩
    .exact RVs.ag (Nat.le_refl _) (λ_ _=>rfl) fx _ _ (ry5.app (es:=[v]) (ws:=[u]) ⟨u,[],rfl,v5,rfl⟩)
   |false=>
    refine iteF ?_
    exact⟨A4,ι4,yds,r4,e13.trans e4,off4,hy4,ry4,q4⟩
  .exact q2.elim
 .left
  have e:i=items.length:=by omega
  subst e
  rw[List.drop_length] at q2
  obtain⟨hchk,q2⟩:=q2
  refine⟨j1.stop A2 ι2 H2 e2 r2 hchk,?_⟩
  obtain⟨ι3,ag2,at2⟩:∃ι3:Io,(∀r,r<A2.length->ι3 r=ι2 r)∧ι3 A2.length=acc:=⟨λr=>if r=A2.length then acc else ι2 r,λr h=>by
   show(if r=A2.length then acc else ι2 r)=ι2 r
   rw[if_neg (by omega)],by
   show(if A2.length=A2.length then acc else ι2 A2.length)=acc
   rw[if_pos rfl]⟩
  refine kq (.ref A2.length) (A2++[.lst yds]) ι3 H2 _ q2 (e1.trans ⟨by have:=e2.len;simp;omega,λr h=>by rw[ag2 r (Nat.lt_of_lt_of_le h e2.len)];exact e2.ag r h,e2.im,e2.mo,λr h1 h2=> ?_,e2.al⟩) ⟨λr c h=> ?_,λr s hr hs h=> ?_⟩ ⟨by simp,by rw[at2]⟩
  .by_cases hr:r<A2.length
   .rw[ag2 r hr];exact e2.nw r h1 hr
   .have:r=A2.length:=by simp at h2;omega
    subst this
    rw[at2];exact hacc
  .by_cases hr:r<A2.length
   .rw[List.getElem?_append_left hr] at h
    have:=CO.ag (n':=(A2++[C.lst yds]).length) (ι':=ι3) (H':=H2) (by simp) ag2 (λ_ _ _ z=>z) (λ_ z=>z) c (r2.cel r c h)
    rw[ag2 r hr]
    exact this
   .have hr':r=A2.length:=by
     have:=(List.getElem?_eq_some_iff.mp h).1
     simp at this;omega
    subst hr'
    simp at h;subst h
    rw[at2]
    exact⟨ys,hy,RVs.ag (by simp) ag2 (λ_ _ _ z=>z) yds ys ry⟩
  .simp at hr hs
   by_cases h1:r=A2.length
   .by_cases h2:s=A2.length
    .rw[h1,h2]
    .subst h1
     rw[at2,ag2 s (by omega)] at h
     exact absurd h.symm (off2 s (by omega))
   .by_cases h2:s=A2.length
    .subst h2
     rw[at2,ag2 r (by omega)] at h
     exact absurd h (off2 r (by omega))
    .rw[ag2 r (by omega),ag2 s (by omega)] at h
     exact r2.inj r s (by omega) (by omega) h
end
def tt0:DTT:=λ_ A R=>R true A
section
variable{X:Cx}{N:En}{own frees:List Str}{ix:List Nat}{it:DTI}{tt:DTT}{te:DTE}(k:Option Nat){tg iter elt cnd:Expr}{scope:Scope}{pos:Pos}
theorem de_comp(hk:own.length=k.getD 1)(hi:PI X tg iter (upI X.mg N it))(hg:∀c,PG (cxC X (own++frees) scope c) tg (tgL X.K k))(he:∀c,PE (cxC X (own++frees) scope c) elt (up X.mg N te))(S:CScope X scope frees:=by exact⟨rfl,by decide+kernel,by decide+kernel,by decide+kernel,by decide+kernel,rfl⟩)(hc:X.calm=true:=by rfl)(hN:ix.map (λi=>X.N[i]?)=frees.map some:=by rfl)(hs:∀x,foldedSetIterable iter X.env x=pure x:=by intro _;rfl):
  PE X (.ListComp elt [⟨tg,iter,[],0⟩] scope pos) (up X.mg N (dComp k ix it tt0 te)):=
 de_w (pe_comp hi hg (λc=>PIf.nil) he S hc hN hs) λσ H Q q=>up_comp (own:=own) hk (λ_ σ H Q h=>by
  obtain⟨A,ι,τ,R,S,h,k⟩:=h
  exact k.here S.ra h) q
theorem de_compI(hk:own.length=k.getD 1)(hi:PI X tg iter (upI X.mg N it))(hg:∀c,PG (cxC X (own++frees) scope c) tg (tgL X.K k))(ht:∀c,PT (cxC X (own++frees) scope c) cnd (upT X.mg N tt))(he:∀c,PE (cxC X (own++frees) scope c) elt (up X.mg N te))(S:CScope X scope frees:=by exact⟨rfl,by decide+kernel,by decide+kernel,by decide+kernel,by decide+kernel,rfl⟩)(hc:X.calm=true:=by rfl)(hN:ix.map (λi=>X.N[i]?)=frees.map some:=by rfl)(hs:∀x,foldedSetIterable iter X.env x=pure x:=by intro _;rfl):
  PE X (.ListComp elt [⟨tg,iter,[cnd],0⟩] scope pos) (up X.mg N (dComp k ix it tt te)):=
 de_w (pe_comp hi hg (λc=>PIf.one (ht c)) he S hc hN hs) λσ H Q q=>up_comp (own:=own) hk (λ_ σ H Q h=>h) q
variable{i:Nat}{x:Str}{pos' spos:Pos}
theorem ds_compI(hNd:X.N.Nodup)(hi':X.N[i]? =some x)(hx:Loc X.env.scope x)(hk:own.length=k.getD 1)(hi:PI X tg iter (upI X.mg N it))(hg:∀c,PG (cxC X (own++frees) scope c) tg (tgL X.K k))(ht:∀c,PT (cxC X (own++frees) scope c) cnd (upT X.mg N tt))(he:∀c,PE (cxC X (own++frees) scope c) elt (up X.mg N te))(S:CScope X scope frees:=by exact⟨rfl,by decide+kernel,by decide+kernel,by decide+kernel,by decide+kernel,rfl⟩)(hc:X.calm=true:=by rfl)(hN:ix.map (λi=>X.N[i]?)=frees.map some:=by rfl)(hs:∀x,foldedSetIterable iter X.env x=pure x:=by intro _;rfl)
  (hsw:swapsWith (.ListComp elt [⟨tg,iter,[cnd],0⟩] scope pos) (some (.Name x pos')) spos.line X.env=pure true:=by rfl)(hf:X.fn x=true∨X.env.scope.names.lookup x=some .local:=by first|exact .inl rfl|exact .inr rfl|assumption):
  PS X (.Assign [.Name x pos'] (.ListComp elt [⟨tg,iter,[cnd],0⟩] scope pos) spos) (upS X.mg N (sSet i (dComp k ix it tt te))):=
 ds_w (ps_comp hNd hi' hx hi hg (λc=>PIf.one (ht c)) he S hc hN hs hsw hf) λQ σ H q=>by
  obtain⟨A,ι,τ,R,Z,q,k⟩:=q
  exact up_comp (own:=own) hk (λ_ σ H Q h=>h) ⟨A,ι,τ,_,Z,q,λv A1 ι1 H1 u q1 e1 r1 v1=>(k.nx.from e1).here ((Z.next e1 r1).set v1) q1⟩
end
end DP
namespace DP
open PySem PySem.Spec PyProof.Rows L2
abbrev DTO:=DSt->Ar->(Option Int->Ar->Prop)->Prop
def upO(mg:Str->Option Value)(N:En)(m:DTO):TO:=λσ H Q=>∃A ι τ R,Sim mg N A ι τ σ H∧m τ A R∧∀o A' ι' H',R o A'->Ext A ι H A' ι' H'->RA mg ι' H' A'->Q o H'
def oN:DTO:=λ_ A R=>R none A
def oS(m:DTE):DTO:=λτ A R=>m τ A λx A1=>match x with
 | .int i=>R (some i) A1
 |_=>False
def cutD(xs:List D)(lo hi:Option Int):List D:=(xs.drop (HT.sIx xs.length 0 lo)).take (HT.sIx xs.length xs.length hi - HT.sIx xs.length 0 lo)
theorem RVs.cut{mg:Str->Option Value}{ι:Io}{H:Hp}{n:Nat}{ds:List D}{vs:List V}(r:RVs mg ι n H ds vs)(lo hi:Option Int):RVs mg ι n H (cutD ds lo hi) (cutV vs lo hi):=by
 unfold cutD cutV
 rw[←RVs.length r]
 exact(r.drop _).take _
@[irreducible] def slR(r:Nat)(lo hi:Option Int)(A:Ar)(R:DK):Prop:=match A[r]? with
 |some (.lst xs)=>R (.ref A.length) (A++[.lst (cutD xs lo hi)])
 |_=>False
def slD(x:D)(lo hi:Option Int)(A:Ar)(R:DK):Prop:=match x with
 | .tup xs=>¬(HT.sIx xs.length 0 lo=0∧HT.sIx xs.length xs.length hi=xs.length)∧R (.tup (cutD xs lo hi)) A
 | .ref r=>slR r lo hi A R
 |_=>False
def dSl(m:DTE)(l u:DTO):DTE:=λτ A R=>m τ A λx A1=>l τ A1 λlo A2=>u τ A2 λhi A3=>slD x lo hi A3 R
section
variable{X:Cx}{N:En}{pos p2:Pos}{e:Expr}{lo hi:Option Expr}{m:DTE}{l u:DTO}
theorem do_w{t t':TO}(h:PO X lo t)(w:∀σ H Q,t' σ H Q->t σ H Q):PO X lo t':=λpins s σ H Q I q=>h pins s σ H Q I (w σ H Q q)
theorem do_none:PO X none (upO X.mg N oN):=do_w po_none λσ H Q q=>by
 obtain⟨A,ι,τ,R,S,q,k⟩:=q
 exact k none A ι H q S.ra.refl S.ra
theorem do_some(h:PE X e (up X.mg N m)):PO X (some e) (upO X.mg N (oS m)):=do_w (po_some h) λσ H Q q=>by
 obtain⟨A,ι,τ,R,S,q,k⟩:=q
 refine⟨A,ι,τ,_,S,q,λx A1 ι1 H1 u q1 e1 r1 v1=> ?_⟩
 cases x with
 |int i=>exact⟨i,v1,k (some i) A1 ι1 H1 q1 e1 r1⟩
 |_=>exact q1.elim
theorem de_sl(he:PE X e (up X.mg N m))(hl:PO X lo (upO X.mg N l))(hu:PO X hi (upO X.mg N u)):PE X (.Subscript e (.Slice lo hi none p2) pos) (up X.mg N (dSl m l u)):=
 de_w (pe_slice (sl_tup.or sl_list) he hl hu) λσ H Q q=>by
  obtain⟨A,ι,τ,R,S,q,k⟩:=q
  refine⟨A,ι,τ,_,S,q,λx A1 ι1 H1 v q1 e1 r1 v1=> ?_⟩
  refine⟨A1,ι1,τ,_,S.next e1 r1,q1,λo2 A2 ι2 H2 q2 e2 r2=> ?_⟩
  refine⟨A2,ι2,τ,_,(S.next e1 r1).next e2 r2,q2,λo3 A3 ι3 H3 q3 e3 r3=> ?_⟩
  have e13:=(e1.trans e2).trans e3
  have v3:=RV.ext (e2.trans e3) x v v1
  cases x with
  |tup ds=>
   obtain⟨a,xs,rfl,h1,h2⟩:=v3
   refine .inl ⟨a,xs,rfl,SqT.of h1,by rw[←RVs.length h2];exact q3.1,λp hp=>new_tup (k.from e13) r3 (h2.cut _ _) q3.2 hp⟩
  |ref r=>
   obtain⟨_,rfl⟩:=v3
   have q3:slR r o2 o3 A3 R:=q3
   unfold slR at q3
   split at q3
   .rename_i xs e
    obtain⟨us,h1,h2⟩:=r3.lst e
    exact .inr ⟨_,us,rfl,SqL.of h1,λp hp=>new_lst (k.from e13) r3 (h2.cut _ _) q3 hp⟩
   .exact q3.elim
  |_=>exact q3.elim
end
def strsD:List D->Option (List Str)
 |[]=>some []
 | .str b::r=>(strsD r).map (b::·)
 |_::_=>none
theorem strs_V{mg:Str->Option Value}{ι:Io}{n:Nat}{H:Hp}:∀{ds:List D} {us:List V} {bs:List Str},strsD ds=some bs->RVs mg ι n H ds us->us=bs.map V.str
 |[],us,bs,h,r=>by cases h;exact r
 |d::ds,us,bs,h,r=>by
  obtain⟨x,r',rfl,h1,h2⟩:=r
  cases d with
  |str b=>
   cases q:strsD ds with
   |none=>simp[strsD,q] at h
   |some l=>
    simp[strsD,q] at h
    subst h
    rw[strs_V q h2]
    cases h1;rfl
  |_=>simp[strsD] at h
theorem RVs.strs{mg:Str->Option Value}{ι:Io}{H:Hp}:∀(ns:List Str) {n:Nat},RVs mg ι n H (ns.map D.str) (ns.map V.str)
 |[],_=>rfl
 |i::r,n=>⟨_,_,rfl,rfl,RVs.strs r⟩
@[irreducible] def srtR(r:Nat)(A:Ar)(R:DK):Prop:=match A[r]? with
 |some (.lst xs)=>(match strsD xs with
  |some ss=>ss.length<64∧∀ys:List Str,ys.Pairwise strLt->(∀x,x∈ys↔x∈ss)->R (.ref A.length) (A++[.lst (ys.map D.str)])
  |none=>False)
 |_=>False
def srtD:DCb:=λvs A R=>match vs with
 |[.ref r]=>srtR r A R
 |_=>False
theorem de_sortset{X:Cx}{N:En}{e:Expr}{n:DTA}{p1 p2 pos1 pos2:Pos}(hms:X.mg "sorted" =none)(hmt:X.mg "set" =none)(hc:X.calm=true)(ha:PA X [e] (upA X.mg N n))(hgs:Gl X "sorted" :=by rfl)(hgt:Gl X "set" :=by rfl)
  (hs:starEach [e] X.env=[(false,eval e X.env)]:=by rfl)(hz:starEach [.Call (.Name "set" p2) [e] [] pos2] X.env=[(false,eval (.Call (.Name "set" p2) [e] [] pos2) X.env)]:=by rfl):
  PE X (.Call (.Name "sorted" p1) [.Call (.Name "set" p2) [e] [] pos2] [] pos1) (up X.mg N (dCb srtD n)):=de_w (pe_sortset hms hmt hc ha hgs hgt hs hz) λσ H Q q=>by
 obtain⟨A,ι,τ,R,S,q,k⟩:=q
 refine⟨A,ι,τ,_,S,q,λvs A1 ι1 H1 us q1 e1 r1 v1=> ?_⟩
 match vs,q1,v1 with
 |[.ref r],q1,v1=>
  obtain⟨_,_,rfl,⟨_,rfl⟩,rfl⟩:=v1
  have q1:srtR r A1 R:=q1
  unfold srtR at q1
  split at q1
  .rename_i xs e
   split at q1
   .rename_i ss es
    obtain⟨us,h1,h2⟩:=r1.lst e
    exact⟨_,ss,rfl,SqL.of (by rw[h1,strs_V es h2]),q1.1,λl ys hl hp hm=>new_lst (k.from e1) r1 (RVs.strs ys) (q1.2 ys hp hm) hl⟩
   .exact q1.elim
  .exact q1.elim
def putG{β:Type}(kvs:List (Key×β))(k:Key)(v:β):List (Key×β):=
 if (kvs.any λkv=>decide (kv.1=k))=true then kvs.map (λkv=>if kv.1=k then (kv.1,v) else kv) else kvs++[(k,v)]
section
variable{mg:Str->Option Value}{ι:Io}{H:Hp}{n:Nat}
theorem RK.any{k:Key}:∀{kvs:List (Key×D)} {xs:List (Key×V)},RK mg ι n H kvs xs->(kvs.any λkv=>decide (kv.1=k))=(xs.any λkv=>decide (kv.1=k))
 |[],xs,h=>by cases (show xs=[] from h);rfl
 |p::r,xs,h=>by
  obtain⟨x,r',rfl,h1,h2⟩:=h
  rw[List.any_cons,List.any_cons,RK.any h2]
theorem RK.mapv{k:Key}{d:D}{v:V}(hv:RV mg ι n H d v):∀{kvs:List (Key×D)} {xs:List (Key×V)},RK mg ι n H kvs xs->RK mg ι n H (kvs.map λkv=>if kv.1=k then (kv.1,d) else kv) (xs.map λkv=>if kv.1=k then (kv.1,v) else kv)
 |[],xs,h=>by cases (show xs=[] from h);rfl
 |p::r,xs,h=>by
  obtain⟨x,r',rfl,h1,h2⟩:=h
  rw[List.map_cons,List.map_cons]
  by_cases hp:p.1=k
  .rw[if_pos hp,if_pos hp];exact⟨v,_,rfl,hv,RK.mapv hv h2⟩
  .rw[if_neg hp,if_neg hp];exact⟨x,_,rfl,h1,RK.mapv hv h2⟩
theorem RK.app:∀{ds es:List (Key×D)} {vs ws:List (Key×V)},RK mg ι n H ds vs->RK mg ι n H es ws->RK mg ι n H (ds++es) (vs++ws)
 |[],_,vs,_,h,q=>by have h':vs=[]:=h;rw[h'];exact q
 |d::ds,es,vs,ws,h,q=>by
  obtain⟨x,r,rfl,e2,e3⟩:=h
  exact⟨x,r++ws,rfl,e2,RK.app e3 q⟩
theorem RK.put{k:Key}{d:D}{v:V}(hv:RV mg ι n H d v){kvs:List (Key×D)}{xs:List (Key×V)}(h:RK mg ι n H kvs xs):RK mg ι n H (putG kvs k d) (putK xs k v):=by
 unfold putG putK
 rw[RK.any h]
 split
 .exact RK.mapv hv h
 .exact h.app (es:=[(k,d)]) (ws:=[(k,v)]) ⟨v,[],rfl,hv,rfl⟩
end
def pairsD:List D->Option (List (Key×D))
 |[]=>some []
 | .tup [a,b]::r=>(match keyD a,pairsD r with
  |some k,some l=>some ((k,b)::l)
  |_,_=>none)
 |_::_=>none
def putAllD(ps:List (Key×D)):List (Key×D):=ps.foldl (λacc p=>putG acc p.1 p.2) []
section
variable{mg:Str->Option Value}{K:PySem.W.Frag}{ι:Io}{H:Hp}{n:Nat}
theorem pairs_V:∀{ds:List D} {us:List V} {ps:List (Key×D)},pairsD ds=some ps->RVs mg ι n H ds us->∃qs,RK mg ι n H ps qs∧us.length=qs.length∧∀(i:Nat) (x:V) (p:Key×V),us[i]? =some x->qs[i]? =some p->∃t,x= .ref t∧SqT K H t [kV p.1,p.2]
 |[],us,ps,h,r=>by
  cases h
  cases (show us=[] from r)
  exact⟨[],rfl,rfl,λi x p e=>by simp at e⟩
 | .tup [a,b]::ds,us,ps,h,r=>by
  obtain⟨x,r',rfl,h1,h2⟩:=r
  unfold pairsD at h
  split at h
  .rename_i k l ek el
   cases h
   obtain⟨qs,g1,g2,g3⟩:=pairs_V el h2
   obtain⟨t,xs,rfl,e1,y1,_,rfl,e2,y2,_,rfl,e3,e4⟩:=h1
   obtain rfl:=e4
   cases keyD_kV ek e2
   refine⟨(k,y2)::qs,⟨y2,qs,rfl,e3,g1⟩,by simp[g2],λi z p hz hp=> ?_⟩
   cases i with
   |zero=>
    have hz':V.ref t=z:=by simpa using hz
    have hp':(k,y2)=p:=by simpa using hp
    subst hz' hp'
    exact⟨t,rfl,SqT.of e1⟩
   |succ i=>exact g3 i z p (by simpa using hz) (by simpa using hp)
  .cases h
 | .non::_,_,_,h,_=>by simp[pairsD] at h
 | .bl _::_,_,_,h,_=>by simp[pairsD] at h
 | .int _::_,_,_,h,_=>by simp[pairsD] at h
 | .str _::_,_,_,h,_=>by simp[pairsD] at h
 | .ref _::_,_,_,h,_=>by simp[pairsD] at h
 | .fl _::_,_,_,h,_=>by simp[pairsD] at h
 | .exc _::_,_,_,h,_=>by simp[pairsD] at h
 | .tup []::_,_,_,h,_=>by simp[pairsD] at h
 | .tup [_]::_,_,_,h,_=>by simp[pairsD] at h
 | .tup (_::_::_::_)::_,_,_,h,_=>by simp[pairsD] at h
theorem RK.fold{ps:List (Key×D)}{qs:List (Key×V)}(h:RK mg ι n H ps qs):∀{acc:List (Key×D)} {acv:List (Key×V)},RK mg ι n H acc acv->RK mg ι n H (ps.foldl (λacc p=>putG acc p.1 p.2) acc) (qs.foldl (λacc p=>putK acc p.1 p.2) acv):=by
 induction ps generalizing qs with
 |nil=>intro acc acv ha;cases (show qs=[] from h);exact ha
 |cons p r ih=>
  intro acc acv ha
  obtain⟨x,r',rfl,h1,h2⟩:=h
  exact ih h2 (RK.put h1 ha)
end
theorem new_dct{mg:Str->Option Value}{A:Ar}{ι:Io}{H:Hp}{R:DK}{Q:VK}{ds:List (Key×D)}{xs:List (Key×V)}{p:Addr}(k:Kt mg A ι H R Q)(r:RA mg ι H A)(h:RK mg ι A.length H ds xs)(q:R (.ref A.length) (A++[.dct ds]))(hp:H p=none):Q (.ref p) (upd H p (.dK xs)):=by
 have E:Ext A ι H (A++[.dct ds]) (λr=>if r=A.length then p else ι r) (upd H p (.dK xs)):=r.ext_push hp
 obtain⟨r1,e1⟩:=r.push (c:= .dct ds) (o:= .dK xs) hp ⟨xs,upd_same,by simpa using RK.ext E ds xs h⟩
 refine k _ _ _ _ _ q e1 r1 ⟨by simp,?_⟩
 show V.ref p=V.ref (if A.length=A.length then p else ι A.length)
 rw[if_pos rfl]
@[irreducible] def dctP(xs:List D)(A:Ar)(R:DK):Prop:=match pairsD xs with
 |some ps=>ps.length≤1000∧R (.ref A.length) (A++[.dct (putAllD ps)])
 |none=>False
@[irreducible] def dctR(r:Nat)(A:Ar)(R:DK):Prop:=match A[r]? with
 |some (.lst xs)=>dctP xs A R
 |_=>False
def dctD:DCb:=λvs A R=>match vs with
 |[.tup xs]=>dctP xs A R
 |[.ref r]=>dctR r A R
 |_=>False
theorem RK.len'{mg:Str->Option Value}{ι:Io}{H:Hp}{n:Nat}{ds:List (Key×D)}{vs:List (Key×V)}(h:RK mg ι n H ds vs):vs.length=ds.length:=(RK.length h).symm
theorem d_dict{mg:Str->Option Value}{K:PySem.W.Frag}:CbD mg (λxs H Q=>∃(p:Addr) (ts:List V) (ps:List (Key×V)),xs=[.ref p]∧(H p=some (.lst ts)∨H p=some (.tup ts))∧Pairs K H ts ps∧ps.length≤1000∧∀d,H d=none->Q (.ref d) (upd H d (.dK (putAll ps)))) dctD:=by
 intro ds A ι H us R Q ra rs h k
 have fin:∀(xs:List D) (ts:List V) (p:Addr),RVs mg ι A.length H xs ts->(H p=some (.lst ts)∨H p=some (.tup ts))->dctP xs A R->∃(q:Addr) (ts:List V) (ps:List (Key×V)),[V.ref p]=[.ref q]∧(H q=some (.lst ts)∨H q=some (.tup ts))∧Pairs K H ts ps∧ps.length≤1000∧∀d,H d=none->Q (.ref d) (upd H d (.dK (putAll ps))):=λxs ts p r hp h=>by
  unfold dctP at h
  split at h
  .rename_i ps ep
   obtain⟨qs,g1,g2,g3⟩:=pairs_V (K:=K) ep r
   exact⟨p,ts,qs,rfl,hp,⟨g2,g3⟩,by rw[RK.len' g1];exact h.1,λd hd=>new_dct k ra (RK.fold g1 (acc:=[]) (acv:=[]) rfl) h.2 hd⟩
  .exact h.elim
 unfold dctD at h
 split at h
 .obtain⟨_,_,rfl,⟨a,xs,rfl,e1,r1⟩,rfl⟩:=rs
  exact fin _ xs a r1 (.inr e1) h
 .obtain⟨_,_,rfl,⟨_,rfl⟩,rfl⟩:=rs
  unfold dctR at h
  split at h
  .rename_i xs e
   obtain⟨us,h1,r1⟩:=ra.lst e
   exact fin _ us _ r1 (.inl h1) h
  .exact h.elim
 .exact h.elim
def dNew:DTE:=λ_ A R=>R (.ref A.length) (A++[.dct []])
theorem de_dnew{X:Cx}{N:En}{pos:Pos}:PE X (.Dict [] [] pos) (up X.mg N dNew):=de_w pe_dnewK λσ H Q q=>by
 obtain⟨A,ι,τ,R,S,q,k⟩:=q
 exact λp hp=>new_dct (ds:=[]) (xs:=[]) k S.ra rfl q hp
@[irreducible] def putR(r:Nat)(y v:D)(A:Ar)(R:Ar->Prop):Prop:=match A[r]?,keyD y with
 |some (.dct kvs),some k=>kvs.length<sizeLine∧R (A.set r (.dct (putG kvs k v)))
 |_,_=>False
def sPut(mo mi mv:DTE):DTS:=λR τ A=>mv τ A λv A1=>mo τ A1 λx A2=>mi τ A2 λy A3=>match x with
 | .ref r=>putR r y v A3 λA4=>R.nx τ A4
 |_=>False
theorem ds_put{X:Cx}{N:En}{pos pos':Pos}{o i value:Expr}{mo mi mv:DTE}(hu:X.A.units+64<cLine)(ho:PE X o (up X.mg N mo))(hi:PE X i (up X.mg N mi))(hv:PE X value (up X.mg N mv))(hs:swapsWith value (some (.Subscript o i pos')) pos.line X.env=pure false):
  PS X (.Assign [.Subscript o i pos'] value pos) (upS X.mg N (sPut mo mi mv)):=ds_w (ps_dput (by omega) ho hi hv hs) λQ σ H q=>by
 obtain⟨A,ι,τ,R,S,q,k⟩:=q
 refine⟨A,ι,τ,_,S,q,λv A1 ι1 H1 w q1 e1 r1 v1=> ?_⟩
 refine⟨A1,ι1,τ,_,S.next e1 r1,q1,λx A2 ι2 H2 u q2 e2 r2 v2=> ?_⟩
 refine⟨A2,ι2,τ,_,(S.next e1 r1).next e2 r2,q2,λy A3 ι3 H3 z q3 e3 r3 v3=> ?_⟩
 have v1':=RV.ext (e2.trans e3) v w v1
 have v2':=RV.ext e3 x u v2
 cases x with
 |ref r=>
  obtain⟨_,rfl⟩:=v2'
  have q3:putR r y v A3 (λA4=>R.nx τ A4):=q3
  unfold putR at q3
  split at q3
  .rename_i kvs ky e ek
   obtain⟨xs,h1,h2⟩:=r3.dct e
   cases keyD_kV ek v3
   refine⟨_,_,rfl,DPut.k h1 (by rw[←RK.length h2];exact q3.1),?_⟩
   have hl:=(List.getElem?_eq_some_iff.mp e).1
   have E:=r3.ext_put (o:= .dK (putK xs ky w)) (c:= .dct (putG kvs ky v)) hl
   obtain⟨r4,e4⟩:=r3.put (c':= .dct (putG kvs ky v)) (o:= .dK (putK xs ky w)) e h1 rfl ⟨_,upd_same,by simpa using RK.ext E _ _ (RK.put v1' h2)⟩
   exact(k.nx.from (((e1.trans e2).trans e3).trans e4)).here ((((S.next e1 r1).next e2 r2).next e3 r3).next e4 r4) q3.2
  .exact q3.elim
 |_=>exact q3.elim
end DP
namespace DP
open PySem PySem.Spec PyProof.Rows L2
def noX:DX:=λ_ _=>False
theorem pass0D{X:Cx}{N:En}{P:Program}{w:World}:Passes (CX1 P w) X (EL X.mg N noX):=λpins σ H s e s' I h=>by
 obtain⟨a,C,H',_,_,c,A',ι',_,_,_,z⟩:=h
 exact z.elim
theorem kit_bool{K:PySem.W.Frag}:∀t∈tys,PySem.W.kitOne K (.type t) (.type "bool")=some (isT t "bool"):=by
 intro t ht
 simp only[tys,List.mem_cons,List.not_mem_nil,or_false] at ht
 rcases ht with rfl|rfl|rfl|rfl|rfl|rfl|rfl<;>rfl
theorem kit_int{K:PySem.W.Frag}:∀t∈tys,PySem.W.kitOne K (.type t) (.type "int")=some (isT t "int"):=by
 intro t ht
 simp only[tys,List.mem_cons,List.not_mem_nil,or_false] at ht
 rcases ht with rfl|rfl|rfl|rfl|rfl|rfl|rfl<;>rfl
theorem kit_str{K:PySem.W.Frag}:∀t∈tys,PySem.W.kitOne K (.type t) (.type "str")=some (isT t "str"):=by
 intro t ht
 simp only[tys,List.mem_cons,List.not_mem_nil,or_false] at ht
 rcases ht with rfl|rfl|rfl|rfl|rfl|rfl|rfl<;>rfl
theorem kit_tuple{K:PySem.W.Frag}:∀t∈tys,PySem.W.kitOne K (.type t) (.type "tuple")=some (isT t "tuple"):=by
 intro t ht
 simp only[tys,List.mem_cons,List.not_mem_nil,or_false] at ht
 rcases ht with rfl|rfl|rfl|rfl|rfl|rfl|rfl<;>rfl
end DP
namespace DP
open PySem PySem.Spec PyProof.Rows L2
theorem cI{b:Bool}{X Y:Prop}(h1:b=true->X)(h2:b=false->Y):cond b X Y:=by
 cases b with
 |true=>exact h1 rfl
 |false=>exact h2 rfl
theorem cD{p:Prop}[Decidable p]{X Y:Prop}(h1:p->X)(h2:¬p->Y):cond (decide p) X Y:=cI (λe=>h1 (of_decide_eq_true e)) λe=>h2 (of_decide_eq_false e)
theorem cN{p:Prop}[Decidable p]{X Y:Prop}(h1:¬p->X)(h2:p->Y):cond (!decide p) X Y:=cI (λe=>h1 (of_decide_eq_false (by simpa using e))) λe=>h2 (of_decide_eq_true (by simpa using e))
def But(t:Nat)(A A':Ar):Prop:=∀q c,q≠t->A[q]? =some c->A'[q]? =some c
theorem But.refl{t:Nat}{A:Ar}:But t A A:=λ_ _ _ h=>h
theorem But.trans{t:Nat}{A B C:Ar}(a:But t A B)(b:But t B C):But t A C:=λq c n h=>b q c n (a q c n h)
theorem But.set{t:Nat}{A:Ar}{c:C}:But t A (A.set t c):=λq d n h=>by rw[List.getElem?_set_ne (Ne.symm n)];exact h
def Tw(t n:Nat)(A:Ar):Prop:=∃xs,A[t]? =some (.lst xs)∧xs.length≤n
theorem Tw.mono{t n m:Nat}{A:Ar}(h:Tw t n A)(l:n≤m):Tw t m A:=let ⟨xs,a,b⟩:=h;⟨xs,a,Nat.le_trans b l⟩
theorem getElem?_push{A T:Ar}{q:Nat}{c:C}(h:A[q]? =some c):(A++T)[q]? =some c:=by
 have:=(List.getElem?_eq_some_iff.mp h).1
 rw[List.getElem?_append_left this];exact h
def Gr(A A':Ar):Prop:=∃T,A'=A++T
theorem Gr.refl{A:Ar}:Gr A A:=⟨[],by simp⟩
theorem Gr.push{A T:Ar}:Gr A (A++T):=⟨T,rfl⟩
theorem Gr.trans{A B C:Ar}(a:Gr A B)(b:Gr B C):Gr A C:=by
 obtain⟨T,rfl⟩:=a
 obtain⟨T',rfl⟩:=b
 exact⟨T++T',by simp⟩
theorem Gr.get{A B:Ar}(a:Gr A B){q:Nat}{c:C}(h:A[q]? =some c):B[q]? =some c:=by
 obtain⟨T,rfl⟩:=a
 exact getElem?_push h
theorem Gr.but{A B:Ar}{t:Nat}(a:Gr A B):But t A B:=λ_ _ _ h=>a.get h
theorem Tw.gr{A B:Ar}{t n:Nat}(h:Tw t n A)(a:Gr A B):Tw t n B:=let ⟨xs,x,y⟩:=h;⟨xs,a.get x,y⟩
def SCell:Ct:=λds A R _=>∃ns k,ds=[.fl ns,.int k]∧0≤k∧∀i A',Gr A A'->R (.int i) A'
def SMixed:Ct:=λds A R _=>∃ns k m,ds=[.fl ns,.int k,.int m]∧0≤k∧0<m∧∀i A',0≤i->i<m->Gr A A'->R (.int i) A'
def SDraw:Ct:=λds A R _=>∃ns t m n,ds=[.fl ns,.ref t,.int m]∧Tw t n A∧n<1000000∧0<m∧∀i A',0≤i->i<m->But t A A'->Tw t (n+1) A'->R (.int i) A'
def SPick:Ct:=λds A R _=>∃ns t q xs n,ds=[.fl ns,.ref t,.ref q]∧q≠t∧A[q]? =some (.lst xs)∧xs≠[]∧Tw t n A∧n<1000000∧∀x A',x∈xs->But t A A'->Tw t (n+1) A'->R x A'
theorem atI_some'{α:Type}{xs:List α}{k:Int}(h0:0≤k)(h:k<(xs.length:Int)):∃v,atI xs k=some v∧v∈xs:=by
 have hk:k.toNat<xs.length:=by omega
 refine⟨xs[k.toNat],?_,List.getElem_mem hk⟩
 unfold atI ixN
 rw[if_pos h0,if_pos h]
 simp[List.getElem?_eq_getElem hk]
end DP
namespace DP
open PySem PySem.Spec PyProof.Rows L2
theorem lay_ints:∀ns:List Int,PyData.canLayAll0 (ns.map PyData.int)=true
 |[]=>by simp[PyData.canLayAll0]
 |n::r=>by simp[PyData.canLayAll0,PyData.canLay0,lay_ints r]
theorem last_get{A:Ar}{c:C}:(A++[c])[A.length]? =some c:=by simp
theorem eq_fl_nil{ns:List Int}{A:Ar}{R:DK}(h:R (.bl (decide (ns=[]))) (A++[.lst []])):dataEq false (.fl ns) (.ref A.length) (A++[.lst []]) R:=by
 unfold dataEq
 have e1:toP (A++[.lst []]) (.ref A.length)= .list []:=by unfold toP;simp only[last_get];rfl
 have e0:toP (A++[.lst []]) (.fl ns)= .list (ns.map PyData.int):=by unfold toP;rfl
 refine⟨rfl,?_,?_,?_,?_,?_⟩
 .unfold okP;simp only[last_get];rfl
 .rw[e0];simpa[PyData.canLay0] using lay_ints ns
 .rw[e1];simp[PyData.canLay0,PyData.canLayAll0]
 .rw[e1];simp[PyData.depth,PyData.depthAll];omega
 .rw[e0,e1]
  have e:PyData.eqv (.list (ns.map PyData.int)) (.list [])=decide (ns=[]):=by cases ns<;>simp[PyData.eqv,PyData.eqvAll]
  rw[if_neg Bool.false_ne_true,e]
  exact h
end DP
namespace DP
open PySem PySem.Spec PyProof.Rows L2
section
variable{A:Ar}{r q t:Nat}{xs ys:List D}{kvs:List (Key×D)}{R:DK}
theorem isL_of(h:A[r]? =some (.lst xs)):isL A (.ref r)=true:=by unfold isL;simp only[h]
theorem app_ok{y:D}(h:A[r]? =some (.lst xs))(hz:xs.length<sizeLine)(k:R .non (A.set r (.lst (xs++[y])))):appR r y A R:=by
 unfold appR
 simp only[h]
 exact⟨hz,k⟩
theorem ext_ok(h:A[r]? =some (.lst xs))(h2:A[q]? =some (.lst ys))(hz:xs.length+ys.length≤sizeLine)(k:R .non (A.set r (.lst (xs++ys)))):extR r q A R:=by
 unfold extR
 simp only[h,h2]
 exact⟨hz,k⟩
theorem cat_ok(h:A[r]? =some (.lst xs))(h2:A[q]? =some (.lst ys))(hz:xs.length+ys.length≤sizeLine)(k:R (.ref A.length) (A++[.lst (xs++ys)])):catR r q A R:=by
 unfold catR
 simp only[h,h2]
 exact⟨hz,k⟩
theorem len_ok(h:A[r]? =some (.lst xs))(k:R (.int xs.length) A):lenR r A R:=by
 unfold lenR
 simp only[h]
 exact k
theorem ix_ok{i:Int}{v:D}(h:A[r]? =some (.lst xs))(hi:atI xs i=some v)(k:R v A):ixR r (.int i) A R:=by
 unfold ixR
 simp only[h,hi]
 exact k
theorem tup_ok(h:A[r]? =some (.lst xs))(k:R (.tup xs) A):tupR r A R:=by
 unfold tupR
 simp only[h]
 exact k
theorem get_set(h:A[t]? =some (.lst xs)):(A.set t (.lst ys))[t]? =some (.lst ys):=by
 rw[List.getElem?_set_self (List.getElem?_eq_some_iff.mp h).1]
theorem lt_of_get{c:C}(h:A[t]? =some c):t<A.length:=(List.getElem?_eq_some_iff.mp h).1
end
end DP
namespace DP
open PySem PySem.Spec PyProof.Rows L2
end DP
namespace DP
open PySem PySem.Spec PyProof.Rows L2
end DP
namespace L2
open PySem PySem.Spec PyProof.Rows
section
variable{X:Cx}{D:Addr}{cn:Str}{b₀:Stmt}{suite body:List Stmt}{tb:List (Addr×Obj)->(Value->Shared->Prop)->XK->TS}{th:TS}{np hpos pos:Pos}
end
end L2
namespace DP
open PySem PySem.Spec PyProof.Rows L2
end DP
namespace DP
open PySem PySem.Spec PyProof.Rows L2 MA
abbrev M:=Mob Str
def enc:M->D
 | .wt n=> .tup [.str "weight",.str n]
 | .rod l r a b=> .tup [.str "rod",.int l,.int r,enc a,enc b]
theorem cloop_map{k:Option Nat}{fr:DSt}{te:DTE}{chk:Ar->Prop}{R:List D->Ar->Prop}{A:Ar}(hc:chk A)(f:D->D):∀(items ys:List D),(∀x∈items,∃vs,unp k x=some vs∧∀Q:DK,Q (f x) A->te (vs.map some++fr) A Q)->ys.length+items.length≤sizeLine->R (ys++items.map f) A->cLoopD chk k fr tt0 te R items ys A
 |[],ys,_,_,h=>⟨hc,by simpa using h⟩
 |x::xs,ys,hx,hl,h=>by
  obtain⟨vs,hu,ht⟩:=hx x (List.mem_cons_self ..)
  refine⟨hc,?_⟩
  rw[hu]
  refine ht _ ⟨by simp at hl;omega,cloop_map hc f xs (ys++[f x]) (λy hy=>hx y (List.mem_cons_of_mem _ hy)) (by simp at hl ⊢;omega) (by simpa using h)⟩
theorem bls_map{α:Type}(f:α->Bool):∀xs:List α,bls (xs.map λx=>D.bl (f x))=some (xs.map f)
 |[]=>rfl
 |x::r=>by simp[bls,bls_map f r]
theorem ints_map{α:Type}(f:α->Int):∀xs:List α,intsD (xs.map λx=>D.int (f x))=some (xs.map f)
 |[]=>rfl
 |x::r=>by simp[intsD,ints_map f r]
theorem strs_map{α:Type}(f:α->Str):∀xs:List α,strsD (xs.map λx=>D.str (f x))=some (xs.map f)
 |[]=>rfl
 |x::r=>by simp[strsD,strs_map f r]
theorem all_ok{A:Ar}{r:Nat}{xs:List D}{bs:List Bool}{R:DK}(h:A[r]? =some (.lst xs))(hb:bls xs=some bs)(k:R (.bl (bs.all id)) A):allR r A R:=by
 unfold allR
 simp only[h,hb]
 exact k
theorem sum_ok{A:Ar}{r:Nat}{xs:List D}{ns:List Int}{R:DK}(h:A[r]? =some (.lst xs))(hb:intsD xs=some ns)(h1:∀n∈ns,0≤n∧n≤2 ^ 40)(h2:ns.length≤1000)(k:R (.int ns.sum) A):sumR r A R:=by
 unfold sumR
 simp only[h,hb]
 exact⟨h1,h2,k⟩
theorem srt_ok{A:Ar}{r:Nat}{xs:List D}{ss:List Str}{R:DK}(h:A[r]? =some (.lst xs))(hb:strsD xs=some ss)(h2:ss.length<64)(k:∀ys:List Str,ys.Pairwise strLt->(∀x,x∈ys↔x∈ss)->R (.ref A.length) (A++[.lst (ys.map D.str)])):srtR r A R:=by
 unfold srtR
 simp only[h,hb]
 exact⟨h2,k⟩
theorem it_ok{A:Ar}{r:Nat}{xs:List D}{R:List D->(Ar->Prop)->Ar->Prop}(h:A[r]? =some (.lst xs))(k:R xs (λA'=>A'[r]? =some (.lst xs)) A):itR r A R:=by
 unfold itR
 simp only[h]
 exact k
structure Nm(n:Str):Prop where
 lo:1≤n.length
 hi:n.length≤3
 az:∀c∈n.cps.toList,97≤c∧c≤122
structure Wf(m:M):Prop where
 arms:m.arms
 nm:∀n∈m.names,Nm n
def SV(dom:List D->D->Prop):Ct:=λds A R _=>∃v,dom ds v∧∀A',Gr A A'->R v A'
def SL(dom:List D->List D->Prop):Ct:=λds A R _=>∃v,dom ds v∧∀A' r,Gr A A'->A'[r]? =some (.lst v)->R (.ref r) A'
abbrev SNum:Ct:=SV λds v=>∃i a b,ds=[.int i,.int a,.int b]∧v= .bl (decide (a≤i)&&decide (i≤b))
abbrev SName:Ct:=SV λds v=>∃n,ds=[.str n]∧Nm n∧v= .bl true
abbrev SImw(d:Nat):Ct:=SV λds v=>∃m,ds=[enc m,.int ((d:Int) - 1)]∧Wf m∧m.deep<d∧v= .bl true
abbrev SIm:Ct:=SV λds v=>∃m,ds=[enc m]∧Wf m∧m.deep≤5∧v= .bl true
abbrev SChk:Ct:=SV λds v=>∃m,ds=[enc m]∧Wf m∧m.deep≤5∧v= .non
end DP
namespace DP
open PySem PySem.Spec PyProof.Rows L2 MA
theorem fnNo{P:Program}{w:World}{K:PySem.W.Frag}{mg:Str->Option Value}{base:Heap}{x:Str}{st:Stmt}{ps:List Str}{k n:Nat}{S:Ct}(T:TopD K mg x st ps)(no:∀ds A R RE,¬S ds A R RE):FnX P w K mg base k x ps (spOf mg n S):=by
 obtain⟨f,fd,F,b,m⟩:=T
 have no':∀vs H Q E,¬spOf mg n S vs H Q E:=λvs H Q E h=>by
  obtain⟨A,ι,ds,R,RE,_,_,_,z,_⟩:=h
  exact no _ _ _ _ z
 exact⟨f,fd,⟨λvs H Q E h=>absurd h (no' vs H Q E),λA outer s H args us vs Q E _ _ _ _ h=>absurd h (no' vs H Q E)⟩,b,F.kp,m⟩
end DP
namespace DP
open PySem PySem.Spec PyProof.Rows L2 MA
def rowD(r:Str×Int):D:= .tup [.str r.1,.int r.2]
def encW(rs:List (Str×Int)):D:= .tup (rs.map rowD)
def kvW(rs:List (Str×Int)):List (Key×D):=rs.map λr=>(Sum.inr r.1,.int r.2)
structure WOk(rs:List (Str×Int)):Prop where
 nm:∀r∈rs,Nm r.1
 no:∀r∈rs,1≤r.2∧r.2≤999999
 up:(rs.map (·.1)).Pairwise strLt
 len:rs.length<64
def val(rs:List (Str×Int))(n:Str):Int:=((rs.find? λr=>r.1=n).map (·.2)).getD 0
theorem strLt_ne{a b:Str}(h:strLt a b):a≠b:=λe=>by
 subst e
 exact List.lt_irrefl _ h
theorem getK_kv:∀(rs:List (Str×Int)) (n:Str),n∈rs.map (·.1)->getK (kvW rs) (Sum.inr n)=some (.int (val rs n))
 |[],n,h=>by simp at h
 |r::rs,n,h=>by
  unfold kvW getK val
  by_cases e:r.1=n
  .simp[e]
  .have h':n∈rs.map (·.1):=by
    rcases List.mem_cons.mp (show n∈r.1::rs.map (·.1) from h) with q|q
    .exact absurd q.symm e
    .exact q
   have e2:¬(Sum.inr r.1:Key)=Sum.inr n:=λz=>e (Sum.inr.inj z)
   have:=getK_kv rs n h'
   simp only[List.map_cons,e2,if_false,List.find?_cons,e,decide_false]
   exact this
theorem val_mem{rs:List (Str×Int)}(hw:WOk rs){n:Str}(h:n∈rs.map (·.1)):1≤val rs n∧val rs n≤999999:=by
 unfold val
 cases q:rs.find? λr=>r.1=n with
 |none=>
  obtain⟨r,hr,e⟩:=List.mem_map.mp h
  have:=List.find?_eq_none.mp q r hr
  simp[e] at this
 |some r=>
  have:=List.mem_of_find?_eq_some q
  exact hw.no r this
theorem put_new{kvs:List (Key×D)}{k:Key}{v:D}(h:∀p∈kvs,p.1≠k):putG kvs k v=kvs++[(k,v)]:=by
 unfold putG
 rw[if_neg]
 intro z
 obtain⟨p,hp,e⟩:=List.any_eq_true.mp z
 exact h p hp (of_decide_eq_true e)
theorem put_all:∀(rs:List (Str×Int)) (acc:List (Key×D)),(rs.map (·.1)).Pairwise strLt->(∀p∈acc,∀r∈rs,p.1≠Sum.inr r.1)->(kvW rs).foldl (λacc p=>putG acc p.1 p.2) acc=acc++kvW rs
 |[],acc,_,_=>by simp[kvW]
 |r::rs,acc,hp,hn=>by
  have hp':=List.pairwise_cons.mp (show(r.1::rs.map (·.1)).Pairwise strLt from hp)
  have e:putG acc (Sum.inr r.1) (.int r.2)=acc++[(Sum.inr r.1,.int r.2)]:=put_new λp hpm=>hn p hpm r (List.mem_cons_self ..)
  show(kvW rs).foldl _ (putG acc (Sum.inr r.1) (.int r.2))=_
  rw[e,put_all rs _ hp'.2]
  .simp[kvW]
  .intro p hpm q hq
   rcases List.mem_append.mp hpm with z|z
   .exact hn p z q (List.mem_cons_of_mem _ hq)
   .have z':p=(Sum.inr r.1,.int r.2):=by simpa using z
    subst z'
    exact λe=>strLt_ne (hp'.1 q.1 (List.mem_map_of_mem hq)) (Sum.inr.inj e)
theorem pairs_kv:∀rs:List (Str×Int),pairsD (rs.map rowD)=some (kvW rs)
 |[]=>rfl
 |r::rs=>by
  have:=pairs_kv rs
  simp only[List.map_cons,rowD,pairsD,keyD,this,kvW]
theorem dict_ok{rs:List (Str×Int)}(hw:WOk rs){A:Ar}{R:DK}(k:R (.ref A.length) (A++[.dct (kvW rs)])):dctP (rs.map rowD) A R:=by
 unfold dctP
 rw[pairs_kv]
 refine⟨by simp[kvW];have:=hw.len;omega,?_⟩
 unfold putAllD
 rw[put_all rs [] hw.up (λp h=>by simp at h)]
 exact k
end DP
namespace DP
open PySem PySem.Spec PyProof.Rows L2 MA
theorem Nm.ok{n:Str}(h:Nm n):PyData.canLay0 (.str n)=true:=by
 have e:n.cps.all (λc=>decide (c<0x110000))=true:=by
  rw[←Array.all_toList,List.all_eq_true]
  intro c hc
  have:=h.az c hc
  exact decide_eq_true (by omega)
 simpa[PyData.canLay0,PyData.strOk] using e
theorem pur_strs:∀ss:List Str,purs (ss.map D.str)=true
 |[]=>rfl
 |s::r=>by simp[purs,pur,pur_strs r]
theorem q_strs:∀ss:List Str,toQs (ss.map D.str)=ss.map PyData.str
 |[]=>rfl
 |s::r=>by simp[toQs,toQ,q_strs r]
theorem lay_strs:∀ss:List Str,(∀n∈ss,Nm n)->PyData.canLayAll0 (ss.map PyData.str)=true
 |[],_=>by simp[PyData.canLayAll0]
 |s::r,h=>by
  have h1:=(h s (List.mem_cons_self ..)).ok
  have h2:=lay_strs r λn hn=>h n (List.mem_cons_of_mem _ hn)
  simp[PyData.canLayAll0,h1,h2]
theorem dep_strs:∀ss:List Str,PyData.depthAll (ss.map PyData.str)=0
 |[]=>by simp[PyData.depthAll]
 |s::r=>by simp[PyData.depthAll,PyData.depth,dep_strs r]
end DP
namespace DP
open PySem PySem.Spec PyProof.Rows L2 MA
theorem ixd_ok{A:Ar}{r:Nat}{kvs:List (Key×D)}{y v:D}{k:Key}{R:DK}(h:A[r]? =some (.dct kvs))(hk:keyD y=some k)(hv:getK kvs k=some v)(q:R v A):ixR r y A R:=by
 unfold ixR
 simp only[h,hk,hv]
 exact q
end DP
namespace DP
open PySem PySem.Spec PyProof.Rows L2 MA
theorem ind_ok{A:Ar}{r:Nat}{kvs:List (Key×D)}{y:D}{k:Key}{R:DK}{neg:Bool}(h:A[r]? =some (.dct kvs))(hk:keyD y=some k)(q:R (.bl (if neg then !(getK kvs k).isSome else (getK kvs k).isSome)) A):inR neg y r A R:=by
 unfold inR
 simp only[h,hk]
 exact q
end DP
namespace DP
open PySem PySem.Spec PyProof.Rows L2 MA
def rd(a b:Int):Int×Int:=(a/(Int.gcd a b:Int),b/(Int.gcd a b:Int))
abbrev SGcd:Ct:=SV λds v=>∃a b:Int,ds=[.int a,.int b]∧0≤a∧0≤b∧v= .int (Int.gcd a b:Int)
abbrev SRed:Ct:=SV λds v=>∃a b:Int,ds=[.int a,.int b]∧0<a∧0<b∧a<2 ^ 2000∧v= .tup [.int (rd a b).1,.int (rd a b).2]
end DP
namespace DP
open PySem PySem.Spec PyProof.Rows L2 MA
theorem Gr.len{A B:Ar}(a:Gr A B):A.length≤B.length:=by
 obtain⟨T,rfl⟩:=a
 simp
structure Dr(t:Nat)(A A':Ar)(n k:Nat):Prop where
 but:But t A A'
 tw:Tw t (n+k) A'
abbrev SLv(d:Nat):Ct:=SL λds v=>∃m,ds=[enc m]∧m.deep<d∧d≤8∧v=m.names.map D.str
def SNs:Ct:=λds A R _=>∃m,ds=[enc m]∧m.deep≤5∧∀(A':Ar) (r:Nat) (ys:List Str),Gr A A'->A.length≤r->A'[r]? =some (.lst (ys.map D.str))->ys.Pairwise strLt->(∀x,x∈ys↔x∈m.names)->R (.ref r) A'
end DP
namespace DP
open PySem PySem.Spec PyProof.Rows L2 MA
end DP
namespace DP
open PySem PySem.Spec PyProof.Rows L2 MA
end DP
namespace DP
open PySem PySem.Spec PyProof.Rows L2 MA
end DP
namespace DP
open PySem PySem.Spec PyProof.Rows L2
section
variable{X:Cx}{N:En}{e:Expr}{m:DTE}{p p2 pos:Pos}{x:Str}{ans:Str->Option Bool}
end
section
variable{X:Cx}{N:En}{k n:Nat}{x:Str}{ps:List Str}{S:Ct}{e:Expr}{es:List Expr}{m:DTA}{p pos:Pos}
end
end DP
namespace DP
open PySem PySem.Spec PyProof.Rows L2
end DP
namespace L2
open PySem PySem.Spec PyProof.Rows
section
variable{X:Cx}
end
end L2
namespace DP
open PySem PySem.Spec PyProof.Rows L2
section
variable{X:Cx}{N:En}{pos:Pos}{a b:Expr}{ma mb:DTE}
end
theorem ne_ref_nil{A:Ar}{p:Nat}{xs:List D}{R:DK}(h:A[p]? =some (.lst xs))(hp:purs xs=true)(hl:PyData.canLayAll0 (toQs xs)=true)(k:R (.bl (!decide (xs=[]))) (A++[.lst []])):dataEq true (.ref p) (.ref A.length) (A++[.lst []]) R:=by
 unfold dataEq
 have e0:toP (A++[.lst []]) (.ref p)= .list (toQs xs):=by unfold toP;simp only[getElem?_push h]
 have e1:toP (A++[.lst []]) (.ref A.length)= .list []:=by unfold toP;simp only[last_get];rfl
 refine⟨?_,?_,?_,?_,?_,?_⟩
 .unfold okP;simp only[getElem?_push h];exact hp
 .unfold okP;simp only[last_get];rfl
 .rw[e0];simpa[PyData.canLay0] using hl
 .rw[e1];simp[PyData.canLay0,PyData.canLayAll0]
 .rw[e1];simp[PyData.depth,PyData.depthAll];omega
 .rw[e0,e1]
  have e:PyData.eqv (.list (toQs xs)) (.list [])=decide (xs=[]):=by cases xs<;>simp[toQs,PyData.eqv,PyData.eqvAll]
  rw[if_pos rfl,e]
  exact k
end DP
namespace L2
open PySem PySem.Spec PyProof.Rows
section
variable{prog:Program}{w:World}{B:Around}{E:Value->Shared->Prop}
end
section
variable{X:Cx}{pos:Pos}
end
end L2
namespace DP
open PySem PySem.Spec PyProof.Rows L2
theorem cloop_gf{α:Type}{k:Option Nat}{fr:DSt}{tt:DTT}{te:DTE}{chk:Ar->Prop}{R:List D->Ar->Prop}(g:α->D)(p:α->Bool)(f:α->D):∀(xs:List α) (ys:List D) (A:Ar),(∀A1,Gr A A1->chk A1)->(∀x∈xs,∀A1,Gr A A1->∃vs,unp k (g x)=some vs∧(∀Q:Bool->Ar->Prop,(∀A2,Gr A1 A2->Q (p x) A2)->tt (vs.map some++fr) A1 Q)∧∀A2,Gr A1 A2->∀Q:DK,(∀A3,Gr A2 A3->Q (f x) A3)->te (vs.map some++fr) A2 Q)->ys.length+xs.length≤sizeLine->(∀A1,Gr A A1->R (ys++(xs.filter p).map f) A1)->cLoopD chk k fr tt te R (xs.map g) ys A
 |[],ys,A,hc,_,_,h=>⟨hc A Gr.refl,by simpa using h A Gr.refl⟩
 |x::xs,ys,A,hc,hx,hl,h=>by
  obtain⟨vs,hu,ht,he⟩:=hx x (List.mem_cons_self ..) A Gr.refl
  refine⟨hc A Gr.refl,?_⟩
  rw[hu]
  simp at hl
  refine ht _ λA2 g2=> ?_
  cases hp:p x with
  |true=>
   rw[List.filter_cons_of_pos hp] at h
   exact he A2 g2 _ λA3 g3=>⟨by omega,cloop_gf g p f xs (ys++[f x]) A3 (λA1 z=>hc A1 ((g2.trans g3).trans z)) (λy hy A1 z=>hx y (List.mem_cons_of_mem _ hy) A1 ((g2.trans g3).trans z)) (by simp;omega) λA1 z=>by simpa using h A1 ((g2.trans g3).trans z)⟩
  |false=>
   rw[List.filter_cons_of_neg (by simp[hp])] at h
   exact cloop_gf g p f xs ys A2 (λA1 z=>hc A1 (g2.trans z)) (λy hy A1 z=>hx y (List.mem_cons_of_mem _ hy) A1 (g2.trans z)) (by omega) λA1 z=>h A1 (g2.trans z)
theorem Gr.set{A B:Ar}{r:Nat}{c:C}(g:Gr A B)(h:A.length≤r):Gr A (B.set r c):=by
 obtain⟨T,rfl⟩:=g
 exact⟨T.set (r - A.length) c,by rw[List.set_append_right _ _ h]⟩
open MA
theorem Wf.left{l r:Int}{a b:M}(h:Wf (.rod l r a b)):Wf a:=⟨h.arms.2.2.2.2.1,λn hn=>h.nm n (by simp[Mob.names,hn])⟩
theorem Wf.right{l r:Int}{a b:M}(h:Wf (.rod l r a b)):Wf b:=⟨h.arms.2.2.2.2.2,λn hn=>h.nm n (by simp[Mob.names,hn])⟩
end DP
namespace DP
open PySem PySem.Spec PyProof.Rows L2
theorem RVs.of_get{mg:Str->Option Value}{ι:Io}{H:Hp}{n:Nat}:∀{ds:List D} {vs:List V},ds.length=vs.length->(∀(i:Nat) d v,ds[i]? =some d->vs[i]? =some v->RV mg ι n H d v)->RVs mg ι n H ds vs
 |[],[],_,_=>rfl
 |[],_::_,h,_=>by cases h
 |_::_,[],h,_=>by cases h
 |d::ds,v::vs,h,k=>⟨v,vs,rfl,k 0 d v rfl rfl,RVs.of_get (by simpa using h) λi d v h1 h2=>k (i+1) d v (by simpa using h1) (by simpa using h2)⟩
@[irreducible] def tzR(a b:Nat)(A:Ar)(R:DK):Prop:=match A[a]?,A[b]? with
 |some (.lst xs),some (.lst ys)=>R (.tup ((xs.zip ys).map λp=> .tup [p.1,p.2])) A
 |_,_=>False
def dTz(n:DTA):DTE:=λτ A R=>n τ A λvs A1=>match vs with
 |[.ref a,.ref b]=>tzR a b A1 R
 |_=>False
@[irreducible] def sdR(r:Nat)(A:Ar)(R:DK):Prop:=match A[r]? with
 |some (.dct kvs)=>∃ns:List Str,kvs.map (·.1)=ns.map Sum.inr∧ns.Nodup∧ns.length<64∧∀ys:List Str,ys.Pairwise strLt->(∀x,x∈ys↔x∈ns)->R (.ref A.length) (A++[.lst (ys.map D.str)])
 |_=>False
def sdD:DCb:=λvs A R=>match vs with
 |[.ref r]=>sdR r A R
 |_=>False
theorem RK.keys{mg:Str->Option Value}{ι:Io}{H:Hp}{n:Nat}:∀{ds:List (Key×D)} {vs:List (Key×V)},RK mg ι n H ds vs->vs.map (·.1)=ds.map (·.1)
 |[],vs,h=>by have h':vs=[]:=h;rw[h'];rfl
 |d::ds,vs,h=>by
  obtain⟨x,r,rfl,_,e3⟩:=h
  simp[RK.keys e3]
theorem d_sortD{mg:Str->Option Value}:CbD mg (λxs H Q=>∃(d:Addr) (kvs:List (Key×V)) (ns:List Str),xs=[.ref d]∧H d=some (.dK kvs)∧kvs.map (·.1)=ns.map Sum.inr∧ns.Nodup∧ns.length<64∧
  ∀(l:Addr) (ys:List Str),H l=none->ys.Pairwise strLt->(∀x,x∈ys↔x∈ns)->Q (.ref l) (upd H l (.lst (ys.map V.str)))) sdD:=by
 intro ds A ι H us R Q ra rs h k
 unfold sdD at h
 split at h
 .obtain⟨_,_,rfl,⟨_,rfl⟩,rfl⟩:=rs
  unfold sdR at h
  split at h
  .rename_i kvs e
   obtain⟨ns,h1,h2,h3,h4⟩:=h
   obtain⟨xs,hx,rx⟩:=ra.dct e
   exact⟨_,xs,ns,rfl,hx,by rw[RK.keys rx,h1],h2,h3,λl ys hl hp hm=>new_lst k ra (RVs.strs ys) (h4 ys hp hm) hl⟩
  .exact h.elim
 .exact h.elim
theorem sd_ok{A:Ar}{r:Nat}{kvs:List (Key×D)}{ns:List Str}{R:DK}(h:A[r]? =some (.dct kvs))(hk:kvs.map (·.1)=ns.map Sum.inr)(hn:ns.Nodup)(h64:ns.length<64)(k:∀ys:List Str,ys.Pairwise strLt->(∀x,x∈ys↔x∈ns)->R (.ref A.length) (A++[.lst (ys.map D.str)])):sdR r A R:=by
 unfold sdR
 simp only[h]
 exact⟨ns,hk,hn,h64,k⟩
end DP
namespace DP
open PySem PySem.Spec PyProof.Rows L2 MA
def sh3:M->Str->Rat->List (Str×Str×Rat)
 | .wt n,w,x=>[(w,n,x)]
 | .rod l r a b,w,x=>sh3 a (w++("l" :Str)) (x*((r:Rat)/((l+r:Int):Rat)))++sh3 b (w++("r" :Str)) (x*((l:Rat)/((l+r:Int):Rat)))
theorem sh3_len:∀(m:M) (w:Str) (x:Rat),(sh3 m w x).length=m.names.length
 | .wt _,_,_=>rfl
 | .rod _ _ a b,w,x=>by
  show List.length (_++_)=List.length (_++_)
  rw[List.length_append,List.length_append,sh3_len a,sh3_len b]
theorem names_small{m:M}(h:m.deep≤5):m.names.length≤32:=
 Nat.le_trans (Mob.names_le m) (Nat.pow_le_pow_right (by decide) h:2 ^ m.deep≤2 ^ 5)
theorem pow_le18{j k:Nat}(h:j≤k):(18:Int) ^ j≤18 ^ k:=by
 have:(18:Nat) ^ j≤18 ^ k:=Nat.pow_le_pow_right (by decide) h
 exact_mod_cast this
theorem pow_pos18(k:Nat):(1:Int)≤18 ^ k:=by
 have:1≤(18:Nat) ^ k:=Nat.one_le_pow _ _ (by decide)
 exact_mod_cast this
theorem den_down{D D':Int}{j k:Nat}(h:D*18 ^ (max j k+1)≤1000000000)(hd:D'≤D*18)(hD:0<D):D'*18 ^ j≤1000000000∧D'*18 ^ k≤1000000000∧D≤1000000000:=by
 have e:D*18 ^ (max j k+1)=D*18*18 ^ max j k:=by rw[Int.pow_succ,Int.mul_comm (18 ^ max j k) 18,←Int.mul_assoc]
 rw[e] at h
 have p1:=pow_le18 (Nat.le_max_left j k)
 have p2:=pow_le18 (Nat.le_max_right j k)
 have p0:=pow_pos18 (max j k)
 have pj:=pow_pos18 j
 have pk:=pow_pos18 k
 refine⟨Int.le_trans (Int.mul_le_mul hd p1 (by omega) (by omega)) h,Int.le_trans (Int.mul_le_mul hd p2 (by omega) (by omega)) h,?_⟩
 have:D*1≤D*18*18 ^ max j k:=Int.mul_le_mul (by omega) p0 (by omega) (by omega)
 omega
structure FOk(x:Rat):Prop where
 pos:0<x
 num:(rf x).1≤2000000
 den:(rf x).2≤2000000
def Cons{W N S:Type}(l:List (W×N×S)):Prop:=∀a∈l,∀b∈l,a.2.1=b.2.1->a.2.2=b.2.2
theorem found{W N S:Type}[DecidableEq N]{l:List (W×N×S)}{n:N}{p:W×N×S}(h:l.find? (λp=>decide (p.2.1=n))=some p):p.2.1=n:=by
 have:=List.find?_some h
 simpa using this
theorem bar_cons{W N S:Type}[DecidableEq N][DecidableEq S]:∀(r pre:List (W×N×S)),barM pre r=none->Cons pre->Cons (pre++r)
 |[],pre,_,h=>by rw[List.append_nil];exact h
 |(w0,n,s)::r,pre,hb,h=>by
  have e:pre++(w0,n,s)::r=(pre++[(w0,n,s)])++r:=by simp
  rw[e]
  cases hf:pre.find? (λp=>decide (p.2.1=n)) with
  |none=>
   have hb2:barM (pre++[(w0,n,s)]) r=none:=by
    have:=hb
    unfold barM at this
    rw[hf] at this
    exact this
   refine bar_cons r _ hb2 λa ha b hbm en=> ?_
   have no:∀c∈pre,c.2.1≠n:=λc hc z=>by
    have:=List.find?_eq_none.mp hf c hc
    exact this (decide_eq_true z)
   rcases List.mem_append.mp ha with ha|ha<;>rcases List.mem_append.mp hbm with hbm|hbm
   .exact h a ha b hbm en
   .rw[List.mem_singleton.mp hbm] at en
    exact absurd en (no a ha)
   .rw[List.mem_singleton.mp ha] at en
    exact absurd en.symm (no b hbm)
   .rw[List.mem_singleton.mp ha,List.mem_singleton.mp hbm]
  |some p=>
   have hb1:=hb
   unfold barM at hb1
   rw[hf] at hb1
   by_cases es:p.2.2=s
   .have hb2:barM (pre++[(w0,n,s)]) r=none:=by
     have:(if p.2.2=s then barM (pre++[(w0,n,s)]) r else some (p.1,w0))=none:=hb1
     rwa [if_pos es] at this
    have hp:=List.mem_of_find?_eq_some hf
    have hpn:p.2.1=n:=found hf
    refine bar_cons r _ hb2 λa ha b hbm en=> ?_
    have to:∀c∈pre,c.2.1=n->c.2.2=s:=λc hc z=>by rw[h c hc p hp (by rw[z,hpn]),es]
    rcases List.mem_append.mp ha with ha|ha<;>rcases List.mem_append.mp hbm with hbm|hbm
    .exact h a ha b hbm en
    .rw[List.mem_singleton.mp hbm] at en ⊢
     exact to a ha en
    .rw[List.mem_singleton.mp ha] at en ⊢
     exact(to b hbm en.symm).symm
    .rw[List.mem_singleton.mp ha,List.mem_singleton.mp hbm]
   .have:(if p.2.2=s then barM (pre++[(w0,n,s)]) r else some (p.1,w0))=none:=hb1
    rw[if_neg es] at this
    cases this
theorem sh3_names:∀(m:M) (w:Str) (x:Rat),(sh3 m w x).map (·.2.1)=m.names
 | .wt _,_,_=>rfl
 | .rod _ _ a b,w,x=>by
  show((sh3 a _ _++sh3 b _ _).map (·.2.1))=a.names++b.names
  rw[List.map_append,sh3_names a,sh3_names b]
theorem sh3_shares:∀(m:M) (w:Str) (x:Rat),(sh3 m w x).map (·.2.2)=m.sh x
 | .wt _,_,_=>rfl
 | .rod _ _ a b,w,x=>by
  show((sh3 a _ _++sh3 b _ _).map (·.2.2))=a.sh _++b.sh _
  rw[List.map_append,sh3_shares a,sh3_shares b]
noncomputable def shr(m:M):Str->Rat:=λx=>match (sh3 m "" 1).find? (λp=>decide (p.2.1=x)) with|some p=>p.2.2|none=>0
theorem shr_ok{m:M}(h:barM [] (sh3 m "" 1)=none):(∀a∈sh3 m "" 1,a.2.2=shr m a.2.1)∧m.names.map (shr m)=m.sh 1:=by
 have hc:=bar_cons (sh3 m "" 1) [] h (by intro a ha;simp at ha)
 rw[List.nil_append] at hc
 have key:∀a∈sh3 m "" 1,a.2.2=shr m a.2.1:=λa ha=>by
  show _=(match (sh3 m "" 1).find? (λp=>decide (p.2.1=a.2.1)) with|some p=>p.2.2|none=>0)
  cases hf:(sh3 m "" 1).find? (λp=>decide (p.2.1=a.2.1)) with
  |none=>exact absurd (decide_eq_true rfl) (List.find?_eq_none.mp hf a ha)
  |some p=>exact(hc p (List.mem_of_find?_eq_some hf) a ha (found hf)).symm
 refine⟨key,?_⟩
 rw[←sh3_names m "" 1,←sh3_shares m "" 1,List.map_map]
 exact List.map_congr_left λa ha=>(key a ha).symm
theorem num_mul{t:Rat}{a b:Int}(hb:0<b)(ht:0≤(rf t).1*a):(rf (t*((a:Rat)/(b:Rat)))).1≤(rf t).1*a:=by
 rw[←rf_mul,←rf_red (Int.mul_pos (rf_pos t) hb)]
 exact Int.ediv_le_self _ ht
theorem sh_num:∀(m:M) (x:Rat) (B:Int),m.arms->0<x->(rf x).1≤B->∀s∈m.sh x,(rf s).1≤B*18 ^ m.deep
 | .wt _,x,B,_,h1,h2,s,hs=>by
  have:s=x:=by simpa[Mob.sh] using hs
  subst this
  simpa[Mob.deep] using h2
 | .rod l r a b,x,B,h,h1,h2,s,hs=>by
  obtain⟨g1,g2,g3,g4,g5,g6⟩:=h
  have hB:0<B:=Int.lt_of_lt_of_le (num_pos h1) h2
  have np:=num_pos h1
  have d1:(rf (x*((r:Rat)/((l+r:Int):Rat)))).1≤B*18:=by
   refine Int.le_trans (num_mul (by omega) (Int.mul_nonneg (by omega) (by omega))) ?_
   exact Int.mul_le_mul h2 (by omega) (by omega) (by omega)
  have d2:(rf (x*((l:Rat)/((l+r:Int):Rat)))).1≤B*18:=by
   refine Int.le_trans (num_mul (by omega) (Int.mul_nonneg (by omega) (by omega))) ?_
   exact Int.mul_le_mul h2 (by omega) (by omega) (by omega)
  have p1:0<x*((r:Rat)/((l+r:Int):Rat)):=Mob.step_pos g1 g3 h1
  have p2:0<x*((l:Rat)/((l+r:Int):Rat)):=by
   have:=Mob.step_pos (l:=r) (r:=l) g3 g1 h1
   rwa [Int.add_comm r l] at this
  have up:∀k:Nat,k≤max a.deep b.deep->B*18*18 ^ k≤B*18 ^ (max a.deep b.deep+1):=λk hk=>by
   rw[Int.pow_succ,Int.mul_assoc,Int.mul_comm 18 (18 ^ k)]
   refine Int.mul_le_mul_of_nonneg_left ?_ (Int.le_of_lt hB)
   exact Int.mul_le_mul_of_nonneg_right (pow_le18 hk) (by decide)
  rcases List.mem_append.mp (show s∈a.sh _++b.sh _ from hs) with hs|hs
  .exact Int.le_trans (sh_num a _ _ g5 p1 d1 s hs) (up _ (Nat.le_max_left _ _))
  .exact Int.le_trans (sh_num b _ _ g6 p2 d2 s hs) (up _ (Nat.le_max_right _ _))
theorem sh_one{m:M}(ha:m.arms)(h5:m.deep≤5):∀s∈m.sh 1,0<s∧(rf s).1≤1889568∧(rf s).2≤1889568:=λs hs=>by
 obtain⟨b1,b2⟩:=Mob.sh_bound m 1 1 ha (by decide) (by decide) s hs
 have b3:=sh_num m 1 1 ha (by decide) (by decide) s hs
 have p:=pow_le18 h5
 have e:(18:Int) ^ 5=1889568:=by decide
 rw[e] at p
 rw[Int.one_mul] at b2 b3
 exact⟨b1,Int.le_trans b3 p,Int.le_trans b2 p⟩
theorem shr_fok{m:M}(ha:m.arms)(h5:m.deep≤5)(h:barM [] (sh3 m "" 1)=none){x:Str}(hx:x∈m.names):FOk (shr m x):=by
 have:shr m x∈m.sh 1:=by
  rw[←(shr_ok h).2]
  exact List.mem_map.mpr ⟨x,hx,rfl⟩
 obtain⟨h1,h2,h3⟩:=sh_one ha h5 _ this
 exact⟨h1,by omega,by omega⟩
section
variable{m:M}{s:Str->Rat}{B:Str->Int}
end
theorem dloop_I{chk:Ar->Prop}{g:DTG}{b:DTS}{R:DEnds}(J:List D->DSt->Ar->Prop)(hc:∀rest τ A,J rest τ A->chk A)
  (hs:∀x rest τ A,J (x::rest) τ A->∀Nx:DSt->Ar->Prop,(∀τ' A',J rest τ' A'->Nx τ' A')->g x τ A λτ1 A1=>b {R with nx:=Nx,ct:=Nx,bk:=R.nx} τ1 A1)(he:∀τ A,J [] τ A->R.nx τ A):∀(items:List D) (τ:DSt) (A:Ar),J items τ A->dLoop chk g b R items τ A
 |[],τ,A,j=>⟨hc _ _ _ j,he _ _ j⟩
 |x::rest,τ,A,j=>⟨hc _ _ _ j,hs _ _ _ _ j _ λτ' A' j'=>dloop_I J hc hs he rest τ' A' j'⟩
theorem cloop_I{k:Option Nat}{fr:DSt}{te:DTE}{chk:Ar->Prop}{R:List D->Ar->Prop}(J:List D->List D->Ar->Prop)(hc:∀rest ys A,J rest ys A->chk A)(hl:∀rest ys A,J rest ys A->ys.length≤sizeLine)
  (hs:∀x rest ys A,J (x::rest) ys A->∃vs,unp k x=some vs∧∀Q:DK,(∀y A4,J rest (ys++[y]) A4->Q y A4)->te (vs.map some++fr) A Q)(he:∀ys A,J [] ys A->R ys A):∀items ys A,J items ys A->cLoopD chk k fr tt0 te R items ys A
 |[],ys,A,j=>⟨hc _ _ _ j,he _ _ j⟩
 |x::rest,ys,A,j=>by
  obtain⟨vs,hu,q⟩:=hs _ _ _ _ j
  refine⟨hc _ _ _ j,?_⟩
  rw[hu]
  refine q _ λy A4 j4=>⟨?_,cloop_I J hc hl hs he rest _ _ j4⟩
  have:=hl _ _ _ j4
  simp at this
  omega
theorem Gr.of_but{A A1 A':Ar}{t:Nat}(g:Gr A A1)(ht:A.length≤t)(b:But t A1 A'):Gr A A':=by
 have key:∀q c,A[q]? =some c->A'[q]? =some c:=λq c h=>b q c (by have:=lt_of_get h;omega) (g.get h)
 refine⟨A'.drop A.length,List.ext_getElem? λq=> ?_⟩
 by_cases hq:q<A.length
 .rw[List.getElem?_append_left hq,List.getElem?_eq_getElem hq]
  exact key q _ (List.getElem?_eq_getElem hq)
 .rw[List.getElem?_append_right (by omega),List.getElem?_drop]
  congr 1
  omega
end DP
namespace L2
open PySem PySem.Spec PyProof.Rows
end L2
namespace DP
open PySem PySem.Spec PyProof.Rows L2
end DP
namespace L2
open PySem PySem.Spec PyProof.Rows PySem.SeqAt
def CAt(op:CmpOp)(A:Around)(s:Shared)(y x:Value)(b:Bool):Prop:=∀(prog:Program) (w:World) (E:Value->Shared->Prop) (Q:Value->Shared->Prop),Q (.bool b) s->wpAny (model prog w) A (richCompare op y x) Q E s
inductive LexAt(op:CmpOp)(A:Around)(s:Shared)(fin b:Bool):List (Value×Value)->Prop
 |nil:fin=b->LexAt op A s fin b []
 |eq {y x:Value} {r:List (Value×Value)}:EqAt A s y x true->LexAt op A s fin b r->LexAt op A s fin b ((y,x)::r)
 |ne {y x:Value} {r:List (Value×Value)}:EqAt A s y x false->CAt op A s y x b->LexAt op A s fin b ((y,x)::r)
open AutoSeq1 (wpAny_loadPart')
open MeetsSeq MeetsSeq2 MeetsSeq3 SeqRoads2
theorem tuple_ltAt(l b:Addr)(items items2:Array Value)(n n2:Nat)(dd dd2:Option Addr)(sl sl2:Array (Option Value))(res:Bool):
  Meets (Builtin.«tuple.__lt__» ⟨[.ref l,.ref b],[]⟩)
   (λA R s=>s.heap.get? l=some {cls:= .type "tuple",dict:=dd,data:= .seq items n,slots:=sl}∧s.heap.get? b=some {cls:= .type "tuple",dict:=dd2,data:= .seq items2 n2,slots:=sl2}∧
    LexAt .Lt A.in1 s (decide (items.size<items2.size)) res (items.toList.zip items2.toList)∧R (.ok (.ret (.bool res))) s):=
 .of_wp λprog w A R s h=>by
  obtain⟨hp,g,d,tk,os⟩:=s;obtain⟨hl,hb,he,h⟩:=h
  have f2:=AutoSeq1.sub_tuple_tuple
  wp_walk using wpAny_loadPart' hl,wpAny_loadPart' hb,wpAny_forIn_list _ (λrest b s'=>b.1=none∧s'=⟨hp,g,d,tk,os⟩∧LexAt .Lt A.in1 ⟨hp,g,d,tk,os⟩ (decide (items.size<items2.size)) res rest) _
  case turn=>
   rintro ⟨y,x⟩ rest b s' ⟨hb',rfl,hx⟩
   cases hx with
   |eq h1 h2=>
    refine wpAny_bind (h1 prog w _ _ ?_)
    wp_walk
    exact⟨rfl,rfl,h2⟩
   |ne h1 h2=>
    refine wpAny_bind (h1 prog w _ _ ?_)
    simp only[Bool.not_false,if_true]
    refine wpAny_bind (wpAny_rule ?_)
    refine wpAny_bind (h2 prog w _ _ ?_)
    wp_walk
    exact⟨_,rfl,h⟩
  case fin=>
   rintro ⟨b1,b2⟩ s' ⟨hb',rfl,hx⟩
   simp only at hb'
   subst hb'
   cases hx with
   |nil e=>
    wp_walk
    exact⟨_,rfl,by rw[←e] at h;simpa[Builtin.Tuple.tupleCompareSizes] using h⟩
  case h=>
   exact⟨rfl,rfl,he⟩
mutual
def ltQ:PyData->PyData->Option Bool
 | .int i,.int j=>some (decide (i<j))
 | .str x,.str y=>some (decide (x.cps.toList<y.cps.toList))
 | .tuple xs,.tuple ys=>ltQs xs ys
 |_,_=>none
def ltQs:List PyData->List PyData->Option Bool
 |[],[]=>some false
 |[],_::_=>some true
 |_::_,[]=>some false
 |x::xs,y::ys=>match PyData.eqv x y with
  |true=>ltQs xs ys
  |false=>ltQ x y
end
theorem catA(i j:Int)(A:Around)(s:Shared)(a b:Value)(as bs:List Addr)(r:Bool)(e:ltQ (.int i) (.int j)=some r)(ra:Reads s.heap a (.int i) as)(rb:Reads s.heap b (.int j) bs):CAt .Lt A s a b r:=by
 cases ra;cases rb
 rw[ltQ] at e
 cases e
 intro prog w E Q q
 exact lt_int q
theorem catC(xs ys:List PyData)(A:Around)(s:Shared)(a b:Value)(as bs:List Addr)(r:Bool)(hu:A.units+min (PyData.tuple xs).depth (PyData.tuple ys).depth<cLine)(L:∀us vs as bs,ReadsAll s.heap us xs as->ReadsAll s.heap vs ys bs->A.in1.units+min (PyData.depthAll xs) (PyData.depthAll ys)<cLine->LexAt .Lt A.in1 s (decide (us.length<vs.length)) r (us.zip vs))(ra:Reads s.heap a (.tuple xs) as)(rb:Reads s.heap b (.tuple ys) bs):CAt .Lt A s a b r:=by
 cases ra with
 | @tuple l o vs n _ as₁ h1 h2 h3 h4=>
  cases rb with
  | @tuple l' o' vs' n' _ bs₁ k1 k2 k3 k4=>
   obtain⟨cls,dd,data,sl⟩:=o
   obtain⟨cls2,dd2,data2,sl2⟩:=o'
   simp only at h2 h3 k2 k3
   subst h2 h3 k2 k3
   have L:=L vs.toList vs'.toList _ _ h4 k4 (room_in hu)
   intro prog w E Q q
   exact richCompare_meets_room (op:= .Lt) ⟨_,h1,rfl⟩ ⟨_,k1,rfl⟩ F.slot_tuple_lt F.entry_tuple_lt (F.args_tuple_lt_2 _ _) (tuple_ltAt l l' vs vs' n n' dd dd2 sl sl2 r)
    ⟨h1,k1,by simpa using L,show Value.bool r≠Value.notImplemented∧Q (.bool r) s from⟨(λx=>nomatch x),q⟩⟩ (room_here hu)
end L2
namespace L2
open PySem PySem.Spec PyProof.Rows PySem.SeqAt
theorem catS(i j:Str)(A:Around)(s:Shared)(a b:Value)(as bs:List Addr)(r:Bool)(e:ltQ (.str i) (.str j)=some r)(ra:Reads s.heap a (.str i) as)(rb:Reads s.heap b (.str j) bs):CAt .Lt A s a b r:=by
 cases ra;cases rb
 rw[ltQ] at e
 cases e
 intro prog w E Q q
 exact lt_str q
theorem len_cc{α β:Type}{a:α}{b:β}{u:List α}{v:List β}:decide ((a::u).length<(b::v).length)=decide (u.length<v.length):=by simp
theorem catL(x y:PyData)(xs ys:List PyData)(A:Around)(s:Shared)(us vs:List Value)(as bs:List Addr)(r:Bool)(e:ltQs (x::xs) (y::ys)=some r)(ra:ReadsAll s.heap us (x::xs) as)(rb:ReadsAll s.heap vs (y::ys) bs)(ha:PyData.canLayAll0 (x::xs)=true)(hb:PyData.canLayAll0 (y::ys)=true)
 (hu:A.units+min (PyData.depthAll (x::xs)) (PyData.depthAll (y::ys))<cLine)
 (L1:∀us vs as bs,ltQs xs ys=some r->ReadsAll s.heap us xs as->ReadsAll s.heap vs ys bs->PyData.canLayAll0 xs=true->PyData.canLayAll0 ys=true->A.units+min (PyData.depthAll xs) (PyData.depthAll ys)<cLine->LexAt .Lt A s (decide (us.length<vs.length)) r (us.zip vs))
 (L2:∀u v as bs,ltQ x y=some r->Reads s.heap u x as->Reads s.heap v y bs->x.canLay0=true->y.canLay0=true->A.units+min x.depth y.depth<cLine->CAt .Lt A s u v r):LexAt .Lt A s (decide (us.length<vs.length)) r (us.zip vs):=by
  have ha':x.canLay0=true∧PyData.canLayAll0 xs=true:=by simpa[PyData.canLayAll0] using ha
  have hb':y.canLay0=true∧PyData.canLayAll0 ys=true:=by simpa[PyData.canLayAll0] using hb
  cases ra with
  |cons a1 a2=>
   cases rb with
   |cons b1 b2=>
    have q1:=eqAt_reads x y A s _ _ _ _ a1 b1 ha'.1 hb'.1 (room_head hu)
    rw[ltQs] at e
    cases c:PyData.eqv x y with
    |true=>
     rw[c] at e q1
     have L:=L1 _ _ _ _ e a2 b2 ha'.2 hb'.2 (room_tail hu)
     rw[len_cc]
     exact .eq q1 L
    |false=>
     rw[c] at e q1
     exact .ne q1 (L2 _ _ _ _ e a1 b1 ha'.1 hb'.1 (room_head hu))
mutual
theorem cat_reads:∀(da db:PyData) (A:Around) (s:Shared) (a b:Value) (as bs:List Addr) (r:Bool),ltQ da db=some r->Reads s.heap a da as->Reads s.heap b db bs->da.canLay0=true->db.canLay0=true->
  A.units+min da.depth db.depth<cLine->CAt .Lt A s a b r
 | .none,db,A,s,_,_,_,_,r,e,ra,rb,_,_,_=>by simp[ltQ] at e
 | .bool _,db,A,s,_,_,_,_,r,e,ra,rb,_,_,_=>by simp[ltQ] at e
 | .list _,db,A,s,_,_,_,_,r,e,ra,rb,_,_,_=>by simp[ltQ] at e
 | .dict _,db,A,s,_,_,_,_,r,e,ra,rb,_,_,_=>by simp[ltQ] at e
 | .int i,db,A,s,_,_,_,_,r,e,ra,rb,_,_,_=>by
  cases db with
  |int j=>exact catA i j A s _ _ _ _ r e ra rb
  |_=>simp[ltQ] at e
 | .str i,db,A,s,_,_,_,_,r,e,ra,rb,_,_,_=>by
  cases db with
  |str j=>exact catS i j A s _ _ _ _ r e ra rb
  |_=>simp[ltQ] at e
 | .tuple xs,db,A,s,_,_,_,_,r,e,ra,rb,ha,hb,hu=>by
  cases db with
  |tuple ys=>exact catC xs ys A s _ _ _ _ r hu (λus vs as bs h1 h2 h3=>lex_reads xs ys A.in1 s us vs as bs r (by rw[ltQ] at e;exact e) h1 h2 ha hb h3) ra rb
  |_=>simp[ltQ] at e
theorem lex_reads:∀(xs ys:List PyData) (A:Around) (s:Shared) (us vs:List Value) (as bs:List Addr) (r:Bool),ltQs xs ys=some r->ReadsAll s.heap us xs as->ReadsAll s.heap vs ys bs->PyData.canLayAll0 xs=true->PyData.canLayAll0 ys=true->
  A.units+min (PyData.depthAll xs) (PyData.depthAll ys)<cLine->LexAt .Lt A s (decide (us.length<vs.length)) r (us.zip vs)
 |[],ys,A,s,_,_,_,_,r,e,ra,rb,_,_,_=>by
  cases ys with
  |nil=>cases ra;cases rb;rw[ltQs] at e;cases e;exact .nil (by simp)
  |cons y ys=>cases ra;cases rb;rw[ltQs] at e;cases e;exact .nil (by simp)
 |x::xs,ys,A,s,us,vs,as,bs,r,e,ra,rb,ha,hb,hu=>by
  cases ys with
  |nil=>cases ra;cases rb;rw[ltQs] at e;cases e;exact .nil (by simp)
  |cons y ys=>exact catL x y xs ys A s us vs as bs r e ra rb ha hb hu (λus vs as bs h1 h2 h3 h4 h5 h6=>lex_reads xs ys A s us vs as bs r h1 h2 h3 h4 h5 h6) (λu v as bs h1 h2 h3 h4 h5 h6=>cat_reads x y A s u v as bs r h1 h2 h3 h4 h5 h6)
end
end L2
namespace L2
open PySem PySem.Spec PyProof.Rows PySem.SeqAt
section
variable{prog:Program}{w:World}{A:Around}{E:Value->Shared->Prop}{s:Shared}
end
end L2
namespace L2
open PySem PySem.Spec PyProof.Rows PySem.SeqAt
section
variable{X:Cx}
end
end L2
namespace DP
open PySem PySem.Spec PyProof.Rows L2
end DP
namespace SR
open PySem PySem.Spec PyProof.Rows
end SR
namespace SI
open PySem PySem.Spec PyProof.Rows SS
section
variable{prog:Program}{w:World}{A:Around}{E:Value->Shared->Prop}{s:Shared}
end
end SI
namespace SI
open PySem PySem.Spec PyProof.Rows SS
section
variable{prog:Program}{w:World}{A:Around}{R:Result->Shared->Prop}{I:Addr}{fp wr:List Addr}{G:Array GenState->Array GenState->Prop}{n:Nat}{P:Nat->Value->Prop}{St:Nat->Shared->Prop}
end
section
variable{prog:Program}{w:World}{A:Around}{E:Value->Shared->Prop}{s:Shared}
end
end SI
namespace SI
open PySem PySem.Spec PyProof.Rows SS
section
variable{prog:Program}{w:World}{A:Around}{E:Value->Shared->Prop}{s:Shared}
end
end SI
namespace SI
open PySem PySem.Spec PyProof.Rows SS
section
variable{prog:Program}{w:World}{A:Around}{E:Value->Shared->Prop}{s:Shared}{it a:Addr}{es:Array (Int×Value)}{ep:Nat}{t:SetTable}
end
end SI
namespace SI
open PySem PySem.Spec PyProof.Rows SS
section
variable{prog:Program}{w:World}{A:Around}{E:Value->Shared->Prop}{s:Shared}{it a:Addr}{es:Array (Int×Value)}{ep:Nat}{t:SetTable}
end
end SI
namespace L2
open PySem PySem.Spec PyProof.Rows
section
variable{X:Cx}
end
end L2
namespace DP
open PySem PySem.Spec PyProof.Rows L2
section
variable{X:Cx}{N:En}{e:Expr}{n:DTA}{p1 p2 pos1 pos2:Pos}
end
end DP
namespace HT
open PySem PySem.Spec PyProof.Rows L2
section
variable{prog:Program}{w:World}{A:Around}{E:Value->Shared->Prop}{s:Shared}
theorem getItem_tuple_all{t sl:Addr}{items:Array Value}{vl vu:Value}{lo hi:Option Int}{Q:Value->Shared->Prop}(ht:IsTup s.heap t items)(hs:s.heap.IsSliceOf sl vl vu .none)(pl:IsPart vl lo)(pu:IsPart vu hi)
  (hw:sIx items.size 0 lo=0∧sIx items.size items.size hi=items.size)(h:Q (.ref t) s):wpAny (model prog w) A (getItem (.ref t) (.ref sl)) Q E s:=by
 obtain⟨os,hos,hcs,hds⟩:=id hs
 have hTs:s.TypeIs (.ref sl) "slice" :=⟨os,hos,hcs⟩
 unfold getItem
 try with_reducible refine wpAny_holding ?_
 first|refine wpAny_bind (wpAny_pure ?_)|skip
 refine wpAny_bind (wpAny_sequenceKey ht.typeIs (by decide) ?_)
 refine wpAny_bind (wpAny_callSpecial?_slot (name:=Str.ofString "__getitem__") ht.typeIs PyProof.Rows.slot_tuple_getitem
  (wpAny_call_entry PyProof.Rows.slot_tuple_getitem ht.typeIs entry_tuple_getitem ?_ (args_tuple_getitem _ _)))
 show wpAny _ _ (Builtin.Tuple.tupleItemsOf (.ref t)>>=_) _ _ s
 refine wpAny_bind (tupleItemsOf_ ht ?_)
 refine wpAny_bind (wpAny_typeOf hTs ?_)
 rw[if_pos (by decide)]
 refine wpAny_bind (sliceApplied_gen hs pl pu ?_)
 have hyes:(((sIx items.size 0 lo:Nat):Int)==0&&(1:Int)==1&&(sIx items.size items.size hi - sIx items.size 0 lo)==items.size)=true:=by
  rw[hw.1,hw.2];simp
 show wpAny _ _ (if (((sIx items.size 0 lo:Nat):Int)==0&&(1:Int)==1&&(sIx items.size items.size hi - sIx items.size 0 lo)==items.size)=true then _ else _) _ _ s
 rw[if_pos hyes]
 unfold Builtin.Tuple.tupleIsExact
 refine wpAny_bind (wpAny_bind (wpAny_typeOf ht.typeIs (wpAny_pure ?_)))
 rw[if_pos (by decide)]
 refine wpAny_bind (wpAny_rule ?_)
 first
  |exact wpAny_pure ⟨_,rfl,wpAny_pure h⟩
  |exact wpAny_bind (wpAny_pure (wpAny_pure ⟨_,rfl,wpAny_pure h⟩))
  |exact wpAny_bind (wpAny_pure ⟨_,rfl,wpAny_pure h⟩)
end
end HT
namespace L2
open PySem PySem.Spec PyProof.Rows
section
variable{X:Cx}
def rSlW(K:PySem.W.Frag):V->Option Int->Option Int->Hp->VK->Prop:=λx lo hi H Q=>∃a xs,x= .ref a∧SqT K H a xs∧(HT.sIx xs.length 0 lo=0∧HT.sIx xs.length xs.length hi=xs.length)∧Q (.ref a) H
theorem sl_tupW:SlR X (rSlW X.K):=by
 intro pins s σ H x v vl vu lo hi sl Q I rx hs pl pu h
 obtain⟨a,xs,rfl,hx,hw,q⟩:=h
 cases rx
 obtain⟨its,r,ht,hz⟩:=I.tuple hx
 have hlen:its.toArray.size=xs.length:=by rw[List.size_toArray];exact r.length.symm
 refine⟨"tuple",_,PyProof.Rows.slot_tuple_getitem.lookup,ht.typeIs,?_⟩
 exact HT.getItem_tuple_all ht hs pl pu (by rw[hlen];exact hw) ⟨.ref a,H,I,rfl,q⟩
end
end L2
namespace DP
open PySem PySem.Spec PyProof.Rows L2
def slW(x:D)(lo hi:Option Int)(A:Ar)(R:DK):Prop:=match x with
 | .tup xs=>R (.tup (cutD xs lo hi)) A
 |_=>False
def dSlW(m:DTE)(l u:DTO):DTE:=λτ A R=>m τ A λx A1=>l τ A1 λlo A2=>u τ A2 λhi A3=>slW x lo hi A3 R
theorem cut_all{xs:List D}{lo hi:Option Int}(h:HT.sIx xs.length 0 lo=0∧HT.sIx xs.length xs.length hi=xs.length):cutD xs lo hi=xs:=by
 unfold cutD
 rw[h.1,h.2]
 simp
section
variable{X:Cx}{N:En}{pos p2:Pos}{e:Expr}{lo hi:Option Expr}{m:DTE}{l u:DTO}
theorem de_slW(he:PE X e (up X.mg N m))(hl:PO X lo (upO X.mg N l))(hu:PO X hi (upO X.mg N u)):PE X (.Subscript e (.Slice lo hi none p2) pos) (up X.mg N (dSlW m l u)):=
 de_w (pe_slice (sl_tup.or sl_tupW) he hl hu) λσ H Q q=>by
  obtain⟨A,ι,τ,R,S,q,k⟩:=q
  refine⟨A,ι,τ,_,S,q,λx A1 ι1 H1 v q1 e1 r1 v1=> ?_⟩
  refine⟨A1,ι1,τ,_,S.next e1 r1,q1,λo2 A2 ι2 H2 q2 e2 r2=> ?_⟩
  refine⟨A2,ι2,τ,_,(S.next e1 r1).next e2 r2,q2,λo3 A3 ι3 H3 q3 e3 r3=> ?_⟩
  have e13:=(e1.trans e2).trans e3
  have v3:=RV.ext (e2.trans e3) x v v1
  cases x with
  |tup ds=>
   have q3:R (.tup (cutD ds o2 o3)) A3:=q3
   obtain⟨a,xs,rfl,h1,h2⟩:=v3
   by_cases hw:HT.sIx ds.length 0 o2=0∧HT.sIx ds.length ds.length o3=ds.length
   .rw[cut_all hw] at q3
    exact .inr ⟨a,xs,rfl,SqT.of h1,by rw[←RVs.length h2];exact hw,(k.from e13).here r3 q3 ⟨a,xs,rfl,h1,h2⟩⟩
   .exact .inl ⟨a,xs,rfl,SqT.of h1,by rw[←RVs.length h2];exact hw,λp hp=>new_tup (k.from e13) r3 (h2.cut _ _) q3 hp⟩
  |_=>exact q3.elim
end
end DP
namespace L2
open PySem PySem.Spec PyProof.Rows
section
variable{X:Cx}{pins:List (Addr×Obj)}{σ:St}{H:Hp}{s:Shared}{d:Addr}{kvs:List (Key×V)}
theorem Inv.swap{u u':HO}(I:Inv X pins σ H s)(hd:H d=some u)(hu:∀xs,u≠ .tup xs)(hp:∀ps,u≠ .tbl ps)(ho:∀a,u≠ .own a)(hf:∀o v,X.H₀ d=some (.frz o v)->False)(hk:ObjOk X.prog X.w H s.heap d u'):Inv X pins σ (upd H d u') s:=by
 have nn:∀b,H b=none->upd H d u' b=none:=λb h=>by
  rw[upd_ne (λz=>by rw[z,hd] at h;cases h)];exact h
 have st:∀(a:Addr) (o:HO),ObjOk X.prog X.w H s.heap a o->ObjOk X.prog X.w (upd H d u') s.heap a o:=λa o x=>
  x.stay (λb v _ e=>e) (λb h=>by rw[upd_ne (λz=>by rw[z,hd] at h;exact ho a (Option.some.inj h))];exact h) λb xs h=>by rw[upd_ne (λz=>by rw[z,hd] at h;exact hu xs (Option.some.inj h))];exact h
 refine⟨I.ok,I.os,I.bare,⟨I.base.keep,I.base.slot,λb o e n hx=>nn b (I.base.free b o e n hx),I.base.there,λb xs h=> ?_,λb o v h=> ?_,λb ps h=> ?_⟩,I.loc,I.cell,nn _ I.free,λx c e=>nn _ (I.freeC x c e),λp hp'=> ?_,λa o h=> ?_,I.len⟩
 .have h':=I.base.tups b xs h
  rw[upd_ne (λz=>by rw[z,hd] at h';exact hu xs (Option.some.inj h'))];exact h'
 .have h':=I.base.frzs b o v h
  rw[upd_ne (λz=>by rw[z] at h;exact hf o v h)];exact h'
 .obtain⟨more,h'⟩:=I.base.tbls b ps h
  exact⟨more,by rw[upd_ne (λz=>by rw[z,hd] at h';exact hp _ (Option.some.inj h'))];exact h'⟩
 .obtain⟨h1,h2,h3⟩:=I.pin p hp'
  exact⟨h1,nn _ h2,h3⟩
 .by_cases z:a=d
  .subst z
   rw[upd_same] at h
   cases h
   exact st _ _ hk
  .rw[upd_ne z] at h
   exact st _ _ (I.hok a o h)
theorem Inv.fz(I:Inv X pins σ H s)(hd:H d=some (.dK kvs)):(∀o v,X.H₀ d=some (.frz o v)->False)∧∃o,Inv X pins σ (upd H d (.frz o (.dK kvs))) s:=by
 have hf:∀o v,X.H₀ d=some (.frz o v)->False:=λo v h=>by
  have:=I.base.frzs d o v h
  rw[hd] at this;cases this
 have hk:=I.hok d _ hd
 obtain⟨h1,h2,vs,h3,h4⟩:=id hk
 obtain⟨o,es,ep,e,r⟩:=id h4
 exact⟨hf,o,I.swap hd (λ_ z=>by cases z) (λ_ z=>by cases z) (λ_ z=>by cases z) hf ⟨e,hk⟩⟩
theorem Inv.unfz{o:Obj}(I:Inv X pins σ H s)(hd:H d=some (.frz o (.dK kvs)))(hf:∀o v,X.H₀ d=some (.frz o v)->False):Inv X pins σ (upd H d (.dK kvs)) s:=
 I.swap hd (λ_ z=>by cases z) (λ_ z=>by cases z) (λ_ z=>by cases z) hf (I.hok d _ hd).2
end
def Itk(a:Addr)(o:Obj)(ks:List Key):It:=
 ⟨λi H=>∃kvs,H a=some (.frz o (.dK kvs))∧kvs.map (·.1)=ks∧i<ks.length,λi H x H'=>H'=H∧∃k,ks[i]? =some k∧x=kV k,λi H=>∃kvs,H a=some (.frz o (.dK kvs))∧kvs.map (·.1)=ks∧ks.length≤i⟩
theorem rel_key{k:Key}{v:Value}(h:keyIs k v=true):RelV (kV k) v:=by
 rcases keyIs_shape h with⟨i,t,rfl,rfl⟩|⟨x,t,rfl,rfl⟩
 .exact⟨t,rfl⟩
 .exact⟨t,rfl⟩
theorem frz_at{X:Cx}{pins:List (Addr×Obj)}{σ:St}{H:Hp}{s:Shared}{a:Addr}{o:Obj}{kvs:List (Key×V)}{es:Array DictEntry}{ep:Nat}(I:Inv X pins σ H s)(h:H a=some (.frz o (.dK kvs)))(ho:o.data= .dict es ep):(a==sysModules)=false∧∃vs:List (Key×Value),vs.map (·.1)=kvs.map (·.1)∧s.heap.DictAt (mixKind X.prog X.w) a vs ep:=by
 obtain⟨e,hz,h2,vs,h3,h4⟩:=(show ObjOk X.prog X.w H s.heap a (.frz o (.dK kvs)) from I.hok a _ h)
 obtain⟨o',es',ep',e',hc,hd,r⟩:=h4
 rw[e] at e'
 cases e'
 rw[ho] at hd
 cases hd
 refine⟨h2,vs,?_,⟨o,es,e,hc,ho,r⟩⟩
 clear r h2 h e hz
 unfold KV at h3
 induction h3 with
 |nil=>rfl
 |cons p t ih=>rw[List.map_cons,List.map_cons,ih,p.1]
theorem turn_keys{P:Program}{w:World}{K:PySem.W.Frag}{tg:Expr}(a it:Addr){o:Obj}{ks:List Key}{es:Array DictEntry}{ep:Nat}(ho:o.data= .dict es ep):Turn P w K tg (Itk a o ks) [it] it (λi h=>h.IsKeyIter it a i ks.length ep) where
 mem:=by simp
 obj:=λi h st b hb=>by
  have e:b=it:=by simpa using hb
  subst e
  obtain⟨o,e,c,d⟩:=st
  exact⟨o,e,λv z=>by rw[d] at z;cases z⟩
 keep:=λi h h' st k=>st.at λo e=>k it (by simp) o e
 item:=by
  intro X hP hw hK hc i pins s σ H E I hf st hg
  subst hP hw hK
  obtain⟨kvs,h1,h2,h3⟩:=hg
  obtain⟨hs,vs,hv,hat⟩:=frz_at I h1 ho
  have hl:vs.length=ks.length:=by rw[←h2,←hv,List.length_map]
  obtain⟨f0,f1,f2,f3,f4,f5⟩:=hf it (by simp)
  obtain⟨kx,hx⟩:∃kx,vs[i]? =some kx:=⟨vs[i]'(by omega),List.getElem?_eq_getElem _⟩
  have hk:ks[i]? =some kx.1:=by rw[←h2,←hv,List.getElem?_map,hx];rfl
  rw[←hl] at st
  refine wpAny_pyNext_dict_item (knd:=mixKind X.prog X.w) st hat hx λkey h' hkey st' sb=> ?_
  have I1:Inv X pins σ H {s with heap:=h'}:=I.turned (t':=s.toks) (λb o hb e=>(sb.2 b hb).trans e) f0 f1 f3 f4 f5
  obtain⟨o',e,c,d⟩:=id st'
  rw[hl] at st'
  exact⟨key,rfl,go_of (s:={s with heap:=h'}) e c d (by decide) ⟨_,H,I1,rel_key hkey,⟨rfl,_,hk,rfl⟩,st',λb hb=>(hf b hb).1⟩⟩
 done:=by
  intro X hP hw hK hc i pins s σ H E I hf st hg
  subst hP hw hK
  obtain⟨kvs,h1,h2,h3⟩:=hg
  obtain⟨hs,vs,hv,hat⟩:=frz_at I h1 ho
  have hl:vs.length=ks.length:=by rw[←h2,←hv,List.length_map]
  obtain⟨f0,f1,f2,f3,f4,f5⟩:=hf it (by simp)
  rw[←hl] at st
  exact wpAny_pyNext_dict_end (knd:=mixKind X.prog X.w) (I.ok.hd hc) st hat (List.getElem?_eq_none (by omega)) λh' eb=>⟨rfl,I.turned (t':=s.toks) (λb o hb e=>eb b o hb e) f0 f1 f3 f4 f5⟩
 self:=λ_ _ _ _ _ st h=>wpAny_pyIter_keyiter st h
def iKy(tl:TE):TI:=λσ H R=>tl σ H λx H1=>∃a o kvs,x= .ref a∧H1 a=some (.frz o (.dK kvs))∧R (Itk a o (kvs.map (·.1))) H1
theorem pi_ky{X:Cx}{tg l:Expr}{tl:TE}(hl:PE X l tl):PI X tg l (iKy tl):=by
 intro pins s σ H R I h
 refine thn (hl pins s σ H _ I h) λv s1 ⟨x,H1,I1,r1,q1⟩=> ?_
 obtain⟨a,o,kvs,e,hq,q⟩:=q1
 subst e
 cases r1
 obtain⟨e,_,h2,vs,h3,h4⟩:=(show ObjOk X.prog X.w H1 s1.heap a (.frz o (.dK kvs)) from I1.hok a _ hq)
 obtain⟨o',es,ep,e',hc,hd,r⟩:=id h4
 rw[e] at e'
 cases e'
 obtain⟨hs,vs,hv,hat⟩:=frz_at I1 hq hd
 have hl:(kvs.map (·.1)).length=vs.length:=by rw[←hv,List.length_map]
 refine wpAny_pyIter_dict (knd:=mixKind X.prog X.w) hs hat ?_
 refine⟨s1.heap.objs.size,[s1.heap.objs.size],_,_,H1,rfl,I1.kept (t':=s1.toks) λb o e=>Heap.get?_push_of_some _ e,turn_keys a _ hd,⟨_,Heap.get?_push_size _ rfl,rfl,by rw[hl];rfl⟩,λb hb=> ?_,q⟩
 have e:b=s1.heap.objs.size:=by simpa using hb
 subst e
 exact I1.fpOk (Nat.le_refl _) (I1.hok.fresh (Nat.le_refl _))
end L2
namespace DP
open PySem PySem.Spec PyProof.Rows L2
def keyOf:Key->D
 | .inl i=> .int i
 | .inr x=> .str x
theorem rv_key{mg:Str->Option Value}{ι:Io}{n:Nat}{H:Hp}(k:Key):RV mg ι n H (keyOf k) (kV k):=by
 cases k<;>rfl
theorem RK.fsts{mg:Str->Option Value}{ι:Io}{H:Hp}:∀{ds:List (Key×D)} {vs:List (Key×V)} {n:Nat},RK mg ι n H ds vs->vs.map (·.1)=ds.map (·.1)
 |[],vs,_,h=>by have h':vs=[]:=h;rw[h'];rfl
 |d::ds,vs,n,h=>by
  obtain⟨x,r,rfl,_,e3⟩:=h
  rw[List.map_cons,List.map_cons,RK.fsts e3]
theorem jok_keys{mg:Str->Option Value}{A:Ar}{ι:Io}{H:Hp}{q:Nat}{o:Obj}{kvs:List (Key×D)}(hq:q<A.length):JOk mg A ι H (Itk (ι q) o (kvs.map (·.1))) (kvs.map λp=>keyOf p.1) (λA'=>A'[q]? =some (.fdc o kvs)) where
 go:=λi d A1 ι1 H1 hd e r hc=>by
  obtain⟨xs,h1,h2⟩:=r.fdc hc
  rw[e.ag q hq] at h1
  have hi:=(List.getElem?_eq_some_iff.mp hd).1
  rw[List.length_map] at hi
  refine⟨⟨xs,h1,RK.fsts h2,by rw[List.length_map];exact hi⟩,λx H' y=> ?_⟩
  obtain⟨rfl,k,hk,rfl⟩:=y
  refine⟨r.refl,r,?_⟩
  rw[List.getElem?_map,List.getElem?_eq_getElem hi] at hd hk
  cases hd
  cases hk
  exact rv_key _
 stop:=λA1 ι1 H1 e r hc=>by
  obtain⟨xs,h1,h2⟩:=r.fdc hc
  rw[e.ag q hq] at h1
  exact⟨xs,h1,RK.fsts h2,by simp⟩
@[irreducible] def itK(r:Nat)(A:Ar)(R:List D->(Ar->Prop)->Ar->Prop):Prop:=match A[r]? with
 |some (.fdc o kvs)=>R (kvs.map λp=>keyOf p.1) (λA'=>A'[r]? =some (.fdc o kvs)) A
 |_=>False
def iKeys(m:DTE):DTI:=λτ A R=>m τ A λx A1=>match x with
 | .ref r=>itK r A1 R
 |_=>False
section
variable{X:Cx}{N:En}{tg e:Expr}{m:DTE}
theorem di_keys(he:PE X e (up X.mg N m)):PI X tg e (upI X.mg N (iKeys m)):=di_w (pi_ky he) λσ H Q q=>by
 obtain⟨A,ι,τ,R,S,q,k⟩:=q
 refine⟨A,ι,τ,_,S,q,λx A1 ι1 H1 u q1 e1 r1 v1=> ?_⟩
 cases x with
 |ref r=>
  obtain⟨hr,rfl⟩:=v1
  have q1:itK r A1 R:=q1
  unfold itK at q1
  split at q1
  .rename_i o kvs e
   obtain⟨xs,h1,h2⟩:=r1.fdc e
   refine⟨_,o,xs,rfl,h1,?_⟩
   rw[RK.fsts h2]
   exact k _ _ A1 ι1 H1 _ q1 e1 r1 (jok_keys hr)
  .exact q1.elim
 |_=>exact q1.elim
def thaw(r:Nat)(o:Obj)(A2:Ar)(Q:Ar->Prop):Prop:=∃kvs,A2[r]? =some (.fdc o kvs)∧Q (A2.set r (.dct kvs))
theorem fz_on{σ:L2.St}{H:Hp}{A:Ar}{ι:Io}{τ:DSt}{r:Nat}{kvs:List (Key×D)}{xs:List (Key×V)}{o:Obj}(S:Sim X.mg N A ι τ σ H)(e:A[r]? =some (.dct kvs))(h1:H (ι r)=some (.dK xs))(h2:RK X.mg ι A.length H kvs xs):
  Sim X.mg N (A.set r (.fdc o kvs)) ι τ σ (upd H (ι r) (.frz o (.dK xs)))∧Ext A ι H (A.set r (.fdc o kvs)) ι (upd H (ι r) (.frz o (.dK xs))):=by
 have hl:=(List.getElem?_eq_some_iff.mp e).1
 have E:=S.ra.ext_put (o:= .frz o (.dK xs)) (c:= .fdc o kvs) hl
 obtain⟨ra,e1⟩:=S.ra.put (c':= .fdc o kvs) (o:= .frz o (.dK xs)) e h1 rfl ⟨_,upd_same,by simpa using RK.ext E kvs xs h2⟩
 exact⟨S.next e1 ra,e1⟩
theorem fz_off{mg:Str->Option Value}{H:Hp}{A:Ar}{ι:Io}{r:Nat}{kvs:List (Key×D)}{o:Obj}(ra:RA mg ι H A)(e:A[r]? =some (.fdc o kvs)):∃xs,H (ι r)=some (.frz o (.dK xs))∧RA mg ι (upd H (ι r) (.dK xs)) (A.set r (.dct kvs))∧Ext A ι H (A.set r (.dct kvs)) ι (upd H (ι r) (.dK xs)):=by
 obtain⟨xs,h1,h2⟩:=ra.fdc e
 have hl:=(List.getElem?_eq_some_iff.mp e).1
 have E:=ra.ext_put (o:= .dK xs) (c:= .dct kvs) hl
 obtain⟨r1,e1⟩:=ra.put (c':= .dct kvs) (o:= .dK xs) e h1 rfl ⟨_,upd_same,by simpa using RK.ext E kvs xs h2⟩
 exact⟨xs,h1,r1,e1⟩
end
theorem itk_ok{A:Ar}{r:Nat}{o:Obj}{kvs:List (Key×D)}{R:List D->(Ar->Prop)->Ar->Prop}(h:A[r]? =some (.fdc o kvs))(k:R (kvs.map λp=>keyOf p.1) (λA'=>A'[r]? =some (.fdc o kvs)) A):itK r A R:=by
 unfold itK
 rw[h]
 exact k
theorem ixf_ok{A:Ar}{r:Nat}{o:Obj}{kvs:List (Key×D)}{y v:D}{k:Key}{R:DK}(h:A[r]? =some (.fdc o kvs))(hk:keyD y=some k)(hv:getK kvs k=some v)(q:R v A):ixR r y A R:=by
 unfold ixR
 rw[h]
 simp only[hk,hv]
 exact q
end DP
namespace L2
open PySem PySem.Spec PyProof.Rows
section
variable{X:Cx}
end
end L2
namespace DP
open PySem PySem.Spec PyProof.Rows L2
@[irreducible] def anyR(r:Nat)(A:Ar)(R:DK):Prop:=match A[r]? with
 |some (.lst xs)=>(match bls xs with
  |some bs=>R (.bl (bs.any id)) A
  |none=>False)
 |_=>False
end DP
namespace KO
open PySem PySem.W PyProof.Rows
section
variable{O:KeyOrd}{key:Nat->O.α}{n:Nat}{cmp:Nat->Nat->(Bool->Shared->Prop)->Shared->Prop}{s:Shared}
def kp(O:KeyOrd)(key:Nat->O.α)(p:Array Nat)(i:Nat):O.α:=key (p.getD i 0)
def Up(O:KeyOrd)(key:Nat->O.α)(p:Array Nat)(k:Nat):Prop:=∀i j,i≤j->j<k->O.kle (kp O key p i) (kp O key p j)
def Dn(O:KeyOrd)(key:Nat->O.α)(p:Array Nat)(k:Nat):Prop:=∀i j,i≤j->j<k->O.kle (kp O key p j) (kp O key p i)
def Pm(n:Nat)(p:Array Nat):Prop:=p.Perm (List.range n).toArray
theorem Pm.size{p:Array Nat}(h:Pm n p):p.size=n:=by
 have:=Array.Perm.size_eq h
 simpa using this
theorem Pm.lt{p:Array Nat}(h:Pm n p){i:Nat}(hi:i<n):p.getD i 0<n:=by
 have hz:=h.size
 have hm:p[i]'(by omega)∈p:=Array.getElem_mem _
 have:=(Array.Perm.mem_iff h).mp hm
 rw[Array.getD_eq_getD_getElem?,Array.getElem?_eq_getElem (by omega)]
 simpa using this
theorem kp_of{p q:Array Nat}{i j:Nat}(h:p[i]? =q[j]?):kp O key p i=kp O key q j:=by
 unfold kp
 rw[Array.getD_eq_getD_getElem?,Array.getD_eq_getD_getElem?,h]
theorem kp_rev{p:Array Nat}{i j:Nat}(hj:j≤p.size)(k:Nat):kp O key (kas_rev p i j) k=if i≤k∧k<j then kp O key p (i+j - 1 - k) else kp O key p k:=by
 have e:=getElem?_mirror_all (xs:=p) (i:=i) hj k
 split
 .rename_i h;rw[if_pos h] at e;exact kp_of e
 .rename_i h;rw[if_neg h] at e;exact kp_of e
theorem kp_flat{p:Array Nat}{i j:Nat}(hj:j≤p.size)(he:∀k,i≤k->k<j->kp O key p k=kp O key p (j - 1))(k:Nat):kp O key (kas_rev p i j) k=kp O key p k:=by
 rw[kp_rev hj]
 split
 .rw[he _ (by omega) (by omega),he k (by omega) (by omega)]
 .rfl
theorem Pm.rev{p:Array Nat}(h:Pm n p)(i j:Nat):Pm n (kas_rev p i j):=(mirror_perm _ _ _ _).trans h
theorem Up.snoc{p:Array Nat}{x:Nat}(h:Up O key p x)(h1:1≤x)(hx:O.blt (kp O key p x) (kp O key p (x - 1))=false):Up O key p (x+1):=λi j hij hj=>by
 by_cases hjx:j<x
 .exact h i j hij hjx
 .have e:j=x:=by omega
  subst e
  by_cases hi:i=j
  .subst hi;exact KeyOrd.kle_refl _
  .exact KeyOrd.kle_trans (h i (j - 1) (by omega) (by omega)) hx
theorem Dn.snoc{p:Array Nat}{x:Nat}(h:Dn O key p x)(h1:1≤x)(hx:O.kle (kp O key p x) (kp O key p (x - 1))):Dn O key p (x+1):=λi j hij hj=>by
 by_cases hjx:j<x
 .exact h i j hij hjx
 .have e:j=x:=by omega
  subst e
  by_cases hi:i=j
  .subst hi;exact KeyOrd.kle_refl _
  .exact KeyOrd.kle_trans hx (h i (j - 1) (by omega) (by omega))
variable(hc:∀i j,i<n->j<n->∀C:Bool->Shared->Prop,C (O.blt (key i) (key j)) s->cmp i j C s)
include hc
theorem ask_at{α:Type}{p:Array Nat}(hp:Pm n p){i j:Nat}(hi:i<n)(hj:j<n){k:Bool->KasT α}{G:α->Shared->Prop}(h:(k (O.blt (kp O key p i) (kp O key p j))).kasWp cmp G s):(KasT.ask (p.getD i 0) (p.getD j 0) k).kasWp cmp G s:=
 hc _ _ (hp.lt hi) (hp.lt hj) _ h
theorem asc_ok{p:Array Nat}(hp:Pm n p){nrem:Nat}(hn:nrem≤n){G:Nat->Shared->Prop}:∀(f a:Nat),1≤a->a+f=nrem->Up O key p a->
  (∀m,a≤m->m≤nrem->Up O key p m->(m=nrem∨O.klt (kp O key p m) (kp O key p (m - 1)))->G m s)->(kas_asc p f a).kasWp cmp G s
 |0,a,h1,e,hs,h=>h a (Nat.le_refl _) (by omega) hs (.inl (by omega))
 |f+1,a,h1,e,hs,h=>by
  refine ask_at hc hp (i:=a) (j:=a - 1) (by omega) (by omega) ?_
  cases hb:O.blt (kp O key p a) (kp O key p (a - 1)) with
  |true=>rw[if_pos rfl];exact h a (Nat.le_refl _) (by omega) hs (.inr hb)
  |false=>
   rw[if_neg Bool.false_ne_true]
   exact asc_ok hp hn f (a+1) (by omega) (by omega) (hs.snoc h1 hb) λm hm=>h m (by omega)
theorem desc_ok{nrem:Nat}(hn:nrem≤n){G:Array Nat×Nat×Nat->Shared->Prop}:∀(f:Nat) (p:Array Nat) (x q:Nat),Pm n p->1≤x->x+f=nrem->Dn O key p x->q+1≤x->(∀i,x - (q+1)≤i->i<x->kp O key p i=kp O key p (x - 1))->
  (∀p' m q',Pm n p'->x≤m->m≤nrem->Dn O key p' m->q'+1≤m->(∀i,m - (q'+1)≤i->i<m->kp O key p' i=kp O key p' (m - 1))->G (p',m,q') s)->(kas_desc f p x q).kasWp cmp G s
 |0,p,x,q,hp,h1,e,hs,hq,he,h=>h p x q hp (Nat.le_refl _) (by omega) hs hq he
 |f+1,p,x,q,hp,h1,e,hs,hq,he,h=>by
  have hz:=hp.size
  refine ask_at hc hp (i:=x) (j:=x - 1) (by omega) (by omega) ?_
  cases hb:O.blt (kp O key p x) (kp O key p (x - 1)) with
  |true=>
   rw[if_pos rfl]
   by_cases hq0:q>0
   .rw[if_pos hq0]
    have hk:=kp_flat (O:=O) (key:=key) (p:=p) (i:=x - (q+1)) (j:=x) (by omega) he
    refine desc_ok hn f _ (x+1) 0 (hp.rev _ _) (by omega) (by omega) (λi j hij hj=> ?_) (by omega) (λi i1 i2=>by congr 1;omega) λp' m q' hp' hm=>h p' m q' hp' (by omega)
    rw[hk,hk]
    exact(hs.snoc h1 (KeyOrd.kle_of_klt hb)) i j hij hj
   .rw[if_neg hq0]
    exact desc_ok hn f p (x+1) 0 hp (by omega) (by omega) (hs.snoc h1 (KeyOrd.kle_of_klt hb)) (by omega) (λi i1 i2=>by congr 1;omega) λp' m q' hp' hm=>h p' m q' hp' (by omega)
  |false=>
   rw[if_neg Bool.false_ne_true]
   refine ask_at hc hp (i:=x - 1) (j:=x) (by omega) (by omega) ?_
   cases hd:O.blt (kp O key p (x - 1)) (kp O key p x) with
   |true=>rw[if_pos rfl];exact h p x q hp (Nat.le_refl _) (by omega) hs hq he
   |false=>
    rw[if_neg Bool.false_ne_true]
    have ex:kp O key p x=kp O key p (x - 1):=KeyOrd.kle_antisymm hd hb
    refine desc_ok hn f p (x+1) (q+1) hp (by omega) (by omega) (hs.snoc h1 hd) (by omega) (λi i1 i2=> ?_) λp' m q' hp' hm=>h p' m q' hp' (by omega)
    rw[show x+1 - 1=x by omega]
    by_cases hix:i=x
    .rw[hix]
    .rw[ex];exact he i (by omega) (by omega)
theorem tail_ok{p:Array Nat}(hp:Pm n p){m nrem:Nat}(hn:nrem≤n)(h1:1≤m)(hm:m≤nrem)(hs:Dn O key p m){G:Nat×Array Nat->Shared->Prop}(h:∀k p',Pm n p'->1≤k->k≤nrem->Up O key p' k->G (k,p') s):(kas_tail3 m nrem p).kasWp cmp G s:=by
 have hz:=hp.size
 unfold kas_tail3
 rw[KasT.kasWp_bind]
 refine asc_ok hc (hp.rev 0 m) hn _ m h1 (by omega) (λi j hij hj=> ?_) λk hk1 hk2 hu _=>h k _ (hp.rev 0 m) (by omega) hk2 hu
 rw[kp_rev (by omega),kp_rev (by omega),if_pos (by omega),if_pos (by omega)]
 exact hs _ _ (by omega) (by omega)
theorem part_ok{p:Array Nat}(hp:Pm n p){m nrem:Nat}(hn:nrem≤n)(hm:m+1≤nrem)(hs:Dn O key p (m+1)){G:Nat×Array Nat->Shared->Prop}(h:∀k p',Pm n p'->1≤k->k≤nrem->Up O key p' k->G (k,p') s):(kas_descPart m nrem p).kasWp cmp G s:=by
 unfold kas_descPart
 rw[KasT.kasWp_bind]
 refine desc_ok hc hn _ p (m+1) 0 hp (by omega) (by omega) hs (by omega) (λi i1 i2=>by congr 1;omega) λp' k q hp' hk1 hk2 hs' hq he=> ?_
 have hz:=hp'.size
 by_cases hq0:q>0
 .simp only[hq0,if_true]
  have hk:=kp_flat (O:=O) (key:=key) (p:=p') (i:=k - (q+1)) (j:=k) (by omega) he
  refine tail_ok hc (hp'.rev _ _) hn (by omega) hk2 (λi j hij hj=> ?_) h
  rw[hk,hk]
  exact hs' i j hij hj
 .simp only[hq0,if_false]
  exact tail_ok hc hp' hn (by omega) hk2 hs' h
theorem count_ok{p:Array Nat}(hp:Pm n p)(h1:1≤n){G:Nat×Array Nat->Shared->Prop}(h:∀k p',Pm n p'->1≤k->k≤n->Up O key p' k->G (k,p') s):(kas_count n p).kasWp cmp G s:=by
 have hz:=hp.size
 unfold kas_count
 rw[KasT.kasWp_bind]
 refine asc_ok hc hp (Nat.le_refl n) _ 1 (Nat.le_refl _) (by omega) (λi j hij hj=>by have e:i=j:=(by omega);rw[e];exact KeyOrd.kle_refl _) λm hm1 hm2 hu hor=> ?_
 by_cases hmn:m=n
 .rw[if_pos (by simpa using hmn)]
  exact h m p hp hm1 hm2 hu
 .rw[if_neg (by simpa using hmn)]
  have hlt:=hor.resolve_left hmn
  by_cases hg:m>1
  .rw[if_pos hg]
   refine ask_at hc hp (i:=0) (j:=m - 1) (by omega) (by omega) ?_
   cases hb:O.blt (kp O key p 0) (kp O key p (m - 1)) with
   |true=>rw[if_pos rfl];exact h m p hp hm1 hm2 hu
   |false=>
    rw[if_neg Bool.false_ne_true]
    have he:∀k,0≤k->k<m->kp O key p k=kp O key p (m - 1):=λk _ hk=>
     KeyOrd.kle_antisymm (hu k (m - 1) (by omega) (by omega)) (KeyOrd.kle_trans hb (hu 0 k (by omega) hk))
    have hk:=kp_flat (O:=O) (key:=key) (p:=p) (i:=0) (j:=m) (by omega) he
    refine part_ok hc (hp.rev 0 m) (Nat.le_refl n) (by omega) (λi j hij hj=> ?_) h
    rw[hk,hk]
    have hd:Dn O key p m:=λi j hij hj=>by rw[he i (by omega) (by omega),he j (by omega) hj];exact KeyOrd.kle_refl _
    exact(hd.snoc hm1 (KeyOrd.kle_of_klt hlt)) i j hij hj
  .rw[if_neg hg]
   have e:m=1:=by omega
   subst e
   have hd:Dn O key p 1:=λi j hij hj=>by have e:i=j:=(by omega);rw[e];exact KeyOrd.kle_refl _
   exact part_ok hc hp (Nat.le_refl n) (by omega) (hd.snoc (Nat.le_refl _) (KeyOrd.kle_of_klt hlt)) h
theorem place_ok{p:Array Nat}(hp:Pm n p){k:Nat}(hk:k<n)(hu:Up O key p k){G:Nat->Shared->Prop}:∀(f l r:Nat),l≤r->r≤k->r - l≤f->(∀i,i<l->O.kle (kp O key p i) (kp O key p k))->(∀i,r≤i->i<k->O.klt (kp O key p k) (kp O key p i))->
  (∀l,l≤k->(∀i,i<l->O.kle (kp O key p i) (kp O key p k))->(∀i,l≤i->i<k->O.klt (kp O key p k) (kp O key p i))->G l s)->(kas_place p k f l r).kasWp cmp G s
 |0,l,r,hlr,hrk,hf,hlo,hhi,h=>by
  have e:l=r:=by omega
  exact h l (by omega) hlo (e▸hhi)
 |f+1,l,r,hlr,hrk,hf,hlo,hhi,h=>by
  unfold kas_place
  by_cases hge:l≥r
  .rw[if_pos hge]
   have e:l=r:=by omega
   exact h l (by omega) hlo (e▸hhi)
  .rw[if_neg hge]
   refine ask_at hc hp (i:=k) (j:=(l+r)/2) hk (by omega) ?_
   cases hb:O.blt (kp O key p k) (kp O key p ((l+r)/2)) with
   |true=>
    rw[if_pos rfl]
    exact place_ok hp hk hu f l ((l+r)/2) (by omega) (by omega) (by omega) hlo (λi i1 i2=>KeyOrd.klt_of_klt_of_kle hb (hu _ _ i1 i2)) h
   |false=>
    rw[if_neg Bool.false_ne_true]
    exact place_ok hp hk hu f ((l+r)/2+1) r (by omega) (by omega) (by omega) (λi i1=>KeyOrd.kle_trans (hu i ((l+r)/2) (by omega) (by omega)) hb) hhi h
theorem bin_ok{G:Array Nat->Shared->Prop}(h:∀p',Pm n p'->Up O key p' n->G p' s):∀(f:Nat) (p:Array Nat) (k:Nat),Pm n p->k+f=n->Up O key p k->(kas_bin f p k).kasWp cmp G s
 |0,p,k,hp,e,hu=>h p hp (by rw[←e];exact hu)
 |f+1,p,k,hp,e,hu=>by
  have hz:=hp.size
  unfold kas_bin
  rw[KasT.kasWp_bind]
  refine place_ok hc hp (by omega) hu k 0 k (by omega) (Nat.le_refl _) (by omega) (λi hi=>by omega) (λi i1 i2=>by omega) λl hl hlo hhi=> ?_
  refine bin_ok h f _ (k+1) ((bubble_perm _ _ _).trans hp) (by omega) λi j hij hj=> ?_
  have hkb:∀x,kp O key (bubble p k (k - l)) x=if x=l then kp O key p k else if l<x∧x≤k then kp O key p (x - 1) else kp O key p x:=λx=>by
   have eb:=getElem?_bubble (xs:=p) (src:=k) (by omega) (k - l) (by omega) x
   rw[show k - (k - l)=l by omega] at eb
   split
   .rename_i h1;rw[if_pos h1] at eb;exact kp_of eb
   .rename_i h1
    rw[if_neg h1] at eb
    split
    .rename_i h2;rw[if_pos h2] at eb;exact kp_of eb
    .rename_i h2;rw[if_neg h2] at eb;exact kp_of eb
  rw[hkb,hkb]
  repeat' split
  all_goals first
   |(exfalso;omega)
   |exact KeyOrd.kle_refl _
   |exact hlo _ (by omega)
   |exact KeyOrd.kle_of_klt (hhi _ (by omega) (by omega))
   |exact hu _ _ (by omega) (by omega)
theorem sort_ok{G:Array Nat->Shared->Prop}(h1:1≤n)(h:∀p',Pm n p'->Up O key p' n->G p' s):(kas_sort n).kasWp cmp G s:=by
 unfold kas_sort
 rw[KasT.kasWp_bind]
 refine count_ok hc (Array.Perm.refl _) h1 λk p hp hk1 hk2 hu=> ?_
 by_cases hk:k<n
 .simp only[hk,if_true]
  rw[show max k 1=k by omega]
  exact bin_ok hc h _ p k hp (by omega) hu
 .simp only[hk,if_false]
  exact h p hp (by rw[show n=k by omega];exact hu)
end
end KO
namespace KP
open PySem PySem.W PySem.Spec PyProof.Rows KO
section
variable{prog:Program}{w:World}{A:Around}{E:Value->Shared->Prop}{s:Shared}
theorem list_sort_asked{κ:SortKind}{O:KeyOrd}{key:Nat->O.α}{a:Addr}{vs:List Value}{n:Nat}{P:PySem.Fin->Shared->Prop}(ho:s.heap.get? a=some (seqObj "list" vs.toArray n))(h64:vs.length<64)
  (hk:∀s':Shared,(∀b o,b≠a->s.heap.get? b=some o->s'.heap.get? b=some o)->2≤vs.length->∀R:SortKind->Shared->Prop,R κ s'->wpAny (model prog w) A (keyKind' vs.toArray) R (λ_ _=>False) s')
  (hc:∀s':Shared,(∀b o,b≠a->s.heap.get? b=some o->s'.heap.get? b=some o)->∀i j,i<vs.length->j<vs.length->∀C:Bool->Shared->Prop,C (O.blt (key i) (key j)) s'->kas_ask prog w A κ vs i j C s')
  (h:∀p:Array Nat,Pm vs.length p->Up O key p vs.length->P (.done (.ret .none)) {s with heap:=sortedHeap s.heap a vs (p.toList.map λi=>vs.getD i Value.none).toArray}):
  wpAny (model prog w) A (Builtin.«list.sort» ⟨[.ref a],[]⟩) P E s:=by
 rw[list_sort_plain]
 have ha:a<s.heap.objs.size:=Heap.lt_size ho
 refine wpAny_bind (listItems_at ho rfl ?_)
 refine wpAny_bind (listUpdate_at ho rfl ?_ (by rw[List.size_toArray,sizeLine_eq];omega) (Nat.zero_le _))
 obtain⟨e1,ho1⟩:∃e1,(s.heap.update a (Obj.mapSeq λ_=>(#[]:Array Value))).get? a=some (seqObj "list" #[] e1):=⟨_,get?_update_seq ho λ_=> #[]⟩
 refine wpAny_bind (seqEpoch_at ho1 rfl ?_)
 refine wpAny_bind (wpAny_newTuple ?_ (by show vs.length≤_;rw[sizeLine_eq];omega))
 refine wpAny_bind (wpAny_newList ?_ (Nat.zero_le _))
 refine wpAny_holding ?_
 have ho6:(((s.heap.update a (Obj.mapSeq λ_=>(#[]:Array Value))).push (seqObj "tuple" vs.toArray 0)).push (seqObj "list" #[] 0)).get? a=some (seqObj "list" #[] e1):=by
  rw[Heap.get?_push_ne _ _ _ (by rw[size_push',Heap.size_update];exact Nat.ne_of_lt (Nat.lt_succ_of_lt ha)),Heap.get?_push_ne _ _ _ (by rw[Heap.size_update];exact Nat.ne_of_lt ha)]
  exact ho1
 have kp:∀b o,b≠a->s.heap.get? b=some o->(((s.heap.update a (Obj.mapSeq λ_=>(#[]:Array Value))).push (seqObj "tuple" vs.toArray 0)).push (seqObj "list" #[] 0)).get? b=some o:=λb o hb q=>
  Heap.get?_push_of_some _ (Heap.get?_push_of_some _ (by rw[Heap.get?_update_ne _ _ _ _ hb];exact q))
 show wpAny (model prog w) A _ P E {s with heap:=((s.heap.update a (Obj.mapSeq λ_=>(#[]:Array Value))).push (seqObj "tuple" vs.toArray 0)).push (seqObj "list" #[] 0)}
 dsimp only
 by_cases h2:vs.toArray.size<2
 .rw[if_pos h2,if_pos h2]
  refine wpAny_bind (wpAny_pure ?_)
  rw[StateT.run_pure]
  refine wpAny_bind (wpAny_pure ?_)
  dsimp only
  have hv:vs.length<2:=by simpa using h2
  have e:=h (List.range vs.length).toArray (Array.Perm.refl _) λi j hij hj=>by
   have e0:i=j:=by omega
   rw[e0];exact KeyOrd.kle_refl _
  have eo:(arrOf (SortSt.mk' general' (vs.toArray.zip vs.toArray) #[] 7 none)).map (·.2)=((List.range vs.length).toArray.toList.map λi=>vs.getD i Value.none).toArray:=by
   refine kat_snds (ks:=vs) rfl ?_
   have e:=kas_range (vs.toArray.zip vs.toArray)
   rw[show(vs.toArray.zip vs.toArray).size=vs.length by simp] at e
   exact e.symm
  rw[eo]
  refine wpAny_bind (seqEpoch_at ho6 rfl ?_)
  refine wpAny_bind (listUpdate_at ho6 rfl ?_ (Nat.zero_le _) (by rw[List.size_toArray,List.length_map,List.length_range,sizeLine_eq];omega))
  simp only[bne_self_eq_false,Bool.false_eq_true,if_false]
  exact wpAny_pure e
 .rw[if_neg h2,if_neg h2]
  have hv:2≤vs.length:=by
   have:vs.toArray.size=vs.length:=by simp
   omega
  obtain⟨s6,e6⟩:∃s6:Shared,s6={s with heap:=((s.heap.update a (Obj.mapSeq λ_=>(#[]:Array Value))).push (seqObj "tuple" vs.toArray 0)).push (seqObj "list" #[] 0)}:=⟨_,rfl⟩
  have kp6:∀b o,b≠a->s.heap.get? b=some o->s6.heap.get? b=some o:=by rw[e6];exact kp
  rw[←e6]
  refine wpAny_bind (wpAny_mono (hk s6 kp6 hv (λκ' s'=>κ'=κ∧s'=s6) ⟨rfl,rfl⟩) ?_ λ_ _ x=>x.elim)
  rintro κ' s' ⟨ek,es⟩
  rw[ek,es]
  refine wpAny_bind (wpAny_mono (kat_run (ks:=vs) (vs:=vs) (Q:=λst' s'=>∃p:Array Nat,p.size=vs.length∧arrOf st'=p.map (kas_item (vs.toArray.zip vs.toArray))∧failedOf st'=none∧Pm vs.length p∧Up O key p vs.length∧s'=s6)
   (G:=λp s'=>Pm vs.length p∧Up O key p vs.length∧s'=s6) rfl hv h64 (λp' st' s' a1 a2 a3 a4=>⟨p',a1,a2,a3,a4⟩)
   (sort_ok (O:=O) (key:=key) (hc s6 kp6) (by omega) λp hp hu=>⟨hp,hu,rfl⟩)) ?_ λ_ _ e=>e)
  rintro ⟨⟨⟩,st'⟩ s'' ⟨p,hp,har,hf,hpm,hup,es'⟩
  dsimp only
  rw[es']
  rw[kat_snds rfl har]
  subst e6
  refine wpAny_bind (seqEpoch_at ho6 rfl ?_)
  refine wpAny_bind (listUpdate_at ho6 rfl ?_ (Nat.zero_le _) (by rw[List.size_toArray,List.length_map,Array.length_toList,hp,sizeLine_eq];omega))
  rw[hf]
  simp only[bne_self_eq_false,Bool.false_eq_true,if_false]
  exact wpAny_pure (h p hpm hup)
theorem sorted_asked{κ:SortKind}{O:KeyOrd}{key:Nat->O.α}{l:Addr}{vs:List Value}{Q:Value->Shared->Prop}(hl:s.heap.IsList l vs.toArray)(h64:vs.length<64)
  (hk:∀s':Shared,(∀b o,s.heap.get? b=some o->s'.heap.get? b=some o)->2≤vs.length->∀R:SortKind->Shared->Prop,R κ s'->wpAny (model prog w) A.in1.in1 (keyKind' vs.toArray) R (λ_ _=>False) s')
  (hc:∀s':Shared,(∀b o,s.heap.get? b=some o->s'.heap.get? b=some o)->∀i j,i<vs.length->j<vs.length->∀C:Bool->Shared->Prop,C (O.blt (key i) (key j)) s'->kas_ask prog w A.in1.in1 κ vs i j C s')
  (h:∀(p:Array Nat) (h':Heap) (D:Addr) (e:Nat),Pm vs.length p->Up O key p vs.length->s.heap.objs.size≤D->h'.get? D=some (seqObj "list" (p.toList.map λi=>vs.getD i Value.none).toArray e)->(∀b o,s.heap.get? b=some o->h'.get? b=some o)->Q (.ref D) {s with heap:=h'}):
  wpAny (model prog w) A (call (.builtin "sorted") [.ref l]) Q E s:=by
 refine Calls.call_function_entry kind_sorted plain_sorted entry_sorted (args_sorted1 _) ?_
 unfold Builtin.«sorted»
 refine wpAny_bind (m:=checkCount "sorted" 1 1 _) (wpAny_pure ?_)
 refine wpAny_bind (collect_list hl ?_ (by rw[sizeLine_eq];omega))
 refine wpAny_bind (wpAny_newList ?_ (by rw[sizeLine_eq];omega))
 have hsz:((s.heap.push (seqObj "list" #[] 0)).update s.heap.objs.size (Obj.mapSeq (·++vs.toArray))).objs.size=s.heap.objs.size+1:=by
  rw[Heap.size_update,size_push']
 have hoL:(((s.heap.push (seqObj "list" #[] 0)).update s.heap.objs.size (Obj.mapSeq (·++vs.toArray))).push (seqObj "list" vs.toArray 0)).get? (s.heap.objs.size+1)=some (seqObj "list" vs.toArray 0):=by
  rw[←hsz];exact Heap.get?_push_size _ rfl
 have keep:∀b o,s.heap.get? b=some o->(((s.heap.push (seqObj "list" #[] 0)).update s.heap.objs.size (Obj.mapSeq (·++vs.toArray))).push (seqObj "list" vs.toArray 0)).get? b=some o:=λb o q=>by
  have hlt:b<s.heap.objs.size:=Heap.lt_size q
  rw[Heap.get?_push_ne _ _ _ (by rw[hsz];exact Nat.ne_of_lt (Nat.lt_succ_of_lt hlt)),Heap.get?_update_ne _ _ _ _ (Nat.ne_of_lt hlt),Heap.get?_push_ne _ _ _ (Nat.ne_of_lt hlt)]
  exact q
 have ne:∀b o,s.heap.get? b=some o->b≠s.heap.objs.size+1:=λb o q=>Nat.ne_of_lt (Nat.lt_succ_of_lt (Heap.lt_size q))
 show wpAny _ _ _ _ _ {s with heap:=((s.heap.push (seqObj "list" #[] 0)).update s.heap.objs.size (Obj.mapSeq (·++vs.toArray))).push (seqObj "list" vs.toArray 0)}
 rw[hsz]
 refine wpAny_bind (wpAny_holding (wpAny_call_entry slot_list_sort ⟨_,hoL,rfl⟩ entry_list_sort ?body (args_list_sort _)))
 case body=>
  refine list_sort_asked (κ:=κ) (O:=O) (key:=key) (s:={s with heap:=((s.heap.push (seqObj "list" #[] 0)).update s.heap.objs.size (Obj.mapSeq (·++vs.toArray))).push (seqObj "list" vs.toArray 0)})
   hoL h64 (λs' k=>hk s' λb o q=>k b o (ne b o q) (keep b o q)) (λs' k=>hc s' λb o q=>k b o (ne b o q) (keep b o q)) λp hp hu=>⟨_,rfl,wpAny_pure ⟨_,rfl,?_⟩⟩
  obtain⟨e,he⟩:=sortedHeap_at (out:=(p.toList.map λi=>vs.getD i Value.none).toArray) hoL
  refine h p _ _ e hp hu (Nat.le_succ _) he λb o q=> ?_
  rw[sortedHeap_old (ne b o q) (Heap.lt_size (keep b o q))]
  exact keep b o q
theorem lex_kat{b fin r:Bool}{Q:Bool->Shared->Prop}(q:Q r s):∀{zs:List (Value×Value)} {i:Nat},0<i->L2.LexAt .Lt A s fin r zs->KatLex prog w A b fin Q zs i s
 |[],i,hi,h=>by
  cases h with
  |nil e=>exact kat_nil (by rw[e];exact q)
 |(y,x)::zs,i,hi,h=>by
  refine kat_cons ?_
  cases h with
  |eq h1 h2=>exact h1 prog w _ _ (kat_yes (lex_kat q (by omega) h2))
  |ne h1 h2=>
   refine h1 prog w _ _ (kat_no ?_)
   have e:(b&&i==0)=false:=by
    cases i with
    |zero=>omega
    |succ i=>simp
   rw[e]
   exact kat_one _ _ (h2 prog w _ _ q)
theorem key_lt{x y:Value}{a c:Str}{xs ys:List PyData}{as bs:List Addr}{r:Bool}{Q:Bool->Shared->Prop}(e:L2.ltQ (.tuple (.str a::xs)) (.tuple (.str c::ys))=some r)(rx:Reads s.heap x (.tuple (.str a::xs)) as)(ry:Reads s.heap y (.tuple (.str c::ys)) bs)
  (cx:PyData.canLay0 (.tuple (.str a::xs))=true)(cy:PyData.canLay0 (.tuple (.str c::ys))=true)(hu:A.units+min (PyData.depthAll (.str a::xs)) (PyData.depthAll (.str c::ys))<cLine)(q:Q r s):wpAny (model prog w) A (keyLt' (tuples' true) x y) Q E s:=by
 cases rx with
 | @tuple l o vs n _ as₁ h1 h2 h3 h4=>
  cases ry with
  | @tuple l' o' vs' n' _ bs₁ k1 k2 k3 k4=>
   refine kat_lt h1 h3 k1 k3 ?_
   rw[L2.ltQ] at e
   have hsz:decide (vs.size<vs'.size)=decide (vs.toList.length<vs'.toList.length):=by simp
   rw[hsz]
   generalize vs.toList=us at h4 ⊢
   generalize vs'.toList=us' at k4 ⊢
   have cx':PyData.canLay0 (.str a)=true∧PyData.canLayAll0 xs=true:=by simpa[PyData.canLay0,PyData.canLayAll0] using cx
   have cy':PyData.canLay0 (.str c)=true∧PyData.canLayAll0 ys=true:=by simpa[PyData.canLay0,PyData.canLayAll0] using cy
   cases h4 with
   |cons a1 a2=>
    cases k4 with
    |cons b1 b2=>
     have q1:=SeqAt.eqAt_reads (.str a) (.str c) A s _ _ _ _ a1 b1 cx'.1 cy'.1 (SeqAt.room_head hu)
     cases a1
     cases b1
     rw[List.zip_cons_cons,L2.len_cc]
     refine kat_cons ?_
     rw[L2.ltQs] at e
     cases ce:PyData.eqv (.str a) (.str c) with
     |true=>
      rw[ce] at e q1
      exact q1 prog w _ _ (kat_yes (lex_kat q (by omega) (L2.lex_reads xs ys A s _ _ _ _ r e a2 b2 cx'.2 cy'.2 (SeqAt.room_tail hu))))
     |false=>
      rw[ce] at e q1
      refine q1 prog w _ _ (kat_no (oneLt_str ?_))
      have e:L2.ltQ (.str a) (.str c)=some r:=e
      rw[L2.ltQ] at e
      cases e
      exact q
end
end KP
namespace L2
open PySem PySem.Spec PyProof.Rows PySem.SeqAt
theorem depth_tl{xs ys:List PyData}{u:Nat}(h1:(PyData.tuple xs).depth≤60)(hu:u+64<cLine):u+2+min (PyData.depthAll xs) (PyData.depthAll ys)<cLine:=by
 have e:(PyData.tuple xs).depth=PyData.depthAll xs+1:=rfl
 omega
theorem kat_tups{h:Heap}:∀{vs:List Value} {qs:List PyData},vs.length=qs.length->(∀(i:Nat) v q,vs[i]? =some v->qs[i]? =some q->∃as x r,Reads h v q as∧q= .tuple (.str x::r))->∃fs:List Value,fs.length=vs.length∧PySem.W.KatTups h vs fs∧∀v∈fs,∃x t,v=Value.str x t
 |[],[],_,_=>⟨[],rfl,.nil,λ_ h=>by cases h⟩
 |v::vs,q::qs,e,k=>by
  obtain⟨fs,h1,h2,h3⟩:=kat_tups (vs:=vs) (qs:=qs) (by simpa using e) λi v' q' e1 e2=>k (i+1) v' q' (by simpa using e1) (by simpa using e2)
  obtain⟨as,x,r,rd,rfl⟩:=k 0 v q rfl rfl
  cases rd with
  | @tuple l o us n _ as₁ g1 g2 g3 g4=>
   generalize hu:us.toList=ul at g4
   cases g4 with
   | @cons v1 vr _ _ _ _ a1 a2=>
    cases a1 with
    |str _ t=>
     refine⟨Value.str x t::fs,by simp[h1],.cons g1 g2 g3 ?_ h2,λv hv=> ?_⟩
     .rw[←Array.getElem?_toList,hu];rfl
     .rcases List.mem_cons.mp hv with rfl|hv
      .exact⟨x,t,rfl⟩
      .exact h3 v hv
section
variable{X:Cx}
theorem call_sortQ(hc:X.calm=true)(hu:X.A.units+64<cLine):CallR X (.builtin "sorted") (λxs H Q=>∃(a:Addr) (vs:List V) (qs:List PyData) (O:KeyOrd) (key:Nat->O.α),xs=[.ref a]∧SqL X.K H a vs∧vs.length<64∧vs.length=qs.length∧
  (∀(i:Nat) v q,vs[i]? =some v->qs[i]? =some q->Dp X.K H v q∧q.canLay0=true∧q.depth≤60∧∃x r,q= .tuple (.str x::r))∧(∀(i j:Nat) p q,qs[i]? =some p->qs[j]? =some q->ltQ p q=some (O.blt (key i) (key j)))∧
  ∀(l:Addr) (p:Array Nat),H l=none->KO.Pm vs.length p->KO.Up O key p vs.length->Q (.ref l) (upd H l (.lst (p.toList.map λi=>vs.getD i .non)))):=by
 intro pins s σ H xs us Q I r h
 obtain⟨a,vs,qs,O,key,rfl,hq,h64,hl,hd,hk,q⟩:=h
 obtain⟨u,rfl,ru⟩:=vals1 r
 cases ru
 obtain⟨its,rv,pl,hz⟩:=I.list hq
 have hli:=rv.length
 have rd:∀(i:Nat) u p,its[i]? =some u->qs[i]? =some p->∃as x r,Reads s.heap u p as∧p= .tuple (.str x::r)∧p.canLay0=true∧p.depth≤60:=λi u p e1 e2=>by
  have hi:i<its.length:=(List.getElem?_eq_some_iff.mp e1).1
  obtain⟨u',e3,e4⟩:=Vals.get rv (List.getElem?_eq_getElem (show i<vs.length by omega))
  rw[e1] at e3
  cases e3
  obtain⟨d1,d2,d3,x,r,d4⟩:=hd i _ p (List.getElem?_eq_getElem (show i<vs.length by omega)) e2
  obtain⟨as,d5⟩:=Dp.reads I p _ u d1 e4
  exact⟨as,x,r,d5,d4,d2,d3⟩
 refine KP.sorted_asked (κ:=tuples' true) (O:=O) (key:=key) (vs:=its) pl.isList (by omega) (λs' kp h2 R hR=> ?_) (λs' kp i j hi hj C hC=> ?_) λp h' D e hp hup hD ho kp=> ?_
 .obtain⟨fs,f1,f2,f3⟩:=kat_tups (h:=s'.heap) (vs:=its) (qs:=qs) (by omega) λi v q e1 e2=>by
   obtain⟨as,x,r,g1,g2,_⟩:=rd i v q e1 e2
   exact⟨as,x,r,PyProof.Rows.Reads.keeps kp g1,g2⟩
  refine PySem.W.kat_kind (T:=Value.type "str") f2 (by omega) (λv hv=> ?_) (by decide) hR
  obtain⟨x,t,rfl⟩:=f3 v hv
  exact PySem.W.Looks.of_pure rfl
 .have ei:=List.getElem?_eq_getElem hi
  have ej:=List.getElem?_eq_getElem hj
  have qi:=List.getElem?_eq_getElem (show i<qs.length by omega)
  have qj:=List.getElem?_eq_getElem (show j<qs.length by omega)
  obtain⟨as,x,r,g1,g2,g3,g4⟩:=rd i _ _ ei qi
  obtain⟨bs,y,t,k1,k2,k3,k4⟩:=rd j _ _ ej qj
  have hlt:=hk i j _ _ qi qj
  rw[g2] at g1 g3 g4 hlt
  rw[k2] at k1 k3 hlt
  unfold PySem.W.kas_ask
  rw[List.getD_eq_getElem?_getD,List.getD_eq_getElem?_getD,ei,ej]
  exact KP.key_lt hlt (PyProof.Rows.Reads.keeps kp g1) (PyProof.Rows.Reads.keeps kp k1) g3 k3 (depth_tl g4 hu) hC
 .have hfr:∀u,s.heap.get? D≠some u:=λu z=>absurd (Nat.lt_of_lt_of_le (Heap.lt_size z) hD) (Nat.lt_irrefl _)
  have hn:H D=none:=by
   cases e0:H D with
   |none=>rfl
   |some o=>
    obtain⟨u,z⟩:=(I.hok _ _ e0).obj
    exact absurd z (hfr u)
  rw[←hli] at hp hup
  refine⟨.ref D,upd H D (.lst (p.toList.map λi=>vs.getD i .non)),?_,rfl,q D p hn hp hup⟩
  refine I.manyF (t':=s.toks) kp (Same.new hn _) λb o eb=> ?_
  by_cases hb:b=D
  .subst hb
   rw[upd_same] at eb
   cases eb
   refine .inr ⟨hfr,?_⟩
   refine⟨by rw[List.length_map,Array.length_toList,hp.size];exact Nat.le_of_lt (Nat.lt_of_lt_of_le h64 (by decide)),p.toList.map λi=>its.getD i Value.none,e,?_,ho⟩
   generalize p.toList=pl'
   induction pl' with
   |nil=>exact .nil
   |cons i pl' ih=>
    refine .cons ?_ ih
    show RelV (vs.getD i .non) (its.getD i Value.none)
    rw[List.getD_eq_getElem?_getD,List.getD_eq_getElem?_getD]
    by_cases hi:i<vs.length
    .obtain⟨u',e3,e4⟩:=Vals.get rv (List.getElem?_eq_getElem hi)
     rw[List.getElem?_eq_getElem hi,e3]
     exact e4
    .rw[List.getElem?_eq_none (by omega),List.getElem?_eq_none (by omega)]
     rfl
  .rw[upd_ne hb] at eb
   exact .inl eb
end
end L2
namespace DP
open PySem PySem.Spec PyProof.Rows L2
@[irreducible] def sqR(r:Nat)(A:Ar)(R:DK):Prop:=match A[r]? with
 |some (.lst ds)=>ds.length<64∧(∀d∈ds,pur d=true∧(toQ d).canLay0=true∧(toQ d).depth≤60∧∃x r,toQ d= .tuple (.str x::r))∧
  ∃(O:KeyOrd) (key:D->O.α),(∀d∈ds,∀e∈ds,ltQ (toQ d) (toQ e)=some (O.blt (key d) (key e)))∧∀es:List D,es.Perm ds->es.Pairwise (λa b=>O.kle (key a) (key b))->R (.ref A.length) (A++[.lst es])
 |_=>False
def sqD:DCb:=λvs A R=>match vs with
 |[.ref r]=>sqR r A R
 |_=>False
theorem map_range_getD{α:Type}(d:α):∀(l:List α),(List.range l.length).map (λi=>l.getD i d)=l:=λl=>by
 apply List.ext_getElem
 .simp
 .intro i h1 h2
  simp[h2]
theorem d_sortQ{mg:Str->Option Value}{K:PySem.W.Frag}:CbD mg (λxs H Q=>∃(a:Addr) (vs:List V) (qs:List PyData) (O:KeyOrd) (key:Nat->O.α),xs=[.ref a]∧SqL K H a vs∧vs.length<64∧vs.length=qs.length∧
  (∀(i:Nat) v q,vs[i]? =some v->qs[i]? =some q->Dp K H v q∧q.canLay0=true∧q.depth≤60∧∃x r,q= .tuple (.str x::r))∧(∀(i j:Nat) p q,qs[i]? =some p->qs[j]? =some q->ltQ p q=some (O.blt (key i) (key j)))∧
  ∀(l:Addr) (p:Array Nat),H l=none->KO.Pm vs.length p->KO.Up O key p vs.length->Q (.ref l) (upd H l (.lst (p.toList.map λi=>vs.getD i .non)))) sqD:=by
 intro ds A ι H us R Q ra rs h k
 unfold sqD at h
 split at h
 .obtain⟨_,_,rfl,⟨_,rfl⟩,rfl⟩:=rs
  unfold sqR at h
  split at h
  .rename_i ds e
   obtain⟨h64,hd,O,key,hk,q⟩:=h
   obtain⟨xs,hx,rx⟩:=ra.lst e
   have hl:=RVs.length rx
   refine⟨_,xs,ds.map toQ,O,λi=>key (ds.getD i .non),rfl,SqL.of hx,by omega,by simp[hl],λi v p e1 e2=> ?_,λi j p p' e1 e2=> ?_,λl p hn hp hup=> ?_⟩
   .rw[List.getElem?_map] at e2
    cases ed:ds[i]? with
    |none=>rw[ed] at e2;cases e2
    |some d=>
     rw[ed] at e2
     cases e2
     obtain⟨v',g1,g2⟩:=RVs.get rx ed
     rw[e1] at g1
     cases g1
     obtain⟨p1,p2,p3,p4⟩:=hd d (List.mem_of_getElem? ed)
     exact⟨RV.dp _ _ p1 g2,p2,p3,p4⟩
   .rw[List.getElem?_map] at e1 e2
    cases ed:ds[i]? with
    |none=>rw[ed] at e1;cases e1
    |some d=>
     cases ee:ds[j]? with
     |none=>rw[ee] at e2;cases e2
     |some d'=>
      rw[ed] at e1
      rw[ee] at e2
      cases e1
      cases e2
      show ltQ (toQ d) (toQ d')=some (O.blt (key (ds.getD i .non)) (key (ds.getD j .non)))
      rw[List.getD_eq_getElem?_getD,List.getD_eq_getElem?_getD,ed,ee]
      exact hk d (List.mem_of_getElem? ed) d' (List.mem_of_getElem? ee)
   .rw[←hl] at hp hup
    have hz:=hp.size
    have hpr:(p.toList.map λi=>ds.getD i .non).Perm ds:=by
     have:=(Array.perm_iff_toList_perm.mp hp).map λi=>ds.getD i D.non
     rwa [map_range_getD] at this
    refine new_lst k ra (ds:=p.toList.map λi=>ds.getD i .non) ?_ (q _ hpr ?_) hn
    .refine RVs.of_get (by simp) λi d v e1 e2=> ?_
     rw[List.getElem?_map] at e1 e2
     cases ep:p.toList[i]? with
     |none=>rw[ep] at e1;cases e1
     |some m=>
      rw[ep] at e1 e2
      have hm:m<ds.length:=by
       have:=(Array.perm_iff_toList_perm.mp hp).mem_iff.mp (List.mem_of_getElem? ep)
       simpa using this
      have e3:=List.getElem?_eq_getElem hm
      obtain⟨v',g1,g2⟩:=RVs.get rx e3
      have e1:some (ds.getD m .non)=some d:=e1
      have e2:some (xs.getD m .non)=some v:=e2
      rw[List.getD_eq_getElem?_getD,e3] at e1
      rw[List.getD_eq_getElem?_getD,g1] at e2
      cases e1
      cases e2
      exact g2
    .rw[List.pairwise_map,List.pairwise_iff_getElem]
     intro i j hi hj hij
     have:=hup i j (Nat.le_of_lt hij) (by simpa[hz] using hj)
     unfold KO.kp at this
     have gi:p.getD i 0=p.toList[i]:=by
      rw[Array.getD_eq_getD_getElem?,Array.getElem?_eq_getElem (by simpa using hi)]
      simp
     have gj:p.getD j 0=p.toList[j]:=by
      rw[Array.getD_eq_getD_getElem?,Array.getElem?_eq_getElem (by simpa using hj)]
      simp
     rw[gi,gj] at this
     exact this
  .exact h.elim
 .exact h.elim
theorem sq_ok{A:Ar}{r:Nat}{ds:List D}{R:DK}(O:KeyOrd)(key:D->O.α)(h:A[r]? =some (.lst ds))(h64:ds.length<64)(hd:∀d∈ds,pur d=true∧(toQ d).canLay0=true∧(toQ d).depth≤60∧∃x r,toQ d= .tuple (.str x::r))
  (hk:∀d∈ds,∀e∈ds,ltQ (toQ d) (toQ e)=some (O.blt (key d) (key e)))(k:∀es:List D,es.Perm ds->es.Pairwise (λa b=>O.kle (key a) (key b))->R (.ref A.length) (A++[.lst es])):sqR r A R:=by
 unfold sqR
 simp only[h]
 exact⟨h64,hd,O,key,hk,k⟩
abbrev stO:KeyOrd:=strKind.toKeyOrd
theorem str_cps{a b:Str}(h:a.cps.toList=b.cps.toList):a=b:=by
 cases a;cases b;simp at h;simpa using Array.toList_inj.mp (by simpa using h)
end DP
namespace L2
open PySem PySem.Spec PyProof.Rows PySem.SeqAt
open AutoSeq1 (wpAny_loadPart')
open MeetsSeq MeetsSeq2 MeetsSeq3 SeqRoads2
end L2
namespace L2
open PySem PySem.Spec PyProof.Rows PySem.SeqAt
end L2
namespace L2
open PySem PySem.Spec PyProof.Rows PySem.SeqAt
end L2
namespace DP
open PySem PySem.Spec PyProof.Rows L2
section
variable{X:Cx}{N:En}{a b:Expr}{ma mb:DTE}{pos:Pos}
end
end DP
namespace L2
open PySem PySem.Spec PyProof.Rows
end L2
namespace DP
open PySem PySem.Spec PyProof.Rows L2
section
variable{X:Cx}{N:En}{a b:Expr}{ma mb:DTE}{pos:Pos}
end
end DP
namespace L2
open PySem PySem.Spec PyProof.Rows
open Sem (wp)
open AutoSeq1 (wpAny_loadPart')
section
variable{prog:Program}{w:World}{A:Around}{E:Value->Shared->Prop}{s:Shared}
end
section
variable{prog:Program}{w:World}{A:Around}{E:Value->Shared->Prop}{s:Shared}
end
section
variable{X:Cx}
end
end L2
namespace DP
open PySem PySem.Spec PyProof.Rows L2
end DP
namespace DP
open PySem PySem.Spec PyProof.Rows L2
section
variable{es:List Expr}{env:Env}{p:Pos}
theorem sc_con{c i}:starEach (.Constant c i p::es) env=(false,eval (.Constant c i p) env)::starEach es env:=rfl
end
end DP
namespace DP
open PySem PySem.Spec PyProof.Rows L2
section
variable{X:Cx}{k n:Nat}
end
end DP
namespace HT
open PySem PySem.Spec PyProof.Rows L2
section
variable{prog:Program}{w:World}{A:Around}{E:Value->Shared->Prop}{s:Shared}
end
end HT
namespace L2
open PySem PySem.Spec PyProof.Rows
section
variable{X:Cx}{e se:Expr}{te ts:TE}{p2 pos:Pos}
end
end L2
namespace DP
open PySem PySem.Spec PyProof.Rows L2
end DP
namespace L2
open PySem PySem.Spec PyProof.Rows
section
variable{X:Cx}
end
end L2
namespace DP
open PySem PySem.Spec PyProof.Rows L2
section
variable{X:Cx}{N:En}{a b:Expr}{pos:Pos}{ma mb:DTE}
end
end DP
namespace DP
open PySem PySem.Spec PyProof.Rows L2
section
variable{mg:Str->Option Value}{ι:Io}{n:Nat}{H:Hp}
end
section
variable{X:Cx}{N:En}{cl f:Str}{C:Addr}{e o value:Expr}{pos pos':Pos}{m mo mv:DTE}
end
section
variable{X:Cx}{N:En}{k n:Nat}{cl mn:Str}{ps:List Str}{S:Ct}{RE:DX}{o e:Expr}{es:List Expr}{mo:DTE}{m:DTA}{p pos apos:Pos}
end
section
variable{X:Cx}{N:En}{o:Expr}{mo:DTE}{apos cpos:Pos}{f:DMt}{r:V->List V->Hp->VK->Prop}{name:Str}{id:String}
end
end DP
namespace L2
open PySem PySem.Spec PyProof.Rows
section
variable{X:Cx}
end
end L2
namespace DP
open PySem PySem.Spec PyProof.Rows L2
end DP
namespace L2
open PySem PySem.Spec PyProof.Rows
section
variable{X:Cx}
end
end L2
namespace L2
open PySem PySem.Spec PyProof.Rows
section
variable{X:Cx}{es:List Expr}{t:TJ}{te:TE}{e:Expr}{p pos:Pos}
end
end L2
namespace DP
open PySem PySem.Spec PyProof.Rows L2
section
variable{X:Cx}{N:En}{e o:Expr}{es:List Expr}{mo:DTE}{m:DTA}{apos cpos:Pos}{f:DMt}{r:V->List V->Hp->VK->Prop}{name:Str}{id:String}
end
section
variable{X:Cx}{N:En}{es:List Expr}{m:DTJ}{me:DTE}{e:Expr}{p pos:Pos}
def sAug(i:Nat)(m:DTE):DTS:=λR τ A=>match lk τ i with
 |some (.int a)=>m τ A λy A1=>match y with
  | .int b=>R.nx (τ.set i (some (.int (a+b)))) A1
  |_=>False
 |_=>False
theorem ds_aug{i:Nat}{x:Str}{pos':Pos}(hN:X.N.Nodup)(hi:X.N[i]? =some x)(hx:Loc X.env.scope x)(he:PE X e (up X.mg N me))(hf:X.fn x=true∨X.env.scope.names.lookup x=some .local:=by first|exact .inl rfl|exact .inr rfl|assumption):
  PS X (.AugAssign (.Name x pos') .Add e pos) (upS X.mg N (sAug i me)):=ds_w (ps_aug hN hi hx he ip_add hf) λQ σ H q=>by
 obtain⟨A,ι,τ,R,S,q,k⟩:=q
 unfold sAug at q
 cases el:lk τ i with
 |none=>rw[el] at q;exact q.elim
 |some d=>
  rw[el] at q
  cases d with
  |int a=>
   obtain⟨v,h1,h2⟩:=S.rs.at' i _ el
   cases h2
   refine⟨.int a,h1,A,ι,τ,_,S,q,λy A1 ι1 H1 u q1 e1 r1 v1=> ?_⟩
   cases y with
   |int b=>
    cases v1
    exact⟨a,b,rfl,rfl,(k.nx.from e1).here ((S.next e1 r1).set (d:= .int (a+b)) (v:= .int (a+b)) rfl) q1⟩
   |_=>exact q1.elim
  |_=>exact q.elim
end
end DP
namespace L2
open PySem PySem.Spec PyProof.Rows
section
variable{X:Cx}
end
end L2
namespace L2
open PySem PySem.Spec PyProof.Rows
section
variable{X:Cx}
end
end L2
namespace DP
open PySem PySem.Spec PyProof.Rows L2
section
variable{X:Cx}{N:En}{a b:Expr}{pos:Pos}{ma mb:DTE}
end
end DP
namespace L2
open PySem PySem.Spec PyProof.Rows
section
variable{X:Cx}
end
end L2
namespace DP
open PySem PySem.Spec PyProof.Rows L2
end DP
namespace L2
open PySem PySem.Spec PyProof.Rows
section
variable{X:Cx}
end
end L2
namespace DP
open PySem PySem.Spec PyProof.Rows L2
section
variable{X:Cx}{N:En}{a b:Expr}{pos:Pos}{ma mb:DTE}
end
end DP
namespace L2
open PySem PySem.Spec PyProof.Rows
section
variable{X:Cx}{es:List Expr}{t:TJ}{te:TE}{e:Expr}{p pos:Pos}
end
end L2
namespace DP
open PySem PySem.Spec PyProof.Rows L2
end DP
namespace DP
open PySem PySem.Spec PyProof.Rows L2
end DP
namespace L2
open PySem PySem.Spec PyProof.Rows
theorem boot_reversed:bootBuiltins "reversed" =some (.type "reversed"):=by decide+kernel
def Itv(K:PySem.W.Frag)(a:Addr)(n:Nat):It:=
 ⟨λi H=>∃xs,SqL K H a xs∧xs.length=n∧i<n,λi H x H'=>H'=H∧∀xs,SqL K H a xs->xs[n - 1 - i]? =some x,λi H=>n≤i⟩
theorem turn_rev{P:Program}{w:World}{K:PySem.W.Frag}{tg:Expr}(a it:Addr)(n:Nat):Turn P w K tg (Itv K a n) [it] it (λi h=>PySem.Heap.IsRevIter h it a ((n:Int) - 1 - i)∧i≤n) where
 mem:=by simp
 obj:=λi h st b hb=>by
  have e:b=it:=by simpa using hb
  subst e
  obtain⟨⟨o,e,c,d⟩,_⟩:=st
  exact⟨o,e,λv z=>by rw[d] at z;cases z⟩
 keep:=λi h h' st k=>⟨st.1.at λo e=>k it (by simp) o e,st.2⟩
 item:=by
  intro X hP hw hK hc i pins s σ H E I hf st hg
  subst hP hw hK
  obtain⟨xs,hq,hn,hi⟩:=hg
  obtain⟨its,rv,p,hz⟩:=I.list hq
  have hx:xs[n - 1 - i]? =some (xs[n - 1 - i]'(by omega)):=List.getElem?_eq_getElem (by omega)
  obtain⟨u,hu,ru⟩:=rv.get hx
  obtain⟨f0,f1,f2,f3,f4,f5⟩:=hf it (by simp)
  have ei:(n:Int) - 1 - i=((n - 1 - i:Nat):Int):=by omega
  have st1:=st.1
  rw[ei] at st1
  refine PySem.wpAny_pyNext_rev_item st1 p.isList (x:=u) (by simpa using hu) λh' st' sb=> ?_
  have I1:Inv X pins σ H {s with heap:=h'}:=I.turned (t':=s.toks) (λb o hb e=>(sb.2 b hb).trans e) f0 f1 f3 f4 f5
  obtain⟨o,e,c,d⟩:=id st'
  refine⟨u,rfl,go_of (s:={s with heap:=h'}) e c d (by decide) ⟨_,H,I1,ru,⟨rfl,λys hy=>by rw[I.list_inj hy hq];exact hx⟩,⟨?_,by omega⟩,λb hb=>(hf b hb).1⟩⟩
  have e2:(n:Int) - 1 - ((i+1:Nat):Int)=((n - 1 - i:Nat):Int) - 1:=by omega
  rw[e2]
  exact st'
 done:=by
  intro X hP hw hK hc i pins s σ H E I hf st hg
  subst hP hw hK
  have hg:n≤i:=hg
  obtain⟨f0,f1,f2,f3,f4,f5⟩:=hf it (by simp)
  obtain⟨st1,st2⟩:=st
  have ei:(n:Int) - 1 - i= -1:=by omega
  rw[ei] at st1
  exact PySem.wpAny_pyNext_rev_end (I.ok.hd hc) st1 λh' eb=>⟨rfl,I.turned (t':=s.toks) (λb o hb e=>eb b o hb e) f0 f1 f3 f4 f5⟩
 self:=λ_ _ _ _ _ st h=>PySem.wpAny_pyIter_revIter st.1 h
section
variable{X:Cx}
def iRev(K:PySem.W.Frag)(ta:TA):TI:=λσ H R=>ta σ H λvs H1=>∃a xs,vs=[.ref a]∧SqL K H1 a xs∧R (Itv K a xs.length) H1
theorem pi_rev{tg l:Expr}{ta:TA}{p pos:Pos}(hg:Gl X "reversed")(hm:X.mg "reversed" =none)(ha:PA X [l] ta)(hs:starEach [l] X.env=[(false,eval l X.env)]:=by rfl):
  PI X tg (.Call (.Name "reversed" p) [l] [] pos) (iRev X.K ta):=by
 intro pins s σ H R I h
 refine Call_ (ld_blt I hg hm boot_reversed (PyProof.Rows.callWith_type1 (thn (ha pos pins s σ H _ I h) λus s1 ⟨vs,H1,I1,r1,q1⟩=> ?_) hs rfl))
 obtain⟨a,xs,e,hq,q⟩:=q1
 subst e
 obtain⟨u,rfl,ru⟩:=vals1 r1
 cases ru
 obtain⟨its,rv,pl,hz⟩:=I1.list hq
 have hl:=rv.length
 refine PySem.call_reversed_list pl.isList ?_
 have st:PySem.Heap.IsRevIter (s1.heap.push (PySem.revObj a ((its.toArray.size:Int) - 1))) s1.heap.objs.size a ((xs.length:Int) - 1 - (0:Nat)):=by
  refine⟨_,Heap.get?_push_size _ rfl,rfl,?_⟩
  have e:((its.toArray.size:Int) - 1)=((xs.length:Int) - 1 - (0:Nat)):=by simp;omega
  rw[←e]
  rfl
 refine PySem.wpAny_pyIter_revIter st ⟨s1.heap.objs.size,[s1.heap.objs.size],_,_,H1,rfl,I1.kept (t':=s1.toks) λb o e=>Heap.get?_push_of_some _ e,turn_rev a _ _,⟨st,Nat.zero_le _⟩,λb hb=> ?_,q⟩
 have e:b=s1.heap.objs.size:=by simpa using hb
 subst e
 exact I1.fpOk (Nat.le_refl _) (I1.hok.fresh (Nat.le_refl _))
end
end L2
namespace DP
open PySem PySem.Spec PyProof.Rows L2
section
variable{mg:Str->Option Value}{K:PySem.W.Frag}{A:Ar}{ι:Io}{H:Hp}
def enm(ds:List D):List D:=ds.zipIdx.map λp=>D.tup [.int ((p.2:Nat):Int),p.1]
theorem enm_get{ds:List D}{i:Nat}{d:D}(h:(enm ds)[i]? =some d):∃x,ds[i]? =some x∧d= .tup [.int ((i:Nat):Int),x]:=by
 unfold enm at h
 rw[List.getElem?_map,List.getElem?_zipIdx] at h
 cases e:ds[i]? with
 |none=>rw[e] at h;cases h
 |some x=>
  rw[e] at h
  simp at h
  exact⟨x,rfl,h.symm⟩
theorem jok_enm{q:Nat}{ds:List D}(hq:q<A.length):JOk mg A ι H (Ite K (ι q)) (enm ds) (λA'=>A'[q]? =some (.lst ds)) where
 go:=λi d A1 ι1 H1 hd e r hc=>by
  obtain⟨xs,h1,h2⟩:=r.lst hc
  rw[e.ag q hq] at h1
  obtain⟨x,hx,rfl⟩:=enm_get hd
  obtain⟨v,h3,h4⟩:=RVs.get h2 hx
  refine⟨⟨xs,v,SqL.of h1,h3⟩,λy H' z=> ?_⟩
  obtain⟨p,y',hp,rfl,rfl,hy⟩:=z
  have:=hy xs (SqL.of h1)
  rw[h3] at this
  cases this
  have E:Ext A1 ι1 H1 A1 ι1 (upd H1 p (.tup [.int (i:Nat),v])):=r.ext_fix hp
  exact⟨E,r.fix E λb o z=>by rw[upd_ne (ne_of_none z hp)];exact z,p,[.int (i:Nat),v],rfl,upd_same,_,_,rfl,rfl,_,_,rfl,RV.ext E _ _ h4,rfl⟩
 stop:=λA1 ι1 H1 e r hc=>by
  obtain⟨xs,h1,h2⟩:=r.lst hc
  rw[e.ag q hq] at h1
  exact⟨xs,SqL.of h1,by rw[←RVs.length h2];simp[enm]⟩
theorem jok_rev{q:Nat}{ds:List D}{n:Nat}(hn:n=ds.length)(hq:q<A.length):JOk mg A ι H (Itv K (ι q) n) ds.reverse (λA'=>A'[q]? =some (.lst ds)) where
 go:=λi d A1 ι1 H1 hd e r hc=>by
  obtain⟨xs,h1,h2⟩:=r.lst hc
  rw[e.ag q hq] at h1
  have hl:=RVs.length h2
  have hi:=(List.getElem?_eq_some_iff.mp hd).1
  rw[List.length_reverse] at hi
  rw[List.getElem?_reverse hi] at hd
  obtain⟨v,h3,h4⟩:=RVs.get h2 hd
  refine⟨⟨xs,SqL.of h1,by omega,by omega⟩,λx H' y=> ?_⟩
  obtain⟨rfl,y⟩:=y
  have:=y xs (SqL.of h1)
  rw[hn,h3] at this;cases this
  exact⟨r.refl,r,h4⟩
 stop:=λA1 ι1 H1 e r hc=>by
  show n≤ds.reverse.length
  rw[List.length_reverse]
  omega
end
@[irreducible] def itE(f:List D->List D)(r:Nat)(A:Ar)(R:List D->(Ar->Prop)->Ar->Prop):Prop:=match A[r]? with
 |some (.lst ds)=>R (f ds) (λA'=>A'[r]? =some (.lst ds)) A
 |_=>False
theorem ite_ok{f:List D->List D}{r:Nat}{A:Ar}{ds:List D}{R:List D->(Ar->Prop)->Ar->Prop}(h:A[r]? =some (.lst ds))(k:R (f ds) (λA'=>A'[r]? =some (.lst ds)) A):itE f r A R:=by
 unfold itE
 rw[h]
 exact k
def iEn(n:DTA):DTI:=λτ A R=>n τ A λvs A1=>match vs with
 |[.ref r]=>itE enm r A1 R
 |_=>False
def iRv(n:DTA):DTI:=λτ A R=>n τ A λvs A1=>match vs with
 |[.ref r]=>itE List.reverse r A1 R
 |_=>False
section
variable{X:Cx}{N:En}{tg l:Expr}{n:DTA}{p pos:Pos}
theorem di_enum{elts:List Expr}{k:Nat}{tpos:Pos}(hm:X.mg "enumerate" =none)(ha:PA X [l] (upA X.mg N n))(hg:Gl X "enumerate" :=by rfl)(hs:starEach [l] X.env=[(false,eval l X.env)]:=by rfl):PI X (.Tuple elts k tpos) (.Call (.Name "enumerate" p) [l] [] pos) (upI X.mg N (iEn n)):=di_w (pi_enum hg hm ha boot_enumerate hs) λσ H Q q=>by
 obtain⟨A,ι,τ,R,S,q,k⟩:=q
 refine⟨A,ι,τ,_,S,q,λvs A1 ι1 H1 us q1 e1 r1 v1=> ?_⟩
 match vs,q1,v1 with
 |[.ref r],q1,v1=>
  obtain⟨_,_,rfl,⟨hr,rfl⟩,rfl⟩:=v1
  have q1:itE enm r A1 R:=q1
  unfold itE at q1
  split at q1
  .rename_i ds e
   obtain⟨xs,h1,h2⟩:=r1.lst e
   exact⟨_,xs,rfl,SqL.of h1,k _ _ A1 ι1 H1 _ q1 e1 r1 (jok_enm hr)⟩
  .exact q1.elim
theorem di_rev(hm:X.mg "reversed" =none)(ha:PA X [l] (upA X.mg N n))(hg:Gl X "reversed" :=by rfl)(hs:starEach [l] X.env=[(false,eval l X.env)]:=by rfl):PI X tg (.Call (.Name "reversed" p) [l] [] pos) (upI X.mg N (iRv n)):=di_w (pi_rev hg hm ha hs) λσ H Q q=>by
 obtain⟨A,ι,τ,R,S,q,k⟩:=q
 refine⟨A,ι,τ,_,S,q,λvs A1 ι1 H1 us q1 e1 r1 v1=> ?_⟩
 match vs,q1,v1 with
 |[.ref r],q1,v1=>
  obtain⟨_,_,rfl,⟨hr,rfl⟩,rfl⟩:=v1
  have q1:itE List.reverse r A1 R:=q1
  unfold itE at q1
  split at q1
  .rename_i ds e
   obtain⟨xs,h1,h2⟩:=r1.lst e
   exact⟨_,xs,rfl,SqL.of h1,k _ _ A1 ι1 H1 _ q1 e1 r1 (jok_rev (RVs.length h2).symm hr)⟩
  .exact q1.elim
end
end DP
namespace L2
open PySem PySem.Spec PyProof.Rows
section
variable{X:Cx}
def rUpd:V->List V->Hp->VK->Prop:=λx vs H Q=>∃d o kvs more,x= .ref d∧vs=[.ref o]∧d≠o∧H d=some (.dK kvs)∧H o=some (.dK more)∧kvs.length+more.length≤1000∧Q .non (upd H d (.dK (mergeK kvs more)))
theorem mt_upd:MtM X "dict.update" rUpd:=by
 intro pins s σ H x vs v us Q I rx rv h
 obtain⟨d,o,kvs,more,rfl,rfl,hdo,hd,ho,hz,q⟩:=h
 cases rx
 obtain⟨u,rfl,ru⟩:=rv.one
 cases ru
 obtain⟨z1,s1,vs1,k1,dd⟩:=dk_of I.hok hd
 obtain⟨z2,s2,vs2,k2,dd2⟩:=dk_of I.hok ho
 have h1000:(1000:Nat)≤sizeLine:=by decide
 have l1:=k1.length
 have l2:=k2.length
 have lm:=length_mergeK more kvs
 refine call_meetsIn PySem.F.slot_dict_update (dd.typeIs) PySem.F.entry_dict_update (PySem.F.args_dict_update_2 _ _) (PySem.meets_dict_update (mixKind X.prog X.w) d o hdo s2) ?_
 refine⟨vs1,vs2,dd,dd2,by omega,λh' h1 h2 hs=> ?_⟩
 have he:∃q,h'.get? d=some q:=let ⟨q,_,_,hq,_⟩:=h1;⟨q,hq⟩
 exact⟨.non,_,d_write I (by rw[hd];exact True.intro) hs he (dk_new (by omega) s1 (k2.merge k1) h1),rfl,q⟩
theorem CmpOf.strs_lt{prog:Program}{w:World}{A:Around}{P:Nat->Value->Prop}(val:Nat->Str)(hval:∀i v,P i v->∃t,v= .str (val i) t):
  CmpOf prog w A .Lt P (λi j=>decide ((val i).cps.toList<(val j).cps.toList)):=λi j vi vj s Q E hi hj h=>by
 obtain⟨t,rfl⟩:=hval i vi hi
 obtain⟨u,rfl⟩:=hval j vj hj
 exact PySem.P.lt_str h
theorem best_str(val:Nat->Str):∀k,argBest (λi j=>decide ((val i).cps.toList<(val j).cps.toList)) k≤k∧∀j,j≤k->¬(val j).cps.toList<(val (argBest (λi j=>decide ((val i).cps.toList<(val j).cps.toList)) k)).cps.toList
 |0=>⟨Nat.le_refl _,λj hj=>by
  have:j=0:=by omega
  subst this
  exact List.lt_irrefl _⟩
 |k+1=>by
  obtain⟨h1,h2⟩:=best_str val k
  have e:argBest (λi j=>decide ((val i).cps.toList<(val j).cps.toList)) (k+1)=if decide ((val (k+1)).cps.toList<(val (argBest (λi j=>decide ((val i).cps.toList<(val j).cps.toList)) k)).cps.toList)=true then k+1 else argBest (λi j=>decide ((val i).cps.toList<(val j).cps.toList)) k:=rfl
  rw[e]
  split
  .rename_i h
   rw[decide_eq_true_eq] at h
   refine⟨Nat.le_refl _,λj hj hlt=> ?_⟩
   by_cases hk:j=k+1
   .subst hk
    exact List.lt_irrefl _ hlt
   .exact h2 j (by omega) (List.lt_trans hlt h)
  .rename_i h
   rw[decide_eq_true_eq] at h
   refine⟨by omega,λj hj=> ?_⟩
   by_cases hk:j=k+1
   .subst hk
    exact h
   .exact h2 j (by omega)
theorem call_minD(hc:X.calm=true):CallR X (.builtin "min") (λxs H Q=>∃(d:Addr) (kvs:List (Key×V)) (ns:List Str),xs=[.ref d]∧Rd H d (.dK kvs)∧kvs.map (·.1)=ns.map Sum.inr∧ns≠[]∧∀m∈ns,(∀n∈ns,¬n.cps.toList<m.cps.toList)->Q (.str m) H):=by
 intro pins s σ H xs us Q I r h
 obtain⟨d,kvs,ns,rfl,hd,hk,hne,q⟩:=h
 obtain⟨u,rfl,ru⟩:=vals1 r
 cases ru
 have npos:=List.length_pos_iff.mpr hne
 obtain⟨hz,hs,vs,rel,dd⟩:=dk_rd I.hok hd
 obtain⟨ep,hat⟩:=dd.dictAt
 have hlen:kvs.length=ns.length:=by
  have:=congrArg List.length hk
  simpa using this
 have hlv:vs.length=ns.length:=by rw[←rel.length,hlen]
 have hlt:d<s.heap.objs.size:=by obtain⟨o,_,ho,_⟩:=hat;exact Heap.lt_size ho
 have keys:∀i v,(∃k x,vs[i]? =some (k,x)∧(mixKind X.prog X.w).is k v=true)->∃t:Tok,v= .str (ns.getD i default) t:=λi v ⟨k,x,h1,h2⟩=>by
  have h3:=rel.keys
  have h4:(vs.map (·.1))[i]? =some k:=by rw[List.getElem?_map,h1];rfl
  rw[←h3,hk,List.getElem?_map] at h4
  cases e:ns[i]? with
  |none=>rw[e] at h4;cases h4
  |some n=>
   rw[e] at h4
   have h4:k=Sum.inr n:=(Option.some.inj h4).symm
   subst h4
   rcases keyIs_shape (show keyIs (Sum.inr n) v=true from h2) with⟨_,_,z,_⟩|⟨x',t,z,z2⟩
   .cases z
   .cases z
    refine⟨t,?_⟩
    rw[List.getD_eq_getElem?_getD,e]
    exact z2
 refine call_min_walk ?_
 refine wpAny_pyIter_dict (knd:=mixKind X.prog X.w) hs hat ⟨s.heap.objs.size,_,_,_,_,_,_,rfl,Walks.dictKeys (knd:=mixKind X.prog X.w) (A:=X.A.in1) (I.ok.hd hc) s.heap.objs.size d (Nat.ne_of_lt hlt) vs ep,⟨⟨_,Heap.get?_push_size _ rfl,rfl,rfl⟩,?_⟩,λb hb=> ?_,by omega,CmpOf.strs_lt (λi=>ns.getD i default) keys,λv h' tk hv hk'=> ?_⟩
 .obtain⟨o,es,ho,r⟩:=hat
  exact⟨o,es,Heap.get?_push_of_some _ ho,r⟩
 .show b<(s.heap.push _).objs.size
  rw[size_push']
  rcases List.mem_cons.mp hb with e|hb
  .rw[e];exact Nat.lt_succ_self _
  .rw[List.mem_singleton.mp hb];exact Nat.lt_succ_of_lt hlt
 .obtain⟨t,rfl⟩:=keys _ v hv
  obtain⟨b1,b2⟩:=best_str (λi=>ns.getD i default) (vs.length - 1)
  have hi:argBest (λi j=>decide ((ns.getD i default).cps.toList<(ns.getD j default).cps.toList)) (vs.length - 1)<ns.length:=by omega
  have hmem:ns.getD (argBest (λi j=>decide ((ns.getD i default).cps.toList<(ns.getD j default).cps.toList)) (vs.length - 1)) default∈ns:=by
   rw[List.getD_eq_getElem?_getD,List.getElem?_eq_getElem hi]
   exact List.getElem_mem hi
  have Q1:=q _ hmem λn hn=>by
   obtain⟨j,hj,e⟩:=List.getElem_of_mem hn
   have:=b2 j (by omega)
   rw[List.getD_eq_getElem?_getD,List.getElem?_eq_getElem hj] at this
   rw[←e]
   exact this
  exact⟨.str _,H,I.kept λb o e=>hk' b o (λz=>by
   have z':b=s.heap.objs.size:=by simpa using z
   exact absurd (Heap.lt_size e) (by rw[z'];exact Nat.lt_irrefl _)) (Heap.get?_push_of_some _ e),⟨_,rfl⟩,Q1⟩
end
end L2
namespace DP
open PySem PySem.Spec PyProof.Rows L2
def dDisp(mk mv:DTE):DTE:=λτ A R=>mk τ A λk A1=>mv τ A1 λv A2=>match keyD k with
 |some ky=>R (.ref A2.length) (A2++[.dct [(ky,v)]])
 |none=>False
theorem de_disp{X:Cx}{N:En}{pos:Pos}{k v:Expr}{mk mv:DTE}(hk:PE X k (up X.mg N mk))(hv:PE X v (up X.mg N mv)):PE X (.Dict [some k] [v] pos) (up X.mg N (dDisp mk mv)):=
 de_w (pe_disp (pps_cons hk hv pps_nil) rfl rfl (by simp) (show 1≤15 by decide)) λσ H Q q=>by
  obtain⟨A,ι,τ,R,S,q,kq⟩:=q
  intro p hp
  have E0:=S.ra.ext_fix (o:= .dK []) hp
  have S1:Sim X.mg N A ι τ σ (upd H p (.dK [])):=S.next E0 (S.ra.fix E0 λb o z=>by rw[upd_ne (ne_of_none z hp)];exact z)
  have off:∀r,r<A.length->ι r≠p:=λr hr z=>by
   obtain⟨o,h1,_⟩:=S.ra.im r hr
   rw[z,hp] at h1;cases h1
  refine⟨A,ι,τ,_,S1,q,λdk A1 ι1 H1 x q1 e1 r1 v1=> ?_⟩
  refine⟨A1,ι1,τ,_,S1.next e1 r1,q1,λdv A2 ι2 H2 y q2 e2 r2 v2=> ?_⟩
  have e12:=e1.trans e2
  have hy:H2 p=some (.dK []):=e12.mo p _ upd_same off
  have off2:∀r,r<A2.length->ι2 r≠p:=λr hr z=>by
   by_cases hl:r<A.length
   .rw[e12.ag r hl] at z;exact off r hl z
   .have:=e12.nw r (by omega) hr
    rw[z,upd_same] at this;cases this
  have q2:(match keyD dk with|some ky=>R (.ref A2.length) (A2++[.dct [(ky,dv)]])|none=>False):=q2
  cases ek:keyD dk with
  |none=>rw[ek] at q2;exact q2.elim
  |some ky=>
  rw[ek] at q2
  have ex:x=kV ky:=keyD_kV ek v1
  subst ex
  refine⟨hy,[(ky,y)],rfl,show 1≤15 by decide,?_⟩
  have em:mergeK [] [(ky,y)]=[(ky,y)]:=rfl
  rw[em]
  obtain⟨ι3,ag2,at2⟩:∃ι3:Io,(∀r,r<A2.length->ι3 r=ι2 r)∧ι3 A2.length=p:=⟨λr=>if r=A2.length then p else ι2 r,λr h=>by
   show(if r=A2.length then p else ι2 r)=ι2 r
   rw[if_neg (by omega)],by
   show(if A2.length=A2.length then p else ι2 A2.length)=p
   rw[if_pos rfl]⟩
  have fx:∀b o,mutO o=false->H2 b=some o->upd H2 p (.dK [(ky,y)]) b=some o:=λb o m z=>by
   rw[upd_ne]
   .exact z
   .rintro rfl
    rw[hy] at z;cases z;cases m
  refine kq (.ref A2.length) (A2++[.dct [(ky,dv)]]) ι3 _ _ q2 ⟨?_,λr h=> ?_,S.ra.im,λb o h hn=> ?_,λr h1 h2=> ?_,λb o h=> ?_⟩ ⟨λr c h=> ?_,λr s hr hs h=> ?_⟩ ⟨by simp,by rw[at2]⟩
  .have:=e12.len;simp;omega
  .rw[ag2 r (Nat.lt_of_lt_of_le h e12.len)];exact e12.ag r h
  .have hb:b≠p:=ne_of_none h hp
   rw[upd_ne hb]
   exact e12.mo b o (by rw[upd_ne hb];exact h) hn
  .by_cases hr:r<A2.length
   .rw[ag2 r hr]
    have:=e12.nw r h1 hr
    rw[upd_ne (off2 r hr)] at this
    exact this
   .have:r=A2.length:=by simp at h2;omega
    subst this
    rw[at2];exact hp
  .have hb:b≠p:=ne_of_none h hp
   obtain⟨o',h'⟩:=e12.al b o (by rw[upd_ne hb];exact h)
   exact⟨o',by rw[upd_ne hb];exact h'⟩
  .by_cases hr:r<A2.length
   .rw[List.getElem?_append_left hr] at h
    have:=CO.ag (n':=(A2++[C.dct [(ky,dv)]]).length) (ι':=ι3) (H':=upd H2 p (.dK [(ky,y)])) (by simp) ag2 fx (λo z=>by rw[upd_ne (off2 r hr)];exact z) c (r2.cel r c h)
    rw[ag2 r hr]
    exact this
   .have hr':r=A2.length:=by
     have:=(List.getElem?_eq_some_iff.mp h).1
     simp at this;omega
    subst hr'
    simp at h;subst h
    rw[at2]
    exact⟨_,upd_same,y,[],rfl,RV.ag (by simp) ag2 fx dv y v2,rfl⟩
  .simp at hr hs
   by_cases h1:r=A2.length
   .by_cases h2:s=A2.length
    .rw[h1,h2]
    .subst h1
     rw[at2,ag2 s (by omega)] at h
     exact absurd h.symm (off2 s (by omega))
   .by_cases h2:s=A2.length
    .subst h2
     rw[at2,ag2 r (by omega)] at h
     exact absurd h (off2 r (by omega))
    .rw[ag2 r (by omega),ag2 s (by omega)] at h
     exact r2.inj r s (by omega) (by omega) h
def isDc(A:Ar):D->Bool
 | .ref r=>match A[r]? with
  |some (.dct _)=>true
  |_=>false
 |_=>false
def dMtD(f:DMt)(mo:DTE)(m:DTA):DTE:=λτ A R=>mo τ A λx A1=>isDc A1 x=true∧m τ A1 λvs A2=>f x vs A2 R
theorem isDc_of{A:Ar}{r:Nat}{kvs:List (Key×D)}(h:A[r]? =some (.dct kvs)):isDc A (.ref r)=true:=by unfold isDc;simp only[h]
section
variable{X:Cx}{N:En}{e o:Expr}{es:List Expr}{mo:DTE}{m:DTA}{apos cpos:Pos}{f:DMt}{r:V->List V->Hp->VK->Prop}{name:Str}{id:String}
theorem de_mtD(pa:PlainAttrs "dict")(slot:Slot "dict" name id)(hty:typeOf (.builtin id)=pure (.type "method_descriptor"))(hm:MtR X id r)(hd:MtD X.mg X.K "dict" r f)(ho:PE X o (up X.mg N mo))(ha:PA X (e::es) (upA X.mg N m))
  (hbase:attributeBase o name X.env (eval o X.env)=eval o X.env:=by rfl)
  (hfew:((backTo cpos (starEach (e::es) X.env)).all (λx=> !x.1)&&(backToKw cpos (keywordEach [] X.env)).all (λx=>x.1.isSome)
   &&decide ((e::es).length+([]:List Keyword).length+(if ([]:List Keyword).isEmpty then 0 else 1)<30))=true:=by rfl)
  (hline:(apos.endLine==cpos.line)=true:=by rfl)(hs:starEach (e::es) X.env=(false,eval e X.env)::starEach es X.env:=by rfl)(hplain:(backTo cpos (starEach es X.env)).any (·.1)=false:=by rfl):
  PE X (.Call (.Attribute o name apos) (e::es) [] cpos) (up X.mg N (dMtD f mo m)):=de_w (pe_bm pa slot hty hm ho ha hbase hfew hline hs hplain) λσ H Q q=>by
 obtain⟨A,ι,τ,R,S,q,k⟩:=q
 refine⟨A,ι,τ,_,S,q,λx A1 ι1 H1 u q1 e1 r1 v1=> ?_⟩
 obtain⟨q0,q1⟩:=q1
 refine⟨?_,A1,ι1,τ,_,S.next e1 r1,q1,λys A2 ι2 H2 us q2 e2 r2 v2=> ?_⟩
 .cases x with
  |ref q=>
   obtain⟨_,rfl⟩:=v1
   unfold isDc at q0
   simp only at q0
   split at q0
   .rename_i kvs ek
    obtain⟨us,h1,_⟩:=r1.dct ek
    exact .inr (.inr (.inl ⟨rfl,.inl ⟨us,h1⟩⟩))
   .cases q0
  |_=>cases q0
 .exact hd x ys A2 ι2 H2 _ us R Q r2 (RV.ext e2 x u v1) v2 q2 (k.from (e1.trans e2))
end
def mrgG(kvs more:List (Key×D)):List (Key×D):=more.foldl (λacc p=>putG acc p.1 p.2) kvs
@[irreducible] def updR(r q:Nat)(A:Ar)(R:DK):Prop:=match A[r]?,A[q]? with
 |some (.dct kvs),some (.dct more)=>r≠q∧kvs.length+more.length≤1000∧R .non (A.set r (.dct (mrgG kvs more)))
 |_,_=>False
theorem upd_ok{A:Ar}{r q:Nat}{kvs more:List (Key×D)}{R:DK}(h1:A[r]? =some (.dct kvs))(h2:A[q]? =some (.dct more))(hne:r≠q)(hz:kvs.length+more.length≤1000)(k:R .non (A.set r (.dct (mrgG kvs more)))):updR r q A R:=by
 unfold updR
 simp only[h1,h2]
 exact⟨hne,hz,k⟩
def updD:DMt:=λx vs A R=>match x,vs with
 | .ref r,[.ref q]=>updR r q A R
 |_,_=>False
theorem d_upd{mg:Str->Option Value}{K:PySem.W.Frag}:MtD mg K "dict" rUpd updD:=by
 intro x ds A ι H u us R Q ra rx rs h k
 unfold updD at h
 split at h
 .rename_i r q
  obtain⟨hr,rfl⟩:=rx
  obtain⟨_,_,rfl,⟨hq,rfl⟩,rfl⟩:=rs
  unfold updR at h
  split at h
  .rename_i kvs more e1 e2
   obtain⟨hne,hz,h⟩:=h
   obtain⟨xs,h1,r1⟩:=ra.dct e1
   obtain⟨ys,h2,r2⟩:=ra.dct e2
   have l1:=RK.length r1
   have l2:=RK.length r2
   refine⟨_,_,xs,ys,rfl,rfl,λz=>hne (ra.inj r q hr hq z),h1,h2,by omega,?_⟩
   have E:=ra.ext_put (o:= .dK (mergeK xs ys)) (c:= .dct (mrgG kvs more)) hr
   have rm:RK mg ι A.length H (mrgG kvs more) (mergeK xs ys):=RK.fold r2 r1
   obtain⟨ra1,e3⟩:=ra.put (c':= .dct (mrgG kvs more)) (o:= .dK (mergeK xs ys)) e1 h1 rfl ⟨_,upd_same,by simpa using RK.ext E _ _ rm⟩
   exact k _ _ ι _ _ h e3 ra1 rfl
  .exact h.elim
 .exact h.elim
@[irreducible] def minR(r:Nat)(A:Ar)(R:DK):Prop:=∃(kvs:List (Key×D)) (ns:List Str),(A[r]? =some (.dct kvs)∨∃o,A[r]? =some (.fdc o kvs))∧kvs.map (·.1)=ns.map Sum.inr∧ns≠[]∧∀m∈ns,(∀n∈ns,¬n.cps.toList<m.cps.toList)->R (.str m) A
def minDD:DCb:=λvs A R=>match vs with
 |[.ref r]=>minR r A R
 |_=>False
theorem min_ok{A:Ar}{r:Nat}{kvs:List (Key×D)}{ns:List Str}{R:DK}(h:A[r]? =some (.dct kvs)∨∃o,A[r]? =some (.fdc o kvs))(hk:kvs.map (·.1)=ns.map Sum.inr)(hne:ns≠[])(k:∀m∈ns,(∀n∈ns,¬n.cps.toList<m.cps.toList)->R (.str m) A):minR r A R:=by
 unfold minR
 exact⟨kvs,ns,h,hk,hne,k⟩
theorem d_minD{mg:Str->Option Value}:CbD mg (λxs H Q=>∃(d:Addr) (kvs:List (Key×V)) (ns:List Str),xs=[.ref d]∧Rd H d (.dK kvs)∧kvs.map (·.1)=ns.map Sum.inr∧ns≠[]∧∀m∈ns,(∀n∈ns,¬n.cps.toList<m.cps.toList)->Q (.str m) H) minDD:=by
 intro ds A ι H us R Q ra rs h k
 unfold minDD at h
 split at h
 .obtain⟨_,_,rfl,⟨_,rfl⟩,rfl⟩:=rs
  unfold minR at h
  obtain⟨kvs,ns,h1,h2,h3,h4⟩:=h
  rcases h1 with h1|⟨o,h1⟩
  .obtain⟨xs,e1,r1⟩:=ra.dct h1
   exact⟨_,xs,ns,rfl,.inl e1,by rw[RK.fsts r1];exact h2,h3,λm hm hmin=>k.here ra (h4 m hm hmin) rfl⟩
  .obtain⟨xs,e1,r1⟩:=ra.fdc h1
   exact⟨_,xs,ns,rfl,.inr ⟨o,e1⟩,by rw[RK.fsts r1];exact h2,h3,λm hm hmin=>k.here ra (h4 m hm hmin) rfl⟩
 .exact h.elim
@[irreducible] def inR2(neg:Bool)(x:D)(r:Nat)(A:Ar)(R:DK):Prop:=∃(kvs:List (Key×D)) (k:Key),(A[r]? =some (.dct kvs)∨∃o,A[r]? =some (.fdc o kvs))∧keyD x=some k∧R (.bl (if neg then !(getK kvs k).isSome else (getK kvs k).isSome)) A
def inD2(neg:Bool):DOp:=λx y A R=>match y with
 | .ref r=>inR2 neg x r A R
 |_=>False
theorem in2_ok{neg:Bool}{x:D}{r:Nat}{A:Ar}{R:DK}{kvs:List (Key×D)}{k:Key}(h:A[r]? =some (.dct kvs)∨∃o,A[r]? =some (.fdc o kvs))(hk:keyD x=some k)(q:R (.bl (if neg then !(getK kvs k).isSome else (getK kvs k).isSome)) A):inR2 neg x r A R:=by
 unfold inR2
 exact⟨kvs,k,h,hk,q⟩
theorem d_inD2{mg:Str->Option Value}(neg:Bool):OpD mg (rInD neg) (inD2 neg):=by
 intro x y A ι H u v R Q ra rx ry h k
 unfold inD2 at h
 split at h
 .rename_i r0
  obtain⟨_,rfl⟩:=ry
  unfold inR2 at h
  obtain⟨kvs,ky,h1,ek,h2⟩:=h
  have ex:=keyD_kV ek rx
  subst ex
  have fin:∀us,RK mg ι A.length H kvs us->Rd H (ι r0) (.dK us)->rInD neg (kV ky) (.ref (ι r0)) H Q:=λus r1 hr=>by
   obtain⟨g1,g2⟩:=RK.get (k:=ky) r1
   refine⟨_,valV us ky,rfl,.inl ⟨us,ky,hr,rfl,rfl⟩,?_⟩
   have e2:(valV us ky).isSome=(getK kvs ky).isSome:=by
    cases q:getK kvs ky with
    |none=>rw[g2 q];rfl
    |some d=>obtain⟨z,hz,_⟩:=g1 d q;rw[hz];rfl
   rw[e2]
   exact k.here ra h2 rfl
  rcases h1 with h1|⟨o,h1⟩
  .obtain⟨us,e1,r1⟩:=ra.dct h1
   exact fin us r1 (.inl e1)
  .obtain⟨us,e1,r1⟩:=ra.fdc h1
   exact fin us r1 (.inr ⟨o,e1⟩)
 .exact h.elim
section
variable{X:Cx}{N:En}{pos:Pos}{a b:Expr}{ma mb:DTE}
theorem t_inK(hu:X.A.units+64<cLine)(ha:PE X a (up X.mg N ma))(hb:PE X b (up X.mg N mb))(hm:behindInMarks .In b=false:=by rfl):PT X (.Compare a [.In] [b] pos) (upT X.mg N (dTest (dOp (inD2 false) ma mb))):=dt_cmp (o_inD hu) (d_inD2 false) ha hb hm
end
def dFr(m:DTE):DTE:=λτ A R=>(∃r kvs,A[r]? =some (.dct kvs)∧∀o,m τ (A.set r (.fdc o kvs)) λx A2=>thaw r o A2 (R x))∨m τ A R
def sFr(m:DTS):DTS:=λR τ A=>(∃r kvs,A[r]? =some (.dct kvs)∧∀o,m {nx:=λτ' A2=>thaw r o A2 (R.nx τ'),rt:=λ_ _=>False} τ (A.set r (.fdc o kvs)))∨m R τ A
section
variable{X:Cx}{N:En}{e:Expr}{m:DTE}
theorem de_fr(he:PE X e (up X.mg N m)):PE X e (up X.mg N (dFr m)):=by
 intro pins s σ H Q I q
 obtain⟨A,ι,τ,R,S,q,k⟩:=q
 rcases q with⟨r,kvs,ek,q⟩|q
 .obtain⟨xs,h1,h2⟩:=S.ra.dct ek
  have hl:=(List.getElem?_eq_some_iff.mp ek).1
  obtain⟨hf,o,I1⟩:=I.fz h1
  obtain⟨S1,e1⟩:=fz_on (o:=o) S ek h1 h2
  refine thn (he pins s σ _ (λu H'=>∃xs,H' (ι r)=some (.frz o (.dK xs))∧Q u (upd H' (ι r) (.dK xs))) I1 ⟨_,ι,τ,_,S1,q o,λv A' ι' H' u q1 e2 r2 v2=> ?_⟩) λv s' ⟨u,H',I',ru,xs',h',q'⟩=>⟨u,_,I'.unfz h' hf,ru,q'⟩
  obtain⟨kvs2,ek2,q1⟩:=q1
  have er:ι' r=ι r:=e2.ag r (by simpa using hl)
  obtain⟨xs2,h3,r3,e3⟩:=fz_off r2 ek2
  rw[er] at h3 r3 e3
  exact⟨xs2,h3,k v _ ι' _ u q1 ((e1.trans e2).trans e3) r3 (RV.ext e3 v u v2)⟩
 .exact he pins s σ H Q I ⟨A,ι,τ,R,S,q,k⟩
theorem ds_fr{st:Stmt}{ms:DTS}(he:PS X st (upS X.mg N ms)):PS X st (upS X.mg N (sFr ms)):=by
 intro pins s σ H Q I q
 obtain⟨A,ι,τ,R,S,q,k⟩:=q
 rcases q with⟨r,kvs,ek,q⟩|q
 .obtain⟨xs,h1,h2⟩:=S.ra.dct ek
  have hl:=(List.getElem?_eq_some_iff.mp ek).1
  obtain⟨hf,o,I1⟩:=I.fz h1
  obtain⟨S1,e1⟩:=fz_on (o:=o) S ek h1 h2
  refine thn (he pins s σ _ {nx:=λσ' H'=>∃xs,H' (ι r)=some (.frz o (.dK xs))∧Q.nx σ' (upd H' (ι r) (.dK xs)),rt:=λ_ _=>False,bk:=λ_ _=>False,ct:=λ_ _=>False} I1 ⟨_,ι,τ,_,S1,q o,⟨λτ' A' ι' σ' H' q1 e2 r2 s2=> ?_,λ_ _ _ _ _ z=>z.elim,λ_ _ _ _ _ z=>z.elim,λ_ _ _ _ _ z=>z.elim⟩⟩) λfl s' h=> ?_
  .obtain⟨kvs2,ek2,q1⟩:=q1
   have er:ι' r=ι r:=e2.ag r (by simpa using hl)
   obtain⟨xs2,h3,r3,e3⟩:=fz_off r2 ek2
   rw[er] at h3 r3 e3
   exact⟨xs2,h3,k.nx τ' _ ι' σ' _ q1 ((e1.trans e2).trans e3) r3 (s2.ext e3)⟩
  .cases fl with
   |next=>
    obtain⟨σ',H',I',xs',h',q'⟩:=h
    exact⟨σ',_,I'.unfz h' hf,q'⟩
   |brk=>obtain⟨_,_,_,z⟩:=h;exact z.elim
   |cont=>obtain⟨_,_,_,z⟩:=h;exact z.elim
   |ret u=>obtain⟨_,_,_,_,_,z⟩:=h;exact z.elim
 .exact he pins s σ H Q I ⟨A,ι,τ,R,S,q,k⟩
end
end DP
namespace DP
open PySem PySem.Spec PyProof.Rows L2
section
variable{X:Cx}{N:En}{a b:Expr}{ma mb:DTE}{pos:Pos}
end
end DP
namespace DP
open PySem PySem.Spec PyProof.Rows L2
section
variable{mg:Str->Option Value}{K:PySem.W.Frag}{A:Ar}{ι:Io}{H:Hp}
end
section
variable{X:Cx}{N:En}{pos:Pos}{a b:Expr}{ma mb:DTE}
end
end DP
namespace My
open PySem PySem.Spec PyProof.Rows L2 DP
def top(i:Nat):Stmt:=PySem.Challenge.pw_hangstill_k35_whole_spare_together.main.body.getD i (.Pass ⟨0,0,0,0⟩)
abbrev s_is_number:Stmt:=top 9
abbrev p_is_number:List Str:=["thing","first","last"]
theorem sc_is_number:FnScope ["thing","first","last"] p_is_number (defScope s_is_number):=⟨rfl,rfl,rfl,by decide+kernel,rfl,by decide+kernel,by decide+kernel⟩
abbrev s_is_name:Stmt:=top 10
abbrev p_is_name:List Str:=["thing"]
theorem sc_is_name:FnScope ["thing"] p_is_name (defScope s_is_name):=⟨rfl,rfl,rfl,by decide+kernel,rfl,by decide+kernel,by decide+kernel⟩
abbrev s_is_mobile_within:Stmt:=top 11
abbrev p_is_mobile_within:List Str:=["thing","rods"]
theorem sc_is_mobile_within:FnScope ["thing","rods"] p_is_mobile_within (defScope s_is_mobile_within):=⟨rfl,rfl,rfl,by decide+kernel,rfl,by decide+kernel,by decide+kernel⟩
abbrev s_is_mobile:Stmt:=top 12
abbrev p_is_mobile:List Str:=["thing"]
theorem sc_is_mobile:FnScope ["thing"] p_is_mobile (defScope s_is_mobile):=⟨rfl,rfl,rfl,by decide+kernel,rfl,by decide+kernel,by decide+kernel⟩
abbrev s_check_mobile:Stmt:=top 13
abbrev p_check_mobile:List Str:=["thing"]
theorem sc_check_mobile:FnScope ["thing"] p_check_mobile (defScope s_check_mobile):=⟨rfl,rfl,rfl,by decide+kernel,rfl,by decide+kernel,by decide+kernel⟩
abbrev s_greatest_divisor:Stmt:=top 15
abbrev p_greatest_divisor:List Str:=["one","other"]
theorem sc_greatest_divisor:FnScope ["one","other","rest"] p_greatest_divisor (defScope s_greatest_divisor):=⟨rfl,rfl,rfl,by decide+kernel,rfl,by decide+kernel,by decide+kernel⟩
abbrev s_reduced:Stmt:=top 16
abbrev p_reduced:List Str:=["top","bottom"]
theorem sc_reduced:FnScope ["top","bottom","divisor"] p_reduced (defScope s_reduced):=⟨rfl,rfl,rfl,by decide+kernel,rfl,by decide+kernel,by decide+kernel⟩
abbrev s_product:Stmt:=top 17
abbrev p_product:List Str:=["one","other"]
theorem sc_product:FnScope ["one","other"] p_product (defScope s_product):=⟨rfl,rfl,rfl,by decide+kernel,rfl,by decide+kernel,by decide+kernel⟩
abbrev s_quotient:Stmt:=top 18
abbrev p_quotient:List Str:=["one","other"]
theorem sc_quotient:FnScope ["one","other"] p_quotient (defScope s_quotient):=⟨rfl,rfl,rfl,by decide+kernel,rfl,by decide+kernel,by decide+kernel⟩
abbrev s_shares_below:Stmt:=top 20
abbrev p_shares_below:List Str:=["mobile","way","share"]
theorem sc_shares_below:FnScope ["mobile","way","share","both","left","right"] p_shares_below (defScope s_shares_below):=⟨rfl,rfl,rfl,by decide+kernel,rfl,by decide+kernel,by decide+kernel⟩
abbrev s_name_shares:Stmt:=top 21
abbrev p_name_shares:List Str:=["mobile"]
theorem sc_name_shares:FnScope ["mobile"] p_name_shares (defScope s_name_shares):=⟨rfl,rfl,rfl,by decide+kernel,rfl,by decide+kernel,by decide+kernel⟩
abbrev s_shares:Stmt:=top 22
abbrev p_shares:List Str:=["mobile"]
theorem sc_shares:FnScope ["mobile"] p_shares (defScope s_shares):=⟨rfl,rfl,rfl,by decide+kernel,rfl,by decide+kernel,by decide+kernel⟩
abbrev s_bar:Stmt:=top 23
abbrev p_bar:List Str:=["mobile"]
theorem sc_bar:FnScope ["mobile","first","way","name","share"] p_bar (defScope s_bar):=⟨rfl,rfl,rfl,by decide+kernel,rfl,by decide+kernel,by decide+kernel⟩
abbrev s_check_hall:Stmt:=top 26
abbrev p_check_hall:List Str:=["thing"]
theorem sc_check_hall:FnScope ["thing","mobile"] p_check_hall (defScope s_check_hall):=⟨rfl,rfl,rfl,by decide+kernel,rfl,by decide+kernel,by decide+kernel⟩
abbrev s_hall_shares:Stmt:=top 27
abbrev p_hall_shares:List Str:=["hall"]
theorem sc_hall_shares:FnScope ["hall"] p_hall_shares (defScope s_hall_shares):=⟨rfl,rfl,rfl,by decide+kernel,rfl,by decide+kernel,by decide+kernel⟩
abbrev s_steps_from:Stmt:=top 28
abbrev p_steps_from:List Str:=["by_place","name"]
theorem sc_steps_from:FnScope ["by_place","name","steps","place","table"] p_steps_from (defScope s_steps_from):=⟨rfl,rfl,rfl,by decide+kernel,rfl,by decide+kernel,by decide+kernel⟩
abbrev s_paths_from:Stmt:=top 29
abbrev p_paths_from:List Str:=["by_place","start"]
theorem sc_paths_from:FnScope ["by_place","start","paths","reached","at","step"] p_paths_from (defScope s_paths_from):=⟨rfl,rfl,rfl,by decide+kernel,rfl,by decide+kernel,by decide+kernel⟩
abbrev s_groups:Stmt:=top 30
abbrev p_groups:List Str:=["by_place"]
theorem sc_groups:FnScope ["by_place","told","seen","table","name","paths"] p_groups (defScope s_groups):=⟨rfl,rfl,rfl,by decide+kernel,rfl,by decide+kernel,by decide+kernel⟩
abbrev s_backward:Stmt:=top 31
abbrev p_backward:List Str:=["steps"]
theorem sc_backward:FnScope ["steps"] p_backward (defScope s_backward):=⟨rfl,rfl,rfl,by decide+kernel,rfl,by decide+kernel,by decide+kernel⟩
abbrev s_comes_to:Stmt:=top 32
abbrev p_comes_to:List Str:=["by_place","steps"]
theorem sc_comes_to:FnScope ["by_place","steps","ratio","place","one","other"] p_comes_to (defScope s_comes_to):=⟨rfl,rfl,rfl,by decide+kernel,rfl,by decide+kernel,by decide+kernel⟩
abbrev s_closing_steps:Stmt:=top 33
abbrev p_closing_steps:List Str:=["by_place"]
theorem sc_closing_steps:FnScope ["by_place","steps","place","table","first"] p_closing_steps (defScope s_closing_steps):=⟨rfl,rfl,rfl,by decide+kernel,rfl,by decide+kernel,by decide+kernel⟩
abbrev s_find_ring:Stmt:=top 34
abbrev p_find_ring:List Str:=["by_place"]
theorem sc_find_ring:FnScope ["by_place","paths","group","step","steps"] p_find_ring (defScope s_find_ring):=⟨rfl,rfl,rfl,by decide+kernel,rfl,by decide+kernel,by decide+kernel⟩
abbrev s_check_no_ring:Stmt:=top 35
abbrev p_check_no_ring:List Str:=["by_place"]
theorem sc_check_no_ring:FnScope ["by_place"] p_check_no_ring (defScope s_check_no_ring):=⟨rfl,rfl,rfl,by decide+kernel,rfl,by decide+kernel,by decide+kernel⟩
abbrev s_ring:Stmt:=top 36
abbrev p_ring:List Str:=["hall"]
theorem sc_ring:FnScope ["hall"] p_ring (defScope s_ring):=⟨rfl,rfl,rfl,by decide+kernel,rfl,by decide+kernel,by decide+kernel⟩
abbrev s_is_spare:Stmt:=top 38
abbrev p_is_spare:List Str:=["by_place","place"]
theorem sc_is_spare:FnScope ["by_place","place","others","reached"] p_is_spare (defScope s_is_spare):=⟨rfl,rfl,rfl,by decide+kernel,rfl,by decide+kernel,by decide+kernel⟩
abbrev s_bound:Stmt:=top 39
abbrev p_bound:List Str:=["hall"]
theorem sc_bound:FnScope ["hall"] p_bound (defScope s_bound):=⟨rfl,rfl,rfl,by decide+kernel,rfl,by decide+kernel,by decide+kernel⟩
abbrev s_spare:Stmt:=top 40
abbrev p_spare:List Str:=["hall"]
theorem sc_spare:FnScope ["hall","by_place"] p_spare (defScope s_spare):=⟨rfl,rfl,rfl,by decide+kernel,rfl,by decide+kernel,by decide+kernel⟩
abbrev s__law_cell_at:Stmt:=top 42
abbrev p__law_cell_at:List Str:=["_law_script","_law_k"]
theorem sc__law_cell_at:FnScope ["_law_script","_law_k"] p__law_cell_at (defScope s__law_cell_at):=⟨rfl,rfl,rfl,by decide+kernel,rfl,by decide+kernel,by decide+kernel⟩
abbrev s__law_mixed:Stmt:=top 43
abbrev p__law_mixed:List Str:=["_law_script","_law_k","_law_many"]
theorem sc__law_mixed:FnScope ["_law_script","_law_k","_law_many","_law_drawn"] p__law_mixed (defScope s__law_mixed):=⟨rfl,rfl,rfl,by decide+kernel,rfl,by decide+kernel,by decide+kernel⟩
abbrev s__law_draw:Stmt:=top 44
abbrev p__law_draw:List Str:=["_law_script","_law_town","_law_many"]
theorem sc__law_draw:FnScope ["_law_script","_law_town","_law_many"] p__law_draw (defScope s__law_draw):=⟨rfl,rfl,rfl,by decide+kernel,rfl,by decide+kernel,by decide+kernel⟩
abbrev s__law_pick:Stmt:=top 45
abbrev p__law_pick:List Str:=["_law_script","_law_town","_law_some_here"]
theorem sc__law_pick:FnScope ["_law_script","_law_town","_law_some_here"] p__law_pick (defScope s__law_pick):=⟨rfl,rfl,rfl,by decide+kernel,rfl,by decide+kernel,by decide+kernel⟩
abbrev s__law_leaves:Stmt:=top 50
abbrev p__law_leaves:List Str:=["_law_part"]
theorem sc__law_leaves:FnScope ["_law_part"] p__law_leaves (defScope s__law_leaves):=⟨rfl,rfl,rfl,by decide+kernel,rfl,by decide+kernel,by decide+kernel⟩
abbrev s__law_names:Stmt:=top 51
abbrev p__law_names:List Str:=["_law_part"]
theorem sc__law_names:FnScope ["_law_part"] p__law_names (defScope s__law_names):=⟨rfl,rfl,rfl,by decide+kernel,rfl,by decide+kernel,by decide+kernel⟩
abbrev s__law_weights:Stmt:=top 52
abbrev p__law_weights:List Str:=["_law_script","_law_town","_law_names_here"]
theorem sc__law_weights:FnScope ["_law_script","_law_town","_law_names_here","_law_wide"] p__law_weights (defScope s__law_weights):=⟨rfl,rfl,rfl,by decide+kernel,rfl,by decide+kernel,by decide+kernel⟩
abbrev s__law_hall:Stmt:=top 55
abbrev p__law_hall:List Str:=["_law_script","_law_town"]
theorem sc__law_hall:FnScope ["_law_script","_law_town","_law_way","_law_many","_law_names_here","_law_book","_law_made","_law_k","_law_one","_law_other","_law_left","_law_right"] p__law_hall (defScope s__law_hall):=⟨rfl,rfl,rfl,by decide+kernel,rfl,by decide+kernel,by decide+kernel⟩
abbrev s__law_ties:Stmt:=top 56
abbrev p__law_ties:List Str:=["_law_hall_here"]
theorem sc__law_ties:FnScope ["_law_hall_here"] p__law_ties (defScope s__law_ties):=⟨rfl,rfl,rfl,by decide+kernel,rfl,by decide+kernel,by decide+kernel⟩
abbrev s__law_known:Stmt:=top 57
abbrev p__law_known:List Str:=["_law_hall_here","_law_start"]
theorem sc__law_known:FnScope ["_law_hall_here","_law_start","_law_known_here","_law_changed","_law_one","_law_other","_law_up","_law_down"] p__law_known (defScope s__law_known):=⟨rfl,rfl,rfl,by decide+kernel,rfl,by decide+kernel,by decide+kernel⟩
abbrev s__law_free:Stmt:=top 58
abbrev p__law_free:List Str:=["_law_hall_here"]
theorem sc__law_free:FnScope ["_law_hall_here","_law_start","_law_more","_law_first","_law_second","_law_known_here","_law_one","_law_other","_law_up","_law_down","_law_mine","_law_its"] p__law_free (defScope s__law_free):=⟨rfl,rfl,rfl,by decide+kernel,rfl,by decide+kernel,by decide+kernel⟩
abbrev s_law:Stmt:=top 60
abbrev p_law:List Str:=["_law_script"]
theorem sc_law:FnScope ["_law_script","_law_town","_law_hall_here","_law_groups","_law_need","_law_left","_law_place","_law_rods_here","_law_more","_law_wide"] p_law (defScope s_law):=⟨rfl,rfl,rfl,by decide+kernel,rfl,by decide+kernel,by decide+kernel⟩
end My
namespace My
open PySem PySem.Spec PyProof.Rows L2 DP MA
section
variable{P:Program}{w:World}{K:PySem.W.Frag}{mg:Str->Option Value}{base:Heap}
theorem f_is_number(T:TopD K mg "is_number" s_is_number p_is_number)(b_isinstance:mg "isinstance" =none)(b_bool:mg "bool" =none)(b_int:mg "int" =none):FnX P w K mg base 1 "is_number" p_is_number (spOf mg 3 SNum):=by
 refine fnD T sc_is_number rfl (by decide) λN RE f cdv B outer s H E hr hR hx ds A R h hl=> ?_
 have hu:=hr.units
 refine⟨_,(dss_cons (ds_if (PW.pt (dw_or (dt_val (de_is kit_bool b_isinstance b_bool boot_bool (vr 0))) (dw_or1 (dt_not (dt_val (de_is kit_int b_isinstance b_int boot_int (vr 0))))))) (dss_one (ds_ret de_bl)) dss_nil)
  (dss_one (ds_ret (e_lele (vr 1) (vr 0) (vr 2))))),?_⟩
 obtain⟨v,⟨i,a,b,rfl,rfl⟩,q⟩:=h
 refine cD (λc=> ?_) (λc=> ?_)
 .have e:(decide (a≤i)&&decide (i≤b))=decide (i≤b):=by simp[c]
  rw[e] at q
  exact q _ Gr.refl
 .have e:(decide (a≤i)&&decide (i≤b))=false:=by simp[c]
  rw[e] at q
  exact q _ Gr.refl
theorem one_lt{c d:Nat}:([c]:List Nat)<[d]↔c<d:=by simp[List.cons_lt_cons_iff]
theorem sg_a:("a" :Str).cps.toList=[97]:=by decide+kernel
theorem sg_z:("z" :Str).cps.toList=[122]:=by decide+kernel
theorem f_is_name(T:TopD K mg "is_name" s_is_name p_is_name)(b_isinstance:mg "isinstance" =none)(b_str:mg "str" =none)(b_len:mg "len" =none)(b_all:mg "all" =none){t:Tok}(m_LONGEST_NAME:mg "LONGEST_NAME" =some (.int 3 t)):FnX P w K mg base 1 "is_name" p_is_name (spOf mg 1 SName):=by
 refine fnD T sc_is_name rfl (by decide) λN RE f cdv B outer s H E hr hR hx ds A R h hl=> ?_
 have hu:=hr.units
 refine⟨_,(dss_cons (ds_if (PW.pt (dw_or (dt_not (dt_val (de_is kit_str b_isinstance b_str boot_str (vr 0)))) (dw_or1 (dt_not (t_lele de_int (de_cb c_len d_len b_len PySem.boot_len (da_cons (vr 0) da_nil)) (de_num m_LONGEST_NAME)))))) (dss_one (ds_ret de_bl)) dss_nil)
  (dss_one (ds_ret (de_cb (call_all rfl) d_all b_all boot_all (da_cons (de_comp none (own:=["letter"]) (frees:=[]) (ix:=[]) rfl (di_str (vr 0)) (λc=>(pg_name (i:=0) (show(["letter"]:List Str).Nodup by decide+kernel) rfl (by first|exact Or.inl rfl|exact Or.inr rfl))) (λc=>(e_lele de_str (vr 0) de_str))) da_nil))))),?_⟩
 obtain⟨v,⟨n,rfl,hn,rfl⟩,q⟩:=h
 have hz:n.length≤sizeLine:=Nat.le_trans hn.hi (by decide)
 have h1:=hn.lo
 have h3:=hn.hi
 refine⟨hz,cD (λ_=> ?_) (λc=>absurd (show(1:Int)≤(n.length:Nat) by omega) c)⟩
 refine cN (λc=>absurd (show((n.length:Nat):Int)≤3 by omega) c) (λ_=> ?_)
 refine cloop_map (f:=λ_=> .bl true) trivial _ _ (λx hx=>⟨[x],rfl,λQ hQ=> ?_⟩) ?_ ?_
 .obtain⟨c,hc,rfl⟩:=List.mem_map.mp hx
  obtain⟨c1,c2⟩:=hn.az c hc
  have e1:¬((⟨#[c]⟩:Str).cps.toList<("a" :Str).cps.toList):=by
   rw[sg_a];intro h;have:=one_lt.mp h;omega
  have e2:¬(("z" :Str).cps.toList<(⟨#[c]⟩:Str).cps.toList):=by
   rw[sg_z];intro h;have:=one_lt.mp h;omega
  refine cN (λ_=> ?_) (λh=>absurd h e1)
  have e3:(!decide (("z" :Str).cps.toList<(⟨#[c]⟩:Str).cps.toList))=true:=by rw[decide_eq_false e2];rfl
  show Q (.bl (!decide (("z" :Str).cps.toList<(⟨#[c]⟩:Str).cps.toList))) A
  rw[e3]
  exact hQ
 .have:(sgs n).length=n.length:=by simp[sgs,Str.length]
  show 0+(sgs n).length≤sizeLine
  omega
 .refine all_ok (bs:=(sgs n).map λ_=>true) last_get (bls_map _ _) ?_
  have e:((sgs n).map λ_=>true).all id=true:=by simp
  rw[e]
  exact q _ Gr.push
theorem f_imw(T:TopD K mg "is_mobile_within" s_is_mobile_within p_is_mobile_within)(b_isinstance:mg "isinstance" =none)(b_str:mg "str" =none)(b_tuple:mg "tuple" =none)(b_len:mg "len" =none){t:Tok}(m_LONGEST_ARM:mg "LONGEST_ARM" =some (.int 9 t))
  (F_is_name:FnX P w K mg base 1 "is_name" p_is_name (spOf mg 1 SName))(F_is_number:FnX P w K mg base 1 "is_number" p_is_number (spOf mg 3 SNum)):∀d,FnX P w K mg base (d+1) "is_mobile_within" p_is_mobile_within (spOf mg 2 (SImw d)):=by
 intro d
 induction d with
 |zero=>
  refine fnNo T λds A R RE h=> ?_
  obtain⟨v,⟨m,_,_,h,_⟩,_⟩:=h
  omega
 |succ d F_is_mobile_within=>
  refine fnD T sc_is_mobile_within rfl (by decide) λN RE f cdv B outer s H E hr hR hx ds A R h hl=> ?_
  have hu:=hr.units
  refine⟨_,(dss_cons (ds_if (PW.pt (dw_or (dt_not (dt_val (de_is kit_tuple b_isinstance b_tuple boot_tuple (vr 0)))) (dw_or (t_eq hu (de_cb c_len d_len b_len PySem.boot_len (da_cons (vr 0) da_nil)) de_int) (dw_or1 (dt_not (dt_val (de_is kit_str b_isinstance b_str boot_str (de_ix hu (vr 0) de_int (λ_ _=>rfl))))))))) (dss_one (ds_ret de_bl)) dss_nil)
  (dss_cons (ds_if (t_eq hu (de_ix hu (vr 0) de_int (λ_ _=>rfl)) de_str) (dss_one (ds_ret (de_and (e_eq hu (de_cb c_len d_len b_len PySem.boot_len (da_cons (vr 0) da_nil)) de_int) (de_one (de_call F_is_name (hr.mono (by omega)) hx (da_cons (de_ix hu (vr 0) de_int (λ_ _=>rfl)) da_nil)))))) dss_nil)
  (dss_cons (ds_if (PW.pt (dw_or (t_ne hu (de_ix hu (vr 0) de_int (λ_ _=>rfl)) de_str) (dw_or (t_ne hu (de_cb c_len d_len b_len PySem.boot_len (da_cons (vr 0) da_nil)) de_int) (dw_or1 (t_eq hu (vr 1) de_int))))) (dss_one (ds_ret de_bl)) dss_nil)
  (dss_cons (ds_if (PW.pt (dw_or (dt_not (dt_val (de_call F_is_number (hr.mono (by omega)) hx (da_cons (de_ix hu (vr 0) de_int (λ_ _=>rfl)) (da_cons de_int (da_cons (de_num m_LONGEST_ARM) da_nil)))))) (dw_or1 (dt_not (dt_val (de_call F_is_number (hr.mono (by omega)) hx (da_cons (de_ix hu (vr 0) de_int (λ_ _=>rfl)) (da_cons de_int (da_cons (de_num m_LONGEST_ARM) da_nil))))))))) (dss_one (ds_ret de_bl)) dss_nil)
  (dss_one (ds_ret (de_and (de_call F_is_mobile_within (hr.mono (by omega)) hx (da_cons (de_ix hu (vr 0) de_int (λ_ _=>rfl)) (da_cons (de_sub (vr 1) de_int) da_nil))) (de_one (de_call F_is_mobile_within (hr.mono (by omega)) hx (da_cons (de_ix hu (vr 0) de_int (λ_ _=>rfl)) (da_cons (de_sub (vr 1) de_int) da_nil))))))))))),?_⟩
  obtain⟨v,⟨m,rfl,hw,hd,rfl⟩,q⟩:=h
  cases m with
  |wt n=>
   exact⟨rfl,_,⟨n,rfl,hw.nm n (by simp[Mob.names]),rfl⟩,q⟩
  |rod l r a b=>
   obtain⟨⟨h1,h2,h3,h4,h5,h6⟩,hn⟩:=hw
   have hd':max a.deep b.deep+1<d+1:=hd
   have ed:((d+1:Nat):Int) - 1 - 1=(d:Int) - 1:=by omega
   have ea:(decide (1≤l)&&decide (l≤9))=true:=by simp[h1,h2]
   have eb:(decide (1≤r)&&decide (r≤9))=true:=by simp[h3,h4]
   refine cD (λc=>absurd c (by omega)) (λ_=> ?_)
   refine⟨rfl,_,⟨l,1,9,rfl,rfl⟩,λA1 g1=> ?_⟩
   rw[ea]
   refine⟨rfl,_,⟨r,1,9,rfl,rfl⟩,λA2 g2=> ?_⟩
   rw[eb]
   refine⟨rfl,_,⟨a,show [enc a,D.int (((d+1:Nat):Int) - 1 - 1)]=_ by rw[ed],⟨h5,λn h=>hn n (by simp[Mob.names,h])⟩,by omega,rfl⟩,λA3 g3=> ?_⟩
   refine⟨rfl,_,⟨b,show [enc b,D.int (((d+1:Nat):Int) - 1 - 1)]=_ by rw[ed],⟨h6,λn h=>hn n (by simp[Mob.names,h])⟩,by omega,rfl⟩,λA4 g4=> ?_⟩
   exact q _ (((g1.trans g2).trans g3).trans g4)
theorem f_is_mobile(T:TopD K mg "is_mobile" s_is_mobile p_is_mobile){t:Tok}(m_MOST_RODS:mg "MOST_RODS" =some (.int 5 t))(F_is_mobile_within:FnX P w K mg base 7 "is_mobile_within" p_is_mobile_within (spOf mg 2 (SImw 6))):FnX P w K mg base 8 "is_mobile" p_is_mobile (spOf mg 1 SIm):=by
 refine fnD T sc_is_mobile rfl (by decide) λN RE f cdv B outer s H E hr hR hx ds A R h hl=> ?_
 refine⟨_,(dss_one (ds_ret (de_call F_is_mobile_within (hr.mono (by omega)) hx (da_cons (vr 0) (da_cons (de_num m_MOST_RODS) da_nil))))),?_⟩
 obtain⟨v,⟨m,rfl,hw,hd,rfl⟩,q⟩:=h
 exact⟨rfl,_,⟨m,rfl,hw,by omega,rfl⟩,q⟩
theorem f_check_mobile(T:TopD K mg "check_mobile" s_check_mobile p_check_mobile){a_NoMobile:Addr}(m_NoMobile:mg "NoMobile" =some (.ref a_NoMobile))(x_NoMobile:PySem.W.excIn K a_NoMobile vErr "ValueError.__new__" =true)(F_is_mobile:FnX P w K mg base 8 "is_mobile" p_is_mobile (spOf mg 1 SIm)):FnX P w K mg base 9 "check_mobile" p_check_mobile (spOf mg 1 SChk):=by
 refine fnD T sc_check_mobile rfl (by decide) λN RE f cdv B outer s H E hr hR hx ds A R h hl=> ?_
 refine⟨_,(dss_one (ds_if (dt_not (dt_val (de_call F_is_mobile (hr.mono (by omega)) hx (da_cons (vr 0) da_nil)))) (dss_one (ds_raise hR rfl m_NoMobile x_NoMobile (da_cons de_str da_nil))) dss_nil)),?_⟩
 obtain⟨v,⟨m,rfl,hw,hd,rfl⟩,q⟩:=h
 exact⟨rfl,_,⟨m,rfl,hw,hd,rfl⟩,λA1 g1=>q _ g1⟩
end
end My
namespace DP
open PySem PySem.Spec PyProof.Rows L2 MA
end DP
namespace My
open PySem PySem.Spec PyProof.Rows L2 DP MA
section
variable{P:Program}{w:World}{K:PySem.W.Frag}{mg:Str->Option Value}{base:Heap}
end
end My
namespace My
open PySem PySem.Spec PyProof.Rows L2 DP MA
section
variable{P:Program}{w:World}{K:PySem.W.Frag}{mg:Str->Option Value}{base:Heap}
theorem f_gcd(T:TopD K mg "greatest_divisor" s_greatest_divisor p_greatest_divisor):FnX P w K mg base 1 "greatest_divisor" p_greatest_divisor (spOf mg 2 SGcd):=by
 refine fnD T sc_greatest_divisor rfl (by decide) λN RE f cdv B outer s H E hr hR hx ds A R h hl=> ?_
 have nd:=sc_greatest_divisor.nd
 refine⟨_,(dss_cons (ds_while ownX (t_gt (vr 1) de_int) (dss_cons (ds_set (i:=2) nd rfl (by first|exact Or.inl rfl|exact Or.inr rfl) (de_mod (vr 0) (vr 1)))
  (dss_cons (ds_set (i:=0) nd rfl (by first|exact Or.inl rfl|exact Or.inr rfl) (vr 1))
  (dss_one (ds_set (i:=1) nd rfl (by first|exact Or.inl rfl|exact Or.inr rfl) (vr 2))))))
  (dss_one (ds_ret (vr 0)))),?_⟩
 obtain⟨v,⟨a,b,rfl,ha,hb,rfl⟩,q⟩:=h
 refine⟨λn τ A'=>A'=A∧∃(x y:Int) (r:Option D),τ=[some (.int x),some (.int y),r]∧0≤x∧0≤y∧Int.gcd x y=Int.gcd a b∧n=y.toNat,⟨_,rfl,a,b,none,rfl,ha,hb,rfl,rfl⟩,?_⟩
 rintro n τ A' ⟨rfl,x,y,r,rfl,h0,h1,hg,rfl⟩
 refine cD (λc=> ?_) (λc=> ?_)
 .refine⟨λτ A2=>A2=A'∧∃(x' y':Int) (r:Option D),τ=[some (.int x'),some (.int y'),r]∧0≤x'∧0≤y'∧Int.gcd x' y'=Int.gcd a b∧y'.toNat<y.toNat,λτ' A' ⟨e,x',y',r',h1,h2,h3,h4,h5⟩=>⟨_,h5,e,x',y',r',h1,h2,h3,h4,rfl⟩,?_⟩
  have m0:=Int.emod_nonneg x (show y≠0 by omega)
  have m1:=Int.emod_lt_of_pos x (show 0<y by omega)
  exact⟨c,rfl,y,x%y,_,rfl,h1,m0,by rw[gcd_step h0 c];exact hg,by omega⟩
 .have e:y=0:=by omega
  subst e
  have:(x:Int)=(Int.gcd a b:Int):=by rw[←hg,Int.gcd_zero_right];omega
  show R (.int x) A'
  rw[this]
  exact q _ Gr.refl
theorem f_reduced(T:TopD K mg "reduced" s_reduced p_reduced)(F_greatest_divisor:FnX P w K mg base 1 "greatest_divisor" p_greatest_divisor (spOf mg 2 SGcd)):FnX P w K mg base 2 "reduced" p_reduced (spOf mg 2 SRed):=by
 refine fnD T sc_reduced rfl (by decide) λN RE f cdv B outer s H E hr hR hx ds A R h hl=> ?_
 have nd:=sc_reduced.nd
 refine⟨_,(dss_cons (ds_set (i:=2) nd rfl (by first|exact Or.inl rfl|exact Or.inr rfl) (de_call F_greatest_divisor (hr.mono (by omega)) hx (da_cons (vr 0) (da_cons (vr 1) da_nil))))
  (dss_one (ds_ret (de_tup (da_cons (de_div (vr 0) (vr 2)) (da_cons (de_div (vr 1) (vr 2)) da_nil)))))),?_⟩
 obtain⟨v,⟨a,b,rfl,ha,hb,hz,rfl⟩,q⟩:=h
 have hg:0<(Int.gcd a b:Int):=by
  have:=Int.gcd_pos_of_ne_zero_left b (show a≠0 by omega)
  omega
 have hl:(Int.gcd a b:Int)≤a:=Int.le_of_dvd ha (Int.gcd_dvd_left a b)
 have h9:(Int.gcd a b:Int).natAbs.log2<9000:=by
  have h1:(Int.gcd a b:Int).natAbs<2 ^ 2000:=by omega
  have:=(Nat.log2_lt (n:=(Int.gcd a b:Int).natAbs) (k:=2000) (by omega)).mpr h1
  omega
 refine⟨rfl,_,⟨a,b,rfl,by omega,by omega,rfl⟩,λA1 g1=> ?_⟩
 exact⟨⟨hg,h9⟩,⟨hg,h9⟩,show 2≤sizeLine by decide,q _ g1⟩
end
end My
namespace DP
open PySem PySem.Spec PyProof.Rows L2 MA
def fq(x:Rat):D:= .tup [.int (rf x).1,.int (rf x).2]
def s3D(p:Str×Str×Rat):D:= .tup [.str p.1,.str p.2.1,fq p.2.2]
theorem rd_rf{a b:Int}(hb:0<b):rd a b=rf ((a:Rat)/(b:Rat)):=rf_red hb
def SProd:Ct:=λds A R _=>∃a b c d:Int,ds=[.tup [.int a,.int b],.tup [.int c,.int d]]∧0<a∧0<b∧0<c∧0<d∧c<2 ^ 64∧d<2 ^ 64∧a*c<2 ^ 2000∧∀A',Gr A A'->R (fq (((a:Rat)/(b:Rat))*((c:Rat)/(d:Rat)))) A'
theorem mul_div{a b c d:Int}(hb:0<b)(hd:0<d):((a*c:Int):Rat)/((b*d:Int):Rat)=((a:Rat)/(b:Rat))*((c:Rat)/(d:Rat)):=by
 have h1:=cast_ne (Int.ne_of_gt hb)
 have h2:=cast_ne (Int.ne_of_gt hd)
 rw[Rat.intCast_mul,Rat.intCast_mul]
 grind
def SSb(d:Nat):Ct:=λds A R _=>∃m w x,ds=[enc m,.str w,fq x]∧m.arms∧m.deep<d∧d≤6∧w.length+d≤100∧0<x∧(rf x).1*18 ^ m.deep≤1000000000∧∀A' q,Gr A A'->A'[q]? =some (.lst ((sh3 m w x).map s3D))->A.length≤q->R (.ref q) A'
def SShs:Ct:=λds A R _=>∃m,ds=[enc m]∧Wf m∧m.deep≤5∧∀A' q,Gr A A'->A'[q]? =some (.lst ((sh3 m "" 1).map s3D))->A.length≤q->R (.ref q) A'
theorem big2000{a:Int}(h:a≤1000000000000):a<2 ^ 2000:=Int.lt_of_le_of_lt h (Int.lt_of_lt_of_le (show(1000000000000:Int)<2 ^ 64 by decide) (by
 have:(2:Nat) ^ 64≤2 ^ 2000:=Nat.pow_le_pow_right (by decide) (by decide)
 exact_mod_cast this))
end DP
namespace My
open PySem PySem.Spec PyProof.Rows L2 DP MA
section
variable{P:Program}{w:World}{K:PySem.W.Frag}{mg:Str->Option Value}{base:Heap}
theorem f_prod(T:TopD K mg "product" s_product p_product)(F_reduced:FnX P w K mg base 2 "reduced" p_reduced (spOf mg 2 SRed)):FnX P w K mg base 3 "product" p_product (spOf mg 2 SProd):=by
 refine fnD T sc_product rfl (by decide) λN RE f cdv B outer s H E hr hR hx ds A R h hl=> ?_
 have hu:=hr.units
 refine⟨_,(dss_one (ds_ret (de_call F_reduced (hr.mono (by omega)) hx (da_cons (de_mul (de_ix hu (vr 0) de_int (λ_ _=>rfl)) (de_ix hu (vr 1) de_int (λ_ _=>rfl))) (da_cons (de_mul (de_ix hu (vr 0) de_int (λ_ _=>rfl)) (de_ix hu (vr 1) de_int (λ_ _=>rfl))) da_nil))))),?_⟩
 obtain⟨a,b,c,d,rfl,h1,h2,h3,h4,h5,h6,h7,q⟩:=h
 refine⟨.inr ⟨by omega,h5⟩,.inr ⟨by omega,h6⟩,rfl,_,⟨_,_,rfl,Int.mul_pos h1 h3,Int.mul_pos h2 h4,h7,rfl⟩,λA1 g1=> ?_⟩
 have q':=q A1 g1
 rw[←mul_div h2 h4] at q'
 unfold fq at q'
 rw[←rd_rf (Int.mul_pos h2 h4)] at q'
 exact q'
theorem f_quot(T:TopD K mg "quotient" s_quotient p_quotient)(F_reduced:FnX P w K mg base 2 "reduced" p_reduced (spOf mg 2 SRed)):FnX P w K mg base 3 "quotient" p_quotient (spOf mg 2 (λds A R E=>∃a b c d:Int,ds=[.tup [.int a,.int b],.tup [.int c,.int d]]∧SProd [.tup [.int a,.int b],.tup [.int d,.int c]] A R E)):=by
 refine fnD T sc_quotient rfl (by decide) λN RE f cdv B outer s H E hr hR hx ds A R h hl=> ?_
 have hu:=hr.units
 refine⟨_,(dss_one (ds_ret (de_call F_reduced (hr.mono (by omega)) hx (da_cons (de_mul (de_ix hu (vr 0) de_int (λ_ _=>rfl)) (de_ix hu (vr 1) de_int (λ_ _=>rfl))) (da_cons (de_mul (de_ix hu (vr 0) de_int (λ_ _=>rfl)) (de_ix hu (vr 1) de_int (λ_ _=>rfl))) da_nil))))),?_⟩
 obtain⟨a,b,c,d,rfl,a',b',d',c',e,h1,h2,h3,h4,h5,h6,h7,q⟩:=h
 cases e
 refine⟨.inr ⟨by omega,h5⟩,.inr ⟨by omega,h6⟩,rfl,_,⟨_,_,rfl,Int.mul_pos h1 h3,Int.mul_pos h2 h4,h7,rfl⟩,λA1 g1=> ?_⟩
 have q':=q A1 g1
 rw[←mul_div h2 h4] at q'
 unfold fq at q'
 rw[←rd_rf (Int.mul_pos h2 h4)] at q'
 exact q'
theorem f_shb(T:TopD K mg "shares_below" s_shares_below p_shares_below)(F_product:FnX P w K mg base 3 "product" p_product (spOf mg 2 SProd)):∀d,FnX P w K mg base (d+3) "shares_below" p_shares_below (spOf mg 3 (SSb d)):=by
 intro d
 induction d with
 |zero=>
  refine fnNo T λds A R RE h=> ?_
  obtain⟨m,w,x,_,_,h,_⟩:=h
  omega
 |succ d F_shares_below=>
  refine fnD T sc_shares_below rfl (by decide) λN RE f cdv B outer s H E hr hR hx ds A R h hl=> ?_
  have hu:=hr.units
  have nd:=sc_shares_below.nd
  refine⟨_,(dss_cons (ds_if (t_eq hu (de_ix hu (vr 0) de_int (λ_ _=>rfl)) de_str) (dss_one (ds_ret (de_lst (da_cons (de_tup (da_cons (vr 1) (da_cons (de_ix hu (vr 0) de_int (λ_ _=>rfl)) (da_cons (vr 2) da_nil)))) da_nil)))) dss_nil)
  (dss_cons (ds_set (i:=3) nd rfl (by first|exact Or.inl rfl|exact Or.inr rfl) (de_add (de_ix hu (vr 0) de_int (λ_ _=>rfl)) (de_ix hu (vr 0) de_int (λ_ _=>rfl))))
  (dss_cons (ds_set (i:=4) nd rfl (by first|exact Or.inl rfl|exact Or.inr rfl) (de_call F_product (hr.mono (by omega)) hx (da_cons (vr 2) (da_cons (de_tup (da_cons (de_ix hu (vr 0) de_int (λ_ _=>rfl)) (da_cons (vr 3) da_nil))) da_nil))))
  (dss_cons (ds_set (i:=5) nd rfl (by first|exact Or.inl rfl|exact Or.inr rfl) (de_call F_product (hr.mono (by omega)) hx (da_cons (vr 2) (da_cons (de_tup (da_cons (de_ix hu (vr 0) de_int (λ_ _=>rfl)) (da_cons (vr 3) da_nil))) da_nil))))
  (dss_one (ds_ret (de_add (de_call F_shares_below (hr.mono (by omega)) hx (da_cons (de_ix hu (vr 0) de_int (λ_ _=>rfl)) (da_cons (de_add (vr 1) de_str) (da_cons (vr 4) da_nil)))) (de_call F_shares_below (hr.mono (by omega)) hx (da_cons (de_ix hu (vr 0) de_int (λ_ _=>rfl)) (da_cons (de_add (vr 1) de_str) (da_cons (vr 5) da_nil))))))))))),?_⟩
  obtain⟨m,w,x,rfl,ha,hd,h6,hw,hx0,hn,q⟩:=h
  have hs:(1000:Nat)≤sizeLine:=by decide
  cases m with
  |wt n=>exact⟨show 3≤sizeLine by decide,show 1≤sizeLine by decide,q _ _ Gr.push last_get (Nat.le_refl _)⟩
  |rod l r a b=>
   have hd':max a.deep b.deep+1<d+1:=hd
   obtain⟨r1,r2,r3,r4,ha1,ha2⟩:=ha
   have ll:("l" :Str).length=1:=by decide+kernel
   have lr:("r" :Str).length=1:=by decide+kernel
   have al:∀x y:Str,(x++y).length=x.length+y.length:=λx y=>Array.size_append
   have np:=num_pos hx0
   have dp:=rf_pos x
   have hn:(rf x).1*18 ^ (max a.deep b.deep+1)≤1000000000:=hn
   have n1:(rf (x*((r:Rat)/((l+r:Int):Rat)))).1≤(rf x).1*18:=Int.le_trans (num_mul (by omega) (Int.mul_nonneg (by omega) (by omega))) (Int.mul_le_mul_of_nonneg_left (by omega) (by omega))
   have n2:(rf (x*((l:Rat)/((l+r:Int):Rat)))).1≤(rf x).1*18:=Int.le_trans (num_mul (by omega) (Int.mul_nonneg (by omega) (by omega))) (Int.mul_le_mul_of_nonneg_left (by omega) (by omega))
   obtain⟨k1,_,k0⟩:=den_down hn n1 np
   obtain⟨_,k2,_⟩:=den_down hn n2 np
   have p1:0<x*((r:Rat)/((l+r:Int):Rat)):=Mob.step_pos r1 r3 hx0
   have p2:0<x*((l:Rat)/((l+r:Int):Rat)):=by
    have:=Mob.step_pos (l:=r) (r:=l) r3 r1 hx0
    rwa [Int.add_comm r l] at this
   have m1:(rf x).1*r≤1000000000*18:=Int.mul_le_mul k0 (by omega) (by omega) (by omega)
   have m2:(rf x).1*l≤1000000000*18:=Int.mul_le_mul k0 (by omega) (by omega) (by omega)
   have b64:(18:Int)<2 ^ 64:=by decide
   refine⟨show 2≤sizeLine by decide,rfl,_,_,_,_,rfl,np,dp,by omega,by omega,by omega,by omega,big2000 (by omega),λA1 g1=> ?_⟩
   refine⟨show 2≤sizeLine by decide,rfl,_,_,_,_,rfl,np,dp,by omega,by omega,by omega,by omega,big2000 (by omega),λA2 g2=> ?_⟩
   rw[rf_val]
   refine⟨by omega,rfl,a,_,_,rfl,ha1,by omega,by omega,by rw[al];omega,p1,k1,λA3 q3 g3 h3 _=> ?_⟩
   refine⟨by omega,rfl,b,_,_,rfl,ha2,by omega,by omega,by rw[al];omega,p2,k2,λA4 q4 g4 h4 _=> ?_⟩
   have z1:=names_small (m:=a) (by omega)
   have z2:=names_small (m:=b) (by omega)
   have gg:Gr A A4:=((g1.trans g2).trans g3).trans g4
   refine cat_ok (g4.get h3) h4 (by simp[sh3_len];omega) (q _ _ (gg.trans Gr.push) ?_ gg.len)
   rw[last_get]
   simp[sh3]
theorem f_shares(T:TopD K mg "shares" s_shares p_shares)(F_check_mobile:FnX P w K mg base 9 "check_mobile" p_check_mobile (spOf mg 1 SChk))(F_shares_below:FnX P w K mg base 9 "shares_below" p_shares_below (spOf mg 3 (SSb 6))):FnX P w K mg base 10 "shares" p_shares (spOf mg 1 SShs):=by
 refine fnD T sc_shares rfl (by decide) λN RE f cdv B outer s H E hr hR hx ds A R h hl=> ?_
 refine⟨_,(dss_cons (ds_expr (de_call F_check_mobile (hr.mono (by omega)) hx (da_cons (vr 0) da_nil)))
  (dss_one (ds_ret (de_call F_shares_below (hr.mono (by omega)) hx (da_cons (vr 0) (da_cons de_str (da_cons (de_tup (da_cons de_int (da_cons de_int da_nil))) da_nil))))))),?_⟩
 obtain⟨m,rfl,hw,hd,q⟩:=h
 refine⟨rfl,_,⟨m,rfl,hw,hd,rfl⟩,λA1 g1=> ?_⟩
 have e1:(D.tup [.int 1,.int 1])=fq 1:=rfl
 refine⟨show 2≤sizeLine by decide,rfl,m,_,1,rfl,hw.arms,by omega,by omega,by decide+kernel,by decide,?_,λA2 q2 g2 h2 l2=>q _ _ (g1.trans g2) h2 (Nat.le_trans g1.len l2)⟩
 have p:=pow_le18 hd
 have e:(18:Int) ^ 5=1889568:=by decide
 rw[e] at p
 show(1:Int)*18 ^ m.deep≤1000000000
 omega
end
end My
namespace DP
open PySem PySem.Spec PyProof.Rows L2 MA
def bD:Option (Str×Str)->D
 |some p=> .tup [.str p.1,.str p.2]
 |none=> .non
def SBar:Ct:=λds A R _=>∃m,ds=[enc m]∧Wf m∧m.deep≤5∧∀A',Gr A A'->R (bD (barM [] (sh3 m "" 1))) A'
theorem getK_put(k:Key)(v:D)(k':Key):∀kvs:List (Key×D),getK (putG kvs k v) k'=if k=k' then some v else getK kvs k':=by
 intro kvs
 by_cases ha:(kvs.any λkv=>decide (kv.1=k))=true
 .have e:putG kvs k v=kvs.map λkv=>if kv.1=k then (kv.1,v) else kv:=by
   unfold putG
   rw[if_pos ha]
  rw[e]
  clear e
  induction kvs with
  |nil=>simp at ha
  |cons p r ih=>
   by_cases hp:p.1=k
   .rw[List.map_cons,if_pos hp]
    unfold getK
    by_cases hk:k=k'
    .rw[if_pos hk,if_pos (by rw[←hk];exact hp)]
    .rw[if_neg hk,if_neg (λz=>hk (by rw[←hp];exact z))]
     rw[if_neg (λz=>hk (by rw[←hp];exact z))]
     by_cases hr:(r.any λkv=>decide (kv.1=k))=true
     .rw[ih hr,if_neg hk]
     .have:r.map (λkv=>if kv.1=k then (kv.1,v) else kv)=r:=by
       rw[List.map_congr_left (g:=id)]
       .simp
       .intro q hq
        rw[if_neg]
        .rfl
        .intro z
         exact hr (List.any_eq_true.mpr ⟨q,hq,decide_eq_true z⟩)
      rw[this]
   .have hr:(r.any λkv=>decide (kv.1=k))=true:=by simpa[hp] using ha
    rw[List.map_cons,if_neg hp]
    unfold getK
    by_cases hk:p.1=k'
    .rw[if_pos hk,if_neg (λz=>hp (by rw[z];exact hk)),if_pos hk]
    .rw[if_neg hk,if_neg hk]
     exact ih hr
 .have e:putG kvs k v=kvs++[(k,v)]:=by
   unfold putG
   rw[if_neg ha]
  rw[e]
  clear e
  induction kvs with
  |nil=>simp[getK]
  |cons p r ih=>
   have hp:p.1≠k:=λz=>ha (by simp[z])
   have hr:¬(r.any λkv=>decide (kv.1=k))=true:=λz=>ha (by simp[z])
   show(if p.1=k' then some p.2 else getK (r++[(k,v)]) k')=if k=k' then some v else (if p.1=k' then some p.2 else getK r k')
   by_cases hk:p.1=k'
   .rw[if_pos hk,if_neg (λz=>hp (by rw[z];exact hk)),if_pos hk]
   .rw[if_neg hk,if_neg hk]
    exact ih hr
theorem put_len(kvs:List (Key×D))(k:Key)(v:D):(putG kvs k v).length≤kvs.length+1:=by
 unfold putG
 split<;>simp
theorem put_ok{A:Ar}{r:Nat}{kvs:List (Key×D)}{y v:D}{k:Key}{R:Ar->Prop}(h:A[r]? =some (.dct kvs))(hk:keyD y=some k)(hl:kvs.length<sizeLine)(q:R (A.set r (.dct (putG kvs k v)))):putR r y v A R:=by
 unfold putR
 simp only[h,hk]
 exact⟨hl,q⟩
theorem get_setD{A:Ar}{r:Nat}{c c':C}(h:A[r]? =some c):(A.set r c')[r]? =some c':=by
 rw[List.getElem?_set_self (List.getElem?_eq_some_iff.mp h).1]
theorem lay_fq(x:Rat):(toQ (fq x)).canLay0=true:=by simp[fq,toQ,toQs,PyData.canLay0,PyData.canLayAll0]
theorem dep_fq(x:Rat):(toQ (fq x)).depth≤64:=by simp[fq,toQ,toQs,PyData.depth,PyData.depthAll]
theorem eqv_fq(x y:Rat):PyData.eqv (toQ (fq x)) (toQ (fq y))=decide (x=y):=by
 by_cases h:x=y
 .subst h
  simp[fq,toQ,toQs,PyData.eqv,PyData.eqvAll]
 .rw[decide_eq_false h]
  have:¬((rf x).1=(rf y).1∧(rf x).2=(rf y).2):=λz=>h (rf_inj (Prod.ext z.1 z.2))
  by_cases h1:(rf x).1=(rf y).1
  .have h2:¬(rf x).2=(rf y).2:=λz=>this ⟨h1,z⟩
   simp[fq,toQ,toQs,PyData.eqv,PyData.eqvAll,h2]
  .simp[fq,toQ,toQs,PyData.eqv,PyData.eqvAll,h1]
theorem ne_fq{x y:Rat}{A:Ar}{R:DK}(k:R (.bl (!decide (x=y))) A):dataEq true (fq x) (fq y) A R:=by
 unfold dataEq
 have h1:toP A (fq x)=toQ (fq x):=rfl
 have h2:toP A (fq y)=toQ (fq y):=rfl
 rw[h1,h2]
 have:=dep_fq x
 refine⟨rfl,rfl,lay_fq x,lay_fq y,by omega,?_⟩
 rw[eqv_fq]
 exact k
theorem find_snoc{pre:List (Str×Str×Rat)}{p:Str×Str×Rat}{n:Str}:(pre++[p]).find? (λq=>decide (q.2.1=n))=match pre.find? (λq=>decide (q.2.1=n)) with|some q=>some q|none=>if p.2.1=n then some p else none:=by
 rw[List.find?_append]
 cases pre.find? (λq=>decide (q.2.1=n)) with
 |some q=>rfl
 |none=>
  by_cases h:p.2.1=n
  .simp[h]
  .simp[h]
end DP
namespace My
open PySem PySem.Spec PyProof.Rows L2 DP MA
section
variable{P:Program}{w:World}{K:PySem.W.Frag}{mg:Str->Option Value}{base:Heap}
theorem f_bar(T:TopD K mg "bar" s_bar p_bar)(F_shares:FnX P w K mg base 10 "shares" p_shares (spOf mg 1 SShs)):FnX P w K mg base 11 "bar" p_bar (spOf mg 1 SBar):=by
 refine fnD T sc_bar rfl (by decide) λN RE f cdv B outer s H E hr hR hx ds A R h hl=> ?_
 have hu:=hr.units
 have nd:=sc_bar.nd
 refine⟨_,(dss_cons (ds_set (i:=1) nd rfl (by first|exact Or.inl rfl|exact Or.inr rfl) de_dnew)
  (dss_cons (ds_for ownX rfl (di_seq (de_call F_shares (hr.mono (by omega)) hx (da_cons (vr 0) da_nil))) (dg_tup rfl (dgs_cons (dg_name (i:=2) nd rfl (by first|exact Or.inl rfl|exact Or.inr rfl)) (dgs_cons (dg_name (i:=3) nd rfl (by first|exact Or.inl rfl|exact Or.inr rfl)) (dgs_cons (dg_name (i:=4) nd rfl (by first|exact Or.inl rfl|exact Or.inr rfl)) dgs_nil)))) (dss_one (ds_if (t_nin hu (vr 3) (vr 1)) (dss_one (ds_put hu (vr 1) (vr 3) (de_tup (da_cons (vr 2) (da_cons (vr 4) da_nil))) rfl)) (dss_one (ds_if (t_ne hu (de_ix hu (de_ix hu (vr 1) (vr 3) (λ_ _=>rfl)) de_int (λ_ _=>rfl)) (vr 4)) (dss_one (ds_ret (de_tup (da_cons (de_ix hu (de_ix hu (vr 1) (vr 3) (λ_ _=>rfl)) de_int (λ_ _=>rfl)) (da_cons (vr 2) da_nil))))) dss_nil)))))
  (dss_one (ds_ret de_non)))),?_⟩
 obtain⟨m,rfl,hw,hd,q⟩:=h
 obtain⟨tot,htot⟩:∃t,t=barM [] (sh3 m "" 1):=⟨_,rfl⟩
 rw[←htot] at q
 refine⟨rfl,m,rfl,hw,hd,λA1 q1 g1 h1 l1=> ?_⟩
 have l1:A.length+1≤q1:=by simpa using l1
 refine it_ok h1 ?_
 have ln:=sh3_len m "" 1
 have nl:=names_small hd
 have hz:(1000:Nat)≤sizeLine:=by decide
 have hf:=g1.get (last_get (A:=A) (c:=C.dct []))
 refine dloop_I (λrest τ A'=>∃(pre more:List (Str×Str×Rat)) (kvs:List (Key×D)) (x y z:Option D),rest=more.map s3D∧τ=[some (enc m),some (.ref A.length),x,y,z]∧pre++more=sh3 m "" 1∧barM pre more=tot∧A'[A.length]? =some (.dct kvs)∧kvs.length≤pre.length∧(∀n:Str,getK kvs (Sum.inr n)=(pre.find? λq=>decide (q.2.1=n)).map λp=> .tup [.str p.1,fq p.2.2])∧But A.length A1 A'∧A.length+1≤A'.length) ?_ ?_ ?_ _ _ _ ⟨[],sh3 m "" 1,[],none,none,none,rfl,rfl,rfl,htot.symm,hf,Nat.le_refl _,λn=>rfl,But.refl,by have:=g1.len;simpa using this⟩
 .rintro rest τ A' ⟨pre,more,kvs,x,y,z,_,_,_,_,_,_,_,b,_⟩
  exact b q1 _ (by omega) h1
 .rintro v rest τ A' ⟨pre,more,kvs,x,y,z,e,rfl,hp,hb,hA,hk,hg,b,hl'⟩ Nx hN
  cases more with
  |nil=>cases e
  |cons p more=>
   cases e
   obtain⟨w0,n,sx⟩:=p
   have gn:=hg n
   have hpl:pre.length≤32:=by
    have:(pre++(w0,n,sx)::more).length=(sh3 m "" 1).length:=by rw[hp]
    simp at this
    omega
   unfold barM at hb
   refine⟨rfl,ind_ok hA rfl ?_⟩
   cases hf':pre.find? (λq=>decide (q.2.1=n)) with
   |none=>
    rw[hf'] at gn hb
    have gn:getK kvs (Sum.inr n)=none:=gn
    rw[gn]
    refine⟨show 2≤sizeLine by decide,put_ok hA rfl (by omega) ?_⟩
    refine hN _ _ ⟨pre++[(w0,n,sx)],more,_,_,_,_,rfl,rfl,by simpa using hp,hb,get_setD hA,?_,λn'=> ?_,b.trans But.set,by simpa using hl'⟩
    .have:=put_len kvs (Sum.inr n) (.tup [.str w0,fq sx])
     simp
     omega
    .rw[getK_put,find_snoc]
     by_cases hn:n=n'
     .subst hn
      rw[if_pos rfl,hf']
      simp
     .rw[if_neg (λz=>hn (Sum.inr.inj z)),hg n']
      cases pre.find? (λq=>decide (q.2.1=n')) with
      |some q=>rfl
      |none=>simp[hn]
   |some p0=>
    rw[hf'] at gn hb
    have gn:getK kvs (Sum.inr n)=some (.tup [.str p0.1,fq p0.2.2]):=gn
    rw[gn]
    refine ixd_ok hA rfl gn ?_
    refine ne_fq ?_
    by_cases hs:p0.2.2=sx
    .have hb:(if p0.2.2=sx then barM (pre++[(w0,n,sx)]) more else some (p0.1,w0))=tot:=hb
     rw[if_pos hs] at hb
     refine cN (λc=>absurd hs c) (λ_=> ?_)
     refine hN _ _ ⟨pre++[(w0,n,sx)],more,kvs,_,_,_,rfl,rfl,by simpa using hp,hb,hA,by simp;omega,λn'=> ?_,b,hl'⟩
     rw[find_snoc,hg n']
     cases hf2:pre.find? (λq=>decide (q.2.1=n')) with
     |some q=>rfl
     |none=>
      by_cases hn:n=n'
      .subst hn
       rw[hf'] at hf2
       cases hf2
      .simp[hn]
    .have hb:(if p0.2.2=sx then barM (pre++[(w0,n,sx)]) more else some (p0.1,w0))=tot:=hb
     rw[if_neg hs] at hb
     refine cN (λ_=> ?_) (λc=>absurd c hs)
     refine ixd_ok hA rfl gn ?_
     refine⟨show 2≤sizeLine by decide,?_⟩
     have q':=q A' (Gr.of_but (Gr.push.trans g1) (Nat.le_refl _) b)
     rw[←hb] at q'
     exact q'
 .rintro τ A' ⟨pre,more,kvs,x,y,z,e,rfl,hp,hb,hA,hk,hg,b,hl'⟩
  cases more with
  |cons p more=>cases e
  |nil=>
   have q':=q A' (Gr.of_but (Gr.push.trans g1) (Nat.le_refl _) b)
   rw[←hb] at q'
   exact q'
end
end My
namespace My
open PySem PySem.Spec PyProof.Rows L2 DP MA
section
variable{P:Program}{w:World}{K:PySem.W.Frag}{mg:Str->Option Value}{base:Heap}
theorem f_cell(T:TopD K mg "_law_cell_at" s__law_cell_at p__law_cell_at)(b_len:mg "len" =none):FnX P w K mg base 1 "_law_cell_at" p__law_cell_at (spOf mg 2 SCell):=by
 refine fnD T sc__law_cell_at rfl (by decide) λN RE f cdv B outer s H E hr hR hx ds A R h hl=> ?_
 have hu:=hr.units
 refine⟨_,(dss_cons (ds_if (t_lt (vr 1) (de_cb c_len d_len b_len PySem.boot_len (da_cons (vr 0) da_nil))) (dss_one (ds_ret (de_ix hu (vr 0) (vr 1) (λ_ _=>rfl)))) dss_nil)
  (dss_cons (ds_if (t_eq hu (vr 0) (de_lst da_nil)) (dss_one (ds_ret de_int)) dss_nil)
  (dss_one (ds_ret (de_add (de_mul (de_ix hu (vr 0) (de_mod (vr 1) (de_cb c_len d_len b_len PySem.boot_len (da_cons (vr 0) da_nil))) (λ_ _=>rfl)) de_int) (vr 1)))))),?_⟩
 obtain⟨ns,k,rfl,hk,q⟩:=h
 refine cD (λc=> ?_) (λc=> ?_)
 .obtain⟨v,hv,_⟩:=atI_some' hk c
  conv=>whnf
  rw[hv]
  exact q v _ Gr.refl
 .refine⟨Nat.zero_le _,eq_fl_nil ?_⟩
  refine cD (λc2=> ?_) (λc2=> ?_)
  .exact q _ _ Gr.push
  .have hne:0<(ns.length:Int):=by
    have:=List.length_pos_iff.mpr c2
    omega
   obtain⟨v,hv,_⟩:=atI_some' (xs:=ns) (Int.emod_nonneg k (by omega)) (Int.emod_lt_of_pos k hne)
   refine⟨hne,?_⟩
   conv=>whnf
   rw[hv]
   exact⟨.inr ⟨by decide,by decide⟩,q _ _ Gr.push⟩
theorem f_mixed(T:TopD K mg "_law_mixed" s__law_mixed p__law_mixed)(F__law_cell_at:FnX P w K mg base 1 "_law_cell_at" p__law_cell_at (spOf mg 2 SCell)):FnX P w K mg base 2 "_law_mixed" p__law_mixed (spOf mg 3 SMixed):=by
 refine fnD T sc__law_mixed rfl (by decide) λN RE f cdv B outer s H E hr hR hx ds A R h hl=> ?_
 have hu:=hr.units
 have nd:=sc__law_mixed.nd
 refine⟨_,(dss_cons (ds_set (i:=3) nd rfl (by first|exact Or.inl rfl|exact Or.inr rfl) (de_mod (de_add (de_add (de_mul (de_call F__law_cell_at (hr.mono (by omega)) hx (da_cons (vr 0) (da_cons (vr 1) da_nil))) de_int) (de_mul de_int (vr 1))) de_int) de_int))
  (dss_one (ds_ret (de_mod (de_mod (de_mod (de_pow (vr 3) de_int) de_int) de_int) (vr 2))))),?_⟩
 obtain⟨ns,k,m,rfl,hk,hm,q⟩:=h
 refine⟨rfl,ns,k,rfl,hk,λi A' g=> ?_⟩
 refine⟨.inr ⟨by decide,by decide⟩,.inl ⟨by decide,by decide⟩,(by decide:(0:Int)<2147483647),?_⟩
 have b0:=Int.emod_nonneg (i*1103515245+7919*k+12345) (show(2147483647:Int)≠0 by decide)
 have b1:=Int.emod_lt_of_pos (i*1103515245+7919*k+12345) (show(0:Int)<2147483647 by decide)
 refine⟨⟨by decide,by decide,?_⟩,(by decide:(0:Int)<2147483647),(by decide:(0:Int)<999983),hm,?_⟩
 .have:(2147483647:Nat)<2 ^ 64:=by decide
  omega
 exact q _ _ (Int.emod_nonneg _ (by omega)) (Int.emod_lt_of_pos _ hm) g
theorem f_draw(T:TopD K mg "_law_draw" s__law_draw p__law_draw)(b_len:mg "len" =none)(F__law_mixed:FnX P w K mg base 2 "_law_mixed" p__law_mixed (spOf mg 3 SMixed)):FnX P w K mg base 3 "_law_draw" p__law_draw (spOf mg 3 SDraw):=by
 refine fnD T sc__law_draw rfl (by decide) λN RE f cdv B outer s H E hr hR hx ds A R h hl=> ?_
 have hu:=hr.units
 refine⟨_,(dss_cons (ds_expr (de_mt PySem.F.plainAttrs_list PySem.F.slot_list_append PySem.F.type_list_append mt_append d_app (vr 1) (da_cons de_int da_nil)))
  (dss_one (ds_ret (de_call F__law_mixed (hr.mono (by omega)) hx (da_cons (vr 0) (da_cons (de_cb c_len d_len b_len PySem.boot_len (da_cons (vr 1) da_nil)) (da_cons (vr 2) da_nil))))))),?_⟩
 obtain⟨ns,t,m,n,rfl,⟨xs,ht,hz⟩,hn,hm,q⟩:=h
 refine⟨isL_of ht,app_ok ht (by rw[sizeLine];omega) ?_⟩
 have ht':(A.set t (.lst (xs++[.int 0])))[t]? =some (.lst (xs++[.int 0])):=get_set ht
 refine len_ok ht' ⟨rfl,ns,_,m,rfl,by omega,hm,λi A' h0 h1 g=> ?_⟩
 exact q i A' h0 h1 (But.set.trans g.but) (Tw.gr ⟨_,ht',by simpa using hz⟩ g)
theorem f_pick(T:TopD K mg "_law_pick" s__law_pick p__law_pick)(b_len:mg "len" =none)(F__law_draw:FnX P w K mg base 3 "_law_draw" p__law_draw (spOf mg 3 SDraw)):FnX P w K mg base 4 "_law_pick" p__law_pick (spOf mg 3 SPick):=by
 refine fnD T sc__law_pick rfl (by decide) λN RE f cdv B outer s H E hr hR hx ds A R h hl=> ?_
 have hu:=hr.units
 refine⟨_,(dss_one (ds_ret (de_ix hu (vr 2) (de_call F__law_draw (hr.mono (by omega)) hx (da_cons (vr 0) (da_cons (vr 1) (da_cons (de_cb c_len d_len b_len PySem.boot_len (da_cons (vr 2) da_nil)) da_nil)))) (λ_ _=>rfl)))),?_⟩
 obtain⟨ns,t,r,xs,n,rfl,hne,hr,hx,ht,hn,q⟩:=h
 have hp:=List.length_pos_iff.mpr hx
 refine len_ok hr ⟨rfl,ns,t,_,n,rfl,ht,hn,by omega,λi A' h0 h1 b t'=> ?_⟩
 obtain⟨v,hv,hm⟩:=atI_some' h0 h1
 exact ix_ok (b r _ hne hr) hv (q v A' hm b t')
end
end My
namespace My
open PySem PySem.Spec PyProof.Rows L2 DP MA
section
variable{P:Program}{w:World}{K:PySem.W.Frag}{mg:Str->Option Value}{base:Heap}
end
end My
namespace DP
open PySem PySem.Spec PyProof.Rows L2 MA
def SWt:Ct:=λds A R _=>∃ns t q nms n,ds=[.fl ns,.ref t,.ref q]∧q≠t∧A[q]? =some (.lst (nms.map D.str))∧nms.Pairwise strLt∧(∀x∈nms,Nm x)∧nms.length<64∧Tw t n A∧n+100≤1000000∧∀rs A',WOk rs->rs.map (·.1)=nms->Dr t A A' n 100->R (encW rs) A'
end DP
namespace My
open PySem PySem.Spec PyProof.Rows L2 DP MA
section
variable{P:Program}{w:World}{K:PySem.W.Frag}{mg:Str->Option Value}{base:Heap}
theorem f_lv(T:TopD K mg "_law_leaves" s__law_leaves p__law_leaves):∀d,FnX P w K mg base (d+1) "_law_leaves" p__law_leaves (spOf mg 1 (SLv d)):=by
 intro d
 induction d with
 |zero=>
  refine fnNo T λds A R RE h=> ?_
  obtain⟨v,⟨m,_,h,_⟩,_⟩:=h
  omega
 |succ d F__law_leaves=>
  refine fnD T sc__law_leaves rfl (by decide) λN RE f cdv B outer s H E hr hR hx ds A R h hl=> ?_
  have hu:=hr.units
  refine⟨_,(dss_one (ds_ret (de_ite (t_eq hu (de_ix hu (vr 0) de_int (λ_ _=>rfl)) de_str) (de_lst (da_cons (de_ix hu (vr 0) de_int (λ_ _=>rfl)) da_nil)) (de_add (de_call F__law_leaves (hr.mono (by omega)) hx (da_cons (de_ix hu (vr 0) de_int (λ_ _=>rfl)) da_nil)) (de_call F__law_leaves (hr.mono (by omega)) hx (da_cons (de_ix hu (vr 0) de_int (λ_ _=>rfl)) da_nil)))))),?_⟩
  obtain⟨v,⟨m,rfl,hd,h8,rfl⟩,q⟩:=h
  cases m with
  |wt n=>exact⟨show 1≤sizeLine by decide,q _ _ Gr.push last_get⟩
  |rod l r a b=>
   have hd':max a.deep b.deep+1<d+1:=hd
   refine⟨rfl,_,⟨a,rfl,by omega,by omega,rfl⟩,λA1 r1 g1 h1=> ?_⟩
   refine⟨rfl,_,⟨b,rfl,by omega,by omega,rfl⟩,λA2 r2 g2 h2=> ?_⟩
   have n1:=Mob.names_le a
   have n2:=Mob.names_le b
   have p1:2 ^ a.deep≤2 ^ 8:=Nat.pow_le_pow_right (by decide) (by omega)
   have p2:2 ^ b.deep≤2 ^ 8:=Nat.pow_le_pow_right (by decide) (by omega)
   have hz:(512:Nat)≤sizeLine:=by decide
   refine cat_ok (g2.get h1) h2 (by rw[List.length_map,List.length_map];omega) (q _ _ ((g1.trans g2).trans Gr.push) ?_)
   rw[last_get]
   simp[Mob.names]
theorem f_ns(T:TopD K mg "_law_names" s__law_names p__law_names)(b_sorted:mg "sorted" =none)(b_set:mg "set" =none)(F__law_leaves:FnX P w K mg base 9 "_law_leaves" p__law_leaves (spOf mg 1 (SLv 8))):FnX P w K mg base 10 "_law_names" p__law_names (spOf mg 1 SNs):=by
 refine fnD T sc__law_names rfl (by decide) λN RE f cdv B outer s H E hr hR hx ds A R h hl=> ?_
 have hu:=hr.units
 refine⟨_,(dss_one (ds_ret (de_sortset b_sorted b_set rfl (da_cons (de_call F__law_leaves (hr.mono (by omega)) hx (da_cons (vr 0) da_nil)) da_nil)))),?_⟩
 obtain⟨m,rfl,hd,q⟩:=h
 refine⟨rfl,_,⟨m,rfl,by omega,by omega,rfl⟩,λA1 r1 g1 h1=> ?_⟩
 have n1:=Mob.names_le m
 have p1:2 ^ m.deep≤2 ^ 5:=Nat.pow_le_pow_right (by decide) hd
 refine srt_ok (ss:=m.names) h1 (by have:=strs_map id m.names;simpa using this) (by omega) λys hp hm=> ?_
 exact q _ _ ys (g1.trans Gr.push) g1.len last_get hp hm
theorem f_wt(T:TopD K mg "_law_weights" s__law_weights p__law_weights)(b_tuple:mg "tuple" =none)(F__law_draw:FnX P w K mg base 3 "_law_draw" p__law_draw (spOf mg 3 SDraw))(F__law_pick:FnX P w K mg base 4 "_law_pick" p__law_pick (spOf mg 3 SPick)):FnX P w K mg base 5 "_law_weights" p__law_weights (spOf mg 3 SWt):=by
 refine fnD T sc__law_weights rfl (by decide) λN RE f cdv B outer s H E hr hR hx ds A R h hl=> ?_
 have hu:=hr.units
 have nd:=sc__law_weights.nd
 refine⟨_,(dss_cons (ds_set (i:=3) nd rfl (by first|exact Or.inl rfl|exact Or.inr rfl) (de_call F__law_pick (hr.mono (by omega)) hx (da_cons (vr 0) (da_cons (vr 1) (da_cons (de_lst (da_cons de_int (da_cons de_int (da_cons de_int (da_cons de_int da_nil))))) da_nil)))))
  (dss_one (ds_ret (de_cty call_tuple_of d_tup b_tuple boot_tuple (da_cons (de_comp none (own:=["_law_name"]) (frees:=["_law_script","_law_town","_law_wide"]) (ix:=[0,1,3]) rfl (di_seq (vr 2)) (λc=>(pg_name (i:=0) (show(["_law_name","_law_script","_law_town","_law_wide"]:List Str).Nodup by decide+kernel) rfl (by first|exact Or.inl rfl|exact Or.inr rfl))) (λc=>(de_tup (da_cons (vr 0) (da_cons (de_add de_int (de_call F__law_draw (hr.mono (by omega)) pass0D (da_cons (vr 1) (da_cons (vr 2) (da_cons (vr 3) da_nil))))) da_nil))))) da_nil))))),?_⟩
 obtain⟨ns,t,r,nms,n,rfl,hne,hA,hp,hnm,hlen,ht,hn,q⟩:=h
 obtain⟨xs0,hx0,_⟩:=id ht
 have l0:=lt_of_get hx0
 refine⟨show 4≤sizeLine by decide,rfl,ns,t,_,[.int 1,.int 2,.int 4,.int 12],n,rfl,by omega,last_get,by simp,ht.gr Gr.push,by omega,λx A1 hx b1 t1=> ?_⟩
 obtain⟨wide,rfl,m0,m9⟩:∃k:Int,x= .int k∧1≤k∧k≤12:=by
  simp at hx
  rcases hx with h|h|h|h<;>exact⟨_,h,by omega,by omega⟩
 have b01:But t A A1:=Gr.push.but.trans b1
 refine it_ok (b01 r _ hne hA) ?_
 refine cloop_I (λrest ys A'=>∃(rs:List (Str×Int)) (more:List Str),rest=more.map D.str∧ys=rs.map rowD∧rs.map (·.1)++more=nms∧(∀p∈rs,1≤p.2∧p.2≤12)∧But t A A'∧Tw t (n+1+rs.length) A') ?_ ?_ ?_ ?_ _ _ _ ⟨[],nms,rfl,rfl,rfl,λ_ h=>(by cases h),b01,t1⟩
 .rintro rest ys A' ⟨rs,more,_,_,_,_,b,_⟩
  exact b r _ hne hA
 .rintro rest ys A' ⟨rs,more,_,rfl,e,_,_,_⟩
  have:(rs.map (·.1)++more).length=nms.length:=by rw[e]
  have hz:(64:Nat)≤sizeLine:=by decide
  simp at this ⊢
  omega
 .rintro x rest ys A' ⟨rs,more,e1,rfl,e,hb,b,t'⟩
  cases more with
  |nil=>cases e1
  |cons y more=>
   cases e1
   have:(rs.map (·.1)++y::more).length=nms.length:=by rw[e]
   simp at this
   refine⟨[.str y],rfl,λQ hQ=>⟨rfl,ns,t,wide,n+1+rs.length,rfl,t',by omega,by omega,λi A2 i0 i1 b2 t2=>⟨show 2≤sizeLine by decide,hQ _ _ ⟨rs++[(y,1+i)],more,rfl,by simp[rowD],by simpa using e,λp hp=> ?_,b.trans b2,by rw[List.length_append];exact t2⟩⟩⟩⟩
   rcases List.mem_append.mp hp with h|h
   .exact hb p h
   .rw[List.mem_singleton.mp h]
    exact⟨show 1≤1+i by omega,show 1+i≤12 by omega⟩
 .rintro ys A' ⟨rs,more,e1,rfl,e,hb,b,t'⟩
  cases more with
  |cons y more=>cases e1
  |nil=>
   have e:rs.map (·.1)=nms:=by simpa using e
   have el:rs.length=nms.length:=by rw[←e];simp
   refine tup_ok last_get (q rs _ ⟨λp hp=>hnm _ (by rw[←e];exact List.mem_map_of_mem hp),λp hp=> ?_,by rw[e];exact hp,by omega⟩ e ⟨b.trans Gr.push.but,(t'.gr Gr.push).mono (by omega)⟩)
   have:=hb p hp
   omega
end
end My
namespace L2
open PySem PySem.Spec PyProof.Rows
theorem Fun.okX{P:Program}{w:World}{K:PySem.W.Frag}{mg:Str->Option Value}{base:Heap}{x:Str}{st:Stmt}{N ps:List Str}{k:Nat}{sp:Sp}{f:Addr}{fd:FuncData}(F:Fun K x x st f fd)(S:FnScope N ps (defScope st))(len:∀vs H Q E,sp vs H Q E->vs.length=ps.length)
  (hbody:∀(f:Addr) (cdv:Value) (A:Around) (outer:List Env) (s:Shared) (H:Hp) (vs:List V) (Q:VK) (E:XK),Room k (A.deeper (envOfC x (defScope st) s.heap.objs.size f cdv))->sp vs H Q E->
   ∃t,PSs (cxOf (CX1 P w) P w K mg base N x (defScope st) f cdv A outer s H E) (defBody st) t∧t {nx:=λ_ H'=>Q .non H',rt:=Q} (start N vs) H):FnOk P w K mg base (CX1 P w) (k+1) f fd ps sp:=by
 obtain⟨oc,od,kV,doc,pm,an,cdv,ct,osl,rfl,lk,hcd⟩:=F.ex
 exact fn_of lk hcd S len λA outer s H vs Q E hr hsp=>hbody f cdv A outer s H vs Q E hr hsp
end L2
namespace DP
open PySem PySem.Spec PyProof.Rows L2 MA
theorem fnL{P:Program}{w:World}{K:PySem.W.Frag}{mg:Str->Option Value}{base:Heap}{x:Str}{st:Stmt}{Nm ps:List Str}{k n:Nat}{S:Ct}{fo:Addr}{fd:FuncData}(T:Fun K x x st fo fd)(Sc:FnScope Nm ps (defScope st))(hn:ps.length=n)(hN:ps.length≤Nm.length)
  (hbody:∀(N:En) (RE:DX) (f:Addr) (cdv:Value) (B:Around) (outer:List Env) (s:Shared) (H:Hp) (E:XK),Room k (cxOf (CX1 P w) P w K mg base Nm x (defScope st) f cdv B outer s H E).A->
   Raises (cxOf (CX1 P w) P w K mg base Nm x (defScope st) f cdv B outer s H E) (EL mg N RE)->Passes (CX1 P w) (cxOf (CX1 P w) P w K mg base Nm x (defScope st) f cdv B outer s H E) (EL mg N RE)->
   ∀ds A R,S ds A R RE->ds.length=n->∃m,PSs (cxOf (CX1 P w) P w K mg base Nm x (defScope st) f cdv B outer s H E) (defBody st) (upS mg N m)∧m {nx:=λ_ A'=>R .non A',rt:=R} (startD (Nm.length - n) ds) A):FnOk P w K mg base (CX1 P w) (k+1) fo fd ps (spOf mg n S):=by
 refine T.okX Sc (λvs H Q E h=> ?_) λf cdv A outer s H vs Q E hr h=> ?_
 .obtain⟨A,ι,ds,R,RE,hl,_,hv,_⟩:=h
  rw[←RVs.length hv,hl,hn]
 .obtain⟨A0,ι0,ds,R,RE,hl,ra,hv,hS,kq,kx⟩:=h
  have hE:∀C a H',EL mg ⟨A0,ι0,H⟩ RE C a H'->E C none H':=λC a H' z=>by
   obtain⟨c,A',ι',⟨b,rfl,hc⟩,ex,r,q⟩:=z
   exact kx c A' ι' H' b q hc ex r
  obtain⟨m,hP,hm⟩:=hbody ⟨A0,ι0,H⟩ RE f cdv A outer s H E hr
   (λpins σ H1 s1 e h' C args I mx z=>raisesX pins σ H1 s1 e h' C args I mx (hE _ _ _ z))
   (λpins σ H1 s1 e s' I z=>passX pins σ H1 s1 e s' I (by
    obtain⟨a,C,H',h1,h2,h3⟩:=z
    exact⟨a,C,H',h1,h2,hE _ _ _ h3⟩)) ds A0 R hS hl
  have hlv:=RVs.length hv
  refine⟨_,hP,A0,ι0,_,_,⟨ra,⟨?_,λi d q=> ?_⟩,ra.refl⟩,hm,⟨λτ A' ι' σ H' q e r _=>kq _ A' ι' H' _ q e r rfl,kq,λ_ _ _ _ _ q _ _ _=>q.elim,λ_ _ _ _ _ q _ _ _=>q.elim⟩⟩
  .simp[startD,L2.start]
   omega
  .obtain⟨v,h1,h2⟩:=RVs.get hv (lk_start ds _ i d q)
   refine⟨v,?_,h2⟩
   have hi:=(List.getElem?_eq_some_iff.mp h1).1
   unfold L2.start
   rw[List.getElem?_append_left (by simpa using hi),List.getElem?_map,h1]
   rfl
def SLaw:Ct:=λds A R _=>∃ns,ds=[.fl ns]∧∀A',R (.bl true) A'
def spFz:Sp:=λvs H Q _=>∃(a:Addr) (o:Obj) (ns:List Int),vs=[.ref a]∧H a=some (.frz o (.lst (ns.map V.int)))∧∀H',Q (.bl true) H'
theorem sp_fz{mg:Str->Option Value}{vs:List V}{H:Hp}{Q:VK}{E:XK}(h:spFz vs H Q E):spOf mg 1 SLaw vs H Q E:=by
 obtain⟨a,o,ns,rfl,h,q⟩:=h
 refine⟨[],λ_=>a,[.fl ns],λv _=>v= .bl true,λ_ _=>False,rfl,⟨λr c h=>by simp at h,λr s hr=>by simp at hr⟩,⟨_,[],rfl,⟨a,o,rfl,h⟩,rfl⟩,⟨ns,rfl,λ_=>rfl⟩,λv A' ι' H' u e _ _ r=> ?_,λ_ _ _ _ _ z=>z.elim⟩
 subst e
 cases r
 exact q _
def noL(o:Obj):Bool:=match o.cls with
 | .type t=> !(decide (t="list"))
 |_=>true
theorem no_list{K:PySem.W.Frag}(h:K.all (λp=>noL p.2)=true){a:Addr}{o:Obj}(e:K.lookup a=some o):noL o=true:=by
 induction K with
 |nil=>cases e
 |cons p r ih=>
  have h':noL p.2=true∧List.all r (λp=>noL p.2)=true:=by simpa using h
  rw[List.lookup] at e
  split at e
  .cases e
   exact h'.1
  .exact ih h'.2 e
theorem fz_of{K:PySem.W.Frag}(hK:K.all (λp=>noL p.2)=true){H:Hp}{a:Addr}{ns:List Int}(hO:Only H)(hS:SqL K H a (ns.map V.int)):spFz [.ref a] H (λv _=>v= .bl true) λ_ _ _=>False:=by
 rcases hS with (e|⟨o,e⟩)|⟨o,its,n,e,c,_⟩
 .rcases hO a with z|⟨o,xs,z⟩
  .rw[z] at e;cases e
  .rw[z] at e;cases e
 .exact⟨a,o,ns,rfl,e,λ_=>rfl⟩
 .have:=no_list hK e
  unfold noL at this
  rw[c] at this
  simp at this
end DP
namespace DP
open PySem PySem.Spec PyProof.Rows L2 MA
theorem fold_put:∀(ps:List (Str×D)) (acc:List (Key×D)) (ns:List Str),acc.map (·.1)=ns.map Sum.inr->ns.Nodup->
  ∃ns':List Str,((ps.map λp=>((Sum.inr p.1:Key),p.2)).foldl (λacc p=>putG acc p.1 p.2) acc).map (·.1)=ns'.map Sum.inr∧ns'.Nodup∧(∀n,n∈ns'↔n∈ns∨n∈ps.map (·.1))
 |[],acc,ns,h1,h2=>⟨ns,h1,h2,λn=>by simp⟩
 |p::ps,acc,ns,h1,h2=>by
  have key:∃ns1:List Str,(putG acc (Sum.inr p.1) p.2).map (·.1)=ns1.map Sum.inr∧ns1.Nodup∧∀n,n∈ns1↔n∈ns∨n=p.1:=by
   by_cases ha:(acc.any λkv=>decide (kv.1=(Sum.inr p.1:Key)))=true
   .have e:putG acc (Sum.inr p.1) p.2=acc.map λkv=>if kv.1=(Sum.inr p.1:Key) then (kv.1,p.2) else kv:=by
     unfold putG
     rw[if_pos ha]
    refine⟨ns,?_,h2,λn=> ?_⟩
    .rw[e,List.map_map,←h1]
     refine List.map_congr_left λkv _=> ?_
     show(if kv.1=(Sum.inr p.1:Key) then (kv.1,p.2) else kv).1=kv.1
     split<;>rfl
    .have hin:p.1∈ns:=by
      obtain⟨kv,hkv,hk⟩:=List.any_eq_true.mp ha
      have:kv.1∈acc.map (·.1):=List.mem_map_of_mem hkv
      rw[h1,of_decide_eq_true hk] at this
      obtain⟨x,hx,e⟩:=List.mem_map.mp this
      rw[←Sum.inr.inj e]
      exact hx
     constructor
     .exact .inl
     .rintro (h|rfl)
      .exact h
      .exact hin
   .have e:putG acc (Sum.inr p.1) p.2=acc++[(Sum.inr p.1,p.2)]:=by
     unfold putG
     rw[if_neg ha]
    have hno:p.1∉ns:=λhin=>ha (by
     have:(Sum.inr p.1:Key)∈acc.map (·.1):=by rw[h1];exact List.mem_map_of_mem hin
     obtain⟨kv,hkv,e⟩:=List.mem_map.mp this
     exact List.any_eq_true.mpr ⟨kv,hkv,decide_eq_true e⟩)
    refine⟨ns++[p.1],by rw[e];simp[h1],?_,λn=>by simp⟩
    rw[List.nodup_append]
    refine⟨h2,by simp,λa ha' b hb=> ?_⟩
    rw[List.mem_singleton.mp hb]
    exact λz=>hno (by rw[←z];exact ha')
  obtain⟨ns1,k1,k2,k3⟩:=key
  obtain⟨ns',r1,r2,r3⟩:=fold_put ps _ ns1 k1 k2
  refine⟨ns',r1,r2,λn=> ?_⟩
  rw[r3,k3]
  simp[or_assoc]
def nsD(p:Str×Str×Rat):D:= .tup [.str p.2.1,fq p.2.2]
theorem pairs_ns:∀rows:List (Str×Str×Rat),pairsD (rows.map nsD)=some ((rows.map λp=>(p.2.1,fq p.2.2)).map λp=>((Sum.inr p.1:Key),p.2))
 |[]=>rfl
 |r::rows=>by
  have:=pairs_ns rows
  simp only[List.map_cons,nsD,pairsD,keyD,this]
theorem dctl_ok{A:Ar}{r:Nat}{xs:List D}{ps:List (Key×D)}{R:DK}(h:A[r]? =some (.lst xs))(hp:pairsD xs=some ps)(hl:ps.length≤1000)(k:R (.ref A.length) (A++[.dct (putAllD ps)])):dctR r A R:=by
 unfold dctR
 simp only[h]
 unfold dctP
 rw[hp]
 exact⟨hl,k⟩
end DP
namespace My
open PySem PySem.Spec PyProof.Rows L2 DP MA
section
variable{P:Program}{w:World}{K:PySem.W.Frag}{mg:Str->Option Value}{base:Heap}
end
end My
namespace DP
open PySem PySem.Spec PyProof.Rows L2 MA
abbrev Tb:=List (Str×Rat)
abbrev Stp:=Nat×Str×Str
abbrev Pth:=List (Str×List Stp)
def stD(s:Stp):D:= .tup [.int ((s.1:Nat):Int),.str s.2.1,.str s.2.2]
def ksT(T:Tb):List Str:=T.map (·.1)
def kvT(T:Tb):List (Key×D):=T.map λp=>((Sum.inr p.1:Key),fq p.2)
noncomputable def shT(T:Tb)(n:Str):Rat:=match T.find? (λp=>decide (p.1=n)) with
 |some p=>p.2
 |none=>0
def stG(n:Str)(p:Tb×Nat):List Stp:=if n∈ksT p.1 then (ksT p.1).map (λo=>(p.2,n,o)) else []
def stF(Ts:List Tb)(n:Str):List Stp:=Ts.zipIdx.flatMap (stG n)
def lkP(P:Pth)(n:Str):List Stp:=match P.find? (λp=>decide (p.1=n)) with
 |some p=>p.2
 |none=>[]
def ksP(P:Pth):List Str:=P.map (·.1)
def addS(P:Pth)(s:Stp):Pth:=if s.2.2∈ksP P then P else P++[(s.2.2,lkP P s.2.1++[s])]
def bfs(Ts:List Tb):Nat->Nat->Pth->Pth
 |0,_,P=>P
 |f+1,i,P=>match P[i]? with
  |some p=>bfs Ts f (i+1) ((stF Ts p.1).foldl addS P)
  |none=>P
def pathsF(Ts:List Tb)(n:Str):Pth:=bfs Ts 14 0 [(n,[])]
structure TOk(T:Tb):Prop where
 nd:(ksT T).Nodup
 ne:T≠[]
 len:T.length≤32
 fok:∀p∈T,FOk p.2
structure HOk6(Ts:List Tb)(NN:List Str):Prop where
 len:Ts.length≤7
 tok:∀T∈Ts,TOk T
 nn:NN.length≤12
 sub:∀T∈Ts,∀n∈ksT T,n∈NN
theorem getK_T:∀(T:Tb) (n:Str),getK (kvT T) (Sum.inr n)=(T.find? (λp=>decide (p.1=n))).map (λp=>fq p.2)
 |[],n=>rfl
 |p::T,n=>by
  show(if (Sum.inr p.1:Key)=Sum.inr n then some (fq p.2) else getK (kvT T) (Sum.inr n))=_
  by_cases h:p.1=n
  .rw[if_pos (by rw[h]),List.find?_cons_of_pos (by simpa using h)]
   rfl
  .rw[if_neg (λz=>h (Sum.inr.inj z)),List.find?_cons_of_neg (by simpa using h)]
   exact getK_T T n
theorem find_some{β:Type}{T:List (Str×β)}{n:Str}:(T.find? (λp=>decide (p.1=n))).isSome=decide (n∈T.map (·.1)):=by
 rw[Bool.eq_iff_iff,List.find?_isSome,decide_eq_true_eq]
 constructor
 .rintro ⟨p,hp,h⟩
  rw[←of_decide_eq_true h]
  exact List.mem_map_of_mem hp
 .intro h
  obtain⟨p,hp,e⟩:=List.mem_map.mp h
  exact⟨p,hp,decide_eq_true e⟩
theorem getK_in(T:Tb)(n:Str):(getK (kvT T) (Sum.inr n)).isSome=decide (n∈ksT T):=by
 rw[getK_T,Option.isSome_map]
 exact find_some
theorem getK_sh{T:Tb}{n:Str}(h:n∈ksT T):getK (kvT T) (Sum.inr n)=some (fq (shT T n)):=by
 have:=find_some (T:=T) (n:=n)
 rw[decide_eq_true (show n∈T.map (·.1) from h)] at this
 obtain⟨p,hp⟩:=Option.isSome_iff_exists.mp this
 rw[getK_T,hp]
 unfold shT
 rw[hp]
 rfl
theorem kvT_keys(T:Tb):(kvT T).map (·.1)=(ksT T).map Sum.inr:=by
 unfold kvT ksT
 rw[List.map_map,List.map_map]
 rfl
theorem kvT_items(T:Tb):((kvT T).map λp=>keyOf p.1)=(ksT T).map D.str:=by
 unfold kvT ksT
 rw[List.map_map,List.map_map]
 rfl
theorem shT_fok{T:Tb}(h:TOk T){n:Str}(hn:n∈ksT T):FOk (shT T n):=by
 have:=find_some (T:=T) (n:=n)
 rw[decide_eq_true (show n∈T.map (·.1) from hn)] at this
 obtain⟨p,hp⟩:=Option.isSome_iff_exists.mp this
 unfold shT
 rw[hp]
 exact h.fok p (List.mem_of_find?_eq_some hp)
theorem addS_keys(P:Pth)(s:Stp):∀n,n∈ksP (addS P s)↔n∈ksP P∨n=s.2.2:=λn=>by
 unfold addS
 split
 .rename_i h
  constructor
  .exact .inl
  .rintro (h'|rfl)
   .exact h'
   .exact h
 .simp[ksP]
theorem addS_nd{P:Pth}(s:Stp)(h:(ksP P).Nodup):(ksP (addS P s)).Nodup:=by
 unfold addS
 split
 .exact h
 .rename_i hn
  unfold ksP
  rw[List.map_append,List.nodup_append]
  refine⟨h,by simp,λa ha b hb=> ?_⟩
  simp at hb
  rw[hb]
  exact λz=>hn (by rw[←z];exact ha)
theorem nd_le:∀(xs ys:List Str),xs.Nodup->(∀x∈xs,x∈ys)->xs.length≤ys.length:=by
 intro xs
 induction xs with
 |nil=>intro ys _ _;exact Nat.zero_le _
 |cons x r ih=>
  intro ys hn hs
  have hn':=List.nodup_cons.mp hn
  have hx:=hs x (List.mem_cons_self ..)
  have:=ih (ys.erase x) hn'.2 λy hy=>(List.mem_erase_of_ne (λz=>hn'.1 (by rw[←z];exact hy))).mpr (hs y (List.mem_cons_of_mem _ hy))
  rw[List.length_erase_of_mem hx] at this
  have:=List.length_pos_of_mem hx
  simp
  omega
theorem mem_stF{Ts:List Tb}{n:Str}{s:Stp}:s∈stF Ts n↔∃T,Ts[s.1]? =some T∧n∈ksT T∧s.2.1=n∧s.2.2∈ksT T:=by
 unfold stF
 rw[List.mem_flatMap]
 constructor
 .rintro ⟨⟨T,i⟩,hp,hs⟩
  have hp:=List.mem_zipIdx_iff_getElem?.mp hp
  unfold stG at hs
  split at hs
  .rename_i hn
   obtain⟨o,ho,rfl⟩:=List.mem_map.mp hs
   exact⟨T,hp,hn,rfl,ho⟩
  .cases hs
 .rintro ⟨T,hT,hn,e,ho⟩
  refine⟨(T,s.1),List.mem_zipIdx_iff_getElem?.mpr hT,?_⟩
  unfold stG
  rw[if_pos hn]
  exact List.mem_map.mpr ⟨s.2.2,ho,by rw[←e]⟩
theorem foldS_keys:∀(ss:List Stp) (P:Pth) (n:Str),n∈ksP (ss.foldl addS P)↔n∈ksP P∨n∈ss.map (·.2.2)
 |[],P,n=>by simp
 |s::ss,P,n=>by
  rw[List.foldl_cons,foldS_keys ss,addS_keys]
  simp[or_assoc]
theorem addS_pre(P:Pth)(s:Stp):∃X,addS P s=P++X:=by
 unfold addS
 split
 .exact⟨[],by simp⟩
 .exact⟨_,rfl⟩
theorem foldS_pre:∀(ss:List Stp) (P:Pth),∃X,ss.foldl addS P=P++X
 |[],P=>⟨[],by simp⟩
 |s::ss,P=>by
  obtain⟨X,e⟩:=addS_pre P s
  obtain⟨Y,e'⟩:=foldS_pre ss (addS P s)
  exact⟨X++Y,by rw[List.foldl_cons,e',e,List.append_assoc]⟩
end DP
namespace DP
open PySem PySem.Spec PyProof.Rows L2 MA
def TabAt(A:Ar)(t:Nat)(T:Tb):Prop:=A[t]? =some (.dct (kvT T))∨∃o,A[t]? =some (.fdc o (kvT T))
def TabsAt(A:Ar):List Nat->List Tb->Prop
 |[],[]=>True
 |t::ts,T::Ts=>TabAt A t T∧TabsAt A ts Ts
 |_,_=>False
def BPl(A:Ar)(r:Nat)(Ts:List Tb):Prop:=∃ts,A[r]? =some (.lst (ts.map D.ref))∧TabsAt A ts Ts
theorem TabAt.gr{A B:Ar}{t:Nat}{T:Tb}(h:TabAt A t T)(g:Gr A B):TabAt B t T:=by
 rcases h with h|⟨o,h⟩
 .exact .inl (g.get h)
 .exact .inr ⟨o,g.get h⟩
theorem TabsAt.gr{A B:Ar}(g:Gr A B):∀{ts:List Nat} {Ts:List Tb},TabsAt A ts Ts->TabsAt B ts Ts
 |[],[],_=>trivial
 |t::ts,T::Ts,h=>⟨h.1.gr g,TabsAt.gr g h.2⟩
 |[],_::_,h=>h.elim
 |_::_,[],h=>h.elim
theorem TabsAt.len{A:Ar}:∀{ts:List Nat} {Ts:List Tb},TabsAt A ts Ts->ts.length=Ts.length
 |[],[],_=>rfl
 |t::ts,T::Ts,h=>by simp[TabsAt.len h.2]
 |[],_::_,h=>h.elim
 |_::_,[],h=>h.elim
theorem TabsAt.get{A:Ar}:∀{ts:List Nat} {Ts:List Tb} {i t:Nat},TabsAt A ts Ts->ts[i]? =some t->∃T,Ts[i]? =some T∧TabAt A t T
 |[],[],i,t,_,e=>by simp at e
 |t::ts,T::Ts,0,_,h,e=>by
  simp at e
  subst e
  exact⟨T,rfl,h.1⟩
 |t::ts,T::Ts,i+1,_,h,e=>by
  obtain⟨T',h1,h2⟩:=TabsAt.get (i:=i) h.2 (by simpa using e)
  exact⟨T',by simpa using h1,h2⟩
 |[],_::_,_,_,h,_=>h.elim
 |_::_,[],_,_,h,_=>h.elim
theorem BPl.gr{A B:Ar}{r:Nat}{Ts:List Tb}(h:BPl A r Ts)(g:Gr A B):BPl B r Ts:=by
 obtain⟨ts,h1,h2⟩:=h
 exact⟨ts,g.get h1,h2.gr g⟩
theorem fr_comp{τ:DSt}{A:Ar}{j t:Nat}{ix:List Nat}{te:DTE}{R:DK}{T:Tb}(f:D->D)(hj:lk τ j=some (.ref t))(hT:TabAt A t T)(hl:T.length≤1000)
  (hte:∀A':Ar,∀o∈ksT T,∀Q:DK,Q (f (.str o)) A'->te ([some (.str o)]++ix.map (lk τ)) A' Q)(k:R (.ref A.length) (A++[.lst ((ksT T).map λo=>f (.str o))])):dFr (dComp none ix (iKeys (dVar j)) tt0 te) τ A R:=by
 have hz:(1000:Nat)≤sizeLine:=by decide
 have lk':(ksT T).length=T.length:=by simp[ksT]
 have em:((kvT T).map λp=>keyOf p.1)=(ksT T).map D.str:=kvT_items T
 have go:∀(A':Ar) (o:Obj) (R':DK),A'[t]? =some (.fdc o (kvT T))->R' (.ref A'.length) (A'++[.lst ((ksT T).map λo=>f (.str o))])->dComp none ix (iKeys (dVar j)) tt0 te τ A' R':=λA' o R' h' k'=>by
  unfold dComp iKeys dVar
  rw[hj]
  refine itk_ok h' ?_
  rw[em]
  refine cloop_map (f:=f) h' _ _ (λx hx=> ?_) (by simp[lk'];omega) ?_
  .obtain⟨n,hn,rfl⟩:=List.mem_map.mp hx
   exact⟨[.str n],rfl,λQ hQ=>hte A' n hn Q hQ⟩
  .rw[List.nil_append,List.map_map]
   exact k'
 rcases hT with h|⟨o,h⟩
 .have hlt:=lt_of_get h
  refine .inl ⟨t,kvT T,h,λo=>go _ o _ (List.getElem?_set_self hlt) ⟨kvT T,?_,?_⟩⟩
  .rw[List.getElem?_append_left (by simpa using hlt)]
   exact List.getElem?_set_self hlt
  .have e:(A.set t (.fdc o (kvT T))++[C.lst ((ksT T).map λo=>f (.str o))]).set t (.dct (kvT T))=A++[.lst ((ksT T).map λo=>f (.str o))]:=by
    rw[List.set_append_left _ _ (by simpa using hlt),List.set_set]
    congr 1
    refine List.ext_getElem? λi=> ?_
    by_cases hi:i=t
    .rw[hi,List.getElem?_set_self hlt,h]
    .rw[List.getElem?_set_ne (Ne.symm hi)]
   rw[e]
   have el:(A.set t (C.fdc o (kvT T))).length=A.length:=by simp
   rw[el]
   exact k
 .exact .inr (go A o R h k)
def SStp:Ct:=λds A R _=>∃r n Ts,ds=[.ref r,.str n]∧BPl A r Ts∧Ts.length≤7∧(∀T∈Ts,T.length≤32)∧∀A' q,Gr A A'->A'[q]? =some (.lst ((stF Ts n).map stD))->A.length≤q->R (.ref q) A'
theorem enm_len(ds:List D):(enm ds).length=ds.length:=by simp[enm]
theorem enm_at{ds:List D}{i:Nat}{x:D}(h:ds[i]? =some x):(enm ds)[i]? =some (.tup [.int ((i:Nat):Int),x]):=by
 unfold enm
 rw[List.getElem?_map,List.getElem?_zipIdx,h]
 simp
theorem zip_take{Ts:List Tb}{i:Nat}{T:Tb}(h:Ts[i]? =some T):Ts.zipIdx.take (i+1)=Ts.zipIdx.take i++[(T,i)]:=by
 rw[List.take_succ,List.getElem?_zipIdx,h]
 simp
theorem stG_len(n:Str)(p:Tb×Nat)(h:p.1.length≤32):(stG n p).length≤32:=by
 unfold stG
 split
 .simp[ksT];exact h
 .simp
theorem flat_len(n:Str):∀(l:List (Tb×Nat)),(∀p∈l,p.1.length≤32)->(l.flatMap (stG n)).length≤32*l.length
 |[],_=>by simp
 |p::l,h=>by
  have h1:=flat_len n l λq hq=>h q (List.mem_cons_of_mem _ hq)
  have h2:=stG_len n p (h p (List.mem_cons_self ..))
  rw[List.flatMap_cons,List.length_append,List.length_cons]
  omega
end DP
namespace My
open PySem PySem.Spec PyProof.Rows L2 DP MA
section
variable{P:Program}{w:World}{K:PySem.W.Frag}{mg:Str->Option Value}{base:Heap}
theorem f_stp(T:TopD K mg "steps_from" s_steps_from p_steps_from)(b_enumerate:mg "enumerate" =none):FnX P w K mg base 1 "steps_from" p_steps_from (spOf mg 2 SStp):=by
 refine fnD T sc_steps_from rfl (by decide) λN RE f cdv B outer s H E hr hR hx ds A R h hl=> ?_
 have hu:=hr.units
 have nd:=sc_steps_from.nd
 refine⟨_,(dss_cons (ds_set (i:=2) nd rfl (by first|exact Or.inl rfl|exact Or.inr rfl) (de_lst da_nil))
  (dss_cons (ds_for ownX rfl (di_enum b_enumerate (da_cons (vr 0) da_nil)) (dg_tup rfl (dgs_cons (dg_name (i:=3) nd rfl (by first|exact Or.inl rfl|exact Or.inr rfl)) (dgs_cons (dg_name (i:=4) nd rfl (by first|exact Or.inl rfl|exact Or.inr rfl)) dgs_nil))) (dss_one (ds_if (t_inK hu (vr 1) (vr 4)) (dss_one (ds_expr (de_mt PySem.F.plainAttrs_list PySem.F.slot_list_extend PySem.F.type_list_extend mt_extend d_ext (vr 2) (da_cons (de_fr (de_comp none (own:=["other"]) (frees:=["place","name"]) (ix:=[3,1]) rfl (di_keys (vr 4)) (λc=>(pg_name (i:=0) (show(["other","place","name"]:List Str).Nodup by decide+kernel) rfl (by first|exact Or.inl rfl|exact Or.inr rfl))) (λc=>(de_tup (da_cons (vr 1) (da_cons (vr 2) (da_cons (vr 0) da_nil))))))) da_nil)))) dss_nil)))
  (dss_one (ds_ret (vr 2))))),?_⟩
 obtain⟨r,n,Ts,rfl,hB,h7,h32,q⟩:=h
 obtain⟨ts,h1,h2⟩:=hB
 have hz:(1000:Nat)≤sizeLine:=by decide
 have lts:=h2.len
 have len:∀i,((Ts.zipIdx.take i).flatMap (stG n)).length≤224:=λi=>by
  have:=flat_len n (Ts.zipIdx.take i) λp hp=>by
   have:=List.mem_zipIdx_iff_getElem?.mp (List.mem_of_mem_take hp)
   exact h32 _ (List.mem_of_getElem? this)
  rw[List.length_take,List.length_zipIdx] at this
  omega
 refine⟨Nat.zero_le _,ite_ok (getElem?_push h1) ?_⟩
 refine dloop_I (λrest τ A'=>∃(i:Nat) (x y:Option D),i≤ts.length∧rest=(enm (ts.map D.ref)).drop i∧τ=[some (.ref r),some (.str n),some (.ref A.length),x,y]∧A'[A.length]? =some (.lst (((Ts.zipIdx.take i).flatMap (stG n)).map stD))∧Gr A A') ?_ ?_ ?_ _ _ _ ⟨0,none,none,Nat.zero_le _,rfl,rfl,last_get,Gr.push⟩
 .rintro rest τ A' ⟨i,x,y,_,_,_,_,g⟩
  exact g.get h1
 .rintro v rest τ A1 ⟨i,x,y,hi,e,rfl,hc,g⟩ Nx hN
  by_cases hlt:i<ts.length
  .obtain⟨t,ht⟩:∃t,ts[i]? =some t:=⟨ts[i],List.getElem?_eq_getElem hlt⟩
   obtain⟨T,hT,hA⟩:=h2.get ht
   have hA1:=hA.gr g
   have hlt':i<(enm (ts.map D.ref)).length:=by rw[enm_len,List.length_map];exact hlt
   have ev:=enm_at (ds:=ts.map D.ref) (i:=i) (x:= .ref t) (by rw[List.getElem?_map,ht];rfl)
   rw[List.drop_eq_getElem_cons hlt'] at e
   rw[List.getElem?_eq_getElem hlt'] at ev
   have ev:=Option.some.inj ev
   rw[ev] at e
   cases e
   have hst:∀L,L=stG n (T,i)->((Ts.zipIdx.take (i+1)).flatMap (stG n))=((Ts.zipIdx.take i).flatMap (stG n))++L:=λL hL=>by
    rw[zip_take hT,List.flatMap_append,hL]
    simp
   have ln:=len i
   refine⟨rfl,in2_ok hA1 rfl ?_⟩
   rw[if_neg Bool.false_ne_true,getK_in]
   refine cD (λc=> ?_) (λc=> ?_)
   .have eL:stG n (T,i)=(ksT T).map (λo=>(i,n,o)):=by unfold stG;rw[if_pos c]
    have l32:=h32 T (List.mem_of_getElem? hT)
    have lk':(ksT T).length=T.length:=by simp[ksT]
    refine⟨isL_of hc,fr_comp (λo=> .tup [.int ((i:Nat):Int),.str n,o]) rfl hA1 (by omega) (λA' o ho Q hQ=>⟨show 3≤sizeLine by omega,hQ⟩) ?_⟩
    refine ext_ok (getElem?_push hc) last_get (by rw[List.length_map,List.length_map,lk'];omega) ?_
    have em:((ksT T).map λo=>D.tup [.int ((i:Nat):Int),.str n,.str o])=(stG n (T,i)).map stD:=by
     rw[eL,List.map_map]
     rfl
    refine hN _ _ ⟨i+1,_,_,by omega,rfl,rfl,?_,(g.trans Gr.push).set (Nat.le_refl _)⟩
    rw[hst _ rfl,List.map_append,em]
    exact get_set (getElem?_push hc)
   .have eL:stG n (T,i)=[]:=by unfold stG;rw[if_neg c]
    refine hN _ _ ⟨i+1,_,_,by omega,rfl,rfl,?_,g⟩
    rw[hst _ rfl,eL,List.append_nil]
    exact hc
  .rw[List.drop_eq_nil_of_le (by rw[enm_len,List.length_map];omega)] at e
   cases e
 .rintro τ A1 ⟨i,x,y,hi,e,rfl,hc,g⟩
  have hi:i=ts.length:=by
   have:=congrArg List.length e
   simp[enm_len] at this
   omega
  rw[hi,lts,List.take_of_length_le (by rw[List.length_zipIdx];exact Nat.le_refl _)] at hc
  exact q _ _ g hc (Nat.le_refl _)
end
end My
namespace DP
open PySem PySem.Spec PyProof.Rows L2 MA
theorem lkP_app{P X:Pth}{n:Str}(h:n∈ksP P):lkP (P++X) n=lkP P n:=by
 have:=find_some (T:=P) (n:=n)
 rw[decide_eq_true (show n∈P.map (·.1) from h)] at this
 obtain⟨p,hp⟩:=Option.isSome_iff_exists.mp this
 unfold lkP
 rw[List.find?_append,hp]
 rfl
theorem lkP_new{P:Pth}{n:Str}{l:List Stp}(h:n∉ksP P):lkP (P++[(n,l)]) n=l:=by
 have:=find_some (T:=P) (n:=n)
 rw[decide_eq_false (show ¬n∈P.map (·.1) from h)] at this
 have e:P.find? (λp=>decide (p.1=n))=none:=by
  cases e:P.find? (λp=>decide (p.1=n)) with
  |none=>rfl
  |some p=>rw[e] at this;cases this
 unfold lkP
 rw[List.find?_append,e]
 simp
theorem lkP_mem{P:Pth}{n:Str}(h:n∈ksP P):(n,lkP P n)∈P:=by
 have:=find_some (T:=P) (n:=n)
 rw[decide_eq_true (show n∈P.map (·.1) from h)] at this
 obtain⟨p,hp⟩:=Option.isSome_iff_exists.mp this
 have h1:=List.mem_of_find?_eq_some hp
 have h2:=List.find?_some hp
 unfold lkP
 rw[hp]
 have h2:p.1=n:=of_decide_eq_true h2
 rw[←h2]
 exact h1
def PSt(b:Nat)(A:Ar)(P:Pth):Prop:=∃kvs,A[b+1]? =some (.dct kvs)∧A[b+2]? =some (.lst ((ksP P).map D.str))∧kvs.map (·.1)=(ksP P).map Sum.inr∧∀n∈ksP P,∃a,a≠b+2∧b≤a∧getK kvs (Sum.inr n)=some (.ref a)∧A[a]? =some (.lst ((lkP P n).map stD))
structure POk(P:Pth)(NN:List Str):Prop where
 nd:(ksP P).Nodup
 sub:∀n∈ksP P,n∈NN
 pl:∀p∈P,p.2.length+1≤P.length
theorem POk.len{P:Pth}{NN:List Str}(h:POk P NN):P.length≤NN.length:=by
 have:=nd_le (ksP P) NN h.nd h.sub
 simpa[ksP] using this
theorem POk.add{P:Pth}{NN:List Str}(h:POk P NN){s:Stp}(h1:s.2.1∈ksP P)(h2:s.2.2∈NN):POk (addS P s) NN:=by
 refine⟨addS_nd s h.nd,λn hn=> ?_,λp hp=> ?_⟩
 .rcases (addS_keys P s n).mp hn with h'|rfl
  .exact h.sub n h'
  .exact h2
 .unfold addS at hp ⊢
  split at hp
  .rename_i hc
   rw[if_pos hc]
   exact h.pl p hp
  .rename_i hc
   rw[if_neg hc,List.length_append]
   rcases List.mem_append.mp hp with hp|hp
   .have:=h.pl p hp
    simp
    omega
   .rw[List.mem_singleton.mp hp]
    have:=h.pl _ (lkP_mem h1)
    simp at this ⊢
    omega
def PthAt(lo:Nat)(A:Ar)(q:Nat)(P:Pth):Prop:=lo≤q∧∃kvs,A[q]? =some (.dct kvs)∧kvs.map (·.1)=(ksP P).map Sum.inr∧∀n∈ksP P,∃a,lo≤a∧getK kvs (Sum.inr n)=some (.ref a)∧A[a]? =some (.lst ((lkP P n).map stD))
theorem PthAt.gr{A B:Ar}{lo q:Nat}{P:Pth}(h:PthAt lo A q P)(g:Gr A B):PthAt lo B q P:=by
 obtain⟨h0,kvs,h1,h2,h3⟩:=h
 exact⟨h0,kvs,g.get h1,h2,λn hn=>by obtain⟨a,z,x,y⟩:=h3 n hn;exact⟨a,z,x,g.get y⟩⟩
theorem PthAt.set{A:Ar}{lo q t:Nat}{P:Pth}{c:C}(h:PthAt lo A q P)(ht:t<lo):PthAt lo (A.set t c) q P:=by
 obtain⟨h0,kvs,h1,h2,h3⟩:=h
 have sg:∀(j:Nat) (d:C),lo≤j->A[j]? =some d->(A.set t c)[j]? =some d:=λj d hj hd=>by
  rw[List.getElem?_set_ne (by omega)]
  exact hd
 exact⟨h0,kvs,sg _ _ h0 h1,h2,λn hn=>by obtain⟨a,z,x,y⟩:=h3 n hn;exact⟨a,z,x,sg _ _ z y⟩⟩
theorem PthAt.lo{A:Ar}{lo lo' q:Nat}{P:Pth}(h:PthAt lo A q P)(hl:lo'≤lo):PthAt lo' A q P:=by
 obtain⟨h0,kvs,h1,h2,h3⟩:=h
 exact⟨by omega,kvs,h1,h2,λn hn=>by obtain⟨a,z,x,y⟩:=h3 n hn;exact⟨a,by omega,x,y⟩⟩
theorem PSt.gr{A B:Ar}{b:Nat}{P:Pth}(h:PSt b A P)(g:Gr A B):PSt b B P:=by
 obtain⟨kvs,h1,h2,h3,h4⟩:=h
 exact⟨kvs,g.get h1,g.get h2,h3,λn hn=>by obtain⟨a,z,z2,x,y⟩:=h4 n hn;exact⟨a,z,z2,x,g.get y⟩⟩
theorem keys_get{kvs:List (Key×D)}{ns:List Str}{n:Str}(h:kvs.map (·.1)=ns.map Sum.inr):(getK kvs (Sum.inr n)).isSome=decide (n∈ns):=by
 induction kvs generalizing ns with
 |nil=>
  cases ns with
  |nil=>rfl
  |cons _ _=>cases h
 |cons p kvs ih=>
  cases ns with
  |nil=>cases h
  |cons m ns=>
   rw[List.map_cons,List.map_cons,List.cons.injEq] at h
   show(if p.1=Sum.inr n then some p.2 else getK kvs (Sum.inr n)).isSome=_
   rw[h.1]
   by_cases e:m=n
   .rw[if_pos (by rw[e])]
    simp[e]
   .rw[if_neg (λz=>e (Sum.inr.inj z)),ih h.2]
    simp[Ne.symm e]
theorem bfs_step{Ts:List Tb}{f i:Nat}{P:Pth}{p:Str×List Stp}(h:P[i]? =some p):bfs Ts (f+1) i P=bfs Ts f (i+1) ((stF Ts p.1).foldl addS P):=by
 show(match P[i]? with|some p=>bfs Ts f (i+1) ((stF Ts p.1).foldl addS P)|none=>P)=_
 rw[h]
theorem bfs_end{Ts:List Tb}{f i:Nat}{P:Pth}(h:P.length≤i):bfs Ts f i P=P:=by
 cases f with
 |zero=>rfl
 |succ f=>
  show(match P[i]? with|some p=>bfs Ts f (i+1) ((stF Ts p.1).foldl addS P)|none=>P)=_
  rw[List.getElem?_eq_none h]
def SPth:Ct:=λds A R _=>∃r n Ts NN,ds=[.ref r,.str n]∧BPl A r Ts∧HOk6 Ts NN∧n∈NN∧∀A' q,Gr A A'->PthAt A.length A' q (pathsF Ts n)->R (.ref q) A'
theorem set_get{A:Ar}{i j:Nat}{c d:C}(hij:i≠j)(h:A[j]? =some d):(A.set i c)[j]? =some d:=by
 rw[List.getElem?_set_ne hij]
 exact h
theorem set_self{A:Ar}{i:Nat}{c d:C}(h:A[i]? =some d):(A.set i c)[i]? =some c:=List.getElem?_set_self (lt_of_get h)
theorem keys_put{kvs:List (Key×D)}{ns:List Str}{n:Str}{v:D}(h:kvs.map (·.1)=ns.map Sum.inr)(hn:n∉ns):(putG kvs (Sum.inr n) v).map (·.1)=(ns++[n]).map Sum.inr:=by
 rw[put_new (λp hp z=> ?_)]
 .simp[h]
 .have:p.1∈kvs.map (·.1):=List.mem_map_of_mem hp
  rw[h,z] at this
  obtain⟨m,hm,e⟩:=List.mem_map.mp this
  rw[←Sum.inr.inj e] at hn
  exact hn hm
end DP
namespace My
open PySem PySem.Spec PyProof.Rows L2 DP MA
section
variable{P:Program}{w:World}{K:PySem.W.Frag}{mg:Str->Option Value}{base:Heap}
theorem f_pth(T:TopD K mg "paths_from" s_paths_from p_paths_from)(b_len:mg "len" =none)(F_steps_from:FnX P w K mg base 1 "steps_from" p_steps_from (spOf mg 2 SStp)):FnX P w K mg base 2 "paths_from" p_paths_from (spOf mg 2 SPth):=by
 refine fnD T sc_paths_from rfl (by decide) λN RE f cdv B outer s H E hr hR hx ds A R h hl=> ?_
 have hu:=hr.units
 have nd:=sc_paths_from.nd
 refine⟨_,(dss_cons (ds_set (i:=2) nd rfl (by first|exact Or.inl rfl|exact Or.inr rfl) (de_disp (vr 1) (de_lst da_nil)))
  (dss_cons (ds_set (i:=3) nd rfl (by first|exact Or.inl rfl|exact Or.inr rfl) (de_lst (da_cons (vr 1) da_nil)))
  (dss_cons (ds_set (i:=4) nd rfl (by first|exact Or.inl rfl|exact Or.inr rfl) de_int)
  (dss_cons (ds_while ownX (t_lt (vr 4) (de_cb c_len d_len b_len PySem.boot_len (da_cons (vr 3) da_nil))) (dss_cons (ds_for ownX rfl (di_seq (de_call F_steps_from (hr.mono (by omega)) hx (da_cons (vr 0) (da_cons (de_ix hu (vr 3) (vr 4) (λ_ _=>rfl)) da_nil)))) (dg_name (i:=5) nd rfl (by first|exact Or.inl rfl|exact Or.inr rfl)) (dss_one (ds_if (t_nin hu (de_ix hu (vr 5) de_int (λ_ _=>rfl)) (vr 2)) (dss_cons (ds_put hu (vr 2) (de_ix hu (vr 5) de_int (λ_ _=>rfl)) (de_add (de_ix hu (vr 2) (de_ix hu (vr 5) de_int (λ_ _=>rfl)) (λ_ _=>rfl)) (de_lst (da_cons (vr 5) da_nil))) rfl)
  (dss_one (ds_expr (de_mt PySem.F.plainAttrs_list PySem.F.slot_list_append PySem.F.type_list_append mt_append d_app (vr 3) (da_cons (de_ix hu (vr 5) de_int (λ_ _=>rfl)) da_nil))))) dss_nil)))
  (dss_one (ds_aug (i:=4) nd rfl (by first|exact Or.inl rfl|exact Or.inr rfl) de_int))))
  (dss_one (ds_ret (vr 2))))))),?_⟩
 obtain⟨r,n,Ts,NN,rfl,hB,hok,hn,q⟩:=h
 have hz:(1000:Nat)≤sizeLine:=by decide
 have e1:(A++[C.lst []]).length=A.length+1:=by simp
 have e2:(A++[C.lst []]++[C.dct [(Sum.inr n,D.ref A.length)]]).length=A.length+2:=by simp
 refine⟨Nat.zero_le _,show 1≤sizeLine by omega,?_⟩
 have hS0:PSt A.length (A++[C.lst []]++[C.dct [(Sum.inr n,D.ref A.length)]]++[C.lst [D.str n]]) [(n,[])]:=by
  refine⟨[(Sum.inr n,D.ref A.length)],?_,?_,rfl,λm hm=>⟨A.length,by omega,Nat.le_refl _,?_,?_⟩⟩
  .rw[←e1];exact getElem?_push last_get
  .rw[←e2];exact last_get
  .have:m=n:=by simpa[ksP] using hm
   subst this
   exact if_pos rfl
  .have:m=n:=by simpa[ksP] using hm
   subst this
   have e:lkP [(m,[])] m=[]:=by simp[lkP]
   rw[e]
   exact getElem?_push (getElem?_push last_get)
 refine⟨λk τ A'=>∃(i:Nat) (Q:Pth) (x:Option D),k=13 - i∧τ=[some (.ref r),some (.str n),some (.ref (A++[C.lst []]).length),some (.ref (A++[C.lst []]++[C.dct [(Sum.inr n,D.ref A.length)]]).length),some (.int ((i:Nat):Int)),x]∧i≤Q.length∧PSt A.length A' Q∧POk Q NN∧bfs Ts (14 - i) i Q=pathsF Ts n∧Gr A A',⟨13,0,[(n,[])],none,rfl,rfl,by simp,hS0,⟨by simp[ksP],λm hm=>by
   have:m=n:=by simpa[ksP] using hm
   rw[this];exact hn,λp hp=>by
   have:p=(n,[]):=by simpa using hp
   rw[this];simp⟩,rfl,((Gr.push.trans Gr.push).trans Gr.push)⟩,?_⟩
 rw[e1,e2]
 rintro k τ A1 ⟨i,Q,x,rfl,rfl,hi,hS,hP,hb,g1⟩
 have l12:Q.length≤12:=Nat.le_trans hP.len hok.nn
 obtain⟨kvs0,hd0,hr0,hk0,hv0⟩:=id hS
 refine len_ok hr0 ?_
 have lk0:((ksP Q).map D.str).length=Q.length:=by simp[ksP]
 refine cD (λc=> ?_) (λc=> ?_)
 .rw[lk0] at c
  have c:i<Q.length:=by omega
  obtain⟨p,hp⟩:∃p,Q[i]? =some p:=⟨Q[i],List.getElem?_eq_getElem c⟩
  have hpn:p.1∈ksP Q:=List.mem_map_of_mem (List.mem_of_getElem? hp)
  refine⟨λτ A'=>∃(Q':Pth) (x:Option D),τ=[some (.ref r),some (.str n),some (.ref (A.length+1)),some (.ref (A.length+2)),some (.int ((i+1:Nat):Int)),x]∧i+1≤Q'.length∧PSt A.length A' Q'∧POk Q' NN∧bfs Ts (14 - (i+1)) (i+1) Q'=pathsF Ts n∧Gr A A',λτ' A' ⟨Q',x,h1,h2,h3,h4,h5,h6⟩=>⟨13 - (i+1),by omega,i+1,Q',x,rfl,h1,h2,h3,h4,h5,h6⟩,?_⟩
  refine ix_ok hr0 (v:= .str p.1) (atI_nat (by rw[List.getElem?_map];unfold ksP;rw[List.getElem?_map,hp];rfl)) ?_
  refine⟨rfl,r,p.1,Ts,rfl,hB.gr g1,hok.len,λT hT=>(hok.tok T hT).len,λA2 q2 g2 h2 l2=> ?_⟩
  have gl:=g1.len
  have lr:=lt_of_get hr0
  refine it_ok h2 ?_
  refine dloop_I (λrest τ A'=>∃(dn more:List Stp) (x:Option D),rest=more.map stD∧dn++more=stF Ts p.1∧τ=[some (.ref r),some (.str n),some (.ref (A.length+1)),some (.ref (A.length+2)),some (.int ((i:Nat):Int)),x]∧PSt A.length A' (dn.foldl addS Q)∧POk (dn.foldl addS Q) NN∧A'[q2]? =some (.lst ((stF Ts p.1).map stD))∧Gr A A') ?_ ?_ ?_ _ _ _ ⟨[],stF Ts p.1,x,rfl,rfl,rfl,hS.gr g2,hP,h2,g1.trans g2⟩
  .rintro rest τ A' ⟨dn,more,x,_,_,_,_,_,h,_⟩
   exact h
  .rintro v rest τ A3 ⟨dn,more,x,e,hdm,rfl,hS3,hP3,h3,g3⟩ Nx hN
   cases more with
   |nil=>cases e
   |cons st more=>
   cases e
   have hst:st∈stF Ts p.1:=by rw[←hdm];simp
   obtain⟨T,hT,hn1,hn2,hn3⟩:=mem_stF.mp hst
   obtain⟨kvs,hd,hrc,hk,hv⟩:=id hS3
   have efold:(dn++[st]).foldl addS Q=addS (dn.foldl addS Q) st:=by rw[List.foldl_append];rfl
   generalize hQ3:dn.foldl addS Q=Q3 at*
   have s21:st.2.1∈ksP Q3:=by
    rw[←hQ3,foldS_keys,hn2]
    exact .inl hpn
   have s22:st.2.2∈NN:=hok.sub T (List.mem_of_getElem? hT) _ hn3
   have l3:Q3.length≤12:=Nat.le_trans hP3.len hok.nn
   refine ind_ok hd rfl ?_
   rw[if_pos rfl,keys_get hk]
   refine cN (λc2=> ?_) (λc2=> ?_)
   .obtain⟨a1,na,na2,ga,ha⟩:=hv _ s21
    refine ixd_ok hd rfl ga ?_
    have hpl:=hP3.pl _ (lkP_mem s21)
    simp at hpl
    refine⟨show 1≤sizeLine by omega,cat_ok (getElem?_push ha) last_get (by simp;omega) ?_⟩
    have lkv:kvs.length=Q3.length:=by
     have:=congrArg List.length hk
     simpa[ksP] using this
    refine put_ok (getElem?_push (getElem?_push hd)) rfl (by omega) ?_
    have hrc2:=getElem?_push (T:=[C.lst ((lkP Q3 st.2.1).map stD++[stD st])]) (getElem?_push (T:=[C.lst [stD st]]) hrc)
    have hd2:=getElem?_push (T:=[C.lst ((lkP Q3 st.2.1).map stD++[stD st])]) (getElem?_push (T:=[C.lst [stD st]]) hd)
    have hrc3:=set_get (i:=A.length+1) (c:=C.dct (putG kvs (Sum.inr st.2.2) (D.ref (A3++[C.lst [stD st]]).length))) (by omega) hrc2
    refine⟨isL_of hrc3,app_ok hrc3 (by simp[ksP];omega) ?_⟩
    have q2l:A1.length≤q2:=l2
    have nq:A.length+2≠q2:=by omega
    have nq1:A.length+1≠q2:=by omega
    have ea:addS Q3 st=Q3++[(st.2.2,lkP Q3 st.2.1++[st])]:=by unfold addS;rw[if_neg c2]
    have ek:ksP (addS Q3 st)=ksP Q3++[st.2.2]:=by rw[ea];simp[ksP]
    refine hN _ _ ⟨dn++[st],more,_,rfl,by simpa using hdm,rfl,?_,?_,?_,?_⟩
    .rw[efold]
     refine⟨_,set_get (by omega) (set_self hd2),?_,?_,λm hm=> ?_⟩
     .rw[ek,List.map_append]
      exact set_self hrc3
     .rw[ek]
      exact keys_put hk c2
     .rw[ek] at hm
      have la:(A3++[C.lst [stD st]]).length=A3.length+1:=by simp
      have lt3:=lt_of_get hrc
      rcases List.mem_append.mp hm with hm|hm
      .obtain⟨a,na',na2',ga',ha'⟩:=hv m hm
       have hne:¬(Sum.inr st.2.2:Key)=Sum.inr m:=λz=>c2 (by rw[Sum.inr.inj z];exact hm)
       refine⟨a,na',na2',by rw[getK_put,if_neg hne];exact ga',?_⟩
       rw[ea,lkP_app hm]
       have hd':A.length+1≠a:=λz=>by rw[←z,hd] at ha';cases ha'
       exact set_get (Ne.symm na') (set_get hd' (getElem?_push (getElem?_push ha')))
      .have hm:m=st.2.2:=by simpa using hm
       subst hm
       refine⟨(A3++[C.lst [stD st]]).length,by omega,by omega,by rw[getK_put,if_pos rfl],?_⟩
       rw[ea,lkP_new c2,List.map_append]
       exact set_get (by omega) (set_get (by omega) last_get)
    .rw[efold]
     exact hP3.add s21 s22
    .exact set_get nq (set_get nq1 (getElem?_push (getElem?_push h3)))
    .exact((((g3.trans Gr.push).trans Gr.push).set (by omega)).set (by omega))
   .have ea:addS Q3 st=Q3:=by unfold addS;rw[if_pos c2]
    refine hN _ _ ⟨dn++[st],more,_,rfl,by simpa using hdm,rfl,?_,?_,h3,g3⟩
    .rw[efold,ea];exact hS3
    .rw[efold,ea];exact hP3
  .rintro τ A3 ⟨dn,more,x,e,hdm,rfl,hS3,hP3,h3,g3⟩
   cases more with
   |cons _ _=>cases e
   |nil=>
   have hdm:dn=stF Ts p.1:=by simpa using hdm
   subst hdm
   refine⟨_,x,by rfl,?_,hS3,hP3,?_,g3⟩
   .obtain⟨X,e⟩:=foldS_pre (stF Ts p.1) Q
    rw[e,List.length_append]
    omega
   .rw[←hb,show 14 - i=(14 - (i+1))+1 by omega,bfs_step hp]
 .rw[lk0] at c
  have c:Q.length≤i:=by omega
  rw[bfs_end c] at hb
  rw[←hb] at q
  refine q A1 _ g1 ⟨by omega,kvs0,hd0,hk0,λm hm=> ?_⟩
  obtain⟨a,_,z,x,y⟩:=hv0 m hm
  exact⟨a,z,x,y⟩
end
end My
namespace DP
open PySem PySem.Spec PyProof.Rows L2 MA
end DP
namespace My
open PySem PySem.Spec PyProof.Rows L2 DP MA
section
variable{P:Program}{w:World}{K:PySem.W.Frag}{mg:Str->Option Value}{base:Heap}
end
end My
namespace DP
open PySem PySem.Spec PyProof.Rows L2 MA
end DP
namespace My
open PySem PySem.Spec PyProof.Rows L2 DP MA
section
variable{P:Program}{w:World}{K:PySem.W.Frag}{mg:Str->Option Value}{base:Heap}
end
end My
namespace DP
open PySem PySem.Spec PyProof.Rows L2 MA
end DP
namespace My
open PySem PySem.Spec PyProof.Rows L2 DP MA
section
variable{P:Program}{w:World}{K:PySem.W.Frag}{mg:Str->Option Value}{base:Heap}
end
end My
namespace DP
open PySem PySem.Spec PyProof.Rows L2 MA
theorem gr_thaw{A A2:Ar}{r:Nat}{o:Obj}{kvs:List (Key×D)}(h:A[r]? =some (.dct kvs))(g:Gr (A.set r (.fdc o kvs)) A2):A2[r]? =some (.fdc o kvs)∧Gr A (A2.set r (.dct kvs)):=by
 obtain⟨T,rfl⟩:=g
 have hl:=(List.getElem?_eq_some_iff.mp h).1
 refine⟨by rw[List.getElem?_append_left (by simpa using hl),List.getElem?_set_self hl],T,?_⟩
 rw[List.set_append_left _ _ (by simpa using hl),List.set_set]
 congr 1
 apply List.ext_getElem?
 intro i
 by_cases e:i=r
 .subst e;rw[List.getElem?_set_self hl,h]
 .rw[List.getElem?_set_ne (Ne.symm e)]
end DP
namespace My
open PySem PySem.Spec PyProof.Rows L2 DP MA
section
variable{P:Program}{w:World}{K:PySem.W.Frag}{mg:Str->Option Value}{base:Heap}
end
end My
namespace DP
open PySem PySem.Spec PyProof.Rows L2 MA
def ksG(Gs:List Pth):List Str:=Gs.flatMap ksP
def grpS(Ts:List Tb)(Gs:List Pth)(n:Str):List Pth:=if n∈ksG Gs then Gs else Gs++[pathsF Ts n]
def grpF(Ts:List Tb):List Pth:=(Ts.flatMap ksT).foldl (grpS Ts) []
def PthsAt(lo:Nat)(A:Ar):List Nat->List Pth->Prop
 |[],[]=>True
 |q::qs,P::Ps=>PthAt lo A q P∧PthsAt lo A qs Ps
 |_,_=>False
theorem PthsAt.mapP{lo lo':Nat}{A B:Ar}(f:∀q P,PthAt lo A q P->PthAt lo' B q P):∀{qs:List Nat} {Ps:List Pth},PthsAt lo A qs Ps->PthsAt lo' B qs Ps
 |[],[],_=>trivial
 |q::qs,P::Ps,h=>⟨f q P h.1,PthsAt.mapP f h.2⟩
 |[],_::_,h=>h.elim
 |_::_,[],h=>h.elim
theorem PthsAt.snoc{lo:Nat}{A:Ar}{q:Nat}{P:Pth}(hq:PthAt lo A q P):∀{qs:List Nat} {Ps:List Pth},PthsAt lo A qs Ps->PthsAt lo A (qs++[q]) (Ps++[P])
 |[],[],_=>⟨hq,trivial⟩
 |_::qs,_::Ps,h=>⟨h.1,PthsAt.snoc hq h.2⟩
 |[],_::_,h=>h.elim
 |_::_,[],h=>h.elim
theorem PthsAt.len{lo:Nat}{A:Ar}:∀{qs:List Nat} {Ps:List Pth},PthsAt lo A qs Ps->qs.length=Ps.length
 |[],[],_=>rfl
 |q::qs,P::Ps,h=>by simp[PthsAt.len h.2]
 |[],_::_,h=>h.elim
 |_::_,[],h=>h.elim
def GrpsAt(lo:Nat)(A:Ar)(q:Nat)(Gs:List Pth):Prop:=lo≤q∧∃gs,A[q]? =some (.lst (gs.map D.ref))∧PthsAt lo A gs Gs
def GSt(b:Nat)(NN:List Str)(A:Ar)(Gs:List Pth):Prop:=∃(gs:List Nat) (kvs:List (Key×D)) (ns:List Str),A[b]? =some (.lst (gs.map D.ref))∧PthsAt (b+2) A gs Gs∧A[b+1]? =some (.dct kvs)∧kvs.map (·.1)=ns.map Sum.inr∧ns.Nodup∧(∀n,n∈ns↔n∈ksG Gs)∧∀n∈ns,n∈NN
theorem GSt.set{b t:Nat}{NN:List Str}{A:Ar}{Gs:List Pth}{c:C}(h:GSt b NN A Gs)(ht:t<b):GSt b NN (A.set t c) Gs:=by
 obtain⟨gs,kvs,ns,h1,h2,h3,h4⟩:=h
 exact⟨gs,kvs,ns,set_get (by omega) h1,h2.mapP λq P z=>z.set (by omega),set_get (by omega) h3,h4⟩
theorem kvs_ps{kvs:List (Key×D)}{ns:List Str}(h:kvs.map (·.1)=ns.map Sum.inr):∃ps:List (Str×D),kvs=ps.map (λp=>((Sum.inr p.1:Key),p.2))∧ps.map (·.1)=ns:=by
 induction kvs generalizing ns with
 |nil=>
  cases ns with
  |nil=>exact⟨[],rfl,rfl⟩
  |cons _ _=>cases h
 |cons p kvs ih=>
  cases ns with
  |nil=>cases h
  |cons m ns=>
   rw[List.map_cons,List.map_cons,List.cons.injEq] at h
   obtain⟨ps,e1,e2⟩:=ih h.2
   exact⟨(m,p.2)::ps,by rw[List.map_cons,←e1,←h.1],by rw[List.map_cons,e2]⟩
theorem mrg_keys{kvs more:List (Key×D)}{ns ms:List Str}(h1:kvs.map (·.1)=ns.map Sum.inr)(h2:more.map (·.1)=ms.map Sum.inr)(hn:ns.Nodup):∃ns':List Str,(mrgG kvs more).map (·.1)=ns'.map Sum.inr∧ns'.Nodup∧∀n,n∈ns'↔n∈ns∨n∈ms:=by
 obtain⟨ps,e1,e2⟩:=kvs_ps h2
 obtain⟨ns',k1,k2,k3⟩:=fold_put ps kvs ns h1 hn
 refine⟨ns',?_,k2,λn=>by rw[k3,e2]⟩
 unfold mrgG
 rw[e1]
 exact k1
theorem bfs_ok{Ts:List Tb}{NN:List Str}(hok:HOk6 Ts NN):∀(f i:Nat) (P:Pth),POk P NN->POk (bfs Ts f i P) NN∧∃X,bfs Ts f i P=P++X
 |0,i,P,h=>⟨h,[],by simp[bfs]⟩
 |f+1,i,P,h=>by
  cases e:P[i]? with
  |none=>
   have:bfs Ts (f+1) i P=P:=by
    show(match P[i]? with|some p=>bfs Ts f (i+1) ((stF Ts p.1).foldl addS P)|none=>P)=_
    rw[e]
   rw[this]
   exact⟨h,[],by simp⟩
  |some p=>
   rw[bfs_step e]
   have key:∀(ss:List Stp) (Q:Pth),(∀s∈ss,s∈stF Ts p.1)->POk Q NN->p.1∈ksP Q->POk (ss.foldl addS Q) NN:=by
    intro ss
    induction ss with
    |nil=>intro Q _ h _;exact h
    |cons s ss ih=>
     intro Q hs hQ hp
     obtain⟨T,hT,_,e2,e3⟩:=mem_stF.mp (hs s (List.mem_cons_self ..))
     refine ih _ (λx hx=>hs x (List.mem_cons_of_mem _ hx)) (hQ.add (by rw[e2];exact hp) (hok.sub T (List.mem_of_getElem? hT) _ e3)) ?_
     exact(addS_keys Q s p.1).mpr (.inl hp)
   have hp:p.1∈ksP P:=List.mem_map_of_mem (List.mem_of_getElem? e)
   obtain⟨h1,X,h2⟩:=bfs_ok hok f (i+1) _ (key (stF Ts p.1) P (λs h=>h) h hp)
   obtain⟨Y,h3⟩:=foldS_pre (stF Ts p.1) P
   exact⟨h1,Y++X,by rw[h2,h3,List.append_assoc]⟩
theorem pathsF_ok{Ts:List Tb}{NN:List Str}(hok:HOk6 Ts NN){n:Str}(hn:n∈NN):POk (pathsF Ts n) NN∧n∈ksP (pathsF Ts n)∧lkP (pathsF Ts n) n=[]:=by
 have h0:POk [(n,[])] NN:=⟨by simp[ksP],λm hm=>by
  have:m=n:=by simpa[ksP] using hm
  rw[this];exact hn,λp hp=>by
  have:p=(n,[]):=by simpa using hp
  rw[this];simp⟩
 obtain⟨h1,X,h2⟩:=bfs_ok hok 14 0 _ h0
 have hk:n∈ksP [(n,([]:List Stp))]:=by simp[ksP]
 refine⟨h1,?_,?_⟩
 .show n∈ksP (bfs Ts 14 0 [(n,[])])
  rw[h2]
  simp[ksP]
 .show lkP (bfs Ts 14 0 [(n,[])]) n=[]
  rw[h2,lkP_app hk]
  simp[lkP]
theorem grpS_keys{Ts:List Tb}{NN:List Str}(hok:HOk6 Ts NN){Gs:List Pth}{n:Str}(hn:n∈NN):n∈ksG (grpS Ts Gs n)∧∀m∈ksG Gs,m∈ksG (grpS Ts Gs n):=by
 unfold grpS
 split
 .rename_i h
  exact⟨h,λ_ h=>h⟩
 .unfold ksG
  rw[List.flatMap_append]
  refine⟨List.mem_append_right _ ?_,λm hm=>List.mem_append_left _ hm⟩
  simp
  exact(pathsF_ok hok hn).2.1
theorem grpL_keys{Ts:List Tb}{NN:List Str}(hok:HOk6 Ts NN):∀(ns:List Str) (Gs:List Pth),(∀n∈ns,n∈NN)->(∀n∈ns,n∈ksG (ns.foldl (grpS Ts) Gs))∧∀m∈ksG Gs,m∈ksG (ns.foldl (grpS Ts) Gs)
 |[],Gs,_=>⟨(λ_ h=>by cases h),λ_ h=>h⟩
 |n::ns,Gs,h=>by
  obtain⟨k1,k2⟩:=grpS_keys hok (Gs:=Gs) (h n (List.mem_cons_self ..))
  obtain⟨j1,j2⟩:=grpL_keys hok ns (grpS Ts Gs n) λm hm=>h m (List.mem_cons_of_mem _ hm)
  refine⟨λm hm=> ?_,λm hm=>j2 m (k2 m hm)⟩
  rcases List.mem_cons.mp hm with rfl|hm
  .exact j2 _ k1
  .exact j1 m hm
theorem grpF_all{Ts:List Tb}{NN:List Str}(hok:HOk6 Ts NN){T:Tb}(hT:T∈Ts){n:Str}(hn:n∈ksT T):n∈ksG (grpF Ts):=by
 refine(grpL_keys hok (Ts.flatMap ksT) [] λm hm=> ?_).1 n (List.mem_flatMap.mpr ⟨T,hT,hn⟩)
 obtain⟨T',h1,h2⟩:=List.mem_flatMap.mp hm
 exact hok.sub T' h1 m h2
theorem grp_len(Ts:List Tb):∀(ns:List Str) (Gs:List Pth),(ns.foldl (grpS Ts) Gs).length≤Gs.length+ns.length
 |[],Gs=>Nat.le_refl _
 |n::ns,Gs=>by
  have h:=grp_len Ts ns (grpS Ts Gs n)
  have h2:(grpS Ts Gs n).length≤Gs.length+1:=by
   unfold grpS
   split
   .omega
   .simp
  rw[List.foldl_cons,List.length_cons]
  omega
theorem names_len:∀(Ts:List Tb),(∀T∈Ts,T.length≤32)->(Ts.flatMap ksT).length≤32*Ts.length
 |[],_=>by simp
 |T::Ts,h=>by
  have h1:=names_len Ts λq hq=>h q (List.mem_cons_of_mem _ hq)
  have h2:=h T (List.mem_cons_self ..)
  have e:(ksT T).length=T.length:=by simp[ksT]
  rw[List.flatMap_cons,List.length_append,List.length_cons]
  omega
def SGrp:Ct:=λds A R _=>∃r Ts NN,ds=[.ref r]∧BPl A r Ts∧HOk6 Ts NN∧∀A' q,Gr A A'->GrpsAt A.length A' q (grpF Ts)->R (.ref q) A'
theorem TabsAt.fz{A:Ar}{t:Nat}{o:Obj}{T0:Tb}(h0:A[t]? =some (.dct (kvT T0))):∀{ts:List Nat} {Ts:List Tb},TabsAt A ts Ts->TabsAt (A.set t (.fdc o (kvT T0))) ts Ts
 |[],[],_=>trivial
 |q::qs,T::Ts,h=>by
  refine⟨?_,TabsAt.fz h0 h.2⟩
  by_cases e:t=q
  .subst e
   rcases h.1 with h'|⟨o',h'⟩
   .rw[h0] at h'
    have e2:kvT T0=kvT T:=by
     have h':=Option.some.inj h'
     injection h'
    exact .inr ⟨o,by rw[List.getElem?_set_self (lt_of_get h0),e2]⟩
   .rw[h0] at h'
    cases h'
  .rcases h.1 with h'|⟨o',h'⟩
   .exact .inl (set_get e h')
   .exact .inr ⟨o',set_get e h'⟩
 |[],_::_,h=>h.elim
 |_::_,[],h=>h.elim
end DP
namespace My
open PySem PySem.Spec PyProof.Rows L2 DP MA
section
variable{P:Program}{w:World}{K:PySem.W.Frag}{mg:Str->Option Value}{base:Heap}
theorem f_grp(T:TopD K mg "groups" s_groups p_groups)(F_paths_from:FnX P w K mg base 2 "paths_from" p_paths_from (spOf mg 2 SPth)):FnX P w K mg base 3 "groups" p_groups (spOf mg 1 SGrp):=by
 refine fnD T sc_groups rfl (by decide) λN RE f cdv B outer s H E hr hR hx ds A R h hl=> ?_
 have hu:=hr.units
 have nd:=sc_groups.nd
 refine⟨_,(dss_cons (ds_set (i:=1) nd rfl (by first|exact Or.inl rfl|exact Or.inr rfl) (de_lst da_nil))
  (dss_cons (ds_set (i:=2) nd rfl (by first|exact Or.inl rfl|exact Or.inr rfl) de_dnew)
  (dss_cons (ds_for ownX rfl (di_seq (vr 0)) (dg_name (i:=3) nd rfl (by first|exact Or.inl rfl|exact Or.inr rfl)) (dss_one (ds_fr (ds_for ownX rfl (di_keys (vr 3)) (dg_name (i:=4) nd rfl (by first|exact Or.inl rfl|exact Or.inr rfl)) (dss_one (ds_if (t_nin hu (vr 4) (vr 2)) (dss_cons (ds_set (i:=5) nd rfl (by first|exact Or.inl rfl|exact Or.inr rfl) (de_call F_paths_from (hr.mono (by omega)) hx (da_cons (vr 0) (da_cons (vr 4) da_nil))))
  (dss_cons (ds_expr (de_mtD PySem.F.plainAttrs_dict PySem.F.slot_dict_update PySem.F.type_dict_update mt_upd d_upd (vr 2) (da_cons (vr 5) da_nil)))
  (dss_one (ds_expr (de_mt PySem.F.plainAttrs_list PySem.F.slot_list_append PySem.F.type_list_append mt_append d_app (vr 1) (da_cons (vr 5) da_nil)))))) dss_nil))))))
  (dss_one (ds_ret (vr 1)))))),?_⟩
 obtain⟨r,Ts,NN,rfl,hB,hok,q⟩:=h
 obtain⟨ts,h1,h2⟩:=id hB
 have hz:(1000:Nat)≤sizeLine:=by decide
 have e1:(A++[C.lst []]).length=A.length+1:=by simp
 have g0:Gr A (A++[C.lst []]++[C.dct []]):=Gr.push.trans Gr.push
 refine⟨Nat.zero_le _,it_ok (g0.get h1) ?_⟩
 rw[e1]
 have hS0:GSt A.length NN (A++[C.lst []]++[C.dct []]) []:=⟨[],[],[],getElem?_push last_get,trivial,by rw[←e1];exact last_get,rfl,List.nodup_nil,λn=>by simp[ksG],λn h=>by cases h⟩
 refine dloop_I (λrest τ A'=>∃(i:Nat) (x y z:Option D),i≤ts.length∧rest=(ts.map D.ref).drop i∧τ=[some (.ref r),some (.ref A.length),some (.ref (A.length+1)),x,y,z]∧GSt A.length NN A' (((Ts.take i).flatMap ksT).foldl (grpS Ts) [])∧Gr A A') ?_ ?_ ?_ _ _ _ ⟨0,none,none,none,Nat.zero_le _,rfl,rfl,hS0,g0⟩
 .rintro rest τ A' ⟨i,x,y,z,_,_,_,_,g⟩
  exact g.get h1
 .rintro v rest τ A1 ⟨i,x,y,z,hi,e,rfl,hS,g⟩ Nx hN
  by_cases hlt:i<ts.length
  .obtain⟨t,ht⟩:∃t,ts[i]? =some t:=⟨ts[i],List.getElem?_eq_getElem hlt⟩
   obtain⟨T0,hT,hA⟩:=h2.get ht
   have hA1:=hA.gr g
   have hlt':i<(ts.map D.ref).length:=by rw[List.length_map];exact hlt
   have ev:(ts.map D.ref)[i]? =some (.ref t):=by rw[List.getElem?_map,ht];rfl
   rw[List.drop_eq_getElem_cons hlt'] at e
   rw[List.getElem?_eq_getElem hlt'] at ev
   have ev:=Option.some.inj ev
   rw[ev] at e
   cases e
   have htm:T0∈Ts:=List.mem_of_getElem? hT
   have tl:t<A.length:=by
    rcases hA with h'|⟨_,h'⟩
    .exact lt_of_get h'
    .exact lt_of_get h'
   have etk:(Ts.take (i+1)).flatMap ksT=(Ts.take i).flatMap ksT++ksT T0:=by
    rw[List.take_succ,hT,List.flatMap_append]
    simp
   obtain⟨G0,hG0⟩:∃G,G=((Ts.take i).flatMap ksT).foldl (grpS Ts) []:=⟨_,rfl⟩
   have efin:((Ts.take (i+1)).flatMap ksT).foldl (grpS Ts) []=(ksT T0).foldl (grpS Ts) G0:=by rw[etk,List.foldl_append,hG0]
   rw[←hG0] at hS
   have em:((kvT T0).map λp=>keyOf p.1)=(ksT T0).map D.str:=kvT_items T0
   have go:∀(o:Obj) (B0 B1:Ar) (Dn:DEnds),B0.length=A.length->B0[t]? =some (.fdc o (kvT T0))->BPl B0 r Ts->Gr B0 B1->GSt A.length NN B1 G0->(∀(B2:Ar) (y z:Option D),GSt A.length NN B2 ((ksT T0).foldl (grpS Ts) G0)->Gr B0 B2->Dn.nx [some (.ref r),some (.ref A.length),some (.ref (A.length+1)),some (.ref t),y,z] B2)->
     sFor (iKeys (dVar 3)) (gN 4) (sIf (dTest (dOp (inD true) (dVar 4) (dVar 2))) (sSeq (sSet 5 (dCall 2 SPth RE (dCons (dVar 0) (dCons (dVar 4) dNil)))) (sSeq (sExpr (dMtD updD (dVar 2) (dCons (dVar 5) dNil))) (sExpr (dMt appD (dVar 1) (dCons (dVar 5) dNil))))) sNext) Dn [some (.ref r),some (.ref A.length),some (.ref (A.length+1)),some (.ref t),y,z] B1:=λo B0 B1 Dn hl0 hf hB0 g1 hS1 fin=>by
    refine itk_ok (g1.get hf) ?_
    rw[em]
    refine dloop_I (λrest τ B'=>∃(dn more:List Str) (y z:Option D),rest=more.map D.str∧dn++more=ksT T0∧τ=[some (.ref r),some (.ref A.length),some (.ref (A.length+1)),some (.ref t),y,z]∧GSt A.length NN B' (dn.foldl (grpS Ts) G0)∧Gr B0 B') ?_ ?_ ?_ _ _ _ ⟨[],ksT T0,y,z,rfl,rfl,rfl,hS1,g1⟩
    .rintro rest τ B' ⟨_,_,_,_,_,_,_,_,g'⟩
     exact g'.get hf
    .rintro v rest τ B' ⟨dn,more,y,z,e,hdm,rfl,hS',g'⟩ Nx' hN'
     cases more with
     |nil=>cases e
     |cons n more=>
     cases e
     have hnT:n∈ksT T0:=by rw[←hdm];simp
     have hnN:n∈NN:=hok.sub T0 htm n hnT
     have efold:(dn++[n]).foldl (grpS Ts) G0=grpS Ts (dn.foldl (grpS Ts) G0) n:=by rw[List.foldl_append];rfl
     generalize hG3:dn.foldl (grpS Ts) G0=G3 at*
     obtain⟨gs,kvs,ns,k1,k2,k3,k4,k5,k6,k7⟩:=id hS'
     refine ind_ok k3 rfl ?_
     rw[if_pos rfl,keys_get k4]
     refine cN (λc=> ?_) (λc=> ?_)
     .have hng:n∉ksG G3:=λz=>c ((k6 n).mpr z)
      obtain⟨pok,_,_⟩:=pathsF_ok hok hnN
      refine⟨rfl,r,n,Ts,NN,rfl,hB0.gr g',hok,hnN,λB2 q2 g2 h2=> ?_⟩
      obtain⟨lq,more2,m1,m2,m3⟩:=id h2
      have lB:=lt_of_get k3
      have ln:ns.length≤12:=Nat.le_trans (nd_le ns NN k5 k7) hok.nn
      have lk1:kvs.length=ns.length:=by
       have:=congrArg List.length k4
       simpa using this
      have lk2:more2.length=(pathsF Ts n).length:=by
       have:=congrArg List.length m2
       simpa[ksP] using this
      have lP:=pok.len
      have nn12:=hok.nn
      refine⟨isDc_of (g2.get k3),upd_ok (g2.get k3) m1 (by omega) (by omega) ?_⟩
      have hb:=set_get (i:=A.length+1) (j:=A.length) (c:=C.dct (mrgG kvs more2)) (by omega) (g2.get k1)
      have lgs:=k2.len
      refine⟨isL_of hb,app_ok hb ?_ ?_⟩
      .rw[List.length_map,lgs]
       have l1:=grp_len Ts dn G0
       have l2:=grp_len Ts ((Ts.take i).flatMap ksT) []
       have l3:=names_len (Ts.take i) λT' hT'=>(hok.tok T' (List.mem_of_mem_take hT')).len
       have l4:dn.length≤32:=by
        have h1:=congrArg List.length hdm
        have h2:=(hok.tok T0 htm).len
        have e:(ksT T0).length=T0.length:=by simp[ksT]
        rw[List.length_append] at h1
        omega
       rw[List.length_take] at l3
       have h7:=hok.len
       rw[hG3] at l1
       rw[←hG0] at l2
       rw[List.length_nil,Nat.zero_add] at l2
       omega
      obtain⟨ns',j1,j2,j3⟩:=mrg_keys k4 m2 k5
      have eg:grpS Ts G3 n=G3++[pathsF Ts n]:=by unfold grpS;rw[if_neg hng]
      refine hN' _ _ ⟨dn++[n],more,_,_,rfl,by simpa using hdm,rfl,?_,?_⟩
      .rw[efold,eg]
       refine⟨gs++[q2],_,ns',?_,?_,set_get (by omega) (set_self (g2.get k3)),j1,j2,λm=> ?_,λm hm=> ?_⟩
       .rw[List.map_append]
        exact set_self hb
       .refine PthsAt.snoc ?_ (k2.mapP λq P z=>((z.gr g2).set (by omega)).set (by omega))
        exact((h2.lo (by omega)).set (by omega)).set (by omega)
       .rw[j3,k6]
        simp[ksG]
       .rcases (j3 m).mp hm with h'|h'
        .exact k7 m h'
        .exact pok.sub m h'
      .exact(((g'.trans g2).set (by omega)).set (by omega))
     .have hng:n∈ksG G3:=(k6 n).mp c
      have eg:grpS Ts G3 n=G3:=by unfold grpS;rw[if_pos hng]
      refine hN' _ _ ⟨dn++[n],more,_,_,rfl,by simpa using hdm,rfl,?_,g'⟩
      rw[efold,eg]
      exact hS'
    .rintro τ B' ⟨dn,more,y,z,e,hdm,rfl,hS',g'⟩
     cases more with
     |cons _ _=>cases e
     |nil=>
     have hdm:dn=ksT T0:=by simpa using hdm
     subst hdm
     exact fin B' y z hS' g'
   rcases hA with hd|⟨o,hd⟩
   .refine .inl ⟨t,kvT T0,g.get hd,λo=> ?_⟩
    have eset:A1.set t (.fdc o (kvT T0))=A1.set t (.fdc o (kvT T0)):=rfl
    have gset:Gr (A.set t (.fdc o (kvT T0))) (A1.set t (.fdc o (kvT T0))):=by
     obtain⟨X,rfl⟩:=g
     exact⟨X,by rw[List.set_append_left _ _ tl]⟩
    refine go o (A.set t (.fdc o (kvT T0))) _ _ (by simp) (List.getElem?_set_self tl) ⟨ts,?_,h2.fz hd⟩ gset (hS.set tl) λB2 y z hS2 g2=> ?_
    .have:t≠r:=λz=>by rw[z,h1] at hd;cases hd
     exact set_get this h1
    .obtain⟨u1,u2⟩:=gr_thaw hd g2
     refine⟨kvT T0,u1,hN _ _ ⟨i+1,_,_,_,by omega,rfl,rfl,?_,u2⟩⟩
     rw[efin]
     exact hS2.set tl
   .refine .inr (go o A _ _ rfl hd hB g hS λB2 y z hS2 g2=>hN _ _ ⟨i+1,_,_,_,by omega,rfl,rfl,?_,g2⟩)
    rw[efin]
    exact hS2
  .rw[List.drop_eq_nil_of_le (by rw[List.length_map];omega)] at e
   cases e
 .rintro τ A1 ⟨i,x,y,z,hi,e,rfl,hS,g⟩
  have hi:i=ts.length:=by
   have:=congrArg List.length e
   simp at this
   omega
  have lts:=h2.len
  rw[hi,lts,List.take_length] at hS
  obtain⟨gs,kvs,ns,k1,k2,_⟩:=hS
  exact q _ _ g ⟨Nat.le_refl _,gs,k1,k2.mapP λq P z=>z.lo (by omega)⟩
end
end My
namespace DP
open PySem PySem.Spec PyProof.Rows L2 MA
def bwd(ss:List Stp):List Stp:=ss.reverse.map λs=>(s.1,s.2.2,s.2.1)
noncomputable def shI(Ts:List Tb)(i:Nat)(n:Str):Rat:=match Ts[i]? with
 |some T=>shT T n
 |none=>0
noncomputable def spR(Ts:List Tb)(s:Stp):Rat:=shI Ts s.1 s.2.2/shI Ts s.1 s.2.1
noncomputable def cmF(Ts:List Tb)(ss:List Stp):Rat:=ss.foldl (λx s=>x*spR Ts s) 1
def StpOk(Ts:List Tb)(s:Stp):Prop:=∃T,Ts[s.1]? =some T∧s.2.1∈ksT T∧s.2.2∈ksT T
theorem shI_at{Ts:List Tb}{i:Nat}{T:Tb}(h:Ts[i]? =some T)(n:Str):shI Ts i n=shT T n:=by
 unfold shI
 rw[h]
theorem rf_div_le{a b:Int}(ha:0<a)(hb:0<b):(rf ((a:Rat)/(b:Rat))).1≤a∧(rf ((a:Rat)/(b:Rat))).2≤b:=by
 rw[←rf_red hb]
 exact⟨Int.ediv_le_self _ (Int.le_of_lt ha),Int.ediv_le_self _ (Int.le_of_lt hb)⟩
theorem rf_mul_le{x y:Rat}(hx:0<x)(hy:0<y):(rf (x*y)).1≤(rf x).1*(rf y).1:=by
 rw[←rf_mul2]
 exact(rf_div_le (Int.mul_pos (num_pos hx) (num_pos hy)) (Int.mul_pos (rf_pos x) (rf_pos y))).1
theorem div_as{x y:Rat}(hx:0<x)(hy:0<y):x/y=(((rf x).1*(rf y).2:Int):Rat)/(((rf x).2*(rf y).1:Int):Rat):=by
 have h1:=cast_ne (Int.ne_of_gt (rf_pos x))
 have h2:=cast_ne (Int.ne_of_gt (rf_pos y))
 have h3:=cast_ne (Int.ne_of_gt (num_pos hy))
 conv=>lhs;rw[←rf_val x,←rf_val y]
 rw[Rat.intCast_mul,Rat.intCast_mul]
 grind
theorem spR_ok{Ts:List Tb}{s:Stp}(ht:∀T∈Ts,TOk T)(h:StpOk Ts s):0<spR Ts s∧(rf (spR Ts s)).1≤4000000000000∧(rf (spR Ts s)).2≤4000000000000:=by
 obtain⟨T,h1,h2,h3⟩:=h
 have hT:=ht T (List.mem_of_getElem? h1)
 have f2:=shT_fok hT h2
 have f3:=shT_fok hT h3
 unfold spR
 rw[shI_at h1,shI_at h1]
 have p2:=num_pos f2.pos
 have p3:=num_pos f3.pos
 have d2:=rf_pos (shT T s.2.1)
 have d3:=rf_pos (shT T s.2.2)
 have hpos:0<shT T s.2.2/shT T s.2.1:=by
  rw[Rat.div_def]
  exact Rat.mul_pos f3.pos (Rat.inv_pos.mpr f2.pos)
 refine⟨hpos,?_⟩
 rw[div_as f3.pos f2.pos]
 obtain⟨k1,k2⟩:=rf_div_le (Int.mul_pos p3 d2) (Int.mul_pos d3 p2)
 have m1:(rf (shT T s.2.2)).1*(rf (shT T s.2.1)).2≤2000000*2000000:=Int.mul_le_mul f3.num f2.den (Int.le_of_lt d2) (by decide)
 have m2:(rf (shT T s.2.2)).2*(rf (shT T s.2.1)).1≤2000000*2000000:=Int.mul_le_mul f3.den f2.num (Int.le_of_lt p2) (by decide)
 exact⟨by omega,by omega⟩
theorem cm_ok{Ts:List Tb}(ht:∀T∈Ts,TOk T):∀(ss:List Stp) (x:Rat) (k:Nat),(∀s∈ss,StpOk Ts s)->0<x->(rf x).1≤(4000000000000:Int) ^ k->0<ss.foldl (λx s=>x*spR Ts s) x∧(rf (ss.foldl (λx s=>x*spR Ts s) x)).1≤(4000000000000:Int) ^ (k+ss.length)
 |[],x,k,_,h1,h2=>⟨h1,h2⟩
 |s::ss,x,k,hs,h1,h2=>by
  obtain⟨p,q,_⟩:=spR_ok ht (hs s (List.mem_cons_self ..))
  have hx:(rf (x*spR Ts s)).1≤(4000000000000:Int) ^ (k+1):=by
   refine Int.le_trans (rf_mul_le h1 p) ?_
   rw[Int.pow_succ]
   exact Int.mul_le_mul h2 q (Int.le_of_lt (num_pos p)) (Int.pow_nonneg (by decide))
  have:=cm_ok ht ss (x*spR Ts s) (k+1) (λy hy=>hs y (List.mem_cons_of_mem _ hy)) (Rat.mul_pos h1 p) hx
  rw[List.foldl_cons,List.length_cons,show k+(ss.length+1)=k+1+ss.length by omega]
  exact this
theorem cmF_ok{Ts:List Tb}(ht:∀T∈Ts,TOk T){ss:List Stp}(hs:∀s∈ss,StpOk Ts s):0<cmF Ts ss∧(rf (cmF Ts ss)).1≤(4000000000000:Int) ^ ss.length:=by
 have:=cm_ok ht ss 1 0 hs (by decide) (by rw[rf_one];decide)
 rw[Nat.zero_add] at this
 exact this
theorem cmF_snoc(Ts:List Tb)(ss:List Stp)(s:Stp):cmF Ts (ss++[s])=cmF Ts ss*spR Ts s:=by
 unfold cmF
 rw[List.foldl_append]
 rfl
theorem ixT_ok{A:Ar}{t:Nat}{T:Tb}{n:Str}{R:DK}(h:TabAt A t T)(hn:n∈ksT T)(k:R (fq (shT T n)) A):ixR t (.str n) A R:=by
 rcases h with h|⟨o,h⟩
 .exact ixd_ok h rfl (getK_sh hn) k
 .exact ixf_ok h rfl (getK_sh hn) k
def SBw:Ct:=λds A R _=>∃q ss,ds=[.ref q]∧A[q]? =some (.lst (ss.map stD))∧ss.length≤100∧∀A' p,Gr A A'->A'[p]? =some (.lst ((bwd ss).map stD))->A.length≤p->R (.ref p) A'
def SCm:Ct:=λds A R _=>∃r q Ts ss,ds=[.ref r,.ref q]∧BPl A r Ts∧(∀T∈Ts,TOk T)∧A[q]? =some (.lst (ss.map stD))∧(∀s∈ss,StpOk Ts s)∧ss.length≤40∧∀A',Gr A A'->R (fq (cmF Ts ss)) A'
theorem pow_2000N{c k:Nat}(h:c ^ (k+1)<2 ^ 2000):(c:Int) ^ k*(c:Int)<2 ^ 2000:=by
 have e:(c:Int) ^ k*(c:Int)=((c ^ (k+1):Nat):Int):=by rw[Int.natCast_pow,Int.pow_succ]
 rw[e]
 have h2:((2 ^ 2000:Nat):Int)=(2:Int) ^ 2000:=Int.natCast_pow 2 2000
 rw[←h2]
 exact Int.ofNat_lt.mpr h
theorem pow_2000{k:Nat}(h:k≤40):(4000000000000:Int) ^ k*4000000000000<2 ^ 2000:=
 pow_2000N (c:=4000000000000) (Nat.lt_of_le_of_lt (Nat.pow_le_pow_right (by decide) (show k+1≤41 by omega)) (by decide+kernel))
noncomputable def mnT(T:Tb):Str:=open Classical in if h:∃m,m∈ksT T∧∀n∈ksT T,¬n.cps.toList<m.cps.toList then Classical.choose h else default
theorem mn_is{T:Tb}{m:Str}(h1:m∈ksT T)(h2:∀n∈ksT T,¬n.cps.toList<m.cps.toList):mnT T=m:=by
 have h:∃m,m∈ksT T∧∀n∈ksT T,¬n.cps.toList<m.cps.toList:=⟨m,h1,h2⟩
 have e:mnT T=Classical.choose h:=by unfold mnT;rw[dif_pos h]
 obtain⟨k1,k2⟩:=Classical.choose_spec h
 rw[e]
 generalize Classical.choose h=x at k1 k2
 have a:=h2 x k1
 have b:=k2 m h1
 have e2:x.cps.toList=m.cps.toList:=List.le_antisymm (List.not_lt.mp b) (List.not_lt.mp a)
 obtain⟨⟨x⟩⟩:=x
 obtain⟨⟨m⟩⟩:=m
 simp at e2
 rw[e2]
noncomputable def clG(p:Tb×Nat):List Stp:=(ksT p.1).map (λo=>(p.2,mnT p.1,o))
noncomputable def clF(Ts:List Tb):List Stp:=Ts.zipIdx.flatMap clG
def SCls:Ct:=λds A R _=>∃r Ts,ds=[.ref r]∧BPl A r Ts∧Ts.length≤7∧(∀T∈Ts,TOk T)∧∀A' q,Gr A A'->A'[q]? =some (.lst ((clF Ts).map stD))->A.length≤q->R (.ref q) A'
theorem cl_len:∀(l:List (Tb×Nat)),(∀p∈l,p.1.length≤32)->(l.flatMap clG).length≤32*l.length
 |[],_=>by simp
 |p::l,h=>by
  have h1:=cl_len l λq hq=>h q (List.mem_cons_of_mem _ hq)
  have h2:(clG p).length≤32:=by
   unfold clG
   rw[List.length_map]
   have:=h p (List.mem_cons_self ..)
   simpa[ksT] using this
  rw[List.flatMap_cons,List.length_append,List.length_cons]
  omega
end DP
namespace My
open PySem PySem.Spec PyProof.Rows L2 DP MA
section
variable{P:Program}{w:World}{K:PySem.W.Frag}{mg:Str->Option Value}{base:Heap}
theorem f_bw(T:TopD K mg "backward" s_backward p_backward)(b_reversed:mg "reversed" =none):FnX P w K mg base 1 "backward" p_backward (spOf mg 1 SBw):=by
 refine fnD T sc_backward rfl (by decide) λN RE f cdv B outer s H E hr hR hx ds A R h hl=> ?_
 have hu:=hr.units
 have nd:=sc_backward.nd
 refine⟨_,(dss_one (ds_ret (de_comp (some 3) (own:=["place","one","other"]) (frees:=[]) (ix:=[]) rfl (di_rev b_reversed (da_cons (vr 0) da_nil)) (λc=>(pg_tup rfl (pgs_cons (pg_name (i:=0) (show(["place","one","other"]:List Str).Nodup by decide+kernel) rfl (by first|exact Or.inl rfl|exact Or.inr rfl)) (pgs_cons (pg_name (i:=1) (show(["place","one","other"]:List Str).Nodup by decide+kernel) rfl (by first|exact Or.inl rfl|exact Or.inr rfl)) (pgs_cons (pg_name (i:=2) (show(["place","one","other"]:List Str).Nodup by decide+kernel) rfl (by first|exact Or.inl rfl|exact Or.inr rfl)) pgs_nil))))) (λc=>(de_tup (da_cons (vr 0) (da_cons (vr 2) (da_cons (vr 1) da_nil)))))))),?_⟩
 obtain⟨q0,ss,rfl,h1,hlen,q⟩:=h
 have hz:(1000:Nat)≤sizeLine:=by decide
 refine ite_ok h1 ?_
 refine cloop_map (f:=λd=>match d with| .tup [a,b,c]=> .tup [a,c,b]|d=>d) h1 _ _ (λd hd=> ?_) (by simp;omega) ?_
 .rw[List.mem_reverse] at hd
  obtain⟨st,_,rfl⟩:=List.mem_map.mp hd
  exact⟨[.int ((st.1:Nat):Int),.str st.2.1,.str st.2.2],rfl,λQ hQ=>⟨show 3≤sizeLine by omega,hQ⟩⟩
 have e:((ss.map stD).reverse.map λd=>match d with| .tup [a,b,c]=>D.tup [a,c,b]|d=>d)=(bwd ss).map stD:=by
  unfold bwd
  rw[←List.map_reverse,List.map_map,List.map_map]
  rfl
 rw[List.nil_append,e]
 exact q _ _ Gr.push last_get (Nat.le_refl _)
theorem f_cm(T:TopD K mg "comes_to" s_comes_to p_comes_to)(F_product:FnX P w K mg base 3 "product" p_product (spOf mg 2 SProd))(F_quotient:FnX P w K mg base 3 "quotient" p_quotient (spOf mg 2 (λds A R E=>∃a b c d:Int,ds=[.tup [.int a,.int b],.tup [.int c,.int d]]∧SProd [.tup [.int a,.int b],.tup [.int d,.int c]] A R E))):FnX P w K mg base 4 "comes_to" p_comes_to (spOf mg 2 SCm):=by
 refine fnD T sc_comes_to rfl (by decide) λN RE f cdv B outer s H E hr hR hx ds A R h hl=> ?_
 have hu:=hr.units
 have nd:=sc_comes_to.nd
 refine⟨_,(dss_cons (ds_set (i:=2) nd rfl (by first|exact Or.inl rfl|exact Or.inr rfl) (de_tup (da_cons de_int (da_cons de_int da_nil))))
  (dss_cons (ds_for ownX rfl (di_seq (vr 1)) (dg_tup rfl (dgs_cons (dg_name (i:=3) nd rfl (by first|exact Or.inl rfl|exact Or.inr rfl)) (dgs_cons (dg_name (i:=4) nd rfl (by first|exact Or.inl rfl|exact Or.inr rfl)) (dgs_cons (dg_name (i:=5) nd rfl (by first|exact Or.inl rfl|exact Or.inr rfl)) dgs_nil)))) (dss_one (ds_set (i:=2) nd rfl (by first|exact Or.inl rfl|exact Or.inr rfl) (de_call F_product (hr.mono (by omega)) hx (da_cons (vr 2) (da_cons (de_call F_quotient (hr.mono (by omega)) hx (da_cons (de_ix hu (de_ix hu (vr 0) (vr 3) (λ_ _=>rfl)) (vr 5) (λ_ _=>rfl)) (da_cons (de_ix hu (de_ix hu (vr 0) (vr 3) (λ_ _=>rfl)) (vr 4) (λ_ _=>rfl)) da_nil))) da_nil))))))
  (dss_one (ds_ret (vr 2))))),?_⟩
 obtain⟨r,q0,Ts,ss,rfl,hB,ht,h1,hs,hlen,q⟩:=h
 obtain⟨ts,hb1,hb2⟩:=hB
 have hz:(1000:Nat)≤sizeLine:=by decide
 refine⟨show 2≤sizeLine by omega,it_ok h1 ?_⟩
 refine dloop_I (λrest τ A'=>∃(dn more:List Stp) (x y z:Option D),rest=more.map stD∧dn++more=ss∧τ=[some (.ref r),some (.ref q0),some (fq (cmF Ts dn)),x,y,z]∧Gr A A') ?_ ?_ ?_ _ _ _ ⟨[],ss,none,none,none,rfl,rfl,rfl,Gr.refl⟩
 .rintro rest τ A' ⟨_,_,_,_,_,_,_,_,g⟩
  exact g.get h1
 .rintro v rest τ A1 ⟨dn,more,x,y,z,e,hdm,rfl,g⟩ Nx hN
  cases more with
  |nil=>cases e
  |cons st more=>
  cases e
  have hst:=hs st (by rw[←hdm];simp)
  have hdn:∀s∈dn,StpOk Ts s:=λs h=>hs s (by rw[←hdm];simp[h])
  obtain⟨c1,c2⟩:=cmF_ok ht hdn
  obtain⟨d1,d2,d3⟩:=spR_ok ht hst
  have ldn:dn.length≤40:=by
   have:=congrArg List.length hdm
   simp at this
   omega
  obtain⟨T0,hT,m1,m2⟩:=hst
  have tlt:st.1<ts.length:=by rw[hb2.len];exact(List.getElem?_eq_some_iff.mp hT).1
  obtain⟨t,htt⟩:∃t,ts[st.1]? =some t:=⟨ts[st.1],List.getElem?_eq_getElem tlt⟩
  obtain⟨T1,hT1,hA⟩:=hb2.get htt
  rw[hT] at hT1
  cases hT1
  have hA1:=hA.gr g
  have at1:atI (ts.map D.ref) ((st.1:Nat):Int)=some (.ref t):=atI_nat (by rw[List.getElem?_map,htt];rfl)
  have hTok:=ht T0 (List.mem_of_getElem? hT)
  have f1:=shT_fok hTok m1
  have f2:=shT_fok hTok m2
  have p1:=num_pos f1.pos
  have p2:=num_pos f2.pos
  have e1:=rf_pos (shT T0 st.2.1)
  have e2:=rf_pos (shT T0 st.2.2)
  have b64:(2000000:Int)<2 ^ 64:=by decide
  have n1:=f1.num
  have n2:=f2.num
  have k1:=f1.den
  have k2:=f2.den
  refine⟨rfl,ix_ok (g.get hb1) at1 (ixT_ok hA1 m2 (ix_ok (g.get hb1) at1 (ixT_ok hA1 m1 ?_)))⟩
  refine⟨rfl,_,_,_,_,rfl,_,_,_,_,rfl,p2,e2,e1,p1,by omega,by omega,?_,λA2 g2=> ?_⟩
  .have:(rf (shT T0 st.2.2)).1*(rf (shT T0 st.2.1)).2≤2000000*2000000:=Int.mul_le_mul n2 k1 (Int.le_of_lt e1) (by decide)
   exact Int.lt_of_le_of_lt (show _≤(4000000000000:Int) ^ 0*4000000000000 by rw[Int.pow_zero];omega) (pow_2000 (by decide))
  have eq:((rf (shT T0 st.2.2)).1:Rat)/((rf (shT T0 st.2.2)).2:Rat)*(((rf (shT T0 st.2.1)).2:Rat)/((rf (shT T0 st.2.1)).1:Rat))=spR Ts st:=by
   unfold spR
   rw[shI_at hT,shI_at hT,←mul_div e2 p1,←div_as f2.pos f1.pos]
  rw[eq]
  refine⟨rfl,_,_,_,_,rfl,num_pos c1,rf_pos _,num_pos d1,rf_pos _,by omega,by omega,?_,λA3 g3=> ?_⟩
  .refine Int.lt_of_le_of_lt ?_ (pow_2000 ldn)
   exact Int.mul_le_mul c2 d2 (Int.le_of_lt (num_pos d1)) (Int.pow_nonneg (by decide))
  rw[rf_val,rf_val]
  exact hN _ _ ⟨dn++[st],more,_,_,_,rfl,by simpa using hdm,by rw[cmF_snoc];rfl,(g.trans g2).trans g3⟩
 .rintro τ A1 ⟨dn,more,x,y,z,e,hdm,rfl,g⟩
  cases more with
  |cons _ _=>cases e
  |nil=>
  have hdm:dn=ss:=by simpa using hdm
  subst hdm
  exact q _ g
theorem f_cls(T:TopD K mg "closing_steps" s_closing_steps p_closing_steps)(b_enumerate:mg "enumerate" =none)(b_min:mg "min" =none):FnX P w K mg base 1 "closing_steps" p_closing_steps (spOf mg 1 SCls):=by
 refine fnD T sc_closing_steps rfl (by decide) λN RE f cdv B outer s H E hr hR hx ds A R h hl=> ?_
 have hu:=hr.units
 have nd:=sc_closing_steps.nd
 refine⟨_,(dss_cons (ds_set (i:=1) nd rfl (by first|exact Or.inl rfl|exact Or.inr rfl) (de_lst da_nil))
  (dss_cons (ds_for ownX rfl (di_enum b_enumerate (da_cons (vr 0) da_nil)) (dg_tup rfl (dgs_cons (dg_name (i:=2) nd rfl (by first|exact Or.inl rfl|exact Or.inr rfl)) (dgs_cons (dg_name (i:=3) nd rfl (by first|exact Or.inl rfl|exact Or.inr rfl)) dgs_nil))) (dss_cons (ds_set (i:=4) nd rfl (by first|exact Or.inl rfl|exact Or.inr rfl) (de_cb (call_minD rfl) d_minD b_min boot_min (da_cons (vr 3) da_nil)))
  (dss_one (ds_expr (de_mt PySem.F.plainAttrs_list PySem.F.slot_list_extend PySem.F.type_list_extend mt_extend d_ext (vr 1) (da_cons (de_fr (de_comp none (own:=["other"]) (frees:=["place","first"]) (ix:=[2,4]) rfl (di_keys (vr 3)) (λc=>(pg_name (i:=0) (show(["other","place","first"]:List Str).Nodup by decide+kernel) rfl (by first|exact Or.inl rfl|exact Or.inr rfl))) (λc=>(de_tup (da_cons (vr 1) (da_cons (vr 2) (da_cons (vr 0) da_nil))))))) da_nil))))))
  (dss_one (ds_ret (vr 1))))),?_⟩
 obtain⟨r,Ts,rfl,hB,h7,htok,q⟩:=h
 obtain⟨ts,h1,h2⟩:=hB
 have hz:(1000:Nat)≤sizeLine:=by decide
 have lts:=h2.len
 have h32:∀T∈Ts,T.length≤32:=λT hT=>(htok T hT).len
 have len:∀i,((Ts.zipIdx.take i).flatMap clG).length≤224:=λi=>by
  have:=cl_len (Ts.zipIdx.take i) λp hp=>by
   have:=List.mem_zipIdx_iff_getElem?.mp (List.mem_of_mem_take hp)
   exact h32 _ (List.mem_of_getElem? this)
  rw[List.length_take,List.length_zipIdx] at this
  omega
 refine⟨Nat.zero_le _,ite_ok (getElem?_push h1) ?_⟩
 refine dloop_I (λrest τ A'=>∃(i:Nat) (x y z:Option D),i≤ts.length∧rest=(enm (ts.map D.ref)).drop i∧τ=[some (.ref r),some (.ref A.length),x,y,z]∧A'[A.length]? =some (.lst (((Ts.zipIdx.take i).flatMap clG).map stD))∧Gr A A') ?_ ?_ ?_ _ _ _ ⟨0,none,none,none,Nat.zero_le _,rfl,rfl,last_get,Gr.push⟩
 .rintro rest τ A' ⟨i,x,y,z,_,_,_,_,g⟩
  exact g.get h1
 .rintro v rest τ A1 ⟨i,x,y,z,hi,e,rfl,hc,g⟩ Nx hN
  by_cases hlt:i<ts.length
  .obtain⟨t,ht⟩:∃t,ts[i]? =some t:=⟨ts[i],List.getElem?_eq_getElem hlt⟩
   obtain⟨T0,hT,hA⟩:=h2.get ht
   have hA1:=hA.gr g
   have hlt':i<(enm (ts.map D.ref)).length:=by rw[enm_len,List.length_map];exact hlt
   have ev:=enm_at (ds:=ts.map D.ref) (i:=i) (x:= .ref t) (by rw[List.getElem?_map,ht];rfl)
   rw[List.drop_eq_getElem_cons hlt'] at e
   rw[List.getElem?_eq_getElem hlt'] at ev
   have ev:=Option.some.inj ev
   rw[ev] at e
   cases e
   have hTok:=htok T0 (List.mem_of_getElem? hT)
   have hst:((Ts.zipIdx.take (i+1)).flatMap clG)=((Ts.zipIdx.take i).flatMap clG)++clG (T0,i):=by
    rw[zip_take hT,List.flatMap_append]
    simp
   have ln:=len i
   have hne:ksT T0≠[]:=λz=>hTok.ne (by simpa[ksT] using z)
   have l32:=hTok.len
   have lk':(ksT T0).length=T0.length:=by simp[ksT]
   refine⟨rfl,min_ok hA1 (kvT_keys T0) hne λm hm hmin=> ?_⟩
   have emn:=mn_is hm hmin
   refine⟨isL_of hc,fr_comp (λo=> .tup [.int ((i:Nat):Int),.str m,o]) rfl hA1 (by omega) (λA' o ho Q hQ=>⟨show 3≤sizeLine by omega,hQ⟩) ?_⟩
   refine ext_ok (getElem?_push hc) last_get (by rw[List.length_map,List.length_map,lk'];omega) ?_
   have em:((ksT T0).map λo=>D.tup [.int ((i:Nat):Int),.str m,.str o])=(clG (T0,i)).map stD:=by
    unfold clG
    rw[List.map_map,emn]
    rfl
   refine hN _ _ ⟨i+1,_,_,_,by omega,rfl,rfl,?_,(g.trans Gr.push).set (Nat.le_refl _)⟩
   rw[hst,List.map_append,em]
   exact get_set (getElem?_push hc)
  .rw[List.drop_eq_nil_of_le (by rw[enm_len,List.length_map];omega)] at e
   cases e
 .rintro τ A1 ⟨i,x,y,z,hi,e,rfl,hc,g⟩
  have hi:i=ts.length:=by
   have:=congrArg List.length e
   simp[enm_len] at this
   omega
  rw[hi,lts,List.take_of_length_le (by rw[List.length_zipIdx];exact Nat.le_refl _)] at hc
  exact q _ _ g hc (Nat.le_refl _)
end
end My
namespace DP
open PySem PySem.Spec PyProof.Rows L2 MA
def lkA(Gs:List Pth)(n:Str):List Stp:=Gs.foldl (λacc P=>if n∈ksP P then lkP P n else acc) []
theorem lkA_snoc(Gs:List Pth)(P:Pth)(n:Str):lkA (Gs++[P]) n=if n∈ksP P then lkP P n else lkA Gs n:=by
 unfold lkA
 rw[List.foldl_append]
 rfl
noncomputable def rgS(Ts:List Tb)(s:Stp):List Stp:=lkA (grpF Ts) s.2.1++[s]++bwd (lkA (grpF Ts) s.2.2)
noncomputable def rgF(Ts:List Tb):Option (List Stp):=((clF Ts).map (rgS Ts)).find? (λss=> !decide (cmF Ts ss=1))
theorem PthsAt.get{lo:Nat}{A:Ar}:∀{qs:List Nat} {Ps:List Pth} {i q:Nat},PthsAt lo A qs Ps->qs[i]? =some q->∃P,Ps[i]? =some P∧PthAt lo A q P
 |[],[],i,t,_,e=>by simp at e
 |t::ts,T::Ts,0,_,h,e=>by
  simp at e
  subst e
  exact⟨T,rfl,h.1⟩
 |t::ts,T::Ts,i+1,_,h,e=>by
  obtain⟨T',h1,h2⟩:=PthsAt.get (i:=i) h.2 (by simpa using e)
  exact⟨T',by simpa using h1,h2⟩
 |[],_::_,_,_,h,_=>h.elim
 |_::_,[],_,_,h,_=>h.elim
theorem grpL_mem{Ts:List Tb}:∀(ns:List Str) (Gs:List Pth) (P:Pth),P∈ns.foldl (grpS Ts) Gs->P∈Gs∨∃n∈ns,P=pathsF Ts n
 |[],Gs,P,h=> .inl h
 |n::ns,Gs,P,h=>by
  rcases grpL_mem ns (grpS Ts Gs n) P h with h|⟨m,h1,h2⟩
  .unfold grpS at h
   split at h
   .exact .inl h
   .rcases List.mem_append.mp h with h|h
    .exact .inl h
    .exact .inr ⟨n,List.mem_cons_self ..,List.mem_singleton.mp h⟩
  .exact .inr ⟨m,List.mem_cons_of_mem _ h1,h2⟩
theorem grpF_mem{Ts:List Tb}{NN:List Str}(hok:HOk6 Ts NN){P:Pth}(h:P∈grpF Ts):∃n∈NN,(∃T∈Ts,n∈ksT T)∧P=pathsF Ts n:=by
 rcases grpL_mem _ _ P h with h|⟨n,h1,h2⟩
 .cases h
 .obtain⟨T,hT,hn⟩:=List.mem_flatMap.mp h1
  exact⟨n,hok.sub T hT n hn,⟨T,hT,hn⟩,h2⟩
theorem bfs_steps{Ts:List Tb}:∀(f i:Nat) (P:Pth),(∀p∈P,∀s∈p.2,StpOk Ts s)->∀p∈bfs Ts f i P,∀s∈p.2,StpOk Ts s
 |0,i,P,h=>h
 |f+1,i,P,h=>by
  cases e:P[i]? with
  |none=>
   have:bfs Ts (f+1) i P=P:=by
    show(match P[i]? with|some p=>bfs Ts f (i+1) ((stF Ts p.1).foldl addS P)|none=>P)=_
    rw[e]
   rw[this]
   exact h
  |some p0=>
   rw[bfs_step e]
   refine bfs_steps f (i+1) _ ?_
   have key:∀(ss:List Stp) (Q:Pth),(∀s∈ss,s∈stF Ts p0.1)->(∀p∈Q,∀s∈p.2,StpOk Ts s)->∀p∈ss.foldl addS Q,∀s∈p.2,StpOk Ts s:=by
    intro ss
    induction ss with
    |nil=>intro Q _ h;exact h
    |cons s ss ih=>
     intro Q hs hQ
     refine ih _ (λx hx=>hs x (List.mem_cons_of_mem _ hx)) λp hp s' hs'=> ?_
     unfold addS at hp
     split at hp
     .exact hQ p hp s' hs'
     .rcases List.mem_append.mp hp with hp|hp
      .exact hQ p hp s' hs'
      .rw[List.mem_singleton.mp hp] at hs'
       rcases List.mem_append.mp hs' with hs'|hs'
       .by_cases hk:s.2.1∈ksP Q
        .exact hQ _ (lkP_mem hk) s' hs'
        .have e0:lkP Q s.2.1=[]:=by
          have:=find_some (T:=Q) (n:=s.2.1)
          rw[decide_eq_false (show ¬s.2.1∈Q.map (·.1) from hk)] at this
          unfold lkP
          cases e:Q.find? (λp=>decide (p.1=s.2.1)) with
          |none=>rfl
          |some p=>rw[e] at this;cases this
         rw[e0] at hs'
         cases hs'
       .rw[List.mem_singleton.mp hs']
        obtain⟨T,h1,h2,h3,h4⟩:=mem_stF.mp (hs s (List.mem_cons_self ..))
        exact⟨T,h1,by rw[h3];exact h2,h4⟩
   exact key _ _ (λs h=>h) h
theorem pathsF_steps{Ts:List Tb}{n:Str}:∀p∈pathsF Ts n,∀s∈p.2,StpOk Ts s:=
 bfs_steps 14 0 _ λp hp s hs=>by
  have:p=(n,[]):=by simpa using hp
  rw[this] at hs
  cases hs
theorem lkA_ok'{Ts:List Tb}{NN:List Str}(hok:HOk6 Ts NN)(n:Str):∀(Gs:List Pth) (acc:List Stp),(∀P∈Gs,P∈grpF Ts)->((∀s∈acc,StpOk Ts s)∧acc.length≤11)->(∀s∈Gs.foldl (λacc P=>if n∈ksP P then lkP P n else acc) acc,StpOk Ts s)∧(Gs.foldl (λacc P=>if n∈ksP P then lkP P n else acc) acc).length≤11
 |[],acc,_,h=>h
 |P::Gs,acc,h,ha=>by
  rw[List.foldl_cons]
  refine lkA_ok' hok n Gs _ (λQ hQ=>h Q (List.mem_cons_of_mem _ hQ)) ?_
  split
  .rename_i hn
   obtain⟨m,hm,_,rfl⟩:=grpF_mem hok (h P (List.mem_cons_self ..))
   obtain⟨pok,_,_⟩:=pathsF_ok hok hm
   have hmem:=lkP_mem hn
   refine⟨pathsF_steps _ hmem,?_⟩
   have h1:=pok.pl _ hmem
   have h2:=pok.len
   have h3:=hok.nn
   simp at h1
   omega
  .exact ha
theorem lkA_ok{Ts:List Tb}{NN:List Str}(hok:HOk6 Ts NN)(Gs:List Pth)(n:Str)(h:∀P∈Gs,P∈grpF Ts):(∀s∈lkA Gs n,StpOk Ts s)∧(lkA Gs n).length≤11:=
 lkA_ok' hok n Gs [] h ⟨(λs h=>by cases h),Nat.zero_le _⟩
theorem bwd_ok{Ts:List Tb}{ss:List Stp}(h:∀s∈ss,StpOk Ts s):∀s∈bwd ss,StpOk Ts s:=λs hs=>by
 unfold bwd at hs
 obtain⟨s',h1,rfl⟩:=List.mem_map.mp hs
 obtain⟨T,a,b,c⟩:=h s' (List.mem_reverse.mp h1)
 exact⟨T,a,c,b⟩
theorem clF_mem{Ts:List Tb}{s:Stp}(h:s∈clF Ts):∃T,Ts[s.1]? =some T∧s.2.1=mnT T∧s.2.2∈ksT T:=by
 unfold clF at h
 obtain⟨⟨T,i⟩,hp,hs⟩:=List.mem_flatMap.mp h
 have hp:=List.mem_zipIdx_iff_getElem?.mp hp
 unfold clG at hs
 obtain⟨o,ho,rfl⟩:=List.mem_map.mp hs
 exact⟨T,hp,rfl,ho⟩
theorem mnT_mem{T:Tb}(h:T≠[]):mnT T∈ksT T∧∀n∈ksT T,¬n.cps.toList<(mnT T).cps.toList:=by
 have key:∀ns:List Str,ns≠[]->∃m,m∈ns∧∀n∈ns,¬n.cps.toList<m.cps.toList:=by
  intro ns
  induction ns with
  |nil=>intro h;exact absurd rfl h
  |cons a ns ih=>
   intro _
   by_cases hn:ns=[]
   .subst hn
    exact⟨a,by simp,λn hn=>by
     have:n=a:=by simpa using hn
     rw[this];exact List.lt_irrefl _⟩
   .obtain⟨m,h1,h2⟩:=ih hn
    by_cases hlt:a.cps.toList<m.cps.toList
    .refine⟨a,by simp,λn hn=> ?_⟩
     rcases List.mem_cons.mp hn with rfl|hn
     .exact List.lt_irrefl _
     .exact λz=>h2 n hn (List.lt_trans z hlt)
    .refine⟨m,by simp[h1],λn hn=> ?_⟩
     rcases List.mem_cons.mp hn with rfl|hn
     .exact hlt
     .exact h2 n hn
 obtain⟨m,h1,h2⟩:=key (ksT T) (λz=>h (by simpa[ksT] using z))
 rw[mn_is h1 h2]
 exact⟨h1,h2⟩
theorem rgS_ok{Ts:List Tb}{NN:List Str}(hok:HOk6 Ts NN){s:Stp}(h:s∈clF Ts):(∀x∈rgS Ts s,StpOk Ts x)∧(rgS Ts s).length≤40:=by
 obtain⟨T,h1,h2,h3⟩:=clF_mem h
 have hT:=List.mem_of_getElem? h1
 obtain⟨a1,a2⟩:=lkA_ok hok (grpF Ts) s.2.1 λP h=>h
 obtain⟨b1,b2⟩:=lkA_ok hok (grpF Ts) s.2.2 λP h=>h
 have hs:StpOk Ts s:=⟨T,h1,by rw[h2];exact(mnT_mem (hok.tok T hT).ne).1,h3⟩
 unfold rgS
 constructor
 .intro x hx
  rcases List.mem_append.mp hx with hx|hx
  .rcases List.mem_append.mp hx with hx|hx
   .exact a1 x hx
   .rw[List.mem_singleton.mp hx]
    exact hs
  .exact bwd_ok b1 x hx
 .simp[bwd]
  omega
def SRng:Ct:=λds A R _=>∃r Ts NN,ds=[.ref r]∧BPl A r Ts∧HOk6 Ts NN∧(rgF Ts=none->∀A',Gr A A'->R .non A')∧∀ss,rgF Ts=some ss->∀A' q,Gr A A'->A'[q]? =some (.lst (ss.map stD))->A.length≤q->R (.ref q) A'
def SNor:Ct:=λds A R E=>∃r Ts NN,ds=[.ref r]∧BPl A r Ts∧HOk6 Ts NN∧(rgF Ts=none->∀A',Gr A A'->R .non A')∧(rgF Ts≠none->∀A',Gr A A'->E "Never" A')
theorem mrg_get:∀(more kvs:List (Key×D)) (k:Key),(more.map (·.1)).Nodup->getK (mrgG kvs more) k=match getK more k with|some v=>some v|none=>getK kvs k
 |[],kvs,k,_=>rfl
 |p::more,kvs,k,hn=>by
  have hn':=List.nodup_cons.mp (show(p.1::more.map (·.1)).Nodup from hn)
  show getK (mrgG (putG kvs p.1 p.2) more) k=_
  rw[mrg_get more _ k hn'.2,getK_put]
  show _=match (if p.1=k then some p.2 else getK more k) with|some v=>some v|none=>getK kvs k
  by_cases e:p.1=k
  .rw[if_pos e,if_pos e]
   have:getK more k=none:=by
    cases h:getK more k with
    |none=>rfl
    |some v=>
     exfalso
     refine hn'.1 ?_
     rw[e]
     clear mrg_get hn hn'
     induction more with
     |nil=>cases h
     |cons q more ih=>
      have h:(if q.1=k then some q.2 else getK more k)=some v:=h
      by_cases e':q.1=k
      .simp[e']
      .rw[if_neg e'] at h
       simp[ih h]
   rw[this]
  .rw[if_neg e,if_neg e]
def MSt(b:Nat)(NN:List Str)(A:Ar)(Gs:List Pth):Prop:=∃(kvs:List (Key×D)) (ns:List Str),A[b]? =some (.dct kvs)∧kvs.map (·.1)=ns.map Sum.inr∧ns.Nodup∧(∀n,n∈ns↔n∈ksG Gs)∧(∀n∈ns,n∈NN)∧∀n∈ns,∃a,b<a∧getK kvs (Sum.inr n)=some (.ref a)∧A[a]? =some (.lst ((lkA Gs n).map stD))
theorem MSt.gr{b:Nat}{NN:List Str}{A B:Ar}{Gs:List Pth}(h:MSt b NN A Gs)(g:Gr A B):MSt b NN B Gs:=by
 obtain⟨kvs,ns,h1,h2,h3,h4,h5,h6⟩:=h
 exact⟨kvs,ns,g.get h1,h2,h3,h4,h5,λn hn=>by obtain⟨a,x,y,z⟩:=h6 n hn;exact⟨a,x,y,g.get z⟩⟩
theorem nd_inr{ns:List Str}(h:ns.Nodup):(ns.map (Sum.inr:Str->Key)).Nodup:=by
 exact List.Pairwise.map _ (λa b hab e=>hab (Sum.inr.inj e)) h
end DP
namespace My
open PySem PySem.Spec PyProof.Rows L2 DP MA
section
variable{P:Program}{w:World}{K:PySem.W.Frag}{mg:Str->Option Value}{base:Heap}
theorem f_rng(T:TopD K mg "find_ring" s_find_ring p_find_ring)(F_groups:FnX P w K mg base 3 "groups" p_groups (spOf mg 1 SGrp))(F_closing_steps:FnX P w K mg base 1 "closing_steps" p_closing_steps (spOf mg 1 SCls))(F_backward:FnX P w K mg base 1 "backward" p_backward (spOf mg 1 SBw))(F_comes_to:FnX P w K mg base 4 "comes_to" p_comes_to (spOf mg 2 SCm)):FnX P w K mg base 5 "find_ring" p_find_ring (spOf mg 1 SRng):=by
 refine fnD T sc_find_ring rfl (by decide) λN RE f cdv B outer s H E hr hR hx ds A R h hl=> ?_
 have hu:=hr.units
 have nd:=sc_find_ring.nd
 refine⟨_,(dss_cons (ds_set (i:=1) nd rfl (by first|exact Or.inl rfl|exact Or.inr rfl) de_dnew)
  (dss_cons (ds_for ownX rfl (di_seq (de_call F_groups (hr.mono (by omega)) hx (da_cons (vr 0) da_nil))) (dg_name (i:=2) nd rfl (by first|exact Or.inl rfl|exact Or.inr rfl)) (dss_one (ds_expr (de_mtD PySem.F.plainAttrs_dict PySem.F.slot_dict_update PySem.F.type_dict_update mt_upd d_upd (vr 1) (da_cons (vr 2) da_nil)))))
  (dss_cons (ds_for ownX rfl (di_seq (de_call F_closing_steps (hr.mono (by omega)) hx (da_cons (vr 0) da_nil))) (dg_name (i:=3) nd rfl (by first|exact Or.inl rfl|exact Or.inr rfl)) (dss_cons (ds_set (i:=4) nd rfl (by first|exact Or.inl rfl|exact Or.inr rfl) (de_add (de_add (de_ix hu (vr 1) (de_ix hu (vr 3) de_int (λ_ _=>rfl)) (λ_ _=>rfl)) (de_lst (da_cons (vr 3) da_nil))) (de_call F_backward (hr.mono (by omega)) hx (da_cons (de_ix hu (vr 1) (de_ix hu (vr 3) de_int (λ_ _=>rfl)) (λ_ _=>rfl)) da_nil))))
  (dss_one (ds_if (t_ne hu (de_call F_comes_to (hr.mono (by omega)) hx (da_cons (vr 0) (da_cons (vr 4) da_nil))) (de_tup (da_cons de_int (da_cons de_int da_nil)))) (dss_one (ds_ret (vr 4))) dss_nil))))
  (dss_one (ds_ret de_non))))),?_⟩
 obtain⟨r,Ts,NN,rfl,hB,hok,q1,q2⟩:=h
 have hz:(1000:Nat)≤sizeLine:=by decide
 have e1:(A++[C.dct []]).length=A.length+1:=by simp
 refine⟨rfl,r,Ts,NN,rfl,hB.gr Gr.push,hok,λA1 q0 g1 hG=> ?_⟩
 obtain⟨lq,gs,hg1,hg2⟩:=hG
 rw[e1] at lq hg2
 have lgs:=hg2.len
 have hM0:MSt A.length NN A1 []:=⟨[],[],g1.get last_get,rfl,List.nodup_nil,λn=>by simp[ksG],(λn h=>by cases h),(λn h=>by cases h)⟩
 have gA1:Gr A A1:=Gr.push.trans g1
 refine it_ok hg1 ?_
 refine dloop_I (λrest τ A'=>∃(i:Nat) (x:Option D),i≤gs.length∧rest=(gs.map D.ref).drop i∧τ=[some (.ref r),some (.ref A.length),x,none,none]∧MSt A.length NN A' ((grpF Ts).take i)∧A'[q0]? =some (.lst (gs.map D.ref))∧PthsAt (A.length+1) A' gs (grpF Ts)∧Gr A A') ?_ ?_ ?_ _ _ _ ⟨0,none,Nat.zero_le _,rfl,rfl,hM0,hg1,hg2,gA1⟩
 .rintro rest τ A' ⟨_,_,_,_,_,_,h,_,_⟩
  exact h
 .rintro v rest τ A2 ⟨i,x,hi,e,rfl,hM,hq,hP,g2⟩ Nx hN
  by_cases hlt:i<gs.length
  .obtain⟨t,ht⟩:∃t,gs[i]? =some t:=⟨gs[i],List.getElem?_eq_getElem hlt⟩
   obtain⟨P0,hP0,hPA⟩:=hP.get ht
   have hlt':i<(gs.map D.ref).length:=by rw[List.length_map];exact hlt
   have ev:(gs.map D.ref)[i]? =some (.ref t):=by rw[List.getElem?_map,ht];rfl
   rw[List.drop_eq_getElem_cons hlt'] at e
   rw[List.getElem?_eq_getElem hlt'] at ev
   have ev:=Option.some.inj ev
   rw[ev] at e
   cases e
   obtain⟨m,hm,_,eP⟩:=grpF_mem hok (List.mem_of_getElem? hP0)
   obtain⟨pok,_,_⟩:=pathsF_ok hok hm
   rw[←eP] at pok
   obtain⟨lt0,more,m1,m2,m3⟩:=id hPA
   obtain⟨kvs,ns,k1,k2,k3,k4,k5,k6⟩:=hM
   have etk:(grpF Ts).take (i+1)=(grpF Ts).take i++[P0]:=by rw[List.take_succ,hP0];rfl
   have ln:ns.length≤12:=Nat.le_trans (nd_le ns NN k3 k5) hok.nn
   have lk1:kvs.length=ns.length:=by
    have:=congrArg List.length k2
    simpa using this
   have lk2:more.length=P0.length:=by
    have:=congrArg List.length m2
    simpa[ksP] using this
   have lP:=pok.len
   have nn12:=hok.nn
   obtain⟨ns',j1,j2,j3⟩:=mrg_keys k2 m2 k3
   have mnd:(more.map (·.1)).Nodup:=by rw[m2];exact nd_inr pok.nd
   refine⟨isDc_of k1,upd_ok k1 m1 (by omega) (by omega) ?_⟩
   refine hN _ _ ⟨i+1,_,by omega,rfl,rfl,?_,set_get (by omega) hq,hP.mapP λq P z=>z.set (by omega),g2.set (Nat.le_refl _)⟩
   rw[etk]
   refine⟨_,ns',set_self k1,j1,j2,λn=> ?_,λn hn=> ?_,λn hn=> ?_⟩
   .rw[j3,k4]
    simp[ksG]
   .rcases (j3 n).mp hn with h'|h'
    .exact k5 n h'
    .exact pok.sub n h'
   .rw[mrg_get _ _ _ mnd,lkA_snoc]
    by_cases hnP:n∈ksP P0
    .obtain⟨a,z,ga,ha⟩:=m3 n hnP
     rw[ga,if_pos hnP]
     exact⟨a,by omega,rfl,set_get (by omega) ha⟩
    .have hn1:n∈ns:=by
      rcases (j3 n).mp hn with h'|h'
      .exact h'
      .exact absurd h' hnP
     have e0:getK more (Sum.inr n)=none:=by
      have:=keys_get (n:=n) m2
      rw[decide_eq_false hnP] at this
      cases e:getK more (Sum.inr n) with
      |none=>rfl
      |some v=>rw[e] at this;cases this
     obtain⟨a,z,ga,ha⟩:=k6 n hn1
     rw[e0,if_neg hnP]
     exact⟨a,z,ga,set_get (by omega) ha⟩
  .rw[List.drop_eq_nil_of_le (by rw[List.length_map];omega)] at e
   cases e
 rintro τ A2 ⟨i,x,hi,e,rfl,hM,hq,hP,g2⟩
 have hi:i=gs.length:=by
  have:=congrArg List.length e
  simp at this
  omega
 rw[hi,lgs,List.take_length] at hM
 refine⟨rfl,r,Ts,rfl,hB.gr g2,hok.len,hok.tok,λA3 q3 g3 h3 l3=> ?_⟩
 refine it_ok h3 ?_
 refine dloop_I (λrest τ A'=>∃(dn more:List Stp) (y z:Option D),rest=more.map stD∧dn++more=clF Ts∧(∀s∈dn,cmF Ts (rgS Ts s)=1)∧τ=[some (.ref r),some (.ref A.length),x,y,z]∧Gr A3 A') ?_ ?_ ?_ _ _ _ ⟨[],clF Ts,none,none,rfl,rfl,(λ_ h=>by cases h),rfl,Gr.refl⟩
 .rintro rest τ A' ⟨_,_,_,_,_,_,_,_,g⟩
  exact g.get h3
 .rintro v rest τ A4 ⟨dn,more,y,z,e,hdm,h1,rfl,g4⟩ Nx hN
  cases more with
  |nil=>cases e
  |cons st more=>
  cases e
  have hst:st∈clF Ts:=by rw[←hdm];simp
  obtain⟨T0,hT,c1,c2⟩:=clF_mem hst
  have hTm:=List.mem_of_getElem? hT
  have n1:st.2.1∈ksG (grpF Ts):=grpF_all hok hTm (by rw[c1];exact(mnT_mem (hok.tok T0 hTm).ne).1)
  have n2:st.2.2∈ksG (grpF Ts):=grpF_all hok hTm c2
  obtain⟨kvs,ns,k1,k2,k3,k4,k5,k6⟩:=hM.gr (g3.trans g4)
  obtain⟨a1,_,ga1,ha1⟩:=k6 _ ((k4 _).mpr n1)
  obtain⟨a2,_,ga2,ha2⟩:=k6 _ ((k4 _).mpr n2)
  obtain⟨_,b1⟩:=lkA_ok hok (grpF Ts) st.2.1 λP h=>h
  obtain⟨_,b2⟩:=lkA_ok hok (grpF Ts) st.2.2 λP h=>h
  obtain⟨r1,r2⟩:=rgS_ok hok hst
  refine ixd_ok k1 rfl ga1 ⟨show 1≤sizeLine by omega,cat_ok (getElem?_push ha1) last_get (by simp;omega) ?_⟩
  refine ixd_ok (getElem?_push (getElem?_push k1)) rfl ga2 ?_
  refine⟨rfl,a2,_,rfl,getElem?_push (getElem?_push ha2),by omega,λA5 q5 g5 h5 l5=> ?_⟩
  have hcat:A5[(A4++[C.lst [stD st]]).length]? =some (.lst ((lkA (grpF Ts) st.2.1).map stD++[stD st])):=g5.get last_get
  have lbw:(bwd (lkA (grpF Ts) st.2.2)).length≤11:=by simp[bwd];exact b2
  refine cat_ok hcat h5 (by simp;omega) ?_
  have em:(lkA (grpF Ts) st.2.1).map stD++[stD st]++(bwd (lkA (grpF Ts) st.2.2)).map stD=(rgS Ts st).map stD:=by
   unfold rgS
   simp
  rw[em]
  have gA5:Gr A4 (A5++[C.lst ((rgS Ts st).map stD)]):=((Gr.push.trans Gr.push).trans g5).trans Gr.push
  have g35:=(g3.trans g4).trans gA5
  refine⟨rfl,r,A5.length,Ts,rgS Ts st,rfl,hB.gr (g2.trans g35),hok.tok,last_get,r1,r2,λA6 g6=>⟨show 2≤sizeLine by omega,ne_fq (y:=1) ?_⟩⟩
  refine cN (λc=> ?_) (λc=> ?_)
  .have er:rgF Ts=some (rgS Ts st):=by
    unfold rgF
    rw[←hdm,List.map_append,List.find?_append,List.map_cons]
    have e0:(dn.map (rgS Ts)).find? (λss=> !decide (cmF Ts ss=1))=none:=by
     rw[List.find?_eq_none]
     intro ss hss
     obtain⟨s,hs,rfl⟩:=List.mem_map.mp hss
     simp[h1 s hs]
    rw[e0,List.find?_cons_of_pos (by simpa using c)]
    rfl
   have ll:=(g2.trans (g3.trans g4)).len
   have l5':=g5.len
   simp at l5'
   exact q2 _ er A6 _ ((g2.trans g35).trans g6) (g6.get last_get) (by omega)
  .refine hN _ _ ⟨dn++[st],more,_,_,rfl,by simpa using hdm,λs hs=> ?_,rfl,(g4.trans gA5).trans g6⟩
   rcases List.mem_append.mp hs with h'|h'
   .exact h1 s h'
   .rw[List.mem_singleton.mp h']
    exact c
 .rintro τ A4 ⟨dn,more,y,z,e,hdm,h1,rfl,g4⟩
  cases more with
  |cons _ _=>cases e
  |nil=>
  have hdm:dn=clF Ts:=by simpa using hdm
  subst hdm
  refine q1 ?_ _ ((g2.trans g3).trans g4)
  unfold rgF
  rw[List.find?_eq_none]
  intro ss hss
  obtain⟨s,hs,rfl⟩:=List.mem_map.mp hss
  simp[h1 s hs]
theorem f_nor(T:TopD K mg "check_no_ring" s_check_no_ring p_check_no_ring){a_Never:Addr}(m_Never:mg "Never" =some (.ref a_Never))(x_Never:PySem.W.excIn K a_Never vErr "ValueError.__new__" =true)(F_find_ring:FnX P w K mg base 5 "find_ring" p_find_ring (spOf mg 1 SRng)):FnX P w K mg base 6 "check_no_ring" p_check_no_ring (spOf mg 1 SNor):=by
 refine fnD T sc_check_no_ring rfl (by decide) λN RE f cdv B outer s H E hr hR hx ds A R h hl=> ?_
 have hu:=hr.units
 refine⟨_,(dss_one (ds_if (t_isnt (de_call F_find_ring (hr.mono (by omega)) hx (da_cons (vr 0) da_nil)) de_non) (dss_one (ds_raise hR rfl m_Never x_Never (da_cons de_str da_nil))) dss_nil)),?_⟩
 obtain⟨r,Ts,NN,rfl,hB,hok,q1,q2⟩:=h
 exact⟨rfl,r,Ts,NN,rfl,hB,hok,λe A1 g1=>q1 e A1 g1,λss e A1 q0 g1 h1 l1=>⟨show 1≤sizeLine by decide,q2 (by rw[e];simp) A1 g1⟩⟩
end
end My
namespace DP
open PySem PySem.Spec PyProof.Rows L2 MA
mutual
def okA(A:Ar):D->Bool
 | .tup xs=>okAs A xs
 | .exc _=>false
 | .str z=>decide (z.length≤sizeLine)
 | .ref r=>match A[r]? with
  |some (.lst _)=>true
  |some (.dct _)=>true
  |_=>false
 |_=>true
def okAs(A:Ar):List D->Bool
 |[]=>true
 |x::xs=>okA A x&&okAs A xs
end
def isNu(x:D)(a b:Int):Bool:=match x with
 | .int i=>decide (a≤i)&&decide (i≤b)
 |_=>false
def azB:D->Bool
 | .str z=> !decide (z.cps.toList<("a" :Str).cps.toList)&& !decide (("z" :Str).cps.toList<z.cps.toList)
 |_=>false
def isNa:D->Bool
 | .str n=>decide ((1:Int)≤(n.length:Nat))&&decide (((n.length:Nat):Int)≤3)&&(sgs n).all azB
 |_=>false
def isMob:Nat->D->Bool
 |_,.tup [.str k,n]=>decide (k="weight")&&isNa n
 |d+1,.tup [.str k,l,r,a,b]=>decide (k="rod")&&isNu l 1 9&&isNu r 1 9&&isMob d a&&isMob d b
 |_,_=>false
def SNumA:Ct:=λds A R _=>∃x a b,ds=[x,.int a,.int b]∧okA A x=true∧∀A',Gr A A'->R (.bl (isNu x a b)) A'
def SNameA:Ct:=λds A R _=>∃x,ds=[x]∧okA A x=true∧∀A',Gr A A'->R (.bl (isNa x)) A'
def SImA(d:Nat):Ct:=λds A R _=>∃x,ds=[x,.int ((d:Int) - 1)]∧0<d∧okA A x=true∧∀A',Gr A A'->R (.bl (isMob (d - 1) x)) A'
def SMbA:Ct:=λds A R _=>∃x,ds=[x]∧okA A x=true∧∀A',Gr A A'->R (.bl (isMob 5 x)) A'
mutual
theorem okA_gr{A A':Ar}(g:Gr A A'):∀x,okA A x=true->okA A' x=true
 | .tup xs,h=>by
  have h:okAs A xs=true:=h
  exact okAs_gr g xs h
 | .non,h=>rfl
 | .bl _,h=>rfl
 | .int _,h=>rfl
 | .str _,h=>h
 | .fl _,h=>rfl
 | .exc _,h=>by cases h
 | .ref r,h=>by
  unfold okA at h ⊢
  cases e:A[r]? with
  |none=>rw[e] at h;cases h
  |some c=>rw[e] at h;rw[g.get e];exact h
theorem okAs_gr{A A':Ar}(g:Gr A A'):∀xs,okAs A xs=true->okAs A' xs=true
 |[],h=>rfl
 |x::xs,h=>by
  have h:(okA A x&&okAs A xs)=true:=h
  rw[Bool.and_eq_true] at h
  show(okA A' x&&okAs A' xs)=true
  rw[Bool.and_eq_true]
  exact⟨okA_gr g x h.1,okAs_gr g xs h.2⟩
end
theorem at_zero{α:Type}(y:α)(ys:List α):atI (y::ys) 0=some y:=atI_nat (j:=0) rfl
theorem isMob_no{d:Nat}{k:Str}{ys:List D}(h1:∀n,ys=[n]->¬k="weight")(h2:∀l r a b,ys=[l,r,a,b]->¬k="rod"):isMob d (.tup (.str k::ys))=false:=by
 match ys with
 |[]=>cases d<;>rfl
 |[n]=>
  have e:isMob d (.tup [.str k,n])=(decide (k="weight")&&isNa n):=by cases d<;>rfl
  rw[e,decide_eq_false (h1 n rfl)]
  rfl
 |[_,_]=>cases d<;>rfl
 |[_,_,_]=>cases d<;>rfl
 |[l,r,a,b]=>
  cases d with
  |zero=>rfl
  |succ d=>
   show(decide (k="rod")&&isNu l 1 9&&isNu r 1 9&&isMob d a&&isMob d b)=false
   rw[decide_eq_false (h2 l r a b rfl)]
   rfl
 |_::_::_::_::_::_=>cases d<;>rfl
theorem isMob_no2{d:Nat}{k:Str}{ys:List D}(h1:¬k="weight")(h2:¬k="rod"):isMob d (.tup (.str k::ys))=false:=isMob_no (λ_ _=>h1) λ_ _ _ _ _=>h2
theorem okA_ref{A:Ar}{r:Nat}(h:okA A (.ref r)=true):tyD A (.ref r)=some "list"∨tyD A (.ref r)=some "dict" :=by
 unfold okA at h
 cases e:A[r]? with
 |none=>rw[e] at h;cases h
 |some c=>
  rw[e] at h
  cases c with
  |lst xs=>exact .inl (by unfold tyD;simp only[e])
  |dct kvs=>exact .inr (by unfold tyD;simp only[e])
  |fdc o kvs=>cases h
  |ins cl fs=>cases h
theorem isNa_nm{n:Str}(h:Nm n):isNa (.str n)=true:=by
 have h1:=h.lo
 have h3:=h.hi
 unfold isNa
 rw[Bool.and_eq_true,Bool.and_eq_true,decide_eq_true_eq,decide_eq_true_eq]
 refine⟨⟨by omega,by omega⟩,List.all_eq_true.mpr λx hx=> ?_⟩
 obtain⟨c,hc,rfl⟩:=List.mem_map.mp hx
 obtain⟨c1,c2⟩:=h.az c hc
 have e1:¬((⟨#[c]⟩:Str).cps.toList<("a" :Str).cps.toList):=by
  rw[My.sg_a];intro h;have:=My.one_lt.mp h;omega
 have e2:¬(("z" :Str).cps.toList<(⟨#[c]⟩:Str).cps.toList):=by
  rw[My.sg_z];intro h;have:=My.one_lt.mp h;omega
 show(!decide ((⟨#[c]⟩:Str).cps.toList<("a" :Str).cps.toList)&& !decide (("z" :Str).cps.toList<(⟨#[c]⟩:Str).cps.toList))=true
 rw[decide_eq_false e1,decide_eq_false e2]
 rfl
theorem okA_nm{A:Ar}{n:Str}(h:Nm n):okA A (.str n)=true:=decide_eq_true (Nat.le_trans h.hi (by decide))
theorem okA_enc{A:Ar}:∀{m:M},(∀n∈m.names,Nm n)->okA A (enc m)=true
 | .wt n,h=>by
  have hn:=okA_nm (A:=A) (h n (by simp[Mob.names]))
  have e:okA A (.str "weight")=true:=show decide (("weight" :Str).length≤sizeLine)=true by decide+kernel
  show(okA A (.str "weight")&&(okA A (.str n)&&true))=true
  rw[hn,e]
  rfl
 | .rod l r a b,h=>by
  have ha:=okA_enc (A:=A) (m:=a) λn hn=>h n (by simp[Mob.names,hn])
  have hb:=okA_enc (A:=A) (m:=b) λn hn=>h n (by simp[Mob.names,hn])
  have e:okA A (.str "rod")=true:=show decide (("rod" :Str).length≤sizeLine)=true by decide+kernel
  show(okA A (.str "rod")&&(true&&(true&&(okA A (enc a)&&(okA A (enc b)&&true)))))=true
  rw[ha,hb,e]
  rfl
theorem isMob_enc:∀{m:M} {d:Nat},Wf m->m.deep≤d->isMob d (enc m)=true
 | .wt n,d,hw,_=>by
  have e:=isNa_nm (hw.nm n (by simp[Mob.names]))
  cases d<;>(show(decide (("weight" :Str)="weight")&&isNa (.str n))=true;rw[e];decide+kernel)
 | .rod l r a b,d,hw,hd=>by
  have hd:max a.deep b.deep+1≤d:=hd
  cases d with
  |zero=>omega
  |succ d=>
   obtain⟨h1,h2,h3,h4,h5,h6⟩:=hw.arms
   show(decide (("rod" :Str)="rod")&&isNu (.int l) 1 9&&isNu (.int r) 1 9&&isMob d (enc a)&&isMob d (enc b))=true
   rw[isMob_enc hw.left (by omega),isMob_enc hw.right (by omega)]
   simp[isNu,h1,h2,h3,h4]
end DP
namespace My
open PySem PySem.Spec PyProof.Rows L2 DP MA
section
variable{P:Program}{w:World}{K:PySem.W.Frag}{mg:Str->Option Value}{base:Heap}
theorem fA_num(T:TopD K mg "is_number" s_is_number p_is_number)(b_isinstance:mg "isinstance" =none)(b_bool:mg "bool" =none)(b_int:mg "int" =none):FnX P w K mg base 1 "is_number" p_is_number (spOf mg 3 SNumA):=by
 refine fnD T sc_is_number rfl (by decide) λN RE f cdv B outer s H E hr hR hx ds A R h hl=> ?_
 have hu:=hr.units
 refine⟨_,(dss_cons (ds_if (PW.pt (dw_or (dt_val (de_is kit_bool b_isinstance b_bool boot_bool (vr 0))) (dw_or1 (dt_not (dt_val (de_is kit_int b_isinstance b_int boot_int (vr 0))))))) (dss_one (ds_ret de_bl)) dss_nil)
  (dss_one (ds_ret (e_lele (vr 1) (vr 0) (vr 2))))),?_⟩
 obtain⟨x,a,b,rfl,hk,q⟩:=h
 cases x with
 |int i=>
  have q:∀A',Gr A A'->R (.bl (decide (a≤i)&&decide (i≤b))) A':=q
  refine cD (λc=> ?_) (λc=> ?_)
  .have e:(decide (a≤i)&&decide (i≤b))=decide (i≤b):=by simp[c]
   rw[e] at q
   exact q _ Gr.refl
  .have e:(decide (a≤i)&&decide (i≤b))=false:=by simp[c]
   rw[e] at q
   exact q _ Gr.refl
 |exc c=>cases hk
 |ref r=>
  rcases okA_ref hk with e|e
  all_goals
   conv=>whnf
   rw[e]
   conv=>whnf
   rw[e]
   exact q _ Gr.refl
 |_=>exact q _ Gr.refl
theorem fA_name(T:TopD K mg "is_name" s_is_name p_is_name)(b_isinstance:mg "isinstance" =none)(b_str:mg "str" =none)(b_len:mg "len" =none)(b_all:mg "all" =none){t:Tok}(m_LONGEST_NAME:mg "LONGEST_NAME" =some (.int 3 t)):FnX P w K mg base 1 "is_name" p_is_name (spOf mg 1 SNameA):=by
 refine fnD T sc_is_name rfl (by decide) λN RE f cdv B outer s H E hr hR hx ds A R h hl=> ?_
 have hu:=hr.units
 refine⟨_,(dss_cons (ds_if (PW.pt (dw_or (dt_not (dt_val (de_is kit_str b_isinstance b_str boot_str (vr 0)))) (dw_or1 (dt_not (t_lele de_int (de_cb c_len d_len b_len PySem.boot_len (da_cons (vr 0) da_nil)) (de_num m_LONGEST_NAME)))))) (dss_one (ds_ret de_bl)) dss_nil)
  (dss_one (ds_ret (de_cb (call_all rfl) d_all b_all boot_all (da_cons (de_comp none (own:=["letter"]) (frees:=[]) (ix:=[]) rfl (di_str (vr 0)) (λc=>(pg_name (i:=0) (show(["letter"]:List Str).Nodup by decide+kernel) rfl (by first|exact Or.inl rfl|exact Or.inr rfl))) (λc=>(e_lele de_str (vr 0) de_str))) da_nil))))),?_⟩
 obtain⟨x,rfl,hk,q⟩:=h
 cases x with
 |str n=>
  have hz:n.length≤sizeLine:=of_decide_eq_true hk
  have q:∀A',Gr A A'->R (.bl (decide ((1:Int)≤(n.length:Nat))&&decide (((n.length:Nat):Int)≤3)&&(sgs n).all azB)) A':=q
  refine⟨hz,cD (λc1=> ?_) (λc1=> ?_)⟩
  .refine cN (λc2=> ?_) (λc2=> ?_)
   .rw[decide_eq_false c2] at q
    simp only[Bool.and_false,Bool.false_and] at q
    exact q _ Gr.refl
   rw[decide_eq_true c1,decide_eq_true c2] at q
   simp only[Bool.true_and] at q
   refine cloop_map (f:=λx=> .bl (azB x)) trivial _ _ (λx hx=>⟨[x],rfl,λQ hQ=> ?_⟩) ?_ ?_
   .obtain⟨c,hc,rfl⟩:=List.mem_map.mp hx
    have hQ:Q (.bl (!decide ((⟨#[c]⟩:Str).cps.toList<("a" :Str).cps.toList)&& !decide (("z" :Str).cps.toList<(⟨#[c]⟩:Str).cps.toList))) A:=hQ
    refine cN (λe1=> ?_) (λe1=> ?_)
    .rw[decide_eq_false e1] at hQ
     exact hQ
    .rw[decide_eq_true e1] at hQ
     exact hQ
   .have:(sgs n).length=n.length:=by simp[sgs,Str.length]
    show 0+(sgs n).length≤sizeLine
    omega
   .refine all_ok (bs:=(sgs n).map azB) last_get (bls_map _ _) ?_
    have e:((sgs n).map azB).all id=(sgs n).all azB:=by simp
    rw[e]
    exact q _ Gr.push
  .rw[decide_eq_false c1] at q
   simp only[Bool.false_and] at q
   exact q _ Gr.refl
 |exc c=>cases hk
 |ref r=>
  rcases okA_ref hk with e|e
  all_goals
   conv=>whnf
   rw[e]
   exact q _ Gr.refl
 |_=>exact q _ Gr.refl
theorem fA_imw (T : TopD K mg "is_mobile_within" s_is_mobile_within p_is_mobile_within) (b_isinstance : mg "isinstance" = none) (b_str : mg "str" = none) (b_tuple : mg "tuple" = none) (b_len : mg "len" = none) {t : Tok} (m_LONGEST_ARM : mg "LONGEST_ARM" = some (.int 9 t))
    (F_is_name:FnX P w K mg base 1 "is_name" p_is_name (spOf mg 1 SNameA))(F_is_number:FnX P w K mg base 1 "is_number" p_is_number (spOf mg 3 SNumA)):∀d,FnX P w K mg base (d+1) "is_mobile_within" p_is_mobile_within (spOf mg 2 (SImA d)):=by
  intro d
  induction d with
  | zero =>
    refine fnNo T λds A R RE h=> ?_
    obtain⟨x,_,h,_⟩:=h
    omega
  | succ d F_is_mobile_within =>
    refine fnD T sc_is_mobile_within rfl (by decide) λN RE f cdv B outer s H E hr hR hx ds A R h hl=> ?_
    have hu:=hr.units
    refine⟨_,(dss_cons (ds_if (PW.pt (dw_or (dt_not (dt_val (de_is kit_tuple b_isinstance b_tuple boot_tuple (vr 0)))) (dw_or (t_eq hu (de_cb c_len d_len b_len PySem.boot_len (da_cons (vr 0) da_nil)) de_int) (dw_or1 (dt_not (dt_val (de_is kit_str b_isinstance b_str boot_str (de_ix hu (vr 0) de_int (λ_ _=>rfl))))))))) (dss_one (ds_ret de_bl)) dss_nil)
    (dss_cons (ds_if (t_eq hu (de_ix hu (vr 0) de_int (λ_ _=>rfl)) de_str) (dss_one (ds_ret (de_and (e_eq hu (de_cb c_len d_len b_len PySem.boot_len (da_cons (vr 0) da_nil)) de_int) (de_one (de_call F_is_name (hr.mono (by omega)) hx (da_cons (de_ix hu (vr 0) de_int (λ_ _=>rfl)) da_nil)))))) dss_nil)
    (dss_cons (ds_if (PW.pt (dw_or (t_ne hu (de_ix hu (vr 0) de_int (λ_ _=>rfl)) de_str) (dw_or (t_ne hu (de_cb c_len d_len b_len PySem.boot_len (da_cons (vr 0) da_nil)) de_int) (dw_or1 (t_eq hu (vr 1) de_int))))) (dss_one (ds_ret de_bl)) dss_nil)
    (dss_cons (ds_if (PW.pt (dw_or (dt_not (dt_val (de_call F_is_number (hr.mono (by omega)) hx (da_cons (de_ix hu (vr 0) de_int (λ_ _=>rfl)) (da_cons de_int (da_cons (de_num m_LONGEST_ARM) da_nil)))))) (dw_or1 (dt_not (dt_val (de_call F_is_number (hr.mono (by omega)) hx (da_cons (de_ix hu (vr 0) de_int (λ_ _=>rfl)) (da_cons de_int (da_cons (de_num m_LONGEST_ARM) da_nil))))))))) (dss_one (ds_ret de_bl)) dss_nil)
    (dss_one (ds_ret (de_and (de_call F_is_mobile_within (hr.mono (by omega)) hx (da_cons (de_ix hu (vr 0) de_int (λ_ _=>rfl)) (da_cons (de_sub (vr 1) de_int) da_nil))) (de_one (de_call F_is_mobile_within (hr.mono (by omega)) hx (da_cons (de_ix hu (vr 0) de_int (λ_ _=>rfl)) (da_cons (de_sub (vr 1) de_int) da_nil))))))))))),?_⟩
    obtain⟨x,rfl,_,hk,q⟩:=h
    have q:∀A',Gr A A'->R (.bl (isMob d x)) A':=q
    have no : isMob d x = false → R (.bl false) A := fun e => by
      have:=q A Gr.refl
      rwa [e] at this
    cases x with
    | tup xs =>
      cases xs with
      |nil=>exact no (by cases d<;>rfl)
      | cons y ys =>
        have hk:(okA A y&&okAs A ys)=true:=hk
        rw[Bool.and_eq_true] at hk
        have ln:(((y::ys).length:Nat):Int)=(ys.length:Int)+1:=by simp
        conv=>whnf
        rw[at_zero]
        cases y with
        | str k =>
          conv=>whnf
          rw[at_zero]
          refine cD (λck=> ?_) (λck=> ?_)
          · refine cD (fun c2 => ?_) (fun c2 => ?_)
            · have c2 : (((D.str k :: ys).length : Nat) : Int) = 2 := c2
              obtain ⟨n, rfl⟩ : ∃ n, ys = [n] := by
                match ys,ln,c2 with
                |[],ln,c2=>simp at c2
                |[n],_,_=>exact⟨n,rfl⟩
                |_::_::_,ln,c2=>simp at c2;omega
              refine⟨rfl,n,rfl,?_,λA1 g1=> ?_⟩
              · have := hk.2
                simp only[okAs,Bool.and_true] at this
                exact this
              · have e : isMob d (.tup [.str k, n]) = isNa n := by
                  have:isMob d (.tup [.str k,n])=(decide (k="weight")&&isNa n):=by cases d<;>rfl
                  rw[this,decide_eq_true ck,Bool.true_and]
                rw[←e]
                exact q _ g1
            · refine no (isMob_no (fun n e => ?_) fun l r a b e => ?_)
              · exact absurd (by rw[e];rfl) c2
              · rw[ck];decide+kernel
          · conv => whnf
            rw[at_zero]
            refine cN (λc1=> ?_) (λc1=> ?_)
            · exact no (isMob_no2 ck c1)
            · refine cN (fun c2 => ?_) (fun c2 => ?_)
              · refine no (isMob_no (fun n e => ?_) fun l r a b e => ?_)
                · exact ck
                · exact absurd (by rw[e];rfl) c2
              · have c2 : (((D.str k :: ys).length : Nat) : Int) = 5 := c2
                obtain ⟨l, r, a, b, rfl⟩ : ∃ l r a b, ys = [l, r, a, b] := by
                  match ys,c2 with
                  |[l,r,a,b],_=>exact⟨l,r,a,b,rfl⟩
                  |[],c2=>simp at c2
                  |[_],c2=>simp at c2
                  |[_,_],c2=>simp at c2
                  |[_,_,_],c2=>simp at c2
                  |_::_::_::_::_::_,c2=>simp at c2;omega
                have hk2:(okA A l&&(okA A r&&(okA A a&&(okA A b&&true))))=true:=hk.2
                simp only[Bool.and_eq_true,and_true] at hk2
                obtain⟨k1,k2,k3,k4⟩:=hk2
                refine cD (λc3=> ?_) (λc3=> ?_)
                · have : d = 0 := by have c3 : ((d + 1 : Nat) : Int) - 1 = 0 := c3
                                     omega
                  subst this
                  exact no rfl
                · cases d with
                  |zero=>exact absurd rfl c3
                  | succ d =>
                    have ed:((d+1+1:Nat):Int) - 1 - 1=((d+1:Nat):Int) - 1:=by omega
                    have eM : isMob (d + 1) (.tup [.str k, l, r, a, b]) = (isNu l 1 9 && isNu r 1 9 && isMob d a && isMob d b) := by
                      show(decide (k="rod")&&isNu l 1 9&&isNu r 1 9&&isMob d a&&isMob d b)=_
                      rw[decide_eq_true c1,Bool.true_and]
                    rw[eM] at q
                    refine⟨rfl,l,1,9,rfl,k1,λA1 g1=> ?_⟩
                    cases e1:isNu l 1 9 with
                    | false =>
                      rw[e1] at q
                      exact q _ g1
                    | true =>
                      refine⟨rfl,r,1,9,rfl,okA_gr g1 _ k2,λA2 g2=> ?_⟩
                      rw[e1] at q
                      have g12:=g1.trans g2
                      cases e2:isNu r 1 9 with
                      | false =>
                        rw[e2] at q
                        exact q _ g12
                      | true =>
                        rw[e2] at q
                        refine⟨rfl,a,show [a,D.int (((d+1+1:Nat):Int) - 1 - 1)]=_ by rw[ed],by omega,okA_gr g12 _ k3,λA3 g3=> ?_⟩
                        have g13:=g12.trans g3
                        show cond (isMob d a) _ _
                        cases e3:isMob d a with
                        | false =>
                          rw[e3] at q
                          exact q _ g13
                        | true =>
                          rw[e3] at q
                          refine⟨rfl,b,show [b,D.int (((d+1+1:Nat):Int) - 1 - 1)]=_ by rw[ed],by omega,okA_gr g13 _ k4,λA4 g4=> ?_⟩
                          exact q _ (g13.trans g4)
        |exc c=>exact absurd hk.1 (by simp[okA])
        | ref r =>
          rcases okA_ref hk.1 with e|e
          all_goals
            conv=>whnf
            rw[e]
            exact no (by cases d<;>rfl)
        |_=>exact no (by cases d<;>rfl)
    |exc c=>cases hk
    | ref r =>
      rcases okA_ref hk with e|e
      all_goals
        conv=>whnf
        rw[e]
        exact no (by cases d<;>rfl)
    |_=>exact no (by cases d<;>rfl)
theorem fA_mob(T:TopD K mg "is_mobile" s_is_mobile p_is_mobile){t:Tok}(m_MOST_RODS:mg "MOST_RODS" =some (.int 5 t))(F_is_mobile_within:FnX P w K mg base 7 "is_mobile_within" p_is_mobile_within (spOf mg 2 (SImA 6))):FnX P w K mg base 8 "is_mobile" p_is_mobile (spOf mg 1 SMbA):=by
 refine fnD T sc_is_mobile rfl (by decide) λN RE f cdv B outer s H E hr hR hx ds A R h hl=> ?_
 refine⟨_,(dss_one (ds_ret (de_call F_is_mobile_within (hr.mono (by omega)) hx (da_cons (vr 0) (da_cons (de_num m_MOST_RODS) da_nil))))),?_⟩
 obtain⟨x,rfl,hk,q⟩:=h
 exact⟨rfl,x,rfl,by decide,hk,q⟩
end
end My
namespace DP
open PySem PySem.Spec PyProof.Rows L2 MA
theorem isNa_str{x:D}(h:isNa x=true):∃n,x= .str n∧Nm n:=by
 cases x with
 |str n=>
  unfold isNa at h
  rw[Bool.and_eq_true,Bool.and_eq_true,decide_eq_true_eq,decide_eq_true_eq] at h
  obtain⟨⟨h1,h2⟩,h3⟩:=h
  refine⟨n,rfl,⟨by omega,by omega,λc hc=> ?_⟩⟩
  have:=List.all_eq_true.mp h3 (.str ⟨#[c]⟩) (List.mem_map.mpr ⟨c,hc,rfl⟩)
  have this:(!decide ((⟨#[c]⟩:Str).cps.toList<("a" :Str).cps.toList)&& !decide (("z" :Str).cps.toList<(⟨#[c]⟩:Str).cps.toList))=true:=this
  rw[My.sg_a,My.sg_z] at this
  simp only[Bool.and_eq_true,Bool.not_eq_true',decide_eq_false_iff_not] at this
  have t1:¬([c]:List Nat)<[97]:=this.1
  have t2:¬([122]:List Nat)<[c]:=this.2
  rw[My.one_lt] at t1 t2
  omega
 |_=>cases h
theorem okAs_mem'{A:Ar}:∀{xs:List D} {x:D},okAs A xs=true->x∈xs->okA A x=true
 |y::xs,x,h,hx=>by
  have h:(okA A y&&okAs A xs)=true:=h
  rw[Bool.and_eq_true] at h
  rcases List.mem_cons.mp hx with rfl|hx
  .exact h.1
  .exact okAs_mem' h.2 hx
end DP
namespace My
open PySem PySem.Spec PyProof.Rows L2 DP MA
section
variable{P:Program}{w:World}{K:PySem.W.Frag}{mg:Str->Option Value}{base:Heap}
end
end My
namespace DP
open PySem PySem.Spec PyProof.Rows L2 MA
theorem nuH_of{x:D}{a b:Int}(h:isNu x a b=true):∃i,x= .int i∧a≤i∧i≤b:=by
 cases x with
 |int i=>
  have h:(decide (a≤i)&&decide (i≤b))=true:=h
  rw[Bool.and_eq_true,decide_eq_true_eq,decide_eq_true_eq] at h
  exact⟨i,rfl,h.1,h.2⟩
 |_=>cases h
theorem mobH_of:∀(d:Nat) (x:D),isMob d x=true->∃m:M,x=enc m∧Wf m∧m.deep≤d:=by
 have leaf:∀(d:Nat) (k:Str) (n:D),(decide (k="weight")&&isNa n)=true->∃m:M,D.tup [.str k,n]=enc m∧Wf m∧m.deep≤d:=λd k n h=>by
  rw[Bool.and_eq_true,decide_eq_true_eq] at h
  obtain⟨rfl,h⟩:=h
  obtain⟨n,rfl,hn⟩:=isNa_str h
  exact⟨.wt n,rfl,⟨trivial,λz hz=>by rw[show z=n by simpa[Mob.names] using hz];exact hn⟩,Nat.zero_le _⟩
 intro d
 induction d with
 |zero=>
  intro x h
  unfold isMob at h
  split at h
  .exact leaf _ _ _ h
  .rename_i e
   cases e
  .cases h
 |succ d ih=>
  intro x h
  unfold isMob at h
  split at h
  .exact leaf _ _ _ h
  .rename_i d' k l r a b e
   cases e
   rw[Bool.and_eq_true,Bool.and_eq_true,Bool.and_eq_true,Bool.and_eq_true,decide_eq_true_eq] at h
   obtain⟨⟨⟨⟨rfl,hl⟩,hr⟩,ha⟩,hb⟩:=h
   obtain⟨l,rfl,l1,l2⟩:=nuH_of hl
   obtain⟨r,rfl,r1,r2⟩:=nuH_of hr
   obtain⟨a,rfl,wa,da⟩:=ih a ha
   obtain⟨b,rfl,wb,db⟩:=ih b hb
   refine⟨.rod l r a b,rfl,⟨⟨l1,l2,r1,r2,wa.arms,wb.arms⟩,λz hz=> ?_⟩,?_⟩
   .have hz:z∈a.names++b.names:=hz
    rcases List.mem_append.mp hz with hz|hz
    .exact wa.nm z hz
    .exact wb.nm z hz
   .show max a.deep b.deep+1≤d+1
    omega
  .cases h
def putT(T:Tb)(n:Str)(x:Rat):Tb:=if (T.any λp=>decide (p.1=n))=true then T.map (λp=>if p.1=n then (p.1,x) else p) else T++[(n,x)]
def tabF(m:M):Tb:=(sh3 m "" 1).foldl (λT p=>putT T p.2.1 p.2.2) []
theorem kvT_put(T:Tb)(n:Str)(x:Rat):kvT (putT T n x)=putG (kvT T) (Sum.inr n) (fq x):=by
 have e:((kvT T).any λkv=>decide (kv.1=(Sum.inr n:Key)))=T.any λp=>decide (p.1=n):=by
  unfold kvT
  rw[List.any_map]
  congr 1
  funext p
  show decide ((Sum.inr p.1:Key)=Sum.inr n)=decide (p.1=n)
  by_cases h:p.1=n
  .rw[decide_eq_true h,decide_eq_true (by rw[h])]
  .rw[decide_eq_false h,decide_eq_false (λz=>h (Sum.inr.inj z))]
 unfold putT putG
 rw[e]
 split
 .unfold kvT
  rw[List.map_map,List.map_map]
  refine List.map_congr_left λp _=> ?_
  show((Sum.inr (if p.1=n then (p.1,x) else p).1:Key),fq (if p.1=n then (p.1,x) else p).2)=if (Sum.inr p.1:Key)=Sum.inr n then (Sum.inr p.1,fq x) else (Sum.inr p.1,fq p.2)
  by_cases h:p.1=n
  .rw[if_pos h,if_pos (by rw[h])]
  .rw[if_neg h,if_neg (λz=>h (Sum.inr.inj z))]
 .unfold kvT
  simp
theorem kvT_fold:∀(rows:List (Str×Str×Rat)) (T:Tb),kvT (rows.foldl (λT p=>putT T p.2.1 p.2.2) T)=((rows.map λp=>(p.2.1,fq p.2.2)).map λp=>((Sum.inr p.1:Key),p.2)).foldl (λacc p=>putG acc p.1 p.2) (kvT T)
 |[],T=>rfl
 |p::rows,T=>by
  rw[List.foldl_cons,kvT_fold rows,kvT_put]
  rfl
theorem putT_keys(T:Tb)(n:Str)(x:Rat):ksT (putT T n x)=if n∈ksT T then ksT T else ksT T++[n]:=by
 have e:(T.any λp=>decide (p.1=n))=decide (n∈ksT T):=by
  rw[Bool.eq_iff_iff,List.any_eq_true,decide_eq_true_eq]
  constructor
  .rintro ⟨p,hp,h⟩
   rw[←of_decide_eq_true h]
   exact List.mem_map_of_mem hp
  .intro h
   obtain⟨p,hp,e⟩:=List.mem_map.mp h
   exact⟨p,hp,decide_eq_true e⟩
 unfold putT
 rw[e]
 by_cases h:n∈ksT T
 .rw[if_pos (decide_eq_true h),if_pos h]
  unfold ksT
  rw[List.map_map]
  refine List.map_congr_left λp _=> ?_
  show(if p.1=n then (p.1,x) else p).1=p.1
  split<;>rfl
 .rw[if_neg (by simpa using h),if_neg h]
  simp[ksT]
theorem foldT:∀(rows:List (Str×Str×Rat)) (T:Tb) (g:Str->Rat),(ksT T).Nodup->(∀p∈T,p.2=g p.1)->(∀r∈rows,r.2.2=g r.2.1)->
  (ksT (rows.foldl (λT p=>putT T p.2.1 p.2.2) T)).Nodup∧(∀p∈rows.foldl (λT p=>putT T p.2.1 p.2.2) T,p.2=g p.1)∧∀n,n∈ksT (rows.foldl (λT p=>putT T p.2.1 p.2.2) T)↔n∈ksT T∨n∈rows.map (·.2.1)
 |[],T,g,h1,h2,_=>⟨h1,h2,λn=>by simp⟩
 |r::rows,T,g,h1,h2,h3=>by
  have k1:(ksT (putT T r.2.1 r.2.2)).Nodup:=by
   rw[putT_keys]
   split
   .exact h1
   .rename_i hn
    rw[List.nodup_append]
    refine⟨h1,by simp,λa ha b hb=> ?_⟩
    simp at hb
    rw[hb]
    exact λz=>hn (by rw[←z];exact ha)
  have k2:∀p∈putT T r.2.1 r.2.2,p.2=g p.1:=λp hp=>by
   have e:=h3 r (List.mem_cons_self ..)
   unfold putT at hp
   split at hp
   .obtain⟨p',hp',rfl⟩:=List.mem_map.mp hp
    by_cases hc:p'.1=r.2.1
    .rw[if_pos hc]
     show r.2.2=g p'.1
     rw[e,hc]
    .rw[if_neg hc]
     exact h2 p' hp'
   .rcases List.mem_append.mp hp with hp|hp
    .exact h2 p hp
    .rw[List.mem_singleton.mp hp]
     exact e
  obtain⟨j1,j2,j3⟩:=foldT rows _ g k1 k2 λx hx=>h3 x (List.mem_cons_of_mem _ hx)
  refine⟨j1,j2,λn=> ?_⟩
  rw[List.foldl_cons,j3,putT_keys]
  by_cases h:r.2.1∈ksT T
  .rw[if_pos h]
   simp
   constructor
   .rintro (h'|h')
    .exact .inl h'
    .exact .inr (.inr h')
   .rintro (h'|rfl|h')
    .exact .inl h'
    .exact .inl h
    .exact .inr h'
  .rw[if_neg h]
   simp[or_assoc]
structure Hl(m:M):Prop where
 wf:Wf m
 deep:m.deep≤5
 bar:barM [] (sh3 m "" 1)=none
theorem tabF_ok{m:M}(h:Hl m):TOk (tabF m)∧(∀n,n∈ksT (tabF m)↔n∈m.names)∧∀n∈ksT (tabF m),shT (tabF m) n=shr m n:=by
 obtain⟨k1,k2⟩:=shr_ok h.bar
 obtain⟨j1,j2,j3⟩:=foldT (sh3 m "" 1) [] (shr m) List.nodup_nil (λp hp=>by cases hp) k1
 have hn:(sh3 m "" 1).map (·.2.1)=m.names:=sh3_names m "" 1
 have mem:∀n,n∈ksT (tabF m)↔n∈m.names:=λn=>by
  show n∈ksT ((sh3 m "" 1).foldl (λT p=>putT T p.2.1 p.2.2) [])↔_
  rw[j3,hn]
  simp[ksT]
 have lk':(ksT (tabF m)).length=(tabF m).length:=by simp[ksT]
 have nl:=names_small h.deep
 refine⟨⟨j1,λz=> ?_,?_,λp hp=> ?_⟩,mem,λn hn'=> ?_⟩
 .have hpos:=Mob.names_pos m
  cases e:m.names with
  |nil=>rw[e] at hpos;simp at hpos
  |cons n t=>
   have:=(mem n).mpr (by rw[e];simp)
   rw[z] at this
   cases this
 .have:=nd_le (ksT (tabF m)) m.names j1 λx hx=>(mem x).mp hx
  omega
 .have e:p.2=shr m p.1:=j2 p hp
  rw[e]
  exact shr_fok h.wf.arms h.deep h.bar ((mem p.1).mp (List.mem_map_of_mem hp))
 .have:=find_some (T:=tabF m) (n:=n)
  rw[decide_eq_true (show n∈(tabF m).map (·.1) from hn')] at this
  obtain⟨p,hp⟩:=Option.isSome_iff_exists.mp this
  unfold shT
  rw[hp]
  have h2:=List.find?_some hp
  have e1:p.1=n:=of_decide_eq_true h2
  rw[←e1]
  exact j2 p (List.mem_of_find?_eq_some hp)
def SNshF:Ct:=λds A R _=>∃m,ds=[enc m]∧Hl m∧∀A' q,Gr A A'->A'[q]? =some (.dct (kvT (tabF m)))->A.length≤q->R (.ref q) A'
def IsHall(x:D)(ms:List M):Prop:=x= .tup (ms.map enc)∧1≤ms.length∧ms.length≤6∧∀m∈ms,Hl m
def SChH:Ct:=λds A R E=>∃x,ds=[x]∧okA A x=true∧((∃ms,IsHall x ms)->∀A',Gr A A'->R .non A')∧((¬∃ms,IsHall x ms)->∀A',Gr A A'->E "NoHall" A')
def SHsh:Ct:=λds A R E=>∃x,ds=[x]∧okA A x=true∧(∀ms,IsHall x ms->∀A' q,Gr A A'->BPl A' q (ms.map tabF)->A.length≤q->R (.ref q) A')∧((¬∃ms,IsHall x ms)->∀A',Gr A A'->E "NoHall" A')
theorem enc_inj:∀{a b:M},enc a=enc b->a=b
 | .wt n,.wt k,h=>by
  have h:D.tup [.str "weight",.str n]= .tup [.str "weight",.str k]:=h
  simp at h
  rw[h]
 | .wt n,.rod l r a b,h=>by
  have h:D.tup [.str "weight",.str n]= .tup [.str "rod",.int l,.int r,enc a,enc b]:=h
  simp at h
 | .rod l r a b,.wt n,h=>by
  have h:D.tup [.str "rod",.int l,.int r,enc a,enc b]= .tup [.str "weight",.str n]:=h
  simp at h
 | .rod l r a b,.rod l' r' a' b',h=>by
  have h:D.tup [.str "rod",.int l,.int r,enc a,enc b]= .tup [.str "rod",.int l',.int r',enc a',enc b']:=h
  simp at h
  obtain⟨h1,h2,h3,h4⟩:=h
  rw[h1,h2,enc_inj h3,enc_inj h4]
theorem enc_map_inj:∀{ms ms':List M},ms.map enc=ms'.map enc->ms=ms'
 |[],[],_=>rfl
 |[],_::_,h=>by cases h
 |_::_,[],h=>by cases h
 |m::ms,m'::ms',h=>by
  rw[List.map_cons,List.map_cons,List.cons.injEq] at h
  rw[enc_inj h.1,enc_map_inj h.2]
theorem TabsAt.snoc{A:Ar}{q:Nat}{T:Tb}(hq:TabAt A q T):∀{qs:List Nat} {Ts:List Tb},TabsAt A qs Ts->TabsAt A (qs++[q]) (Ts++[T])
 |[],[],_=>⟨hq,trivial⟩
 |_::qs,_::Ts,h=>⟨h.1,TabsAt.snoc hq h.2⟩
 |[],_::_,h=>h.elim
 |_::_,[],h=>h.elim
end DP
namespace My
open PySem PySem.Spec PyProof.Rows L2 DP MA
section
variable{P:Program}{w:World}{K:PySem.W.Frag}{mg:Str->Option Value}{base:Heap}
theorem f_nshF(T:TopD K mg "name_shares" s_name_shares p_name_shares)(b_dict:mg "dict" =none)(F_shares:FnX P w K mg base 10 "shares" p_shares (spOf mg 1 SShs)):FnX P w K mg base 11 "name_shares" p_name_shares (spOf mg 1 SNshF):=by
 refine fnD T sc_name_shares rfl (by decide) λN RE f cdv B outer s H E hr hR hx ds A R h hl=> ?_
 have hu:=hr.units
 refine⟨_,(dss_one (ds_ret (de_cty (call_dictP rfl) d_dict b_dict boot_dict (da_cons (de_comp (some 3) (own:=["way","name","share"]) (frees:=[]) (ix:=[]) rfl (di_seq (de_call F_shares (hr.mono (by omega)) hx (da_cons (vr 0) da_nil))) (λc=>(pg_tup rfl (pgs_cons (pg_name (i:=0) (show(["way","name","share"]:List Str).Nodup by decide+kernel) rfl (by first|exact Or.inl rfl|exact Or.inr rfl)) (pgs_cons (pg_name (i:=1) (show(["way","name","share"]:List Str).Nodup by decide+kernel) rfl (by first|exact Or.inl rfl|exact Or.inr rfl)) (pgs_cons (pg_name (i:=2) (show(["way","name","share"]:List Str).Nodup by decide+kernel) rfl (by first|exact Or.inl rfl|exact Or.inr rfl)) pgs_nil))))) (λc=>(de_tup (da_cons (vr 1) (da_cons (vr 2) da_nil))))) da_nil)))),?_⟩
 obtain⟨m,rfl,hh,q⟩:=h
 have hd:=hh.deep
 have hz:(1000:Nat)≤sizeLine:=by decide
 refine⟨rfl,m,rfl,hh.wf,hd,λA1 q1 g1 h1 l1=> ?_⟩
 refine it_ok h1 ?_
 have ln:=sh3_len m "" 1
 have nl:=names_small hd
 refine cloop_map (f:=λd=>match d with| .tup [_,n,x]=> .tup [n,x]|d=>d) h1 _ _ (λd hd=> ?_) (by simp;omega) ?_
 .obtain⟨p,hp,rfl⟩:=List.mem_map.mp hd
  exact⟨[.str p.1,.str p.2.1,fq p.2.2],rfl,λQ hQ=>⟨show 2≤sizeLine by decide,hQ⟩⟩
 have e:((sh3 m "" 1).map s3D).map (λd=>match d with| .tup [_,n,x]=>D.tup [n,x]|d=>d)=(sh3 m "" 1).map nsD:=by
  rw[List.map_map]
  rfl
 rw[List.nil_append,e]
 refine dctl_ok last_get (pairs_ns _) (by simp;omega) ?_
 refine q _ _ ((g1.trans Gr.push).trans Gr.push) ?_ (by have:=g1.len;simp;omega)
 have ek:kvT (tabF m)=putAllD (((sh3 m "" 1).map λp=>(p.2.1,fq p.2.2)).map λp=>((Sum.inr p.1:Key),p.2)):=kvT_fold _ []
 rw[ek]
 exact last_get
theorem f_chh(T:TopD K mg "check_hall" s_check_hall p_check_hall)(b_isinstance:mg "isinstance" =none)(b_tuple:mg "tuple" =none)(b_len:mg "len" =none){t:Tok}(m_MOST_MOBILES:mg "MOST_MOBILES" =some (.int 6 t)){a_NoHall:Addr}(m_NoHall:mg "NoHall" =some (.ref a_NoHall))(x_NoHall:PySem.W.excIn K a_NoHall vErr "ValueError.__new__" =true)
  (F_is_mobile:FnX P w K mg base 8 "is_mobile" p_is_mobile (spOf mg 1 SMbA))(F_bar:FnX P w K mg base 11 "bar" p_bar (spOf mg 1 SBar)):FnX P w K mg base 12 "check_hall" p_check_hall (spOf mg 1 SChH):=by
 refine fnD T sc_check_hall rfl (by decide) λN RE f cdv B outer s H E hr hR hx ds A R h hl=> ?_
 have hu:=hr.units
 have nd:=sc_check_hall.nd
 refine⟨_,(dss_cons (ds_if (PW.pt (dw_or (dt_not (dt_val (de_is kit_tuple b_isinstance b_tuple boot_tuple (vr 0)))) (dw_or1 (dt_not (t_lele de_int (de_cb c_len d_len b_len PySem.boot_len (da_cons (vr 0) da_nil)) (de_num m_MOST_MOBILES)))))) (dss_one (ds_raise hR rfl m_NoHall x_NoHall (da_cons de_str da_nil))) dss_nil)
  (dss_one (ds_for ownX rfl (di_seq (vr 0)) (dg_name (i:=1) nd rfl (by first|exact Or.inl rfl|exact Or.inr rfl)) (dss_one (ds_if (PW.pt (dw_or (dt_not (dt_val (de_call F_is_mobile (hr.mono (by omega)) hx (da_cons (vr 1) da_nil)))) (dw_or1 (t_isnt (de_call F_bar (hr.mono (by omega)) hx (da_cons (vr 1) da_nil)) de_non)))) (dss_one (ds_raise hR rfl m_NoHall x_NoHall (da_cons de_str da_nil))) dss_nil))))),?_⟩
 obtain⟨x,rfl,hk,q1,q2⟩:=h
 have hz:(1000:Nat)≤sizeLine:=by decide
 have no:(¬∃ms,IsHall x ms)->∀A',Gr A A'->1≤sizeLine∧RE "NoHall" A':=λh A' g=>⟨by omega,q2 h A' g⟩
 have notup:(∀xs,x≠ .tup xs)->¬∃ms,IsHall x ms:=λh ⟨ms,e,_⟩=>h _ e
 cases x with
 |tup xs=>
  have hk:okAs A xs=true:=hk
  refine cD (λc1=> ?_) (λc1=> ?_)
  rotate_left
  .have c1:¬(1:Int)≤((xs.length:Nat):Int):=c1
   exact no (λ⟨ms,e,h1,_,_⟩=>by
    have e:=D.tup.inj e
    rw[e,List.length_map] at c1
    omega) _ Gr.refl
  refine cN (λc2=> ?_) (λc2=> ?_)
  .have c2:¬((xs.length:Nat):Int)≤6:=c2
   exact no (λ⟨ms,e,_,h2,_⟩=>by
    have e:=D.tup.inj e
    rw[e,List.length_map] at c2
    omega) _ Gr.refl
  have c1:(1:Int)≤((xs.length:Nat):Int):=c1
  have c2:((xs.length:Nat):Int)≤6:=c2
  refine dloop_I (λrest τ A'=>∃(dn:List M) (more:List D) (y:Option D),rest=more∧dn.map enc++more=xs∧(∀m∈dn,Hl m)∧τ=[some (.tup xs),y]∧Gr A A') ?_ ?_ ?_ _ _ _ ⟨[],xs,none,rfl,rfl,(λ_ h=>by cases h),rfl,Gr.refl⟩
  .intro _ _ _ _
   trivial
  .rintro v rest τ A1 ⟨dn,more,y,rfl,hdm,hh,rfl,g⟩ Nx hN
   have hv:v∈xs:=by rw[←hdm];simp
   have bad:(¬∃m,v=enc m∧Hl m)->¬∃ms,IsHall (.tup xs) ms:=λhb ⟨ms,e,_,_,h4⟩=>by
    have e:=D.tup.inj e
    rw[e] at hv
    obtain⟨m,hm,rfl⟩:=List.mem_map.mp hv
    exact hb ⟨m,rfl,h4 m hm⟩
   refine⟨rfl,v,rfl,okA_gr g _ (okAs_mem' hk hv),λA2 g2=> ?_⟩
   cases hm:isMob 5 v with
   |false=>
    refine no (bad λ⟨m,e,h⟩=> ?_) _ (g.trans g2)
    rw[e,isMob_enc h.wf h.deep] at hm
    cases hm
   |true=>
    obtain⟨m,rfl,wm,dm⟩:=mobH_of 5 v hm
    refine⟨rfl,m,rfl,wm,dm,λA3 g3=> ?_⟩
    cases hb:barM [] (sh3 m "" 1) with
    |some p=>
     refine no (bad λ⟨m',e,h⟩=> ?_) _ ((g.trans g2).trans g3)
     rw[←enc_inj e] at h
     have hb2:=h.bar
     rw[hb] at hb2
     cases hb2
    |none=>
     exact hN _ _ ⟨dn++[m],rest,_,rfl,by simpa using hdm,λm' hm'=>by
      rcases List.mem_append.mp hm' with h|h
      .exact hh m' h
      .rw[List.mem_singleton.mp h]
       exact⟨wm,dm,hb⟩,rfl,(g.trans g2).trans g3⟩
  .rintro τ A1 ⟨dn,more,y,e,hdm,hh,rfl,g⟩
   subst e
   rw[List.append_nil] at hdm
   refine q1 ⟨dn,by rw[hdm],?_,?_,hh⟩ _ g
   .rw[←hdm,List.length_map] at c1
    omega
   .rw[←hdm,List.length_map] at c2
    omega
 |exc c=>cases hk
 |ref r=>
  rcases okA_ref hk with e|e
  all_goals
   conv=>whnf
   rw[e]
   exact no (notup λxs h=>by cases h) _ Gr.refl
 |_=>exact no (notup λxs h=>by cases h) _ Gr.refl
theorem f_hsh(T:TopD K mg "hall_shares" s_hall_shares p_hall_shares)(F_check_hall:FnX P w K mg base 12 "check_hall" p_check_hall (spOf mg 1 SChH))(F_name_shares:FnX P w K mg base 11 "name_shares" p_name_shares (spOf mg 1 SNshF)):FnX P w K mg base 13 "hall_shares" p_hall_shares (spOf mg 1 SHsh):=by
 refine fnD T sc_hall_shares rfl (by decide) λN RE f cdv B outer s H E hr hR hx ds A R h hl=> ?_
 have hu:=hr.units
 have nd:=sc_hall_shares.nd
 refine⟨_,(dss_cons (ds_expr (de_call F_check_hall (hr.mono (by omega)) hx (da_cons (vr 0) da_nil)))
  (dss_one (ds_ret (de_comp none (own:=["mobile"]) (frees:=[]) (ix:=[]) rfl (di_seq (vr 0)) (λc=>(pg_name (i:=0) (show(["mobile"]:List Str).Nodup by decide+kernel) rfl (by first|exact Or.inl rfl|exact Or.inr rfl))) (λc=>(de_call F_name_shares (hr.mono (by omega)) pass0D (da_cons (vr 0) da_nil))))))),?_⟩
 obtain⟨x,rfl,hk,q1,q2⟩:=h
 have hz:(1000:Nat)≤sizeLine:=by decide
 refine⟨rfl,x,rfl,hk,λ⟨ms,hH⟩ A1 g1=> ?_,λhn A1 g1=>q2 hn _ g1⟩
 have q3:=q1 ms hH
 clear q1
 obtain⟨rfl,h1,h6,hh⟩:=hH
 refine cloop_I (λrest ys A'=>∃(dn more:List M) (ts:List Nat),rest=more.map enc∧dn++more=ms∧ys=ts.map D.ref∧TabsAt A' ts (dn.map tabF)∧Gr A1 A') ?_ ?_ ?_ ?_ _ _ _ ⟨[],ms,[],rfl,rfl,rfl,trivial,Gr.refl⟩
 .intro _ _ _ _
  trivial
 .rintro rest ys A' ⟨dn,more,ts,_,e,rfl,hT,_⟩
  have l1:=hT.len
  have l2:=congrArg List.length e
  rw[List.length_append] at l2
  rw[List.length_map] at l1 ⊢
  omega
 .rintro y rest ys A' ⟨dn,more,ts,e,hdm,rfl,hT,g⟩
  cases more with
  |nil=>cases e
  |cons m more=>
   cases e
   refine⟨[enc m],rfl,λQ hQ=>⟨rfl,m,rfl,hh m (by rw[←hdm];simp),λA2 q2 g2 h2 l2=>hQ _ _ ⟨dn++[m],more,ts++[q2],rfl,by simpa using hdm,by simp,?_,g.trans g2⟩⟩⟩
   rw[List.map_append]
   exact TabsAt.snoc (.inl h2) (hT.gr g2)
 .rintro ys A' ⟨dn,more,ts,e,hdm,rfl,hT,g⟩
  cases more with
  |cons _ _=>cases e
  |nil=>
   have hdm:dn=ms:=by simpa using hdm
   subst hdm
   have g2:=(g1.trans g).trans (Gr.push (T:=[C.lst (ts.map D.ref)]))
   exact q3 _ _ g2 ⟨ts,last_get,hT.gr Gr.push⟩ (g1.trans g).len
end
end My
namespace DP
open PySem PySem.Spec PyProof.Rows L2 MA
def SRin:Ct:=λds A R E=>∃x NN,ds=[x]∧okA A x=true∧(∀ms,IsHall x ms->HOk6 (ms.map tabF) NN∧(rgF (ms.map tabF)=none->∀A',Gr A A'->R .non A')∧∀ss,rgF (ms.map tabF)=some ss->∀A' q,Gr A A'->A'[q]? =some (.lst (ss.map stD))->A.length≤q->R (.ref q) A')∧((¬∃ms,IsHall x ms)->∀A',Gr A A'->E "NoHall" A')
end DP
namespace My
open PySem PySem.Spec PyProof.Rows L2 DP MA
section
variable{P:Program}{w:World}{K:PySem.W.Frag}{mg:Str->Option Value}{base:Heap}
theorem f_rin(T:TopD K mg "ring" s_ring p_ring)(F_hall_shares:FnX P w K mg base 13 "hall_shares" p_hall_shares (spOf mg 1 SHsh))(F_find_ring:FnX P w K mg base 5 "find_ring" p_find_ring (spOf mg 1 SRng)):FnX P w K mg base 14 "ring" p_ring (spOf mg 1 SRin):=by
 refine fnD T sc_ring rfl (by decide) λN RE f cdv B outer s H E hr hR hx ds A R h hl=> ?_
 have hu:=hr.units
 have nd:=sc_ring.nd
 refine⟨_,(dss_one (ds_ret (de_call F_find_ring (hr.mono (by omega)) hx (da_cons (de_call F_hall_shares (hr.mono (by omega)) hx (da_cons (vr 0) da_nil)) da_nil)))),?_⟩
 obtain⟨x,NN,rfl,hk,q1,q2⟩:=h
 refine⟨rfl,x,rfl,hk,λms hH A1 q3 g1 hB l1=> ?_,λhn A1 g1=>q2 hn _ g1⟩
 obtain⟨hok,q4,q5⟩:=q1 ms hH
 exact⟨rfl,q3,_,NN,rfl,hB,hok,λe A2 g2=>q4 e _ (g1.trans g2),λss e A2 p g2 h2 l2=>q5 ss e _ _ (g1.trans g2) h2 (by have:=g1.len;omega)⟩
end
end My
namespace DP
open PySem PySem.Spec PyProof.Rows L2 MA
def Adj(Ts:List Tb)(a b:Str):Prop:=∃T∈Ts,a∈ksT T∧b∈ksT T
inductive Rch(Ts:List Tb):Str->Str->Prop
 |refl (a:Str):Rch Ts a a
 |step {a b c:Str}:Rch Ts a b->Adj Ts b c->Rch Ts a c
theorem Adj.symm{Ts:List Tb}{a b:Str}(h:Adj Ts a b):Adj Ts b a:=by
 obtain⟨T,h1,h2,h3⟩:=h
 exact⟨T,h1,h3,h2⟩
theorem Rch.trans{Ts:List Tb}{a b c:Str}(h:Rch Ts a b)(k:Rch Ts b c):Rch Ts a c:=by
 induction k with
 |refl=>exact h
 |step _ e ih=>exact .step ih e
theorem Rch.symm{Ts:List Tb}{a b:Str}(h:Rch Ts a b):Rch Ts b a:=by
 induction h with
 |refl=>exact .refl _
 |step _ e ih=>exact(Rch.step (.refl _) e.symm).trans ih
theorem adj_st{Ts:List Tb}{a b:Str}:Adj Ts a b↔∃s∈stF Ts a,s.2.2=b:=by
 constructor
 .rintro ⟨T,hT,h1,h2⟩
  obtain⟨i,hi,e⟩:=List.getElem_of_mem hT
  exact⟨(i,a,b),mem_stF.mpr ⟨T,by rw[List.getElem?_eq_getElem hi,e],h1,rfl,h2⟩,rfl⟩
 .rintro ⟨s,hs,rfl⟩
  obtain⟨T,h1,h2,h3,h4⟩:=mem_stF.mp hs
  exact⟨T,List.mem_of_getElem? h1,h2,h4⟩
inductive Chn(Ts:List Tb):Str->List Stp->Str->Prop
 |nil (a:Str):Chn Ts a [] a
 |snoc {a b:Str} {l:List Stp} {s:Stp}:Chn Ts a l s.2.1->StpOk Ts s->s.2.2=b->Chn Ts a (l++[s]) b
theorem Chn.rch{Ts:List Tb}{a b:Str}{l:List Stp}(h:Chn Ts a l b):Rch Ts a b:=by
 induction h with
 |nil=>exact .refl _
 |snoc _ hs e ih=>
  obtain⟨T,h1,h2,h3⟩:=hs
  exact .step ih ⟨T,List.mem_of_getElem? h1,h2,by rw[←e];exact h3⟩
theorem foldS_chn{Ts:List Tb}{a:Str}:∀(ss:List Stp) (P:Pth),(∀s∈ss,StpOk Ts s∧s.2.1∈ksP P)->(∀p∈P,Chn Ts a p.2 p.1)->∀p∈ss.foldl addS P,Chn Ts a p.2 p.1
 |[],P,_,h=>h
 |s::ss,P,hs,h=>by
  obtain⟨s1,s2⟩:=hs s (List.mem_cons_self ..)
  refine foldS_chn ss (addS P s) (λx hx=>⟨(hs x (List.mem_cons_of_mem _ hx)).1,(addS_keys P s _).mpr (.inl (hs x (List.mem_cons_of_mem _ hx)).2)⟩) λp hp=> ?_
  unfold addS at hp
  split at hp
  .exact h p hp
  .rcases List.mem_append.mp hp with hp|hp
   .exact h p hp
   .rw[List.mem_singleton.mp hp]
    exact .snoc (h _ (lkP_mem s2)) s1 rfl
theorem stF_ok{Ts:List Tb}{n:Str}{s:Stp}(h:s∈stF Ts n):StpOk Ts s∧s.2.1=n:=by
 obtain⟨T,h1,h2,h3,h4⟩:=mem_stF.mp h
 exact⟨⟨T,h1,by rw[h3];exact h2,h4⟩,h3⟩
theorem bfs_chn{Ts:List Tb}{a:Str}:∀(f i:Nat) (P:Pth),(∀p∈P,Chn Ts a p.2 p.1)->∀p∈bfs Ts f i P,Chn Ts a p.2 p.1
 |0,i,P,h=>h
 |f+1,i,P,h=>by
  cases e:P[i]? with
  |none=>
   have:bfs Ts (f+1) i P=P:=by
    show(match P[i]? with|some p=>bfs Ts f (i+1) ((stF Ts p.1).foldl addS P)|none=>P)=_
    rw[e]
   rw[this]
   exact h
  |some p0=>
   rw[bfs_step e]
   refine bfs_chn f (i+1) _ (foldS_chn _ _ (λs hs=> ?_) h)
   obtain⟨h1,h2⟩:=stF_ok hs
   exact⟨h1,by rw[h2];exact List.mem_map_of_mem (List.mem_of_getElem? e)⟩
theorem bfs_cl{Ts:List Tb}{NN:List Str}(hok:HOk6 Ts NN):∀(f i:Nat) (P:Pth),POk P NN->13≤f+i->(∀j,j<i->∀p,P[j]? =some p->∀b,Adj Ts p.1 b->b∈ksP P)->∀p∈bfs Ts f i P,∀b,Adj Ts p.1 b->b∈ksP (bfs Ts f i P)
 |0,i,P,hP,hf,hc=>λp hp b hb=>by
  have hl:=Nat.le_trans hP.len hok.nn
  obtain⟨j,hj,e⟩:=List.getElem_of_mem (show p∈P from hp)
  exact hc j (by omega) p (by rw[List.getElem?_eq_getElem hj,e]) b hb
 |f+1,i,P,hP,hf,hc=>by
  cases e:P[i]? with
  |none=>
   have eb:bfs Ts (f+1) i P=P:=by
    show(match P[i]? with|some p=>bfs Ts f (i+1) ((stF Ts p.1).foldl addS P)|none=>P)=_
    rw[e]
   rw[eb]
   intro p hp b hb
   obtain⟨j,hj,e2⟩:=List.getElem_of_mem hp
   have:P.length≤i:=List.getElem?_eq_none_iff.mp e
   exact hc j (by omega) p (by rw[List.getElem?_eq_getElem hj,e2]) b hb
  |some p0=>
   rw[bfs_step e]
   obtain⟨X,eX⟩:=foldS_pre (stF Ts p0.1) P
   have hp0:p0.1∈ksP P:=List.mem_map_of_mem (List.mem_of_getElem? e)
   have hil:=(List.getElem?_eq_some_iff.mp e).1
   have key:∀(ss:List Stp) (Q:Pth),(∀s∈ss,s∈stF Ts p0.1)->POk Q NN->p0.1∈ksP Q->POk (ss.foldl addS Q) NN:=by
    intro ss
    induction ss with
    |nil=>intro Q _ h _;exact h
    |cons s ss ih=>
     intro Q hs hQ hp
     obtain⟨T,hT,_,e2,e3⟩:=mem_stF.mp (hs s (List.mem_cons_self ..))
     exact ih _ (λx hx=>hs x (List.mem_cons_of_mem _ hx)) (hQ.add (by rw[e2];exact hp) (hok.sub T (List.mem_of_getElem? hT) _ e3)) ((addS_keys Q s p0.1).mpr (.inl hp))
   refine bfs_cl hok f (i+1) _ (key _ _ (λs h=>h) hP hp0) (by omega) λj hj p hp b hb=> ?_
   rw[foldS_keys]
   by_cases hji:j<i
   .rw[eX,List.getElem?_append_left (by omega)] at hp
    exact .inl (hc j hji p hp b hb)
   .have:j=i:=by omega
    subst this
    rw[eX,List.getElem?_append_left hil,e] at hp
    cases hp
    obtain⟨s,hs,rfl⟩:=adj_st.mp hb
    exact .inr (List.mem_map_of_mem hs)
theorem paths_chn{Ts:List Tb}{n:Str}:∀p∈pathsF Ts n,Chn Ts n p.2 p.1:=bfs_chn 14 0 _ λp hp=>by
 have:p=(n,[]):=by simpa using hp
 rw[this]
 exact .nil _
theorem paths_iff{Ts:List Tb}{NN:List Str}(hok:HOk6 Ts NN){n:Str}(hn:n∈NN){m:Str}:m∈ksP (pathsF Ts n)↔Rch Ts n m:=by
 constructor
 .intro h
  obtain⟨p,hp,rfl⟩:=List.mem_map.mp h
  exact(paths_chn p hp).rch
 .intro h
  have h0:POk [(n,[])] NN:=⟨by simp[ksP],λm hm=>by
   have:m=n:=by simpa[ksP] using hm
   rw[this];exact hn,λp hp=>by
   have:p=(n,[]):=by simpa using hp
   rw[this];simp⟩
  have hcl:=bfs_cl hok 14 0 [(n,[])] h0 (by omega) λj hj=>by omega
  induction h with
  |refl=>exact(pathsF_ok hok hn).2.1
  |step _ e ih=>
   obtain⟨p,hp,rfl⟩:=List.mem_map.mp ih
   exact hcl p hp _ e
theorem grpL_disj{Ts:List Tb}{NN:List Str}(hok:HOk6 Ts NN):∀(ns:List Str) (Gs:List Pth),(∀n∈ns,n∈NN)->(∀P∈Gs,∃n∈NN,P=pathsF Ts n)->Gs.Pairwise (λP Q=>∀m,m∈ksP P->m∉ksP Q)->(ns.foldl (grpS Ts) Gs).Pairwise (λP Q=>∀m,m∈ksP P->m∉ksP Q)
 |[],Gs,_,_,h=>h
 |n::ns,Gs,hn,hG,h=>by
  have hn0:=hn n (List.mem_cons_self ..)
  refine grpL_disj hok ns (grpS Ts Gs n) (λm hm=>hn m (List.mem_cons_of_mem _ hm)) (λP hP=> ?_) ?_
  .unfold grpS at hP
   split at hP
   .exact hG P hP
   .rcases List.mem_append.mp hP with hP|hP
    .exact hG P hP
    .exact⟨n,hn0,List.mem_singleton.mp hP⟩
  .unfold grpS
   split
   .exact h
   .rename_i hnot
    rw[List.pairwise_append]
    refine⟨h,by simp,λP hP Q hQ m hm hm2=> ?_⟩
    rw[List.mem_singleton.mp hQ] at hm2
    obtain⟨k,hk,rfl⟩:=hG P hP
    refine hnot (List.mem_flatMap.mpr ⟨_,hP,?_⟩)
    rw[paths_iff hok hk] at hm ⊢
    rw[paths_iff hok hn0] at hm2
    exact hm.trans hm2.symm
theorem grpF_disj{Ts:List Tb}{NN:List Str}(hok:HOk6 Ts NN):(grpF Ts).Pairwise (λP Q=>∀m,m∈ksP P->m∉ksP Q):=
 grpL_disj hok _ [] (λm hm=>by
  obtain⟨T,h1,h2⟩:=List.mem_flatMap.mp hm
  exact hok.sub T h1 m h2) (λP h=>by cases h) List.Pairwise.nil
theorem lkA_at{n:Str}:∀(Gs:List Pth) (acc:List Stp) (P:Pth),Gs.Pairwise (λP Q=>∀m,m∈ksP P->m∉ksP Q)->P∈Gs->n∈ksP P->Gs.foldl (λacc P=>if n∈ksP P then lkP P n else acc) acc=lkP P n
 |[],acc,P,_,h,_=>by cases h
 |Q::Gs,acc,P,hd,hP,hn=>by
  obtain⟨h1,h2⟩:=List.pairwise_cons.mp hd
  rw[List.foldl_cons]
  rcases List.mem_cons.mp hP with rfl|hP
  .rw[if_pos hn]
   have:∀(Gs:List Pth) (acc:List Stp),(∀Q∈Gs,n∉ksP Q)->Gs.foldl (λacc P=>if n∈ksP P then lkP P n else acc) acc=acc:=by
    intro Gs
    induction Gs with
    |nil=>intro acc _;rfl
    |cons Q Gs ih=>
     intro acc h
     rw[List.foldl_cons,if_neg (h Q (List.mem_cons_self ..))]
     exact ih acc λQ' hQ'=>h Q' (List.mem_cons_of_mem _ hQ')
   exact this Gs _ λQ hQ=>h1 Q hQ n hn
  .exact lkA_at Gs _ P h2 hP hn
structure Cs(Ts:List Tb)(w:Str->Rat):Prop where
 pos:∀n,0<w n
 eq:∀T∈Ts,∀a∈ksT T,∀b∈ksT T,w a*shT T b=w b*shT T a
theorem ne_of_pos{x:Rat}(h:0<x):x≠0:=λe=>by rw[e] at h;exact absurd h (by decide)
theorem spR_w{Ts:List Tb}{w:Str->Rat}(ht:∀T∈Ts,TOk T)(h:Cs Ts w){s:Stp}(hs:StpOk Ts s):spR Ts s*w s.2.1=w s.2.2:=by
 obtain⟨T,h1,h2,h3⟩:=hs
 have hT:=List.mem_of_getElem? h1
 have e:=h.eq T hT _ h2 _ h3
 have p1:=ne_of_pos (shT_fok (ht T hT) h2).pos
 unfold spR
 rw[shI_at h1,shI_at h1]
 grind
theorem cmF_app(Ts:List Tb)(a:List Stp):∀b:List Stp,cmF Ts (a++b)=cmF Ts a*cmF Ts b:=by
 have key:∀(b:List Stp) (x:Rat),b.foldl (λx s=>x*spR Ts s) x=x*b.foldl (λx s=>x*spR Ts s) 1:=by
  intro b
  induction b with
  |nil=>intro x;simp[Rat.mul_one]
  |cons s b ih=>
   intro x
   rw[List.foldl_cons,List.foldl_cons,ih (x*spR Ts s),ih (1*spR Ts s),Rat.one_mul,Rat.mul_assoc]
 intro b
 unfold cmF
 rw[List.foldl_append,key]
theorem chn_w{Ts:List Tb}{w:Str->Rat}(ht:∀T∈Ts,TOk T)(h:Cs Ts w){a b:Str}{l:List Stp}(hc:Chn Ts a l b):cmF Ts l*w a=w b:=by
 induction hc with
 |nil=>exact Rat.one_mul _
 |snoc hc hs e ih=>
  rw[cmF_snoc,←e,←spR_w ht h hs,←ih]
  grind
theorem cm_bwd{Ts:List Tb}(ht:∀T∈Ts,TOk T):∀(l:List Stp),(∀s∈l,StpOk Ts s)->cmF Ts (bwd l)*cmF Ts l=1
 |[],_=>by show(1:Rat)*1=1;exact Rat.one_mul _
 |s::l,hs=>by
  have ih:=cm_bwd ht l λx hx=>hs x (List.mem_cons_of_mem _ hx)
  have eb:bwd (s::l)=bwd l++[(s.1,s.2.2,s.2.1)]:=by
   unfold bwd
   simp
  have el:cmF Ts (s::l)=spR Ts s*cmF Ts l:=by
   rw[show s::l=[s]++l from rfl,cmF_app]
   congr 1
   show(1:Rat)*spR Ts s=spR Ts s
   exact Rat.one_mul _
  obtain⟨T,h1,h2,h3⟩:=hs s (List.mem_cons_self ..)
  have hT:=ht T (List.mem_of_getElem? h1)
  have p2:=ne_of_pos (shT_fok hT h2).pos
  have p3:=ne_of_pos (shT_fok hT h3).pos
  have e1:spR Ts (s.1,s.2.2,s.2.1)*spR Ts s=1:=by
   unfold spR
   simp only[shI_at h1]
   grind
  rw[eb,cmF_snoc,el]
  grind
theorem ring_of{Ts:List Tb}{NN:List Str}(hok:HOk6 Ts NN){w:Str->Rat}(h:Cs Ts w):rgF Ts=none:=by
 unfold rgF
 rw[List.find?_eq_none]
 intro ss hss
 obtain⟨s,hs,rfl⟩:=List.mem_map.mp hss
 obtain⟨T,h1,h2,h3⟩:=clF_mem hs
 have hT:=List.mem_of_getElem? h1
 have hmn:=(mnT_mem (hok.tok T hT).ne).1
 have hsok:StpOk Ts s:=⟨T,h1,by rw[h2];exact hmn,h3⟩
 have n1:s.2.1∈ksG (grpF Ts):=grpF_all hok hT (by rw[h2];exact hmn)
 obtain⟨P,hP,hnP⟩:=List.mem_flatMap.mp n1
 obtain⟨k,hk,_,rfl⟩:=grpF_mem hok hP
 have hnP2:s.2.2∈ksP (pathsF Ts k):=by
  rw[paths_iff hok hk] at hnP ⊢
  exact .step hnP ⟨T,hT,by rw[h2];exact hmn,h3⟩
 have d:=grpF_disj hok
 have l1:lkA (grpF Ts) s.2.1=lkP (pathsF Ts k) s.2.1:=lkA_at _ _ _ d hP hnP
 have l2:lkA (grpF Ts) s.2.2=lkP (pathsF Ts k) s.2.2:=lkA_at _ _ _ d hP hnP2
 have c1:=chn_w hok.tok h (paths_chn _ (lkP_mem hnP))
 have c2:=chn_w hok.tok h (paths_chn _ (lkP_mem hnP2))
 have c3:=cm_bwd hok.tok (lkP (pathsF Ts k) s.2.2) (pathsF_steps _ (lkP_mem hnP2))
 have c4:=spR_w hok.tok h hsok
 simp only at c1 c2
 have e:cmF Ts (rgS Ts s)=1:=by
  unfold rgS
  rw[l1,l2,cmF_app,cmF_snoc]
  have w1:=ne_of_pos (h.pos k)
  have w2:=ne_of_pos (h.pos s.2.2)
  have w3:=ne_of_pos (h.pos s.2.1)
  grind
 simp[e]
theorem of_ring{Ts:List Tb}{NN:List Str}(hok:HOk6 Ts NN)(h:rgF Ts=none):∃w,Cs Ts w:=by
 have pos:∀n,0<cmF Ts (lkA (grpF Ts) n):=λn=>(cmF_ok hok.tok (lkA_ok hok (grpF Ts) n λP h=>h).1).1
 refine⟨λn=>cmF Ts (lkA (grpF Ts) n),pos,λT hT a ha b hb=> ?_⟩
 obtain⟨i,hi,e⟩:=List.getElem_of_mem hT
 have hTi:Ts[i]? =some T:=by rw[List.getElem?_eq_getElem hi,e]
 have hmn:=(mnT_mem (hok.tok T hT).ne).1
 have key:∀o∈ksT T,cmF Ts (lkA (grpF Ts) o)*shT T (mnT T)=cmF Ts (lkA (grpF Ts) (mnT T))*shT T o:=λo ho=>by
  have hs:(i,mnT T,o)∈clF Ts:=by
   unfold clF
   exact List.mem_flatMap.mpr ⟨(T,i),List.mem_zipIdx_iff_getElem?.mpr hTi,List.mem_map.mpr ⟨o,ho,rfl⟩⟩
  unfold rgF at h
  rw[List.find?_eq_none] at h
  have e1:=h _ (List.mem_map_of_mem hs)
  simp at e1
  unfold rgS at e1
  rw[cmF_app,cmF_snoc] at e1
  have c3:=cm_bwd hok.tok (lkA (grpF Ts) o) (lkA_ok hok (grpF Ts) o λP h=>h).1
  have p1:=ne_of_pos (shT_fok (hok.tok T hT) hmn).pos
  have es:spR Ts (i,mnT T,o)=shT T o/shT T (mnT T):=by
   unfold spR
   simp only[shI_at hTi]
  rw[es] at e1
  simp only at e1
  grind
 have ka:=key a ha
 have kb:=key b hb
 have p1:=ne_of_pos (shT_fok (hok.tok T hT) hmn).pos
 grind
end DP
namespace DP
open PySem PySem.Spec PyProof.Rows L2 MA
theorem slH_ok{A:Ar}{r:Nat}{lo hi:Option Int}{xs:List D}{R:DK}(h:A[r]? =some (.lst xs))(k:R (.ref A.length) (A++[.lst (cutD xs lo hi)])):slR r lo hi A R:=by
 unfold slR
 simp only[h]
 exact k
theorem cut_to{xs:List D}{i:Nat}(h:i≤xs.length):cutD xs none (some ((i:Nat):Int))=xs.take i:=by
 unfold cutD
 have e1:HT.sIx xs.length 0 none=0:=rfl
 have e2:HT.sIx xs.length xs.length (some ((i:Nat):Int))=i:=by
  unfold HT.sIx
  simp
  rw[if_neg (by omega)]
  omega
 rw[e1,e2]
 rfl
theorem cut_from{xs:List D}{i:Nat}(h:i≤xs.length):cutD xs (some ((i:Nat):Int)) none=xs.drop i:=by
 unfold cutD
 have e1:HT.sIx xs.length xs.length none=xs.length:=rfl
 have e2:HT.sIx xs.length 0 (some ((i:Nat):Int))=i:=by
  unfold HT.sIx
  simp
  rw[if_neg (by omega)]
  omega
 rw[e1,e2]
 exact List.take_of_length_le (by simp)
theorem fr_comp2{τ:DSt}{A:Ar}{t:Nat}{m:DTE}{ix:List Nat}{te:DTE}{R:DK}{T:Tb}(f:D->D)(hT:TabAt A t T)(hl:T.length≤1000)
  (hm:∀A':Ar,(A'=A∨∃o,A'=A.set t (.fdc o (kvT T)))->∀Q:DK,Q (.ref t) A'->m τ A' Q)
  (hte:∀A':Ar,(A'=A∨∃o,A'=A.set t (.fdc o (kvT T)))->∀o∈ksT T,∀Q:DK,Q (f (.str o)) A'->te ([some (.str o)]++ix.map (lk τ)) A' Q)(k:R (.ref A.length) (A++[.lst ((ksT T).map λo=>f (.str o))])):dFr (dComp none ix (iKeys m) tt0 te) τ A R:=by
 have hz:(1000:Nat)≤sizeLine:=by decide
 have lk':(ksT T).length=T.length:=by simp[ksT]
 have em:((kvT T).map λp=>keyOf p.1)=(ksT T).map D.str:=kvT_items T
 have go:∀(A':Ar) (o:Obj) (R':DK),(A'=A∨∃o,A'=A.set t (.fdc o (kvT T)))->A'[t]? =some (.fdc o (kvT T))->R' (.ref A'.length) (A'++[.lst ((ksT T).map λo=>f (.str o))])->dComp none ix (iKeys m) tt0 te τ A' R':=λA' o R' hA h' k'=>by
  unfold dComp iKeys
  refine hm A' hA _ ?_
  refine itk_ok h' ?_
  rw[em]
  refine cloop_map (f:=f) h' _ _ (λx hx=> ?_) (by simp[lk'];omega) ?_
  .obtain⟨n,hn,rfl⟩:=List.mem_map.mp hx
   exact⟨[.str n],rfl,λQ hQ=>hte A' hA n hn Q hQ⟩
  .rw[List.nil_append,List.map_map]
   exact k'
 rcases hT with h|⟨o,h⟩
 .have hlt:=lt_of_get h
  refine .inl ⟨t,kvT T,h,λo=>go _ o _ (.inr ⟨o,rfl⟩) (List.getElem?_set_self hlt) ⟨kvT T,?_,?_⟩⟩
  .rw[List.getElem?_append_left (by simpa using hlt)]
   exact List.getElem?_set_self hlt
  .have e:(A.set t (.fdc o (kvT T))++[C.lst ((ksT T).map λo=>f (.str o))]).set t (.dct (kvT T))=A++[.lst ((ksT T).map λo=>f (.str o))]:=by
    rw[List.set_append_left _ _ (by simpa using hlt),List.set_set]
    congr 1
    refine List.ext_getElem? λi=> ?_
    by_cases hi:i=t
    .rw[hi,List.getElem?_set_self hlt,h]
    .rw[List.getElem?_set_ne (Ne.symm hi)]
   rw[e]
   have el:(A.set t (C.fdc o (kvT T))).length=A.length:=by simp
   rw[el]
   exact k
 .exact .inr (go A o R (.inl rfl) h k)
theorem TabsAt.erase{A:Ar}:∀{ts:List Nat} {Ts:List Tb} (i:Nat),TabsAt A ts Ts->TabsAt A (ts.eraseIdx i) (Ts.eraseIdx i)
 |[],[],_,_=>trivial
 |t::ts,T::Ts,0,h=>h.2
 |t::ts,T::Ts,i+1,h=>⟨h.1,TabsAt.erase i h.2⟩
 |[],_::_,_,h=>h.elim
 |_::_,[],_,h=>h.elim
theorem HOk6.erase{Ts:List Tb}{NN:List Str}(h:HOk6 Ts NN)(i:Nat):HOk6 (Ts.eraseIdx i) NN:=by
 have sub:∀T∈Ts.eraseIdx i,T∈Ts:=λT hT=>(List.eraseIdx_sublist ..).subset hT
 refine⟨Nat.le_trans (List.eraseIdx_sublist ..).length_le h.len,λT hT=>h.tok T (sub T hT),h.nn,λT hT=>h.sub T (sub T hT)⟩
noncomputable def sprF(Ts:List Tb)(i:Nat):Bool:=match Ts[i]? with
 |some T=>(ksT T).all λn=>decide (n∈ksP (pathsF (Ts.eraseIdx i) (mnT T)))
 |none=>false
noncomputable def sparF(Ts:List Tb):List Nat:=(List.range Ts.length).filter (sprF Ts)
def SIsp:Ct:=λds A R _=>∃r i Ts NN,ds=[.ref r,.int ((i:Nat):Int)]∧BPl A r Ts∧HOk6 Ts NN∧i<Ts.length∧∀A',Gr A A'->R (.bl (sprF Ts i)) A'
def SSpr:Ct:=λds A R E=>∃x NN,ds=[x]∧okA A x=true∧(∀ms,IsHall x ms->HOk6 (ms.map tabF) NN∧(rgF (ms.map tabF)=none->∀A' q,Gr A A'->A'[q]? =some (.lst ((sparF (ms.map tabF)).map λi=>D.int ((i:Nat):Int)))->A.length≤q->R (.ref q) A')∧(rgF (ms.map tabF)≠none->∀A',Gr A A'->E "Never" A'))∧((¬∃ms,IsHall x ms)->∀A',Gr A A'->E "NoHall" A')
structure Bnd(Ts:List Tb)(es:List (List Str)):Prop where
 srt:∀e∈es,e.Pairwise strLt∧e≠[]
 ord:es.Pairwise λa b=>strLt (a.headD default) (b.headD default)
 grp:∀e∈es,∃P∈grpF Ts,∀x,x∈e↔x∈ksP P
 all:∀P∈grpF Ts,∃e∈es,∀x,x∈e↔x∈ksP P
def SBnd:Ct:=λds A R E=>∃x NN,ds=[x]∧okA A x=true∧(∀n∈NN,Nm n)∧(∀ms,IsHall x ms->HOk6 (ms.map tabF) NN∧∀A' q es,Bnd (ms.map tabF) es->Gr A A'->A'[q]? =some (.lst (es.map λe=>D.tup (e.map D.str)))->A.length≤q->R (.ref q) A')∧((¬∃ms,IsHall x ms)->∀A',Gr A A'->E "NoHall" A')
def hdD(d:D):stO.α:=match d with
 | .tup (.str n::_)=>n.cps.toList
 |_=>[]
theorem grp_few:∀{Gs:List Pth} {NN:List Str},(∀P∈Gs,∃n∈ksP P,n∈NN)->Gs.Pairwise (λP Q=>∀m,m∈ksP P->m∉ksP Q)->Gs.length≤NN.length:=by
 intro Gs NN h hd
 have:∃hs:List Str,hs.length=Gs.length∧hs.Nodup∧(∀x∈hs,x∈NN)∧∀x∈hs,∃P∈Gs,x∈ksP P:=by
  induction Gs with
  |nil=>exact⟨[],rfl,List.nodup_nil,(λ_ h=>by cases h),(λ_ h=>by cases h)⟩
  |cons P Gs ih=>
   obtain⟨d1,d2⟩:=List.pairwise_cons.mp hd
   obtain⟨hs,k1,k2,k3,k4⟩:=ih (λQ hQ=>h Q (List.mem_cons_of_mem _ hQ)) d2
   obtain⟨n,n1,n2⟩:=h P (List.mem_cons_self ..)
   refine⟨n::hs,by simp[k1],List.nodup_cons.mpr ⟨λhn=> ?_,k2⟩,λx hx=> ?_,λx hx=> ?_⟩
   .obtain⟨Q,hQ,hq⟩:=k4 n hn
    exact d1 Q hQ n n1 hq
   .rcases List.mem_cons.mp hx with rfl|hx
    .exact n2
    .exact k3 x hx
   .rcases List.mem_cons.mp hx with rfl|hx
    .exact⟨P,List.mem_cons_self ..,n1⟩
    .obtain⟨Q,hQ,hq⟩:=k4 x hx
     exact⟨Q,List.mem_cons_of_mem _ hQ,hq⟩
 obtain⟨hs,k1,k2,k3,_⟩:=this
 have:=nd_le hs NN k2 k3
 omega
def tpS(e:List Str):D:= .tup (e.map D.str)
theorem tpS_inj{a b:List Str}(h:tpS a=tpS b):a=b:=by
 have h:=D.tup.inj h
 exact(List.map_inj_right λx y e=>D.str.inj e).mp h
theorem tpS_ok{e:List Str}(h:∀n∈e,Nm n)(ne:e≠[]):pur (tpS e)=true∧(toQ (tpS e)).canLay0=true∧(toQ (tpS e)).depth≤60∧∃x r,toQ (tpS e)= .tuple (.str x::r):=by
 have eq:toQ (tpS e)= .tuple (e.map PyData.str):=by
  show PyData.tuple (toQs (e.map D.str))=_
  rw[q_strs]
 refine⟨pur_strs e,?_,?_,?_⟩
 .rw[eq]
  simpa[PyData.canLay0] using lay_strs e h
 .rw[eq]
  simp[PyData.depth,dep_strs]
 .cases e with
  |nil=>exact absurd rfl ne
  |cons x r=>exact⟨x,r.map PyData.str,eq⟩
theorem ltQs_self:∀xs:List Str,ltQs (xs.map PyData.str) (xs.map PyData.str)=some false
 |[]=>rfl
 |x::xs=>by
  rw[List.map_cons,ltQs]
  have c:PyData.eqv (.str x) (.str x)=true:=by simp[PyData.eqv]
  rw[c]
  exact ltQs_self xs
theorem tpS_lt{a b:List Str}(ha:a≠[])(hb:b≠[])(h:a.headD default=b.headD default->a=b):ltQ (toQ (tpS a)) (toQ (tpS b))=some (stO.blt (hdD (tpS a)) (hdD (tpS b))):=by
 cases a with
 |nil=>exact absurd rfl ha
 |cons x a=>
 cases b with
 |nil=>exact absurd rfl hb
 |cons y b=>
 have eq:∀(x:Str) (e:List Str),toQ (tpS (x::e))= .tuple (.str x::e.map PyData.str):=λx e=>by
  show PyData.tuple (toQs ((x::e).map D.str))=_
  rw[q_strs]
  rfl
 rw[eq,eq]
 show _=some (stO.blt x.cps.toList y.cps.toList)
 by_cases c:x=y
 .have e:=h c
  cases e
  rw[ltQ,stO.irrefl]
  exact ltQs_self (x::a)
 .rw[ltQ,ltQs]
  have c':PyData.eqv (.str x) (.str y)=false:=by simpa[PyData.eqv] using c
  rw[c']
  show ltQ (.str x) (.str y)=_
  rw[ltQ]
theorem as_map{f:List Str->D}:∀{ds:List D},(∀d∈ds,∃e,d=f e)->∃es:List (List Str),ds=es.map f
 |[],_=>⟨[],rfl⟩
 |d::ds,h=>by
  obtain⟨es,rfl⟩:=as_map (ds:=ds) λx hx=>h x (List.mem_cons_of_mem _ hx)
  obtain⟨e,rfl⟩:=h d (List.mem_cons_self ..)
  exact⟨e::es,rfl⟩
end DP
namespace My
open PySem PySem.Spec PyProof.Rows L2 DP MA
section
variable{P:Program}{w:World}{K:PySem.W.Frag}{mg:Str->Option Value}{base:Heap}
theorem f_isp(T:TopD K mg "is_spare" s_is_spare p_is_spare)(b_min:mg "min" =none)(b_all:mg "all" =none)(F_paths_from:FnX P w K mg base 2 "paths_from" p_paths_from (spOf mg 2 SPth)):FnX P w K mg base 3 "is_spare" p_is_spare (spOf mg 2 SIsp):=by
 refine fnD T sc_is_spare rfl (by decide) λN RE f cdv B outer s H E hr hR hx ds A R h hl=> ?_
 have hu:=hr.units
 have nd:=sc_is_spare.nd
 refine⟨_,(dss_cons (ds_set (i:=2) nd rfl (by first|exact Or.inl rfl|exact Or.inr rfl) (de_add (de_sl (vr 0) do_none (do_some (vr 1))) (de_sl (vr 0) (do_some (de_add (vr 1) de_int)) do_none)))
  (dss_cons (ds_set (i:=3) nd rfl (by first|exact Or.inl rfl|exact Or.inr rfl) (de_call F_paths_from (hr.mono (by omega)) hx (da_cons (vr 2) (da_cons (de_cb (call_minD rfl) d_minD b_min boot_min (da_cons (de_ix hu (vr 0) (vr 1) (λ_ _=>rfl)) da_nil)) da_nil))))
  (dss_one (ds_ret (de_cb (call_all rfl) d_all b_all boot_all (da_cons (de_fr (de_comp none (own:=["name"]) (frees:=["reached"]) (ix:=[3]) rfl (di_keys (de_ix hu (vr 0) (vr 1) (λ_ _=>rfl))) (λc=>(pg_name (i:=0) (show(["name","reached"]:List Str).Nodup by decide+kernel) rfl (by first|exact Or.inl rfl|exact Or.inr rfl))) (λc=>(e_in hu (vr 0) (vr 1))))) da_nil)))))),?_⟩
 obtain⟨r,i,Ts,NN,rfl,hB,hok,hi,q⟩:=h
 obtain⟨ts,h1,h2⟩:=hB
 have hz:(1000:Nat)≤sizeLine:=by decide
 have lts:=h2.len
 have l7:=hok.len
 refine slH_ok h1 ?_
 refine slH_ok (getElem?_push h1) ?_
 have c1:cutD (ts.map D.ref) none (some ((i:Nat):Int))=(ts.take i).map D.ref:=by rw[cut_to (by simp;omega),List.map_take]
 have c2:cutD (ts.map D.ref) (some (((i:Nat):Int)+1)) none=(ts.drop (i+1)).map D.ref:=by
  rw[show(((i:Nat):Int)+1)=((i+1:Nat):Int) from rfl,cut_from (by simp;omega),List.map_drop]
 rw[c1,c2]
 refine cat_ok (getElem?_push last_get) last_get (by simp;omega) ?_
 rw[←List.map_append,←List.eraseIdx_eq_take_drop_succ]
 generalize eA:(A++[C.lst ((ts.take i).map D.ref)]++[C.lst ((ts.drop (i+1)).map D.ref)]:Ar)=A1
 have g1:Gr A (A1++[C.lst ((ts.eraseIdx i).map D.ref)]):=by
  rw[←eA]
  exact(Gr.push.trans Gr.push).trans Gr.push
 have h1':=g1.get h1
 obtain⟨t,ht⟩:∃t,ts[i]? =some t:=⟨ts[i],List.getElem?_eq_getElem (by omega)⟩
 obtain⟨T,hT,hA⟩:=h2.get ht
 have tok:=hok.tok T (List.mem_of_getElem? hT)
 have hA1:=hA.gr g1
 refine ix_ok h1' (v:= .ref t) (atI_nat (by rw[List.getElem?_map,ht];rfl)) ?_
 refine min_ok (kvs:=kvT T) (ns:=ksT T) hA1 (by simp[kvT,ksT]) (λz=>tok.ne (by simpa[ksT] using z)) λm hm hmin=> ?_
 have em:=mn_is hm hmin
 have mN:m∈NN:=hok.sub T (List.mem_of_getElem? hT) m hm
 refine⟨rfl,_,m,Ts.eraseIdx i,NN,rfl,⟨ts.eraseIdx i,last_get,(h2.gr g1).erase i⟩,hok.erase i,mN,λA2 q2 g2 hP=> ?_⟩
 have h1'':=g2.get h1'
 have hA2:=hA1.gr g2
 have tl:t<(A1++[C.lst ((ts.eraseIdx i).map D.ref)]).length:=by
  rcases hA1 with h|⟨o,h⟩<;>exact lt_of_get h
 have tr:t≠r:=λz=>by
  rw[z] at hA
  rcases hA with h|⟨o,h⟩<;>(rw[h1] at h;cases h)
 refine fr_comp2 (t:=t) (λo=> .bl (match o with| .str n=>decide (n∈ksP (pathsF (Ts.eraseIdx i) m))|_=>false)) hA2 (by have:=tok.len;omega) (λA' hA' Q hQ=> ?_) (λA' hA' o ho Q hQ=> ?_) ?_
 .have:A'[r]? =some (.lst (ts.map D.ref)):=by
   rcases hA' with rfl|⟨o,rfl⟩
   .exact h1''
   .rw[List.getElem?_set_ne tr]
    exact h1''
  exact ix_ok this (v:= .ref t) (atI_nat (by rw[List.getElem?_map,ht];rfl)) hQ
 .have hP':PthAt (A1++[C.lst ((ts.eraseIdx i).map D.ref)]).length A' q2 (pathsF (Ts.eraseIdx i) m):=by
   rcases hA' with rfl|⟨o,rfl⟩
   .exact hP
   .exact hP.set tl
  obtain⟨_,kvs,hd,hk,_⟩:=hP'
  refine ind_ok hd rfl ?_
  rw[if_neg Bool.false_ne_true,keys_get hk]
  exact hQ
 have e:((ksT T).map λo=>D.bl (match D.str o with| .str n=>decide (n∈ksP (pathsF (Ts.eraseIdx i) m))|_=>false))=(ksT T).map λo=>D.bl ((λn=>decide (n∈ksP (pathsF (Ts.eraseIdx i) m))) o):=rfl
 rw[e]
 refine all_ok last_get (bls_map _ _) ?_
 have e2:(((ksT T).map λn=>decide (n∈ksP (pathsF (Ts.eraseIdx i) m))).all id)=sprF Ts i:=by
  unfold sprF
  rw[hT]
  show _=(ksT T).all λn=>decide (n∈ksP (pathsF (Ts.eraseIdx i) (mnT T)))
  rw[em,List.all_map]
  rfl
 rw[e2]
 exact q _ ((g1.trans g2).trans Gr.push)
theorem f_spr(T:TopD K mg "spare" s_spare p_spare)(b_range:mg "range" =none)(b_len:mg "len" =none)(F_hall_shares:FnX P w K mg base 13 "hall_shares" p_hall_shares (spOf mg 1 SHsh))(F_check_no_ring:FnX P w K mg base 6 "check_no_ring" p_check_no_ring (spOf mg 1 SNor))(F_is_spare:FnX P w K mg base 3 "is_spare" p_is_spare (spOf mg 2 SIsp)):FnX P w K mg base 14 "spare" p_spare (spOf mg 1 SSpr):=by
 refine fnD T sc_spare rfl (by decide) λN RE f cdv B outer s H E hr hR hx ds A R h hl=> ?_
 have hu:=hr.units
 have nd:=sc_spare.nd
 refine⟨_,(dss_cons (ds_set (i:=1) nd rfl (by first|exact Or.inl rfl|exact Or.inr rfl) (de_call F_hall_shares (hr.mono (by omega)) hx (da_cons (vr 0) da_nil)))
  (dss_cons (ds_expr (de_call F_check_no_ring (hr.mono (by omega)) hx (da_cons (vr 1) da_nil)))
  (dss_one (ds_ret (de_compI none (own:=["place"]) (frees:=["by_place"]) (ix:=[1]) rfl (di_range1 b_range (da_cons (de_cb c_len d_len b_len PySem.boot_len (da_cons (vr 1) da_nil)) da_nil)) (λc=>(pg_name (i:=0) (show(["place","by_place"]:List Str).Nodup by decide+kernel) rfl (by first|exact Or.inl rfl|exact Or.inr rfl))) (λc=>(dt_val (de_call F_is_spare (hr.mono (by omega)) pass0D (da_cons (vr 1) (da_cons (vr 0) da_nil))))) (λc=>(vr 0))))))),?_⟩
 obtain⟨x,NN,rfl,hk,q1,q2⟩:=h
 have hz:(1000:Nat)≤sizeLine:=by decide
 refine⟨rfl,x,rfl,hk,λms hH A1 q3 g1 hB l1=> ?_,λhn A1 g1=>q2 hn _ g1⟩
 obtain⟨hok,q4,q5⟩:=q1 ms hH
 refine⟨rfl,q3,_,NN,rfl,hB,hok,λe A2 g2=> ?_,λe A2 g2=>q5 e _ (g1.trans g2)⟩
 obtain⟨ts,hb1,hb2⟩:=hB.gr g2
 have lts:=hb2.len
 have l7:=hok.len
 refine len_ok hb1 ?_
 have ln:(ts.map D.ref).length=ms.length:=by simpa using lts
 rw[List.length_map] at l7
 refine⟨by omega,by omega,?_⟩
 have er:rng 0 (((ts.map D.ref).length:Nat):Int).toNat=(List.range (ms.map tabF).length).map λi=>D.int ((i:Nat):Int):=by
  rw[Int.toNat_natCast,ln,List.length_map]
  unfold rng
  refine List.map_congr_left λi _=> ?_
  rw[Int.zero_add]
 rw[er]
 refine cloop_gf (λi:Nat=>D.int ((i:Nat):Int)) (sprF (ms.map tabF)) (λi:Nat=>D.int ((i:Nat):Int)) (List.range (ms.map tabF).length) [] A2 (λ_ _=>trivial) (λi hi A3 g3=> ?_) (by simp;omega) (λA3 g3=> ?_)
 .have hi:=List.mem_range.mp hi
  refine⟨[.int ((i:Nat):Int)],rfl,λQ hQ=> ?_,λA4 g4 Q hQ=>hQ _ Gr.refl⟩
  exact⟨rfl,q3,i,_,NN,rfl,(hB.gr g2).gr g3,hok,hi,λA4 g4=>hQ _ g4⟩
 .rw[List.nil_append]
  exact q4 e _ _ (((g1.trans g2).trans g3).trans Gr.push) last_get (by have:=((g1.trans g2).trans g3).len;omega)
theorem f_bnd(T:TopD K mg "bound" s_bound p_bound)(b_sorted:mg "sorted" =none)(b_tuple:mg "tuple" =none)(F_hall_shares:FnX P w K mg base 13 "hall_shares" p_hall_shares (spOf mg 1 SHsh))(F_groups:FnX P w K mg base 3 "groups" p_groups (spOf mg 1 SGrp)):FnX P w K mg base 14 "bound" p_bound (spOf mg 1 SBnd):=by
 refine fnD T sc_bound rfl (by decide) λN RE f cdv B outer s H E hr hR hx ds A R h hl=> ?_
 have hu:=hr.units
 have nd:=sc_bound.nd
 refine⟨_,(dss_one (ds_ret (de_cb (call_sortQ rfl hu) d_sortQ b_sorted boot_sorted (da_cons (de_comp none (own:=["paths"]) (frees:=[]) (ix:=[]) rfl (di_seq (de_call F_groups (hr.mono (by omega)) hx (da_cons (de_call F_hall_shares (hr.mono (by omega)) hx (da_cons (vr 0) da_nil)) da_nil))) (λc=>(pg_name (i:=0) (show(["paths"]:List Str).Nodup by decide+kernel) rfl (by first|exact Or.inl rfl|exact Or.inr rfl))) (λc=>(de_cty call_tuple_of d_tup b_tuple boot_tuple (da_cons (de_cb (call_sortD rfl) d_sortD b_sorted boot_sorted (da_cons (vr 0) da_nil)) da_nil)))) da_nil)))),?_⟩
 obtain⟨x,NN,rfl,hk,hNm,q1,q2⟩:=h
 have hz:(1000:Nat)≤sizeLine:=by decide
 refine⟨rfl,x,rfl,hk,λms hH A1 q3 g1 hB l1=> ?_,λhn A1 g1=>q2 hn _ g1⟩
 obtain⟨hok,q4⟩:=q1 ms hH
 refine⟨rfl,q3,_,NN,rfl,hB,hok,λA2 q5 g2 hG=> ?_⟩
 obtain⟨_,gs,hg1,hg2⟩:=hG
 have lgs:=hg2.len
 refine it_ok hg1 ?_
 have gl:(grpF (ms.map tabF)).length<64:=by
  have:=grp_few (Gs:=grpF (ms.map tabF)) (NN:=NN) (λP hP=> ?_) (grpF_disj hok)
  .have:=hok.nn
   omega
  .obtain⟨n,hn,_,rfl⟩:=grpF_mem hok hP
   exact⟨n,(pathsF_ok hok hn).2.1,hn⟩
 have gok:∀P∈grpF (ms.map tabF),POk P NN∧ksP P≠[]:=λP hP=>by
  obtain⟨n,hn,_,rfl⟩:=grpF_mem hok hP
  obtain⟨k1,k2,_⟩:=pathsF_ok hok hn
  exact⟨k1,λz=>by rw[z] at k2;cases k2⟩
 refine cloop_I (λrest ys A'=>∃(dn more:List Nat) (es:List (List Str)),rest=more.map D.ref∧dn++more=gs∧ys=es.map (λe=>D.tup (e.map D.str))∧es.length=dn.length∧(∀(i:Nat) (e:List Str) (P:Pth),es[i]? =some e->(grpF (ms.map tabF))[i]? =some P->e.Pairwise strLt∧∀x,x∈e↔x∈ksP P)∧Gr A2 A') ?_ ?_ ?_ ?_ _ _ _ ⟨[],gs,[],rfl,rfl,rfl,rfl,(λi e P h=>by simp at h),Gr.refl⟩
 .rintro rest ys A' ⟨_,_,_,_,_,_,_,_,g⟩
  exact g.get hg1
 .rintro rest ys A' ⟨dn,more,es,_,hdm,rfl,hl',_,g⟩
  have:=congrArg List.length hdm
  rw[List.length_append] at this
  rw[List.length_map]
  omega
 .rintro y rest ys A' ⟨dn,more,es,e,hdm,rfl,hl',hE,g⟩
  cases more with
  |nil=>cases e
  |cons t more=>
   cases e
   have ht:gs[dn.length]? =some t:=by rw[←hdm];simp
   obtain⟨P,hP,hA⟩:=hg2.get ht
   have hA:=hA.gr g
   obtain⟨_,kvs,hd,hk',_⟩:=hA
   have pok:=(gok P (List.mem_of_getElem? hP)).1
   refine⟨[.ref t],rfl,λQ hQ=> ?_⟩
   refine sd_ok hd hk' pok.nd (by have:=pok.len;have:=hok.nn;simp[ksP];omega) λzs z1 z2=> ?_
   refine tup_ok last_get ?_
   refine hQ _ _ ⟨dn++[t],more,es++[zs],rfl,by simpa using hdm,by simp,by simp[hl'],λi e P' h1 h2=> ?_,g.trans Gr.push⟩
   by_cases hi:i<es.length
   .rw[List.getElem?_append_left hi] at h1
    exact hE i e P' h1 h2
   .rw[List.getElem?_append_right (by omega)] at h1
    have hi0:i - es.length=0:=by
     cases hh:i - es.length with
     |zero=>rfl
     |succ k=>rw[hh] at h1;simp at h1
    rw[hi0] at h1
    simp at h1
    have hie:i=dn.length:=by omega
    rw[hie,hP] at h2
    cases h2
    rw[←h1]
    exact⟨z1,z2⟩
 .rintro ys A' ⟨dn,more,es,e,hdm,rfl,hl',hE,g⟩
  cases more with
  |cons _ _=>cases e
  |nil=>
   have hdm:dn=gs:=by simpa using hdm
   subst hdm
   have les:es.length=(grpF (ms.map tabF)).length:=by omega
   have at_:∀e∈es,∃(i:Nat) (P:Pth),es[i]? =some e∧(grpF (ms.map tabF))[i]? =some P∧e.Pairwise strLt∧(∀x,x∈e↔x∈ksP P)∧P∈grpF (ms.map tabF):=λe he=>by
    obtain⟨i,hi,rfl⟩:=List.getElem_of_mem he
    have hP:=List.getElem?_eq_getElem (l:=grpF (ms.map tabF)) (i:=i) (by omega)
    have he:=List.getElem?_eq_getElem (l:=es) (i:=i) hi
    obtain⟨k1,k2⟩:=hE i _ _ he hP
    exact⟨i,_,he,hP,k1,k2,List.mem_of_getElem? hP⟩
   have ne:∀e∈es,e≠[]:=λe he z=>by
    obtain⟨i,P,_,_,_,k,hP⟩:=at_ e he
    have:=(gok P hP).2
    cases hk:ksP P with
    |nil=>exact this hk
    |cons n t=>
     have:=(k n).mpr (by rw[hk];simp)
     rw[z] at this
     cases this
   have disj:=grpF_disj hok
   have same:∀e∈es,∀e'∈es,∀x,x∈e->x∈e'->e=e':=λe he e' he' x h1 h2=>by
    obtain⟨i,P,k1,k2,k3,k4,_⟩:=at_ e he
    obtain⟨j,P',j1,j2,j3,j4,_⟩:=at_ e' he'
    have hij:i=j:=by
     rw[List.pairwise_iff_getElem] at disj
     obtain⟨hi,ei⟩:=List.getElem?_eq_some_iff.mp k2
     obtain⟨hj,ej⟩:=List.getElem?_eq_some_iff.mp j2
     rcases Nat.lt_trichotomy i j with h|h|h
     .exact absurd ((j4 x).mp h2) (by have:=disj i j hi hj h x (by rw[ei];exact(k4 x).mp h1);rw[ej] at this;exact this)
     .exact h
     .exact absurd ((k4 x).mp h1) (by have:=disj j i hj hi h x (by rw[ej];exact(j4 x).mp h2);rw[ei] at this;exact this)
    subst hij
    rw[k1] at j1
    exact Option.some.inj j1
   have hd_mem:∀e:List Str,e≠[]->e.headD default∈e:=λe he=>by
    cases e with
    |nil=>exact absurd rfl he
    |cons x r=>exact List.mem_cons_self ..
   have hh:∀e∈es,∀e'∈es,e.headD default=e'.headD default->e=e':=λe he e' he' h=>
    same e he e' he' _ (hd_mem e (ne e he)) (by rw[h];exact hd_mem e' (ne e' he'))
   have nm:∀e∈es,∀n∈e,Nm n:=λe he n hn=>by
    obtain⟨i,P,_,_,_,k,hP⟩:=at_ e he
    exact hNm n ((gok P hP).1.sub n ((k n).mp hn))
   refine sq_ok (ds:=es.map tpS) stO hdD last_get (by rw[List.length_map];omega) (λd hd=> ?_) (λd hd e he=> ?_) λfs pf sf=> ?_
   .obtain⟨e,he,rfl⟩:=List.mem_map.mp hd
    exact tpS_ok (nm e he) (ne e he)
   .obtain⟨a,ha,rfl⟩:=List.mem_map.mp hd
    obtain⟨b,hb,rfl⟩:=List.mem_map.mp he
    exact tpS_lt (ne a ha) (ne b hb) (hh a ha b hb)
   obtain⟨zs,rfl⟩:=as_map (f:=tpS) (ds:=fs) λd hd=>by
    obtain⟨e,_,rfl⟩:=List.mem_map.mp (pf.mem_iff.mp hd)
    exact⟨e,rfl⟩
   have zm:∀e,e∈zs↔e∈es:=λe=>by
    have h1:e∈zs↔tpS e∈zs.map tpS:=by
     constructor
     .exact λh=>List.mem_map_of_mem h
     .intro h
      obtain⟨e',he',h⟩:=List.mem_map.mp h
      rw[←tpS_inj h]
      exact he'
    have h2:e∈es↔tpS e∈es.map tpS:=by
     constructor
     .exact λh=>List.mem_map_of_mem h
     .intro h
      obtain⟨e',he',h⟩:=List.mem_map.mp h
      rw[←tpS_inj h]
      exact he'
    rw[h1,h2,pf.mem_iff]
   have esnd:es.Nodup:=by
    rw[List.Nodup,List.pairwise_iff_getElem]
    intro i j hi hj hij z
    have hPi:=List.getElem?_eq_getElem (l:=grpF (ms.map tabF)) (i:=i) (by omega)
    have hPj:=List.getElem?_eq_getElem (l:=grpF (ms.map tabF)) (i:=j) (by omega)
    obtain⟨_,k1⟩:=hE i _ _ (List.getElem?_eq_getElem hi) hPi
    obtain⟨_,k2⟩:=hE j _ _ (List.getElem?_eq_getElem hj) hPj
    have hm:=hd_mem es[i] (ne _ (List.getElem_mem hi))
    have m1:=(k1 _).mp hm
    rw[z] at hm
    have m2:=(k2 _).mp hm
    rw[←z] at m2
    exact(List.pairwise_iff_getElem.mp disj) i j (by omega) (by omega) hij _ m1 m2
   have znd:zs.Nodup:=by
    have h1:(es.map tpS).Nodup:=List.pairwise_map.mpr (esnd.imp λ {a b} hab z=>hab (tpS_inj z))
    have h2:(zs.map tpS).Nodup:=pf.nodup_iff.mpr h1
    exact List.Pairwise.imp (R:=λa b=>tpS a≠tpS b) (S:=λa b:List Str=>a≠b) (λ {a b} hab (z:a=b)=>hab (by rw[z])) (List.pairwise_map.mp h2)
   have hb:Bnd (ms.map tabF) zs:=by
    refine⟨λe he=> ?_,?_,λe he=> ?_,λP hP=> ?_⟩
    .obtain⟨_,_,_,_,k,_,_⟩:=at_ e ((zm e).mp he)
     exact⟨k,ne e ((zm e).mp he)⟩
    .refine(List.Pairwise.and_mem.mp ((List.pairwise_map.mp sf).and znd)).imp ?_
     rintro a b ⟨ha,hb,k1,k2⟩
     have ha:=(zm a).mp ha
     have hb:=(zm b).mp hb
     have na:=ne a ha
     have nb:=ne b hb
     have h1:=hh a ha b hb
     cases a with
     |nil=>exact absurd rfl na
     |cons x a=>
     cases b with
     |nil=>exact absurd rfl nb
     |cons y b=>
     show strLt x y
     have k1:stO.blt y.cps.toList x.cps.toList=false:=k1
     have k3:stO.blt x.cps.toList y.cps.toList=true:=by
      cases c:stO.blt x.cps.toList y.cps.toList with
      |true=>rfl
      |false=>exact absurd (h1 (str_cps (stO.total _ _ c k1))) k2
     exact show x.cps.toList<y.cps.toList from of_decide_eq_true k3
    .obtain⟨_,P,_,_,_,k,hP⟩:=at_ e ((zm e).mp he)
     exact⟨P,hP,k⟩
    .obtain⟨i,hi,rfl⟩:=List.getElem_of_mem hP
     have he:=List.getElem?_eq_getElem (l:=es) (i:=i) (by omega)
     obtain⟨_,k⟩:=hE i _ _ he (List.getElem?_eq_getElem hi)
     exact⟨_,(zm _).mpr (List.mem_of_getElem? he),k⟩
   have gg:=((g1.trans g2).trans g).trans (Gr.push (T:=[C.lst (es.map tpS)]))
   exact q4 _ _ zs hb (gg.trans Gr.push) last_get gg.len
end
end My
namespace DP
open PySem PySem.Spec PyProof.Rows L2 MA
def N6:List Str:=["a","b","c","d","e","f"]
theorem nm6:∀n∈N6,Nm n:=λn hn=>by
 simp only[N6,List.mem_cons,List.not_mem_nil,or_false] at hn
 rcases hn with rfl|rfl|rfl|rfl|rfl|rfl<;>exact⟨by decide+kernel,by decide+kernel,by decide+kernel⟩
theorem up6:N6.Pairwise strLt:=by
 have:∀a b:Str,(decide (a.cps.toList<b.cps.toList))=true->strLt a b:=λa b h=>show a.cps.toList<b.cps.toList from of_decide_eq_true h
 simp only[N6,List.pairwise_cons,List.mem_cons,List.not_mem_nil,or_false]
 refine⟨λb hb=> ?_,λb hb=> ?_,λb hb=> ?_,λb hb=> ?_,λb hb=> ?_,λb hb=>hb.elim,.nil⟩
 all_goals
  refine this _ _ ?_
 .rcases hb with rfl|rfl|rfl|rfl|rfl<;>decide+kernel
 .rcases hb with rfl|rfl|rfl|rfl<;>decide+kernel
 .rcases hb with rfl|rfl|rfl<;>decide+kernel
 .rcases hb with rfl|rfl<;>decide+kernel
 .rcases hb with rfl<;>decide+kernel
def One(m:M):Prop:=(∃n∈N6,m= .wt n)∨∃(l r:Int) (a b:Str),m= .rod l r (.wt a) (.wt b)∧(1≤l∧l≤9)∧(1≤r∧r≤9)∧a∈N6∧b∈N6∧a≠b
def SHal:Ct:=λds A R _=>∃ns t n,ds=[.fl ns,.ref t]∧Tw t n A∧n+200≤1000000∧∀(ms:List M) A',1≤ms.length->ms.length≤5->(∀m∈ms,One m)->Dr t A A' n 200->R (.tup (ms.map enc)) A'
theorem rng_drop{k i:Nat}{v:D}{rest:List D}(h:v::rest=(rng 0 k).drop i):v= .int ((i:Nat):Int)∧rest=(rng 0 k).drop (i+1)∧i<k:=by
 have l:(rng 0 k).length=k:=by simp[rng]
 have hi:i<k:=by
  have:=congrArg List.length h
  rw[List.length_drop,l] at this
  simp at this
  omega
 rw[List.drop_eq_getElem_cons (by omega),List.cons.injEq] at h
 refine⟨?_,h.2,hi⟩
 rw[h.1]
 simp[rng]
theorem rng_end{k i:Nat}(h:[]=(rng 0 k).drop i)(hi:i≤k):i=k:=by
 have l:(rng 0 k).length=k:=by simp[rng]
 have:=congrArg List.length h
 rw[List.length_drop,l] at this
 simp at this
 omega
theorem But.setHi{t q:Nat}{A A':Ar}{c:C}(h:But t A A')(hq:A.length≤q):But t A (A'.set q c):=λp d hp hd=>by
 rw[List.getElem?_set_ne (by have:=lt_of_get hd;omega)]
 exact h p d hp hd
theorem max9{l r:Int}(h:¬(if r>l then r else l)>9):l≤9∧r≤9:=by
 split at h<;>omega
theorem But.len{t:Nat}{A A':Ar}(h:But t A A')(ht:t<A'.length):A.length≤A'.length:=by
 by_cases e:A.length=0
 .omega
 by_cases e2:A.length - 1=t
 .omega
 .have:=lt_of_get (h (A.length - 1) _ e2 (List.getElem?_eq_getElem (by omega)))
  omega
end DP
namespace My
open PySem PySem.Spec PyProof.Rows L2 DP MA
section
variable{P:Program}{w:World}{K:PySem.W.Frag}{mg:Str->Option Value}{base:Heap}
theorem f_hal(T:TopD K mg "_law_hall" s__law_hall p__law_hall)(b_dict:mg "dict" =none)(b_range:mg "range" =none)(b_max:mg "max" =none)(b_tuple:mg "tuple" =none)(F__law_draw:FnX P w K mg base 3 "_law_draw" p__law_draw (spOf mg 3 SDraw))(F__law_pick:FnX P w K mg base 4 "_law_pick" p__law_pick (spOf mg 3 SPick))(F__law_weights:FnX P w K mg base 5 "_law_weights" p__law_weights (spOf mg 3 SWt)):FnX P w K mg base 6 "_law_hall" p__law_hall (spOf mg 2 SHal):=by
 refine fnD T sc__law_hall rfl (by decide) λN RE f cdv B outer s H E hr hR hx ds A R h hl=> ?_
 have hu:=hr.units
 have nd:=sc__law_hall.nd
 refine⟨_,(dss_cons (ds_set (i:=2) nd rfl (by first|exact Or.inl rfl|exact Or.inr rfl) (de_call F__law_draw (hr.mono (by omega)) hx (da_cons (vr 0) (da_cons (vr 1) (da_cons de_int da_nil)))))
  (dss_cons (ds_set (i:=3) nd rfl (by first|exact Or.inl rfl|exact Or.inr rfl) (de_add de_int (de_call F__law_draw (hr.mono (by omega)) hx (da_cons (vr 0) (da_cons (vr 1) (da_cons de_int da_nil))))))
  (dss_cons (ds_set (i:=4) nd rfl (by first|exact Or.inl rfl|exact Or.inr rfl) (de_sl (de_lst (@da_cons _ _ _ _ _ _ de_str (@da_cons _ _ _ _ _ _ de_str (@da_cons _ _ _ _ _ _ de_str (@da_cons _ _ _ _ _ _ de_str (@da_cons _ _ _ _ _ _ de_str (@da_cons _ _ _ _ _ _ de_str da_nil sc_con) sc_con) sc_con) sc_con) sc_con) sc_con)) do_none (do_some (de_add de_int (de_call F__law_draw (hr.mono (by omega)) hx (da_cons (vr 0) (da_cons (vr 1) (da_cons de_int da_nil))))))))
  (dss_cons (ds_set (i:=5) nd rfl (by first|exact Or.inl rfl|exact Or.inr rfl) (de_cty (call_dictP rfl) d_dict b_dict boot_dict (da_cons (de_call F__law_weights (hr.mono (by omega)) hx (da_cons (vr 0) (da_cons (vr 1) (da_cons (vr 4) da_nil)))) da_nil)))
  (dss_cons (ds_set (i:=6) nd rfl (by first|exact Or.inl rfl|exact Or.inr rfl) (de_lst da_nil))
  (dss_cons (ds_for ownX rfl (di_range1 b_range (da_cons (vr 3) da_nil)) (dg_name (i:=7) nd rfl (by first|exact Or.inl rfl|exact Or.inr rfl)) (dss_cons (ds_par (i:=8) (j:=9) rfl nd rfl rfl (by decide) rfl rfl (da_cons (de_call F__law_pick (hr.mono (by omega)) hx (da_cons (vr 0) (da_cons (vr 1) (da_cons (vr 4) da_nil)))) (da_cons (de_call F__law_pick (hr.mono (by omega)) hx (da_cons (vr 0) (da_cons (vr 1) (da_cons (vr 4) da_nil)))) da_nil)) rfl)
  (dss_cons (ds_par (i:=10) (j:=11) rfl nd rfl rfl (by decide) rfl rfl (da_cons (de_ix hu (vr 5) (vr 9) (λ_ _=>rfl)) (da_cons (de_ix hu (vr 5) (vr 8) (λ_ _=>rfl)) da_nil)) rfl)
  (dss_cons (ds_if (PW.pt (dw_and (t_eq hu (vr 2) de_int) (dw_and1 (t_eq hu (vr 7) (de_sub (vr 3) de_int))))) (dss_one (ds_set (i:=10) nd rfl (by first|exact Or.inl rfl|exact Or.inr rfl) (de_add de_int (de_call F__law_draw (hr.mono (by omega)) hx (da_cons (vr 0) (da_cons (vr 1) (da_cons de_int da_nil))))))) dss_nil)
  (dss_one (ds_if (PW.pt (dw_or (t_eq hu (vr 8) (vr 9)) (dw_or1 (t_gt (de_cb (call_max2 rfl) d_max b_max boot_max (da_cons (vr 10) (da_cons (vr 11) da_nil))) de_int)))) (dss_one (ds_expr (de_mt PySem.F.plainAttrs_list PySem.F.slot_list_append PySem.F.type_list_append mt_append d_app (vr 6) (da_cons (de_tup (da_cons de_str (da_cons (vr 8) da_nil))) da_nil)))) (dss_one (ds_expr (de_mt PySem.F.plainAttrs_list PySem.F.slot_list_append PySem.F.type_list_append mt_append d_app (vr 6) (da_cons (de_tup (da_cons de_str (da_cons (vr 10) (da_cons (vr 11) (da_cons (de_tup (da_cons de_str (da_cons (vr 8) da_nil))) (da_cons (de_tup (da_cons de_str (da_cons (vr 9) da_nil))) da_nil)))))) da_nil))))))))))
  (dss_one (ds_ret (de_cty call_tuple_of d_tup b_tuple boot_tuple (da_cons (vr 6) da_nil)))))))))),?_⟩
 obtain⟨ns,t,n,rfl,ht,hn,q⟩:=h
 have hz:(1000:Nat)≤sizeLine:=by decide
 obtain⟨xs0,hx0,_⟩:=id ht
 have lt0:=lt_of_get hx0
 refine⟨rfl,ns,t,3,n,rfl,ht,by omega,by decide,λway A1 w0 w1 b1 t1=> ?_⟩
 refine⟨rfl,ns,t,5,n+1,rfl,t1,by omega,by decide,λmany A2 m0 m1 b2 t2=> ?_⟩
 refine⟨show 6≤sizeLine by omega,rfl,ns,t,5,n+2,rfl,t2.gr Gr.push,by omega,by decide,λsome A3 s0 s1 b3 t3=> ?_⟩
 have b03:But t A A3:=((b1.trans b2).trans Gr.push.but).trans b3
 have lA2:t<A2.length:=by obtain⟨_,h,_⟩:=id t2;exact lt_of_get h
 have hnm:A3[A2.length]? =_:=b3 _ _ (by omega) last_get
 refine slH_ok hnm ?_
 obtain⟨k,rfl⟩:∃k:Nat,some=((k:Nat):Int):=⟨some.toNat,by omega⟩
 have ecut:cutD [D.str "a",.str "b",.str "c",.str "d",.str "e",.str "f"] none (Option.some (2+((k:Nat):Int)))=(N6.take (2+k)).map D.str:=by
  have:=cut_to (xs:=N6.map D.str) (i:=2+k) (by simp[N6];omega)
  rw[List.map_take,←this]
  rfl
 rw[ecut]
 generalize hnms:N6.take (2+k)=nms
 have sub:∀x∈nms,x∈N6:=λx hx=>by rw[←hnms] at hx;exact List.mem_of_mem_take hx
 have nne:nms≠[]:=λz=>by
  rw[←hnms] at z
  have:=congrArg List.length z
  simp[N6] at this
 have nlen:nms.length≤6:=by rw[←hnms];simp[N6];omega
 have lA3:t<A3.length:=by obtain⟨_,h,_⟩:=id t3;exact lt_of_get h
 refine⟨rfl,ns,t,A3.length,nms,n+3,rfl,by omega,last_get,by rw[←hnms];exact up6.sublist (List.take_sublist ..),λx hx=>nm6 x (sub x hx),by omega,t3.gr Gr.push,by omega,λrs A4 hW hrs d4=> ?_⟩
 have hq4:A4[A3.length]? =_:=d4.but _ _ (by omega) last_get
 have b04:But t A A4:=(b03.trans Gr.push.but).trans d4.but
 refine dict_ok hW ?_
 have lA4:A3.length<A4.length:=lt_of_get hq4
 have l03:A.length≤A3.length:=b03.len lA3
 refine⟨Nat.zero_le _,by omega,by omega,?_⟩
 obtain⟨mn,rfl⟩:∃mn:Nat,many=((mn:Nat):Int):=⟨many.toNat,by omega⟩
 have emn:((1:Int)+((mn:Nat):Int)).toNat=1+mn:=by omega
 rw[emn]
 have t5:Tw t (n+103) (A4++[C.dct (kvW rs)]++[C.lst []]):=((d4.tw.gr Gr.push).gr Gr.push).mono (by omega)
 have b05:But t A (A4++[C.dct (kvW rs)]++[C.lst []]):=(b04.trans Gr.push.but).trans Gr.push.but
 have hq5:=getElem?_push (T:=[C.lst []]) (getElem?_push (T:=[C.dct (kvW rs)]) hq4)
 have hd5:(A4++[C.dct (kvW rs)]++[C.lst []])[A4.length]? =some (.dct (kvW rs)):=getElem?_push last_get
 have eM:(A4++[C.dct (kvW rs)]).length=A4.length+1:=by simp
 have hm5:(A4++[C.dct (kvW rs)]++[C.lst []])[A4.length+1]? =some (.lst []):=by rw[←eM];exact last_get
 rw[eM]
 refine dloop_I (λrest τ A'=>∃(ms:List M) (x7 x8 x9 x10 x11:Option D),rest=(rng 0 (1+mn)).drop ms.length∧ms.length≤1+mn∧(∀m∈ms,One m)∧τ=[some (.fl ns),some (.ref t),some (.int way),some (.int (1+((mn:Nat):Int))),some (.ref A3.length),some (.ref A4.length),some (.ref (A4.length+1)),x7,x8,x9,x10,x11]∧A'[A3.length]? =some (.lst (nms.map D.str))∧A'[A4.length]? =some (.dct (kvW rs))∧A'[A4.length+1]? =some (.lst (ms.map enc))∧But t A A'∧Tw t (n+103+3*ms.length) A') ?_ ?_ ?_ _ _ _ ⟨[],none,none,none,none,none,rfl,by simp,λ_ h=>(by cases h),rfl,hq5,hd5,hm5,b05,t5⟩
 .intro _ _ _ _
  trivial
 .rintro v rest τ A' ⟨ms,x7,x8,x9,x10,x11,e,hlen,hms,rfl,hN,hD,hM,bA,tA⟩ Nx hNx
  obtain⟨rfl,rfl,hlt⟩:=rng_drop e
  refine⟨rfl,ns,t,A3.length,nms.map D.str,_,rfl,by omega,hN,by simpa using nne,tA,by omega,λx A6 hx6 b6 t6=> ?_⟩
  obtain⟨a,ha,rfl⟩:=List.mem_map.mp hx6
  refine⟨rfl,ns,t,A3.length,nms.map D.str,_,rfl,by omega,b6 _ _ (by omega) hN,by simpa using nne,t6,by omega,λx A7 hx7 b7 t7=> ?_⟩
  obtain⟨b,hb,rfl⟩:=List.mem_map.mp hx7
  have b67:=b6.trans b7
  have hD7:=b67 _ _ (by omega) hD
  have va:=val_mem hW (n:=a) (by rw[hrs];exact ha)
  have vb:=val_mem hW (n:=b) (by rw[hrs];exact hb)
  refine ixd_ok hD7 rfl (getK_kv rs b (by rw[hrs];exact hb)) ?_
  refine ixd_ok hD7 rfl (getK_kv rs a (by rw[hrs];exact ha)) ?_
  refine cD (λc1=>cD (λc2=>⟨rfl,ns,t,9,_,rfl,t7,by omega,by decide,λi A8 i0 i1 b8 t8=> ?g1⟩) (λc2=> ?g2)) (λc1=> ?g3)
  case' g1=>
   have hl1:1≤1+i:=by omega
   have b9:=b67.trans b8
   have t9:Tw t (n+103+3*(ms.length+1)) A8:=t8.mono (by omega)
   generalize hA9:A8=A9 at*
   clear hA9
  case' g2=>
   have hl1:1≤val rs b:=vb.1
   have b9:=b67
   have t9:Tw t (n+103+3*(ms.length+1)) A7:=t7.mono (by omega)
   generalize hA9:A7=A9 at*
   clear hA9
  case' g3=>
   have hl1:1≤val rs b:=vb.1
   have b9:=b67
   have t9:Tw t (n+103+3*(ms.length+1)) A7:=t7.mono (by omega)
   generalize hA9:A7=A9 at*
   clear hA9
  all_goals
   have hr1:=va.1
   have hN9:=b9 _ _ (show A3.length≠t by omega) hN
   have hD9:=b9 _ _ (show A4.length≠t by omega) hD
   have hM9:=b9 _ _ (show A4.length+1≠t by omega) hM
   have bA9:=bA.trans b9
   have sz:(ms.map enc).length<sizeLine:=by rw[List.length_map];omega
   have done:∀(m:M) (τ':DSt) (x7 x8 x9 x10 x11:Option D),One m->τ'=[some (.fl ns),some (.ref t),some (.int way),some (.int (1+((mn:Nat):Int))),some (.ref A3.length),some (.ref A4.length),some (.ref (A4.length+1)),x7,x8,x9,x10,x11]->Nx τ' (A9.set (A4.length+1) (.lst (ms.map enc++[enc m]))):=λm τ' x7 x8 x9 x10 x11 hm hτ=>by
    refine hNx _ _ ⟨ms++[m],x7,x8,x9,x10,x11,by simp,by simp;omega,λy hy=> ?_,hτ,?_,?_,?_,bA9.setHi (by omega),?_⟩
    .rcases List.mem_append.mp hy with h|h
     .exact hms y h
     .rw[List.mem_singleton.mp h]
      exact hm
    .rw[List.getElem?_set_ne (by omega)]
     exact hN9
    .rw[List.getElem?_set_ne (by omega)]
     exact hD9
    .rw[List.map_append]
     exact List.getElem?_set_self (lt_of_get hM9)
    .obtain⟨ys,y1,y2⟩:=t9
     refine⟨ys,?_,by simpa using y2⟩
     rw[List.getElem?_set_ne (by omega)]
     exact y1
   refine cD (λc3=> ?_) (λc3=>cD (λc4=> ?_) (λc4=> ?_))
   .exact⟨isL_of hM9,show 2≤sizeLine by omega,app_ok hM9 sz (done (.wt a) _ _ _ _ _ _ (.inl ⟨a,sub a ha,rfl⟩) rfl)⟩
   .exact⟨isL_of hM9,show 2≤sizeLine by omega,app_ok hM9 sz (done (.wt a) _ _ _ _ _ _ (.inl ⟨a,sub a ha,rfl⟩) rfl)⟩
   .refine⟨isL_of hM9,show 2≤sizeLine by omega,show 2≤sizeLine by omega,show 5≤sizeLine by omega,app_ok hM9 sz (done (.rod _ (val rs a) (.wt a) (.wt b)) _ _ _ _ _ _ (.inr ⟨_,val rs a,a,b,rfl,⟨hl1,(max9 c4).1⟩,⟨hr1,(max9 c4).2⟩,sub a ha,sub b hb,c3⟩) rfl)⟩
 .rintro τ A' ⟨ms,x7,x8,x9,x10,x11,e,hlen,hms,rfl,hN,hD,hM,bA,tA⟩
  have e:=rng_end e hlen
  refine tup_ok hM ?_
  exact q ms _ (by omega) (by omega) hms ⟨bA,tA.mono (by omega)⟩
end
end My
namespace DP
open PySem PySem.Spec PyProof.Rows L2 MA
abbrev Tie:=Str×Str×Int×Int
def isR:M->Bool
 | .rod _ _ _ _=>true
 | .wt _=>false
def tyM:M->Tie
 | .rod l r (.wt a) (.wt b)=>(a,b,r,l)
 |_=>("","",1,1)
def tyF(ms:List M):List Tie:=(ms.filter isR).map tyM
def tieD(t:Tie):D:= .tup [.str t.1,.str t.2.1,.int t.2.2.1,.int t.2.2.2]
structure TyOk(t:Tie):Prop where
 a:t.1∈N6
 b:t.2.1∈N6
 ne:t.1≠t.2.1
 up:1≤t.2.2.1∧t.2.2.1≤9
 dn:1≤t.2.2.2∧t.2.2.2≤9
theorem tyF_ok{ms:List M}(h:∀m∈ms,One m):∀t∈tyF ms,TyOk t:=λt ht=>by
 obtain⟨m,hm,rfl⟩:=List.mem_map.mp ht
 obtain⟨hm,hr⟩:=List.mem_filter.mp hm
 rcases h m hm with⟨n,_,rfl⟩|⟨l,r,a,b,rfl,hl,hr',ha,hb,hn⟩
 .cases hr
 .exact⟨ha,hb,hn,hr',hl⟩
structure Cw(L:List Tie)(w:Str->Rat):Prop where
 pos:∀n,0<w n
 eq:∀t∈L,w t.1*(t.2.2.2:Rat)=w t.2.1*(t.2.2.1:Rat)
abbrev Ktb:=List (Str×Int×Int)
def kyK(ks:Ktb):List Str:=ks.map (·.1)
def kvK(ks:Ktb):List (Key×D):=ks.map λx=>(Sum.inr x.1,.tup [.int x.2.1,.int x.2.2])
theorem kvK_keys(ks:Ktb):(kvK ks).map (·.1)=(kyK ks).map Sum.inr:=by simp[kvK,kyK]
theorem getK_K:∀{ks:Ktb} {n:Str} {p q:Int},(kyK ks).Nodup->(n,p,q)∈ks->getK (kvK ks) (Sum.inr n)=some (.tup [.int p,.int q])
 |x::ks,n,p,q,hn,h=>by
  show(if (Sum.inr x.1:Key)=Sum.inr n then some (D.tup [.int x.2.1,.int x.2.2]) else getK (kvK ks) (Sum.inr n))=_
  obtain⟨h1,h2⟩:=List.nodup_cons.mp (show(x.1::kyK ks).Nodup from hn)
  rcases List.mem_cons.mp h with e|h
  .rw[←e,if_pos rfl]
  .rw[if_neg (λz=>h1 (by rw[Sum.inr.inj z];exact List.mem_map_of_mem h)),getK_K h2 h]
theorem keyK_mem{ks:Ktb}{n:Str}(h:n∈kyK ks):∃p q,(n,p,q)∈ks:=by
 obtain⟨⟨m,p,q⟩,hx,rfl⟩:=List.mem_map.mp h
 exact⟨p,q,hx⟩
structure Kn(L:List Tie)(s:Str)(ks:Ktb):Prop where
 nd:(kyK ks).Nodup
 st:(s,1,1)∈ks
 sub:∀x∈ks,x.1∈N6
 bd:∀x∈ks,(1≤x.2.1∧x.2.1≤(9:Int) ^ ks.length)∧(1≤x.2.2∧x.2.2≤(9:Int) ^ ks.length)
 sound:∀w,Cw L w->∀x∈ks,w x.1*(x.2.2:Rat)=w s*(x.2.1:Rat)
theorem Kn.len{L:List Tie}{s:Str}{ks:Ktb}(h:Kn L s ks):ks.length≤6:=by
 have:=nd_le (kyK ks) N6 h.nd λx hx=>by
  obtain⟨y,hy,rfl⟩:=List.mem_map.mp hx
  exact h.sub y hy
 simpa[kyK,N6] using this
theorem p9{k:Nat}(h:k≤6):(9:Int) ^ k≤531441:=by
 have:(9:Nat) ^ k≤9 ^ 6:=Nat.pow_le_pow_right (by decide) h
 have e:((9:Int)) ^ k=((9 ^ k:Nat):Int):=by rw[Int.natCast_pow];rfl
 rw[e]
 have:(9:Nat) ^ 6=531441:=by decide
 omega
theorem Kn.small{L:List Tie}{s:Str}{ks:Ktb}(h:Kn L s ks){x:Str×Int×Int}(hx:x∈ks):(1≤x.2.1∧x.2.1≤531441)∧(1≤x.2.2∧x.2.2≤531441):=by
 have:=h.bd x hx
 have:=p9 h.len
 omega
theorem Kn.start{L:List Tie}{s:Str}(hs:s∈N6):Kn L s [(s,1,1)]:=by
 refine⟨by simp[kyK],by simp,λx hx=> ?_,λx hx=> ?_,λw hw x hx=> ?_⟩
 all_goals
  have e:x=(s,1,1):=by simpa using hx
  subst e
 .exact hs
 .exact⟨⟨show(1:Int)≤1 by decide,show(1:Int)≤9 ^ 1 by decide⟩,show(1:Int)≤1 by decide,show(1:Int)≤9 ^ 1 by decide⟩
 .rfl
theorem Kn.add{L:List Tie}{s:Str}{ks:Ktb}(h:Kn L s ks){n m:Str}{p q u d:Int}(hm:(m,p,q)∈ks)(hn:n∉kyK ks)(hN:n∈N6)(hu:1≤u∧u≤9)(hd:1≤d∧d≤9)(hw:∀w,Cw L w->w m*(d:Rat)=w n*(u:Rat)):Kn L s (ks++[(n,p*d,q*u)]):=by
 have hb:=h.bd _ hm
 have hz:(0:Int)≤9 ^ ks.length:=Int.pow_nonneg (by decide)
 have mono:∀x:Int,x≤9 ^ ks.length->x≤(9:Int) ^ (ks.length+1):=λx hx=>by
  rw[Int.pow_succ]
  omega
 have mul:∀x y:Int,1≤x->x≤9 ^ ks.length->1≤y->y≤9->1≤x*y∧x*y≤(9:Int) ^ (ks.length+1):=λx y h1 h2 h3 h4=>by
  rw[Int.pow_succ]
  refine⟨?_,Int.mul_le_mul h2 h4 (by omega) hz⟩
  have:=Int.mul_le_mul (a:=1) (b:=1) h1 h3 (by decide) (by omega)
  omega
 refine⟨?_,List.mem_append_left _ h.st,λx hx=> ?_,λx hx=> ?_,λw hw' x hx=> ?_⟩
 .unfold kyK at hn ⊢
  rw[List.map_append,List.nodup_append]
  refine⟨h.nd,by simp,λa ha b hb=> ?_⟩
  have:b=n:=by simpa using hb
  rw[this]
  exact λz=>hn (by rw[←z];exact ha)
 .rcases List.mem_append.mp hx with hx|hx
  .exact h.sub x hx
  .rw[List.mem_singleton.mp hx]
   exact hN
 .rw[List.length_append]
  rcases List.mem_append.mp hx with hx|hx
  .have:=h.bd x hx
   exact⟨⟨this.1.1,mono _ this.1.2⟩,this.2.1,mono _ this.2.2⟩
  .rw[List.mem_singleton.mp hx]
   exact⟨mul p d hb.1.1 hb.1.2 hd.1 hd.2,mul q u hb.2.1 hb.2.2 hu.1 hu.2⟩
 .rcases List.mem_append.mp hx with hx|hx
  .exact h.sound w hw' x hx
  .rw[List.mem_singleton.mp hx]
   have h1:=h.sound w hw' _ hm
   have h2:=hw w hw'
   show w n*((q*u:Int):Rat)=w s*((p*d:Int):Rat)
   have h1:w m*(q:Rat)=w s*(p:Rat):=h1
   rw[Rat.intCast_mul,Rat.intCast_mul]
   grind
def Clo(L:List Tie)(ks:Ktb):Prop:=∀t∈L,(t.1∈kyK ks↔t.2.1∈kyK ks)
def Goo(L:List Tie)(ks:Ktb):Prop:=∀t∈L,∀p q p' q',(t.1,p,q)∈ks->(t.2.1,p',q')∈ks->p*q'*t.2.2.2=p'*q*t.2.2.1
theorem find_congr'{α:Type}{p q:α->Bool}:∀{l:List α},(∀x∈l,p x=q x)->l.find? p=l.find? q
 |[],_=>rfl
 |x::l,h=>by
  rw[List.find?_cons,List.find?_cons,h x (List.mem_cons_self ..),find_congr' (l:=l) λy hy=>h y (List.mem_cons_of_mem _ hy)]
theorem cw_of{L:List Tie}(h:∀t∈L,∃ks,Kn L t.1 ks∧Clo L ks∧Goo L ks):∃w,Cw L w:=by
 classical
 let kf:Tie->Ktb:=λt=>if ht:t∈L then Classical.choose (h t ht) else []
 have kf1:∀t∈L,Kn L t.1 (kf t)∧Clo L (kf t)∧Goo L (kf t):=λt ht=>by
  show Kn L t.1 (if ht:t∈L then Classical.choose (h t ht) else [])∧Clo L (if ht:t∈L then Classical.choose (h t ht) else [])∧Goo L (if ht:t∈L then Classical.choose (h t ht) else [])
  rw[dif_pos ht]
  exact Classical.choose_spec (h t ht)
 let rep:Str->Option Tie:=λn=>L.find? λt=>decide (n∈kyK (kf t))
 let wt:Ktb->Str->Rat:=λks n=>match ks.find? (λx=>decide (x.1=n)) with
  |some x=>(x.2.1:Rat)/(x.2.2:Rat)
  |none=>1
 let w:Str->Rat:=λn=>match rep n with
  |some t=>wt (kf t) n
  |none=>1
 have wt_at:∀(ks:Ktb) (n:Str) (p q:Int),(kyK ks).Nodup->(n,p,q)∈ks->wt ks n=(p:Rat)/(q:Rat):=λks n p q hn hx=>by
  have:ks.find? (λx=>decide (x.1=n))=some (n,p,q):=by
   induction ks with
   |nil=>cases hx
   |cons y ks ih=>
    obtain⟨h1,h2⟩:=List.nodup_cons.mp (show(y.1::kyK ks).Nodup from hn)
    rw[List.find?_cons]
    rcases List.mem_cons.mp hx with e|hx
    .rw[←e]
     simp
    .have hne:¬y.1=n:=λz=>h1 (by rw[z];exact List.mem_map_of_mem (f:=(·.1)) hx)
     rw[decide_eq_false hne]
     exact ih h2 hx
  show(match ks.find? (λx=>decide (x.1=n)) with|some x=>(x.2.1:Rat)/(x.2.2:Rat)|none=>1)=_
  rw[this]
 have cpos:∀z:Int,1≤z->(0:Rat)<(z:Rat):=λz hz=>by
  have:((0:Int):Rat)<(z:Rat):=Rat.intCast_lt_intCast.mpr (by omega)
  simpa using this
 have frpos:∀p q:Int,1≤p->1≤q->(0:Rat)<(p:Rat)/(q:Rat):=λp q hp hq=>by
  rw[Rat.div_def]
  exact Rat.mul_pos (cpos p hp) (Rat.inv_pos.mpr (cpos q hq))
 refine⟨w,λn=> ?_,λt ht=> ?_⟩
 .show 0<(match rep n with|some t=>wt (kf t) n|none=>1)
  cases e:rep n with
  |none=>exact(by decide:(0:Rat)<1)
  |some t=>
   have htL:=List.mem_of_find?_eq_some e
   have hk:n∈kyK (kf t):=by have:=List.find?_some e;exact of_decide_eq_true this
   obtain⟨k1,_,_⟩:=kf1 t htL
   obtain⟨p,q,hpq⟩:=keyK_mem hk
   show 0<wt (kf t) n
   rw[wt_at _ _ _ _ k1.nd hpq]
   have:=k1.small hpq
   exact frpos _ _ this.1.1 this.2.1
 .have er:rep t.1=rep t.2.1:=by
   show L.find? (λs=>decide (t.1∈kyK (kf s)))=L.find? (λs=>decide (t.2.1∈kyK (kf s)))
   refine find_congr' λs hs=> ?_
   have:=(kf1 s hs).2.1 t ht
   rw[Bool.eq_iff_iff,decide_eq_true_eq,decide_eq_true_eq]
   exact this
  show(match rep t.1 with|some s=>wt (kf s) t.1|none=>1)*_=(match rep t.2.1 with|some s=>wt (kf s) t.2.1|none=>1)*_
  rw[←er]
  cases e:rep t.1 with
  |none=>
   have:=List.find?_eq_none.mp e t ht
   have h1:t.1∈kyK (kf t):=List.mem_map_of_mem (f:=(·.1)) (kf1 t ht).1.st
   exact absurd (decide_eq_true h1) this
  |some s=>
   have hsL:=List.mem_of_find?_eq_some e
   have hk:t.1∈kyK (kf s):=by have:=List.find?_some e;exact of_decide_eq_true this
   obtain⟨k1,k2,k3⟩:=kf1 s hsL
   have hk2:=(k2 t ht).mp hk
   obtain⟨p,q,hpq⟩:=keyK_mem hk
   obtain⟨p',q',hpq'⟩:=keyK_mem hk2
   have g:=k3 t ht p q p' q' hpq hpq'
   show wt (kf s) t.1*_=wt (kf s) t.2.1*_
   rw[wt_at _ _ _ _ k1.nd hpq,wt_at _ _ _ _ k1.nd hpq']
   have s1:=k1.small hpq
   have s2:=k1.small hpq'
   have q0:=ne_of_pos (cpos q s1.2.1)
   have q1:=ne_of_pos (cpos q' s2.2.1)
   have g':(p:Rat)*(q':Rat)*(t.2.2.2:Rat)=(p':Rat)*(q:Rat)*(t.2.2.1:Rat):=by
    rw[←Rat.intCast_mul,←Rat.intCast_mul,←Rat.intCast_mul,←Rat.intCast_mul,g]
   grind
theorem no_cw{L:List Tie}{s:Str}{ks:Ktb}(h:Kn L s ks){t:Tie}(ht:t∈L){p q p' q':Int}(h1:(t.1,p,q)∈ks)(h2:(t.2.1,p',q')∈ks)(hne:p*q'*t.2.2.2≠p'*q*t.2.2.1):¬∃w,Cw L w:=λ⟨w,hw⟩=>hne (by
 have e1:w t.1*(q:Rat)=w s*(p:Rat):=h.sound w hw _ h1
 have e2:w t.2.1*(q':Rat)=w s*(p':Rat):=h.sound w hw _ h2
 have e3:=hw.eq t ht
 have s0:=ne_of_pos (hw.pos s)
 have key:w s*((p:Rat)*(q':Rat)*(t.2.2.2:Rat))=w s*((p':Rat)*(q:Rat)*(t.2.2.1:Rat)):=by grind
 have key2:((p:Rat)*(q':Rat)*(t.2.2.2:Rat))=((p':Rat)*(q:Rat)*(t.2.2.1:Rat)):=by grind
 rw[←Rat.intCast_mul,←Rat.intCast_mul,←Rat.intCast_mul,←Rat.intCast_mul] at key2
 exact Rat.intCast_inj.mp key2)
end DP
namespace DP
open PySem PySem.Spec PyProof.Rows L2 MA
def STie:Ct:=λds A R _=>∃ms:List M,ds=[.tup (ms.map enc)]∧ms.length≤6∧(∀m∈ms,One m)∧∀A' q,Gr A A'->A'[q]? =some (.lst ((tyF ms).map tieD))->A.length≤q->R (.ref q) A'
def SKno:Ct:=λds A R _=>∃(ms:List M) (s:Str),ds=[.tup (ms.map enc),.str s]∧ms.length≤6∧(∀m∈ms,One m)∧s∈N6∧∀ks A' q,Kn (tyF ms) s ks->Clo (tyF ms) ks->Gr A A'->A'[q]? =some (.dct (kvK ks))->R (.ref q) A'
def SFre:Ct:=λds A R _=>∃ms:List M,ds=[.tup (ms.map enc)]∧ms.length≤6∧(∀m∈ms,One m)∧∀b A',(b=true↔∃w,Cw (tyF ms) w)->Gr A A'->R (.bl b) A'
theorem kvK_put{ks:Ktb}{n:Str}{p q:Int}(h:n∉kyK ks):putG (kvK ks) (Sum.inr n) (.tup [.int p,.int q])=kvK (ks++[(n,p,q)]):=by
 rw[put_new λx hx z=> ?_]
 .simp[kvK]
 .obtain⟨y,hy,rfl⟩:=List.mem_map.mp hx
  exact h (by rw[←Sum.inr.inj z];exact List.mem_map_of_mem hy)
theorem kvK_some(ks:Ktb)(n:Str):(getK (kvK ks) (Sum.inr n)).isSome=decide (n∈kyK ks):=keys_get (kvK_keys ks)
theorem cloop_gp{α:Type}{k:Option Nat}{fr:DSt}{tt:DTT}{te:DTE}{chk:Ar->Prop}{R:List D->Ar->Prop}(g:α->D)(p:α->Bool)(f:α->D):∀(xs:List α) (ys:List D) (A:Ar),(∀A1,Gr A A1->chk A1)->(∀x∈xs,∀A1,Gr A A1->∃vs,unp k (g x)=some vs∧(∀Q:Bool->Ar->Prop,(∀A2,Gr A1 A2->Q (p x) A2)->tt (vs.map some++fr) A1 Q)∧(p x=true->∀A2,Gr A1 A2->∀Q:DK,(∀A3,Gr A2 A3->Q (f x) A3)->te (vs.map some++fr) A2 Q))->ys.length+xs.length≤sizeLine->(∀A1,Gr A A1->R (ys++(xs.filter p).map f) A1)->cLoopD chk k fr tt te R (xs.map g) ys A
 |[],ys,A,hc,_,_,h=>⟨hc A Gr.refl,by simpa using h A Gr.refl⟩
 |x::xs,ys,A,hc,hx,hl,h=>by
  obtain⟨vs,hu,ht,he⟩:=hx x (List.mem_cons_self ..) A Gr.refl
  refine⟨hc A Gr.refl,?_⟩
  rw[hu]
  simp at hl
  refine ht _ λA2 g2=> ?_
  cases hp:p x with
  |true=>
   rw[List.filter_cons_of_pos hp] at h
   exact he hp A2 g2 _ λA3 g3=>⟨by omega,cloop_gp g p f xs (ys++[f x]) A3 (λA1 z=>hc A1 ((g2.trans g3).trans z)) (λy hy A1 z=>hx y (List.mem_cons_of_mem _ hy) A1 ((g2.trans g3).trans z)) (by simp;omega) λA1 z=>by simpa using h A1 ((g2.trans g3).trans z)⟩
  |false=>
   rw[List.filter_cons_of_neg (by simp[hp])] at h
   exact cloop_gp g p f xs ys A2 (λA1 z=>hc A1 (g2.trans z)) (λy hy A1 z=>hx y (List.mem_cons_of_mem _ hy) A1 (g2.trans z)) (by omega) λA1 z=>h A1 (g2.trans z)
theorem cmS{i j:Int}(h1:1≤j)(h2:j≤531441):CMul i j:= .inr ⟨by omega,by omega⟩
end DP
namespace My
open PySem PySem.Spec PyProof.Rows L2 DP MA
section
variable{P:Program}{w:World}{K:PySem.W.Frag}{mg:Str->Option Value}{base:Heap}
theorem f_tie(T:TopD K mg "_law_ties" s__law_ties p__law_ties):FnX P w K mg base 1 "_law_ties" p__law_ties (spOf mg 1 STie):=by
 refine fnD T sc__law_ties rfl (by decide) λN RE f cdv B outer s H E hr hR hx ds A R h hl=> ?_
 have hu:=hr.units
 have nd:=sc__law_ties.nd
 refine⟨_,(dss_one (ds_ret (de_compI none (own:=["_law_part"]) (frees:=[]) (ix:=[]) rfl (di_seq (vr 0)) (λc=>(pg_name (i:=0) (show(["_law_part"]:List Str).Nodup by decide+kernel) rfl (by first|exact Or.inl rfl|exact Or.inr rfl))) (λc=>(t_eq hu (de_ix hu (vr 0) de_int (λ_ _=>rfl)) de_str)) (λc=>(de_tup (da_cons (de_ix hu (de_ix hu (vr 0) de_int (λ_ _=>rfl)) de_int (λ_ _=>rfl)) (da_cons (de_ix hu (de_ix hu (vr 0) de_int (λ_ _=>rfl)) de_int (λ_ _=>rfl)) (da_cons (de_ix hu (vr 0) de_int (λ_ _=>rfl)) (da_cons (de_ix hu (vr 0) de_int (λ_ _=>rfl)) da_nil))))))))),?_⟩
 obtain⟨ms,rfl,h6,hO,q⟩:=h
 have hz:(1000:Nat)≤sizeLine:=by decide
 refine cloop_gp enc isR (λm=>tieD (tyM m)) ms [] A (λ_ _=>trivial) (λm hm A1 g1=> ?_) (by simp;omega) (λA1 g1=> ?_)
 .refine⟨[enc m],rfl,λQ hQ=> ?_,λhp A2 g2 Q hQ=> ?_⟩
  .rcases hO m hm with⟨n,_,rfl⟩|⟨l,r,a,b,rfl,_⟩
   .exact hQ _ Gr.refl
   .exact hQ _ Gr.refl
  .rcases hO m hm with⟨n,_,rfl⟩|⟨l,r,a,b,rfl,_⟩
   .cases hp
   .exact⟨show 4≤sizeLine by omega,hQ _ Gr.refl⟩
 .rw[List.nil_append]
  refine q _ _ (g1.trans Gr.push) ?_ g1.len
  rw[last_get]
  unfold tyF
  rw[List.map_map]
  rfl
theorem f_kno(T:TopD K mg "_law_known" s__law_known p__law_known)(F__law_ties:FnX P w K mg base 1 "_law_ties" p__law_ties (spOf mg 1 STie)):FnX P w K mg base 2 "_law_known" p__law_known (spOf mg 2 SKno):=by
 refine fnD T sc__law_known rfl (by decide) λN RE f cdv B outer s H E hr hR hx ds A R h hl=> ?_
 have hu:=hr.units
 have nd:=sc__law_known.nd
 refine⟨_,(dss_cons (ds_set (i:=2) nd rfl (by first|exact Or.inl rfl|exact Or.inr rfl) (de_disp (vr 1) (de_tup (da_cons de_int (da_cons de_int da_nil)))))
  (dss_cons (ds_set (i:=3) nd rfl (by first|exact Or.inl rfl|exact Or.inr rfl) de_bl)
  (dss_cons (ds_while ownX (dt_val (vr 3)) (dss_cons (ds_set (i:=3) nd rfl (by first|exact Or.inl rfl|exact Or.inr rfl) de_bl)
  (dss_one (ds_for ownX rfl (di_seq (de_call F__law_ties (hr.mono (by omega)) hx (da_cons (vr 0) da_nil))) (dg_tup rfl (dgs_cons (dg_name (i:=4) nd rfl (by first|exact Or.inl rfl|exact Or.inr rfl)) (dgs_cons (dg_name (i:=5) nd rfl (by first|exact Or.inl rfl|exact Or.inr rfl)) (dgs_cons (dg_name (i:=6) nd rfl (by first|exact Or.inl rfl|exact Or.inr rfl)) (dgs_cons (dg_name (i:=7) nd rfl (by first|exact Or.inl rfl|exact Or.inr rfl)) dgs_nil))))) (dss_cons (ds_if (PW.pt (dw_and (t_in hu (vr 4) (vr 2)) (dw_and1 (t_nin hu (vr 5) (vr 2))))) (dss_cons (ds_put hu (vr 2) (vr 5) (de_tup (da_cons (de_mul (de_ix hu (de_ix hu (vr 2) (vr 4) (λ_ _=>rfl)) de_int (λ_ _=>rfl)) (vr 7)) (da_cons (de_mul (de_ix hu (de_ix hu (vr 2) (vr 4) (λ_ _=>rfl)) de_int (λ_ _=>rfl)) (vr 6)) da_nil))) rfl)
  (dss_one (ds_set (i:=3) nd rfl (by first|exact Or.inl rfl|exact Or.inr rfl) de_bl))) dss_nil)
  (dss_one (ds_if (PW.pt (dw_and (t_in hu (vr 5) (vr 2)) (dw_and1 (t_nin hu (vr 4) (vr 2))))) (dss_cons (ds_put hu (vr 2) (vr 4) (de_tup (da_cons (de_mul (de_ix hu (de_ix hu (vr 2) (vr 5) (λ_ _=>rfl)) de_int (λ_ _=>rfl)) (vr 6)) (da_cons (de_mul (de_ix hu (de_ix hu (vr 2) (vr 5) (λ_ _=>rfl)) de_int (λ_ _=>rfl)) (vr 7)) da_nil))) rfl)
  (dss_one (ds_set (i:=3) nd rfl (by first|exact Or.inl rfl|exact Or.inr rfl) de_bl))) dss_nil)))))))
  (dss_one (ds_ret (vr 2)))))),?_⟩
 obtain⟨ms,s0,rfl,h6,hO,hs,q⟩:=h
 have hz:(1000:Nat)≤sizeLine:=by decide
 have tok:=tyF_ok hO
 generalize hL:tyF ms=L at*
 refine⟨show 2≤sizeLine by omega,?_⟩
 refine⟨λk τ A'=>∃(ks:Ktb) (c:Bool) (x4 x5 x6 x7:Option D),k=14 - 2*ks.length+c.toNat∧τ=[some (.tup (ms.map enc)),some (.str s0),some (.ref A.length),some (.bl c),x4,x5,x6,x7]∧Kn L s0 ks∧A'[A.length]? =some (.dct (kvK ks))∧Gr A A'∧(c=false->Clo L ks),⟨_,[(s0,1,1)],true,none,none,none,none,rfl,rfl,Kn.start hs,last_get,Gr.push,λh=>by cases h⟩,?_⟩
 rintro k τ A1 ⟨ks,c,x4,x5,x6,x7,rfl,rfl,hK,hd,g1,hc⟩
 cases c with
 |false=>exact q ks A1 _ hK (hc rfl) g1 hd
 |true=>
  have l6:=hK.len
  refine⟨λτ A'=>∃(ks':Ktb) (c:Bool) (x4 x5 x6 x7:Option D),τ=[some (.tup (ms.map enc)),some (.str s0),some (.ref A.length),some (.bl c),x4,x5,x6,x7]∧Kn L s0 ks'∧A'[A.length]? =some (.dct (kvK ks'))∧Gr A A'∧(c=false->ks'=ks∧Clo L ks')∧(c=true->ks.length<ks'.length),?_,?_⟩
  .rintro τ' A' ⟨ks',c,x4,x5,x6,x7,h1,h2,h3,h4,h5,h6⟩
   refine⟨_,?_,ks',c,x4,x5,x6,x7,rfl,h1,h2,h3,h4,λh=>(h5 h).2⟩
   have:=h2.len
   cases c with
   |true=>
    have:=h6 rfl
    show 14 - 2*ks'.length+1<14 - 2*ks.length+1
    omega
   |false=>
    rw[(h5 rfl).1]
    show 14 - 2*ks.length+0<14 - 2*ks.length+1
    omega
  refine⟨rfl,ms,rfl,h6,hO,λA2 q2 g2 h2 l2=> ?_⟩
  rw[hL] at h2
  refine it_ok h2 ?_
  have hd2:=g2.get hd
  have nq:A.length≠q2:=λz=>by rw[←z,hd2] at h2;cases h2
  refine dloop_I (λrest τ A'=>∃(dn more:List Tie) (ks':Ktb) (c:Bool) (x4 x5 x6 x7:Option D),rest=more.map tieD∧dn++more=L∧τ=[some (.tup (ms.map enc)),some (.str s0),some (.ref A.length),some (.bl c),x4,x5,x6,x7]∧Kn L s0 ks'∧A'[A.length]? =some (.dct (kvK ks'))∧A'[q2]? =some (.lst (L.map tieD))∧Gr A A'∧ks.length≤ks'.length∧(c=false->ks'=ks∧Clo dn ks')∧(c=true->ks.length<ks'.length)) ?_ ?_ ?_ _ _ _ ⟨[],L,ks,false,x4,x5,x6,x7,rfl,rfl,rfl,hK,hd2,h2,g1.trans g2,Nat.le_refl _,λ_=>⟨rfl,λt ht=>by cases ht⟩,λh=>by cases h⟩
  .rintro rest τ A' ⟨_,_,_,_,_,_,_,_,_,_,_,_,_,h,_⟩
   exact h
  .rintro v rest τ A3 ⟨dn,more,ks',c,y4,y5,y6,y7,e,hdm,rfl,hK',hd3,hq3,g3,hle,hc0,hc1⟩ Nx hN
   cases more with
   |nil=>cases e
   |cons t more=>
   cases e
   have ht:t∈L:=by rw[←hdm];simp
   have tk:=tok t ht
   have gn:=λx=>kvK_some ks' x
   have lk6:=hK'.len
   have kvl:(kvK ks').length<sizeLine:=by
    have:(kvK ks').length=ks'.length:=by simp[kvK]
    omega
   have new:∀(n m:Str) (p q u d:Int) (τ':DSt),(m,p,q)∈ks'->n∉kyK ks'->n∈N6->(1≤u∧u≤9)->(1≤d∧d≤9)->(∀w,Cw L w->w m*(d:Rat)=w n*(u:Rat))->τ'=[some (.tup (ms.map enc)),some (.str s0),some (.ref A.length),some (.bl true),some (.str t.1),some (.str t.2.1),some (.int t.2.2.1),some (.int t.2.2.2)]->Kn L s0 (ks'++[(n,p*d,q*u)])∧(A3.set A.length (.dct (putG (kvK ks') (Sum.inr n) (.tup [.int (p*d),.int (q*u)]))))[A.length]? =some (.dct (kvK (ks'++[(n,p*d,q*u)])))∧Nx τ' (A3.set A.length (.dct (putG (kvK ks') (Sum.inr n) (.tup [.int (p*d),.int (q*u)])))):=λn m p q u d τ' h1 h2 h3 h4 h5 h6 hτ=>by
    have k1:=hK'.add h1 h2 h3 h4 h5 h6
    have k2:(A3.set A.length (.dct (putG (kvK ks') (Sum.inr n) (.tup [.int (p*d),.int (q*u)]))))[A.length]? =some (.dct (kvK (ks'++[(n,p*d,q*u)]))):=by
     rw[kvK_put h2]
     exact List.getElem?_set_self (lt_of_get hd3)
    refine⟨k1,k2,hN _ _ ⟨dn++[t],more,_,true,_,_,_,_,rfl,by simpa using hdm,hτ,k1,k2,?_,g3.set (Nat.le_refl _),(by simp;omega),(λh=>by cases h),(λ_=>by simp;omega)⟩⟩
    rw[List.getElem?_set_ne nq]
    exact hq3
   have keep:(t.1∈kyK ks'↔t.2.1∈kyK ks')->∀τ',τ'=[some (.tup (ms.map enc)),some (.str s0),some (.ref A.length),some (.bl c),some (.str t.1),some (.str t.2.1),some (.int t.2.2.1),some (.int t.2.2.2)]->Nx τ' A3:=λhiff τ' hτ=>
    hN _ _ ⟨dn++[t],more,ks',c,_,_,_,_,rfl,by simpa using hdm,hτ,hK',hd3,hq3,g3,hle,λh=>⟨(hc0 h).1,λt' ht'=>by
     rcases List.mem_append.mp ht' with h'|h'
     .exact(hc0 h).2 t' h'
     .rw[List.mem_singleton.mp h']
      exact hiff⟩,hc1⟩
   refine⟨rfl,ind_ok hd3 rfl ?_⟩
   rw[if_neg Bool.false_ne_true,gn]
   refine cD (λa=> ?_) (λa=> ?_)
   .refine ind_ok hd3 rfl ?_
    rw[if_pos rfl,gn]
    refine cN (λb=> ?_) (λb=> ?_)
    .obtain⟨p,q',hpq⟩:=keyK_mem a
     have sm:=hK'.small hpq
     obtain⟨k1,k2,k3⟩:=new t.2.1 t.1 p q' t.2.2.1 t.2.2.2 _ hpq b tk.b tk.up tk.dn (λw hw=>hw.eq t ht) rfl
     refine ixd_ok hd3 rfl (getK_K hK'.nd hpq) ⟨cmS tk.dn.1 (by have:=tk.dn.2;omega),?_⟩
     refine ixd_ok hd3 rfl (getK_K hK'.nd hpq) ⟨cmS tk.up.1 (by have:=tk.up.2;omega),show 2≤sizeLine by omega,?_⟩
     refine put_ok hd3 rfl kvl ?_
     refine ind_ok k2 rfl ?_
     rw[if_neg Bool.false_ne_true,kvK_some]
     have m1:t.2.1∈kyK (ks'++[(t.2.1,p*t.2.2.2,q'*t.2.2.1)]):=by simp[kyK]
     have m2:t.1∈kyK (ks'++[(t.2.1,p*t.2.2.2,q'*t.2.2.1)]):=by
      unfold kyK at a ⊢
      rw[List.map_append]
      exact List.mem_append_left _ a
     refine cD (λ_=> ?_) (λz=>absurd m1 z)
     refine ind_ok k2 rfl ?_
     rw[if_pos rfl,kvK_some]
     exact cN (λz=>absurd m2 z) (λ_=>k3)
    .refine ind_ok hd3 rfl ?_
     rw[if_neg Bool.false_ne_true,gn]
     refine cD (λ_=> ?_) (λz=>absurd b z)
     refine ind_ok hd3 rfl ?_
     rw[if_pos rfl,gn]
     exact cN (λz=>absurd a z) (λ_=>keep ⟨λ_=>b,λ_=>a⟩ _ rfl)
   .refine ind_ok hd3 rfl ?_
    rw[if_neg Bool.false_ne_true,gn]
    refine cD (λb=> ?_) (λb=> ?_)
    .refine ind_ok hd3 rfl ?_
     rw[if_pos rfl,gn]
     refine cN (λ_=> ?_) (λz=>absurd z a)
     obtain⟨p,q',hpq⟩:=keyK_mem b
     have sm:=hK'.small hpq
     obtain⟨k1,k2,k3⟩:=new t.1 t.2.1 p q' t.2.2.2 t.2.2.1 _ hpq a tk.a tk.dn tk.up (λw hw=>(hw.eq t ht).symm) rfl
     refine ixd_ok hd3 rfl (getK_K hK'.nd hpq) ⟨cmS tk.up.1 (by have:=tk.up.2;omega),?_⟩
     refine ixd_ok hd3 rfl (getK_K hK'.nd hpq) ⟨cmS tk.dn.1 (by have:=tk.dn.2;omega),show 2≤sizeLine by omega,?_⟩
     exact put_ok hd3 rfl kvl k3
    .exact keep ⟨λz=>absurd z a,λz=>absurd z b⟩ _ rfl
  .rintro τ A3 ⟨dn,more,ks',c,y4,y5,y6,y7,e,hdm,rfl,hK',hd3,hq3,g3,hle,hc0,hc1⟩
   cases more with
   |cons _ _=>cases e
   |nil=>
    have hdm:dn=L:=by simpa using hdm
    subst hdm
    exact⟨ks',c,y4,y5,y6,y7,rfl,hK',hd3,g3,hc0,hc1⟩
theorem f_fre(T:TopD K mg "_law_free" s__law_free p__law_free)(F__law_ties:FnX P w K mg base 1 "_law_ties" p__law_ties (spOf mg 1 STie))(F__law_known:FnX P w K mg base 2 "_law_known" p__law_known (spOf mg 2 SKno)):FnX P w K mg base 3 "_law_free" p__law_free (spOf mg 1 SFre):=by
 refine fnD T sc__law_free rfl (by decide) λN RE f cdv B outer s H E hr hR hx ds A R h hl=> ?_
 have hu:=hr.units
 have nd:=sc__law_free.nd
 refine⟨_,(dss_cons (ds_for ownX rfl (di_seq (de_call F__law_ties (hr.mono (by omega)) hx (da_cons (vr 0) da_nil))) (dg_tup rfl (dgs_cons (dg_name (i:=1) nd rfl (by first|exact Or.inl rfl|exact Or.inr rfl)) (dgs_cons (dg_name (i:=2) nd rfl (by first|exact Or.inl rfl|exact Or.inr rfl)) (dgs_cons (dg_name (i:=3) nd rfl (by first|exact Or.inl rfl|exact Or.inr rfl)) (dgs_cons (dg_name (i:=4) nd rfl (by first|exact Or.inl rfl|exact Or.inr rfl)) dgs_nil))))) (dss_cons (ds_set (i:=5) nd rfl (by first|exact Or.inl rfl|exact Or.inr rfl) (de_call F__law_known (hr.mono (by omega)) hx (da_cons (vr 0) (da_cons (vr 1) da_nil))))
  (dss_one (ds_for ownX rfl (di_seq (de_call F__law_ties (hr.mono (by omega)) hx (da_cons (vr 0) da_nil))) (dg_tup rfl (dgs_cons (dg_name (i:=6) nd rfl (by first|exact Or.inl rfl|exact Or.inr rfl)) (dgs_cons (dg_name (i:=7) nd rfl (by first|exact Or.inl rfl|exact Or.inr rfl)) (dgs_cons (dg_name (i:=8) nd rfl (by first|exact Or.inl rfl|exact Or.inr rfl)) (dgs_cons (dg_name (i:=9) nd rfl (by first|exact Or.inl rfl|exact Or.inr rfl)) dgs_nil))))) (dss_one (ds_if (t_in hu (vr 6) (vr 5)) (dss_cons (ds_par (i:=10) (j:=11) rfl nd rfl rfl (by decide) rfl rfl (da_cons (de_ix hu (vr 5) (vr 6) (λ_ _=>rfl)) (da_cons (de_ix hu (vr 5) (vr 7) (λ_ _=>rfl)) da_nil)) rfl)
  (dss_one (ds_if (t_ne hu (de_mul (de_mul (de_ix hu (vr 10) de_int (λ_ _=>rfl)) (de_ix hu (vr 11) de_int (λ_ _=>rfl))) (vr 9)) (de_mul (de_mul (de_ix hu (vr 11) de_int (λ_ _=>rfl)) (de_ix hu (vr 10) de_int (λ_ _=>rfl))) (vr 8))) (dss_one (ds_ret de_bl)) dss_nil))) dss_nil))))))
  (dss_one (ds_ret de_bl))),?_⟩
 obtain⟨ms,rfl,h6,hO,q⟩:=h
 have hz:(1000:Nat)≤sizeLine:=by decide
 have tok:=tyF_ok hO
 refine⟨rfl,ms,rfl,h6,hO,λA1 q1 g1 h1 l1=> ?_⟩
 refine it_ok h1 ?_
 refine dloop_I (λrest τ A'=>∃(dn more:List Tie) (x1 x2 x3 x4 x5 x6 x7 x8 x9 x10 x11:Option D),rest=more.map tieD∧dn++more=tyF ms∧τ=[some (.tup (ms.map enc)),x1,x2,x3,x4,x5,x6,x7,x8,x9,x10,x11]∧(∀t∈dn,∃ks,Kn (tyF ms) t.1 ks∧Clo (tyF ms) ks∧Goo (tyF ms) ks)∧Gr A1 A') ?_ ?_ ?_ _ _ _ ⟨[],tyF ms,none,none,none,none,none,none,none,none,none,none,none,rfl,rfl,rfl,λ_ h=>(by cases h),Gr.refl⟩
 .rintro rest τ A' ⟨_,_,_,_,_,_,_,_,_,_,_,_,_,_,_,_,_,g⟩
  exact g.get h1
 .rintro v rest τ A2 ⟨dn,more,x1,x2,x3,x4,x5,x6,x7,x8,x9,x10,x11,e,hdm,rfl,hdn,g2⟩ Nx hN
  cases more with
  |nil=>cases e
  |cons t0 more=>
  cases e
  have ht0:t0∈tyF ms:=by rw[←hdm];simp
  refine⟨rfl,rfl,ms,t0.1,rfl,h6,hO,(tok t0 ht0).a,λks A3 q3 hK hC g3 hd=> ?_⟩
  refine⟨rfl,ms,rfl,h6,hO,λA4 q4 g4 h4 l4=> ?_⟩
  have hd4:=g4.get hd
  refine it_ok h4 ?_
  have g14:=(g2.trans g3).trans g4
  refine dloop_I (λrest τ A'=>∃(dn2 more2:List Tie) (x6 x7 x8 x9 x10 x11:Option D),rest=more2.map tieD∧dn2++more2=tyF ms∧τ=[some (.tup (ms.map enc)),some (.str t0.1),some (.str t0.2.1),some (.int t0.2.2.1),some (.int t0.2.2.2),some (.ref q3),x6,x7,x8,x9,x10,x11]∧Goo dn2 ks∧A'=A4) ?_ ?_ ?_ _ _ _ ⟨[],tyF ms,x6,x7,x8,x9,x10,x11,rfl,rfl,rfl,λ_ h=>(by cases h),rfl⟩
  .rintro rest τ A' ⟨_,_,_,_,_,_,_,_,_,_,_,_,rfl⟩
   exact h4
  .rintro v rest τ A' ⟨dn2,more2,y6,y7,y8,y9,y10,y11,e,hdm2,rfl,hG,rfl⟩ Nx2 hN2
   cases more2 with
   |nil=>cases e
   |cons t more2=>
   cases e
   have ht:t∈tyF ms:=by rw[←hdm2];simp
   have tk:=tok t ht
   have next:∀(x6 x7 x8 x9 x10 x11:Option D) (τ':DSt),(∀p q p' q',(t.1,p,q)∈ks->(t.2.1,p',q')∈ks->p*q'*t.2.2.2=p'*q*t.2.2.1)->τ'=[some (.tup (ms.map enc)),some (.str t0.1),some (.str t0.2.1),some (.int t0.2.2.1),some (.int t0.2.2.2),some (.ref q3),x6,x7,x8,x9,x10,x11]->Nx2 τ' A':=λx6 x7 x8 x9 x10 x11 τ' hg hτ=>
    hN2 _ _ ⟨dn2++[t],more2,x6,x7,x8,x9,x10,x11,rfl,by simpa using hdm2,hτ,λt' ht'=>by
     rcases List.mem_append.mp ht' with h'|h'
     .exact hG t' h'
     .rw[List.mem_singleton.mp h']
      exact hg,rfl⟩
   refine⟨rfl,ind_ok hd4 rfl ?_⟩
   rw[if_neg Bool.false_ne_true,kvK_some]
   refine cD (λa=> ?_) (λa=> ?_)
   .have b:=(hC t ht).mp a
    obtain⟨p,q',hpq⟩:=keyK_mem a
    obtain⟨p2,q2,hpq2⟩:=keyK_mem b
    have s1:=hK.small hpq
    have s2:=hK.small hpq2
    refine ixd_ok hd4 rfl (getK_K hK.nd hpq) ?_
    refine ixd_ok hd4 rfl (getK_K hK.nd hpq2) ?_
    refine⟨cmS s2.2.1 s2.2.2,cmS tk.dn.1 (by have:=tk.dn.2;omega),cmS s1.2.1 s1.2.2,cmS tk.up.1 (by have:=tk.up.2;omega),?_⟩
    refine cN (λc=> ?_) (λc=> ?_)
    .exact q false _ ⟨λh=>(by cases h),λh=>absurd h (no_cw hK ht hpq hpq2 c)⟩ (g1.trans g14)
    .refine next _ _ _ _ _ _ _ (λp' q'' p2' q2' k1 k2=> ?_) rfl
     have e1:=getK_K hK.nd k1
     rw[getK_K hK.nd hpq] at e1
     have e2:=getK_K hK.nd k2
     rw[getK_K hK.nd hpq2] at e2
     cases e1
     cases e2
     exact c
   .refine next _ _ _ _ _ _ _ (λp q' p2 q2 k1 k2=>absurd (List.mem_map_of_mem (f:=(·.1)) k1) a) rfl
  .rintro τ A' ⟨dn2,more2,y6,y7,y8,y9,y10,y11,e,hdm2,rfl,hG,rfl⟩
   cases more2 with
   |cons _ _=>cases e
   |nil=>
    have hdm2:dn2=tyF ms:=by simpa using hdm2
    subst hdm2
    exact hN _ _ ⟨dn++[t0],more,_,_,_,_,_,_,_,_,_,_,_,rfl,by simpa using hdm,rfl,λt' ht'=>by
     rcases List.mem_append.mp ht' with h'|h'
     .exact hdn t' h'
     .rw[List.mem_singleton.mp h']
      exact⟨ks,hK,hC,hG⟩,g14⟩
 .rintro τ A2 ⟨dn,more,x1,x2,x3,x4,x5,x6,x7,x8,x9,x10,x11,e,hdm,rfl,hdn,g2⟩
  cases more with
  |cons _ _=>cases e
  |nil=>
   have hdm:dn=tyF ms:=by simpa using hdm
   subst hdm
   exact q true _ ⟨λ_=>cw_of hdn,λ_=>rfl⟩ (g1.trans g2)
end
end My
namespace DP
open PySem PySem.Spec PyProof.Rows L2 MA
theorem one_hl{m:M}(h:One m):Hl m:=by
 rcases h with⟨n,hn,rfl⟩|⟨l,r,a,b,rfl,hl,hr,ha,hb,hne⟩
 .refine⟨⟨trivial,λx hx=> ?_⟩,by decide+revert,rfl⟩
  rw[show x=n by simpa[Mob.names] using hx]
  exact nm6 n hn
 .refine⟨⟨⟨hl.1,hl.2,hr.1,hr.2,trivial,trivial⟩,λx hx=> ?_⟩,show max 0 0+1≤5 by decide,?_⟩
  .have:x=a∨x=b:=by simpa[Mob.names] using hx
   rcases this with rfl|rfl
   .exact nm6 _ ha
   .exact nm6 _ hb
  .have e:sh3 (.rod l r (.wt a) (.wt b)) "" 1=[("" ++("l" :Str),a,1*((r:Rat)/((l+r:Int):Rat))),("" ++("r" :Str),b,1*((l:Rat)/((l+r:Int):Rat)))]:=rfl
   rw[e]
   simp[barM,hne]
theorem sh_two{l r:Int}{a b:Str}(hne:a≠b):shr (.rod l r (.wt a) (.wt b)) a=(r:Rat)/((l+r:Int):Rat)∧shr (.rod l r (.wt a) (.wt b)) b=(l:Rat)/((l+r:Int):Rat):=by
 have e:sh3 (.rod l r (.wt a) (.wt b)) "" 1=[("" ++("l" :Str),a,1*((r:Rat)/((l+r:Int):Rat))),("" ++("r" :Str),b,1*((l:Rat)/((l+r:Int):Rat)))]:=rfl
 unfold shr
 rw[e]
 constructor
 .simp[Rat.one_mul]
 .simp[hne,Rat.one_mul]
theorem hall_ok{ms:List M}(h5:ms.length≤6)(h:∀m∈ms,One m):HOk6 (ms.map tabF) N6:=by
 refine⟨by rw[List.length_map];omega,λT hT=> ?_,by decide,λT hT n hn=> ?_⟩
 .obtain⟨m,hm,rfl⟩:=List.mem_map.mp hT
  exact(tabF_ok (one_hl (h m hm))).1
 .obtain⟨m,hm,rfl⟩:=List.mem_map.mp hT
  have:=((tabF_ok (one_hl (h m hm))).2.1 n).mp hn
  rcases h m hm with⟨k,hk,rfl⟩|⟨l,r,a,b,rfl,_,_,ha,hb,_⟩
  .rw[show n=k by simpa[Mob.names] using this]
   exact hk
  .have:n=a∨n=b:=by simpa[Mob.names] using this
   rcases this with rfl|rfl
   .exact ha
   .exact hb
theorem free_iff{ms:List M}(h5:ms.length≤6)(h:∀m∈ms,One m):(∃w,Cw (tyF ms) w)↔rgF (ms.map tabF)=none:=by
 have hok:=hall_ok h5 h
 have key:∀w:Str->Rat,Cs (ms.map tabF) w↔Cw (tyF ms) w:=λw=>by
  constructor
  .intro hw
   refine⟨hw.pos,λt ht=> ?_⟩
   obtain⟨m,hm,rfl⟩:=List.mem_map.mp ht
   obtain⟨hm,hr⟩:=List.mem_filter.mp hm
   have hT:=tabF_ok (one_hl (h m hm))
   have hmem:=List.mem_map_of_mem (f:=tabF) hm
   rcases h m hm with⟨n,_,rfl⟩|⟨l,r,a,b,rfl,hl,hr',ha,hb,hn⟩
   .cases hr
   .have ka:=(hT.2.1 a).mpr (by simp[Mob.names])
    have kb:=(hT.2.1 b).mpr (by simp[Mob.names])
    have e:=hw.eq _ hmem a ka b kb
    rw[hT.2.2 a ka,hT.2.2 b kb,(sh_two hn).1,(sh_two hn).2] at e
    show w a*(l:Rat)=w b*(r:Rat)
    have lr:=cast_ne (show(l+r:Int)≠0 by omega)
    grind
  .intro hw
   refine⟨hw.pos,λT hT' x hx y hy=> ?_⟩
   obtain⟨m,hm,rfl⟩:=List.mem_map.mp hT'
   have hT:=tabF_ok (one_hl (h m hm))
   have xm:=(hT.2.1 x).mp hx
   have ym:=(hT.2.1 y).mp hy
   rw[hT.2.2 x hx,hT.2.2 y hy]
   rcases h m hm with⟨n,_,rfl⟩|⟨l,r,a,b,rfl,hl,hr',ha,hb,hn⟩
   .rw[show x=n by simpa[Mob.names] using xm,show y=n by simpa[Mob.names] using ym]
   .have ht:(a,b,r,l)∈tyF ms:=List.mem_map.mpr ⟨_,List.mem_filter.mpr ⟨hm,rfl⟩,rfl⟩
    have e:w a*(l:Rat)=w b*(r:Rat):=hw.eq _ ht
    have lr:=cast_ne (show(l+r:Int)≠0 by omega)
    have xm:x=a∨x=b:=by simpa[Mob.names] using xm
    have ym:y=a∨y=b:=by simpa[Mob.names] using ym
    obtain⟨s1,s2⟩:=sh_two (l:=l) (r:=r) hn
    rcases xm with rfl|rfl<;>rcases ym with rfl|rfl
    .rfl
    .rw[s1,s2]
     grind
    .rw[s1,s2]
     grind
    .rfl
 constructor
 .rintro ⟨w,hw⟩
  exact ring_of hok ((key w).mpr hw)
 .intro e
  obtain⟨w,hw⟩:=of_ring hok e
  exact⟨w,(key w).mp hw⟩
theorem is_hall{ms:List M}(h1:1≤ms.length)(h5:ms.length≤6)(h:∀m∈ms,One m):IsHall (.tup (ms.map enc)) ms:=⟨rfl,h1,h5,λm hm=>one_hl (h m hm)⟩
theorem hall_same{ms ms':List M}(h:IsHall (.tup (ms.map enc)) ms'):ms'=ms:=(enc_map_inj (D.tup.inj h.1)).symm
end DP
namespace DP
open PySem PySem.Spec PyProof.Rows L2 MA
section
open Classical
abbrev RM(ms:List M)(a b:Str):Prop:=Rch (ms.map tabF) a b
theorem adj_m{ms:List M}(h:∀m∈ms,One m){a b:Str}:Adj (ms.map tabF) a b↔∃m∈ms,a∈m.names∧b∈m.names:=by
 constructor
 .rintro ⟨T,hT,h1,h2⟩
  obtain⟨m,hm,rfl⟩:=List.mem_map.mp hT
  have k:=(tabF_ok (one_hl (h m hm))).2.1
  exact⟨m,hm,(k a).mp h1,(k b).mp h2⟩
 .rintro ⟨m,hm,h1,h2⟩
  have k:=(tabF_ok (one_hl (h m hm))).2.1
  exact⟨_,List.mem_map_of_mem hm,(k a).mpr h1,(k b).mpr h2⟩
theorem rch_mono{Ts Us:List Tb}(h:∀T∈Ts,T∈Us){a b:Str}(k:Rch Ts a b):Rch Us a b:=by
 induction k with
 |refl=>exact .refl _
 |step _ e ih=>
  obtain⟨T,hT,h1,h2⟩:=e
  exact .step ih ⟨T,h T hT,h1,h2⟩
theorem rm_cons{m:M}{ms:List M}{a b:Str}(k:RM ms a b):RM (m::ms) a b:=rch_mono (λT hT=>List.mem_cons_of_mem _ hT) k
theorem rm_wt{n:Str}{ms:List M}(h:∀m∈(.wt n::ms),One m){a b:Str}:RM (.wt n::ms) a b↔RM ms a b:=by
 refine⟨λk=> ?_,rm_cons⟩
 induction k with
 |refl=>exact .refl _
 |step _ e ih=>
  obtain⟨m,hm,h1,h2⟩:=(adj_m h).mp e
  rcases List.mem_cons.mp hm with rfl|hm
  .have e1:=List.mem_singleton.mp (show _∈[n] from h1)
   have e2:=List.mem_singleton.mp (show _∈[n] from h2)
   rw[e2,←e1]
   exact ih
  .exact .step ih ((adj_m λx hx=>h x (List.mem_cons_of_mem _ hx)).mpr ⟨m,hm,h1,h2⟩)
theorem rm_rod{l r:Int}{a b:Str}{ms:List M}(h:∀m∈(.rod l r (.wt a) (.wt b)::ms),One m){x y:Str}:RM (.rod l r (.wt a) (.wt b)::ms) x y↔RM ms x y∨(RM ms x a∧RM ms b y)∨(RM ms x b∧RM ms a y):=by
 have hab:RM (.rod l r (.wt a) (.wt b)::ms) a b:= .step (.refl _) ((adj_m h).mpr ⟨_,List.mem_cons_self ..,by simp[Mob.names],by simp[Mob.names]⟩)
 constructor
 .intro k
  induction k with
  |refl=>exact .inl (.refl _)
  | @step b1 c1 _ e ih=>
   obtain⟨m,hm,h1,h2⟩:=(adj_m h).mp e
   rcases List.mem_cons.mp hm with rfl|hm
   .have e1:b1=a∨b1=b:=by simpa[Mob.names] using h1
    have e2:c1=a∨c1=b:=by simpa[Mob.names] using h2
    rcases e1 with rfl|rfl<;>rcases e2 with rfl|rfl
    .exact ih
    .rcases ih with ih|⟨i1,i2⟩|⟨i1,i2⟩
     .exact .inr (.inl ⟨ih,.refl _⟩)
     .exact .inr (.inl ⟨i1,.refl _⟩)
     .exact .inl i1
    .rcases ih with ih|⟨i1,i2⟩|⟨i1,i2⟩
     .exact .inr (.inr ⟨ih,.refl _⟩)
     .exact .inl i1
     .exact .inr (.inr ⟨i1,.refl _⟩)
    .exact ih
   .have e:=(adj_m λx hx=>h x (List.mem_cons_of_mem _ hx)).mpr ⟨m,hm,h1,h2⟩
    rcases ih with ih|⟨i1,i2⟩|⟨i1,i2⟩
    .exact .inl (.step ih e)
    .exact .inr (.inl ⟨i1,.step i2 e⟩)
    .exact .inr (.inr ⟨i1,.step i2 e⟩)
 .rintro (k|⟨k1,k2⟩|⟨k1,k2⟩)
  .exact rm_cons k
  .exact((rm_cons k1).trans hab).trans (rm_cons k2)
  .exact((rm_cons k1).trans hab.symm).trans (rm_cons k2)
noncomputable def rp(ms:List M)(n:Str):Option Str:=N6.find? λk=>decide (RM ms k n)
noncomputable def isRp(ms:List M)(n:Str):Bool:=decide (rp ms n=some n)
theorem rp_some{ms:List M}{n:Str}(hn:n∈N6):∃k,rp ms n=some k∧k∈N6∧RM ms k n:=by
 cases e:rp ms n with
 |none=>
  have:=List.find?_eq_none.mp e n hn
  exact absurd (decide_eq_true (Rch.refl n)) this
 |some k=>
  have h2:=List.find?_some e
  exact⟨k,rfl,List.mem_of_find?_eq_some e,of_decide_eq_true h2⟩
theorem rp_eq{ms:List M}{a b:Str}(h:RM ms a b):rp ms a=rp ms b:=by
 unfold rp
 refine find_congr' λk _=> ?_
 rw[Bool.eq_iff_iff,decide_eq_true_eq,decide_eq_true_eq]
 exact⟨λk=>k.trans h,λk=>k.trans h.symm⟩
theorem find_or{α:Type}{p q r:α->Bool}:∀{l:List α},(∀x∈l,r x=(p x||q x))->l.find? r=l.find? p∨l.find? r=l.find? q
 |[],_=> .inl rfl
 |x::l,h=>by
  have e:=h x (List.mem_cons_self ..)
  have ih:=find_or (l:=l) (p:=p) (q:=q) (r:=r) λy hy=>h y (List.mem_cons_of_mem _ hy)
  rw[List.find?_cons,List.find?_cons,List.find?_cons,e]
  cases p x<;>cases q x<;>simp
  exact ih
theorem filt_less{α:Type}[DecidableEq α]{p:α->Bool}{x:α}:∀{l:List α},l.Nodup->x∈l->p x=true->(l.filter λy=>p y&& !decide (y=x)).length+1=(l.filter p).length
 |y::l,hn,hx,hp=>by
  obtain⟨n1,n2⟩:=List.nodup_cons.mp hn
  by_cases e:y=x
  .subst e
   rw[List.filter_cons_of_neg (by simp),List.filter_cons_of_pos hp,List.length_cons]
   congr 2
   refine List.filter_congr λz hz=> ?_
   have:¬z=y:=λk=>n1 (by rw[←k];exact hz)
   simp[this]
  .have hx':x∈l:=by
    rcases List.mem_cons.mp hx with k|k
    .exact absurd k.symm e
    .exact k
   have ih:=filt_less n2 hx' hp
   cases hy:p y with
   |true=>
    rw[List.filter_cons_of_pos (by simp[hy,e]),List.filter_cons_of_pos hy,List.length_cons,List.length_cons,ih]
   |false=>
    rw[List.filter_cons_of_neg (by simp[hy]),List.filter_cons_of_neg (by simp[hy])]
    exact ih
theorem n6_nd:N6.Nodup:=by decide+kernel
theorem reps_rod{l r:Int}{a b:Str}{ms:List M}(h:∀m∈(.rod l r (.wt a) (.wt b)::ms),One m)(ha:a∈N6)(hb:b∈N6)(hn:¬RM ms a b):(N6.filter (isRp (.rod l r (.wt a) (.wt b)::ms))).length+1=(N6.filter (isRp ms)).length:=by
 obtain⟨ka,ea,na,ra⟩:=rp_some (ms:=ms) ha
 obtain⟨kb,eb,nb,rb⟩:=rp_some (ms:=ms) hb
 have kne:ka≠kb:=λz=>hn (ra.symm.trans (by rw[z];exact rb))
 have own:∀k x,rp ms x=some k->RM ms k x->rp ms k=some k:=λk x e r=>by rw[rp_eq r,e]
 have oka:=own ka a ea ra
 have okb:=own kb b eb rb
 generalize hms:(Mob.rod l r (.wt a) (.wt b)::ms:List M)=ms' at h
 have it:∀x y,RM ms' x y↔RM ms x y∨(RM ms x a∧RM ms b y)∨(RM ms x b∧RM ms a y):=λx y=>by
  rw[←hms]
  exact rm_rod (by rw[hms];exact h)
 have touch:∀n,(RM ms a n∨RM ms b n)->rp ms' n=N6.find? λk=>decide (RM ms k a)||decide (RM ms k b):=λn hn'=>by
  unfold rp
  refine find_congr' λk _=> ?_
  rw[Bool.eq_iff_iff,decide_eq_true_eq,Bool.or_eq_true,decide_eq_true_eq,decide_eq_true_eq,it]
  constructor
  .rintro (k1|⟨k1,_⟩|⟨k1,_⟩)
   .rcases hn' with h'|h'
    .exact .inl (k1.trans h'.symm)
    .exact .inr (k1.trans h'.symm)
   .exact .inl k1
   .exact .inr k1
  .rintro (k1|k1)
   .rcases hn' with h'|h'
    .exact .inl (k1.trans h')
    .exact .inr (.inl ⟨k1,h'⟩)
   .rcases hn' with h'|h'
    .exact .inr (.inr ⟨k1,h'⟩)
    .exact .inl (k1.trans h')
 have free:∀n,¬(RM ms a n∨RM ms b n)->rp ms' n=rp ms n:=λn hn'=>by
  unfold rp
  refine find_congr' λk _=> ?_
  rw[Bool.eq_iff_iff,decide_eq_true_eq,decide_eq_true_eq,it]
  constructor
  .rintro (k1|⟨_,k2⟩|⟨_,k2⟩)
   .exact k1
   .exact absurd (.inr k2) hn'
   .exact absurd (.inl k2) hn'
  .exact .inl
 have main:∀km kx:Str,(N6.find? λk=>decide (RM ms k a)||decide (RM ms k b))=some km->((km=ka∧kx=kb)∨(km=kb∧kx=ka))->(N6.filter (isRp ms')).length+1=(N6.filter (isRp ms)).length:=λkm kx ekm hk=>by
  have hx:kx∈N6:=by rcases hk with⟨_,rfl⟩|⟨_,rfl⟩<;>assumption
  have ox:rp ms kx=some kx:=by rcases hk with⟨_,rfl⟩|⟨_,rfl⟩<;>assumption
  have tx:RM ms a kx∨RM ms b kx:=by
   rcases hk with⟨_,rfl⟩|⟨_,rfl⟩
   .exact .inr rb.symm
   .exact .inl ra.symm
  rw[←filt_less (p:=isRp ms) n6_nd hx (decide_eq_true ox)]
  congr 2
  refine List.filter_congr λn hnN=> ?_
  unfold isRp
  rw[Bool.eq_iff_iff,decide_eq_true_eq,Bool.and_eq_true,decide_eq_true_eq,Bool.not_eq_true',decide_eq_false_iff_not]
  by_cases ht:RM ms a n∨RM ms b n
  .rw[touch n ht,ekm]
   have en:rp ms n=some ka∨rp ms n=some kb:=by
    rcases ht with h'|h'
    .exact .inl (by rw[←rp_eq h',ea])
    .exact .inr (by rw[←rp_eq h',eb])
   constructor
   .intro e
    have e:=Option.some.inj e
    subst e
    rcases hk with⟨rfl,rfl⟩|⟨rfl,rfl⟩
    .exact⟨oka,kne⟩
    .exact⟨okb,λz=>kne z.symm⟩
   .rintro ⟨e1,e2⟩
    rcases en with en|en
    .rw[e1] at en
     have:=Option.some.inj en
     subst this
     rcases hk with⟨rfl,rfl⟩|⟨rfl,rfl⟩
     .rfl
     .exact absurd rfl e2
    .rw[e1] at en
     have:=Option.some.inj en
     subst this
     rcases hk with⟨rfl,rfl⟩|⟨rfl,rfl⟩
     .exact absurd rfl e2
     .rfl
  .rw[free n ht]
   refine⟨λe=>⟨e,λz=>ht (by rw[z];exact tx)⟩,λe=>e.1⟩
 rcases find_or (l:=N6) (p:=λk=>decide (RM ms k a)) (q:=λk=>decide (RM ms k b)) (r:=λk=>decide (RM ms k a)||decide (RM ms k b)) λ_ _=>rfl with e|e
 .exact main ka kb (e.trans ea) (.inl ⟨rfl,rfl⟩)
 .exact main kb ka (e.trans eb) (.inr ⟨rfl,rfl⟩)
def NoSp(ms:List M):Prop:=∀i l r a b,ms[i]? =some (.rod l r (.wt a) (.wt b))->¬RM (ms.eraseIdx i) a b
theorem forest:∀{ms:List M},(∀m∈ms,One m)->NoSp ms->(ms.filter isR).length+(N6.filter (isRp ms)).length=6
 |[],_,_=>by
  have:N6.filter (isRp [])=N6:=by
   rw[List.filter_eq_self]
   intro n hn
   refine decide_eq_true ?_
   obtain⟨k,e,_,r⟩:=rp_some (ms:=[]) hn
   rw[e]
   cases r with
   |refl=>rfl
   |step _ e=>obtain⟨T,hT,_⟩:=e;cases hT
  rw[this]
  rfl
 |m::ms,h,hs=>by
  have h':∀m∈ms,One m:=λx hx=>h x (List.mem_cons_of_mem _ hx)
  have hs':NoSp ms:=λi l r a b e k=>hs (i+1) l r a b (by simpa using e) (by rw[List.eraseIdx_cons_succ];exact rm_cons k)
  have ih:=forest h' hs'
  rcases h m (List.mem_cons_self ..) with⟨n,hn,rfl⟩|⟨l,r,a,b,rfl,_,_,ha,hb,hne⟩
  .rw[List.filter_cons_of_neg (by simp[isR])]
   have:isRp (.wt n::ms)=isRp ms:=by
    funext x
    unfold isRp rp
    congr 2
    refine find_congr' λk _=> ?_
    rw[Bool.eq_iff_iff,decide_eq_true_eq,decide_eq_true_eq]
    exact rm_wt h
   rw[this]
   exact ih
  .rw[List.filter_cons_of_pos rfl,List.length_cons]
   have:=reps_rod h ha hb (hs 0 l r a b rfl)
   omega
end
end DP
namespace DP
open PySem PySem.Spec PyProof.Rows L2 MA
section
open Classical
theorem strLt_irr(a:Str):¬strLt a a:=λh=>List.lt_irrefl _ (show a.cps.toList<a.cps.toList from h)
theorem strLt_asym{a b:Str}(h:strLt a b):¬strLt b a:=λk=>List.lt_irrefl _ (List.lt_trans (show a.cps.toList<b.cps.toList from h) (show b.cps.toList<a.cps.toList from k))
theorem up_eq{α:Type}{r:α->α->Prop}(as:∀a b,r a b->¬r b a):∀{xs ys:List α},xs.Pairwise r->ys.Pairwise r->(∀x,x∈xs↔x∈ys)->xs=ys
 |[],[],_,_,_=>rfl
 |[],y::ys,_,_,h=>by have:=(h y).mpr (List.mem_cons_self ..);cases this
 |x::xs,[],_,_,h=>by have:=(h x).mp (List.mem_cons_self ..);cases this
 |x::xs,y::ys,hx,hy,h=>by
  obtain⟨x1,x2⟩:=List.pairwise_cons.mp hx
  obtain⟨y1,y2⟩:=List.pairwise_cons.mp hy
  have e:x=y:=by
   rcases List.mem_cons.mp ((h x).mp (List.mem_cons_self ..)) with e|m1
   .exact e
   rcases List.mem_cons.mp ((h y).mpr (List.mem_cons_self ..)) with e|m2
   .exact e.symm
   exact absurd (x1 y m2) (as _ _ (y1 x m1))
  subst e
  have irr:∀z,¬r z z:=λz k=>as _ _ k k
  rw[up_eq as x2 y2 λz=>⟨λhz=> ?_,λhz=> ?_⟩]
  .rcases List.mem_cons.mp ((h z).mp (List.mem_cons_of_mem _ hz)) with rfl|k
   .exact absurd (x1 _ hz) (irr _)
   .exact k
  .rcases List.mem_cons.mp ((h z).mpr (List.mem_cons_of_mem _ hz)) with rfl|k
   .exact absurd (y1 _ hz) (irr _)
   .exact k
theorem up_nd{xs:List Str}(h:xs.Pairwise strLt):xs.Nodup:=List.Pairwise.imp (S:=λa b:Str=>a≠b) (λ {a b} hab (z:a=b)=>strLt_irr b (by rw[z] at hab;exact hab)) h
theorem er_map(ms:List M)(i:Nat):(ms.map tabF).eraseIdx i=(ms.eraseIdx i).map tabF:=by
 rw[List.eraseIdx_eq_take_drop_succ,List.eraseIdx_eq_take_drop_succ,List.map_append,List.map_take,List.map_drop]
theorem one_erase{ms:List M}(h:∀m∈ms,One m)(i:Nat):∀m∈ms.eraseIdx i,One m:=λm hm=>h m ((List.eraseIdx_sublist ..).subset hm)
theorem mn_tab{m:M}(h:One m):mnT (tabF m)∈m.names:=by
 have hT:=tabF_ok (one_hl h)
 exact(hT.2.1 _).mp (mnT_mem hT.1.ne).1
theorem names6{m:M}(h:One m):∀n∈m.names,n∈N6:=λn hn=>by
 rcases h with⟨k,hk,rfl⟩|⟨l,r,a,b,rfl,_,_,ha,hb,_⟩
 .rw[show n=k by simpa[Mob.names] using hn]
  exact hk
 .have:n=a∨n=b:=by simpa[Mob.names] using hn
  rcases this with rfl|rfl<;>assumption
theorem spr_iff{ms:List M}(h:∀m∈ms,One m)(h6:ms.length≤6){i:Nat}{m:M}(e:ms[i]? =some m):sprF (ms.map tabF) i=true↔∀n∈m.names,RM (ms.eraseIdx i) (mnT (tabF m)) n:=by
 have hO:=h m (List.mem_of_getElem? e)
 have hT:=tabF_ok (one_hl hO)
 have hok:HOk6 ((ms.eraseIdx i).map tabF) N6:=by
  have:=(hall_ok h6 h).erase i
  rw[er_map] at this
  exact this
 have mn:=names6 hO _ (mn_tab hO)
 unfold sprF
 rw[List.getElem?_map,e]
 show((ksT (tabF m)).all λn=>decide (n∈ksP (pathsF ((ms.map tabF).eraseIdx i) (mnT (tabF m)))))=true↔_
 rw[er_map,List.all_eq_true]
 constructor
 .intro k n hn
  exact(paths_iff hok mn).mp (of_decide_eq_true (k n ((hT.2.1 n).mpr hn)))
 .intro k n hn
  exact decide_eq_true ((paths_iff hok mn).mpr (k n ((hT.2.1 n).mp hn)))
theorem rm_spare{ms:List M}(h:∀m∈ms,One m)(h6:ms.length≤6){i:Nat}{m:M}(e:ms[i]? =some m)(hs:sprF (ms.map tabF) i=true){a b:Str}:RM (ms.eraseIdx i) a b↔RM ms a b:=by
 have k:=(spr_iff h h6 e).mp hs
 constructor
 .exact rch_mono λT hT=>by
   obtain⟨x,hx,rfl⟩:=List.mem_map.mp hT
   exact List.mem_map_of_mem ((List.eraseIdx_sublist ..).subset hx)
 .intro r
  induction r with
  |refl=>exact .refl _
  |step _ ed ih=>
   obtain⟨x,hx,h1,h2⟩:=(adj_m h).mp ed
   obtain⟨j,hj,ej⟩:=List.getElem_of_mem hx
   by_cases hij:j=i
   .subst hij
    rw[List.getElem?_eq_getElem hj,ej] at e
    have e:=Option.some.inj e
    subst e
    exact ih.trans ((k _ h1).symm.trans (k _ h2))
   .have hx':x∈ms.eraseIdx i:=List.mem_eraseIdx_iff_getElem?.mpr ⟨j,hij,by rw[List.getElem?_eq_getElem hj,ej]⟩
    exact .step ih ((adj_m (one_erase h i)).mpr ⟨x,hx',h1,h2⟩)
theorem nosp_of{ms:List M}(h:∀m∈ms,One m)(h6:ms.length≤6)(he:ms.length≤1∨sparF (ms.map tabF)=[]):NoSp ms:=λi l r a b e k=>by
 have hO:=h _ (List.mem_of_getElem? e)
 have hne:a≠b:=by
  rcases hO with⟨n,_,e⟩|⟨_,_,_,_,e,_,_,_,_,hn⟩
  .cases e
  .cases e
   exact hn
 have hi:i<ms.length:=(List.getElem?_eq_some_iff.mp e).1
 rcases he with he|he
 .have:ms.eraseIdx i=[]:=by
   have:=List.length_eraseIdx_of_lt hi
   exact List.length_eq_zero_iff.mp (by omega)
  rw[this] at k
  cases k with
  |refl=>exact hne rfl
  |step _ ed=>obtain⟨T,hT,_⟩:=ed;cases hT
 .have hs:sprF (ms.map tabF) i=true:=(spr_iff h h6 e).mpr λn hn=>by
   have hm:=mn_tab hO
   have hm:mnT (tabF (.rod l r (.wt a) (.wt b)))=a∨mnT (tabF (.rod l r (.wt a) (.wt b)))=b:=by simpa[Mob.names] using hm
   have hn:n=a∨n=b:=by simpa[Mob.names] using hn
   rcases hm with hm|hm<;>rcases hn with rfl|rfl<;>rw[hm]
   .exact .refl _
   .exact k
   .exact k.symm
   .exact .refl _
  have:i∈sparF (ms.map tabF):=List.mem_filter.mpr ⟨List.mem_range.mpr (by rw[List.length_map];exact hi),hs⟩
  rw[he] at this
  cases this
theorem bnd_cls{ms:List M}(h:∀m∈ms,One m)(h6:ms.length≤6){es:List (List Str)}(hB:Bnd (ms.map tabF) es){e:List Str}(he:e∈es):∃n∈N6,(∃m∈ms,n∈m.names)∧(∀x,x∈e↔RM ms n x)∧∀x∈e,x∈N6:=by
 have hok:=hall_ok h6 h
 obtain⟨P,hP,k⟩:=hB.grp e he
 obtain⟨n,hn,⟨T,hT,hnT⟩,rfl⟩:=grpF_mem hok hP
 obtain⟨m,hm,rfl⟩:=List.mem_map.mp hT
 refine⟨n,hn,⟨m,hm,((tabF_ok (one_hl (h m hm))).2.1 n).mp hnT⟩,λx=> ?_,λx hx=> ?_⟩
 .rw[k x]
  exact paths_iff hok hn
 .exact(pathsF_ok hok hn).1.sub x ((k x).mp hx)
theorem bnd_has{ms:List M}(h:∀m∈ms,One m)(h6:ms.length≤6){es:List (List Str)}(hB:Bnd (ms.map tabF) es){m:M}(hm:m∈ms){n:Str}(hn:n∈m.names):∃e∈es,n∈e:=by
 have hok:=hall_ok h6 h
 have:=grpF_all hok (List.mem_map_of_mem hm) (((tabF_ok (one_hl (h m hm))).2.1 n).mpr hn)
 obtain⟨P,hP,hx⟩:=List.mem_flatMap.mp this
 obtain⟨e,he,k⟩:=hB.all P hP
 exact⟨e,he,(k n).mpr hx⟩
theorem bnd_same{ms:List M}(h:∀m∈ms,One m)(h6:ms.length≤6){es:List (List Str)}(hB:Bnd (ms.map tabF) es){e e':List Str}(he:e∈es)(he':e'∈es){x:Str}(h1:x∈e)(h2:x∈e'):e=e':=by
 obtain⟨n,_,_,k,_⟩:=bnd_cls h h6 hB he
 obtain⟨n',_,_,k',_⟩:=bnd_cls h h6 hB he'
 refine up_eq (λ_ _=>strLt_asym) (hB.srt e he).1 (hB.srt e' he').1 λy=> ?_
 rw[k,k']
 have a:=(k x).mp h1
 have b:=(k' x).mp h2
 exact⟨λz=>b.trans (a.symm.trans z),λz=>a.trans (b.symm.trans z)⟩
theorem len_filt{α:Type}(p:α->Bool)(l:List α):(l.filter p).length+(l.filter λx=> !p x).length=l.length:=by
 induction l with
 |nil=>rfl
 |cons x l ih=>
  cases hp:p x with
  |true=>
   rw[List.filter_cons_of_pos hp,List.filter_cons_of_neg (by simp[hp])]
   simp
   omega
  |false=>
   rw[List.filter_cons_of_neg (by simp[hp]),List.filter_cons_of_pos (by simp[hp])]
   simp
   omega
theorem one_filt{k:Str}:∀{l:List Str},l.Nodup->k∈l->(l.filter λx=>decide (x=k)).length=1
 |x::l,hn,hk=>by
  obtain⟨n1,n2⟩:=List.nodup_cons.mp hn
  by_cases e:x=k
  .subst e
   rw[List.filter_cons_of_pos (by simp)]
   have:l.filter (λy=>decide (y=x))=[]:=by
    rw[List.filter_eq_nil_iff]
    intro y hy z
    exact n1 (by rw[←of_decide_eq_true z];exact hy)
   rw[this]
   rfl
  .rw[List.filter_cons_of_neg (by simp[e])]
   rcases List.mem_cons.mp hk with z|z
   .exact absurd z.symm e
   .exact one_filt n2 z
theorem sum_flat{p:Str->Bool}:∀{es:List (List Str)},(∀e∈es,(e.filter p).length+1=e.length)->(es.flatten.filter p).length=(es.map λe=>e.length - 1).sum
 |[],_=>rfl
 |e::es,h=>by
  have ih:=sum_flat (es:=es) λx hx=>h x (List.mem_cons_of_mem _ hx)
  have:=h e (List.mem_cons_self ..)
  rw[List.flatten_cons,List.filter_append,List.length_append,ih,List.map_cons,List.sum_cons]
  omega
theorem need_is{ms:List M}(h:∀m∈ms,One m)(h6:ms.length≤6){es:List (List Str)}(hB:Bnd (ms.map tabF) es):(es.map λe=>e.length - 1).sum+(N6.filter (isRp ms)).length=6:=by
 have one:∀e∈es,(e.filter λx=> !isRp ms x).length+1=e.length:=λe he=>by
  obtain⟨n,hn,_,k,s6⟩:=bnd_cls h h6 hB he
  obtain⟨kk,ek,nk,rk⟩:=rp_some (ms:=ms) hn
  have nd:=up_nd (hB.srt e he).1
  have e1:e.filter (isRp ms)=e.filter λx=>decide (x=kk):=List.filter_congr λx hx=>by
   unfold isRp
   rw[Bool.eq_iff_iff,decide_eq_true_eq,decide_eq_true_eq,←rp_eq ((k x).mp hx),ek]
   exact⟨λz=>(Option.some.inj z).symm,λz=>by rw[z]⟩
  have h1:=one_filt nd ((k kk).mpr rk.symm)
  rw[←e1] at h1
  have:=len_filt (isRp ms) e
  omega
 have s:=sum_flat one
 have nf:es.flatten.Nodup:=by
  rw[List.Nodup,List.pairwise_flatten]
  refine⟨λe he=>up_nd (hB.srt e he).1,?_⟩
  refine(List.Pairwise.and_mem.mp hB.ord).imp ?_
  rintro a b ⟨ha,hb,hab⟩ x hx y hy z
  subst z
  have:=bnd_same h h6 hB ha hb hx hy
  rw[this] at hab
  exact strLt_irr _ hab
 have le1:(N6.filter λx=> !isRp ms x).length≤(es.flatten.filter λx=> !isRp ms x).length:=nd_le _ _ (n6_nd.sublist (List.filter_sublist ..)) λx hx=>by
  obtain⟨hx6,hr⟩:=List.mem_filter.mp hx
  refine List.mem_filter.mpr ⟨?_,hr⟩
  obtain⟨k,ek,nk,rk⟩:=rp_some (ms:=ms) hx6
  have kx:k≠x:=λz=>by
   rw[z] at ek
   unfold isRp at hr
   rw[ek] at hr
   simp at hr
  cases rk with
  |refl=>exact absurd rfl kx
  |step _ ed=>
   obtain⟨m,hm,_,h2⟩:=(adj_m h).mp ed
   obtain⟨e,he,hxe⟩:=bnd_has h h6 hB hm h2
   exact List.mem_flatten.mpr ⟨e,he,hxe⟩
 have le2:(es.flatten.filter λx=> !isRp ms x).length≤(N6.filter λx=> !isRp ms x).length:=nd_le _ _ (nf.sublist (List.filter_sublist ..)) λx hx=>by
  obtain⟨hx6,hr⟩:=List.mem_filter.mp hx
  obtain⟨e,he,hxe⟩:=List.mem_flatten.mp hx6
  obtain⟨_,_,_,_,s6⟩:=bnd_cls h h6 hB he
  exact List.mem_filter.mpr ⟨s6 x hxe,hr⟩
 have:=len_filt (isRp ms) N6
 have e6:N6.length=6:=rfl
 omega
theorem wide_eq{ms ns:List M}(h:∀m∈ms,One m)(h6:ms.length≤6)(k:∀m∈ns,One m)(k6:ns.length≤6)(hR:∀a b,RM ms a b↔RM ns a b){es fs:List (List Str)}(hB:Bnd (ms.map tabF) es)(kB:Bnd (ns.map tabF) fs):es.filter (λe=>decide (1<e.length))=fs.filter (λe=>decide (1<e.length)):=by
 have half:∀{ms ns:List M} (h:∀m∈ms,One m) (h6:ms.length≤6) (k:∀m∈ns,One m) (k6:ns.length≤6) (hR:∀a b,RM ms a b↔RM ns a b) {es fs:List (List Str)} (hB:Bnd (ms.map tabF) es) (kB:Bnd (ns.map tabF) fs) (e:List Str),e∈es->1<e.length->e∈fs:=by
  intro ms ns h h6 k k6 hR es fs hB kB e he hl
  obtain⟨n,hn,_,c,_⟩:=bnd_cls h h6 hB he
  have nd:=up_nd (hB.srt e he).1
  obtain⟨x,hx,hxn⟩:∃x∈e,x≠n:=by
   match e,hl,nd with
   |x::y::r,_,nd=>
    by_cases z:x=n
    .refine⟨y,by simp,λw=> ?_⟩
     rw[←w] at z
     rw[z] at nd
     simp at nd
    .exact⟨x,by simp,z⟩
  have r:=(hR n x).mp ((c x).mp hx)
  have:∃m∈ns,x∈m.names:=by
   cases r with
   |refl=>exact absurd rfl hxn
   |step _ ed=>
    obtain⟨m,hm,_,h2⟩:=(adj_m k).mp ed
    exact⟨m,hm,h2⟩
  obtain⟨m,hm,hxm⟩:=this
  obtain⟨f,hf,hxf⟩:=bnd_has k k6 kB hm hxm
  obtain⟨n',_,_,c',_⟩:=bnd_cls k k6 kB hf
  have:e=f:=up_eq (λ_ _=>strLt_asym) (hB.srt e he).1 (kB.srt f hf).1 λy=>by
   rw[c,c',hR]
   have b:=(c' x).mp hxf
   exact⟨λz=>b.trans (r.symm.trans z),λz=>r.trans (b.symm.trans z)⟩
  rw[this]
  exact hf
 refine up_eq (r:=λa b:List Str=>strLt (a.headD default) (b.headD default)) (λ_ _=>strLt_asym) (hB.ord.sublist (List.filter_sublist ..)) (kB.ord.sublist (List.filter_sublist ..)) λe=> ?_
 rw[List.mem_filter,List.mem_filter]
 exact⟨λ⟨a,b⟩=>⟨half h h6 k k6 hR hB kB e a (of_decide_eq_true b),b⟩,λ⟨a,b⟩=>⟨half k k6 h h6 (λx y=>(hR x y).symm) kB hB e a (of_decide_eq_true b),b⟩⟩
theorem rep_same{ms ns:List M}(hR:∀a b,RM ms a b↔RM ns a b):isRp ms=isRp ns:=by
 funext x
 unfold isRp rp
 congr 2
 refine find_congr' λk _=> ?_
 rw[Bool.eq_iff_iff,decide_eq_true_eq,decide_eq_true_eq]
 exact hR k x
theorem ring_sub{ms ns:List M}(h:∀m∈ms,One m)(h6:ms.length≤6)(n6:ns.length≤6)(sub:∀m∈ns,m∈ms)(hr:rgF (ms.map tabF)=none):rgF (ns.map tabF)=none:=by
 obtain⟨w,hw⟩:=of_ring (hall_ok h6 h) hr
 refine ring_of (w:=w) (hall_ok n6 λm hm=>h m (sub m hm)) ⟨hw.pos,λT hT=> ?_⟩
 obtain⟨m,hm,rfl⟩:=List.mem_map.mp hT
 exact hw.eq _ (List.mem_map_of_mem (sub m hm))
theorem twice_spare{m:M}{ms:List M}(h:∀x∈m::ms,One x)(h6:ms.length+2≤6):0∈sparF ((m::ms++[m]).map tabF):=by
 have h':∀x∈(m::ms++[m]),One x:=λx hx=>by
  rcases List.mem_append.mp hx with hx|hx
  .exact h x hx
  .rw[List.mem_singleton.mp hx]
   exact h m (List.mem_cons_self ..)
 refine List.mem_filter.mpr ⟨List.mem_range.mpr (by simp),?_⟩
 refine(spr_iff h' (by simp;omega) (i:=0) (m:=m) rfl).mpr λn hn=> ?_
 refine .step (.refl _) ((adj_m (one_erase h' 0)).mpr ⟨m,?_,mn_tab (h m (List.mem_cons_self ..)),hn⟩)
 show m∈ms++[m]
 simp
end
end DP
namespace DP
open PySem PySem.Spec PyProof.Rows L2 MA
theorem ne_refs{A:Ar}{p q:Nat}{xs:List D}{R:DK}(h:A[p]? =some (.lst xs))(h':A[q]? =some (.lst xs))(hp:purs xs=true)(hl:PyData.canLayAll0 (toQs xs)=true)(hd:PyData.depthAll (toQs xs)≤60)(k:R (.bl false) A):dataEq true (.ref p) (.ref q) A R:=by
 unfold dataEq
 have e0:toP A (.ref p)= .list (toQs xs):=by unfold toP;simp only[h]
 have e1:toP A (.ref q)= .list (toQs xs):=by unfold toP;simp only[h']
 have c0:PyData.canLay0 (.list (toQs xs))=true:=by simpa[PyData.canLay0] using hl
 refine⟨?_,?_,?_,?_,?_,?_⟩
 .unfold okP;simp only[h];exact hp
 .unfold okP;simp only[h'];exact hp
 .rw[e0];exact c0
 .rw[e1];exact c0
 .rw[e0,e1];simp only[PyData.depth];omega
 .rw[e0,e1,PySem.SeqAt.eqv_refl _ c0]
  exact k
end DP
namespace My
open PySem PySem.Spec PyProof.Rows L2 DP MA
section
variable{P:Program}{w:World}{K:PySem.W.Frag}{mg:Str->Option Value}{base:Heap}
end
end My
namespace DP
open PySem PySem.Spec PyProof.Rows L2 MA
theorem tupN{e:List Str}(h:∀n∈e,Nm n):pur (tpS e)=true∧(toQ (tpS e)).canLay0=true∧(toQ (tpS e)).depth≤1:=by
 have eq:toQ (tpS e)= .tuple (e.map PyData.str):=by
  show PyData.tuple (toQs (e.map D.str))=_
  rw[q_strs]
 refine⟨pur_strs e,?_,?_⟩
 .rw[eq]
  simpa[PyData.canLay0] using lay_strs e h
 .rw[eq]
  simp[PyData.depth,dep_strs]
theorem tups_data:∀{es:List (List Str)},(∀e∈es,∀n∈e,Nm n)->purs (es.map tpS)=true∧PyData.canLayAll0 (toQs (es.map tpS))=true∧PyData.depthAll (toQs (es.map tpS))≤60
 |[],_=>⟨rfl,rfl,by simp[toQs,PyData.depthAll]⟩
 |e::es,h=>by
  obtain⟨a1,a2,a3⟩:=tupN (h e (List.mem_cons_self ..))
  obtain⟨b1,b2,b3⟩:=tups_data λx hx=>h x (List.mem_cons_of_mem _ hx)
  refine⟨by show(pur (tpS e)&&purs (es.map tpS))=true;rw[a1,b1];rfl,?_,?_⟩
  .simp[toQs,PyData.canLayAll0,a2,b2]
  .simp only[List.map_cons,toQs,PyData.depthAll]
   omega
theorem nats_data':∀l:List Nat,purs (l.map λi=>D.int ((i:Nat):Int))=true∧PyData.canLayAll0 (toQs (l.map λi=>D.int ((i:Nat):Int)))=true
 |[]=>⟨rfl,rfl⟩
 |i::l=>by
  obtain⟨h1,h2⟩:=nats_data' l
  refine⟨by show(pur (D.int i)&&purs _)=true;rw[h1];rfl,?_⟩
  show(PyData.canLay0 (.int i)&&PyData.canLayAll0 _)=true
  rw[h2]
  simp[PyData.canLay0]
theorem inI_ok{A:Ar}{r:Nat}{l:List Nat}{R:DK}(h:A[r]? =some (.lst (l.map λi=>D.int ((i:Nat):Int))))(h0:0∈l)(k:R (.bl true) A):inR false (.int 0) r A R:=by
 unfold inR
 simp only[h]
 refine⟨rfl,?_,?_⟩
 .rw[List.all_eq_true]
  intro x hx
  obtain⟨i,_,rfl⟩:=List.mem_map.mp hx
  rfl
 .have:inF (.int 0) (l.map λi=>D.int ((i:Nat):Int))=true:=by
   unfold inF
   rw[List.any_eq_true]
   exact⟨.int 0,List.mem_map.mpr ⟨0,h0,rfl⟩,rfl⟩
  rw[this]
  exact k
theorem bnd_len{ms:List M}(h:∀m∈ms,One m)(h6:ms.length≤6){es:List (List Str)}(hB:Bnd (ms.map tabF) es):es.length≤6∧∀e∈es,1≤e.length∧e.length≤6∧∀n∈e,n∈N6:=by
 have hd_mem:∀e∈es,e.headD default∈e:=λe he=>by
  have:=(hB.srt e he).2
  cases e with
  |nil=>exact absurd rfl this
  |cons x r=>exact List.mem_cons_self ..
 constructor
 .have:=nd_le (es.map λe=>e.headD default) N6 (List.pairwise_map.mpr (List.Pairwise.imp (S:=λa b:List Str=>a.headD default≠b.headD default) (λ {a b} hab z=>strLt_irr _ (by rw[z] at hab;exact hab)) hB.ord)) λx hx=>by
   obtain⟨e,he,rfl⟩:=List.mem_map.mp hx
   obtain⟨_,_,_,_,s6⟩:=bnd_cls h h6 hB he
   exact s6 _ (hd_mem e he)
  simpa[N6] using this
 .intro e he
  obtain⟨_,_,_,_,s6⟩:=bnd_cls h h6 hB he
  have:=nd_le e N6 (up_nd (hB.srt e he).1) s6
  refine⟨?_,by simpa[N6] using this,s6⟩
  have:=(hB.srt e he).2
  exact List.length_pos_iff.mpr this
theorem sum_cast:∀{es:List (List Str)},(∀e∈es,1≤e.length)->(es.map λe=>((e.length:Nat):Int) - 1).sum=(((es.map λe=>e.length - 1).sum:Nat):Int)
 |[],_=>rfl
 |e::es,h=>by
  have:=h e (List.mem_cons_self ..)
  rw[List.map_cons,List.map_cons,List.sum_cons,List.sum_cons,sum_cast λx hx=>h x (List.mem_cons_of_mem _ hx)]
  omega
theorem ys_len{m:M}(h:One m){ys:List Str}(hp:ys.Pairwise strLt)(hm:∀x,x∈ys↔x∈m.names):decide (((ys.length:Nat):Int)=2)=isR m:=by
 have nd:m.names.Nodup:=by
  rcases h with⟨n,_,rfl⟩|⟨l,r,a,b,rfl,_,_,_,_,hn⟩
  .simp[Mob.names]
  .simp[Mob.names,hn]
 have e:ys.length=m.names.length:=Nat.le_antisymm (nd_le _ _ (up_nd hp) λx hx=>(hm x).mp hx) (nd_le _ _ nd λx hx=>(hm x).mpr hx)
 rw[e]
 rcases h with⟨n,_,rfl⟩|⟨l,r,a,b,rfl,_⟩<;>simp[Mob.names,isR]
theorem one_deep{m:M}(h:One m):m.deep≤5:=(one_hl h).deep
end DP
namespace My
open PySem PySem.Spec PyProof.Rows L2 DP MA
section
variable{P:Program}{w:World}{K:PySem.W.Frag}{mg:Str->Option Value}{base:Heap}
theorem f_law{fo:Addr}{fd:FuncData}(T:Fun K "law" "law" s_law fo fd)(b_len:mg "len" =none)(b_sum:mg "sum" =none)(F__law_hall:FnX P w K mg base 6 "_law_hall" p__law_hall (spOf mg 2 SHal))(F__law_names:FnX P w K mg base 10 "_law_names" p__law_names (spOf mg 1 SNs))(F__law_free:FnX P w K mg base 3 "_law_free" p__law_free (spOf mg 1 SFre))(F_ring:FnX P w K mg base 14 "ring" p_ring (spOf mg 1 SRin))(F_bound:FnX P w K mg base 14 "bound" p_bound (spOf mg 1 SBnd))(F_spare:FnX P w K mg base 14 "spare" p_spare (spOf mg 1 SSpr)):FnOk P w K mg base (CX1 P w) 26 fo fd p_law (spOf mg 1 SLaw):=by
 refine fnL T sc_law rfl (by decide) λN RE f cdv B outer s H E hr hR hx ds A R h hl=> ?_
 have hu:=hr.units
 have nd:=sc_law.nd
 refine⟨_,(@dss_cons _ _ _ _ _ _ (ds_set (i:=1) nd rfl (by first|exact Or.inl rfl|exact Or.inr rfl) (de_lst da_nil)) (@dss_cons _ _ _ _ _ _ (ds_set (i:=2) nd rfl (by first|exact Or.inl rfl|exact Or.inr rfl) (de_call F__law_hall (hr.mono (by omega)) hx (da_cons (vr 0) (da_cons (vr 1) da_nil)))) (@dss_cons _ _ _ _ _ _ (ds_if (t_isnt (de_call F_ring (hr.mono (by omega)) hx (da_cons (vr 2) da_nil)) de_non) (@dss_one _ _ _ _ (ds_ret (de_not (de_call F__law_free (hr.mono (by omega)) hx (da_cons (vr 2) da_nil))))) dss_nil) (@dss_cons _ _ _ _ _ _ (ds_set (i:=3) nd rfl (by first|exact Or.inl rfl|exact Or.inr rfl) (de_call F_bound (hr.mono (by omega)) hx (da_cons (vr 2) da_nil))) (@dss_cons _ _ _ _ _ _ (ds_set (i:=4) nd rfl (by first|exact Or.inl rfl|exact Or.inr rfl) (de_cb (call_sum rfl) d_sum b_sum boot_sum (da_cons (de_comp none (own:=["_law_group"]) (frees:=[]) (ix:=[]) rfl (di_seq (vr 3)) (λc=>(pg_name (i:=0) (show(["_law_group"]:List Str).Nodup by decide+kernel) rfl (by first|exact Or.inl rfl|exact Or.inr rfl))) (λc=>(de_sub (de_cb c_len d_len b_len PySem.boot_len (da_cons (vr 0) da_nil)) de_int))) da_nil))) (@dss_cons _ _ _ _ _ _ (ds_set (i:=5) nd rfl (by first|exact Or.inl rfl|exact Or.inr rfl) (vr 2)) (@dss_cons _ _ _ _ _ _ (ds_while ownX (PW.pt (dw_and (t_gt (de_cb c_len d_len b_len PySem.boot_len (da_cons (vr 5) da_nil)) de_int) (dw_and1 (t_ne hu (de_call F_spare (hr.mono (by omega)) hx (da_cons (vr 5) da_nil)) (de_lst da_nil))))) (@dss_cons _ _ _ _ _ _ (ds_set (i:=6) nd rfl (by first|exact Or.inl rfl|exact Or.inr rfl) (de_ix hu (de_call F_spare (hr.mono (by omega)) hx (da_cons (vr 5) da_nil)) de_int (λ_ _=>rfl))) (@dss_one _ _ _ _ (ds_set (i:=5) nd rfl (by first|exact Or.inl rfl|exact Or.inr rfl) (de_add (de_slW (vr 5) do_none (do_some (vr 6))) (de_slW (vr 5) (do_some (de_add (vr 6) de_int)) do_none)))))) (@dss_cons _ _ _ _ _ _ (ds_compI none (own:=["_law_mobile_here"]) (frees:=[]) (ix:=[]) (i:=7) nd rfl (by first|exact Or.inl rfl|exact Or.inr rfl) rfl (di_seq (vr 5)) (λc=>(pg_name (i:=0) (show(["_law_mobile_here"]:List Str).Nodup by decide+kernel) rfl (by first|exact Or.inl rfl|exact Or.inr rfl))) (λc=>(t_eq hu (de_cb c_len d_len b_len PySem.boot_len (da_cons (de_call F__law_names (hr.mono (by omega)) pass0D (da_cons (vr 0) da_nil)) da_nil)) de_int)) (λc=>(vr 0))) (@dss_cons _ _ _ _ _ _ (ds_compI none (own:=["_law_mobile_here"]) (frees:=[]) (ix:=[]) (i:=8) nd rfl (by first|exact Or.inl rfl|exact Or.inr rfl) rfl (di_seq (vr 2)) (λc=>(pg_name (i:=0) (show(["_law_mobile_here"]:List Str).Nodup by decide+kernel) rfl (by first|exact Or.inl rfl|exact Or.inr rfl))) (λc=>(t_eq hu (de_cb c_len d_len b_len PySem.boot_len (da_cons (de_call F__law_names (hr.mono (by omega)) pass0D (da_cons (vr 0) da_nil)) da_nil)) de_int)) (λc=>(vr 0))) (@dss_cons _ _ _ _ _ _ (ds_if (PW.pt (dw_or (t_ne hu (de_cb c_len d_len b_len PySem.boot_len (da_cons (vr 7) da_nil)) (vr 4)) (dw_or1 (t_lt (de_cb c_len d_len b_len PySem.boot_len (da_cons (vr 8) da_nil)) (vr 4))))) (@dss_one _ _ _ _ (ds_ret de_bl)) dss_nil) (@dss_cons _ _ _ _ _ _ (ds_compI none (own:=["_law_group"]) (frees:=[]) (ix:=[]) (i:=9) nd rfl (by first|exact Or.inl rfl|exact Or.inr rfl) rfl (di_seq (vr 3)) (λc=>(pg_name (i:=0) (show(["_law_group"]:List Str).Nodup by decide+kernel) rfl (by first|exact Or.inl rfl|exact Or.inr rfl))) (λc=>(t_gt (de_cb c_len d_len b_len PySem.boot_len (da_cons (vr 0) da_nil)) de_int)) (λc=>(vr 0))) (@dss_cons _ _ _ _ _ _ (ds_if (t_ne hu (de_compI none (own:=["_law_group"]) (frees:=[]) (ix:=[]) rfl (di_seq (de_call F_bound (hr.mono (by omega)) hx (da_cons (vr 5) da_nil))) (λc=>(pg_name (i:=0) (show(["_law_group"]:List Str).Nodup by decide+kernel) rfl (by first|exact Or.inl rfl|exact Or.inr rfl))) (λc=>(t_gt (de_cb c_len d_len b_len PySem.boot_len (da_cons (vr 0) da_nil)) de_int)) (λc=>(vr 0))) (vr 9)) (@dss_one _ _ _ _ (ds_ret de_bl)) dss_nil) (@dss_one _ _ _ _ (ds_ret (de_or (e_eq hu (de_cb c_len d_len b_len PySem.boot_len (da_cons (vr 2) da_nil)) de_int) (de_one (e_in hu de_int (de_call F_spare (hr.mono (by omega)) hx (da_cons (de_add (vr 2) (de_slW (vr 2) do_none (do_some de_int))) da_nil))))))))))))))))))),?_⟩
 obtain⟨ns,rfl,q⟩:=h
 have hz:(3000:Nat)≤sizeLine:=by decide
 refine⟨Nat.zero_le _,rfl,ns,_,0,rfl,⟨[],last_get,Nat.le_refl _⟩,by decide,λms A1 h1 h5 hO d1=> ?_⟩
 have kh:∀(B:Ar) (ls:List M),(∀m∈ls,One m)->okA B (.tup (ls.map enc))=true:=λB ls hls=>by
  show okAs B (ls.map enc)=true
  induction ls with
  |nil=>rfl
  |cons m ls ih=>
   show(okA B (enc m)&&okAs B (ls.map enc))=true
   rw[okA_enc (one_hl (hls m (List.mem_cons_self ..))).wf.nm,ih λx hx=>hls x (List.mem_cons_of_mem _ hx)]
   rfl
 refine⟨rfl,_,N6,rfl,kh _ ms hO,λMSa hH=> ?_,λhn=>absurd ⟨ms,is_hall h1 (by omega) hO⟩ hn⟩
 have e':=(hall_same hH).symm
 subst e'
 refine⟨hall_ok (by omega) hO,λhr A2 g2=> ?_,λss hr A2 q2 g2 h2 l2=> ?_⟩
 rotate_left
 .refine⟨rfl,ms,rfl,by omega,hO,λb A3 hb g3=> ?_⟩
  have:b=false:=by
   cases b with
   |false=>rfl
   |true=>
    have:=(free_iff (by omega) hO).mp (hb.mp rfl)
    rw[hr] at this
    cases this
  subst this
  exact q _
 refine⟨rfl,_,N6,rfl,kh _ ms hO,nm6,λMSb hH2=> ?_,λhn=>absurd ⟨ms,is_hall h1 (by omega) hO⟩ hn⟩
 have e':=(hall_same hH2).symm
 subst e'
 refine⟨hall_ok (by omega) hO,λA3 q3 es hB g3 h3 l3=> ?_⟩
 obtain⟨le6,le⟩:=bnd_len hO (by omega) hB
 refine it_ok h3 ?_
 refine cloop_map (f:=λd=>match d with| .tup xs=> .int (((xs.length:Nat):Int) - 1)|d=>d) h3 _ _ (λd hd=> ?_) (by simp;omega) ?_
 .obtain⟨e,he,rfl⟩:=List.mem_map.mp hd
  exact⟨[.tup (e.map D.str)],rfl,λQ hQ=>hQ⟩
 have em:((es.map λe=>D.tup (e.map D.str)).map λd=>match d with| .tup xs=>D.int (((xs.length:Nat):Int) - 1)|d=>d)=es.map λe=>D.int (((e.length:Nat):Int) - 1):=by
  rw[List.map_map]
  refine List.map_congr_left λe _=> ?_
  simp
 rw[List.nil_append,em]
 refine sum_ok last_get (ints_map _ es) (λn hn=> ?_) (by rw[List.length_map];omega) ?_
 .obtain⟨e,he,rfl⟩:=List.mem_map.mp hn
  have:=le e he
  show 0≤((e.length:Nat):Int) - 1∧((e.length:Nat):Int) - 1≤2 ^ 40
  omega
 rw[sum_cast λe he=>(le e he).1]
 have need:=need_is hO (by omega) hB
 generalize hneed:(es.map λe=>e.length - 1).sum=nd0 at*
 have h3':=getElem?_push (T:=[C.lst (es.map λe=>D.int (((e.length:Nat):Int) - 1))]) h3
 generalize (A3++[C.lst (es.map λe=>D.int (((e.length:Nat):Int) - 1))]:Ar)=A4 at*
 refine⟨λk τ A'=>∃(lf:List M) (x6:Option D),k=lf.length∧τ=[some (.fl ns),some (.ref A.length),some (.tup (ms.map enc)),some (.ref q3),some (.int ((nd0:Nat):Int)),some (.tup (lf.map enc)),x6,none,none,none]∧1≤lf.length∧lf.length≤ms.length∧(∀m∈lf,m∈ms)∧(lf.filter isR).length≤(ms.filter isR).length∧(∀a b,RM lf a b↔RM ms a b)∧Gr A4 A',⟨_,ms,none,rfl,rfl,h1,Nat.le_refl _,λ_ h=>h,Nat.le_refl _,λ_ _=>Iff.rfl,Gr.refl⟩,?_⟩
 rintro k τ A5 ⟨lf,x6,rfl,rfl,lf1,lfl,lfs,lfr,lfR,g5⟩
 have lO:∀m∈lf,One m:=λm hm=>hO m (lfs m hm)
 have ll:(lf.map enc).length=lf.length:=List.length_map ..
 have rl:rgF (lf.map tabF)=none:=ring_sub hO (by omega) (by omega) lfs hr
 refine cD (λc=> ?g0) (λc=> ?g1)
 case' g0=>
  have c:(1:Int)<(((lf.map enc).length:Nat):Int):=c
  refine⟨rfl,_,N6,rfl,kh _ lf lO,λMSc hH3=> ?_,λhn=>absurd ⟨lf,is_hall lf1 (by omega) lO⟩ hn⟩
  have e':=(hall_same hH3).symm
  subst e'
  refine⟨hall_ok (by omega) lO,λ_ A6 q6 g6 h6 l6=> ?_,λhn=>absurd rl hn⟩
  obtain⟨p1,p2⟩:=nats_data' (sparF (lf.map tabF))
  refine⟨Nat.zero_le _,ne_ref_nil h6 p1 p2 ?_⟩
  have g6':=(g5.trans g6).trans (Gr.push (T:=[C.lst []]))
  generalize (A6++[C.lst []]:Ar)=A7 at*
  refine cN (λc2=> ?b2) (λc2=> ?g2)
  case b2=>
   refine⟨λτ A'=>∃(lg:List M) (x6:Option D),lg.length<lf.length∧τ=[some (.fl ns),some (.ref A.length),some (.tup (ms.map enc)),some (.ref q3),some (.int ((nd0:Nat):Int)),some (.tup (lg.map enc)),x6,none,none,none]∧1≤lg.length∧lg.length≤ms.length∧(∀m∈lg,m∈ms)∧(lg.filter isR).length≤(ms.filter isR).length∧(∀a b,RM lg a b↔RM ms a b)∧Gr A4 A',λτ' A' ⟨lg,x6,k0,k1,k2⟩=>⟨_,k0,lg,x6,rfl,k1,k2⟩,?_⟩
   refine⟨rfl,_,N6,rfl,kh _ lf lO,λMSd hH4=> ?_,λhn=>absurd ⟨lf,is_hall lf1 (by omega) lO⟩ hn⟩
   have e':=(hall_same hH4).symm
   subst e'
   refine⟨hall_ok (by omega) lO,λ_ A8 q8 g8 h8 l8=> ?_,λhn=>absurd rl hn⟩
   obtain⟨i,more,hi⟩:∃i more,sparF (lf.map tabF)=i::more:=by
    cases e:sparF (lf.map tabF) with
    |nil=>exact absurd (by rw[e];rfl) c2
    |cons i more=>exact⟨i,more,rfl⟩
   have him:i∈sparF (lf.map tabF):=by rw[hi];simp
   obtain⟨hi1,hi2⟩:=List.mem_filter.mp him
   have hi1:i<lf.length:=by simpa using List.mem_range.mp hi1
   refine ix_ok h8 (v:= .int ((i:Nat):Int)) (by rw[hi];exact atI_nat (j:=0) rfl) ?_
   have c1:cutD (lf.map enc) none (some ((i:Nat):Int))=(lf.take i).map enc:=by rw[cut_to (by rw[List.length_map];omega),List.map_take]
   have c3:cutD (lf.map enc) (some (((i:Nat):Int)+1)) none=(lf.drop (i+1)).map enc:=by
    rw[show(((i:Nat):Int)+1)=((i+1:Nat):Int) from rfl,cut_from (by rw[List.length_map];omega),List.map_drop]
   have em4:lf[i]? =some lf[i]:=List.getElem?_eq_getElem hi1
   have le4:=List.length_eraseIdx_of_lt hi1
   refine⟨?_,?_⟩
   .show(cutD (lf.map enc) none (some ((i:Nat):Int))).length+(cutD (lf.map enc) (some (((i:Nat):Int)+1)) none).length≤sizeLine
    rw[c1,c3]
    simp
    omega
   refine⟨lf.eraseIdx i,some (.int ((i:Nat):Int)),by omega,?_,by omega,by omega,λm hm=>lfs m ((List.eraseIdx_sublist ..).subset hm),?_,λa b=> ?_,g6'.trans g8⟩
   .rw[List.eraseIdx_eq_take_drop_succ,List.map_append,←c1,←c3]
    rfl
   .exact Nat.le_trans ((List.eraseIdx_sublist ..).filter _).length_le lfr
   .rw[rm_spare lO (by omega) em4 hi2,lfR]
  case' g2=>
   have hend:lf.length≤1∨sparF (lf.map tabF)=[]:= .inr (by simpa using c2)
   have g7:=g6'
   generalize hA9:A7=A9 at*
   clear hA9
 case' g1=>
  have hend:lf.length≤1∨sparF (lf.map tabF)=[]:= .inl (by
   have c:¬(1:Int)<(((lf.map enc).length:Nat):Int):=c
   rw[ll] at c
   omega)
  have g7:=g5
  generalize hA9:A5=A9 at*
  clear hA9
 all_goals
  have nosp:=nosp_of lO (by omega) hend
  have fr:=forest lO nosp
  rw[rep_same lfR] at fr
  have rods:(lf.filter isR).length=nd0:=by omega
  have tst:∀(ls:List M),(∀m∈ls,One m)->True:=λ_ _=>trivial
  refine cloop_gf enc isR enc lf [] A9 (λ_ _=>trivial) (λm hm A10 g10=> ?_) (by simp;omega) (λA10 g10=> ?_)
  .refine⟨[enc m],rfl,λQ hQ=>⟨rfl,m,rfl,one_deep (lO m hm),λA11 r11 ys g11 l11 h11 hp hm'=>len_ok h11 ?_⟩,λA11 g11 Q hQ=>hQ _ Gr.refl⟩
   have e:=ys_len (lO m hm) hp hm'
   have e2:decide ((((ys.map D.str).length:Nat):Int)=2)=isR m:=by rw[List.length_map];exact e
   have:=hQ A11 g11
   rw[←e2] at this
   exact this
  rw[List.nil_append]
  have hr10:(A10++[C.lst ((lf.filter isR).map enc)])[A10.length]? =some (.lst ((lf.filter isR).map enc)):=last_get
  have gA:=(g7.trans g10).trans (Gr.push (T:=[C.lst ((lf.filter isR).map enc)]))
  refine cloop_gf enc isR enc ms [] (A10++[C.lst ((lf.filter isR).map enc)]) (λ_ _=>trivial) (λm hm A12 g12=> ?_) (by simp;omega) (λA12 g12=> ?_)
  .refine⟨[enc m],rfl,λQ hQ=>⟨rfl,m,rfl,one_deep (hO m hm),λA11 r11 ys g11 l11 h11 hp hm'=>len_ok h11 ?_⟩,λA11 g11 Q hQ=>hQ _ Gr.refl⟩
   have e:=ys_len (hO m hm) hp hm'
   have e2:decide ((((ys.map D.str).length:Nat):Int)=2)=isR m:=by rw[List.length_map];exact e
   have:=hQ A11 g11
   rw[←e2] at this
   exact this
  rw[List.nil_append]
  have hm12:(A12++[C.lst ((ms.filter isR).map enc)])[A12.length]? =some (.lst ((ms.filter isR).map enc)):=last_get
  have gB:=(gA.trans g12).trans (Gr.push (T:=[C.lst ((ms.filter isR).map enc)]))
  have hr12:=getElem?_push (T:=[C.lst ((ms.filter isR).map enc)]) (g12.get hr10)
  generalize (A12++[C.lst ((ms.filter isR).map enc)]:Ar)=A13 at*
  have h313:=gB.get h3'
  refine len_ok hr12 ?_
  refine cN (λc3=> ?_) (λc3=> ?_)
  .have c3:¬((((lf.filter isR).map enc).length:Nat):Int)=((nd0:Nat):Int):=c3
   rw[List.length_map,rods] at c3
   exact absurd rfl c3
  refine len_ok hm12 ?_
  refine cD (λc4=> ?_) (λc4=> ?_)
  .have c4:((((ms.filter isR).map enc).length:Nat):Int)<((nd0:Nat):Int):=c4
   rw[List.length_map] at c4
   omega
  refine it_ok h313 ?_
  refine cloop_gf tpS (λe=>decide (1<e.length)) tpS es [] A13 (λA' g=>g.get h313) (λe he A14 g14=> ?_) (by simp;omega) (λA14 g14=> ?_)
  .refine⟨[tpS e],rfl,λQ hQ=> ?_,λA15 g15 Q hQ=>hQ _ Gr.refl⟩
   have e2:decide ((((e.map D.str).length:Nat):Int)>1)=decide (1<e.length):=by
    rw[List.length_map,Bool.eq_iff_iff,decide_eq_true_eq,decide_eq_true_eq]
    omega
   have:=hQ A14 Gr.refl
   rw[←e2] at this
   exact this
  rw[List.nil_append]
  have hw14:(A14++[C.lst ((es.filter λe=>decide (1<e.length)).map tpS)])[A14.length]? =some (.lst ((es.filter λe=>decide (1<e.length)).map tpS)):=last_get
  refine⟨rfl,_,N6,rfl,kh _ lf lO,nm6,λMSe hH5=> ?_,λhn=>absurd ⟨lf,is_hall lf1 (by omega) lO⟩ hn⟩
  have e':=(hall_same hH5).symm
  subst e'
  refine⟨hall_ok (by omega) lO,λA15 q15 fs hF g15 h15 l15=> ?_⟩
  obtain⟨lf6,lfe⟩:=bnd_len lO (by omega) hF
  refine it_ok h15 ?_
  refine cloop_gf tpS (λe=>decide (1<e.length)) tpS fs [] A15 (λA' g=>g.get h15) (λe he A16 g16=> ?_) (by simp;omega) (λA16 g16=> ?_)
  .refine⟨[tpS e],rfl,λQ hQ=> ?_,λA17 g17 Q hQ=>hQ _ Gr.refl⟩
   have e2:decide ((((e.map D.str).length:Nat):Int)>1)=decide (1<e.length):=by
    rw[List.length_map,Bool.eq_iff_iff,decide_eq_true_eq,decide_eq_true_eq]
    omega
   have:=hQ A16 Gr.refl
   rw[←e2] at this
   exact this
  rw[List.nil_append,wide_eq lO (by omega) hO (by omega) lfR hF hB]
  obtain⟨t1,t2,t3⟩:=tups_data (es:=es.filter λe=>decide (1<e.length)) λe he n hn=>nm6 n ((le e (List.mem_filter.mp he).1).2.2 n hn)
  refine ne_refs last_get (getElem?_push (g16.get (g15.get hw14))) t1 t2 t3 ?_
  refine cD (λ_=>q _) (λ_=> ?_)
  obtain⟨m0,rest,hms⟩:∃m0 rest,ms=m0::rest:=by
   cases hms:ms with
   |nil=>rw[hms] at h1;simp at h1
   |cons m0 rest=>exact⟨m0,rest,rfl⟩
  have ec:ms.map enc++cutD (ms.map enc) none (some 1)=(ms++[m0]).map enc:=by
   have:=cut_to (xs:=ms.map enc) (i:=1) (by rw[List.length_map];omega)
   rw[show((1:Nat):Int)=1 from rfl] at this
   rw[this,List.map_append,hms]
   rfl
  have hO2:∀m∈ms++[m0],One m:=λm hm=>by
   rcases List.mem_append.mp hm with hm|hm
   .exact hO m hm
   .rw[List.mem_singleton.mp hm]
    exact hO m0 (by rw[hms];simp)
  have l2:(ms++[m0]).length=ms.length+1:=by simp
  have r2:rgF ((ms++[m0]).map tabF)=none:=by
   obtain⟨w,hw⟩:=of_ring (hall_ok (by omega) hO) hr
   refine ring_of (w:=w) (hall_ok (by omega) hO2) ⟨hw.pos,λT hT=> ?_⟩
   obtain⟨m,hm,rfl⟩:=List.mem_map.mp hT
   have hm':m∈ms:=by
    rcases List.mem_append.mp hm with hm|hm
    .exact hm
    .rw[List.mem_singleton.mp hm,hms]
     simp
   exact hw.eq _ (List.mem_map_of_mem hm')
  have sp0:0∈sparF ((ms++[m0]).map tabF):=by
   rw[hms]
   exact twice_spare (by rw[←hms];exact hO) (by rw[hms] at h5;simp at h5;omega)
  have sz:(ms.map enc).length+(cutD (ms.map enc) none (some 1)).length≤sizeLine:=by
   rw[←List.length_append,ec,List.length_map]
   omega
  refine⟨sz,?_⟩
  refine⟨rfl,.tup (ms.map enc++cutD (ms.map enc) none (some 1)),N6,rfl,by rw[ec];exact kh _ _ hO2,λMSf hH6=> ?_,λhn=>absurd ⟨ms++[m0],by rw[ec];exact is_hall (by omega) (by omega) hO2⟩ hn⟩
  rw[ec] at hH6
  have e':=hall_same hH6
  subst e'
  refine⟨hall_ok (by omega) hO2,λ_ A20 q20 g20 h20 l20=> ?_,λhn=>absurd r2 hn⟩
  exact inI_ok h20 sp0 (q _)
end
end My
namespace L2
open PySem PySem.Spec PyProof.Rows
theorem topD_go{C:Prop}{K:PySem.W.Frag}{h:Heap}{mg:Str->Option Value}{x:Str}{st:Stmt}{ps:List Str}{f:Addr}{oc:Value}{od an:Option Addr}{osl:Array (Option Value)}{kV doc pm cdv ct:Value}(X:K.In h)(G:h.Ns mainGlobals mg)
  (a:PySem.W.nsIn K mainGlobals x=some (some (.ref f)))(l:K.lookup f=some ⟨oc,od,.func (PySem.W.fnOf x x (defArgs st) (defBody st) (defScope st) .none kV doc pm an cdv ct),osl⟩)(c:PySem.W.codeIn K cdv x=true)(k:PySem.W.keepIn K (.ref f)=true)
  (hb:∀(kV doc pm:Value) (an:Option Addr) (cdv ct:Value) (us:List Value),us.length=ps.length->bindArgs (PySem.W.fnOf x x (defArgs st) (defBody st) (defScope st) .none kV doc pm an cdv ct) ⟨us,[]⟩=pure (ps.zip us))(go:TopD K mg x st ps->C):C:=
 go ⟨f,_,fun_mk l c k,(fun_mk l c k).binds hb,PySem.W.mg_of X G a⟩
theorem exc_go{C:Prop}{K:PySem.W.Frag}{h:Heap}{mg:Str->Option Value}{x:Str}{e:Addr}(X:K.In h)(G:h.Ns mainGlobals mg)(a:PySem.W.nsIn K mainGlobals x=some (some (.ref e)))(go:mg x=some (.ref e)->C):C:=go (PySem.W.mg_of X G a)
end L2
namespace My
open PySem PySem.Spec PyProof.Rows L2 DP MA
theorem all{P:Program}{w:World}{K:PySem.W.Frag}{mg:Str->Option Value}{base:Heap}{f:Addr}{fd:FuncData}{e_NoMobile e_NoHall e_Never:Addr}(T_is_number:TopD K mg "is_number" s_is_number p_is_number)(T_is_name:TopD K mg "is_name" s_is_name p_is_name)(T_is_mobile_within:TopD K mg "is_mobile_within" s_is_mobile_within p_is_mobile_within)(T_is_mobile:TopD K mg "is_mobile" s_is_mobile p_is_mobile)(T_check_mobile:TopD K mg "check_mobile" s_check_mobile p_check_mobile)(T_greatest_divisor:TopD K mg "greatest_divisor" s_greatest_divisor p_greatest_divisor)(T_reduced:TopD K mg "reduced" s_reduced p_reduced)(T_product:TopD K mg "product" s_product p_product)(T_quotient:TopD K mg "quotient" s_quotient p_quotient)(T_shares_below:TopD K mg "shares_below" s_shares_below p_shares_below)(T_name_shares:TopD K mg "name_shares" s_name_shares p_name_shares)(T_shares:TopD K mg "shares" s_shares p_shares)(T_bar:TopD K mg "bar" s_bar p_bar)(T_check_hall:TopD K mg "check_hall" s_check_hall p_check_hall)(T_hall_shares:TopD K mg "hall_shares" s_hall_shares p_hall_shares)(T_steps_from:TopD K mg "steps_from" s_steps_from p_steps_from)(T_paths_from:TopD K mg "paths_from" s_paths_from p_paths_from)(T_groups:TopD K mg "groups" s_groups p_groups)(T_backward:TopD K mg "backward" s_backward p_backward)(T_comes_to:TopD K mg "comes_to" s_comes_to p_comes_to)(T_closing_steps:TopD K mg "closing_steps" s_closing_steps p_closing_steps)(T_find_ring:TopD K mg "find_ring" s_find_ring p_find_ring)(T_check_no_ring:TopD K mg "check_no_ring" s_check_no_ring p_check_no_ring)(T_ring:TopD K mg "ring" s_ring p_ring)(T_is_spare:TopD K mg "is_spare" s_is_spare p_is_spare)(T_bound:TopD K mg "bound" s_bound p_bound)(T_spare:TopD K mg "spare" s_spare p_spare)(T__law_cell_at:TopD K mg "_law_cell_at" s__law_cell_at p__law_cell_at)(T__law_mixed:TopD K mg "_law_mixed" s__law_mixed p__law_mixed)(T__law_draw:TopD K mg "_law_draw" s__law_draw p__law_draw)(T__law_pick:TopD K mg "_law_pick" s__law_pick p__law_pick)(T__law_leaves:TopD K mg "_law_leaves" s__law_leaves p__law_leaves)(T__law_names:TopD K mg "_law_names" s__law_names p__law_names)(T__law_weights:TopD K mg "_law_weights" s__law_weights p__law_weights)(T__law_hall:TopD K mg "_law_hall" s__law_hall p__law_hall)(T__law_ties:TopD K mg "_law_ties" s__law_ties p__law_ties)(T__law_known:TopD K mg "_law_known" s__law_known p__law_known)(T__law_free:TopD K mg "_law_free" s__law_free p__law_free)(b_len:mg "len" =none)(b_isinstance:mg "isinstance" =none)(b_bool:mg "bool" =none)(b_int:mg "int" =none)(b_str:mg "str" =none)(b_tuple:mg "tuple" =none)(b_all:mg "all" =none)(b_dict:mg "dict" =none)(b_sorted:mg "sorted" =none)(b_set:mg "set" =none)(b_sum:mg "sum" =none)(b_min:mg "min" =none)(b_max:mg "max" =none)(b_enumerate:mg "enumerate" =none)(b_reversed:mg "reversed" =none)(b_range:mg "range" =none)(m_NoMobile:mg "NoMobile" =some (.ref e_NoMobile))(m_NoHall:mg "NoHall" =some (.ref e_NoHall))(m_Never:mg "Never" =some (.ref e_Never))(x_NoMobile:PySem.W.excIn K e_NoMobile vErr "ValueError.__new__" =true)(x_NoHall:PySem.W.excIn K e_NoHall vErr "ValueError.__new__" =true)(x_Never:PySem.W.excIn K e_Never vErr "ValueError.__new__" =true){t_LONGEST_NAME:Tok}(m_LONGEST_NAME:mg "LONGEST_NAME" =some (.int 3 t_LONGEST_NAME)){t_LONGEST_ARM:Tok}(m_LONGEST_ARM:mg "LONGEST_ARM" =some (.int 9 t_LONGEST_ARM)){t_MOST_RODS:Tok}(m_MOST_RODS:mg "MOST_RODS" =some (.int 5 t_MOST_RODS)){t_MOST_MOBILES:Tok}(m_MOST_MOBILES:mg "MOST_MOBILES" =some (.int 6 t_MOST_MOBILES))(T:Fun K "law" "law" s_law f fd):FnOk P w K mg base (CX1 P w) 26 f fd p_law spFz:=by
 have FnumA:=fA_num (P:=P) (w:=w) (base:=base) T_is_number b_isinstance b_bool b_int
 have FnameA:=fA_name (P:=P) (w:=w) (base:=base) T_is_name b_isinstance b_str b_len b_all m_LONGEST_NAME
 have FimwA:=fA_imw T_is_mobile_within b_isinstance b_str b_tuple b_len m_LONGEST_ARM FnameA FnumA 6
 have FmobA:=fA_mob T_is_mobile m_MOST_RODS FimwA
 have Fnum:=f_is_number (P:=P) (w:=w) (base:=base) T_is_number b_isinstance b_bool b_int
 have Fname:=f_is_name (P:=P) (w:=w) (base:=base) T_is_name b_isinstance b_str b_len b_all m_LONGEST_NAME
 have Fimw:=f_imw T_is_mobile_within b_isinstance b_str b_tuple b_len m_LONGEST_ARM Fname Fnum 6
 have Fim:=f_is_mobile T_is_mobile m_MOST_RODS Fimw
 have Fchk:=f_check_mobile T_check_mobile m_NoMobile x_NoMobile Fim
 have Fgcd:=f_gcd (P:=P) (w:=w) (base:=base) T_greatest_divisor
 have Fred:=f_reduced T_reduced Fgcd
 have Fprod:=f_prod T_product Fred
 have Fquot:=f_quot T_quotient Fred
 have Fshb:=f_shb T_shares_below Fprod 6
 have Fshs:=f_shares T_shares Fchk Fshb
 have Fbar:=f_bar T_bar Fshs
 have FnshF:=f_nshF T_name_shares b_dict Fshs
 have Fstp:=f_stp (P:=P) (w:=w) (base:=base) T_steps_from b_enumerate
 have Fpth:=f_pth T_paths_from b_len Fstp
 have Fgrp:=f_grp T_groups Fpth
 have Fbw:=f_bw (P:=P) (w:=w) (base:=base) T_backward b_reversed
 have Fcm:=f_cm T_comes_to Fprod Fquot
 have Fcls:=f_cls (P:=P) (w:=w) (base:=base) T_closing_steps b_enumerate b_min
 have Frng:=f_rng T_find_ring Fgrp Fcls Fbw Fcm
 have Fnor:=f_nor T_check_no_ring m_Never x_Never Frng
 have Fchh:=f_chh T_check_hall b_isinstance b_tuple b_len m_MOST_MOBILES m_NoHall x_NoHall FmobA Fbar
 have Fhsh:=f_hsh T_hall_shares Fchh FnshF
 have Frin:=f_rin T_ring Fhsh Frng
 have Fisp:=f_isp T_is_spare b_min b_all Fpth
 have Fspr:=f_spr T_spare b_range b_len Fhsh Fnor Fisp
 have Fbnd:=f_bnd T_bound b_sorted b_tuple Fhsh Fgrp
 have Fcell:=f_cell (P:=P) (w:=w) (base:=base) T__law_cell_at b_len
 have Fmix:=f_mixed T__law_mixed Fcell
 have Fdraw:=f_draw T__law_draw b_len Fmix
 have Fpick:=f_pick T__law_pick b_len Fdraw
 have Flv:=f_lv (P:=P) (w:=w) (base:=base) T__law_leaves 8
 have Fns:=f_ns T__law_names b_sorted b_set Flv
 have Fwt:=f_wt T__law_weights b_tuple Fdraw Fpick
 have Fhal:=f_hal T__law_hall b_dict b_range b_max b_tuple Fdraw Fpick Fwt
 have Ftie:=f_tie (P:=P) (w:=w) (base:=base) T__law_ties
 have Fkno:=f_kno T__law_known Ftie
 have Ffre:=f_fre T__law_free Ftie Fkno
 exact(f_law T b_len b_sum Fhal Fns Ffre Frin Fbnd Fspr).imp λvs H Q E h=>sp_fz h
theorem walk{l:PySem.W.OpenLaw}{q:Program}{loose:List Str}{XP:(Str->Option Value)->Heap->Prop}{YP:World->Heap->Prop}{d:DefRec}{K:Params->PySem.W.Frag}(hn:l.most=some 63)(hdf:d.params.defaults=[])(hK:∀p,(K p).all (λp=>noL p.2)=true)
  (hY:∀(w:World) (h:Heap),YP w h->(K w.params).In h)
  (F:∀(w:World) (mg:Str->Option Value) (fa:Addr) (h:Heap),(K w.params).In h->h.Ns mainGlobals mg->mg d.name=some (.ref fa)->
   ∃fd:FuncData,(∀(s:Shared) (u:Value),BindsTo s fd ⟨[u],[]⟩ [("_law_script",u)])∧∀base:Heap,(K w.params).In base->base.Ns mainGlobals mg->FnOk l.prog w (K w.params) mg base (CX1 l.prog w) 26 fa fd ["_law_script"] spFz):
  PySem.W.WalkO q loose XP YP l.row.toRowW d [] (λf vs=>PySem.call f vs):=
 L2.walk_of (n:=63) (k:=26) (x:="_law_script") (CX:=λw=>CX1 l.prog w) (sp:=λ_=>spFz) hn (by decide) hdf ⟨rfl,by decide,by decide⟩ hY F (λw H a ns _ hO hS=>fz_of (hK w.params) hO hS) λw H s e s' z=>by
  obtain⟨_,_,_,_,_,z⟩:=z
  exact z
theorem law_mk{P:Program}{w:World}{K:PySem.W.Frag}{h:Heap}{mg:Str->Option Value}{fa f3:Addr}{od3 an3:Option Addr}{sl3:Array (Option Value)}{oc3 kV3 dc3 pm3 cd3 ct3:Value}(X:K.In h)(G:h.Ns mainGlobals mg)(hfa:mg "law" =some (.ref fa))
  (a3:PySem.W.nsIn K mainGlobals "law" =some (some (.ref f3)))(l3:K.lookup f3=some ⟨oc3,od3,.func (PySem.W.fnOf "law" "law" (defArgs s_law) (defBody s_law) (defScope s_law) .none kV3 dc3 pm3 an3 cd3 ct3),sl3⟩)(c3:PySem.W.codeIn K cd3 "law" =true)(k3:PySem.W.keepIn K (.ref f3)=true)
  (go:∀(base:Heap) {f:Addr} {fd:FuncData},Fun K "law" "law" s_law f fd->FnOk P w K mg base (CX1 P w) 26 f fd p_law spFz):
  ∃fd:FuncData,(∀(s:Shared) (v:Value),BindsTo s fd ⟨[v],[]⟩ [("_law_script",v)])∧∀base:Heap,K.In base->base.Ns mainGlobals mg->FnOk P w K mg base (CX1 P w) 26 fa fd ["_law_script"] spFz:=by
 have e:=hfa.symm.trans (PySem.W.mg_of X G a3)
 cases e
 exact⟨PySem.W.fnOf "law" "law" (defArgs s_law) (defBody s_law) (defScope s_law) .none kV3 dc3 pm3 an3 cd3 ct3,λs v=> .of_eq rfl,λbase _ _=>go base (fun_mk l3 c3 k3)⟩
end My
open PySem PySem.W PyProof.Rows
set_option maxHeartbeats 0
def PySem.W.Fast.tw16864618592142003386:=()
def PySem.W.Fast.tw14904681115217272601:=()
def PySem.W.Fast.tw11898673842065290130:=()
def PySem.W.Fast.tw4684226298888400098:=()
def PySem.W.Fast.tw4077048163395320219:=()
def PySem.W.Fast.tw13913613514976480042:=()
def PySem.W.Fast.tw12926178089331839067:=()
def PySem.W.Fast.tw6128106870883400570:=()
def PySem.W.Fast.tw16053306600634468012:=()
def PySem.W.Fast.tw8060666987683057360:=()
def PySem.W.Fast.tw4683681711962371626:=()
def PySem.W.Fast.tw16822532161544500889:=()
def PySem.W.Fast.tw2187251505897268136:=()
def PySem.W.Fast.tw13462424878891718212:=()
def PySem.W.Fast.tw13861969467909019144:=()
def PySem.W.Fast.tw855453113358079251:=()
def PySem.W.Fast.tw6953138203311097117:=()
def PySem.W.Fast.tw11738243743197964597:=()
def PySem.W.Fast.tw8739830900816887780:=()
def PySem.W.Fast.tw3308634892276815127:=()
def PySem.W.Fast.tw14689541978594310382:=()
def PySem.W.Fast.tw2358075552688931204:=()
def PySem.W.Fast.tw2399617604181995578:=()
def PySem.W.Fast.tw17744993626210230056:=()
def PySem.W.Fast.tw11401859456886640639:=()
def PySem.W.Fast.tw2474200967059427378:=()
def PySem.W.Fast.tw10294118229990073760:=()
def PySem.W.Fast.tw18101783494082082527:=()
def PySem.W.Fast.tw866717566613908145:=()
def PySem.W.Fast.tw13034982811429478159:=()
def PySem.W.Fast.tw3919386906821981792:=()
def PySem.W.Fast.tw12887044766017154078:=()
def PySem.W.Fast.tw7217548393331319763:=()
def PySem.W.Fast.tw4971374062829452455:=()
def PySem.W.Fast.tw16636501806038632012:=()
def PySem.W.Fast.tw15254633091992210921:=()
def PySem.W.Fast.tw11564986514327137767:=()
def PySem.W.Fast.tw11962351593759143498:=()
def PySem.W.Fast.tw13769103115541136327:=()
def PySem.W.Fast.tw17214186515701724070:=()
def PySem.W.Fast.tw9592521066531166775:=()
def PySem.W.Fast.tw9461873434466728008:=()
def PySem.W.Fast.tw6056707288978253535:=()
def PySem.W.Fast.tw16756451883985382160:=()
def PySem.W.Fast.tw6522051377940421278:=()
def PySem.W.Fast.tw2827255003249426055:=()
def PySem.W.Fast.tw11692469974320434101:=()
def PySem.W.Fast.tw8374155422468719031:=()
def PySem.W.Fast.tw1116146690788884255:=()
def PySem.W.Fast.tw4562827626845409882:=()
def PySem.W.Fast.tw9582823730064241283:=()
def PySem.W.Fast.tw2135409205425526673:=()
def PySem.W.Fast.tw10042083083395451092:=()
def PySem.W.Fast.tw18367749455379333440:=()
def PySem.W.Fast.tw16902440903046159558:=()
def PySem.W.Fast.tw4075453323654395381:=()
def PySem.W.Fast.tw2295934692909999376:=()
def PySem.W.Fast.tw9689729476882780088:=()
def PySem.W.Fast.tw7476452910721959123:=()
def PySem.W.Fast.tw3985964047577975286:=()
def PySem.W.Fast.tw8297923619242306668:=()
def PySem.W.Fast.tw8002303944043701648:=()
def PySem.W.Fast.tw12954591660760965231:=()
def PySem.W.Fast.tw15606834981724049387:=()
def PySem.W.Fast.tw11384182702204212275:=()
def PySem.W.Fast.tw356142389854756638:=()
def PySem.W.Fast.tw13946496683202179788:=()
def PySem.W.Fast.tw15042883488752021643:=()
def PySem.W.Fast.tw12459912946257978736:=()
def PySem.W.Fast.tw6128145076113358165:=()
def PySem.W.Fast.tw1950803216711332702:=()
def PySem.W.Fast.tw1532491051758110099:=()
def PySem.W.Fast.tw1825952489489211193:=()
def PySem.W.Fast.tw17338325484393633139:=()
def PySem.W.Fast.tw5832305185047221409:=()
def PySem.W.Fast.tw13444670453868202053:=()
def PySem.W.Fast.tw5890639436620234070:=()
def PySem.W.Fast.tw12330612334027959195:=()
def PySem.W.Fast.tw10341888390210383824:=()
def PySem.W.Fast.tw13812277999558781770:=()
def PySem.W.Fast.tw3215387988796971590:=()
def PySem.W.Fast.tw8219003486749837733:=()
def PySem.W.Fast.tw12917704675397863716:=()
def PySem.W.Fast.tw13421457143807847188:=()
def PySem.W.Fast.tw2107523057676978006:=()
def PySem.W.Fast.tw3235425350174046738:=()
def PySem.W.Fast.tw6162269159774324313:=()
def PySem.W.Fast.tw14424681132571578402:=()
def PySem.W.Fast.tw896878414759379649:=()
def PySem.W.Fast.tw2483420100392427323:=()
def PySem.W.Fast.tw384561282630992784:=()
def PySem.W.Fast.tw6822071536725586909:=()
def PySem.W.Fast.tw16409965706819354750:=()
def PySem.W.Fast.tw10016166984437732892:=()
def PySem.W.Fast.tw16723463757517087524:=()
def PySem.W.Fast.tw14782755387869428366:=()
def PySem.W.Fast.tw17435391645217708394:=()
def PySem.W.Fast.tw4635989785427082552:=()
def PySem.W.Fast.tw16955839230299176341:=()
def PySem.W.Fast.tw11823594873375168262:=()
def PySem.W.Fast.tw16279288168775177219:=()
def PySem.W.Fast.tw1915925776726481438:=()
def PySem.W.Fast.tw17187875760726034783:=()
def PySem.W.Fast.tw12297992134047619483:=()
def PySem.W.Fast.tw446995266069924076:=()
def PySem.W.Fast.tw14022695629967993375:=()
def PySem.W.Fast.tw8535803893964050539:=()
def PySem.W.Fast.tw2400638427578300857:=()
def PySem.W.Fast.tw13114645530532618160:=()
def PySem.W.Fast.tw6798380500665416597:=()
def PySem.W.Fast.tw13135312941875745310:=()
def PySem.W.Fast.tw2144661209622563809:=()
def PySem.W.Fast.tw1864683662541468164:=()
def PySem.W.Fast.tw447263597446747957:=()
def PySem.W.Fast.tw2244103112122482387:=()
def PySem.W.Fast.tw17464319187374939960:=()
def PySem.W.Fast.tw11161164713144168021:=()
def PySem.W.Fast.tw9972681490609642005:=()
def PySem.W.Fast.tw14391293386007564604:=()
def PySem.W.Fast.tw861502493610598483:=()
def PySem.W.Fast.tw17062427158221528723:=()
def PySem.W.Fast.tw140236481695663071:=()
def PySem.W.Fast.tw13757698761724263525:=()
def PySem.W.Fast.tw9536688357841153863:=()
def PySem.W.Fast.tw2314633323536394700:=()
def PySem.W.Fast.tw5459702643516471331:=()
def PySem.W.Fast.tw17318462890700432884:=()
def PySem.W.Fast.tw7164969610272591079:=()
def PySem.W.Fast.tw14387916025512776202:=()
def PySem.W.Fast.tw1717767836212652739:=()
def PySem.W.Fast.tw8159993647027272844:=()
def PySem.W.Fast.tw16140922888777852060:=()
def PySem.W.Fast.tw896239598344801917:=()
def PySem.W.Fast.tw258204147387103276:=()
def PySem.W.Fast.tw3042748168174471775:=()
def PySem.W.Fast.tw5344687154915797982:=()
def PySem.W.Fast.tw140001813534094272:=()
def PySem.W.Fast.tw14226173905949225808:=()
def PySem.W.Fast.tw726351398001015727:=()
def PySem.W.Fast.tw12652081859355081885:=()
def PySem.W.Fast.tw9387514328989991554:=()
def PySem.W.Fast.tw15334358736709463725:=()
def PySem.W.Fast.tw13622603851894308203:=()
def PySem.W.Fast.tw16919654943277366748:=()
def PySem.W.Fast.tw6170744672141170255:=()
def PySem.W.Fast.tw5498123283257192965:=()
def PySem.W.Fast.tw16108870410212019532:=()
def PySem.W.Fast.tw15861351967447197489:=()
def PySem.W.Fast.tw2950685276103557050:=()
def PySem.W.Fast.tw10374632558016547081:=()
def PySem.W.Fast.tw17590705303994421779:=()
def PySem.W.Fast.tw17351735930882485243:=()
def PySem.W.Fast.tw8157277791214410489:=()
def PySem.W.Fast.tw1599053048872161195:=()
def PySem.W.Fast.tw4480162626587320490:=()
def PySem.W.Fast.tw11066385474520676512:=()
def PySem.W.Fast.tw5323657890516693427:=()
def PySem.W.Fast.tw17292613610259460706:=()
def PySem.W.Fast.tw1383625962624193546:=()
def PySem.W.Fast.tw6427576097997697322:=()
def PySem.W.Fast.tw4321966507151631593:=()
def PySem.W.Fast.tw6105849179199505303:=()
def PySem.W.Fast.tw14664691819916384248:=()
def PySem.W.Fast.tw1708089923452030704:=()
def PySem.W.Fast.tw14520296925931582552:=()
def PySem.W.Fast.tw4548300405975405348:=()
def PySem.W.Fast.tw15925456577456769635:=()
def PySem.W.Fast.tw16298917771340976007:=()
def PySem.W.Fast.tw5217270863462422736:=()
def PySem.W.Fast.tw15805137534098808535:=()
def PySem.W.Fast.tw7322748291113730364:=()
def PySem.W.Fast.tw6420159726195949164:=()
def PySem.W.Fast.tw6469784823511061222:=()
def PySem.W.Fast.tw14564479935002850509:=()
def PySem.W.Fast.tw14404928986312190071:=()
def PySem.W.Fast.tw3543459598558145280:=()
def PySem.W.Fast.tw13855379610559885079:=()
def PySem.W.Fast.tw17518593693041627797:=()
def PySem.W.Fast.tw6858818405166986180:=()
def PySem.W.Fast.tw11524677903986383763:=()
def PySem.W.Fast.tw3641951560692057861:=()
def PySem.W.Fast.tw8760152093665844161:=()
def PySem.W.Fast.tw2941924889016668590:=()
def PySem.W.Fast.tw28018229315631829:=()
def PySem.W.Fast.tw9796564346219866840:=()
def PySem.W.Fast.tw18157406047293677543:=()
def PySem.W.Fast.tw13956191218907399338:=()
def PySem.W.Fast.tw10910644110388302437:=()
def PySem.W.Fast.tw15685335758407661847:=()
def PySem.W.Fast.tw5101696844757716304:=()
def PySem.W.Fast.tw13810262117814702294:=()
def PySem.W.Fast.tw2789304352393801511:=()
def PySem.W.Fast.tw11766667032028208565:=()
def PySem.W.Fast.tw1725486776273817318:=()
def PySem.W.Fast.tw2403389108928632939:=()
def PySem.W.Fast.tw3721919958574915784:=()
def PySem.W.Fast.tw12843764043397292189:=()
def PySem.W.Fast.tw9848817304349107530:=()
def PySem.W.Fast.tw18328257000508772394:=()
def PySem.W.Fast.tw15438627641174518403:=()
def PySem.W.Fast.tw9404705873571188630:=()
def PySem.W.Fast.tw5994696166404524948:=()
def PySem.W.Fast.tw9116068151291705539:=()
def PySem.W.Fast.tw87601786513091389:=()
def PySem.W.Fast.tw14842496431369740429:=()
def PySem.W.Fast.tw6548459193220583526:=()
def PySem.W.Fast.tw6472337539984862722:=()
def PySem.W.Fast.tw615563214671542189:=()
def PySem.W.Fast.tw2228412568605170491:=()
def PySem.W.Fast.tw395372135433800450:=()
def PySem.W.Fast.tw3475869608268796686:=()
def PySem.W.Fast.tw4804111812005502284:=()
def PySem.W.Fast.tw17483705464198625004:=()
def PySem.W.Fast.tw16682895059504647277:=()
def PySem.W.Fast.tw9806118890596472461:=()
def PySem.W.Fast.tw12727641955093265886:=()
def PySem.W.Fast.tw13953587524928339648:=()
def PySem.W.Fast.tw1495895850433845275:=()
def PySem.W.Fast.tw8899516883271353254:=()
def PySem.W.Fast.tw2570914705882880060:=()
def PySem.W.Fast.tw2353497105660221152:=()
def PySem.W.Fast.tw12701470058032328615:=()
def PySem.W.Fast.tw9950792792127014553:=()
def PySem.W.Fast.tw10159399881129095643:=()
def PySem.W.Fast.tw15590096980072825465:=()
def PySem.W.Fast.tw15433366417846715934:=()
def PySem.W.Fast.tw14611616552423853409:=()
def PySem.W.Fast.tw9919008367099125623:=()
def PySem.W.Fast.tw2646887283097553488:=()
def PySem.W.Fast.tw16248296213531012650:=()
def PySem.W.Fast.tw11853640710764476214:=()
def PySem.W.Fast.tw14172470266813156586:=()
def PySem.W.Fast.tw3671519592330383864:=()
def PySem.W.Fast.tw9879335643197240621:=()
def PySem.W.Fast.tw15173544498738437827:=()
def PySem.W.Fast.tw16120054744476736488:=()
def PySem.W.Fast.tw6968137755033780318:=()
def PySem.W.Fast.tw12382822922155266910:=()
def PySem.W.Fast.tw1054878856607437042:=()
def PySem.W.Fast.tw4906484309439969231:=()
def PySem.W.Fast.tw3419001889969749887:=()
def PySem.W.Fast.tw4699756791338806529:=()
def PySem.W.Fast.tw443766864951011646:=()
def PySem.W.Fast.tw6030501089693204938:=()
def PySem.W.Fast.tw643336161829623379:=()
def PySem.W.Fast.tw17829434514381053950:=()
def PySem.W.Fast.tw4171853373547519906:=()
def PySem.W.Fast.tw4953865588907285216:=()
def PySem.W.Fast.tw3374319085511977134:=()
def PySem.W.Fast.tw5702276774652866934:=()
def PySem.W.Fast.tw2259672571474061568:=()
def PySem.W.Fast.tw10519837036962490867:=()
def PySem.W.Fast.tw3382625519597670723:=()
def PySem.W.Fast.tw8912161614967838395:=()
def PySem.W.Fast.tw938635154573522699:=()
def PySem.W.Fast.tw9495317472360511255:=()
def PySem.W.Fast.tw17013487888433625170:=()
def PySem.W.Fast.tw10624116801336726872:=()
def PySem.W.Fast.tw7774113678449685934:=()
def PySem.W.Fast.tw8285278889055680438:=()
def PySem.W.Fast.tw10879749546641988924:=()
def PySem.W.Fast.tw18418582437962087742:=()
def PySem.W.Fast.tw8422229294311615681:=()
def PySem.W.Fast.tw16615150188913437886:=()
def PySem.W.Fast.tw10551173667578312727:=()
def PySem.W.Fast.tw4096438862311573950:=()
def PySem.W.Fast.tw6229817132586351632:=()
def PySem.W.Fast.tw12903330217458380548:=()
def PySem.W.Fast.tw2595585439558603231:=()
def PySem.W.Fast.tw2455152089536381482:=()
def PySem.W.Fast.tw17817366049700826239:=()
def PySem.W.Fast.tw12431713363859531893:=()
def PySem.W.Fast.tw1467881925912835984:=()
def PySem.W.Fast.tw5072417060200589145:=()
def PySem.W.Fast.tw13547939009206843870:=()
def PySem.W.Fast.tw14760874974797668852:=()
def PySem.W.Fast.tw1070438729232803039:=()
def PySem.W.Fast.tw15127105006835628225:=()
def PySem.W.Fast.tw11266997524610791606:=()
def PySem.W.Fast.tw16766683885213920930:=()
def PySem.W.Fast.tw6356304189028158447:=()
def PySem.W.Fast.tw12768989823518198380:=()
def PySem.W.Fast.tw8737599933303070863:=()
def PySem.W.Fast.tw9977182230042388008:=()
def PySem.W.Fast.tw5438652380644606353:=()
def PySem.W.Fast.tw4015202173357781934:=()
def PySem.W.Fast.tw4309217394794523951:=()
def PySem.W.Fast.tw4039707410889071942:=()
def PySem.W.Fast.tw11373181179767321252:=()
def PySem.W.Fast.tw5449601097390414333:=()
def PySem.W.Fast.tw8431482922422412695:=()
def PySem.W.Fast.tw14727194681476072466:=()
def PySem.W.Fast.tw12147665669636231765:=()
def PySem.W.Fast.tw15779231459743154856:=()
def PySem.W.Fast.tw15402603294489630176:=()
def PySem.W.Fast.tw10826640976665885199:=()
def PySem.W.Fast.tw772564365185477556:=()
def PySem.W.Fast.tw14537775516033599862:=()
def PySem.W.Fast.tw10295913840692754127:=()
def PySem.W.Fast.tw14827714588952709054:=()
def PySem.W.Fast.tw539538531456391632:=()
def PySem.W.Fast.tw4849480874435393781:=()
def PySem.W.Fast.tw1840220198017710270:=()
def PySem.W.Fast.tw14903569129155370506:=()
def PySem.W.Fast.tw13055953723892786844:=()
def PySem.W.Fast.tw9456574344343218679:=()
def PySem.W.Fast.tw7424060955962978353:=()
def PySem.W.Fast.tw15227483606004533461:=()
def PySem.W.Fast.tw2692750590507578028:=()
def PySem.W.Fast.tw14939612678797562433:=()
def PySem.W.Fast.tw8949853181751564097:=()
def PySem.W.Fast.tw209982475168477708:=()
def PySem.W.Fast.tw10792498714594961201:=()
def PySem.W.Fast.tw8972062959192195235:=()
def PySem.W.Fast.tw9615563845995560447:=()
def PySem.W.Fast.tw740290905518256060:=()
def PySem.W.Fast.tw4547051000311932777:=()
def PySem.W.Fast.tw16670775579421159206:=()
def PySem.W.Fast.tw12269216009862288129:=()
def PySem.W.Fast.tw14958820412457663293:=()
def PySem.W.Fast.tw12770481643036789091:=()
def PySem.W.Fast.tw6549852094080907030:=()
def PySem.W.Fast.tw17071478250421689845:=()
def PySem.W.Fast.tw3681537716864247207:=()
def PySem.W.Fast.tw17334828202450815106:=()
def PySem.W.Fast.tw3239113980409921550:=()
def PySem.W.Fast.tw11429584451438056573:=()
def PySem.W.Fast.tw9860861378791804195:=()
def PySem.W.Fast.tw8997383693586321770:=()
def PySem.W.Fast.tw12772213712371865176:=()
def PySem.W.Fast.tw3270257207059953099:=()
def PySem.W.Fast.tw17678831435119133177:=()
def PySem.W.Fast.tw16226643914720891334:=()
open_top hd for PySem.Challenge.rw_hangstill_k35_whole_spare_together
theorem PySem.Challenge.cw_hangstill_k35_whole_spare_together_holds : PySem.Challenge.rw_hangstill_k35_whole_spare_together.Holds := by
 refine hd ?_
 k_fill
 refine My.walk (l:=PySem.Challenge.rw_hangstill_k35_whole_spare_together) rfl rfl ?K (λw h Y=>PySem.W.kIn_of Y) ?F
 case K=>exact λp=>(Eq.refl true:true=true)
 case F=>
  intro w mg fa h KX G hmg
  refine' L2.topD_go (x:="is_number") (st:=My.s_is_number) (ps:=My.p_is_number) KX G ?a1 ?l1 ?c1 ?k1 (λ_ _ _ _ _ _ us hl=>match us,hl with|[_,_,_],_=>rfl) ?go1
  (case a1=>k_is);(case l1=>k_is);(case c1=>k_is);(case k1=>k_is)
  intro T_is_number
  refine' L2.topD_go (x:="is_name") (st:=My.s_is_name) (ps:=My.p_is_name) KX G ?a2 ?l2 ?c2 ?k2 (λ_ _ _ _ _ _ us hl=>match us,hl with|[_],_=>rfl) ?go2
  (case a2=>k_is);(case l2=>k_is);(case c2=>k_is);(case k2=>k_is)
  intro T_is_name
  refine' L2.topD_go (x:="is_mobile_within") (st:=My.s_is_mobile_within) (ps:=My.p_is_mobile_within) KX G ?a3 ?l3 ?c3 ?k3 (λ_ _ _ _ _ _ us hl=>match us,hl with|[_,_],_=>rfl) ?go3
  (case a3=>k_is);(case l3=>k_is);(case c3=>k_is);(case k3=>k_is)
  intro T_is_mobile_within
  refine' L2.topD_go (x:="is_mobile") (st:=My.s_is_mobile) (ps:=My.p_is_mobile) KX G ?a4 ?l4 ?c4 ?k4 (λ_ _ _ _ _ _ us hl=>match us,hl with|[_],_=>rfl) ?go4
  (case a4=>k_is);(case l4=>k_is);(case c4=>k_is);(case k4=>k_is)
  intro T_is_mobile
  refine' L2.topD_go (x:="check_mobile") (st:=My.s_check_mobile) (ps:=My.p_check_mobile) KX G ?a5 ?l5 ?c5 ?k5 (λ_ _ _ _ _ _ us hl=>match us,hl with|[_],_=>rfl) ?go5
  (case a5=>k_is);(case l5=>k_is);(case c5=>k_is);(case k5=>k_is)
  intro T_check_mobile
  refine' L2.topD_go (x:="greatest_divisor") (st:=My.s_greatest_divisor) (ps:=My.p_greatest_divisor) KX G ?a6 ?l6 ?c6 ?k6 (λ_ _ _ _ _ _ us hl=>match us,hl with|[_,_],_=>rfl) ?go6
  (case a6=>k_is);(case l6=>k_is);(case c6=>k_is);(case k6=>k_is)
  intro T_greatest_divisor
  refine' L2.topD_go (x:="reduced") (st:=My.s_reduced) (ps:=My.p_reduced) KX G ?a7 ?l7 ?c7 ?k7 (λ_ _ _ _ _ _ us hl=>match us,hl with|[_,_],_=>rfl) ?go7
  (case a7=>k_is);(case l7=>k_is);(case c7=>k_is);(case k7=>k_is)
  intro T_reduced
  refine' L2.topD_go (x:="product") (st:=My.s_product) (ps:=My.p_product) KX G ?a8 ?l8 ?c8 ?k8 (λ_ _ _ _ _ _ us hl=>match us,hl with|[_,_],_=>rfl) ?go8
  (case a8=>k_is);(case l8=>k_is);(case c8=>k_is);(case k8=>k_is)
  intro T_product
  refine' L2.topD_go (x:="quotient") (st:=My.s_quotient) (ps:=My.p_quotient) KX G ?a9 ?l9 ?c9 ?k9 (λ_ _ _ _ _ _ us hl=>match us,hl with|[_,_],_=>rfl) ?go9
  (case a9=>k_is);(case l9=>k_is);(case c9=>k_is);(case k9=>k_is)
  intro T_quotient
  refine' L2.topD_go (x:="shares_below") (st:=My.s_shares_below) (ps:=My.p_shares_below) KX G ?a10 ?l10 ?c10 ?k10 (λ_ _ _ _ _ _ us hl=>match us,hl with|[_,_,_],_=>rfl) ?go10
  (case a10=>k_is);(case l10=>k_is);(case c10=>k_is);(case k10=>k_is)
  intro T_shares_below
  refine' L2.topD_go (x:="name_shares") (st:=My.s_name_shares) (ps:=My.p_name_shares) KX G ?a11 ?l11 ?c11 ?k11 (λ_ _ _ _ _ _ us hl=>match us,hl with|[_],_=>rfl) ?go11
  (case a11=>k_is);(case l11=>k_is);(case c11=>k_is);(case k11=>k_is)
  intro T_name_shares
  refine' L2.topD_go (x:="shares") (st:=My.s_shares) (ps:=My.p_shares) KX G ?a12 ?l12 ?c12 ?k12 (λ_ _ _ _ _ _ us hl=>match us,hl with|[_],_=>rfl) ?go12
  (case a12=>k_is);(case l12=>k_is);(case c12=>k_is);(case k12=>k_is)
  intro T_shares
  refine' L2.topD_go (x:="bar") (st:=My.s_bar) (ps:=My.p_bar) KX G ?a13 ?l13 ?c13 ?k13 (λ_ _ _ _ _ _ us hl=>match us,hl with|[_],_=>rfl) ?go13
  (case a13=>k_is);(case l13=>k_is);(case c13=>k_is);(case k13=>k_is)
  intro T_bar
  refine' L2.topD_go (x:="check_hall") (st:=My.s_check_hall) (ps:=My.p_check_hall) KX G ?a14 ?l14 ?c14 ?k14 (λ_ _ _ _ _ _ us hl=>match us,hl with|[_],_=>rfl) ?go14
  (case a14=>k_is);(case l14=>k_is);(case c14=>k_is);(case k14=>k_is)
  intro T_check_hall
  refine' L2.topD_go (x:="hall_shares") (st:=My.s_hall_shares) (ps:=My.p_hall_shares) KX G ?a15 ?l15 ?c15 ?k15 (λ_ _ _ _ _ _ us hl=>match us,hl with|[_],_=>rfl) ?go15
  (case a15=>k_is);(case l15=>k_is);(case c15=>k_is);(case k15=>k_is)
  intro T_hall_shares
  refine' L2.topD_go (x:="steps_from") (st:=My.s_steps_from) (ps:=My.p_steps_from) KX G ?a16 ?l16 ?c16 ?k16 (λ_ _ _ _ _ _ us hl=>match us,hl with|[_,_],_=>rfl) ?go16
  (case a16=>k_is);(case l16=>k_is);(case c16=>k_is);(case k16=>k_is)
  intro T_steps_from
  refine' L2.topD_go (x:="paths_from") (st:=My.s_paths_from) (ps:=My.p_paths_from) KX G ?a17 ?l17 ?c17 ?k17 (λ_ _ _ _ _ _ us hl=>match us,hl with|[_,_],_=>rfl) ?go17
  (case a17=>k_is);(case l17=>k_is);(case c17=>k_is);(case k17=>k_is)
  intro T_paths_from
  refine' L2.topD_go (x:="groups") (st:=My.s_groups) (ps:=My.p_groups) KX G ?a18 ?l18 ?c18 ?k18 (λ_ _ _ _ _ _ us hl=>match us,hl with|[_],_=>rfl) ?go18
  (case a18=>k_is);(case l18=>k_is);(case c18=>k_is);(case k18=>k_is)
  intro T_groups
  refine' L2.topD_go (x:="backward") (st:=My.s_backward) (ps:=My.p_backward) KX G ?a19 ?l19 ?c19 ?k19 (λ_ _ _ _ _ _ us hl=>match us,hl with|[_],_=>rfl) ?go19
  (case a19=>k_is);(case l19=>k_is);(case c19=>k_is);(case k19=>k_is)
  intro T_backward
  refine' L2.topD_go (x:="comes_to") (st:=My.s_comes_to) (ps:=My.p_comes_to) KX G ?a20 ?l20 ?c20 ?k20 (λ_ _ _ _ _ _ us hl=>match us,hl with|[_,_],_=>rfl) ?go20
  (case a20=>k_is);(case l20=>k_is);(case c20=>k_is);(case k20=>k_is)
  intro T_comes_to
  refine' L2.topD_go (x:="closing_steps") (st:=My.s_closing_steps) (ps:=My.p_closing_steps) KX G ?a21 ?l21 ?c21 ?k21 (λ_ _ _ _ _ _ us hl=>match us,hl with|[_],_=>rfl) ?go21
  (case a21=>k_is);(case l21=>k_is);(case c21=>k_is);(case k21=>k_is)
  intro T_closing_steps
  refine' L2.topD_go (x:="find_ring") (st:=My.s_find_ring) (ps:=My.p_find_ring) KX G ?a22 ?l22 ?c22 ?k22 (λ_ _ _ _ _ _ us hl=>match us,hl with|[_],_=>rfl) ?go22
  (case a22=>k_is);(case l22=>k_is);(case c22=>k_is);(case k22=>k_is)
  intro T_find_ring
  refine' L2.topD_go (x:="check_no_ring") (st:=My.s_check_no_ring) (ps:=My.p_check_no_ring) KX G ?a23 ?l23 ?c23 ?k23 (λ_ _ _ _ _ _ us hl=>match us,hl with|[_],_=>rfl) ?go23
  (case a23=>k_is);(case l23=>k_is);(case c23=>k_is);(case k23=>k_is)
  intro T_check_no_ring
  refine' L2.topD_go (x:="ring") (st:=My.s_ring) (ps:=My.p_ring) KX G ?a24 ?l24 ?c24 ?k24 (λ_ _ _ _ _ _ us hl=>match us,hl with|[_],_=>rfl) ?go24
  (case a24=>k_is);(case l24=>k_is);(case c24=>k_is);(case k24=>k_is)
  intro T_ring
  refine' L2.topD_go (x:="is_spare") (st:=My.s_is_spare) (ps:=My.p_is_spare) KX G ?a25 ?l25 ?c25 ?k25 (λ_ _ _ _ _ _ us hl=>match us,hl with|[_,_],_=>rfl) ?go25
  (case a25=>k_is);(case l25=>k_is);(case c25=>k_is);(case k25=>k_is)
  intro T_is_spare
  refine' L2.topD_go (x:="bound") (st:=My.s_bound) (ps:=My.p_bound) KX G ?a26 ?l26 ?c26 ?k26 (λ_ _ _ _ _ _ us hl=>match us,hl with|[_],_=>rfl) ?go26
  (case a26=>k_is);(case l26=>k_is);(case c26=>k_is);(case k26=>k_is)
  intro T_bound
  refine' L2.topD_go (x:="spare") (st:=My.s_spare) (ps:=My.p_spare) KX G ?a27 ?l27 ?c27 ?k27 (λ_ _ _ _ _ _ us hl=>match us,hl with|[_],_=>rfl) ?go27
  (case a27=>k_is);(case l27=>k_is);(case c27=>k_is);(case k27=>k_is)
  intro T_spare
  refine' L2.topD_go (x:="_law_cell_at") (st:=My.s__law_cell_at) (ps:=My.p__law_cell_at) KX G ?a28 ?l28 ?c28 ?k28 (λ_ _ _ _ _ _ us hl=>match us,hl with|[_,_],_=>rfl) ?go28
  (case a28=>k_is);(case l28=>k_is);(case c28=>k_is);(case k28=>k_is)
  intro T__law_cell_at
  refine' L2.topD_go (x:="_law_mixed") (st:=My.s__law_mixed) (ps:=My.p__law_mixed) KX G ?a29 ?l29 ?c29 ?k29 (λ_ _ _ _ _ _ us hl=>match us,hl with|[_,_,_],_=>rfl) ?go29
  (case a29=>k_is);(case l29=>k_is);(case c29=>k_is);(case k29=>k_is)
  intro T__law_mixed
  refine' L2.topD_go (x:="_law_draw") (st:=My.s__law_draw) (ps:=My.p__law_draw) KX G ?a30 ?l30 ?c30 ?k30 (λ_ _ _ _ _ _ us hl=>match us,hl with|[_,_,_],_=>rfl) ?go30
  (case a30=>k_is);(case l30=>k_is);(case c30=>k_is);(case k30=>k_is)
  intro T__law_draw
  refine' L2.topD_go (x:="_law_pick") (st:=My.s__law_pick) (ps:=My.p__law_pick) KX G ?a31 ?l31 ?c31 ?k31 (λ_ _ _ _ _ _ us hl=>match us,hl with|[_,_,_],_=>rfl) ?go31
  (case a31=>k_is);(case l31=>k_is);(case c31=>k_is);(case k31=>k_is)
  intro T__law_pick
  refine' L2.topD_go (x:="_law_leaves") (st:=My.s__law_leaves) (ps:=My.p__law_leaves) KX G ?a32 ?l32 ?c32 ?k32 (λ_ _ _ _ _ _ us hl=>match us,hl with|[_],_=>rfl) ?go32
  (case a32=>k_is);(case l32=>k_is);(case c32=>k_is);(case k32=>k_is)
  intro T__law_leaves
  refine' L2.topD_go (x:="_law_names") (st:=My.s__law_names) (ps:=My.p__law_names) KX G ?a33 ?l33 ?c33 ?k33 (λ_ _ _ _ _ _ us hl=>match us,hl with|[_],_=>rfl) ?go33
  (case a33=>k_is);(case l33=>k_is);(case c33=>k_is);(case k33=>k_is)
  intro T__law_names
  refine' L2.topD_go (x:="_law_weights") (st:=My.s__law_weights) (ps:=My.p__law_weights) KX G ?a34 ?l34 ?c34 ?k34 (λ_ _ _ _ _ _ us hl=>match us,hl with|[_,_,_],_=>rfl) ?go34
  (case a34=>k_is);(case l34=>k_is);(case c34=>k_is);(case k34=>k_is)
  intro T__law_weights
  refine' L2.topD_go (x:="_law_hall") (st:=My.s__law_hall) (ps:=My.p__law_hall) KX G ?a35 ?l35 ?c35 ?k35 (λ_ _ _ _ _ _ us hl=>match us,hl with|[_,_],_=>rfl) ?go35
  (case a35=>k_is);(case l35=>k_is);(case c35=>k_is);(case k35=>k_is)
  intro T__law_hall
  refine' L2.topD_go (x:="_law_ties") (st:=My.s__law_ties) (ps:=My.p__law_ties) KX G ?a36 ?l36 ?c36 ?k36 (λ_ _ _ _ _ _ us hl=>match us,hl with|[_],_=>rfl) ?go36
  (case a36=>k_is);(case l36=>k_is);(case c36=>k_is);(case k36=>k_is)
  intro T__law_ties
  refine' L2.topD_go (x:="_law_known") (st:=My.s__law_known) (ps:=My.p__law_known) KX G ?a37 ?l37 ?c37 ?k37 (λ_ _ _ _ _ _ us hl=>match us,hl with|[_,_],_=>rfl) ?go37
  (case a37=>k_is);(case l37=>k_is);(case c37=>k_is);(case k37=>k_is)
  intro T__law_known
  refine' L2.topD_go (x:="_law_free") (st:=My.s__law_free) (ps:=My.p__law_free) KX G ?a38 ?l38 ?c38 ?k38 (λ_ _ _ _ _ _ us hl=>match us,hl with|[_],_=>rfl) ?go38
  (case a38=>k_is);(case l38=>k_is);(case c38=>k_is);(case k38=>k_is)
  intro T__law_free
  have b_len:mg "len" =none:=PySem.W.mg_none_of KX G (by k_is)
  have b_isinstance:mg "isinstance" =none:=PySem.W.mg_none_of KX G (by k_is)
  have b_bool:mg "bool" =none:=PySem.W.mg_none_of KX G (by k_is)
  have b_int:mg "int" =none:=PySem.W.mg_none_of KX G (by k_is)
  have b_str:mg "str" =none:=PySem.W.mg_none_of KX G (by k_is)
  have b_tuple:mg "tuple" =none:=PySem.W.mg_none_of KX G (by k_is)
  have b_all:mg "all" =none:=PySem.W.mg_none_of KX G (by k_is)
  have b_dict:mg "dict" =none:=PySem.W.mg_none_of KX G (by k_is)
  have b_sorted:mg "sorted" =none:=PySem.W.mg_none_of KX G (by k_is)
  have b_set:mg "set" =none:=PySem.W.mg_none_of KX G (by k_is)
  have b_sum:mg "sum" =none:=PySem.W.mg_none_of KX G (by k_is)
  have b_min:mg "min" =none:=PySem.W.mg_none_of KX G (by k_is)
  have b_max:mg "max" =none:=PySem.W.mg_none_of KX G (by k_is)
  have b_enumerate:mg "enumerate" =none:=PySem.W.mg_none_of KX G (by k_is)
  have b_reversed:mg "reversed" =none:=PySem.W.mg_none_of KX G (by k_is)
  have b_range:mg "range" =none:=PySem.W.mg_none_of KX G (by k_is)
  refine' L2.exc_go (x:="NoMobile") KX G ?e0 ?ge0
  (case e0=>k_is)
  intro m_NoMobile
  refine' L2.exc_go (x:="NoHall") KX G ?e1 ?ge1
  (case e1=>k_is)
  intro m_NoHall
  refine' L2.exc_go (x:="Never") KX G ?e2 ?ge2
  (case e2=>k_is)
  intro m_Never
  refine' My.law_mk KX G hmg ?aL ?lL ?cL ?kL ?goL
  (case aL=>k_is);(case lL=>k_is);(case cL=>k_is);(case kL=>k_is)
  case goL=>
   intro base f fd T
   refine' My.all T_is_number T_is_name T_is_mobile_within T_is_mobile T_check_mobile T_greatest_divisor T_reduced T_product T_quotient T_shares_below T_name_shares T_shares T_bar T_check_hall T_hall_shares T_steps_from T_paths_from T_groups T_backward T_comes_to T_closing_steps T_find_ring T_check_no_ring T_ring T_is_spare T_bound T_spare T__law_cell_at T__law_mixed T__law_draw T__law_pick T__law_leaves T__law_names T__law_weights T__law_hall T__law_ties T__law_known T__law_free b_len b_isinstance b_bool b_int b_str b_tuple b_all b_dict b_sorted b_set b_sum b_min b_max b_enumerate b_reversed b_range m_NoMobile m_NoHall m_Never ?x_NoMobile ?x_NoHall ?x_Never (PySem.W.mg_of KX G ?m_LONGEST_NAME) (PySem.W.mg_of KX G ?m_LONGEST_ARM) (PySem.W.mg_of KX G ?m_MOST_RODS) (PySem.W.mg_of KX G ?m_MOST_MOBILES) T
   (case x_NoMobile=>k_exc);(case x_NoHall=>k_exc);(case x_Never=>k_exc);(case m_LONGEST_NAME=>k_is);(case m_LONGEST_ARM=>k_is);(case m_MOST_RODS=>k_is);(case m_MOST_MOBILES=>k_is)
