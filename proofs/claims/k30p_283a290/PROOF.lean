import PyProof.Rows.All
import Wide.All
import OpenK.AllK
import Wide.FinOn
import Lean
import PyProof.EqAt
import PyProof.EqKinds
import PyProof.NeKinds
import PyProof.TupleCall
import PyProof.ZipIter
import PyProof.ListNew
import PyProof.P3Eq
import PyProof.NeData
import PyProof.EnumFor
import PyProof.EnumMake
import PyProof.ExcBaseAll.ValueError
import PyProof.Rows.SetFrom
import PyProof.CollectWalk
import PyProof.SumWalk
import PyProof.FString
import KE.KDictOf
import PyProof.AttrMissHeap
import PyProof.TupleOfGen
import KE.KDictSum
import PyProof.ConsumeS
import PyProof.P3In
import PyProof.Rows.RuleN_abs
import PyProof.Rows.FactsN_abs
import PyProof.StrBlockI
import PyProof.SliceStr2
import PyProof.Rows.StrClose
import PyProof.FactsAll.tuple_2
import PyProof.MinMaxWalk
import PyProof.WalksMore
import PyProof.Rows.RowHeap
import PyProof.DictWalks
import KE.KSortTup
import PyProof.Rows.ListMul
import PyProof.ListRange
import PyProof.TupleOfStr
import KE.KRevSl
import KE.KDictList
import KE.KIntText
import PyProof.ReprStr
import KE.KRevIter
import PyProof.DictUpdate
import PyProof.StrOps
import PySem.Challenge.RW_hangstill_k30_whole_weights_texts
import PyProof.StrLawsTight
import PyProof.StrLawsReplace
import KE.RegKIsAll
import KE.RegKTryMore
set_option Elab.async false
set_option linter.all false
set_option maxRecDepth 100000
set_option maxHeartbeats 4000000
namespace L2
open PySem PySem.Spec PyProof.Rows
abbrev Key := Sum Int Str
def keyIs : Key → Value → Bool
  | .inl k, v => Value.isInt k v
  | .inr x, v => Value.isStrOf x v
def keyH (w : World) : Key → Int
  | .inl k => hashInt k
  | .inr x => hashStr w x
theorem keyIs_shape : ∀ {k : Key} {v : Value}, keyIs k v = true → (∃ i t, k = Sum.inl i ∧ v = Value.int i t) ∨ (∃ x t, k = Sum.inr x ∧ v = Value.str x t)
  | .inl i, v, h => by
    obtain ⟨t, e⟩ := Value.isInt_shape (k := i) (v := v) h
    exact .inl ⟨i, t, rfl, e⟩
  | .inr x, v, h => by
    obtain ⟨t, e⟩ := Value.isStrOf_shape (x := x) (v := v) h
    exact .inr ⟨x, t, rfl, e⟩
theorem keyIs_int (i : Int) (t : Tok) : keyIs (.inl i) (.int i t) = true := by simp [keyIs, Value.isInt]
theorem keyIs_str (x : Str) (t : Tok) : keyIs (.inr x) (.str x t) = true := by simp [keyIs, Value.isStrOf]
theorem key_ll (a b : Int) : decide ((Sum.inl a : Key) = Sum.inl b) = (a == b) := by
  by_cases e : a = b
  · subst e; simp
  · have h : ¬ (Sum.inl a : Key) = Sum.inl b := fun q => e (Sum.inl.inj q)
    rw [decide_eq_false h]
    exact (beq_eq_false_iff_ne.mpr e).symm
theorem key_rr (a b : Str) : decide ((Sum.inr a : Key) = Sum.inr b) = decide (a = b) := by
  by_cases e : a = b
  · subst e; simp
  · have h : ¬ (Sum.inr a : Key) = Sum.inr b := fun q => e (Sum.inr.inj q)
    rw [decide_eq_false h, decide_eq_false e]
theorem key_lr (a : Int) (b : Str) : decide ((Sum.inl a : Key) = Sum.inr b) = false := decide_eq_false (fun q => nomatch q)
theorem key_rl (a : Str) (b : Int) : decide ((Sum.inr a : Key) = Sum.inl b) = false := decide_eq_false (fun q => nomatch q)
def mixKind (prog : Program) (w : World) : PySem.KeyKind prog w Key where
  is := keyIs
  hash := keyH w
  inj := fun v a b ha hb => by
    rcases keyIs_shape ha with ⟨i, t, rfl, rfl⟩ | ⟨x, t, rfl, rfl⟩
    · rcases keyIs_shape hb with ⟨j, u, rfl, e⟩ | ⟨y, u, rfl, e⟩
      · injection e with e1 _; rw [e1]
      · exact nomatch e
    · rcases keyIs_shape hb with ⟨j, u, rfl, e⟩ | ⟨y, u, rfl, e⟩
      · exact nomatch e
      · injection e with e1 _; rw [e1]
  byValue := fun k v h => by
    rcases keyIs_shape h with ⟨i, t, rfl, rfl⟩ | ⟨x, t, rfl, rfl⟩ <;> rfl
  pyHash := fun hv h => by
    rcases keyIs_shape hv with ⟨i, t, rfl, rfl⟩ | ⟨x, t, rfl, rfl⟩
    · exact wpAny_pyHash_int h
    · exact wpAny_pyHash_str h
  eqBool := fun hu hv h => by
    rcases keyIs_shape hu with ⟨i, t, rfl, rfl⟩ | ⟨x, t, rfl, rfl⟩
    · rcases keyIs_shape hv with ⟨j, u, rfl, rfl⟩ | ⟨y, u, rfl, rfl⟩
      · rw [key_ll] at h; exact wpAny_eqBool_int h
      · rw [key_lr] at h; exact SeqAt.EqAt.int_str i t y u _ _ _ _ h
    · rcases keyIs_shape hv with ⟨j, u, rfl, rfl⟩ | ⟨y, u, rfl, rfl⟩
      · rw [key_rl] at h; exact SeqAt.EqAt.str_int x t j u _ _ _ _ h
      · rw [key_rr] at h; exact wpAny_eqBool_str h
  «strs» := fun k x t v h => by
    rcases keyIs_shape h with ⟨i, u, rfl, e⟩ | ⟨y, u, rfl, e⟩
    · exact nomatch e
    · injection e with e1 _
      subst e1
      cases v <;> rfl
theorem mixKind_int (prog : Program) (w : World) (i : Int) (t : Tok) : (mixKind prog w).is (.inl i) (.int i t) = true := keyIs_int i t
theorem mixKind_str (prog : Program) (w : World) (x : Str) (t : Tok) : (mixKind prog w).is (.inr x) (.str x t) = true := keyIs_str x t
end L2
namespace L2
open PySem PySem.Spec PyProof.Rows
inductive V where
  | non | bl (b : Bool) | int (i : Int) | str (x : Str) | byt (b : Array UInt8) | flt (b : UInt64) | ref (a : Addr) | ty (n : String)
  deriving DecidableEq
def RelV : V → Value → Prop
  | .non, u => u = Value.none
  | .bl b, u => u = Value.bool b
  | .int i, u => ∃ t, u = Value.int i t
  | .str x, u => ∃ t, u = Value.str x t
  | .byt b, u => ∃ t, u = Value.bytes b t
  | .flt b, u => ∃ t, u = Value.float b t
  | .ref a, u => u = Value.ref a
  | .ty n, u => u = Value.type n
abbrev Vals : List V → List Value → Prop := Paired RelV
theorem Vals.length {xs : List V} {us : List Value} (r : Vals xs us) : xs.length = us.length := Paired.length r
theorem Vals.get : ∀ {xs : List V} {us : List Value} {i : Nat} {x : V}, Vals xs us → xs[i]? = some x → ∃ u, us[i]? = some u ∧ RelV x u
  | _, _, _, _, .nil, e => by simp at e
  | _, _, 0, _, .cons r _, e => by simp at e; subst e; exact ⟨_, rfl, r⟩
  | _, _, i + 1, x, .cons _ t, e => by
    obtain ⟨u, h1, h2⟩ := Vals.get (i := i) (x := x) t (by simpa using e)
    exact ⟨u, by simpa using h1, h2⟩
theorem Vals.append : ∀ {xs ys : List V} {us ws : List Value}, Vals xs us → Vals ys ws → Vals (xs ++ ys) (us ++ ws)
  | _, _, _, _, .nil, s => s
  | _, _, _, _, .cons r t, s => .cons r (Vals.append t s)
def RelO : Option V → Option Value → Prop
  | some v, some u => RelV v u
  | none, none => True
  | _, _ => False
def KV {κ : Type} : List (κ × V) → List (κ × Value) → Prop := Paired fun (p : κ × V) (q : κ × Value) => p.1 = q.1 ∧ RelV p.2 q.2
def kV : Key → V
  | .inl i => .int i
  | .inr x => .str x
def TupO (h : Heap) (a : Addr) (items : Array Value) : Prop := ∃ n, h.get? a = some { cls := .type "tuple", data := .seq items n }
theorem TupO.is {h : Heap} {a : Addr} {items : Array Value} (x : TupO h a items) : IsTup h a items := let ⟨n, e⟩ := x; ⟨_, e, rfl, n, rfl⟩
theorem TupO.new (h : Heap) (items : Array Value) : TupO (h.push { cls := .type "tuple", data := .seq items }) h.objs.size items := ⟨0, Heap.get?_push_size _ rfl⟩
inductive HO where
  /-- a list -/
  | lst (xs : List V)
  /-- a tuple (never changes) -/
  | tup (xs : List V)
  /-- a dict whose keys are ints and texts; one whose keys are tuples of ints and texts (the empty one is both) -/
  | dK (kvs : List (Key × V)) | dT (kvs : List (List Key × V))
  /-- a set of ints: its members, its size -/
  | set (S : Int → Bool) (n : Nat)
  /-- an instance of the class at C, its dict at dx, its attributes -/
  | ins (C dx : Addr) (fs : List (Str × V))
  /-- the dict of the instance at x -/
  | own (x : Addr)
  /-- the dict of an exception -/
  | xd (fs : List (Str × V))
  /-- a bound method, f of x -/
  | met (f x : Addr)
  /-- a range object lo, lo + 1, .. below hi -/
  | rng (lo hi : Int)
  /-- a thing that is known to the object (the script; a dict while a loop walks it): read, never written while it is so -/
  | frz (o : Obj) (u : HO)
  /-- a code object's table -/
  | tbl (ps : Array Value)
  /-- any other thing, by what is true of its one object (a def of one's own: SetO a S n := HO.ext fun h => ..) -/
  | ext (φ : Heap → Prop)
abbrev Hp := Addr → Option HO
def upd (H : Hp) (a : Addr) (o : HO) : Hp := fun b => if b = a then some o else H b
theorem upd_same {H : Hp} {a : Addr} {o : HO} : upd H a o a = some o := by unfold upd; rw [if_pos rfl]
theorem upd_ne {H : Hp} {a b : Addr} {o : HO} (h : b ≠ a) : upd H a o b = H b := by unfold upd; rw [if_neg h]
theorem ne_of_none {H : Hp} {a b : Addr} {o : HO} (h : H a = some o) (h' : H b = none) : a ≠ b := by
  intro e; subst e; rw [h] at h'; cases h'
section
variable (P : Program) (w : World)
def ObjOk (H : Hp) (h : Heap) (a : Addr) : HO → Prop
  | .lst xs => xs.length ≤ sizeLine ∧ ∃ (its : List Value) (n : Nat), Vals xs its ∧ h.get? a = some { cls := .type "list", data := .seq its.toArray n }
  | .tup xs => xs.length ≤ sizeLine ∧ ∃ its : List Value, Vals xs its ∧ TupO h a its.toArray
  | .dK kvs => kvs.length ≤ sizeLine ∧ (a == sysModules) = false ∧ ∃ vs, KV kvs vs ∧ h.DictOf (mixKind P w) a vs
  | .dT kvs => kvs.length ≤ sizeLine ∧ (a == sysModules) = false ∧ ∃ xs : List (List Key × Addr × Value),
      Paired (fun (p : List Key × V) (q : List Key × Addr × Value) => p.1 = q.1 ∧ H q.2.1 = some (.tup (p.1.map kV)) ∧ RelV p.2 q.2.2) kvs xs ∧
      ∃ o es ep, h.get? a = some o ∧ o.ExactDict ∧ o.data = .dict es ep ∧ es.toList = xs.map (entryOfKey (tupleKind (mixKind P w))) ∧ (xs.map (·.1)).Nodup
  | .set S n => h.SetOf (intKind P w) a S n
  | .ins C dx fs => H dx = some (.own a) ∧ fs.length ≤ 1000 ∧ dx ≠ a ∧ h.get? a = some (PySem.W.instObj C dx) ∧
      ∃ mA, h.Ns1 dx mA ∧ (∀ f, RelO (fs.lookup f) (mA f)) ∧ PySem.Within mA (fs.map (·.1))
  | .own _ => ∃ o, h.get? a = some o
  | .xd fs => ∃ mA, h.Ns1 a mA ∧ ∀ f, RelO (fs.lookup f) (mA f)
  | .rng lo hi => ∃ t u v, h.get? a = some { cls := .type "range", data := .fields #[.int lo t, .int hi u, .int 1 v] }
  | .frz o u => h.get? a = some o ∧ ObjOk H h a u
  | .tbl ps => h.get? a = some { cls := .none, data := .fields ps }
  | .met f x => h.get? a = some (PySem.W.methodObj (.ref f) (.ref x))
  | .ext φ => φ h ∧ (∃ o, h.get? a = some o) ∧ ∀ h1 h2 : Heap, φ h1 → (∀ o, h1.get? a = some o → h2.get? a = some o) → φ h2
def HOk (H : Hp) (h : Heap) : Prop := ∀ a o, H a = some o → ObjOk P w H h a o
end
section
variable {P : Program} {w : World} {H H' : Hp} {h h' : Heap} {a : Addr} {o : HO}
theorem ObjOk.lt (x : ObjOk P w H h a o) : a < h.objs.size := by
  cases o with
  | lst xs => obtain ⟨_, _, _, _, e⟩ := x; exact Heap.lt_size e
  | tup xs => obtain ⟨_, _, _, p⟩ := x; exact p.is.lt
  | dK kvs => obtain ⟨_, _, _, _, o, _, _, e, _⟩ := x; exact Heap.lt_size e
  | dT kvs => obtain ⟨_, _, _, _, o, _, _, e, _⟩ := x; exact Heap.lt_size e
  | set S n => obtain ⟨o, _, _, _, e, _⟩ := x; exact Heap.lt_size e
  | ins C dx fs => obtain ⟨_, _, _, e, _⟩ := x; exact Heap.lt_size e
  | own y => obtain ⟨_, e⟩ := x; exact Heap.lt_size e
  | xd fs => obtain ⟨_, ⟨_, _, _, e, _⟩, _⟩ := x; exact Heap.lt_size e
  | rng lo hi => obtain ⟨_, _, _, e⟩ := x; exact Heap.lt_size e
  | frz ob u => obtain ⟨e, _⟩ := x; exact Heap.lt_size e
  | tbl ps => exact Heap.lt_size (show h.get? a = some _ from x)
  | met f y => exact Heap.lt_size (show h.get? a = some _ from x)
  | ext φ => obtain ⟨_, ⟨_, e⟩, _⟩ := x; exact Heap.lt_size e
theorem Paired.mapP {α β : Type} {F G : α → β → Prop} : ∀ {l₁ : List α} {l₂ : List β}, Paired F l₁ l₂ → (∀ a b, F a b → G a b) → Paired G l₁ l₂
  | _, _, .nil, _ => .nil
  | _, _, .cons r t, f => .cons (f _ _ r) (Paired.mapP t f)
theorem ObjOk.stay (x : ObjOk P w H h a o) (k : ∀ b u, (b = a ∨ H b = some (.own a)) → h.get? b = some u → h'.get? b = some u)
    (ho : ∀ b, H b = some (.own a) → H' b = some (.own a)) (ht : ∀ b xs, H b = some (.tup xs) → H' b = some (.tup xs)) : ObjOk P w H' h' a o := by
  induction o with
  | lst xs => obtain ⟨z, its, n, r, e⟩ := x; exact ⟨z, its, n, r, k _ _ (.inl rfl) e⟩
  | tup xs => obtain ⟨z, its, r, n, e⟩ := x; exact ⟨z, its, r, n, k _ _ (.inl rfl) e⟩
  | dK kvs => obtain ⟨z, y, vs, r, ob, es, ep, e, c⟩ := x; exact ⟨z, y, vs, r, ob, es, ep, k _ _ (.inl rfl) e, c⟩
  | dT kvs =>
    obtain ⟨z, y, xs, r, ob, es, ep, e, c⟩ := x
    exact ⟨z, y, xs, Paired.mapP r fun p q z => ⟨z.1, ht _ _ z.2.1, z.2.2⟩, ob, es, ep, k _ _ (.inl rfl) e, c⟩
  | set S n => obtain ⟨ob, es, ep, t, e, c⟩ := x; exact ⟨ob, es, ep, t, k _ _ (.inl rfl) e, c⟩
  | ins C dx fs =>
    obtain ⟨d, z, ne, e, mA, ⟨od, es, ep, e2, c⟩, r⟩ := x
    exact ⟨ho _ d, z, ne, k _ _ (.inl rfl) e, mA, ⟨od, es, ep, k _ _ (.inr d) e2, c⟩, r⟩
  | own y => obtain ⟨ob, e⟩ := x; exact ⟨ob, k _ _ (.inl rfl) e⟩
  | xd fs => obtain ⟨mA, ⟨od, es, ep, e, c⟩, r⟩ := x; exact ⟨mA, ⟨od, es, ep, k _ _ (.inl rfl) e, c⟩, r⟩
  | rng lo hi => obtain ⟨t, u, v, e⟩ := x; exact ⟨t, u, v, k _ _ (.inl rfl) e⟩
  | frz ob u ih => obtain ⟨e, q⟩ := x; exact ⟨k _ _ (.inl rfl) e, ih q⟩
  | tbl ps =>
    have e : h.get? a = some { cls := .none, data := .fields ps } := x
    show h'.get? a = some { cls := .none, data := .fields ps }
    exact k a _ (.inl rfl) e
  | met f y =>
    have e : h.get? a = some (PySem.W.methodObj (.ref f) (.ref y)) := x
    show h'.get? a = some (PySem.W.methodObj (.ref f) (.ref y))
    exact k a _ (.inl rfl) e
  | ext φ => obtain ⟨p, ⟨o, e⟩, st⟩ := x; exact ⟨st _ _ p fun o q => k _ _ (.inl rfl) q, ⟨o, k _ _ (.inl rfl) e⟩, st⟩
theorem HOk.lt (x : HOk P w H h) (e : H a = some o) : a < h.objs.size := (x a o e).lt
theorem HOk.fresh (x : HOk P w H h) (e : h.objs.size ≤ a) : H a = none := by
  cases q : H a with
  | none => rfl
  | some u => exact absurd (Nat.lt_of_lt_of_le (x.lt q) e) (Nat.lt_irrefl _)
theorem HOk.kept (x : HOk P w H h) (k : ∀ b u, h.get? b = some u → h'.get? b = some u) : HOk P w H h' := fun a o e =>
  (x a o e).stay (fun b u _ q => k b u q) (fun _ q => q) fun _ _ q => q
theorem HOk.laid (x : HOk P w H h) (k : ∀ b u, h.get? b = some u → h'.get? b = some u) (hp : h.objs.size ≤ a) (new : ObjOk P w (upd H a o) h' a o) : HOk P w (upd H a o) h' := fun b u e => by
  have hn := x.fresh hp
  by_cases hb : b = a
  · subst hb; rw [upd_same] at e; cases e; exact new
  · rw [upd_ne hb] at e
    exact (x b u e).stay (fun c v _ q => k c v q) (fun c q => by rw [upd_ne (ne_of_none q hn)]; exact q) fun c xs q => by rw [upd_ne (ne_of_none q hn)]; exact q
end
def Rd (H : Hp) (a : Addr) (u : HO) : Prop := H a = some u ∨ ∃ o, H a = some (.frz o u)
theorem Rd.ok {P : Program} {w : World} {H : Hp} {h : Heap} {a : Addr} {u : HO} (r : Rd H a u) (x : HOk P w H h) : ObjOk P w H h a u := by
  rcases r with r | ⟨o, r⟩
  · exact x a u r
  · obtain ⟨_, q⟩ := x a _ r
    exact q
def Mut : Option HO → Prop
  | some (.lst _) => True
  | some (.dK _) => True
  | some (.dT _) => True
  | some (.set _ _) => True
  | some (.ins _ _ _) => True
  | some (.ext _) => True
  | _ => False
section
variable {P : Program} {w : World} {H : Hp} {h h' : Heap} {x e : Addr} {o' : HO}
theorem HOk.write (ok : HOk P w H h) (mu : Mut (H x)) (he : e = x ∨ H e = some (.own x)) (k : ∀ b u, b ≠ e → h.get? b = some u → h'.get? b = some u) (heo : ∃ u, h'.get? e = some u)
    (new : ObjOk P w (upd H x o') h' x o') : HOk P w (upd H x o') h' := fun b u q => by
  have nown : ∀ c y, H c = some (.own y) → c ≠ x := fun c y r z => by subst z; rw [r] at mu; exact mu
  have ntup : ∀ c xs, H c = some (.tup xs) → c ≠ x := fun c xs r z => by subst z; rw [r] at mu; exact mu
  by_cases hb : b = x
  · subst hb; rw [upd_same] at q; cases q; exact new
  · rw [upd_ne hb] at q
    by_cases hbe : b = e
    · have q' : H b = some (.own x) := by
        rcases he with z | z
        · exact absurd (hbe.trans z) hb
        · rw [hbe]; exact z
      rw [q] at q'; cases q'
      obtain ⟨v, hv⟩ := heo
      exact ⟨v, by rw [hbe]; exact hv⟩
    · refine (ok b u q).stay (fun c v hc r => k c v ?_ r) (fun c r => by rw [upd_ne (nown c b r)]; exact r) fun c xs r => by rw [upd_ne (ntup c xs r)]; exact r
      rcases hc with rfl | hc
      · exact hbe
      · rintro rfl
        rcases he with z | z
        · exact nown c b hc z
        · rw [hc] at z; cases z; exact hb rfl
end
structure Un (fs ex : List Addr) (H H' : Hp) (h h' : Heap) : Prop where
  keep : ∀ b o, h.get? b = some o → H b = none → b ∉ fs → b ∉ ex → h'.get? b = some o
  slot : ∀ b o, h.get? b = some o → H b = none → b ∈ fs → b ∉ ex → ∃ sl, h'.get? b = some { o with slots := sl }
  free : ∀ b o, h.get? b = some o → H b = none → b ∉ ex → H' b = none
  there : ∀ b o, h.get? b = some o → b ∉ ex → ∃ o', h'.get? b = some o'
  tups : ∀ b xs, H b = some (.tup xs) → H' b = some (.tup xs)
  frzs : ∀ b o u, H b = some (.frz o u) → H' b = some (.frz o u)
  tbls : ∀ b ps, H b = some (.tbl ps) → ∃ more, H' b = some (.tbl (ps ++ more))
section
variable {fs fs' ex ex' : List Addr} {H H1 H2 : Hp} {h h1 h2 h' : Heap} {a x e : Addr} {o : HO}
theorem Un.any (u : Un fs ex H H1 h h1) {b : Addr} {ob : Obj} (q : h.get? b = some ob) (n : H b = none) (hx : b ∉ ex) : ∃ sl, h1.get? b = some { ob with slots := sl } := by
  by_cases hb : b ∈ fs
  · exact u.slot b ob q n hb hx
  · exact ⟨ob.slots, u.keep b ob q n hb hx⟩
theorem Un.kept (k : ∀ b u, h.get? b = some u → h'.get? b = some u) : Un fs ex H H h h' :=
  ⟨fun b ob q _ _ _ => k b ob q, fun b ob q _ _ _ => ⟨ob.slots, k b ob q⟩, fun _ _ _ n _ => n, fun b ob q _ => ⟨ob, k b ob q⟩, fun _ _ q => q, fun _ _ _ q => q, fun _ ps q => ⟨#[], by rw [q]; simp⟩⟩
theorem Un.refl : Un fs ex H H h h := Un.kept fun _ _ q => q
theorem Un.laid (k : ∀ b u, h.get? b = some u → h'.get? b = some u) (hp : h.objs.size ≤ a) (hn : H a = none) : Un fs ex H (upd H a o) h h' where
  keep := fun b u q _ _ _ => k b u q
  slot := fun b u q _ _ _ => ⟨u.slots, k b u q⟩
  free := fun b u q n _ => by rw [upd_ne (Nat.ne_of_lt (Nat.lt_of_lt_of_le (Heap.lt_size q) hp))]; exact n
  there := fun b u q _ => ⟨u, k b u q⟩
  tups := fun b xs q => by rw [upd_ne (ne_of_none q hn)]; exact q
  frzs := fun b u xs q => by rw [upd_ne (ne_of_none q hn)]; exact q
  tbls := fun b ps q => ⟨#[], by rw [upd_ne (ne_of_none q hn), q]; simp⟩
theorem Un.write (mu : Mut (H x)) (he : e = x ∨ H e = some (.own x)) (k : ∀ b u, b ≠ e → h.get? b = some u → h'.get? b = some u) (heo : ∃ u, h'.get? e = some u) : Un fs ex H (upd H x o) h h' := by
  have hx : ∀ b, H b = none → b ≠ x := fun b n z => by subst z; rw [n] at mu; exact mu
  have hb : ∀ b, H b = none → b ≠ e := fun b n z => by
    subst z
    rcases he with r | r
    · exact hx b n r
    · rw [n] at r; cases r
  have hm : ∀ b u, H b = some u → ¬ Mut (some u) → b ≠ x := fun b u q nm z => by subst z; rw [q] at mu; exact nm mu
  refine ⟨fun b u q n _ _ => k b u (hb b n) q, fun b u q n _ _ => ⟨u.slots, k b u (hb b n) q⟩, fun b u q n _ => by rw [upd_ne (hx b n)]; exact n, fun b u q _ => ?_,
    fun b xs q => by rw [upd_ne (hm b _ q fun z => z)]; exact q, fun b u xs q => by rw [upd_ne (hm b _ q fun z => z)]; exact q, fun b ps q => ⟨#[], by rw [upd_ne (hm b _ q fun z => z), q]; simp⟩⟩
  by_cases hbe : b = e
  · subst hbe; exact heo
  · exact ⟨u, k b u hbe q⟩
end
def trk (h : Heap) (H : Hp) : List Addr := (List.range h.objs.size).filter fun a => (H a).isSome
def hidT (h : Heap) (H : Hp) : Heap := PySem.W.hideAll h (trk h H)
theorem hidT_size (h : Heap) (H : Hp) : (hidT h H).objs.size = h.objs.size := PySem.W.hideAll_size _ _
theorem hidT_get {h : Heap} {H : Hp} {b : Addr} {o : Obj} (e : h.get? b = some o) (n : H b = none) : (hidT h H).get? b = some o :=
  PySem.W.hideAll_get _ e fun hm => by
    have q : (H b).isSome = true := (List.mem_filter.mp hm).2
    rw [n] at q; simp at q
theorem of_hidT {h : Heap} {H : Hp} {b : Addr} {o : Obj} (e : (hidT h H).get? b = some o) : h.get? b = some o ∧ H b = none := by
  have e' : h.get? b = some o := PySem.W.of_hideAll (trk h H) e
  refine ⟨e', ?_⟩
  cases q : H b with
  | none => rfl
  | some x =>
    have hm : b ∈ trk h H := List.mem_filter.mpr ⟨List.mem_range.mpr (Heap.lt_size e'), by simp [q]⟩
    have z : (hidT h H).get? b = none := PySem.W.hideAll_none (trk h H) hm
    rw [z] at e; cases e
end L2
namespace L2
open PySem PySem.Spec PyProof.Rows
structure Mod (K : PySem.W.Frag) (mg : Str → Option Value) (base : Heap) : Prop where
  kin : K.In base
  glob : base.Ns mainGlobals mg
  blt : ∃ mb, base.Ns builtinsNs mb ∧ ∀ x : Str, x ≠ "__name__" → mb x = bootBuiltins x
  nolimit : base.NoLimit
structure Cx where
  prog : Program
  w : World
  K : PySem.W.Frag
  mg : Str → Option Value
  base : Heap
  A : Around
  N : List Str
  s₀ : Shared
  H₀ : Hp
  env : Env
  outer : List Env
  stack : List Env
  ex : List Addr
  fn : Str → Bool
  calm : Bool
  pn : List (Addr × Obj)
  xe : Value → Shared → Prop
def frs (l : List Env) : List Addr := l.filterMap (·.frame)
abbrev Cx.fs (X : Cx) : List Addr := frs X.outer
def Vis (sc : Scope) (x : Str) : Prop := sc.names.lookup x = some .local ∨ sc.names.lookup x = some .cell ∨ sc.names.lookup x = some .free
def Loc (sc : Scope) (x : Str) : Prop := sc.names.lookup x = some .local ∨ sc.names.lookup x = some .cell
def Look (env : Env) (h : Heap) (m : Str → Option Value) (x : Str) (u : Value) : Prop :=
  (env.kindOf x = some .local ∧ m x = some u) ∨ ((env.kindOf x = some .cell ∨ env.kindOf x = some .free) ∧ ∃ c, env.cells.lookup x = some c ∧ h.IsCell c (some u))
structure Cx.Ok (X : Cx) : Prop where
  mod : Mod X.K X.mg X.base
  kind : X.env.scope.kind = .function
  glob : X.env.globals = mainGlobals
  blt : X.env.builtins = builtinsNs
  above : X.s₀.heap.objs.size ≤ X.env.locals
  inj : ∀ x y c, X.env.cells.lookup x = some c → X.env.cells.lookup y = some c → x = y
  has : ∀ x, (X.env.kindOf x = some .cell ∨ X.env.kindOf x = some .free) → ∃ c, X.env.cells.lookup x = some c
  cab : ∀ x c, X.fn x = true → X.env.cells.lookup x = some c → X.s₀.heap.objs.size ≤ c
  hd : X.calm = true → X.A.handled = none
  frames : X.A.frames = some X.stack
  stk : X.stack = X.outer ∨ (X.stack = X.env :: X.outer ∧ X.env.frame = some X.env.locals)
  exf : ∀ b ∈ X.ex, b ≠ X.env.locals ∧ ∀ x c, X.env.cells.lookup x = some c → c ≠ b
  bs : ∀ b o, X.base.get? b = some o → X.s₀.heap.get? b = some o ∧ X.H₀ b = none
  bsz : X.base.objs.size ≤ X.s₀.heap.objs.size
  noex : ∀ b o, X.base.get? b = some o → b ∉ X.ex
  exfs : ∀ b ∈ X.ex, b ∉ X.fs
  funs : X.s₀.heap.FunFrames X.base X.outer
  frf : ∀ b ∈ X.fs, X.H₀ b = none
structure Inv (X : Cx) (pins : List (Addr × Obj)) (σ : List (Option V)) (H : Hp) (s : Shared) : Prop where
  ok : X.Ok
  os : s.os = X.s₀.os
  bare : AllBare s.gens
  base : Un X.fs X.ex X.H₀ H X.s₀.heap s.heap
  loc : ∃ m, s.heap.Ns X.env.locals m ∧ ∀ (i : Nat) (x : Str) (v : V), X.N[i]? = some x → σ[i]? = some (some v) → Vis X.env.scope x → ∃ u, RelV v u ∧ Look X.env s.heap m x u
  cell : ∀ x c, X.env.cells.lookup x = some c → ∃ v, s.heap.IsCell c v
  free : H X.env.locals = none
  freeC : ∀ x c, X.env.cells.lookup x = some c → H c = none
  pin : ∀ p ∈ X.pn ++ pins, s.heap.get? p.1 = some p.2 ∧ H p.1 = none ∧ p.1 ≠ X.env.locals ∧ p.1 ∉ X.fs ∧ ∀ v, p.2.data ≠ .cell v
  hok : HOk X.prog X.w H s.heap
  len : σ.length = X.N.length
section
variable {X : Cx} {pins : List (Addr × Obj)} {σ : List (Option V)} {H H' : Hp} {s : Shared} {h' : Heap}
theorem Cx.Ok.nofr (ok : X.Ok) {b : Addr} {o : Obj} (e : X.base.get? b = some o) : b ∉ X.fs := fun hb => by
  have := (ok.funs.mem hb).1
  rw [e] at this; cases this
theorem Inv.bs (I : Inv X pins σ H s) : ∀ b o, X.base.get? b = some o → s.heap.get? b = some o ∧ H b = none := fun b o e =>
  ⟨I.base.keep b o (I.ok.bs b o e).1 (I.ok.bs b o e).2 (I.ok.nofr e) (I.ok.noex b o e), I.base.free b o (I.ok.bs b o e).1 (I.ok.bs b o e).2 (I.ok.noex b o e)⟩
theorem Inv.bk (I : Inv X pins σ H s) : ∀ b o, X.base.get? b = some o → s.heap.get? b = some o := fun b o e => (I.bs b o e).1
theorem Inv.mod (I : Inv X pins σ H s) : Mod X.K X.mg X.base := I.ok.mod
theorem Inv.kIn (I : Inv X pins σ H s) : X.K.In s.heap := I.ok.mod.kin.keeps I.bk
theorem Inv.lt (I : Inv X pins σ H s) : X.env.locals < s.heap.objs.size := let ⟨_, hn, _⟩ := I.loc; hn.lt
theorem Inv.sz (I : Inv X pins σ H s) : X.s₀.heap.objs.size ≤ s.heap.objs.size := Nat.le_trans I.ok.above (Nat.le_of_lt I.lt)
theorem Inv.nofs (I : Inv X pins σ H s) {a : Addr} (h : s.heap.objs.size ≤ a) : a ∉ X.fs := fun hb => by
  obtain ⟨_, o, ho, _⟩ := I.ok.funs.mem hb
  exact absurd (Nat.lt_of_lt_of_le (Heap.lt_size ho) (Nat.le_trans I.sz h)) (Nat.lt_irrefl _)
theorem Inv.cne (I : Inv X pins σ H s) : ∀ x c, X.env.cells.lookup x = some c → c ≠ X.env.locals := fun x c e z => by
  obtain ⟨v, o, ho, hd⟩ := I.cell x c e
  obtain ⟨m, ⟨o', es, ep, ho', hd', _⟩, _⟩ := I.loc
  rw [z, ho'] at ho; cases ho; rw [hd'] at hd; cases hd
theorem Inv.funs (I : Inv X pins σ H s) : s.heap.FunFrames X.base X.outer := by
  have all : ∀ (l : List Env), (∀ b ∈ frs l, b ∈ X.fs) → X.s₀.heap.FunFrames X.base l → s.heap.FunFrames X.base l := by
    intro l
    induction l with
    | nil => intro _ _; trivial
    | cons env r ih =>
      intro hs hl
      obtain ⟨hk, ⟨L, o, hf, hn, ho, hd⟩, hr⟩ := hl
      have hL : L ∈ X.fs := hs L (by unfold frs; rw [List.filterMap_cons, hf]; exact List.mem_cons_self)
      obtain ⟨sl, e⟩ := I.base.slot L o ho (I.ok.frf L hL) hL fun z => I.ok.exfs L z hL
      exact ⟨hk, ⟨L, _, hf, hn, e, hd⟩, ih (fun b hb => hs b (by unfold frs; rw [List.filterMap_cons, hf]; exact List.mem_cons_of_mem _ hb)) hr⟩
  exact all X.outer (fun _ hb => hb) I.ok.funs
theorem Inv.stack (I : Inv X pins σ H s) : s.heap.FunFrames X.base X.stack := by
  rcases I.ok.stk with e | ⟨e, hf⟩
  · rw [e]; exact I.funs
  · rw [e]
    obtain ⟨m, hn, _⟩ := I.loc
    refine .cons (by rw [I.ok.kind]; decide) hf hn ?_ I.funs
    exact Heap.get?_none_of_le (Nat.le_trans I.ok.bsz I.ok.above)
theorem Inv.stkSub (I : Inv X pins σ H s) : ∀ b ∈ frs X.stack, b ∈ X.env.locals :: X.fs := fun b hb => by
  rcases I.ok.stk with e | ⟨e, hf⟩
  · rw [e] at hb; exact List.mem_cons_of_mem _ hb
  · rw [e] at hb
    unfold frs at hb
    rw [List.filterMap_cons, hf] at hb
    exact hb
theorem Inv.stkFree (I : Inv X pins σ H s) : ∀ b ∈ frs X.stack, H b = none := fun b hb => by
  rcases List.mem_cons.mp (I.stkSub b hb) with e | hb
  · rw [e]; exact I.free
  · obtain ⟨_, o, ho, _⟩ := I.ok.funs.mem hb
    exact I.base.free b o ho (I.ok.frf b hb) fun z => I.ok.exfs b z hb
theorem Inv.step {g' : Array GenState} {t' : Nat} {d' : Drawn} {ch : List Addr} (I : Inv X pins σ H s)
    (hch : ∀ b ∈ ch, (b ∈ X.ex ∨ X.s₀.heap.objs.size ≤ b) ∧ b ≠ X.env.locals ∧ (∀ x c, X.env.cells.lookup x = some c → c ≠ b) ∧ ∀ p ∈ X.pn ++ pins, p.1 ≠ b)
    (keep : ∀ b o, b ≠ X.env.locals → b ∉ X.fs → b ∉ ch → s.heap.get? b = some o → H b = none → h'.get? b = some o)
    (slot : ∀ b o, b ≠ X.env.locals → b ∈ X.fs → b ∉ ch → s.heap.get? b = some o → H b = none → ∃ sl, h'.get? b = some { o with slots := sl }) (free : ∀ b o, b ∉ ch → s.heap.get? b = some o → H b = none → H' b = none)
    (there : ∀ b o, b ∉ ch → s.heap.get? b = some o → ∃ o', h'.get? b = some o')
    (tups : ∀ b xs, H b = some (.tup xs) → H' b = some (.tup xs)) (frzs : ∀ b o u, H b = some (.frz o u) → H' b = some (.frz o u)) (tbls : ∀ b ps, H b = some (.tbl ps) → ∃ more, H' b = some (.tbl (ps ++ more)))
    (ns : ∀ m, s.heap.Ns X.env.locals m → h'.Ns X.env.locals m) (hok : HOk X.prog X.w H' h') (hg : AllBare g') :
    Inv X pins σ H' { s with heap := h', gens := g', drawn := d', toks := t' } := by
  have neL : ∀ b o, X.s₀.heap.get? b = some o → b ≠ X.env.locals := fun b o e => Nat.ne_of_lt (Nat.lt_of_lt_of_le (Heap.lt_size e) I.ok.above)
  have neC : ∀ b o, X.s₀.heap.get? b = some o → b ∉ X.ex → b ∉ ch := fun b o e hx hb => by
    rcases (hch b hb).1 with z | z
    · exact hx z
    · exact absurd (Nat.lt_of_lt_of_le (Heap.lt_size e) z) (Nat.lt_irrefl _)
  have cellK : ∀ x c, X.env.cells.lookup x = some c → ∀ v, s.heap.IsCell c v → h'.IsCell c v := fun x c e v ⟨o, ho, hd⟩ => by
    have nch : c ∉ ch := fun z => (hch c z).2.2.1 x c e rfl
    by_cases hc : c ∈ X.fs
    · obtain ⟨sl, q⟩ := slot c o (I.cne x c e) hc nch ho (I.freeC x c e)
      exact ⟨_, q, hd⟩
    · exact ⟨o, keep c o (I.cne x c e) hc nch ho (I.freeC x c e), hd⟩
  refine ⟨I.ok, I.os, hg, ⟨fun b o e n hb hx => ?_, fun b o e n hb hx => ?_, fun b o e n hx => ?_, fun b o e hx => ?_, fun b xs e => tups b xs (I.base.tups b xs e), fun b o xs e => frzs b o xs (I.base.frzs b o xs e), fun b ps e => ?_⟩, ?_, fun x c e => ?_, ?_, fun x c e => ?_, fun p hp => ?_, hok, I.len⟩
  · exact keep b o (neL b o e) hb (neC b o e hx) (I.base.keep b o e n hb hx) (I.base.free b o e n hx)
  · obtain ⟨sl, e1⟩ := I.base.slot b o e n hb hx
    obtain ⟨sl', e2⟩ := slot b _ (neL b o e) hb (neC b o e hx) e1 (I.base.free b o e n hx)
    exact ⟨sl', e2⟩
  · obtain ⟨o', e1⟩ := I.base.there b o e hx
    exact free b o' (neC b o e hx) e1 (I.base.free b o e n hx)
  · obtain ⟨o', e1⟩ := I.base.there b o e hx
    exact there b o' (neC b o e hx) e1
  · obtain ⟨m1, e1⟩ := I.base.tbls b ps e
    obtain ⟨m2, e2⟩ := tbls b _ e1
    exact ⟨m1 ++ m2, by rw [e2, Array.append_assoc]⟩
  · obtain ⟨m, hn, hl⟩ := I.loc
    refine ⟨m, ns m hn, fun i x v e1 e2 e3 => ?_⟩
    obtain ⟨u, r, l⟩ := hl i x v e1 e2 e3
    refine ⟨u, r, ?_⟩
    rcases l with l | ⟨k, c, e, z⟩
    · exact .inl l
    · exact .inr ⟨k, c, e, cellK x c e _ z⟩
  · obtain ⟨v, z⟩ := I.cell x c e
    exact ⟨v, cellK x c e v z⟩
  · obtain ⟨m, ⟨o, _, _, ho, _⟩, _⟩ := I.loc
    exact free _ o (fun z => (hch _ z).2.1 rfl) ho I.free
  · obtain ⟨v, o, ho, hd⟩ := I.cell x c e
    exact free c o (fun z => (hch c z).2.2.1 x c e rfl) ho (I.freeC x c e)
  · obtain ⟨e, n, ne, nf, d⟩ := I.pin p hp
    have nch : p.1 ∉ ch := fun z => (hch p.1 z).2.2.2 p hp rfl
    exact ⟨keep p.1 p.2 ne nf nch e n, free p.1 p.2 nch e n, ne, nf, d⟩
theorem Inv.un {t' : Nat} (I : Inv X pins σ H s) (u : Un X.fs [] H H' s.heap h') (hok : HOk X.prog X.w H' h') : Inv X pins σ H' { s with heap := h', toks := t' } := by
  obtain ⟨m, ⟨o, es, ep, ho, r⟩, _⟩ := id I.loc
  obtain ⟨sl, hL⟩ := u.any ho I.free (by simp)
  exact I.step (g' := s.gens) (d' := s.drawn) (ch := []) (fun _ z => nomatch z) (fun b o _ hb _ e n => u.keep b o e n hb (by simp)) (fun b o _ hb _ e n => u.slot b o e n hb (by simp)) (fun b o _ e n => u.free b o e n (by simp)) (fun b o _ e => u.there b o e (by simp)) u.tups u.frzs u.tbls (fun m' hm => by
    obtain ⟨o', es', ep', ho', r'⟩ := hm
    rw [ho] at ho'; cases ho'
    exact ⟨_, es', ep', hL, r'⟩) hok I.bare
theorem Inv.call {g' : Array GenState} {t' : Nat} {d' : Drawn} {ch : List Addr} (I : Inv X pins σ H s) (u : Un (frs X.stack) ch H H' s.heap h') (hok : HOk X.prog X.w H' h') (hg : AllBare g')
    (hch : ∀ b ∈ ch, (b ∈ X.ex ∨ X.s₀.heap.objs.size ≤ b) ∧ b ≠ X.env.locals ∧ (∀ x c, X.env.cells.lookup x = some c → c ≠ b) ∧ ∀ p ∈ X.pn ++ pins, p.1 ≠ b) :
    Inv X pins σ H' { s with heap := h', gens := g', drawn := d', toks := t' } := by
  obtain ⟨m, ⟨o, es, ep, ho, r⟩, _⟩ := id I.loc
  obtain ⟨sl, hL⟩ := u.any ho I.free fun z => (hch _ z).2.1 rfl
  exact I.step (ch := ch) hch (fun b o hL hb hc e n => u.keep b o e n (fun z => (List.mem_cons.mp (I.stkSub b z)).elim hL hb) hc) (fun b o _ _ hc e n => u.any e n hc) (fun b o hc e n => u.free b o e n hc) (fun b o hc e => u.there b o e hc) u.tups u.frzs u.tbls (fun m' hm => by
    obtain ⟨o', es', ep', ho', r'⟩ := hm
    rw [ho] at ho'; cases ho'
    exact ⟨_, es', ep', hL, r'⟩) hok hg
theorem Inv.turned {t' : Nat} {it : Addr} (I : Inv X pins σ H s) (k : ∀ b o, b ≠ it → s.heap.get? b = some o → h'.get? b = some o) (hn : H it = none) (hL : it ≠ X.env.locals)
    (h1 : it ∈ X.ex ∨ X.s₀.heap.objs.size ≤ it) (h2 : ∀ x c, X.env.cells.lookup x = some c → c ≠ it) (h3 : ∀ p ∈ X.pn ++ pins, p.1 ≠ it) : Inv X pins σ H { s with heap := h', toks := t' } := by
  have nit : ∀ b u, H b = some u → b ≠ it := fun b u e z => by rw [z, hn] at e; cases e
  refine I.step (g' := s.gens) (d' := s.drawn) (ch := [it]) (fun b hb => ?_) (fun b o _ _ hc e _ => k b o (fun z => hc (by simp [z])) e) (fun b o _ _ hc e _ => ⟨o.slots, k b o (fun z => hc (by simp [z])) e⟩) (fun _ _ _ _ n => n)
    (fun b o hc e => ⟨o, k b o (fun z => hc (by simp [z])) e⟩) (fun _ _ e => e) (fun _ _ _ e => e) (fun b ps e => ⟨#[], by rw [e]; simp⟩) (fun m hm => ?_) (fun b u e => ?_) I.bare
  · have e : b = it := by simpa using hb
    subst e
    exact ⟨h1, hL, h2, h3⟩
  · obtain ⟨o, es, ep, ho, r⟩ := hm
    exact ⟨o, es, ep, k _ o (Ne.symm hL) ho, r⟩
  · refine (I.hok b u e).stay (fun c v hc q => k c v ?_ q) (fun _ q => q) fun _ _ q => q
    rcases hc with z | z
    · rw [z]; exact nit b u e
    · exact nit c _ z
theorem Inv.tok (I : Inv X pins σ H s) (t : Nat) : Inv X pins σ H { s with toks := t } := I.un (h' := s.heap) (t' := t) Un.refl I.hok
theorem Inv.kept {t' : Nat} (I : Inv X pins σ H s) (k : ∀ b u, s.heap.get? b = some u → h'.get? b = some u) : Inv X pins σ H { s with heap := h', toks := t' } := I.un (Un.kept k) (I.hok.kept k)
theorem Inv.laid {a : Addr} {o : HO} {t' : Nat} (I : Inv X pins σ H s) (k : ∀ b u, s.heap.get? b = some u → h'.get? b = some u) (hp : s.heap.objs.size ≤ a) (new : ObjOk X.prog X.w (upd H a o) h' a o) :
    Inv X pins σ (upd H a o) { s with heap := h', toks := t' } := I.un (Un.laid k hp (I.hok.fresh hp)) (I.hok.laid k hp new)
theorem Inv.write {x e : Addr} {o : HO} {t' : Nat} (I : Inv X pins σ H s) (mu : Mut (H x)) (he : e = x ∨ H e = some (.own x)) (k : ∀ b u, b ≠ e → s.heap.get? b = some u → h'.get? b = some u) (heo : ∃ u, h'.get? e = some u)
    (new : ObjOk X.prog X.w (upd H x o) h' x o) : Inv X pins σ (upd H x o) { s with heap := h', toks := t' } := I.un (Un.write mu he k heo) (I.hok.write mu he k heo new)
theorem Inv.weak {σ' : List (Option V)} (I : Inv X pins σ H s) (hl : σ'.length = σ.length) (w : ∀ (i : Nat) v, σ'[i]? = some (some v) → σ[i]? = some (some v)) : Inv X pins σ' H s :=
  ⟨I.ok, I.os, I.bare, I.base, let ⟨m, hn, hl'⟩ := I.loc; ⟨m, hn, fun i x v e1 e2 e3 => hl' i x v e1 (w i v e2) e3⟩, I.cell, I.free, I.freeC, I.pin, I.hok, hl.trans I.len⟩
theorem Inv.pins_of {pins' : List (Addr × Obj)} (I : Inv X pins σ H s) (h : ∀ p ∈ pins', s.heap.get? p.1 = some p.2 ∧ H p.1 = none ∧ p.1 ≠ X.env.locals ∧ p.1 ∉ X.fs ∧ ∀ v, p.2.data ≠ .cell v) : Inv X pins' σ H s :=
  ⟨I.ok, I.os, I.bare, I.base, I.loc, I.cell, I.free, I.freeC, fun p hp => (List.mem_append.mp hp).elim (fun z => I.pin p (List.mem_append_left _ z)) (h p), I.hok, I.len⟩
theorem nodup_ix {N : List Str} (hN : N.Nodup) {i j : Nat} {x : Str} (a : N[i]? = some x) (b : N[j]? = some x) : i = j := by
  obtain ⟨h1, e1⟩ := List.getElem?_eq_some_iff.mp a
  obtain ⟨h2, e2⟩ := List.getElem?_eq_some_iff.mp b
  exact (List.getElem_inj hN).mp (e1.trans e2.symm)
theorem store_ok2 {M : Model} {A : Around} {E : Value → Shared → Prop} {i : Nat} {x : Str} {v : V} {u : Value} {Q : Unit → Shared → Prop} (I : Inv X pins σ H s) (hN : X.N.Nodup) (hi : X.N[i]? = some x) (hx : Loc X.env.scope x) (r : RelV v u)
    (h : ∀ s', Inv X pins (σ.set i (some v)) H s' → (∃ a, Heap.SameBut a s.heap s'.heap ∧ (a = X.env.locals ∨ X.env.cells.lookup x = some a)) → Q () s') (hf : X.fn x = true ∨ X.env.scope.names.lookup x = some .local := by first | exact .inl rfl | exact .inr rfl | assumption) : wpAny M A (storeName X.env x u) Q E s := by
  obtain ⟨m, hn, hl⟩ := id I.loc
  have hcls : (X.env.scope.kind == .class || (X.env.scope.kind == .module && X.env.locals != X.env.globals)) = false := by rw [I.ok.kind]; rfl
  have hiσ : i < σ.length := by rw [I.len]; exact (List.getElem?_eq_some_iff.mp hi).1
  have cne := I.cne
  have tracked : ∀ {a : Addr} {h' : Heap}, (∃ o, s.heap.get? a = some o ∧ H a = none) → Heap.SameBut a s.heap h' → HOk X.prog X.w H h' := fun {a h'} ha hs b ob e => by
    obtain ⟨_, _, hfree⟩ := ha
    refine (I.hok b ob e).stay (fun c w' hc q => (hs.2 c ?_).trans q) (fun _ q => q) fun _ _ q => q
    rintro rfl
    rcases hc with rfl | hc
    · rw [hfree] at e; cases e
    · rw [hfree] at hc; cases hc
  rcases hx with hk | hk
  · refine wpAny_storeName_local hk hn (fun h' hn' hs => ?_) hcls
    obtain ⟨oL, _, _, hoL, _⟩ := id hn
    refine h _ ⟨I.ok, I.os, I.bare, ⟨fun b o e n hb hx => ?_, fun b o e n hb hx => ?_, I.base.free, fun b o e hx => ?_, I.base.tups, I.base.frzs, I.base.tbls⟩, ⟨_, hn', fun j y v' e1 e2 e3 => ?_⟩, fun y c e => ?_, I.free, I.freeC, fun p hp => ?_, tracked ⟨oL, hoL, I.free⟩ hs, by simpa using I.len⟩ ⟨_, hs, .inl rfl⟩
    · exact (hs.2 b (Nat.ne_of_lt (Nat.lt_of_lt_of_le (Heap.lt_size e) I.ok.above))).trans (I.base.keep b o e n hb hx)
    · obtain ⟨sl, e1⟩ := I.base.slot b o e n hb hx
      exact ⟨sl, (hs.2 b (Nat.ne_of_lt (Nat.lt_of_lt_of_le (Heap.lt_size e) I.ok.above))).trans e1⟩
    · obtain ⟨o', e1⟩ := I.base.there b o e hx
      exact ⟨o', (hs.2 b (Nat.ne_of_lt (Nat.lt_of_lt_of_le (Heap.lt_size e) I.ok.above))).trans e1⟩
    · by_cases hj : j = i
      · subst hj
        rw [hi] at e1; cases e1
        rw [List.getElem?_set_self hiσ] at e2
        cases e2
        exact ⟨u, r, .inl ⟨hk, by simp⟩⟩
      · rw [List.getElem?_set_ne (Ne.symm hj)] at e2
        obtain ⟨u', r', q⟩ := hl j y v' e1 e2 e3
        refine ⟨u', r', ?_⟩
        rcases q with ⟨k, e⟩ | ⟨k, c, e, z⟩
        · refine .inl ⟨k, ?_⟩
          have : y ≠ x := fun e => hj (nodup_ix hN e1 (e ▸ hi))
          simp [this, e]
        · exact .inr ⟨k, c, e, z.sameBut hs (cne y c e)⟩
    · obtain ⟨w', z⟩ := I.cell y c e
      exact ⟨w', z.sameBut hs (cne y c e)⟩
    · obtain ⟨e, n, ne, nf, d⟩ := I.pin p hp
      exact ⟨(hs.2 p.1 ne).trans e, n, ne, nf, d⟩
  · have hfn : X.fn x = true := by
      rcases hf with z | z
      · exact z
      · rw [z] at hk; cases hk
    obtain ⟨c, hc⟩ := I.ok.has x (.inl hk)
    obtain ⟨w', z⟩ := I.cell x c hc
    refine wpAny_storeName_cell I.ok.kind hk hc z (fun h' hc' hs => ?_)
    obtain ⟨oc, hoc, hocd⟩ := id z
    refine h { s with heap := h' } ⟨I.ok, I.os, I.bare, ⟨fun b o e n hb hx => ?_, fun b o e n hb hx => ?_, I.base.free, fun b o e hx => ?_, I.base.tups, I.base.frzs, I.base.tbls⟩, ⟨m, hn.sameBut hs (Ne.symm (cne x c hc)), fun j y v' e1 e2 e3 => ?_⟩, fun y c' e => ?_, I.free, I.freeC, fun p hp => ?_, tracked ⟨oc, hoc, I.freeC x c hc⟩ hs, by simpa using I.len⟩ ⟨c, hs, .inr hc⟩
    · exact (hs.2 b (Nat.ne_of_lt (Nat.lt_of_lt_of_le (Heap.lt_size e) (I.ok.cab x c hfn hc)))).trans (I.base.keep b o e n hb hx)
    · obtain ⟨sl, e1⟩ := I.base.slot b o e n hb hx
      exact ⟨sl, (hs.2 b (Nat.ne_of_lt (Nat.lt_of_lt_of_le (Heap.lt_size e) (I.ok.cab x c hfn hc)))).trans e1⟩
    · obtain ⟨o', e1⟩ := I.base.there b o e hx
      exact ⟨o', (hs.2 b (Nat.ne_of_lt (Nat.lt_of_lt_of_le (Heap.lt_size e) (I.ok.cab x c hfn hc)))).trans e1⟩
    · by_cases hj : j = i
      · subst hj
        rw [hi] at e1; cases e1
        rw [List.getElem?_set_self hiσ] at e2
        cases e2
        exact ⟨u, r, .inr ⟨.inl hk, c, hc, hc'⟩⟩
      · rw [List.getElem?_set_ne (Ne.symm hj)] at e2
        obtain ⟨u', r', q⟩ := hl j y v' e1 e2 e3
        refine ⟨u', r', ?_⟩
        rcases q with q | ⟨k, c', e, z'⟩
        · exact .inl q
        · refine .inr ⟨k, c', e, z'.sameBut hs ?_⟩
          rintro rfl
          exact hj (nodup_ix hN e1 (I.ok.inj _ _ _ e hc ▸ hi))
    · by_cases hcc : c' = c
      · subst hcc; exact ⟨_, hc'⟩
      · obtain ⟨w2, z2⟩ := I.cell y c' e
        exact ⟨w2, z2.sameBut hs hcc⟩
    · obtain ⟨e, n, ne, nf, d⟩ := I.pin p hp
      refine ⟨(hs.2 p.1 ?_).trans e, n, ne, nf, d⟩
      intro q
      rw [q, hoc] at e
      have q' : oc = p.2 := Option.some.inj e
      exact d w' (by rw [← q']; exact hocd)
theorem store_ok {M : Model} {A : Around} {E : Value → Shared → Prop} {i : Nat} {x : Str} {v : V} {u : Value} {Q : Unit → Shared → Prop} (I : Inv X pins σ H s) (hN : X.N.Nodup) (hi : X.N[i]? = some x) (hx : Loc X.env.scope x) (r : RelV v u)
    (h : ∀ s', Inv X pins (σ.set i (some v)) H s' → Q () s') (hf : X.fn x = true ∨ X.env.scope.names.lookup x = some .local := by first | exact .inl rfl | exact .inr rfl | assumption) : wpAny M A (storeName X.env x u) Q E s :=
  store_ok2 I hN hi hx r (fun s' I' _ => h s' I') hf
theorem Inv.call' {s' : Shared} {ch : List Addr} (I : Inv X pins σ H s) (ho : s'.os = s.os) (u : Un (frs X.stack) ch H H' s.heap s'.heap) (hok : HOk X.prog X.w H' s'.heap) (hg : AllBare s'.gens)
    (hch : ∀ b ∈ ch, (b ∈ X.ex ∨ X.s₀.heap.objs.size ≤ b) ∧ b ≠ X.env.locals ∧ (∀ x c, X.env.cells.lookup x = some c → c ≠ b) ∧ ∀ p ∈ X.pn ++ pins, p.1 ≠ b) : Inv X pins σ H' s' := by
  obtain ⟨h', g', d', t', o'⟩ := s'
  have e : o' = s.os := ho
  subst e
  exact I.call (g' := g') (t' := t') (d' := d') u hok hg hch
end
abbrev XK := Value → Option Addr → Hp → Prop
abbrev St := List (Option V)
abbrev VK := V → Hp → Prop
abbrev TE := St → Hp → VK → Prop
abbrev TT := St → Hp → (Bool → Hp → Prop) → Prop
abbrev TA := St → Hp → (List V → Hp → Prop) → Prop
structure Ends where
  nx : St → Hp → Prop
  rt : VK
  bk : St → Hp → Prop := fun _ _ => False
  ct : St → Hp → Prop := fun _ _ => False
abbrev TS := Ends → St → Hp → Prop
def EP (X : Cx) (pins : List (Addr × Obj)) (σ : St) (Q : VK) (u : Value) (s' : Shared) : Prop := ∃ v H', Inv X pins σ H' s' ∧ RelV v u ∧ Q v H'
def TP (X : Cx) (pins : List (Addr × Obj)) (σ : St) (Q : Bool → Hp → Prop) (b : Bool) (s' : Shared) : Prop := ∃ H', Inv X pins σ H' s' ∧ Q b H'
def AP (X : Cx) (pins : List (Addr × Obj)) (σ : St) (Q : List V → Hp → Prop) (us : List Value) (s' : Shared) : Prop := ∃ vs H', Inv X pins σ H' s' ∧ Vals vs us ∧ Q vs H'
def SP (X : Cx) (pins : List (Addr × Obj)) (D : Ends) (f : Flow) (s' : Shared) : Prop :=
  match f with
  | .next => ∃ σ' H', Inv X pins σ' H' s' ∧ D.nx σ' H'
  | .brk => ∃ σ' H', Inv X pins σ' H' s' ∧ D.bk σ' H'
  | .cont => ∃ σ' H', Inv X pins σ' H' s' ∧ D.ct σ' H'
  | .ret u => ∃ v σ' H', Inv X pins σ' H' s' ∧ RelV v u ∧ D.rt v H'
def PE (X : Cx) (e : Expr) (t : TE) : Prop :=
  ∀ (pins : List (Addr × Obj)) (s : Shared) (σ : St) (H : Hp) (Q : VK), Inv X pins σ H s → t σ H Q → wpAny (model X.prog X.w) X.A (eval e X.env) (EP X pins σ Q) X.xe s
def PT (X : Cx) (e : Expr) (t : TT) : Prop :=
  ∀ (pins : List (Addr × Obj)) (s : Shared) (σ : St) (H : Hp) (Q : Bool → Hp → Prop), Inv X pins σ H s → t σ H Q → wpAny (model X.prog X.w) X.A (isTrue e X.env (eval e X.env)) (TP X pins σ Q) X.xe s
def PW (X : Cx) (e : Expr) (t : TT) : Prop :=
  ∀ (whole : Sem Value) (pins : List (Addr × Obj)) (s : Shared) (σ : St) (H : Hp) (Q : Bool → Hp → Prop), Inv X pins σ H s → t σ H Q → wpAny (model X.prog X.w) X.A (isTrue e X.env whole) (TP X pins σ Q) X.xe s
theorem PW.pt {X : Cx} {e : Expr} {t : TT} (h : PW X e t) : PT X e t := h _
def PA (X : Cx) (es : List Expr) (t : TA) : Prop :=
  ∀ (pos : Pos) (pins : List (Addr × Obj)) (s : Shared) (σ : St) (H : Hp) (Q : List V → Hp → Prop), Inv X pins σ H s → t σ H Q → wpAny (model X.prog X.w) X.A (spliced (backTo pos (starEach es X.env))) (AP X pins σ Q) X.xe s
def PS (X : Cx) (st : Stmt) (t : TS) : Prop :=
  ∀ (pins : List (Addr × Obj)) (s : Shared) (σ : St) (H : Hp) (D : Ends), Inv X pins σ H s → t D σ H → wpAny (model X.prog X.w) X.A (exec st X.env) (SP X pins D) X.xe s
def PSs (X : Cx) (st : List Stmt) (t : TS) : Prop :=
  ∀ (pins : List (Addr × Obj)) (s : Shared) (σ : St) (H : Hp) (D : Ends), Inv X pins σ H s → t D σ H → wpAny (model X.prog X.w) X.A (execs st X.env) (SP X pins D) X.xe s
theorem thn {α : Type} {t : Sem α} {Q Q' : α → Shared → Prop} {M : Model} {A : Around} {E : Value → Shared → Prop} {s : Shared} (h : wpAny M A t Q E s) (hQ : ∀ a s, Q a s → Q' a s) : wpAny M A t Q' E s := wpAny_mono h hQ fun _ _ x => x
end L2
namespace L2
open PySem PySem.Spec PyProof.Rows
section
variable {X : Cx}
def tVar (i : Nat) : TE := fun σ H Q => ∃ v, σ[i]? = some (some v) ∧ Q v H
def tC (v : V) : TE := fun _ H Q => Q v H
theorem pe_var {i : Nat} {x : Str} {pos : Pos} (hN : X.N[i]? = some x) (hv : Vis X.env.scope x) (hd : (x == ("__debug__" : Str)) = false := by decide) (hcd : (x == ("__classdict__" : Str)) = false := by decide) : PE X (.Name x pos) (tVar i) := by
  intro pins s σ H Q I h
  obtain ⟨v, e, h⟩ := h
  obtain ⟨m, hn, hl⟩ := I.loc
  obtain ⟨u, r, l⟩ := hl i x v hN e hv
  have fin : EP X pins σ Q u s := ⟨v, H, I, r, h⟩
  rcases l with ⟨hk, hm⟩ | ⟨hk, c, hc, hcell⟩
  · exact wpAny_Name (wpAny_loadName_local I.ok.kind hk hn hm fin) hd
  · rcases hk with hk | hk
    · exact wpAny_Name (wpAny_loadName_cell I.ok.kind hk hc hcell fin) hd
    · exact wpAny_Name (wpAny_loadName_free I.ok.kind hk hc hcell fin hcd) hd
theorem pe_int {i j pos} : PE X (.Constant (.int i) j pos) (tC (.int i)) := fun _ _ _ H _ I h => wpAny_Constant_int ⟨.int i, H, I.tok _, ⟨_, rfl⟩, h⟩
theorem pe_bl {b j pos} : PE X (.Constant (.bool b) j pos) (tC (.bl b)) := fun _ _ _ H _ I h => Constant_bool ⟨.bl b, H, I, rfl, h⟩
theorem pe_non {j pos} : PE X (.Constant .none j pos) (tC .non) := fun _ _ _ H _ I h => Constant_none ⟨.non, H, I, rfl, h⟩
theorem pe_str {x j pos} : PE X (.Constant (.str x) j pos) (tC (.str x)) := fun _ _ _ H _ I h => Calls.Constant_str ⟨.str x, H, I.tok _, ⟨_, rfl⟩, h⟩
def Gl (X : Cx) (x : Str) : Prop := X.env.kindOf x = some .globalImplicit
theorem ld_glob {E : Value → Shared → Prop} {pins : List (Addr × Obj)} {s : Shared} {σ : St} {H : Hp} {x : Str} {u : Value} {pos : Pos} {Q : Value → Shared → Prop} (I : Inv X pins σ H s) (hg : Gl X x) (hm : X.mg x = some u) (h : Q u s)
    (hd : (x == ("__debug__" : Str)) = false := by decide) : wpAny (model X.prog X.w) X.A (eval (.Name x pos) X.env) Q E s :=
  Calls.Name_function_global I.ok.kind hg (Calls.loadGlobal_global (by rw [I.ok.glob]; exact I.mod.glob.keeps I.bk) hm h) hd
theorem ld_blt {E : Value → Shared → Prop} {pins : List (Addr × Obj)} {s : Shared} {σ : St} {H : Hp} {x : Str} {u : Value} {pos : Pos} {Q : Value → Shared → Prop} (I : Inv X pins σ H s) (hg : Gl X x) (hm : X.mg x = none) (hv : bootBuiltins x = some u) (h : Q u s)
    (hn : x ≠ "__name__" := by decide) (hd : (x == ("__debug__" : Str)) = false := by decide) : wpAny (model X.prog X.w) X.A (eval (.Name x pos) X.env) Q E s := by
  obtain ⟨mb, h1, h2⟩ := I.mod.blt
  exact Calls.Name_function_global I.ok.kind hg (Calls.loadGlobal_builtin (by rw [I.ok.glob]; exact I.mod.glob.keeps I.bk) hm (by rw [I.ok.blt]; exact h1.keeps I.bk) ((h2 x hn).trans hv) h) hd
theorem pe_glob {x : Str} {v : V} {u : Value} {pos : Pos} (hg : Gl X x) (hm : X.mg x = some u) (r : RelV v u) (hd : (x == ("__debug__" : Str)) = false := by decide) : PE X (.Name x pos) (tC v) :=
  fun _ _ _ H _ I h => ld_glob I hg hm ⟨v, H, I, r, h⟩ hd
theorem pe_bltn {x : Str} {v : V} {u : Value} {pos : Pos} (hg : Gl X x) (hm : X.mg x = none) (hv : bootBuiltins x = some u) (r : RelV v u) (hn : x ≠ "__name__" := by decide) (hd : (x == ("__debug__" : Str)) = false := by decide) : PE X (.Name x pos) (tC v) :=
  fun _ _ _ H _ I h => ld_blt I hg hm hv ⟨v, H, I, r, h⟩ hn hd
variable {a b : Expr} {ta tb : TE} {pos : Pos}
def tB (t : TE) : TT := fun σ H Q => t σ H fun x H1 => ∃ c, x = .bl c ∧ Q c H1
theorem pt_val {e : Expr} {t : TE} (h : PE X e t) (he : ∀ whole, isTrue e X.env whole = (do let v ← whole; standAt e.pos; holding [v] (truthy v)) := by intro _; rfl) : PT X e (tB t) := by
  intro pins s σ H Q I hw
  refine isTrue_plain (thn (h pins s σ H _ I hw) fun v s1 ⟨x, H1, I1, r1, q1⟩ => ?_) (he _)
  obtain ⟨d, rfl, q⟩ := q1
  cases r1
  exact wpAny_truthy_bool ⟨H1, I1, q⟩
variable {tA tB' : TT} {rest : List Expr}
def tOr (t u : TT) : TT := fun σ H Q => t σ H fun c H1 => if c = true then Q true H1 else u σ H1 Q
def tNot (t : TT) : TT := fun σ H Q => t σ H fun c H1 => Q (!c) H1
theorem pw_or1 (ha : PT X a tA) : PW X (.BoolOp .Or [a] pos) tA := by
  intro wh pins s σ H Q I h
  refine isTrue_or (thn (ha pins s σ H Q I h) fun c s1 e => ?_)
  cases c with
  | false => exact isTrue_or_nil e
  | true => exact e
theorem pw_or (ha : PT X a tA) (hb : PW X (.BoolOp .Or (b :: rest) pos) tB') : PW X (.BoolOp .Or (a :: b :: rest) pos) (tOr tA tB') := by
  intro wh pins s σ H Q I h
  refine isTrue_or (thn (ha pins s σ H _ I h) fun c s1 ⟨H1, I1, q1⟩ => ?_)
  cases c with
  | true => exact ⟨H1, I1, q1⟩
  | false => exact hb wh pins s1 σ H1 Q I1 q1
theorem pt_not (ha : PT X a tA) : PT X (.UnaryOp .Not a pos) (tNot tA) := by
  intro pins s σ H Q I h
  exact isTrue_not (ha pins s σ H (fun c H1 => Q (!c) H1) I h)
def tAndV (ta tb : TE) : TE := fun σ H Q => ta σ H fun x H1 => ∃ c, x = .bl c ∧ if c = true then tb σ H1 Q else Q (.bl false) H1
theorem pe_one {op} {t : TE} (h : PE X a t) : PE X (.BoolOp op [a] pos) t := fun pins s σ H Q I hw => BoolOp_one (h pins s σ H Q I hw)
theorem pe_and (ha : PE X a ta) (hb : PE X (.BoolOp .And (b :: rest) pos) tb) : PE X (.BoolOp .And (a :: b :: rest) pos) (tAndV ta tb) := by
  intro pins s σ H Q I h
  refine BoolOp_and (thn (ha pins s σ H _ I h) fun v s1 ⟨x, H1, I1, r1, q1⟩ => ?_)
  obtain ⟨c, rfl, q1⟩ := q1
  cases r1
  refine wpAny_truthy_bool ?_
  cases c with
  | true => exact hb pins s1 σ H1 Q I1 q1
  | false => exact ⟨.bl false, H1, I1, rfl, q1⟩
def tIf (t : TT) (ta tb : TE) : TE := fun σ H Q => t σ H fun c H1 => if c = true then ta σ H1 Q else tb σ H1 Q
theorem pe_ifExp {c : Expr} (hc : PT X c tA) (ha : PE X a ta) (hb : PE X b tb) : PE X (.IfExp c a b pos) (tIf tA ta tb) := by
  intro pins s σ H Q I h
  refine wpAny_IfExp (thn (hc pins s σ H _ I h) fun d s1 ⟨H1, I1, q1⟩ => ?_)
  cases d with
  | true => exact ha pins s1 σ H1 Q I1 q1
  | false => exact hb pins s1 σ H1 Q I1 q1
end
end L2
namespace L2
open PySem PySem.Spec PyProof.Rows
def SqL (K : PySem.W.Frag) (H : Hp) (a : Addr) (xs : List V) : Prop :=
  Rd H a (.lst xs) ∨
    ∃ (o : Obj) (its : Array Value) (n : Nat), K.lookup a = some o ∧ o.cls = .type "list" ∧ o.dict = none ∧ o.data = .seq its n ∧ its.size ≤ sizeLine ∧ Vals xs its.toList
def SqT (K : PySem.W.Frag) (H : Hp) (a : Addr) (xs : List V) : Prop :=
  Rd H a (.tup xs) ∨
    ∃ (o : Obj) (its : Array Value) (n : Nat), K.lookup a = some o ∧ o.cls = .type "tuple" ∧ o.data = .seq its n ∧ its.size ≤ sizeLine ∧ Vals xs its.toList
def absV : Value → Option V
  | .none => some .non
  | .bool b => some (.bl b)
  | .int i _ => some (.int i)
  | .str x _ => some (.str x)
  | .bytes b _ => some (.byt b)
  | .float b _ => some (.flt b)
  | .ref a => some (.ref a)
  | .type n => some (.ty n)
  | _ => none
theorem RelV.abs {x : V} {u : Value} (r : RelV x u) : absV u = some x := by
  cases x with
  | non => cases r; rfl
  | bl _ => cases r; rfl
  | int _ => obtain ⟨t, rfl⟩ := r; rfl
  | str _ => obtain ⟨t, rfl⟩ := r; rfl
  | byt _ => obtain ⟨t, rfl⟩ := r; rfl
  | flt _ => obtain ⟨t, rfl⟩ := r; rfl
  | ref _ => cases r; rfl
  | ty _ => cases r; rfl
theorem RelV.inj {x y : V} {u : Value} (r : RelV x u) (q : RelV y u) : x = y := Option.some.inj (r.abs.symm.trans q.abs)
theorem Vals.inj : ∀ {xs ys : List V} {us : List Value}, Vals xs us → Vals ys us → xs = ys
  | _, _, _, .nil, .nil => rfl
  | _, _, _, .cons r t, .cons r' t' => by rw [r.inj r', Vals.inj t t']
section
variable {X : Cx} {pins : List (Addr × Obj)} {σ : St} {H : Hp} {s : Shared} {a : Addr} {xs ys : List V}
theorem SqL.of {K : PySem.W.Frag} (h : H a = some (.lst xs)) : SqL K H a xs := .inl (.inl h)
theorem SqT.of {K : PySem.W.Frag} (h : H a = some (.tup xs)) : SqT K H a xs := .inl (.inl h)
theorem Inv.list (I : Inv X pins σ H s) (h : SqL X.K H a xs) : ∃ its : List Value, Vals xs its ∧ PlainL s.heap a its.toArray ∧ xs.length ≤ sizeLine := by
  rcases h with h | ⟨o, its, n, hk, hc, hd, hs, hz, r⟩
  · obtain ⟨z, its, n, r, e⟩ := h.ok I.hok
    exact ⟨its, r, ⟨_, n, e, rfl, rfl, rfl⟩, z⟩
  · refine ⟨its.toList, r, ⟨o, n, I.kIn a o hk, hc, hd, by simpa using hs⟩, ?_⟩
    have e := r.length
    simp only [Array.length_toList] at e
    omega
theorem Inv.tuple (I : Inv X pins σ H s) (h : SqT X.K H a xs) : ∃ its : List Value, Vals xs its ∧ IsTup s.heap a its.toArray ∧ xs.length ≤ sizeLine := by
  rcases h with h | ⟨o, its, n, hk, hc, hs, hz, r⟩
  · obtain ⟨z, its, r, p⟩ := h.ok I.hok
    exact ⟨its, r, p.is, z⟩
  · refine ⟨its.toList, r, ⟨o, I.kIn a o hk, hc, n, by simpa using hs⟩, ?_⟩
    have e := r.length
    simp only [Array.length_toList] at e
    omega
theorem Inv.list_inj (I : Inv X pins σ H s) (h : SqL X.K H a xs) (h' : SqL X.K H a ys) : xs = ys := by
  obtain ⟨its, r, ⟨o, n, e, _, _, d⟩, _⟩ := I.list h
  obtain ⟨its', r', ⟨o', n', e', _, _, d'⟩, _⟩ := I.list h'
  rw [e] at e'; cases e'
  rw [d] at d'
  injection d' with d1 _
  have : its = its' := by simpa using congrArg Array.toList d1
  subst this
  exact r.inj r'
theorem Inv.tuple_inj (I : Inv X pins σ H s) (h : SqT X.K H a xs) (h' : SqT X.K H a ys) : xs = ys := by
  obtain ⟨its, r, ⟨o, e, _, n, d⟩, _⟩ := I.tuple h
  obtain ⟨its', r', ⟨o', e', _, n', d'⟩, _⟩ := I.tuple h'
  rw [e] at e'; cases e'
  rw [d] at d'
  injection d' with d1 _
  have : its = its' := by simpa using congrArg Array.toList d1
  subst this
  exact r.inj r'
end
section
variable {X : Cx} {pins : List (Addr × Obj)} {σ : St} {H : Hp} {s : Shared} {E : Value → Shared → Prop}
end
section
variable {X : Cx} {st : Stmt} {rest : List Stmt} {t u : TS} {e : Expr} {te : TE} {pos : Pos}
def tNext : TS := fun D σ H => D.nx σ H
def tSeq (t u : TS) : TS := fun D σ H => t { D with nx := u D } σ H
theorem pss_nil : PSs X [] tNext := fun _ _ σ H _ I h => wpAny_execs_nil ⟨σ, H, I, h⟩
theorem pss_cons (h1 : PS X st t) (h2 : PSs X rest u) : PSs X (st :: rest) (tSeq t u) := by
  intro pins s σ H D I h
  refine wpAny_execs_cons (thn (h1 pins s σ H { D with nx := u D } I h) fun f s1 q => ?_)
  cases f with
  | next =>
    obtain ⟨σ', H', I', q⟩ := q
    exact h2 pins s1 σ' H' D I' q
  | ret v => exact q
  | brk => exact q
  | cont => exact q
theorem pss_one (h1 : PS X st t) : PSs X [st] t := by
  intro pins s σ H D I h
  refine wpAny_execs_cons (thn (h1 pins s σ H D I h) fun f s1 q => ?_)
  cases f with
  | next => exact wpAny_execs_nil q
  | ret v => exact q
  | brk => exact q
  | cont => exact q
theorem Inv.quiet {pins : List (Addr × Obj)} {σ : St} {H : Hp} {s : Shared} (I : Inv X pins σ H s) : interactive X.env = false := by simp [interactive, I.ok.kind]
def tDrop (te : TE) : TS := fun D σ H => te σ H fun _ H1 => D.nx σ H1
theorem ps_expr (he : PE X e te) (hs : swapsWith e none pos.line X.env = pure false := by rfl) : PS X (.Expr e pos) (tDrop te) := by
  intro pins s σ H D I h
  exact wpAny_Expr_any (thn (he pins s σ H _ I h) fun v s1 ⟨x, H1, I1, r1, q1⟩ => ⟨σ, H1, I1, q1⟩) I.quiet hs
def tRet (te : TE) : TS := fun D σ H => te σ H D.rt
theorem ps_ret (he : PE X e te) : PS X (.Return (some e) pos) (tRet te) := by
  intro pins s σ H D I h
  exact wpAny_Return_some (thn (he pins s σ H _ I h) fun v s1 ⟨x, H1, I1, r1, q1⟩ => ⟨x, σ, H1, I1, r1, q1⟩)
def tIfS (c : TT) (t u : TS) : TS := fun D σ H => c σ H fun b H1 => if b = true then t D σ H1 else u D σ H1
theorem ps_if {c : Expr} {a b : List Stmt} {tc : TT} (hc : PT X c tc) (ha : PSs X a t) (hb : PSs X b u) : PS X (.If c a b pos) (tIfS tc t u) := by
  intro pins s σ H D I h
  refine wpAny_If (thn (hc pins s σ H _ I h) fun d s1 ⟨H1, I1, q1⟩ => ?_)
  cases d with
  | true => exact ha pins s1 σ H1 D I1 q1
  | false => exact hb pins s1 σ H1 D I1 q1
end
abbrev TG := V → St → Hp → (St → Hp → Prop) → Prop
abbrev TGs := List V → St → Hp → (St → Hp → Prop) → Prop
def PG (X : Cx) (target : Expr) (t : TG) : Prop :=
  ∀ (pins : List (Addr × Obj)) (s : Shared) (σ : St) (H : Hp) (v : V) (u : Value) (Q : St → Hp → Prop), Inv X pins σ H s → RelV v u → t v σ H Q →
    wpAny (model X.prog X.w) X.A (assign target X.env u) (fun _ s' => ∃ σ' H', Inv X pins σ' H' s' ∧ Q σ' H') X.xe s
def PGs (X : Cx) (ts : List Expr) (t : TGs) : Prop :=
  ∀ (pins : List (Addr × Obj)) (s : Shared) (σ : St) (H : Hp) (vs : List V) (us : List Value) (Q : St → Hp → Prop), Inv X pins σ H s → Vals vs us → t vs σ H Q →
    wpAny (model X.prog X.w) X.A (assignInOrder ((assignEach ts X.env).map (·.2)) us) (fun _ s' => ∃ σ' H', Inv X pins σ' H' s' ∧ Q σ' H') X.xe s
section
variable {X : Cx} {pos : Pos}
def gName (i : Nat) : TG := fun v σ H Q => Q (σ.set i (some v)) H
theorem pg_name {i : Nat} {x : Str} (hN : X.N.Nodup) (hi : X.N[i]? = some x) (hx : Loc X.env.scope x) (hf : X.fn x = true ∨ X.env.scope.names.lookup x = some .local := by first | exact .inl rfl | exact .inr rfl | assumption) : PG X (.Name x pos) (gName i) := by
  intro pins s σ H v u Q I r h
  exact wpAny_assign_Name (store_ok I hN hi hx r (fun s' I' => ⟨_, H, I', h⟩) hf)
def gNil : TGs := fun vs σ H Q => vs = [] ∧ Q σ H
def gCons (t : TG) (u : TGs) : TGs := fun vs σ H Q => ∃ v r, vs = v :: r ∧ t v σ H fun σ' H' => u r σ' H' Q
theorem pgs_nil : PGs X [] gNil := by
  intro pins s σ H vs us Q I r h
  obtain ⟨e, h⟩ := h
  subst e
  cases r
  exact assignInOrder_nil ⟨σ, H, I, h⟩
theorem pgs_cons {e : Expr} {es : List Expr} {t : TG} {u : TGs} (h1 : PG X e t) (h2 : PGs X es u)
    (hs : (assignEach (e :: es) X.env).map (·.2) = assign e X.env :: (assignEach es X.env).map (·.2) := by rfl) : PGs X (e :: es) (gCons t u) := by
  intro pins s σ H vs us Q I r h
  obtain ⟨v, vr, e1, h⟩ := h
  subst e1
  cases r with
  | cons r rr =>
    rw [hs]
    refine assignInOrder_cons (thn (h1 pins s σ H _ _ _ I r h) fun _ s1 ⟨σ1, H1, I1, q1⟩ => ?_)
    exact h2 pins s1 σ1 H1 _ _ Q I1 rr q1
def gTup (K : PySem.W.Frag) (n : Nat) (t : TGs) : TG := fun v σ H Q => ∃ a xs, v = .ref a ∧ SqT K H a xs ∧ xs.length = n ∧ t xs σ H Q
theorem pg_tup {es : List Expr} {k : Nat} {t : TGs} {n : Nat} (hc : X.calm = true) (h : PGs X es t)
    (hn : (assignEach es X.env).length = n := by rfl) (hst : (assignEach es X.env).findIdx? (·.1) = none := by rfl) : PG X (.Tuple es k pos) (gTup X.K n t) := by
  intro pins s σ H v u Q I r hw
  obtain ⟨a, xs, e1, hq, hl, hw⟩ := hw
  subst e1
  cases r
  obtain ⟨its, rv, ht, hz⟩ := I.tuple hq
  refine assign_Tuple_tuple (I.ok.hd hc) ht (by simp [hn, ← hl, rv.length]) hst fun h' hx => ?_
  have I1 : Inv X pins σ H { s with heap := h' } := I.kept (t' := s.toks) fun b o e => hx b o (Nat.ne_of_lt (Heap.lt_size e)) e
  exact h pins _ σ H xs _ Q I1 (by simpa using rv) hw
def tAsg (te : TE) (g : TG) : TS := fun D σ H => te σ H fun x H1 => g x σ H1 D.nx
theorem ps_asg {tg e : Expr} {te : TE} {g : TG} (he : PE X e te) (hg : PG X tg g) (hs : swapsWithSole [tg] e pos.line X.env = pure false := by rfl) (hw : swappedStores [tg] e X.env = pure none := by rfl)
    (h1 : (assignEach [tg] X.env).map (·.2) = [assign tg X.env] := by rfl) : PS X (.Assign [tg] e pos) (tAsg te g) := by
  intro pins s σ H D I h
  refine wpAny_Assign_stores (thn (he pins s σ H _ I h) fun v s1 ⟨x, H1, I1, r1, q1⟩ => ?_) hs hw
  rw [h1]
  exact thn (hg pins s1 σ H1 x v _ I1 r1 q1) fun _ s2 q => q
theorem ps_set {i : Nat} {x : Str} {e : Expr} {te : TE} {pos' : Pos} (hN : X.N.Nodup) (hi : X.N[i]? = some x) (hx : Loc X.env.scope x) (he : PE X e te) (hs : swapsWith e (some (.Name x pos')) pos.line X.env = pure false := by rfl) (hf : X.fn x = true ∨ X.env.scope.names.lookup x = some .local := by first | exact .inl rfl | exact .inr rfl | assumption) :
    PS X (.Assign [.Name x pos'] e pos) (tAsg te (gName i)) := by
  intro pins s σ H D I h
  refine wpAny_Assign_Name (thn (he pins s σ H _ I h) fun v s1 ⟨y, H1, I1, r1, q1⟩ => ?_) hs
  exact store_ok I1 hN hi hx r1 (fun s2 I2 => ⟨_, H1, I2, q1⟩) hf
end
section
variable {X : Cx} {pos : Pos}
end
structure It where
  go : Nat → Hp → Prop
  yld : Nat → Hp → V → Hp → Prop
  stop : Nat → Hp → Prop
def FpOk (X : Cx) (pins : List (Addr × Obj)) (H : Hp) (b : Addr) : Prop :=
  H b = none ∧ b ≠ X.env.locals ∧ b ∉ X.fs ∧ (b ∈ X.ex ∨ X.s₀.heap.objs.size ≤ b) ∧ (∀ x c, X.env.cells.lookup x = some c → c ≠ b) ∧ ∀ p ∈ X.pn ++ pins, p.1 ≠ b
theorem Inv.fpOk {X : Cx} {pins : List (Addr × Obj)} {σ : St} {H H' : Hp} {s : Shared} {b : Addr} (I : Inv X pins σ H s) (hb : s.heap.objs.size ≤ b) (hn : H' b = none) : FpOk X pins H' b := by
  refine ⟨hn, Nat.ne_of_gt (Nat.lt_of_lt_of_le I.lt hb), I.nofs hb, .inr (Nat.le_trans I.sz hb), fun x c e z => ?_, fun p hp z => ?_⟩
  · obtain ⟨v, q⟩ := I.cell x c e
    exact absurd (Nat.lt_of_lt_of_le q.lt (by rw [z]; exact hb)) (Nat.lt_irrefl _)
  · exact absurd (Nat.lt_of_lt_of_le (Heap.lt_size (I.pin p hp).1) (by rw [z]; exact hb)) (Nat.lt_irrefl _)
structure Turn (P : Program) (w : World) (K : PySem.W.Frag) (tg : Expr) (J : It) (fp : List Addr) (it : Addr) (tn : Nat → Heap → Prop) : Prop where
  mem : it ∈ fp
  obj : ∀ i h, tn i h → ∀ b ∈ fp, ∃ o, h.get? b = some o ∧ ∀ v, o.data ≠ .cell v
  keep : ∀ i h h', tn i h → (∀ b ∈ fp, ∀ o, h.get? b = some o → h'.get? b = some o) → tn i h'
  item : ∀ (X : Cx), X.prog = P → X.w = w → X.K = K → X.calm = true → ∀ (i : Nat) (pins : List (Addr × Obj)) (s : Shared) (σ : St) (H : Hp) (E : Value → Shared → Prop), Inv X pins σ H s → (∀ b ∈ fp, FpOk X pins H b) → tn i s.heap → J.go i H →
    wpAny (model P w) X.A (pyNext (.ref it)) (fun r s1 => ∃ u, r = some u ∧
      wpAny (model P w) X.A (letOwnedTupleGo tg (.ref it) u) (fun _ s2 => ∃ x H', Inv X pins σ H' s2 ∧ RelV x u ∧ J.yld i H x H' ∧ tn (i + 1) s2.heap ∧ ∀ b ∈ fp, H' b = none) E s1) E s
  done : ∀ (X : Cx), X.prog = P → X.w = w → X.K = K → X.calm = true → ∀ (i : Nat) (pins : List (Addr × Obj)) (s : Shared) (σ : St) (H : Hp) (E : Value → Shared → Prop), Inv X pins σ H s → (∀ b ∈ fp, FpOk X pins H b) → tn i s.heap → J.stop i H →
    wpAny (model P w) X.A (pyNext (.ref it)) (fun r s1 => r = none ∧ Inv X pins σ H s1) E s
  self : ∀ (A : Around) (i : Nat) (s : Shared) (Q : Value → Shared → Prop) (E : Value → Shared → Prop), tn i s.heap → Q (.ref it) s → wpAny (model P w) A (pyIter (.ref it)) Q E s
abbrev TI := St → Hp → (It → Hp → Prop) → Prop
def PIE (X : Cx) (pins : List (Addr × Obj)) (σ : St) (tg : Expr) (R : It → Hp → Prop) (itv : Value) (s2 : Shared) : Prop :=
  ∃ (it : Addr) (fp : List Addr) (tn : Nat → Heap → Prop) (J : It) (H' : Hp), itv = .ref it ∧ Inv X pins σ H' s2 ∧ Turn X.prog X.w X.K tg J fp it tn ∧ tn 0 s2.heap ∧ (∀ b ∈ fp, FpOk X pins H' b) ∧ R J H'
def PI (X : Cx) (tg iter : Expr) (wi : TI) : Prop :=
  ∀ (pins : List (Addr × Obj)) (s : Shared) (σ : St) (H : Hp) (R : It → Hp → Prop), Inv X pins σ H s → wi σ H R →
    wpAny (model X.prog X.w) X.A (eval iter X.env) (fun v s1 => wpAny (model X.prog X.w) X.A (pyIter v) (PIE X pins σ tg R) X.xe s1) X.xe s
theorem go_of {M : Model} {A : Around} {E : Value → Shared → Prop} {s : Shared} {tg : Expr} {it : Addr} {u : Value} {o : Obj} {n : String} {vs : Array Value} {Q : Unit → Shared → Prop} (ho : s.heap.get? it = some o) (hc : o.cls = .type n) (hd : o.data = .fields vs)
    (hn : ["enumerate", "zip", "dict_itemiterator", "dict_reverseitemiterator", "odict_iterator", "itertools.zip_longest", "itertools.pairwise"].contains n = false) (hQ : Q () s) : wpAny M A (letOwnedTupleGo tg (.ref it) u) Q E s := by
  unfold letOwnedTupleGo
  cases tg <;> first
    | exact wpAny_pure hQ
    | (cases u <;> first
        | exact wpAny_pure hQ
        | (refine wpAny_bind (wpAny_load ho ?_)
           rw [hc, hd]
           show wpAny M A (if (["enumerate", "zip", "dict_itemiterator", "dict_reverseitemiterator", "odict_iterator", "itertools.zip_longest", "itertools.pairwise"].contains n && vs[0]? == some (rawInt _)) = true then _ else _) Q E s
           rw [if_neg (by intro h; rw [hn, Bool.false_and] at h; cases h)]
           exact wpAny_pure hQ))
def Itl (K : PySem.W.Frag) (a : Addr) : It :=
  ⟨fun i H => ∃ xs x, SqL K H a xs ∧ xs[i]? = some x, fun i H x H' => H' = H ∧ ∀ xs, SqL K H a xs → xs[i]? = some x, fun i H => ∃ xs, SqL K H a xs ∧ xs.length ≤ i⟩
def Itt (K : PySem.W.Frag) (a : Addr) : It :=
  ⟨fun i H => ∃ xs x, SqT K H a xs ∧ xs[i]? = some x, fun i H x H' => H' = H ∧ ∀ xs, SqT K H a xs → xs[i]? = some x, fun i H => ∃ xs, SqT K H a xs ∧ xs.length ≤ i⟩
def Itr (lo : Int) (n : Nat) : It := ⟨fun i _ => i < n, fun i H x H' => H' = H ∧ x = .int (lo + i), fun i _ => n ≤ i⟩
theorem turn_list {P : Program} {w : World} {K : PySem.W.Frag} {tg : Expr} (a it : Addr) : Turn P w K tg (Itl K a) [it] it (fun i h => h.IsListIter it a i) where
  mem := by simp
  obj := fun i h st b hb => by
    have e : b = it := by simpa using hb
    subst e
    obtain ⟨o, e, c, d⟩ := st
    exact ⟨o, e, fun v z => by rw [d] at z; cases z⟩
  keep := fun i h h' st k => st.at fun o e => k it (by simp) o e
  item := by
    intro X hP hw hK hc i pins s σ H E I hf st hg
    subst hP hw hK
    obtain ⟨xs, x, hq, hx⟩ := hg
    obtain ⟨its, rv, p, hz⟩ := I.list hq
    obtain ⟨u, hu, ru⟩ := rv.get hx
    obtain ⟨f0, f1, f2, f3, f4, f5⟩ := hf it (by simp)
    refine wpAny_pyNext_list_item st p.isList (x := u) (by simpa using hu) fun h' st' sb => ?_
    have I1 : Inv X pins σ H { s with heap := h' } := I.turned (t' := s.toks) (fun b o hb e => (sb.2 b hb).trans e) f0 f1 f3 f4 f5
    obtain ⟨o, e, c, d⟩ := id st'
    exact ⟨u, rfl, go_of (s := { s with heap := h' }) e c d (by decide) ⟨x, H, I1, ru, ⟨rfl, fun ys hy => by rw [I.list_inj hy hq]; exact hx⟩, st', fun b hb => (hf b hb).1⟩⟩
  done := by
    intro X hP hw hK hc i pins s σ H E I hf st hg
    subst hP hw hK
    obtain ⟨xs, hq, hx⟩ := hg
    obtain ⟨its, rv, p, hz⟩ := I.list hq
    obtain ⟨f0, f1, f2, f3, f4, f5⟩ := hf it (by simp)
    have hl := rv.length
    exact wpAny_pyNext_list_end (I.ok.hd hc) st p.isList (by simp; omega) fun h' eb => ⟨rfl, I.turned (t' := s.toks) (fun b o hb e => eb b o hb e) f0 f1 f3 f4 f5⟩
  self := fun _ _ _ _ _ st h => wpAny_pyIter_listiter st h
theorem turn_tuple {P : Program} {w : World} {K : PySem.W.Frag} {tg : Expr} (a it : Addr) : Turn P w K tg (Itt K a) [it] it (fun i h => h.IsTupleIter it a i) where
  mem := by simp
  obj := fun i h st b hb => by
    have e : b = it := by simpa using hb
    subst e
    obtain ⟨o, e, c, d⟩ := st
    exact ⟨o, e, fun v z => by rw [d] at z; cases z⟩
  keep := fun i h h' st k => st.at fun o e => k it (by simp) o e
  item := by
    intro X hP hw hK hc i pins s σ H E I hf st hg
    subst hP hw hK
    obtain ⟨xs, x, hq, hx⟩ := hg
    obtain ⟨its, rv, p, hz⟩ := I.tuple hq
    obtain ⟨u, hu, ru⟩ := rv.get hx
    obtain ⟨f0, f1, f2, f3, f4, f5⟩ := hf it (by simp)
    refine wpAny_pyNext_tuple_item st (show s.heap.IsTuple a its.toArray from p) (x := u) (by simpa using hu) fun h' st' sb => ?_
    have I1 : Inv X pins σ H { s with heap := h' } := I.turned (t' := s.toks) (fun b o hb e => (sb.2 b hb).trans e) f0 f1 f3 f4 f5
    obtain ⟨o, e, c, d⟩ := id st'
    exact ⟨u, rfl, go_of (s := { s with heap := h' }) e c d (by decide) ⟨x, H, I1, ru, ⟨rfl, fun ys hy => by rw [I.tuple_inj hy hq]; exact hx⟩, st', fun b hb => (hf b hb).1⟩⟩
  done := by
    intro X hP hw hK hc i pins s σ H E I hf st hg
    subst hP hw hK
    obtain ⟨xs, hq, hx⟩ := hg
    obtain ⟨its, rv, p, hz⟩ := I.tuple hq
    obtain ⟨f0, f1, f2, f3, f4, f5⟩ := hf it (by simp)
    have hl := rv.length
    exact wpAny_pyNext_tuple_end (I.ok.hd hc) st (show s.heap.IsTuple a its.toArray from p) (by simp; omega) fun h' eb => ⟨rfl, I.turned (t' := s.toks) (fun b o hb e => eb b o hb e) f0 f1 f3 f4 f5⟩
  self := fun _ _ _ _ _ st h => wpAny_pyIter_tupleiter st h
theorem turn_range {P : Program} {w : World} {K : PySem.W.Frag} {tg : Expr} (it : Addr) (lo : Int) (n : Nat) : Turn P w K tg (Itr lo n) [it] it (fun i h => IsRangeIter h it (lo + (i : Nat) * 1) ((n : Int) - (i : Nat)) 1) where
  mem := by simp
  obj := fun i h st b hb => by
    have e : b = it := by simpa using hb
    subst e
    exact ⟨_, st, fun v z => by
      have z' : Data.fields _ = Data.cell v := z
      cases z'⟩
  keep := fun i h h' st k => k it (by simp) _ st
  item := by
    intro X hP hw hK hc i pins s σ H E I hf st hg
    subst hP hw hK
    obtain ⟨f0, f1, f2, f3, f4, f5⟩ := hf it (by simp)
    have W := Walks.range (prog := X.prog) (w := X.w) (I.ok.hd hc) it lo 1 n
    refine W.item i s _ _ hg st fun v h' tk hv st' kk => ?_
    obtain ⟨t, rfl⟩ := hv
    have I1 : Inv X pins σ H { s with heap := h', toks := tk } := I.turned (fun b o hb e => kk b o (by simpa using hb) e) f0 f1 f3 f4 f5
    refine ⟨_, rfl, go_of (s := { s with heap := h', toks := tk }) (n := "range_iterator") st' rfl rfl (by decide) ⟨.int (lo + i), H, I1, ⟨t, ?_⟩, ⟨rfl, rfl⟩, st', fun b hb => (hf b hb).1⟩⟩
    rw [Int.mul_one]
  done := by
    intro X hP hw hK hc i pins s σ H E I hf st hg
    subst hP hw hK
    obtain ⟨f0, f1, f2, f3, f4, f5⟩ := hf it (by simp)
    exact wpAny_pyNext_range_end (I.ok.hd hc) st (by have : n ≤ i := hg; omega) fun h' eb => ⟨rfl, I.turned (t' := s.toks) (fun b o hb e => eb b o hb e) f0 f1 f3 f4 f5⟩
  self := fun _ _ _ _ _ st h => wpAny_pyIter_rangeiter st h
end L2
namespace L2
open PySem PySem.Spec PyProof.Rows
section
variable {X : Cx} {tg : Expr}
theorem range_it {pins : List (Addr × Obj)} {σ : St} {H : Hp} {s : Shared} {R : It → Hp → Prop} {E : Value → Shared → Prop} {lo hi : Int} {t u v : Tok} {tk : Nat} (I : Inv X pins σ H s) (h1 : -(2 ^ 62) ≤ lo) (h2 : lo < 2 ^ 62) (h3 : -(2 ^ 62) ≤ hi) (h4 : hi < 2 ^ 62)
    (q : R (Itr lo (hi - lo).toNat) H) : wpAny (model X.prog X.w) X.A (pyIter (.ref s.heap.objs.size)) (PIE X pins σ tg R) E { s with heap := s.heap.push { cls := .type "range", data := .fields #[.int lo t, .int hi u, .int 1 v] }, toks := tk } := by
  refine wpAny_pyIter_range (IsRange.new ..) (small_one h1 h2 h3 h4) ?_
  have I1 : Inv X pins σ H { s with heap := s.heap.push { cls := .type "range", data := .fields #[.int lo t, .int hi u, .int 1 v] }, toks := tk } := I.kept fun b o e => Heap.get?_push_of_some _ e
  refine ⟨(s.heap.push { cls := .type "range", data := .fields #[.int lo t, .int hi u, .int 1 v] }).objs.size, [(s.heap.push { cls := .type "range", data := .fields #[.int lo t, .int hi u, .int 1 v] }).objs.size], _, _, H, rfl,
    I1.kept (t' := tk) fun b o e => Heap.get?_push_of_some _ e, turn_range _ lo (hi - lo).toNat, ?_, fun b hb => ?_, q⟩
  · have e1 : lo + ((0 : Nat) : Int) * 1 = lo := by simp
    have e2 : (((hi - lo).toNat : Nat) : Int) - ((0 : Nat) : Int) = Builtin.Range.rangeSize lo hi 1 := by rw [rangeSize_one]; split <;> omega
    show IsRangeIter _ _ (lo + ((0 : Nat) : Int) * 1) ((((hi - lo).toNat : Nat) : Int) - ((0 : Nat) : Int)) 1
    rw [e1, e2]
    exact Heap.get?_push_size _ rfl
  · have e : b = (s.heap.push { cls := .type "range", data := .fields #[.int lo t, .int hi u, .int 1 v] }).objs.size := by simpa using hb
    subst e
    exact I1.fpOk (Nat.le_refl _) (I1.hok.fresh (Nat.le_refl _))
def iRng1 (ta : TA) : TI := fun σ H R => ta σ H fun vs H1 => ∃ j : Int, vs = [.int j] ∧ -(2 ^ 62) ≤ j ∧ j < 2 ^ 62 ∧ R (Itr 0 j.toNat) H1
theorem pi_range1 {a : Expr} {ta : TA} {p pos : Pos} (hg : Gl X "range") (hm : X.mg "range" = none) (ha : PA X [a] ta) (hs : starEach [a] X.env = [(false, eval a X.env)] := by rfl) : PI X tg (.Call (.Name "range" p) [a] [] pos) (iRng1 ta) := by
  intro pins s σ H R I h
  refine Call_ (ld_blt I hg hm boot_range (PyProof.Rows.callWith_type1 (thn (ha pos pins s σ H _ I h) fun us s1 ⟨vs, H1, I1, r1, q1⟩ => ?_) hs rfl))
  obtain ⟨j, e, q1, q2, q⟩ := q1
  subst e
  cases r1 with
  | cons r rr =>
    cases rr
    obtain ⟨t, rfl⟩ := r
    exact call_range_1 (range_it I1 (by omega) (by omega) q1 q2 (by simpa using q))
def tFor (wi : TI) (g : TG) (tb : TS) : TS := fun D σ H => wi σ H fun J H1 => ∃ W : Nat → Nat → St → Hp → Prop, (∃ m, W 0 m σ H1) ∧ ∀ i m σ H, W i m σ H →
  (J.stop i H ∧ D.nx σ H) ∨ (J.go i H ∧ ∃ N : St → Hp → Prop, (∀ σ' H', N σ' H' → ∃ m', m' < m ∧ W (i + 1) m' σ' H') ∧ ∀ x H', J.yld i H x H' → g x σ H' fun σ2 H2 => tb { D with nx := N, ct := N, bk := D.nx } σ2 H2)
def pinsAt (fp : List Addr) (h : Heap) : List (Addr × Obj) := fp.filterMap fun b => (h.get? b).map fun o => (b, o)
theorem mem_pinsAt {fp : List Addr} {h : Heap} {b : Addr} {o : Obj} (hb : b ∈ fp) (e : h.get? b = some o) : (b, o) ∈ pinsAt fp h := List.mem_filterMap.mpr ⟨b, hb, by rw [e]; rfl⟩
theorem of_pinsAt {fp : List Addr} {h : Heap} {p : Addr × Obj} (hp : p ∈ pinsAt fp h) : p.1 ∈ fp ∧ h.get? p.1 = some p.2 := by
  obtain ⟨b, hb, e⟩ := List.mem_filterMap.mp hp
  cases q : h.get? b with
  | none => rw [q] at e; cases e
  | some o =>
    rw [q] at e
    have e' : (b, o) = p := Option.some.inj e
    subst e'
    exact ⟨hb, q⟩
theorem Inv.pinned {pins : List (Addr × Obj)} {σ : St} {H : Hp} {s : Shared} {fp : List Addr} (I : Inv X pins σ H s) (hf : ∀ b ∈ fp, FpOk X pins H b) (ho : ∀ b ∈ fp, ∃ o, s.heap.get? b = some o ∧ ∀ v, o.data ≠ .cell v) : Inv X (pins ++ pinsAt fp s.heap) σ H s :=
  I.pins_of fun p hp => (List.mem_append.mp hp).elim (fun z => I.pin p (List.mem_append_right _ z)) fun z => by
    obtain ⟨hb, e⟩ := of_pinsAt z
    obtain ⟨f0, f1, f2, _⟩ := hf p.1 hb
    obtain ⟨o, e', d⟩ := ho p.1 hb
    rw [e] at e'; cases e'
    exact ⟨e, f0, f1, f2, d⟩
theorem Inv.unpinned {pins pl : List (Addr × Obj)} {σ : St} {H : Hp} {s : Shared} (I : Inv X (pins ++ pl) σ H s) : Inv X pins σ H s := I.pins_of fun p hp => I.pin p (List.mem_append_right _ (List.mem_append_left _ hp))
theorem ps_for {iter : Expr} {body : List Stmt} {wi : TI} {g : TG} {tb : TS} {pos : Pos} (hp : PassesOwn (model X.prog X.w) X.A X.env X.xe) (hc : X.calm = true) (hi : PI X tg iter wi) (hg : PG X tg g) (hb : PSs X body tb)
    (hs : ∀ x, foldedSetIterable iter X.env x = pure x := by intro _; rfl) : PS X (.For tg iter body [] pos) (tFor wi g tb) := by
  intro pins s σ H D I h
  refine wpAny_For (thn (hi pins s σ H _ I h) fun v s1 h1 => thn h1 fun itv s2 h2 => ?_) hs
  obtain ⟨it, fp, tn, J, H2, e, I2, T, st2, f2, W, ⟨m0, w0⟩, turn⟩ := h2
  subst e
  have stat : ∀ {H' : Hp}, (∀ b ∈ fp, H' b = none) → ∀ b ∈ fp, FpOk X pins H' b := fun hn b hb => ⟨hn b hb, (f2 b hb).2⟩
  refine codeAny_forLoop_any (fun n s' => ∃ i σ' H', Inv X pins σ' H' s' ∧ tn i s'.heap ∧ (∀ b ∈ fp, H' b = none) ∧ W i n σ' H') ?_ m0 ⟨0, σ, H2, I2, st2, fun b hb => (f2 b hb).1, w0⟩
  rintro n s3 ⟨i, σ3, H3, I3, st3, fr3, w3⟩
  rcases turn i n σ3 H3 w3 with ⟨stop, qn⟩ | ⟨go, N, hN, step⟩
  · refine wpAny_passesOwn hp (thn (T.done X rfl rfl rfl hc i pins s3 σ3 H3 X.xe I3 (stat fr3) st3 stop) fun r s4 ⟨hr, I4⟩ => ?_)
    subst hr
    exact wpAny_execs_nil ⟨σ3, H3, I4, qn⟩
  · refine wpAny_passesOwn hp (thn (T.item X rfl rfl rfl hc i pins s3 σ3 H3 X.xe I3 (stat fr3) st3 go) fun r s4 ⟨u, hr, h4⟩ => ?_)
    subst hr
    refine wpAny_passesOwn hp (thn h4 fun _ s5 ⟨x, H5, I5, r5, y5, st5, fr5⟩ => ?_)
    have I5' := I5.pinned (stat fr5) (T.obj _ _ st5)
    refine wpAny_passesOwn hp (thn (hg _ s5 σ3 H5 x u _ I5' r5 (step x H5 y5)) fun _ s6 ⟨σ6, H6, I6, q6⟩ => ?_)
    refine wpAny_passesOwn hp (thn (hb _ s6 σ6 H6 _ I6 q6) fun f s7 q7 => ?_)
    have again : ∀ {σ7 : St} {H7 : Hp}, Inv X (pins ++ pinsAt fp s5.heap) σ7 H7 s7 → N σ7 H7 → ∃ m, m < n ∧ ∃ i σ' H', Inv X pins σ' H' s7 ∧ tn i s7.heap ∧ (∀ b ∈ fp, H' b = none) ∧ W i m σ' H' := fun {σ7 H7} I7 n7 => by
      obtain ⟨m', hm, w7⟩ := hN σ7 H7 n7
      refine ⟨m', hm, i + 1, σ7, H7, I7.unpinned, T.keep _ _ _ st5 fun b hb o e => (I7.pin (b, o) (List.mem_append_right _ (List.mem_append_right _ (mem_pinsAt hb e)))).1, fun b hb => ?_, w7⟩
      obtain ⟨o, e, d⟩ := T.obj _ _ st5 b hb
      exact (I7.pin (b, o) (List.mem_append_right _ (List.mem_append_right _ (mem_pinsAt hb e)))).2.1
    cases f with
    | next => obtain ⟨σ7, H7, I7, n7⟩ := q7; exact again I7 n7
    | cont => obtain ⟨σ7, H7, I7, n7⟩ := q7; exact again I7 n7
    | brk => obtain ⟨σ7, H7, I7, q7⟩ := q7; exact ⟨σ7, H7, I7.unpinned, q7⟩
    | ret v => obtain ⟨x7, σ7, H7, I7, r7, q7⟩ := q7; exact ⟨x7, σ7, H7, I7.unpinned, r7, q7⟩
end
end L2
namespace L2
open PySem PySem.Spec PyProof.Rows
abbrev R2 := V → V → Hp → VK → Prop
def OpR (X : Cx) (f : Value → Value → Sem Value) (r : R2) : Prop :=
  ∀ (pins : List (Addr × Obj)) (s : Shared) (σ : St) (H : Hp) (x y : V) (v u : Value) (Q : VK), Inv X pins σ H s → RelV x v → RelV y u → r x y H Q →
    wpAny (model X.prog X.w) X.A (f v u) (EP X pins σ Q) X.xe s
def UnR (X : Cx) (f : Value → Sem Value) (r : V → Hp → VK → Prop) : Prop :=
  ∀ (pins : List (Addr × Obj)) (s : Shared) (σ : St) (H : Hp) (x : V) (v : Value) (Q : VK), Inv X pins σ H s → RelV x v → r x H Q →
    wpAny (model X.prog X.w) X.A (f v) (EP X pins σ Q) X.xe s
def CallR (X : Cx) (f : Value) (r : List V → Hp → VK → Prop) : Prop :=
  ∀ (pins : List (Addr × Obj)) (s : Shared) (σ : St) (H : Hp) (xs : List V) (us : List Value) (Q : VK), Inv X pins σ H s → Vals xs us → r xs H Q →
    wpAny (model X.prog X.w) X.A (call f us) (EP X pins σ Q) X.xe s
def tOp (r : R2) (ta tb : TE) : TE := fun σ H Q => ta σ H fun x H1 => tb σ H1 fun y H2 => r x y H2 Q
def tUn (r : V → Hp → VK → Prop) (ta : TE) : TE := fun σ H Q => ta σ H fun x H1 => r x H1 Q
def rI (C : Int → Int → Prop) (g : Int → Int → V) : R2 := fun x y H Q => ∃ i j, x = .int i ∧ y = .int j ∧ C i j ∧ Q (g i j) H
def rI0 (g : Int → Int → V) : R2 := fun x y H Q => ∃ i j, x = .int i ∧ y = .int j ∧ Q (g i j) H
def rU (g : Int → V) : V → Hp → VK → Prop := fun x H Q => ∃ i, x = .int i ∧ Q (g i) H
section
variable {X : Cx} {a b c : Expr} {ta tb tc : TE} {pos : Pos}
theorem binT (ha : PE X a ta) (hb : PE X b tb) {pins : List (Addr × Obj)} {s : Shared} {σ : St} {H : Hp} {R : V → V → Hp → Prop} (I : Inv X pins σ H s)
    (h : ta σ H fun x H1 => tb σ H1 fun y H2 => R x y H2) {Q : Value → Shared → Prop} {f : Value → Value → Sem Value}
    (hf : ∀ v u s2 x y H2, Inv X pins σ H2 s2 → RelV x v → RelV y u → R x y H2 → wpAny (model X.prog X.w) X.A (f v u) Q X.xe s2) :
    wpAny (model X.prog X.w) X.A (eval a X.env) (fun v s₁ => wpAny (model X.prog X.w) X.A (eval b X.env) (fun u s₂ => wpAny (model X.prog X.w) X.A (f v u) Q X.xe s₂) X.xe s₁) X.xe s := by
  refine thn (ha pins s σ H _ I h) fun v s1 ⟨x, H1, I1, r1, q1⟩ => ?_
  refine thn (hb pins s1 σ H1 _ I1 q1) fun u s2 ⟨y, H2, I2, r2, q2⟩ => ?_
  exact hf v u s2 x y H2 I2 r1 r2 q2
theorem pe_op {op : Operator} {r : R2} (ho : OpR X (binaryOp op) r) (ha : PE X a ta) (hb : PE X b tb) : PE X (.BinOp a op b pos) (tOp r ta tb) := by
  intro pins s σ H Q I h
  exact wpAny_BinOp (binT ha hb I h fun v u s2 x y H2 I2 rx ry q => ho pins s2 σ H2 x y v u Q I2 rx ry q)
theorem pe_un {op : UnaryOp} {r : V → Hp → VK → Prop} (ho : UnR X (unaryOp op) r) (ha : PE X a ta) : PE X (.UnaryOp op a pos) (tUn r ta) := by
  intro pins s σ H Q I h
  exact UnaryOp_ (thn (ha pins s σ H _ I h) fun v s1 ⟨x, H1, I1, r1, q1⟩ => ho pins s1 σ H1 x v Q I1 r1 q1)
theorem opI {f : Value → Value → Sem Value} {C : Int → Int → Prop} {g : Int → Int → Int}
    (rule : ∀ (i j : Int) (t u : Tok) (s : Shared) (Q : Value → Shared → Prop) (E : Value → Shared → Prop), C i j → Q (.int (g i j) s.toks) { s with toks := s.toks + 1 } → wpAny (model X.prog X.w) X.A (f (.int i t) (.int j u)) Q E s) :
    OpR X f (rI C fun i j => .int (g i j)) := by
  intro pins s σ H x y v u Q I rx ry h
  obtain ⟨i, j, rfl, rfl, hc, q⟩ := h
  obtain ⟨t, rfl⟩ := rx
  obtain ⟨t', rfl⟩ := ry
  exact rule i j t t' s _ _ hc ⟨.int (g i j), H, I.tok _, ⟨_, rfl⟩, q⟩
theorem opI0 {f : Value → Value → Sem Value} {g : Int → Int → Int}
    (rule : ∀ (i j : Int) (t u : Tok) (s : Shared) (Q : Value → Shared → Prop) (E : Value → Shared → Prop), Q (.int (g i j) s.toks) { s with toks := s.toks + 1 } → wpAny (model X.prog X.w) X.A (f (.int i t) (.int j u)) Q E s) :
    OpR X f (rI0 fun i j => .int (g i j)) := by
  intro pins s σ H x y v u Q I rx ry h
  obtain ⟨i, j, rfl, rfl, q⟩ := h
  obtain ⟨t, rfl⟩ := rx
  obtain ⟨t', rfl⟩ := ry
  exact rule i j t t' s _ _ ⟨.int (g i j), H, I.tok _, ⟨_, rfl⟩, q⟩
theorem opB0 {f : Value → Value → Sem Value} {g : Int → Int → Bool}
    (rule : ∀ (i j : Int) (t u : Tok) (s : Shared) (Q : Value → Shared → Prop) (E : Value → Shared → Prop), Q (.bool (g i j)) s → wpAny (model X.prog X.w) X.A (f (.int i t) (.int j u)) Q E s) :
    OpR X f (rI0 fun i j => .bl (g i j)) := by
  intro pins s σ H x y v u Q I rx ry h
  obtain ⟨i, j, rfl, rfl, q⟩ := h
  obtain ⟨t, rfl⟩ := rx
  obtain ⟨t', rfl⟩ := ry
  exact rule i j t t' s _ _ ⟨.bl (g i j), H, I, rfl, q⟩
def CPow (i j : Int) : Prop := 0 ≤ j ∧ j ≤ 1000000 ∧ i.natAbs < 2 ^ 64
def CMul (i j : Int) : Prop := (-(2 ^ 64) < i ∧ i < 2 ^ 64) ∨ (-(2 ^ 64) < j ∧ j < 2 ^ 64)
theorem CMul.ok {i j : Int} (h : CMul i j) : IntMulOk i j := by
  rcases h with ⟨h1, h2⟩ | ⟨h1, h2⟩
  · exact .of_left (intBits_le_64 h1 h2)
  · exact .of_right (intBits_le_64 h1 h2)
theorem op_add : OpR X (binaryOp .Add) (rI0 fun i j => .int (i + j)) := opI0 fun _ _ _ _ _ _ _ q => add_int q
theorem op_mul : OpR X (binaryOp .Mult) (rI CMul fun i j => .int (i * j)) := opI fun _ _ _ _ _ _ _ hc q => mul_int q hc.ok
theorem op_mod : OpR X (binaryOp .Mod) (rI (fun _ j => 0 < j) fun i j => .int (i % j)) := opI fun i j _ _ _ _ _ hc q => by
  have h1 : (0 : Int) < j := hc
  exact mod_int' (by omega) (by rw [Int.fmod_eq_emod_of_nonneg i (by omega)]; exact q)
theorem op_pow : OpR X (binaryOp .Pow) (rI CPow fun i j => .int (i ^ j.toNat)) := opI fun _ _ _ _ _ _ _ hc q => pow_int_small hc.1 hc.2.1 hc.2.2 q
theorem unI {f : Value → Sem Value} {g : Int → Int}
    (rule : ∀ (i : Int) (t : Tok) (s : Shared) (Q : Value → Shared → Prop) (E : Value → Shared → Prop), Q (.int (g i) s.toks) { s with toks := s.toks + 1 } → wpAny (model X.prog X.w) X.A (f (.int i t)) Q E s) :
    UnR X f (rU fun i => .int (g i)) := by
  intro pins s σ H x v Q I rx h
  obtain ⟨i, rfl, q⟩ := h
  obtain ⟨t, rfl⟩ := rx
  exact rule i t s _ _ ⟨.int (g i), H, I.tok _, ⟨_, rfl⟩, q⟩
theorem un_neg : UnR X (unaryOp .USub) (rU fun i => .int (-i)) := unI fun _ _ _ _ _ q => neg_int q
end
def scal : V → V → Bool
  | .non, .non => true | .non, .int _ => true | .int _, .non => true | .non, .bl _ => true | .bl _, .non => true | .non, .str _ => true | .str _, .non => true
  | .int _, .int _ => true | .bl _, .bl _ => true | .str _, .str _ => true | .byt _, .byt _ => true
  | .int _, .str _ => true | .str _, .int _ => true | .bl _, .str _ => true | .str _, .bl _ => true
  | _, _ => false
def rEq : R2 := fun x y H Q => scal x y = true ∧ Q (.bl (decide (x = y))) H
def rNe : R2 := fun x y H Q => scal x y = true ∧ Q (.bl (!decide (x = y))) H
theorem dec_int {i j : Int} : decide (V.int i = V.int j) = (i == j) := by
  rw [Bool.eq_iff_iff]
  simp
theorem dec_bl {i j : Bool} : decide (V.bl i = V.bl j) = (i == j) := by
  rw [Bool.eq_iff_iff]
  simp
theorem dec_str {i j : Str} : decide (V.str i = V.str j) = (i == j) := by
  rw [Bool.eq_iff_iff]
  simp
theorem dec_byt {i j : Array UInt8} : decide (V.byt i = V.byt j) = (i.toList == j.toList) := by
  rw [Bool.eq_iff_iff]
  cases i
  cases j
  simp
section
variable {X : Cx} {a b c : Expr} {ta tb tc : TE} {pos : Pos}
theorem fin_bl {pins : List (Addr × Obj)} {σ : St} {H : Hp} {s : Shared} {Q : VK} {k k' : Bool} (I : Inv X pins σ H s) (q : Q (.bl k) H) (e : k = k') : EP X pins σ Q (.bool k') s := by
  subst e
  exact ⟨.bl k, H, I, rfl, q⟩
theorem op_eq : OpR X (compareOp .Eq) rEq := by
  intro pins s σ H x y v u Q I rx ry h
  obtain ⟨hs, q⟩ := h
  cases x with
  | non =>
    cases rx
    cases y with
    | non => cases ry; exact PySem.EqNone.eq_none_none (fin_bl I q (by simp))
    | bl j => cases ry; exact PySem.EqNone.eq_none_bool (fin_bl I q (by simp))
    | int j => obtain ⟨t', rfl⟩ := ry; exact PySem.EqNone.eq_none_int (fin_bl I q (by simp))
    | str j => obtain ⟨t', rfl⟩ := ry; exact PySem.EqNone.eq_none_str (fin_bl I q (by simp))
    | _ => exact absurd (show false = true from hs) Bool.false_ne_true
  | bl i =>
    cases rx
    cases y with
    | non => cases ry; exact PySem.EqNone.eq_bool_none (fin_bl I q (by simp))
    | bl j => cases ry; exact eq_bool (fin_bl I q dec_bl)
    | str j => obtain ⟨t', rfl⟩ := ry; exact PySem.EqMixed.eq_bool_str (fin_bl I q (by simp))
    | _ => exact absurd (show false = true from hs) Bool.false_ne_true
  | int i =>
    obtain ⟨t, rfl⟩ := rx
    cases y with
    | non => cases ry; exact PySem.EqNone.eq_int_none (fin_bl I q (by simp))
    | int j => obtain ⟨t', rfl⟩ := ry; exact eq_int (fin_bl I q dec_int)
    | str j => obtain ⟨t', rfl⟩ := ry; exact PySem.EqMixed.eq_int_str (fin_bl I q (by simp))
    | _ => exact absurd (show false = true from hs) Bool.false_ne_true
  | str i =>
    obtain ⟨t, rfl⟩ := rx
    cases y with
    | non => cases ry; exact PySem.EqNone.eq_str_none (fin_bl I q (by simp))
    | bl j => cases ry; exact PySem.EqMixed.eq_str_bool (fin_bl I q (by simp))
    | int j => obtain ⟨t', rfl⟩ := ry; exact PySem.EqMixed.eq_str_int (fin_bl I q (by simp))
    | str j => obtain ⟨t', rfl⟩ := ry; exact eq_str (fin_bl I q dec_str)
    | _ => exact absurd (show false = true from hs) Bool.false_ne_true
  | byt i =>
    obtain ⟨t, rfl⟩ := rx
    cases y with
    | byt j => obtain ⟨t', rfl⟩ := ry; exact PySem.W.eq_bytes (fin_bl I q dec_byt)
    | _ => exact absurd (show false = true from hs) Bool.false_ne_true
  | _ => cases y <;> exact absurd (show false = true from hs) Bool.false_ne_true
theorem op_ne : OpR X (compareOp .NotEq) rNe := by
  intro pins s σ H x y v u Q I rx ry h
  obtain ⟨hs, q⟩ := h
  cases x with
  | non =>
    cases rx
    cases y with
    | non => cases ry; exact PySem.EqNone.ne_none_none (fin_bl I q (by simp))
    | bl j => cases ry; exact PySem.EqNone.ne_none_bool (fin_bl I q (by simp))
    | int j => obtain ⟨t', rfl⟩ := ry; exact PySem.EqNone.ne_none_int (fin_bl I q (by simp))
    | str j => obtain ⟨t', rfl⟩ := ry; exact PySem.EqNone.ne_none_str (fin_bl I q (by simp))
    | _ => exact absurd (show false = true from hs) Bool.false_ne_true
  | bl i =>
    cases rx
    cases y with
    | non => cases ry; exact PySem.EqNone.ne_bool_none (fin_bl I q (by simp))
    | bl j => cases ry; exact ne_bool (fin_bl I q (congrArg not dec_bl))
    | str j => obtain ⟨t', rfl⟩ := ry; exact PySem.EqMixed.ne_bool_str (fin_bl I q (by simp))
    | _ => exact absurd (show false = true from hs) Bool.false_ne_true
  | int i =>
    obtain ⟨t, rfl⟩ := rx
    cases y with
    | non => cases ry; exact PySem.EqNone.ne_int_none (fin_bl I q (by simp))
    | int j => obtain ⟨t', rfl⟩ := ry; exact ne_int (fin_bl I q (congrArg not dec_int))
    | str j => obtain ⟨t', rfl⟩ := ry; exact PySem.EqMixed.ne_int_str (fin_bl I q (by simp))
    | _ => exact absurd (show false = true from hs) Bool.false_ne_true
  | str i =>
    obtain ⟨t, rfl⟩ := rx
    cases y with
    | non => cases ry; exact PySem.EqNone.ne_str_none (fin_bl I q (by simp))
    | bl j => cases ry; exact PySem.EqMixed.ne_str_bool (fin_bl I q (by simp))
    | int j => obtain ⟨t', rfl⟩ := ry; exact PySem.EqMixed.ne_str_int (fin_bl I q (by simp))
    | str j => obtain ⟨t', rfl⟩ := ry; exact ne_str (fin_bl I q (congrArg not dec_str))
    | _ => exact absurd (show false = true from hs) Bool.false_ne_true
  | byt i =>
    obtain ⟨t, rfl⟩ := rx
    cases y with
    | byt j => obtain ⟨t', rfl⟩ := ry; exact PySem.W.ne_bytes (fin_bl I q (congrArg not dec_byt))
    | _ => exact absurd (show false = true from hs) Bool.false_ne_true
  | _ => cases y <;> exact absurd (show false = true from hs) Bool.false_ne_true
theorem op_lt : OpR X (compareOp .Lt) (rI0 fun i j => .bl (decide (i < j))) := opB0 fun _ _ _ _ _ _ _ q => lt_int q
theorem op_le : OpR X (compareOp .LtE) (rI0 fun i j => .bl (decide (i ≤ j))) := opB0 fun _ _ _ _ _ _ _ q => le_int q
theorem op_lt_str : OpR X (compareOp .Lt) (fun x y H Q => ∃ i j, x = .str i ∧ y = .str j ∧ Q (.bl (decide (i.cps.toList < j.cps.toList))) H) := by
  intro pins s σ H x y v u Q I rx ry h
  obtain ⟨i, j, rfl, rfl, q⟩ := h
  obtain ⟨t, rfl⟩ := rx
  obtain ⟨t', rfl⟩ := ry
  exact lt_str (fin_bl I q rfl)
theorem op_notN : OpR X (compareOp .IsNot) (fun x y H Q => y = .non ∧ Q (.bl (!decide (x = .non))) H) := by
  intro pins s σ H x y v u Q I rx ry h
  obtain ⟨rfl, q⟩ := h
  cases ry
  refine isnot_none_gen (fin_bl I q ?_)
  cases x <;> first
    | (cases rx; rfl)
    | (obtain ⟨t, rfl⟩ := rx; rfl)
theorem OpR.or {f : Value → Value → Sem Value} {r r' : R2} (h : OpR X f r) (h' : OpR X f r') : OpR X f (fun x y H Q => r x y H Q ∨ r' x y H Q) := by
  intro pins s σ H x y v u Q I rx ry q
  rcases q with q | q
  · exact h pins s σ H x y v u Q I rx ry q
  · exact h' pins s σ H x y v u Q I rx ry q
theorem nomark (b : Expr) {op : CmpOp} (h : op ≠ .In := by decide) (h2 : op ≠ .NotIn := by decide) : behindInMarks op b = false := by
  have e1 : (op == CmpOp.In) = false := by cases op <;> first | rfl | exact absurd rfl h
  have e2 : (op == CmpOp.NotIn) = false := by cases op <;> first | rfl | exact absurd rfl h2
  cases b <;> simp [behindInMarks, e1, e2]
theorem pe_cmpR {op : CmpOp} {r : R2} (ho : OpR X (compareOp op) r) (ha : PE X a ta) (hb : PE X b tb) (hm : behindInMarks op b = false) : PE X (.Compare a [op] [b] pos) (tOp r ta tb) := by
  intro pins s σ H Q I h
  exact wpAny_Compare1 (binT ha hb I h fun v u s2 x y H2 I2 rx ry q => ho pins s2 σ H2 x y v u Q I2 rx ry q) hm
def tTest (t : TE) : TT := fun σ H Q => t σ H fun x H' => ∃ k, x = .bl k ∧ Q k H'
theorem pt_cmpR {op : CmpOp} {r : R2} (ho : OpR X (compareOp op) r) (ha : PE X a ta) (hb : PE X b tb) (hm : behindInMarks op b = false) : PT X (.Compare a [op] [b] pos) (tTest (tOp r ta tb)) := by
  intro pins s σ H Q I h
  refine wpAny_isTrue_Compare1 (thn (ha pins s σ H _ I h) fun v s1 ⟨x, H1, I1, r1, q1⟩ => thn (hb pins s1 σ H1 _ I1 q1) fun u s2 ⟨y, H2, I2, r2, q2⟩ =>
    thn (ho pins s2 σ H2 x y v u _ I2 r1 r2 q2) fun c s3 ⟨z, H3, I3, r3, k, e, q3⟩ => ?_) hm
  subst e
  cases r3
  exact wpAny_truthy_bool ⟨H3, I3, q3⟩
def tChain (r r' : R2) (ta tb tc : TE) : TE := fun σ H Q => ta σ H fun x H1 => tb σ H1 fun y H2 => r x y H2 fun z H3 => ∃ k, z = .bl k ∧
  (if k = true then tc σ H3 fun w' H4 => r' y w' H4 Q else Q (.bl false) H3)
theorem pe_chain {op op' : CmpOp} {r r' : R2} (ho : OpR X (compareOp op) r) (ho' : OpR X (compareOp op') r') (ha : PE X a ta) (hb : PE X b tb) (hc : PE X c tc)
    (hm : lastMarks [op, op'] [b, c] = false := by with_unfolding_all rfl) : PE X (.Compare a [op, op'] [b, c] pos) (tChain r r' ta tb tc) := by
  intro pins s σ H Q I h
  refine Compare_chain (thn (ha pins s σ H _ I h) fun v s1 ⟨x, H1, I1, r1, q1⟩ => chain_link (thn (hb pins s1 σ H1 _ I1 q1) fun u s2 ⟨y, H2, I2, r2, q2⟩ =>
    thn (ho pins s2 σ H2 x y v u _ I2 r1 r2 q2) fun d s3 ⟨z, H3, I3, r3, k, e, q3⟩ => ?_)) hm
  subst e
  cases r3
  refine wpAny_truthy_bool ?_
  cases k with
  | false => exact ite_ff ⟨.bl false, H3, I3, rfl, q3⟩
  | true => exact ite_tt (chain_last (thn (hc pins s3 σ H3 _ I3 q3) fun w' s4 ⟨z', H4, I4, r4, q4⟩ => ho' pins s4 σ H4 y z' u w' Q I4 r2 r4 q4))
theorem pt_chain {op op' : CmpOp} {r r' : R2} (ho : OpR X (compareOp op) r) (ho' : OpR X (compareOp op') r') (ha : PE X a ta) (hb : PE X b tb) (hc : PE X c tc)
    (hm : lastMarks [op, op'] [b, c] = false := by with_unfolding_all rfl) : PT X (.Compare a [op, op'] [b, c] pos) (tTest (tChain r r' ta tb tc)) := by
  intro pins s σ H Q I h
  refine isTrue_chain (thn (ha pins s σ H _ I h) fun v s1 ⟨x, H1, I1, r1, q1⟩ => test_link (thn (hb pins s1 σ H1 _ I1 q1) fun u s2 ⟨y, H2, I2, r2, q2⟩ =>
    thn (ho pins s2 σ H2 x y v u _ I2 r1 r2 q2) fun d s3 ⟨z, H3, I3, r3, k, e, q3⟩ => ?_)) hm
  subst e
  cases r3
  refine wpAny_truthy_bool ?_
  cases k with
  | false =>
    obtain ⟨k', e', q'⟩ := q3
    cases e'
    exact ite_ff ⟨H3, I3, q'⟩
  | true =>
    refine ite_tt (test_last (thn (hc pins s3 σ H3 _ I3 q3) fun w' s4 ⟨z', H4, I4, r4, q4⟩ => thn (ho' pins s4 σ H4 y z' u w' _ I4 r2 r4 q4) fun d' s5 ⟨z2, H5, I5, r5, k2, e2, q5⟩ => ?_))
    subst e2
    cases r5
    exact wpAny_truthy_bool ⟨H5, I5, q5⟩
theorem isEmpty_kv {κ : Type} {kvs : List (κ × V)} {vs : List (κ × Value)} (r : KV kvs vs) : (!vs.isEmpty) = !kvs.isEmpty := by
  cases r <;> rfl
theorem isEmpty_of {xs : List V} {its : List Value} (r : Vals xs its) : (!its.toArray.isEmpty) = !xs.isEmpty := by
  cases r <;> simp
theorem line63 : (sizeLine : Nat) < 2 ^ 63 := by rw [sizeLine_eq]; decide
theorem op_add_str : OpR X (binaryOp .Add) (fun x y H Q => ∃ i j, x = .str i ∧ y = .str j ∧ i.length + j.length ≤ sizeLine ∧ Q (.str (i ++ j)) H) := by
  intro pins s σ H x y v u Q I rx ry h
  obtain ⟨i, j, rfl, rfl, hz, q⟩ := h
  obtain ⟨t, rfl⟩ := rx
  obtain ⟨t', rfl⟩ := ry
  exact add_str (fun t' tk => ⟨.str (i ++ j), H, I.tok _, ⟨_, rfl⟩, q⟩) hz
theorem vals1 {x : V} {us : List Value} (r : Vals [x] us) : ∃ u, us = [u] ∧ RelV x u := by
  cases r with
  | cons r1 r2 => cases r2; exact ⟨_, rfl, r1⟩
theorem vals2 {x y : V} {us : List Value} (r : Vals [x, y] us) : ∃ u w', us = [u, w'] ∧ RelV x u ∧ RelV y w' := by
  cases r with
  | cons r1 r2 =>
    cases r2 with
    | cons r3 r4 => cases r4; exact ⟨_, _, rfl, r1, r3⟩
end
end L2
namespace L2
open PySem PySem.Spec PyProof.Rows
structure ObjM (h : Heap) (x dx C : Addr) (mA : Str → Option Value) : Prop where
  obj : h.get? x = some (PySem.W.instObj C dx)
  ns : h.Ns1 dx mA
  ne : dx ≠ x
theorem lookIn_ns {h : Heap} {dx : Addr} {mA : Str → Option Value} (n : h.Ns1 dx mA) : ∃ od, h.get? dx = some od ∧ ∀ name, PySem.W.lookIn name od = some (mA name) := by
  obtain ⟨o, es, ep, ho, hd, hk, _, hm⟩ := n
  refine ⟨o, ho, fun name => ?_⟩
  have e := hm name
  unfold nsFind findBy at e
  rw [← Array.find?_toList] at e
  unfold PySem.W.lookIn
  rw [hd]
  dsimp only
  split
  · rename_i y q
    rw [q] at e
    exact congrArg some e
  · rename_i q
    rw [q] at e
    have a : es.toList.any (·.refKey) = false := by
      rw [List.any_eq_false]
      intro y hy
      obtain ⟨z, t, hkey⟩ := hk y (Array.mem_toList_iff.mp hy)
      simp [DictEntry.refKey, hkey]
    have a' : ¬ es.toList.any (·.refKey) = true := by rw [a]; exact Bool.false_ne_true
    rw [if_neg a']
    exact congrArg some e
theorem ObjM.look {h : Heap} {x dx C : Addr} {mA : Str → Option Value} (I : ObjM h x dx C mA) : ∃ od, PySem.W.InstAt h x (PySem.W.instObj C dx) C (some od) ∧ ∀ name, PySem.W.lookIn name od = some (mA name) :=
  let ⟨od, ho, hl⟩ := lookIn_ns I.ns
  ⟨od, ⟨I.obj, rfl, rfl, ho⟩, hl⟩
section
variable {prog : Program} {w : World} {A : Around} {E : Value → Shared → Prop} {s : Shared} {K : PySem.W.Frag} {x dx C f : Addr} {mA : Str → Option Value} {name : Str} {v : Value}
end
theorem RelO.some_of {v : V} {o : Option Value} (r : RelO (some v) o) : ∃ u, o = some u ∧ RelV v u := by
  cases o with
  | none => exact (show False from r).elim
  | some u => exact ⟨u, rfl, r⟩
section
variable {P : Program} {w : World} {H H' : Hp} {h h' : Heap} {a C dx : Addr} {fs fs' : List (Str × V)}
theorem ins_get (hok : HOk P w H h) (e : H a = some (.ins C dx fs)) : ∃ mA, ObjM h a dx C mA ∧ (∀ f, RelO (fs.lookup f) (mA f)) ∧ PySem.Within mA (fs.map (·.1)) ∧ fs.length ≤ 1000 ∧ H dx = some (.own a) := by
  obtain ⟨d, z, ne, ob, mA, n, r, q⟩ := (show ObjOk P w H h a (.ins C dx fs) from hok a _ e)
  exact ⟨mA, ⟨ob, n, ne⟩, r, q, z, d⟩
end
structure Cls (K : PySem.W.Frag) (C : Addr) : Prop where
  pg : PySem.W.plainGet K C Str.empty = true
  hd : PySem.W.hasDictIn K C = true
  po : PySem.W.plainOver K C = true
  sa : PySem.W.findIn K (.ref C) "__setattr__" = some (some (.builtin "object.__setattr__"))
theorem Cls.get {K : PySem.W.Frag} {C : Addr} (c : Cls K C) (f : Str) : PySem.W.plainGet K C f = true := c.pg
section
variable {X : Cx} {pins : List (Addr × Obj)} {σ : St} {H : Hp} {s : Shared} {a C dx : Addr} {fs : List (Str × V)} {f : Str} {v : V} {A : Around} {E : Value → Shared → Prop}
end
section
variable {X : Cx} {o e value : Expr} {f : Str} {pos pos' tpos : Pos} {ta tv : TE}
end
section
variable {X : Cx} {pins : List (Addr × Obj)} {σ : St} {H : Hp} {s : Shared} {A : Around} {E : Value → Shared → Prop} {Q : Value → Shared → Prop} {c : Value} {b : Bool}
inductive TyOf (K : PySem.W.Frag) (H : Hp) : V → Value → Prop where
  | non : TyOf K H .non (.type "NoneType")
  | bl (x : Bool) : TyOf K H (.bl x) (.type "bool")
  | int (i : Int) : TyOf K H (.int i) (.type "int")
  | str (x : Str) : TyOf K H (.str x) (.type "str")
  | flt (x : UInt64) : TyOf K H (.flt x) (.type "float")
  | lst {a : Addr} {xs : List V} (e : H a = some (.lst xs)) : TyOf K H (.ref a) (.type "list")
  | frz {a : Addr} {o : Obj} {xs : List V} (e : H a = some (.frz o (.lst xs))) : TyOf K H (.ref a) (.type "list")
  | tup {a : Addr} {xs : List V} (e : H a = some (.tup xs)) : TyOf K H (.ref a) (.type "tuple")
  | dK {a : Addr} {kvs : List (Key × V)} (e : H a = some (.dK kvs)) : TyOf K H (.ref a) (.type "dict")
  | dT {a : Addr} {kvs : List (List Key × V)} (e : H a = some (.dT kvs)) : TyOf K H (.ref a) (.type "dict")
  | ins {a C dx : Addr} {fs : List (Str × V)} (e : H a = some (.ins C dx fs)) (cl : Cls K C) (ha : PySem.W.findIn K (.ref C) "__class__" = some (some (.builtin "object.__class__")))
      (hn : PySem.W.specialIn K (.builtin "object.__class__") "__get__" = some (some (.builtin "getset_descriptor.__get__"))) (htk : PySem.W.takesIn K (.builtin "object.__class__") = some true)
      (hm : PySem.W.mroIn K C (.type "object") = some true) : TyOf K H (.ref a) (.ref C)
theorem isinst_ok {x : V} {u t : Value} (I : Inv X pins σ H s) (rx : RelV x u) (ty : TyOf X.K H x t) (e : PySem.W.kitOne X.K t c = some b) (h : ∀ tk, Q (.bool b) { s with toks := tk }) :
    wpAny (model X.prog X.w) A (call (.builtin "isinstance") [u, c]) Q E s := by
  cases ty with
  | non => cases (show u = Value.none from rx); exact PySem.W.kia_one PySem.W.kitx_none I.kIn True.intro e (fun z => nomatch z) h
  | bl y => cases (show u = Value.bool y from rx); exact PySem.W.kia_one PySem.W.kitx_bool I.kIn True.intro e (fun z => nomatch z) h
  | int i => obtain ⟨t, q⟩ := (show ∃ t, u = Value.int i t from rx); cases q; exact PySem.W.kia_one PySem.W.kitx_int I.kIn True.intro e (fun z => nomatch z) h
  | str y => obtain ⟨t, q⟩ := (show ∃ t, u = Value.str y t from rx); cases q; exact PySem.W.kia_one PySem.W.kitx_str I.kIn True.intro e (fun z => nomatch z) h
  | flt y => obtain ⟨t, q⟩ := (show ∃ t, u = Value.float y t from rx); cases q; exact PySem.W.kia_one PySem.W.kitx_float I.kIn True.intro e (fun z => nomatch z) h
  | @lst a xs ea =>
    cases (show u = Value.ref a from rx)
    obtain ⟨_, _, n, _, h1⟩ := (show ObjOk X.prog X.w H s.heap a (.lst xs) from I.hok a _ ea)
    exact PySem.W.kia_one PySem.W.kitx_list I.kIn ⟨_, h1, rfl⟩ e (fun z => nomatch z) h
  | @frz a ob xs ea =>
    cases (show u = Value.ref a from rx)
    obtain ⟨_, _, _, n, _, h1⟩ := (show ObjOk X.prog X.w H s.heap a (.frz ob (.lst xs)) from I.hok a _ ea)
    exact PySem.W.kia_one PySem.W.kitx_list I.kIn ⟨_, h1, rfl⟩ e (fun z => nomatch z) h
  | @tup a xs ea =>
    cases (show u = Value.ref a from rx)
    obtain ⟨_, _, _, p⟩ := (show ObjOk X.prog X.w H s.heap a (.tup xs) from I.hok a _ ea)
    obtain ⟨o, h1, h2, _⟩ := p.is
    exact PySem.W.kia_one PySem.W.kitx_tuple I.kIn ⟨o, h1, h2⟩ e (fun z => nomatch z) h
  | @dK a kvs ea =>
    cases (show u = Value.ref a from rx)
    obtain ⟨_, _, vs, _, p⟩ := (show ObjOk X.prog X.w H s.heap a (.dK kvs) from I.hok a _ ea)
    obtain ⟨o, es, ep, h1, h2, _⟩ := p
    exact PySem.W.kia_one PySem.W.kitx_dict I.kIn ⟨o, h1, h2.1⟩ e (fun z => nomatch z) h
  | @dT a kvs ea =>
    cases (show u = Value.ref a from rx)
    obtain ⟨_, _, xs, _, o, es, ep, h1, h2, _⟩ := (show ObjOk X.prog X.w H s.heap a (.dT kvs) from I.hok a _ ea)
    exact PySem.W.kia_one PySem.W.kitx_dict I.kIn ⟨o, h1, h2.1⟩ e (fun z => nomatch z) h
  | @ins a C dx fs ea cl ha hn htk hm =>
    cases (show u = Value.ref a from rx)
    obtain ⟨mA, O, _⟩ := ins_get I.hok ea
    obtain ⟨od, J, _⟩ := O.look
    exact PySem.W.kia_one (PySem.W.kitx_own (cl.get _) cl.hd ha hn htk hm) I.kIn J e (fun z => nomatch z) h
end
end L2
namespace L2
open PySem PySem.Spec PyProof.Rows
structure Room (k : Nat) (A : Around) : Prop where
  hd : A.handled = none
  dp : A.depth + 3 * k + 5 < recursionLimit
  un : A.units + 16 * k + 200 < cLine
theorem Room.mono {j k : Nat} {A : Around} (r : Room k A) (h : j ≤ k) : Room j A := ⟨r.hd, by have := r.dp; omega, by have := r.un; omega⟩
theorem Room.deeper {k : Nat} {A : Around} (r : Room (k + 1) A) (env : Env) : Room k (A.deeper env) :=
  ⟨r.hd, by have := r.dp; show A.depth + 1 + 3 * k + 5 < _; omega, by have := r.un; show A.units + 3 + 16 * k + 200 < _; omega⟩
theorem Room.depth {k : Nat} {A : Around} (r : Room k A) : A.depth < recursionLimit := by have := r.dp; omega
theorem Room.units {k : Nat} {A : Around} (r : Room k A) : A.units + 64 < cLine := by have := r.un; omega
def tNil : TA := fun _ H Q => Q [] H
def tCons (ta : TE) (tr : TA) : TA := fun σ H Q => ta σ H fun x H1 => tr σ H1 fun xs H2 => Q (x :: xs) H2
section
variable {X : Cx} {e : Expr} {es : List Expr} {te : TE} {t : TA} {pos : Pos}
theorem pa_nil : PA X [] tNil := fun _ _ _ _ H Q I h => Calls.spliced_nil ⟨[], H, I, .nil, h⟩
theorem pa_cons (ha : PE X e te) (hr : PA X es t) (hs : starEach (e :: es) X.env = (false, eval e X.env) :: starEach es X.env := by rfl) : PA X (e :: es) (tCons te t) := by
  intro pos pins s σ H Q I h
  rw [hs]
  show wpAny _ _ (spliced ((false, eval e X.env) :: backTo pos (starEach es X.env))) _ _ s
  refine Calls.spliced_cons (thn (ha pins s σ H _ I h) fun u s1 ⟨x, H1, I1, r1, q1⟩ => ?_)
  exact thn (hr pos pins s1 σ H1 _ I1 q1) fun us s2 ⟨xs, H2, I2, r2, q2⟩ => ⟨x :: xs, H2, I2, .cons r1 r2, q2⟩
def tTup (t : TA) : TE := fun σ H Q => t σ H fun xs H1 => xs.length ≤ sizeLine ∧ ∀ p, H1 p = none → Q (.ref p) (upd H1 p (.tup xs))
def tLst (t : TA) : TE := fun σ H Q => t σ H fun xs H1 => xs.length ≤ sizeLine ∧ ∀ p, H1 p = none → Q (.ref p) (upd H1 p (.lst xs))
theorem pe_tup {x1} (h : PA X es t) : PE X (.Tuple es x1 pos) (tTup t) := by
  intro pins s σ H Q I hq
  refine wpAny_Tuple_spliced (thn (h pos pins s σ H _ I hq) fun us s1 ⟨xs, H1, I1, r, z, q⟩ => ⟨by rw [← r.length]; exact z, ?_⟩)
  have hf : H1 s1.heap.objs.size = none := I1.hok.fresh (Nat.le_refl _)
  refine ⟨.ref s1.heap.objs.size, upd H1 s1.heap.objs.size (.tup xs), I1.laid (t' := s1.toks) (fun b u e => Heap.get?_push_of_some _ e) (Nat.le_refl _) ?_, rfl, q _ hf⟩
  exact ⟨z, us, r, ⟨_, Heap.get?_push_size _ rfl⟩⟩
theorem pe_lst (h : PA X es t) : PE X (.List es pos) (tLst t) := by
  intro pins s σ H Q I hq
  refine wpAny_List_spliced (thn (h pos pins s σ H _ I hq) fun us s1 ⟨xs, H1, I1, r, z, q⟩ => ⟨by rw [← r.length]; exact z, ?_⟩)
  have hf : H1 s1.heap.objs.size = none := I1.hok.fresh (Nat.le_refl _)
  refine ⟨.ref s1.heap.objs.size, upd H1 s1.heap.objs.size (.lst xs), I1.laid (t' := s1.toks) (fun b u e => Heap.get?_push_of_some _ e) (Nat.le_refl _) ?_, rfl, q _ hf⟩
  exact ⟨z, us, 0, r, Heap.get?_push_size _ rfl⟩
end
abbrev Sp := List V → Hp → VK → XK → Prop
abbrev CXT := List Env → Hp → Shared → XK → Value → Shared → Prop
structure Env0 (P : Program) (w : World) (K : PySem.W.Frag) (mg : Str → Option Value) (base : Heap) (A : Around) (outer : List Env) (s : Shared) (H : Hp) : Prop where
  frames : A.frames = some outer
  mod : Mod K mg base
  bs : ∀ b o, base.get? b = some o → s.heap.get? b = some o ∧ H b = none
  bsz : base.objs.size ≤ s.heap.objs.size
  funs : s.heap.FunFrames base outer
  frf : ∀ b ∈ frs outer, H b = none
  hok : HOk P w H s.heap
  bare : AllBare s.gens
def CE (outer : List Env) (P : Program) (w : World) (H : Hp) (s : Shared) (Q : VK) (u : Value) (s' : Shared) : Prop :=
  ∃ v H', s'.os = s.os ∧ AllBare s'.gens ∧ Un (frs outer) [] H H' s.heap s'.heap ∧ HOk P w H' s'.heap ∧ RelV v u ∧ Q v H'
def CR (CX : CXT) (outer : List Env) (P : Program) (w : World) (H : Hp) (s : Shared) (Q : VK) (E : XK) (r : Result) (s' : Shared) : Prop :=
  match r with
  | .ok (.ret u) => CE outer P w H s Q u s'
  | .ok _ => False
  | .error e => CX outer H s E e s'
structure FnOk (P : Program) (w : World) (K : PySem.W.Frag) (mg : Str → Option Value) (base : Heap) (CX : CXT) (k : Nat) (f : Addr) (fd : FuncData) (ps : List Str) (sp : Sp) : Prop where
  len : ∀ vs H Q E, sp vs H Q E → vs.length = ps.length
  run : ∀ (A : Around) (outer : List Env) (s : Shared) (H : Hp) (args : Args) (us : List Value) (vs : List V) (Q : VK) (E : XK), Room k A → Env0 P w K mg base A outer s H → BindsTo s fd args (ps.zip us) → Vals vs us → sp vs H Q E →
    codeAny (model P w) A (.call (.ref f) args) (CR CX outer P w H s Q E) s
theorem FnOk.imp {P : Program} {w : World} {K : PySem.W.Frag} {mg : Str → Option Value} {base : Heap} {CX : CXT} {k : Nat} {f : Addr} {fd : FuncData} {ps : List Str} {sp sp' : Sp} (F : FnOk P w K mg base CX k f fd ps sp)
    (h : ∀ vs H Q E, sp' vs H Q E → sp vs H Q E) : FnOk P w K mg base CX k f fd ps sp' :=
  ⟨fun vs H Q E q => F.len vs H Q E (h _ _ _ _ q), fun A outer s H args us vs Q E hr he hb hv hs => F.run A outer s H args us vs Q E hr he hb hv (h _ _ _ _ hs)⟩
section
variable {X : Cx} {pins : List (Addr × Obj)} {σ : St} {H : Hp} {s s' : Shared}
theorem Inv.env0 (I : Inv X pins σ H s) : Env0 X.prog X.w X.K X.mg X.base X.A X.stack s H :=
  ⟨I.ok.frames, I.ok.mod, I.bs, Nat.le_trans I.ok.bsz I.sz, I.stack, I.stkFree, I.hok, I.bare⟩
theorem Inv.after {Q : VK} {u : Value} (I : Inv X pins σ H s) (h : CE X.stack X.prog X.w H s Q u s') : EP X pins σ Q u s' := by
  obtain ⟨v, H', os, bare, un, hok, r, q⟩ := h
  obtain ⟨hh, g, d, t, os'⟩ := s'
  obtain rfl : os' = s.os := os
  exact ⟨v, H', I.call (h' := hh) (g' := g) (d' := d) (t' := t) (ch := []) un hok bare (fun b z => absurd z (by simp)), r, q⟩
end
def tCall (sp : Sp) (dvs : List V) (E : XK) (t : TA) : TE := fun σ H Q => t σ H fun vs H1 => sp (vs ++ dvs) H1 Q E
def Binds (K : PySem.W.Frag) (fd : FuncData) (ps : List Str) (ds : List Value) : Prop :=
  ∀ (s : Shared) (us : List Value), K.In s.heap → (us ++ ds).length = ps.length → BindsTo s fd ⟨us, []⟩ (ps.zip (us ++ ds))
theorem Binds.all {K : PySem.W.Frag} {fd : FuncData} {ps : List Str} (h : ∀ us : List Value, us.length = ps.length → bindArgs fd ⟨us, []⟩ = pure (ps.zip us)) : Binds K fd ps [] := fun s us _ hl => by
  rw [List.append_nil] at hl ⊢
  exact .of_eq (h us hl)
def Passes (CX : CXT) (X : Cx) (E : XK) : Prop := ∀ (pins : List (Addr × Obj)) (σ : St) (H : Hp) (s : Shared) (e : Value) (s' : Shared), Inv X pins σ H s → CX X.stack H s E e s' → X.xe e s'
section
variable {X : Cx} {CX : CXT} {k : Nat} {f C : Addr} {fd : FuncData} {ps : List Str} {sp : Sp} {dvs : List V} {ds : List Value} {E : XK} {x m : Str} {p pos apos : Pos} {e o : Expr} {es : List Expr} {ta : TE} {t : TA}
theorem run_fn {pins : List (Addr × Obj)} {σ : St} {H : Hp} {s : Shared} {Q : VK} {us : List Value} {vs : List V} (F : FnOk X.prog X.w X.K X.mg X.base CX k f fd ps sp) (hr : Room k X.A) (hb : Binds X.K fd ps ds) (hd : Vals dvs ds) (hx : Passes CX X E)
    (I : Inv X pins σ H s) (r : Vals vs us) (h : sp (vs ++ dvs) H Q E) : wpAny (model X.prog X.w) X.A (call (.ref f) us) (EP X pins σ Q) X.xe s := by
  have r2 : Vals (vs ++ dvs) (us ++ ds) := r.append hd
  have hl : (us ++ ds).length = ps.length := by rw [← r2.length]; exact F.len _ _ _ _ h
  refine wpAny_call (codeAny_mono (F.run X.A X.stack s H ⟨us, []⟩ (us ++ ds) (vs ++ dvs) Q E hr I.env0 (hb s us I.kIn hl) r2 h) fun r s' hq => ?_)
  cases r with
  | error e => exact hx pins σ H s e s' I hq
  | ok fl =>
    cases fl with
    | ret u => exact I.after hq
    | next => exact False.elim hq
    | brk => exact False.elim hq
    | cont => exact False.elim hq
theorem pe_call (F : FnOk X.prog X.w X.K X.mg X.base CX k f fd ps sp) (hr : Room k X.A) (hg : Gl X x) (hm : X.mg x = some (.ref f)) (hk : PySem.W.keepIn X.K (.ref f) = true) (hb : Binds X.K fd ps ds) (hd : Vals dvs ds) (hx : Passes CX X E)
    (ha : PA X (e :: es) t) (hdb : (x == ("__debug__" : Str)) = false := by decide) (he : starEach (e :: es) X.env = (false, eval e X.env) :: starEach es X.env := by rfl) (hpl : (backTo pos (starEach es X.env)).any (·.1) = false := by rfl) :
    PE X (.Call (.Name x p) (e :: es) [] pos) (tCall sp dvs E t) := by
  intro pins s σ H Q I h
  refine wpAny_Call_Name_kw (ld_glob I hg hm ?_ hdb)
  refine PySem.W.callWith_K (h₀ := X.base) I.ok.mod.kin hk (thn (ha pos pins s σ H _ I h) fun us s1 ⟨vs, H1, I1, r, q⟩ => ⟨I1.kIn, ?_⟩) he hpl
  exact run_fn F hr hb hd hx I1 r q
end
section
variable {X : Cx} {CX : CXT} {k : Nat} {f C : Addr} {fd : FuncData} {ps ks : List Str} {sp : Sp} {E : XK} {x m : Str} {p pos apos kpos : Pos} {e o : Expr} {es : List Expr} {kws : List Keyword} {te ta : TE} {t tk : TA} {nm : Option Str}
variable {g : List Value → List Value → List Value} {gV : List V → List V → List V}
end
structure FnScope (N P : List Str) (sc : Scope) : Prop where
  kind : sc.kind = .function
  co : sc.isCoroutine = false
  gen : sc.isGenerator = false
  nd : N.Nodup
  pre : N.take P.length = P
  par : ∀ x ∈ P, sc.names.lookup x = some .local ∨ sc.names.lookup x = some .cell
  nofree : ∀ y ∈ sc.names, y.2 ≠ .free
theorem bindL_out {kindOf : Str → Option NameKind} {x : Str} : ∀ {binds : List (Str × Value)} {m : Str → Option Value}, (∀ v, (x, v) ∉ binds) → bindL kindOf binds m x = m x
  | [], _, _ => rfl
  | (n, v) :: r, m, h => by
    unfold bindL
    rw [bindL_out fun w hw => h w (List.mem_cons_of_mem _ hw)]
    split
    · have : x ≠ n := by rintro rfl; exact h v List.mem_cons_self
      simp [this]
    · rfl
theorem bindC_out {kindOf : Str → Option NameKind} {x : Str} : ∀ {binds : List (Str × Value)} {m : Str → Option Value}, (∀ v, (x, v) ∉ binds) → bindC kindOf binds m x = m x
  | [], _, _ => rfl
  | (n, v) :: r, m, h => by
    unfold bindC
    rw [bindC_out fun w hw => h w (List.mem_cons_of_mem _ hw)]
    split
    · rfl
    · have : x ≠ n := by rintro rfl; exact h v List.mem_cons_self
      simp [this]
theorem bindL_get {kindOf : Str → Option NameKind} {x : Str} {v : Value} : ∀ {P : List Str} {vs : List Value} {i : Nat} {m : Str → Option Value}, P.Nodup → P[i]? = some x → vs[i]? = some v → kindOf x = some .local →
    bindL kindOf (P.zip vs) m x = some v
  | [], _, _, _, _, h, _, _ => by simp at h
  | _ :: _, [], _, _, _, _, h, _ => by simp at h
  | p :: P, w :: vs, 0, m, nd, h1, h2, hk => by
    simp at h1 h2; subst h1; subst h2
    show bindL kindOf ((p, w) :: P.zip vs) m p = _
    unfold bindL
    rw [bindL_out fun v hv => (List.nodup_cons.mp nd).1 (List.of_mem_zip hv).1, if_pos hk]
    simp
  | p :: P, w :: vs, i + 1, m, nd, h1, h2, hk => by
    show bindL kindOf ((p, w) :: P.zip vs) m x = _
    unfold bindL
    exact bindL_get (i := i) (List.nodup_cons.mp nd).2 (by simpa using h1) (by simpa using h2) hk
theorem bindC_get {kindOf : Str → Option NameKind} {x : Str} {v : Value} : ∀ {P : List Str} {vs : List Value} {i : Nat} {m : Str → Option Value}, P.Nodup → P[i]? = some x → vs[i]? = some v → kindOf x ≠ some .local →
    bindC kindOf (P.zip vs) m x = some v
  | [], _, _, _, _, h, _, _ => by simp at h
  | _ :: _, [], _, _, _, _, h, _ => by simp at h
  | p :: P, w :: vs, 0, m, nd, h1, h2, hk => by
    simp at h1 h2; subst h1; subst h2
    show bindC kindOf ((p, w) :: P.zip vs) m p = _
    unfold bindC
    rw [bindC_out fun v hv => (List.nodup_cons.mp nd).1 (List.of_mem_zip hv).1, if_neg hk]
    simp
  | p :: P, w :: vs, i + 1, m, nd, h1, h2, hk => by
    show bindC kindOf ((p, w) :: P.zip vs) m x = _
    unfold bindC
    exact bindC_get (i := i) (List.nodup_cons.mp nd).2 (by simpa using h1) (by simpa using h2) hk
def start (N : List Str) (vs : List V) : St := vs.map some ++ List.replicate (N.length - vs.length) none
def cxOf (CX : CXT) (P : Program) (w : World) (K : PySem.W.Frag) (mg : Str → Option Value) (base : Heap) (N : List Str) (qual : Str) (scope : Scope) (f : Addr) (cd : Value) (A : Around) (outer : List Env) (s : Shared) (H : Hp) (E : XK) : Cx where
  prog := P
  w := w
  K := K
  mg := mg
  base := base
  A := A.deeper (envOfC qual scope s.heap.objs.size f cd)
  N := N
  s₀ := s
  H₀ := H
  env := envOfC qual scope s.heap.objs.size f cd
  outer := outer
  stack := envOfC qual scope s.heap.objs.size f cd :: outer
  ex := []
  calm := true
  fn := fun _ => true
  pn := []
  xe := fun e s' => wpAny (model P w) (A.deeper (envOfC qual scope s.heap.objs.size f cd)) (leaving (envOfC qual scope s.heap.objs.size f cd) e) (fun _ s'' => CX outer H s E e s'') (fun e' s'' => CX outer H s E e' s'') s'
theorem cell_has {sc : Scope} {n : Nat} {x : Str} (h : sc.names.lookup x = some .cell) : ∃ c, (cellsFrom n sc.names []).lookup x = some c := by
  have q := PySem.W.cellsFrom_some sc.names n [] (.inl h)
  exact Option.isSome_iff_exists.mp q
theorem inv_start {CX : CXT} {P : Program} {w : World} {K : PySem.W.Frag} {mg : Str → Option Value} {base : Heap} {N ps : List Str} {qual : Str} {scope : Scope} {f : Addr} {cd : Value} {A : Around} {outer : List Env} {s s1 : Shared} {H : Hp} {E : XK} {us : List Value} {vs : List V}
    (S : FnScope N ps scope) (hd : A.handled = none) (e0 : Env0 P w K mg base A outer s H) (hl : vs.length = ps.length) (r : Vals vs us)
    (x : InCallC s s.heap.objs.size (bindL (envOfC qual scope s.heap.objs.size f cd).kindOf (ps.zip us) fun _ => none) (cellsFrom (s.heap.objs.size + 1) scope.names []) (bindC (envOfC qual scope s.heap.objs.size f cd).kindOf (ps.zip us) fun _ => none) s1) :
    Inv (cxOf CX P w K mg base N qual scope f cd A outer s H E) [] (start N vs) H s1 := by
  have hpl : ps.length ≤ N.length := by have := congrArg List.length S.pre; rw [List.length_take] at this; omega
  obtain ⟨h1, tk, rfl, hk⟩ := x.done
  have noA : ∀ b : Addr, b ∉ (cxOf CX P w K mg base N qual scope f cd A outer s H E).ex := fun b z => absurd (show b ∈ ([] : List Addr) from z) (by simp)
  refine ⟨⟨e0.mod, S.kind, rfl, rfl, Nat.le_refl _, fun y z c h1 h2 => ?_, fun y hy => ?_, fun y c _ h => ?_, fun _ => hd, Around.frames_deeper e0.frames, .inr ⟨rfl, rfl⟩, fun b z => absurd z (noA b), e0.bs, e0.bsz, fun b _ _ => noA b, fun b z => absurd z (noA b), e0.funs, e0.frf⟩,
    rfl, e0.bare, Un.kept hk, ⟨_, x.toInCall.ns, fun i y v h1 h2 h3 => ?_⟩, fun y c h => ⟨_, x.cell y c h⟩, e0.hok.fresh (Nat.le_refl _), fun y c h => ?_, fun p hp => absurd (show p ∈ ([] : List (Addr × Obj)) from hp) (by simp), e0.hok.kept hk, ?_⟩
  · exact name_of_addr x.apart (PySem.mem_of_lookup h1) (PySem.mem_of_lookup h2)
  · have hy : scope.names.lookup y = some .cell ∨ scope.names.lookup y = some .free := hy
    rcases hy with hy | hy
    · exact cell_has hy
    · exact absurd rfl (S.nofree _ (PySem.mem_of_lookup hy))
  · exact Nat.le_of_lt (x.above y c (PySem.mem_of_lookup h))
  · have hi : i < vs.length := by
      unfold start at h2
      by_cases hi : i < vs.length
      · exact hi
      · rw [List.getElem?_append_right (by simpa using hi)] at h2
        rw [List.getElem?_replicate] at h2
        split at h2 <;> cases h2
    have ha : vs[i]? = some v := by
      unfold start at h2
      rw [List.getElem?_append_left (by simpa using hi), List.getElem?_map] at h2
      cases e : vs[i]? with
      | none => rw [e] at h2; cases h2
      | some a => rw [e] at h2; cases h2; rfl
    obtain ⟨u, hu, rv⟩ := r.get ha
    have hp : ps[i]? = some y := by
      rw [← S.pre, List.getElem?_take_of_lt (by omega)]; exact h1
    have ndP : ps.Nodup := by rw [← S.pre]; exact S.nd.sublist (List.take_sublist _ _)
    refine ⟨u, rv, ?_⟩
    rcases S.par y (List.mem_of_getElem? hp) with k | k
    · exact .inl ⟨k, bindL_get ndP hp hu k⟩
    · obtain ⟨c, e⟩ := cell_has (n := s.heap.objs.size + 1) k
      refine .inr ⟨.inl k, c, e, ?_⟩
      have q := x.cell y c e
      rw [bindC_get ndP hp hu (by show scope.names.lookup y ≠ _; rw [k]; decide)] at q
      exact q
  · exact e0.hok.fresh (Nat.le_of_lt (x.above y c (PySem.mem_of_lookup h)))
  · unfold start
    show _ = N.length
    rw [List.length_append, List.length_map, List.length_replicate]
    omega
theorem fn_of {CX : CXT} {P : Program} {w : World} {K : PySem.W.Frag} {mg : Str → Option Value} {base : Heap} {k : Nat} {f : Addr} {name qual : Str} {params : Arguments} {body : List Stmt} {scope : Scope} {dV kV doc pm cdv ct oc : Value} {an od : Option Addr}
    {osl : Array (Option Value)} {N ps : List Str} {sp : Sp} (lk : K.lookup f = some ⟨oc, od, .func (PySem.W.fnOf name qual params body scope dV kV doc pm an cdv ct), osl⟩) (hcd : PySem.W.codeIn K cdv qual = true) (S : FnScope N ps scope)
    (len : ∀ vs H Q E, sp vs H Q E → vs.length = ps.length)
    (hbody : ∀ (A : Around) (outer : List Env) (s : Shared) (H : Hp) (vs : List V) (Q : VK) (E : XK), Room k (A.deeper (envOfC qual scope s.heap.objs.size f cdv)) → sp vs H Q E →
      ∃ t, PSs (cxOf CX P w K mg base N qual scope f cdv A outer s H E) body t ∧ t { nx := fun _ H' => Q .non H', rt := Q } (start N vs) H) :
    FnOk P w K mg base CX (k + 1) f (PySem.W.fnOf name qual params body scope dV kV doc pm an cdv ct) ps sp := by
  refine ⟨len, fun A outer s H args us vs Q E hr e0 hb r hsp => ?_⟩
  have hl := len _ _ _ _ hsp
  have KX : K.In s.heap := e0.mod.kin.keeps fun b o e => (e0.bs b o e).1
  have lim : s.heap.NoLimit := e0.mod.nolimit.keeps fun b o e => (e0.bs b o e).1
  have hkind : ∀ y ∈ ps.zip us, scope.names.lookup y.1 = some .local ∨ (scope.names.lookup y.1 = some .cell ∧ ((cellsFrom (s.heap.objs.size + 1) scope.names []).lookup y.1).isSome = true) := fun ⟨n, v⟩ hy => by
    rcases S.par n (List.of_mem_zip hy).1 with q | q
    · exact .inl q
    · exact .inr ⟨q, PySem.W.cellsFrom_some _ _ _ (.inl q)⟩
  refine codeAny_call_function hr.depth (KX _ _ lk) rfl S.co S.gen rfl (PySem.W.codeRec_of KX hcd) (hb _ _ _ _ ?_)
  refine wpAny_newFunctionEnv_cells S.kind hkind fun env he s1 x => ?_
  subst he
  refine ⟨lim.keeps x.toInCall.keep, codeAny_func ?_⟩
  obtain ⟨t, ht, hq⟩ := hbody A outer s H vs Q E (hr.deeper _) hsp
  have I : Inv (cxOf CX P w K mg base N qual scope f cdv A outer s H E) [] (start N vs) H s1 := inv_start S hr.hd e0 hl r x
  refine wpAny_mono (ht [] s1 (start N vs) H _ I hq) (fun fl s' hs => ?_) fun e s' hs => hs
  have fin : ∀ {σ' : St} {H' : Hp} {v : V} {u : Value}, Inv (cxOf CX P w K mg base N qual scope f cdv A outer s H E) [] σ' H' s' → RelV v u → Q v H' → CE outer P w H s Q u s' :=
    fun {σ' H' v u} J rv q => ⟨v, H', J.os, J.bare, J.base, J.hok, rv, q⟩
  cases fl with
  | ret u =>
    obtain ⟨v, σ', H', J, rv, q⟩ := hs
    exact fin J rv q
  | next =>
    obtain ⟨σ', H', J, q⟩ := hs
    exact fin (v := V.non) (u := Value.none) J rfl q
  | brk =>
    obtain ⟨_, _, _, q⟩ := hs
    exact False.elim q
  | cont =>
    obtain ⟨_, _, _, q⟩ := hs
    exact False.elim q
end L2
namespace L2
open PySem PySem.Spec PyProof.Rows
section
variable {X : Cx} {x : Str} {p pos : Pos} {e : Expr} {es : List Expr} {t : TA} {id T : String} {r : List V → Hp → VK → Prop}
def tCB (r : List V → Hp → VK → Prop) (t : TA) : TE := fun σ H Q => t σ H fun vs H1 => r vs H1 Q
theorem pe_callB (hc : CallR X (.builtin id) r) (hg : Gl X x) (hm : X.mg x = none) (hv : bootBuiltins x = some (.builtin id)) (ha : PA X (e :: es) t) (hn : x ≠ "__name__" := by decide) (hdb : (x == ("__debug__" : Str)) = false := by decide)
    (he : starEach (e :: es) X.env = (false, eval e X.env) :: starEach es X.env := by rfl) (hpl : (backTo pos (starEach es X.env)).any (·.1) = false := by rfl) : PE X (.Call (.Name x p) (e :: es) [] pos) (tCB r t) := by
  intro pins s σ H Q I h
  refine wpAny_Call_Name_kw (ld_blt I hg hm hv ?_ hn hdb)
  exact PyProof.Rows.callWith_builtin1 (thn (ha pos pins s σ H _ I h) fun us s1 ⟨vs, H1, I1, r1, q1⟩ => hc pins s1 σ H1 vs us Q I1 r1 q1) he hpl
theorem pe_callTy (hc : CallR X (.type T) r) (hg : Gl X x) (hm : X.mg x = none) (hv : bootBuiltins x = some (.type T)) (ha : PA X (e :: es) t) (hn : x ≠ "__name__" := by decide) (hdb : (x == ("__debug__" : Str)) = false := by decide)
    (he : starEach (e :: es) X.env = (false, eval e X.env) :: starEach es X.env := by rfl) (hpl : (backTo pos (starEach es X.env)).any (·.1) = false := by rfl) : PE X (.Call (.Name x p) (e :: es) [] pos) (tCB r t) := by
  intro pins s σ H Q I h
  refine wpAny_Call_Name_kw (ld_blt I hg hm hv ?_ hn hdb)
  exact PyProof.Rows.callWith_type1 (thn (ha pos pins s σ H _ I h) fun us s1 ⟨vs, H1, I1, r1, q1⟩ => hc pins s1 σ H1 vs us Q I1 r1 q1) he hpl
end
end L2
namespace HT
open PySem PyProof.Rows
section
open PySem.SeqAt
open PySem.AutoSeq1 (wpAny_loadPart')
open PySem.MeetsSeq PySem.MeetsSeq2 PySem.MeetsSeq3
end
section
variable {prog : Program} {w : World} {A : Around} {E : Value → Shared → Prop} {s : Shared}
theorem cat_tup {t b : Addr} {vs ws : List Value} {Q : Value → Shared → Prop} (ht : IsTup s.heap t vs.toArray) (hb : IsTup s.heap b ws.toArray) (hv : vs ≠ [])
    (h1 : ws = [] → Q (.ref t) s) (h2 : ws ≠ [] → Q (.ref s.heap.objs.size) { s with heap := s.heap.push { cls := .type "tuple", data := .seq (vs ++ ws).toArray } })
    (hsz : vs.length + ws.length ≤ sizeLine) : wpAny (model prog w) A (binaryOp .Add (.ref t) (.ref b)) Q E s := by
  obtain ⟨⟨cls, dd, data, sl⟩, ho, hc, n, hd⟩ := id ht
  obtain ⟨⟨cls2, dd2, data2, sl2⟩, ho2, hc2, n2, hd2⟩ := id hb
  simp only at hc hd hc2 hd2
  subst hc hd hc2 hd2
  have e : vs.toArray ++ ws.toArray = (vs ++ ws).toArray := by simp
  by_cases hw : ws = []
  · exact concat_meets ⟨_, ho, rfl⟩ ⟨_, ho2, rfl⟩ noFill_tuple_add seq_tuple_add PySem.F.slot_tuple_add PySem.F.entry_tuple_add (PySem.F.args_tuple_add_2 _ _)
      (tuple_addW1 t b vs.toArray ws.toArray n n2 dd dd2 sl sl2 (by simpa using hv) (by simp [hw])) ⟨ho, ho2, h1 hw⟩
  · refine concat_meets ⟨_, ho, rfl⟩ ⟨_, ho2, rfl⟩ noFill_tuple_add seq_tuple_add PySem.F.slot_tuple_add PySem.F.entry_tuple_add (PySem.F.args_tuple_add_2 _ _)
      (tuple_addW2 t b vs.toArray ws.toArray n n2 dd dd2 sl sl2 (by simpa using hv) (by simpa using hw) (by rw [List.size_toArray, List.size_toArray]; exact hsz)) ⟨ho, ho2, ?_⟩
    rw [e]
    exact h2 hw
def sIx (n d : Nat) : Option Int → Nat
  | none => d
  | some v => if v < 0 then (v + (n : Int)).toNat else min v.toNat n
end
end HT
namespace L2
open PySem PySem.Spec PyProof.Rows
abbrev TO := St → Hp → (Option Int → Hp → Prop) → Prop
def PO (X : Cx) (e : Option Expr) (t : TO) : Prop :=
  ∀ (pins : List (Addr × Obj)) (s : Shared) (σ : St) (H : Hp) (Q : Option Int → Hp → Prop), Inv X pins σ H s → t σ H Q →
    wpAny (model X.prog X.w) X.A (evalPart e X.env) (fun u s' => ∃ o H', Inv X pins σ H' s' ∧ IsPart u o ∧ Q o H') X.xe s
def tNoPart : TO := fun _ H Q => Q none H
def tPart (t : TE) : TO := fun σ H Q => t σ H fun x H1 => ∃ i, x = .int i ∧ Q (some i) H1
section
variable {X : Cx} {e : Expr} {te : TE} {lo hi : Option Expr} {tl th : TO} {pos p2 : Pos}
theorem po_none : PO X none tNoPart := by
  intro pins s σ H Q I h
  rw [evalPart_none]
  exact wpAny_pure ⟨none, H, I, .none, h⟩
theorem po_some (h : PE X e te) : PO X (some e) (tPart te) := by
  intro pins s σ H Q I hw
  rw [evalPart_some]
  refine thn (h pins s σ H _ I hw) fun u s1 ⟨x, H1, I1, r1, q1⟩ => ?_
  obtain ⟨i, rfl, q⟩ := q1
  obtain ⟨t, rfl⟩ := r1
  exact ⟨some i, H1, I1, .int i t, q⟩
def SlR (X : Cx) (r : V → Option Int → Option Int → Hp → VK → Prop) : Prop :=
  ∀ (pins : List (Addr × Obj)) (s : Shared) (σ : St) (H : Hp) (x : V) (v vl vu : Value) (lo hi : Option Int) (sl : Addr) (Q : VK), Inv X pins σ H s → RelV x v → s.heap.IsSliceOf sl vl vu .none → IsPart vl lo → IsPart vu hi → r x lo hi H Q →
    ∃ T id, typeLookup (.type T) "__getitem__" = pure (some (.builtin id)) ∧ s.TypeIs v T ∧ wpAny (model X.prog X.w) X.A (getItem v (.ref sl)) (EP X pins σ Q) X.xe s
def tSl (r : V → Option Int → Option Int → Hp → VK → Prop) (te : TE) (tl th : TO) : TE := fun σ H Q => te σ H fun x H1 => tl σ H1 fun l H2 => th σ H2 fun u H3 => r x l u H3 Q
theorem pe_slice {r : V → Option Int → Option Int → Hp → VK → Prop} (hr : SlR X r) (he : PE X e te) (hl : PO X lo tl) (hu : PO X hi th) : PE X (.Subscript e (.Slice lo hi none p2) pos) (tSl r te tl th) := by
  intro pins s σ H Q I h
  refine Subscript_ (thn (he pins s σ H _ I h) fun v s1 ⟨x, H1, I1, r1, q1⟩ => ?_)
  refine wpAny_Slice (thn (hl pins s1 σ H1 _ I1 q1) fun vl s2 ⟨l, H2, I2, pl, q2⟩ => thn (hu pins s2 σ H2 _ I2 q2) fun vu s3 ⟨u, H3, I3, pu, q3⟩ => ?_)
  rw [evalPart_none]
  refine wpAny_pure ?_
  have I4 : Inv X pins σ H3 { s3 with heap := s3.heap.push { cls := .type "slice", data := .fields #[vl, vu, .none] } } := I3.kept (t' := s3.toks) fun b ob q => Heap.get?_push_of_some _ q
  obtain ⟨T, id, hT, ht, hg⟩ := hr pins { s3 with heap := s3.heap.push { cls := .type "slice", data := .fields #[vl, vu, .none] } } σ H3 x v vl vu l u s3.heap.objs.size Q I4 r1 (Heap.IsSliceOf.new ..) pl pu q3
  show wpAny (model X.prog X.w) X.A (subscriptTail e (.Slice lo hi none p2) v (.ref s3.heap.objs.size)) (EP X pins σ Q) X.xe { s3 with heap := s3.heap.push { cls := .type "slice", data := .fields #[vl, vu, .none] } }
  exact tail_any (ops := [.ref s3.heap.objs.size, v]) ht hT hg (by with_unfolding_all rfl)
def rCatT (K : PySem.W.Frag) : R2 := fun x y H Q => ∃ a b xs ys, x = .ref a ∧ y = .ref b ∧ SqT K H a xs ∧ SqT K H b ys ∧ xs ≠ [] ∧ xs.length + ys.length ≤ sizeLine ∧
  (ys = [] → Q (.ref a) H) ∧ (ys ≠ [] → ∀ p, H p = none → Q (.ref p) (upd H p (.tup (xs ++ ys))))
theorem Vals.nil_iff {xs : List V} {us : List Value} (r : Vals xs us) : us = [] ↔ xs = [] := by
  cases r with
  | nil => simp
  | cons _ _ => simp
theorem op_catT : OpR X (binaryOp .Add) (rCatT X.K) := by
  intro pins s σ H x y v u Q I rx ry h
  obtain ⟨a, b, xs, ys, rfl, rfl, ha, hb, hx, hz, q1, q2⟩ := h
  cases rx
  cases ry
  obtain ⟨its, r1, p1, _⟩ := I.tuple ha
  obtain ⟨its2, r2, p2, _⟩ := I.tuple hb
  refine HT.cat_tup p1 p2 (fun z => hx (r1.nil_iff.mp z)) (fun z => ⟨.ref a, H, I, rfl, q1 (r2.nil_iff.mp z)⟩) (fun z => ?_) (by rw [← r1.length, ← r2.length]; exact hz)
  refine ⟨.ref s.heap.objs.size, _, I.laid (t' := s.toks) (o := .tup (xs ++ ys)) (fun b ob q => Heap.get?_push_of_some _ q) (Nat.le_refl _) ?_, rfl, q2 (fun w => z (r2.nil_iff.mpr w)) _ (I.hok.fresh (Nat.le_refl _))⟩
  exact ⟨by rw [List.length_append]; exact hz, _, r1.append r2, TupO.new _ _⟩
end
end L2
namespace L2
open PySem PySem.Spec PyProof.Rows
def ixN (n : Nat) (i : Int) : Option Nat := if 0 ≤ i then (if i < n then some i.toNat else none) else if -(n : Int) ≤ i then some (i + n).toNat else none
def atI {α : Type} (xs : List α) (i : Int) : Option α := (ixN xs.length i).bind fun j => xs[j]?
theorem ixN_seq {n : Nat} {i : Int} {j : Nat} (h : ixN n i = some j) : seqIndex? i n = some j ∧ j < n ∧ -(n : Int) ≤ i ∧ i < n := by
  unfold ixN at h
  by_cases h0 : 0 ≤ i
  · rw [if_pos h0] at h
    by_cases h1 : i < n
    · rw [if_pos h1] at h
      have e : i.toNat = j := Option.some.inj h
      exact ⟨by rw [seqIndex_of h0 h1, e], by omega, by omega, h1⟩
    · rw [if_neg h1] at h; cases h
  · rw [if_neg h0] at h
    by_cases h1 : -(n : Int) ≤ i
    · rw [if_pos h1] at h
      have e : (i + n).toNat = j := Option.some.inj h
      exact ⟨by rw [seqIndex_neg (by omega) h1, e], by omega, h1, by omega⟩
    · rw [if_neg h1] at h; cases h
theorem atI_get {α : Type} {xs : List α} {i : Int} {v : α} (h : atI xs i = some v) : ∃ j, seqIndex? i xs.length = some j ∧ xs[j]? = some v ∧ j < xs.length ∧ -(xs.length : Int) ≤ i ∧ i < xs.length := by
  unfold atI at h
  cases e : ixN xs.length i with
  | none => rw [e] at h; cases h
  | some j =>
    rw [e] at h
    obtain ⟨h1, h2, h3, h4⟩ := ixN_seq e
    exact ⟨j, h1, h, h2, h3, h4⟩
theorem atI_nat {α : Type} {xs : List α} {j : Nat} {v : α} (h : xs[j]? = some v) : atI xs (j : Int) = some v := by
  have hj : j < xs.length := (List.getElem?_eq_some_iff.mp h).1
  have e : ixN xs.length (j : Int) = some j := by
    unfold ixN
    rw [if_pos (by omega), if_pos (by omega)]; simp
  unfold atI; rw [e]; exact h
def PlainIx (b : Expr) : Prop := ∀ o i, subscripted b false o i = operate [o, i] (getItem o i)
def IxR (X : Cx) (r : R2) : Prop :=
  ∀ (value slice : Expr) (pins : List (Addr × Obj)) (s : Shared) (σ : St) (H : Hp) (x y : V) (v u : Value) (Q : VK), Inv X pins σ H s → RelV x v → RelV y u → r x y H Q →
    subscripted slice false v u = operate [v, u] (getItem v u) → wpAny (model X.prog X.w) X.A (subscriptTail value slice v u) (EP X pins σ Q) X.xe s
def MtR (X : Cx) (id : String) (r : V → List V → Hp → VK → Prop) : Prop :=
  ∀ (pins : List (Addr × Obj)) (s : Shared) (σ : St) (H : Hp) (x : V) (xs : List V) (v : Value) (us : List Value) (Q : VK), Inv X pins σ H s → RelV x v → Vals xs us → r x xs H Q →
    wpAny (model X.prog X.w) X.A (call (.builtin id) (v :: us)) (EP X pins σ Q) X.xe s
section
variable {X : Cx} {a b : Expr} {ta tb : TE} {pos : Pos}
theorem IxR.or {r r' : R2} (h : IxR X r) (h' : IxR X r') : IxR X (fun x y H Q => r x y H Q ∨ r' x y H Q) := by
  intro value slice pins s σ H x y v u Q I rx ry q hs
  rcases q with q | q
  · exact h value slice pins s σ H x y v u Q I rx ry q hs
  · exact h' value slice pins s σ H x y v u Q I rx ry q hs
theorem pe_ix {r : R2} (hr : IxR X r) (ha : PE X a ta) (hb : PE X b tb) (hs : PlainIx b) : PE X (.Subscript a b pos) (tOp r ta tb) := by
  intro pins s σ H Q I h
  exact Subscript_ (binT ha hb I h fun v u s2 x y H2 I2 rx ry q => hr a b pins s2 σ H2 x y v u Q I2 rx ry q (hs _ _))
def rIxL (K : PySem.W.Frag) : R2 := fun x y H Q => ∃ p xs i v, x = .ref p ∧ y = .int i ∧ SqL K H p xs ∧ atI xs i = some v ∧ Q v H
def rIxT (K : PySem.W.Frag) : R2 := fun x y H Q => ∃ p xs i v, x = .ref p ∧ y = .int i ∧ SqT K H p xs ∧ atI xs i = some v ∧ Q v H
def rIxS : R2 := fun x y H Q => ∃ z i c, x = .str z ∧ y = .int i ∧ z.length ≤ sizeLine ∧ atI z.cps.toList i = some c ∧ Q (.str ⟨#[c]⟩) H
theorem ix_list : IxR X (rIxL X.K) := by
  intro value slice pins s σ H x y v u Q I rx ry h hs
  obtain ⟨p, xs, i, z, rfl, rfl, hq, he, q⟩ := h
  cases rx
  obtain ⟨t, rfl⟩ := ry
  obtain ⟨its, r, pl, hz⟩ := I.list hq
  obtain ⟨j, h1, h2, h3, h4, h5⟩ := atI_get he
  obtain ⟨w, ew, rw'⟩ := r.get h2
  have hl := r.length
  have hn := line63
  have fin : EP X pins σ Q w s := ⟨z, H, I, rw', q⟩
  by_cases h0 : 0 ≤ i
  · have hj : i.toNat = j := by
      rw [seqIndex_of h0 h5] at h1
      exact Option.some.inj h1
    exact item_listR pl.isList h0 (by omega) (by rw [hj]; simpa using ew) fin hs
  · have hj : (i + (its.toArray.size : Int)).toNat = j := by
      rw [seqIndex_neg (by omega) h4] at h1
      rw [List.size_toArray, ← hl]
      exact Option.some.inj h1
    exact subscriptTail_builtinR (x := w) pl.isList.typeIs slot_list_getitem.lookup
      (wpAny_getItem_list_neg (Q := fun r s' => r = w ∧ EP X pins σ Q r s') pl.isList (by omega) (by rw [List.size_toArray] <;> omega) (by omega) (by rw [hj]; simpa using ew) ⟨rfl, fin⟩) hs
theorem ix_tup : IxR X (rIxT X.K) := by
  intro value slice pins s σ H x y v u Q I rx ry h hs
  obtain ⟨p, xs, i, z, rfl, rfl, hq, he, q⟩ := h
  cases rx
  obtain ⟨t, rfl⟩ := ry
  obtain ⟨its, r, pl, hz⟩ := I.tuple hq
  obtain ⟨j, h1, h2, h3, h4, h5⟩ := atI_get he
  obtain ⟨w, ew, rw'⟩ := r.get h2
  have hl := r.length
  have hn := line63
  have fin : EP X pins σ Q w s := ⟨z, H, I, rw', q⟩
  exact subscriptTail_builtinR (x := w) pl.typeIs slot_tuple_getitem.lookup
    (getItem_tuple (j := j) (Q := fun r s' => r = w ∧ EP X pins σ Q r s') pl (by omega) (by omega) (by rw [List.size_toArray, ← hl]; exact h1) (by simpa using ew) ⟨rfl, fin⟩) hs
theorem ix_str : IxR X rIxS := by
  intro value slice pins s σ H x y v u Q I rx ry h hs
  obtain ⟨z, i, c, rfl, rfl, hz, he, q⟩ := h
  obtain ⟨t, rfl⟩ := rx
  obtain ⟨t', rfl⟩ := ry
  obtain ⟨j, h1, h2, h3, h4, h5⟩ := atI_get he
  have hl : z.cps.toList.length = z.length := by simp [Str.length]
  rw [hl] at h1 h4 h5
  have hn := line63
  exact tail_any (typeIs_str s z t) slot_str_getitem.lookup (getItem_str (c := c) (by
    have e1 : decide (i < -(2 ^ 63 : Int)) = false := decide_eq_false (by omega)
    have e2 : decide (i ≥ 2 ^ 63) = false := decide_eq_false (by omega)
    rw [e1, e2, Bool.or_false]) (by rw [h1]; simpa using h2) ⟨.str ⟨#[c]⟩, H, I.tok _, ⟨_, rfl⟩, q⟩) hs
def rIx (K : PySem.W.Frag) : R2 := fun x y H Q => rIxL K x y H Q ∨ rIxT K x y H Q ∨ rIxS x y H Q
theorem ix_seq : IxR X (rIx X.K) := ix_list.or (ix_tup.or ix_str)
theorem slice_bounds (lo hi : Option Int) (n : Nat) : (sliceBounds lo hi none n).1 = ((HT.sIx n 0 lo : Nat) : Int) ∧ (sliceBounds lo hi none n).2.1 = ((HT.sIx n n hi : Nat) : Int) ∧ (sliceBounds lo hi none n).2.2 = 1 := by
  refine ⟨?_, ?_, rfl⟩
  · cases lo with
    | none => simp [sliceBounds, HT.sIx]
    | some i =>
      simp only [sliceBounds, HT.sIx, Option.getD_none, show (1 : Int) > 0 by decide, if_true]
      by_cases h : i < 0
      · simp only [h, if_true] <;> omega
      · simp only [h, if_false] <;> omega
  · cases hi with
    | none => simp [sliceBounds, HT.sIx]
    | some i =>
      simp only [sliceBounds, HT.sIx, Option.getD_none, show (1 : Int) > 0 by decide, if_true]
      by_cases h : i < 0
      · simp only [h, if_true] <;> omega
      · simp only [h, if_false] <;> omega
theorem slicePick_cut (its : List Value) (lo hi : Option Int) : slicePick its.toArray lo hi none = ((its.drop (HT.sIx its.length 0 lo)).take (HT.sIx its.length its.length hi - HT.sIx its.length 0 lo)).toArray := by
  obtain ⟨h1, h2, h3⟩ := slice_bounds lo hi its.toArray.size
  unfold slicePick
  rw [h1, h2, h3]
  simp only [sliceRange_one, pick_run, List.size_toArray] <;> rfl
theorem call_len_seq : CallR X (.builtin "len") (fun xs H Q => ∃ p ys, xs = [.ref p] ∧ (SqL X.K H p ys ∨ SqT X.K H p ys) ∧ Q (.int ys.length) H) := by
  intro pins s σ H xs us Q I r h
  obtain ⟨p, ys, rfl, hq, q⟩ := h
  obtain ⟨u, rfl, rx⟩ := vals1 r
  cases rx
  have hn := line63
  rcases hq with hq | hq
  · obtain ⟨its, r', pl, hz⟩ := I.list hq
    have hlen := r'.length
    exact Calls.call_len_list pl.isList (by simp only [List.size_toArray] <;> omega) ⟨.int ys.length, H, I.tok _, ⟨s.toks + 1, by rw [List.size_toArray, hlen]⟩, q⟩
  · obtain ⟨its, r', pl, hz⟩ := I.tuple hq
    have hlen := r'.length
    exact len_tuple pl (by simp only [List.size_toArray] <;> omega) ⟨.int ys.length, H, I.tok _, ⟨s.toks + 1, by rw [List.size_toArray, hlen]⟩, q⟩
theorem call_len_str : CallR X (.builtin "len") (fun xs H Q => ∃ z, xs = [.str z] ∧ z.length ≤ sizeLine ∧ Q (.int z.length) H) := by
  intro pins s σ H xs us Q I r h
  obtain ⟨z, rfl, hz, q⟩ := h
  obtain ⟨u, rfl, t, rfl⟩ := vals1 r
  have hn := line63
  exact len_str (by omega) ⟨.int z.length, H, I.tok _, ⟨_, rfl⟩, q⟩
theorem CallR.or {f : Value} {r r' : List V → Hp → VK → Prop} (h : CallR X f r) (h' : CallR X f r') : CallR X f (fun xs H Q => r xs H Q ∨ r' xs H Q) := by
  intro pins s σ H xs us Q I rs q
  rcases q with q | q
  · exact h pins s σ H xs us Q I rs q
  · exact h' pins s σ H xs us Q I rs q
theorem call_tuple_of : CallR X (.type "tuple") (fun xs H Q => ∃ p ys, xs = [.ref p] ∧ ((SqL X.K H p ys ∧ ∀ l, H l = none → Q (.ref l) (upd H l (.tup ys))) ∨ (SqT X.K H p ys ∧ Q (.ref p) H))) := by
  intro pins s σ H xs us Q I r h
  obtain ⟨p, ys, rfl, h⟩ := h
  obtain ⟨u, rfl, rx⟩ := vals1 r
  cases rx
  rcases h with ⟨hq, q⟩ | ⟨hq, q⟩
  · obtain ⟨its, r', pl, hz⟩ := I.list hq
    have hlen := r'.length
    refine call_tuple_list pl.isList (fun h' kp => ?_) (by simp only [List.size_toArray] <;> omega)
    have I1 : Inv X pins σ H { s with heap := h' } := I.kept (t' := s.toks) kp
    have I2 : Inv X pins σ (upd H h'.objs.size (.tup ys)) { s with heap := h'.push { cls := .type "tuple", data := .seq its.toArray } } :=
      I1.laid (t' := s.toks) (fun b o e => Heap.get?_push_of_some _ e) (Nat.le_refl _) (show ObjOk X.prog X.w _ _ _ (.tup ys) from ⟨hz, its, r', TupO.new _ _⟩)
    exact ⟨.ref h'.objs.size, _, I2, rfl, q _ (I1.hok.fresh (Nat.le_refl _))⟩
  · obtain ⟨its, r', pl, hz⟩ := I.tuple hq
    exact call_tuple_same pl ⟨.ref p, H, I, rfl, q⟩
def tyV (K : PySem.W.Frag) (T : String) (x : V) (H : Hp) : Prop := match x with
  | .str _ => T = "str"
  | .int _ => T = "int"
  | .ref p => (T = "list" ∧ ∃ xs, SqL K H p xs) ∨ (T = "tuple" ∧ ∃ o, K.lookup p = some o ∧ o.cls = .type "tuple" ∧ o.dict = none) ∨
      (T = "dict" ∧ ((∃ kvs, H p = some (.dK kvs)) ∨ ∃ kvs, H p = some (.dT kvs))) ∨ (T = "set" ∧ ∃ S n, H p = some (.set S n))
  | _ => False
theorem tyV_is {pins : List (Addr × Obj)} {σ : St} {H : Hp} {s : Shared} {T : String} {x : V} {v : Value} (I : Inv X pins σ H s) (r : RelV x v) (ty : tyV X.K T x H) :
    s.TypeIs v T ∧ ∀ a, v = .ref a → ∃ ob, s.heap.get? a = some ob ∧ ob.dict = none := by
  cases x with
  | str z =>
    obtain ⟨t, rfl⟩ := r
    cases (show T = "str" from ty)
    exact ⟨typeIs_str s z t, fun _ e => nomatch e⟩
  | int i =>
    obtain ⟨t, rfl⟩ := r
    cases (show T = "int" from ty)
    exact ⟨typeIs_int s i t, fun _ e => nomatch e⟩
  | ref p =>
    cases r
    rcases ty with ⟨rfl, xs, hq⟩ | ⟨rfl, o, hk, hc, hd⟩ | ⟨rfl, hk⟩ | ⟨rfl, S, n, hk⟩
    · obtain ⟨its, _, pl, _⟩ := I.list hq
      refine ⟨pl.isList.typeIs, fun a e => ?_⟩
      cases e
      obtain ⟨o, n, e, c, hd, _⟩ := pl
      exact ⟨o, e, hd⟩
    · refine ⟨⟨o, I.kIn p o hk, hc⟩, fun a e => ?_⟩
      cases e
      exact ⟨o, I.kIn _ o hk, hd⟩
    · have z : ∃ o, s.heap.get? p = some o ∧ o.ExactDict := by
        rcases hk with ⟨kvs, hk⟩ | ⟨kvs, hk⟩
        · obtain ⟨_, _, _, _, o, _, _, e, ex, _⟩ := I.hok p _ hk
          exact ⟨o, e, ex⟩
        · obtain ⟨_, _, _, _, o, _, _, e, ex, _⟩ := I.hok p _ hk
          exact ⟨o, e, ex⟩
      obtain ⟨o, e, ex⟩ := z
      refine ⟨⟨o, e, ex.1⟩, fun a e2 => ?_⟩
      cases e2
      exact ⟨o, e, ex.2.1⟩
    · obtain ⟨o, _, _, _, e, ex, _⟩ := I.hok p _ hk
      refine ⟨⟨o, e, ex.1⟩, fun a e2 => ?_⟩
      cases e2
      exact ⟨o, e, ex.2.1⟩
  | _ => exact False.elim ty
def tBM (K : PySem.W.Frag) (T : String) (r : V → List V → Hp → VK → Prop) (to : TE) (t : TA) : TE := fun σ H Q => to σ H fun x H1 => tyV K T x H1 ∧ t σ H1 fun xs H2 => r x xs H2 Q
variable {o e : Expr} {es : List Expr} {to : TE} {t : TA} {name : Str} {apos cpos : Pos} {T id : String} {r : V → List V → Hp → VK → Prop}
theorem pe_bm (pa : PlainAttrs T) (slot : Slot T name id) (hty : typeOf (.builtin id) = pure (.type "method_descriptor")) (hm : MtR X id r) (ho : PE X o to) (ha : PA X (e :: es) t)
    (hbase : attributeBase o name X.env (eval o X.env) = eval o X.env := by rfl)
    (hfew : ((backTo cpos (starEach (e :: es) X.env)).all (fun x => !x.1) && (backToKw cpos (keywordEach [] X.env)).all (fun x => x.1.isSome)
      && decide ((e :: es).length + ([] : List Keyword).length + (if ([] : List Keyword).isEmpty then 0 else 1) < 30)) = true := by rfl)
    (hline : (apos.endLine == cpos.line) = true := by rfl) (hs : starEach (e :: es) X.env = (false, eval e X.env) :: starEach es X.env := by rfl) (hplain : (backTo cpos (starEach es X.env)).any (·.1) = false := by rfl) :
    PE X (.Call (.Attribute o name apos) (e :: es) [] cpos) (tBM X.K T r to t) := by
  intro pins s σ H Q I h
  refine wpAny_Call_method_late hbase hfew hline rfl (thn (ho pins s σ H _ I h) fun v s1 ⟨x, H1, I1, r1, ty, q1⟩ => ?_)
  obtain ⟨h1, h2⟩ := tyV_is I1 r1 ty
  refine ⟨T, id, pa, slot, hty, h1, h2, ?_⟩
  have hA := ha cpos pins s1 σ H1 _ I1 q1
  rw [hs] at hA ⊢
  refine Calls.callWith_builtin (by show (false || (backTo cpos (starEach es X.env)).any (·.1)) = false; rw [hplain] <;> rfl) (Calls.evalArgs_plain ?_)
  exact thn hA fun us s2 ⟨vs, H2, I2, r2, q2⟩ => hm pins s2 σ H2 x vs v us Q I2 r1 r2 q2
end
end L2
namespace L2
open PySem PySem.Spec PyProof.Rows
def MtM (X : Cx) (id : String) (r : V → List V → Hp → VK → Prop) : Prop :=
  ∀ (pins : List (Addr × Obj)) (s : Shared) (σ : St) (H : Hp) (x : V) (xs : List V) (v : Value) (us : List Value) (Q : VK), Inv X pins σ H s → RelV x v → Vals xs us → r x xs H Q →
    wpAny (model X.prog X.w) X.A (call (.builtin id) (v :: us)) (EP X pins σ Q) X.xe s
theorem Vals.one : ∀ {x : V} {us : List Value}, Vals [x] us → ∃ u, us = [u] ∧ RelV x u
  | _, _, .cons r .nil => ⟨_, rfl, r⟩
section
variable {X : Cx} {pins : List (Addr × Obj)} {σ : St} {H : Hp} {s : Shared} {l b : Addr} {xs ys zs : List V}
theorem Inv.lset {its its' : List Value} {n : Nat} {f : Array Value → Array Value} {t' : Nat} (I : Inv X pins σ H s) (hH : H l = some (.lst xs))
    (e : s.heap.get? l = some { cls := .type "list", data := .seq its.toArray n }) (hf : f its.toArray = its'.toArray) (hv : Vals ys its') (hz : ys.length ≤ sizeLine) :
    Inv X pins σ (upd H l (.lst ys)) { s with heap := s.heap.update l (Obj.mapSeq f), toks := t' } := by
  have q := PySem.IsL.update e f
  rw [hf] at q
  refine I.write (x := l) (e := l) (by rw [hH]; exact trivial) (.inl rfl) (fun b' u hb hu => (Heap.get?_update_other s.heap (Obj.mapSeq f) (Ne.symm hb)).trans hu) ⟨_, q⟩ ?_
  exact ⟨hz, its', _, hv, q⟩
theorem Inv.lnew {its : List Value} {t' : Nat} (I : Inv X pins σ H s) (hv : Vals ys its) (hz : ys.length ≤ sizeLine) :
    Inv X pins σ (upd H s.heap.objs.size (.lst ys)) { s with heap := s.heap.push { cls := .type "list", data := .seq its.toArray }, toks := t' } :=
  I.laid (fun _ _ q => Heap.get?_push_of_some _ q) (Nat.le_refl _) ⟨hz, its, 0, hv, Heap.get?_push_size _ rfl⟩
theorem Inv.fresh (I : Inv X pins σ H s) : H s.heap.objs.size = none := I.hok.fresh (Nat.le_refl _)
theorem Inv.lstM (I : Inv X pins σ H s) (hH : H l = some (.lst xs)) : xs.length ≤ sizeLine ∧ ∃ (its : List Value) (n : Nat), Vals xs its ∧ xs.length = its.length ∧ s.heap.get? l = some { cls := .type "list", data := .seq its.toArray n } := by
  obtain ⟨z, its, n, r, e⟩ := I.hok l _ hH
  exact ⟨z, its, n, r, r.length, e⟩
theorem notLongL {n : Nat} (h : n ≤ sizeLine) : Builtin.List.listTooLong n = false := by
  unfold Builtin.List.listTooLong
  exact decide_eq_false (by omega)
end
section
variable {X : Cx}
def rAppend : V → List V → Hp → VK → Prop := fun x vs H Q => ∃ l xs y, x = .ref l ∧ vs = [y] ∧ H l = some (.lst xs) ∧ xs.length < sizeLine ∧ Q .non (upd H l (.lst (xs ++ [y])))
theorem mt_append : MtM X "list.append" rAppend := by
  intro pins s σ H x vs v us Q I rx rv h
  obtain ⟨l, xs, y, rfl, rfl, hH, hz, q⟩ := h
  cases rx
  obtain ⟨u, rfl, ru⟩ := rv.one
  obtain ⟨z, its, n, r, hl, e⟩ := I.lstM hH
  refine call_meets F.slot_list_append ⟨_, e, rfl⟩ F.entry_list_append (F.args_list_append_2 _ _) (PySem.list_append l its.toArray n u (by rw [List.size_toArray]; omega)) ⟨e, ?_⟩
  refine ⟨.non, _, I.lset (its' := its ++ [u]) hH e (by simp) (r.append (.cons ru .nil)) ?_, rfl, q⟩
  rw [List.length_append, List.length_singleton]
  omega
def rExtend : V → List V → Hp → VK → Prop := fun x vs H Q => ∃ l b xs zs, x = .ref l ∧ vs = [.ref b] ∧ H l = some (.lst xs) ∧ H b = some (.lst zs) ∧ xs.length + zs.length ≤ sizeLine ∧ Q .non (upd H l (.lst (xs ++ zs)))
theorem mt_extend : MtM X "list.extend" rExtend := by
  intro pins s σ H x vs v us Q I rx rv h
  obtain ⟨l, b, xs, zs, rfl, rfl, hH, hB, hz, q⟩ := h
  cases rx
  obtain ⟨u, rfl, ru⟩ := rv.one
  cases ru
  obtain ⟨z, its, n, r, hl, e⟩ := I.lstM hH
  obtain ⟨z2, its2, n2, r2, hl2, e2⟩ := I.lstM hB
  have hsz : its.toArray.size + its2.toArray.size ≤ sizeLine := by rw [List.size_toArray, List.size_toArray]; omega
  have hlong : ¬ (!its.toArray.isEmpty && Builtin.List.listTooLong (its.toArray.size + its2.toArray.size)) = true := by
    rw [notLongL hsz, Bool.and_false]
    exact Bool.false_ne_true
  refine call_meets F.slot_list_extend ⟨_, e, rfl⟩ F.entry_list_extend (F.args_list_extend_2 _ _)
    (AutoSeq1.list_extend_list_list_0 l its.toArray n b its2.toArray n2 hlong (by rw [List.size_toArray]; omega) (by omega)) ⟨e, e2, ?_⟩
  refine ⟨.non, _, I.lset (its' := its ++ its2) hH e (by simp) (r.append r2) ?_, rfl, q⟩
  rw [List.length_append]
  omega
def rCat : R2 := fun x y H Q => ∃ l b xs zs, x = .ref l ∧ y = .ref b ∧ H l = some (.lst xs) ∧ H b = some (.lst zs) ∧ xs.length + zs.length ≤ sizeLine ∧ ∀ p, H p = none → Q (.ref p) (upd H p (.lst (xs ++ zs)))
theorem op_cat : OpR X (binaryOp .Add) rCat := by
  intro pins s σ H x y v u Q I rx ry h
  obtain ⟨l, b, xs, zs, rfl, rfl, hH, hB, hz, q⟩ := h
  cases rx
  cases ry
  obtain ⟨z, its, n, r, hl, e⟩ := I.lstM hH
  obtain ⟨z2, its2, n2, r2, hl2, e2⟩ := I.lstM hB
  refine PySem.P.add_list e e2 ?_ (by rw [List.size_toArray, List.size_toArray]; omega)
  have ea : its.toArray ++ its2.toArray = (its ++ its2).toArray := by simp
  rw [ea]
  exact ⟨.ref _, _, I.lnew (t' := s.toks) (r.append r2) (by rw [List.length_append]; omega), rfl, q _ I.fresh⟩
end
section
variable {prog : Program} {w : World} {A : Around} {E : Value → Shared → Prop} {s : Shared}
end
section
variable {X : Cx}
end
end L2
namespace L2
open PySem PySem.Spec PyProof.Rows
section
variable {κ : Type} [DecidableEq κ]
def valV (kvs : List (κ × V)) (k : κ) : Option V := (kvs.find? fun kv => decide (kv.1 = k)).map (·.2)
theorem valV_pos {p : κ × V} {r : List (κ × V)} {k : κ} (e : p.1 = k) : valV (p :: r) k = some p.2 := by simp [valV, List.find?_cons, e]
theorem valV_neg {p : κ × V} {r : List (κ × V)} {k : κ} (e : ¬ p.1 = k) : valV (p :: r) k = valV r k := by simp [valV, List.find?_cons, e]
theorem KV.val {kvs : List (κ × V)} {vs : List (κ × Value)} (r : KV kvs vs) (k : κ) : RelO (valV kvs k) (valueAt vs k) := by
  unfold KV at r
  induction r with
  | nil => exact True.intro
  | @cons p q ps qs h t ih =>
    obtain ⟨h1, h2⟩ := h
    by_cases e : p.1 = k
    · have e' : q.1 = k := h1.symm.trans e
      have b : valueAt (q :: qs) k = some q.2 := by simp [valueAt, List.find?_cons, e']
      rw [valV_pos e, b]; exact h2
    · have e' : ¬ q.1 = k := fun z => e (h1.trans z)
      have b : valueAt (q :: qs) k = valueAt qs k := by simp [valueAt, List.find?_cons, e']
      rw [valV_neg e, b]; exact ih
theorem KV.length {kvs : List (κ × V)} {vs : List (κ × Value)} (r : KV kvs vs) : kvs.length = vs.length := Paired.length r
end
theorem kV_is {P : Program} {w : World} {k : Key} {u : Value} (r : RelV (kV k) u) : (mixKind P w).is k u = true := by
  cases k with
  | inl i => obtain ⟨t, e⟩ := (show ∃ t, u = Value.int i t from r); subst e; exact mixKind_int P w i t
  | inr x => obtain ⟨t, e⟩ := (show ∃ t, u = Value.str x t from r); subst e; exact mixKind_str P w x t
theorem items_are {P : Program} {w : World} : ∀ {ks : List Key} {us : List Value}, Vals (ks.map kV) us → ItemsAre (mixKind P w) ks us
  | [], _, r => by rw [List.map_nil] at r; cases r; exact .nil
  | k :: ks, _, r => by
    rw [List.map_cons] at r
    cases r with
    | cons h t => exact .cons (kV_is h) (items_are t)
abbrev KT (H : Hp) : List (List Key × V) → List (List Key × Addr × Value) → Prop := Paired fun p q => p.1 = q.1 ∧ H q.2.1 = some (.tup (p.1.map kV)) ∧ RelV p.2 q.2.2
theorem KT.val {H : Hp} {kvs : List (List Key × V)} {xs : List (List Key × Addr × Value)} (r : KT H kvs xs) (k : List Key) : RelO (valV kvs k) ((atKey xs k).map (·.2)) := by
  induction r with
  | nil => exact True.intro
  | @cons p q ps qs h t ih =>
    obtain ⟨h1, _, h2⟩ := h
    by_cases e : p.1 = k
    · have e' : q.1 = k := h1.symm.trans e
      have b : atKey (q :: qs) k = some q.2 := by simp [atKey, List.find?_cons, e']
      rw [valV_pos e, b]; exact h2
    · have e' : ¬ q.1 = k := fun z => e (h1.trans z)
      have b : atKey (q :: qs) k = atKey qs k := by simp [atKey, List.find?_cons, e']
      rw [valV_neg e, b]; exact ih
section
variable {P : Program} {w : World} {H : Hp} {h : Heap} {a : Addr}
theorem rd_of {u : HO} (ok : HOk P w H h) (e : Rd H a u) : ObjOk P w H h a u := e.ok ok
theorem dk_rd {kvs : List (Key × V)} (ok : HOk P w H h) (e : Rd H a (.dK kvs)) : kvs.length ≤ sizeLine ∧ (a == sysModules) = false ∧ ∃ vs, KV kvs vs ∧ h.DictOf (mixKind P w) a vs :=
  show ObjOk P w H h a (.dK kvs) from rd_of ok e
theorem key_of {ks : List Key} (ok : HOk P w H h) (e : H a = some (.tup (ks.map kV))) : (tupleKind (mixKind P w)).is h ks a := by
  obtain ⟨_, its, r, p⟩ := (show ObjOk P w H h a (.tup (ks.map kV)) from ok a _ e)
  obtain ⟨o, h1, h2, n, h3⟩ := p.is
  exact ⟨o, its.toArray, n, h1, h2, h3, by simpa using items_are r⟩
theorem dt_rd {kvs : List (List Key × V)} (ok : HOk P w H h) (e : Rd H a (.dT kvs)) : kvs.length ≤ sizeLine ∧ (a == sysModules) = false ∧
    ∃ xs, KT H kvs xs ∧ h.DictOfH (tupleKind (mixKind P w)) a xs := by
  obtain ⟨z, y, xs, r, o, es, ep, h1, h2, h3, h4, h5⟩ := (show ObjOk P w H h a (.dT kvs) from rd_of ok e)
  refine ⟨z, y, xs, r, o, es, ep, h1, h2, h3, h4, fun x hx => ?_, h5⟩
  have all : ∀ {l : List (List Key × V)} {m : List (List Key × Addr × Value)}, KT H l m → ∀ x ∈ m, (tupleKind (mixKind P w)).is h x.1 x.2.1 := by
    intro l m q
    induction q with
    | nil => intro x hx; exact nomatch hx
    | @cons p q ps qs hq t ih =>
      intro x hx
      rcases List.mem_cons.mp hx with e | hx
      · subst e
        exact key_of ok (by rw [← hq.1]; exact hq.2.1)
      · exact ih x hx
  exact all r x hx
end
def DGet (H : Hp) (a : Addr) (y : V) (r : Option V) : Prop :=
  (∃ kvs k, Rd H a (.dK kvs) ∧ y = kV k ∧ r = valV kvs k) ∨ ∃ kvs k b, Rd H a (.dT kvs) ∧ y = .ref b ∧ H b = some (.tup (k.map kV)) ∧ r = valV kvs k
section
variable {X : Cx} {pins : List (Addr × Obj)} {σ : St} {H : Hp} {s : Shared} {a : Addr} {y v : V} {u r : Value} {o : Option V} {A : Around} {E : Value → Shared → Prop}
theorem d_getItem {Q : Value → Shared → Prop} (hu : A.units + 1 < cLine) (I : Inv X pins σ H s) (g : DGet H a y (some v)) (ry : RelV y u) (h : ∀ w' s', Inv X pins σ H s' → RelV v w' → Q w' s') :
    wpAny (model X.prog X.w) A (getItem (.ref a) u) Q E s := by
  rcases g with ⟨kvs, k, e, ey, l⟩ | ⟨kvs, k, b, e, ey, eb, l⟩
  · subst ey
    obtain ⟨z, hd, vs, rel, dd⟩ := dk_rd I.hok e
    obtain ⟨w', hw, rw'⟩ := RelO.some_of (v := v) (o := valueAt vs k) (by rw [l]; exact rel.val k)
    exact wpAny_getItem_of (kV_is ry) dd.mapOf hw (h w' _ (I.tok _) rw')
  · subst ey
    cases (show u = Value.ref b from ry)
    obtain ⟨z, hd, xs, rel, dd⟩ := dt_rd I.hok e
    obtain ⟨w', hw, rw'⟩ := RelO.some_of (v := v) (o := (atKey xs k).map (·.2)) (by rw [l]; exact rel.val k)
    obtain ⟨p, hp, hp2⟩ := Option.map_eq_some_iff.mp hw
    refine wpAny_getItem_heap (tupleKind_room_in1 hu) (key_of I.hok eb) dd hp ?_
    rw [hp2]
    exact h w' _ (I.tok _) rw'
end
section
variable {X : Cx} {pins : List (Addr × Obj)} {σ : St} {H : Hp} {s : Shared} {a : Addr} {kvs : List (Key × V)} {k : Key} {u : Value} {A : Around} {E : Value → Shared → Prop}
theorem d_len {Q : Value → Shared → Prop} (I : Inv X pins σ H s) (e : Rd H a (.dK kvs)) (h : ∀ t s', Inv X pins σ H s' → Q (.int kvs.length t) s') : wpAny (model X.prog X.w) A (call (.builtin "len") [.ref a]) Q E s := by
  obtain ⟨z, hd, vs, rel, dd⟩ := dk_rd I.hok e
  refine call_len_dict hd dd (by rw [← rel.length]; rw [sizeLine_eq] at z; omega) ?_
  rw [← rel.length]
  exact h _ _ (I.tok _)
end
theorem dict_typeIs {X : Cx} {pins : List (Addr × Obj)} {σ : St} {H : Hp} {s : Shared} {a : Addr} {y : V} {o : Option V} (I : Inv X pins σ H s) (g : DGet H a y o) : s.TypeIs (.ref a) "dict" := by
  rcases g with ⟨kvs, k, e, _, _⟩ | ⟨kvs, k, b, e, _, _, _⟩
  · obtain ⟨_, _, vs, _, dd⟩ := dk_rd I.hok e
    exact dd.typeIs
  · obtain ⟨_, _, xs, _, dd⟩ := dt_rd I.hok e
    exact dd.typeIs
section
variable {X : Cx} {o i e value : Expr} {pos pos' tpos : Pos} {td ty tv : TE}
end
section
variable {X : Cx} {pos : Pos}
end
section
variable {X : Cx} {pins : List (Addr × Obj)} {σ : St} {H : Hp} {s : Shared} {a : Addr} {y d : V} {u r : Value} {o : Option V} {A : Around} {E : Value → Shared → Prop}
end
section
variable {X : Cx} {o e f : Expr} {apos cpos : Pos} {td ty tx : TE}
end
section
variable {X : Cx} {pins : List (Addr × Obj)} {σ : St} {H : Hp} {s : Shared} {a : Addr} {kvs : List (Key × V)} {A : Around} {E : Value → Shared → Prop}
end
section
variable {X : Cx} {pins : List (Addr × Obj)} {σ : St} {H : Hp} {s : Shared} {a : Addr} {y : V} {u : Value} {A : Around} {E : Value → Shared → Prop}
end
end L2
namespace Att
open PySem PySem.W PySem.Calls PyProof.Rows
theorem ints_of_wellAll {P : Params} {h : Heap} : ∀ (ns : List Int) (vs : List Value), WellAll P h vs (ns.map WData.int) → IntsAre vs ns := by
  intro ns
  induction ns with
  | nil =>
    intro vs w
    rw [List.map_nil] at w
    cases w
    exact .nil
  | cons n ns ih =>
    intro vs w
    rw [List.map_cons] at w
    cases w with
    | cons a b =>
      cases a
      exact .cons _ _ (ih _ b)
theorem script_of {l : OpenLaw} {n : Nat} (hn : l.most = some n) {P : Params} {h : Heap} {args : List WData} {vals : List Value}
    (hpre : l.row.toRowW.claim.pre args = true) (hwl : WellAll P h vals args) :
    ∃ a vs ns, vals = [Value.ref a] ∧ args = [WData.list (ns.map WData.int)] ∧ h.get? a = some { cls := .type "list", data := .seq vs.toArray } ∧ IntsAre vs ns ∧ ns.length ≤ n := by
  have hsh : WShape.hasAll [] args [.list .int] = true := (pre_splitW hpre).1
  have hc : l.pre.holds [] { args := args } = true := (pre_splitW hpre).2
  obtain ⟨d, r, rfl, h1, h2⟩ := hasAllW_cons hsh
  obtain rfl := hasAllW_nil h2
  obtain ⟨xs, rfl, h3⟩ := hasW_list h1
  obtain ⟨ns, rfl⟩ := items_int h3
  have hlen : ns.length ≤ n := by
    unfold OpenLaw.pre at hc
    have h4 : (WTm.not (.lt (.lit (.int (n : Int))) (.len (.arg 0)))).holds [] { args := [.list (ns.map .int)] } = true := by
      have h4 := (holds_andW hc).1
      rw [hn] at h4
      exact h4
    have h5 := condW_of h4 (w_not (w_lt w_lit (w_len_list (w_arg rfl))))
    rw [List.length_map] at h5
    refine Nat.le_of_not_lt fun q => ?_
    have q' : (n : Int) < ((ns.length : Nat) : Int) := by omega
    first
      | (rw [decide_eq_true q'] at h5; exact absurd h5 (by decide))
      | (simp at h5; omega)
  cases hwl with
  | cons w1 w2 =>
    cases w2
    cases w1 with
    | list ho hall => exact ⟨_, _, ns, rfl, rfl, ho, ints_of_wellAll ns _ hall, hlen⟩
theorem post_true (l : OpenLaw) (args : List WData) : l.row.toRowW.claim.post args (.bool true) args = true :=
  postW_of (r := l.row.toRowW) (X := (true == true))
    (show WShape.has [] (.bool true) .bool = true by first | rfl | decide | simp [WShape.has, WShape.arms, WShape.armsAll])
    (show (WTm.eq .res (.lit (.bool true))).value [] { args := args, res := some (.bool true), after := args } = some (.bool (true == true)) from w_eq_bool (w_res rfl) w_lit) rfl
theorem attach_call {l : OpenLaw} {n : Nat} {q : Program} {loose : List Str} {XP : (Str → Option Value) → Heap → Prop} {YP : World → Heap → Prop} {d : DefRec}
    (hn : l.most = some n) (hdf : d.params.defaults = [])
    (call : ∀ (w : World) (s₀ s₁ : Shared) (mg mb : Str → Option Value) (fa : Addr) (o : Obj) (pm cd doc : Value) (a : Addr) (vs : List Value) (ns : List Int),
      Ground q loose [] XP w s₀ mg mb s₁.heap → YP w s₁.heap →
      s₁.heap.get? fa = some o → o.data = .func (docDef d.name d.params d.body d.scope pm cd doc) → s₁.heap.CodeRec cd d.name → mg d.name = some (.ref fa) →
      s₁.heap.get? a = some { cls := .type "list", data := .seq vs.toArray } → IntsAre vs ns → ns.length ≤ n → s₁.gens = #[] →
      codeAny (model l.prog w) callerA (.call (.ref fa) ⟨[.ref a], []⟩) (fun r s' => r = .ok (.ret (.bool true)) ∧ OldK s₁.heap s'.heap ∧ s'.os = s₁.os ∧ AllBare s'.gens) s₁) :
    WalkO q loose XP YP l.row.toRowW d [] (fun f vs => PySem.call f vs) := by
  intro w s₀ s₁ mg mb G Y fa o pm cd doc dV kV ho hd hcd hD hmg hg args vals as hpre hlay hrd hwl hlo
  obtain rfl : dV = .none := Dflts.none hD hdf
  obtain rfl : kV = .none := Dflts.noKw hD
  obtain ⟨a, vs, ns, rfl, rfl, hobj, hints, hlen⟩ := script_of hn hpre hwl
  refine enter_call (codeAny_mono (call w s₀ s₁ mg mb fa o pm cd doc a vs ns G Y ho (fd_plain hd) hcd hmg hobj hints hlen hg) fun r s' hq => ?_)
  obtain ⟨rfl, h2, h3, h4⟩ := hq
  exact ⟨.inl ⟨.bool true, .bool true, [], rfl, fun _ => rfl, .bool true, post_true l _, fun _ => ⟨List.Pairwise.nil, fun _ hm => (nomatch hm)⟩⟩, h2, h3, h4⟩
section
variable {prog : Program} {w : World} {A : Around} {E : Value → Shared → Prop} {s : Shared} {K : Frag}
end
end Att
namespace L2
open PySem PySem.Spec PyProof.Rows
theorem vals_ints : ∀ {vs : List Value} {ns : List Int}, IntsAre vs ns → Vals (ns.map V.int) vs
  | _, _, .nil => .nil
  | _, _, .cons n t h => .cons ⟨t, rfl⟩ (vals_ints h)
def Only (H : Hp) : Prop := ∀ b, H b = none ∨ ∃ o xs, H b = some (.frz o (.lst xs))
theorem law_call {P : Program} {w : World} {K : PySem.W.Frag} {mg mb : Str → Option Value} {CX : CXT} {k : Nat} {fa a : Addr} {fd : FuncData} {x : Str} {sp : Sp} {s₁ : Shared} {vs : List Value} {ns : List Int}
    (KX : K.In s₁.heap) (hns : s₁.heap.Ns mainGlobals mg) (hb : s₁.heap.Ns builtinsNs mb) (hbb : ∀ x : Str, x ≠ "__name__" → mb x = bootBuiltins x) (hlim : s₁.heap.NoLimit) (hg : s₁.gens = #[])
    (ha : s₁.heap.get? a = some { cls := .type "list", data := .seq vs.toArray }) (hi : IntsAre vs ns) (hl : ns.length ≤ sizeLine) (hr : Room k callerA)
    (F : ∀ base : Heap, K.In base → base.Ns mainGlobals mg → FnOk P w K mg base CX k fa fd [x] sp) (hbind : ∀ (s : Shared) (u : Value), BindsTo s fd ⟨[u], []⟩ [(x, u)])
    (hsp : ∀ H : Hp, Only H → SqL K H a (ns.map V.int) → sp [.ref a] H (fun v _ => v = .bl true) fun _ _ _ => False)
    (hCX : ∀ H e s', CX [] H s₁ (fun _ _ _ => False) e s' → False) :
    codeAny (model P w) callerA (.call (.ref fa) ⟨[.ref a], []⟩) (fun r s' => r = .ok (.ret (.bool true)) ∧ OldK s₁.heap s'.heap ∧ s'.os = s₁.os ∧ AllBare s'.gens) s₁ := by
  have rv := vals_ints hi
  have lenV := hi.length
  have core : ∀ H : Hp, Only H → SqL K H a (ns.map V.int) → HOk P w H s₁.heap → (∀ b, H b ≠ none → b = a) → (H a ≠ none → K.lookup a = none) →
      codeAny (model P w) callerA (.call (.ref fa) ⟨[.ref a], []⟩) (fun r s' => r = .ok (.ret (.bool true)) ∧ OldK s₁.heap s'.heap ∧ s'.os = s₁.os ∧ AllBare s'.gens) s₁ := by
    intro H hO hS hok hA hK
    have base_of : ∀ {b : Addr} {o : Obj}, s₁.heap.get? b = some o → H b = none → (hidT s₁.heap H).get? b = some o := fun e n => hidT_get e n
    have noA : ∀ {b : Addr} {o : Obj} {es : Array DictEntry} {ep : Nat}, s₁.heap.get? b = some o → o.data = .dict es ep → H b = none := fun {b o es ep} e d => by
      cases q : H b with
      | none => rfl
      | some u =>
        have e' : b = a := hA b (by rw [q]; simp)
        subst e'
        rw [ha] at e; cases e
        have d' : Data.seq vs.toArray _ = Data.dict es ep := d
        cases d'
    have nsK : ∀ {b : Addr} {m : Str → Option Value}, s₁.heap.Ns b m → (hidT s₁.heap H).Ns b m := fun {b m} ⟨o, es, ep, e, d, r⟩ => ⟨o, es, ep, base_of e (noA e d), d, r⟩
    have hKb : K.In (hidT s₁.heap H) := fun b o e => base_of (KX b o e) (by
      cases q : H b with
      | none => rfl
      | some u =>
        have e' : b = a := hA b (by rw [q]; simp)
        subst e'
        rw [hK (by rw [q]; simp)] at e; cases e)
    have hM : Mod K mg (hidT s₁.heap H) := ⟨hKb, nsK hns, ⟨mb, nsK hb, hbb⟩, let ⟨mc, h1, h2⟩ := hlim; ⟨mc, nsK h1, h2⟩⟩
    have e0 : Env0 P w K mg (hidT s₁.heap H) callerA [] s₁ H := ⟨rfl, hM, fun b o e => of_hidT e, Nat.le_of_eq (hidT_size _ _), trivial, fun b hb => absurd (show b ∈ ([] : List Addr) from hb) (by simp), hok, .of_eq hg⟩
    refine codeAny_mono ((F _ hKb (nsK hns)).run callerA [] s₁ H ⟨[.ref a], []⟩ [.ref a] [.ref a] _ _ hr e0 (hbind s₁ (.ref a)) (.cons rfl .nil) (hsp H hO hS)) fun r s' h => ?_
    cases r with
    | error e => exact (hCX H e s' h).elim
    | ok fl =>
      cases fl with
      | next => exact False.elim h
      | brk => exact False.elim h
      | cont => exact False.elim h
      | ret u =>
        obtain ⟨v, H', os, bare, un, hok', r', q⟩ := h
        have q' : v = .bl true := q
        subst q'
        obtain rfl : u = Value.bool true := r'
        refine ⟨rfl, OldK.of_keep fun b o e => ?_, os, bare⟩
        cases q : H b with
        | none => exact un.keep b o e q (by intro z; exact absurd (show b ∈ ([] : List Addr) from z) (by simp)) (by simp)
        | some u =>
          rcases hO b with z | ⟨ob, xs, z⟩
          · rw [q] at z; cases z
          · have z2 := un.frzs b ob _ z
            obtain ⟨e1, _⟩ := hok b _ z
            obtain ⟨e2, _⟩ := hok' b _ z2
            rw [e] at e1; cases e1
            exact e2
  cases hk : K.lookup a with
  | some o =>
    have e := KX a o hk
    rw [ha] at e
    cases e
    refine core (fun _ => none) (fun _ => .inl rfl) (.inr ⟨_, vs.toArray, _, hk, rfl, rfl, rfl, by rw [List.size_toArray, lenV]; exact hl, by simpa using rv⟩) (fun b u z => by have z' : (none : Option HO) = some u := z; cases z') (fun b z => absurd rfl z) fun z => absurd rfl z
  | none =>
    refine core (fun b => if b = a then some (.frz { cls := .type "list", data := .seq vs.toArray } (.lst (ns.map V.int))) else none) (fun b => ?_) (.inl (.inr ⟨{ cls := .type "list", data := .seq vs.toArray }, if_pos rfl⟩)) (fun b u z => ?_) (fun b z => ?_) fun _ => hk
    · by_cases hb : b = a
      · exact .inr ⟨_, _, if_pos hb⟩
      · exact .inl (if_neg hb)
    · by_cases hb : b = a
      · have z' := (if_pos hb).symm.trans z
        cases z'
        subst hb
        exact ⟨ha, by rw [List.length_map]; exact hl, vs, _, rv, ha⟩
      · have z' := (if_neg hb).symm.trans z
        cases z'
    · by_cases hb : b = a
      · exact hb
      · exact absurd (if_neg hb) z
end L2
namespace L2
open PySem PySem.Spec PyProof.Rows
theorem walk_of {l : PySem.W.OpenLaw} {n k : Nat} {q : Program} {loose : List Str} {XP : (Str → Option Value) → Heap → Prop} {YP : World → Heap → Prop} {d : DefRec} {K : Params → PySem.W.Frag} {CX : World → CXT} {sp : World → Sp} {x : Str}
    (hn : l.most = some n) (hn2 : n ≤ sizeLine) (hdf : d.params.defaults = []) (hr : Room k callerA)
    (hY : ∀ (w : World) (h : Heap), YP w h → (K w.params).In h)
    (F : ∀ (w : World) (mg : Str → Option Value) (fa : Addr) (h : Heap), (K w.params).In h → h.Ns mainGlobals mg → mg d.name = some (.ref fa) →
      ∃ fd : FuncData, (∀ (s : Shared) (u : Value), BindsTo s fd ⟨[u], []⟩ [(x, u)]) ∧
        ∀ base : Heap, (K w.params).In base → base.Ns mainGlobals mg → FnOk l.prog w (K w.params) mg base (CX w) k fa fd [x] (sp w))
    (hsp : ∀ (w : World) (H : Hp) (a : Addr) (ns : List Int), ns.length ≤ n → Only H → SqL (K w.params) H a (ns.map V.int) → sp w [.ref a] H (fun v _ => v = .bl true) fun _ _ _ => False)
    (hCX : ∀ (w : World) (H : Hp) (s : Shared) (e : Value) (s' : Shared), CX w [] H s (fun _ _ _ => False) e s' → False) :
    PySem.W.WalkO q loose XP YP l.row.toRowW d [] (fun f vs => PySem.call f vs) := by
  refine Att.attach_call hn hdf fun w s₀ s₁ mg mb fa o pm cd doc a vs ns G Y ho hd hcd hmg hobj hints hlen hg => ?_
  have KX := hY w _ Y
  obtain ⟨fd, hb, hF⟩ := F w mg fa _ KX G.T.g hmg
  exact law_call KX G.T.g G.T.b G.T.builtins G.T.nolimit hg hobj hints (Nat.le_trans hlen hn2) hr hF hb (fun H hO hS => hsp w H a ns hlen hO hS) fun H e s' => hCX w H s₁ e s'
end L2
namespace L2
open PySem PySem.Spec PyProof.Rows
def defArgs (s : Stmt) : Arguments := match s with
  | .FunctionDef _ a _ _ _ _ _ _ _ _ => a
  | _ => { posonlyargs := [], args := [], vararg := none, kwonlyargs := [], kw_defaults := [], kwarg := none, defaults := [] }
def defBody (s : Stmt) : List Stmt := match s with
  | .FunctionDef _ _ b _ _ _ _ _ _ _ => b
  | _ => []
def defScope (s : Stmt) : Scope := match s with
  | .FunctionDef _ _ _ _ _ _ sc _ _ _ => sc
  | _ => { kind := .function, names := [], isGenerator := false, isCoroutine := false }
abbrev CX0 : CXT := fun _ _ _ _ _ _ => False
abbrev E0 : XK := fun _ _ _ => False
structure Fun (K : PySem.W.Frag) (x qual : Str) (st : Stmt) (f : Addr) (fd : FuncData) : Prop where
  ex : ∃ (oc : Value) (od : Option Addr) (kV doc pm : Value) (an : Option Addr) (cdv ct : Value) (osl : Array (Option Value)),
    fd = PySem.W.fnOf x qual (defArgs st) (defBody st) (defScope st) .none kV doc pm an cdv ct ∧ K.lookup f = some ⟨oc, od, .func fd, osl⟩ ∧ PySem.W.codeIn K cdv qual = true
  kp : PySem.W.keepIn K (.ref f) = true
section
variable {P : Program} {w : World} {K : PySem.W.Frag} {mg : Str → Option Value} {base : Heap}
theorem Fun.binds {x qual : Str} {st : Stmt} {f : Addr} {fd : FuncData} {ps : List Str} (F : Fun K x qual st f fd)
    (h : ∀ (kV doc pm : Value) (an : Option Addr) (cdv ct : Value) (us : List Value), us.length = ps.length → bindArgs (PySem.W.fnOf x qual (defArgs st) (defBody st) (defScope st) .none kV doc pm an cdv ct) ⟨us, []⟩ = pure (ps.zip us)) : Binds K fd ps [] := by
  obtain ⟨oc, od, kV, doc, pm, an, cdv, ct, osl, rfl, lk, hcd⟩ := F.ex
  exact .all (h kV doc pm an cdv ct)
theorem fun_mk {x qual : Str} {st : Stmt} {f : Addr} {oc : Value} {od an : Option Addr} {osl : Array (Option Value)} {kV doc pm cdv ct : Value} (l : K.lookup f = some ⟨oc, od, .func (PySem.W.fnOf x qual (defArgs st) (defBody st) (defScope st) .none kV doc pm an cdv ct), osl⟩)
    (c : PySem.W.codeIn K cdv qual = true) (k : PySem.W.keepIn K (.ref f) = true) : Fun K x qual st f (PySem.W.fnOf x qual (defArgs st) (defBody st) (defScope st) .none kV doc pm an cdv ct) := ⟨⟨oc, od, kV, doc, pm, an, cdv, ct, osl, rfl, l, c⟩, k⟩
end
section
variable {X : Cx}
theorem call_lenD : CallR X (.builtin "len") (fun xs H Q => ∃ a kvs, xs = [V.ref a] ∧ H a = some (.dK kvs) ∧ Q (.int kvs.length) H) := by
  intro pins s σ H xs us Q I r h
  obtain ⟨a, kvs, rfl, ha, q⟩ := h
  obtain ⟨u, rfl, ru⟩ := vals1 r
  cases ru
  exact d_len I (.inl ha) fun t s' I' => ⟨.int kvs.length, H, I', ⟨t, rfl⟩, q⟩
end
theorem iteF {A B : Prop} (h : B) : if false = true then A else B := by
  rw [if_neg Bool.false_ne_true]
  exact h
theorem iteT {A B : Prop} (h : A) : if true = true then A else B := by
  rw [if_pos rfl]
  exact h
def Same (H H' : Hp) : Prop := ∀ b o, H b = some o → H' b = some o
section
variable {κ : Type} [DecidableEq κ]
end
end L2
namespace PySem
open Sem (wp)
namespace ZL
section
variable {prog : Program} {w : World} {A : Around} {E : Value → Shared → Prop} {s : Shared}
end
namespace F
end F
section
variable {prog : Program} {w : World} {A : Around} {s : Shared} {R : Result → Shared → Prop} {z TI TO i1 i2 l1 l2 base S : Addr} {xs ys : Array Value}
end
section
variable {prog : Program} {w : World} {A : Around} {E : Value → Shared → Prop} {s : Shared}
end
end ZL
end PySem
namespace L2
open PySem PySem.Spec PyProof.Rows
def freesOf : List (Str × NameKind) → List Str
  | [] => []
  | (n, k) :: r => if (k == NameKind.free) = true then n :: freesOf r else freesOf r
def clFrom (env : Env) : List (Str × NameKind) → List (Str × Addr) → List (Str × Addr)
  | [], acc => acc
  | (n, k) :: r, acc => if (k == NameKind.free) = true then clFrom env r ((n, (env.cells.lookup n).getD 0) :: acc) else clFrom env r acc
theorem closure_loop {env : Env} {f : (Str × NameKind) → List (Str × Addr) → Sem (ForInStep (List (Str × Addr)))}
    (h1 : ∀ n k cs c, (k == NameKind.free) = true → env.cells.lookup n = some c → f (n, k) cs = pure (.yield ((n, c) :: cs))) (h2 : ∀ n k cs, (k == NameKind.free) = false → f (n, k) cs = pure (.yield cs)) :
    ∀ (names : List (Str × NameKind)) (acc : List (Str × Addr)), (∀ n ∈ freesOf names, ∃ c, env.cells.lookup n = some c) → forIn names acc f = pure (clFrom env names acc)
  | [], acc, _ => by rw [List.forIn_nil]; rfl
  | (n, k) :: r, acc, h => by
    rw [List.forIn_cons]
    cases e : (k == NameKind.free) with
    | true =>
      have hf : freesOf ((n, k) :: r) = n :: freesOf r := by show (if (k == NameKind.free) = true then n :: freesOf r else freesOf r) = _; rw [if_pos e]
      obtain ⟨c, hc⟩ := h n (by rw [hf]; exact List.mem_cons_self)
      rw [h1 n k acc c e hc, pure_bind]
      show forIn r ((n, c) :: acc) f = _
      rw [closure_loop h1 h2 r _ fun m hm => h m (by rw [hf]; exact List.mem_cons_of_mem _ hm)]
      have hcl : clFrom env ((n, k) :: r) acc = clFrom env r ((n, (env.cells.lookup n).getD 0) :: acc) := by
        show (if (k == NameKind.free) = true then _ else _) = _
        rw [if_pos e]
      rw [hcl, hc]
      rfl
    | false =>
      have hf : freesOf ((n, k) :: r) = freesOf r := by show (if (k == NameKind.free) = true then n :: freesOf r else freesOf r) = _; rw [if_neg (by rw [e]; decide)]
      rw [h2 n k acc e, pure_bind]
      show forIn r acc f = _
      rw [closure_loop h1 h2 r _ fun m hm => h m (by rw [hf]; exact hm)]
      have hcl : clFrom env ((n, k) :: r) acc = clFrom env r acc := by
        show (if (k == NameKind.free) = true then _ else _) = _
        rw [if_neg (by rw [e]; decide)]
      rw [hcl]
theorem closure_is {scope : Scope} {env : Env} (h : ∀ n ∈ freesOf scope.names, ∃ c, env.cells.lookup n = some c) : closureFor scope env = pure (clFrom env scope.names []) := by
  unfold closureFor
  show (forIn scope.names [] _ >>= _) = _
  rw [closure_loop (env := env) (fun n k cs c hk hc => ?_) (fun n k cs hk => ?_) scope.names [] h]
  · exact pure_bind _ _
  · dsimp only
    rw [if_pos hk]
    unfold cellOf
    rw [hc]
    rfl
  · dsimp only
    rw [if_neg (by rw [hk]; decide)]
theorem clFrom_lookup {env : Env} {x : Str} : ∀ (names : List (Str × NameKind)) (acc : List (Str × Addr)), (∀ n ∈ freesOf names, ∃ c, env.cells.lookup n = some c) →
    (clFrom env names acc).lookup x = if x ∈ freesOf names then env.cells.lookup x else acc.lookup x
  | [], acc, _ => by simp [clFrom, freesOf]
  | (n, k) :: r, acc, h => by
    cases e : (k == NameKind.free) with
    | true =>
      have hf : freesOf ((n, k) :: r) = n :: freesOf r := by show (if (k == NameKind.free) = true then n :: freesOf r else freesOf r) = _; rw [if_pos e]
      obtain ⟨c, hc⟩ := h n (by rw [hf]; exact List.mem_cons_self)
      have hcl : clFrom env ((n, k) :: r) acc = clFrom env r ((n, (env.cells.lookup n).getD 0) :: acc) := by
        show (if (k == NameKind.free) = true then _ else _) = _
        rw [if_pos e]
      rw [hcl, hf, clFrom_lookup r _ fun m hm => h m (by rw [hf]; exact List.mem_cons_of_mem _ hm)]
      by_cases hr : x ∈ freesOf r
      · rw [if_pos hr, if_pos (List.mem_cons_of_mem _ hr)]
      · rw [if_neg hr]
        by_cases hx : x = n
        · subst hx
          rw [if_pos List.mem_cons_self, hc]
          simp
        · rw [if_neg (by intro z; rcases List.mem_cons.mp z with z | z; exact hx z; exact hr z)]
          have hb : (x == n) = false := by simpa using hx
          rw [List.lookup_cons, hb]
    | false =>
      have hf : freesOf ((n, k) :: r) = freesOf r := by show (if (k == NameKind.free) = true then n :: freesOf r else freesOf r) = _; rw [if_neg (by rw [e]; decide)]
      have hcl : clFrom env ((n, k) :: r) acc = clFrom env r acc := by
        show (if (k == NameKind.free) = true then _ else _) = _
        rw [if_neg (by rw [e]; decide)]
      rw [hcl, hf, clFrom_lookup r _ fun m hm => h m (by rw [hf]; exact hm)]
structure CScope (X : Cx) (scope : Scope) (frees : List Str) : Prop where
  kind : scope.kind = .function
  nocell : ∀ y ∈ scope.names, y.2 ≠ .cell
  locs : ∀ y ∈ scope.names, y.2 = .local → scope.names.lookup y.1 = some .local
  sub : ∀ n ∈ freesOf scope.names, n ∈ frees
  free : ∀ n ∈ frees, scope.names.lookup n = some .free
  kinds : (frees.all fun n => X.env.kindOf n == some .cell || X.env.kindOf n == some .free) = true
theorem CScope.frees {X : Cx} {scope : Scope} {fr : List Str} (S : CScope X scope fr) : ∀ n ∈ freesOf scope.names, X.env.kindOf n = some .cell ∨ X.env.kindOf n = some .free := fun n hn => by
  have h := List.all_eq_true.mp S.kinds n (S.sub n hn)
  rcases Bool.or_eq_true _ _ ▸ h with h | h
  · exact .inl (eq_of_beq h)
  · exact .inr (eq_of_beq h)
theorem mem_freesOf {x : Str} : ∀ {names : List (Str × NameKind)}, (x, NameKind.free) ∈ names → x ∈ freesOf names
  | (n, k) :: r, h => by
    unfold freesOf
    rcases List.mem_cons.mp h with e | e
    · injection e with e1 e2
      subst e1 e2
      rw [if_pos (by rfl)]
      exact List.mem_cons_self
    · split
      · exact List.mem_cons_of_mem _ (mem_freesOf e)
      · exact mem_freesOf e
theorem relabel_lookup {env : Env} {x : Str} : ∀ {names : List (Str × NameKind)} {k : NameKind}, (names.map fun (n, k) => if (k == NameKind.free && env.scope.kind == .function && env.kindOf n == some .cell) then (n, NameKind.cell) else (n, k)).lookup x = some k →
    ∃ k0, names.lookup x = some k0 ∧ (k = k0 ∨ (k0 = .free ∧ k = .cell))
  | [], k, h => by simp at h
  | (n, k1) :: r, k, h => by
    rw [List.map_cons] at h
    by_cases hx : (x == n) = true
    · by_cases hc : (k1 == NameKind.free && env.scope.kind == .function && env.kindOf n == some .cell) = true
      · dsimp only at h
        rw [if_pos hc, List.lookup_cons, hx] at h
        have e : k = .cell := by injection h with h; exact h.symm
        have e1 : k1 = .free := by
          have := (Bool.and_eq_true _ _ ▸ (Bool.and_eq_true _ _ ▸ hc).1).1
          exact eq_of_beq this
        exact ⟨k1, by rw [List.lookup_cons, hx], .inr ⟨e1, e⟩⟩
      · dsimp only at h
        rw [if_neg hc, List.lookup_cons, hx] at h
        injection h with h
        exact ⟨k1, by rw [List.lookup_cons, hx], .inl h.symm⟩
    · have hx' : (x == n) = false := by simpa using hx
      have h' : (List.map (fun (n, k) => if (k == NameKind.free && env.scope.kind == .function && env.kindOf n == some .cell) then (n, NameKind.cell) else (n, k)) r).lookup x = some k := by
        by_cases hc : (k1 == NameKind.free && env.scope.kind == .function && env.kindOf n == some .cell) = true
        · dsimp only at h; rw [if_pos hc, List.lookup_cons, hx'] at h; exact h
        · dsimp only at h; rw [if_neg hc, List.lookup_cons, hx'] at h; exact h
      obtain ⟨k0, e1, e2⟩ := relabel_lookup h'
      exact ⟨k0, by rw [List.lookup_cons, hx']; exact e1, e2⟩
theorem relabel_free {env : Env} {x : Str} : ∀ {names : List (Str × NameKind)}, names.lookup x = some .free →
    (names.map fun (n, k) => if (k == NameKind.free && env.scope.kind == .function && env.kindOf n == some .cell) then (n, NameKind.cell) else (n, k)).lookup x = some .cell ∨
    (names.map fun (n, k) => if (k == NameKind.free && env.scope.kind == .function && env.kindOf n == some .cell) then (n, NameKind.cell) else (n, k)).lookup x = some .free
  | [], h => by simp at h
  | (n, k1) :: r, h => by
    rw [List.map_cons]
    by_cases hx : (x == n) = true
    · rw [List.lookup_cons, hx] at h
      injection h with h
      subst h
      by_cases hc : (NameKind.free == NameKind.free && env.scope.kind == .function && env.kindOf n == some .cell) = true
      · left; dsimp only; rw [if_pos hc, List.lookup_cons, hx]
      · right; dsimp only; rw [if_neg hc, List.lookup_cons, hx]
    · have hx' : (x == n) = false := by simpa using hx
      rw [List.lookup_cons, hx'] at h
      have ih := relabel_free (env := env) h
      by_cases hc : (k1 == NameKind.free && env.scope.kind == .function && env.kindOf n == some .cell) = true
      · dsimp only; rw [if_pos hc, List.lookup_cons, hx']; exact ih
      · dsimp only; rw [if_neg hc, List.lookup_cons, hx']; exact ih
structure CP where
  C : Addr
  s : Shared
  H : Hp
  pins : List (Addr × Obj)
  fp : List Addr
def cxC (X : Cx) (NC : List Str) (scope : Scope) (c : CP) : Cx where
  prog := X.prog
  w := X.w
  K := X.K
  mg := X.mg
  base := X.base
  A := X.A
  N := NC
  s₀ := c.s
  H₀ := c.H
  env := compEnvC scope (clFrom X.env scope.names []) c.C X.env
  outer := X.stack
  stack := X.stack
  ex := c.fp
  fn := fun _ => false
  calm := true
  pn := X.pn ++ c.pins
  xe := fun _ _ => False
section
variable {X : Cx} {scope : Scope} {frees : List Str} {NC : List Str} {pins : List (Addr × Obj)} {σ σc : St} {H H' : Hp} {s s' : Shared} {fp : List Addr} {C : Addr}
theorem CScope.has (S : CScope X scope frees) (ok : X.Ok) : ∀ n ∈ freesOf scope.names, ∃ c, X.env.cells.lookup n = some c := fun n hn => ok.has n (S.frees n hn)
theorem CScope.cells (S : CScope X scope frees) (ok : X.Ok) {x : Str} {c : Addr} (h : (clFrom X.env scope.names []).lookup x = some c) : x ∈ freesOf scope.names ∧ X.env.cells.lookup x = some c := by
  rw [clFrom_lookup scope.names [] (S.has ok)] at h
  by_cases hx : x ∈ freesOf scope.names
  · rw [if_pos hx] at h; exact ⟨hx, h⟩
  · rw [if_neg hx] at h; simp at h
theorem cxC_ok (S : CScope X scope frees) (hc : X.calm = true) (I : Inv X pins σ H s) (hf : ∀ b ∈ fp, FpOk X pins H b ∧ b < s.heap.objs.size) (hC : C = s.heap.objs.size) : (cxC X NC scope ⟨C, s, H, pins, fp⟩).Ok where
  mod := I.ok.mod
  kind := S.kind
  glob := I.ok.glob
  blt := I.ok.blt
  above := by show s.heap.objs.size ≤ C; rw [hC]; exact Nat.le_refl _
  inj := fun x y c h1 h2 => I.ok.inj x y c (S.cells I.ok h1).2 (S.cells I.ok h2).2
  has := fun x hx => by
    have hx' : ∃ k, (relabel scope X.env).names.lookup x = some k ∧ (k = .cell ∨ k = .free) := by
      rcases hx with h | h
      · exact ⟨_, h, .inl rfl⟩
      · exact ⟨_, h, .inr rfl⟩
    obtain ⟨k, h, hk⟩ := hx'
    obtain ⟨k0, e0, e1⟩ := relabel_lookup h
    have hm := PySem.mem_of_lookup e0
    have k0f : k0 = .free := by
      rcases e1 with e1 | ⟨e1, _⟩
      · rcases hk with hk | hk
        · exact absurd (e1 ▸ hk : k0 = .cell) (S.nocell _ hm)
        · exact e1 ▸ hk
      · exact e1
    subst k0f
    have hx2 := mem_freesOf hm
    obtain ⟨c, hcc⟩ := S.has I.ok x hx2
    exact ⟨c, by show (clFrom X.env scope.names []).lookup x = some c; rw [clFrom_lookup scope.names [] (S.has I.ok), if_pos hx2]; exact hcc⟩
  cab := fun x c h => nomatch h
  hd := fun _ => I.ok.hd hc
  frames := I.ok.frames
  stk := .inl rfl
  exf := fun b hb => ⟨fun z => by have := (hf b hb).2; rw [z] at this; exact absurd (hC ▸ this) (Nat.lt_irrefl _), fun x c h => (hf b hb).1.2.2.2.2.1 x c (S.cells I.ok h).2⟩
  bs := I.bs
  bsz := Nat.le_trans I.ok.bsz I.sz
  noex := fun b o e hb => by
    rcases (hf b hb).1.2.2.2.1 with z | z
    · exact I.ok.noex b o e z
    · exact absurd (Nat.lt_of_lt_of_le (Heap.lt_size e) (Nat.le_trans I.ok.bsz z)) (Nat.lt_irrefl _)
  exfs := fun b hb z => by
    rcases List.mem_cons.mp (I.stkSub b z) with e | e
    · exact (hf b hb).1.2.1 e
    · exact (hf b hb).1.2.2.1 e
  funs := I.stack
  frf := I.stkFree
def stC (own : List Str) (ix : List Nat) (σ : St) : St := own.map (fun _ => none) ++ ix.map fun i => (σ[i]?).join
theorem stC_get {own frees : List Str} {ix : List Nat} {σ : St} {NX : List Str} (hN : ix.map (fun i => NX[i]?) = frees.map some) {j : Nat} {x : Str} {v : V} (h1 : (own ++ frees)[j]? = some x) (h2 : (stC own ix σ)[j]? = some (some v)) :
    x ∈ frees ∧ ∃ i : Nat, NX[i]? = some x ∧ σ[i]? = some (some v) := by
  have hl : ix.length = frees.length := by have := congrArg List.length hN; simpa using this
  unfold stC at h2
  by_cases hj : j < own.length
  · rw [List.getElem?_append_left (by simpa using hj), List.getElem?_map] at h2
    cases e : own[j]? with
    | none => rw [e] at h2; simp at h2
    | some o => rw [e] at h2; simp at h2
  · rw [List.getElem?_append_right (by simpa using hj), List.getElem?_map, List.length_map] at h2
    rw [List.getElem?_append_right (by omega)] at h1
    have hm : (ix.map (fun i => NX[i]?))[j - own.length]? = (frees.map some)[j - own.length]? := by rw [hN]
    rw [List.getElem?_map, List.getElem?_map, h1] at hm
    cases e : ix[j - own.length]? with
    | none => rw [e] at h2; simp at h2
    | some i =>
      rw [e] at h2 hm
      simp only [Option.map_some, Option.some.injEq] at h2 hm
      refine ⟨List.mem_of_getElem? h1, i, hm, ?_⟩
      cases q : σ[i]? with
      | none => rw [q] at h2; simp at h2
      | some o => rw [q] at h2; simp at h2; rw [h2]
theorem stC_len {own frees : List Str} {ix : List Nat} {σ : St} {NX : List Str} (hN : ix.map (fun i => NX[i]?) = frees.map some) : (stC own ix σ).length = (own ++ frees).length := by
  have hl : ix.length = frees.length := by have := congrArg List.length hN; simpa using this
  unfold stC
  simp [hl]
theorem cxC_inv {own : List Str} {ix : List Nat} {h₁ : Heap} {tk : Nat} (S : CScope X scope frees) (hc : X.calm = true) (I : Inv X pins σ H s) (hf : ∀ b ∈ fp, FpOk X pins H b ∧ b < s.heap.objs.size) (hC : C = s.heap.objs.size)
    (hN : ix.map (fun i => X.N[i]?) = frees.map some) (hns : ∃ m, h₁.Ns C m) (hk : ∀ b o, s.heap.get? b = some o → h₁.get? b = some o) :
    Inv (cxC X (own ++ frees) scope ⟨C, s, H, pins, fp⟩) [] (stC own ix σ) H { s with heap := h₁, toks := tk } := by
  obtain ⟨m, hm⟩ := hns
  refine ⟨cxC_ok S hc I hf hC, rfl, I.bare, Un.kept hk, ⟨m, hm, fun j x v h1 h2 h3 => ?_⟩, fun x c h => ?_, ?_, fun x c h => ?_, fun p hp => ?_, I.hok.kept hk, stC_len hN⟩
  · obtain ⟨hx, i, e1, e2⟩ := stC_get hN h1 h2
    have hfree := S.free x hx
    have hmf := mem_freesOf (PySem.mem_of_lookup hfree)
    have hkx := S.frees x hmf
    obtain ⟨m0, _, hl⟩ := I.loc
    have vis : Vis X.env.scope x := by rcases hkx with z | z; exact .inr (.inl z); exact .inr (.inr z)
    obtain ⟨u, r, l⟩ := hl i x v e1 e2 vis
    refine ⟨u, r, ?_⟩
    rcases l with ⟨kl, _⟩ | ⟨_, c, ec, ic⟩
    · rcases hkx with z | z
      · rw [kl] at z; cases z
      · rw [kl] at z; cases z
    · refine .inr ⟨relabel_free (env := X.env) hfree, c, ?_, ?_⟩
      · show (clFrom X.env scope.names []).lookup x = some c
        rw [clFrom_lookup scope.names [] (S.has I.ok), if_pos hmf]
        exact ec
      · obtain ⟨o, ho, hd⟩ := ic
        exact ⟨o, hk _ _ ho, hd⟩
  · obtain ⟨_, e⟩ := S.cells I.ok h
    obtain ⟨v, o, ho, hd⟩ := I.cell x c e
    exact ⟨v, o, hk _ _ ho, hd⟩
  · show H C = none
    rw [hC]
    exact I.hok.fresh (Nat.le_refl _)
  · exact I.freeC x c (S.cells I.ok h).2
  · have hp' : p ∈ X.pn ++ pins := by
      have : p ∈ (X.pn ++ pins) ++ [] := hp
      rwa [List.append_nil] at this
    obtain ⟨e, n, ne, nf, d⟩ := I.pin p hp'
    refine ⟨hk _ _ e, n, ?_, fun z => ?_, d⟩
    · show p.1 ≠ C
      rw [hC]
      exact Nat.ne_of_lt (Heap.lt_size e)
    · rcases List.mem_cons.mp (I.stkSub p.1 z) with q | q
      · exact ne q
      · exact nf q
theorem cxC_fp {NC : List Str} (S : CScope X scope frees) (I : Inv X pins σ H s) (hf : ∀ b ∈ fp, FpOk X pins H b ∧ b < s.heap.objs.size) (hC : C = s.heap.objs.size) {b : Addr} (hb : b ∈ fp) (hn : H' b = none) : FpOk (cxC X NC scope ⟨C, s, H, pins, fp⟩) [] H' b := by
  refine ⟨hn, ?_, fun z => ?_, .inl hb, fun x c h => (hf b hb).1.2.2.2.2.1 x c (S.cells I.ok h).2, fun p hp => (hf b hb).1.2.2.2.2.2 p ?_⟩
  · show b ≠ C
    rw [hC]
    exact Nat.ne_of_lt (hf b hb).2
  · rcases List.mem_cons.mp (I.stkSub b z) with q | q
    · exact (hf b hb).1.2.1 q
    · exact (hf b hb).1.2.2.1 q
  · have : p ∈ (X.pn ++ pins) ++ [] := hp
    rwa [List.append_nil] at this
theorem cxC_back {NC : List Str} (I : Inv X pins σ H s) (hf : ∀ b ∈ fp, FpOk X pins H b ∧ b < s.heap.objs.size) (J : Inv (cxC X NC scope ⟨C, s, H, pins, fp⟩) [] σc H' s') : Inv X pins σ H' s' :=
  I.call' J.os J.base J.hok J.bare fun b hb => ⟨(hf b hb).1.2.2.2.1, (hf b hb).1.2.1, (hf b hb).1.2.2.2.2.1, (hf b hb).1.2.2.2.2.2⟩
theorem cxC_gone {h' : Heap} (I : Inv X pins σ H s) (hn : H C = none) (h1 : C ≠ X.env.locals) (h2 : X.s₀.heap.objs.size ≤ C) (h3 : ∀ x c, X.env.cells.lookup x = some c → c ≠ C) (h4 : ∀ p ∈ X.pn ++ pins, p.1 ≠ C) (hs : Heap.SameBut C s.heap h') :
    Inv X pins σ H { s with heap := h' } := I.turned (t' := s.toks) (fun b o hb e => (hs.2 b hb).trans e) hn h1 (.inr h2) h3 h4
end
inductive KSt : St → St → Prop
  | nil : KSt [] []
  | own {o : Option V} {a b : St} : KSt a b → KSt (none :: a) (o :: b)
  | keep {o : Option V} {a b : St} : KSt a b → KSt (o :: a) (o :: b)
theorem KSt.len : ∀ {a b : St}, KSt a b → b.length = a.length
  | _, _, .nil => rfl
  | _, _, .own h => congrArg (· + 1) h.len
  | _, _, .keep h => congrArg (· + 1) h.len
theorem KSt.get : ∀ {a b : St}, KSt a b → ∀ (i : Nat) v, a[i]? = some (some v) → b[i]? = some (some v)
  | _, _, .nil, i, v, e => by simp at e
  | _, _, .own h, 0, v, e => by simp at e
  | _, _, .own h, i + 1, v, e => by
    rw [List.getElem?_cons_succ] at e ⊢
    exact h.get i v e
  | _, _, .keep h, 0, v, e => by simpa using e
  | _, _, .keep h, i + 1, v, e => by
    rw [List.getElem?_cons_succ] at e ⊢
    exact h.get i v e
theorem KSt.refl : ∀ a : St, KSt a a
  | [] => .nil
  | _ :: r => .keep (KSt.refl r)
inductive PIf (X : Cx) : List Expr → TT → Prop
  | nil : PIf X [] (fun _ H Q => Q true H)
  | one {c : Expr} {t : TT} : PT X c t → PIf X [c] t
theorem PIf.run {X : Cx} {ifs : List Expr} {t : TT} (h : PIf X ifs t) {pins : List (Addr × Obj)} {s : Shared} {σ : St} {H : Hp} {Q : Bool → Hp → Prop} (I : Inv X pins σ H s) (hw : t σ H Q) :
    wpAny (model X.prog X.w) X.A (forIn ifs true fun c r => if r = true then do let ok ← isTrue c X.env (eval c X.env); pure (ForInStep.yield ok) else pure (ForInStep.yield r)) (TP X pins σ Q) X.xe s := by
  cases h with
  | nil => exact wpAny_tests_nil ⟨H, I, hw⟩
  | one h => exact wpAny_tests_one (h pins s σ H Q I hw)
def cBody (σc : St) (acc : Addr) (g : TG) (tt : TT) (te : TE) (x : V) (ys : List V) (H : Hp) (N : List V → Hp → Prop) : Prop :=
  g x σc H fun σ2 H2 => KSt σc σ2 ∧ tt σ2 H2 fun b H3 => if b = true then te σ2 H3 fun y H4 => H4 acc = some (.lst ys) ∧ ys.length < sizeLine ∧ N (ys ++ [y]) (upd H4 acc (.lst (ys ++ [y]))) else N ys H3
def cLoop (J : It) (σc : St) (acc : Addr) (g : TG) (tt : TT) (te : TE) (H : Hp) (Q : VK) : Prop :=
  ∃ W : Nat → Nat → List V → Hp → Prop, (∃ m, W 0 m [] H) ∧ ∀ i m ys H, W i m ys H → H acc = some (.lst ys) ∧
    ((J.stop i H ∧ Q (.ref acc) H) ∨ (J.go i H ∧ ∃ N : List V → Hp → Prop, (∀ ys' H', N ys' H' → ∃ m', m' < m ∧ W (i + 1) m' ys' H') ∧ ∀ x H', J.yld i H x H' → cBody σc acc g tt te x ys H' N))
def tComp (own : List Str) (ix : List Nat) (wi : TI) (g : CP → TG) (tt : CP → TT) (te : CP → TE) : TE := fun σ H Q =>
  wi σ H fun J H1 => ∀ (c : CP) (acc : Addr), H1 acc = none → cLoop J (stC own ix σ) acc (g c) (tt c) (te c) (upd H1 acc (.lst [])) Q
section
variable {X : Cx} {scope : Scope} {own frees : List Str} {ix : List Nat} {tg elt iter : Expr} {ifs : List Expr} {pos : Pos} {wi : TI} {g : CP → TG} {tt : CP → TT} {te : CP → TE}
theorem comp_loop {J : It} {it acc : Addr} {fp : List Addr} {tn : Nat → Heap → Prop} {c : CP} {σ : St} {H : Hp} {s : Shared} {Q : VK} {R : Result → Shared → Prop}
    (hfp : c.fp = fp) (T : Turn X.prog X.w X.K tg J fp it tn) (hg : PG (cxC X (own ++ frees) scope c) tg (g c)) (ht : PIf (cxC X (own ++ frees) scope c) ifs (tt c)) (he : PE (cxC X (own ++ frees) scope c) elt (te c))
    (fpk : ∀ b ∈ fp, ∀ H' : Hp, H' b = none → FpOk (cxC X (own ++ frees) scope c) [] H' b)
    (I : Inv (cxC X (own ++ frees) scope c) [] (stC own ix σ) H s) (st : tn 0 s.heap) (fr : ∀ b ∈ fp, H b = none) (h : cLoop J (stC own ix σ) acc (g c) (tt c) (te c) H Q)
    (hR : ∀ s' H', Inv (cxC X (own ++ frees) scope c) [] (stC own ix σ) H' s' → Q (.ref acc) H' → R (.ok .next) s') :
    codeAny (model X.prog X.w) X.A (.compLoop (.ListComp elt [⟨tg, iter, ifs, 0⟩] scope pos) 0 (.ref it) (.ref acc) (cxC X (own ++ frees) scope c).env) R s := by
  obtain ⟨W, ⟨m0, w0⟩, turn⟩ := h
  refine codeAny_loop rfl (fun n s' => ∃ i ys H', Inv (cxC X (own ++ frees) scope c) [] (stC own ix σ) H' s' ∧ tn i s'.heap ∧ (∀ b ∈ fp, H' b = none) ∧ W i n ys H') (fun n s1 hI => ?_) m0 ⟨0, [], H, I, st, fr, w0⟩
  obtain ⟨i, ys, H1, I1, st1, fr1, w1⟩ := hI
  show wpAny _ X.A ((compTurn (.ListComp elt [⟨tg, iter, ifs, 0⟩] scope pos) 0 (.ref it) (.ref acc) (cxC X (own ++ frees) scope c).env).onRaise (fun x => do noteFrame x (cxC X (own ++ frees) scope c).env; theTreesLotGoes x)) _ _ s1
  have nv : ∀ {α : Type} {t : Sem α} {P : α → Shared → Prop} {s : Shared}, wpAny (model X.prog X.w) X.A t P (fun _ _ => False) s → wpAny (model X.prog X.w) X.A t P (notedBy (model X.prog X.w) X.A (cxC X (own ++ frees) scope c).env fun e s' => R (.error e) s') s :=
    fun h => wpAny_mono h (fun _ _ q => q) fun _ _ z => z.elim
  refine wpAny_noted ?_
  rw [compTurn_list]
  obtain ⟨ha, hw⟩ := turn i n ys H1 w1
  rcases hw with ⟨stop, q⟩ | ⟨go, N, hN, step⟩
  · refine wpAny_bind (wpAny_standAt (wpAny_bind (nv (thn (T.done (cxC X (own ++ frees) scope c) rfl rfl rfl rfl i [] s1 _ H1 (fun _ _ => False) I1 (fun b hb => fpk b hb H1 (fr1 b hb)) st1 stop) fun r s2 ⟨hr, I2⟩ => ?_))))
    subst hr
    exact wpAny_pure (hR s2 H1 I2 q)
  · refine wpAny_bind (wpAny_standAt (wpAny_bind (nv (thn (T.item (cxC X (own ++ frees) scope c) rfl rfl rfl rfl i [] s1 _ H1 (fun _ _ => False) I1 (fun b hb => fpk b hb H1 (fr1 b hb)) st1 go) fun r s2 ⟨u, hr, h2⟩ => ?_))))
    subst hr
    refine wpAny_bind (nv (thn h2 fun _ s3 ⟨x, H3, I3, r3, y3, st3, fr3⟩ => ?_))
    have I3' := I3.pinned (fun b hb => fpk b hb H3 (fr3 b hb)) (T.obj _ _ st3)
    refine wpAny_bind (nv (thn (hg _ s3 _ H3 x u _ I3' r3 (step x H3 y3)) fun _ s4 ⟨σ4, H4, I4, ks, q4⟩ => ?_))
    refine wpAny_bind (nv (thn (ht.run I4 q4) fun ok s5 ⟨H5, I5, q5⟩ => ?_))
    have keepT : ∀ {s6 : Shared} {σ6 : St} {H6 : Hp}, Inv (cxC X (own ++ frees) scope c) ([] ++ pinsAt fp s3.heap) σ6 H6 s6 → tn (i + 1) s6.heap ∧ ∀ b ∈ fp, H6 b = none := fun {s6 σ6 H6} I6 =>
      ⟨T.keep _ _ _ st3 fun b hb o e => (I6.pin (b, o) (List.mem_append_right _ (List.mem_append_right _ (mem_pinsAt hb e)))).1, fun b hb => by
        obtain ⟨o, e, d⟩ := T.obj _ _ st3 b hb
        exact (I6.pin (b, o) (List.mem_append_right _ (List.mem_append_right _ (mem_pinsAt hb e)))).2.1⟩
    cases ok with
    | false =>
      rw [if_neg (by decide)] at q5
      obtain ⟨m', hm, w5⟩ := hN _ _ q5
      obtain ⟨k1, k2⟩ := keepT I5
      exact wpAny_pure ⟨rfl, m', hm, i + 1, ys, H5, (I5.unpinned).weak ks.len.symm ks.get, k1, k2, w5⟩
    | true =>
      rw [if_pos rfl] at q5
      refine wpAny_bind (wpAny_bind (nv (thn (he _ s5 _ H5 _ I5 q5) fun y s6 ⟨yv, H6, I6, r6, a6, l6, q6⟩ => ?_)))
      obtain ⟨m', hm, w6⟩ := hN _ _ q6
      obtain ⟨k1, k2⟩ := keepT I6
      refine wpAny_bind (nv (thn (mt_append (X := cxC X (own ++ frees) scope c) _ s6 _ H6 (.ref acc) [yv] (.ref acc) [y] (fun _ H7 => H7 = upd H6 acc (.lst (ys ++ [yv]))) I6 rfl (.cons r6 .nil) ⟨acc, ys, yv, rfl, rfl, a6, l6, rfl⟩) fun _ s7 ⟨_, H7, I7, _, e7⟩ => ?_))
      subst e7
      obtain ⟨k1, k2⟩ := keepT I7
      exact wpAny_pure (wpAny_pure ⟨rfl, m', hm, i + 1, ys ++ [yv], _, (I7.unpinned).weak ks.len.symm ks.get, k1, k2, w6⟩)
structure CGone (X : Cx) (pins : List (Addr × Obj)) (C : Addr) (H : Hp) : Prop where
  no : H C = none
  loc : C ≠ X.env.locals
  old : X.s₀.heap.objs.size ≤ C
  cel : ∀ x c, X.env.cells.lookup x = some c → c ≠ C
  pin : ∀ p ∈ X.pn ++ pins, p.1 ≠ C
theorem CGone.inv {pins : List (Addr × Obj)} {σ : St} {H : Hp} {s : Shared} {C : Addr} {h' : Heap} (G : CGone X pins C H) (I : Inv X pins σ H s) (hs : Heap.SameBut C s.heap h') : Inv X pins σ H { s with heap := h' } :=
  cxC_gone I G.no G.loc G.old G.cel G.pin hs
theorem comp_block {pins : List (Addr × Obj)} {σ : St} {H : Hp} {s : Shared} {Q : VK} {RR : Value → Addr → Result → Shared → Prop} {E : Value → Shared → Prop} {J : It} {it : Addr} {fp : List Addr} {tn : Nat → Heap → Prop}
    (S : CScope X scope frees) (hc : X.calm = true) (hN : ix.map (fun i => X.N[i]?) = frees.map some)
    (hg : ∀ c, PG (cxC X (own ++ frees) scope c) tg (g c)) (ht : ∀ c, PIf (cxC X (own ++ frees) scope c) ifs (tt c)) (he : ∀ c, PE (cxC X (own ++ frees) scope c) elt (te c))
    (I : Inv X pins σ H s) (T : Turn X.prog X.w X.K tg J fp it tn) (st : tn 0 s.heap) (hf : ∀ b ∈ fp, FpOk X pins H b)
    (h : ∀ (c : CP) (acc : Addr), H acc = none → cLoop J (stC own ix σ) acc (g c) (tt c) (te c) (upd H acc (.lst [])) Q)
    (hRR : ∀ (acc C : Addr) s' H' m, Inv X pins σ H' s' → s'.heap.Ns C m → CGone X pins C H' → Q (.ref acc) H' → RR (.ref acc) C (.ok .next) s') :
    wpAny (model X.prog X.w) X.A (newList []) (fun acc s₃ => wpAny (model X.prog X.w) X.A (newFunctionEnv scope X.env.globals (clFrom X.env scope.names []) [] X.env.qual none .none (some X.env)) (fun cenv s₄ =>
      codeAny (model X.prog X.w) X.A (.compStart (.ListComp elt [⟨tg, iter, ifs, 0⟩] scope pos) 0 (.ref it) acc { cenv with scope := relabel scope X.env }) (RR acc cenv.locals) s₄) E s₃) E s := by
  refine wpAny_newObj_type (wpAny_newFunctionEnv S.nocell (by intro y hy; simp at hy) (fun h₁ hns hsb => ?_) S.kind)
  dsimp only at hns hsb ⊢
  have hn0 : H s.heap.objs.size = none := I.hok.fresh (Nat.le_refl _)
  have I3 : Inv X pins σ (upd H s.heap.objs.size (.lst [])) { s with heap := s.heap.push { cls := .type "list", data := .seq ([] : List Value).toArray } } := I.lnew (its := []) (t' := s.toks) .nil (Nat.zero_le _)
  generalize hs3 : ({ s with heap := s.heap.push { cls := .type "list", data := .seq ([] : List Value).toArray } } : Shared) = s3 at I3
  have e3 : s3.heap = s.heap.push { cls := .type "list", data := .seq ([] : List Value).toArray } := by rw [← hs3]
  have ob : ∀ b ∈ fp, b < s.heap.objs.size := fun b hb => by
    obtain ⟨o, e, _⟩ := T.obj _ _ st b hb
    exact Heap.lt_size e
  have sz : s3.heap.objs.size = s.heap.objs.size + 1 := by rw [e3, Heap.size_push]
  have hf3 : ∀ b ∈ fp, FpOk X pins (upd H s.heap.objs.size (.lst [])) b ∧ b < s3.heap.objs.size := fun b hb =>
    ⟨⟨by rw [upd_ne (Nat.ne_of_lt (ob b hb))]; exact (hf b hb).1, (hf b hb).2⟩, by rw [sz]; exact Nat.lt_succ_of_lt (ob b hb)⟩
  have kp : ∀ b o, s3.heap.get? b = some o → h₁.get? b = some o := fun b o e => by
    refine hsb.extBut b o ?_ (Heap.get?_push_of_some _ (e3 ▸ e))
    rw [← e3]
    exact Nat.ne_of_lt (Heap.lt_size e)
  have nsC : h₁.Ns s3.heap.objs.size (fun x => ([] : List (Str × Value)).reverse.lookup x) := by rw [e3]; exact hns
  have J0 : Inv (cxC X (own ++ frees) scope ⟨s3.heap.objs.size, s3, upd H s.heap.objs.size (.lst []), pins, fp⟩) [] (stC own ix σ) (upd H s.heap.objs.size (.lst [])) { s3 with heap := h₁, toks := s.toks + 0 } :=
    cxC_inv S hc I3 hf3 rfl hN ⟨_, nsC⟩ kp
  have fpk : ∀ b ∈ fp, ∀ H' : Hp, H' b = none → FpOk (cxC X (own ++ frees) scope ⟨s3.heap.objs.size, s3, upd H s.heap.objs.size (.lst []), pins, fp⟩) [] H' b := fun b hb H' hn => cxC_fp S I3 hf3 rfl hb hn
  have st1 : tn 0 h₁ := T.keep _ _ _ st fun b hb o e => kp b o (by rw [e3]; exact Heap.get?_push_of_some _ e)
  have loop : codeAny (model X.prog X.w) X.A (.compLoop (.ListComp elt [⟨tg, iter, ifs, 0⟩] scope pos) 0 (.ref it) (.ref s.heap.objs.size) (cxC X (own ++ frees) scope ⟨s3.heap.objs.size, s3, upd H s.heap.objs.size (.lst []), pins, fp⟩).env)
      (RR (.ref s.heap.objs.size) s3.heap.objs.size) { s3 with heap := h₁, toks := s.toks + 0 } := by
    refine comp_loop rfl T (hg _) (ht _) (he _) fpk J0 st1 (fun b hb => (hf3 b hb).1.1) (h _ _ hn0) fun s' H' I' q => ?_
    obtain ⟨m, hm, _⟩ := I'.loc
    refine hRR _ _ s' H' m (cxC_back I3 hf3 I') hm ⟨I'.free, Nat.ne_of_gt I3.lt, I3.sz, fun x c e z => ?_, fun p hp z => ?_⟩ q
    · obtain ⟨v, q⟩ := I3.cell x c e
      exact absurd (Nat.lt_of_lt_of_le q.lt (by rw [z]; exact Nat.le_refl _)) (Nat.lt_irrefl _)
    · exact absurd (Nat.lt_of_lt_of_le (Heap.lt_size (I3.pin p hp).1) (by rw [z]; exact Nat.le_refl _)) (Nat.lt_irrefl _)
  have loop' := loop
  rw [← hs3] at loop'
  exact codeAny_compStart_list loop' (T.self _ 0 _ _ _ st1 loop')
theorem pe_comp (hi : PI X tg iter wi)
    (hg : ∀ c, PG (cxC X (own ++ frees) scope c) tg (g c)) (ht : ∀ c, PIf (cxC X (own ++ frees) scope c) ifs (tt c)) (he : ∀ c, PE (cxC X (own ++ frees) scope c) elt (te c)) (S : CScope X scope frees := by exact ⟨rfl, by decide +kernel, by decide +kernel, by decide +kernel, by decide +kernel, rfl⟩) (hc : X.calm = true := by rfl) (hN : ix.map (fun i => X.N[i]?) = frees.map some := by rfl) (hs : ∀ x, foldedSetIterable iter X.env x = pure x := by intro _; rfl) :
    PE X (.ListComp elt [⟨tg, iter, ifs, 0⟩] scope pos) (tComp own ix wi g tt te) := by
  intro pins s σ H Q I h
  rw [eval_ListComp]
  refine wpAny_comprehension_free (use := none) rfl hs (closure_is (S.has I.ok)) S.kind S.locs (thn (hi pins s σ H _ I h) fun v s1 h1 => thn h1 fun itv s2 h2 => ?_)
  obtain ⟨it, fp, tn, J, H2, e, I2, T, st2, f2, hw⟩ := h2
  subst e
  refine comp_block S hc hN hg ht he I2 T st2 f2 hw fun acc C s' H' m I' hm G q => ?_
  exact ⟨m, hm, fun h' hs' => ⟨.ref acc, H', G.inv I' hs', rfl, q⟩⟩
theorem ps_comp {i : Nat} {x : Str} {pos' spos : Pos} (hNd : X.N.Nodup) (hi' : X.N[i]? = some x) (hx : Loc X.env.scope x) (hi : PI X tg iter wi)
    (hg : ∀ c, PG (cxC X (own ++ frees) scope c) tg (g c)) (ht : ∀ c, PIf (cxC X (own ++ frees) scope c) ifs (tt c)) (he : ∀ c, PE (cxC X (own ++ frees) scope c) elt (te c)) (S : CScope X scope frees := by exact ⟨rfl, by decide +kernel, by decide +kernel, by decide +kernel, by decide +kernel, rfl⟩) (hc : X.calm = true := by rfl) (hN : ix.map (fun i => X.N[i]?) = frees.map some := by rfl) (hs : ∀ x, foldedSetIterable iter X.env x = pure x := by intro _; rfl)
    (hsw : swapsWith (.ListComp elt [⟨tg, iter, ifs, 0⟩] scope pos) (some (.Name x pos')) spos.line X.env = pure true := by rfl) (hf : X.fn x = true ∨ X.env.scope.names.lookup x = some .local := by first | exact .inl rfl | exact .inr rfl | assumption) :
    PS X (.Assign [.Name x pos'] (.ListComp elt [⟨tg, iter, ifs, 0⟩] scope pos) spos) (tAsg (tComp own ix wi g tt te) (gName i)) := by
  intro pins s σ H D I h
  rw [exec_Assign_Name_used _ _ _ _ hsw]
  refine wpAny_bind (wpAny_standAt (wpAny_bind ?_))
  show wpAny _ X.A (do let _ ← comprehension (.ListComp elt [⟨tg, iter, ifs, 0⟩] scope pos) scope X.env _ (newList []) false (eval iter X.env) (some (assign (.Name x pos') X.env))) _ _ s
  refine wpAny_bind (wpAny_mono (wpAny_comprehension_free (use := some (assign (.Name x pos') X.env)) (Q := fun _ s' => SP X pins D .next s') rfl hs (closure_is (S.has I.ok)) S.kind S.locs
    (thn (hi pins s σ H _ I h) fun v s1 h1 => thn h1 fun itv s2 h2 => ?_)) (fun _ s' hq => wpAny_pure (wpAny_pure hq)) fun _ _ e => e)
  obtain ⟨it, fp, tn, J, H2, e, I2, T, st2, f2, hw⟩ := h2
  subst e
  refine comp_block S hc hN hg ht he I2 T st2 f2 hw fun acc C s' H' m I' hm G q => ?_
  show wpAny _ X.A (assign (.Name x pos') X.env (.ref acc)) _ _ _
  refine wpAny_assign_Name (store_ok2 I' hNd hi' hx (v := .ref acc) rfl (fun s2 I2' ch => ?_) hf)
  obtain ⟨a, sb, ha⟩ := ch
  have hne : C ≠ a := by
    rcases ha with e | e
    · rw [e]; exact G.loc
    · exact (G.cel _ _ e).symm
  exact ⟨m, hm.sameBut sb hne, fun h' hs' => ⟨_, H', G.inv I2' hs', q⟩⟩
end
section
variable {σc : St} {acc : Addr} {g : TG} {tt : TT} {te : TE} {H : Hp} {Q : VK}
end
end L2
namespace L2
open PySem PySem.Spec PyProof.Rows
section
variable {X : Cx}
theorem bools_of : ∀ {bs : List Bool} {its : List Value}, Vals (bs.map V.bl) its → LSm.BoolsAre its bs
  | [], _, .nil => .nil
  | b :: r, _, .cons q t => by
    cases q
    exact .cons b (bools_of t)
theorem call_all (hc : X.calm = true) : CallR X (.builtin "all") (fun xs H Q => ∃ (p : Addr) (bs : List Bool), xs = [.ref p] ∧ SqL X.K H p (bs.map V.bl) ∧ Q (.bl (bs.all id)) H) := by
  intro pins s σ H xs us Q I r h
  obtain ⟨p, bs, rfl, hq, q⟩ := h
  obtain ⟨u, rfl, ru⟩ := vals1 r
  cases ru
  obtain ⟨vs, rv, pl, hz⟩ := I.list hq
  have hb := bools_of rv
  have hl := pl.isList
  have hlt : p < s.heap.objs.size := by obtain ⟨_, e, _⟩ := hl; exact Heap.lt_size e
  refine call_all_walk (wpAny_pyIter_list hl ?_)
  refine ⟨s.heap.objs.size, [s.heap.objs.size, p], [s.heap.objs.size], vs.toArray.size, _, _, fun i => (bs[i]?).getD true, rfl, Walks.list (A := X.A.in1) (I.ok.hd hc) _ p (Nat.ne_of_lt hlt) vs.toArray,
    ⟨⟨_, Heap.get?_push_size _ rfl, rfl, rfl⟩, hl.push _⟩, fun i v s' Q' E' hP hQ => ?_, fun h' tk hk => ?_⟩
  · obtain ⟨b, e, rfl⟩ := hb.get i v (by simpa using hP)
    simp only [e, Option.getD_some] at hQ
    exact wpAny_truthy_bool hQ
  · have e : ((List.range vs.toArray.size).all fun i => (bs[i]?).getD true) = bs.all id := by
      rw [List.size_toArray, hb.length]; exact LSm.range_all bs
    rw [e]
    exact ⟨.bl _, H, I.kept (h' := h') (t' := tk) (LSm.kept_iter hk), rfl, q⟩
def Its (y : Str) : It := ⟨fun i _ => i < y.cps.size, fun i H x H' => H' = H ∧ ∃ c, y.cps[i]? = some c ∧ x = .str ⟨#[c]⟩, fun i _ => i = y.cps.size⟩
theorem turn_str {P : Program} {w : World} {K : PySem.W.Frag} {nm : Str} {px : Pos} {ty : String} {y : Str} {t : Tok} (it : Addr)
    (W : ∀ A : Around, A.handled = none → Walks P w A it [it] [it] y.cps.size (SignAt y) (fun i h => h.IsStrIter it ty y t i))
    (sf : ∀ (A : Around) (i : Nat) (s : Shared) (Q : Value → Shared → Prop) (E : Value → Shared → Prop), s.heap.IsStrIter it ty y t i → Q (.ref it) s → wpAny (model P w) A (pyIter (.ref it)) Q E s) : Turn P w K (.Name nm px) (Its y) [it] it (fun i h => h.IsStrIter it ty y t i) where
  mem := by simp
  obj := fun i h st b hb => by
    have e : b = it := by simpa using hb
    subst e
    obtain ⟨o, e, c, d⟩ := st
    exact ⟨o, e, fun v z => by rw [d] at z; cases z⟩
  keep := fun i h h' st k => let ⟨o, ho, r⟩ := st; ⟨o, k it (by simp) o ho, r⟩
  item := by
    intro X hP hw hK hc i pins s σ H E I hf st hg
    subst hP hw hK
    obtain ⟨f0, f1, f2, f3, f4, f5⟩ := hf it (by simp)
    refine (W X.A (I.ok.hd hc)).item i s _ _ hg st fun v h' tk hP st' hk => ?_
    obtain ⟨c, u, hcx, rfl⟩ := hP
    have I1 : Inv X pins σ H { s with heap := h', toks := tk } := I.turned (fun b o hb e => hk b o (by simpa using hb) e) f0 f1 f3 f4 f5
    exact ⟨_, rfl, wpAny_pure ⟨.str ⟨#[c]⟩, H, I1, ⟨u, rfl⟩, ⟨rfl, c, hcx, rfl⟩, st', fun b hb => (hf b hb).1⟩⟩
  done := by
    intro X hP hw hK hc i pins s σ H E I hf st hg
    subst hP hw hK
    obtain ⟨f0, f1, f2, f3, f4, f5⟩ := hf it (by simp)
    have hg' : i = y.cps.size := hg
    subst hg'
    exact (W X.A (I.ok.hd hc)).done s _ _ st fun h' tk hk => ⟨rfl, I.turned (fun b o hb e => hk b o (by simpa using hb) e) f0 f1 f3 f4 f5⟩
  self := fun A i s Q E st h => sf A i s Q E st h
def iStr (tl : TE) : TI := fun σ H R => tl σ H fun x H1 => ∃ y, x = .str y ∧ R (Its y) H1
theorem pi_str {l : Expr} {tl : TE} {nm : Str} {px : Pos} (hl : PE X l tl) : PI X (.Name nm px) l (iStr tl) := by
  intro pins s σ H R I h
  refine thn (hl pins s σ H _ I h) fun v s1 ⟨x, H1, I1, r1, q1⟩ => ?_
  obtain ⟨y, e, q⟩ := q1
  subst e
  obtain ⟨t, rfl⟩ := r1
  have fin : ∀ (ty : String) (o : Obj) (W : ∀ A : Around, A.handled = none → Walks X.prog X.w A s1.heap.objs.size [s1.heap.objs.size] [s1.heap.objs.size] y.cps.size (SignAt y) (fun i h => h.IsStrIter s1.heap.objs.size ty y t i))
      (sf : ∀ (A : Around) (i : Nat) (s : Shared) (Q : Value → Shared → Prop) (E : Value → Shared → Prop), s.heap.IsStrIter s1.heap.objs.size ty y t i → Q (.ref s1.heap.objs.size) s → wpAny (model X.prog X.w) A (pyIter (.ref s1.heap.objs.size)) Q E s),
      (s1.heap.push o).IsStrIter s1.heap.objs.size ty y t 0 → PIE X pins σ (.Name nm px) R (.ref s1.heap.objs.size) { s1 with heap := s1.heap.push o } := fun ty o W sf st => by
    refine ⟨s1.heap.objs.size, [s1.heap.objs.size], _, _, H1, rfl, I1.kept (t' := s1.toks) fun b o e => Heap.get?_push_of_some _ e, turn_str _ W sf, st, fun b hb => ?_, q⟩
    have e : b = s1.heap.objs.size := by simpa using hb
    subst e
    exact I1.fpOk (Nat.le_refl _) (I1.hok.fresh (Nat.le_refl _))
  cases ha : y.cps.all (· < 128)
  · exact wpAny_pyIter_wide ha (fin _ _ (fun A' hA => Walks.strWide hA _ y t) (fun _ _ _ _ _ st h => wpAny_pyIter_striter_wide st h) ⟨_, Heap.get?_push_size _ rfl, rfl, rfl⟩)
  · exact wpAny_pyIter_ascii ha (fin _ _ (fun A' hA => Walks.strAscii hA _ y t) (fun _ _ _ _ _ st h => wpAny_pyIter_striter_ascii st h) ⟨_, Heap.get?_push_size _ rfl, rfl, rfl⟩)
end
end L2
namespace L2
open PySem PySem.Spec PyProof.Rows
mutual
inductive Dp (K : PySem.W.Frag) (H : Hp) : V → PyData → Prop
  | non : Dp K H .non .none
  | bl (b : Bool) : Dp K H (.bl b) (.bool b)
  | int (i : Int) : Dp K H (.int i) (.int i)
  | str (x : Str) : Dp K H (.str x) (.str x)
  | lst {a : Addr} {xs : List V} {ds : List PyData} : SqL K H a xs → DpAll K H xs ds → Dp K H (.ref a) (.list ds)
  | tup {a : Addr} {xs : List V} {ds : List PyData} : SqT K H a xs → DpAll K H xs ds → Dp K H (.ref a) (.tuple ds)
inductive DpAll (K : PySem.W.Frag) (H : Hp) : List V → List PyData → Prop
  | nil : DpAll K H [] []
  | cons {v : V} {vs : List V} {d : PyData} {ds : List PyData} : Dp K H v d → DpAll K H vs ds → DpAll K H (v :: vs) (d :: ds)
end
section
variable {X : Cx} {pins : List (Addr × Obj)} {σ : St} {H H' : Hp} {s : Shared} {K : PySem.W.Frag}
mutual
theorem Dp.reads (I : Inv X pins σ H s) : ∀ (d : PyData) (v : V) (u : Value), Dp X.K H v d → RelV v u → ∃ as, Reads s.heap u d as
  | .none, _, _, h, r => by cases h; cases r; exact ⟨_, .none⟩
  | .bool b, _, _, h, r => by cases h; cases r; exact ⟨_, .bool b⟩
  | .int i, _, _, h, r => by cases h; obtain ⟨t, rfl⟩ := r; exact ⟨_, .int i t⟩
  | .str x, _, _, h, r => by cases h; obtain ⟨t, rfl⟩ := r; exact ⟨_, .str x t⟩
  | .list ds, _, _, h, r => by
    cases h with
    | lst hq hs =>
      cases r
      obtain ⟨its, rv, pl, hz⟩ := I.list hq
      obtain ⟨as, ra⟩ := DpAll.reads I ds _ _ hs rv
      obtain ⟨o, e, hc, n, hd⟩ := pl.isList
      exact ⟨_, .list e hc hd (by simpa using ra)⟩
  | .tuple ds, _, _, h, r => by
    cases h with
    | tup hq hs =>
      cases r
      obtain ⟨its, rv, pl, hz⟩ := I.tuple hq
      obtain ⟨as, ra⟩ := DpAll.reads I ds _ _ hs rv
      obtain ⟨o, e, hc, n, hd⟩ := pl
      exact ⟨_, .tuple e hc hd (by simpa using ra)⟩
  | .dict _, _, _, h, _ => nomatch h
theorem DpAll.reads (I : Inv X pins σ H s) : ∀ (ds : List PyData) (vs : List V) (us : List Value), DpAll X.K H vs ds → Vals vs us → ∃ as, ReadsAll s.heap us ds as
  | [], _, _, h, r => by cases h; cases r; exact ⟨_, .nil⟩
  | d :: ds, _, _, h, r => by
    cases h with
    | cons h1 h2 =>
      cases r with
      | cons r1 r2 =>
        obtain ⟨as, a1⟩ := Dp.reads I d _ _ h1 r1
        obtain ⟨bs, a2⟩ := DpAll.reads I ds _ _ h2 r2
        exact ⟨_, .cons a1 a2⟩
end
def rEqD (K : PySem.W.Frag) : R2 := fun x y H Q => ∃ d e, Dp K H x d ∧ Dp K H y e ∧ d.canLay0 = true ∧ e.canLay0 = true ∧ min d.depth e.depth ≤ 64 ∧ Q (.bl (PyData.eqv d e)) H
def rNeD (K : PySem.W.Frag) : R2 := fun x y H Q => ∃ d e, Dp K H x d ∧ Dp K H y e ∧ d.canLay0 = true ∧ e.canLay0 = true ∧ min d.depth e.depth ≤ 64 ∧ Q (.bl (!PyData.eqv d e)) H
theorem op_eqD (hu : X.A.units + 64 < cLine) : OpR X (compareOp .Eq) (rEqD X.K) := by
  intro pins s σ H x y v u Q I rx ry h
  obtain ⟨d, e, h1, h2, c1, c2, hd, q⟩ := h
  obtain ⟨as, ra⟩ := Dp.reads I d x v h1 rx
  obtain ⟨bs, rb⟩ := Dp.reads I e y u h2 ry
  exact SeqAt.compareEq_reads ra rb c1 c2 (by omega) ⟨.bl _, H, I, rfl, q⟩
theorem op_neD (hu : X.A.units + 64 < cLine) : OpR X (compareOp .NotEq) (rNeD X.K) := by
  intro pins s σ H x y v u Q I rx ry h
  obtain ⟨d, e, h1, h2, c1, c2, hd, q⟩ := h
  obtain ⟨as, ra⟩ := Dp.reads I d x v h1 rx
  obtain ⟨bs, rb⟩ := Dp.reads I e y u h2 ry
  exact SeqAt.compareNe_reads ra rb c1 c2 (by omega) ⟨.bl _, H, I, rfl, q⟩
theorem Same.new {p : Addr} (h : H p = none) (o : HO) : Same H (upd H p o) := fun b u q => by rw [upd_ne (ne_of_none q h)]; exact q
theorem DpAll.ints : ∀ (xs : List Int), DpAll K H (xs.map V.int) (xs.map PyData.int)
  | [] => .nil
  | x :: r => .cons (.int x) (DpAll.ints r)
end
end L2
namespace L2
open PySem PySem.Spec PyProof.Rows
section
variable {P : Program} {w : World} {K : PySem.W.Frag} {mg : Str → Option Value} {base : Heap}
def TopD (K : PySem.W.Frag) (mg : Str → Option Value) (x : Str) (st : Stmt) (ps : List Str) : Prop := ∃ f fd, Fun K x x st f fd ∧ Binds K fd ps [] ∧ mg x = some (.ref f)
end
section
variable {X : Cx} {k : Nat} {x : Str} {ps : List Str} {sp : Sp} {e : Expr} {es : List Expr} {t : TA} {p pos : Pos}
theorem op_le_str : OpR X (compareOp .LtE) (fun x y H Q => ∃ i j, x = .str i ∧ y = .str j ∧ Q (.bl (!decide (j.cps.toList < i.cps.toList))) H) := by
  intro pins s σ H x y v u Q I rx ry h
  obtain ⟨i, j, rfl, rfl, q⟩ := h
  obtain ⟨t, rfl⟩ := rx
  obtain ⟨t', rfl⟩ := ry
  exact PySem.P.le_str (fin_bl I q rfl)
end
end L2
namespace L2
open PySem PySem.Spec PyProof.Rows
section
variable {X : Cx}
end
inductive TyR (K : PySem.W.Frag) (H : Hp) : V → Value → Prop where
  | of {x : V} {t : Value} (h : TyOf K H x t) : TyR K H x t
  | tup {a : Addr} {xs : List V} (h : SqT K H a xs) : TyR K H (.ref a) (.type "tuple")
  | lst {a : Addr} {xs : List V} (h : SqL K H a xs) : TyR K H (.ref a) (.type "list")
theorem call_isI {X : Cx} : CallR X (.builtin "isinstance") (fun xs H Q => ∃ x c t b, xs = [x, .ty c] ∧ TyR X.K H x t ∧ PySem.W.kitOne X.K t (.type c) = some b ∧ Q (.bl b) H) := by
  intro pins s σ H xs us Q I r h
  obtain ⟨x, c, t, b, rfl, ty, e, q⟩ := h
  obtain ⟨u, w', rfl, ru, rw'⟩ := vals2 r
  cases rw'
  cases ty with
  | of ty => exact isinst_ok I ru ty e fun tk => ⟨.bl b, H, I.tok tk, rfl, q⟩
  | tup hq =>
    cases ru
    obtain ⟨its, rv, ⟨o, h1, h2, _⟩, _⟩ := I.tuple hq
    exact PySem.W.kia_one PySem.W.kitx_tuple I.kIn ⟨o, h1, h2⟩ e (fun z => nomatch z) fun tk => ⟨.bl b, H, I.tok tk, rfl, q⟩
  | lst hq =>
    cases ru
    obtain ⟨its, rv, pl, _⟩ := I.list hq
    obtain ⟨o, h1, h2, _⟩ := pl.isList
    exact PySem.W.kia_one PySem.W.kitx_list I.kIn ⟨o, h1, h2⟩ e (fun z => nomatch z) fun tk => ⟨.bl b, H, I.tok tk, rfl, q⟩
end L2
namespace MA
namespace Mob
variable {N : Type}
end Mob
end MA
namespace MA
namespace Mob
variable {N : Type}
end Mob
end MA
namespace L2
open PySem PySem.Spec PyProof.Rows
section
variable {P : Program} {w : World} {H H' : Hp} {h : Heap} {a : Addr} {o : HO}
theorem ObjOk.obj (x : ObjOk P w H h a o) : ∃ u, h.get? a = some u := by
  cases o with
  | lst xs => obtain ⟨_, _, _, _, e⟩ := x; exact ⟨_, e⟩
  | tup xs => obtain ⟨_, _, _, _, e⟩ := x; exact ⟨_, e⟩
  | dK kvs => obtain ⟨_, _, _, _, o, _, _, e, _⟩ := x; exact ⟨_, e⟩
  | dT kvs => obtain ⟨_, _, _, _, o, _, _, e, _⟩ := x; exact ⟨_, e⟩
  | set S n => obtain ⟨o, _, _, _, e, _⟩ := x; exact ⟨_, e⟩
  | ins C dx fs => obtain ⟨_, _, _, e, _⟩ := x; exact ⟨_, e⟩
  | own y => exact x
  | xd fs => obtain ⟨_, ⟨_, _, _, e, _⟩, _⟩ := x; exact ⟨_, e⟩
  | rng lo hi => obtain ⟨_, _, _, e⟩ := x; exact ⟨_, e⟩
  | frz ob u => obtain ⟨e, _⟩ := x; exact ⟨_, e⟩
  | tbl ps => exact ⟨_, (show h.get? a = some _ from x)⟩
  | met f y => exact ⟨_, (show h.get? a = some _ from x)⟩
  | ext φ => obtain ⟨_, e, _⟩ := x; exact e
end
structure Fly (P : Program) (w : World) (outer : List Env) (H H' : Hp) (s s' : Shared) (a : Addr) (C : Value) : Prop where
  os : s'.os = s.os
  bare : AllBare s'.gens
  slot : ∀ b o, s.heap.get? b = some o → b ∈ frs outer → ∃ sl, s'.heap.get? b = some { o with slots := sl }
  free : ∀ b o, s.heap.get? b = some o → H b = none → H' b = none
  tups : ∀ b xs, H b = some (.tup xs) → H' b = some (.tup xs)
  frzs : ∀ b o u, H b = some (.frz o u) → H' b = some (.frz o u)
  tbls : ∀ b ps, H b = some (.tbl ps) → ∃ more, H' b = some (.tbl (ps ++ more))
  fl : ∃ (B : Heap) (a0 : Value), (∀ b o, s.heap.get? b = some o → H b = none → b ∉ frs outer → B.get? b = some o) ∧ (∀ b o, s.heap.get? b = some o → b ∉ frs outer → ∃ o', B.get? b = some o') ∧ HOk P w H' B ∧ Heap.FlyingW B outer a C a0 s'.heap
section
variable {P : Program} {w : World} {outer : List Env} {H H' : Hp} {s s' : Shared} {a : Addr} {C : Value}
theorem Fly.un (F : Fly P w outer H H' s s' a C) : Un (frs outer) [] H H' s.heap s'.heap where
  keep := fun b o q n hb _ => by
    obtain ⟨B, a0, k, _, _, f⟩ := F.fl
    exact f.1 b o (k b o q n hb)
  slot := fun b o q n hb _ => F.slot b o q hb
  free := fun b o q n _ => F.free b o q n
  there := fun b o q _ => by
    by_cases hb : b ∈ frs outer
    · obtain ⟨sl, e⟩ := F.slot b o q hb
      exact ⟨_, e⟩
    · obtain ⟨B, a0, _, t, _, f⟩ := F.fl
      obtain ⟨o', e⟩ := t b o q hb
      exact ⟨o', f.1 b o' e⟩
  tups := F.tups
  frzs := F.frzs
  tbls := F.tbls
theorem Fly.hok (F : Fly P w outer H H' s s' a C) : HOk P w H' s'.heap := by
  obtain ⟨B, a0, _, _, h, f⟩ := F.fl
  exact h.kept f.1
theorem Fly.new (F : Fly P w outer H H' s s' a C) : H' a = none := by
  obtain ⟨B, a0, _, _, h, f⟩ := F.fl
  cases e : H' a with
  | none => rfl
  | some o =>
    obtain ⟨u, q⟩ := (h a o e).obj
    rw [f.2.1] at q
    cases q
end
def CX1 (P : Program) (w : World) : CXT := fun outer H s E e s' => ∃ (a : Addr) (C : Value) (H' : Hp), e = .ref a ∧ Fly P w outer H H' s s' a C ∧ E C none H'
section
variable {X : Cx} {pins : List (Addr × Obj)} {σ : St} {H H' : Hp} {s s' : Shared} {a : Addr} {C : Value}
theorem fly_out (I : Inv X pins σ H s) (hex : X.ex = []) (os : s'.os = s.os) (bare : AllBare s'.gens) (slot : ∀ b o, s.heap.get? b = some o → b ∈ frs X.outer → ∃ sl, s'.heap.get? b = some { o with slots := sl })
    (free : ∀ b o, s.heap.get? b = some o → H b = none → H' b = none) (tups : ∀ b xs, H b = some (.tup xs) → H' b = some (.tup xs)) (frzs : ∀ b o u, H b = some (.frz o u) → H' b = some (.frz o u))
    (tbls : ∀ b ps, H b = some (.tbl ps) → ∃ more, H' b = some (.tbl (ps ++ more)))
    (fl : ∃ (B : Heap) (a0 : Value), (∀ b o, s.heap.get? b = some o → H b = none → b ∉ frs X.stack → B.get? b = some o) ∧ (∀ b o, s.heap.get? b = some o → b ∉ frs X.stack → ∃ o', B.get? b = some o') ∧ HOk X.prog X.w H' B ∧ Heap.FlyingW B X.outer a C a0 s'.heap) :
    Fly X.prog X.w X.outer X.H₀ H' X.s₀ s' a C := by
  have nx : ∀ b : Addr, b ∉ X.ex := fun b => by rw [hex]; simp
  have nst : ∀ b o, X.s₀.heap.get? b = some o → b ∉ frs X.outer → b ∉ frs X.stack := fun b o q hb z => by
    rcases List.mem_cons.mp (I.stkSub b z) with e | e
    · exact absurd (Nat.lt_of_lt_of_le (Heap.lt_size q) I.ok.above) (by rw [e]; exact Nat.lt_irrefl _)
    · exact hb e
  refine ⟨os.trans I.os, bare, fun b o q hb => ?_, fun b o q n => ?_, fun b xs q => tups b xs (I.base.tups b xs q), fun b o u q => frzs b o u (I.base.frzs b o u q), fun b ps q => ?_, ?_⟩
  · obtain ⟨sl, e⟩ := I.base.slot b o q (I.ok.frf b hb) hb (nx b)
    obtain ⟨sl', e'⟩ := slot b _ e hb
    exact ⟨sl', e'⟩
  · obtain ⟨sl, e⟩ := I.base.any q n (nx b)
    exact free b _ e (I.base.free b o q n (nx b))
  · obtain ⟨m1, e1⟩ := I.base.tbls b ps q
    obtain ⟨m2, e2⟩ := tbls b _ e1
    exact ⟨m1 ++ m2, by rw [e2, Array.append_assoc]⟩
  · obtain ⟨B, a0, k, t, h, f⟩ := fl
    refine ⟨B, a0, fun b o q n hb => k b o (I.base.keep b o q n hb (nx b)) (I.base.free b o q n (nx b)) (nst b o q hb), fun b o q hb => ?_, h, f⟩
    obtain ⟨o', e⟩ := I.base.there b o q (nx b)
    exact t b o' e (nst b o q hb)
end
def Raises (X : Cx) (E : XK) : Prop := ∀ (pins : List (Addr × Obj)) (σ : St) (H : Hp) (s : Shared) (e : Addr) (h' : Heap) (C : Value) (args : List Value), Inv X pins σ H s → Heap.MadeExcOf s.heap h' e C args → E C none H → X.xe (.ref e) { s with heap := h' }
section
variable {P : Program} {w : World} {K : PySem.W.Frag} {mg : Str → Option Value} {base : Heap} {N : List Str} {qual : Str} {scope : Scope} {f : Addr} {cd : Value} {A : Around} {outer : List Env} {s : Shared} {H : Hp} {E : XK}
theorem frs_cons {env : Env} {l : List Env} {b : Addr} (h : b ∈ frs l) : b ∈ frs (env :: l) := by
  obtain ⟨e, he, hf⟩ := List.mem_filterMap.mp h
  exact List.mem_filterMap.mpr ⟨e, List.mem_cons_of_mem _ he, hf⟩
theorem raisesX : Raises (cxOf (CX1 P w) P w K mg base N qual scope f cd A outer s H E) E := by
  intro pins σ H1 s1 e h' C args I mx hE
  have stk := I.stack
  have nofr : ∀ b o, H1 b = some o → b ∉ frs (cxOf (CX1 P w) P w K mg base N qual scope f cd A outer s H E).stack := fun b o q z => by
    rw [I.stkFree b z] at q; cases q
  have hin : ∀ env' ∈ (cxOf (CX1 P w) P w K mg base N qual scope f cd A outer s H E).stack, ∀ b, env'.frame = some b → b ∈ frs (cxOf (CX1 P w) P w K mg base N qual scope f cd A outer s H E).stack := fun env' he b hb => List.mem_filterMap.mpr ⟨env', he, hb⟩
  show wpAny (model P w) _ (leaving _ (.ref e)) _ _ _
  refine wpAny_leaves_madeW (base := PySem.W.hideAll s1.heap (frs (cxOf (CX1 P w) P w K mg base N qual scope f cd A outer s H E).stack)) I.ok.frames rfl (fun b o q => PySem.W.of_hideAll _ q) (PySem.W.funFrames_hide stk hin) mx fun h'' t fl tup bt up => ?_
  refine ⟨e, C, H1, rfl, fly_out I rfl rfl I.bare (fun b o q hb => ?_) (fun _ _ _ n => n) (fun _ _ q => q) (fun _ _ _ q => q) (fun _ ps q => ⟨#[], by rw [q]; simp⟩) ⟨_, _, fun b o q n hb => PySem.W.hideAll_get _ q hb, fun b o q hb => ⟨o, PySem.W.hideAll_get _ q hb⟩, fun b o q => ?_, fl⟩, hE⟩
  · obtain ⟨_, o', ho', hd⟩ := stk.mem (frs_cons (env := envOfC qual scope s.heap.objs.size f cd) hb)
    rw [q] at ho'
    cases ho'
    exact up b o (mx.keeps b o q) hd
  · refine (I.hok b o q).stay (fun c u hc r => PySem.W.hideAll_get _ r ?_) (fun _ r => r) fun _ _ r => r
    rcases hc with z | z
    · rw [z]; exact nofr b o q
    · exact nofr c _ z
theorem passX : Passes (CX1 P w) (cxOf (CX1 P w) P w K mg base N qual scope f cd A outer s H E) E := by
  intro pins σ H1 s1 e s' I h
  obtain ⟨a, C, H', rfl, F, hE⟩ := h
  obtain ⟨B, a0, kb, th, hok, fl⟩ := F.fl
  show wpAny (model P w) _ (leaving _ (.ref a)) _ _ _
  refine wpAny_leaves_onW I.ok.frames rfl fl fun h'' fl' up => ⟨a, C, H', rfl, fly_out I rfl F.os F.bare (fun b o q hb => ?_) F.free F.tups F.frzs F.tbls ⟨B, a0, kb, th, hok, fl'⟩, hE⟩
  have hb' := frs_cons (env := envOfC qual scope s.heap.objs.size f cd) hb
  obtain ⟨sl, e⟩ := F.slot b o q hb'
  obtain ⟨_, o', ho', hd⟩ := fl.2.2.1.mem hb'
  rw [e] at ho'
  cases ho'
  obtain ⟨sl', e'⟩ := up b _ e hd
  exact ⟨sl', e'⟩
theorem ownX : PassesOwn (model P w) (cxOf (CX1 P w) P w K mg base N qual scope f cd A outer s H E).A (cxOf (CX1 P w) P w K mg base N qual scope f cd A outer s H E).env (cxOf (CX1 P w) P w K mg base N qual scope f cd A outer s H E).xe :=
  PassesOwn.leaving
end
abbrev vErr : List Value := [.type "ValueError", .type "Exception", .type "BaseException", .type "object"]
theorem exc_of_in {K : PySem.W.Frag} {h : Heap} {C : Addr} {bmB : List Value} {newId : String} (X : K.In h) (q : PySem.W.excIn K C bmB newId = true) : ∃ nm qn N bs bm hdct sn sub ab col dd k0 k1 k2 k3 k5, ∃ mN : Str → Option Value,
    h.get? C = some (excClassObj nm qn C N bs bm hdct sn sub ab col dd k0 k1 k2 k3 k5 newId) ∧ h.Ns N mN ∧ mN "__init__" = none ∧ OwnTail h bmB bm := by
  unfold PySem.W.excIn at q
  split at q
  · rename_i dd cd sl ho
    split at q
    · rename_i C' bm k0 k1 k2 k3 n k5 hm hs
      simp only [Bool.and_eq_true, beq_iff_eq, Bool.not_eq_true'] at q
      obtain ⟨⟨⟨⟨⟨rfl, rfl⟩, hdel⟩, ht⟩, hok⟩, hni⟩ := q
      obtain ⟨nm, bs, mro, ns, qn, hd, sn, sub, ab, col, del⟩ := cd
      dsimp only at hm hdel hok hni
      subst hm hdel
      have hsl : sl = #[k0, k1, k2, k3, some (.builtin n), k5] := by
        obtain ⟨l⟩ := sl
        simp only at hs
        rw [hs]
      subst hsl
      exact ⟨nm, qn, ns, bs, bm, hd, sn, sub, ab, col, dd, k0, k1, k2, k3, k5, _, X _ _ ho, .of_isNs (PySem.W.isNs_of_in X hok), PySem.W.nsMap_none_of_in X hok hni, PySem.W.tail_of_in X ht⟩
    · cases q
  · cases q
section
variable {X : Cx} {E : XK} {x : Str} {C : Addr} {e : Expr} {t : TA} {np cpos pos : Pos}
def tRaise (E : XK) (C : Addr) (t : TA) : TS := fun _ σ H => t σ H fun vs H1 => vs.length ≤ sizeLine ∧ E (.ref C) none H1
theorem ps_raise (hR : Raises X E) (hc : X.calm = true) (hm : X.mg x = some (.ref C)) (hC : PySem.W.excIn X.K C vErr "ValueError.__new__" = true) (ha : PA X [e] t) (hg : Gl X x := by rfl) (hdb : (x == ("__debug__" : Str)) = false := by decide)
    (he : starEach [e] X.env = [(false, eval e X.env)] := by rfl) : PS X (.Raise (some (.Call (.Name x np) [e] [] cpos)) none pos) (tRaise E C t) := by
  intro pins s σ H D I h
  obtain ⟨nm, qn, N, bs, bm, hdct, sn, sub, ab, col, dd, k0, k1, k2, k3, k5, mN, hCo, hN, hni, hT⟩ := exc_of_in I.mod.kin hC
  refine wpAny_Raise_call_subT (nm := nm) (q := qn) (C := C) (N := N) (bs := bs) (bm := bm) (hdct := hdct) (sn := sn) (sub := sub) (ab := ab) (col := col) (dd := dd) (k0 := k0) (k1 := k1) (k2 := k2) (k3 := k3) (k5 := k5) (mN := mN) PySem.F.excBase_ValueError (hT.hasType (by decide +kernel)) (I.ok.hd hc) (by rw [he]; rfl) hni (ld_glob I hg hm ⟨rfl, ?_⟩ hdb)
  have h' := ha cpos pins s σ H _ I h
  rw [he] at h' ⊢
  refine Calls.evalArgs_plain (thn h' fun us s1 ⟨vs, H1, I1, r1, q1⟩ => ?_)
  have hl := r1.length
  exact ⟨rfl, by show us.length ≤ sizeLine; rw [← hl]; exact q1.1, I1.bk _ _ hCo, hN.keeps I1.bk, hT.keeps I1.bk, fun h2 e2 mx => hR _ _ _ _ _ _ _ _ I1 mx q1.2⟩
end
end L2
namespace L2
open PySem PySem.Spec PyProof.Rows
def excAt (a : Addr) (C : Value) (h : Heap) : Prop := ∃ o, h.get? a = some o ∧ o.cls = C
structure ExcK (K : PySem.W.Frag) (C : Addr) : Prop where
  ga : PySem.W.findIn K (.ref C) "__getattribute__" = some (some (.builtin "BaseException.__getattribute__"))
  gh : PySem.W.findIn K (.ref C) "__getattr__" = some none
  fc : PySem.W.findIn K (.ref C) "__class__" = some (some (.builtin "object.__class__"))
  fg : PySem.W.specialIn K (.builtin "object.__class__") "__get__" = some (some (.builtin "getset_descriptor.__get__"))
  ft : PySem.W.takesIn K (.builtin "object.__class__") = some true
  mo : PySem.W.mroIn K C (.type "object") = some true
  mb : PySem.W.mroIn K C (.type "BaseException") = some true
  cl : (PySem.W.clsIn K C).isSome = true
section
variable {prog : Program} {w : World} {A : Around} {E : Value → Shared → Prop} {s : Shared} {K : PySem.W.Frag} {x C : Addr} {ox : Obj}
open PySem.W Builtin Builtin.ObjectAttr in
theorem find_data {M : Model} {h : Heap} {name : Str} {a g : Value} (X : K.In h) (h1 : PySem.W.findIn K (.ref C) name = some (some a)) (h2 : PySem.W.specialIn K a "__get__" = some (some g)) (h3 : PySem.W.takesIn K a = some true) :
    Looks M h (find (.ref x) (.ref C) name) (.bind g a) := by
  have L1 := looks_findIn (M := M) X h1
  have L2 : Looks M h (getOf (some a)) (some g) := looks_specialIn X h2
  have L3 := looks_takesIn (M := M) X h3
  exact L1.andThen (L2.andThen ((show Looks M h (dataDescriptor? (some a) (some g)) (some (g, a)) from L3.andThen .now).andThen (Looks.tag .now)))
open PySem.W Builtin Builtin.ObjectAttr Builtin.Getset_descriptor in
theorem exc_get {R : Result → Shared → Prop} {tp : Value} (X : K.In s.heap) (L0 : Looks (model prog w) s.heap (typeOf (.ref x)) (.ref C)) (hm : PySem.W.mroIn K C (.type "object") = some true)
    (h : R (.ok (.ret (.ref C))) s) : codeAny (model prog w) A (.call (.builtin "getset_descriptor.__get__") ⟨[.builtin "object.__class__", .ref x, tp], []⟩) R s := by
  obtain ⟨hh, g, dr, t, os⟩ := s
  have L1 := looks_mroIn (M := model prog w) X hm
  refine codeAny_call_builtin KF.slot_gs.plain KF.entry_gs (KF.slot_gs.check _ _ _ _ _ _ _ _ KF.type_class (KF.args_gs _ _ _) ?_)
  unfold Builtin.«getset_descriptor.__get__» descrGet
  rw [dga_obj]
  refine wpAny_bind (wpAny_pure ?_)
  unfold descrGetter descrCheckInstance descrNameAndClass isInstance
  simp only [KF.owner_class]
  repeat lk
  refine ⟨Code.quiet_builtin _ (by decide +kernel), codeAny_builtin KF.entry_class ?_⟩
  unfold Builtin.«object.__class__» shownTypeOf
  repeat lk
  exact h
open PySem.W in
theorem exc_class (Z : ExcK K C) {Q : Option Value → Shared → Prop} (X : K.In s.heap) (I : excAt x (.ref C) s.heap) (h : Q (some (.ref C)) { s with toks := s.toks + 1 }) : wpAny (model prog w) A (getAttr? (.ref x) "__class__") Q E s := by
  obtain ⟨hh, g, d, t, os⟩ := s
  obtain ⟨ox, ho, hc⟩ := I
  have L0 : Looks (model prog w) hh (typeOf (.ref x)) (.ref C) := hc ▸ (Looks.ld ho).andThen .now
  have L1 := looks_findIn (M := model prog w) X Z.ga
  have L2 := looks_findIn (M := model prog w) X Z.gh
  have L3 := find_data (x := x) (M := model prog w) X Z.fc Z.fg Z.ft
  have L4 := looks_mroIn (M := model prog w) X Z.mb
  have hk : builtinKind "BaseException.__getattribute__" = some .slot := by decide +kernel
  have hsplit : splitId "BaseException.__getattribute__" = some ("BaseException", "__getattribute__") := by decide +kernel
  have f3 := PySem.F.excAttr_ValueError.ga.bind (.ref x)
  have hx2 : (Value.builtin "BaseException.__getattribute__" == Value.builtin "object.__getattribute__") = false := by decide +kernel
  unfold getAttr? getAttrBy? getAttrBy
  refine wpAny_bind (wpAny_mkText (wpAny_bind (wpAny_attempt (wpAny_holding (wpAny_bind (L0.at (wpAny_bind (L1.at ?_))))))))
  have hx1 : (onTheHeap (Value.ref C) && Value.builtin "BaseException.__getattribute__" == Value.builtin "object.__getattribute__") = false := by rw [hx2]; rfl
  show wpAny _ _ (if (onTheHeap (Value.ref C) && Value.builtin "BaseException.__getattribute__" == Value.builtin "object.__getattribute__") = true then _ else _) _ _ _
  rw [hx1, if_neg (by decide)]
  unfold getAttrByItsOwn hookBefore
  refine wpAny_bind ?_
  show wpAny _ _ (typeLookup (.ref C) "__getattr__") _ _ _
  refine L2.at ?_
  refine wpAny_bind (wpAny_attempt (wpAny_holding ?_))
  unfold callGetattribute boundAndCalled
  rw [if_neg (by simp), f3]
  refine wpAny_bind (wpAny_pure ?_)
  show wpAny _ _ (call (.builtin "BaseException.__getattribute__") [.ref x, .str "__class__" t]) _ _ _
  have ha := PySem.F.args_bexc_ga (.ref x) (.str "__class__" t)
  refine wpAny_call (codeAny_call_builtin PySem.F.excAttr_ValueError.ga.plain PySem.F.entry_bexc_ga ?_)
  simp only [checkBuiltinCall, hk, hsplit]
  refine wpAny_bind ?_
  unfold isInstance
  refine wpAny_bind (L0.at (L4.at ?_))
  repeat (any_goals (first | assumption | (with_reducible refine L0.at ?_) | (with_reducible refine L3.at ?_) | wp_step))
  refine exc_get (s := { heap := hh, gens := g, drawn := d, toks := t + 1, os := os }) X L0 Z.mo ?_
  refine wpAny_pure ?_
  show wpAny _ _ (handedOut (.ref C)) _ _ _
  exact handed_on rfl (wpAny_pure h)
open PySem.W in
theorem kitx_exc (Z : ExcK K C) : KitX K (.ref x) (.ref C) (excAt x (.ref C)) where
  ty := fun _ h _ p => by
    obtain ⟨ox, ho, hc⟩ := p
    exact hc ▸ (Looks.ld ho).andThen .now
  it := fun _ _ X _ => by
    have z := Z.cl
    unfold clsIn at z
    split at z
    · rename_i c' d' cd' sl' ho
      intro A' Q' E' s' k q
      unfold isType loadHead
      exact wpAny_bind (wpAny_loadPart (k _ _ (X _ _ ho)) (wpAny_pure q))
    · cases z
  ne := fun h tp dd its n sl X htp => by
    refine Bool.eq_false_iff.mpr fun q => ?_
    have e : C = tp := Value.ref.inj (beq_iff_eq.mp q)
    subst e
    have z := Z.cl
    unfold clsIn at z
    split at z
    · rename_i c' d' cd' sl' ho
      have z := (X _ _ ho).symm.trans htp
      cases z
    · cases z
  ca := fun X p k => exc_class Z X p k
end
abbrev excO (a C : Addr) : HO := .ext (excAt a (.ref C))
section
variable {X : Cx}
theorem call_isE : CallR X (.builtin "isinstance") (fun xs H Q => ∃ (a : Addr) (y : V) (C : Addr) (c : Value) (b : Bool), xs = [.ref a, y] ∧ (∀ u, RelV y u → u = c) ∧ H a = some (excO a C) ∧ ExcK X.K C ∧ PySem.W.kitOne X.K (.ref C) c = some b ∧ Q (.bl b) H) := by
  intro pins s σ H xs us Q I r h
  obtain ⟨a, y, C, c, b, rfl, hy, ha, Z, e, q⟩ := h
  obtain ⟨u, w', rfl, ru, rw'⟩ := vals2 r
  cases ru
  cases hy _ rw'
  exact PySem.W.kia_one (kitx_exc Z) I.kIn (I.hok a _ ha).1 e (fun z => nomatch z) fun tk => ⟨.bl b, H, I.tok tk, rfl, q⟩
end
end L2
namespace L2
open PySem PySem.Spec PyProof.Rows
abbrev Cx.inExc (X : Cx) (e : Addr) : Cx := { X with A := X.A.mark (some (.ref e)), calm := false, xe := fun _ _ => False }
abbrev Cx.tried (X : Cx) (pn : List (Addr × Obj)) (E : Value → Shared → Prop) : Cx := { X with pn := pn, xe := E }
section
variable {X : Cx} {pins : List (Addr × Obj)} {σ : St} {H : Hp} {s : Shared}
theorem Inv.inExc (I : Inv X pins σ H s) (e : Addr) : Inv (X.inExc e) pins σ H s :=
  ⟨⟨I.ok.mod, I.ok.kind, I.ok.glob, I.ok.blt, I.ok.above, I.ok.inj, I.ok.has, I.ok.cab, (fun z => nomatch z), I.ok.frames, I.ok.stk, I.ok.exf, I.ok.bs, I.ok.bsz, I.ok.noex, I.ok.exfs, I.ok.funs, I.ok.frf⟩, I.os, I.bare, I.base, I.loc, I.cell, I.free, I.freeC, I.pin, I.hok, I.len⟩
theorem Inv.outExc {e : Addr} (ok : X.Ok) (I : Inv (X.inExc e) pins σ H s) : Inv X pins σ H s :=
  ⟨ok, I.os, I.bare, I.base, I.loc, I.cell, I.free, I.freeC, I.pin, I.hok, I.len⟩
theorem Inv.tried (I : Inv X pins σ H s) (E : Value → Shared → Prop) : Inv (X.tried (X.pn ++ pins) E) [] σ H s :=
  ⟨⟨I.ok.mod, I.ok.kind, I.ok.glob, I.ok.blt, I.ok.above, I.ok.inj, I.ok.has, I.ok.cab, I.ok.hd, I.ok.frames, I.ok.stk, I.ok.exf, I.ok.bs, I.ok.bsz, I.ok.noex, I.ok.exfs, I.ok.funs, I.ok.frf⟩, I.os, I.bare, I.base, I.loc, I.cell, I.free, I.freeC,
    fun p hp => I.pin p ((List.mem_append.mp hp).elim id fun z => absurd z (by simp)), I.hok, I.len⟩
theorem Inv.untried {E : Value → Shared → Prop} {pins' : List (Addr × Obj)} (ok : X.Ok) (I : Inv (X.tried (X.pn ++ pins) E) pins' σ H s) : Inv X pins σ H s :=
  ⟨ok, I.os, I.bare, I.base, I.loc, I.cell, I.free, I.freeC, fun p hp => I.pin p (List.mem_append_left _ hp), I.hok, I.len⟩
theorem SP.untried {E : Value → Shared → Prop} {pins' : List (Addr × Obj)} {D : Ends} {f : Flow} (ok : X.Ok) (h : SP (X.tried (X.pn ++ pins) E) pins' D f s) : SP X pins D f s := by
  cases f with
  | next => obtain ⟨σ', H', I, q⟩ := h; exact ⟨σ', H', I.untried ok, q⟩
  | brk => obtain ⟨σ', H', I, q⟩ := h; exact ⟨σ', H', I.untried ok, q⟩
  | cont => obtain ⟨σ', H', I, q⟩ := h; exact ⟨σ', H', I.untried ok, q⟩
  | ret u => obtain ⟨v, σ', H', I, r, q⟩ := h; exact ⟨v, σ', H', I.untried ok, r, q⟩
theorem Inv.track {a : Addr} {φ : Heap → Prop} (I : Inv X pins σ H s) (n0 : ∀ b o, X.s₀.heap.get? b = some o → X.H₀ b = none → b ≠ a) (nl : X.env.locals ≠ a) (nc : ∀ x c, X.env.cells.lookup x = some c → c ≠ a) (np : ∀ p ∈ X.pn ++ pins, p.1 ≠ a)
    (hn : H a = none) (hx : φ s.heap) (ho : ∃ o, s.heap.get? a = some o) (st : ∀ h1 h2 : Heap, φ h1 → (∀ o, h1.get? a = some o → h2.get? a = some o) → φ h2) : Inv X pins σ (upd H a (.ext φ)) s := by
  refine ⟨I.ok, I.os, I.bare, ⟨I.base.keep, I.base.slot, fun b o q n hx => ?_, I.base.there, fun b xs q => ?_, fun b o u q => ?_, fun b ps q => ?_⟩, I.loc, I.cell, ?_, fun x c e => ?_, fun p hp => ?_, fun b o q => ?_, I.len⟩
  · rw [upd_ne (n0 b o q n)]; exact I.base.free b o q n hx
  · have z := I.base.tups b xs q
    rw [upd_ne (ne_of_none z hn)]; exact z
  · have z := I.base.frzs b o u q
    rw [upd_ne (ne_of_none z hn)]; exact z
  · obtain ⟨m, z⟩ := I.base.tbls b ps q
    exact ⟨m, by rw [upd_ne (ne_of_none z hn)]; exact z⟩
  · rw [upd_ne nl]; exact I.free
  · rw [upd_ne (nc x c e)]; exact I.freeC x c e
  · obtain ⟨e, n, r⟩ := I.pin p hp
    exact ⟨e, by rw [upd_ne (np p hp)]; exact n, r⟩
  · by_cases hb : b = a
    · subst hb
      rw [upd_same] at q
      cases q
      exact ⟨hx, ho, st⟩
    · rw [upd_ne hb] at q
      exact (I.hok b o q).stay (fun _ _ _ r => r) (fun c r => by rw [upd_ne (ne_of_none r hn)]; exact r) fun c xs r => by rw [upd_ne (ne_of_none r hn)]; exact r
theorem Inv.blur {h' : Heap} {t' : Nat} {m' : Str → Option Value} (I : Inv X pins σ H s) (hs : Heap.SameBut X.env.locals s.heap h') (hn : h'.Ns X.env.locals m') : Inv X pins (List.replicate X.N.length none) H { s with heap := h', toks := t' } := by
  have cne := I.cne
  obtain ⟨m, hm, _⟩ := id I.loc
  obtain ⟨oL, _, _, hoL, _⟩ := id hm
  have up : ∀ b o, X.s₀.heap.get? b = some o → b ≠ X.env.locals := fun b o e => Nat.ne_of_lt (Nat.lt_of_lt_of_le (Heap.lt_size e) I.ok.above)
  refine ⟨I.ok, I.os, I.bare, ⟨fun b o e n hb hx => ?_, fun b o e n hb hx => ?_, I.base.free, fun b o e hx => ?_, I.base.tups, I.base.frzs, I.base.tbls⟩, ⟨_, hn, fun j y v' e1 e2 e3 => ?_⟩, fun y c e => ?_, I.free, I.freeC, fun p hp => ?_, fun b ob e => ?_, by simp⟩
  · exact (hs.2 b (up b o e)).trans (I.base.keep b o e n hb hx)
  · obtain ⟨sl, e1⟩ := I.base.slot b o e n hb hx
    exact ⟨sl, (hs.2 b (up b o e)).trans e1⟩
  · obtain ⟨o', e1⟩ := I.base.there b o e hx
    exact ⟨o', (hs.2 b (up b o e)).trans e1⟩
  · rw [List.getElem?_replicate] at e2
    split at e2 <;> cases e2
  · obtain ⟨w', z⟩ := I.cell y c e
    exact ⟨w', z.sameBut hs (cne y c e)⟩
  · obtain ⟨e, n, ne, nf, d⟩ := I.pin p hp
    exact ⟨(hs.2 p.1 ne).trans e, n, ne, nf, d⟩
  · refine (I.hok b ob e).stay (fun c w' hc q => (hs.2 c ?_).trans q) (fun _ q => q) fun _ _ q => q
    rintro rfl
    rcases hc with rfl | hc
    · rw [I.free] at e; cases e
    · rw [I.free] at hc; cases hc
end
section
variable {P : Program} {w : World} {outer : List Env} {H H' : Hp} {s s' : Shared} {a : Addr} {C a0 : Value} {B h'' : Heap}
theorem Fly.move (F : Fly P w outer H H' s s' a C) (kb : ∀ b o, s.heap.get? b = some o → H b = none → b ∉ frs outer → B.get? b = some o) (th : ∀ b o, s.heap.get? b = some o → b ∉ frs outer → ∃ o', B.get? b = some o') (hok : HOk P w H' B)
    (fl : Heap.FlyingW B outer a C a0 s'.heap) (fl' : Heap.FlyingW B outer a C a0 h'') (up : s'.heap.UpToSlots h'') : Fly P w outer H H' s { s' with heap := h'' } a C := by
  refine ⟨F.os, F.bare, fun b o q hb => ?_, F.free, F.tups, F.frzs, F.tbls, B, a0, kb, th, hok, fl'⟩
  obtain ⟨sl, e⟩ := F.slot b o q hb
  obtain ⟨_, o', ho', hd⟩ := fl.2.2.1.mem hb
  rw [e] at ho'
  cases ho'
  obtain ⟨sl', e'⟩ := up b _ e hd
  exact ⟨sl', e'⟩
theorem Fly.ne (F : Fly P w outer H H' s s' a C) {b : Addr} {o : Obj} (q : s.heap.get? b = some o) (n : H b = none) : b ≠ a := by
  rintro rfl
  obtain ⟨B, a0, kb, th, hok, fl⟩ := F.fl
  obtain ⟨oe, vs, he, _, hd, _⟩ := fl.first
  by_cases hb : b ∈ frs outer
  · obtain ⟨_, o', ho', hd'⟩ := fl.2.2.1.mem hb
    rw [he] at ho'
    cases ho'
    exact hd' _ hd
  · have z := kb b o q n hb
    rw [fl.2.1] at z
    cases z
end
def tTry (K : PySem.W.Frag) (len i : Nat) (D : Addr) (tb : List (Addr × Obj) → (Value → Shared → Prop) → XK → TS) (th : TS) : TS := fun Dn σ H =>
  ∀ (pn : List (Addr × Obj)) (E : Value → Shared → Prop), tb pn E (fun C _ H' => ∃ c : Addr, C = .ref c ∧ PySem.W.exmOne K (.ref c) (.ref D) = some true ∧ ∀ (a : Addr) (σ' : St), σ'.length = len → H' a = none → th { nx := fun _ _ => False, rt := Dn.rt } (σ'.set i (some (.ref a))) (upd H' a (excO a c))) Dn σ H
section
variable {X : Cx} {D : Addr} {i : Nat} {n cn : Str} {b₀ : Stmt} {suite body : List Stmt} {tb : List (Addr × Obj) → (Value → Shared → Prop) → XK → TS} {th : TS} {np hpos pos : Pos}
theorem ps_try (hex : X.ex = []) (hst : X.stack = X.env :: X.outer) (hfr : X.env.frame = some X.env.locals) (hN : X.N.Nodup) (hi : X.N[i]? = some n) (hl : X.env.scope.names.lookup n = some .local) (hm : X.mg cn = some (.ref D))
    (hb : ∀ (pn : List (Addr × Obj)) (E : Value → Shared → Prop) (Ex : XK), Passes (CX1 X.prog X.w) (X.tried pn E) Ex → PSs (X.tried pn E) body (tb pn E Ex)) (hh : ∀ e : Addr, PSs (X.inExc e) (b₀ :: suite) th)
    (hg : Gl X cn := by rfl) (hdb : (cn == ("__debug__" : Str)) = false := by decide) :
    PS X (.Try body [.ExceptHandler (some (.Name cn np)) (some n) (b₀ :: suite) hpos] [] [] pos) (tTry X.K X.N.length i D tb th) := by
  intro pins s σ H Dn I h
  refine wpAny_Try_except ?_
  refine wpAny_mono (hb (X.pn ++ pins) _ _ ?_ [] s σ H Dn (I.tried _) (h _ _)) (fun f s₁ q => ?_) fun e s₁ q => q
  · intro pins' σ' H1 s1 e s' I1 hx
    obtain ⟨a, C, H', rfl, F, c, rfl, hex1, hth⟩ := hx
    have J1 : Inv X pins σ' H1 s1 := I1.untried I.ok
    have F : Fly X.prog X.w X.stack H1 H' s1 s' a (.ref c) := F
    obtain ⟨B, a0, kb, tth, hok, fl⟩ := F.fl
    have fl0 := fl
    rw [hst] at fl
    refine wpAny_looks_onW (by rw [← hst]; exact I.ok.frames) hfr fl fun h₄ hheld₄ hsm₄ => ?_
    refine wpAny_landsW hheld₄ fun h₅ fl₅ hsm₅ => ?_
    have F5 : Fly X.prog X.w X.stack H1 H' s1 { s' with heap := h₅ } a (.ref c) := F.move kb tth hok fl0 (by rw [hst]; exact fl₅) (hsm₄.trans hsm₅)
    have J5 : Inv X pins σ' H' { s' with heap := h₅ } := J1.call' F5.os F5.un F5.hok F5.bare fun b z => absurd z (by simp)
    have LT : PySem.W.Looks (model X.prog X.w) h₅ (typeOf (.ref a)) (.ref c) := by
      obtain ⟨ob, hob, hc⟩ := fl₅.there
      exact hc ▸ (PySem.W.Looks.ld hob).andThen .now
    refine wpAny_handleBy_cons (codeAny_handlers_test (ld_glob (X := X.inExc a) (J5.inExc a) hg hm ((PySem.W.exm_one (J5.kIn) LT hex1).here ?_) hdb)) (by intro q; cases q)
    refine codeAny_handlers_suite_as ?_
    refine lands_againW fl₅ fun h₆ fl₆ hsm₆ => ?_
    have F6 : Fly X.prog X.w X.stack H1 H' s1 { s' with heap := h₆ } a (.ref c) := F5.move kb tth hok (by rw [hst]; exact fl₅) (by rw [hst]; exact fl₆) hsm₆
    have J6 : Inv X pins σ' H' { s' with heap := h₆ } := J1.call' F6.os F6.un F6.hok F6.bare fun b z => absurd z (by simp)
    obtain ⟨ob, hob, hobc⟩ := fl₆.there
    have J7 : Inv X pins σ' (upd H' a (excO a c)) { s' with heap := h₆ } := by
      refine J6.track (fun b o q n => ?_) ?_ (fun x c' e => ?_) (fun p hp => ?_) F6.new ⟨ob, hob, hobc⟩ ⟨ob, hob⟩ fun h1 h2 p k => ?_
      · obtain ⟨sl, e⟩ := J1.base.any q n (by rw [hex]; simp)
        exact F6.ne e (J1.base.free b o q n (by rw [hex]; simp))
      · obtain ⟨m, ⟨o, _, _, e, _⟩, _⟩ := id J1.loc
        exact F6.ne e J1.free
      · obtain ⟨v, o, e, _⟩ := J1.cell x c' e
        exact F6.ne e (J1.freeC x c' (by assumption))
      · obtain ⟨e, n, _⟩ := J1.pin p hp
        exact F6.ne e n
      · obtain ⟨o, e, ec⟩ := p
        exact ⟨o, k o e, ec⟩
    refine store_ok (X := X.inExc a) (J7.inExc a) hN hi (.inl hl) (v := .ref a) rfl (fun s₇ J8 => ?_) (.inr hl)
    refine wpAny_mono (hh a pins s₇ _ _ _ J8 (hth a σ' J1.len F.new)) (fun fl s₈ q => ?_) fun e s₈ z => False.elim z
    cases fl with
    | next => obtain ⟨_, _, _, z⟩ := q; exact False.elim z
    | brk => obtain ⟨_, _, _, z⟩ := q; exact False.elim z
    | cont => obtain ⟨_, _, _, z⟩ := q; exact False.elim z
    | ret u =>
      obtain ⟨v, σ2, H2, J9, rv, z⟩ := q
      have J9 : Inv X pins σ2 H2 s₈ := J9.outExc I.ok
      obtain ⟨m, hn, _⟩ := id J9.loc
      exact wpAny_nameGoes hl hn (by rw [I.ok.kind]; rfl) fun h' m' hn' hs => ⟨v, _, H2, J9.blur hs hn', rv, z⟩
  · cases f with
    | next => exact wpAny_execs_nil (SP.untried I.ok q)
    | brk => exact SP.untried I.ok q
    | cont => exact SP.untried I.ok q
    | ret u => exact SP.untried I.ok q
end
end L2
namespace L2
open PySem PySem.Spec PyProof.Rows
section
variable {P : Program} {w : World} {K : PySem.W.Frag} {mg : Str → Option Value} {base : Heap}
def FnX (P : Program) (w : World) (K : PySem.W.Frag) (mg : Str → Option Value) (base : Heap) (k : Nat) (x : Str) (ps : List Str) (sp : Sp) : Prop :=
  ∃ f fd, FnOk P w K mg base (CX1 P w) k f fd ps sp ∧ Binds K fd ps [] ∧ PySem.W.keepIn K (.ref f) = true ∧ mg x = some (.ref f)
theorem TopD.fnX {x : Str} {st : Stmt} {N ps : List Str} {k : Nat} {sp : Sp} (T : TopD K mg x st ps) (S : FnScope N ps (defScope st)) (len : ∀ vs H Q E, sp vs H Q E → vs.length = ps.length)
    (hbody : ∀ (f : Addr) (cdv : Value) (A : Around) (outer : List Env) (s : Shared) (H : Hp) (vs : List V) (Q : VK) (E : XK), Room k (A.deeper (envOfC x (defScope st) s.heap.objs.size f cdv)) → sp vs H Q E →
      ∃ t, PSs (cxOf (CX1 P w) P w K mg base N x (defScope st) f cdv A outer s H E) (defBody st) t ∧ t { nx := fun _ H' => Q .non H', rt := Q } (start N vs) H) : FnX P w K mg base (k + 1) x ps sp := by
  obtain ⟨f, fd, F, b, m⟩ := T
  have kp := F.kp
  obtain ⟨oc, od, kV, doc, pm, an, cdv, ct, osl, rfl, lk, hcd⟩ := F.ex
  exact ⟨f, _, fn_of lk hcd S len fun A outer s H vs Q E hr hsp => hbody f cdv A outer s H vs Q E hr hsp, b, kp, m⟩
structure RoomH (k : Nat) (A : Around) : Prop where
  dp : A.depth + 3 * k + 5 < recursionLimit
  un : A.units + 16 * k + 200 < cLine
theorem RoomH.of {k : Nat} {A : Around} {h : Option Value} (r : Room k A) : RoomH k (A.mark h) := ⟨r.dp, r.un⟩
def FnH (P : Program) (w : World) (K : PySem.W.Frag) (mg : Str → Option Value) (base : Heap) (k : Nat) (x : Str) (ps : List Str) (sp : Sp) : Prop :=
  ∃ f fd, (∀ vs H Q E, sp vs H Q E → vs.length = ps.length) ∧ (∀ (A : Around) (outer : List Env) (s : Shared) (H : Hp) (args : Args) (us : List Value) (vs : List V) (Q : VK) (E : XK), RoomH k A → Env0 P w K mg base A outer s H → BindsTo s fd args (ps.zip us) → Vals vs us → sp vs H Q E →
    codeAny (model P w) A (.call (.ref f) args) (CR CX0 outer P w H s Q E) s) ∧ Binds K fd ps [] ∧ PySem.W.keepIn K (.ref f) = true ∧ mg x = some (.ref f)
abbrev Cx.loud (X : Cx) (A : Around) : Cx := { X with A := A, calm := false, xe := fun _ _ => False }
theorem TopD.fnH {x : Str} {st : Stmt} {N ps : List Str} {k : Nat} {sp : Sp} (T : TopD K mg x st ps) (S : FnScope N ps (defScope st)) (len : ∀ vs H Q E, sp vs H Q E → vs.length = ps.length)
    (hbody : ∀ (f : Addr) (cdv : Value) (A : Around) (outer : List Env) (s : Shared) (H : Hp) (vs : List V) (Q : VK) (E : XK), RoomH k (A.deeper (envOfC x (defScope st) s.heap.objs.size f cdv)) → sp vs H Q E →
      ∃ t, PSs ((cxOf CX0 P w K mg base N x (defScope st) f cdv { A with handled := Option.none } outer s H E).loud (A.deeper (envOfC x (defScope st) s.heap.objs.size f cdv))) (defBody st) t ∧ t { nx := fun _ H' => Q .non H', rt := Q } (start N vs) H) : FnH P w K mg base (k + 1) x ps sp := by
  obtain ⟨f, fd, F, b, m⟩ := T
  have kp := F.kp
  obtain ⟨oc, od, kV, doc, pm, an, cdv, ct, osl, rfl, lk, hcd⟩ := F.ex
  refine ⟨f, _, len, fun A outer s H args us vs Q E hr e0 hb r hsp => ?_, b, kp, m⟩
  have hl := len _ _ _ _ hsp
  have KX : K.In s.heap := e0.mod.kin.keeps fun b o e => (e0.bs b o e).1
  have lim : s.heap.NoLimit := e0.mod.nolimit.keeps fun b o e => (e0.bs b o e).1
  have hkind : ∀ y ∈ ps.zip us, (defScope st).names.lookup y.1 = some .local ∨ ((defScope st).names.lookup y.1 = some .cell ∧ ((cellsFrom (s.heap.objs.size + 1) (defScope st).names []).lookup y.1).isSome = true) := fun ⟨n, v⟩ hy => by
    rcases S.par n (List.of_mem_zip hy).1 with q | q
    · exact .inl q
    · exact .inr ⟨q, PySem.W.cellsFrom_some _ _ _ (.inl q)⟩
  refine codeAny_call_function (by have := hr.dp; omega) (KX _ _ lk) rfl S.co S.gen rfl (PySem.W.codeRec_of KX hcd) (hb _ _ _ _ ?_)
  refine wpAny_newFunctionEnv_cells S.kind hkind fun env he s1 xx => ?_
  subst he
  refine ⟨lim.keeps xx.toInCall.keep, codeAny_func ?_⟩
  have hr' : RoomH k (A.deeper (envOfC x (defScope st) s.heap.objs.size f cdv)) := ⟨by have := hr.dp; show A.depth + 1 + 3 * k + 5 < _; omega, by have := hr.un; show A.units + 3 + 16 * k + 200 < _; omega⟩
  obtain ⟨t, ht, hq⟩ := hbody f cdv A outer s H vs Q E hr' hsp
  have e1 : Env0 P w K mg base { A with handled := Option.none } outer s H := ⟨e0.frames, e0.mod, e0.bs, e0.bsz, e0.funs, e0.frf, e0.hok, e0.bare⟩
  have I0 : Inv (cxOf CX0 P w K mg base N x (defScope st) f cdv { A with handled := Option.none } outer s H E) [] (start N vs) H s1 := inv_start S rfl e1 hl r xx
  have I : Inv ((cxOf CX0 P w K mg base N x (defScope st) f cdv { A with handled := Option.none } outer s H E).loud (A.deeper (envOfC x (defScope st) s.heap.objs.size f cdv))) [] (start N vs) H s1 :=
    ⟨⟨I0.ok.mod, I0.ok.kind, I0.ok.glob, I0.ok.blt, I0.ok.above, I0.ok.inj, I0.ok.has, I0.ok.cab, (fun z => nomatch z), Around.frames_deeper e0.frames, I0.ok.stk, I0.ok.exf, I0.ok.bs, I0.ok.bsz, I0.ok.noex, I0.ok.exfs, I0.ok.funs, I0.ok.frf⟩, I0.os, I0.bare, I0.base, I0.loc, I0.cell, I0.free, I0.freeC, I0.pin, I0.hok, I0.len⟩
  refine wpAny_mono (ht [] s1 (start N vs) H _ I hq) (fun fl s' hs => ?_) fun e s' hs => False.elim hs
  have fin : ∀ {σ' : St} {H' : Hp} {v : V} {u : Value}, Inv ((cxOf CX0 P w K mg base N x (defScope st) f cdv { A with handled := Option.none } outer s H E).loud (A.deeper (envOfC x (defScope st) s.heap.objs.size f cdv))) [] σ' H' s' → RelV v u → Q v H' → CE outer P w H s Q u s' :=
    fun {σ' H' v u} J rv q => ⟨v, H', J.os, J.bare, J.base, J.hok, rv, q⟩
  cases fl with
  | ret u =>
    obtain ⟨v, σ', H', J, rv, q⟩ := hs
    exact fin J rv q
  | next =>
    obtain ⟨σ', H', J, q⟩ := hs
    exact fin (v := V.non) (u := Value.none) J rfl q
  | brk =>
    obtain ⟨_, _, _, q⟩ := hs
    exact False.elim q
  | cont =>
    obtain ⟨_, _, _, q⟩ := hs
    exact False.elim q
end
section
variable {X : Cx} {k : Nat} {x : Str} {ps : List Str} {sp : Sp} {e fe : Expr} {es : List Expr} {t : TA} {tf : TE} {p pos : Pos} {E : XK}
theorem pe_callX (F : FnX X.prog X.w X.K X.mg X.base k x ps sp) (hr : Room k X.A) (hx : Passes (CX1 X.prog X.w) X E) (ha : PA X (e :: es) t) (hg : Gl X x := by rfl) (hdb : (x == ("__debug__" : Str)) = false := by decide)
    (he : starEach (e :: es) X.env = (false, eval e X.env) :: starEach es X.env := by rfl) (hpl : (backTo pos (starEach es X.env)).any (·.1) = false := by rfl) :
    PE X (.Call (.Name x p) (e :: es) [] pos) (tCall sp [] E t) := by
  obtain ⟨f, fd, F, b, kp, m⟩ := F
  exact pe_call F hr hg m kp b .nil hx ha hdb he hpl
theorem pe_callH (F : FnH X.prog X.w X.K X.mg X.base k x ps sp) (hr : RoomH k X.A) (ha : PA X (e :: es) t) (hg : Gl X x := by rfl) (hdb : (x == ("__debug__" : Str)) = false := by decide)
    (he : starEach (e :: es) X.env = (false, eval e X.env) :: starEach es X.env := by rfl) (hpl : (backTo pos (starEach es X.env)).any (·.1) = false := by rfl) :
    PE X (.Call (.Name x p) (e :: es) [] pos) (tCall sp [] E0 t) := by
  obtain ⟨f, fd, len, F, b, kp, m⟩ := F
  intro pins s σ H Q I h
  refine wpAny_Call_Name_kw (ld_glob I hg m ?_ hdb)
  refine PySem.W.callWith_K (h₀ := X.base) I.ok.mod.kin kp (thn (ha pos pins s σ H _ I h) fun us s1 ⟨vs, H1, I1, r, q⟩ => ⟨I1.kIn, ?_⟩) he hpl
  have r2 : Vals (vs ++ []) (us ++ []) := r.append .nil
  have hl : (us ++ []).length = ps.length := by rw [← r2.length]; exact len _ _ _ _ q
  refine wpAny_call (codeAny_mono (F X.A X.stack s1 H1 ⟨us, []⟩ (us ++ []) (vs ++ []) Q E0 hr I1.env0 (b s1 us I1.kIn hl) r2 q) fun r s' hq => ?_)
  cases r with
  | error e => exact False.elim hq
  | ok fl =>
    cases fl with
    | ret u => exact I1.after hq
    | next => exact False.elim hq
    | brk => exact False.elim hq
    | cont => exact False.elim hq
end
end L2
namespace SS
open PySem PySem.Spec PyProof.Rows
theorem orStandIn_led (t : SetTable) (n : Nat) : (t.orStandIn n).led = t.led := by
  unfold SetTable.orStandIn
  split <;> rfl
theorem orStandIn_plain (t : SetTable) (n : Nat) (h : t.plain = false) : (t.orStandIn n).plain = false := by
  unfold SetTable.orStandIn
  split
  · exact h
  · rfl
theorem layNew_led (t : SetTable) (es : Array (Int × Value)) (h : Int) (x : Value) : (layNew t es h x).2.1.led = t.led := by
  unfold layNew
  split
  · exact orStandIn_led _ _
  · rfl
theorem layNew_plain (t : SetTable) (es : Array (Int × Value)) (h : Int) (x : Value) (hp : t.plain = false) : (layNew t es h x).2.1.plain = false := by
  unfold layNew
  split
  · exact orStandIn_plain _ _ hp
  · rfl
theorem laid_led {mask finger moves : Nat} {led plain : Bool} {hs : Array Int} {t : SetTable} {o : Array Nat} (h : SetTable.laid mask finger moves led plain hs = some (t, o)) : t.led = led ∧ t.plain = plain := by
  unfold SetTable.laid at h
  obtain ⟨w, _, h⟩ := Option.bind_eq_some_iff.mp h
  cases h
  exact ⟨rfl, rfl⟩
theorem relayAll_led (t : SetTable) (es : Array (Int × Value)) (n : Nat) : (relayAll t es n).2.1.led = t.led := by
  unfold relayAll
  split
  · rename_i t' o e
    dsimp only
    split
    · exact (laid_led e).1
    · rfl
  · rfl
theorem relayAll_plain (t : SetTable) (es : Array (Int × Value)) (n : Nat) (hp : t.plain = false) : (relayAll t es n).2.1.plain = false := by
  unfold relayAll
  split
  · rename_i t' o e
    dsimp only
    split
    · exact (laid_led e).2.trans hp
    · rfl
  · rfl
def strOf (v : Value) : Str := match v with | .str x _ => x | _ => ⟨#[]⟩
def SetX (prog : Program) (w : World) (h : Heap) (a : Addr) (es : Array (Int × Value)) : Prop :=
  ∃ o ep t, h.get? a = some o ∧ o.ExactSet ∧ o.data = .set es ep t ∧ ElemsOf (PySem.strKind prog w) es.toList ∧ (es.toList.map fun e => strOf e.2).Nodup ∧ es.size < scanBound ∧ t.fits es.size = true ∧
    t.led = !w.params.followText "set-order" ∧ (es.size ≠ 0 → t.plain = false)
section
variable {prog : Program} {w : World} {A : Around} {E : Value → Shared → Prop} {s : Shared}
theorem elems_str {l : List (Int × Value)} (h : ElemsOf (PySem.strKind prog w) l) {e : Int × Value} (he : e ∈ l) : ∃ t, e.2 = .str (strOf e.2) t := by
  obtain ⟨⟨k, hk, _⟩, _⟩ := h e he
  obtain ⟨t, q⟩ := Value.isStrOf_shape hk
  exact ⟨t, by rw [q]; rfl⟩
theorem is_strOf {e : Int × Value} {x : Str} (h : ∃ t, e.2 = .str (strOf e.2) t) : (PySem.strKind prog w).is x e.2 = decide (strOf e.2 = x) := by
  obtain ⟨t, q⟩ := h
  rw [q]
  show Value.isStrOf x (.str (strOf e.2) t) = decide (strOf (.str (strOf e.2) t) = x)
  by_cases hx : strOf e.2 = x
  · rw [decide_eq_true (by rw [← hx]; rfl), hx]
    simp [Value.isStrOf]
  · rw [decide_eq_false (by exact hx)]
    simp only [Value.isStrOf]
    simpa [beq_iff_eq] using fun z => hx (by first | exact z.symm | exact z)
theorem add {a : Addr} {es : Array (Int × Value)} {x : Str} {tk : Tok} {Q : Bool → Shared → Prop} (hS : SetX prog w s.heap a es) (hroom : es.size + 1 < scanBound)
    (h : ∀ h' es' b, Heap.SameBut a s.heap h' → SetX prog w h' a es' → (x ∈ es.toList.map (fun e => strOf e.2) → es' = es) → (x ∉ es.toList.map (fun e => strOf e.2) → es'.toList.Perm (es.toList ++ [((PySem.strKind prog w).hash x, .str x tk)])) → Q b { s with heap := h' }) :
    wpAny (model prog w) A (setAddHashed a (.str x tk) ((PySem.strKind prog w).hash x)) Q E s := by
  obtain ⟨o, ep, t, ho, hex, hd, hel, hnd, hb, hf, hled, hpl⟩ := hS
  have hkey : (PySem.strKind prog w).is x (.str x tk) = true := by show Value.isStrOf x (.str x tk) = true; simp [Value.isStrOf]
  have hsc : (Value.str x tk).scannable = true := rfl
  unfold setAddHashed setAddHashedIn
  refine wpAny_holding (wpAny_bind (wpAny_setState_of ho hd hf ?_))
  dsimp only
  rw [byScan_of hsc hb hel]
  simp only [↓reduceIte]
  unfold setAddByScan
  refine wpAny_bind ?_
  refine wpAny_bind (wpAny_rule ?_)
  refine wpAny_bind (wpAny_setScan_of hkey ho hd hf hel ?_)
  cases hr : List.findIdx? (fun e => (PySem.strKind prog w).is x e.2) es.toList with
  | some j =>
    dsimp only
    obtain ⟨hj, hpj, _⟩ := List.findIdx?_eq_some_iff_getElem.mp hr
    have hin : x ∈ es.toList.map (fun e => strOf e.2) := by
      rw [is_strOf (elems_str hel (List.getElem_mem hj))] at hpj
      exact List.mem_map.mpr ⟨_, List.getElem_mem hj, of_decide_eq_true hpj⟩
    refine wpAny_pure (wpAny_pure ?_)
    have e : s = { s with heap := s.heap } := by cases s; rfl
    rw [e]
    exact h s.heap es _ (Heap.SameBut.refl a s.heap) ⟨o, ep, t, ho, hex, hd, hel, hnd, hb, hf, hled, hpl⟩ (fun _ => rfl) fun z => absurd hin z
  | none =>
    dsimp only
    have hnin : x ∉ es.toList.map (fun e => strOf e.2) := fun z => by
      obtain ⟨e, he, q⟩ := List.mem_map.mp z
      have := List.findIdx?_eq_none_iff.mp hr e he
      rw [is_strOf (elems_str hel he), decide_eq_true q] at this
      exact Bool.noConfusion this
    have hgw : ∀ (b : Bool) {s₁ : Shared} {Q' : Unit → Shared → Prop}, Q' () s₁ → wpAny (model prog w) A (match b with | true => rule "set.scan.the-table-gave-way" | false => pure ()) Q' E s₁ :=
      fun b s₁ Q' hq => by cases b <;> first | exact wpAny_pure hq | exact wpAny_rule hq
    have hperm := layNew_perm t es ((PySem.strKind prog w).hash x) (.str x tk)
    have hfits := layNew_fits t es ((PySem.strKind prog w).hash x) (.str x tk)
    have hl1 := layNew_led t es ((PySem.strKind prog w).hash x) (.str x tk)
    have hp1 := layNew_plain t es ((PySem.strKind prog w).hash x) (.str x tk)
    generalize hL : layNew t es ((PySem.strKind prog w).hash x) (.str x tk) = L at hperm hfits hl1 hp1 ⊢
    obtain ⟨es1, t1, wasDummy, gave⟩ := L
    dsimp only at hperm hfits hl1 hp1 ⊢
    rw [Array.toList_push] at hperm
    have hel1 : ElemsOf (PySem.strKind prog w) es1.toList := (hel.push hkey hsc).perm hperm
    have hnd0 : ((es.toList ++ [((PySem.strKind prog w).hash x, Value.str x tk)]).map fun e => strOf e.2).Nodup := by
      rw [List.map_append]
      refine List.nodup_append.mpr ⟨hnd, by simp, fun y hy z hz => ?_⟩
      have hz' : z = x := by simpa [strOf] using hz
      rw [hz']
      rintro rfl
      exact hnin hy
    have hnd1 : (es1.toList.map fun e => strOf e.2).Nodup := (hperm.map _).nodup_iff.mpr hnd0
    have hsz1 : es1.size = es.size + 1 := by rw [← Array.length_toList, hperm.length_eq, List.length_append, Array.length_toList]; rfl
    have hb1' : es1.size < scanBound := by rw [hsz1]; exact hroom
    refine wpAny_bind (hgw _ ?_)
    have fin : ∀ {g : Bool → Sem Unit} {R : Option Bool → Shared → Prop}, (∀ (b : Bool) (s₁ : Shared) (Q' : Unit → Shared → Prop), Q' () s₁ → wpAny (model prog w) A (g b) Q' E s₁) → (∀ h', Q true { s with heap := h' } → R (some true) { s with heap := h' }) →
        ∀ t2 : SetTable, t2.fits es1.size = true → t2.led = t.led → t2.plain = false →
        wpAny (model prog w) A (do
          storeSet a es1 t2
          if (!wasDummy && t2.tooFull) = true then do
              g (relayAll t2 es1 (SetTable.grown es1.size)).2.2
              storeSet a (relayAll t2 es1 (SetTable.grown es1.size)).1 (relayAll t2 es1 (SetTable.grown es1.size)).2.1
              pure (some true)
            else pure (some true)) R E s := fun {g R} hg hR t2 hf2 hl2 hp2 => by
      have go : ∀ h' es', Heap.SameBut a s.heap h' → SetX prog w h' a es' → es'.toList.Perm es1.toList → R (some true) { s with heap := h' } := fun h' es' q1 q2 q3 => hR h' (h h' es' true q1 q2 (fun z => absurd z hnin) fun _ => q3.trans hperm)
      refine wpAny_bind (wpAny_storeSet_of ho hd ?_ (fits_of_scanBound hb1'))
      have hg1 : (s.heap.update a (Obj.putSet es1 t2)).get? a = some { o with data := .set es1 (ep + 1) t2 } := by
        have := Heap.get?_update_self (Obj.putSet es1 t2) ho (by rw [putSet_of es1 t2 hd]; rfl)
        rw [putSet_of es1 t2 hd] at this; exact this
      have hsb1 := Heap.SameBut.update s.heap a (Obj.putSet es1 t2)
      split
      · have hp := relayAll_perm t2 es1 (SetTable.grown es1.size)
        have hfr := relayAll_fits t2 es1 (SetTable.grown es1.size)
        have hlr := relayAll_led t2 es1 (SetTable.grown es1.size)
        have hpr := relayAll_plain t2 es1 (SetTable.grown es1.size) hp2
        generalize hRl : relayAll t2 es1 (SetTable.grown es1.size) = Rl at hp hfr hlr hpr ⊢
        obtain ⟨es2, t3, gave2⟩ := Rl
        dsimp only at hp hfr hlr hpr ⊢
        have hsz : es2.size = es1.size := by rw [← Array.length_toList, hp.length_eq, Array.length_toList]
        have hb2 : es2.size < scanBound := by rw [hsz]; exact hb1'
        refine wpAny_bind (hg _ _ _ ?_)
        refine wpAny_bind (wpAny_storeSet_of hg1 rfl ?_ (fits_of_scanBound hb2))
        have hg2 : ((s.heap.update a (Obj.putSet es1 t2)).update a (Obj.putSet es2 t3)).get? a = some { o with data := .set es2 (ep + 1 + 1) t3 } := by
          have := Heap.get?_update_self (Obj.putSet es2 t3) hg1 (by rw [putSet_of (ep := ep + 1) (t := t2) es2 t3 rfl]; rfl)
          rw [putSet_of (ep := ep + 1) (t := t2) es2 t3 rfl] at this; exact this
        refine wpAny_pure (go _ es2 (hsb1.trans (Heap.SameBut.update _ a _)) ⟨_, _, _, hg2, hex, rfl, hel1.perm hp, (hp.map _).nodup_iff.mpr hnd1, hb2, hfr, ?_, fun _ => hpr⟩ hp)
        rw [hlr, hl2]; exact hled
      · exact wpAny_pure (go _ es1 hsb1 ⟨_, _, _, hg1, hex, rfl, hel1, hnd1, hb1', hf2, by rw [hl2]; exact hled, fun _ => hp2⟩ .rfl)
    split
    · refine wpAny_bind ?_
      rw [hashByValue_scannable 8 hsc]
      refine wpAny_pure ?_
      simp only [show plainKind (Value.str x tk) = false from rfl, Bool.false_eq_true, if_false]
      refine fin ?_ ?_ { t1 with plain := false } (SetTable.fits_plain_off hfits) hl1 rfl
      · intro b s₁ Q' hq; cases b <;> first | exact wpAny_pure hq | exact wpAny_rule hq
      · exact fun h' hq => wpAny_pure hq
    · rename_i hp
      refine wpAny_bind (wpAny_pure ?_)
      simp only [↓reduceIte]
      refine fin ?_ ?_ t1 hfits hl1 (by simpa using hp)
      · intro b s₁ Q' hq; cases b <;> first | exact wpAny_pure hq | exact wpAny_rule hq
      · exact fun h' hq => wpAny_pure hq
end
end SS
namespace SS
open PySem PySem.Spec PyProof.Rows
abbrev names (es : Array (Int × Value)) : List Str := es.toList.map fun e => strOf e.2
theorem SetX.keeps {prog : Program} {w : World} {h h' : Heap} {a : Addr} {es : Array (Int × Value)} (S : SetX prog w h a es) (k : ∀ o, h.get? a = some o → h'.get? a = some o) : SetX prog w h' a es := by
  obtain ⟨o, ep, t, ho, r⟩ := S
  exact ⟨o, ep, t, k o ho, r⟩
section
variable {prog : Program} {w : World} {A : Around} {R : Result → Shared → Prop} {I : Addr} {fp wr : List Addr} {G : Array GenState → Array GenState → Prop} {n : Nat} {P : Nat → Value → Prop} {St : Nat → Shared → Prop}
theorem loop (W : WalksS prog w A.in1 I fp wr G n P St) (S : Addr) (hSf : S ∉ fp) (val : Nat → Str) (hval : ∀ i v, P i v → ∃ t, v = .str (val i) t) (hb : n + 1 < scanBound) :
    ∀ (k i : Nat) (s : Shared) (es : Array (Int × Value)), n - i = k → i ≤ n → St i s → SetX prog w s.heap S es → es.size ≤ i → (∀ x, x ∈ names es ↔ ∃ j, j < i ∧ val j = x) →
      (∀ s' es', Moved (S :: wr) G s s' → SetX prog w s'.heap S es' → es'.size ≤ n → (∀ x, x ∈ names es' ↔ ∃ j, j < n ∧ val j = x) → R (.ok (.ret .none)) s') →
      codeAny (model prog w) A (.builtin "set.update.loop" ⟨[.ref S, .ref I], []⟩) R s := by
  have hSw : S ∉ wr := fun h => hSf (W.sub _ h)
  have hsub : ∀ b ∈ wr, b ∈ S :: wr := fun b hb => List.mem_cons_of_mem _ hb
  intro k
  induction k with
  | zero =>
    intro i s es hk hi hst hS hsz hmem hR
    have hin : i = n := by omega
    subst hin
    refine codeAny_builtin F.entry_set_update_loop ?_
    rw [Around.under_plainId F.plain_set_update_loop _]
    show wpAny _ A.in1 (pyNext (.ref I) >>= _) _ _ s
    refine wpAny_bind (W.done s _ _ hst fun s' hm => ?_)
    show wpAny _ A.in1 (ret Value.none) _ _ s'
    exact wpAny_pure (hR s' es (hm.mono hsub) (hS.keeps fun o ho => hm.heap S _ hSw ho) hsz hmem)
  | succ k ih =>
    intro i s es hk hi hst hS hsz hmem hR
    have hlt : i < n := by omega
    refine codeAny_builtin F.entry_set_update_loop ?_
    rw [Around.under_plainId F.plain_set_update_loop _]
    show wpAny _ A.in1 (pyNext (.ref I) >>= _) _ _ s
    refine wpAny_bind (W.item i s _ _ hlt hst fun v s' hP hst' hm => ?_)
    obtain ⟨t, rfl⟩ := hval i v hP
    have hS' : SetX prog w s'.heap S es := hS.keeps fun o ho => hm.heap S _ hSw ho
    show wpAny _ A.in1 (holding [Value.str (val i) t] (setAdd S (.str (val i) t)) >>= _) _ _ s'
    refine wpAny_bind (wpAny_holding ?_)
    unfold setAdd
    refine wpAny_holding ?_
    refine wpAny_bind ((PySem.strKind prog w).pyHash (k := val i) (by show Value.isStrOf (val i) (.str (val i) t) = true; simp [Value.isStrOf]) ?_)
    refine add (s := { s' with toks := s'.toks + 1 }) hS' (by omega) fun h' es' b hsb hS2 q1 q2 => ?_
    have hsz' : es'.size ≤ i + 1 := by
      by_cases hx : val i ∈ es.toList.map (fun e => strOf e.2)
      · rw [q1 hx]; omega
      · rw [← Array.length_toList, (q2 hx).length_eq, List.length_append, Array.length_toList]
        simp only [List.length_cons, List.length_nil]; omega
    have hmem' : ∀ x, x ∈ names es' ↔ ∃ j, j < i + 1 ∧ val j = x := fun x => by
      have e1 : x ∈ names es' ↔ x ∈ names es ∨ x = val i := by
        by_cases hx : val i ∈ es.toList.map (fun e => strOf e.2)
        · rw [q1 hx]
          exact ⟨.inl, fun z => z.elim id fun e => e ▸ hx⟩
        · have hp := ((q2 hx).map fun e => strOf e.2).mem_iff (a := x)
          rw [List.map_append, List.mem_append] at hp
          refine hp.trans ⟨fun z => z.imp id fun y => by simpa [strOf] using y, fun z => z.imp id fun y => by simpa [strOf] using y⟩
      rw [e1, hmem x]
      constructor
      · rintro (⟨j, hj, e⟩ | rfl)
        · exact ⟨j, by omega, e⟩
        · exact ⟨i, by omega, rfl⟩
      · rintro ⟨j, hj, e⟩
        by_cases hji : j = i
        · exact .inr (by rw [← e, hji])
        · exact .inl ⟨j, by omega, e⟩
    refine wpAny_pure ⟨plainId_quiet F.plain_set_update_loop _, ih (i + 1) _ es' (by omega) hlt (W.frame _ s' _ _ hst' (Nat.le_succ _) fun b hb o e => ?_) hS2 hsz' hmem' fun s'' es'' hm'' hS'' hz hm2 => ?_⟩
    · rw [hsb.2 b (fun h : b = S => hSf (by rw [← h]; exact hb))]; exact e
    · refine hR s'' es'' (Moved.trans W.gtrans ((hm.mono hsub).then_heap (Nat.le_succ _) fun b o hb e => ?_) hm'') hS'' hz hm2
      rw [hsb.2 b (fun h : b = S => hb (by rw [h]; exact List.mem_cons_self))]; exact e
end
section
variable {prog : Program} {w : World} {A : Around} {E : Value → Shared → Prop} {s : Shared}
abbrev ledOf (w : World) : Bool := !w.params.followText "set-order"
abbrev freshO (w : World) : Obj := { cls := .type "set", dict := none, data := .set #[] 0 (.fresh 0 0 (ledOf w)) }
theorem code_set_new (a : Value) {Q₁ : Value → Shared → Prop} (h : Q₁ (.ref s.heap.objs.size) { s with heap := s.heap.push (freshO w) }) :
    codeAny (model prog w) A (.call (.builtin "set.__new__") ⟨[.type "set", a], []⟩) (wants Q₁ E) s := by
  refine codeAny_of_tree ?_
  show wpAny _ A.in1 (do checkBuiltinCall "set.__new__" ⟨[.type "set", a], []⟩; again (.builtin "set.__new__" ⟨[.type "set", a], []⟩)) _ _ s
  refine wpAny_bind (wpAny_of_eq (PySem.F.newCall_set_1 a) (wpAny_pure ⟨plainId_quiet PySem.F.plain_set_new _, codeAny_builtin PySem.F.entry_set_new ?_⟩))
  rw [Around.under_plainId PySem.F.plain_set_new _]
  unfold Builtin.«set.__new__» Builtin.Frozenset.newClass
  have hsub := sub_set_self
  obtain ⟨hp, g, d, tk, os⟩ := s
  dsimp only
  wp_walk
  refine wpAny_askSetting (wpAny_pure ?_)
  dsimp only
  simp only [newObj]
  refine wpAny_bind (wpAny_alloc (wpAny_pure ?_))
  exact wpAny_pure h
theorem SetX.fresh {h : Heap} {a : Addr} (ho : h.get? a = some (freshO w)) : SetX prog w h a #[] :=
  ⟨_, _, _, ho, ⟨rfl, rfl, rfl⟩, rfl, fun e he => by simp at he, by simp, by decide, by rfl, rfl, fun z => absurd rfl z⟩
theorem call_set {l : Addr} {items : Array Value} {val : Nat → Str} {Q : Value → Shared → Prop}
    (hh : A.handled = none) (hl : s.heap.IsList l items) (hi : ∀ (i : Nat) (v : Value), items[i]? = some v → ∃ t : Tok, v = Value.str (val i) t) (hb : items.size + 1 < scanBound)
    (h : ∀ (h' : Heap) (tk : Nat) (es : Array (Int × Value)), SetX prog w h' s.heap.objs.size es → es.size ≤ items.size → (∀ x, x ∈ names es ↔ ∃ j, j < items.size ∧ val j = x) →
      (∀ b o, b < s.heap.objs.size → s.heap.get? b = some o → h'.get? b = some o) → Q (.ref s.heap.objs.size) { s with heap := h', toks := tk }) :
    wpAny (model prog w) A (call (.type "set") [.ref l]) Q E s := by
  obtain ⟨c, tl, hmro⟩ := PySem.F.called_set.mro
  have hmade := PySem.F.called_set.made
  have hsub := PySem.F.called_set.sub
  refine wpAny_call (codeAny_of_tree ?_)
  show wpAny _ _ (callAny (.type "set") _) _ _ _
  refine wpAny_pure ⟨Code.quiet_builtin _ (by decide +kernel), codeAny_builtin PySem.F.entry_type_call ?_⟩
  rw [Around.under_plain (weight_type_call_type "set" [.ref l] []) rfl]
  have h1 := PySem.F.called_set.notType
  have h2 := PySem.F.called_set.canCreate
  have hct := PySem.F.typeCall_set_1 (.ref l)
  repeat (any_goals (first | assumption | wp_step))
  refine codeAny_mono (code_set_new (.ref l) (E := E) (Q₁ := fun obj s₁ => obj = .ref s.heap.objs.size ∧ s₁ = { s with heap := s.heap.push (freshO w) }) ⟨rfl, rfl⟩) fun r s₁ hr => ?_
  cases r with
  | error e => exact hr
  | ok fl =>
    cases fl with
    | ret obj =>
      obtain ⟨rfl, rfl⟩ := hr
      have hS : (s.heap.push (freshO w)).get? s.heap.objs.size = some (freshO w) := Heap.get?_push_size _ rfl
      have hT : Shared.TypeIs { s with heap := s.heap.push (freshO w) } (.ref s.heap.objs.size) "set" := ⟨_, hS, rfl⟩
      have hli := PySem.F.called_set.init.lookup
      have hbi := PySem.F.called_set.init.bind (.ref s.heap.objs.size)
      repeat (any_goals (first | assumption | wp_step))
      refine codeAny_mono (codeAny_call_builtin (R := wants (fun r s₂ => r = .none ∧ ∃ h' tk es, s₂ = { s with heap := h', toks := tk } ∧
          SetX prog w h' s.heap.objs.size es ∧ es.size ≤ items.size ∧ (∀ x, x ∈ names es ↔ ∃ j, j < items.size ∧ val j = x) ∧
          (∀ b o, b < s.heap.objs.size → s.heap.get? b = some o → h'.get? b = some o)) E) PySem.F.called_set.init.plain PySem.F.entry_set_init (check_set_init_1 hT ?_)) fun r₂ s₂ hr₂ => ?_
      · obtain ⟨ol, hol, hcl, nl, hdl⟩ := hl
        obtain ⟨ocls, odict, odata, oslots⟩ := ol
        simp only at hcl hdl
        subst hcl; subst hdl
        have hol' : (s.heap.push (freshO w)).get? l = some { cls := .type "list", dict := odict, data := .seq items nl, slots := oslots } := Heap.get?_push_of_some _ hol
        have hsls := PySem.F.sub_list_set
        have hslf := PySem.F.sub_list_frozenset
        have hne : (Value.type "list" == Value.type "dict") = false := by decide
        have hl1 : (s.heap.push (freshO w)).IsList l items := ⟨_, hol', rfl, nl, rfl⟩
        unfold Builtin.«set.__init__» noKeywords Builtin.Frozenset.updateFrom
        generalize hPI : pyIter = PI
        wp_walk
        subst hPI
        refine wpAny_pyIter_list hl1 ?_
        refine wpAny_bind (wpAny_runValue ?_)
        have hlS : l < s.heap.objs.size := Heap.lt_size hol
        have hh3 : A.in1.in1.in1.handled = none := by simp [hh]
        have hneI : l ≠ (s.heap.push (freshO w)).objs.size := by
          rw [Heap.size_push]; exact Nat.ne_of_lt (Nat.lt_succ_of_lt hlS)
        have hSf : s.heap.objs.size ∉ [(s.heap.push (freshO w)).objs.size, l] := by
          rw [Heap.size_push]; simp only [List.mem_cons, List.mem_singleton, List.not_mem_nil, or_false, not_or]
          exact ⟨Nat.ne_of_lt (Nat.lt_succ_self _), Nat.ne_of_gt hlS⟩
        refine loop ((Walks.list hh3 _ l hneI items).toS) s.heap.objs.size hSf val (fun i v hv => hi i v hv) hb (items.size - 0) 0 _ #[] (by omega) (Nat.zero_le _)
          ⟨⟨_, Heap.get?_push_size _ rfl, rfl, rfl⟩, (hl1.push _)⟩ ?hS0 (Nat.le_refl _) (fun x => ⟨fun z => by simp [names] at z, fun ⟨j, hj, _⟩ => absurd hj (Nat.not_lt_zero _)⟩) ?hR
        case hS0 => exact SetX.fresh (Heap.get?_push_of_some _ hS)
        case hR =>
          intro s' es' hm hS' hz' hm'
          obtain ⟨h', g', d', tk', os'⟩ := s'
          have eg : g' = s.gens := hm.gens
          have ed : d' = s.drawn := hm.drawn
          have eo : os' = s.os := hm.os
          subst eg; subst ed; subst eo
          show wpAny _ _ _ _ _ _
          refine wpAny_pure ?_
          show wpAny _ _ (ret Value.none) _ _ _
          refine wpAny_pure ⟨rfl, h', tk', es', rfl, hS', hz', hm', fun b o hb e => ?_⟩
          have hb1 : b ≠ s.heap.objs.size := Nat.ne_of_lt hb
          have hb2 : b ≠ (s.heap.push (freshO w)).objs.size := by
            rw [Heap.size_push]; exact Nat.ne_of_lt (Nat.lt_succ_of_lt hb)
          exact hm.heap b o (by simp only [List.mem_cons, List.mem_singleton, List.not_mem_nil, or_false, not_or]; exact ⟨hb1, hb2⟩) (Heap.get?_push_of_some _ (Heap.get?_push_of_some _ e))
      · cases r₂ with
        | error e => exact hr₂
        | ok fl₂ =>
          cases fl₂ with
          | ret r =>
            obtain ⟨rfl, h', tk, es, rfl, hS', hz', hm', hk'⟩ := hr₂
            repeat (any_goals (first | assumption | wp_step))
            exact h _ _ es hS' hz' hm' hk'
          | _ => exact hr₂.elim
    | _ => exact hr.elim
end
end SS
namespace SS
open PySem PySem.Spec PyProof.Rows
theorem slot_iter : Slot "set" "__iter__" "set.__iter__" :=
  .of (owner := "set") (n := "__iter__") (by rw [typeLookup_type, builtinLookup_eq_fast]; kernel_rfl) (by decide +kernel) (by decide +kernel) (by decide +kernel)
    (by first | exact .inl (by decide +kernel) | exact .inr (by decide +kernel)) (by rw [isSubtype_type]; kernel_rfl)
theorem slot_next : Slot "set_iterator" "__next__" "set_iterator.__next__" :=
  .of (owner := "set_iterator") (n := "__next__") (by rw [typeLookup_type, builtinLookup_eq_fast]; kernel_rfl) (by decide +kernel) (by decide +kernel) (by decide +kernel)
    (by first | exact .inl (by decide +kernel) | exact .inr (by decide +kernel)) (by rw [isSubtype_type]; kernel_rfl)
theorem slot_iter2 : Slot "set_iterator" "__iter__" "set_iterator.__iter__" :=
  .of (owner := "set_iterator") (n := "__iter__") (by rw [typeLookup_type, builtinLookup_eq_fast]; kernel_rfl) (by decide +kernel) (by decide +kernel) (by decide +kernel)
    (by first | exact .inl (by decide +kernel) | exact .inr (by decide +kernel)) (by rw [isSubtype_type]; kernel_rfl)
theorem entry_iter : entryFor table "set.__iter__" = some Builtin.«frozenset.__iter__» :=
  entryFor_alias (id' := "frozenset.__iter__") (by kernel_rfl) (by first | rfl | decide +kernel) (by decide +kernel) (by kernel_rfl)
theorem entry_next : entryFor table "set_iterator.__next__" = some Builtin.«set_iterator.__next__» := entryFor_of_fast (by kernel_rfl)
theorem args_iter (a : Value) : argsOk "set.__iter__" ⟨[a], []⟩ := by unfold argsOk; kernel_rfl
theorem args_next (a : Value) : argsOk "set_iterator.__next__" ⟨[a], []⟩ := by unfold argsOk; kernel_rfl
theorem wpAny_choose {M : Model} {A : Around} {E : Value → Shared → Prop} {s : Shared} {src : Source} {n : Nat} {Q : Nat → Shared → Prop} (hn : n ≠ 0) (h : ∀ i d, i < n → Q i { s with drawn := d }) : wpAny M A (choose src n) Q E s := fun Γ p _ => by
  unfold choose
  rw [Sem.wp_choose]
  exact ⟨hn, h _ _ (Nat.mod_lt _ (Nat.pos_of_ne_zero hn))⟩
theorem perm_eraseIdx {α : Type} : ∀ (xs : List α) (i : Nat) (x : α), xs[i]? = some x → xs.Perm (x :: xs.eraseIdx i)
  | [], i, x, h => by simp at h
  | y :: r, 0, x, h => by
    simp at h
    subst h
    simp
  | y :: r, i + 1, x, h => by
    simp only [List.getElem?_cons_succ] at h
    have := perm_eraseIdx r i x h
    simp only [List.eraseIdx_cons_succ]
    exact (this.cons y).trans (List.Perm.swap x y _)
section
variable {M : Model} {A : Around} {E : Value → Shared → Prop} {s : Shared}
theorem drawOrder_ok {α : Type} : ∀ (n : Nat) (xs : List α) (s : Shared) (Q : List α → Shared → Prop), n = xs.length → (∀ ys d, ys.Perm xs → Q ys { s with drawn := d }) → wpAny M A (drawOrder n xs) Q E s
  | 0, xs, s, Q, hn, h => by
    cases xs with
    | nil => unfold drawOrder; exact wpAny_pure (h [] s.drawn .nil)
    | cons x r => simp at hn
  | n + 1, [], s, Q, hn, h => by simp at hn
  | n + 1, x :: r, s, Q, hn, h => by
    unfold drawOrder
    refine wpAny_bind (wpAny_choose (by simp) fun i d hi => ?_)
    have e : (x :: r)[i]? = some ((x :: r)[i]'hi) := List.getElem?_eq_getElem hi
    rw [e]
    dsimp only
    have hp := perm_eraseIdx (x :: r) i _ e
    refine wpAny_bind (drawOrder_ok n _ _ _ ?_ fun ys d' hy => wpAny_pure ?_)
    · have := hp.length_eq
      simp only [List.length_cons] at this hn ⊢
      omega
    · exact h _ d' ((hy.cons _).trans hp.symm)
end
theorem pick_ok {α : Type} (next : Nat → Nat) : ∀ (fuel k : Nat) (left : List α) (out : Array α), fuel = left.length → (pickOrder.go next fuel k left out).toList.Perm (out.toList ++ left)
  | 0, k, left, out, h => by
    cases left with
    | nil => unfold pickOrder.go; simp
    | cons x r => simp at h
  | fuel + 1, k, [], out, h => by simp at h
  | fuel + 1, k, x :: r, out, h => by
    unfold pickOrder.go
    have hi : next k % (x :: r).length < (x :: r).length := Nat.mod_lt _ (by simp)
    have e : (x :: r)[next k % (x :: r).length]? = some ((x :: r)[next k % (x :: r).length]'hi) := List.getElem?_eq_getElem hi
    rw [e]
    dsimp only
    have hp := perm_eraseIdx (x :: r) _ _ e
    refine (pick_ok next fuel (k + 1) _ _ ?_).trans ?_
    · have := hp.length_eq
      simp only [List.length_cons] at this h ⊢
      omega
    · rw [Array.toList_push, List.append_assoc]
      exact List.Perm.append_left _ hp.symm
theorem pickOrder_perm {α : Type} (next : Nat → Nat) (xs : Array α) : (pickOrder next xs).toList.Perm xs.toList := by
  unfold pickOrder
  exact (pick_ok next xs.size 0 xs.toList #[] (by simp)).trans (by simp)
def IsIt (h : Heap) (it a : Addr) (first : Value) (i n ep : Nat) : Prop := ∃ o, h.get? it = some o ∧ o.cls = .type "set_iterator" ∧ o.data = .fields #[first, .int i 0, .ref a, .int n 0, .int ep 0]
def SetAt (h : Heap) (a : Addr) (es : Array (Int × Value)) (ep : Nat) (t : SetTable) : Prop := ∃ o, h.get? a = some o ∧ o.data = .set es ep t ∧ t.fits es.size = true
section
variable {prog : Program} {w : World} {A : Around} {E : Value → Shared → Prop} {s : Shared} {it a : Addr} {es : Array (Int × Value)} {ep : Nat} {t : SetTable}
theorem IsIt.typeIs {first : Value} {i n : Nat} (h : IsIt s.heap it a first i n ep) : s.TypeIs (.ref it) "set_iterator" := by
  obtain ⟨o, h1, h2, _⟩ := h
  exact ⟨o, h1, h2⟩
theorem IsIt.put {first v : Value} {i n k : Nat} {h : Heap} (x : IsIt h it a first i n ep) (o : Obj) (ho : h.get? it = some o) : (h.update it (Obj.mapFields (·.setIfInBounds k v))).get? it = some (o.mapFields (·.setIfInBounds k v)) := by
  obtain ⟨o', h1, h2, h3⟩ := x
  rw [h1] at ho
  cases ho
  exact Heap.get?_update_self _ h1 (Obj.isFreed_of_fields (Obj.data_mapFields h3 _))
theorem next_slot {slot : Int} {i : Nat} {x : Value} {nx : Nat} {Q : Option Value → Shared → Prop} (hi : IsIt s.heap it a (.int slot 0) i es.size ep) (hs : SetAt s.heap a es ep t)
    (hn : ∀ (A : Around) (Q : Option (Value × Nat) → Shared → Prop) (E : Value → Shared → Prop), Q (some (x, nx)) s → wpAny (model prog w) A (setNext a slot.toNat i ep) Q E s)
    (hQ : ∀ h', IsIt h' it a (.int nx 0) (i + 1) es.size ep → Heap.SameBut it s.heap h' → Q (some x) { s with heap := h' }) : wpAny (model prog w) A (pyNext (.ref it)) Q E s := by
  obtain ⟨o, ho, hc, hd⟩ := id hi
  obtain ⟨os, hos, hds, hf⟩ := hs
  unfold pyNext
  refine wpAny_bind (wpAny_attempt (wpAny_callSpecial?_slot (name := Str.ofString "__next__") hi.typeIs slot_next (wpAny_call_entry slot_next hi.typeIs entry_next ?_ (args_next _))))
  show wpAny _ _ (fieldsOf (.ref it) >>= _) _ _ s
  refine wpAny_bind (wpAny_fieldsOf ho hd ?_)
  show wpAny _ _ (setEntries a >>= _) _ _ s
  refine wpAny_bind (wpAny_setEntries_of hos hds hf ?_)
  simp only [bne_self_eq_false, Bool.false_eq_true, if_false]
  refine wpAny_bind (hn _ _ _ ?_)
  dsimp only
  refine wpAny_bind (wpAny_setField ho hd (by simp) ?_)
  have ho2 := hi.put (k := 0) (v := rawInt nx) o ho
  refine wpAny_bind (wpAny_setField ho2 (Obj.data_mapFields hd _) (by simp) (wpAny_pure ⟨x, rfl, wpAny_pure (hQ _ ?_ ((Heap.SameBut.update ..).trans (Heap.SameBut.update ..)))⟩))
  refine ⟨_, Heap.get?_update_self _ ho2 (Obj.isFreed_of_fields (Obj.data_mapFields (Obj.data_mapFields hd _) _)), (Obj.cls_mapFields ..).trans ((Obj.cls_mapFields ..).trans hc), ?_⟩
  rw [Obj.data_mapFields (Obj.data_mapFields hd _)]
  simp [rawInt]
end
end SS
namespace SS
open PySem PySem.Spec PyProof.Rows
theorem entry_iter2 : entryFor table "set_iterator.__iter__" = some Builtin.«dict_keyiterator.__iter__» :=
  entryFor_alias (id' := "dict_keyiterator.__iter__") (by kernel_rfl) (by first | rfl | decide +kernel) (by decide +kernel) (by kernel_rfl)
theorem args_iter2 (a : Value) : argsOk "set_iterator.__iter__" ⟨[a], []⟩ := by unfold argsOk; kernel_rfl
section
variable {prog : Program} {w : World} {A : Around} {E : Value → Shared → Prop} {s : Shared} {it a : Addr} {es : Array (Int × Value)} {ep : Nat} {t : SetTable}
theorem iter_self {first : Value} {i n : Nat} {Q : Value → Shared → Prop} (hi : IsIt s.heap it a first i n ep) (h : Q (.ref it) s) : wpAny (model prog w) A (pyIter (.ref it)) Q E s := by
  refine wpAny_pyIter_slot hi.typeIs slot_iter2 (wpAny_call_entry slot_iter2 hi.typeIs entry_iter2 ?_ (args_iter2 _))
  show wpAny _ _ (ret (.ref it)) _ _ s
  exact wpAny_pure ⟨_, rfl, "set_iterator", _, hi.typeIs, slot_next.lookup, h⟩
theorem end_slot {slot : Int} {i : Nat} {Q : Option Value → Shared → Prop} (hh : A.handled = none) (hi : IsIt s.heap it a (.int slot 0) i es.size ep) (hs : SetAt s.heap a es ep t)
    (hn : ∀ (A : Around) (Q : Option (Value × Nat) → Shared → Prop) (E : Value → Shared → Prop), Q none s → wpAny (model prog w) A (setNext a slot.toNat i ep) Q E s)
    (hQ : ∀ h', Heap.ExtBut it s.heap h' → Q none { s with heap := h' }) : wpAny (model prog w) A (pyNext (.ref it)) Q E s := by
  obtain ⟨o, ho, hc, hd⟩ := id hi
  obtain ⟨os, hos, hds, hf⟩ := hs
  unfold pyNext
  refine wpAny_bind (wpAny_attempt (wpAny_callSpecial?_slot (name := Str.ofString "__next__") hi.typeIs slot_next (wpAny_call_entry slot_next hi.typeIs entry_next ?_ (args_next _))))
  show wpAny _ _ (fieldsOf (.ref it) >>= _) _ _ s
  refine wpAny_bind (wpAny_fieldsOf ho hd ?_)
  show wpAny _ _ (setEntries a >>= _) _ _ s
  refine wpAny_bind (wpAny_setEntries_of hos hds hf ?_)
  simp only [bne_self_eq_false, Bool.false_eq_true, if_false]
  refine wpAny_bind (hn _ _ _ ?_)
  dsimp only
  refine wpAny_bind (wpAny_setField ho hd (by simp) ?_)
  show wpAny _ _ (newExc (.type "StopIteration") [] >>= _) _ _ _
  refine wpAny_bind ?_
  simp only [newExc, newTuple]
  refine wpAny_bind (wpAny_newObj_type ?_ (by size_fits))
  refine wpAny_bind (m := firstArgMember _ _) (wpAny_of_eq (a := Value.none) (by first | rfl | (simp only [firstArgMember]; rfl)) ?_)
  refine wpAny_newObj_type ?_ (by size_fits)
  simp only [raiseNew]
  refine wpAny_bind (wpAny_handled ?_)
  rw [show A.in1.handled = none from hh]
  refine wpAny_bind (wpAny_pure (wpAny_throw ?_))
  refine wpAny_bind (wpAny_isInstance (T := "StopIteration") (b := true) ⟨_, Heap.get?_push_size _ rfl, rfl⟩ isSubtype_stop ?_)
  exact wpAny_pure (hQ _ (((Heap.SameBut.update ..).extBut.push _).push _))
theorem next_drawn {tp : Addr} {ps : List Nat} {i p : Nat} {h0 : Int} {x : Value} {Q : Option Value → Shared → Prop} (hi : IsIt s.heap it a (.ref tp) i es.size ep) (hs : SetAt s.heap a es ep t)
    (ht : ∃ o n, s.heap.get? tp = some o ∧ o.data = .seq ((ps.map fun (i : Nat) => rawInt i).toArray) n) (hp : ps[i]? = some p) (hx : es[p]? = some (h0, x))
    (hQ : ∀ h', IsIt h' it a (.ref tp) (i + 1) es.size ep → Heap.SameBut it s.heap h' → Q (some x) { s with heap := h' }) : wpAny (model prog w) A (pyNext (.ref it)) Q E s := by
  obtain ⟨o, ho, hc, hd⟩ := id hi
  obtain ⟨os, hos, hds, hf⟩ := hs
  obtain ⟨ot, nt, hot, hdt⟩ := ht
  unfold pyNext
  refine wpAny_bind (wpAny_attempt (wpAny_callSpecial?_slot (name := Str.ofString "__next__") hi.typeIs slot_next (wpAny_call_entry slot_next hi.typeIs entry_next ?_ (args_next _))))
  show wpAny _ _ (fieldsOf (.ref it) >>= _) _ _ s
  refine wpAny_bind (wpAny_fieldsOf ho hd ?_)
  show wpAny _ _ (setEntries a >>= _) _ _ s
  refine wpAny_bind (wpAny_setEntries_of hos hds hf ?_)
  simp only [bne_self_eq_false, Bool.false_eq_true, if_false]
  refine wpAny_bind (wpAny_seqItems hot hdt ?_)
  have e : ((ps.map fun (i : Nat) => rawInt i).toArray)[((i : Int)).toNat]? = some (Value.int (p : Int) 0) := by
    simp [hp, rawInt]
  dsimp only
  rw [e]
  dsimp only
  refine wpAny_bind ?_
  unfold setNextDrawn
  refine wpAny_bind (wpAny_setState_of hos hds hf ?_)
  dsimp only
  simp only [Int.toNat_natCast, bne_self_eq_false, Bool.false_eq_true, if_false]
  rw [hx]
  refine wpAny_pure ?_
  refine wpAny_bind (wpAny_setField ho hd (by simp) (wpAny_pure ⟨x, rfl, wpAny_pure (hQ _ ?_ (Heap.SameBut.update ..))⟩))
  refine ⟨_, Heap.get?_update_self _ ho (Obj.isFreed_of_fields (Obj.data_mapFields hd _)), (Obj.cls_mapFields ..).trans hc, ?_⟩
  rw [Obj.data_mapFields hd]
  simp [rawInt]
theorem end_drawn {tp : Addr} {ps : List Nat} {i : Nat} {Q : Option Value → Shared → Prop} (hh : A.handled = none) (hi : IsIt s.heap it a (.ref tp) i es.size ep) (hs : SetAt s.heap a es ep t)
    (ht : ∃ o n, s.heap.get? tp = some o ∧ o.data = .seq ((ps.map fun (i : Nat) => rawInt i).toArray) n) (hp : ps[i]? = none)
    (hQ : ∀ h', Heap.ExtBut it s.heap h' → Q none { s with heap := h' }) : wpAny (model prog w) A (pyNext (.ref it)) Q E s := by
  obtain ⟨o, ho, hc, hd⟩ := id hi
  obtain ⟨os, hos, hds, hf⟩ := hs
  obtain ⟨ot, nt, hot, hdt⟩ := ht
  unfold pyNext
  refine wpAny_bind (wpAny_attempt (wpAny_callSpecial?_slot (name := Str.ofString "__next__") hi.typeIs slot_next (wpAny_call_entry slot_next hi.typeIs entry_next ?_ (args_next _))))
  show wpAny _ _ (fieldsOf (.ref it) >>= _) _ _ s
  refine wpAny_bind (wpAny_fieldsOf ho hd ?_)
  show wpAny _ _ (setEntries a >>= _) _ _ s
  refine wpAny_bind (wpAny_setEntries_of hos hds hf ?_)
  simp only [bne_self_eq_false, Bool.false_eq_true, if_false]
  refine wpAny_bind (wpAny_seqItems hot hdt ?_)
  have e : ((ps.map fun (i : Nat) => rawInt i).toArray)[((i : Int)).toNat]? = none := by
    simp only [Int.toNat_natCast, List.getElem?_toArray, List.getElem?_map, hp, Option.map_none]
  dsimp only
  rw [e]
  dsimp only
  refine wpAny_bind (wpAny_setField ho hd (by simp) ?_)
  have ho2 := hi.put (k := 0) (v := rawInt 0) o ho
  refine wpAny_bind (wpAny_setField ho2 (Obj.data_mapFields hd _) (by simp) ?_)
  show wpAny _ _ (newExc (.type "StopIteration") [] >>= _) _ _ _
  refine wpAny_bind ?_
  simp only [newExc, newTuple]
  refine wpAny_bind (wpAny_newObj_type ?_ (by size_fits))
  refine wpAny_bind (m := firstArgMember _ _) (wpAny_of_eq (a := Value.none) (by first | rfl | (simp only [firstArgMember]; rfl)) ?_)
  refine wpAny_newObj_type ?_ (by size_fits)
  simp only [raiseNew]
  refine wpAny_bind (wpAny_handled ?_)
  rw [show A.in1.handled = none from hh]
  refine wpAny_bind (wpAny_pure (wpAny_throw ?_))
  refine wpAny_bind (wpAny_isInstance (T := "StopIteration") (b := true) ⟨_, Heap.get?_push_size _ rfl, rfl⟩ isSubtype_stop ?_)
  exact wpAny_pure (hQ _ ((((Heap.SameBut.update ..).trans (Heap.SameBut.update ..)).extBut.push _).push _))
end
end SS
namespace SS
open PySem PySem.Spec PyProof.Rows
section
variable {prog : Program} {w : World} {A : Around} {E : Value → Shared → Prop} {s : Shared} {it a : Addr} {es : Array (Int × Value)} {ep : Nat} {t : SetTable}
theorem byText_ok {Q : Bool → Shared → Prop} (h : Q (w.params.followText "set-order") s) : wpAny (model prog w) A setsByText Q E s := by
  unfold setsByText
  exact wpAny_bind (wpAny_askSetting (wpAny_pure h))
theorem SetAt.keep {h h' : Heap} (x : SetAt h a es ep t) (k : ∀ o, h.get? a = some o → h'.get? a = some o) : SetAt h' a es ep t := by
  obtain ⟨o, e, r⟩ := x
  exact ⟨o, k o e, r⟩
theorem IsIt.keep {h h' : Heap} {first : Value} {i n : Nat} (x : IsIt h it a first i n ep) (k : ∀ o, h.get? it = some o → h'.get? it = some o) : IsIt h' it a first i n ep := by
  obtain ⟨o, e, r⟩ := x
  exact ⟨o, k o e, r⟩
theorem nextT {slot i : Nat} {Q : Option (Value × Nat) → Shared → Prop} (hw : w.params.followText "set-order" = true) (hs : SetAt s.heap a es ep t)
    (h : Q (((pickOrder (w.params.setOrder a ep) es)[i]?).map fun e => (e.2, slot)) s) : wpAny (model prog w) A (setNext a slot i ep) Q E s := by
  obtain ⟨os, hos, hds, hf⟩ := hs
  unfold setNext
  refine wpAny_bind (wpAny_setState_of hos hds hf ?_)
  dsimp only
  refine wpAny_bind (byText_ok ?_)
  rw [hw, if_pos rfl]
  simp only [bne_self_eq_false, Bool.false_eq_true, if_false]
  refine wpAny_bind ?_
  unfold setWalk
  refine wpAny_bind (wpAny_setState_of hos hds hf ?_)
  dsimp only
  refine wpAny_bind (byText_ok ?_)
  rw [hw, if_pos rfl]
  exact wpAny_bind (wpAny_askSetting (wpAny_pure (wpAny_pure h)))
theorem walksT (hw : w.params.followText "set-order" = true) (hh : A.handled = none) (hne : a ≠ it) :
    Walks prog w A it [it, a] [it] ((pickOrder (w.params.setOrder a ep) es).toList.map (·.2)).length (fun i v => ((pickOrder (w.params.setOrder a ep) es).toList.map (·.2))[i]? = some v) (fun i h => IsIt h it a (.int 0 0) i es.size ep ∧ SetAt h a es ep t) where
  sub := fun b hb => by simp at hb; simp [hb]
  frame := fun _ _ _ st hk => ⟨st.1.keep fun o e => hk it (by simp) o e, st.2.keep fun o e => hk a (by simp) o e⟩
  item := fun i s Q E hi st hQ => by
    have hi' : i < (pickOrder (w.params.setOrder a ep) es).size := by simpa using hi
    have e1 : (pickOrder (w.params.setOrder a ep) es)[i]? = some ((pickOrder (w.params.setOrder a ep) es)[i]'hi') := Array.getElem?_eq_getElem hi'
    refine next_slot (slot := 0) (x := ((pickOrder (w.params.setOrder a ep) es)[i]'hi').2) (nx := 0) st.1 st.2 (fun A' Q' E' hq => nextT hw st.2 (by rw [e1]; exact hq)) fun h' hit' hs' => ?_
    refine hQ _ h' s.toks ?_ ⟨hit', st.2.keep fun o e => (hs'.2 a hne).trans e⟩ fun b o hb e => (hs'.2 b fun z => hb (by simp [z])).trans e
    rw [List.getElem?_map, Array.getElem?_toList, e1]; rfl
  done := fun s Q E st hQ => by
    have e1 : (pickOrder (w.params.setOrder a ep) es)[((pickOrder (w.params.setOrder a ep) es).toList.map (·.2)).length]? = none := by simp
    exact end_slot (slot := 0) hh st.1 st.2 (fun A' Q' E' hq => nextT hw st.2 (by rw [e1]; exact hq)) fun h' he' => hQ h' s.toks fun b o hb e => he' b o (fun z => hb (by simp [z])) e
  self := fun _ _ _ _ st hQ => iter_self st.1 hQ
theorem walksD {tp : Addr} {ps : List Nat} (hh : A.handled = none) (hne : a ≠ it) (hnt : tp ≠ it) (hps : ps.Perm (List.range es.size)) :
    Walks prog w A it [it, a, tp] [it] (ps.map fun p => ((es[p]?).getD (0, .none)).2).length (fun i v => (ps.map fun p => ((es[p]?).getD (0, .none)).2)[i]? = some v)
      (fun i h => IsIt h it a (.ref tp) i es.size ep ∧ SetAt h a es ep t ∧ ∃ o n, h.get? tp = some o ∧ o.data = .seq ((ps.map fun (i : Nat) => rawInt i).toArray) n) where
  sub := fun b hb => by simp at hb; simp [hb]
  frame := fun _ _ _ st hk => ⟨st.1.keep fun o e => hk it (by simp) o e, st.2.1.keep fun o e => hk a (by simp) o e, by obtain ⟨o, n, e, r⟩ := st.2.2; exact ⟨o, n, hk tp (by simp) o e, r⟩⟩
  item := fun i s Q E hi st hQ => by
    have hi' : i < ps.length := by simpa using hi
    have e1 : ps[i]? = some (ps[i]'hi') := List.getElem?_eq_getElem hi'
    have hlt : (ps[i]'hi') < es.size := List.mem_range.mp (hps.mem_iff.mp (List.getElem_mem hi'))
    have e2 : es[ps[i]'hi']? = some ((es[ps[i]'hi']'hlt).1, (es[ps[i]'hi']'hlt).2) := Array.getElem?_eq_getElem hlt
    refine next_drawn st.1 st.2.1 st.2.2 e1 e2 fun h' hit' hs' => ?_
    refine hQ _ h' s.toks ?_ ⟨hit', st.2.1.keep fun o e => (hs'.2 a hne).trans e, by obtain ⟨o, n, e, r⟩ := st.2.2; exact ⟨o, n, (hs'.2 tp hnt).trans e, r⟩⟩ fun b o hb e => (hs'.2 b fun z => hb (by simp [z])).trans e
    rw [List.getElem?_map, e1]
    simp only [Option.map_some, e2, Option.getD_some]
  done := fun s Q E st hQ => by
    exact end_drawn hh st.1 st.2.1 st.2.2 (by simp) fun h' he' => hQ h' s.toks fun b o hb e => he' b o (fun z => hb (by simp [z])) e
  self := fun _ _ _ _ st hQ => iter_self st.1 hQ
theorem nextS {slot i : Nat} {Q : Option (Value × Nat) → Shared → Prop} (hw : w.params.followText "set-order" = false) (hl : t.led = true) (hz : es.size ≤ 1) (hs : SetAt s.heap a es ep t)
    (h : Q (match es[SetTable.below t.place slot]?, t.place[SetTable.below t.place slot]? with | some (_, x), some j => some (x, j + 1) | _, _ => none) s) : wpAny (model prog w) A (setNext a slot i ep) Q E s := by
  obtain ⟨os, hos, hds, hf⟩ := hs
  unfold setNext
  refine wpAny_bind (wpAny_setState_of hos hds hf ?_)
  dsimp only
  refine wpAny_bind (byText_ok ?_)
  rw [hw, if_neg (by decide)]
  show wpAny _ _ (if (!t.plain && decide (es.size > 1)) = true then _ else _) _ _ _
  rw [if_neg (by rw [decide_eq_false (Nat.not_lt.mpr hz), Bool.and_false]; decide)]
  show wpAny _ _ ((if (!t.led && !es.isEmpty) = true then _ else _) >>= _) _ _ _
  rw [hl, if_neg (by simp)]
  exact wpAny_bind (wpAny_pure (wpAny_pure h))
theorem below_0 (xs : Array Nat) (h : xs.size ≤ 1) : SetTable.below xs 0 = 0 := by
  unfold SetTable.below
  have : xs.size = 0 ∨ xs.size = 1 := by omega
  rcases this with z | z
  · rw [z]; rfl
  · rw [z]
    unfold SetTable.below.go
    rw [if_pos (by decide)]
    dsimp only
    rw [if_neg (by omega)]
    rfl
theorem below_1 (xs : Array Nat) (j : Nat) (h : xs.size = 1) (hj : xs[0]? = some j) : SetTable.below xs (j + 1) = 1 := by
  unfold SetTable.below
  rw [h]
  unfold SetTable.below.go
  rw [if_pos (by decide)]
  dsimp only
  have e : xs.getD ((0 + 1) / 2) (j + 1) = j := by
    show xs.getD 0 (j + 1) = j
    rw [Array.getD_eq_getD_getElem?, hj]; rfl
  rw [e, if_pos (by omega)]
  rfl
theorem walksS (hw : w.params.followText "set-order" = false) (hl : t.led = true) (hz : es.size ≤ 1) (hf : t.fits es.size = true) (hh : A.handled = none) (hne : a ≠ it) :
    Walks prog w A it [it, a] [it] (es.toList.map (·.2)).length (fun i v => (es.toList.map (·.2))[i]? = some v) (fun i h => IsIt h it a (.int (if i = 0 then 0 else t.place.getD 0 0 + 1 : Nat) 0) i es.size ep ∧ SetAt h a es ep t) where
  sub := fun b hb => by simp at hb; simp [hb]
  frame := fun _ _ _ st hk => ⟨st.1.keep fun o e => hk it (by simp) o e, st.2.keep fun o e => hk a (by simp) o e⟩
  item := fun i s Q E hi st hQ => by
    have hi' : i < es.size := by simpa using hi
    have h0 : i = 0 := by omega
    subst h0
    have hp : t.place.size = es.size := by simp only [SetTable.fits, Bool.and_eq_true, beq_iff_eq] at hf; exact hf.1
    have e1 : es[0]? = some (es[0]'hi') := Array.getElem?_eq_getElem hi'
    have e2 : t.place[0]? = some (t.place[0]'(by omega)) := Array.getElem?_eq_getElem (by omega)
    have e3 : t.place.getD 0 0 = t.place[0]'(by omega) := by rw [Array.getD_eq_getD_getElem?, e2]; rfl
    refine next_slot (slot := ((if (0 : Nat) = 0 then 0 else t.place.getD 0 0 + 1 : Nat) : Int)) (x := (es[0]'hi').2) (nx := (t.place[0]'(by omega)) + 1) st.1 st.2 (fun A' Q' E' hq => ?_) fun h' hit' hs' => ?_
    · refine nextS hw hl hz st.2 ?_
      simp only [if_true, Int.toNat_natCast]
      rw [below_0 _ (by omega), e1, e2]
      exact hq
    · refine hQ _ h' s.toks ?_ ⟨?_, st.2.keep fun o e => (hs'.2 a hne).trans e⟩ fun b o hb e => (hs'.2 b fun z => hb (by simp [z])).trans e
      · rw [List.getElem?_map, Array.getElem?_toList, e1]; rfl
      · rw [if_neg (by omega), e3]; exact hit'
  done := fun s Q E st hQ => by
    have hp : t.place.size = es.size := by simp only [SetTable.fits, Bool.and_eq_true, beq_iff_eq] at hf; exact hf.1
    have hlen : (es.toList.map (·.2)).length = es.size := by simp
    rw [hlen] at st
    refine end_slot hh st.1 st.2 (fun A' Q' E' hq => nextS hw hl hz st.2 ?_) fun h' he' => hQ h' s.toks fun b o hb e => he' b o (fun z => hb (by simp [z])) e
    simp only [Int.toNat_natCast]
    by_cases hz0 : es.size = 0
    · rw [if_pos hz0, below_0 _ (by omega), Array.getElem?_eq_none (by omega)]
      exact hq
    · have e2 : t.place[0]? = some (t.place[0]'(by omega)) := Array.getElem?_eq_getElem (by omega)
      have e3 : t.place.getD 0 0 = t.place[0]'(by omega) := by rw [Array.getD_eq_getD_getElem?, e2]; rfl
      rw [if_neg hz0, e3, below_1 _ _ (by omega) e2, Array.getElem?_eq_none (by omega)]
      exact hq
  self := fun _ _ _ _ st hQ => iter_self st.1 hQ
end
end SS
namespace SS
open PySem PySem.Spec PyProof.Rows
section
variable {prog : Program} {w : World} {A : Around} {E : Value → Shared → Prop} {s : Shared} {it a : Addr} {es : Array (Int × Value)} {ep : Nat} {t : SetTable}
theorem perm_places {ps : List Nat} (hps : ps.Perm (List.range es.size)) : (ps.map fun p => ((es[p]?).getD (0, .none)).2).Perm (es.toList.map (·.2)) := by
  refine (hps.map _).trans ?_
  have : ((List.range es.size).map fun p => ((es[p]?).getD (0, .none)).2) = es.toList.map (·.2) := by
    apply List.ext_getElem?
    intro i
    simp only [List.getElem?_map, Array.getElem?_toList]
    by_cases hi : i < es.size
    · rw [List.getElem?_range hi, Array.getElem?_eq_getElem hi]
      simp [Array.getElem?_eq_getElem hi]
    · rw [List.getElem?_eq_none (by simpa using hi), Array.getElem?_eq_none (by omega)]; rfl
  rw [this]
theorem iter_set {Q : Value → Shared → Prop} (hS : SetX prog w s.heap a es)
    (h : ∀ (h' : Heap) (d : Drawn) (it : Addr) (zs : List Value) (fp : List Addr) (St : Nat → Heap → Prop), zs.Perm (es.toList.map (·.2)) → (∀ A' : Around, A'.handled = none → Walks prog w A' it fp [it] zs.length (fun i v => zs[i]? = some v) St) → St 0 h' →
      it ∈ fp → (∀ b ∈ fp, b = a ∨ s.heap.objs.size ≤ b) → (∀ b ∈ fp, b < h'.objs.size) → s.heap.objs.size ≤ it → (∀ b o, s.heap.get? b = some o → h'.get? b = some o) → Q (.ref it) { s with heap := h', drawn := d }) : wpAny (model prog w) A (pyIter (.ref a)) Q E s := by
  obtain ⟨o, ep, t, ho, hex, hd, hel, hnd, hb, hf, hled, hpl⟩ := hS
  have hT : s.TypeIs (.ref a) "set" := ⟨o, ho, hex.1⟩
  have alt : a < s.heap.objs.size := Heap.lt_size ho
  refine wpAny_pyIter_slot hT slot_iter (wpAny_call_entry slot_iter hT entry_iter ?_ (args_iter _))
  show wpAny _ _ (Builtin.Frozenset.sizeOf a >>= _) _ _ s
  unfold Builtin.Frozenset.sizeOf
  refine wpAny_bind (wpAny_bind (wpAny_setEntries_of ho hd hf (wpAny_pure ?_)))
  refine wpAny_bind ?_
  unfold setDrawn
  refine wpAny_bind (wpAny_setState_of ho hd hf ?_)
  dsimp only
  refine wpAny_bind (byText_ok (wpAny_pure ?_))
  show wpAny _ _ (if (!w.params.followText "set-order" && (!t.plain && decide (es.size > 1))) = true then _ else _) _ _ _
  by_cases hc : (!w.params.followText "set-order" && (!t.plain && decide (es.size > 1))) = true
  · rw [if_pos hc]
    refine wpAny_bind (drawOrder_ok _ _ _ _ (by simp) fun ys d hys => ?_)
    unfold newTuple
    have hsz : sizeOk (.seq ((ys.map fun (i : Nat) => rawInt i).toArray) 0) := by
      show ((ys.map fun (i : Nat) => rawInt i).toArray).size ≤ sizeLine
      rw [List.size_toArray, List.length_map, hys.length_eq, List.length_range]
      exact fits_of_scanBound hb
    refine wpAny_bind (wpAny_newObj_type ?_ hsz)
    have hk1 := fun b o (e : s.heap.get? b = some o) => Heap.get?_push_of_some { cls := .type "tuple", data := .seq ((ys.map fun (i : Nat) => rawInt i).toArray) } e
    have ho1 := hk1 a o ho
    refine wpAny_bind (wpAny_setEpoch_of ho1 hd hf ?_)
    refine wpAny_bind (wpAny_newObj_type (wpAny_pure ⟨_, rfl, "set_iterator", _, ⟨_, Heap.get?_push_size _ rfl, rfl⟩, slot_next.lookup, ?_⟩) (by size_fits))
    have ne1 : a ≠ (s.heap.push { cls := .type "tuple", data := .seq ((ys.map fun (i : Nat) => rawInt i).toArray) }).objs.size := by rw [Heap.size_push]; exact Nat.ne_of_lt (Nat.lt_succ_of_lt alt)
    have ne2 : s.heap.objs.size ≠ (s.heap.push { cls := .type "tuple", data := .seq ((ys.map fun (i : Nat) => rawInt i).toArray) }).objs.size := by rw [Heap.size_push]; exact Nat.ne_of_lt (Nat.lt_succ_self _)
    refine h _ d _ (ys.map fun p => ((es[p]?).getD (0, .none)).2) [_, a, s.heap.objs.size] _ (perm_places hys) (fun A' hh => walksD (t := t) (ep := ep) hh ne1 ne2 hys) ⟨⟨_, Heap.get?_push_size _ rfl, rfl, rfl⟩, ⟨o, Heap.get?_push_of_some _ ho1, hd, hf⟩, ⟨_, _, Heap.get?_push_of_some _ (Heap.get?_push_size _ rfl), rfl⟩⟩ (by simp) (fun b hb' => by
      simp only [List.mem_cons, List.not_mem_nil, or_false] at hb'
      rcases hb' with z | z | z
      · exact .inr (by rw [z, Heap.size_push]; exact Nat.le_succ _)
      · exact .inl z
      · exact .inr (by rw [z]; exact Nat.le_refl _)) (fun b hb' => ?_) (by rw [Heap.size_push]; exact Nat.le_succ _) fun b o e => Heap.get?_push_of_some _ (hk1 b o e)
    rw [Heap.size_push, Heap.size_push]
    simp only [List.mem_cons, List.not_mem_nil, or_false] at hb'
    rcases hb' with z | z | z
    · rw [z, Heap.size_push]; exact Nat.lt_succ_self _
    · rw [z]; exact Nat.lt_succ_of_lt (Nat.lt_succ_of_lt alt)
    · rw [z]; exact Nat.lt_succ_of_lt (Nat.lt_succ_self _)
  · rw [if_neg hc]
    refine wpAny_bind (wpAny_pure ?_)
    refine wpAny_bind (wpAny_setEpoch_of ho hd hf ?_)
    refine wpAny_bind (wpAny_newObj_type (wpAny_pure ⟨_, rfl, "set_iterator", _, ⟨_, Heap.get?_push_size _ rfl, rfl⟩, slot_next.lookup, ?_⟩) (by size_fits))
    have ne1 : a ≠ s.heap.objs.size := Nat.ne_of_lt alt
    have hfp : ∀ b ∈ [s.heap.objs.size, a], b < (s.heap.push { cls := .type "set_iterator", data := .fields [rawInt 0, rawInt 0, .ref a, rawInt (es.size : Nat), rawInt (ep : Nat)].toArray }).objs.size := fun b hb' => by
      rw [Heap.size_push]
      simp only [List.mem_cons, List.not_mem_nil, or_false] at hb'
      rcases hb' with z | z
      · rw [z]; exact Nat.lt_succ_self _
      · rw [z]; exact Nat.lt_succ_of_lt alt
    have hfq : ∀ b ∈ [s.heap.objs.size, a], b = a ∨ s.heap.objs.size ≤ b := fun b hb' => by
      simp only [List.mem_cons, List.not_mem_nil, or_false] at hb'
      rcases hb' with z | z
      · exact .inr (by rw [z]; exact Nat.le_refl _)
      · exact .inl z
    cases hw : w.params.followText "set-order" with
    | true =>
      exact h _ s.drawn _ ((pickOrder (w.params.setOrder a ep) es).toList.map (·.2)) [_, a] _ ((pickOrder_perm _ es).map _) (fun A' hh => walksT (t := t) hw hh ne1) ⟨⟨_, Heap.get?_push_size _ rfl, rfl, rfl⟩, ⟨o, Heap.get?_push_of_some _ ho, hd, hf⟩⟩ (by simp) hfq hfp (Nat.le_refl _) fun b o e => Heap.get?_push_of_some _ e
    | false =>
      have hz : es.size ≤ 1 := by
        rw [hw] at hc
        by_cases hz : es.size ≤ 1
        · exact hz
        · rw [hpl (by omega), decide_eq_true (by omega)] at hc
          exact absurd rfl hc
      have hl : t.led = true := by rw [hled, hw]; rfl
      exact h _ s.drawn _ (es.toList.map (·.2)) [_, a] _ (.refl _) (fun A' hh => walksS (t := t) (ep := ep) hw hl hz hf hh ne1) ⟨⟨_, Heap.get?_push_size _ rfl, rfl, rfl⟩, ⟨o, Heap.get?_push_of_some _ ho, hd, hf⟩⟩ (by simp) hfq hfp (Nat.le_refl _) fun b o e => Heap.get?_push_of_some _ e
end
end SS
namespace SS
open PySem PySem.Spec PyProof.Rows
section
variable {prog : Program} {w : World} {A : Around} {E : Value → Shared → Prop} {s : Shared} {a : Addr} {es : Array (Int × Value)}
theorem collect_set {Q : List Value → Shared → Prop} (hh : A.handled = none) (hS : SetX prog w s.heap a es)
    (hQ : ∀ (h' : Heap) (d : Drawn) (tk : Nat) (zs : List Value), zs.Perm (es.toList.map (·.2)) → s.heap.objs.size ≤ h'.objs.size → (∀ b o, s.heap.get? b = some o → h'.get? b = some o) → Q zs { s with heap := h', drawn := d, toks := tk }) :
    wpAny (model prog w) A (collect (.ref a)) Q E s := by
  have alt : a < s.heap.objs.size := by obtain ⟨o, _, _, ho, _⟩ := hS; exact Heap.lt_size ho
  have hz : es.size < scanBound := by obtain ⟨_, _, _, _, _, _, _, _, hb, _⟩ := hS; exact hb
  unfold collect
  refine wpAny_bind (wpAny_runValue (codeAny_builtin PySem.F.entry_proto_collect ?_))
  rw [Around.under_plainId PySem.F.plain_proto_collect _]
  show wpAny _ A.in1 (newList [] >>= fun l => again (.builtin "list.__iadd__" ⟨[l, .ref a], []⟩)) _ _ s
  refine wpAny_bind (wpAny_newObj_type ?_)
  refine wpAny_pure ⟨plainId_quiet PySem.F.plain_list_iadd _, codeAny_builtin PySem.F.entry_list_iadd ?_⟩
  rw [Around.under_plainId PySem.F.plain_list_iadd _]
  have hS1 : SetX prog w (s.heap.push { cls := .type "list", data := .seq ([] : List Value).toArray }) a es := hS.keeps fun o e => Heap.get?_push_of_some _ e
  have hT : ∀ {s' : Shared}, SetX prog w s'.heap a es → s'.TypeIs (.ref a) "set" := fun {s'} x => by obtain ⟨o, _, _, ho, hex, _⟩ := x; exact ⟨o, ho, hex.1⟩
  show wpAny _ A.in1 (Builtin.List.listExtendWith (.ref s.heap.objs.size) (.ref a) (.ref s.heap.objs.size)) _ _ _
  unfold Builtin.List.listExtendWith
  refine wpAny_bind (wpAny_typeOf (hT (s' := { s with heap := s.heap.push { cls := .type "list", data := .seq ([] : List Value).toArray } }) hS1) ?_)
  have h1 : Builtin.List.listSameRef (.ref s.heap.objs.size) (.ref a) = false := by simp [Builtin.List.listSameRef, Nat.ne_of_gt alt]
  have h2 : (Value.type "set" == Value.type "list") = false := by decide
  have h3 : (Value.type "set" == Value.type "tuple") = false := by decide
  simp only [h1, h2, h3, Bool.or_false, Bool.false_eq_true, if_false]
  refine wpAny_bind (iter_set (s := { s with heap := s.heap.push { cls := .type "list", data := .seq ([] : List Value).toArray } }) hS1 fun h2 d it zs fp St hz' W st0 hit hfq hfp hge k2 => ?_)
  have hS2 : SetX prog w h2 a es := hS1.keeps fun o e => k2 _ _ e
  refine wpAny_bind (wpAny_holding ?_)
  unfold Builtin.List.listLengthHint
  refine wpAny_bind (wpAny_specialOf (hT (s' := { s with heap := h2, drawn := d }) hS2) PySem.F.slot_set_len.lookup ?_)
  dsimp only
  have hsplit : splitId "set.__len__" = some ("set", "__len__") := by decide +kernel
  rw [hsplit]
  dsimp only
  refine wpAny_bind (wpAny_isInstance (hT (s' := { s with heap := h2, drawn := d }) hS2) sub_set_self ?_)
  simp only [Bool.not_true, Bool.false_eq_true, if_false]
  rw [if_pos (by decide +kernel)]
  refine wpAny_bind (wpAny_typeOf (hT (s' := { s with heap := h2, drawn := d }) hS2) ?_)
  refine wpAny_pure ?_
  rw [if_pos (by decide +kernel)]
  refine wpAny_bind (wpAny_rule ?_)
  have L0 : (s.heap.push { cls := .type "list", data := .seq ([] : List Value).toArray }).get? s.heap.objs.size = some { cls := .type "list", data := .seq ([] : List Value).toArray } := Heap.get?_push_size _ rfl
  have L1 := k2 _ _ L0
  have hSf : s.heap.objs.size ∉ fp := fun z => by
    rcases hfq _ z with e | e
    · exact absurd alt (by rw [← e]; exact Nat.lt_irrefl _)
    · rw [Heap.size_push] at e
      exact absurd e (Nat.not_succ_le_self _)
  have hge' : s.heap.objs.size < it := by rw [Heap.size_push] at hge; exact hge
  refine wpAny_bind ?_
  show wpAny _ A.in1 (updateSeq s.heap.objs.size (·.push .none) >>= fun _ => updateSeq s.heap.objs.size (·.pop)) _ _ _
  refine wpAny_bind (wpAny_updateSeq L1 rfl ?_)
  have L2 := Heap.get?_update_self (Obj.mapSeq (·.push Value.none)) L1 rfl
  refine wpAny_updateSeq L2 rfl ?_
  have L3 := Heap.get?_update_self (Obj.mapSeq (·.pop)) L2 rfl
  have oth : ∀ b o, b ≠ s.heap.objs.size → h2.get? b = some o → ((h2.update s.heap.objs.size (Obj.mapSeq (·.push Value.none))).update s.heap.objs.size (Obj.mapSeq (·.pop))).get? b = some o :=
    fun b o hb e => (Heap.get?_update_other _ _ (Ne.symm hb)).trans ((Heap.get?_update_other _ _ (Ne.symm hb)).trans e)
  have WS := (W A.in1 hh).toS
  have hn : zs.length ≤ sizeLine := by rw [hz'.length_eq, List.length_map, Array.length_toList]; exact fits_of_scanBound hz
  refine wpAny_pure ⟨plainId_quiet PySem.F.plain_extend_loop _, codeAny_extend_loopS WS hn _ hSf _ zs.length 0 _ _ _ rfl (Nat.zero_le _) ((W A.in1 hh).frame 0 _ _ st0 fun b hb o e => oth b o (fun z => hSf (z ▸ hb)) e) L3 (ItemsOf.nil _) fun s' acc' c' hm hS' hacc => ?_⟩
  show wpAny _ A (load s.heap.objs.size >>= _) _ _ s'
  refine wpAny_bind (wpAny_load hS' ?_)
  have eacc : acc'.toList = zs := by
    apply List.ext_getElem?
    intro j
    rw [Array.getElem?_toList]
    by_cases hj : j < acc'.size
    · have e1 : acc'[j]? = some (acc'[j]'hj) := Array.getElem?_eq_getElem hj
      rw [e1]
      exact (hacc.2 j _ e1).symm
    · rw [Array.getElem?_eq_none (by omega), List.getElem?_eq_none (by rw [← hacc.1]; omega)]
  obtain ⟨h', g', d', tk', os'⟩ := s'
  have eg : g' = s.gens := hm.gens
  have ed : d' = d := hm.drawn
  have eo : os' = s.os := hm.os
  subst eg; subst ed; subst eo
  refine wpAny_pure ?_
  show Q acc'.toList _
  rw [eacc]
  have kp : ∀ b o, s.heap.get? b = some o → h'.get? b = some o := fun b o e => by
    have hb : b < s.heap.objs.size := Heap.lt_size e
    refine hm.heap b o ?_ (oth b o (Nat.ne_of_lt hb) (k2 _ _ (Heap.get?_push_of_some _ e)))
    simp only [List.mem_cons, List.not_mem_nil, or_false, not_or]
    exact ⟨Nat.ne_of_lt hb, Nat.ne_of_lt (Nat.lt_trans hb hge')⟩
  exact hQ h' d' tk' zs hz' (Nat.le_of_lt (Heap.lt_size hS')) kp
theorem strs_of {l : List (Int × Value)} (h : ElemsOf (PySem.strKind prog w) l) : ∀ {zs : List Value}, zs.Perm (l.map (·.2)) → StrsAre zs (zs.map strOf) := fun {zs} hp => by
  have : ∀ v ∈ zs, ∃ t, v = Value.str (strOf v) t := fun v hv => by
    obtain ⟨e, he, rfl⟩ := List.mem_map.mp (hp.mem_iff.mp hv)
    exact elems_str h he
  clear hp
  induction zs with
  | nil => exact .nil
  | cons v r ih =>
    obtain ⟨t, e⟩ := this v (by simp)
    have r' := ih fun v' h' => this v' (by simp [h'])
    rw [List.map_cons]
    rw [e]
    exact .cons _ t r'
theorem sorted_set {Q : Value → Shared → Prop} (hh : A.handled = none) (hS : SetX prog w s.heap a es) (h64 : es.size < 64)
    (h : ∀ (h' : Heap) (d : Drawn) (tk : Nat) (l : Addr) (e : Nat) (out : List Value) (ss : List Str), s.heap.objs.size ≤ l → h'.get? l = some (seqObj "list" out.toArray e) → StrsAre out ss → ss.Perm (names es) → sortedS ss = true →
      (∀ b o, s.heap.get? b = some o → h'.get? b = some o) → Q (.ref l) { s with heap := h', drawn := d, toks := tk }) :
    wpAny (model prog w) A (call (.builtin "sorted") [.ref a]) Q E s := by
  have hel : ElemsOf (PySem.strKind prog w) es.toList := by obtain ⟨_, _, _, _, _, _, hel, _⟩ := hS; exact hel
  refine Calls.call_function_entry kind_sorted plain_sorted entry_sorted (args_sorted1 _) ?_
  unfold Builtin.«sorted»
  refine wpAny_bind (m := checkCount "sorted" 1 1 _) (wpAny_pure ?_)
  refine wpAny_bind (collect_set hh hS fun h1 d tk zs hz hsz k1 => ?_)
  have hst : StrsAre zs (zs.map strOf) := strs_of hel hz
  have hlen : zs.length < 64 := by rw [hz.length_eq, List.length_map, Array.length_toList]; exact h64
  refine wpAny_bind (wpAny_newList ?_)
  have hoL : (h1.push (seqObj "list" zs.toArray 0)).get? h1.objs.size = some (seqObj "list" zs.toArray 0) := Heap.get?_push_size _ rfl
  show wpAny _ _ _ _ _ { s with heap := h1.push (seqObj "list" zs.toArray 0), drawn := d, toks := tk }
  refine wpAny_bind (wpAny_holding (wpAny_call_entry slot_list_sort ⟨_, hoL, rfl⟩ entry_list_sort (list_sort_treeK strKind_oneLt hoL hst.keysOf (fun v₁ v₂ rest e => keyKind_strs (by rw [← e]; exact hst)) hlen fun st' a1 a2 => ⟨_, rfl, ?_⟩) (args_list_sort _)))
  obtain ⟨ss', q1, q2, q3⟩ := sorted_out_str hst a1 a2
  obtain ⟨e, he⟩ := sortedHeap_at (out := (arrOf st').map (·.2)) hoL
  refine wpAny_pure ⟨_, rfl, h _ d tk h1.objs.size e ((arrOf st').map (·.2)).toList ss' hsz (by rw [Array.toArray_toList]; exact he) q1 (q2.trans ?_) q3 fun b o q => ?_⟩
  · have := hz.map strOf
    rw [List.map_map] at this
    exact this
  · have hb := k1 b o q
    rw [sortedHeap_old (Nat.ne_of_lt (Heap.lt_size hb)) (by rw [size_push']; exact Nat.lt_succ_of_lt (Heap.lt_size hb))]
    exact Heap.get?_push_of_some _ hb
end
end SS
namespace L2
open PySem PySem.Spec PyProof.Rows
section
variable {X : Cx}
theorem strs_get {xs : List Str} {its : List Value} (r : Vals (xs.map V.str) its) : ∀ (i : Nat) (v : Value), its.toArray[i]? = some v → ∃ t : Tok, v = Value.str (xs.getD i ⟨#[]⟩) t := fun i v h => by
  have h' : its[i]? = some v := by simpa using h
  have hl := r.length
  have hi : i < its.length := (List.getElem?_eq_some_iff.mp h').1
  have hx : (xs.map V.str)[i]? = some (V.str (xs.getD i ⟨#[]⟩)) := by
    rw [List.getElem?_map, List.getD_eq_getElem?_getD]
    have : i < xs.length := by rw [← hl, List.length_map] at hi; exact hi
    rw [List.getElem?_eq_getElem this]; rfl
  obtain ⟨u, hu, ru⟩ := r.get hx
  rw [h'] at hu
  cases hu
  exact ru
def strLt (a b : Str) : Prop := a.cps.toList < b.cps.toList
theorem rising_pw : ∀ (p : Str) (l : List Str), risingS p l = true → (p :: l).Pairwise (fun a b => ¬ b.cps.toList < a.cps.toList)
  | p, [], _ => List.pairwise_singleton _ _
  | p, x :: r, h => by
    simp only [risingS, Bool.and_eq_true, Bool.not_eq_true', ltCps_eq, decide_eq_false_iff_not] at h
    have ih := rising_pw x r h.2
    refine List.pairwise_cons.mpr ⟨fun y hy => ?_, ih⟩
    rcases List.mem_cons.mp hy with e | e
    · rw [e]; exact h.1
    · have := (List.pairwise_cons.mp ih).1 y e
      exact fun z => (List.not_lt.mp this) |> fun q => absurd z (List.not_lt.mpr (List.le_trans (List.not_lt.mp h.1) q))
theorem sorted_pw {l : List Str} (h : sortedS l = true) : l.Pairwise (fun a b => ¬ b.cps.toList < a.cps.toList) := by
  cases l with
  | nil => exact .nil
  | cons x r => exact rising_pw x r h
theorem strictly {l : List Str} (h : l.Pairwise (fun a b => ¬ b.cps.toList < a.cps.toList)) (nd : l.Nodup) : l.Pairwise strLt := by
  refine (h.and nd).imp fun {a b} q => ?_
  by_cases z : a.cps.toList < b.cps.toList
  · exact z
  · have e : a.cps.toList = b.cps.toList := List.le_antisymm (List.not_lt.mp q.1) (List.not_lt.mp z)
    refine absurd ?_ q.2
    obtain ⟨⟨la⟩⟩ := a
    obtain ⟨⟨lb⟩⟩ := b
    have e' : la = lb := e
    rw [e']
def tSortSet (K : PySem.W.Frag) (ta : TA) : TE := fun σ H Q => ta σ H fun vs H1 => ∃ (a : Addr) (xs : List Str), vs = [.ref a] ∧ SqL K H1 a (xs.map V.str) ∧ xs.length < 64 ∧
  ∀ (l : Addr) (ys : List Str), H1 l = none → ys.Pairwise strLt → (∀ x, x ∈ ys ↔ x ∈ xs) → Q (.ref l) (upd H1 l (.lst (ys.map V.str)))
theorem vals_strs : ∀ {out : List Value} {ss : List Str}, StrsAre out ss → Vals (ss.map V.str) out
  | _, _, .nil => .nil
  | _, _, .cons x t h => .cons ⟨t, rfl⟩ (vals_strs h)
theorem pe_sortset {e : Expr} {ta : TA} {p1 p2 pos1 pos2 : Pos} (hms : X.mg "sorted" = none) (hmt : X.mg "set" = none) (hc : X.calm = true) (ha : PA X [e] ta) (hgs : Gl X "sorted" := by rfl) (hgt : Gl X "set" := by rfl)
    (hs : starEach [e] X.env = [(false, eval e X.env)] := by rfl) (hz : starEach [.Call (.Name "set" p2) [e] [] pos2] X.env = [(false, eval (.Call (.Name "set" p2) [e] [] pos2) X.env)] := by rfl) :
    PE X (.Call (.Name "sorted" p1) [.Call (.Name "set" p2) [e] [] pos2] [] pos1) (tSortSet X.K ta) := by
  intro pins s σ H Q I h
  refine wpAny_Call_Name_kw (ld_blt I hgs hms (show bootBuiltins "sorted" = some (.builtin "sorted") by with_unfolding_all rfl) ?_)
  refine PyProof.Rows.callWith_builtin1 ?_ hz rfl
  rw [hz]
  refine Calls.spliced_cons (wpAny_Call_Name_kw (ld_blt I hgt hmt (show bootBuiltins "set" = some (.type "set") by with_unfolding_all rfl) (PyProof.Rows.callWith_type1 (thn (ha pos2 pins s σ H _ I h) fun us s1 ⟨vs, H1, I1, r1, q1⟩ => ?_) hs rfl)))
  obtain ⟨a, xs, e, hq, h64, q⟩ := q1
  subst e
  obtain ⟨u, rfl, ru⟩ := vals1 r1
  cases ru
  obtain ⟨its, rv, pl, hzz⟩ := I1.list hq
  have hl := rv.length
  have hsz : its.toArray.size = xs.length := by rw [List.size_toArray, ← hl, List.length_map]
  refine SS.call_set (val := fun i => xs.getD i ⟨#[]⟩) (I1.ok.hd hc) pl.isList (fun i v hv => strs_get rv i v hv) (by rw [hsz, show scanBound = 4096 from rfl]; omega) fun h2 tk es hS hsz' hmem k2 => ?_
  have hszE : es.size < 64 := by omega
  have kp2 : ∀ b o, s1.heap.get? b = some o → h2.get? b = some o := fun b o e => k2 b o (Heap.lt_size e) e
  refine Calls.spliced_nil ?_
  refine SS.sorted_set (s := { s1 with heap := h2, toks := tk }) (I1.ok.hd hc) hS hszE fun h3 d tk3 l ep out ss hge hl3 hss hperm hsort k3 => ?_
  have alt : s1.heap.objs.size < h2.objs.size := by obtain ⟨o, _, _, ho, _⟩ := hS; exact Heap.lt_size ho
  have hn : H1 l = none := I1.hok.fresh (Nat.le_trans (Nat.le_of_lt alt) hge)
  have nd : ss.Nodup := hperm.nodup_iff.mpr (by obtain ⟨_, _, _, _, _, _, _, hnd, _⟩ := hS; exact hnd)
  have hmem2 : ∀ x, x ∈ ss ↔ x ∈ xs := fun x => by
    rw [hperm.mem_iff, hmem x, hsz]
    constructor
    · rintro ⟨j, hj, rfl⟩
      rw [List.getD_eq_getElem?_getD, List.getElem?_eq_getElem hj]
      exact List.getElem_mem hj
    · intro hx
      obtain ⟨j, hj, e⟩ := List.getElem_of_mem hx
      exact ⟨j, hj, by rw [List.getD_eq_getElem?_getD, List.getElem?_eq_getElem hj]; exact e⟩
  have hlen : ss.length = es.size := by rw [hperm.length_eq, List.length_map, Array.length_toList]
  have I2 : Inv X pins σ (upd H1 l (.lst (ss.map V.str))) { s1 with heap := h3, drawn := d, toks := tk3 } := by
    refine I1.call (ch := []) (g' := s1.gens) (d' := d) (t' := tk3) (h' := h3) (H' := upd H1 l (.lst (ss.map V.str))) ⟨fun b o q _ _ _ => k3 b o (kp2 b o q), fun b o q _ _ _ => ⟨o.slots, k3 b o (kp2 b o q)⟩, fun b o q n _ => ?_, fun b o q _ => ⟨o, k3 b o (kp2 b o q)⟩, fun b xs q => ?_, fun b o u q => ?_, fun b ps q => ⟨#[], ?_⟩⟩ ?_ I1.bare fun b z => absurd z (by simp)
    · rw [upd_ne (Nat.ne_of_lt (Nat.lt_of_lt_of_le (Heap.lt_size q) (Nat.le_trans (Nat.le_of_lt alt) hge)))]; exact n
    · rw [upd_ne (ne_of_none q hn)]; exact q
    · rw [upd_ne (ne_of_none q hn)]; exact q
    · rw [upd_ne (ne_of_none q hn), q]; simp
    · exact I1.hok.laid (fun b u q => k3 b u (kp2 b u q)) (Nat.le_trans (Nat.le_of_lt alt) hge) ⟨by rw [List.length_map, hlen]; exact Nat.le_of_lt (Nat.lt_of_lt_of_le hszE (by decide)), out, ep, vals_strs hss, hl3⟩
  exact ⟨.ref l, _, I2, rfl, q l ss hn (strictly (sorted_pw hsort) nd) hmem2⟩
end
end L2
namespace L2
open PySem PySem.Spec PyProof.Rows
section
variable {X : Cx}
end
end L2
namespace L2
open PySem PySem.Spec PyProof.Rows
section
variable {X : Cx}
end
section
variable {prog : Program} {w : World} {A : Around} {E : Value → Shared → Prop} {s : Shared}
theorem tuple_addW0 (l b : Addr) (items items2 : Array Value) (n n2 : Nat) (dd dd2 : Option Addr) (sl sl2 : Array (Option Value)) (hc0 : items.isEmpty = true) :
    Meets (Builtin.«tuple.__add__» ⟨[.ref l, .ref b], []⟩) (fun _ R s => s.heap.get? l = some { cls := .type "tuple", dict := dd, data := .seq items n, slots := sl } ∧ s.heap.get? b = some { cls := .type "tuple", dict := dd2, data := .seq items2 n2, slots := sl2 } ∧ R (.ok (.ret (Value.ref b))) { s with heap := s.heap, toks := s.toks }) :=
  .of_wp fun prog w A R s h => by obtain ⟨hp, g, d, tk, os⟩ := s; obtain ⟨hl, hb, h⟩ := h; have f1 := AutoSeq1.idx_int; have f2 := AutoSeq1.sub_tuple_tuple; have f3 := AutoSeq1.sub_list_list; have f4 := AutoSeq1.sub_tuple_list; have f5 := AutoSeq1.sub_list_tuple; wp_walk using wpAny_loadPart' hl, wpAny_loadPart' hb; exact ⟨_, rfl, h⟩
end
section
variable {X : Cx}
def rCatT0 (K : PySem.W.Frag) : R2 := fun x y H Q => ∃ a b ys, x = .ref a ∧ y = .ref b ∧ SqT K H a [] ∧ SqT K H b ys ∧ Q (.ref b) H
theorem op_catT0 : OpR X (binaryOp .Add) (rCatT0 X.K) := by
  intro pins s σ H x y v u Q I rx ry h
  obtain ⟨a, b, ys, rfl, rfl, ha, hb, q⟩ := h
  cases rx
  cases ry
  obtain ⟨its, r1, p1, _⟩ := I.tuple ha
  obtain ⟨its2, r2, p2, _⟩ := I.tuple hb
  cases r1
  obtain ⟨⟨cls, dd, data, sl⟩, ho, hc, n, hd⟩ := id p1
  obtain ⟨⟨cls2, dd2, data2, sl2⟩, ho2, hc2, n2, hd2⟩ := id p2
  simp only at hc hd hc2 hd2
  subst hc hd hc2 hd2
  exact concat_meets ⟨_, ho, rfl⟩ ⟨_, ho2, rfl⟩ noFill_tuple_add seq_tuple_add PySem.F.slot_tuple_add PySem.F.entry_tuple_add (PySem.F.args_tuple_add_2 _ _)
      (tuple_addW0 a b #[] its2.toArray n n2 dd dd2 sl sl2 rfl) ⟨ho, ho2, ⟨.ref b, H, I, rfl, q⟩⟩
def rCatA (K : PySem.W.Frag) : R2 := fun x y H Q => ∃ a b xs ys, x = .ref a ∧ y = .ref b ∧ SqT K H a xs ∧ SqT K H b ys ∧ xs.length + ys.length ≤ sizeLine ∧
  (xs = [] → Q (.ref b) H) ∧ (xs ≠ [] → ys = [] → Q (.ref a) H) ∧ (xs ≠ [] → ys ≠ [] → ∀ p, H p = none → Q (.ref p) (upd H p (.tup (xs ++ ys))))
theorem op_catA : OpR X (binaryOp .Add) (rCatA X.K) := by
  intro pins s σ H x y v u Q I rx ry h
  obtain ⟨a, b, xs, ys, rfl, rfl, ha, hb, hz, q0, q1, q2⟩ := h
  by_cases hx : xs = []
  · subst hx
    exact op_catT0 pins s σ H _ _ v u Q I rx ry ⟨a, b, ys, rfl, rfl, ha, hb, q0 rfl⟩
  · exact op_catT pins s σ H _ _ v u Q I rx ry ⟨a, b, xs, ys, rfl, rfl, ha, hb, hx, hz, q1 hx, q2 hx⟩
end
end L2
namespace DP
open PySem PySem.Spec PyProof.Rows
section
variable {prog : Program} {w : World} {A : Around} {E : Value → Shared → Prop} {s : Shared}
end
section
variable {prog : Program} {w : World} {A : Around} {R : Result → Shared → Prop} {I : Addr} {fp wr : List Addr} {n : Nat} {P : Nat → Value → Prop} {St : Nat → Heap → Prop}
end
end DP
namespace L2
open PySem PySem.Spec PyProof.Rows
section
variable {X : Cx}
end
end L2
namespace L2
open PySem PySem.Spec PyProof.Rows
theorem eq_gives_bool (a b : Bool) : PySem.MeetsSeq.EqGives (.bool a) (.bool b) (a == b) := by
  intro prog w A E s Q h
  exact PySem.SeqAt.EqAt.bool_bool a b prog w E Q h
theorem vals_bl : ∀ {bs : List Bool} {its : List Value}, Vals (bs.map V.bl) its → its = bs.map Value.bool
  | [], _, .nil => rfl
  | b :: r, _, .cons q t => by
    have := vals_bl t
    subst this
    cases q
    rfl
section
variable {X : Cx}
def rCount : V → List V → Hp → VK → Prop := fun x vs H Q => ∃ (l : Addr) (bs : List Bool) (b : Bool), x = .ref l ∧ vs = [.bl b] ∧ H l = some (.lst (bs.map V.bl)) ∧ Q (.int (bs.countP (· == b) : Nat)) H
theorem mt_count : MtM X "list.count" rCount := by
  intro pins s σ H x vs v us Q I rx rv h
  obtain ⟨l, bs, b, rfl, rfl, hH, q⟩ := h
  cases rx
  obtain ⟨u, rfl, ru⟩ := rv.one
  cases ru
  obtain ⟨z, its, n, r, hl, e⟩ := I.lstM hH
  have e2 := vals_bl r
  subst e2
  refine call_meets F.slot_list_count ⟨_, e, rfl⟩ F.entry_list_count (F.args_list_count_2 _ _) (PySem.MeetsSeq.list_count l (bs.map Value.bool).toArray n (.bool b) (fun y => match y with | .bool c => c == b | _ => false) (fun y hy => ?_)) ⟨e, ?_⟩
  · have hy' : y ∈ bs.map Value.bool := by simpa using hy
    obtain ⟨c, _, rfl⟩ := List.mem_map.mp hy'
    exact eq_gives_bool c b
  · have ec : ((bs.map Value.bool).toArray.toList.countP fun y => match y with | .bool c => c == b | _ => false) = bs.countP (· == b) := by
      show ((bs.map Value.bool).countP _) = _
      rw [List.countP_map]
      rfl
    rw [ec]
    exact ⟨.int _, H, I.tok _, ⟨_, rfl⟩, q⟩
def rIndex : V → List V → Hp → VK → Prop := fun x vs H Q => ∃ (l : Addr) (bs : List Bool) (b : Bool) (j : Nat), x = .ref l ∧ vs = [.bl b] ∧ H l = some (.lst (bs.map V.bl)) ∧ bs[j]? = some b ∧ (∀ m c, m < j → bs[m]? = some c → c ≠ b) ∧ Q (.int (j : Nat)) H
theorem mt_index : MtM X "list.index" rIndex := by
  intro pins s σ H x vs v us Q I rx rv h
  obtain ⟨l, bs, b, j, rfl, rfl, hH, hj, hno, q⟩ := h
  cases rx
  obtain ⟨u, rfl, ru⟩ := rv.one
  cases ru
  obtain ⟨z, its, n, r, hl, e⟩ := I.lstM hH
  have e2 := vals_bl r
  subst e2
  have hjl : j < bs.length := (List.getElem?_eq_some_iff.mp hj).1
  have hz : bs.length ≤ sizeLine := by simpa using z
  refine call_meets F.slot_list_index ⟨_, e, rfl⟩ F.entry_list_index (F.args_list_index_2 _ _) (PySem.MeetsSeq.list_index l (bs.map Value.bool).toArray n (.bool b) (fun y => match y with | .bool c => c == b | _ => false) (fun y hy => ?_) j (by simpa using hjl) ?_ ?_ fun m hm hmj => ?_) ⟨e, ?_⟩
  · have hy' : y ∈ bs.map Value.bool := by simpa using hy
    obtain ⟨c, _, rfl⟩ := List.mem_map.mp hy'
    exact eq_gives_bool c b
  · have : (sizeLine : Nat) < 2 ^ 63 - 1 := by decide
    omega
  · have := (List.getElem?_eq_some_iff.mp hj).2
    simp [this]
  · have hm' : m < bs.length := by simpa using hm
    have := hno m _ hmj (List.getElem?_eq_getElem hm')
    simpa using this
  · exact ⟨.int _, H, I.tok _, ⟨_, rfl⟩, q⟩
end
end L2
namespace PySem
open Sem (wp)
open AutoSeq1 (wpAny_loadPart')
namespace ZL
section
variable {prog : Program} {w : World} {A : Around} {E : Value → Shared → Prop} {s : Shared} {z TI TO i1 i2 l1 l2 : Addr} {xs ys : Array Value}
end
section
variable {prog : Program} {w : World} {A : Around} {E : Value → Shared → Prop} {s : Shared}
end
end ZL
end PySem
namespace L2
open PySem PySem.Spec PyProof.Rows
section
variable {X : Cx}
end
section
variable {X : Cx}
theorem Inv.manyF {pins : List (Addr × Obj)} {σ : St} {H H' : Hp} {s : Shared} {h' : Heap} {t' : Nat} (I : Inv X pins σ H s) (kp : ∀ b o, s.heap.get? b = some o → h'.get? b = some o) (hs : Same H H')
    (hnew : ∀ b o, H' b = some o → H b = some o ∨ ((∀ u, s.heap.get? b ≠ some u) ∧ ObjOk X.prog X.w H' h' b o)) : Inv X pins σ H' { s with heap := h', toks := t' } := by
  refine I.un (h' := h') (t' := t') ⟨fun b o q _ _ _ => kp b o q, fun b o q _ _ _ => ⟨o.slots, kp b o q⟩, fun b o q n _ => ?_, fun b o q _ => ⟨o, kp b o q⟩, fun b xs q => hs _ _ q, fun b o u q => hs _ _ q, fun b ps q => ⟨#[], by rw [hs _ _ q]; simp⟩⟩ fun b o q => ?_
  · cases e : H' b with
    | none => rfl
    | some u =>
      rcases hnew b u e with z | ⟨z, _⟩
      · rw [n] at z; cases z
      · exact absurd q (z _)
  · rcases hnew b o q with z | ⟨_, z⟩
    · exact (I.hok b o z).stay (fun c v _ r => kp c v r) (fun c r => hs _ _ r) fun c xs r => hs _ _ r
    · exact z
end
end L2
namespace L2
open PySem PySem.Spec PyProof.Rows
section
variable {X : Cx}
end
end L2
namespace MA
namespace Mob
variable {N : Type}
end Mob
end MA
namespace MA
end MA
namespace DP
open PySem PySem.Spec PyProof.Rows L2
inductive D where
  | non | bl (b : Bool) | int (i : Int) | str (x : Str) | tup (xs : List D) | ref (r : Nat) | fl (xs : List Int) | exc (c : Str)
inductive C where
  | lst (xs : List D) | dct (kvs : List (Key × D)) | fdc (o : Obj) (kvs : List (Key × D)) | ins (cl : Str) (fs : List (Str × D))
abbrev Ar := List C
abbrev Io := Nat → Addr
section
variable (mg : Str → Option Value)
mutual
def RV (ι : Io) (n : Nat) (H : Hp) : D → V → Prop
  | .non, v => v = .non
  | .bl b, v => v = .bl b
  | .int i, v => v = .int i
  | .str x, v => v = .str x
  | .tup ds, v => ∃ a xs, v = .ref a ∧ H a = some (.tup xs) ∧ RVs ι n H ds xs
  | .ref r, v => r < n ∧ v = .ref (ι r)
  | .fl ns, v => ∃ a o, v = .ref a ∧ H a = some (.frz o (.lst (ns.map V.int)))
  | .exc c, v => ∃ a C, v = .ref a ∧ mg c = some (.ref C) ∧ H a = some (excO a C)
def RVs (ι : Io) (n : Nat) (H : Hp) : List D → List V → Prop
  | [], xs => xs = []
  | d :: ds, xs => ∃ x r, xs = x :: r ∧ RV ι n H d x ∧ RVs ι n H ds r
end
def RK (ι : Io) (n : Nat) (H : Hp) : List (Key × D) → List (Key × V) → Prop
  | [], xs => xs = []
  | p :: ds, xs => ∃ x r, xs = (p.1, x) :: r ∧ RV mg ι n H p.2 x ∧ RK ι n H ds r
def RF (ι : Io) (n : Nat) (H : Hp) : List (Str × D) → List (Str × V) → Prop
  | [], xs => xs = []
  | p :: ds, xs => ∃ x r, xs = (p.1, x) :: r ∧ RV mg ι n H p.2 x ∧ RF ι n H ds r
def CO (ι : Io) (n : Nat) (H : Hp) (a : Addr) : C → Prop
  | .lst ds => ∃ xs, H a = some (.lst xs) ∧ RVs mg ι n H ds xs
  | .dct kvs => ∃ xs, H a = some (.dK xs) ∧ RK mg ι n H kvs xs
  | .fdc o kvs => ∃ xs, H a = some (.frz o (.dK xs)) ∧ RK mg ι n H kvs xs
  | .ins cl fs => ∃ Cc dx xs, mg cl = some (.ref Cc) ∧ H a = some (.ins Cc dx xs) ∧ RF mg ι n H fs xs
structure RA (ι : Io) (H : Hp) (A : Ar) : Prop where
  cel : ∀ r c, A[r]? = some c → CO mg ι A.length H (ι r) c
  inj : ∀ r q, r < A.length → q < A.length → ι r = ι q → r = q
end
def mutO : HO → Bool
  | .lst _ | .dK _ | .frz _ (.dK _) | .ins _ _ _ => true
  | _ => false
structure Ext (A : Ar) (ι : Io) (H : Hp) (A' : Ar) (ι' : Io) (H' : Hp) : Prop where
  len : A.length ≤ A'.length
  ag : ∀ r, r < A.length → ι' r = ι r
  im : ∀ r, r < A.length → ∃ o, H (ι r) = some o ∧ mutO o = true
  mo : ∀ b o, H b = some o → (∀ r, r < A.length → ι r ≠ b) → H' b = some o
  nw : ∀ r, A.length ≤ r → r < A'.length → H (ι' r) = none
  al : ∀ b o, H b = some o → ∃ o', H' b = some o'
theorem Ext.fix {A A' : Ar} {ι ι' : Io} {H H' : Hp} (e : Ext A ι H A' ι' H') {b : Addr} {o : HO} (hm : mutO o = false) (h : H b = some o) : H' b = some o := e.mo b o h fun r hr z => by
  obtain ⟨u, h1, h2⟩ := e.im r hr
  rw [z, h] at h1; cases h1; rw [hm] at h2; cases h2
theorem Ext.trans {A A1 A2 : Ar} {ι ι1 ι2 : Io} {H H1 H2 : Hp} (a : Ext A ι H A1 ι1 H1) (b : Ext A1 ι1 H1 A2 ι2 H2) : Ext A ι H A2 ι2 H2 where
  len := Nat.le_trans a.len b.len
  ag := fun r h => (b.ag r (Nat.lt_of_lt_of_le h a.len)).trans (a.ag r h)
  im := a.im
  mo := fun c o h hn => b.mo c o (a.mo c o h hn) fun r hr z => by
    by_cases hl : r < A.length
    · rw [a.ag r hl] at z; exact hn r hl z
    · have := a.nw r (by omega) hr
      rw [z, h] at this; cases this
  nw := fun r h1 h2 => by
    by_cases hl : r < A1.length
    · rw [b.ag r hl]; exact a.nw r h1 hl
    · have n1 := b.nw r (by omega) h2
      cases q : H (ι2 r) with
      | none => rfl
      | some o =>
        obtain ⟨o', h'⟩ := a.al _ o q
        rw [h'] at n1; cases n1
  al := fun c o h => by
    obtain ⟨o1, h1⟩ := a.al c o h
    exact b.al c o1 h1
section
variable {mg : Str → Option Value} {A A' : Ar} {ι ι' : Io} {H H' : Hp}
section
variable {n n' : Nat}
mutual
theorem RV.ag (hn : n ≤ n') (hι : ∀ r, r < n → ι' r = ι r) (hf : ∀ b o, mutO o = false → H b = some o → H' b = some o) : ∀ (d : D) (v : V), RV mg ι n H d v → RV mg ι' n' H' d v
  | .non, _, h => h
  | .bl _, _, h => h
  | .int _, _, h => h
  | .str _, _, h => h
  | .tup ds, v, h => by
    obtain ⟨a, xs, e1, e2, e3⟩ := h
    exact ⟨a, xs, e1, hf _ _ rfl e2, RVs.ag hn hι hf ds xs e3⟩
  | .ref r, v, h => ⟨Nat.lt_of_lt_of_le h.1 hn, by rw [hι r h.1]; exact h.2⟩
  | .fl ns, v, h => by
    obtain ⟨a, o, e1, e2⟩ := h
    exact ⟨a, o, e1, hf _ _ rfl e2⟩
  | .exc c, v, h => by
    obtain ⟨a, C, e1, e2, e3⟩ := h
    exact ⟨a, C, e1, e2, hf _ _ rfl e3⟩
theorem RVs.ag (hn : n ≤ n') (hι : ∀ r, r < n → ι' r = ι r) (hf : ∀ b o, mutO o = false → H b = some o → H' b = some o) : ∀ (ds : List D) (vs : List V), RVs mg ι n H ds vs → RVs mg ι' n' H' ds vs
  | [], _, h => h
  | d :: ds, vs, h => by
    obtain ⟨x, r, e1, e2, e3⟩ := h
    exact ⟨x, r, e1, RV.ag hn hι hf d x e2, RVs.ag hn hι hf ds r e3⟩
end
theorem RK.ag (hn : n ≤ n') (hι : ∀ r, r < n → ι' r = ι r) (hf : ∀ b o, mutO o = false → H b = some o → H' b = some o) : ∀ (ds : List (Key × D)) (vs : List (Key × V)), RK mg ι n H ds vs → RK mg ι' n' H' ds vs
  | [], _, h => h
  | d :: ds, vs, h => by
    obtain ⟨x, r, e1, e2, e3⟩ := h
    exact ⟨x, r, e1, RV.ag hn hι hf _ x e2, RK.ag hn hι hf ds r e3⟩
theorem RF.ag (hn : n ≤ n') (hι : ∀ r, r < n → ι' r = ι r) (hf : ∀ b o, mutO o = false → H b = some o → H' b = some o) : ∀ (ds : List (Str × D)) (vs : List (Str × V)), RF mg ι n H ds vs → RF mg ι' n' H' ds vs
  | [], _, h => h
  | d :: ds, vs, h => by
    obtain ⟨x, r, e1, e2, e3⟩ := h
    exact ⟨x, r, e1, RV.ag hn hι hf _ x e2, RF.ag hn hι hf ds r e3⟩
theorem CO.ag {a : Addr} (hn : n ≤ n') (hι : ∀ r, r < n → ι' r = ι r) (hf : ∀ b o, mutO o = false → H b = some o → H' b = some o) (ha : ∀ o, H a = some o → H' a = some o) : ∀ (c : C), CO mg ι n H a c → CO mg ι' n' H' a c
  | .lst ds, h => by
    obtain ⟨xs, e1, e2⟩ := h
    exact ⟨xs, ha _ e1, RVs.ag hn hι hf ds xs e2⟩
  | .dct ds, h => by
    obtain ⟨xs, e1, e2⟩ := h
    exact ⟨xs, ha _ e1, RK.ag hn hι hf ds xs e2⟩
  | .fdc o ds, h => by
    obtain ⟨xs, e1, e2⟩ := h
    exact ⟨xs, ha _ e1, RK.ag hn hι hf ds xs e2⟩
  | .ins cl ds, h => by
    obtain ⟨Cc, dx, xs, e0, e1, e2⟩ := h
    exact ⟨Cc, dx, xs, e0, ha _ e1, RF.ag hn hι hf ds xs e2⟩
end
theorem RV.ext (e : Ext A ι H A' ι' H') (d : D) (v : V) (h : RV mg ι A.length H d v) : RV mg ι' A'.length H' d v := RV.ag e.len e.ag (fun _ _ m h => e.fix m h) d v h
theorem RVs.ext (e : Ext A ι H A' ι' H') (d : List D) (v : List V) (h : RVs mg ι A.length H d v) : RVs mg ι' A'.length H' d v := RVs.ag e.len e.ag (fun _ _ m h => e.fix m h) d v h
theorem CO.ext {a : Addr} (e : Ext A ι H A' ι' H') (ha : ∀ o, H a = some o → H' a = some o) (c : C) (h : CO mg ι A.length H a c) : CO mg ι' A'.length H' a c := CO.ag (a := a) (H := H) (H' := H') e.len e.ag (fun _ _ m h => e.fix m h) ha c h
theorem RVs.length : ∀ {ds : List D} {vs : List V} {n : Nat}, RVs mg ι n H ds vs → ds.length = vs.length
  | [], vs, _, h => by have h' : vs = [] := h; rw [h']; rfl
  | d :: ds, vs, n, h => by
    obtain ⟨x, r, rfl, _, e3⟩ := h
    simp [RVs.length e3]
theorem RVs.get : ∀ {ds : List D} {vs : List V} {n i : Nat} {d : D}, RVs mg ι n H ds vs → ds[i]? = some d → ∃ v, vs[i]? = some v ∧ RV mg ι n H d v
  | [], _, _, _, _, _, e => by simp at e
  | d :: ds, vs, n, 0, d', h, e => by
    obtain ⟨x, r, rfl, e2, _⟩ := h
    simp at e; subst e
    exact ⟨x, rfl, e2⟩
  | d :: ds, vs, n, i + 1, d', h, e => by
    obtain ⟨x, r, rfl, _, e3⟩ := h
    obtain ⟨v, h1, h2⟩ := RVs.get (i := i) e3 (by simpa using e)
    exact ⟨v, by simpa using h1, h2⟩
theorem RVs.app : ∀ {ds es : List D} {vs ws : List V} {n : Nat}, RVs mg ι n H ds vs → RVs mg ι n H es ws → RVs mg ι n H (ds ++ es) (vs ++ ws)
  | [], _, vs, _, _, h, q => by have h' : vs = [] := h; rw [h']; exact q
  | d :: ds, es, vs, ws, n, h, q => by
    obtain ⟨x, r, rfl, e2, e3⟩ := h
    exact ⟨x, r ++ ws, rfl, e2, RVs.app e3 q⟩
theorem RA.im (R : RA mg ι H A) : ∀ r, r < A.length → ∃ o, H (ι r) = some o ∧ mutO o = true := fun r h => by
  obtain ⟨c', hc'⟩ : ∃ c', A[r]? = some c' := ⟨A[r], by rw [List.getElem?_eq_getElem h]⟩
  have := R.cel r c' hc'
  cases c' with
  | lst ds => obtain ⟨xs, e1, _⟩ := this; exact ⟨_, e1, rfl⟩
  | dct ds => obtain ⟨xs, e1, _⟩ := this; exact ⟨_, e1, rfl⟩
  | fdc o ds => obtain ⟨xs, e1, _⟩ := this; exact ⟨_, e1, rfl⟩
  | ins cl ds => obtain ⟨Cc, dx, xs, _, e1, _⟩ := this; exact ⟨_, e1, rfl⟩
theorem RA.refl (R : RA mg ι H A) : Ext A ι H A ι H := ⟨Nat.le_refl _, fun _ _ => rfl, R.im, fun _ _ h _ => h, fun r h1 h2 => absurd h2 (by omega), fun _ o h => ⟨o, h⟩⟩
theorem RA.ext_fix (R : RA mg ι H A) {p : Addr} {o : HO} (hp : H p = none) : Ext A ι H A ι (upd H p o) :=
  ⟨Nat.le_refl _, fun _ _ => rfl, R.im, fun b u h _ => by rw [upd_ne (ne_of_none h hp)]; exact h, fun r h1 h2 => absurd h2 (by omega), fun b u h => ⟨u, by rw [upd_ne (ne_of_none h hp)]; exact h⟩⟩
theorem RA.ext_push (R : RA mg ι H A) {p : Addr} {o : HO} {c : C} (hp : H p = none) : Ext A ι H (A ++ [c]) (fun r => if r = A.length then p else ι r) (upd H p o) :=
  ⟨by simp, fun r h => by
    show (if r = A.length then p else ι r) = ι r
    rw [if_neg (by omega)], R.im, fun b u h _ => by rw [upd_ne (ne_of_none h hp)]; exact h, fun r h1 h2 => by
    have e : r = A.length := by simp at h2; omega
    show H (if r = A.length then p else ι r) = none
    rw [if_pos e]; exact hp, fun b u h => ⟨u, by rw [upd_ne (ne_of_none h hp)]; exact h⟩⟩
theorem RA.ext_put (R : RA mg ι H A) {r : Nat} {o : HO} {c : C} (hr : r < A.length) : Ext A ι H (A.set r c) ι (upd H (ι r) o) :=
  ⟨by simp, fun _ _ => rfl, R.im, fun b u h hn => by rw [upd_ne (fun e => hn r hr e.symm)]; exact h, fun q h1 h2 => absurd h2 (by simp; omega), fun b u h => by
    by_cases hb : b = ι r
    · subst hb; exact ⟨o, upd_same⟩
    · exact ⟨u, by rw [upd_ne hb]; exact h⟩⟩
theorem RA.fix (R : RA mg ι H A) (e : Ext A ι H A ι H') (k : ∀ b o, H b = some o → H' b = some o) : RA mg ι H' A := ⟨fun r c h => CO.ext e (fun o q => k _ o q) c (R.cel r c h), R.inj⟩
theorem RA.push {p : Addr} {o : HO} {c : C} (R : RA mg ι H A) (hp : H p = none) (hc : CO mg (fun r => if r = A.length then p else ι r) (A.length + 1) (upd H p o) p c) :
    RA mg (fun r => if r = A.length then p else ι r) (upd H p o) (A ++ [c]) ∧ Ext A ι H (A ++ [c]) (fun r => if r = A.length then p else ι r) (upd H p o) := by
  have E : Ext A ι H (A ++ [c]) (fun r => if r = A.length then p else ι r) (upd H p o) := R.ext_push hp
  have tr : ∀ r, r < A.length → ∃ u, H (ι r) = some u := fun r h => by
    obtain ⟨c', hc'⟩ : ∃ c', A[r]? = some c' := ⟨A[r], by rw [List.getElem?_eq_getElem h]⟩
    have := R.cel r c' hc'
    cases c' with
    | lst ds => obtain ⟨xs, e1, _⟩ := this; exact ⟨_, e1⟩
    | dct ds => obtain ⟨xs, e1, _⟩ := this; exact ⟨_, e1⟩
    | fdc o ds => obtain ⟨xs, e1, _⟩ := this; exact ⟨_, e1⟩
    | ins cl ds => obtain ⟨Cc, dx, xs, _, e1, _⟩ := this; exact ⟨_, e1⟩
  refine ⟨⟨fun r c' h => ?_, fun r q hr hq h => ?_⟩, E⟩
  · by_cases hr : r < A.length
    · rw [List.getElem?_append_left hr] at h
      have := CO.ext E (a := ι r) (fun o' q => by rw [upd_ne (ne_of_none q hp)]; exact q) c' (R.cel r c' h)
      show CO mg _ _ _ (if r = A.length then p else ι r) c'
      rw [if_neg (by omega)]
      exact this
    · have hl : r = A.length := by
        have := (List.getElem?_eq_some_iff.mp h).1
        simp at this; omega
      subst hl
      simp at h; subst h
      show CO mg _ _ _ (if A.length = A.length then p else ι A.length) c
      rw [if_pos rfl]
      simpa using hc
  · simp at hr hq
    have h' : (if r = A.length then p else ι r) = (if q = A.length then p else ι q) := h
    by_cases h1 : r = A.length
    · by_cases h2 : q = A.length
      · rw [h1, h2]
      · rw [if_pos h1, if_neg h2] at h'
        obtain ⟨u, hu⟩ := tr q (by omega)
        rw [← h', hp] at hu; cases hu
    · by_cases h2 : q = A.length
      · rw [if_neg h1, if_pos h2] at h'
        obtain ⟨u, hu⟩ := tr r (by omega)
        rw [h', hp] at hu; cases hu
      · rw [if_neg h1, if_neg h2] at h'
        exact R.inj r q (by omega) (by omega) h'
theorem RA.put {r : Nat} {u o : HO} {c c' : C} (R : RA mg ι H A) (hr : A[r]? = some c) (hu : H (ι r) = some u) (hm : mutO u = true) (hc : CO mg ι A.length (upd H (ι r) o) (ι r) c') :
    RA mg ι (upd H (ι r) o) (A.set r c') ∧ Ext A ι H (A.set r c') ι (upd H (ι r) o) := by
  have lr := (List.getElem?_eq_some_iff.mp hr).1
  have E : Ext A ι H (A.set r c') ι (upd H (ι r) o) := R.ext_put lr
  refine ⟨⟨fun q d h => ?_, fun a b ha hb => R.inj a b (by simpa using ha) (by simpa using hb)⟩, E⟩
  by_cases hq : q = r
  · subst hq
    rw [List.getElem?_set_self lr] at h
    cases h
    simpa using hc
  · rw [List.getElem?_set_ne (Ne.symm hq)] at h
    have lq := (List.getElem?_eq_some_iff.mp h).1
    have := CO.ext E (a := ι q) (fun o' z => by rw [upd_ne (fun e => hq (R.inj q r lq lr e))]; exact z) d (R.cel q d h)
    simpa using this
end
end DP
namespace DP
open PySem PySem.Spec PyProof.Rows L2
abbrev DSt := List (Option D)
def lk : DSt → Nat → Option D
  | [], _ => none
  | x :: _, 0 => x
  | _ :: r, i + 1 => lk r i
theorem lk_get : ∀ (τ : DSt) (i : Nat), lk τ i = (τ[i]?).join
  | [], i => by simp [lk]
  | x :: r, 0 => by simp [lk]
  | x :: r, i + 1 => by simp [lk, lk_get r i]
structure En where
  A : Ar
  ι : Io
  H : Hp
structure RS (mg : Str → Option Value) (ι : Io) (n : Nat) (H : Hp) (τ : DSt) (σ : L2.St) : Prop where
  len : τ.length = σ.length
  at' : ∀ i d, lk τ i = some d → ∃ v, σ[i]? = some (some v) ∧ RV mg ι n H d v
structure Sim (mg : Str → Option Value) (N : En) (A : Ar) (ι : Io) (τ : DSt) (σ : L2.St) (H : Hp) : Prop where
  ra : RA mg ι H A
  rs : RS mg ι A.length H τ σ
  ex : Ext N.A N.ι N.H A ι H
abbrev DK := D → Ar → Prop
abbrev DTE := DSt → Ar → DK → Prop
abbrev DTT := DSt → Ar → (Bool → Ar → Prop) → Prop
abbrev DTA := DSt → Ar → (List D → Ar → Prop) → Prop
def Kt (mg : Str → Option Value) (A : Ar) (ι : Io) (H : Hp) (R : DK) (Q : VK) : Prop := ∀ v A' ι' H' u, R v A' → Ext A ι H A' ι' H' → RA mg ι' H' A' → RV mg ι' A'.length H' v u → Q u H'
def KtB (mg : Str → Option Value) (A : Ar) (ι : Io) (H : Hp) (R : Bool → Ar → Prop) (Q : Bool → Hp → Prop) : Prop := ∀ v A' ι' H', R v A' → Ext A ι H A' ι' H' → RA mg ι' H' A' → Q v H'
def KtA (mg : Str → Option Value) (A : Ar) (ι : Io) (H : Hp) (R : List D → Ar → Prop) (Q : List V → Hp → Prop) : Prop := ∀ v A' ι' H' u, R v A' → Ext A ι H A' ι' H' → RA mg ι' H' A' → RVs mg ι' A'.length H' v u → Q u H'
def up (mg : Str → Option Value) (N : En) (m : DTE) : TE := fun σ H Q => ∃ A ι τ R, Sim mg N A ι τ σ H ∧ m τ A R ∧ Kt mg A ι H R Q
def upT (mg : Str → Option Value) (N : En) (m : DTT) : TT := fun σ H Q => ∃ A ι τ R, Sim mg N A ι τ σ H ∧ m τ A R ∧ KtB mg A ι H R Q
def upA (mg : Str → Option Value) (N : En) (m : DTA) : TA := fun σ H Q => ∃ A ι τ R, Sim mg N A ι τ σ H ∧ m τ A R ∧ KtA mg A ι H R Q
section
variable {mg : Str → Option Value} {N : En} {A A' : Ar} {ι ι' : Io} {τ : DSt} {σ : L2.St} {H H' : Hp}
theorem RS.ext (e : Ext A ι H A' ι' H') (r : RS mg ι A.length H τ σ) : RS mg ι' A'.length H' τ σ := ⟨r.len, fun i d h => by
  obtain ⟨v, h1, h2⟩ := r.at' i d h
  exact ⟨v, h1, RV.ext e d v h2⟩⟩
theorem Sim.next (S : Sim mg N A ι τ σ H) (e : Ext A ι H A' ι' H') (r : RA mg ι' H' A') : Sim mg N A' ι' τ σ H' := ⟨r, S.rs.ext e, S.ex.trans e⟩
theorem Kt.from {R : DK} {Q : VK} (k : Kt mg A ι H R Q) (e : Ext A ι H A' ι' H') : Kt mg A' ι' H' R Q := fun v A2 ι2 H2 u q e2 => k v A2 ι2 H2 u q (e.trans e2)
theorem KtB.from {R : Bool → Ar → Prop} {Q : Bool → Hp → Prop} (k : KtB mg A ι H R Q) (e : Ext A ι H A' ι' H') : KtB mg A' ι' H' R Q := fun v A2 ι2 H2 q e2 => k v A2 ι2 H2 q (e.trans e2)
theorem Kt.here {R : DK} {Q : VK} {d : D} {v : V} (k : Kt mg A ι H R Q) (r : RA mg ι H A) (q : R d A) (h : RV mg ι A.length H d v) : Q v H := k d A ι H v q r.refl r h
theorem KtB.here {R : Bool → Ar → Prop} {Q : Bool → Hp → Prop} {b : Bool} (k : KtB mg A ι H R Q) (r : RA mg ι H A) (q : R b A) : Q b H := k b A ι H q r.refl r
end
section
variable {X : Cx} {e : Expr}
theorem de_w {t t' : TE} (h : PE X e t) (w : ∀ σ H Q, t' σ H Q → t σ H Q) : PE X e t' := fun pins s σ H Q I q => h pins s σ H Q I (w σ H Q q)
theorem dt_w {t t' : TT} (h : PT X e t) (w : ∀ σ H Q, t' σ H Q → t σ H Q) : PT X e t' := fun pins s σ H Q I q => h pins s σ H Q I (w σ H Q q)
theorem dw_w {t t' : TT} (h : PW X e t) (w : ∀ σ H Q, t' σ H Q → t σ H Q) : PW X e t' := fun whole pins s σ H Q I q => h whole pins s σ H Q I (w σ H Q q)
theorem da_w {es : List Expr} {t t' : TA} (h : PA X es t) (w : ∀ σ H Q, t' σ H Q → t σ H Q) : PA X es t' := fun pos pins s σ H Q I q => h pos pins s σ H Q I (w σ H Q q)
theorem ds_w {st : Stmt} {t t' : TS} (h : PS X st t) (w : ∀ D σ H, t' D σ H → t D σ H) : PS X st t' := fun pins s σ H D I q => h pins s σ H D I (w D σ H q)
theorem dss_w {st : List Stmt} {t t' : TS} (h : PSs X st t) (w : ∀ D σ H, t' D σ H → t D σ H) : PSs X st t' := fun pins s σ H D I q => h pins s σ H D I (w D σ H q)
end
def dVar (i : Nat) : DTE := fun τ A R => match lk τ i with
  | some v => R v A
  | none => False
def dC (d : D) : DTE := fun _ A R => R d A
section
variable {X : Cx} {N : En} {pos : Pos}
theorem de_var {i : Nat} {x : Str} (hN : X.N[i]? = some x) (hv : Vis X.env.scope x) (hd : (x == ("__debug__" : Str)) = false := by decide) (hcd : (x == ("__classdict__" : Str)) = false := by decide) : PE X (.Name x pos) (up X.mg N (dVar i)) :=
  de_w (pe_var hN hv hd hcd) fun σ H Q h => by
    obtain ⟨A, ι, τ, R, S, h, k⟩ := h
    unfold dVar at h
    split at h
    · rename_i v e
      obtain ⟨u, h1, h2⟩ := S.rs.at' i v e
      exact ⟨u, h1, k.here S.ra h h2⟩
    · exact h.elim
theorem de_const {e : Expr} {d : D} {v : V} (h : PE X e (tC v)) (r : ∀ ι n H, RV X.mg ι n H d v) : PE X e (up X.mg N (dC d)) :=
  de_w h fun σ H Q h => by
    obtain ⟨A, ι, τ, R, S, h, k⟩ := h
    exact k.here S.ra h (r _ _ _)
theorem de_int {i j} : PE X (.Constant (.int i) j pos) (up X.mg N (dC (.int i))) := de_const pe_int fun _ _ _ => rfl
theorem de_bl {b j} : PE X (.Constant (.bool b) j pos) (up X.mg N (dC (.bl b))) := de_const pe_bl fun _ _ _ => rfl
theorem de_non {j} : PE X (.Constant .none j pos) (up X.mg N (dC .non)) := de_const pe_non fun _ _ _ => rfl
theorem de_str {x j} : PE X (.Constant (.str x) j pos) (up X.mg N (dC (.str x))) := de_const pe_str fun _ _ _ => rfl
theorem de_num {x : Str} {i : Int} {t : Tok} (hm : X.mg x = some (.int i t)) (hg : Gl X x := by rfl) (hd : (x == ("__debug__" : Str)) = false := by decide) : PE X (.Name x pos) (up X.mg N (dC (.int i))) :=
  de_const (pe_glob (v := .int i) hg hm ⟨_, rfl⟩ hd) fun _ _ _ => rfl
end
abbrev DOp := D → D → Ar → DK → Prop
def OpD (mg : Str → Option Value) (r : R2) (f : DOp) : Prop := ∀ x y A ι H u v R Q, RA mg ι H A → RV mg ι A.length H x u → RV mg ι A.length H y v → f x y A R → Kt mg A ι H R Q → r u v H Q
def dOp (f : DOp) (ma mb : DTE) : DTE := fun τ A R => ma τ A fun x A1 => mb τ A1 fun y A2 => f x y A2 R
section
variable {X : Cx} {N : En} {pos : Pos} {a b c : Expr} {ma mb mc : DTE} {f f' : DOp} {r r' : R2}
theorem up_op (h : OpD X.mg r f) {σ : L2.St} {H : Hp} {Q : VK} (q : up X.mg N (dOp f ma mb) σ H Q) : tOp r (up X.mg N ma) (up X.mg N mb) σ H Q := by
  obtain ⟨A, ι, τ, R, S, q, k⟩ := q
  have q : ma τ A (fun x A1 => mb τ A1 fun y A2 => f x y A2 R) := q
  refine ⟨A, ι, τ, _, S, q, fun x A1 ι1 H1 u q1 e1 r1 v1 => ?_⟩
  refine ⟨A1, ι1, τ, _, S.next e1 r1, q1, fun y A2 ι2 H2 v q2 e2 r2 v2 => ?_⟩
  exact h x y A2 ι2 H2 u v R Q r2 (RV.ext e2 x u v1) v2 q2 (k.from (e1.trans e2))
theorem de_op {op : Operator} (ho : OpR X (binaryOp op) r) (hd : OpD X.mg r f) (ha : PE X a (up X.mg N ma)) (hb : PE X b (up X.mg N mb)) : PE X (.BinOp a op b pos) (up X.mg N (dOp f ma mb)) :=
  de_w (pe_op ho ha hb) fun _ _ _ h => up_op hd h
theorem de_cmp {op : CmpOp} (ho : OpR X (compareOp op) r) (hd : OpD X.mg r f) (ha : PE X a (up X.mg N ma)) (hb : PE X b (up X.mg N mb)) (hm : behindInMarks op b = false) : PE X (.Compare a [op] [b] pos) (up X.mg N (dOp f ma mb)) :=
  de_w (pe_cmpR ho ha hb hm) fun _ _ _ h => up_op hd h
def dTest (m : DTE) : DTT := fun τ A R => m τ A fun x A1 => match x with
  | .bl k => R k A1
  | _ => False
theorem up_test {t : TE} {m : DTE} (ht : ∀ σ H Q, up X.mg N m σ H Q → t σ H Q) {σ : L2.St} {H : Hp} {Q : Bool → Hp → Prop} (q : upT X.mg N (dTest m) σ H Q) : tTest t σ H Q := by
  obtain ⟨A, ι, τ, R, S, q, k⟩ := q
  refine ht _ _ _ ⟨A, ι, τ, _, S, q, fun x A1 ι1 H1 u q1 e1 r1 v1 => ?_⟩
  cases x with
  | bl b => exact ⟨b, v1, k b A1 ι1 H1 q1 e1 r1⟩
  | _ => exact q1.elim
theorem dt_cmp {op : CmpOp} (ho : OpR X (compareOp op) r) (hd : OpD X.mg r f) (ha : PE X a (up X.mg N ma)) (hb : PE X b (up X.mg N mb)) (hm : behindInMarks op b = false) : PT X (.Compare a [op] [b] pos) (upT X.mg N (dTest (dOp f ma mb))) :=
  dt_w (pt_cmpR ho ha hb hm) fun _ _ _ h => up_test (fun _ _ _ h => up_op hd h) h
def dChain (f f' : DOp) (ma mb mc : DTE) : DTE := fun τ A R => ma τ A fun x A1 => mb τ A1 fun y A2 => f x y A2 fun z A3 => match z with
  | .bl k => cond k (mc τ A3 fun w A4 => f' y w A4 R) (R (.bl false) A3)
  | _ => False
theorem up_chain (h : OpD X.mg r f) (h' : OpD X.mg r' f') {σ : L2.St} {H : Hp} {Q : VK} (q : up X.mg N (dChain f f' ma mb mc) σ H Q) : tChain r r' (up X.mg N ma) (up X.mg N mb) (up X.mg N mc) σ H Q := by
  obtain ⟨A, ι, τ, R, S, q, k⟩ := q
  refine ⟨A, ι, τ, _, S, q, fun x A1 ι1 H1 u q1 e1 r1 v1 => ?_⟩
  refine ⟨A1, ι1, τ, _, S.next e1 r1, q1, fun y A2 ι2 H2 v q2 e2 r2 v2 => ?_⟩
  refine h x y A2 ι2 H2 u v _ _ r2 (RV.ext e2 x u v1) v2 q2 fun z A3 ι3 H3 w q3 e3 r3 v3 => ?_
  cases z with
  | bl b =>
    refine ⟨b, v3, ?_⟩
    cases b with
    | true =>
      rw [if_pos rfl]
      refine ⟨A3, ι3, τ, _, ((S.next e1 r1).next e2 r2).next e3 r3, q3, fun z A4 ι4 H4 w q4 e4 r4 v4 => ?_⟩
      exact h' y z A4 ι4 H4 v w R Q r4 (RV.ext (e3.trans e4) y v v2) v4 q4 (k.from (((e1.trans e2).trans e3).trans e4))
    | false =>
      rw [if_neg Bool.false_ne_true]
      exact (k.from ((e1.trans e2).trans e3)).here r3 q3 rfl
  | _ => exact q3.elim
theorem de_chain {op op' : CmpOp} (ho : OpR X (compareOp op) r) (ho' : OpR X (compareOp op') r') (hd : OpD X.mg r f) (hd' : OpD X.mg r' f') (ha : PE X a (up X.mg N ma)) (hb : PE X b (up X.mg N mb)) (hc : PE X c (up X.mg N mc))
    (hm : lastMarks [op, op'] [b, c] = false := by with_unfolding_all rfl) : PE X (.Compare a [op, op'] [b, c] pos) (up X.mg N (dChain f f' ma mb mc)) :=
  de_w (pe_chain ho ho' ha hb hc hm) fun _ _ _ h => up_chain hd hd' h
theorem dt_chain {op op' : CmpOp} (ho : OpR X (compareOp op) r) (ho' : OpR X (compareOp op') r') (hd : OpD X.mg r f) (hd' : OpD X.mg r' f') (ha : PE X a (up X.mg N ma)) (hb : PE X b (up X.mg N mb)) (hc : PE X c (up X.mg N mc))
    (hm : lastMarks [op, op'] [b, c] = false := by with_unfolding_all rfl) : PT X (.Compare a [op, op'] [b, c] pos) (upT X.mg N (dTest (dChain f f' ma mb mc))) :=
  dt_w (pt_chain ho ho' ha hb hc hm) fun _ _ _ h => up_test (fun _ _ _ h => up_chain hd hd' h) h
theorem dt_val {m : DTE} (h : PE X a (up X.mg N m)) (he : ∀ whole, isTrue a X.env whole = (do let v ← whole; standAt a.pos; holding [v] (truthy v)) := by intro _; rfl) : PT X a (upT X.mg N (dTest m)) :=
  dt_w (pt_val h he) fun _ _ _ q => up_test (fun _ _ _ h => h) q
def dOr (t u : DTT) : DTT := fun τ A R => t τ A fun c A1 => cond c (R true A1) (u τ A1 R)
def dNot (t : DTT) : DTT := fun τ A R => t τ A fun c A1 => R (!c) A1
variable {tA tB : DTT} {rest : List Expr}
theorem dw_or1 (ha : PT X a (upT X.mg N tA)) : PW X (.BoolOp .Or [a] pos) (upT X.mg N tA) := pw_or1 ha
theorem dw_or (ha : PT X a (upT X.mg N tA)) (hb : PW X (.BoolOp .Or (b :: rest) pos) (upT X.mg N tB)) : PW X (.BoolOp .Or (a :: b :: rest) pos) (upT X.mg N (dOr tA tB)) :=
  dw_w (pw_or ha hb) fun σ H Q q => by
    obtain ⟨A, ι, τ, R, S, q, k⟩ := q
    refine ⟨A, ι, τ, _, S, q, fun x A1 ι1 H1 q1 e1 r1 => ?_⟩
    cases x with
    | true => rw [if_pos rfl]; exact (k.from e1).here r1 q1
    | false => rw [if_neg Bool.false_ne_true]; exact ⟨A1, ι1, τ, _, S.next e1 r1, q1, k.from e1⟩
theorem dt_not (ha : PT X a (upT X.mg N tA)) : PT X (.UnaryOp .Not a pos) (upT X.mg N (dNot tA)) :=
  dt_w (pt_not ha) fun σ H Q q => by
    obtain ⟨A, ι, τ, R, S, q, k⟩ := q
    exact ⟨A, ι, τ, _, S, q, fun x A1 ι1 H1 q1 e1 r1 => (k.from e1).here r1 q1⟩
def dAndV (ma mb : DTE) : DTE := fun τ A R => ma τ A fun x A1 => match x with
  | .bl c => cond c (mb τ A1 R) (R (.bl false) A1)
  | _ => False
theorem de_one {op} (h : PE X a (up X.mg N ma)) : PE X (.BoolOp op [a] pos) (up X.mg N ma) := pe_one h
theorem de_and (ha : PE X a (up X.mg N ma)) (hb : PE X (.BoolOp .And (b :: rest) pos) (up X.mg N mb)) : PE X (.BoolOp .And (a :: b :: rest) pos) (up X.mg N (dAndV ma mb)) :=
  de_w (pe_and ha hb) fun σ H Q q => by
    obtain ⟨A, ι, τ, R, S, q, k⟩ := q
    refine ⟨A, ι, τ, _, S, q, fun x A1 ι1 H1 u q1 e1 r1 v1 => ?_⟩
    cases x with
    | bl c =>
      refine ⟨c, v1, ?_⟩
      cases c with
      | true => rw [if_pos rfl]; exact ⟨A1, ι1, τ, _, S.next e1 r1, q1, k.from e1⟩
      | false => rw [if_neg Bool.false_ne_true]; exact (k.from e1).here r1 q1 rfl
    | _ => exact q1.elim
def dIte (t : DTT) (ma mb : DTE) : DTE := fun τ A R => t τ A fun c A1 => cond c (ma τ A1 R) (mb τ A1 R)
theorem de_ite (hc : PT X c (upT X.mg N tA)) (ha : PE X a (up X.mg N ma)) (hb : PE X b (up X.mg N mb)) : PE X (.IfExp c a b pos) (up X.mg N (dIte tA ma mb)) :=
  de_w (pe_ifExp hc ha hb) fun σ H Q q => by
    obtain ⟨A, ι, τ, R, S, q, k⟩ := q
    refine ⟨A, ι, τ, _, S, q, fun x A1 ι1 H1 q1 e1 r1 => ?_⟩
    cases x with
    | true => rw [if_pos rfl]; exact ⟨A1, ι1, τ, _, S.next e1 r1, q1, k.from e1⟩
    | false => rw [if_neg Bool.false_ne_true]; exact ⟨A1, ι1, τ, _, S.next e1 r1, q1, k.from e1⟩
end
def dNil : DTA := fun _ A R => R [] A
def dCons (m : DTE) (n : DTA) : DTA := fun τ A R => m τ A fun x A1 => n τ A1 fun xs A2 => R (x :: xs) A2
def dTup (n : DTA) : DTE := fun τ A R => n τ A fun xs A1 => xs.length ≤ sizeLine ∧ R (.tup xs) A1
def dLst (n : DTA) : DTE := fun τ A R => n τ A fun xs A1 => xs.length ≤ sizeLine ∧ R (.ref A1.length) (A1 ++ [.lst xs])
section
variable {X : Cx} {N : En} {pos : Pos} {e : Expr} {es : List Expr} {m : DTE} {n : DTA}
theorem da_nil : PA X [] (upA X.mg N dNil) := da_w pa_nil fun σ H Q q => by
  obtain ⟨A, ι, τ, R, S, q, k⟩ := q
  exact k [] A ι H [] q S.ra.refl S.ra rfl
theorem da_cons (ha : PE X e (up X.mg N m)) (hr : PA X es (upA X.mg N n)) (hs : starEach (e :: es) X.env = (false, eval e X.env) :: starEach es X.env := by rfl) : PA X (e :: es) (upA X.mg N (dCons m n)) :=
  da_w (pa_cons ha hr hs) fun σ H Q q => by
    obtain ⟨A, ι, τ, R, S, q, k⟩ := q
    refine ⟨A, ι, τ, _, S, q, fun x A1 ι1 H1 u q1 e1 r1 v1 => ?_⟩
    refine ⟨A1, ι1, τ, _, S.next e1 r1, q1, fun y A2 ι2 H2 v q2 e2 r2 v2 => ?_⟩
    exact k _ A2 ι2 H2 _ q2 (e1.trans e2) r2 ⟨u, v, rfl, RV.ext e2 x u v1, v2⟩
theorem new_tup {mg : Str → Option Value} {A : Ar} {ι : Io} {H : Hp} {R : DK} {Q : VK} {ds : List D} {xs : List V} {p : Addr} (k : Kt mg A ι H R Q) (r : RA mg ι H A) (h : RVs mg ι A.length H ds xs) (q : R (.tup ds) A) (hp : H p = none) : Q (.ref p) (upd H p (.tup xs)) := by
  have E : Ext A ι H A ι (upd H p (.tup xs)) := r.ext_fix hp
  exact k _ A ι _ _ q E (r.fix E fun b o z => by rw [upd_ne (ne_of_none z hp)]; exact z) ⟨p, xs, rfl, upd_same, RVs.ext E ds xs h⟩
theorem new_lst {mg : Str → Option Value} {A : Ar} {ι : Io} {H : Hp} {R : DK} {Q : VK} {ds : List D} {xs : List V} {p : Addr} (k : Kt mg A ι H R Q) (r : RA mg ι H A) (h : RVs mg ι A.length H ds xs) (q : R (.ref A.length) (A ++ [.lst ds])) (hp : H p = none) : Q (.ref p) (upd H p (.lst xs)) := by
  have E : Ext A ι H (A ++ [.lst ds]) (fun r => if r = A.length then p else ι r) (upd H p (.lst xs)) := r.ext_push hp
  obtain ⟨r1, e1⟩ := r.push (c := .lst ds) (o := .lst xs) hp ⟨xs, upd_same, by simpa using RVs.ext E ds xs h⟩
  refine k _ _ _ _ _ q e1 r1 ⟨by simp, ?_⟩
  show V.ref p = V.ref (if A.length = A.length then p else ι A.length)
  rw [if_pos rfl]
theorem de_tup {x1} (h : PA X es (upA X.mg N n)) : PE X (.Tuple es x1 pos) (up X.mg N (dTup n)) := de_w (pe_tup h) fun σ H Q q => by
  obtain ⟨A, ι, τ, R, S, q, k⟩ := q
  refine ⟨A, ι, τ, _, S, q, fun x A1 ι1 H1 u q1 e1 r1 v1 => ?_⟩
  exact ⟨by rw [← RVs.length v1]; exact q1.1, fun p hp => new_tup (k.from e1) r1 v1 q1.2 hp⟩
theorem de_lst (h : PA X es (upA X.mg N n)) : PE X (.List es pos) (up X.mg N (dLst n)) := de_w (pe_lst h) fun σ H Q q => by
  obtain ⟨A, ι, τ, R, S, q, k⟩ := q
  refine ⟨A, ι, τ, _, S, q, fun x A1 ι1 H1 u q1 e1 r1 v1 => ?_⟩
  exact ⟨by rw [← RVs.length v1]; exact q1.1, fun p hp => new_lst (k.from e1) r1 v1 q1.2 hp⟩
end
end DP
namespace DP
open PySem PySem.Spec PyProof.Rows L2
section
variable {mg : Str → Option Value} {K : PySem.W.Frag} {A : Ar} {ι : Io} {H : Hp}
theorem RA.lst (r : RA mg ι H A) {q : Nat} {ds : List D} (h : A[q]? = some (.lst ds)) : ∃ xs, H (ι q) = some (.lst xs) ∧ RVs mg ι A.length H ds xs := r.cel q _ h
theorem RA.dct (r : RA mg ι H A) {q : Nat} {ds : List (Key × D)} (h : A[q]? = some (.dct ds)) : ∃ xs, H (ι q) = some (.dK xs) ∧ RK mg ι A.length H ds xs := r.cel q _ h
theorem RA.fdc (r : RA mg ι H A) {q : Nat} {o : Obj} {ds : List (Key × D)} (h : A[q]? = some (.fdc o ds)) : ∃ xs, H (ι q) = some (.frz o (.dK xs)) ∧ RK mg ι A.length H ds xs := r.cel q _ h
theorem RVs.ints : ∀ (ns : List Int) {n : Nat}, RVs mg ι n H (ns.map D.int) (ns.map V.int)
  | [], _ => rfl
  | i :: r, n => ⟨_, _, rfl, rfl, RVs.ints r⟩
theorem RVs.nilI {n : Nat} {ds : List D} (h : RVs mg ι n H ds []) : ds = [] := by
  cases ds with
  | nil => rfl
  | cons d r => obtain ⟨x, r, e, _⟩ := h; cases e
end
abbrev rAdd4 (K : PySem.W.Frag) : R2 := fun x y H Q => rI0 (fun i j => .int (i + j)) x y H Q ∨ (∃ i j, x = .str i ∧ y = .str j ∧ i.length + j.length ≤ sizeLine ∧ Q (.str (i ++ j)) H) ∨ rCatA K x y H Q ∨ rCat x y H Q
theorem o_add {X : Cx} : OpR X (binaryOp .Add) (rAdd4 X.K) := op_add.or (op_add_str.or (op_catA.or op_cat))
@[irreducible] def catR (r q : Nat) (A : Ar) (R : DK) : Prop := match A[r]?, A[q]? with
  | some (.lst xs), some (.lst ys) => xs.length + ys.length ≤ sizeLine ∧ R (.ref A.length) (A ++ [.lst (xs ++ ys)])
  | _, _ => False
def addD : DOp := fun x y A R => match x, y with
  | .int i, .int j => R (.int (i + j)) A
  | .str a, .str b => a.length + b.length ≤ sizeLine ∧ R (.str (a ++ b)) A
  | .tup xs, .tup ys => xs.length + ys.length ≤ sizeLine ∧ R (.tup (xs ++ ys)) A
  | .ref r, .ref q => catR r q A R
  | _, _ => False
theorem d_add {mg : Str → Option Value} {K : PySem.W.Frag} : OpD mg (rAdd4 K) addD := by
  intro x y A ι H u v R Q ra rx ry h k
  unfold addD at h
  split at h
  · cases rx; cases ry
    exact .inl ⟨_, _, rfl, rfl, k.here ra h rfl⟩
  · cases rx; cases ry
    exact .inr (.inl ⟨_, _, rfl, rfl, h.1, k.here ra h.2 rfl⟩)
  · obtain ⟨a, xs, rfl, e1, r1⟩ := rx
    obtain ⟨b, ys, rfl, e2, r2⟩ := ry
    refine .inr (.inr (.inl ⟨a, b, xs, ys, rfl, rfl, SqT.of e1, SqT.of e2, by rw [← RVs.length r1, ← RVs.length r2]; exact h.1, fun z => ?_, fun _ z => ?_, fun _ _ p hp => new_tup k ra (r1.app r2) h.2 hp⟩))
    · subst z
      obtain rfl := RVs.nilI r1
      exact k.here ra h.2 ⟨b, ys, rfl, e2, r2⟩
    · subst z
      obtain rfl := RVs.nilI r2
      exact k.here ra h.2 ⟨a, xs, rfl, e1, by rw [List.append_nil]; exact r1⟩
  · rename_i r q
    unfold catR at h
    split at h
    · rename_i xs ys e1 e2
      obtain ⟨us, h1, r1⟩ := ra.lst e1
      obtain ⟨vs, h2, r2⟩ := ra.lst e2
      obtain ⟨_, rfl⟩ := rx
      obtain ⟨_, rfl⟩ := ry
      exact .inr (.inr (.inr ⟨_, _, us, vs, rfl, rfl, h1, h2, by rw [← RVs.length r1, ← RVs.length r2]; exact h.1, fun p hp => new_lst k ra (r1.app r2) h.2 hp⟩))
    · exact h.elim
  · exact h.elim
def intD (C : Int → Int → Prop) (g : Int → Int → D) : DOp := fun x y A R => match x, y with
  | .int i, .int j => C i j ∧ R (g i j) A
  | _, _ => False
theorem d_int {mg : Str → Option Value} {C : Int → Int → Prop} {g : Int → Int → V} {g' : Int → Int → D} (hg : ∀ i j ι n H, RV mg ι n H (g' i j) (g i j)) : OpD mg (rI C g) (intD C g') := by
  intro x y A ι H u v R Q ra rx ry h k
  unfold intD at h
  split at h
  · cases rx; cases ry
    exact ⟨_, _, rfl, rfl, h.1, k.here ra h.2 (hg _ _ _ _ _)⟩
  · exact h.elim
abbrev mulD : DOp := intD CMul fun i j => .int (i * j)
abbrev modD : DOp := intD (fun _ j => 0 < j) fun i j => .int (i % j)
abbrev powD : DOp := intD CPow fun i j => .int (i ^ j.toNat)
section
variable {X : Cx} {N : En} {pos : Pos} {a b c : Expr} {ma mb mc : DTE}
theorem de_add (ha : PE X a (up X.mg N ma)) (hb : PE X b (up X.mg N mb)) : PE X (.BinOp a .Add b pos) (up X.mg N (dOp addD ma mb)) := de_op o_add d_add ha hb
theorem de_mul (ha : PE X a (up X.mg N ma)) (hb : PE X b (up X.mg N mb)) : PE X (.BinOp a .Mult b pos) (up X.mg N (dOp mulD ma mb)) := de_op op_mul (d_int fun _ _ _ _ _ => rfl) ha hb
theorem de_mod (ha : PE X a (up X.mg N ma)) (hb : PE X b (up X.mg N mb)) : PE X (.BinOp a .Mod b pos) (up X.mg N (dOp modD ma mb)) := de_op op_mod (d_int fun _ _ _ _ _ => rfl) ha hb
theorem de_pow (ha : PE X a (up X.mg N ma)) (hb : PE X b (up X.mg N mb)) : PE X (.BinOp a .Pow b pos) (up X.mg N (dOp powD ma mb)) := de_op op_pow (d_int fun _ _ _ _ _ => rfl) ha hb
def dNeg (m : DTE) : DTE := fun τ A R => m τ A fun x A1 => match x with
  | .int i => R (.int (-i)) A1
  | _ => False
theorem de_neg (ha : PE X a (up X.mg N ma)) : PE X (.UnaryOp .USub a pos) (up X.mg N (dNeg ma)) := de_w (pe_un un_neg ha) fun σ H Q q => by
  obtain ⟨A, ι, τ, R, S, q, k⟩ := q
  refine ⟨A, ι, τ, _, S, q, fun x A1 ι1 H1 u q1 e1 r1 v1 => ?_⟩
  cases x with
  | int i => cases v1; exact ⟨i, rfl, (k.from e1).here r1 q1 rfl⟩
  | _ => exact q1.elim
end
abbrev rLt2 : R2 := fun x y H Q => rI0 (fun i j => .bl (decide (i < j))) x y H Q ∨ ∃ i j, x = .str i ∧ y = .str j ∧ Q (.bl (decide (i.cps.toList < j.cps.toList))) H
abbrev rLe2 : R2 := fun x y H Q => rI0 (fun i j => .bl (decide (i ≤ j))) x y H Q ∨ ∃ i j, x = .str i ∧ y = .str j ∧ Q (.bl (!decide (j.cps.toList < i.cps.toList))) H
theorem o_lt {X : Cx} : OpR X (compareOp .Lt) rLt2 := op_lt.or op_lt_str
theorem o_le {X : Cx} : OpR X (compareOp .LtE) rLe2 := op_le.or op_le_str
def ltD : DOp := fun x y A R => match x, y with
  | .int i, .int j => R (.bl (decide (i < j))) A
  | .str a, .str b => R (.bl (decide (a.cps.toList < b.cps.toList))) A
  | _, _ => False
def leD : DOp := fun x y A R => match x, y with
  | .int i, .int j => R (.bl (decide (i ≤ j))) A
  | .str a, .str b => R (.bl (!decide (b.cps.toList < a.cps.toList))) A
  | _, _ => False
theorem d_lt {mg : Str → Option Value} : OpD mg rLt2 ltD := by
  intro x y A ι H u v R Q ra rx ry h k
  unfold ltD at h
  split at h
  · cases rx; cases ry; exact .inl ⟨_, _, rfl, rfl, k.here ra h rfl⟩
  · cases rx; cases ry; exact .inr ⟨_, _, rfl, rfl, k.here ra h rfl⟩
  · exact h.elim
theorem d_le {mg : Str → Option Value} : OpD mg rLe2 leD := by
  intro x y A ι H u v R Q ra rx ry h k
  unfold leD at h
  split at h
  · cases rx; cases ry; exact .inl ⟨_, _, rfl, rfl, k.here ra h rfl⟩
  · cases rx; cases ry; exact .inr ⟨_, _, rfl, rfl, k.here ra h rfl⟩
  · exact h.elim
def isNo : D → Bool
  | .non => true
  | _ => false
def notND : DOp := fun x y A R => match y with
  | .non => R (.bl (!isNo x)) A
  | _ => False
theorem RV.non_iff {mg : Str → Option Value} {ι : Io} {n : Nat} {H : Hp} {x : D} {u : V} (r : RV mg ι n H x u) : decide (u = .non) = isNo x := by
  cases x with
  | non => cases r; rfl
  | bl b => cases r; rfl
  | int b => cases r; rfl
  | str b => cases r; rfl
  | tup ds => obtain ⟨a, xs, rfl, _⟩ := r; rfl
  | ref q => obtain ⟨_, rfl⟩ := r; rfl
  | fl ns => obtain ⟨a, o, rfl, _⟩ := r; rfl
  | exc c => obtain ⟨a, C, rfl, _⟩ := r; rfl
theorem d_notN {mg : Str → Option Value} : OpD mg (fun x y H Q => y = .non ∧ Q (.bl (!decide (x = .non))) H) notND := by
  intro x y A ι H u v R Q ra rx ry h k
  unfold notND at h
  split at h
  · cases ry
    refine ⟨rfl, ?_⟩
    rw [rx.non_iff]
    exact k.here ra h rfl
  · exact h.elim
mutual
def toQ : D → PyData
  | .non => .none
  | .bl b => .bool b
  | .int i => .int i
  | .str x => .str x
  | .tup xs => .tuple (toQs xs)
  | .ref _ => .none
  | .fl ns => .list (ns.map .int)
  | .exc _ => .none
def toQs : List D → List PyData
  | [] => []
  | d :: r => toQ d :: toQs r
end
mutual
def pur : D → Bool
  | .tup xs => purs xs
  | .ref _ => false
  | .exc _ => false
  | _ => true
def purs : List D → Bool
  | [] => true
  | d :: r => pur d && purs r
end
def toP (A : Ar) : D → PyData
  | .ref r => match A[r]? with
    | some (.lst xs) => .list (toQs xs)
    | _ => .none
  | d => toQ d
def okP (A : Ar) : D → Bool
  | .ref r => match A[r]? with
    | some (.lst xs) => purs xs
    | _ => false
  | d => pur d
section
variable {mg : Str → Option Value} {K : PySem.W.Frag} {A : Ar} {ι : Io} {H : Hp}
theorem dp_ints : ∀ ns : List Int, DpAll K H (ns.map V.int) (ns.map PyData.int) := DpAll.ints
mutual
theorem RV.dp {n : Nat} : ∀ (d : D) (v : V), pur d = true → RV mg ι n H d v → Dp K H v (toQ d)
  | .non, _, _, h => by cases h; exact .non
  | .bl b, _, _, h => by cases h; exact .bl b
  | .int i, _, _, h => by cases h; exact .int i
  | .str x, _, _, h => by cases h; exact .str x
  | .tup ds, v, p, h => by
    obtain ⟨a, xs, rfl, e, r⟩ := h
    exact .tup (SqT.of e) (RVs.dp ds xs (by simpa [pur] using p) r)
  | .ref _, _, p, _ => by simp [pur] at p
  | .fl ns, v, _, h => by
    obtain ⟨a, o, rfl, e⟩ := h
    exact .lst (.inl (.inr ⟨o, e⟩)) (dp_ints ns)
  | .exc _, _, p, _ => by simp [pur] at p
theorem RVs.dp {n : Nat} : ∀ (ds : List D) (vs : List V), purs ds = true → RVs mg ι n H ds vs → DpAll K H vs (toQs ds)
  | [], vs, _, h => by cases (show vs = [] from h); exact .nil
  | d :: ds, vs, p, h => by
    obtain ⟨x, r, rfl, h1, h2⟩ := h
    have p' : pur d = true ∧ purs ds = true := by simpa [purs] using p
    exact .cons (RV.dp d x p'.1 h1) (RVs.dp ds r p'.2 h2)
end
theorem RA.dp (ra : RA mg ι H A) {d : D} {v : V} (p : okP A d = true) (h : RV mg ι A.length H d v) : Dp K H v (toP A d) := by
  cases d with
  | ref r =>
    obtain ⟨_, rfl⟩ := h
    unfold okP at p
    unfold toP
    simp only at p ⊢
    split at p
    · rename_i xs e
      obtain ⟨us, h1, r1⟩ := ra.lst e
      exact .lst (SqL.of h1) (RVs.dp xs us p r1)
    · cases p
  | _ => exact RV.dp _ v p h
end
@[irreducible] def dataEq (neg : Bool) (x y : D) (A : Ar) (R : DK) : Prop := okP A x = true ∧ okP A y = true ∧ (toP A x).canLay0 = true ∧ (toP A y).canLay0 = true ∧ min (toP A x).depth (toP A y).depth ≤ 64 ∧ R (.bl (if neg then !PyData.eqv (toP A x) (toP A y) else PyData.eqv (toP A x) (toP A y))) A
def eqD : DOp := fun x y A R => match x, y with
  | .int i, .int j => R (.bl (decide (i = j))) A
  | .str a, .str b => R (.bl (decide (a = b))) A
  | .bl a, .bl b => R (.bl (decide (a = b))) A
  | x, y => dataEq false x y A R
def neD : DOp := fun x y A R => match x, y with
  | .int i, .int j => R (.bl (!decide (i = j))) A
  | .str a, .str b => R (.bl (!decide (a = b))) A
  | .bl a, .bl b => R (.bl (!decide (a = b))) A
  | x, y => dataEq true x y A R
theorem o_eq {X : Cx} (hu : X.A.units + 64 < cLine) : OpR X (compareOp .Eq) (fun x y H Q => rEq x y H Q ∨ rEqD X.K x y H Q) := op_eq.or (op_eqD hu)
theorem o_ne {X : Cx} (hu : X.A.units + 64 < cLine) : OpR X (compareOp .NotEq) (fun x y H Q => rNe x y H Q ∨ rNeD X.K x y H Q) := op_ne.or (op_neD hu)
theorem d_eq {mg : Str → Option Value} {K : PySem.W.Frag} : OpD mg (fun x y H Q => rEq x y H Q ∨ rEqD K x y H Q) eqD := by
  intro x y A ι H u v R Q ra rx ry h k
  unfold eqD at h
  split at h
  · cases rx; cases ry
    rename_i i j
    refine .inl ⟨rfl, ?_⟩
    have e : decide (V.int i = V.int j) = decide (i = j) := by simp
    rw [e]
    exact k.here ra h rfl
  · cases rx; cases ry
    rename_i i j
    refine .inl ⟨rfl, ?_⟩
    have e : decide (V.str i = V.str j) = decide (i = j) := by simp
    rw [e]
    exact k.here ra h rfl
  · cases rx; cases ry
    rename_i i j
    refine .inl ⟨rfl, ?_⟩
    have e : decide (V.bl i = V.bl j) = decide (i = j) := by simp
    rw [e]
    exact k.here ra h rfl
  · unfold dataEq at h
    obtain ⟨p1, p2, c1, c2, hd, q⟩ := h
    exact .inr ⟨_, _, ra.dp p1 rx, ra.dp p2 ry, c1, c2, hd, k.here ra q rfl⟩
theorem d_ne {mg : Str → Option Value} {K : PySem.W.Frag} : OpD mg (fun x y H Q => rNe x y H Q ∨ rNeD K x y H Q) neD := by
  intro x y A ι H u v R Q ra rx ry h k
  unfold neD at h
  split at h
  · cases rx; cases ry
    rename_i i j
    refine .inl ⟨rfl, ?_⟩
    have e : decide (V.int i = V.int j) = decide (i = j) := by simp
    rw [e]
    exact k.here ra h rfl
  · cases rx; cases ry
    rename_i i j
    refine .inl ⟨rfl, ?_⟩
    have e : decide (V.str i = V.str j) = decide (i = j) := by simp
    rw [e]
    exact k.here ra h rfl
  · cases rx; cases ry
    rename_i i j
    refine .inl ⟨rfl, ?_⟩
    have e : decide (V.bl i = V.bl j) = decide (i = j) := by simp
    rw [e]
    exact k.here ra h rfl
  · unfold dataEq at h
    obtain ⟨p1, p2, c1, c2, hd, q⟩ := h
    exact .inr ⟨_, _, ra.dp p1 rx, ra.dp p2 ry, c1, c2, hd, k.here ra q rfl⟩
def keyD : D → Option Key
  | .int i => some (.inl i)
  | .str x => some (.inr x)
  | _ => none
def getK : List (Key × D) → Key → Option D
  | [], _ => none
  | p :: r, k => if p.1 = k then some p.2 else getK r k
@[irreducible] def ixR (r : Nat) (y : D) (A : Ar) (R : DK) : Prop := match A[r]? with
  | some (.lst xs) => (match y with
    | .int i => (match atI xs i with
      | some v => R v A
      | none => False)
    | _ => False)
  | some (.dct kvs) => (match keyD y with
    | some k => (match getK kvs k with
      | some v => R v A
      | none => False)
    | none => False)
  | some (.fdc _ kvs) => (match keyD y with
    | some k => (match getK kvs k with
      | some v => R v A
      | none => False)
    | none => False)
  | _ => False
def ixD : DOp := fun x y A R => match x, y with
  | .tup xs, .int i => match atI xs i with
    | some v => R v A
    | none => False
  | .str z, .int i => match atI z.cps.toList i with
    | some c => z.length ≤ sizeLine ∧ R (.str ⟨#[c]⟩) A
    | none => False
  | .fl ns, .int i => match atI ns i with
    | some c => R (.int c) A
    | none => False
  | .ref r, y => ixR r y A R
  | _, _ => False
section
variable {mg : Str → Option Value} {K : PySem.W.Frag} {A : Ar} {ι : Io} {H : Hp}
theorem RVs.atI {n : Nat} {ds : List D} {vs : List V} {i : Int} {d : D} (r : RVs mg ι n H ds vs) (h : L2.atI ds i = some d) : ∃ v, L2.atI vs i = some v ∧ RV mg ι n H d v := by
  unfold L2.atI at h ⊢
  rw [← RVs.length r]
  cases q : ixN ds.length i with
  | none => rw [q] at h; cases h
  | some j =>
    rw [q] at h
    exact RVs.get r h
theorem atI_map {α β : Type} (f : α → β) (xs : List α) (i : Int) : L2.atI (xs.map f) i = (L2.atI xs i).map f := by
  unfold L2.atI
  rw [List.length_map]
  cases ixN xs.length i with
  | none => rfl
  | some j => simp
theorem RK.get {n : Nat} : ∀ {kvs : List (Key × D)} {xs : List (Key × V)} {k : Key}, RK mg ι n H kvs xs → (∀ d, getK kvs k = some d → ∃ v, valV xs k = some v ∧ RV mg ι n H d v) ∧ (getK kvs k = none → valV xs k = none)
  | [], xs, k, h => by
    cases (show xs = [] from h)
    exact ⟨fun d e => by simp [getK] at e, fun _ => rfl⟩
  | p :: r, xs, k, h => by
    obtain ⟨x, r', rfl, h1, h2⟩ := h
    obtain ⟨g1, g2⟩ := RK.get (k := k) h2
    unfold getK
    by_cases hk : p.1 = k
    · rw [if_pos hk]
      have e : valV ((p.1, x) :: r') k = some x := by simp [valV, hk]
      rw [e]
      exact ⟨fun d z => by cases z; exact ⟨x, rfl, h1⟩, fun z => by cases z⟩
    · rw [if_neg hk]
      have e : valV ((p.1, x) :: r') k = valV r' k := by simp [valV, List.find?_cons, hk]
      rw [e]
      exact ⟨g1, g2⟩
theorem keyD_kV {n : Nat} {y : D} {v : V} {k : Key} (h : keyD y = some k) (r : RV mg ι n H y v) : v = kV k := by
  cases y with
  | int i => cases h; exact r
  | str x => cases h; exact r
  | _ => cases h
end
def rIxD : R2 := fun x y H Q => ∃ a v, x = .ref a ∧ DGet H a y (some v) ∧ Q v H
theorem ix_dct {X : Cx} (hu : X.A.units + 64 < cLine) : IxR X rIxD := by
  intro value slice pins s σ H x y v u Q I rx ry h hs
  obtain ⟨a, z, rfl, g, q⟩ := h
  cases rx
  exact tail_any (dict_typeIs I g) PySem.F.slot_dict_getitem.lookup (d_getItem (by omega) I g ry fun w' s3 I3 rw' => ⟨z, H, I3, rw', q⟩) hs
abbrev rIx4 (K : PySem.W.Frag) : R2 := fun x y H Q => rIx K x y H Q ∨ rIxD x y H Q
theorem i_x {X : Cx} (hu : X.A.units + 64 < cLine) : IxR X (rIx4 X.K) := ix_seq.or (ix_dct hu)
theorem d_ix {mg : Str → Option Value} {K : PySem.W.Frag} : OpD mg (rIx4 K) ixD := by
  intro x y A ι H u v R Q ra rx ry h k
  unfold ixD at h
  split at h
  · obtain ⟨a, xs, rfl, e1, r1⟩ := rx
    cases ry
    split at h
    · rename_i d e
      obtain ⟨z, hz, rz⟩ := r1.atI e
      exact .inl (.inr (.inl ⟨a, xs, _, z, rfl, rfl, SqT.of e1, hz, k.here ra h rz⟩))
    · exact h.elim
  · cases rx; cases ry
    split at h
    · rename_i d e
      exact .inl (.inr (.inr ⟨_, _, _, rfl, rfl, h.1, e, k.here ra h.2 rfl⟩))
    · exact h.elim
  · obtain ⟨a, o, rfl, e1⟩ := rx
    cases ry
    split at h
    · rename_i d e
      exact .inl (.inl ⟨a, _, _, _, rfl, rfl, .inl (.inr ⟨o, e1⟩), by rw [atI_map, e]; rfl, k.here ra h rfl⟩)
    · exact h.elim
  · obtain ⟨_, rfl⟩ := rx
    unfold ixR at h
    split at h
    · rename_i xs e
      obtain ⟨us, h1, r1⟩ := ra.lst e
      split at h
      · cases ry
        split at h
        · rename_i d e
          obtain ⟨z, hz, rz⟩ := r1.atI e
          exact .inl (.inl ⟨_, us, _, z, rfl, rfl, SqL.of h1, hz, k.here ra h rz⟩)
        · exact h.elim
      · exact h.elim
    · rename_i kvs e
      obtain ⟨us, h1, r1⟩ := ra.dct e
      split at h
      · rename_i ky ek
        cases keyD_kV ek ry
        split at h
        · rename_i d ed
          obtain ⟨z, hz, rz⟩ := (RK.get r1).1 d ed
          exact .inr ⟨_, z, rfl, .inl ⟨us, ky, .inl h1, rfl, hz.symm⟩, k.here ra h rz⟩
        · exact h.elim
      · exact h.elim
    · rename_i o kvs e
      obtain ⟨us, h1, r1⟩ := ra.fdc e
      split at h
      · rename_i ky ek
        cases keyD_kV ek ry
        split at h
        · rename_i d ed
          obtain ⟨z, hz, rz⟩ := (RK.get r1).1 d ed
          exact .inr ⟨_, z, rfl, .inl ⟨us, ky, .inr ⟨o, h1⟩, rfl, hz.symm⟩, k.here ra h rz⟩
        · exact h.elim
      · exact h.elim
    · exact h.elim
  · exact h.elim
theorem de_ix {X : Cx} {N : En} {pos : Pos} {a b : Expr} {ma mb : DTE} (hu : X.A.units + 64 < cLine) (ha : PE X a (up X.mg N ma)) (hb : PE X b (up X.mg N mb)) (hs : PlainIx b) : PE X (.Subscript a b pos) (up X.mg N (dOp ixD ma mb)) :=
  de_w (pe_ix (i_x hu) ha hb hs) fun _ _ _ h => up_op d_ix h
end DP
namespace DP
open PySem PySem.Spec PyProof.Rows L2
structure DEnds where
  nx : DSt → Ar → Prop
  rt : DK
  bk : DSt → Ar → Prop := fun _ _ => False
  ct : DSt → Ar → Prop := fun _ _ => False
abbrev DTS := DEnds → DSt → Ar → Prop
def KtN (mg : Str → Option Value) (A : Ar) (ι : Io) (H : Hp) (R : DSt → Ar → Prop) (Q : L2.St → Hp → Prop) : Prop := ∀ τ A' ι' σ H', R τ A' → Ext A ι H A' ι' H' → RA mg ι' H' A' → RS mg ι' A'.length H' τ σ → Q σ H'
structure KtS (mg : Str → Option Value) (A : Ar) (ι : Io) (H : Hp) (R : DEnds) (Q : Ends) : Prop where
  nx : KtN mg A ι H R.nx Q.nx
  rt : Kt mg A ι H R.rt Q.rt
  bk : KtN mg A ι H R.bk Q.bk
  ct : KtN mg A ι H R.ct Q.ct
def upS (mg : Str → Option Value) (N : En) (m : DTS) : TS := fun Q σ H => ∃ A ι τ R, Sim mg N A ι τ σ H ∧ m R τ A ∧ KtS mg A ι H R Q
section
variable {mg : Str → Option Value} {N : En} {A A' : Ar} {ι ι' : Io} {τ τ' : DSt} {σ σ' : L2.St} {H H' : Hp}
theorem KtN.from {R : DSt → Ar → Prop} {Q : L2.St → Hp → Prop} (k : KtN mg A ι H R Q) (e : Ext A ι H A' ι' H') : KtN mg A' ι' H' R Q := fun τ A2 ι2 σ H2 q e2 => k τ A2 ι2 σ H2 q (e.trans e2)
theorem KtS.from {R : DEnds} {Q : Ends} (k : KtS mg A ι H R Q) (e : Ext A ι H A' ι' H') : KtS mg A' ι' H' R Q := ⟨k.nx.from e, k.rt.from e, k.bk.from e, k.ct.from e⟩
theorem KtN.here {R : DSt → Ar → Prop} {Q : L2.St → Hp → Prop} (k : KtN mg A ι H R Q) (S : Sim mg N A ι τ σ H) (q : R τ A) : Q σ H := k τ A ι σ H q S.ra.refl S.ra S.rs
theorem Sim.to (S : Sim mg N A ι τ σ H) (e : Ext A ι H A' ι' H') (r : RA mg ι' H' A') (s : RS mg ι' A'.length H' τ' σ') : Sim mg N A' ι' τ' σ' H' := ⟨r, s, S.ex.trans e⟩
theorem lk_set_self : ∀ (τ : DSt) (i : Nat) (d : D), i < τ.length → lk (τ.set i (some d)) i = some d
  | [], i, d, h => by simp at h
  | x :: r, 0, d, _ => rfl
  | x :: r, i + 1, d, h => lk_set_self r i d (by simpa using h)
theorem lk_set_ne : ∀ (τ : DSt) (i j : Nat) (d : Option D), j ≠ i → lk (τ.set i d) j = lk τ j
  | [], i, j, d, _ => rfl
  | x :: r, 0, 0, d, h => absurd rfl h
  | x :: r, 0, j + 1, d, _ => rfl
  | x :: r, i + 1, 0, d, _ => rfl
  | x :: r, i + 1, j + 1, d, h => lk_set_ne r i j d (by omega)
theorem RS.set {n : Nat} {i : Nat} {d : D} {v : V} (r : RS mg ι n H τ σ) (h : RV mg ι n H d v) : RS mg ι n H (τ.set i (some d)) (σ.set i (some v)) := ⟨by simp [r.len], fun j e q => by
  by_cases hj : j = i
  · subst hj
    by_cases hl : j < τ.length
    · rw [lk_set_self _ _ _ hl] at q
      cases q
      refine ⟨v, ?_, h⟩
      rw [List.getElem?_set_self (by rw [← r.len]; exact hl)]
    · rw [List.set_eq_of_length_le (by omega)] at q
      rw [lk_get, List.getElem?_eq_none (by omega)] at q
      cases q
  · rw [lk_set_ne _ _ _ _ hj] at q
    obtain ⟨w, h1, h2⟩ := r.at' j e q
    exact ⟨w, by rw [List.getElem?_set_ne (Ne.symm hj)]; exact h1, h2⟩⟩
theorem Sim.set {i : Nat} {d : D} {v : V} (S : Sim mg N A ι τ σ H) (h : RV mg ι A.length H d v) : Sim mg N A ι (τ.set i (some d)) (σ.set i (some v)) H := ⟨S.ra, S.rs.set h, S.ex⟩
end
def sNext : DTS := fun R τ A => R.nx τ A
def sSeq (t u : DTS) : DTS := fun R τ A => t { R with nx := u R } τ A
def sExpr (m : DTE) : DTS := fun R τ A => m τ A fun _ A1 => R.nx τ A1
def sRet (m : DTE) : DTS := fun R τ A => m τ A R.rt
def sIf (c : DTT) (t u : DTS) : DTS := fun R τ A => c τ A fun b A1 => cond b (t R τ A1) (u R τ A1)
section
variable {X : Cx} {N : En} {pos : Pos} {st : Stmt} {rest : List Stmt} {t u : DTS} {e : Expr} {m : DTE}
theorem dss_nil : PSs X [] (upS X.mg N sNext) := dss_w pss_nil fun Q σ H q => by
  obtain ⟨A, ι, τ, R, S, q, k⟩ := q
  exact k.nx.here S q
theorem dss_cons (h1 : PS X st (upS X.mg N t)) (h2 : PSs X rest (upS X.mg N u)) : PSs X (st :: rest) (upS X.mg N (sSeq t u)) := dss_w (pss_cons h1 h2) fun Q σ H q => by
  obtain ⟨A, ι, τ, R, S, q, k⟩ := q
  exact ⟨A, ι, τ, _, S, q, ⟨fun τ1 A1 ι1 σ1 H1 q1 e1 r1 s1 => ⟨A1, ι1, τ1, R, S.to e1 r1 s1, q1, k.from e1⟩, k.rt, k.bk, k.ct⟩⟩
theorem dss_one (h1 : PS X st (upS X.mg N t)) : PSs X [st] (upS X.mg N t) := pss_one h1
theorem ds_expr (he : PE X e (up X.mg N m)) (hs : swapsWith e none pos.line X.env = pure false := by rfl) : PS X (.Expr e pos) (upS X.mg N (sExpr m)) := ds_w (ps_expr he hs) fun Q σ H q => by
  obtain ⟨A, ι, τ, R, S, q, k⟩ := q
  exact ⟨A, ι, τ, _, S, q, fun v A1 ι1 H1 u q1 e1 r1 v1 => (k.nx.from e1).here (S.next e1 r1) q1⟩
theorem ds_ret (he : PE X e (up X.mg N m)) : PS X (.Return (some e) pos) (upS X.mg N (sRet m)) := ds_w (ps_ret he) fun Q σ H q => by
  obtain ⟨A, ι, τ, R, S, q, k⟩ := q
  exact ⟨A, ι, τ, _, S, q, k.rt⟩
theorem ds_if {c : Expr} {a b : List Stmt} {tc : DTT} (hc : PT X c (upT X.mg N tc)) (ha : PSs X a (upS X.mg N t)) (hb : PSs X b (upS X.mg N u)) : PS X (.If c a b pos) (upS X.mg N (sIf tc t u)) := ds_w (ps_if hc ha hb) fun Q σ H q => by
  obtain ⟨A, ι, τ, R, S, q, k⟩ := q
  refine ⟨A, ι, τ, _, S, q, fun x A1 ι1 H1 q1 e1 r1 => ?_⟩
  cases x with
  | true => rw [if_pos rfl]; exact ⟨A1, ι1, τ, R, S.next e1 r1, q1, k.from e1⟩
  | false => rw [if_neg Bool.false_ne_true]; exact ⟨A1, ι1, τ, R, S.next e1 r1, q1, k.from e1⟩
end
abbrev DTG := D → DSt → Ar → (DSt → Ar → Prop) → Prop
abbrev DTGs := List D → DSt → Ar → (DSt → Ar → Prop) → Prop
def upG (mg : Str → Option Value) (N : En) (g : DTG) : TG := fun v σ H Q => ∃ A ι τ d R, Sim mg N A ι τ σ H ∧ RV mg ι A.length H d v ∧ g d τ A R ∧ KtN mg A ι H R Q
def upGs (mg : Str → Option Value) (N : En) (g : DTGs) : TGs := fun vs σ H Q => ∃ A ι τ ds R, Sim mg N A ι τ σ H ∧ RVs mg ι A.length H ds vs ∧ g ds τ A R ∧ KtN mg A ι H R Q
def gN (i : Nat) : DTG := fun d τ A R => R (τ.set i (some d)) A
def gs0 : DTGs := fun ds τ A R => match ds with
  | [] => R τ A
  | _ => False
def gsC (g : DTG) (h : DTGs) : DTGs := fun ds τ A R => match ds with
  | d :: r => g d τ A fun τ1 A1 => h r τ1 A1 R
  | [] => False
def gT (n : Nat) (g : DTGs) : DTG := fun d τ A R => match d with
  | .tup ds => ds.length = n ∧ g ds τ A R
  | _ => False
def sAsg (m : DTE) (g : DTG) : DTS := fun R τ A => m τ A fun v A1 => g v τ A1 R.nx
section
variable {X : Cx} {N : En} {pos : Pos} {e tg : Expr} {es : List Expr} {m : DTE} {g : DTG} {gs : DTGs}
theorem dg_w {t t' : TG} (h : PG X tg t) (w : ∀ v σ H Q, t' v σ H Q → t v σ H Q) : PG X tg t' := fun pins s σ H v u Q I r q => h pins s σ H v u Q I r (w v σ H Q q)
theorem dgs_w {t t' : TGs} (h : PGs X es t) (w : ∀ v σ H Q, t' v σ H Q → t v σ H Q) : PGs X es t' := fun pins s σ H v u Q I r q => h pins s σ H v u Q I r (w v σ H Q q)
theorem dg_name {i : Nat} {x : Str} (hN : X.N.Nodup) (hi : X.N[i]? = some x) (hx : Loc X.env.scope x) (hf : X.fn x = true ∨ X.env.scope.names.lookup x = some .local := by first | exact .inl rfl | exact .inr rfl | assumption) : PG X (.Name x pos) (upG X.mg N (gN i)) :=
  dg_w (pg_name hN hi hx hf) fun v σ H Q q => by
    obtain ⟨A, ι, τ, d, R, S, r, q, k⟩ := q
    exact k.here (S.set r) q
theorem dgs_nil : PGs X [] (upGs X.mg N gs0) := dgs_w pgs_nil fun v σ H Q q => by
  obtain ⟨A, ι, τ, ds, R, S, r, q, k⟩ := q
  unfold gs0 at q
  split at q
  · exact ⟨r, k.here S q⟩
  · exact q.elim
theorem dgs_cons (h1 : PG X e (upG X.mg N g)) (h2 : PGs X es (upGs X.mg N gs)) (hs : (assignEach (e :: es) X.env).map (·.2) = assign e X.env :: (assignEach es X.env).map (·.2) := by rfl) : PGs X (e :: es) (upGs X.mg N (gsC g gs)) :=
  dgs_w (pgs_cons h1 h2 hs) fun v σ H Q q => by
    obtain ⟨A, ι, τ, ds, R, S, r, q, k⟩ := q
    cases ds with
    | nil => exact q.elim
    | cons d ds =>
      obtain ⟨x, xs, rfl, r1, r2⟩ := r
      refine ⟨x, xs, rfl, A, ι, τ, d, _, S, r1, q, fun τ1 A1 ι1 σ1 H1 q1 e1 a1 s1 => ?_⟩
      exact ⟨A1, ι1, τ1, ds, R, S.to e1 a1 s1, RVs.ext e1 ds xs r2, q1, k.from e1⟩
theorem dg_tup {k n : Nat} (hc : X.calm = true) (h : PGs X es (upGs X.mg N gs)) (hn : (assignEach es X.env).length = n := by rfl) (hst : (assignEach es X.env).findIdx? (·.1) = none := by rfl) : PG X (.Tuple es k pos) (upG X.mg N (gT n gs)) :=
  dg_w (pg_tup hc h hn hst) fun v σ H Q q => by
    obtain ⟨A, ι, τ, d, R, S, r, q, k⟩ := q
    cases d with
    | tup ds =>
      obtain ⟨a, xs, rfl, h1, h2⟩ := r
      exact ⟨a, xs, rfl, SqT.of h1, by rw [← RVs.length h2]; exact q.1, A, ι, τ, ds, R, S, h2, q.2, k⟩
    | _ => exact q.elim
theorem up_asg {te : TE} {σ : L2.St} {H : Hp} {Q : Ends} (he : ∀ σ H Q, up X.mg N m σ H Q → te σ H Q) (q : upS X.mg N (sAsg m g) Q σ H) : tAsg te (upG X.mg N g) Q σ H := by
  obtain ⟨A, ι, τ, R, S, q, k⟩ := q
  exact he _ _ _ ⟨A, ι, τ, _, S, q, fun v A1 ι1 H1 u q1 e1 r1 v1 => ⟨A1, ι1, τ, v, _, S.next e1 r1, v1, q1, k.nx.from e1⟩⟩
theorem ds_asg (he : PE X e (up X.mg N m)) (hg : PG X tg (upG X.mg N g)) (hs : swapsWithSole [tg] e pos.line X.env = pure false := by rfl) (hw : swappedStores [tg] e X.env = pure none := by rfl)
    (h1 : (assignEach [tg] X.env).map (·.2) = [assign tg X.env] := by rfl) : PS X (.Assign [tg] e pos) (upS X.mg N (sAsg m g)) := ds_w (ps_asg he hg hs hw h1) fun _ _ _ q => up_asg (fun _ _ _ h => h) q
def sSet (i : Nat) (m : DTE) : DTS := fun R τ A => m τ A fun v A1 => R.nx (τ.set i (some v)) A1
theorem ds_set {i : Nat} {x : Str} {pos' : Pos} (hN : X.N.Nodup) (hi : X.N[i]? = some x) (hx : Loc X.env.scope x) (he : PE X e (up X.mg N m)) (hs : swapsWith e (some (.Name x pos')) pos.line X.env = pure false := by rfl) (hf : X.fn x = true ∨ X.env.scope.names.lookup x = some .local := by first | exact .inl rfl | exact .inr rfl | assumption) :
    PS X (.Assign [.Name x pos'] e pos) (upS X.mg N (sSet i m)) := ds_w (ps_set hN hi hx he hs hf) fun Q σ H q => by
  obtain ⟨A, ι, τ, R, S, q, k⟩ := q
  exact ⟨A, ι, τ, _, S, q, fun v A1 ι1 H1 u q1 e1 r1 v1 => (k.nx.from e1).here ((S.next e1 r1).set v1) q1⟩
end
abbrev DX := Str → Ar → Prop
abbrev Ct := List D → Ar → DK → DX → Prop
def KtX (mg : Str → Option Value) (A : Ar) (ι : Io) (H : Hp) (R : DX) (E : XK) : Prop := ∀ c A' ι' H' C, R c A' → mg c = some (.ref C) → Ext A ι H A' ι' H' → RA mg ι' H' A' → E (.ref C) none H'
def spOf (mg : Str → Option Value) (n : Nat) (S : Ct) : Sp := fun vs H Q E => ∃ A ι ds R RE, ds.length = n ∧ RA mg ι H A ∧ RVs mg ι A.length H ds vs ∧ S ds A R RE ∧ Kt mg A ι H R Q ∧ KtX mg A ι H RE E
def EL (mg : Str → Option Value) (N : En) (R : DX) : XK := fun C _ H' => ∃ c A' ι', (∃ a, C = .ref a ∧ mg c = some (.ref a)) ∧ Ext N.A N.ι N.H A' ι' H' ∧ RA mg ι' H' A' ∧ R c A'
def dCall (n : Nat) (S : Ct) (RE : DX) (m : DTA) : DTE := fun τ A R => m τ A fun vs A1 => vs.length = n ∧ S vs A1 R RE
section
variable {X : Cx} {N : En} {k n : Nat} {x : Str} {ps : List Str} {S : Ct} {RE : DX} {e : Expr} {es : List Expr} {m : DTA} {p pos : Pos}
theorem de_call (F : FnX X.prog X.w X.K X.mg X.base k x ps (spOf X.mg n S)) (hr : Room k X.A) (hx : Passes (CX1 X.prog X.w) X (EL X.mg N RE)) (ha : PA X (e :: es) (upA X.mg N m)) (hg : Gl X x := by rfl) (hdb : (x == ("__debug__" : Str)) = false := by decide)
    (he : starEach (e :: es) X.env = (false, eval e X.env) :: starEach es X.env := by rfl) (hpl : (backTo pos (starEach es X.env)).any (·.1) = false := by rfl) :
    PE X (.Call (.Name x p) (e :: es) [] pos) (up X.mg N (dCall n S RE m)) := de_w (pe_callX F hr hx ha hg hdb he hpl) fun σ H Q q => by
  obtain ⟨A, ι, τ, R, Z, q, k⟩ := q
  refine ⟨A, ι, τ, _, Z, q, fun vs A1 ι1 H1 us q1 e1 r1 v1 => ?_⟩
  show spOf X.mg n S (us ++ []) H1 Q (EL X.mg N RE)
  rw [List.append_nil]
  exact ⟨A1, ι1, vs, R, RE, q1.1, r1, v1, q1.2, k.from e1, fun c A2 ι2 H2 C q2 hc e2 r2 => ⟨c, A2, ι2, ⟨C, rfl, hc⟩, (Z.ex.trans e1).trans e2, r2, q2⟩⟩
end
def startD (n : Nat) (ds : List D) : DSt := ds.map some ++ List.replicate n none
theorem lk_start : ∀ (ds : List D) (n i : Nat) (d : D), lk (startD n ds) i = some d → ds[i]? = some d
  | [], n, i, d, h => by
    rw [lk_get] at h
    simp [startD, List.getElem?_replicate] at h
    split at h <;> simp at h
  | x :: r, n, 0, d, h => by simpa [startD, lk] using h
  | x :: r, n, i + 1, d, h => by simpa using lk_start r n i d h
theorem TopD.fnD {P : Program} {w : World} {K : PySem.W.Frag} {mg : Str → Option Value} {base : Heap} {x : Str} {st : Stmt} {Nm ps : List Str} {k n : Nat} {S : Ct} (T : TopD K mg x st ps) (Sc : FnScope Nm ps (defScope st)) (hn : ps.length = n) (hN : ps.length ≤ Nm.length)
    (hbody : ∀ (N : En) (RE : DX) (X : Cx), X.prog = P → X.w = w → X.K = K → X.mg = mg → X.base = base → X.N = Nm → X.calm = true → X.ex = [] → (∃ f cdv A outer s H E, X = cxOf (CX1 P w) P w K mg base Nm x (defScope st) f cdv A outer s H E) → Room k X.A → Raises X (EL X.mg N RE) → Passes (CX1 X.prog X.w) X (EL X.mg N RE) →
      ∀ ds A R, S ds A R RE → ds.length = n → ∃ m, PSs X (defBody st) (upS X.mg N m) ∧ m { nx := fun _ A' => R .non A', rt := R } (startD (Nm.length - n) ds) A) : FnX P w K mg base (k + 1) x ps (spOf mg n S) := by
  refine T.fnX Sc (fun vs H Q E h => ?_) fun f cdv A outer s H vs Q E hr h => ?_
  · obtain ⟨A, ι, ds, R, RE, hl, _, hv, _⟩ := h
    rw [← RVs.length hv, hl, hn]
  · obtain ⟨A0, ι0, ds, R, RE, hl, ra, hv, hS, kq, kx⟩ := h
    have hE : ∀ C a H', EL mg ⟨A0, ι0, H⟩ RE C a H' → E C none H' := fun C a H' z => by
      obtain ⟨c, A', ι', ⟨b, rfl, hc⟩, ex, r, q⟩ := z
      exact kx c A' ι' H' b q hc ex r
    obtain ⟨m, hP, hm⟩ := hbody ⟨A0, ι0, H⟩ RE (cxOf (CX1 P w) P w K mg base Nm x (defScope st) f cdv A outer s H E) rfl rfl rfl rfl rfl rfl rfl rfl ⟨_, _, _, _, _, _, _, rfl⟩ hr
      (fun pins σ H1 s1 e h' C args I mx z => raisesX pins σ H1 s1 e h' C args I mx (hE _ _ _ z))
      (fun pins σ H1 s1 e s' I z => passX pins σ H1 s1 e s' I (by
        obtain ⟨a, C, H', h1, h2, h3⟩ := z
        exact ⟨a, C, H', h1, h2, hE _ _ _ h3⟩)) ds A0 R hS hl
    have hlv := RVs.length hv
    refine ⟨_, hP, A0, ι0, _, _, ⟨ra, ⟨?_, fun i d q => ?_⟩, ra.refl⟩, hm, ⟨fun τ A' ι' σ H' q e r _ => kq _ A' ι' H' _ q e r rfl, kq, fun _ _ _ _ _ q _ _ _ => q.elim, fun _ _ _ _ _ q _ _ _ => q.elim⟩⟩
    · simp [startD, L2.start]
      omega
    · obtain ⟨v, h1, h2⟩ := RVs.get hv (lk_start ds _ i d q)
      refine ⟨v, ?_, h2⟩
      have hi := (List.getElem?_eq_some_iff.mp h1).1
      unfold L2.start
      rw [List.getElem?_append_left (by simpa using hi), List.getElem?_map, h1]
      rfl
end DP
namespace DP
open PySem PySem.Spec PyProof.Rows L2
abbrev DCb := List D → Ar → DK → Prop
def CbD (mg : Str → Option Value) (r : List V → Hp → VK → Prop) (f : DCb) : Prop := ∀ ds A ι H us R Q, RA mg ι H A → RVs mg ι A.length H ds us → f ds A R → Kt mg A ι H R Q → r us H Q
def dCb (f : DCb) (m : DTA) : DTE := fun τ A R => m τ A fun vs A1 => f vs A1 R
section
variable {X : Cx} {N : En} {e : Expr} {es : List Expr} {m : DTA} {p pos : Pos} {f : DCb} {r : List V → Hp → VK → Prop} {x : Str} {id T : String}
theorem up_cb (h : CbD X.mg r f) {σ : L2.St} {H : Hp} {Q : VK} (q : up X.mg N (dCb f m) σ H Q) : tCB r (upA X.mg N m) σ H Q := by
  obtain ⟨A, ι, τ, R, S, q, k⟩ := q
  exact ⟨A, ι, τ, _, S, q, fun vs A1 ι1 H1 us q1 e1 r1 v1 => h vs A1 ι1 H1 us R Q r1 v1 q1 (k.from e1)⟩
theorem de_cb (hc : CallR X (.builtin id) r) (hd : CbD X.mg r f) (hm : X.mg x = none) (hv : bootBuiltins x = some (.builtin id)) (ha : PA X (e :: es) (upA X.mg N m)) (hg : Gl X x := by rfl) (hn : x ≠ "__name__" := by decide) (hdb : (x == ("__debug__" : Str)) = false := by decide)
    (he : starEach (e :: es) X.env = (false, eval e X.env) :: starEach es X.env := by rfl) (hpl : (backTo pos (starEach es X.env)).any (·.1) = false := by rfl) : PE X (.Call (.Name x p) (e :: es) [] pos) (up X.mg N (dCb f m)) := de_w (pe_callB hc hg hm hv ha hn hdb he hpl) fun _ _ _ h => up_cb hd h
theorem de_cty (hc : CallR X (.type T) r) (hd : CbD X.mg r f) (hm : X.mg x = none) (hv : bootBuiltins x = some (.type T)) (ha : PA X (e :: es) (upA X.mg N m)) (hg : Gl X x := by rfl) (hn : x ≠ "__name__" := by decide) (hdb : (x == ("__debug__" : Str)) = false := by decide)
    (he : starEach (e :: es) X.env = (false, eval e X.env) :: starEach es X.env := by rfl) (hpl : (backTo pos (starEach es X.env)).any (·.1) = false := by rfl) : PE X (.Call (.Name x p) (e :: es) [] pos) (up X.mg N (dCb f m)) := de_w (pe_callTy hc hg hm hv ha hn hdb he hpl) fun _ _ _ h => up_cb hd h
end
@[irreducible] def lenR (r : Nat) (A : Ar) (R : DK) : Prop := match A[r]? with
    | some (.lst xs) => R (.int xs.length) A
    | some (.dct kvs) => R (.int kvs.length) A
    | _ => False
def lenD : DCb := fun vs A R => match vs with
  | [.tup xs] => R (.int xs.length) A
  | [.str z] => z.length ≤ sizeLine ∧ R (.int z.length) A
  | [.fl ns] => R (.int ns.length) A
  | [.ref r] => lenR r A R
  | _ => False
theorem RK.length {mg : Str → Option Value} {ι : Io} {H : Hp} : ∀ {ds : List (Key × D)} {vs : List (Key × V)} {n : Nat}, RK mg ι n H ds vs → ds.length = vs.length
  | [], vs, _, h => by have h' : vs = [] := h; rw [h']; rfl
  | d :: ds, vs, n, h => by
    obtain ⟨x, r, rfl, _, e3⟩ := h
    simp [RK.length e3]
theorem c_len {X : Cx} : CallR X (.builtin "len") (fun xs H Q => (∃ p ys, xs = [.ref p] ∧ (SqL X.K H p ys ∨ SqT X.K H p ys) ∧ Q (.int ys.length) H) ∨ (∃ z, xs = [.str z] ∧ z.length ≤ sizeLine ∧ Q (.int z.length) H) ∨ ∃ a kvs, xs = [V.ref a] ∧ H a = some (.dK kvs) ∧ Q (.int kvs.length) H) := call_len_seq.or (call_len_str.or call_lenD)
theorem d_len {mg : Str → Option Value} {K : PySem.W.Frag} : CbD mg (fun xs H Q => (∃ p ys, xs = [.ref p] ∧ (SqL K H p ys ∨ SqT K H p ys) ∧ Q (.int ys.length) H) ∨ (∃ z, xs = [.str z] ∧ z.length ≤ sizeLine ∧ Q (.int z.length) H) ∨ ∃ a kvs, xs = [V.ref a] ∧ H a = some (.dK kvs) ∧ Q (.int kvs.length) H) lenD := by
  intro ds A ι H us R Q ra rs h k
  unfold lenD at h
  split at h
  · obtain ⟨_, _, rfl, ⟨a, xs, rfl, e1, r1⟩, rfl⟩ := rs
    exact .inl ⟨a, xs, rfl, .inr (SqT.of e1), k.here ra h (by rw [RVs.length r1]; rfl)⟩
  · obtain ⟨_, _, rfl, rfl, rfl⟩ := rs
    exact .inr (.inl ⟨_, rfl, h.1, k.here ra h.2 rfl⟩)
  · obtain ⟨_, _, rfl, ⟨a, o, rfl, e1⟩, rfl⟩ := rs
    exact .inl ⟨a, _, rfl, .inl (.inl (.inr ⟨o, e1⟩)), k.here ra h (by rw [List.length_map]; rfl)⟩
  · obtain ⟨_, _, rfl, ⟨_, rfl⟩, rfl⟩ := rs
    unfold lenR at h
    split at h
    · rename_i xs e
      obtain ⟨us, h1, r1⟩ := ra.lst e
      exact .inl ⟨_, us, rfl, .inl (SqL.of h1), k.here ra h (by rw [RVs.length r1]; rfl)⟩
    · rename_i xs e
      obtain ⟨us, h1, r1⟩ := ra.dct e
      exact .inr (.inr ⟨_, us, rfl, h1, k.here ra h (by rw [RK.length r1]; rfl)⟩)
    · exact h.elim
  · exact h.elim
@[irreducible] def lstR (r : Nat) (A : Ar) (R : DK) : Prop := match A[r]? with
    | some (.lst xs) => R (.ref A.length) (A ++ [.lst xs])
    | _ => False
@[irreducible] def tupR (r : Nat) (A : Ar) (R : DK) : Prop := match A[r]? with
    | some (.lst xs) => R (.tup xs) A
    | _ => False
def tupD : DCb := fun vs A R => match vs with
  | [.tup xs] => R (.tup xs) A
  | [.ref r] => tupR r A R
  | _ => False
theorem d_tup {mg : Str → Option Value} {K : PySem.W.Frag} : CbD mg (fun xs H Q => ∃ p ys, xs = [.ref p] ∧ ((SqL K H p ys ∧ ∀ l, H l = none → Q (.ref l) (upd H l (.tup ys))) ∨ (SqT K H p ys ∧ Q (.ref p) H))) tupD := by
  intro ds A ι H us R Q ra rs h k
  unfold tupD at h
  split at h
  · obtain ⟨_, _, rfl, ⟨a, xs, rfl, e1, r1⟩, rfl⟩ := rs
    exact ⟨a, xs, rfl, .inr ⟨SqT.of e1, k.here ra h ⟨a, xs, rfl, e1, r1⟩⟩⟩
  · obtain ⟨_, _, rfl, ⟨_, rfl⟩, rfl⟩ := rs
    unfold tupR at h
    split at h
    · rename_i xs e
      obtain ⟨us, h1, r1⟩ := ra.lst e
      exact ⟨_, us, rfl, .inl ⟨SqL.of h1, fun p hp => new_tup k ra r1 h hp⟩⟩
    · exact h.elim
  · exact h.elim
def bls : List D → Option (List Bool)
  | [] => some []
  | .bl b :: r => (bls r).map (b :: ·)
  | _ :: _ => none
theorem bls_V {mg : Str → Option Value} {ι : Io} {n : Nat} {H : Hp} : ∀ {ds : List D} {us : List V} {bs : List Bool}, bls ds = some bs → RVs mg ι n H ds us → us = bs.map V.bl
  | [], us, bs, h, r => by cases h; exact r
  | d :: ds, us, bs, h, r => by
    obtain ⟨x, r', rfl, h1, h2⟩ := r
    cases d with
    | bl b =>
      cases q : bls ds with
      | none => simp [bls, q] at h
      | some l =>
        simp [bls, q] at h
        subst h
        rw [bls_V q h2]
        cases h1; rfl
    | _ => simp [bls] at h
@[irreducible] def allR (r : Nat) (A : Ar) (R : DK) : Prop := match A[r]? with
    | some (.lst xs) => (match bls xs with
      | some bs => R (.bl (bs.all id)) A
      | none => False)
    | _ => False
def allD : DCb := fun vs A R => match vs with
  | [.ref r] => allR r A R
  | _ => False
theorem d_all {mg : Str → Option Value} {K : PySem.W.Frag} : CbD mg (fun xs H Q => ∃ (p : Addr) (bs : List Bool), xs = [.ref p] ∧ SqL K H p (bs.map V.bl) ∧ Q (.bl (bs.all id)) H) allD := by
  intro ds A ι H us R Q ra rs h k
  unfold allD at h
  split at h
  · obtain ⟨_, _, rfl, ⟨_, rfl⟩, rfl⟩ := rs
    unfold allR at h
    split at h
    · rename_i xs e
      split at h
      · rename_i bs eb
        obtain ⟨us, h1, r1⟩ := ra.lst e
        exact ⟨_, bs, rfl, SqL.of (by rw [h1, bls_V eb r1]), k.here ra h rfl⟩
      · exact h.elim
    · exact h.elim
  · exact h.elim
def tyD (A : Ar) : D → Option String
  | .non => some "NoneType"
  | .bl _ => some "bool"
  | .int _ => some "int"
  | .str _ => some "str"
  | .tup _ => some "tuple"
  | .fl _ => some "list"
  | .exc _ => none
  | .ref r => match A[r]? with
    | some (.lst _) => some "list"
    | some (.dct _) => some "dict"
    | _ => none
def isT (t c : String) : Bool := t == c || (t == "bool" && c == "int")
def dIs (c : String) (m : DTE) : DTE := fun τ A R => m τ A fun x A1 => match tyD A1 x with
  | some t => R (.bl (isT t c)) A1
  | none => False
def tys : List String := ["NoneType", "bool", "int", "str", "tuple", "list", "dict"]
theorem tyD_mem {A : Ar} {d : D} {t : String} (h : tyD A d = some t) : t ∈ tys := by
  cases d with
  | ref r =>
    unfold tyD at h
    simp only at h
    split at h <;> first | (cases h; decide) | cases h
  | exc c => cases h
  | _ => cases h; decide
theorem RA.ty {mg : Str → Option Value} {K : PySem.W.Frag} {A : Ar} {ι : Io} {H : Hp} (ra : RA mg ι H A) {d : D} {v : V} {t : String} (h : tyD A d = some t) (r : RV mg ι A.length H d v) : TyR K H v (.type t) := by
  cases d with
  | non => cases h; cases r; exact .of .non
  | bl b => cases h; cases r; exact .of (.bl b)
  | int b => cases h; cases r; exact .of (.int b)
  | str b => cases h; cases r; exact .of (.str b)
  | tup ds => cases h; obtain ⟨a, xs, rfl, e, _⟩ := r; exact .of (.tup e)
  | fl ns => cases h; obtain ⟨a, o, rfl, e⟩ := r; exact .of (.frz e)
  | exc c => cases h
  | ref q =>
    obtain ⟨_, rfl⟩ := r
    unfold tyD at h
    simp only at h
    split at h
    · rename_i xs e
      cases h
      obtain ⟨us, h1, _⟩ := ra.lst e
      exact .of (.lst h1)
    · rename_i xs e
      cases h
      obtain ⟨us, h1, _⟩ := ra.dct e
      exact .of (.dK h1)
    · cases h
section
variable {X : Cx} {N : En} {e : Expr} {es : List Expr} {m : DTE} {p p2 pos : Pos} {x : Str} {c : String}
theorem de_is (hk : ∀ t ∈ tys, PySem.W.kitOne X.K (.type t) (.type c) = some (isT t c)) (hm : X.mg "isinstance" = none) (hmx : X.mg x = none) (hvx : bootBuiltins x = some (.type c)) (ha : PE X e (up X.mg N m)) (hg : Gl X "isinstance" := by rfl) (hgx : Gl X x := by rfl) (hn : x ≠ "__name__" := by decide) (hdb : (x == ("__debug__" : Str)) = false := by decide)
    (hs : starEach [e, .Name x p2] X.env = [(false, eval e X.env), (false, eval (.Name x p2) X.env)] := by rfl) :
    PE X (.Call (.Name "isinstance" p) [e, .Name x p2] [] pos) (up X.mg N (dIs c m)) := by
  have hT : PE X (.Name x p2) (tC (.ty c)) := pe_bltn hgx hmx hvx rfl hn hdb
  refine de_w (pe_callB call_isI hg hm boot_isinstance (pa_cons ha (pa_cons hT pa_nil rfl) (by rw [hs]; rfl)) (by decide) (by decide) (by rw [hs]; rfl) rfl) fun σ H Q q => ?_
  obtain ⟨A, ι, τ, R, S, q, k⟩ := q
  refine ⟨A, ι, τ, _, S, q, fun v A1 ι1 H1 u q1 e1 r1 v1 => ?_⟩
  have q1 : (match tyD A1 v with | some t => R (.bl (isT t c)) A1 | none => False) := q1
  split at q1
  · rename_i t ht
    exact ⟨u, c, .type t, isT t c, rfl, r1.ty ht v1, hk t (tyD_mem ht), (k.from e1).here r1 q1 rfl⟩
  · exact q1.elim
end
abbrev DMt := D → List D → Ar → DK → Prop
def MtD (mg : Str → Option Value) (K : PySem.W.Frag) (T : String) (r : V → List V → Hp → VK → Prop) (f : DMt) : Prop := ∀ x ds A ι H u us R Q, RA mg ι H A → RV mg ι A.length H x u → RVs mg ι A.length H ds us → f x ds A R → Kt mg A ι H R Q → r u us H Q
def isL (A : Ar) : D → Bool
  | .ref r => match A[r]? with
    | some (.lst _) => true
    | _ => false
  | _ => false
def dMt (f : DMt) (mo : DTE) (m : DTA) : DTE := fun τ A R => mo τ A fun x A1 => isL A1 x = true ∧ m τ A1 fun vs A2 => f x vs A2 R
theorem RA.isL {mg : Str → Option Value} {K : PySem.W.Frag} {A : Ar} {ι : Io} {H : Hp} (ra : RA mg ι H A) {d : D} {v : V} (h : isL A d = true) (r : RV mg ι A.length H d v) : tyV K "list" v H := by
  cases d with
  | ref q =>
    obtain ⟨_, rfl⟩ := r
    unfold DP.isL at h
    simp only at h
    split at h
    · rename_i xs e
      obtain ⟨us, h1, _⟩ := ra.lst e
      exact .inl ⟨rfl, us, SqL.of h1⟩
    · cases h
  | _ => cases h
section
variable {X : Cx} {N : En} {e o : Expr} {es : List Expr} {mo : DTE} {m : DTA} {apos cpos : Pos} {f : DMt} {r : V → List V → Hp → VK → Prop} {name : Str} {id : String}
theorem de_mt (pa : PlainAttrs "list") (slot : Slot "list" name id) (hty : typeOf (.builtin id) = pure (.type "method_descriptor")) (hm : MtR X id r) (hd : MtD X.mg X.K "list" r f) (ho : PE X o (up X.mg N mo)) (ha : PA X (e :: es) (upA X.mg N m))
    (hbase : attributeBase o name X.env (eval o X.env) = eval o X.env := by rfl)
    (hfew : ((backTo cpos (starEach (e :: es) X.env)).all (fun x => !x.1) && (backToKw cpos (keywordEach [] X.env)).all (fun x => x.1.isSome)
      && decide ((e :: es).length + ([] : List Keyword).length + (if ([] : List Keyword).isEmpty then 0 else 1) < 30)) = true := by rfl)
    (hline : (apos.endLine == cpos.line) = true := by rfl) (hs : starEach (e :: es) X.env = (false, eval e X.env) :: starEach es X.env := by rfl) (hplain : (backTo cpos (starEach es X.env)).any (·.1) = false := by rfl) :
    PE X (.Call (.Attribute o name apos) (e :: es) [] cpos) (up X.mg N (dMt f mo m)) := de_w (pe_bm pa slot hty hm ho ha hbase hfew hline hs hplain) fun σ H Q q => by
  obtain ⟨A, ι, τ, R, S, q, k⟩ := q
  refine ⟨A, ι, τ, _, S, q, fun x A1 ι1 H1 u q1 e1 r1 v1 => ?_⟩
  refine ⟨r1.isL q1.1 v1, A1, ι1, τ, _, S.next e1 r1, q1.2, fun ys A2 ι2 H2 us q2 e2 r2 v2 => ?_⟩
  exact hd x ys A2 ι2 H2 u us R Q r2 (RV.ext e2 x u v1) v2 q2 (k.from (e1.trans e2))
end
theorem put_lst {mg : Str → Option Value} {A : Ar} {ι : Io} {H : Hp} {R : DK} {Q : VK} {ds es : List D} {xs ys : List V} {q : Nat} {d : D} {v : V} (k : Kt mg A ι H R Q) (r : RA mg ι H A) (hA : A[q]? = some (.lst ds)) (hH : H (ι q) = some (.lst xs)) (h : RVs mg ι A.length H es ys)
    (hq : R d (A.set q (.lst es))) (hd : ∀ H', RV mg ι A.length H' d v) : Q v (upd H (ι q) (.lst ys)) := by
  have E : Ext A ι H (A.set q (.lst es)) ι (upd H (ι q) (.lst ys)) := r.ext_put (List.getElem?_eq_some_iff.mp hA).1
  obtain ⟨r1, e1⟩ := r.put (c' := .lst es) (o := .lst ys) hA hH rfl ⟨ys, upd_same, by simpa using RVs.ext E es ys h⟩
  exact k _ _ _ _ _ hq e1 r1 (by simpa using hd _)
@[irreducible] def appR (r : Nat) (y : D) (A : Ar) (R : DK) : Prop := match A[r]? with
  | some (.lst xs) => xs.length < sizeLine ∧ R .non (A.set r (.lst (xs ++ [y])))
  | _ => False
def appD : DMt := fun x vs A R => match x, vs with
  | .ref r, [y] => appR r y A R
  | _, _ => False
theorem d_app {mg : Str → Option Value} {K : PySem.W.Frag} : MtD mg K "list" rAppend appD := by
  intro x ds A ι H u us R Q ra rx rs h k
  unfold appD at h
  split at h
  · obtain ⟨_, rfl⟩ := rx
    obtain ⟨v, _, rfl, rv, rfl⟩ := rs
    unfold appR at h
    split at h
    · rename_i xs e
      obtain ⟨ws, h1, r1⟩ := ra.lst e
      exact ⟨_, ws, v, rfl, rfl, h1, by rw [← RVs.length r1]; exact h.1, put_lst k ra e h1 (r1.app (es := [_]) (ws := [v]) ⟨v, [], rfl, rv, rfl⟩) h.2 fun _ => rfl⟩
    · exact h.elim
  · exact h.elim
@[irreducible] def extR (r q : Nat) (A : Ar) (R : DK) : Prop := match A[r]?, A[q]? with
  | some (.lst xs), some (.lst ys) => xs.length + ys.length ≤ sizeLine ∧ R .non (A.set r (.lst (xs ++ ys)))
  | _, _ => False
def extD : DMt := fun x vs A R => match x, vs with
  | .ref r, [.ref q] => extR r q A R
  | _, _ => False
theorem d_ext {mg : Str → Option Value} {K : PySem.W.Frag} : MtD mg K "list" rExtend extD := by
  intro x ds A ι H u us R Q ra rx rs h k
  unfold extD at h
  split at h
  · obtain ⟨_, rfl⟩ := rx
    obtain ⟨v, _, rfl, ⟨_, rfl⟩, rfl⟩ := rs
    unfold extR at h
    split at h
    · rename_i xs ys e e2
      obtain ⟨ws, h1, r1⟩ := ra.lst e
      obtain ⟨zs, h2, r2⟩ := ra.lst e2
      exact ⟨_, _, ws, zs, rfl, rfl, h1, h2, by rw [← RVs.length r1, ← RVs.length r2]; exact h.1, put_lst k ra e h1 (r1.app r2) h.2 fun _ => rfl⟩
    · exact h.elim
  · exact h.elim
def sRaise (RE : DX) (c : Str) (m : DTA) : DTS := fun _ τ A => m τ A fun vs A1 => vs.length ≤ sizeLine ∧ RE c A1
theorem ds_raise {X : Cx} {N : En} {RE : DX} {x : Str} {C : Addr} {e : Expr} {m : DTA} {np cpos pos : Pos} (hR : Raises X (EL X.mg N RE)) (hc : X.calm = true) (hm : X.mg x = some (.ref C)) (hC : PySem.W.excIn X.K C vErr "ValueError.__new__" = true) (ha : PA X [e] (upA X.mg N m)) (hg : Gl X x := by rfl) (hdb : (x == ("__debug__" : Str)) = false := by decide)
    (he : starEach [e] X.env = [(false, eval e X.env)] := by rfl) : PS X (.Raise (some (.Call (.Name x np) [e] [] cpos)) none pos) (upS X.mg N (sRaise RE x m)) := ds_w (ps_raise hR hc hm hC ha hg hdb he) fun Q σ H q => by
  obtain ⟨A, ι, τ, R, S, q, k⟩ := q
  exact ⟨A, ι, τ, _, S, q, fun vs A1 ι1 H1 us q1 e1 r1 v1 => ⟨by rw [← RVs.length v1]; exact q1.1, x, A1, ι1, ⟨C, rfl, hm⟩, S.ex.trans e1, r1, q1.2⟩⟩
end DP
namespace DP
open PySem PySem.Spec PyProof.Rows L2
section
variable {mg : Str → Option Value} {K : PySem.W.Frag} {A : Ar} {ι : Io} {H : Hp} {n : Nat}
end
section
variable {X : Cx} {N : En} {pos : Pos} {a b c : Expr} {ma mb mc : DTE} {x : Str}
theorem vr (i : Nat) (hN : X.N[i]? = some x := by rfl) (hv : Vis X.env.scope x := by first | exact Or.inl rfl | exact Or.inr (Or.inl rfl) | exact Or.inr (Or.inr rfl)) (hd : (x == ("__debug__" : Str)) = false := by decide)
    (hcd : (x == ("__classdict__" : Str)) = false := by decide) : PE X (.Name x pos) (up X.mg N (dVar i)) := de_var hN hv hd hcd
theorem e_eq (hu : X.A.units + 64 < cLine) (ha : PE X a (up X.mg N ma)) (hb : PE X b (up X.mg N mb)) : PE X (.Compare a [.Eq] [b] pos) (up X.mg N (dOp eqD ma mb)) := de_cmp (o_eq hu) d_eq ha hb (nomark _)
theorem t_eq (hu : X.A.units + 64 < cLine) (ha : PE X a (up X.mg N ma)) (hb : PE X b (up X.mg N mb)) : PT X (.Compare a [.Eq] [b] pos) (upT X.mg N (dTest (dOp eqD ma mb))) := dt_cmp (o_eq hu) d_eq ha hb (nomark _)
theorem t_ne (hu : X.A.units + 64 < cLine) (ha : PE X a (up X.mg N ma)) (hb : PE X b (up X.mg N mb)) : PT X (.Compare a [.NotEq] [b] pos) (upT X.mg N (dTest (dOp neD ma mb))) := dt_cmp (o_ne hu) d_ne ha hb (nomark _)
theorem t_lt (ha : PE X a (up X.mg N ma)) (hb : PE X b (up X.mg N mb)) : PT X (.Compare a [.Lt] [b] pos) (upT X.mg N (dTest (dOp ltD ma mb))) := dt_cmp o_lt d_lt ha hb (nomark _)
theorem t_isnt (ha : PE X a (up X.mg N ma)) (hb : PE X b (up X.mg N mb)) : PT X (.Compare a [.IsNot] [b] pos) (upT X.mg N (dTest (dOp notND ma mb))) := dt_cmp op_notN d_notN ha hb (nomark _)
theorem e_lele (ha : PE X a (up X.mg N ma)) (hb : PE X b (up X.mg N mb)) (hc : PE X c (up X.mg N mc)) (hm : lastMarks [.LtE, .LtE] [b, c] = false := by with_unfolding_all rfl) : PE X (.Compare a [.LtE, .LtE] [b, c] pos) (up X.mg N (dChain leD leD ma mb mc)) := de_chain o_le o_le d_le d_le ha hb hc hm
theorem t_lele (ha : PE X a (up X.mg N ma)) (hb : PE X b (up X.mg N mb)) (hc : PE X c (up X.mg N mc)) (hm : lastMarks [.LtE, .LtE] [b, c] = false := by with_unfolding_all rfl) : PT X (.Compare a [.LtE, .LtE] [b, c] pos) (upT X.mg N (dTest (dChain leD leD ma mb mc))) := dt_chain o_le o_le d_le d_le ha hb hc hm
end
theorem fnD {P : Program} {w : World} {K : PySem.W.Frag} {mg : Str → Option Value} {base : Heap} {x : Str} {st : Stmt} {Nm ps : List Str} {k n : Nat} {S : Ct} (T : TopD K mg x st ps) (Sc : FnScope Nm ps (defScope st)) (hn : ps.length = n) (hN : ps.length ≤ Nm.length)
    (hbody : ∀ (N : En) (RE : DX) (f : Addr) (cdv : Value) (B : Around) (outer : List Env) (s : Shared) (H : Hp) (E : XK), Room k (cxOf (CX1 P w) P w K mg base Nm x (defScope st) f cdv B outer s H E).A →
      Raises (cxOf (CX1 P w) P w K mg base Nm x (defScope st) f cdv B outer s H E) (EL mg N RE) → Passes (CX1 P w) (cxOf (CX1 P w) P w K mg base Nm x (defScope st) f cdv B outer s H E) (EL mg N RE) →
      ∀ ds A R, S ds A R RE → ds.length = n → ∃ m, PSs (cxOf (CX1 P w) P w K mg base Nm x (defScope st) f cdv B outer s H E) (defBody st) (upS mg N m) ∧ m { nx := fun _ A' => R .non A', rt := R } (startD (Nm.length - n) ds) A) : FnX P w K mg base (k + 1) x ps (spOf mg n S) := by
  refine TopD.fnD T Sc hn hN fun N RE X _ _ _ _ _ _ _ _ hX hr hR hx ds A R h hl => ?_
  obtain ⟨f, cdv, B, outer, s, H, E, rfl⟩ := hX
  exact hbody N RE f cdv B outer s H E hr hR hx ds A R h hl
end DP
namespace DP
open PySem PySem.Spec PyProof.Rows L2
section
variable {X : Cx} {N : En} {pos : Pos} {c : Expr} {body : List Stmt} {tc : DTT} {tb : DTS}
end
structure JOk (mg : Str → Option Value) (A0 : Ar) (ι0 : Io) (H0 : Hp) (J : It) (items : List D) (chk : Ar → Prop) : Prop where
  go : ∀ (i : Nat) d A ι H, items[i]? = some d → Ext A0 ι0 H0 A ι H → RA mg ι H A → chk A → J.go i H ∧ ∀ x H', J.yld i H x H' → Ext A ι H A ι H' ∧ RA mg ι H' A ∧ RV mg ι A.length H' d x
  stop : ∀ A ι H, Ext A0 ι0 H0 A ι H → RA mg ι H A → chk A → J.stop items.length H
abbrev DTI := DSt → Ar → (List D → (Ar → Prop) → Ar → Prop) → Prop
def upI (mg : Str → Option Value) (N : En) (m : DTI) : TI := fun σ H Q => ∃ A ι τ R, Sim mg N A ι τ σ H ∧ m τ A R ∧ ∀ items chk A' ι' H' J, R items chk A' → Ext A ι H A' ι' H' → RA mg ι' H' A' → JOk mg A' ι' H' J items chk → Q J H'
theorem di_w {X : Cx} {tg e : Expr} {t t' : TI} (h : PI X tg e t) (w : ∀ σ H Q, t' σ H Q → t σ H Q) : PI X tg e t' := fun pins s σ H Q I q => h pins s σ H Q I (w σ H Q q)
section
variable {mg : Str → Option Value} {K : PySem.W.Frag} {A : Ar} {ι : Io} {H : Hp}
theorem jok_tup {a : Addr} {ds : List D} {xs : List V} (he : H a = some (.tup xs)) (hr : RVs mg ι A.length H ds xs) : JOk mg A ι H (Itt K a) ds (fun _ => True) where
  go := fun i d A1 ι1 H1 hd e r _ => by
    have he' := e.fix rfl he
    obtain ⟨v, h1, h2⟩ := RVs.get (RVs.ext e ds xs hr) hd
    refine ⟨⟨xs, v, SqT.of he', h1⟩, fun x H' y => ?_⟩
    obtain ⟨rfl, y⟩ := y
    have := y xs (SqT.of he')
    rw [h1] at this; cases this
    exact ⟨r.refl, r, h2⟩
  stop := fun A1 ι1 H1 e r _ => ⟨xs, SqT.of (e.fix rfl he), by rw [RVs.length hr]; exact Nat.le_refl _⟩
theorem jok_fl {a : Addr} {o : Obj} {ns : List Int} (he : H a = some (.frz o (.lst (ns.map V.int)))) : JOk mg A ι H (Itl K a) (ns.map D.int) (fun _ => True) where
  go := fun i d A1 ι1 H1 hd e r _ => by
    have he' : SqL K H1 a (ns.map V.int) := .inl (.inr ⟨o, e.fix rfl he⟩)
    obtain ⟨v, h1, h2⟩ := RVs.get (RVs.ints (mg := mg) (ι := ι1) (H := H1) ns (n := A1.length)) hd
    refine ⟨⟨_, v, he', h1⟩, fun x H' y => ?_⟩
    obtain ⟨rfl, y⟩ := y
    have := y _ he'
    rw [h1] at this; cases this
    exact ⟨r.refl, r, h2⟩
  stop := fun A1 ι1 H1 e r _ => ⟨_, .inl (.inr ⟨o, e.fix rfl he⟩), by simp⟩
theorem jok_lst {q : Nat} {ds : List D} (hq : q < A.length) : JOk mg A ι H (Itl K (ι q)) ds (fun A' => A'[q]? = some (.lst ds)) where
  go := fun i d A1 ι1 H1 hd e r hc => by
    obtain ⟨xs, h1, h2⟩ := r.lst hc
    rw [e.ag q hq] at h1
    obtain ⟨v, h3, h4⟩ := RVs.get h2 hd
    refine ⟨⟨xs, v, SqL.of h1, h3⟩, fun x H' y => ?_⟩
    obtain ⟨rfl, y⟩ := y
    have := y xs (SqL.of h1)
    rw [h3] at this; cases this
    exact ⟨r.refl, r, h4⟩
  stop := fun A1 ι1 H1 e r hc => by
    obtain ⟨xs, h1, h2⟩ := r.lst hc
    rw [e.ag q hq] at h1
    exact ⟨xs, SqL.of h1, by rw [RVs.length h2]; exact Nat.le_refl _⟩
def rng (lo : Int) (n : Nat) : List D := (List.range n).map fun (i : Nat) => D.int (lo + i)
theorem jok_rng {lo : Int} {n : Nat} : JOk mg A ι H (Itr lo n) (rng lo n) (fun _ => True) where
  go := fun i d A1 ι1 H1 hd e r _ => by
    unfold rng at hd
    rw [List.getElem?_map] at hd
    cases q : (List.range n)[i]? with
    | none => rw [q] at hd; cases hd
    | some j =>
      rw [q] at hd
      have hi := (List.getElem?_eq_some_iff.mp q).1
      have hj := (List.getElem?_eq_some_iff.mp q).2
      simp at hi hj
      subst hj
      cases hd
      refine ⟨hi, fun x H' y => ?_⟩
      obtain ⟨rfl, rfl⟩ := y
      exact ⟨r.refl, r, rfl⟩
  stop := fun A1 ι1 H1 e r _ => by
    show n ≤ _
    simp [rng]
def sgs (z : Str) : List D := z.cps.toList.map fun c => D.str ⟨#[c]⟩
theorem jok_str {z : Str} : JOk mg A ι H (Its z) (sgs z) (fun _ => True) where
  go := fun i d A1 ι1 H1 hd e r _ => by
    unfold sgs at hd
    rw [List.getElem?_map] at hd
    cases q : z.cps.toList[i]? with
    | none => rw [q] at hd; cases hd
    | some j =>
      rw [q] at hd
      cases hd
      have hi := (List.getElem?_eq_some_iff.mp q).1
      refine ⟨show i < z.cps.size by simpa using hi, fun x H' y => ?_⟩
      obtain ⟨rfl, c, hc, rfl⟩ := y
      have : z.cps.toList[i]? = some c := by simpa using hc
      rw [q] at this; cases this
      exact ⟨r.refl, r, rfl⟩
  stop := fun A1 ι1 H1 e r _ => by
    show _ = _
    simp [sgs]
end
def iSq (K : PySem.W.Frag) (tl : TE) : TI := fun σ H R => tl σ H fun x H1 => (∃ a, x = .ref a ∧ (∃ xs, SqL K H1 a xs) ∧ R (Itl K a) H1) ∨ (∃ a, x = .ref a ∧ (∃ xs, SqT K H1 a xs) ∧ R (Itt K a) H1)
theorem pi_sq {X : Cx} {tg l : Expr} {tl : TE} (hl : PE X l tl) : PI X tg l (iSq X.K tl) := by
  intro pins s σ H R I h
  refine thn (hl pins s σ H _ I h) fun v s1 ⟨x, H1, I1, r1, q1⟩ => ?_
  rcases q1 with ⟨a, e, ⟨xs, hq⟩, q⟩ | ⟨a, e, ⟨xs, hq⟩, q⟩
  · subst e
    cases r1
    obtain ⟨its, rv, p, hz⟩ := I1.list hq
    refine wpAny_pyIter_list p.isList ?_
    refine ⟨s1.heap.objs.size, [s1.heap.objs.size], _, _, H1, rfl, I1.kept (t' := s1.toks) fun b o e => Heap.get?_push_of_some _ e, turn_list a _, ⟨_, Heap.get?_push_size _ rfl, rfl, rfl⟩, fun b hb => ?_, q⟩
    have e : b = s1.heap.objs.size := by simpa using hb
    subst e
    exact I1.fpOk (Nat.le_refl _) (I1.hok.fresh (Nat.le_refl _))
  · subst e
    cases r1
    obtain ⟨its, rv, p, hz⟩ := I1.tuple hq
    refine wpAny_pyIter_tuple (show s1.heap.IsTuple a its.toArray from p) ?_
    refine ⟨s1.heap.objs.size, [s1.heap.objs.size], _, _, H1, rfl, I1.kept (t' := s1.toks) fun b o e => Heap.get?_push_of_some _ e, turn_tuple a _, ⟨_, Heap.get?_push_size _ rfl, rfl, rfl⟩, fun b hb => ?_, q⟩
    have e : b = s1.heap.objs.size := by simpa using hb
    subst e
    exact I1.fpOk (Nat.le_refl _) (I1.hok.fresh (Nat.le_refl _))
@[irreducible] def itR (r : Nat) (A : Ar) (R : List D → (Ar → Prop) → Ar → Prop) : Prop := match A[r]? with
  | some (.lst xs) => R xs (fun A' => A'[r]? = some (.lst xs)) A
  | _ => False
def iSeq (m : DTE) : DTI := fun τ A R => m τ A fun x A1 => match x with
  | .tup xs => R xs (fun _ => True) A1
  | .fl ns => R (ns.map .int) (fun _ => True) A1
  | .ref r => itR r A1 R
  | _ => False
def iStrD (m : DTE) : DTI := fun τ A R => m τ A fun x A1 => match x with
  | .str z => R (sgs z) (fun _ => True) A1
  | _ => False
def iR1 (n : DTA) : DTI := fun τ A R => n τ A fun vs A1 => match vs with
  | [.int j] => -(2 ^ 62) ≤ j ∧ j < 2 ^ 62 ∧ R (rng 0 j.toNat) (fun _ => True) A1
  | _ => False
section
variable {X : Cx} {N : En} {pos p : Pos} {tg e a b : Expr} {m : DTE} {n : DTA} {nm : Str} {px : Pos}
theorem di_seq (he : PE X e (up X.mg N m)) : PI X tg e (upI X.mg N (iSeq m)) := di_w (pi_sq he) fun σ H Q q => by
  obtain ⟨A, ι, τ, R, S, q, k⟩ := q
  refine ⟨A, ι, τ, _, S, q, fun x A1 ι1 H1 u q1 e1 r1 v1 => ?_⟩
  cases x with
  | tup ds =>
    obtain ⟨b, xs, rfl, h1, h2⟩ := v1
    exact .inr ⟨b, rfl, ⟨xs, SqT.of h1⟩, k ds _ A1 ι1 H1 _ q1 e1 r1 (jok_tup h1 h2)⟩
  | fl ns =>
    obtain ⟨b, o, rfl, h1⟩ := v1
    exact .inl ⟨b, rfl, ⟨_, .inl (.inr ⟨o, h1⟩)⟩, k _ _ A1 ι1 H1 _ q1 e1 r1 (jok_fl h1)⟩
  | ref r =>
    obtain ⟨hr, rfl⟩ := v1
    have q1 : itR r A1 R := q1
    unfold itR at q1
    split at q1
    · rename_i xs e
      obtain ⟨us, h1, _⟩ := r1.lst e
      exact .inl ⟨_, rfl, ⟨us, SqL.of h1⟩, k _ _ A1 ι1 H1 _ q1 e1 r1 (jok_lst hr)⟩
    · exact q1.elim
  | _ => exact q1.elim
theorem di_str (he : PE X e (up X.mg N m)) : PI X (.Name nm px) e (upI X.mg N (iStrD m)) := di_w (pi_str he) fun σ H Q q => by
  obtain ⟨A, ι, τ, R, S, q, k⟩ := q
  refine ⟨A, ι, τ, _, S, q, fun x A1 ι1 H1 u q1 e1 r1 v1 => ?_⟩
  cases x with
  | str z => exact ⟨z, v1, k _ _ A1 ι1 H1 _ q1 e1 r1 jok_str⟩
  | _ => exact q1.elim
theorem di_range1 (hm : X.mg "range" = none) (ha : PA X [a] (upA X.mg N n)) (hg : Gl X "range" := by rfl) (hs : starEach [a] X.env = [(false, eval a X.env)] := by rfl) : PI X tg (.Call (.Name "range" p) [a] [] pos) (upI X.mg N (iR1 n)) := di_w (pi_range1 hg hm ha hs) fun σ H Q q => by
  obtain ⟨A, ι, τ, R, S, q, k⟩ := q
  refine ⟨A, ι, τ, _, S, q, fun x A1 ι1 H1 u q1 e1 r1 v1 => ?_⟩
  match x, q1, v1 with
  | [.int j], q1, v1 =>
    obtain ⟨_, _, rfl, rfl, rfl⟩ := v1
    exact ⟨j, rfl, q1.1, q1.2.1, k _ _ A1 ι1 H1 _ q1.2.2 e1 r1 jok_rng⟩
end
def dLoop (chk : Ar → Prop) (g : DTG) (b : DTS) (R : DEnds) : List D → DSt → Ar → Prop
  | [], τ, A => chk A ∧ R.nx τ A
  | x :: xs, τ, A => chk A ∧ g x τ A fun τ1 A1 => b { R with nx := dLoop chk g b R xs, ct := dLoop chk g b R xs, bk := R.nx } τ1 A1
def sFor (it : DTI) (g : DTG) (b : DTS) : DTS := fun R τ A => it τ A fun items chk A1 => dLoop chk g b R items τ A1
theorem ds_for {X : Cx} {N : En} {pos : Pos} {tg iter : Expr} {body : List Stmt} {it : DTI} {g : DTG} {tb : DTS} (hp : PassesOwn (model X.prog X.w) X.A X.env X.xe) (hc : X.calm = true) (hi : PI X tg iter (upI X.mg N it)) (hg : PG X tg (upG X.mg N g)) (hb : PSs X body (upS X.mg N tb))
    (hs : ∀ x, foldedSetIterable iter X.env x = pure x := by intro _; rfl) : PS X (.For tg iter body [] pos) (upS X.mg N (sFor it g tb)) := ds_w (ps_for hp hc hi hg hb hs) fun Q σ H q => by
  obtain ⟨A, ι, τ, R, S, q, k⟩ := q
  refine ⟨A, ι, τ, _, S, q, fun items chk A1 ι1 H1 J q1 e1 r1 j1 => ?_⟩
  have S1 := S.next e1 r1
  refine ⟨fun i m σ' H' => m = items.length - i ∧ i ≤ items.length ∧ ∃ A' ι' τ', Sim X.mg N A' ι' τ' σ' H' ∧ Ext A1 ι1 H1 A' ι' H' ∧ dLoop chk g tb R (items.drop i) τ' A', ⟨_, rfl, Nat.zero_le _, A1, ι1, τ, S1, r1.refl, by simpa using q1⟩, ?_⟩
  rintro i m σ2 H2 ⟨rfl, hi, A2, ι2, τ2, S2, e2, q2⟩
  by_cases hl : i < items.length
  · right
    have hd : items.drop i = items[i] :: items.drop (i + 1) := by rw [List.drop_eq_getElem_cons hl]
    rw [hd] at q2
    obtain ⟨hchk, q2⟩ := q2
    obtain ⟨g1, g2⟩ := j1.go i items[i] A2 ι2 H2 (by rw [List.getElem?_eq_getElem hl]) e2 S2.ra hchk
    refine ⟨g1, fun σ' H' => ∃ A' ι' τ', Sim X.mg N A' ι' τ' σ' H' ∧ Ext A1 ι1 H1 A' ι' H' ∧ dLoop chk g tb R (items.drop (i + 1)) τ' A', fun σ' H' ⟨A', ι', τ', z⟩ => ⟨_, by omega, rfl, hl, A', ι', τ', z⟩, fun x H3 y => ?_⟩
    obtain ⟨e3, r3, v3⟩ := g2 x H3 y
    refine ⟨A2, ι2, τ2, items[i], _, S2.next e3 r3, v3, q2, fun τ4 A4 ι4 σ4 H4 q4 e4 r4 s4 => ?_⟩
    have e24 := e3.trans e4
    refine ⟨A4, ι4, τ4, _, (S2.next e3 r3).to e4 r4 s4, q4, ⟨?_, k.rt.from ((e1.trans e2).trans e24), k.nx.from ((e1.trans e2).trans e24), ?_⟩⟩
    · exact fun τ5 A5 ι5 σ5 H5 q5 e5 r5 s5 => ⟨A5, ι5, τ5, ((S2.next e3 r3).to e4 r4 s4).to e5 r5 s5, (e2.trans e24).trans e5, q5⟩
    · exact fun τ5 A5 ι5 σ5 H5 q5 e5 r5 s5 => ⟨A5, ι5, τ5, ((S2.next e3 r3).to e4 r4 s4).to e5 r5 s5, (e2.trans e24).trans e5, q5⟩
  · left
    have e : i = items.length := by omega
    subst e
    rw [List.drop_length] at q2
    exact ⟨j1.stop A2 ι2 H2 e2 S2.ra q2.1, (k.nx.from (e1.trans e2)).here S2 q2.2⟩
end DP
namespace DP
open PySem PySem.Spec PyProof.Rows L2
def unp : Option Nat → D → Option (List D)
  | none, x => some [x]
  | some k, .tup ds => if ds.length = k then some ds else none
  | some _, _ => none
def cLoopD (chk : Ar → Prop) (k : Option Nat) (fr : DSt) (tt : DTT) (te : DTE) (R : List D → Ar → Prop) : List D → List D → Ar → Prop
  | [], ys, A => chk A ∧ R ys A
  | x :: xs, ys, A => chk A ∧ match unp k x with
    | some vs => tt (vs.map some ++ fr) A fun b A3 => cond b (te (vs.map some ++ fr) A3 fun y A4 => ys.length < sizeLine ∧ cLoopD chk k fr tt te R xs (ys ++ [y]) A4) (cLoopD chk k fr tt te R xs ys A3)
    | none => False
def dComp (k : Option Nat) (ix : List Nat) (it : DTI) (tt : DTT) (te : DTE) : DTE := fun τ A R => it τ A fun items chk A1 => cLoopD chk k (ix.map (lk τ)) tt te (fun ys A2 => R (.ref A2.length) (A2 ++ [.lst ys])) items [] A1
def gsN : Nat → Nat → TGs
  | _, 0 => gNil
  | i, n + 1 => gCons (gName i) (gsN (i + 1) n)
def tgL (K : PySem.W.Frag) : Option Nat → TG
  | none => gName 0
  | some k => gTup K k (gsN 0 k)
theorem gs_run {Q : L2.St → Hp → Prop} {H : Hp} {fs : L2.St} : ∀ (xs : List V) (dn : L2.St), Q (dn ++ (xs.map some ++ fs)) H → gsN dn.length xs.length xs (dn ++ (List.replicate xs.length none ++ fs)) H Q
  | [], dn, h => ⟨rfl, by simpa using h⟩
  | x :: r, dn, h => by
    refine ⟨x, r, rfl, ?_⟩
    show gsN (dn.length + 1) r.length r ((dn ++ (List.replicate (r.length + 1) none ++ fs)).set dn.length (some x)) H Q
    have e : (dn ++ (List.replicate (r.length + 1) none ++ fs)).set dn.length (some x) = (dn ++ [some x]) ++ (List.replicate r.length none ++ fs) := by
      rw [List.set_append_right _ _ (Nat.le_refl _)]
      simp [List.replicate_succ]
    rw [e]
    have := gs_run r (dn ++ [some x]) (by simpa using h)
    simpa using this
theorem kst_own {fs : L2.St} : ∀ (xs : L2.St), KSt (List.replicate xs.length none ++ fs) (xs ++ fs)
  | [] => KSt.refl fs
  | x :: r => .own (kst_own r)
section
variable {mg : Str → Option Value} {K : PySem.W.Frag} {A : Ar} {ι : Io} {H : Hp}
theorem tg_run {k : Option Nat} {d : D} {vs : List D} {x : V} {n : Nat} (hu : unp k d = some vs) (r : RV mg ι n H d x) : ∃ xs, RVs mg ι n H vs xs ∧ vs.length = k.getD 1 ∧ ∀ (fs : L2.St) (Q : L2.St → Hp → Prop), Q (xs.map some ++ fs) H → tgL K k x (List.replicate (k.getD 1) none ++ fs) H Q := by
  cases k with
  | none =>
    cases hu
    exact ⟨[x], ⟨x, [], rfl, r, rfl⟩, rfl, fun fs Q q => q⟩
  | some k =>
    cases d with
    | tup ds =>
      have hu : (if ds.length = k then some ds else none) = some vs := hu
      by_cases hl : ds.length = k
      · rw [if_pos hl] at hu
        cases hu
        obtain ⟨a, xs, rfl, h1, h2⟩ := r
        have hx := RVs.length h2
        refine ⟨xs, h2, hl, fun fs Q q => ⟨a, xs, rfl, SqT.of h1, by rw [← hx]; exact hl, ?_⟩⟩
        have := gs_run (Q := Q) (H := H) (fs := fs) xs [] q
        show gsN 0 k xs (List.replicate k none ++ fs) H Q
        have e : k = xs.length := by rw [← hx, hl]
        rw [e]
        exact this
      · rw [if_neg hl] at hu
        cases hu
    | _ => cases hu
theorem RA.off (R : RA mg ι H A) {p : Addr} {o u : HO} (hp : ∀ r, r < A.length → ι r ≠ p) (hu : H p = some u) (hm : mutO u = true) : RA mg ι (upd H p o) A :=
  ⟨fun r c h => CO.ag (Nat.le_refl _) (fun _ _ => rfl) (fun b q m z => by
      rw [upd_ne]
      · exact z
      · rintro rfl
        rw [hu] at z; cases z; rw [hm] at m; cases m) (fun q z => by rw [upd_ne (hp r (List.getElem?_eq_some_iff.mp h).1)]; exact z) c (R.cel r c h), R.inj⟩
end
theorem stC_rep {own : List Str} {ix : List Nat} {σ : L2.St} : L2.stC own ix σ = List.replicate own.length none ++ ix.map fun i => (σ[i]?).join := by
  unfold L2.stC
  rw [List.map_const']
theorem lk_app1 : ∀ (ds : List D) (fr : DSt) (i : Nat) (d : D), lk (ds.map some ++ fr) i = some d → (ds[i]? = some d) ∨ (ds.length ≤ i ∧ lk fr (i - ds.length) = some d)
  | [], fr, i, d, h => .inr ⟨Nat.zero_le _, by simpa using h⟩
  | x :: r, fr, 0, d, h => .inl (by simpa [lk] using h)
  | x :: r, fr, i + 1, d, h => by
    rcases lk_app1 r fr i d (by simpa [lk] using h) with q | ⟨q1, q2⟩
    · exact .inl (by simpa using q)
    · exact .inr ⟨by simpa using q1, by simpa using q2⟩
theorem RS.block {mg : Str → Option Value} {ι : Io} {n : Nat} {H : Hp} {τ : DSt} {σ : L2.St} {ix : List Nat} {vs : List D} {xs : List V} (r : RS mg ι n H τ σ) (h : RVs mg ι n H vs xs) : RS mg ι n H (vs.map some ++ ix.map (lk τ)) (xs.map some ++ ix.map fun i => (σ[i]?).join) := ⟨by simp [RVs.length h], fun i d q => by
  have hl := RVs.length h
  rcases lk_app1 vs _ i d q with q | ⟨q1, q2⟩
  · obtain ⟨v, h1, h2⟩ := RVs.get h q
    have hi := (List.getElem?_eq_some_iff.mp h1).1
    exact ⟨v, by rw [List.getElem?_append_left (by simpa using hi), List.getElem?_map, h1]; rfl, h2⟩
  · rw [lk_get, List.getElem?_map] at q2
    cases e : ix[i - vs.length]? with
    | none => rw [e] at q2; simp at q2
    | some j =>
      rw [e] at q2
      have q2 : lk τ j = some d := by simpa using q2
      obtain ⟨v, h1, h2⟩ := r.at' j d q2
      refine ⟨v, ?_, h2⟩
      rw [List.getElem?_append_right (by simpa [← hl] using q1), List.getElem?_map, List.length_map, ← hl, e]
      simp [h1]⟩
section
variable {X : Cx} {N : En} {own frees : List Str} {ix : List Nat} {it : DTI} {tt : DTT} {te : DTE} {k : Option Nat}
theorem up_comp (hk : own.length = k.getD 1) {tT : CP → TT} (hT : ∀ c σ H Q, upT X.mg N tt σ H Q → tT c σ H Q) {σ : L2.St} {H : Hp} {Q : VK} (q : up X.mg N (dComp k ix it tt te) σ H Q) : tComp own ix (upI X.mg N it) (fun _ => tgL X.K k) tT (fun _ => up X.mg N te) σ H Q := by
  obtain ⟨A, ι, τ, R, S, q, kq⟩ := q
  refine ⟨A, ι, τ, _, S, q, fun items chk A1 ι1 H1 J q1 e1 r1 j1 c acc hacc => ?_⟩
  have S1 := S.next e1 r1
  rw [stC_rep, hk]
  have off1 : ∀ r, r < A1.length → ι1 r ≠ acc := fun r hr z => by
    obtain ⟨o, h1, _⟩ := r1.im r hr
    rw [z, hacc] at h1; cases h1
  have rn := r1.ext_fix (o := .lst []) hacc
  refine ⟨fun i m ys H' => m = items.length - i ∧ i ≤ items.length ∧ ∃ A' ι' yds, RA X.mg ι' H' A' ∧ Ext A1 ι1 H1 A' ι' H' ∧ (∀ r, r < A'.length → ι' r ≠ acc) ∧ H' acc = some (.lst ys) ∧ RVs X.mg ι' A'.length H' yds ys ∧ cLoopD chk k (ix.map (lk τ)) tt te (fun ys A2 => R (.ref A2.length) (A2 ++ [.lst ys])) (items.drop i) yds A',
    ⟨_, rfl, Nat.zero_le _, A1, ι1, [], r1.fix rn (fun b o z => by rw [upd_ne (ne_of_none z hacc)]; exact z), rn, off1, upd_same, rfl, by simpa using q1⟩, ?_⟩
  rintro i m ys H2 ⟨rfl, hi, A2, ι2, yds, r2, e2, off2, hy, ry, q2⟩
  refine ⟨hy, ?_⟩
  by_cases hl : i < items.length
  · right
    have hd : items.drop i = items[i] :: items.drop (i + 1) := by rw [List.drop_eq_getElem_cons hl]
    rw [hd] at q2
    obtain ⟨hchk, q2⟩ := q2
    obtain ⟨g1, g2⟩ := j1.go i items[i] A2 ι2 H2 (by rw [List.getElem?_eq_getElem hl]) e2 r2 hchk
    refine ⟨g1, fun ys' H' => ∃ A' ι' yds', RA X.mg ι' H' A' ∧ Ext A1 ι1 H1 A' ι' H' ∧ (∀ r, r < A'.length → ι' r ≠ acc) ∧ H' acc = some (.lst ys') ∧ RVs X.mg ι' A'.length H' yds' ys' ∧ cLoopD chk k (ix.map (lk τ)) tt te (fun ys A2 => R (.ref A2.length) (A2 ++ [.lst ys])) (items.drop (i + 1)) yds' A', fun ys' H' z => ⟨_, by omega, rfl, hl, z⟩, fun x H3 y => ?_⟩
    obtain ⟨e3, r3, v3⟩ := g2 x H3 y
    split at q2
    · rename_i vs hu
      obtain ⟨xs, h1, h2, h3⟩ := tg_run (K := X.K) hu v3
      refine h3 _ _ ⟨by have := kst_own (fs := ix.map fun i => (σ[i]?).join) (xs.map some); rw [List.length_map, ← RVs.length h1, h2] at this; exact this, ?_⟩
      have e13 := e2.trans e3
      have S3 : Sim X.mg N A2 ι2 (vs.map some ++ ix.map (lk τ)) (xs.map some ++ ix.map fun i => (σ[i]?).join) H3 := ⟨r3, RS.block (S1.rs.ext e13) h1, S1.ex.trans e13⟩
      have hy3 : H3 acc = some (.lst ys) := e3.mo acc _ hy off2
      refine hT _ _ _ _ ⟨A2, ι2, _, _, S3, q2, fun b A4 ι4 H4 q4 e4 r4 => ?_⟩
      have off4 : ∀ r, r < A4.length → ι4 r ≠ acc := fun r hr z => by
        by_cases hl : r < A2.length
        · rw [e4.ag r hl] at z; exact off2 r hl z
        · have := e4.nw r (by omega) hr
          rw [z, hy3] at this; cases this
      have hy4 : H4 acc = some (.lst ys) := e4.mo acc _ hy3 off2
      have ry4 := RVs.ext (e3.trans e4) yds ys ry
      cases b with
      | true =>
        refine iteT ?_
        refine ⟨A4, ι4, _, _, S3.next e4 r4, q4, fun v A5 ι5 H5 u q5 e5 r5 v5 => ?_⟩
        have hy5 : H5 acc = some (.lst ys) := e5.mo acc _ hy4 off4
        have off5 : ∀ r, r < A5.length → ι5 r ≠ acc := fun r hr z => by
          by_cases hl : r < A4.length
          · rw [e5.ag r hl] at z; exact off4 r hl z
          · have := e5.nw r (by omega) hr
            rw [z, hy4] at this; cases this
        have ry5 := RVs.ext e5 yds ys ry4
        have e15 := (e13.trans e4).trans e5
        have fx : ∀ b o, mutO o = false → H5 b = some o → upd H5 acc (.lst (ys ++ [u])) b = some o := fun b o m z => by
          rw [upd_ne]
          · exact z
          · rintro rfl
            rw [hy5] at z; cases z; cases m
        refine ⟨hy5, by rw [← RVs.length ry5]; exact q5.1, A5, ι5, yds ++ [v], r5.off off5 hy5 rfl, ⟨e15.len, e15.ag, e15.im, fun b o z hn => ?_, e15.nw, fun b o z => ?_⟩, off5, upd_same, ?_, q5.2⟩
        · rw [upd_ne (ne_of_none z hacc)]; exact e15.mo b o z hn
        · obtain ⟨o', h'⟩ := e15.al b o z
          exact ⟨o', by rw [upd_ne (ne_of_none z hacc)]; exact h'⟩
        · exact RVs.ag (Nat.le_refl _) (fun _ _ => rfl) fx _ _ (ry5.app (es := [v]) (ws := [u]) ⟨u, [], rfl, v5, rfl⟩)
      | false =>
        refine iteF ?_
        exact ⟨A4, ι4, yds, r4, e13.trans e4, off4, hy4, ry4, q4⟩
    · exact q2.elim
  · left
    have e : i = items.length := by omega
    subst e
    rw [List.drop_length] at q2
    obtain ⟨hchk, q2⟩ := q2
    refine ⟨j1.stop A2 ι2 H2 e2 r2 hchk, ?_⟩
    obtain ⟨ι3, ag2, at2⟩ : ∃ ι3 : Io, (∀ r, r < A2.length → ι3 r = ι2 r) ∧ ι3 A2.length = acc := ⟨fun r => if r = A2.length then acc else ι2 r, fun r h => by
      show (if r = A2.length then acc else ι2 r) = ι2 r
      rw [if_neg (by omega)], by
      show (if A2.length = A2.length then acc else ι2 A2.length) = acc
      rw [if_pos rfl]⟩
    refine kq (.ref A2.length) (A2 ++ [.lst yds]) ι3 H2 _ q2 (e1.trans ⟨by have := e2.len; simp; omega, fun r h => by rw [ag2 r (Nat.lt_of_lt_of_le h e2.len)]; exact e2.ag r h, e2.im, e2.mo, fun r h1 h2 => ?_, e2.al⟩) ⟨fun r c h => ?_, fun r s hr hs h => ?_⟩ ⟨by simp, by rw [at2]⟩
    · by_cases hr : r < A2.length
      · rw [ag2 r hr]; exact e2.nw r h1 hr
      · have : r = A2.length := by simp at h2; omega
        subst this
        rw [at2]; exact hacc
    · by_cases hr : r < A2.length
      · rw [List.getElem?_append_left hr] at h
        have := CO.ag (n' := (A2 ++ [C.lst yds]).length) (ι' := ι3) (H' := H2) (by simp) ag2 (fun _ _ _ z => z) (fun _ z => z) c (r2.cel r c h)
        rw [ag2 r hr]
        exact this
      · have hr' : r = A2.length := by
          have := (List.getElem?_eq_some_iff.mp h).1
          simp at this; omega
        subst hr'
        simp at h; subst h
        rw [at2]
        exact ⟨ys, hy, RVs.ag (by simp) ag2 (fun _ _ _ z => z) yds ys ry⟩
    · simp at hr hs
      by_cases h1 : r = A2.length
      · by_cases h2 : s = A2.length
        · rw [h1, h2]
        · subst h1
          rw [at2, ag2 s (by omega)] at h
          exact absurd h.symm (off2 s (by omega))
      · by_cases h2 : s = A2.length
        · subst h2
          rw [at2, ag2 r (by omega)] at h
          exact absurd h (off2 r (by omega))
        · rw [ag2 r (by omega), ag2 s (by omega)] at h
          exact r2.inj r s (by omega) (by omega) h
end
def tt0 : DTT := fun _ A R => R true A
section
variable {X : Cx} {N : En} {own frees : List Str} {ix : List Nat} {it : DTI} {tt : DTT} {te : DTE} (k : Option Nat) {tg iter elt cnd : Expr} {scope : Scope} {pos : Pos}
theorem de_comp (hk : own.length = k.getD 1) (hi : PI X tg iter (upI X.mg N it)) (hg : ∀ c, PG (cxC X (own ++ frees) scope c) tg (tgL X.K k)) (he : ∀ c, PE (cxC X (own ++ frees) scope c) elt (up X.mg N te)) (S : CScope X scope frees := by exact ⟨rfl, by decide +kernel, by decide +kernel, by decide +kernel, by decide +kernel, rfl⟩) (hc : X.calm = true := by rfl) (hN : ix.map (fun i => X.N[i]?) = frees.map some := by rfl) (hs : ∀ x, foldedSetIterable iter X.env x = pure x := by intro _; rfl) :
    PE X (.ListComp elt [⟨tg, iter, [], 0⟩] scope pos) (up X.mg N (dComp k ix it tt0 te)) :=
  de_w (pe_comp hi hg (fun c => PIf.nil) he S hc hN hs) fun σ H Q q => up_comp (own := own) hk (fun _ σ H Q h => by
    obtain ⟨A, ι, τ, R, S, h, k⟩ := h
    exact k.here S.ra h) q
theorem de_compI (hk : own.length = k.getD 1) (hi : PI X tg iter (upI X.mg N it)) (hg : ∀ c, PG (cxC X (own ++ frees) scope c) tg (tgL X.K k)) (ht : ∀ c, PT (cxC X (own ++ frees) scope c) cnd (upT X.mg N tt)) (he : ∀ c, PE (cxC X (own ++ frees) scope c) elt (up X.mg N te)) (S : CScope X scope frees := by exact ⟨rfl, by decide +kernel, by decide +kernel, by decide +kernel, by decide +kernel, rfl⟩) (hc : X.calm = true := by rfl) (hN : ix.map (fun i => X.N[i]?) = frees.map some := by rfl) (hs : ∀ x, foldedSetIterable iter X.env x = pure x := by intro _; rfl) :
    PE X (.ListComp elt [⟨tg, iter, [cnd], 0⟩] scope pos) (up X.mg N (dComp k ix it tt te)) :=
  de_w (pe_comp hi hg (fun c => PIf.one (ht c)) he S hc hN hs) fun σ H Q q => up_comp (own := own) hk (fun _ σ H Q h => h) q
variable {i : Nat} {x : Str} {pos' spos : Pos}
theorem ds_comp (hNd : X.N.Nodup) (hi' : X.N[i]? = some x) (hx : Loc X.env.scope x) (hk : own.length = k.getD 1) (hi : PI X tg iter (upI X.mg N it)) (hg : ∀ c, PG (cxC X (own ++ frees) scope c) tg (tgL X.K k)) (he : ∀ c, PE (cxC X (own ++ frees) scope c) elt (up X.mg N te)) (S : CScope X scope frees := by exact ⟨rfl, by decide +kernel, by decide +kernel, by decide +kernel, by decide +kernel, rfl⟩) (hc : X.calm = true := by rfl) (hN : ix.map (fun i => X.N[i]?) = frees.map some := by rfl) (hs : ∀ x, foldedSetIterable iter X.env x = pure x := by intro _; rfl)
    (hsw : swapsWith (.ListComp elt [⟨tg, iter, [], 0⟩] scope pos) (some (.Name x pos')) spos.line X.env = pure true := by rfl) (hf : X.fn x = true ∨ X.env.scope.names.lookup x = some .local := by first | exact .inl rfl | exact .inr rfl | assumption) :
    PS X (.Assign [.Name x pos'] (.ListComp elt [⟨tg, iter, [], 0⟩] scope pos) spos) (upS X.mg N (sSet i (dComp k ix it tt0 te))) :=
  ds_w (ps_comp hNd hi' hx hi hg (fun c => PIf.nil) he S hc hN hs hsw hf) fun Q σ H q => by
    obtain ⟨A, ι, τ, R, Z, q, k⟩ := q
    exact up_comp (own := own) hk (fun _ σ H Q h => by
      obtain ⟨A, ι, τ, R, S, h, k⟩ := h
      exact k.here S.ra h) ⟨A, ι, τ, _, Z, q, fun v A1 ι1 H1 u q1 e1 r1 v1 => (k.nx.from e1).here ((Z.next e1 r1).set v1) q1⟩
theorem ds_compI (hNd : X.N.Nodup) (hi' : X.N[i]? = some x) (hx : Loc X.env.scope x) (hk : own.length = k.getD 1) (hi : PI X tg iter (upI X.mg N it)) (hg : ∀ c, PG (cxC X (own ++ frees) scope c) tg (tgL X.K k)) (ht : ∀ c, PT (cxC X (own ++ frees) scope c) cnd (upT X.mg N tt)) (he : ∀ c, PE (cxC X (own ++ frees) scope c) elt (up X.mg N te)) (S : CScope X scope frees := by exact ⟨rfl, by decide +kernel, by decide +kernel, by decide +kernel, by decide +kernel, rfl⟩) (hc : X.calm = true := by rfl) (hN : ix.map (fun i => X.N[i]?) = frees.map some := by rfl) (hs : ∀ x, foldedSetIterable iter X.env x = pure x := by intro _; rfl)
    (hsw : swapsWith (.ListComp elt [⟨tg, iter, [cnd], 0⟩] scope pos) (some (.Name x pos')) spos.line X.env = pure true := by rfl) (hf : X.fn x = true ∨ X.env.scope.names.lookup x = some .local := by first | exact .inl rfl | exact .inr rfl | assumption) :
    PS X (.Assign [.Name x pos'] (.ListComp elt [⟨tg, iter, [cnd], 0⟩] scope pos) spos) (upS X.mg N (sSet i (dComp k ix it tt te))) :=
  ds_w (ps_comp hNd hi' hx hi hg (fun c => PIf.one (ht c)) he S hc hN hs hsw hf) fun Q σ H q => by
    obtain ⟨A, ι, τ, R, Z, q, k⟩ := q
    exact up_comp (own := own) hk (fun _ σ H Q h => h) ⟨A, ι, τ, _, Z, q, fun v A1 ι1 H1 u q1 e1 r1 v1 => (k.nx.from e1).here ((Z.next e1 r1).set v1) q1⟩
end
end DP
namespace DP
open PySem PySem.Spec PyProof.Rows L2
abbrev DTO := DSt → Ar → (Option Int → Ar → Prop) → Prop
def upO (mg : Str → Option Value) (N : En) (m : DTO) : TO := fun σ H Q => ∃ A ι τ R, Sim mg N A ι τ σ H ∧ m τ A R ∧ ∀ o A' ι' H', R o A' → Ext A ι H A' ι' H' → RA mg ι' H' A' → Q o H'
def oN : DTO := fun _ A R => R none A
def oS (m : DTE) : DTO := fun τ A R => m τ A fun x A1 => match x with
  | .int i => R (some i) A1
  | _ => False
def cutD (xs : List D) (lo hi : Option Int) : List D := (xs.drop (HT.sIx xs.length 0 lo)).take (HT.sIx xs.length xs.length hi - HT.sIx xs.length 0 lo)
@[irreducible] def slR (r : Nat) (lo hi : Option Int) (A : Ar) (R : DK) : Prop := match A[r]? with
  | some (.lst xs) => R (.ref A.length) (A ++ [.lst (cutD xs lo hi)])
  | _ => False
section
variable {X : Cx} {N : En} {pos p2 : Pos} {e : Expr} {lo hi : Option Expr} {m : DTE} {l u : DTO}
theorem do_w {t t' : TO} (h : PO X lo t) (w : ∀ σ H Q, t' σ H Q → t σ H Q) : PO X lo t' := fun pins s σ H Q I q => h pins s σ H Q I (w σ H Q q)
theorem do_none : PO X none (upO X.mg N oN) := do_w po_none fun σ H Q q => by
  obtain ⟨A, ι, τ, R, S, q, k⟩ := q
  exact k none A ι H q S.ra.refl S.ra
theorem do_some (h : PE X e (up X.mg N m)) : PO X (some e) (upO X.mg N (oS m)) := do_w (po_some h) fun σ H Q q => by
  obtain ⟨A, ι, τ, R, S, q, k⟩ := q
  refine ⟨A, ι, τ, _, S, q, fun x A1 ι1 H1 u q1 e1 r1 v1 => ?_⟩
  cases x with
  | int i => exact ⟨i, v1, k (some i) A1 ι1 H1 q1 e1 r1⟩
  | _ => exact q1.elim
end
def strsD : List D → Option (List Str)
  | [] => some []
  | .str b :: r => (strsD r).map (b :: ·)
  | _ :: _ => none
theorem strs_V {mg : Str → Option Value} {ι : Io} {n : Nat} {H : Hp} : ∀ {ds : List D} {us : List V} {bs : List Str}, strsD ds = some bs → RVs mg ι n H ds us → us = bs.map V.str
  | [], us, bs, h, r => by cases h; exact r
  | d :: ds, us, bs, h, r => by
    obtain ⟨x, r', rfl, h1, h2⟩ := r
    cases d with
    | str b =>
      cases q : strsD ds with
      | none => simp [strsD, q] at h
      | some l =>
        simp [strsD, q] at h
        subst h
        rw [strs_V q h2]
        cases h1; rfl
    | _ => simp [strsD] at h
theorem RVs.strs {mg : Str → Option Value} {ι : Io} {H : Hp} : ∀ (ns : List Str) {n : Nat}, RVs mg ι n H (ns.map D.str) (ns.map V.str)
  | [], _ => rfl
  | i :: r, n => ⟨_, _, rfl, rfl, RVs.strs r⟩
@[irreducible] def srtR (r : Nat) (A : Ar) (R : DK) : Prop := match A[r]? with
  | some (.lst xs) => (match strsD xs with
    | some ss => ss.length < 64 ∧ ∀ ys : List Str, ys.Pairwise strLt → (∀ x, x ∈ ys ↔ x ∈ ss) → R (.ref A.length) (A ++ [.lst (ys.map D.str)])
    | none => False)
  | _ => False
def srtD : DCb := fun vs A R => match vs with
  | [.ref r] => srtR r A R
  | _ => False
theorem de_sortset {X : Cx} {N : En} {e : Expr} {n : DTA} {p1 p2 pos1 pos2 : Pos} (hms : X.mg "sorted" = none) (hmt : X.mg "set" = none) (hc : X.calm = true) (ha : PA X [e] (upA X.mg N n)) (hgs : Gl X "sorted" := by rfl) (hgt : Gl X "set" := by rfl)
    (hs : starEach [e] X.env = [(false, eval e X.env)] := by rfl) (hz : starEach [.Call (.Name "set" p2) [e] [] pos2] X.env = [(false, eval (.Call (.Name "set" p2) [e] [] pos2) X.env)] := by rfl) :
    PE X (.Call (.Name "sorted" p1) [.Call (.Name "set" p2) [e] [] pos2] [] pos1) (up X.mg N (dCb srtD n)) := de_w (pe_sortset hms hmt hc ha hgs hgt hs hz) fun σ H Q q => by
  obtain ⟨A, ι, τ, R, S, q, k⟩ := q
  refine ⟨A, ι, τ, _, S, q, fun vs A1 ι1 H1 us q1 e1 r1 v1 => ?_⟩
  match vs, q1, v1 with
  | [.ref r], q1, v1 =>
    obtain ⟨_, _, rfl, ⟨_, rfl⟩, rfl⟩ := v1
    have q1 : srtR r A1 R := q1
    unfold srtR at q1
    split at q1
    · rename_i xs e
      split at q1
      · rename_i ss es
        obtain ⟨us, h1, h2⟩ := r1.lst e
        exact ⟨_, ss, rfl, SqL.of (by rw [h1, strs_V es h2]), q1.1, fun l ys hl hp hm => new_lst (k.from e1) r1 (RVs.strs ys) (q1.2 ys hp hm) hl⟩
      · exact q1.elim
    · exact q1.elim
section
variable {mg : Str → Option Value} {ι : Io} {H : Hp} {n : Nat}
end
section
variable {mg : Str → Option Value} {K : PySem.W.Frag} {ι : Io} {H : Hp} {n : Nat}
end
end DP
namespace DP
open PySem PySem.Spec PyProof.Rows L2
def noX : DX := fun _ _ => False
theorem pass0D {X : Cx} {N : En} {P : Program} {w : World} : Passes (CX1 P w) X (EL X.mg N noX) := fun pins σ H s e s' I h => by
  obtain ⟨a, C, H', _, _, c, A', ι', _, _, _, z⟩ := h
  exact z.elim
theorem kit_bool {K : PySem.W.Frag} : ∀ t ∈ tys, PySem.W.kitOne K (.type t) (.type "bool") = some (isT t "bool") := by
  intro t ht
  simp only [tys, List.mem_cons, List.not_mem_nil, or_false] at ht
  rcases ht with rfl | rfl | rfl | rfl | rfl | rfl | rfl <;> rfl
theorem kit_int {K : PySem.W.Frag} : ∀ t ∈ tys, PySem.W.kitOne K (.type t) (.type "int") = some (isT t "int") := by
  intro t ht
  simp only [tys, List.mem_cons, List.not_mem_nil, or_false] at ht
  rcases ht with rfl | rfl | rfl | rfl | rfl | rfl | rfl <;> rfl
theorem kit_str {K : PySem.W.Frag} : ∀ t ∈ tys, PySem.W.kitOne K (.type t) (.type "str") = some (isT t "str") := by
  intro t ht
  simp only [tys, List.mem_cons, List.not_mem_nil, or_false] at ht
  rcases ht with rfl | rfl | rfl | rfl | rfl | rfl | rfl <;> rfl
theorem kit_tuple {K : PySem.W.Frag} : ∀ t ∈ tys, PySem.W.kitOne K (.type t) (.type "tuple") = some (isT t "tuple") := by
  intro t ht
  simp only [tys, List.mem_cons, List.not_mem_nil, or_false] at ht
  rcases ht with rfl | rfl | rfl | rfl | rfl | rfl | rfl <;> rfl
end DP
namespace DP
open PySem PySem.Spec PyProof.Rows L2
theorem cI {b : Bool} {X Y : Prop} (h1 : b = true → X) (h2 : b = false → Y) : cond b X Y := by
  cases b with
  | true => exact h1 rfl
  | false => exact h2 rfl
theorem cD {p : Prop} [Decidable p] {X Y : Prop} (h1 : p → X) (h2 : ¬ p → Y) : cond (decide p) X Y := cI (fun e => h1 (of_decide_eq_true e)) fun e => h2 (of_decide_eq_false e)
theorem cN {p : Prop} [Decidable p] {X Y : Prop} (h1 : ¬ p → X) (h2 : p → Y) : cond (!decide p) X Y := cI (fun e => h1 (of_decide_eq_false (by simpa using e))) fun e => h2 (of_decide_eq_true (by simpa using e))
def But (t : Nat) (A A' : Ar) : Prop := ∀ q c, q ≠ t → A[q]? = some c → A'[q]? = some c
theorem But.trans {t : Nat} {A B C : Ar} (a : But t A B) (b : But t B C) : But t A C := fun q c n h => b q c n (a q c n h)
theorem But.set {t : Nat} {A : Ar} {c : C} : But t A (A.set t c) := fun q d n h => by rw [List.getElem?_set_ne (Ne.symm n)]; exact h
def Tw (t n : Nat) (A : Ar) : Prop := ∃ xs, A[t]? = some (.lst xs) ∧ xs.length ≤ n
theorem Tw.mono {t n m : Nat} {A : Ar} (h : Tw t n A) (l : n ≤ m) : Tw t m A := let ⟨xs, a, b⟩ := h; ⟨xs, a, Nat.le_trans b l⟩
theorem getElem?_push {A T : Ar} {q : Nat} {c : C} (h : A[q]? = some c) : (A ++ T)[q]? = some c := by
  have := (List.getElem?_eq_some_iff.mp h).1
  rw [List.getElem?_append_left this]; exact h
def Gr (A A' : Ar) : Prop := ∃ T, A' = A ++ T
theorem Gr.refl {A : Ar} : Gr A A := ⟨[], by simp⟩
theorem Gr.push {A T : Ar} : Gr A (A ++ T) := ⟨T, rfl⟩
theorem Gr.trans {A B C : Ar} (a : Gr A B) (b : Gr B C) : Gr A C := by
  obtain ⟨T, rfl⟩ := a
  obtain ⟨T', rfl⟩ := b
  exact ⟨T ++ T', by simp⟩
theorem Gr.get {A B : Ar} (a : Gr A B) {q : Nat} {c : C} (h : A[q]? = some c) : B[q]? = some c := by
  obtain ⟨T, rfl⟩ := a
  exact getElem?_push h
theorem Gr.but {A B : Ar} {t : Nat} (a : Gr A B) : But t A B := fun _ _ _ h => a.get h
theorem Tw.gr {A B : Ar} {t n : Nat} (h : Tw t n A) (a : Gr A B) : Tw t n B := let ⟨xs, x, y⟩ := h; ⟨xs, a.get x, y⟩
def SCell : Ct := fun ds A R _ => ∃ ns k, ds = [.fl ns, .int k] ∧ 0 ≤ k ∧ ∀ i A', Gr A A' → R (.int i) A'
def SMixed : Ct := fun ds A R _ => ∃ ns k m, ds = [.fl ns, .int k, .int m] ∧ 0 ≤ k ∧ 0 < m ∧ ∀ i A', 0 ≤ i → i < m → Gr A A' → R (.int i) A'
def SDraw : Ct := fun ds A R _ => ∃ ns t m n, ds = [.fl ns, .ref t, .int m] ∧ Tw t n A ∧ n < 1000000 ∧ 0 < m ∧ ∀ i A', 0 ≤ i → i < m → But t A A' → Tw t (n + 1) A' → R (.int i) A'
def SPick : Ct := fun ds A R _ => ∃ ns t q xs n, ds = [.fl ns, .ref t, .ref q] ∧ q ≠ t ∧ A[q]? = some (.lst xs) ∧ xs ≠ [] ∧ Tw t n A ∧ n < 1000000 ∧ ∀ x A', x ∈ xs → But t A A' → Tw t (n + 1) A' → R x A'
theorem atI_some' {α : Type} {xs : List α} {k : Int} (h0 : 0 ≤ k) (h : k < (xs.length : Int)) : ∃ v, atI xs k = some v ∧ v ∈ xs := by
  have hk : k.toNat < xs.length := by omega
  refine ⟨xs[k.toNat], ?_, List.getElem_mem hk⟩
  unfold atI ixN
  rw [if_pos h0, if_pos h]
  simp [List.getElem?_eq_getElem hk]
end DP
namespace DP
open PySem PySem.Spec PyProof.Rows L2
theorem lay_ints : ∀ ns : List Int, PyData.canLayAll0 (ns.map PyData.int) = true
  | [] => by simp [PyData.canLayAll0]
  | n :: r => by simp [PyData.canLayAll0, PyData.canLay0, lay_ints r]
theorem last_get {A : Ar} {c : C} : (A ++ [c])[A.length]? = some c := by simp
theorem eq_fl_nil {ns : List Int} {A : Ar} {R : DK} (h : R (.bl (decide (ns = []))) (A ++ [.lst []])) : dataEq false (.fl ns) (.ref A.length) (A ++ [.lst []]) R := by
  unfold dataEq
  have e1 : toP (A ++ [.lst []]) (.ref A.length) = .list [] := by unfold toP; simp only [last_get]; rfl
  have e0 : toP (A ++ [.lst []]) (.fl ns) = .list (ns.map PyData.int) := by unfold toP; rfl
  refine ⟨rfl, ?_, ?_, ?_, ?_, ?_⟩
  · unfold okP; simp only [last_get]; rfl
  · rw [e0]; simpa [PyData.canLay0] using lay_ints ns
  · rw [e1]; simp [PyData.canLay0, PyData.canLayAll0]
  · rw [e1]; simp [PyData.depth, PyData.depthAll]; omega
  · rw [e0, e1]
    have e : PyData.eqv (.list (ns.map PyData.int)) (.list []) = decide (ns = []) := by cases ns <;> simp [PyData.eqv, PyData.eqvAll]
    rw [if_neg Bool.false_ne_true, e]
    exact h
end DP
namespace DP
open PySem PySem.Spec PyProof.Rows L2
section
variable {A : Ar} {r q t : Nat} {xs ys : List D} {kvs : List (Key × D)} {R : DK}
theorem isL_of (h : A[r]? = some (.lst xs)) : isL A (.ref r) = true := by unfold isL; simp only [h]
theorem app_ok {y : D} (h : A[r]? = some (.lst xs)) (hz : xs.length < sizeLine) (k : R .non (A.set r (.lst (xs ++ [y])))) : appR r y A R := by
  unfold appR
  simp only [h]
  exact ⟨hz, k⟩
theorem ext_ok (h : A[r]? = some (.lst xs)) (h2 : A[q]? = some (.lst ys)) (hz : xs.length + ys.length ≤ sizeLine) (k : R .non (A.set r (.lst (xs ++ ys)))) : extR r q A R := by
  unfold extR
  simp only [h, h2]
  exact ⟨hz, k⟩
theorem len_ok (h : A[r]? = some (.lst xs)) (k : R (.int xs.length) A) : lenR r A R := by
  unfold lenR
  simp only [h]
  exact k
theorem ix_ok {i : Int} {v : D} (h : A[r]? = some (.lst xs)) (hi : atI xs i = some v) (k : R v A) : ixR r (.int i) A R := by
  unfold ixR
  simp only [h, hi]
  exact k
theorem tup_ok (h : A[r]? = some (.lst xs)) (k : R (.tup xs) A) : tupR r A R := by
  unfold tupR
  simp only [h]
  exact k
theorem get_set (h : A[t]? = some (.lst xs)) : (A.set t (.lst ys))[t]? = some (.lst ys) := by
  rw [List.getElem?_set_self (List.getElem?_eq_some_iff.mp h).1]
theorem lt_of_get {c : C} (h : A[t]? = some c) : t < A.length := (List.getElem?_eq_some_iff.mp h).1
end
end DP
namespace DP
open PySem PySem.Spec PyProof.Rows L2
end DP
namespace DP
open PySem PySem.Spec PyProof.Rows L2
def sTry (okc : List Str) (len i : Nat) (m : DX → DTS) (th : DTS) : DTS := fun R τ A => m (fun c A' => c ∈ okc ∧ th { nx := fun _ _ => False, rt := R.rt } ((List.replicate len none).set i (some (.exc c))) A') R τ A
theorem ds_try {X : Cx} {N : En} {D : Addr} {i : Nat} {n cn : Str} {b₀ : Stmt} {suite body : List Stmt} {m : DX → DTS} {th : DTS} {np hpos pos : Pos} (okc : List Str) (hex : X.ex = []) (hst : X.stack = X.env :: X.outer) (hfr : X.env.frame = some X.env.locals) (hN : X.N.Nodup) (hi : X.N[i]? = some n) (hl : X.env.scope.names.lookup n = some .local) (hm : X.mg cn = some (.ref D))
    (hok : ∀ c C, c ∈ okc → X.mg c = some (.ref C) → PySem.W.exmOne X.K (.ref C) (.ref D) = some true)
    (hb : ∀ (M : En) (RE : DX) (pn : List (Addr × Obj)) (E : Value → Shared → Prop), Passes (CX1 X.prog X.w) (X.tried pn E) (EL X.mg M RE) → PSs (X.tried pn E) body (upS X.mg M (m RE))) (hh : ∀ (M : En) (e : Addr), PSs (X.inExc e) (b₀ :: suite) (upS X.mg M th))
    (hg : Gl X cn := by rfl) (hdb : (cn == ("__debug__" : Str)) = false := by decide) :
    PS X (.Try body [.ExceptHandler (some (.Name cn np)) (some n) (b₀ :: suite) hpos] [] [] pos) (upS X.mg N (sTry okc X.N.length i m th)) := by
  intro pins s σ H Dn I q
  obtain ⟨A, ι, τ, R, S, q, k⟩ := q
  refine ps_try (tb := fun pn E Ex Q σ' H' => ∃ RE : DX, (∀ C a H', EL X.mg ⟨A, ι, H⟩ RE C a H' → Ex C none H') ∧ upS X.mg ⟨A, ι, H⟩ (m RE) Q σ' H') (th := upS X.mg ⟨A, ι, H⟩ th) hex hst hfr hN hi hl hm (fun pn E Ex hx => ?_) (hh ⟨A, ι, H⟩) hg hdb pins s σ H Dn I ?_
  · intro pins' s' σ' H' Q I' z
    obtain ⟨RE, hE, z⟩ := z
    exact hb ⟨A, ι, H⟩ RE pn E (fun pins σ H1 s1 e s' I z => hx pins σ H1 s1 e s' I (by
      obtain ⟨a, C, H2, h1, h2, h3⟩ := z
      exact ⟨a, C, H2, h1, h2, hE _ _ _ h3⟩)) pins' s' σ' H' Q I' z
  · intro pn E
    refine ⟨_, fun C a0 H' z => ?_, A, ι, τ, R, ⟨S.ra, S.rs, S.ra.refl⟩, q, k⟩
    obtain ⟨c, A', ι', ⟨Ca, rfl, hc⟩, e, r, hin, ht⟩ := z
    refine ⟨Ca, rfl, hok c Ca hin hc, fun a σ' hlen ha => ?_⟩
    have E1 := r.ext_fix (o := excO a Ca) ha
    have r1 := r.fix E1 fun b o z => by rw [upd_ne (ne_of_none z ha)]; exact z
    refine ⟨A', ι', _, _, ⟨r1, ⟨by simp [hlen], fun j d hj => ?_⟩, e.trans E1⟩, ht, ⟨fun _ _ _ _ _ z _ _ _ => z.elim, k.rt.from (e.trans E1), fun _ _ _ _ _ z _ _ _ => z.elim, fun _ _ _ _ _ z _ _ _ => z.elim⟩⟩
    by_cases hji : j = i
    · subst hji
      by_cases hlt : j < X.N.length
      · rw [lk_set_self _ _ _ (by simpa using hlt)] at hj
        cases hj
        exact ⟨.ref a, by rw [List.getElem?_set_self (by rw [hlen]; exact hlt)], a, Ca, rfl, hc, upd_same⟩
      · rw [List.set_eq_of_length_le (by simp; omega), lk_get, List.getElem?_eq_none (by simp; omega)] at hj
        cases hj
    · rw [lk_set_ne _ _ _ _ hji, lk_get, List.getElem?_replicate] at hj
      split at hj <;> simp at hj
end DP
namespace L2
open PySem PySem.Spec PyProof.Rows
section
variable {X : Cx} {D : Addr} {cn : Str} {b₀ : Stmt} {suite body : List Stmt} {tb : List (Addr × Obj) → (Value → Shared → Prop) → XK → TS} {th : TS} {np hpos pos : Pos}
end
end L2
namespace DP
open PySem PySem.Spec PyProof.Rows L2
end DP
namespace DP
open PySem PySem.Spec PyProof.Rows L2 MA
theorem cloop_map {k : Option Nat} {fr : DSt} {te : DTE} {chk : Ar → Prop} {R : List D → Ar → Prop} {A : Ar} (hc : chk A) (f : D → D) : ∀ (items ys : List D), (∀ x ∈ items, ∃ vs, unp k x = some vs ∧ ∀ Q : DK, Q (f x) A → te (vs.map some ++ fr) A Q) → ys.length + items.length ≤ sizeLine → R (ys ++ items.map f) A → cLoopD chk k fr tt0 te R items ys A
  | [], ys, _, _, h => ⟨hc, by simpa using h⟩
  | x :: xs, ys, hx, hl, h => by
    obtain ⟨vs, hu, ht⟩ := hx x (List.mem_cons_self ..)
    refine ⟨hc, ?_⟩
    rw [hu]
    refine ht _ ⟨by simp at hl; omega, cloop_map hc f xs (ys ++ [f x]) (fun y hy => hx y (List.mem_cons_of_mem _ hy)) (by simp at hl ⊢; omega) (by simpa using h)⟩
theorem bls_map {α : Type} (f : α → Bool) : ∀ xs : List α, bls (xs.map fun x => D.bl (f x)) = some (xs.map f)
  | [] => rfl
  | x :: r => by simp [bls, bls_map f r]
theorem strs_map {α : Type} (f : α → Str) : ∀ xs : List α, strsD (xs.map fun x => D.str (f x)) = some (xs.map f)
  | [] => rfl
  | x :: r => by simp [strsD, strs_map f r]
theorem all_ok {A : Ar} {r : Nat} {xs : List D} {bs : List Bool} {R : DK} (h : A[r]? = some (.lst xs)) (hb : bls xs = some bs) (k : R (.bl (bs.all id)) A) : allR r A R := by
  unfold allR
  simp only [h, hb]
  exact k
theorem srt_ok {A : Ar} {r : Nat} {xs : List D} {ss : List Str} {R : DK} (h : A[r]? = some (.lst xs)) (hb : strsD xs = some ss) (h2 : ss.length < 64) (k : ∀ ys : List Str, ys.Pairwise strLt → (∀ x, x ∈ ys ↔ x ∈ ss) → R (.ref A.length) (A ++ [.lst (ys.map D.str)])) : srtR r A R := by
  unfold srtR
  simp only [h, hb]
  exact ⟨h2, k⟩
theorem it_ok {A : Ar} {r : Nat} {xs : List D} {R : List D → (Ar → Prop) → Ar → Prop} (h : A[r]? = some (.lst xs)) (k : R xs (fun A' => A'[r]? = some (.lst xs)) A) : itR r A R := by
  unfold itR
  simp only [h]
  exact k
structure Nm (n : Str) : Prop where
  lo : 1 ≤ n.length
  hi : n.length ≤ 3
  az : ∀ c ∈ n.cps.toList, 97 ≤ c ∧ c ≤ 122
end DP
namespace DP
open PySem PySem.Spec PyProof.Rows L2 MA
end DP
namespace DP
open PySem PySem.Spec PyProof.Rows L2 MA
def rowD (r : Str × Int) : D := .tup [.str r.1, .int r.2]
def encW (rs : List (Str × Int)) : D := .tup (rs.map rowD)
structure WOk (rs : List (Str × Int)) : Prop where
  nm : ∀ r ∈ rs, Nm r.1
  no : ∀ r ∈ rs, 1 ≤ r.2 ∧ r.2 ≤ 999999
  up : (rs.map (·.1)).Pairwise strLt
  len : rs.length < 64
end DP
namespace DP
open PySem PySem.Spec PyProof.Rows L2 MA
theorem cloop_gr {k : Option Nat} {fr : DSt} {te : DTE} {chk : Ar → Prop} {R : List D → Ar → Prop} (f : D → D) : ∀ (items ys : List D) (A : Ar), (∀ A', Gr A A' → chk A') → (∀ x ∈ items, ∀ A', Gr A A' → ∃ vs, unp k x = some vs ∧ ∀ Q : DK, (∀ A'', Gr A' A'' → Q (f x) A'') → te (vs.map some ++ fr) A' Q) → ys.length + items.length ≤ sizeLine → (∀ A', Gr A A' → R (ys ++ items.map f) A') → cLoopD chk k fr tt0 te R items ys A
  | [], ys, A, hc, _, _, h => ⟨hc A Gr.refl, by simpa using h A Gr.refl⟩
  | x :: xs, ys, A, hc, hx, hl, h => by
    obtain ⟨vs, hu, ht⟩ := hx x (List.mem_cons_self ..) A Gr.refl
    refine ⟨hc A Gr.refl, ?_⟩
    rw [hu]
    refine ht _ fun A1 g1 => ⟨by simp at hl; omega, cloop_gr f xs (ys ++ [f x]) A1 (fun A' g => hc A' (g1.trans g)) (fun y hy A' g => hx y (List.mem_cons_of_mem _ hy) A' (g1.trans g)) (by simp at hl ⊢; omega) (fun A' g => by simpa using h A' (g1.trans g))⟩
theorem Nm.ok {n : Str} (h : Nm n) : PyData.canLay0 (.str n) = true := by
  have e : n.cps.all (fun c => decide (c < 0x110000)) = true := by
    rw [← Array.all_toList, List.all_eq_true]
    intro c hc
    have := h.az c hc
    exact decide_eq_true (by omega)
  simpa [PyData.canLay0, PyData.strOk] using e
theorem pur_strs : ∀ ss : List Str, purs (ss.map D.str) = true
  | [] => rfl
  | s :: r => by simp [purs, pur, pur_strs r]
theorem q_strs : ∀ ss : List Str, toQs (ss.map D.str) = ss.map PyData.str
  | [] => rfl
  | s :: r => by simp [toQs, toQ, q_strs r]
theorem lay_strs : ∀ ss : List Str, (∀ n ∈ ss, Nm n) → PyData.canLayAll0 (ss.map PyData.str) = true
  | [], _ => by simp [PyData.canLayAll0]
  | s :: r, h => by
    have h1 := (h s (List.mem_cons_self ..)).ok
    have h2 := lay_strs r fun n hn => h n (List.mem_cons_of_mem _ hn)
    simp [PyData.canLayAll0, h1, h2]
theorem dep_strs : ∀ ss : List Str, PyData.depthAll (ss.map PyData.str) = 0
  | [] => by simp [PyData.depthAll]
  | s :: r => by simp [PyData.depthAll, PyData.depth, dep_strs r]
theorem eqv_strs : ∀ ss ts : List Str, PyData.eqvAll (ss.map PyData.str) (ts.map PyData.str) = decide (ss = ts)
  | [], [] => by simp [PyData.eqvAll]
  | [], _ :: _ => by simp [PyData.eqvAll]
  | _ :: _, [] => by simp [PyData.eqvAll]
  | s :: r, t :: u => by
    simp only [List.map_cons, PyData.eqvAll, PyData.eqv, eqv_strs r u]
    by_cases h1 : s = t
    · by_cases h2 : r = u <;> simp [h1, h2]
    · simp [h1]
theorem eq_strs {A : Ar} {r q : Nat} {ss ts : List Str} {R : DK} (h1 : A[r]? = some (.lst (ss.map D.str))) (h2 : A[q]? = some (.lst (ts.map D.str))) (n1 : ∀ n ∈ ss, Nm n) (n2 : ∀ n ∈ ts, Nm n) (k : R (.bl (decide (ss = ts))) A) : dataEq false (.ref r) (.ref q) A R := by
  have e1 : toP A (.ref r) = .list (ss.map PyData.str) := by unfold toP; simp only [h1, q_strs]
  have e2 : toP A (.ref q) = .list (ts.map PyData.str) := by unfold toP; simp only [h2, q_strs]
  unfold dataEq
  rw [e1, e2]
  refine ⟨by unfold okP; simp only [h1, pur_strs], by unfold okP; simp only [h2, pur_strs], by simpa [PyData.canLay0] using lay_strs ss n1, by simpa [PyData.canLay0] using lay_strs ts n2, by simp [PyData.depth, dep_strs], ?_⟩
  rw [if_neg Bool.false_ne_true]
  show R (.bl (PyData.eqv (.list _) (.list _))) A
  rw [show PyData.eqv (.list (ss.map PyData.str)) (.list (ts.map PyData.str)) = decide (ss = ts) by simp only [PyData.eqv, eqv_strs]]
  exact k
end DP
namespace DP
open PySem PySem.Spec PyProof.Rows L2 MA
end DP
namespace DP
open PySem PySem.Spec PyProof.Rows L2 MA
end DP
namespace DP
open PySem PySem.Spec PyProof.Rows L2 MA
end DP
namespace DP
open PySem PySem.Spec PyProof.Rows L2 MA
structure Dr (t : Nat) (A A' : Ar) (n k : Nat) : Prop where
  but : But t A A'
  tw : Tw t (n + k) A'
end DP
namespace DP
open PySem PySem.Spec PyProof.Rows L2 MA
end DP
namespace DP
open PySem PySem.Spec PyProof.Rows L2 MA
end DP
namespace DP
open PySem PySem.Spec PyProof.Rows L2 MA
end DP
namespace DP
open PySem PySem.Spec PyProof.Rows L2
def KEr (K : PySem.W.Frag) (mg : Str → Option Value) (cv : Value) (ans : Str → Option Bool) : Prop := ∀ c C b, ans c = some b → mg c = some (.ref C) → ExcK K C ∧ PySem.W.kitOne K (.ref C) cv = some b
def dIsE (ans : Str → Option Bool) (m : DTE) : DTE := fun τ A R => m τ A fun v A1 => match v with
  | .exc c => (match ans c with
    | some b => R (.bl b) A1
    | none => False)
  | _ => False
section
variable {X : Cx} {N : En} {e : Expr} {m : DTE} {p p2 pos : Pos} {x : Str} {ans : Str → Option Bool}
theorem up_isE {y : V} {cv : Value} (hy : ∀ u, RelV y u → u = cv) (hk : KEr X.K X.mg cv ans) {σ : L2.St} {H : Hp} {Q : VK} (q : up X.mg N (dIsE ans m) σ H Q) : up X.mg N m σ H (fun v H' => ∃ (a : Addr) (z : V) (C : Addr) (c : Value) (b : Bool), [v, y] = [.ref a, z] ∧ (∀ u, RelV z u → u = c) ∧ H' a = some (excO a C) ∧ ExcK X.K C ∧ PySem.W.kitOne X.K (.ref C) c = some b ∧ Q (.bl b) H') := by
  obtain ⟨A, ι, τ, R, S, q, k⟩ := q
  refine ⟨A, ι, τ, _, S, q, fun v A1 ι1 H1 u q1 e1 r1 v1 => ?_⟩
  cases v with
  | exc c =>
    obtain ⟨a, C, rfl, hc, ho⟩ := v1
    have q1 : (match ans c with | some b => R (.bl b) A1 | none => False) := q1
    split at q1
    · rename_i b hb
      obtain ⟨z1, z2⟩ := hk c C b hb hc
      exact ⟨a, y, C, cv, b, rfl, hy, ho, z1, z2, (k.from e1).here r1 q1 rfl⟩
    · exact q1.elim
  | _ => exact q1.elim
theorem de_isE {D : Addr} (hm : X.mg "isinstance" = none) (hx : X.mg x = some (.ref D)) (hk : KEr X.K X.mg (.ref D) ans) (ha : PE X e (up X.mg N m)) (hg : Gl X "isinstance" := by rfl) (hgx : Gl X x := by rfl) (hdb : (x == ("__debug__" : Str)) = false := by decide)
    (hs : starEach [e, .Name x p2] X.env = [(false, eval e X.env), (false, eval (.Name x p2) X.env)] := by rfl) :
    PE X (.Call (.Name "isinstance" p) [e, .Name x p2] [] pos) (up X.mg N (dIsE ans m)) := by
  have hT : PE X (.Name x p2) (tC (.ref D)) := pe_glob hgx hx rfl hdb
  exact de_w (pe_callB call_isE hg hm boot_isinstance (pa_cons ha (pa_cons hT pa_nil rfl) (by rw [hs]; rfl)) (by decide) (by decide) (by rw [hs]; rfl) rfl) fun σ H Q q => up_isE (y := .ref D) (fun _ r => r) hk q
theorem de_isEB {c : String} (hm : X.mg "isinstance" = none) (hmx : X.mg x = none) (hvx : bootBuiltins x = some (.type c)) (hk : KEr X.K X.mg (.type c) ans) (ha : PE X e (up X.mg N m)) (hg : Gl X "isinstance" := by rfl) (hgx : Gl X x := by rfl) (hn : x ≠ "__name__" := by decide) (hdb : (x == ("__debug__" : Str)) = false := by decide)
    (hs : starEach [e, .Name x p2] X.env = [(false, eval e X.env), (false, eval (.Name x p2) X.env)] := by rfl) :
    PE X (.Call (.Name "isinstance" p) [e, .Name x p2] [] pos) (up X.mg N (dIsE ans m)) := by
  have hT : PE X (.Name x p2) (tC (.ty c)) := pe_bltn hgx hmx hvx rfl hn hdb
  exact de_w (pe_callB call_isE hg hm boot_isinstance (pa_cons ha (pa_cons hT pa_nil rfl) (by rw [hs]; rfl)) (by decide) (by decide) (by rw [hs]; rfl) rfl) fun σ H Q q => up_isE (y := .ty c) (fun _ r => r) hk q
end
section
variable {X : Cx} {N : En} {k n : Nat} {x : Str} {ps : List Str} {S : Ct} {e : Expr} {es : List Expr} {m : DTA} {p pos : Pos}
theorem de_callH (F : FnH X.prog X.w X.K X.mg X.base k x ps (spOf X.mg n S)) (hr : RoomH k X.A) (ha : PA X (e :: es) (upA X.mg N m)) (hg : Gl X x := by rfl) (hdb : (x == ("__debug__" : Str)) = false := by decide)
    (he : starEach (e :: es) X.env = (false, eval e X.env) :: starEach es X.env := by rfl) (hpl : (backTo pos (starEach es X.env)).any (·.1) = false := by rfl) :
    PE X (.Call (.Name x p) (e :: es) [] pos) (up X.mg N (dCall n S (fun _ _ => False) m)) := de_w (pe_callH F hr ha hg hdb he hpl) fun σ H Q q => by
  obtain ⟨A, ι, τ, R, Z, q, k⟩ := q
  refine ⟨A, ι, τ, _, Z, q, fun vs A1 ι1 H1 us q1 e1 r1 v1 => ?_⟩
  show spOf X.mg n S (us ++ []) H1 Q E0
  rw [List.append_nil]
  exact ⟨A1, ι1, vs, R, _, q1.1, r1, v1, q1.2, k.from e1, fun c A2 ι2 H2 C q2 hc e2 r2 => q2.elim⟩
end
theorem fnHD {P : Program} {w : World} {K : PySem.W.Frag} {mg : Str → Option Value} {base : Heap} {x : Str} {st : Stmt} {Nm ps : List Str} {k n : Nat} {S : Ct} (T : TopD K mg x st ps) (Sc : FnScope Nm ps (defScope st)) (hn : ps.length = n) (hN : ps.length ≤ Nm.length)
    (hbody : ∀ (N : En) (f : Addr) (cdv : Value) (B : Around) (outer : List Env) (s : Shared) (H : Hp) (E : XK), RoomH k (B.deeper (envOfC x (defScope st) s.heap.objs.size f cdv)) →
      ∀ ds A R RE, S ds A R RE → ds.length = n → ∃ m, PSs ((cxOf CX0 P w K mg base Nm x (defScope st) f cdv { B with handled := Option.none } outer s H E).loud (B.deeper (envOfC x (defScope st) s.heap.objs.size f cdv))) (defBody st) (upS mg N m) ∧ m { nx := fun _ A' => R .non A', rt := R } (startD (Nm.length - n) ds) A) : FnH P w K mg base (k + 1) x ps (spOf mg n S) := by
  refine T.fnH Sc (fun vs H Q E h => ?_) fun f cdv A outer s H vs Q E hr h => ?_
  · obtain ⟨A, ι, ds, R, RE, hl, _, hv, _⟩ := h
    rw [← RVs.length hv, hl, hn]
  · obtain ⟨A0, ι0, ds, R, RE, hl, ra, hv, hS, kq, kx⟩ := h
    obtain ⟨m, hP, hm⟩ := hbody ⟨A0, ι0, H⟩ f cdv A outer s H E hr ds A0 R RE hS hl
    have hlv := RVs.length hv
    refine ⟨_, hP, A0, ι0, _, _, ⟨ra, ⟨?_, fun i d q => ?_⟩, ra.refl⟩, hm, ⟨fun τ A' ι' σ H' q e r _ => kq _ A' ι' H' _ q e r rfl, kq, fun _ _ _ _ _ q _ _ _ => q.elim, fun _ _ _ _ _ q _ _ _ => q.elim⟩⟩
    · simp [startD, L2.start]
      omega
    · obtain ⟨v, h1, h2⟩ := RVs.get hv (lk_start ds _ i d q)
      refine ⟨v, ?_, h2⟩
      have hi := (List.getElem?_eq_some_iff.mp h1).1
      unfold L2.start
      rw [List.getElem?_append_left (by simpa using hi), List.getElem?_map, h1]
      rfl
end DP
namespace DP
open PySem PySem.Spec PyProof.Rows L2
@[irreducible] def cntR (r : Nat) (b : Bool) (A : Ar) (R : DK) : Prop := match A[r]? with
  | some (.lst xs) => (match bls xs with
    | some bs => R (.int (bs.countP (· == b) : Nat)) A
    | none => False)
  | _ => False
def cntD : DMt := fun x vs A R => match x, vs with
  | .ref r, [.bl b] => cntR r b A R
  | _, _ => False
theorem d_count {mg : Str → Option Value} {K : PySem.W.Frag} : MtD mg K "list" rCount cntD := by
  intro x ds A ι H u us R Q ra rx rs h k
  unfold cntD at h
  split at h
  · obtain ⟨_, rfl⟩ := rx
    obtain ⟨v, _, rfl, rfl, rfl⟩ := rs
    unfold cntR at h
    split at h
    · rename_i xs e
      obtain ⟨ws, h1, r1⟩ := ra.lst e
      split at h
      · rename_i bs hb
        cases bls_V hb r1
        exact ⟨_, bs, _, rfl, rfl, h1, k.here ra h rfl⟩
      · exact h.elim
    · exact h.elim
  · exact h.elim
@[irreducible] def idxR (r : Nat) (b : Bool) (A : Ar) (R : DK) : Prop := match A[r]? with
  | some (.lst xs) => (match bls xs with
    | some bs => ∃ j : Nat, bs[j]? = some b ∧ (∀ m c, m < j → bs[m]? = some c → c ≠ b) ∧ R (.int (j : Nat)) A
    | none => False)
  | _ => False
def idxD : DMt := fun x vs A R => match x, vs with
  | .ref r, [.bl b] => idxR r b A R
  | _, _ => False
theorem d_index {mg : Str → Option Value} {K : PySem.W.Frag} : MtD mg K "list" rIndex idxD := by
  intro x ds A ι H u us R Q ra rx rs h k
  unfold idxD at h
  split at h
  · obtain ⟨_, rfl⟩ := rx
    obtain ⟨v, _, rfl, rfl, rfl⟩ := rs
    unfold idxR at h
    split at h
    · rename_i xs e
      obtain ⟨ws, h1, r1⟩ := ra.lst e
      split at h
      · rename_i bs hb
        cases bls_V hb r1
        obtain ⟨j, z1, z2, z3⟩ := h
        exact ⟨_, bs, _, j, rfl, rfl, h1, z1, z2, k.here ra z3 rfl⟩
      · exact h.elim
    · exact h.elim
  · exact h.elim
theorem cnt_ok {A : Ar} {r : Nat} {xs : List D} {bs : List Bool} {b : Bool} {R : DK} (h : A[r]? = some (.lst xs)) (hb : bls xs = some bs) (k : R (.int (bs.countP (· == b) : Nat)) A) : cntR r b A R := by
  unfold cntR
  simp only [h, hb]
  exact k
theorem idx_ok {A : Ar} {r : Nat} {xs : List D} {bs : List Bool} {b : Bool} {R : DK} (j : Nat) (h : A[r]? = some (.lst xs)) (hb : bls xs = some bs) (h1 : bs[j]? = some b) (h2 : ∀ m c, m < j → bs[m]? = some c → c ≠ b) (k : R (.int (j : Nat)) A) : idxR r b A R := by
  unfold idxR
  simp only [h, hb]
  exact ⟨j, h1, h2, k⟩
end DP
namespace L2
open PySem PySem.Spec PyProof.Rows
section
variable {X : Cx}
end
end L2
namespace DP
open PySem PySem.Spec PyProof.Rows L2
section
variable {X : Cx} {N : En} {pos : Pos} {a b : Expr} {ma mb : DTE}
end
end DP
namespace L2
open PySem PySem.Spec PyProof.Rows
section
variable {prog : Program} {w : World} {B : Around} {E : Value → Shared → Prop}
end
section
variable {X : Cx} {pos : Pos}
end
end L2
namespace DP
open PySem PySem.Spec PyProof.Rows L2
theorem Gr.set {A B : Ar} {r : Nat} {c : C} (g : Gr A B) (h : A.length ≤ r) : Gr A (B.set r c) := by
  obtain ⟨T, rfl⟩ := g
  exact ⟨T.set (r - A.length) c, by rw [List.set_append_right _ _ h]⟩
open MA
end DP
namespace DP
open PySem PySem.Spec PyProof.Rows L2
end DP
namespace DP
open PySem PySem.Spec PyProof.Rows L2 MA
section
variable {m : M} {s : Str → Rat} {B : Str → Int}
end
theorem dloop_I {chk : Ar → Prop} {g : DTG} {b : DTS} {R : DEnds} (J : List D → DSt → Ar → Prop) (hc : ∀ rest τ A, J rest τ A → chk A)
    (hs : ∀ x rest τ A, J (x :: rest) τ A → ∀ Nx : DSt → Ar → Prop, (∀ τ' A', J rest τ' A' → Nx τ' A') → g x τ A fun τ1 A1 => b { R with nx := Nx, ct := Nx, bk := R.nx } τ1 A1) (he : ∀ τ A, J [] τ A → R.nx τ A) : ∀ (items : List D) (τ : DSt) (A : Ar), J items τ A → dLoop chk g b R items τ A
  | [], τ, A, j => ⟨hc _ _ _ j, he _ _ j⟩
  | x :: rest, τ, A, j => ⟨hc _ _ _ j, hs _ _ _ _ j _ fun τ' A' j' => dloop_I J hc hs he rest τ' A' j'⟩
theorem cloop_I {k : Option Nat} {fr : DSt} {te : DTE} {chk : Ar → Prop} {R : List D → Ar → Prop} (J : List D → List D → Ar → Prop) (hc : ∀ rest ys A, J rest ys A → chk A) (hl : ∀ rest ys A, J rest ys A → ys.length ≤ sizeLine)
    (hs : ∀ x rest ys A, J (x :: rest) ys A → ∃ vs, unp k x = some vs ∧ ∀ Q : DK, (∀ y A4, J rest (ys ++ [y]) A4 → Q y A4) → te (vs.map some ++ fr) A Q) (he : ∀ ys A, J [] ys A → R ys A) : ∀ items ys A, J items ys A → cLoopD chk k fr tt0 te R items ys A
  | [], ys, A, j => ⟨hc _ _ _ j, he _ _ j⟩
  | x :: rest, ys, A, j => by
    obtain ⟨vs, hu, q⟩ := hs _ _ _ _ j
    refine ⟨hc _ _ _ j, ?_⟩
    rw [hu]
    refine q _ fun y A4 j4 => ⟨?_, cloop_I J hc hl hs he rest _ _ j4⟩
    have := hl _ _ _ j4
    simp at this
    omega
theorem cloop_fil {k : Option Nat} {fr : DSt} {tt : DTT} {te : DTE} {chk : Ar → Prop} {R : List D → Ar → Prop} {A : Ar} (hc : chk A) (p : D → Bool) (f : D → D) : ∀ (items ys : List D), (∀ x ∈ items, ∃ vs, unp k x = some vs ∧ (∀ Q : Bool → Ar → Prop, Q (p x) A → tt (vs.map some ++ fr) A Q) ∧ ∀ Q : DK, Q (f x) A → te (vs.map some ++ fr) A Q) → ys.length + items.length ≤ sizeLine → R (ys ++ (items.filter p).map f) A → cLoopD chk k fr tt te R items ys A
  | [], ys, _, _, h => ⟨hc, by simpa using h⟩
  | x :: xs, ys, hx, hl, h => by
    obtain ⟨vs, hu, ht, he⟩ := hx x (List.mem_cons_self ..)
    refine ⟨hc, ?_⟩
    rw [hu]
    simp at hl
    refine ht _ ?_
    cases hp : p x with
    | true =>
      rw [List.filter_cons_of_pos hp] at h
      exact he _ ⟨by omega, cloop_fil hc p f xs (ys ++ [f x]) (fun y hy => hx y (List.mem_cons_of_mem _ hy)) (by simp; omega) (by simpa using h)⟩
    | false =>
      rw [List.filter_cons_of_neg (by simp [hp])] at h
      exact cloop_fil hc p f xs ys (fun y hy => hx y (List.mem_cons_of_mem _ hy)) (by omega) h
end DP
namespace L2
open PySem PySem.Spec PyProof.Rows
def rSlS : V → Option Int → Option Int → Hp → VK → Prop := fun x lo hi H Q => ∃ z, x = .str z ∧ z.length ≤ sizeLine ∧ Q (.str (Txt.slice z lo hi)) H
theorem sl_str {X : Cx} : SlR X rSlS := by
  intro pins s σ H x v vl vu lo hi sl Q I rx hs pl pu h
  obtain ⟨z, rfl, hz, q⟩ := h
  obtain ⟨t, rfl⟩ := rx
  refine ⟨"str", _, F.slot_str_getitem.lookup, typeIs_str _ _ _, ?_⟩
  obtain ⟨o, ho, hc, hd⟩ := hs
  have fin : ∀ (l u : Option (Int × Tok)), vl = partValue l → vu = partValue u → l.map (·.1) = lo → u.map (·.1) = hi → wpAny (model X.prog X.w) X.A (getItem (.str z t) (.ref sl)) (EP X pins σ Q) X.xe s := fun l u e1 e2 e3 e4 => by
    refine wpAny_getItem_str_slice (l := l) (u := u) (st := none) ⟨o, ho, hc, by rw [hd, e1, e2]; rfl⟩ rfl ?_
    refine post_val_or_str ⟨?_, fun t' k => ?_⟩
    · have := Txt.slice_le z lo hi
      rw [← e3, ← e4] at this
      exact Nat.le_trans this hz
    · refine ⟨.str (Txt.slice z lo hi), H, I.kept fun b ob e => e, ⟨t', ?_⟩, q⟩
      rw [← e3, ← e4]
      rfl
  cases pl with
  | none =>
    cases pu with
    | none => exact fin none none rfl rfl rfl rfl
    | int j t2 => exact fin none (some (j, t2)) rfl rfl rfl rfl
  | int i t1 =>
    cases pu with
    | none => exact fin (some (i, t1)) none rfl rfl rfl rfl
    | int j t2 => exact fin (some (i, t1)) (some (j, t2)) rfl rfl rfl rfl
end L2
namespace DP
open PySem PySem.Spec PyProof.Rows L2
def slS (x : D) (lo hi : Option Int) (A : Ar) (R : DK) : Prop := match x with
  | .str z => z.length ≤ sizeLine ∧ R (.str (Txt.slice z lo hi)) A
  | _ => False
def dSls (m : DTE) (l u : DTO) : DTE := fun τ A R => m τ A fun x A1 => l τ A1 fun lo A2 => u τ A2 fun hi A3 => slS x lo hi A3 R
theorem de_sls {X : Cx} {N : En} {e : Expr} {m : DTE} {lo hi : Option Expr} {l u : DTO} {p2 pos : Pos} (he : PE X e (up X.mg N m)) (hl : PO X lo (upO X.mg N l)) (hu : PO X hi (upO X.mg N u)) : PE X (.Subscript e (.Slice lo hi none p2) pos) (up X.mg N (dSls m l u)) :=
  de_w (pe_slice sl_str he hl hu) fun σ H Q q => by
    obtain ⟨A, ι, τ, R, S, q, k⟩ := q
    refine ⟨A, ι, τ, _, S, q, fun x A1 ι1 H1 v q1 e1 r1 v1 => ?_⟩
    refine ⟨A1, ι1, τ, _, S.next e1 r1, q1, fun o2 A2 ι2 H2 q2 e2 r2 => ?_⟩
    refine ⟨A2, ι2, τ, _, (S.next e1 r1).next e2 r2, q2, fun o3 A3 ι3 H3 q3 e3 r3 => ?_⟩
    have e13 := (e1.trans e2).trans e3
    cases x with
    | str z =>
      cases v1
      exact ⟨z, rfl, q3.1, (k.from e13).here r3 q3.2 rfl⟩
    | _ => exact q3.elim
end DP
namespace L2
open PySem PySem.Spec PyProof.Rows PySem.SeqAt
open AutoSeq1 (wpAny_loadPart')
open MeetsSeq MeetsSeq2 MeetsSeq3 SeqRoads2
end L2
namespace L2
open PySem PySem.Spec PyProof.Rows PySem.SeqAt
end L2
namespace L2
open PySem PySem.Spec PyProof.Rows PySem.SeqAt
section
variable {prog : Program} {w : World} {A : Around} {E : Value → Shared → Prop} {s : Shared}
end
end L2
namespace L2
open PySem PySem.Spec PyProof.Rows PySem.SeqAt
section
variable {X : Cx}
end
end L2
namespace DP
open PySem PySem.Spec PyProof.Rows L2
end DP
namespace SR
open PySem PySem.Spec PyProof.Rows
end SR
namespace SI
open PySem PySem.Spec PyProof.Rows SS
section
variable {prog : Program} {w : World} {A : Around} {E : Value → Shared → Prop} {s : Shared}
end
end SI
namespace SI
open PySem PySem.Spec PyProof.Rows SS
section
variable {prog : Program} {w : World} {A : Around} {R : Result → Shared → Prop} {I : Addr} {fp wr : List Addr} {G : Array GenState → Array GenState → Prop} {n : Nat} {P : Nat → Value → Prop} {St : Nat → Shared → Prop}
end
section
variable {prog : Program} {w : World} {A : Around} {E : Value → Shared → Prop} {s : Shared}
end
end SI
namespace SI
open PySem PySem.Spec PyProof.Rows SS
section
variable {prog : Program} {w : World} {A : Around} {E : Value → Shared → Prop} {s : Shared}
end
end SI
namespace SI
open PySem PySem.Spec PyProof.Rows SS
section
variable {prog : Program} {w : World} {A : Around} {E : Value → Shared → Prop} {s : Shared} {it a : Addr} {es : Array (Int × Value)} {ep : Nat} {t : SetTable}
end
end SI
namespace SI
open PySem PySem.Spec PyProof.Rows SS
section
variable {prog : Program} {w : World} {A : Around} {E : Value → Shared → Prop} {s : Shared} {it a : Addr} {es : Array (Int × Value)} {ep : Nat} {t : SetTable}
end
end SI
namespace L2
open PySem PySem.Spec PyProof.Rows
section
variable {X : Cx}
end
end L2
namespace DP
open PySem PySem.Spec PyProof.Rows L2
section
variable {X : Cx} {N : En} {e : Expr} {n : DTA} {p1 p2 pos1 pos2 : Pos}
end
end DP
namespace HT
open PySem PySem.Spec PyProof.Rows L2
section
variable {prog : Program} {w : World} {A : Around} {E : Value → Shared → Prop} {s : Shared}
end
end HT
namespace L2
open PySem PySem.Spec PyProof.Rows
section
variable {X : Cx}
end
end L2
namespace DP
open PySem PySem.Spec PyProof.Rows L2
section
variable {X : Cx} {N : En} {pos p2 : Pos} {e : Expr} {lo hi : Option Expr} {m : DTE} {l u : DTO}
end
end DP
namespace L2
open PySem PySem.Spec PyProof.Rows
section
variable {X : Cx} {pins : List (Addr × Obj)} {σ : St} {H : Hp} {s : Shared} {d : Addr} {kvs : List (Key × V)}
end
end L2
namespace DP
open PySem PySem.Spec PyProof.Rows L2
section
variable {X : Cx} {N : En} {tg e : Expr} {m : DTE}
end
end DP
namespace L2
open PySem PySem.Spec PyProof.Rows
section
variable {X : Cx}
end
end L2
namespace DP
open PySem PySem.Spec PyProof.Rows L2
@[irreducible] def anyR (r : Nat) (A : Ar) (R : DK) : Prop := match A[r]? with
    | some (.lst xs) => (match bls xs with
      | some bs => R (.bl (bs.any id)) A
      | none => False)
    | _ => False
end DP
namespace KO
open PySem PySem.W PyProof.Rows
section
variable {O : KeyOrd} {key : Nat → O.α} {n : Nat} {cmp : Nat → Nat → (Bool → Shared → Prop) → Shared → Prop} {s : Shared}
variable (hc : ∀ i j, i < n → j < n → ∀ C : Bool → Shared → Prop, C (O.blt (key i) (key j)) s → cmp i j C s)
include hc
end
end KO
namespace KP
open PySem PySem.W PySem.Spec PyProof.Rows KO
section
variable {prog : Program} {w : World} {A : Around} {E : Value → Shared → Prop} {s : Shared}
end
end KP
namespace L2
open PySem PySem.Spec PyProof.Rows PySem.SeqAt
section
variable {X : Cx}
end
end L2
namespace DP
open PySem PySem.Spec PyProof.Rows L2
end DP
namespace L2
open PySem PySem.Spec PyProof.Rows PySem.SeqAt
open AutoSeq1 (wpAny_loadPart')
open MeetsSeq MeetsSeq2 MeetsSeq3 SeqRoads2
end L2
namespace L2
open PySem PySem.Spec PyProof.Rows PySem.SeqAt
end L2
namespace L2
open PySem PySem.Spec PyProof.Rows PySem.SeqAt
end L2
namespace DP
open PySem PySem.Spec PyProof.Rows L2
section
variable {X : Cx} {N : En} {a b : Expr} {ma mb : DTE} {pos : Pos}
end
end DP
namespace L2
open PySem PySem.Spec PyProof.Rows
end L2
namespace DP
open PySem PySem.Spec PyProof.Rows L2
section
variable {X : Cx} {N : En} {a b : Expr} {ma mb : DTE} {pos : Pos}
end
end DP
namespace L2
open PySem PySem.Spec PyProof.Rows
open Sem (wp)
open AutoSeq1 (wpAny_loadPart')
section
variable {prog : Program} {w : World} {A : Around} {E : Value → Shared → Prop} {s : Shared}
end
section
variable {prog : Program} {w : World} {A : Around} {E : Value → Shared → Prop} {s : Shared}
end
section
variable {X : Cx}
end
end L2
namespace DP
open PySem PySem.Spec PyProof.Rows L2
end DP
namespace DP
open PySem PySem.Spec PyProof.Rows L2
section
variable {es : List Expr} {env : Env} {p : Pos}
theorem sc_tup {l i} : starEach (.Tuple l i p :: es) env = (false, eval (.Tuple l i p) env) :: starEach es env := rfl
theorem sc_con {c i} : starEach (.Constant c i p :: es) env = (false, eval (.Constant c i p) env) :: starEach es env := rfl
theorem sw_lst {l x n} : swapsWith (.List l p) (some x) n env = pure false := rfl
end
end DP
namespace DP
open PySem PySem.Spec PyProof.Rows L2
section
variable {X : Cx} {k n : Nat}
end
end DP
namespace HT
open PySem PySem.Spec PyProof.Rows L2
section
variable {prog : Program} {w : World} {A : Around} {E : Value → Shared → Prop} {s : Shared}
end
end HT
namespace L2
open PySem PySem.Spec PyProof.Rows
section
variable {X : Cx} {e se : Expr} {te ts : TE} {p2 pos : Pos}
end
end L2
namespace DP
open PySem PySem.Spec PyProof.Rows L2
end DP
namespace L2
open PySem PySem.Spec PyProof.Rows
section
variable {X : Cx}
end
end L2
namespace DP
open PySem PySem.Spec PyProof.Rows L2
section
variable {X : Cx} {N : En} {a b : Expr} {pos : Pos} {ma mb : DTE}
end
end DP
namespace DP
open PySem PySem.Spec PyProof.Rows L2
section
variable {mg : Str → Option Value} {ι : Io} {n : Nat} {H : Hp}
end
section
variable {X : Cx} {N : En} {cl f : Str} {C : Addr} {e o value : Expr} {pos pos' : Pos} {m mo mv : DTE}
end
section
variable {X : Cx} {N : En} {k n : Nat} {cl mn : Str} {ps : List Str} {S : Ct} {RE : DX} {o e : Expr} {es : List Expr} {mo : DTE} {m : DTA} {p pos apos : Pos}
end
section
variable {X : Cx} {N : En} {o : Expr} {mo : DTE} {apos cpos : Pos} {f : DMt} {r : V → List V → Hp → VK → Prop} {name : Str} {id : String}
end
end DP
namespace L2
open PySem PySem.Spec PyProof.Rows
section
variable {X : Cx}
end
end L2
namespace DP
open PySem PySem.Spec PyProof.Rows L2
theorem RVs.strsE {mg : Str → Option Value} {ι : Io} {n : Nat} {H : Hp} : ∀ ns : List Str, RVs mg ι n H (ns.map D.str) (ns.map V.str)
  | [] => rfl
  | x :: ns => ⟨_, _, rfl, rfl, RVs.strsE ns⟩
end DP
namespace L2
open PySem PySem.Spec PyProof.Rows
section
variable {X : Cx}
theorem call_strI : CallR X (.type "str") (fun xs H Q => ∃ i : Int, xs = [.int i] ∧ i.natAbs.log2 < 1920 ∧ Q (.str (Str.ofString (toString i))) H) := by
  intro pins s σ H xs us Q I r h
  obtain ⟨i, rfl, hl, q⟩ := h
  obtain ⟨u, rfl, t, rfl⟩ := vals1 r
  exact PySem.P.str_of_int hl ⟨.str (Str.ofString (toString i)), H, I.tok _, ⟨_, rfl⟩, q⟩
theorem call_intT : CallR X (.type "int") (fun xs H Q => ∃ (x : Str) (n : Int), xs = [.str x] ∧ PySem.intText? x = some n ∧ x.length ≤ 640 ∧ Q (.int n) H) := by
  intro pins s σ H xs us Q I r h
  obtain ⟨x, n, rfl, hn, hl, q⟩ := h
  obtain ⟨u, rfl, t, rfl⟩ := vals1 r
  exact PySem.W.KIN.call_text hn hl ⟨.int n, H, I.tok _, ⟨_, rfl⟩, q⟩
end
end L2
namespace L2
open PySem PySem.Spec PyProof.Rows
abbrev TJ := St → Hp → Str → (Str → Hp → Prop) → Prop
def PJ (X : Cx) (es : List Expr) (t : TJ) : Prop := ∀ (pins : List (Addr × Obj)) (s : Shared) (σ : St) (H : Hp) (acc : Str) (Q : Str → Hp → Prop), Inv X pins σ H s → t σ H acc Q →
  Joins (model X.prog X.w) X.A X.xe (evalEach es X.env) acc (fun out s' => ∃ H', Inv X pins σ H' s' ∧ Q out H') s
def fmtV : V → Option Str
  | .str y => some y
  | .int i => if i.natAbs.log2 < 1920 then some (Str.ofString (toString i)) else none
  | _ => none
section
variable {X : Cx} {es : List Expr} {t : TJ} {te : TE} {e : Expr} {p pos : Pos}
theorem app_len (x y : Str) : (x ++ y).length = x.length + y.length := Array.size_append
theorem pj_nil : PJ X [] (fun σ H acc Q => Q acc H) := fun pins s σ H acc Q I h => ⟨H, I, h⟩
theorem pj_con {x : Str} {k : Nat} (h : PJ X es t) : PJ X (.Constant (.str x) k p :: es) (fun σ H acc Q => acc.length + x.length ≤ sizeLine ∧ t σ H (acc ++ x) Q) := fun pins s σ H acc Q I q => by
  show wpAny _ _ (eval (.Constant (.str x) k p) X.env) _ _ _
  exact Calls.Constant_str ⟨x, _, rfl, by rw [app_len]; exact q.1, h pins _ σ H (acc ++ x) Q (I.tok _) q.2⟩
theorem pj_val (he : PE X e te) (h : PJ X es t) : PJ X (.FormattedValue e (-1) none p :: es) (fun σ H acc Q => te σ H fun v H1 => ∃ y, fmtV v = some y ∧ y.length ≤ sizeLine ∧ acc.length + y.length ≤ sizeLine ∧ t σ H1 (acc ++ y) Q) := fun pins s σ H acc Q I q => by
  show wpAny _ _ (eval (.FormattedValue e (-1) none p) X.env) _ _ _
  refine wpAny_FormattedValue_plain (thn (he pins s σ H _ I q) fun u s1 ⟨v, H1, I1, rv, y, e1, hy, hl, q1⟩ => ?_)
  cases v with
  | str z =>
    cases (show some z = some y from e1)
    obtain ⟨tk, rfl⟩ := rv
    refine wpAny_formatField_str ?_ ?_ hy
    · exact ⟨_, tk, rfl, by rw [app_len]; exact hl, h pins _ σ H1 _ Q I1 q1⟩
    · exact ⟨_, _, rfl, by rw [app_len]; exact hl, h pins _ σ H1 _ Q (I1.tok _) q1⟩
  | int i =>
    obtain ⟨tk, rfl⟩ := rv
    unfold fmtV at e1
    simp only at e1
    split at e1
    · rename_i hi
      cases e1
      refine wpAny_formatField_int hi ?_
      exact ⟨_, _, rfl, by rw [app_len]; exact hl, h pins _ σ H1 _ Q ((I1.tok _).tok _) q1⟩
    · cases e1
  | _ => cases e1
theorem pe_join {v1 v2 : Expr} {rest : List Expr} (h : PJ X (v1 :: v2 :: rest) t) : PE X (.JoinedStr (v1 :: v2 :: rest) pos) (fun σ H Q => t σ H Str.empty fun out H' => out.length ≤ sizeLine ∧ Q (.str out) H') := fun pins s σ H Q I q => by
  refine wpAny_JoinedStr (joins_mono (h pins s σ H _ _ I q) ?_)
  rintro out s' ⟨H', I', hl, q'⟩
  exact ⟨hl, .str out, H', I'.tok _, ⟨_, rfl⟩, q'⟩
where
  joins_mono {M : Model} {A : Around} {E : Value → Shared → Prop} : ∀ {ps : List (Sem Value)} {acc : Str} {Q Q' : Str → Shared → Prop} {s : Shared}, Joins M A E ps acc Q s → (∀ o s', Q o s' → Q' o s') → Joins M A E ps acc Q' s
    | [], acc, Q, Q', s, h, k => k _ _ h
    | x :: ps, acc, Q, Q', s, h, k => wpAny_mono h (fun v s1 ⟨y, t, e, hl, r⟩ => ⟨y, t, e, hl, joins_mono r k⟩) fun _ _ z => z
end
end L2
namespace DP
open PySem PySem.Spec PyProof.Rows L2
def strID : DCb := fun vs A R => match vs with
  | [.int i] => i.natAbs.log2 < 1920 ∧ R (.str (Str.ofString (toString i))) A
  | _ => False
theorem d_strI {mg : Str → Option Value} : CbD mg (fun xs H Q => ∃ i : Int, xs = [.int i] ∧ i.natAbs.log2 < 1920 ∧ Q (.str (Str.ofString (toString i))) H) strID := by
  intro ds A ι H us R Q ra rs h k
  unfold strID at h
  split at h
  · obtain ⟨_, _, rfl, rfl, rfl⟩ := rs
    exact ⟨_, rfl, h.1, k.here ra h.2 rfl⟩
  · exact h.elim
def intTD : DCb := fun vs A R => match vs with
  | [.str x] => ∃ n, PySem.intText? x = some n ∧ x.length ≤ 640 ∧ R (.int n) A
  | _ => False
theorem d_intT {mg : Str → Option Value} : CbD mg (fun xs H Q => ∃ (x : Str) (n : Int), xs = [.str x] ∧ PySem.intText? x = some n ∧ x.length ≤ 640 ∧ Q (.int n) H) intTD := by
  intro ds A ι H us R Q ra rs h k
  unfold intTD at h
  split at h
  · obtain ⟨_, _, rfl, rfl, rfl⟩ := rs
    obtain ⟨n, h1, h2, h3⟩ := h
    exact ⟨_, n, rfl, h1, h2, k.here ra h3 rfl⟩
  · exact h.elim
def dMtS (f : DMt) (mo : DTE) (m : DTA) : DTE := fun τ A R => mo τ A fun x A1 => match x with
  | .str z => m τ A1 fun vs A2 => f (.str z) vs A2 R
  | _ => False
section
variable {X : Cx} {N : En} {e o : Expr} {es : List Expr} {mo : DTE} {m : DTA} {apos cpos : Pos} {f : DMt} {r : V → List V → Hp → VK → Prop} {name : Str} {id : String}
theorem de_mtS (pa : PlainAttrs "str") (slot : Slot "str" name id) (hty : typeOf (.builtin id) = pure (.type "method_descriptor")) (hm : MtR X id r) (hd : MtD X.mg X.K "str" r f) (ho : PE X o (up X.mg N mo)) (ha : PA X (e :: es) (upA X.mg N m))
    (hbase : attributeBase o name X.env (eval o X.env) = eval o X.env := by rfl)
    (hfew : ((backTo cpos (starEach (e :: es) X.env)).all (fun x => !x.1) && (backToKw cpos (keywordEach [] X.env)).all (fun x => x.1.isSome)
      && decide ((e :: es).length + ([] : List Keyword).length + (if ([] : List Keyword).isEmpty then 0 else 1) < 30)) = true := by rfl)
    (hline : (apos.endLine == cpos.line) = true := by rfl) (hs : starEach (e :: es) X.env = (false, eval e X.env) :: starEach es X.env := by rfl) (hplain : (backTo cpos (starEach es X.env)).any (·.1) = false := by rfl) :
    PE X (.Call (.Attribute o name apos) (e :: es) [] cpos) (up X.mg N (dMtS f mo m)) := de_w (pe_bm pa slot hty hm ho ha hbase hfew hline hs hplain) fun σ H Q q => by
  obtain ⟨A, ι, τ, R, S, q, k⟩ := q
  refine ⟨A, ι, τ, _, S, q, fun x A1 ι1 H1 u q1 e1 r1 v1 => ?_⟩
  cases x with
  | str z =>
    cases v1
    refine ⟨rfl, A1, ι1, τ, _, S.next e1 r1, q1, fun ys A2 ι2 H2 us q2 e2 r2 v2 => ?_⟩
    exact hd (.str z) ys A2 ι2 H2 _ us R Q r2 rfl v2 q2 (k.from (e1.trans e2))
  | _ => exact q1.elim
end
abbrev DTJ := DSt → Ar → Str → (Str → Ar → Prop) → Prop
def upJ (mg : Str → Option Value) (N : En) (m : DTJ) : TJ := fun σ H acc Q => ∃ A ι τ R, Sim mg N A ι τ σ H ∧ m τ A acc R ∧ ∀ out A' ι' H', R out A' → Ext A ι H A' ι' H' → RA mg ι' H' A' → Q out H'
def fmtD : D → Option Str
  | .str y => some y
  | .int i => if i.natAbs.log2 < 1920 then some (Str.ofString (toString i)) else none
  | _ => none
def dJn : DTJ := fun _ A acc R => R acc A
def dJc (x : Str) (m : DTJ) : DTJ := fun τ A acc R => acc.length + x.length ≤ sizeLine ∧ m τ A (acc ++ x) R
def dJv (me : DTE) (m : DTJ) : DTJ := fun τ A acc R => me τ A fun v A1 => match fmtD v with
  | some y => y.length ≤ sizeLine ∧ acc.length + y.length ≤ sizeLine ∧ m τ A1 (acc ++ y) R
  | none => False
def dJoin (m : DTJ) : DTE := fun τ A R => m τ A Str.empty fun out A1 => out.length ≤ sizeLine ∧ R (.str out) A1
section
variable {X : Cx} {N : En} {es : List Expr} {m : DTJ} {me : DTE} {e : Expr} {p pos : Pos}
theorem PJ.w {t t' : TJ} (h : PJ X es t) (w : ∀ σ H acc Q, t' σ H acc Q → t σ H acc Q) : PJ X es t' := fun pins s σ H acc Q I q => h pins s σ H acc Q I (w σ H acc Q q)
theorem dj_nil : PJ X [] (upJ X.mg N dJn) := PJ.w pj_nil fun σ H acc Q q => by
  obtain ⟨A, ι, τ, R, S, q, k⟩ := q
  exact k acc A ι H q S.ra.refl S.ra
theorem dj_con {x : Str} {k : Nat} (h : PJ X es (upJ X.mg N m)) : PJ X (.Constant (.str x) k p :: es) (upJ X.mg N (dJc x m)) := PJ.w (pj_con h) fun σ H acc Q q => by
  obtain ⟨A, ι, τ, R, S, q, k⟩ := q
  exact ⟨q.1, A, ι, τ, R, S, q.2, k⟩
theorem dj_val (he : PE X e (up X.mg N me)) (h : PJ X es (upJ X.mg N m)) : PJ X (.FormattedValue e (-1) none p :: es) (upJ X.mg N (dJv me m)) := PJ.w (pj_val he h) fun σ H acc Q q => by
  obtain ⟨A, ι, τ, R, S, q, k⟩ := q
  refine ⟨A, ι, τ, _, S, q, fun v A1 ι1 H1 u q1 e1 r1 v1 => ?_⟩
  have ev : fmtV u = fmtD v ∨ fmtD v = none := by
    cases v with
    | str y => cases v1; exact .inl rfl
    | int i => cases v1; exact .inl rfl
    | _ => exact .inr rfl
  rcases ev with ev | ev
  · cases ef : fmtD v with
    | none =>
      have q1 : (match fmtD v with | some y => y.length ≤ sizeLine ∧ acc.length + y.length ≤ sizeLine ∧ m τ A1 (acc ++ y) R | none => False) := q1
      rw [ef] at q1
      exact q1.elim
    | some y =>
      have q1 : (match fmtD v with | some y => y.length ≤ sizeLine ∧ acc.length + y.length ≤ sizeLine ∧ m τ A1 (acc ++ y) R | none => False) := q1
      rw [ef] at q1
      exact ⟨y, ev.trans ef, q1.1, q1.2.1, A1, ι1, τ, R, S.next e1 r1, q1.2.2, fun out A2 ι2 H2 q2 e2 r2 => k out A2 ι2 H2 q2 (e1.trans e2) r2⟩
  · have q1 : (match fmtD v with | some y => y.length ≤ sizeLine ∧ acc.length + y.length ≤ sizeLine ∧ m τ A1 (acc ++ y) R | none => False) := q1
    rw [ev] at q1
    exact q1.elim
theorem de_join {v1 v2 : Expr} {rest : List Expr} (h : PJ X (v1 :: v2 :: rest) (upJ X.mg N m)) : PE X (.JoinedStr (v1 :: v2 :: rest) pos) (up X.mg N (dJoin m)) := de_w (pe_join h) fun σ H Q q => by
  obtain ⟨A, ι, τ, R, S, q, k⟩ := q
  refine ⟨A, ι, τ, _, S, q, fun out A1 ι1 H1 q1 e1 r1 => ⟨q1.1, (k.from e1).here r1 q1.2 rfl⟩⟩
end
end DP
namespace L2
open PySem PySem.Spec PyProof.Rows
section
variable {X : Cx}
theorem op_inS : OpR X (compareOp .In) (fun x y H Q => ∃ a b : Str, x = .str a ∧ y = .str b ∧ Q (.bl (Txt.contains b a)) H) := by
  intro pins s σ H x y v u Q I rx ry h
  obtain ⟨a, b, rfl, rfl, q⟩ := h
  obtain ⟨t, rfl⟩ := rx
  obtain ⟨t', rfl⟩ := ry
  exact PySem.P.in_str ⟨.bl _, H, I, rfl, q⟩
def rJoin : V → List V → Hp → VK → Prop := fun x vs H Q => ∃ (a : Str) (l : Addr) (ss : List Str), x = .str a ∧ vs = [.ref l] ∧ H l = some (.lst (ss.map V.str)) ∧ JoinOk a ss = true ∧ Q (.str (Txt.join a ss)) H
theorem mt_join : MtM X "str.join" rJoin := by
  intro pins s σ H x vs v us Q I rx rv h
  obtain ⟨a, l, ss, rfl, rfl, hH, hok, q⟩ := h
  obtain ⟨t, rfl⟩ := rx
  obtain ⟨u, rfl, ru⟩ := rv.one
  cases ru
  obtain ⟨z, its, n, r, hl, e⟩ := I.lstM hH
  obtain ⟨ls, e1, e2⟩ := strs_of ss its r
  subst e1
  refine SC.join (l := ls) (texts := ss) ⟨_, e, rfl, n, rfl⟩ e2 hok fun t' k => ?_
  exact ⟨.str _, H, I.tok _, ⟨_, rfl⟩, q⟩
where
  strs_of : ∀ (ss : List Str) (its : List Value), Vals (ss.map V.str) its → ∃ ls : List (Str × Tok), its = strValues ls ∧ ls.map (·.1) = ss
    | [], its, h => by cases h; exact ⟨[], rfl, rfl⟩
    | x :: ss, its, h => by
      cases h with
      | cons h1 h2 =>
        obtain ⟨t, rfl⟩ := h1
        obtain ⟨ls, rfl, e2⟩ := strs_of ss _ h2
        exact ⟨(x, t) :: ls, rfl, by simp [e2]⟩
end
end L2
namespace L2
open PySem PySem.Spec PyProof.Rows
def partT (a b : Str) : Str × Str × Str := match Builtin.Str.occurrences a b 0 a.length 1 with
  | i :: _ => (Builtin.Str.strSub a 0 i, b, Builtin.Str.strSub a (i + b.length) a.length)
  | [] => (a, Str.empty, Str.empty)
section
variable {X : Cx}
def rPart : V → List V → Hp → VK → Prop := fun x vs H Q => ∃ a b : Str, x = .str a ∧ vs = [.str b] ∧ (b.length == 0) = false ∧ a.length ≤ sizeLine ∧ ∀ l, H l = none → Q (.ref l) (upd H l (.tup [.str (partT a b).1, .str (partT a b).2.1, .str (partT a b).2.2]))
theorem Inv.tup3 {pins : List (Addr × Obj)} {σ : St} {H : Hp} {s : Shared} {a b c : Str} {t1 t2 t3 : Tok} {k : Nat} (I : Inv X pins σ H s) :
    Inv X pins σ (upd H s.heap.objs.size (.tup [.str a, .str b, .str c])) { s with heap := s.heap.push { cls := .type "tuple", data := .seq [.str a t1, .str b t2, .str c t3].toArray }, toks := k } := by
  have hn : H s.heap.objs.size = none := I.hok.fresh (Nat.le_refl _)
  refine I.manyF (t' := k) (fun b o e => Heap.get?_push_of_some _ e) (Same.new hn _) fun z o eb => ?_
  by_cases hb : z = s.heap.objs.size
  · subst hb
    rw [upd_same] at eb
    cases eb
    refine .inr ⟨fun u z => Nat.lt_irrefl _ (Heap.lt_size z), ?_⟩
    exact ⟨by show 3 ≤ sizeLine; decide, [.str a t1, .str b t2, .str c t3], .cons ⟨_, rfl⟩ (.cons ⟨_, rfl⟩ (.cons ⟨_, rfl⟩ .nil)), ⟨_, Heap.get?_push_size _ rfl⟩⟩
  · rw [upd_ne hb] at eb
    exact .inl eb
theorem mt_part : MtM X "str.partition" rPart := by
  intro pins s σ H x vs v us Q I rx rv h
  obtain ⟨a, b, rfl, rfl, hb, hl, q⟩ := h
  obtain ⟨t, rfl⟩ := rx
  obtain ⟨u, rfl, t', rfl⟩ := rv.one
  have hn : H s.heap.objs.size = none := I.hok.fresh (Nat.le_refl _)
  have q := q _ hn
  refine call_meets PySem.F.slot_str_partition (typeIs_str _ _ _) PySem.F.entry_str_partition (PySem.F.args_str_partition_2 _ _) (PySem.meets_str_partition a b t t' hb hl) ?_
  unfold partT at q
  cases ho : Builtin.Str.occurrences a b 0 a.length 1 with
  | nil =>
    rw [ho] at q
    exact ⟨.ref _, _, I.tup3, rfl, q⟩
  | cons i r =>
    rw [ho] at q
    exact ⟨.ref _, _, I.tup3, rfl, q⟩
end
end L2
namespace DP
open PySem PySem.Spec PyProof.Rows L2
def inSD : DOp := fun x y A R => match x, y with
  | .str a, .str b => R (.bl (Txt.contains b a)) A
  | _, _ => False
theorem d_inS {mg : Str → Option Value} : OpD mg (fun x y H Q => ∃ a b : Str, x = .str a ∧ y = .str b ∧ Q (.bl (Txt.contains b a)) H) inSD := by
  intro x y A ι H u v R Q ra rx ry h k
  unfold inSD at h
  split at h
  · cases rx; cases ry
    exact ⟨_, _, rfl, rfl, k.here ra h rfl⟩
  · exact h.elim
section
variable {X : Cx} {N : En} {a b : Expr} {pos : Pos} {ma mb : DTE}
theorem e_inS (ha : PE X a (up X.mg N ma)) (hb : PE X b (up X.mg N mb)) (hm : behindInMarks .In b = false := by rfl) : PE X (.Compare a [.In] [b] pos) (up X.mg N (dOp inSD ma mb)) := de_cmp op_inS d_inS ha hb hm
theorem de_gstr {x : Str} {v : Str} {t : Tok} (hm : X.mg x = some (.str v t)) (hg : Gl X x := by rfl) (hd : (x == ("__debug__" : Str)) = false := by decide) : PE X (.Name x pos) (up X.mg N (dC (.str v))) :=
  de_const (pe_glob (v := .str v) hg hm ⟨_, rfl⟩ hd) fun _ _ _ => rfl
end
@[irreducible] def joinR (a : Str) (r : Nat) (A : Ar) (R : DK) : Prop := ∃ ss : List Str, A[r]? = some (.lst (ss.map D.str)) ∧ JoinOk a ss = true ∧ R (.str (Txt.join a ss)) A
def joinD : DMt := fun x vs A R => match x, vs with
  | .str a, [.ref r] => joinR a r A R
  | _, _ => False
theorem join_ok {a : Str} {r : Nat} {A : Ar} {R : DK} {ss : List Str} (h : A[r]? = some (.lst (ss.map D.str))) (hok : JoinOk a ss = true) (k : R (.str (Txt.join a ss)) A) : joinR a r A R := by
  unfold joinR
  exact ⟨ss, h, hok, k⟩
theorem rvs_strs {mg : Str → Option Value} {ι : Io} {n : Nat} {H : Hp} : ∀ (ss : List Str) (vs : List V), RVs mg ι n H (ss.map D.str) vs → vs = ss.map V.str
  | [], vs, h => h
  | x :: ss, vs, h => by
    obtain ⟨v, r, rfl, h1, h2⟩ := h
    cases h1
    rw [rvs_strs ss r h2]
    rfl
theorem d_join {mg : Str → Option Value} {K : PySem.W.Frag} : MtD mg K "str" rJoin joinD := by
  intro x ds A ι H u us R Q ra rx rs h k
  unfold joinD at h
  split at h
  · cases rx
    obtain ⟨_, _, rfl, ⟨_, rfl⟩, rfl⟩ := rs
    unfold joinR at h
    obtain ⟨ss, h1, h2, h3⟩ := h
    obtain ⟨xs, e1, e2⟩ := ra.lst h1
    rw [rvs_strs ss xs e2] at e1
    exact ⟨_, _, ss, rfl, rfl, e1, h2, k.here ra h3 rfl⟩
  · exact h.elim
def partD : DMt := fun x vs A R => match x, vs with
  | .str a, [.str b] => (b.length == 0) = false ∧ a.length ≤ sizeLine ∧ R (.tup [.str (partT a b).1, .str (partT a b).2.1, .str (partT a b).2.2]) A
  | _, _ => False
theorem d_part {mg : Str → Option Value} {K : PySem.W.Frag} : MtD mg K "str" rPart partD := by
  intro x ds A ι H u us R Q ra rx rs h k
  unfold partD at h
  split at h
  · cases rx
    obtain ⟨_, _, rfl, rfl, rfl⟩ := rs
    exact ⟨_, _, rfl, rfl, h.1, h.2.1, fun l hl => new_tup (ds := [.str _, .str _, .str _]) k ra ⟨_, _, rfl, rfl, _, _, rfl, rfl, _, _, rfl, rfl, rfl⟩ h.2.2 hl⟩
  · exact h.elim
end DP
namespace L2
open PySem PySem.Spec PyProof.Rows
section
variable {X : Cx}
def rSplit : V → List V → Hp → VK → Prop := fun x vs H Q => ∃ a b : Str, x = .str a ∧ vs = [.str b] ∧ (b.length == 0) = false ∧ a.length ≤ 100000 ∧ (Txt.split a b).length ≤ sizeLine ∧ (Builtin.Str.partsBetween a (Builtin.Str.occurrences a b 0 a.length (a.length + 1)) b.length).length ≤ sizeLine ∧ ∀ l, H l = none → Q (.ref l) (upd H l (.lst ((Txt.split a b).map V.str)))
theorem vals_sv : ∀ ls : List (Str × Tok), Vals ((ls.map (·.1)).map V.str) (strValues ls)
  | [] => .nil
  | (x, t) :: ls => .cons ⟨t, rfl⟩ (vals_sv ls)
theorem Inv.lstS {pins : List (Addr × Obj)} {σ : St} {H : Hp} {s : Shared} {ls : List (Str × Tok)} {k : Nat} (I : Inv X pins σ H s) (hl : ls.length ≤ sizeLine) :
    Inv X pins σ (upd H s.heap.objs.size (.lst ((ls.map (·.1)).map V.str))) { s with heap := s.heap.push { cls := .type "list", data := .seq (strValues ls).toArray }, toks := k } := by
  have hn : H s.heap.objs.size = none := I.hok.fresh (Nat.le_refl _)
  refine I.manyF (t' := k) (fun b o e => Heap.get?_push_of_some _ e) (Same.new hn _) fun z o eb => ?_
  by_cases hb : z = s.heap.objs.size
  · subst hb
    rw [upd_same] at eb
    cases eb
    refine .inr ⟨fun u z => Nat.lt_irrefl _ (Heap.lt_size z), ?_⟩
    exact ⟨by rw [List.length_map, List.length_map]; exact hl, strValues ls, _, vals_sv ls, Heap.get?_push_size _ rfl⟩
  · rw [upd_ne hb] at eb
    exact .inl eb
theorem mt_split : MtM X "str.split" rSplit := by
  intro pins s σ H x vs v us Q I rx rv h
  obtain ⟨a, b, rfl, rfl, hb, hl, hp, hp2, q⟩ := h
  obtain ⟨t, rfl⟩ := rx
  obtain ⟨u, rfl, t', rfl⟩ := rv.one
  have hn : H s.heap.objs.size = none := I.hok.fresh (Nat.le_refl _)
  have q := q _ hn
  have hz : a.length ≤ sizeLine := Nat.le_trans hl (by decide)
  cases h1 : (decide (a.length < b.length) || decide (Builtin.Str.strKind a < Builtin.Str.strKind b))
  · cases hf : (Builtin.Str.occurrences a b 0 a.length (a.length + 1)).isEmpty
    · refine call_meets PySem.F.slot_str_split (typeIs_str _ _ _) PySem.F.entry_str_split (PySem.F.args_str_split_2 _ _) (meets_str_split_sep a b t t' h1 hb hf hz hp2) ?_
      show wants _ _ _ { s with toks := _, heap := s.heap.push { cls := .type "list", data := .seq (strsFrom s.toks (Builtin.Str.partsBetween a (Builtin.Str.occurrences a b 0 a.length (a.length + 1)) b.length)).toArray } }
      rw [strsFrom_eq]
      have e : (numbered s.toks (Builtin.Str.partsBetween a (Builtin.Str.occurrences a b 0 a.length (a.length + 1)) b.length)).map (·.1) = Txt.split a b := (numbered_texts _ _).trans ((if_neg (ne_true_of_eq_false h1)).trans (if_neg (ne_true_of_eq_false hf))).symm
      rw [← e] at q hp
      exact ⟨.ref _, _, I.lstS (by rw [List.length_map] at hp; exact hp), rfl, q⟩
    · have e : [(a, t)].map (·.1) = Txt.split a b := ((if_neg (ne_true_of_eq_false h1)).trans (if_pos hf)).symm
      rw [← e] at q
      exact call_meets PySem.F.slot_str_split (typeIs_str _ _ _) PySem.F.entry_str_split (PySem.F.args_str_split_2 _ _) (meets_str_split_not_found a b t t' h1 hb hf) ⟨.ref _, _, I.lstS (ls := [(a, t)]) (k := s.toks) (by show 1 ≤ sizeLine; decide), rfl, q⟩
  · have e : [(a, t)].map (·.1) = Txt.split a b := (if_pos h1).symm
    rw [← e] at q
    exact call_meets PySem.F.slot_str_split (typeIs_str _ _ _) PySem.F.entry_str_split (PySem.F.args_str_split_2 _ _) (meets_str_split_cannot_occur a b t t' h1) ⟨.ref _, _, I.lstS (ls := [(a, t)]) (k := s.toks) (by show 1 ≤ sizeLine; decide), rfl, q⟩
end
end L2
namespace DP
open PySem PySem.Spec PyProof.Rows L2
def splitD : DMt := fun x vs A R => match x, vs with
  | .str a, [.str b] => (b.length == 0) = false ∧ a.length ≤ 100000 ∧ (Txt.split a b).length ≤ sizeLine ∧ (Builtin.Str.partsBetween a (Builtin.Str.occurrences a b 0 a.length (a.length + 1)) b.length).length ≤ sizeLine ∧ R (.ref A.length) (A ++ [.lst ((Txt.split a b).map D.str)])
  | _, _ => False
theorem d_split {mg : Str → Option Value} {K : PySem.W.Frag} : MtD mg K "str" rSplit splitD := by
  intro x ds A ι H u us R Q ra rx rs h k
  unfold splitD at h
  split at h
  · cases rx
    obtain ⟨_, _, rfl, rfl, rfl⟩ := rs
    exact ⟨_, _, rfl, rfl, h.1, h.2.1, h.2.2.1, h.2.2.2.1, fun l hl => new_lst k ra (RVs.strsE _) h.2.2.2.2 hl⟩
  · exact h.elim
end DP
namespace L2
open PySem PySem.Spec PyProof.Rows
section
variable {X : Cx}
theorem op_ninS : OpR X (compareOp .NotIn) (fun x y H Q => ∃ a b : Str, x = .str a ∧ y = .str b ∧ Q (.bl (!Txt.contains b a)) H) := by
  intro pins s σ H x y v u Q I rx ry h
  obtain ⟨a, b, rfl, rfl, q⟩ := h
  obtain ⟨t, rfl⟩ := rx
  obtain ⟨t', rfl⟩ := ry
  exact PySem.P.notIn_str ⟨.bl _, H, I, rfl, q⟩
end
end L2
namespace DP
open PySem PySem.Spec PyProof.Rows L2
def ninSD : DOp := fun x y A R => match x, y with
  | .str a, .str b => R (.bl (!Txt.contains b a)) A
  | _, _ => False
theorem d_ninS {mg : Str → Option Value} : OpD mg (fun x y H Q => ∃ a b : Str, x = .str a ∧ y = .str b ∧ Q (.bl (!Txt.contains b a)) H) ninSD := by
  intro x y A ι H u v R Q ra rx ry h k
  unfold ninSD at h
  split at h
  · cases rx; cases ry
    exact ⟨_, _, rfl, rfl, k.here ra h rfl⟩
  · exact h.elim
section
variable {X : Cx} {N : En} {a b : Expr} {pos : Pos} {ma mb : DTE}
theorem t_ninS (ha : PE X a (up X.mg N ma)) (hb : PE X b (up X.mg N mb)) (hm : behindInMarks .NotIn b = false := by rfl) : PT X (.Compare a [.NotIn] [b] pos) (upT X.mg N (dTest (dOp ninSD ma mb))) := dt_cmp op_ninS d_ninS ha hb hm
end
end DP
namespace L2
open PySem PySem.Spec PyProof.Rows
section
variable {X : Cx} {es : List Expr} {t : TJ} {te : TE} {e : Expr} {p pos : Pos}
end
end L2
namespace DP
open PySem PySem.Spec PyProof.Rows L2
end DP
namespace DP
open PySem PySem.Spec PyProof.Rows L2
end DP
namespace L2
open PySem PySem.Spec PyProof.Rows
section
variable {X : Cx}
end
end L2
namespace DP
open PySem PySem.Spec PyProof.Rows L2
section
variable {mg : Str → Option Value} {K : PySem.W.Frag} {A : Ar} {ι : Io} {H : Hp}
end
section
variable {X : Cx} {N : En} {tg l : Expr} {n : DTA} {p pos : Pos}
end
end DP
namespace L2
open PySem PySem.Spec PyProof.Rows
section
variable {X : Cx}
end
end L2
namespace DP
open PySem PySem.Spec PyProof.Rows L2
section
variable {X : Cx} {N : En} {e o : Expr} {es : List Expr} {mo : DTE} {m : DTA} {apos cpos : Pos} {f : DMt} {r : V → List V → Hp → VK → Prop} {name : Str} {id : String}
end
section
variable {X : Cx} {N : En} {pos : Pos} {a b : Expr} {ma mb : DTE}
end
section
variable {X : Cx} {N : En} {e : Expr} {m : DTE}
end
end DP
namespace DP
open PySem PySem.Spec PyProof.Rows L2
section
variable {X : Cx} {N : En} {a b : Expr} {ma mb : DTE} {pos : Pos}
end
end DP
namespace DP
open PySem PySem.Spec PyProof.Rows L2
section
variable {mg : Str → Option Value} {K : PySem.W.Frag} {A : Ar} {ι : Io} {H : Hp}
end
section
variable {X : Cx} {N : En} {pos : Pos} {a b : Expr} {ma mb : DTE}
end
end DP
namespace L2
open PySem PySem.Spec PyProof.Rows
section
variable {X : Cx}
end
end L2
namespace DP
open PySem PySem.Spec PyProof.Rows L2
end DP
namespace L2
open PySem PySem.Spec PyProof.Rows
section
variable {M : Model} {A : Around} {E : Value → Shared → Prop} {s : Shared} {base : Heap} {env : Env} {outer : List Env} {L e : Addr} {cls a0 fl : Value} {Q : Unit → Shared → Prop}
theorem note_any (hfr : A.frames = some (env :: outer)) (hl : s.heap.FunFrames base (env :: outer)) (hf : env.frame = some L) (ht : s.heap.TracedAtW base e cls a0 fl) (hkb : base.StaysIn s.heap) (hen : base.get? e = none)
    (h : ∀ h', Heap.NotedW base (env :: outer) e cls a0 (rawInt L) s.heap h' → Q () { s with heap := h' }) : wpAny M A (noteFrame (.ref e) env) Q E s := by
  by_cases hq : fl = rawInt L
  · subst hq
    exact wpAny_noteFrame_againW hf ht (h s.heap ⟨hkb, hl, ht, fun b o hb _ => ⟨o.slots, hb⟩⟩)
  obtain ⟨oe, vs, T, oT, ts, he, ⟨hcls, h0⟩, hd, h1, hnT, hTe, hT, hdT, h3⟩ := ht
  subst hcls
  unfold noteFrame
  simp only [hf]
  refine wpAny_bind (wpAny_field he hd h1 ?_)
  rw [if_pos (show (Value.ref T != Value.none) = true from by simp)]
  refine wpAny_bind (wpAny_field hT hdT h3 ?_)
  rw [if_neg (show ¬ ((fl == rawInt L) = true) from by simpa using hq)]
  refine wpAny_bind (wpAny_setField hT hdT (Array.getElem?_eq_some_iff.mp h3).1 ?_)
  have other : ∀ b, b ≠ T → (s.heap.update T (Obj.mapFields (·.setIfInBounds 3 Value.none))).get? b = s.heap.get? b := fun b hb => Heap.get?_update_other _ _ (Ne.symm hb)
  have noRecord : ∀ b o, s.heap.get? b = some o → (∀ vs, o.data ≠ .fields vs) → b ≠ T := fun b o hb hnf q => by
    rw [q, hT] at hb; injection hb with hb; subst hb; exact hnf ts hdT
  refine wpAny_entryW hfr (hl.of_keeps fun b o hb hnf => ⟨o, (other b (noRecord b o hb hnf)).trans hb, rfl⟩) hf ((other e (Ne.symm hTe)).trans he)
    (fun b o hbo => (other b fun q => by rw [q, hnT] at hbo; cases hbo).trans (hkb b o hbo)) hen hd (Array.getElem?_eq_some_iff.mp h1).1 h0
    fun h' ⟨x1, x2, x3, x4⟩ => h h' ⟨x1, x2, x3, fun b o hb hnf => x4 b o ((other b (noRecord b o hb hnf)).trans hb) hnf⟩
theorem leaves_any (hfr : A.frames = some (env :: outer)) (hl : s.heap.FunFrames base (env :: outer)) (hf : env.frame = some L) (ht : s.heap.TracedAtW base e cls a0 fl) (hkb : base.StaysIn s.heap) (hen : base.get? e = none)
    (hQ : ∀ h', Heap.FlyingW base outer e cls a0 h' → s.heap.UpToSlots h' → Q () { s with heap := h' }) : wpAny M A (leaving env (.ref e)) Q E s := by
  unfold leaving
  refine wpAny_bind (note_any hfr hl hf ht hkb hen fun h1 ⟨k1, k2, k3, k4⟩ => ?_)
  refine wpAny_setFlight_noneW k1 k2 k3 fun h2 m1 m2 m3 m4 => ?_
  exact hQ h2 ⟨m1, hen, m2.2.2, m3⟩ fun b o hb hn => by
    obtain ⟨sl, q⟩ := k4 b o hb hn
    exact ⟨sl, m4 b _ q hn⟩
end
structure FlyA (P : Program) (w : World) (outer : List Env) (H H' : Hp) (s s' : Shared) (a : Addr) (C : Value) : Prop where
  os : s'.os = s.os
  bare : AllBare s'.gens
  slot : ∀ b o, s.heap.get? b = some o → b ∈ frs outer → ∃ sl, s'.heap.get? b = some { o with slots := sl }
  free : ∀ b o, s.heap.get? b = some o → H b = none → H' b = none
  tups : ∀ b xs, H b = some (.tup xs) → H' b = some (.tup xs)
  frzs : ∀ b o u, H b = some (.frz o u) → H' b = some (.frz o u)
  tbls : ∀ b ps, H b = some (.tbl ps) → ∃ more, H' b = some (.tbl (ps ++ more))
  fl : ∃ (B : Heap) (a0 fl : Value), (∀ b o, s.heap.get? b = some o → H b = none → b ∉ frs outer → B.get? b = some o) ∧ (∀ b o, s.heap.get? b = some o → b ∉ frs outer → ∃ o', B.get? b = some o') ∧ HOk P w H' B ∧ B.StaysIn s'.heap ∧ B.get? a = none ∧ s'.heap.FunFrames B outer ∧ s'.heap.TracedAtW B a C a0 fl
def CXA (P : Program) (w : World) : CXT := fun outer H s E e s' => ∃ (a : Addr) (C : Value) (H' : Hp), e = .ref a ∧ FlyA P w outer H H' s s' a C ∧ E C none H'
section
variable {P : Program} {w : World} {K : PySem.W.Frag} {mg : Str → Option Value} {base : Heap} {N : List Str} {qual : Str} {scope : Scope} {f : Addr} {cd : Value} {A : Around} {outer : List Env} {s : Shared} {H : Hp} {E : XK}
theorem passAX : Passes (CXA P w) (cxOf (CX1 P w) P w K mg base N qual scope f cd A outer s H E) E := by
  intro pins σ H1 s1 e s' I h
  obtain ⟨a, C, H', rfl, F, hE⟩ := h
  obtain ⟨B, a0, fl, kb, th, hok, f1, f2, f3, f4⟩ := F.fl
  show wpAny (model P w) _ (leaving _ (.ref a)) _ _ _
  refine leaves_any I.ok.frames f3 rfl f4 f1 f2 fun h'' fl' up => ⟨a, C, H', rfl, fly_out I rfl F.os F.bare (fun b o q hb => ?_) F.free F.tups F.frzs F.tbls ⟨B, a0, kb, th, hok, fl'⟩, hE⟩
  have hb' := frs_cons (env := envOfC qual scope s.heap.objs.size f cd) hb
  obtain ⟨sl, e⟩ := F.slot b o q hb'
  obtain ⟨_, o', ho', hd⟩ := f3.mem hb'
  rw [e] at ho'
  cases ho'
  obtain ⟨sl', e'⟩ := up b _ e hd
  exact ⟨sl', e'⟩
end
theorem ff_turn {h h' B B' : Heap} : ∀ {l : List Env}, h.FunFrames B l → (∀ b ∈ frs l, ∀ o, h.get? b = some o → (∀ vs, o.data ≠ .fields vs) → h'.get? b = some o) → (∀ b, B.get? b = none → B'.get? b = none) → h'.FunFrames B' l
  | [], _, _, _ => trivial
  | env :: r, ⟨hk, ⟨L, o, hf, hn, ho, hd⟩, hr⟩, k, kb => ⟨hk, ⟨L, o, hf, kb L hn, k L (List.mem_filterMap.mpr ⟨env, .head _, hf⟩) o ho hd, hd⟩, ff_turn hr (fun b hb => k b (frs_cons hb)) kb⟩
def cxE (X : Cx) (NC : List Str) (scope : Scope) (E : XK) (c : CP) : Cx where
  prog := X.prog
  w := X.w
  K := X.K
  mg := X.mg
  base := X.base
  A := X.A
  N := NC
  s₀ := c.s
  H₀ := c.H
  env := compEnvC scope (clFrom X.env scope.names []) c.C X.env
  outer := X.stack
  stack := X.stack
  ex := c.fp
  fn := fun _ => false
  calm := true
  pn := X.pn ++ c.pins
  xe := fun e s' => ∃ pins σ H1 s1, Inv (cxC X NC scope c) pins σ H1 s1 ∧ CX1 X.prog X.w X.stack H1 s1 E e s'
section
variable {X : Cx} {NC : List Str} {scope : Scope} {E : XK} {c : CP} {pins : List (Addr × Obj)} {σ : St} {H : Hp} {s : Shared}
theorem Inv.toE (I : Inv (cxC X NC scope c) pins σ H s) : Inv (cxE X NC scope E c) pins σ H s :=
  ⟨⟨I.ok.mod, I.ok.kind, I.ok.glob, I.ok.blt, I.ok.above, I.ok.inj, I.ok.has, I.ok.cab, I.ok.hd, I.ok.frames, I.ok.stk, I.ok.exf, I.ok.bs, I.ok.bsz, I.ok.noex, I.ok.exfs, I.ok.funs, I.ok.frf⟩, I.os, I.bare, I.base, I.loc, I.cell, I.free, I.freeC, I.pin, I.hok, I.len⟩
theorem Inv.ofE (I : Inv (cxE X NC scope E c) pins σ H s) : Inv (cxC X NC scope c) pins σ H s :=
  ⟨⟨I.ok.mod, I.ok.kind, I.ok.glob, I.ok.blt, I.ok.above, I.ok.inj, I.ok.has, I.ok.cab, I.ok.hd, I.ok.frames, I.ok.stk, I.ok.exf, I.ok.bs, I.ok.bsz, I.ok.noex, I.ok.exfs, I.ok.funs, I.ok.frf⟩, I.os, I.bare, I.base, I.loc, I.cell, I.free, I.freeC, I.pin, I.hok, I.len⟩
theorem passE : Passes (CX1 (cxE X NC scope E c).prog (cxE X NC scope E c).w) (cxE X NC scope E c) E := fun pins σ H s e s' I z => ⟨pins, σ, H, s, I.ofE, z⟩
end
section
variable {X : Cx} {scope : Scope} {own frees : List Str} {ix : List Nat} {tg elt iter : Expr} {pos : Pos} {wi : TI} {g : CP → TG} {te : CP → TE} {E : XK}
theorem note_block {c : CP} {R : Value → Shared → Prop} {NC : List Str} (hst : X.stack = X.env :: X.outer ∧ X.env.frame = some X.env.locals) {e : Value} {s' : Shared} (h : (cxE X NC scope E c).xe e s')
    (hR : ∀ s'', (∃ pins σ H1 s1, Inv (cxC X NC scope c) pins σ H1 s1 ∧ CXA X.prog X.w X.stack H1 s1 E e s'') → R e s'') : notedBy (model X.prog X.w) X.A (cxC X NC scope c).env R e s' := by
  obtain ⟨pins, σ, H1, s1, I, a, C, H', rfl, F, hE⟩ := h
  obtain ⟨B, a0, kb, th, hok, fl⟩ := F.fl
  show wpAny _ X.A (noteFrame (.ref a) X.env) _ _ s'
  have fr := I.ok.frames
  have fr : X.A.frames = some (X.env :: X.outer) := by rw [← hst.1]; exact fr
  have fl' := fl
  rw [hst.1] at fl'
  refine wpAny_looks_onW fr hst.2 fl' fun h' hh up => hR _ ⟨pins, σ, H1, s1, I, a, C, H', rfl, ⟨F.os, F.bare, fun b o q hb => ?_, F.free, F.tups, F.frzs, F.tbls, B, a0, _, kb, th, hok, hh.1, hh.2.1, ?_, hh.2.2.2⟩, hE⟩
  · obtain ⟨sl, e⟩ := F.slot b o q hb
    obtain ⟨_, o', ho', hd⟩ := fl.2.2.1.mem hb
    rw [e] at ho'
    cases ho'
    obtain ⟨sl', e'⟩ := up b _ e hd
    exact ⟨sl', e'⟩
  · rw [hst.1]
    exact hh.2.2.1
theorem comp_loopE {J : It} {it acc : Addr} {fp : List Addr} {tn : Nat → Heap → Prop} {c : CP} {σ : St} {H : Hp} {s : Shared} {Q : VK} {R : Result → Shared → Prop}
    (hst : X.stack = X.env :: X.outer ∧ X.env.frame = some X.env.locals)
    (hfp : c.fp = fp) (T : Turn X.prog X.w X.K tg J fp it tn) (hg : PG (cxC X (own ++ frees) scope c) tg (g c)) (he : PE (cxE X (own ++ frees) scope E c) elt (te c))
    (fpk : ∀ b ∈ fp, ∀ H' : Hp, H' b = none → FpOk (cxC X (own ++ frees) scope c) [] H' b)
    (I : Inv (cxC X (own ++ frees) scope c) [] (stC own ix σ) H s) (st : tn 0 s.heap) (fr : ∀ b ∈ fp, H b = none) (h : cLoop J (stC own ix σ) acc (g c) (fun _ H Q => Q true H) (te c) H Q)
    (hR : ∀ s' H', Inv (cxC X (own ++ frees) scope c) [] (stC own ix σ) H' s' → Q (.ref acc) H' → R (.ok .next) s')
    (hRE : ∀ e s', (∃ pins σ H1 s1, Inv (cxC X (own ++ frees) scope c) pins σ H1 s1 ∧ CXA X.prog X.w X.stack H1 s1 E e s') → R (.error e) s') :
    codeAny (model X.prog X.w) X.A (.compLoop (.ListComp elt [⟨tg, iter, [], 0⟩] scope pos) 0 (.ref it) (.ref acc) (cxC X (own ++ frees) scope c).env) R s := by
  obtain ⟨W, ⟨m0, w0⟩, turn⟩ := h
  refine codeAny_loop rfl (fun n s' => ∃ i ys H', Inv (cxC X (own ++ frees) scope c) [] (stC own ix σ) H' s' ∧ tn i s'.heap ∧ (∀ b ∈ fp, H' b = none) ∧ W i n ys H') (fun n s1 hI => ?_) m0 ⟨0, [], H, I, st, fr, w0⟩
  obtain ⟨i, ys, H1, I1, st1, fr1, w1⟩ := hI
  show wpAny _ X.A ((compTurn (.ListComp elt [⟨tg, iter, [], 0⟩] scope pos) 0 (.ref it) (.ref acc) (cxC X (own ++ frees) scope c).env).onRaise (fun x => do noteFrame x (cxC X (own ++ frees) scope c).env; theTreesLotGoes x)) _ _ s1
  have nv : ∀ {α : Type} {t : Sem α} {P : α → Shared → Prop} {s : Shared}, wpAny (model X.prog X.w) X.A t P (fun _ _ => False) s → wpAny (model X.prog X.w) X.A t P (notedBy (model X.prog X.w) X.A (cxC X (own ++ frees) scope c).env fun e s' => R (.error e) s') s :=
    fun h => wpAny_mono h (fun _ _ q => q) fun _ _ z => z.elim
  refine wpAny_noted ?_
  rw [compTurn_list]
  obtain ⟨ha, hw⟩ := turn i n ys H1 w1
  rcases hw with ⟨stop, q⟩ | ⟨go, N, hN, step⟩
  · refine wpAny_bind (wpAny_standAt (wpAny_bind (nv (thn (T.done (cxC X (own ++ frees) scope c) rfl rfl rfl rfl i [] s1 _ H1 (fun _ _ => False) I1 (fun b hb => fpk b hb H1 (fr1 b hb)) st1 stop) fun r s2 ⟨hr, I2⟩ => ?_))))
    subst hr
    exact wpAny_pure (hR s2 H1 I2 q)
  · refine wpAny_bind (wpAny_standAt (wpAny_bind (nv (thn (T.item (cxC X (own ++ frees) scope c) rfl rfl rfl rfl i [] s1 _ H1 (fun _ _ => False) I1 (fun b hb => fpk b hb H1 (fr1 b hb)) st1 go) fun r s2 ⟨u, hr, h2⟩ => ?_))))
    subst hr
    refine wpAny_bind (nv (thn h2 fun _ s3 ⟨x, H3, I3, r3, y3, st3, fr3⟩ => ?_))
    have I3' := I3.pinned (fun b hb => fpk b hb H3 (fr3 b hb)) (T.obj _ _ st3)
    refine wpAny_bind (nv (thn (hg _ s3 _ H3 x u _ I3' r3 (step x H3 y3)) fun _ s4 ⟨σ4, H4, I4, ks, q4⟩ => ?_))
    refine wpAny_bind (nv (thn (PIf.run (X := cxC X (own ++ frees) scope c) (Q := fun b H3 => if b = true then te c σ4 H3 fun y H4 => H4 acc = some (.lst ys) ∧ ys.length < sizeLine ∧ N (ys ++ [y]) (upd H4 acc (.lst (ys ++ [y]))) else N ys H3) PIf.nil I4 q4) fun ok s5 ⟨H5, I5, q5⟩ => ?_))
    have keepT : ∀ {s6 : Shared} {σ6 : St} {H6 : Hp}, Inv (cxC X (own ++ frees) scope c) ([] ++ pinsAt fp s3.heap) σ6 H6 s6 → tn (i + 1) s6.heap ∧ ∀ b ∈ fp, H6 b = none := fun {s6 σ6 H6} I6 =>
      ⟨T.keep _ _ _ st3 fun b hb o e => (I6.pin (b, o) (List.mem_append_right _ (List.mem_append_right _ (mem_pinsAt hb e)))).1, fun b hb => by
        obtain ⟨o, e, d⟩ := T.obj _ _ st3 b hb
        exact (I6.pin (b, o) (List.mem_append_right _ (List.mem_append_right _ (mem_pinsAt hb e)))).2.1⟩
    cases ok with
    | false =>
      rw [if_neg (by decide)] at q5
      obtain ⟨m', hm, w5⟩ := hN _ _ q5
      obtain ⟨k1, k2⟩ := keepT I5
      exact wpAny_pure ⟨rfl, m', hm, i + 1, ys, H5, (I5.unpinned).weak ks.len.symm ks.get, k1, k2, w5⟩
    | true =>
      rw [if_pos rfl] at q5
      refine wpAny_bind (wpAny_bind (wpAny_mono (he _ s5 _ H5 _ I5.toE q5) (fun y s6 ⟨yv, H6, I6, r6, a6, l6, q6⟩ => ?_) fun e s' z => note_block hst z fun s'' z' => hRE e s'' z'))
      have I6 := I6.ofE
      obtain ⟨m', hm, w6⟩ := hN _ _ q6
      obtain ⟨k1, k2⟩ := keepT I6
      refine wpAny_bind (nv (thn (mt_append (X := cxC X (own ++ frees) scope c) _ s6 _ H6 (.ref acc) [yv] (.ref acc) [y] (fun _ H7 => H7 = upd H6 acc (.lst (ys ++ [yv]))) I6 rfl (.cons r6 .nil) ⟨acc, ys, yv, rfl, rfl, a6, l6, rfl⟩) fun _ s7 ⟨_, H7, I7, _, e7⟩ => ?_))
      subst e7
      obtain ⟨k1, k2⟩ := keepT I7
      exact wpAny_pure (wpAny_pure ⟨rfl, m', hm, i + 1, ys ++ [yv], _, (I7.unpinned).weak ks.len.symm ks.get, k1, k2, w6⟩)
theorem out_block {pins : List (Addr × Obj)} {σ : St} {H1 : Hp} {s1 s' : Shared} {C : Addr} {m : Str → Option Value} {e : Value} (hxa : Passes (CXA X.prog X.w) X E) (I : Inv X pins σ H1 s1) (hC : s1.heap.Ns C m) (G : CGone X pins C H1) (hf : C ∉ frs X.stack) (h : CXA X.prog X.w X.stack H1 s1 E e s') :
    ∃ m, s'.heap.Ns C m ∧ ∀ h', Heap.SameBut C s'.heap h' → ∀ cenv : Env, cenv.locals = C → wpAny (model X.prog X.w) X.A (passOn "comprehension.variables-let-go" e cenv : Sem Value) (fun _ _ => False) X.xe { s' with heap := h' } := by
  obtain ⟨a, Cc, H', rfl, F, hE⟩ := h
  obtain ⟨B, a0, fl, kb, th, hok, f1, f2, f3, f4⟩ := F.fl
  obtain ⟨oC, es, ep, ho, hrest⟩ := hC
  have hB := kb C oC ho G.no hf
  refine ⟨m, ⟨oC, es, ep, f1 C oC hB, hrest⟩, fun h' sb cenv _ => ?_⟩
  obtain ⟨oe, vs, T, oT, ts, he, hcls, hd, h1, hnT, hTe, hT, hdT, h3⟩ := f4
  have aC : a ≠ C := fun z => by rw [z, hB] at f2; cases f2
  have TC : T ≠ C := fun z => by rw [z, hB] at hnT; cases hnT
  have hsz3 : 3 < ts.size := (Array.getElem?_eq_some_iff.mp h3).1
  have he' : h'.get? a = some oe := (sb.2 a aC).trans he
  have hT' : h'.get? T = some oT := (sb.2 T TC).trans hT
  unfold PySem.passOn
  refine wpAny_bind (wpAny_field he' hd h1 ?_)
  rw [if_neg (show ¬ ((Value.ref T == Value.none) = true) from by simp)]
  unfold setFlight
  refine wpAny_bind (wpAny_bind (wpAny_field he' hd h1 ?_))
  rw [if_pos (show (Value.ref T != Value.none) = true from by simp)]
  refine wpAny_setField hT' hdT hsz3 (wpAny_throw ?_)
  have other : ∀ x : Value, ∀ b, b ≠ T → (h'.update T (Obj.mapFields (·.setIfInBounds 3 x))).get? b = h'.get? b := fun x b hb => Heap.get?_update_other _ _ (Ne.symm hb)
  have I' := G.inv I (h' := s1.heap.hide C) ⟨Heap.hide_size _ _, fun b hb => Heap.hide_ne _ hb⟩
  have notC : ∀ b o, (s1.heap.hide C).get? b = some o → b ≠ C := fun b o q z => by
    subst z
    have : (PySem.W.hideAll s1.heap [b]).get? b = none := PySem.W.hideAll_none [b] (.head _)
    rw [show PySem.W.hideAll s1.heap [b] = s1.heap.hide b from rfl, q] at this
    cases this
  have notB : ∀ b o, (B.hide C).get? b = some o → b ≠ C := fun b o q z => by
    subst z
    have : (PySem.W.hideAll B [b]).get? b = none := PySem.W.hideAll_none [b] (.head _)
    rw [show PySem.W.hideAll B [b] = B.hide b from rfl, q] at this
    cases this
  have HC : H' C = none := F.free C oC ho G.no
  refine hxa _ _ _ _ _ _ I' ⟨a, Cc, H', rfl, ⟨F.os, F.bare, fun b o q hb => ?_, fun b o q n => F.free b o (Heap.of_hide q) n, F.tups, F.frzs, F.tbls, B.hide C, a0, cenv.frame.elim Value.none fun f => rawInt f, fun b o q n hb => (Heap.hide_ne _ (notC b o q)).trans (kb b o (Heap.of_hide q) n hb), fun b o q hb => ?_, fun b o q => ?_, fun b o q => ?_, ?_, ?_, ?_⟩, hE⟩
  · obtain ⟨sl, e⟩ := F.slot b o (Heap.of_hide q) hb
    obtain ⟨_, o', ho', hd'⟩ := f3.mem hb
    have bT : b ≠ T := fun z => by
      rw [z, hT] at ho'; cases ho'; exact hd' ts hdT
    exact ⟨sl, (other _ b bT).trans ((sb.2 b (notC b o q)).trans e)⟩
  · obtain ⟨o', e⟩ := th b o (Heap.of_hide q) hb
    exact ⟨o', (Heap.hide_ne _ (notC b o q)).trans e⟩
  · refine (hok b o q).stay (fun c u hc r => (Heap.hide_ne _ fun z => ?_).trans r) (fun _ r => r) fun _ _ r => r
    rcases hc with y | y
    · rw [← y, z, HC] at q; cases q
    · rw [z, HC] at y; cases y
  · have q' := Heap.of_hide q
    have bT : b ≠ T := fun z => by rw [z, hnT] at q'; cases q'
    exact (other _ b bT).trans ((sb.2 b (notB b o q)).trans (f1 b o q'))
  · exact (Heap.hide_ne _ aC).trans f2
  · refine ff_turn f3 (fun b hb o q hn => ?_) fun b q => ?_
    · have bT : b ≠ T := fun z => by
        rw [z, hT] at q; cases q; exact hn ts hdT
      exact (other _ b bT).trans ((sb.2 b fun z => hf (z ▸ hb)).trans q)
    · cases e : (B.hide C).get? b with
      | none => rfl
      | some o => rw [Heap.of_hide e] at q; cases q
  · exact ⟨oe, vs, T, _, _, (other _ a (Ne.symm hTe)).trans he', hcls, hd, h1, (Heap.hide_ne _ TC).trans hnT, hTe, Heap.get?_update_self _ hT' (Obj.isFreed_of_fields (Obj.data_mapFields hdT _)), Obj.data_mapFields hdT _, by rw [Array.getElem?_setIfInBounds_self_of_lt hsz3]⟩
end
end L2
namespace L2
open PySem PySem.Spec PyProof.Rows
section
variable {X : Cx} {scope : Scope} {own frees : List Str} {ix : List Nat} {tg elt iter : Expr} {pos : Pos} {wi : TI} {g : CP → TG} {te : CP → TE} {E : XK}
theorem comp_blockE {pins : List (Addr × Obj)} {σ : St} {H : Hp} {s : Shared} {Q : VK} {RR : Value → Addr → Result → Shared → Prop} {E' : Value → Shared → Prop} {J : It} {it : Addr} {fp : List Addr} {tn : Nat → Heap → Prop}
    (hst : X.stack = X.env :: X.outer ∧ X.env.frame = some X.env.locals) (S : CScope X scope frees) (hc : X.calm = true) (hN : ix.map (fun i => X.N[i]?) = frees.map some)
    (hg : ∀ c, PG (cxC X (own ++ frees) scope c) tg (g c)) (he : ∀ c, PE (cxE X (own ++ frees) scope E c) elt (te c))
    (I : Inv X pins σ H s) (T : Turn X.prog X.w X.K tg J fp it tn) (st : tn 0 s.heap) (hf : ∀ b ∈ fp, FpOk X pins H b)
    (h : ∀ (c : CP) (acc : Addr), H acc = none → cLoop J (stC own ix σ) acc (g c) (fun _ H Q => Q true H) (te c) (upd H acc (.lst [])) Q)
    (hRR : ∀ (acc C : Addr) s' H' m, Inv X pins σ H' s' → s'.heap.Ns C m → CGone X pins C H' → Q (.ref acc) H' → RR (.ref acc) C (.ok .next) s')
    (hRE : ∀ (acc C : Addr) e s' s1 H1 m, Inv X pins σ H1 s1 → s1.heap.Ns C m → CGone X pins C H1 → C ∉ frs X.stack → CXA X.prog X.w X.stack H1 s1 E e s' → RR (.ref acc) C (.error e) s') :
    wpAny (model X.prog X.w) X.A (newList []) (fun acc s₃ => wpAny (model X.prog X.w) X.A (newFunctionEnv scope X.env.globals (clFrom X.env scope.names []) [] X.env.qual none .none (some X.env)) (fun cenv s₄ =>
      codeAny (model X.prog X.w) X.A (.compStart (.ListComp elt [⟨tg, iter, [], 0⟩] scope pos) 0 (.ref it) acc { cenv with scope := relabel scope X.env }) (RR acc cenv.locals) s₄) E' s₃) E' s := by
  refine wpAny_newObj_type (wpAny_newFunctionEnv S.nocell (by intro y hy; simp at hy) (fun h₁ hns hsb => ?_) S.kind)
  dsimp only at hns hsb ⊢
  have hn0 : H s.heap.objs.size = none := I.hok.fresh (Nat.le_refl _)
  have I3 : Inv X pins σ (upd H s.heap.objs.size (.lst [])) { s with heap := s.heap.push { cls := .type "list", data := .seq ([] : List Value).toArray } } := I.lnew (its := []) (t' := s.toks) .nil (Nat.zero_le _)
  generalize hs3 : ({ s with heap := s.heap.push { cls := .type "list", data := .seq ([] : List Value).toArray } } : Shared) = s3 at I3
  have e3 : s3.heap = s.heap.push { cls := .type "list", data := .seq ([] : List Value).toArray } := by rw [← hs3]
  have ob : ∀ b ∈ fp, b < s.heap.objs.size := fun b hb => by
    obtain ⟨o, e, _⟩ := T.obj _ _ st b hb
    exact Heap.lt_size e
  have sz : s3.heap.objs.size = s.heap.objs.size + 1 := by rw [e3, Heap.size_push]
  have hf3 : ∀ b ∈ fp, FpOk X pins (upd H s.heap.objs.size (.lst [])) b ∧ b < s3.heap.objs.size := fun b hb =>
    ⟨⟨by rw [upd_ne (Nat.ne_of_lt (ob b hb))]; exact (hf b hb).1, (hf b hb).2⟩, by rw [sz]; exact Nat.lt_succ_of_lt (ob b hb)⟩
  have kp : ∀ b o, s3.heap.get? b = some o → h₁.get? b = some o := fun b o e => by
    refine hsb.extBut b o ?_ (Heap.get?_push_of_some _ (e3 ▸ e))
    rw [← e3]
    exact Nat.ne_of_lt (Heap.lt_size e)
  have nsC : h₁.Ns s3.heap.objs.size (fun x => ([] : List (Str × Value)).reverse.lookup x) := by rw [e3]; exact hns
  have J0 : Inv (cxC X (own ++ frees) scope ⟨s3.heap.objs.size, s3, upd H s.heap.objs.size (.lst []), pins, fp⟩) [] (stC own ix σ) (upd H s.heap.objs.size (.lst [])) { s3 with heap := h₁, toks := s.toks + 0 } :=
    cxC_inv S hc I3 hf3 rfl hN ⟨_, nsC⟩ kp
  have fpk : ∀ b ∈ fp, ∀ H' : Hp, H' b = none → FpOk (cxC X (own ++ frees) scope ⟨s3.heap.objs.size, s3, upd H s.heap.objs.size (.lst []), pins, fp⟩) [] H' b := fun b hb H' hn => cxC_fp S I3 hf3 rfl hb hn
  have st1 : tn 0 h₁ := T.keep _ _ _ st fun b hb o e => kp b o (by rw [e3]; exact Heap.get?_push_of_some _ e)
  have gone : ∀ H', H' s3.heap.objs.size = none → CGone X pins s3.heap.objs.size H' := fun H' hn => by
    refine ⟨hn, Nat.ne_of_gt I3.lt, I3.sz, fun x c e z => ?_, fun p hp z => ?_⟩
    · obtain ⟨v, q⟩ := I3.cell x c e
      exact absurd (Nat.lt_of_lt_of_le q.lt (by rw [z]; exact Nat.le_refl _)) (Nat.lt_irrefl _)
    · exact absurd (Nat.lt_of_lt_of_le (Heap.lt_size (I3.pin p hp).1) (by rw [z]; exact Nat.le_refl _)) (Nat.lt_irrefl _)
  have loop : codeAny (model X.prog X.w) X.A (.compLoop (.ListComp elt [⟨tg, iter, [], 0⟩] scope pos) 0 (.ref it) (.ref s.heap.objs.size) (cxC X (own ++ frees) scope ⟨s3.heap.objs.size, s3, upd H s.heap.objs.size (.lst []), pins, fp⟩).env)
      (RR (.ref s.heap.objs.size) s3.heap.objs.size) { s3 with heap := h₁, toks := s.toks + 0 } := by
    refine comp_loopE hst rfl T (hg _) (he _) fpk J0 st1 (fun b hb => (hf3 b hb).1.1) (h _ _ hn0) (fun s' H' I' q => ?_) fun e s' ⟨pins1, σ1, H1, s1, I', z⟩ => ?_
    · obtain ⟨m, hm, _⟩ := I'.loc
      exact hRR _ _ s' H' m (cxC_back I3 hf3 I') hm (gone H' I'.free) q
    · obtain ⟨m, hm, _⟩ := I'.loc
      refine hRE _ _ e s' s1 H1 m (I3.call' I'.os I'.base I'.hok I'.bare fun b hb => ⟨(hf3 b hb).1.2.2.2.1, (hf3 b hb).1.2.1, (hf3 b hb).1.2.2.2.2.1, (hf3 b hb).1.2.2.2.2.2⟩) hm (gone H1 I'.free) (fun y => ?_) z
      obtain ⟨_, o, ho, _⟩ := I3.stack.mem y
      exact absurd (Heap.lt_size ho) (Nat.lt_irrefl _)
  have loop' := loop
  rw [← hs3] at loop'
  exact codeAny_compStart_list loop' (T.self _ 0 _ _ _ st1 loop')
theorem pe_compE (hst : X.stack = X.env :: X.outer ∧ X.env.frame = some X.env.locals) (hxa : Passes (CXA X.prog X.w) X E) (hi : PI X tg iter wi)
    (hg : ∀ c, PG (cxC X (own ++ frees) scope c) tg (g c)) (he : ∀ c, PE (cxE X (own ++ frees) scope E c) elt (te c)) (S : CScope X scope frees) (hc : X.calm = true) (hN : ix.map (fun i => X.N[i]?) = frees.map some) (hs : ∀ x, foldedSetIterable iter X.env x = pure x) :
    PE X (.ListComp elt [⟨tg, iter, [], 0⟩] scope pos) (tComp own ix wi g (fun _ _ H Q => Q true H) te) := by
  intro pins s σ H Q I h
  rw [eval_ListComp]
  refine wpAny_comprehension_free (use := none) rfl hs (closure_is (S.has I.ok)) S.kind S.locs (thn (hi pins s σ H _ I h) fun v s1 h1 => thn h1 fun itv s2 h2 => ?_)
  obtain ⟨it, fp, tn, J, H2, e, I2, T, st2, f2, hw⟩ := h2
  subst e
  refine comp_blockE hst S hc hN hg he I2 T st2 f2 hw (fun acc C s' H' m I' hm G q => ?_) fun acc C e s' s1 H1 m I' hm G hf z => ?_
  · exact ⟨m, hm, fun h' hs' => ⟨.ref acc, H', G.inv I' hs', rfl, q⟩⟩
  · exact out_block hxa I' hm G hf z
end
end L2
namespace DP
open PySem PySem.Spec PyProof.Rows L2
section
variable {X : Cx} {N : En} {own frees : List Str} {ix : List Nat} {it : DTI} {te : DTE} (k : Option Nat) {tg iter elt : Expr} {scope : Scope} {pos : Pos} {E : XK}
theorem de_compE (hst : X.stack = X.env :: X.outer ∧ X.env.frame = some X.env.locals) (hxa : Passes (CXA X.prog X.w) X E) (hk : own.length = k.getD 1) (hi : PI X tg iter (upI X.mg N it)) (hg : ∀ c, PG (cxC X (own ++ frees) scope c) tg (tgL X.K k)) (he : ∀ c, PE (cxE X (own ++ frees) scope E c) elt (up X.mg N te)) (S : CScope X scope frees := by exact ⟨rfl, by decide +kernel, by decide +kernel, by decide +kernel, by decide +kernel, rfl⟩) (hc : X.calm = true := by rfl) (hN : ix.map (fun i => X.N[i]?) = frees.map some := by rfl) (hs : ∀ x, foldedSetIterable iter X.env x = pure x := by intro _; rfl) :
    PE X (.ListComp elt [⟨tg, iter, [], 0⟩] scope pos) (up X.mg N (dComp k ix it tt0 te)) :=
  de_w (pe_compE hst hxa hi hg he S hc hN hs) fun σ H Q q => up_comp (own := own) hk (fun _ σ H Q h => by
    obtain ⟨A, ι, τ, R, S, h, k⟩ := h
    exact k.here S.ra h) q
end
theorem fnDA {P : Program} {w : World} {K : PySem.W.Frag} {mg : Str → Option Value} {base : Heap} {x : Str} {st : Stmt} {Nm ps : List Str} {k n : Nat} {S : Ct} (T : TopD K mg x st ps) (Sc : FnScope Nm ps (defScope st)) (hn : ps.length = n) (hN : ps.length ≤ Nm.length)
    (hbody : ∀ (N : En) (RE : DX) (f : Addr) (cdv : Value) (B : Around) (outer : List Env) (s : Shared) (H : Hp) (E : XK), Room k (cxOf (CX1 P w) P w K mg base Nm x (defScope st) f cdv B outer s H E).A →
      Raises (cxOf (CX1 P w) P w K mg base Nm x (defScope st) f cdv B outer s H E) (EL mg N RE) → Passes (CX1 P w) (cxOf (CX1 P w) P w K mg base Nm x (defScope st) f cdv B outer s H E) (EL mg N RE) → Passes (CXA P w) (cxOf (CX1 P w) P w K mg base Nm x (defScope st) f cdv B outer s H E) (EL mg N RE) →
      ∀ ds A R, S ds A R RE → ds.length = n → ∃ m, PSs (cxOf (CX1 P w) P w K mg base Nm x (defScope st) f cdv B outer s H E) (defBody st) (upS mg N m) ∧ m { nx := fun _ A' => R .non A', rt := R } (startD (Nm.length - n) ds) A) : FnX P w K mg base (k + 1) x ps (spOf mg n S) := by
  refine T.fnX Sc (fun vs H Q E h => ?_) fun f cdv A outer s H vs Q E hr h => ?_
  · obtain ⟨A, ι, ds, R, RE, hl, _, hv, _⟩ := h
    rw [← RVs.length hv, hl, hn]
  · obtain ⟨A0, ι0, ds, R, RE, hl, ra, hv, hS, kq, kx⟩ := h
    have hE : ∀ C a H', EL mg ⟨A0, ι0, H⟩ RE C a H' → E C none H' := fun C a H' z => by
      obtain ⟨c, A', ι', ⟨b, rfl, hc⟩, ex, r, q⟩ := z
      exact kx c A' ι' H' b q hc ex r
    obtain ⟨m, hP, hm⟩ := hbody ⟨A0, ι0, H⟩ RE f cdv A outer s H E hr
      (fun pins σ H1 s1 e h' C args I mx z => raisesX pins σ H1 s1 e h' C args I mx (hE _ _ _ z))
      (fun pins σ H1 s1 e s' I z => passX pins σ H1 s1 e s' I (by
        obtain ⟨a, C, H', h1, h2, h3⟩ := z
        exact ⟨a, C, H', h1, h2, hE _ _ _ h3⟩))
      (fun pins σ H1 s1 e s' I z => passAX pins σ H1 s1 e s' I (by
        obtain ⟨a, C, H', h1, h2, h3⟩ := z
        exact ⟨a, C, H', h1, h2, hE _ _ _ h3⟩)) ds A0 R hS hl
    have hlv := RVs.length hv
    refine ⟨_, hP, A0, ι0, _, _, ⟨ra, ⟨?_, fun i d q => ?_⟩, ra.refl⟩, hm, ⟨fun τ A' ι' σ H' q e r _ => kq _ A' ι' H' _ q e r rfl, kq, fun _ _ _ _ _ q _ _ _ => q.elim, fun _ _ _ _ _ q _ _ _ => q.elim⟩⟩
    · simp [startD, L2.start]
      omega
    · obtain ⟨v, h1, h2⟩ := RVs.get hv (lk_start ds _ i d q)
      refine ⟨v, ?_, h2⟩
      have hi := (List.getElem?_eq_some_iff.mp h1).1
      unfold L2.start
      rw [List.getElem?_append_left (by simpa using hi), List.getElem?_map, h1]
      rfl
end DP
namespace My
open PySem PySem.Spec PyProof.Rows L2 DP
def top (i : Nat) : Stmt := PySem.Challenge.pw_hangstill_k30_whole_weights_texts.main.body.getD i (.Pass ⟨0, 0, 0, 0⟩)
abbrev s_is_number : Stmt := top 15
abbrev p_is_number : List Str := ["thing", "first", "last"]
theorem sc_is_number : FnScope ["thing", "first", "last"] p_is_number (defScope s_is_number) := ⟨rfl, rfl, rfl, by decide +kernel, rfl, by decide +kernel, by decide +kernel⟩
abbrev s_is_name : Stmt := top 16
abbrev p_is_name : List Str := ["thing"]
theorem sc_is_name : FnScope ["thing"] p_is_name (defScope s_is_name) := ⟨rfl, rfl, rfl, by decide +kernel, rfl, by decide +kernel, by decide +kernel⟩
abbrev s_is_named_number : Stmt := top 17
abbrev p_is_named_number : List Str := ["thing"]
theorem sc_is_named_number : FnScope ["thing"] p_is_named_number (defScope s_is_named_number) := ⟨rfl, rfl, rfl, by decide +kernel, rfl, by decide +kernel, by decide +kernel⟩
abbrev s_is_weights : Stmt := top 18
abbrev p_is_weights : List Str := ["thing"]
theorem sc_is_weights : FnScope ["thing", "names"] p_is_weights (defScope s_is_weights) := ⟨rfl, rfl, rfl, by decide +kernel, rfl, by decide +kernel, by decide +kernel⟩
abbrev s_check_are_weights : Stmt := top 19
abbrev p_check_are_weights : List Str := ["thing"]
theorem sc_check_are_weights : FnScope ["thing"] p_check_are_weights (defScope s_check_are_weights) := ⟨rfl, rfl, rfl, by decide +kernel, rfl, by decide +kernel, by decide +kernel⟩
abbrev s_check_text : Stmt := top 22
abbrev p_check_text : List Str := ["thing"]
theorem sc_check_text : FnScope ["thing"] p_check_text (defScope s_check_text) := ⟨rfl, rfl, rfl, by decide +kernel, rfl, by decide +kernel, by decide +kernel⟩
abbrev s_whole_number : Stmt := top 23
abbrev p_whole_number : List Str := ["text", "last"]
theorem sc_whole_number : FnScope ["text", "last"] p_whole_number (defScope s_whole_number) := ⟨rfl, rfl, rfl, by decide +kernel, rfl, by decide +kernel, by decide +kernel⟩
abbrev s_named_number : Stmt := top 24
abbrev p_named_number : List Str := ["text"]
theorem sc_named_number : FnScope ["text", "parts"] p_named_number (defScope s_named_number) := ⟨rfl, rfl, rfl, by decide +kernel, rfl, by decide +kernel, by decide +kernel⟩
abbrev s_weights_text : Stmt := top 25
abbrev p_weights_text : List Str := ["weights"]
theorem sc_weights_text : FnScope ["weights"] p_weights_text (defScope s_weights_text) := ⟨rfl, rfl, rfl, by decide +kernel, rfl, by decide +kernel, by decide +kernel⟩
abbrev s_read_weights : Stmt := top 26
abbrev p_read_weights : List Str := ["text"]
theorem sc_read_weights : FnScope ["text", "weights"] p_read_weights (defScope s_read_weights) := ⟨rfl, rfl, rfl, by decide +kernel, rfl, by decide +kernel, by decide +kernel⟩
abbrev s__law_cell_at : Stmt := top 31
abbrev p__law_cell_at : List Str := ["_law_script", "_law_k"]
theorem sc__law_cell_at : FnScope ["_law_script", "_law_k"] p__law_cell_at (defScope s__law_cell_at) := ⟨rfl, rfl, rfl, by decide +kernel, rfl, by decide +kernel, by decide +kernel⟩
abbrev s__law_mixed : Stmt := top 32
abbrev p__law_mixed : List Str := ["_law_script", "_law_k", "_law_many"]
theorem sc__law_mixed : FnScope ["_law_script", "_law_k", "_law_many", "_law_drawn"] p__law_mixed (defScope s__law_mixed) := ⟨rfl, rfl, rfl, by decide +kernel, rfl, by decide +kernel, by decide +kernel⟩
abbrev s__law_draw : Stmt := top 33
abbrev p__law_draw : List Str := ["_law_script", "_law_town", "_law_many"]
theorem sc__law_draw : FnScope ["_law_script", "_law_town", "_law_many"] p__law_draw (defScope s__law_draw) := ⟨rfl, rfl, rfl, by decide +kernel, rfl, by decide +kernel, by decide +kernel⟩
abbrev s__law_pick : Stmt := top 34
abbrev p__law_pick : List Str := ["_law_script", "_law_town", "_law_some"]
theorem sc__law_pick : FnScope ["_law_script", "_law_town", "_law_some"] p__law_pick (defScope s__law_pick) := ⟨rfl, rfl, rfl, by decide +kernel, rfl, by decide +kernel, by decide +kernel⟩
abbrev s__law_weights : Stmt := top 35
abbrev p__law_weights : List Str := ["_law_script", "_law_town", "_law_names_here"]
theorem sc__law_weights : FnScope ["_law_script", "_law_town", "_law_names_here", "_law_wide"] p__law_weights (defScope s__law_weights) := ⟨rfl, rfl, rfl, by decide +kernel, rfl, by decide +kernel, by decide +kernel⟩
abbrev s__law_which : Stmt := top 36
abbrev p__law_which : List Str := ["_law_e"]
theorem sc__law_which : FnScope ["_law_e", "_law_own"] p__law_which (defScope s__law_which) := ⟨rfl, rfl, rfl, by decide +kernel, rfl, by decide +kernel, by decide +kernel⟩
abbrev s__law_ask : Stmt := top 37
abbrev p__law_ask : List Str := ["_law_thing"]
theorem sc__law_ask : FnScope ["_law_thing", "_law_e"] p__law_ask (defScope s__law_ask) := ⟨rfl, rfl, rfl, by decide +kernel, rfl, by decide +kernel, by decide +kernel⟩
abbrev s__law_due : Stmt := top 38
abbrev p__law_due : List Str := ["_law_text"]
theorem sc__law_due : FnScope ["_law_text", "_law_made", "_law_word", "_law_name", "_law_sign", "_law_figures", "_law_names_here"] p__law_due (defScope s__law_due) := ⟨rfl, rfl, rfl, by decide +kernel, rfl, by decide +kernel, by decide +kernel⟩
abbrev s_law : Stmt := top 39
abbrev p_law : List Str := ["_law_script"]
theorem sc_law : FnScope ["_law_script", "_law_town", "_law_often", "_law_names_here", "_law_text", "_law_k", "_law_at", "_law_sign_in", "_law_odd", "_law_due_here"] p_law (defScope s_law) := ⟨rfl, rfl, rfl, by decide +kernel, rfl, by decide +kernel, by decide +kernel⟩
end My
namespace My
open PySem PySem.Spec PyProof.Rows L2 DP MA
section
variable {P : Program} {w : World} {K : PySem.W.Frag} {mg : Str → Option Value} {base : Heap}
theorem one_lt {c d : Nat} : ([c] : List Nat) < [d] ↔ c < d := by simp [List.cons_lt_cons_iff]
theorem sg_a : ("a" : Str).cps.toList = [97] := by decide +kernel
theorem sg_z : ("z" : Str).cps.toList = [122] := by decide +kernel
end
end My
namespace DP
open PySem PySem.Spec PyProof.Rows L2 MA
mutual
def okA (A : Ar) : D → Bool
  | .tup xs => okAs A xs
  | .exc _ => false
  | .str z => decide (z.length ≤ sizeLine)
  | .ref r => match A[r]? with
    | some (.lst _) => true
    | some (.dct _) => true
    | _ => false
  | _ => true
def okAs (A : Ar) : List D → Bool
  | [] => true
  | x :: xs => okA A x && okAs A xs
end
def isNu (x : D) (a b : Int) : Bool := match x with
  | .int i => decide (a ≤ i) && decide (i ≤ b)
  | _ => false
def azB : D → Bool
  | .str z => !decide (z.cps.toList < ("a" : Str).cps.toList) && !decide (("z" : Str).cps.toList < z.cps.toList)
  | _ => false
def isNa : D → Bool
  | .str n => decide ((1 : Int) ≤ (n.length : Nat)) && decide (((n.length : Nat) : Int) ≤ 3) && (sgs n).all azB
  | _ => false
def SNumA : Ct := fun ds A R _ => ∃ x a b, ds = [x, .int a, .int b] ∧ okA A x = true ∧ ∀ A', Gr A A' → R (.bl (isNu x a b)) A'
def SNameA : Ct := fun ds A R _ => ∃ x, ds = [x] ∧ okA A x = true ∧ ∀ A', Gr A A' → R (.bl (isNa x)) A'
mutual
theorem okA_gr {A A' : Ar} (g : Gr A A') : ∀ x, okA A x = true → okA A' x = true
  | .tup xs, h => by
    have h : okAs A xs = true := h
    exact okAs_gr g xs h
  | .non, h => rfl
  | .bl _, h => rfl
  | .int _, h => rfl
  | .str _, h => h
  | .fl _, h => rfl
  | .exc _, h => by cases h
  | .ref r, h => by
    unfold okA at h ⊢
    cases e : A[r]? with
    | none => rw [e] at h; cases h
    | some c => rw [e] at h; rw [g.get e]; exact h
theorem okAs_gr {A A' : Ar} (g : Gr A A') : ∀ xs, okAs A xs = true → okAs A' xs = true
  | [], h => rfl
  | x :: xs, h => by
    have h : (okA A x && okAs A xs) = true := h
    rw [Bool.and_eq_true] at h
    show (okA A' x && okAs A' xs) = true
    rw [Bool.and_eq_true]
    exact ⟨okA_gr g x h.1, okAs_gr g xs h.2⟩
end
theorem okA_ref {A : Ar} {r : Nat} (h : okA A (.ref r) = true) : tyD A (.ref r) = some "list" ∨ tyD A (.ref r) = some "dict" := by
  unfold okA at h
  cases e : A[r]? with
  | none => rw [e] at h; cases h
  | some c =>
    rw [e] at h
    cases c with
    | lst xs => exact .inl (by unfold tyD; simp only [e])
    | dct kvs => exact .inr (by unfold tyD; simp only [e])
    | fdc o kvs => cases h
    | ins cl fs => cases h
theorem isNa_nm {n : Str} (h : Nm n) : isNa (.str n) = true := by
  have h1 := h.lo
  have h3 := h.hi
  unfold isNa
  rw [Bool.and_eq_true, Bool.and_eq_true, decide_eq_true_eq, decide_eq_true_eq]
  refine ⟨⟨by omega, by omega⟩, List.all_eq_true.mpr fun x hx => ?_⟩
  obtain ⟨c, hc, rfl⟩ := List.mem_map.mp hx
  obtain ⟨c1, c2⟩ := h.az c hc
  have e1 : ¬ ((⟨#[c]⟩ : Str).cps.toList < ("a" : Str).cps.toList) := by
    rw [My.sg_a]; intro h; have := My.one_lt.mp h; omega
  have e2 : ¬ (("z" : Str).cps.toList < (⟨#[c]⟩ : Str).cps.toList) := by
    rw [My.sg_z]; intro h; have := My.one_lt.mp h; omega
  show (!decide ((⟨#[c]⟩ : Str).cps.toList < ("a" : Str).cps.toList) && !decide (("z" : Str).cps.toList < (⟨#[c]⟩ : Str).cps.toList)) = true
  rw [decide_eq_false e1, decide_eq_false e2]
  rfl
theorem okA_nm {A : Ar} {n : Str} (h : Nm n) : okA A (.str n) = true := decide_eq_true (Nat.le_trans h.hi (by decide))
end DP
namespace My
open PySem PySem.Spec PyProof.Rows L2 DP MA
section
variable {P : Program} {w : World} {K : PySem.W.Frag} {mg : Str → Option Value} {base : Heap}
theorem fA_num (T : TopD K mg "is_number" s_is_number p_is_number) (b_isinstance : mg "isinstance" = none) (b_bool : mg "bool" = none) (b_int : mg "int" = none) : FnX P w K mg base 1 "is_number" p_is_number (spOf mg 3 SNumA) := by
  refine fnD T sc_is_number rfl (by decide) fun N RE f cdv B outer s H E hr hR hx ds A R h hl => ?_
  have hu := hr.units
  refine ⟨_, (dss_cons (ds_if (PW.pt (dw_or (dt_val (de_is kit_bool b_isinstance b_bool boot_bool (vr 0))) (dw_or1 (dt_not (dt_val (de_is kit_int b_isinstance b_int boot_int (vr 0))))))) (dss_one (ds_ret de_bl)) dss_nil)
    (dss_one (ds_ret (e_lele (vr 1) (vr 0) (vr 2))))), ?_⟩
  obtain ⟨x, a, b, rfl, hk, q⟩ := h
  cases x with
  | int i =>
    have q : ∀ A', Gr A A' → R (.bl (decide (a ≤ i) && decide (i ≤ b))) A' := q
    refine cD (fun c => ?_) (fun c => ?_)
    · have e : (decide (a ≤ i) && decide (i ≤ b)) = decide (i ≤ b) := by simp [c]
      rw [e] at q
      exact q _ Gr.refl
    · have e : (decide (a ≤ i) && decide (i ≤ b)) = false := by simp [c]
      rw [e] at q
      exact q _ Gr.refl
  | exc c => cases hk
  | ref r =>
    rcases okA_ref hk with e | e
    all_goals
      conv => whnf
      rw [e]
      conv => whnf
      rw [e]
      exact q _ Gr.refl
  | _ => exact q _ Gr.refl
theorem fA_name (T : TopD K mg "is_name" s_is_name p_is_name) (b_isinstance : mg "isinstance" = none) (b_str : mg "str" = none) (b_len : mg "len" = none) (b_all : mg "all" = none) {t : Tok} (m_LONGEST_NAME : mg "LONGEST_NAME" = some (.int 3 t)) : FnX P w K mg base 1 "is_name" p_is_name (spOf mg 1 SNameA) := by
  refine fnD T sc_is_name rfl (by decide) fun N RE f cdv B outer s H E hr hR hx ds A R h hl => ?_
  have hu := hr.units
  refine ⟨_, (dss_cons (ds_if (PW.pt (dw_or (dt_not (dt_val (de_is kit_str b_isinstance b_str boot_str (vr 0)))) (dw_or1 (dt_not (t_lele de_int (de_cb c_len d_len b_len PySem.boot_len (da_cons (vr 0) da_nil)) (de_num m_LONGEST_NAME)))))) (dss_one (ds_ret de_bl)) dss_nil)
    (dss_one (ds_ret (de_cb (call_all rfl) d_all b_all boot_all (da_cons (de_comp none (own := ["letter"]) (frees := []) (ix := []) rfl (di_str (vr 0)) (fun c => (pg_name (i := 0) (show (["letter"] : List Str).Nodup by decide +kernel) rfl (by first | exact Or.inl rfl | exact Or.inr rfl))) (fun c => (e_lele de_str (vr 0) de_str))) da_nil))))), ?_⟩
  obtain ⟨x, rfl, hk, q⟩ := h
  cases x with
  | str n =>
    have hz : n.length ≤ sizeLine := of_decide_eq_true hk
    have q : ∀ A', Gr A A' → R (.bl (decide ((1 : Int) ≤ (n.length : Nat)) && decide (((n.length : Nat) : Int) ≤ 3) && (sgs n).all azB)) A' := q
    refine ⟨hz, cD (fun c1 => ?_) (fun c1 => ?_)⟩
    · refine cN (fun c2 => ?_) (fun c2 => ?_)
      · rw [decide_eq_false c2] at q
        simp only [Bool.and_false, Bool.false_and] at q
        exact q _ Gr.refl
      rw [decide_eq_true c1, decide_eq_true c2] at q
      simp only [Bool.true_and] at q
      refine cloop_map (f := fun x => .bl (azB x)) trivial _ _ (fun x hx => ⟨[x], rfl, fun Q hQ => ?_⟩) ?_ ?_
      · obtain ⟨c, hc, rfl⟩ := List.mem_map.mp hx
        have hQ : Q (.bl (!decide ((⟨#[c]⟩ : Str).cps.toList < ("a" : Str).cps.toList) && !decide (("z" : Str).cps.toList < (⟨#[c]⟩ : Str).cps.toList))) A := hQ
        refine cN (fun e1 => ?_) (fun e1 => ?_)
        · rw [decide_eq_false e1] at hQ
          exact hQ
        · rw [decide_eq_true e1] at hQ
          exact hQ
      · have : (sgs n).length = n.length := by simp [sgs, Str.length]
        show 0 + (sgs n).length ≤ sizeLine
        omega
      · refine all_ok (bs := (sgs n).map azB) last_get (bls_map _ _) ?_
        have e : ((sgs n).map azB).all id = (sgs n).all azB := by simp
        rw [e]
        exact q _ Gr.push
    · rw [decide_eq_false c1] at q
      simp only [Bool.false_and] at q
      exact q _ Gr.refl
  | exc c => cases hk
  | ref r =>
    rcases okA_ref hk with e | e
    all_goals
      conv => whnf
      rw [e]
      exact q _ Gr.refl
  | _ => exact q _ Gr.refl
end
end My
namespace DP
open PySem PySem.Spec PyProof.Rows L2 MA
def itS (i : Int) : Str := Str.ofString (toString i)
theorem len_app (a b : Str) : (a ++ b).length = a.length + b.length := Array.size_append
def S (cs : List Nat) : Str := ⟨cs.toArray⟩
theorem S_cps (cs : List Nat) : (S cs).cps.toList = cs := by simp [S]
theorem S_self (x : Str) : S x.cps.toList = x := by
  obtain ⟨c⟩ := x
  simp [S]
theorem S_len (cs : List Nat) : (S cs).length = cs.length := by simp [S, Str.length]
theorem sl_from (cs : List Nat) {i : Nat} (hi : i ≤ cs.length) : Txt.slice (S cs) (some (i : Int)) none = S (cs.drop i) := by
  have := slice_closes_from (x := S cs) (i := (i : Int)) ⟨by omega, by rw [S_cps]; omega⟩
  have e := eq_of_beq this
  rw [e, S_cps]
  have e1 : ((i : Nat) : Int).toNat = i := by omega
  have e2 : ((cs.length : Int) - (i : Int)).toNat = cs.length - i := by omega
  rw [e1, e2, List.take_of_length_le (by rw [List.length_drop]; omega)]
  rfl
theorem sl_to (cs : List Nat) {j : Nat} (hj : j ≤ cs.length) : Txt.slice (S cs) none (some (j : Int)) = S (cs.take j) := by
  have := slice_closes_to (x := S cs) (j := (j : Int)) ⟨by omega, by rw [S_cps]; omega⟩
  have e := eq_of_beq this
  rw [e, S_cps]
  have e2 : ((j : Int) - 0).toNat = j := by omega
  rw [e2]
  rfl
end DP
namespace DP
open PySem PySem.Spec PyProof.Rows L2 MA
theorem itS_ok {n : Int} (h1 : 1 ≤ n) (h2 : n ≤ 12) : 1 ≤ (itS n).length ∧ (itS n).length ≤ 2 ∧ (n ≤ 9 → (itS n).length = 1) ∧ (∃ c cs, (itS n).cps.toList = c :: cs ∧ c ≠ 48) ∧ ∀ c ∈ (itS n).cps.toList, Txt.contains "0123456789" (S [c]) = true := by
  have : n = 1 ∨ n = 2 ∨ n = 3 ∨ n = 4 ∨ n = 5 ∨ n = 6 ∨ n = 7 ∨ n = 8 ∨ n = 9 ∨ n = 10 ∨ n = 11 ∨ n = 12 := by omega
  rcases this with rfl | rfl | rfl | rfl | rfl | rfl | rfl | rfl | rfl | rfl | rfl | rfl
  all_goals exact ⟨by decide +kernel, by decide +kernel, by decide +kernel, ⟨_, _, rfl, by decide +kernel⟩, by decide +kernel⟩
end DP
namespace My
open PySem PySem.Spec PyProof.Rows L2 DP MA
section
variable {P : Program} {w : World} {K : PySem.W.Frag} {mg : Str → Option Value} {base : Heap}
end
end My
namespace DP
open PySem PySem.Spec PyProof.Rows L2 MA
end DP
namespace My
open PySem PySem.Spec PyProof.Rows L2 DP MA
section
variable {P : Program} {w : World} {K : PySem.W.Frag} {mg : Str → Option Value} {base : Heap}
theorem pw_eq {ys ss : List Str} (h1 : ys.Pairwise strLt) (h2 : ss.Pairwise strLt) (hm : ∀ x, x ∈ ys ↔ x ∈ ss) : ys = ss := by
  induction ys generalizing ss with
  | nil =>
    cases ss with
    | nil => rfl
    | cons a r => exact absurd ((hm a).mpr (List.mem_cons_self ..)) (by simp)
  | cons y ys ih =>
    cases ss with
    | nil => exact absurd ((hm y).mp (List.mem_cons_self ..)) (by simp)
    | cons a r =>
      have p1 := List.pairwise_cons.mp h1
      have p2 := List.pairwise_cons.mp h2
      have e : y = a := by
        have m1 := (hm y).mp (List.mem_cons_self ..)
        have m2 := (hm a).mpr (List.mem_cons_self ..)
        rcases List.mem_cons.mp m1 with q | q
        · exact q
        rcases List.mem_cons.mp m2 with q' | q'
        · exact q'.symm
        exact absurd (List.lt_trans (p2.1 y q) (p1.1 a q')) (List.lt_irrefl _)
      subst e
      rw [ih p1.2 p2.2 fun x => ?_]
      constructor
      · intro hx
        rcases List.mem_cons.mp ((hm x).mp (List.mem_cons_of_mem _ hx)) with q | q
        · subst q; exact absurd (p1.1 x hx) (List.lt_irrefl _)
        · exact q
      · intro hx
        rcases List.mem_cons.mp ((hm x).mpr (List.mem_cons_of_mem _ hx)) with q | q
        · subst q; exact absurd (p2.1 x hx) (List.lt_irrefl _)
        · exact q
end
end My
namespace My
open PySem PySem.Spec PyProof.Rows L2 DP MA
section
variable {P : Program} {w : World} {K : PySem.W.Frag} {mg : Str → Option Value} {base : Heap}
end
end My
namespace My
open PySem PySem.Spec PyProof.Rows L2 DP MA
section
variable {P : Program} {w : World} {K : PySem.W.Frag} {mg : Str → Option Value} {base : Heap}
theorem f_cell (T : TopD K mg "_law_cell_at" s__law_cell_at p__law_cell_at) (b_len : mg "len" = none) : FnX P w K mg base 1 "_law_cell_at" p__law_cell_at (spOf mg 2 SCell) := by
  refine fnD T sc__law_cell_at rfl (by decide) fun N RE f cdv B outer s H E hr hR hx ds A R h hl => ?_
  have hu := hr.units
  refine ⟨_, (dss_cons (ds_if (t_lt (vr 1) (de_cb c_len d_len b_len PySem.boot_len (da_cons (vr 0) da_nil))) (dss_one (ds_ret (de_ix hu (vr 0) (vr 1) (fun _ _ => rfl)))) dss_nil)
    (dss_cons (ds_if (t_eq hu (vr 0) (de_lst da_nil)) (dss_one (ds_ret de_int)) dss_nil)
    (dss_one (ds_ret (de_add (de_mul (de_ix hu (vr 0) (de_mod (vr 1) (de_cb c_len d_len b_len PySem.boot_len (da_cons (vr 0) da_nil))) (fun _ _ => rfl)) de_int) (vr 1)))))), ?_⟩
  obtain ⟨ns, k, rfl, hk, q⟩ := h
  refine cD (fun c => ?_) (fun c => ?_)
  · obtain ⟨v, hv, _⟩ := atI_some' hk c
    conv => whnf
    rw [hv]
    exact q v _ Gr.refl
  · refine ⟨Nat.zero_le _, eq_fl_nil ?_⟩
    refine cD (fun c2 => ?_) (fun c2 => ?_)
    · exact q _ _ Gr.push
    · have hne : 0 < (ns.length : Int) := by
        have := List.length_pos_iff.mpr c2
        omega
      obtain ⟨v, hv, _⟩ := atI_some' (xs := ns) (Int.emod_nonneg k (by omega)) (Int.emod_lt_of_pos k hne)
      refine ⟨hne, ?_⟩
      conv => whnf
      rw [hv]
      exact ⟨.inr ⟨by decide, by decide⟩, q _ _ Gr.push⟩
theorem f_mixed (T : TopD K mg "_law_mixed" s__law_mixed p__law_mixed) (F__law_cell_at : FnX P w K mg base 1 "_law_cell_at" p__law_cell_at (spOf mg 2 SCell)) : FnX P w K mg base 2 "_law_mixed" p__law_mixed (spOf mg 3 SMixed) := by
  refine fnD T sc__law_mixed rfl (by decide) fun N RE f cdv B outer s H E hr hR hx ds A R h hl => ?_
  have hu := hr.units
  have nd := sc__law_mixed.nd
  refine ⟨_, (dss_cons (ds_set (i := 3) nd rfl (by first | exact Or.inl rfl | exact Or.inr rfl) (de_mod (de_add (de_add (de_mul (de_call F__law_cell_at (hr.mono (by omega)) hx (da_cons (vr 0) (da_cons (vr 1) da_nil))) de_int) (de_mul de_int (vr 1))) de_int) de_int))
    (dss_one (ds_ret (de_mod (de_mod (de_mod (de_pow (vr 3) de_int) de_int) de_int) (vr 2))))), ?_⟩
  obtain ⟨ns, k, m, rfl, hk, hm, q⟩ := h
  refine ⟨rfl, ns, k, rfl, hk, fun i A' g => ?_⟩
  refine ⟨.inr ⟨by decide, by decide⟩, .inl ⟨by decide, by decide⟩, (by decide : (0 : Int) < 2147483647), ?_⟩
  have b0 := Int.emod_nonneg (i * 1103515245 + 7919 * k + 12345) (show (2147483647 : Int) ≠ 0 by decide)
  have b1 := Int.emod_lt_of_pos (i * 1103515245 + 7919 * k + 12345) (show (0 : Int) < 2147483647 by decide)
  refine ⟨⟨by decide, by decide, ?_⟩, (by decide : (0 : Int) < 2147483647), (by decide : (0 : Int) < 999983), hm, ?_⟩
  · have : (2147483647 : Nat) < 2 ^ 64 := by decide
    omega
  exact q _ _ (Int.emod_nonneg _ (by omega)) (Int.emod_lt_of_pos _ hm) g
theorem f_draw (T : TopD K mg "_law_draw" s__law_draw p__law_draw) (b_len : mg "len" = none) (F__law_mixed : FnX P w K mg base 2 "_law_mixed" p__law_mixed (spOf mg 3 SMixed)) : FnX P w K mg base 3 "_law_draw" p__law_draw (spOf mg 3 SDraw) := by
  refine fnD T sc__law_draw rfl (by decide) fun N RE f cdv B outer s H E hr hR hx ds A R h hl => ?_
  have hu := hr.units
  refine ⟨_, (dss_cons (ds_expr (de_mt PySem.F.plainAttrs_list PySem.F.slot_list_append PySem.F.type_list_append mt_append d_app (vr 1) (da_cons de_int da_nil)))
    (dss_one (ds_ret (de_call F__law_mixed (hr.mono (by omega)) hx (da_cons (vr 0) (da_cons (de_cb c_len d_len b_len PySem.boot_len (da_cons (vr 1) da_nil)) (da_cons (vr 2) da_nil))))))), ?_⟩
  obtain ⟨ns, t, m, n, rfl, ⟨xs, ht, hz⟩, hn, hm, q⟩ := h
  refine ⟨isL_of ht, app_ok ht (by rw [sizeLine]; omega) ?_⟩
  have ht' : (A.set t (.lst (xs ++ [.int 0])))[t]? = some (.lst (xs ++ [.int 0])) := get_set ht
  refine len_ok ht' ⟨rfl, ns, _, m, rfl, by omega, hm, fun i A' h0 h1 g => ?_⟩
  exact q i A' h0 h1 (But.set.trans g.but) (Tw.gr ⟨_, ht', by simpa using hz⟩ g)
theorem f_pick (T : TopD K mg "_law_pick" s__law_pick p__law_pick) (b_len : mg "len" = none) (F__law_draw : FnX P w K mg base 3 "_law_draw" p__law_draw (spOf mg 3 SDraw)) : FnX P w K mg base 4 "_law_pick" p__law_pick (spOf mg 3 SPick) := by
  refine fnD T sc__law_pick rfl (by decide) fun N RE f cdv B outer s H E hr hR hx ds A R h hl => ?_
  have hu := hr.units
  refine ⟨_, (dss_one (ds_ret (de_ix hu (vr 2) (de_call F__law_draw (hr.mono (by omega)) hx (da_cons (vr 0) (da_cons (vr 1) (da_cons (de_cb c_len d_len b_len PySem.boot_len (da_cons (vr 2) da_nil)) da_nil)))) (fun _ _ => rfl)))), ?_⟩
  obtain ⟨ns, t, r, xs, n, rfl, hne, hr, hx, ht, hn, q⟩ := h
  have hp := List.length_pos_iff.mpr hx
  refine len_ok hr ⟨rfl, ns, t, _, n, rfl, ht, hn, by omega, fun i A' h0 h1 b t' => ?_⟩
  obtain ⟨v, hv, hm⟩ := atI_some' h0 h1
  exact ix_ok (b r _ hne hr) hv (q v A' hm b t')
end
end My
namespace DP
open PySem PySem.Spec PyProof.Rows L2 MA
end DP
namespace My
open PySem PySem.Spec PyProof.Rows L2 DP MA
section
variable {P : Program} {w : World} {K : PySem.W.Frag} {mg : Str → Option Value} {base : Heap}
end
end My
namespace DP
open PySem PySem.Spec PyProof.Rows L2 MA
def isNN : D → Bool
  | .tup [a, b] => isNa a && isNu b 1 999999
  | _ => false
def IsW (x : D) : Prop := ∃ rs, x = encW rs ∧ WOk rs
def shortT (x : D) : Prop := ∀ xs, x = .tup xs → xs.length < 64
def SNNA : Ct := fun ds A R _ => ∃ x, ds = [x] ∧ okA A x = true ∧ ∀ A', Gr A A' → R (.bl (isNN x)) A'
def SIwA : Ct := fun ds A R _ => ∃ x, ds = [x] ∧ okA A x = true ∧ shortT x ∧ ∀ A', Gr A A' → ∀ b : Bool, (b = true ↔ IsW x) → R (.bl b) A'
def SCawA : Ct := fun ds A R E => ∃ x, ds = [x] ∧ okA A x = true ∧ shortT x ∧ (IsW x → ∀ A', Gr A A' → R .non A') ∧ (¬ IsW x → ∀ A', Gr A A' → E "NoWeights" A')
theorem isNa_str {x : D} (h : isNa x = true) : ∃ n, x = .str n ∧ Nm n := by
  cases x with
  | str n =>
    unfold isNa at h
    rw [Bool.and_eq_true, Bool.and_eq_true, decide_eq_true_eq, decide_eq_true_eq] at h
    obtain ⟨⟨h1, h2⟩, h3⟩ := h
    refine ⟨n, rfl, ⟨by omega, by omega, fun c hc => ?_⟩⟩
    have := List.all_eq_true.mp h3 (.str ⟨#[c]⟩) (List.mem_map.mpr ⟨c, hc, rfl⟩)
    have this : (!decide ((⟨#[c]⟩ : Str).cps.toList < ("a" : Str).cps.toList) && !decide (("z" : Str).cps.toList < (⟨#[c]⟩ : Str).cps.toList)) = true := this
    rw [My.sg_a, My.sg_z] at this
    simp only [Bool.and_eq_true, Bool.not_eq_true', decide_eq_false_iff_not] at this
    have t1 : ¬ ([c] : List Nat) < [97] := this.1
    have t2 : ¬ ([122] : List Nat) < [c] := this.2
    rw [My.one_lt] at t1 t2
    omega
  | _ => cases h
theorem isNN_row {x : D} (h : isNN x = true) : ∃ r : Str × Int, x = rowD r ∧ Nm r.1 ∧ 1 ≤ r.2 ∧ r.2 ≤ 999999 := by
  unfold isNN at h
  split at h
  · rename_i a b
    rw [Bool.and_eq_true] at h
    obtain ⟨n, rfl, hn⟩ := isNa_str h.1
    cases b with
    | int i =>
      have h2 : (decide ((1 : Int) ≤ i) && decide (i ≤ 999999)) = true := h.2
      simp only [Bool.and_eq_true, decide_eq_true_eq] at h2
      exact ⟨(n, i), rfl, hn, h2.1, h2.2⟩
    | _ => exact absurd h.2 (by simp [isNu])
  · cases h
theorem row_isNN {r : Str × Int} (hn : Nm r.1) (h1 : 1 ≤ r.2) (h2 : r.2 ≤ 999999) : isNN (rowD r) = true := by
  show (isNa (.str r.1) && (decide ((1 : Int) ≤ r.2) && decide (r.2 ≤ 999999))) = true
  rw [isNa_nm hn, decide_eq_true h1, decide_eq_true h2]
  rfl
theorem rows_of : ∀ {xs : List D}, (∀ x ∈ xs, isNN x = true) → ∃ rs : List (Str × Int), xs = rs.map rowD ∧ ∀ r ∈ rs, Nm r.1 ∧ 1 ≤ r.2 ∧ r.2 ≤ 999999
  | [], _ => ⟨[], rfl, fun _ h => by cases h⟩
  | x :: xs, h => by
    obtain ⟨r, rfl, h1⟩ := isNN_row (h x (List.mem_cons_self ..))
    obtain ⟨rs, rfl, h2⟩ := rows_of fun y hy => h y (List.mem_cons_of_mem _ hy)
    exact ⟨r :: rs, rfl, fun q hq => by
      rcases List.mem_cons.mp hq with rfl | hq
      · exact h1
      · exact h2 q hq⟩
theorem encW_inj {rs rs' : List (Str × Int)} (h : encW rs = encW rs') : rs = rs' := by
  unfold encW at h
  injection h with h
  induction rs generalizing rs' with
  | nil => cases rs' with
    | nil => rfl
    | cons _ _ => cases h
  | cons r rs ih => cases rs' with
    | nil => cases h
    | cons r' rs' =>
      simp only [List.map_cons, List.cons.injEq] at h
      have e := h.1
      unfold rowD at e
      simp at e
      rw [ih h.2, Prod.ext e.1 e.2]
theorem okAs_mem' {A : Ar} : ∀ {xs : List D} {x : D}, okAs A xs = true → x ∈ xs → okA A x = true
  | y :: xs, x, h, hx => by
    have h : (okA A y && okAs A xs) = true := h
    rw [Bool.and_eq_true] at h
    rcases List.mem_cons.mp hx with rfl | hx
    · exact h.1
    · exact okAs_mem' h.2 hx
end DP
namespace My
open PySem PySem.Spec PyProof.Rows L2 DP MA
section
variable {P : Program} {w : World} {K : PySem.W.Frag} {mg : Str → Option Value} {base : Heap}
theorem fA_nn (T : TopD K mg "is_named_number" s_is_named_number p_is_named_number) (b_isinstance : mg "isinstance" = none) (b_tuple : mg "tuple" = none) (b_len : mg "len" = none) {t : Tok} (m_HEAVIEST : mg "HEAVIEST" = some (.int 999999 t))
    (F_is_name : FnX P w K mg base 1 "is_name" p_is_name (spOf mg 1 SNameA)) (F_is_number : FnX P w K mg base 1 "is_number" p_is_number (spOf mg 3 SNumA)) : FnX P w K mg base 2 "is_named_number" p_is_named_number (spOf mg 1 SNNA) := by
  refine fnD T sc_is_named_number rfl (by decide) fun N RE f cdv B outer s H E hr hR hx ds A R h hl => ?_
  have hu := hr.units
  refine ⟨_, (dss_cons (ds_if (PW.pt (dw_or (dt_not (dt_val (de_is kit_tuple b_isinstance b_tuple boot_tuple (vr 0)))) (dw_or1 (t_ne hu (de_cb c_len d_len b_len PySem.boot_len (da_cons (vr 0) da_nil)) de_int)))) (dss_one (ds_ret de_bl)) dss_nil)
    (dss_one (ds_ret (de_and (de_call F_is_name (hr.mono (by omega)) hx (da_cons (de_ix hu (vr 0) de_int (fun _ _ => rfl)) da_nil)) (de_one (de_call F_is_number (hr.mono (by omega)) hx (da_cons (de_ix hu (vr 0) de_int (fun _ _ => rfl)) (da_cons de_int (da_cons (de_num m_HEAVIEST) da_nil))))))))), ?_⟩
  obtain ⟨x, rfl, hk, q⟩ := h
  cases x with
  | tup xs =>
    have hk : okAs A xs = true := hk
    refine cN (fun c => ?_) (fun c => ?_)
    · have e : isNN (.tup xs) = false := by
        match xs, c with
        | [], _ => rfl
        | [_], _ => rfl
        | [a, b], c => exact absurd rfl c
        | _ :: _ :: _ :: _, _ => rfl
      have := q A Gr.refl
      rw [e] at this
      exact this
    · obtain ⟨a, b, rfl⟩ : ∃ a b, xs = [a, b] := by
        have c : ((xs.length : Nat) : Int) = 2 := c
        match xs, c with
        | [a, b], _ => exact ⟨a, b, rfl⟩
        | [], c => simp at c
        | [_], c => simp at c
        | _ :: _ :: _ :: _, c => simp at c; omega
      have hk2 : (okA A a && (okA A b && true)) = true := hk
      simp only [Bool.and_eq_true, and_true] at hk2
      have q : ∀ A', Gr A A' → R (.bl (isNa a && isNu b 1 999999)) A' := q
      refine ⟨rfl, a, rfl, hk2.1, fun A1 g1 => ?_⟩
      cases ea : isNa a with
      | false =>
        rw [ea] at q
        exact q _ g1
      | true =>
        rw [ea] at q
        exact ⟨rfl, b, 1, 999999, rfl, okA_gr g1 _ hk2.2, fun A2 g2 => q _ (g1.trans g2)⟩
  | exc c => cases hk
  | ref r =>
    rcases okA_ref hk with e | e
    all_goals
      conv => whnf
      rw [e]
      exact q _ Gr.refl
  | _ => exact q _ Gr.refl
theorem fA_iw (T : TopD K mg "is_weights" s_is_weights p_is_weights) (b_isinstance : mg "isinstance" = none) (b_tuple : mg "tuple" = none) (b_all : mg "all" = none) (b_sorted : mg "sorted" = none) (b_set : mg "set" = none)
    (F_is_named_number : FnX P w K mg base 2 "is_named_number" p_is_named_number (spOf mg 1 SNNA)) : FnX P w K mg base 3 "is_weights" p_is_weights (spOf mg 1 SIwA) := by
  refine fnD T sc_is_weights rfl (by decide) fun N RE f cdv B outer s H E hr hR hx ds A R h hl => ?_
  have hu := hr.units
  have nd := sc_is_weights.nd
  refine ⟨_, (dss_cons (ds_if (PW.pt (dw_or (dt_not (dt_val (de_is kit_tuple b_isinstance b_tuple boot_tuple (vr 0)))) (dw_or1 (dt_not (dt_val (de_cb (call_all rfl) d_all b_all boot_all (da_cons (de_comp none (own := ["pair"]) (frees := []) (ix := []) rfl (di_seq (vr 0)) (fun c => (pg_name (i := 0) (show (["pair"] : List Str).Nodup by decide +kernel) rfl (by first | exact Or.inl rfl | exact Or.inr rfl))) (fun c => (de_call F_is_named_number (hr.mono (by omega)) pass0D (da_cons (vr 0) da_nil)))) da_nil))))))) (dss_one (ds_ret de_bl)) dss_nil)
    (dss_cons (ds_comp none (own := ["pair"]) (frees := []) (ix := []) (i := 1) nd rfl (by first | exact Or.inl rfl | exact Or.inr rfl) rfl (di_seq (vr 0)) (fun c => (pg_name (i := 0) (show (["pair"] : List Str).Nodup by decide +kernel) rfl (by first | exact Or.inl rfl | exact Or.inr rfl))) (fun c => (de_ix hu (vr 0) de_int (fun _ _ => rfl))))
    (dss_one (ds_ret (e_eq hu (vr 1) (de_sortset b_sorted b_set rfl (da_cons (vr 1) da_nil))))))), ?_⟩
  obtain ⟨x, rfl, hk, hsh, q⟩ := h
  have notup : (∀ xs, x ≠ .tup xs) → R (.bl false) A := fun h => q _ Gr.refl false ⟨fun e => (by cases e), fun ⟨rs, e, _⟩ => absurd e (h _)⟩
  cases x with
  | tup xs =>
    have hk : okAs A xs = true := hk
    have h64 := hsh xs rfl
    have hz : (1000 : Nat) ≤ sizeLine := by decide
    refine cloop_gr (fun x => .bl (isNN x)) _ _ _ (fun _ _ => trivial) (fun x hx A1 g1 => ⟨[x], rfl, fun Q hQ => ?_⟩) (show 0 + xs.length ≤ sizeLine by omega) (fun A1 g1 => ?_)
    · exact ⟨rfl, x, rfl, okA_gr g1 _ (okAs_mem' hk hx), fun A2 g2 => hQ _ g2⟩
    rw [List.nil_append]
    refine all_ok (bs := xs.map isNN) last_get (bls_map _ _) ?_
    have g2 := g1.trans (Gr.push (T := [C.lst (xs.map fun x => D.bl (isNN x))]))
    generalize A1 ++ [C.lst (xs.map fun x => D.bl (isNN x))] = A2 at *
    cases ha : (xs.map isNN).all id with
    | false =>
      refine q _ g2 false ⟨fun e => (by cases e), fun ⟨rs, e, hw⟩ => ?_⟩
      injection e with e
      subst e
      have : ((rs.map rowD).map isNN).all id = true := List.all_eq_true.mpr fun b hb => by
        obtain ⟨x, hx, rfl⟩ := List.mem_map.mp hb
        obtain ⟨r, hr, rfl⟩ := List.mem_map.mp hx
        exact row_isNN (hw.nm r hr) (hw.no r hr).1 (hw.no r hr).2
      rw [this] at ha
      cases ha
    | true =>
      obtain ⟨rs, rfl, hrs⟩ := rows_of (xs := xs) fun x hx => List.all_eq_true.mp ha _ (List.mem_map_of_mem hx)
      rw [List.length_map] at h64
      refine cloop_map (f := fun x => match x with | .tup (y :: _) => y | x => x) trivial _ _ (fun x hx => ⟨[x], rfl, fun Q hQ => ?_⟩) (show 0 + (rs.map rowD).length ≤ sizeLine by rw [List.length_map]; omega) ?_
      · obtain ⟨r, hr, rfl⟩ := List.mem_map.mp hx
        exact hQ
      have e : (rs.map rowD).map (fun x => match x with | .tup (y :: _) => y | x => x) = (rs.map (·.1)).map D.str := by
        rw [List.map_map, List.map_map]
        rfl
      rw [List.nil_append, e]
      have hns : ∀ n ∈ rs.map (·.1), Nm n := fun n hn => by
        obtain ⟨r, hr, rfl⟩ := List.mem_map.mp hn
        exact (hrs r hr).1
      refine srt_ok (ss := rs.map (·.1)) last_get (by have := strs_map id (rs.map (·.1)); simpa using this) (by simpa using h64) fun ys hp hm => ?_
      refine eq_strs (getElem?_push last_get) last_get hns (fun n hn => hns n ((hm n).mp hn)) ?_
      refine q _ ((g2.trans Gr.push).trans Gr.push) _ ?_
      rw [decide_eq_true_eq]
      constructor
      · intro h
        exact ⟨rs, rfl, fun r hr => (hrs r hr).1, fun r hr => (hrs r hr).2, by rw [h]; exact hp, h64⟩
      · rintro ⟨rs', e', hw⟩
        have e' : rs = rs' := encW_inj e'
        subst e'
        exact (pw_eq hp hw.up hm).symm
  | exc c => cases hk
  | ref r =>
    rcases okA_ref hk with e | e
    all_goals
      conv => whnf
      rw [e]
      exact notup fun xs h => by cases h
  | _ => exact notup fun xs h => by cases h
theorem fA_caw (T : TopD K mg "check_are_weights" s_check_are_weights p_check_are_weights) {a_NoWeights : Addr} (m_NoWeights : mg "NoWeights" = some (.ref a_NoWeights)) (x_NoWeights : PySem.W.excIn K a_NoWeights vErr "ValueError.__new__" = true)
    (F_is_weights : FnX P w K mg base 3 "is_weights" p_is_weights (spOf mg 1 SIwA)) : FnX P w K mg base 4 "check_are_weights" p_check_are_weights (spOf mg 1 SCawA) := by
  refine fnD T sc_check_are_weights rfl (by decide) fun N RE f cdv B outer s H E hr hR hx ds A R h hl => ?_
  have hu := hr.units
  refine ⟨_, (dss_one (ds_if (dt_not (dt_val (de_call F_is_weights (hr.mono (by omega)) hx (da_cons (vr 0) da_nil)))) (dss_one (ds_raise hR rfl m_NoWeights x_NoWeights (da_cons de_str da_nil))) dss_nil)), ?_⟩
  obtain ⟨x, rfl, hk, hsh, q1, q2⟩ := h
  refine ⟨rfl, x, rfl, hk, hsh, fun A1 g1 b hb => ?_⟩
  cases b with
  | true => exact q1 (hb.mp rfl) _ g1
  | false => exact ⟨by decide, q2 (fun h => by cases hb.mpr h) _ g1⟩
end
end My
namespace DP
open PySem PySem.Spec PyProof.Rows L2 MA
end DP
namespace My
open PySem PySem.Spec PyProof.Rows L2 DP MA
section
variable {P : Program} {w : World} {K : PySem.W.Frag} {mg : Str → Option Value} {base : Heap}
end
end My
namespace DP
open PySem PySem.Spec PyProof.Rows L2 MA
end DP
namespace My
open PySem PySem.Spec PyProof.Rows L2 DP MA
section
variable {P : Program} {w : World} {K : PySem.W.Frag} {mg : Str → Option Value} {base : Heap}
end
end My
namespace DP
open PySem PySem.Spec PyProof.Rows L2 MA
end DP
namespace My
open PySem PySem.Spec PyProof.Rows L2 DP MA
section
variable {P : Program} {w : World} {K : PySem.W.Frag} {mg : Str → Option Value} {base : Heap}
end
end My
namespace My
open PySem PySem.Spec PyProof.Rows L2 DP MA
section
variable {P : Program} {w : World} {K : PySem.W.Frag} {mg : Str → Option Value} {base : Heap}
end
end My
namespace DP
open PySem PySem.Spec PyProof.Rows L2 MA
end DP
namespace My
open PySem PySem.Spec PyProof.Rows L2 DP MA
section
variable {P : Program} {w : World} {K : PySem.W.Frag} {mg : Str → Option Value} {base : Heap}
end
end My
namespace L2
open PySem PySem.Spec PyProof.Rows
theorem Fun.okX {P : Program} {w : World} {K : PySem.W.Frag} {mg : Str → Option Value} {base : Heap} {x : Str} {st : Stmt} {N ps : List Str} {k : Nat} {sp : Sp} {f : Addr} {fd : FuncData} (F : Fun K x x st f fd) (S : FnScope N ps (defScope st)) (len : ∀ vs H Q E, sp vs H Q E → vs.length = ps.length)
    (hbody : ∀ (f : Addr) (cdv : Value) (A : Around) (outer : List Env) (s : Shared) (H : Hp) (vs : List V) (Q : VK) (E : XK), Room k (A.deeper (envOfC x (defScope st) s.heap.objs.size f cdv)) → sp vs H Q E →
      ∃ t, PSs (cxOf (CX1 P w) P w K mg base N x (defScope st) f cdv A outer s H E) (defBody st) t ∧ t { nx := fun _ H' => Q .non H', rt := Q } (start N vs) H) : FnOk P w K mg base (CX1 P w) (k + 1) f fd ps sp := by
  obtain ⟨oc, od, kV, doc, pm, an, cdv, ct, osl, rfl, lk, hcd⟩ := F.ex
  exact fn_of lk hcd S len fun A outer s H vs Q E hr hsp => hbody f cdv A outer s H vs Q E hr hsp
end L2
namespace DP
open PySem PySem.Spec PyProof.Rows L2 MA
theorem fnL {P : Program} {w : World} {K : PySem.W.Frag} {mg : Str → Option Value} {base : Heap} {x : Str} {st : Stmt} {Nm ps : List Str} {k n : Nat} {S : Ct} {fo : Addr} {fd : FuncData} (T : Fun K x x st fo fd) (Sc : FnScope Nm ps (defScope st)) (hn : ps.length = n) (hN : ps.length ≤ Nm.length)
    (hbody : ∀ (N : En) (RE : DX) (f : Addr) (cdv : Value) (B : Around) (outer : List Env) (s : Shared) (H : Hp) (E : XK), Room k (cxOf (CX1 P w) P w K mg base Nm x (defScope st) f cdv B outer s H E).A →
      Raises (cxOf (CX1 P w) P w K mg base Nm x (defScope st) f cdv B outer s H E) (EL mg N RE) → Passes (CX1 P w) (cxOf (CX1 P w) P w K mg base Nm x (defScope st) f cdv B outer s H E) (EL mg N RE) →
      ∀ ds A R, S ds A R RE → ds.length = n → ∃ m, PSs (cxOf (CX1 P w) P w K mg base Nm x (defScope st) f cdv B outer s H E) (defBody st) (upS mg N m) ∧ m { nx := fun _ A' => R .non A', rt := R } (startD (Nm.length - n) ds) A) : FnOk P w K mg base (CX1 P w) (k + 1) fo fd ps (spOf mg n S) := by
  refine T.okX Sc (fun vs H Q E h => ?_) fun f cdv A outer s H vs Q E hr h => ?_
  · obtain ⟨A, ι, ds, R, RE, hl, _, hv, _⟩ := h
    rw [← RVs.length hv, hl, hn]
  · obtain ⟨A0, ι0, ds, R, RE, hl, ra, hv, hS, kq, kx⟩ := h
    have hE : ∀ C a H', EL mg ⟨A0, ι0, H⟩ RE C a H' → E C none H' := fun C a H' z => by
      obtain ⟨c, A', ι', ⟨b, rfl, hc⟩, ex, r, q⟩ := z
      exact kx c A' ι' H' b q hc ex r
    obtain ⟨m, hP, hm⟩ := hbody ⟨A0, ι0, H⟩ RE f cdv A outer s H E hr
      (fun pins σ H1 s1 e h' C args I mx z => raisesX pins σ H1 s1 e h' C args I mx (hE _ _ _ z))
      (fun pins σ H1 s1 e s' I z => passX pins σ H1 s1 e s' I (by
        obtain ⟨a, C, H', h1, h2, h3⟩ := z
        exact ⟨a, C, H', h1, h2, hE _ _ _ h3⟩)) ds A0 R hS hl
    have hlv := RVs.length hv
    refine ⟨_, hP, A0, ι0, _, _, ⟨ra, ⟨?_, fun i d q => ?_⟩, ra.refl⟩, hm, ⟨fun τ A' ι' σ H' q e r _ => kq _ A' ι' H' _ q e r rfl, kq, fun _ _ _ _ _ q _ _ _ => q.elim, fun _ _ _ _ _ q _ _ _ => q.elim⟩⟩
    · simp [startD, L2.start]
      omega
    · obtain ⟨v, h1, h2⟩ := RVs.get hv (lk_start ds _ i d q)
      refine ⟨v, ?_, h2⟩
      have hi := (List.getElem?_eq_some_iff.mp h1).1
      unfold L2.start
      rw [List.getElem?_append_left (by simpa using hi), List.getElem?_map, h1]
      rfl
def SLaw : Ct := fun ds A R _ => ∃ ns, ds = [.fl ns] ∧ ∀ A', R (.bl true) A'
def spFz : Sp := fun vs H Q _ => ∃ (a : Addr) (o : Obj) (ns : List Int), vs = [.ref a] ∧ H a = some (.frz o (.lst (ns.map V.int))) ∧ ∀ H', Q (.bl true) H'
theorem sp_fz {mg : Str → Option Value} {vs : List V} {H : Hp} {Q : VK} {E : XK} (h : spFz vs H Q E) : spOf mg 1 SLaw vs H Q E := by
  obtain ⟨a, o, ns, rfl, h, q⟩ := h
  refine ⟨[], fun _ => a, [.fl ns], fun v _ => v = .bl true, fun _ _ => False, rfl, ⟨fun r c h => by simp at h, fun r s hr => by simp at hr⟩, ⟨_, [], rfl, ⟨a, o, rfl, h⟩, rfl⟩, ⟨ns, rfl, fun _ => rfl⟩, fun v A' ι' H' u e _ _ r => ?_, fun _ _ _ _ _ z => z.elim⟩
  subst e
  cases r
  exact q _
def noL (o : Obj) : Bool := match o.cls with
  | .type t => !(decide (t = "list"))
  | _ => true
theorem no_list {K : PySem.W.Frag} (h : K.all (fun p => noL p.2) = true) {a : Addr} {o : Obj} (e : K.lookup a = some o) : noL o = true := by
  induction K with
  | nil => cases e
  | cons p r ih =>
    have h' : noL p.2 = true ∧ List.all r (fun p => noL p.2) = true := by simpa using h
    rw [List.lookup] at e
    split at e
    · cases e
      exact h'.1
    · exact ih h'.2 e
theorem fz_of {K : PySem.W.Frag} (hK : K.all (fun p => noL p.2) = true) {H : Hp} {a : Addr} {ns : List Int} (hO : Only H) (hS : SqL K H a (ns.map V.int)) : spFz [.ref a] H (fun v _ => v = .bl true) fun _ _ _ => False := by
  rcases hS with (e | ⟨o, e⟩) | ⟨o, its, n, e, c, _⟩
  · rcases hO a with z | ⟨o, xs, z⟩
    · rw [z] at e; cases e
    · rw [z] at e; cases e
  · exact ⟨a, o, ns, rfl, e, fun _ => rfl⟩
  · have := no_list hK e
    unfold noL at this
    rw [c] at this
    simp at this
end DP
namespace DP
open PySem PySem.Spec PyProof.Rows L2 MA
end DP
namespace My
open PySem PySem.Spec PyProof.Rows L2 DP MA
section
variable {P : Program} {w : World} {K : PySem.W.Frag} {mg : Str → Option Value} {base : Heap}
end
end My
namespace DP
open PySem PySem.Spec PyProof.Rows L2 MA
end DP
namespace My
open PySem PySem.Spec PyProof.Rows L2 DP MA
section
variable {P : Program} {w : World} {K : PySem.W.Frag} {mg : Str → Option Value} {base : Heap}
end
end My
namespace DP
open PySem PySem.Spec PyProof.Rows L2 MA
end DP
namespace My
open PySem PySem.Spec PyProof.Rows L2 DP MA
section
variable {P : Program} {w : World} {K : PySem.W.Frag} {mg : Str → Option Value} {base : Heap}
end
end My
namespace DP
open PySem PySem.Spec PyProof.Rows L2 MA
theorem cps_app (x y : Str) : (x ++ y).cps.toList = x.cps.toList ++ y.cps.toList := Array.toList_append
end DP
namespace My
open PySem PySem.Spec PyProof.Rows L2 DP MA
section
variable {P : Program} {w : World} {K : PySem.W.Frag} {mg : Str → Option Value} {base : Heap}
end
end My
namespace DP
open PySem PySem.Spec PyProof.Rows L2 MA
end DP
namespace My
open PySem PySem.Spec PyProof.Rows L2 DP MA
section
variable {P : Program} {w : World} {K : PySem.W.Frag} {mg : Str → Option Value} {base : Heap}
end
end My
namespace DP
open PySem PySem.Spec PyProof.Rows L2 MA
end DP
namespace My
open PySem PySem.Spec PyProof.Rows L2 DP MA
section
variable {P : Program} {w : World} {K : PySem.W.Frag} {mg : Str → Option Value} {base : Heap}
end
end My
namespace DP
open PySem PySem.Spec PyProof.Rows L2 MA
end DP
namespace DP
open PySem PySem.Spec PyProof.Rows L2
theorem boot_ValueError : bootBuiltins "ValueError" = some (.type "ValueError") := by decide +kernel
def SWh (nm : Str) (j : Nat) : Ct := fun ds A R _ => ds = [.exc nm] ∧ ∀ A', Gr A A' → R (.tup [.str "refused", .int (j : Nat)]) A'
end DP
namespace My
open PySem PySem.Spec PyProof.Rows L2 DP MA
section
variable {P : Program} {w : World} {K : PySem.W.Frag} {mg : Str → Option Value} {base : Heap}
end
end My
namespace DP
open PySem PySem.Spec PyProof.Rows L2
end DP
namespace My
open PySem PySem.Spec PyProof.Rows L2 DP MA
section
variable {P : Program} {w : World} {K : PySem.W.Frag} {mg : Str → Option Value} {base : Heap}
end
end My
namespace DP
open PySem PySem.Spec PyProof.Rows L2 MA
end DP
namespace My
open PySem PySem.Spec PyProof.Rows L2 DP MA
section
variable {P : Program} {w : World} {K : PySem.W.Frag} {mg : Str → Option Value} {base : Heap}
end
end My
namespace DP
open PySem PySem.Spec PyProof.Rows L2 MA
end DP
namespace DP
open PySem PySem.Spec PyProof.Rows L2 MA
end DP
namespace My
open PySem PySem.Spec PyProof.Rows L2 DP MA
section
variable {P : Program} {w : World} {K : PySem.W.Frag} {mg : Str → Option Value} {base : Heap}
end
end My
namespace DP
open PySem PySem.Spec PyProof.Rows L2 MA
end DP
namespace DP
open PySem PySem.Spec PyProof.Rows L2 MA
end DP
namespace My
open PySem PySem.Spec PyProof.Rows L2 DP MA
section
variable {P : Program} {w : World} {K : PySem.W.Frag} {mg : Str → Option Value} {base : Heap}
end
end My
namespace DP
open PySem PySem.Spec PyProof.Rows L2 MA
end DP
namespace DP
open PySem PySem.Spec PyProof.Rows L2 MA
end DP
namespace My
open PySem PySem.Spec PyProof.Rows L2 DP MA
section
variable {P : Program} {w : World} {K : PySem.W.Frag} {mg : Str → Option Value} {base : Heap}
end
end My
namespace DP
open PySem PySem.Spec PyProof.Rows L2 MA
end DP
namespace My
open PySem PySem.Spec PyProof.Rows L2 DP MA
section
variable {P : Program} {w : World} {K : PySem.W.Frag} {mg : Str → Option Value} {base : Heap}
end
end My
namespace DP
open PySem PySem.Spec PyProof.Rows L2 MA
theorem okA_row {A : Ar} {r : Str × Int} (h : Nm r.1) : okA A (rowD r) = true := by
  show (okA A (.str r.1) && (true && true)) = true
  rw [okA_nm h]
  rfl
theorem okA_encW {A : Ar} : ∀ {rs : List (Str × Int)}, (∀ r ∈ rs, Nm r.1) → okA A (encW rs) = true := fun {rs} h => by
  show okAs A (rs.map rowD) = true
  induction rs with
  | nil => rfl
  | cons r rs ih =>
    show (okA A (rowD r) && okAs A (rs.map rowD)) = true
    rw [okA_row (h r (List.mem_cons_self ..)), ih fun q hq => h q (List.mem_cons_of_mem _ hq)]
    rfl
theorem short_encW {rs : List (Str × Int)} (h : WOk rs) : shortT (encW rs) := fun xs e => by
  injection e with e
  rw [← e, List.length_map]
  exact h.len
end DP
namespace My
open PySem PySem.Spec PyProof.Rows L2 DP MA
section
variable {P : Program} {w : World} {K : PySem.W.Frag} {mg : Str → Option Value} {base : Heap}
end
end My
namespace DP
open PySem PySem.Spec PyProof.Rows L2 MA
end DP
namespace My
open PySem PySem.Spec PyProof.Rows L2 DP MA
section
variable {P : Program} {w : World} {K : PySem.W.Frag} {mg : Str → Option Value} {base : Heap}
end
end My
namespace DP
open PySem PySem.Spec PyProof.Rows L2 MA
section
variable {rs : List (Str × Int)} {s : Str → Rat} {ns : List Str} {κ : Rat}
end
end DP
namespace DP
open PySem PySem.Spec PyProof.Rows L2 MA
section
variable {m : M} {ys : List Str} {gs : List (Str × Int)} {κ : Rat}
end
end DP
namespace DP
open PySem PySem.Spec PyProof.Rows L2 MA
end DP
namespace My
open PySem PySem.Spec PyProof.Rows L2 DP MA
section
variable {P : Program} {w : World} {K : PySem.W.Frag} {mg : Str → Option Value} {base : Heap}
end
end My
namespace DP
open PySem PySem.Spec PyProof.Rows L2 MA
theorem pur_row : ∀ rs : List (Str × Int), purs (rs.map rowD) = true
  | [] => rfl
  | r :: rs => by simp [purs, pur, rowD, pur_row rs]
theorem lay_row : ∀ rs : List (Str × Int), (∀ r ∈ rs, Nm r.1) → PyData.canLayAll0 (toQs (rs.map rowD)) = true
  | [], _ => rfl
  | r :: rs, h => by
    have h1 := (h r (List.mem_cons_self ..)).ok
    have h2 := lay_row rs fun q hq => h q (List.mem_cons_of_mem _ hq)
    simp only [PyData.canLay0] at h1
    simp [toQs, toQ, rowD, PyData.canLayAll0, PyData.canLay0, h1, h2]
theorem dep_row : ∀ rs : List (Str × Int), PyData.depthAll (toQs (rs.map rowD)) ≤ 1
  | [] => by simp [toQs, PyData.depthAll]
  | r :: rs => by
    have := dep_row rs
    simp [toQs, toQ, rowD, PyData.depthAll, PyData.depth]
    omega
end DP
namespace DP
open PySem PySem.Spec PyProof.Rows L2 MA
end DP
namespace DP
open PySem PySem.Spec PyProof.Rows L2 MA
theorem eq_encW {l : List (Str × Int)} {A : Ar} {R : DK} (hn : ∀ r ∈ l, Nm r.1) (k : R (.bl true) A) : dataEq false (encW l) (encW l) A R := by
  unfold dataEq
  have h1 : toP A (encW l) = toQ (encW l) := rfl
  have h2 : okP A (encW l) = pur (encW l) := rfl
  have c : (toQ (encW l)).canLay0 = true := by
    show PyData.canLay0 (.tuple (toQs (l.map rowD))) = true
    have := lay_row l hn
    simpa [PyData.canLay0] using this
  have d : (toQ (encW l)).depth ≤ 64 := by
    show PyData.depthAll (toQs (l.map rowD)) + 1 ≤ 64
    have := dep_row l
    omega
  rw [h1, h2]
  refine ⟨pur_row l, pur_row l, c, c, by omega, ?_⟩
  rw [PySem.SeqAt.eqv_refl _ c]
  exact k
end DP
namespace My
open PySem PySem.Spec PyProof.Rows L2 DP MA
section
variable {P : Program} {w : World} {K : PySem.W.Frag} {mg : Str → Option Value} {base : Heap}
end
end My
namespace DP
open PySem PySem.Spec PyProof.Rows L2 MA
end DP
namespace My
open PySem PySem.Spec PyProof.Rows L2 DP MA
section
variable {P : Program} {w : World} {K : PySem.W.Frag} {mg : Str → Option Value} {base : Heap}
end
end My
namespace DP
open PySem PySem.Spec PyProof.Rows L2 MA
def rfd (j : Nat) : D := .tup [.str "refused", .int j]
theorem lay_rfd (j : Nat) : (toQ (rfd j)).canLay0 = true := by
  show PyData.canLay0 (.tuple [.str "refused", .int j]) = true
  simp only [PyData.canLay0, PyData.canLayAll0, Bool.and_true]
  decide +kernel
theorem q_rfd {neg : Bool} {j : Nat} {A : Ar} {R : DK} (k : R (.bl (!neg)) A) : dataEq neg (rfd j) (.tup [.str "refused", .int j]) A R := by
  unfold dataEq
  have c := lay_rfd j
  have h1 : toP A (rfd j) = toQ (rfd j) := rfl
  have h2 : toP A (.tup [.str "refused", .int j]) = toQ (rfd j) := rfl
  rw [h1, h2]
  refine ⟨rfl, rfl, c, c, ?_, ?_⟩
  · show min (PyData.depth (.tuple [.str "refused", .int j])) (PyData.depth (.tuple [.str "refused", .int j])) ≤ 64
    simp [PyData.depth, PyData.depthAll]
  · rw [PySem.SeqAt.eqv_refl _ c]
    cases neg <;> exact k
end DP
namespace My
open PySem PySem.Spec PyProof.Rows L2 DP MA
section
variable {P : Program} {w : World} {K : PySem.W.Frag} {mg : Str → Option Value} {base : Heap}
end
end My
namespace DP
open PySem PySem.Spec PyProof.Rows L2 MA
theorem emp_app (x : Str) : Str.empty ++ x = x := by
  obtain ⟨c⟩ := x
  show (⟨#[] ++ c⟩ : Str) = ⟨c⟩
  simp
theorem jvI {me : DTE} {m : DTJ} {τ : DSt} {A : Ar} {acc : Str} {R : Str → Ar → Prop} {i : Int} (h : ∀ Q : DK, Q (.int i) A → me τ A Q) (hi : i.natAbs.log2 < 1920) (k1 : (itS i).length ≤ sizeLine) (k2 : acc.length + (itS i).length ≤ sizeLine) (k : m τ A (acc ++ itS i) R) : dJv me m τ A acc R := by
  refine h _ ?_
  have e : fmtD (.int i) = some (itS i) := if_pos hi
  show (match fmtD (.int i) with
  | some y => y.length ≤ sizeLine ∧ acc.length + y.length ≤ sizeLine ∧ m τ A (acc ++ y) R
  | none => False)
  rw [e]
  exact ⟨k1, k2, k⟩
theorem lg {i : Int} (h1 : 0 ≤ i) (h2 : i ≤ 1000) : i.natAbs.log2 < 1920 := by
  have : i.natAbs ≤ 1000 := by omega
  have := Nat.log2_le_self i.natAbs
  omega
theorem c_emp : Str.empty.length = 0 := rfl
theorem c_spc : (" " : Str).length = 1 := by decide +kernel
end DP
namespace My
open PySem PySem.Spec PyProof.Rows L2 DP MA
section
variable {P : Program} {w : World} {K : PySem.W.Frag} {mg : Str → Option Value} {base : Heap}
end
end My
namespace DP
open PySem PySem.Spec PyProof.Rows L2 MA
def prt (r : Str × Int) : Str := (r.1 ++ "=") ++ itS r.2
def wtx (rs : List (Str × Int)) : Str := Str.join " " (rs.map prt)
theorem c_eq : ("=" : Str).length = 1 := by decide +kernel
theorem eeq : ("=" : Str) = ⟨#[61]⟩ := by decide +kernel
theorem pb_len (x y : Str) : (Builtin.Str.partsBetween x (Builtin.Str.occurrences x y 0 x.length (x.length + 1)) y.length).length ≤ x.length + 2 := by
  have := StrLaws.occ_length_le x y 0 x.length (x.length + 1)
  unfold Builtin.Str.partsBetween
  simp
  omega
theorem prt_cps (r : Str × Int) : (prt r).cps.toList = r.1.cps.toList ++ 61 :: (itS r.2).cps.toList := by
  unfold prt
  rw [cps_app, cps_app, eeq]
  simp
theorem itS_dig {n : Int} (h1 : 1 ≤ n) (h2 : n ≤ 12) : ∀ c ∈ (itS n).cps.toList, 48 ≤ c ∧ c ≤ 57 := by
  have : n = 1 ∨ n = 2 ∨ n = 3 ∨ n = 4 ∨ n = 5 ∨ n = 6 ∨ n = 7 ∨ n = 8 ∨ n = 9 ∨ n = 10 ∨ n = 11 ∨ n = 12 := by omega
  rcases this with rfl | rfl | rfl | rfl | rfl | rfl | rfl | rfl | rfl | rfl | rfl | rfl <;> decide +kernel
def Rw (r : Str × Int) : Prop := Nm r.1 ∧ 1 ≤ r.2 ∧ r.2 ≤ 12
theorem prt_len {r : Str × Int} (h : Rw r) : 3 ≤ (prt r).length ∧ (prt r).length ≤ 6 := by
  have h1 := h.1.lo
  have h2 := h.1.hi
  obtain ⟨k1, k2, _⟩ := itS_ok h.2.1 h.2.2
  unfold prt
  rw [len_app, len_app, c_eq]
  omega
theorem wtx_len {rs : List (Str × Int)} (h : ∀ r ∈ rs, Rw r) : (wtx rs).length ≤ 7 * rs.length := by
  have h1 := StrLaws.join_length_le " " (rs.map prt)
  have h2 := StrLaws.sumLen_le (B := 6) (rs.map prt) (fun y hy => by obtain ⟨r, hr, rfl⟩ := List.mem_map.mp hy; exact (prt_len (h r hr)).2)
  rw [c_spc] at h1
  rw [List.length_map] at h1 h2
  show (Str.join " " (rs.map prt)).length ≤ _
  omega
end DP
namespace DP
open PySem PySem.Spec PyProof.Rows L2 MA
def SWtx : Ct := fun ds A R E => ∃ x, ds = [x] ∧ okA A x = true ∧ shortT x ∧ ((¬ IsW x ∧ ∀ A', Gr A A' → E "NoWeights" A') ∨ ∃ rs, x = encW rs ∧ WOk rs ∧ (∀ r ∈ rs, r.2 ≤ 12) ∧ ∀ A', Gr A A' → R (.str (wtx rs)) A')
def SWt12 : Ct := fun ds A R _ => ∃ ns t q nms n, ds = [.fl ns, .ref t, .ref q] ∧ q ≠ t ∧ A[q]? = some (.lst (nms.map D.str)) ∧ nms.Pairwise strLt ∧ (∀ x ∈ nms, Nm x) ∧ nms.length < 64 ∧ Tw t n A ∧ n + 100 ≤ 1000000 ∧ ∀ rs A', WOk rs → rs.map (·.1) = nms → (∀ r ∈ rs, r.2 ≤ 12) → Dr t A A' n 100 → R (encW rs) A'
theorem rw_of {rs : List (Str × Int)} (h : WOk rs) (h2 : ∀ r ∈ rs, r.2 ≤ 12) : ∀ r ∈ rs, Rw r := fun r hr => ⟨h.nm r hr, (h.no r hr).1, h2 r hr⟩
end DP
namespace My
open PySem PySem.Spec PyProof.Rows L2 DP MA
section
variable {P : Program} {w : World} {K : PySem.W.Frag} {mg : Str → Option Value} {base : Heap}
theorem f_wtx (T : TopD K mg "weights_text" s_weights_text p_weights_text) (F_check_are_weights : FnX P w K mg base 4 "check_are_weights" p_check_are_weights (spOf mg 1 SCawA)) : FnX P w K mg base 5 "weights_text" p_weights_text (spOf mg 1 SWtx) := by
  refine fnD T sc_weights_text rfl (by decide) fun N RE f cdv B outer s H E hr hR hx ds A R h hl => ?_
  have hu := hr.units
  have nd := sc_weights_text.nd
  refine ⟨_, (dss_cons (ds_expr (de_call F_check_are_weights (hr.mono (by omega)) hx (da_cons (vr 0) da_nil)))
    (dss_one (ds_ret (de_mtS PySem.F.plainAttrs_str PySem.F.slot_str_join PySem.F.type_str_join mt_join d_join de_str (da_cons (de_comp (some 2) (own := ["name", "number"]) (frees := []) (ix := []) rfl (di_seq (vr 0)) (fun c => (pg_tup rfl (pgs_cons (pg_name (i := 0) (show (["name", "number"] : List Str).Nodup by decide +kernel) rfl (by first | exact Or.inl rfl | exact Or.inr rfl)) (pgs_cons (pg_name (i := 1) (show (["name", "number"] : List Str).Nodup by decide +kernel) rfl (by first | exact Or.inl rfl | exact Or.inr rfl)) pgs_nil)))) (fun c => (de_join (dj_val (vr 0) (dj_con (dj_val (vr 1) dj_nil)))))) da_nil))))), ?_⟩
  obtain ⟨x, rfl, kx, sx, h⟩ := h
  have hz : (2000 : Nat) ≤ sizeLine := by decide
  refine ⟨rfl, x, rfl, kx, sx, fun hw A1 g1 => ?_, fun hw A1 g1 => ?_⟩
  · rcases h with ⟨hn, _⟩ | ⟨rs, rfl, hW, h12, q⟩
    · exact absurd hw hn
    have hR := rw_of hW h12
    have hlen := hW.len
    have e : (rs.map rowD).map (fun x => match x with | .tup [.str n, .int k] => D.str (prt (n, k)) | x => x) = (rs.map prt).map D.str := by
      rw [List.map_map, List.map_map]
      rfl
    refine cloop_map (f := fun x => match x with | .tup [.str n, .int k] => D.str (prt (n, k)) | x => x) trivial _ _ (fun x hx => ?_) (by simp; omega) ?_
    · obtain ⟨r, hr, rfl⟩ := List.mem_map.mp hx
      have h1 := (hR r hr).1.hi
      have h2 := (hR r hr).2
      have h3 := prt_len (hR r hr)
      obtain ⟨k1, k2, _⟩ := itS_ok h2.1 h2.2
      refine ⟨[.str r.1, .int r.2], rfl, fun Q hQ => ?_⟩
      refine ⟨by omega, by rw [c_emp]; omega, by rw [len_app, c_emp, c_eq]; omega, jvI (i := r.2) (fun Q q => q) (lg (by omega) (by omega)) (by omega) (by rw [len_app, len_app, c_emp, c_eq]; omega) ?_⟩
      have e1 : ((Str.empty ++ r.1) ++ "=") ++ itS r.2 = prt r := by rw [emp_app]; rfl
      rw [e1]
      exact ⟨by omega, hQ⟩
    rw [List.nil_append, e]
    refine join_ok last_get ?_ ?_
    · unfold JoinOk
      rw [StrLaws.joinFits (B := 6) (fun y hy => by obtain ⟨r, hr, rfl⟩ := List.mem_map.mp hy; exact (prt_len (hR r hr)).2) (by rw [List.length_map, c_spc]; omega)]
      rfl
    · have e2 : Txt.join " " (rs.map prt) = wtx rs := StrLaws.glued_eq_join _ _
      rw [e2]
      exact q _ (g1.trans Gr.push)
  · rcases h with ⟨_, q⟩ | ⟨rs, rfl, hW, _⟩
    · exact q _ g1
    · exact absurd ⟨rs, rfl, hW⟩ hw
theorem f_wt12 (T : TopD K mg "_law_weights" s__law_weights p__law_weights) (b_tuple : mg "tuple" = none) (F__law_draw : FnX P w K mg base 3 "_law_draw" p__law_draw (spOf mg 3 SDraw)) (F__law_pick : FnX P w K mg base 4 "_law_pick" p__law_pick (spOf mg 3 SPick)) : FnX P w K mg base 5 "_law_weights" p__law_weights (spOf mg 3 SWt12) := by
  refine fnD T sc__law_weights rfl (by decide) fun N RE f cdv B outer s H E hr hR hx ds A R h hl => ?_
  have hu := hr.units
  have nd := sc__law_weights.nd
  refine ⟨_, (dss_cons (ds_set (i := 3) nd rfl (by first | exact Or.inl rfl | exact Or.inr rfl) (de_call F__law_pick (hr.mono (by omega)) hx (da_cons (vr 0) (da_cons (vr 1) (da_cons (de_lst (da_cons de_int (da_cons de_int (da_cons de_int (da_cons de_int da_nil))))) da_nil)))))
    (dss_one (ds_ret (de_cty call_tuple_of d_tup b_tuple boot_tuple (da_cons (de_comp none (own := ["_law_name"]) (frees := ["_law_script", "_law_town", "_law_wide"]) (ix := [0, 1, 3]) rfl (di_seq (vr 2)) (fun c => (pg_name (i := 0) (show (["_law_name", "_law_script", "_law_town", "_law_wide"] : List Str).Nodup by decide +kernel) rfl (by first | exact Or.inl rfl | exact Or.inr rfl))) (fun c => (de_tup (da_cons (vr 0) (da_cons (de_add de_int (de_call F__law_draw (hr.mono (by omega)) pass0D (da_cons (vr 1) (da_cons (vr 2) (da_cons (vr 3) da_nil))))) da_nil))))) da_nil))))), ?_⟩
  obtain ⟨ns, t, r, nms, n, rfl, hne, hA, hp, hnm, hlen, ht, hn, q⟩ := h
  obtain ⟨xs0, hx0, _⟩ := id ht
  have l0 := lt_of_get hx0
  refine ⟨show 4 ≤ sizeLine by decide, rfl, ns, t, _, [.int 1, .int 2, .int 4, .int 12], n, rfl, by omega, last_get, by simp, ht.gr Gr.push, by omega, fun x A1 hx b1 t1 => ?_⟩
  obtain ⟨wide, rfl, m0, m9⟩ : ∃ k : Int, x = .int k ∧ 1 ≤ k ∧ k ≤ 12 := by
    simp at hx
    rcases hx with h | h | h | h <;> exact ⟨_, h, by omega, by omega⟩
  have b01 : But t A A1 := Gr.push.but.trans b1
  refine it_ok (b01 r _ hne hA) ?_
  refine cloop_I (fun rest ys A' => ∃ (rs : List (Str × Int)) (more : List Str), rest = more.map D.str ∧ ys = rs.map rowD ∧ rs.map (·.1) ++ more = nms ∧ (∀ p ∈ rs, 1 ≤ p.2 ∧ p.2 ≤ 12) ∧ But t A A' ∧ Tw t (n + 1 + rs.length) A') ?_ ?_ ?_ ?_ _ _ _ ⟨[], nms, rfl, rfl, rfl, fun _ h => (by cases h), b01, t1⟩
  · rintro rest ys A' ⟨rs, more, _, _, _, _, b, _⟩
    exact b r _ hne hA
  · rintro rest ys A' ⟨rs, more, _, rfl, e, _, _, _⟩
    have : (rs.map (·.1) ++ more).length = nms.length := by rw [e]
    have hz : (64 : Nat) ≤ sizeLine := by decide
    simp at this ⊢
    omega
  · rintro x rest ys A' ⟨rs, more, e1, rfl, e, hb, b, t'⟩
    cases more with
    | nil => cases e1
    | cons y more =>
      cases e1
      have : (rs.map (·.1) ++ y :: more).length = nms.length := by rw [e]
      simp at this
      refine ⟨[.str y], rfl, fun Q hQ => ⟨rfl, ns, t, wide, n + 1 + rs.length, rfl, t', by omega, by omega, fun i A2 i0 i1 b2 t2 => ⟨show 2 ≤ sizeLine by decide, hQ _ _ ⟨rs ++ [(y, 1 + i)], more, rfl, by simp [rowD], by simpa using e, fun p hp => ?_, b.trans b2, by rw [List.length_append]; exact t2⟩⟩⟩⟩
      rcases List.mem_append.mp hp with h | h
      · exact hb p h
      · rw [List.mem_singleton.mp h]
        exact ⟨show 1 ≤ 1 + i by omega, show 1 + i ≤ 12 by omega⟩
  · rintro ys A' ⟨rs, more, e1, rfl, e, hb, b, t'⟩
    cases more with
    | cons y more => cases e1
    | nil =>
      have e : rs.map (·.1) = nms := by simpa using e
      have el : rs.length = nms.length := by rw [← e]; simp
      refine tup_ok last_get (q rs _ ⟨fun p hp => hnm _ (by rw [← e]; exact List.mem_map_of_mem hp), fun p hp => ?_, by rw [e]; exact hp, by omega⟩ e (fun p hp => (hb p hp).2) ⟨b.trans Gr.push.but, (t'.gr Gr.push).mono (by omega)⟩)
      have := hb p hp
      omega
end
end My
namespace DP
open PySem PySem.Spec PyProof.Rows L2 MA
def lt1 (c : Nat) : Bool := decide (97 ≤ c) && decide (c ≤ 122)
def isN (cs : List Nat) : Bool := decide (1 ≤ cs.length) && decide (cs.length ≤ 3) && cs.all lt1
theorem isN_Nm {cs : List Nat} (h : isN cs = true) : Nm (S cs) := by
  unfold isN at h
  simp only [Bool.and_eq_true, decide_eq_true_eq, List.all_eq_true] at h
  obtain ⟨⟨h1, h2⟩, h3⟩ := h
  refine ⟨by rw [S_len]; exact h1, by rw [S_len]; exact h2, fun c hc => ?_⟩
  rw [S_cps] at hc
  have := h3 c hc
  unfold lt1 at this
  simp at this
  exact this
theorem Nm_isN {n : Str} (h : Nm n) : isN n.cps.toList = true := by
  have ln : n.length = n.cps.toList.length := by simp [Str.length]
  have h1 := h.lo
  have h3 := h.hi
  unfold isN
  simp only [Bool.and_eq_true, decide_eq_true_eq, List.all_eq_true]
  refine ⟨⟨by omega, by omega⟩, fun c hc => ?_⟩
  have := h.az c hc
  simp [lt1, this.1, this.2]
end DP
namespace DP
open PySem PySem.Spec PyProof.Rows L2 MA
def dig (c : Nat) : Bool := decide (48 ≤ c) && decide (c ≤ 57)
def no0 : List Nat → Bool
  | c :: _ => !decide (c = 48)
  | [] => true
def isNoT (x : Str) (k : Nat) : Bool := decide (1 ≤ x.length) && decide (x.length ≤ k) && no0 x.cps.toList && x.cps.toList.all dig
def nVal (x : Str) : Int := ((PySem.NumText.digitsVal x.cps.toList : Nat) : Int)
def fgB : D → Bool
  | .str z => Txt.contains "0123456789" z
  | _ => false
theorem has_fig (c : Nat) : Txt.contains "0123456789" (S [c]) = dig c := by
  have e : Txt.contains "0123456789" (S [c]) = decide (c ∈ ("0123456789" : Str).cps.toList) := StrLaws.found_one "0123456789" c
  rw [e, show ("0123456789" : Str).cps.toList = [48, 49, 50, 51, 52, 53, 54, 55, 56, 57] by decide +kernel]
  unfold dig
  rw [Bool.eq_iff_iff]
  simp
  omega
theorem has_let (c : Nat) : Txt.contains "abcdefghijklmnopqrstuvwxyz" (S [c]) = lt1 c := by
  have e : Txt.contains "abcdefghijklmnopqrstuvwxyz" (S [c]) = decide (c ∈ ("abcdefghijklmnopqrstuvwxyz" : Str).cps.toList) := StrLaws.found_one "abcdefghijklmnopqrstuvwxyz" c
  rw [e, show ("abcdefghijklmnopqrstuvwxyz" : Str).cps.toList = [97, 98, 99, 100, 101, 102, 103, 104, 105, 106, 107, 108, 109, 110, 111, 112, 113, 114, 115, 116, 117, 118, 119, 120, 121, 122] by decide +kernel]
  unfold lt1
  rw [Bool.eq_iff_iff]
  simp
  omega
theorem nVal_reads {x : Str} (h : x.cps.toList.all dig = true) (h1 : 1 ≤ x.length) (h2 : x.length ≤ 1000) : PySem.intText? x = some (nVal x) := by
  refine PySem.intText_digits (fun c hc => ?_) (fun e => ?_) (by omega)
  · have := List.all_eq_true.mp h c hc
    unfold dig at this
    simp at this
    exact this
  · have ln : x.length = x.cps.toList.length := by simp [Str.length]
    rw [e] at ln
    simp at ln
    omega
def SWnA : Ct := fun ds A R E => ∃ x last k, ds = [.str x, .int last] ∧ ((last = 9 ∧ k = 1) ∨ (last = 999999 ∧ k = 6)) ∧ x.length ≤ 1000 ∧ (isNoT x k = true → ∀ A', Gr A A' → R (.int (nVal x)) A') ∧ (isNoT x k = false → ∀ A', Gr A A' → E "NoText" A')
def SCtA : Ct := fun ds A R E => ∃ x, ds = [x] ∧ okA A x = true ∧ ((∃ z, x = .str z) → R .non A) ∧ ((∀ z, x ≠ .str z) → E "NoText" A)
end DP
namespace My
open PySem PySem.Spec PyProof.Rows L2 DP MA
section
variable {P : Program} {w : World} {K : PySem.W.Frag} {mg : Str → Option Value} {base : Heap}
theorem f_wnA (T : TopD K mg "whole_number" s_whole_number p_whole_number) (b_len : mg "len" = none) (b_str : mg "str" = none) (b_int : mg "int" = none) (b_all : mg "all" = none) {t : Tok} (m_FIGURES : mg "FIGURES" = some (.str "0123456789" t)) {a_NoText : Addr} (m_NoText : mg "NoText" = some (.ref a_NoText)) (x_NoText : PySem.W.excIn K a_NoText vErr "ValueError.__new__" = true) : FnX P w K mg base 1 "whole_number" p_whole_number (spOf mg 2 SWnA) := by
  refine fnD T sc_whole_number rfl (by decide) fun N RE f cdv B outer s H E hr hR hx ds A R h hl => ?_
  have hu := hr.units
  refine ⟨_, (dss_cons (ds_if (PW.pt (dw_or (dt_not (t_lele de_int (de_cb c_len d_len b_len PySem.boot_len (da_cons (vr 0) da_nil)) (de_cb c_len d_len b_len PySem.boot_len (da_cons (de_cty call_strI d_strI b_str boot_str (da_cons (vr 1) da_nil)) da_nil)))) (dw_or (t_eq hu (de_ix hu (vr 0) de_int (fun _ _ => rfl)) de_str) (dw_or1 (dt_not (dt_val (de_cb (call_all rfl) d_all b_all boot_all (da_cons (de_comp none (own := ["sign"]) (frees := []) (ix := []) rfl (di_str (vr 0)) (fun c => (pg_name (i := 0) (show (["sign"] : List Str).Nodup by decide +kernel) rfl (by first | exact Or.inl rfl | exact Or.inr rfl))) (fun c => (e_inS (vr 0) (de_gstr m_FIGURES)))) da_nil)))))))) (dss_one (ds_raise hR rfl m_NoText x_NoText (da_cons de_str da_nil))) dss_nil)
    (dss_one (ds_ret (de_cty call_intT d_intT b_int boot_int (da_cons (vr 0) da_nil))))), ?_⟩
  obtain ⟨x, last, k, rfl, hlast, hx', q1, q2⟩ := h
  have hz : (2000 : Nat) ≤ sizeLine := by decide
  have no : isNoT x k = false → ∀ A', Gr A A' → 1 ≤ sizeLine ∧ RE "NoText" A' := fun h A' g => ⟨by omega, q2 h A' g⟩
  refine ⟨by omega, ?_⟩
  refine cD (fun c1 => ?_) (fun c1 => no ?_ _ Gr.refl)
  rotate_left
  · have c1 : ¬ (1 : Int) ≤ ((x.length : Nat) : Int) := c1
    unfold isNoT
    rw [decide_eq_false (show ¬ 1 ≤ x.length by omega)]
    simp
  have c1 : (1 : Int) ≤ ((x.length : Nat) : Int) := c1
  have hlast2 : last.natAbs.log2 < 1920 ∧ (itS last).length = k ∧ k ≤ 6 := by
    rcases hlast with ⟨rfl, rfl⟩ | ⟨rfl, rfl⟩
    · exact ⟨by decide +kernel, by decide +kernel, by decide⟩
    · exact ⟨by decide +kernel, by decide +kernel, by decide⟩
  refine ⟨hlast2.1, show (itS last).length ≤ sizeLine by omega, ?_⟩
  refine cN (fun c2 => no ?_ _ Gr.refl) (fun c2 => ?_)
  · have c2 : ¬ ((x.length : Nat) : Int) ≤ (((itS last).length : Nat) : Int) := c2
    unfold isNoT
    rw [decide_eq_false (show ¬ x.length ≤ k by omega)]
    simp
  have c2 : ((x.length : Nat) : Int) ≤ (((itS last).length : Nat) : Int) := c2
  have ln : x.length = x.cps.toList.length := by simp [Str.length]
  obtain ⟨c, cs, hcs⟩ : ∃ c cs, x.cps.toList = c :: cs := by
    cases e : x.cps.toList with
    | nil => rw [e] at ln; simp at ln; omega
    | cons c cs => exact ⟨c, cs, rfl⟩
  have hat : atI x.cps.toList 0 = some c := by rw [hcs]; exact atI_nat (j := 0) rfl
  conv => whnf
  rw [hat]
  refine ⟨by omega, ?_⟩
  have e0 : isNoT x k = (!decide (c = 48) && x.cps.toList.all dig) := by
    unfold isNoT
    rw [decide_eq_true (show 1 ≤ x.length by omega), decide_eq_true (show x.length ≤ k by omega), hcs]
    simp [no0]
  have e3 : ("0" : Str).cps.toList = [48] := by decide +kernel
  refine cD (fun e => no ?_ _ Gr.refl) (fun e => ?_)
  · have e : (⟨#[c]⟩ : Str) = "0" := e
    have e2 := congrArg (fun z : Str => z.cps.toList) e
    simp only [e3] at e2
    have e2 : c = 48 := by simpa using e2
    rw [e0, decide_eq_true e2]
    rfl
  have e : ¬ (⟨#[c]⟩ : Str) = "0" := e
  have n48 : c ≠ 48 := fun z => e (by rw [z]; decide +kernel)
  rw [decide_eq_false n48, Bool.not_false, Bool.true_and] at e0
  refine cloop_map (f := fun y => .bl (fgB y)) trivial _ _ (fun y hy => ⟨[y], rfl, fun Q hQ => ?_⟩) ?_ ?_
  · obtain ⟨d, hd, rfl⟩ := List.mem_map.mp hy
    exact hQ
  · have : (sgs x).length = x.length := by simp [sgs, Str.length]
    show 0 + (sgs x).length ≤ sizeLine
    omega
  refine all_ok (bs := (sgs x).map fgB) last_get (bls_map _ _) ?_
  have ea : ((sgs x).map fgB).all id = x.cps.toList.all dig := by
    unfold sgs
    rw [List.map_map, List.all_map]
    congr 1
    funext d
    exact has_fig d
  rw [ea]
  cases hd : x.cps.toList.all dig with
  | false => exact no (by rw [e0, hd]) _ Gr.push
  | true => exact ⟨nVal x, nVal_reads hd (by omega) hx', by omega, q1 (by rw [e0, hd]) _ Gr.push⟩
end
end My
namespace My
open PySem PySem.Spec PyProof.Rows L2 DP MA
section
variable {P : Program} {w : World} {K : PySem.W.Frag} {mg : Str → Option Value} {base : Heap}
theorem f_ctA (T : TopD K mg "check_text" s_check_text p_check_text) (b_isinstance : mg "isinstance" = none) (b_str : mg "str" = none) {a_NoText : Addr} (m_NoText : mg "NoText" = some (.ref a_NoText)) (x_NoText : PySem.W.excIn K a_NoText vErr "ValueError.__new__" = true) : FnX P w K mg base 1 "check_text" p_check_text (spOf mg 1 SCtA) := by
  refine fnD T sc_check_text rfl (by decide) fun N RE f cdv B outer s H E hr hR hx ds A R h hl => ?_
  have hu := hr.units
  refine ⟨_, (dss_one (ds_if (dt_not (dt_val (de_is kit_str b_isinstance b_str boot_str (vr 0)))) (dss_one (ds_raise hR rfl m_NoText x_NoText (da_cons de_str da_nil))) dss_nil)), ?_⟩
  obtain ⟨x, rfl, hk, q1, q2⟩ := h
  have no : (∀ z, x ≠ .str z) → 1 ≤ sizeLine ∧ RE "NoText" A := fun h => ⟨by decide, q2 h⟩
  cases x with
  | str z => exact q1 ⟨z, rfl⟩
  | exc c => cases hk
  | ref r =>
    rcases okA_ref hk with e | e
    all_goals
      conv => whnf
      rw [e]
      exact no fun z h => by cases h
  | _ => exact no fun z h => by cases h
end
end My
namespace DP
open PySem PySem.Spec PyProof.Rows L2
def ansL : List (Str × Bool) → Str → Option Bool
  | [], _ => none
  | (n, b) :: r, c => if c = n then some b else ansL r c
theorem KEr.nil {K : PySem.W.Frag} {mg : Str → Option Value} {cv : Value} : KEr K mg cv (ansL []) := fun c C b h _ => by cases h
theorem KEr.cons {K : PySem.W.Frag} {mg : Str → Option Value} {nm : Str} {C : Addr} {cv : Value} {b : Bool} {r : List (Str × Bool)} (hm : mg nm = some (.ref C)) (hC : ExcK K C) (hk : PySem.W.kitOne K (.ref C) cv = some b) (hr : KEr K mg cv (ansL r)) : KEr K mg cv (ansL ((nm, b) :: r)) := fun c C' b' h h' => by
  unfold ansL at h
  split at h
  · rename_i e
    subst e
    cases h
    rw [hm] at h'
    cases h'
    exact ⟨hC, hk⟩
  · exact hr c C' b' h h'
def SWhL : Ct := fun ds A R E => SWh "NoText" 8 ds A R E
end DP
namespace My
open PySem PySem.Spec PyProof.Rows L2 DP MA
section
variable {P : Program} {w : World} {K : PySem.W.Frag} {mg : Str → Option Value} {base : Heap}
theorem f_whichL (T : TopD K mg "_law_which" s__law_which p__law_which) (b_isinstance : mg "isinstance" = none) (b_ValueError : mg "ValueError" = none) {a_NoMobile a_NoHall a_NoWeights a_NoWay a_NoNumber a_Never a_TooLong a_TooDeep a_NoText a_Nothing : Addr}
    (m_NoMobile : mg "NoMobile" = some (.ref a_NoMobile)) (m_NoHall : mg "NoHall" = some (.ref a_NoHall)) (m_NoWeights : mg "NoWeights" = some (.ref a_NoWeights)) (m_NoWay : mg "NoWay" = some (.ref a_NoWay)) (m_NoNumber : mg "NoNumber" = some (.ref a_NoNumber)) (m_Never : mg "Never" = some (.ref a_Never)) (m_TooLong : mg "TooLong" = some (.ref a_TooLong)) (m_TooDeep : mg "TooDeep" = some (.ref a_TooDeep)) (m_NoText : mg "NoText" = some (.ref a_NoText)) (m_Nothing : mg "Nothing" = some (.ref a_Nothing))
    (kx_NoMobile : KEr K mg (.ref a_NoMobile) (ansL [("NoText", false)])) (kx_NoHall : KEr K mg (.ref a_NoHall) (ansL [("NoText", false)])) (kx_NoWeights : KEr K mg (.ref a_NoWeights) (ansL [("NoText", false)])) (kx_NoWay : KEr K mg (.ref a_NoWay) (ansL [("NoText", false)])) (kx_NoNumber : KEr K mg (.ref a_NoNumber) (ansL [("NoText", false)])) (kx_Never : KEr K mg (.ref a_Never) (ansL [("NoText", false)])) (kx_TooLong : KEr K mg (.ref a_TooLong) (ansL [("NoText", false)])) (kx_TooDeep : KEr K mg (.ref a_TooDeep) (ansL [("NoText", false)])) (kx_NoText : KEr K mg (.ref a_NoText) (ansL [("NoText", true)])) (kx_Nothing : KEr K mg (.ref a_Nothing) (ansL [("NoText", false)])) (kx_ValueError : KEr K mg (.type "ValueError") (ansL [("NoText", true)])) : FnH P w K mg base 1 "_law_which" p__law_which (spOf mg 1 SWhL) := by
  refine fnHD T sc__law_which rfl (by decide) fun N f cdv B outer s H E hr ds A R RE h hl => ?_
  have hu : (B.deeper (envOfC "_law_which" (defScope s__law_which) s.heap.objs.size f cdv)).units + 64 < cLine := by
    have := hr.un
    omega
  have nd := sc__law_which.nd
  refine ⟨_, (dss_cons (ds_set (i := 1) nd rfl (by first | exact Or.inl rfl | exact Or.inr rfl) (de_lst (da_cons (de_isE b_isinstance m_NoMobile kx_NoMobile (vr 0)) (da_cons (de_isE b_isinstance m_NoHall kx_NoHall (vr 0)) (da_cons (de_isE b_isinstance m_NoWeights kx_NoWeights (vr 0)) (da_cons (de_isE b_isinstance m_NoWay kx_NoWay (vr 0)) da_nil))))))
    (dss_cons (ds_expr (de_mt PySem.F.plainAttrs_list PySem.F.slot_list_extend PySem.F.type_list_extend mt_extend d_ext (vr 1) (da_cons (de_lst (da_cons (de_isE b_isinstance m_NoNumber kx_NoNumber (vr 0)) (da_cons (de_isE b_isinstance m_Never kx_Never (vr 0)) (da_cons (de_isE b_isinstance m_TooLong kx_TooLong (vr 0)) (da_cons (de_isE b_isinstance m_TooDeep kx_TooDeep (vr 0)) da_nil))))) da_nil)))
    (dss_cons (ds_expr (de_mt PySem.F.plainAttrs_list PySem.F.slot_list_extend PySem.F.type_list_extend mt_extend d_ext (vr 1) (da_cons (de_lst (da_cons (de_isE b_isinstance m_NoText kx_NoText (vr 0)) (da_cons (de_isE b_isinstance m_Nothing kx_Nothing (vr 0)) da_nil))) da_nil)))
    (dss_cons (ds_if (PW.pt (dw_or (t_ne hu (de_mt PySem.F.plainAttrs_list PySem.F.slot_list_count PySem.F.type_list_count mt_count d_count (vr 1) (da_cons de_bl da_nil)) de_int) (dw_or1 (dt_not (dt_val (de_isEB b_isinstance b_ValueError boot_ValueError kx_ValueError (vr 0))))))) (dss_one (ds_ret (de_tup (da_cons de_str (da_cons (de_neg de_int) da_nil))))) dss_nil)
    (dss_one (ds_ret (de_tup (da_cons de_str (da_cons (de_mt PySem.F.plainAttrs_list PySem.F.slot_list_index PySem.F.type_list_index mt_index d_index (vr 1) (da_cons de_bl da_nil)) da_nil))))))))), ?_⟩
  rcases h with ⟨rfl, q⟩
  · refine ⟨show 4 ≤ sizeLine by decide, isL_of last_get, show 4 ≤ sizeLine by decide, ext_ok (getElem?_push last_get) last_get (by decide) ?_⟩
    have h1 := get_set (ys := [D.bl false, D.bl false, D.bl false, D.bl false] ++ [D.bl false, D.bl false, D.bl false, D.bl false]) (getElem?_push (T := [C.lst [D.bl false, D.bl false, D.bl false, D.bl false]]) (last_get (A := A) (c := C.lst [D.bl false, D.bl false, D.bl false, D.bl false])))
    refine ⟨isL_of h1, show 2 ≤ sizeLine by decide, ext_ok (getElem?_push h1) last_get (by decide) ?_⟩
    have h2 := get_set (ys := [D.bl false, D.bl false, D.bl false, D.bl false] ++ [D.bl false, D.bl false, D.bl false, D.bl false] ++ [D.bl true, D.bl false]) (getElem?_push (T := [C.lst [D.bl true, D.bl false]]) h1)
    have h6 : ∀ m, m < 8 → [false, false, false, false, false, false, false, false, true, false][m]? = some false := by decide
    refine ⟨isL_of h2, cnt_ok (bs := [false, false, false, false, false, false, false, false, true, false]) h2 rfl ?_⟩
    refine ⟨isL_of h2, idx_ok (bs := [false, false, false, false, false, false, false, false, true, false]) 8 h2 rfl rfl (fun m c hm h => by rw [h6 m hm] at h; cases h; decide) ⟨show 2 ≤ sizeLine by decide, q _ ?_⟩⟩
    exact ((((Gr.push.trans Gr.push).set (Nat.le_refl _)).trans Gr.push).set (Nat.le_refl _))
end
end My
namespace DP
open PySem PySem.Spec PyProof.Rows L2 MA
end DP
namespace My
open PySem PySem.Spec PyProof.Rows L2 DP MA
section
variable {P : Program} {w : World} {K : PySem.W.Frag} {mg : Str → Option Value} {base : Heap}
end
end My
namespace DP
open PySem PySem.Spec PyProof.Rows L2 MA
def Asc (cs : List Nat) : Prop := ∀ c ∈ cs, c < 1114112
def sgD (c : Nat) : D := .str ⟨#[c]⟩
theorem sg_data : ∀ cs : List Nat, Asc cs → purs (cs.map sgD) = true ∧ PyData.canLayAll0 (toQs (cs.map sgD)) = true
  | [], _ => ⟨rfl, rfl⟩
  | c :: cs, h => by
    obtain ⟨h1, h2⟩ := sg_data cs fun x hx => h x (List.mem_cons_of_mem _ hx)
    have hc := h c (List.mem_cons_self ..)
    refine ⟨by show (pur (sgD c) && purs (cs.map sgD)) = true; rw [h1]; rfl, ?_⟩
    show (PyData.canLay0 (.str ⟨#[c]⟩) && PyData.canLayAll0 (toQs (cs.map sgD))) = true
    rw [h2]
    simp [PyData.canLay0, PyData.strOk]
    exact hc
theorem eq_sg_nil {neg : Bool} {A : Ar} {r q : Nat} {cs : List Nat} {R : DK} (h1 : A[r]? = some (.lst (cs.map sgD))) (h2 : A[q]? = some (.lst [])) (ha : Asc cs) (k : R (.bl (if neg then !decide (cs = []) else decide (cs = []))) A) : dataEq neg (.ref r) (.ref q) A R := by
  obtain ⟨d1, d2⟩ := sg_data cs ha
  have e1 : toP A (.ref r) = .list (toQs (cs.map sgD)) := by unfold toP; simp only [h1]
  have e2 : toP A (.ref q) = .list [] := by unfold toP; simp only [h2]; rfl
  unfold dataEq
  rw [e1, e2]
  refine ⟨by unfold okP; simp only [h1]; exact d1, by unfold okP; simp only [h2]; rfl, by simpa [PyData.canLay0] using d2, by simp [PyData.canLay0, PyData.canLayAll0], by simp [PyData.depth, PyData.depthAll], ?_⟩
  have e3 : PyData.eqv (.list (toQs (cs.map sgD))) (.list []) = decide (cs = []) := by
    cases cs with
    | nil => simp [toQs, PyData.eqv, PyData.eqvAll]
    | cons c cs => simp [toQs, PyData.eqv, PyData.eqvAll]
  rw [e3]
  exact k
theorem sg_eq {c y : Nat} {sy : Str} (hy : sy = S [y]) : decide ((⟨#[c]⟩ : Str) = sy) = decide (c = y) := by
  rw [hy]
  refine Bool.eq_iff_iff.mpr ?_
  rw [decide_eq_true_eq, decide_eq_true_eq]
  constructor
  · intro h
    have := congrArg (fun z : Str => z.cps.toList) h
    simpa [S] using this
  · intro h
    rw [h]
    rfl
theorem sgs_S (cs : List Nat) : sgs (S cs) = cs.map sgD := by
  unfold sgs
  rw [S_cps]
  rfl
def nlB : D → Bool
  | .str z => !Txt.contains "abcdefghijklmnopqrstuvwxyz" z
  | _ => false
theorem nl_fil (cs : List Nat) : (cs.map sgD).filter nlB = (cs.filter fun c => !lt1 c).map sgD := by
  rw [List.filter_map]
  congr 2
  funext c
  show (!Txt.contains "abcdefghijklmnopqrstuvwxyz" (S [c])) = _
  rw [has_let]
end DP
namespace My
open PySem PySem.Spec PyProof.Rows L2 DP MA
section
variable {P : Program} {w : World} {K : PySem.W.Frag} {mg : Str → Option Value} {base : Heap}
end
end My
namespace DP
open PySem PySem.Spec PyProof.Rows L2 MA
theorem sl_asc {z : Str} (h : Asc z.cps.toList) (lo hi : Option Int) : Asc (Txt.slice z lo hi).cps.toList := fun c hc => by
  unfold Txt.slice at hc
  split at hc
  · exact h c hc
  · rw [List.mem_filterMap] at hc
    obtain ⟨i, _, hi⟩ := hc
    exact h c (by simpa using Array.mem_of_getElem? hi)
theorem app_asc {a b : Str} (ha : Asc a.cps.toList) (hb : Asc b.cps.toList) : Asc (a ++ b).cps.toList := fun c hc => by
  rw [cps_app] at hc
  rcases List.mem_append.mp hc with h | h
  · exact ha c h
  · exact hb c h
end DP
namespace DP
open PySem PySem.Spec PyProof.Rows L2 MA
def rdP (x : Str) : Option (Str × Int) := if isNoT (partT x "=").2.2 6 then some ((partT x "=").1, nVal (partT x "=").2.2) else none
def rdAll : List Str → Option (List (Str × Int))
  | [] => some []
  | p :: ps => match rdP p, rdAll ps with
    | some r, some rs => some (r :: rs)
    | _, _ => none
def Rd (z : Str) (rs : List (Str × Int)) : Prop := (z = "" ∧ rs = []) ∨ (z ≠ "" ∧ rdAll (Txt.split z " ") = some rs ∧ WOk rs)
def SNmdA : Ct := fun ds A R E => ∃ x, ds = [.str x] ∧ x.length ≤ 1000 ∧ (∀ r, rdP x = some r → ∀ A', Gr A A' → R (rowD r) A') ∧ (rdP x = none → ∀ A', Gr A A' → E "NoText" A')
def SRdwA : Ct := fun ds A R E => ∃ x, ds = [x] ∧ okA A x = true ∧ ((∀ z, x ≠ .str z) → ∀ A', Gr A A' → E "NoText" A') ∧ ∀ z, x = .str z → z.length ≤ 61 ∧ (∀ rs, Rd z rs → ∀ A', Gr A A' → R (encW rs) A') ∧ ((∀ rs, ¬ Rd z rs) → ∀ A', Gr A A' → E "NoText" A')
theorem sub_len (x : Str) (i j : Nat) : (Builtin.Str.strSub x i j).length ≤ x.length := by
  have h : (Builtin.Str.strSub x i j).length = (Builtin.Str.strSub x i j).cps.toList.length := by simp [Str.length]
  rw [h, StrLaws.strSub_toList]
  simp [Str.length]
  omega
theorem part_len (x : Str) : (partT x "=").1.length ≤ x.length ∧ (partT x "=").2.2.length ≤ x.length := by
  unfold partT
  split
  · exact ⟨sub_len _ _ _, sub_len _ _ _⟩
  · exact ⟨Nat.le_refl _, Nat.zero_le _⟩
theorem spl_len (z : Str) : (Txt.split z " ").length ≤ z.length + 2 := by
  have h := pb_len z " "
  unfold Txt.split
  split
  · simp
  split
  · simp
  · exact h
theorem spl_mem {z p : Str} (h : p ∈ Txt.split z " ") : p.length ≤ z.length := by
  have e := StrLaws.join_split z " "
  have : ∀ (ps : List Str), p ∈ ps → p.length ≤ (Str.join " " ps).length := by
    intro ps
    induction ps with
    | nil => intro h; cases h
    | cons q qs ih =>
      intro h
      cases qs with
      | nil =>
        rw [List.mem_singleton.mp h]
        exact Nat.le_refl _
      | cons q2 qs =>
        have l : (Str.join " " (q :: q2 :: qs)).length = (q ++ " " ++ Str.join " " (q2 :: qs)).length := rfl
        rw [l, len_app, len_app]
        rcases List.mem_cons.mp h with rfl | h
        · omega
        · have := ih h
          omega
  have := this _ h
  rw [e] at this
  exact this
theorem rdAll_len : ∀ {ps : List Str} {rs : List (Str × Int)}, rdAll ps = some rs → rs.length = ps.length
  | [], rs, h => by cases h; rfl
  | p :: ps, rs, h => by
    unfold rdAll at h
    split at h
    · rename_i r rs' h1 h2
      cases h
      simp [rdAll_len h2]
    · cases h
theorem rdAll_cons {p : Str} {ps : List Str} {r : Str × Int} {rs : List (Str × Int)} (h1 : rdP p = some r) (h2 : rdAll ps = some rs) : rdAll (p :: ps) = some (r :: rs) := by
  unfold rdAll
  rw [h1, h2]
theorem rdAll_app : ∀ (dn : List Str) {rd : List (Str × Int)} (more : List Str), rdAll dn = some rd → rdAll (dn ++ more) = (rdAll more).map (rd ++ ·)
  | [], rd, more, h => by
    cases h
    cases e : rdAll more <;> simp [e]
  | p :: dn, rd, more, h => by
    unfold rdAll at h
    split at h
    · rename_i r rs' h1 h2
      cases h
      rw [List.cons_append]
      rw [show rdAll (p :: (dn ++ more)) = (match rdP p, rdAll (dn ++ more) with
        | some r, some rs => some (r :: rs)
        | _, _ => none) from rfl, h1, rdAll_app dn more h2]
      generalize rdAll more = o
      cases o <;> rfl
    · cases h
theorem rdAll_none {dn : List Str} {rd : List (Str × Int)} {p : Str} {more : List Str} (h : rdAll dn = some rd) (hp : rdP p = none) : rdAll (dn ++ p :: more) = none := by
  rw [rdAll_app dn _ h]
  unfold rdAll
  rw [hp]
  rfl
theorem rdAll_snoc {dn : List Str} {rd : List (Str × Int)} {p : Str} {r : Str × Int} (h : rdAll dn = some rd) (hp : rdP p = some r) : rdAll (dn ++ [p]) = some (rd ++ [r]) := by
  rw [rdAll_app dn _ h, rdAll_cons hp rfl]
  rfl
theorem rdAll_nm {k : Nat} : ∀ {ps : List Str} {rs : List (Str × Int)}, rdAll ps = some rs → (∀ p ∈ ps, p.length ≤ k) → ∀ r ∈ rs, r.1.length ≤ k
  | [], rs, h, _, r, hr => by cases h; cases hr
  | p :: ps, rs, h, hk, r, hr => by
    unfold rdAll at h
    split at h
    · rename_i r' rs' h1 h2
      cases h
      rcases List.mem_cons.mp hr with rfl | hr
      · unfold rdP at h1
        split at h1
        · cases h1
          exact Nat.le_trans (part_len p).1 (hk p (List.mem_cons_self ..))
        · cases h1
      · exact rdAll_nm h2 (fun q hq => hk q (List.mem_cons_of_mem _ hq)) r hr
    · cases h
theorem okA_rows {A : Ar} {k : Nat} (hk : k ≤ sizeLine) : ∀ {rs : List (Str × Int)}, (∀ r ∈ rs, r.1.length ≤ k) → okA A (encW rs) = true
  | [], _ => rfl
  | r :: rs, h => by
    show (okA A (rowD r) && okA A (encW rs)) = true
    rw [okA_rows hk fun q hq => h q (List.mem_cons_of_mem _ hq)]
    show ((decide (r.1.length ≤ sizeLine) && _) && true) = true
    rw [decide_eq_true (Nat.le_trans (h r (List.mem_cons_self ..)) hk)]
    rfl
end DP
namespace My
open PySem PySem.Spec PyProof.Rows L2 DP MA
section
variable {P : Program} {w : World} {K : PySem.W.Frag} {mg : Str → Option Value} {base : Heap}
theorem f_nmdA (T : TopD K mg "named_number" s_named_number p_named_number) {t : Tok} (m_HEAVIEST : mg "HEAVIEST" = some (.int 999999 t)) (F_whole_number : FnX P w K mg base 1 "whole_number" p_whole_number (spOf mg 2 SWnA)) : FnX P w K mg base 2 "named_number" p_named_number (spOf mg 1 SNmdA) := by
  refine fnD T sc_named_number rfl (by decide) fun N RE f cdv B outer s H E hr hR hx ds A R h hl => ?_
  have hu := hr.units
  have nd := sc_named_number.nd
  refine ⟨_, (dss_cons (ds_set (i := 1) nd rfl (by first | exact Or.inl rfl | exact Or.inr rfl) (de_mtS PySem.F.plainAttrs_str PySem.F.slot_str_partition PySem.F.type_str_partition mt_part d_part (vr 0) (da_cons de_str da_nil)))
    (dss_one (ds_ret (de_tup (da_cons (de_ix hu (vr 1) de_int (fun _ _ => rfl)) (da_cons (de_call F_whole_number (hr.mono (by omega)) hx (da_cons (de_ix hu (vr 1) de_int (fun _ _ => rfl)) (da_cons (de_num m_HEAVIEST) da_nil))) da_nil)))))), ?_⟩
  obtain ⟨x, rfl, hx', q1, q2⟩ := h
  have hz : (2000 : Nat) ≤ sizeLine := by decide
  refine ⟨by decide +kernel, by omega, ?_⟩
  have hl := (part_len x).2
  refine ⟨rfl, _, 999999, 6, rfl, .inr ⟨rfl, rfl⟩, by omega, fun hn A1 g1 => ⟨show 2 ≤ sizeLine by omega, q1 (_, _) (by unfold rdP; rw [if_pos hn]; rfl) _ g1⟩, fun hn A1 g1 => q2 (by unfold rdP; rw [if_neg (by rw [hn]; decide)]) _ g1⟩
theorem f_rwA (T : TopD K mg "read_weights" s_read_weights p_read_weights) (b_tuple : mg "tuple" = none) {a_NoText : Addr} (m_NoText : mg "NoText" = some (.ref a_NoText)) (x_NoText : PySem.W.excIn K a_NoText vErr "ValueError.__new__" = true) (F_check_text : FnX P w K mg base 1 "check_text" p_check_text (spOf mg 1 SCtA)) (F_named_number : FnX P w K mg base 2 "named_number" p_named_number (spOf mg 1 SNmdA)) (F_is_weights : FnX P w K mg base 3 "is_weights" p_is_weights (spOf mg 1 SIwA)) : FnX P w K mg base 4 "read_weights" p_read_weights (spOf mg 1 SRdwA) := by
  refine fnDA T sc_read_weights rfl (by decide) fun N RE f cdv B outer s H E hr hR hx hxa ds A R h hl => ?_
  have hu := hr.units
  have nd := sc_read_weights.nd
  refine ⟨_, (dss_cons (ds_expr (de_call F_check_text (hr.mono (by omega)) hx (da_cons (vr 0) da_nil)))
    (dss_cons (ds_if (t_eq hu (vr 0) de_str) (dss_one (ds_ret (de_tup da_nil))) dss_nil)
    (dss_cons (ds_set (i := 1) nd rfl (by first | exact Or.inl rfl | exact Or.inr rfl) (de_cty call_tuple_of d_tup b_tuple boot_tuple (da_cons (de_compE none (own := ["part"]) (frees := []) (ix := []) ⟨rfl, rfl⟩ hxa rfl (di_seq (de_mtS PySem.F.plainAttrs_str PySem.F.slot_str_split PySem.F.type_str_split mt_split d_split (vr 0) (da_cons de_str da_nil))) (fun c => (pg_name (i := 0) (show (["part"] : List Str).Nodup by decide +kernel) rfl (by first | exact Or.inl rfl | exact Or.inr rfl))) (fun c => (de_call F_named_number (hr.mono (by omega)) passE (da_cons (vr 0) da_nil)))) da_nil)))
    (dss_cons (ds_if (dt_not (dt_val (de_call F_is_weights (hr.mono (by omega)) hx (da_cons (vr 1) da_nil)))) (dss_one (ds_raise hR rfl m_NoText x_NoText (da_cons de_str da_nil))) dss_nil)
    (dss_one (ds_ret (vr 1))))))), ?_⟩
  obtain ⟨x, rfl, kx, q0, q1⟩ := h
  have hz : (2000 : Nat) ≤ sizeLine := by decide
  refine ⟨rfl, x, rfl, kx, fun hs => ?_, fun hs => q0 hs _ Gr.refl⟩
  obtain ⟨z, rfl⟩ := hs
  obtain ⟨hlen, q1, q2⟩ := q1 z rfl
  refine cD (fun c => ?_) (fun c => ?_)
  · have c : z = "" := c
    exact ⟨Nat.zero_le _, q1 [] (.inl ⟨c, rfl⟩) _ Gr.refl⟩
  have c : z ≠ "" := c
  have pl := pb_len z " "
  have sl := spl_len z
  refine ⟨by decide +kernel, by omega, by omega, by omega, ?_⟩
  refine it_ok last_get ?_
  refine cloop_I (fun rest ys A' => ∃ (dn : List Str) (rd : List (Str × Int)) (more : List Str), rest = more.map D.str ∧ ys = rd.map rowD ∧ rdAll dn = some rd ∧ dn ++ more = Txt.split z " " ∧ Gr (A ++ [.lst ((Txt.split z " ").map D.str)]) A') ?_ ?_ ?_ ?_ _ _ _ ⟨[], [], Txt.split z " ", rfl, rfl, rfl, rfl, Gr.refl⟩
  · rintro rest ys A' ⟨dn, rd, more, _, _, _, _, g⟩
    exact g.get last_get
  · rintro rest ys A' ⟨dn, rd, more, _, rfl, e1, e, _⟩
    have l1 := rdAll_len e1
    have : (dn ++ more).length = (Txt.split z " ").length := by rw [e]
    simp at this ⊢
    omega
  · rintro x rest ys A' ⟨dn, rd, more, e1, rfl, e2, e, g⟩
    cases more with
    | nil => cases e1
    | cons y more =>
      cases e1
      have hy : y ∈ Txt.split z " " := by rw [← e]; simp
      have ly := spl_mem hy
      refine ⟨[.str y], rfl, fun Q hQ => ⟨rfl, y, rfl, by omega, fun r hr A2 g2 => hQ _ _ ⟨dn ++ [y], rd ++ [r], more, rfl, by simp, rdAll_snoc e2 hr, by simpa using e, g.trans g2⟩, fun hn A2 g2 => q2 (fun rs h => ?_) _ ((Gr.push.trans g).trans g2)⟩⟩
      rcases h with ⟨h, _⟩ | ⟨_, h, _⟩
      · exact c h
      · rw [← e, rdAll_none e2 hn] at h
        cases h
  · rintro ys A' ⟨dn, rd, more, e1, rfl, e2, e, g⟩
    cases more with
    | cons y more => cases e1
    | nil =>
      have e : dn = Txt.split z " " := by simpa using e
      subst e
      have l1 := rdAll_len e2
      refine tup_ok last_get ?_
      have kk : okA (A' ++ [C.lst (rd.map rowD)]) (encW rd) = true := okA_rows (k := 61) (by omega) (rdAll_nm e2 fun p hp => by have := spl_mem hp; omega)
      refine ⟨rfl, encW rd, rfl, kk, fun xs h => ?_, fun A2 g2 b hb => ?_⟩
      · cases h
        rw [List.length_map]
        omega
      cases b with
      | true =>
        obtain ⟨rs, h1, h2⟩ := hb.mp rfl
        cases encW_inj h1
        exact q1 rd (.inr ⟨c, e2, h2⟩) _ (((Gr.push.trans g).trans Gr.push).trans g2)
      | false =>
        refine ⟨by decide, q2 (fun rs h => ?_) _ (((Gr.push.trans g).trans Gr.push).trans g2)⟩
        rcases h with ⟨h, _⟩ | ⟨_, h, hw⟩
        · exact c h
        · rw [e2] at h
          cases h
          cases hb.mpr ⟨rd, rfl, hw⟩
end
end My
namespace DP
open PySem PySem.Spec PyProof.Rows L2 MA
def gdP (x : Str) : Bool := !decide ((partT x "=").2.1 = "") && (isN (partT x "=").1.cps.toList && isNoT (partT x "=").2.2 6)
def ptsOf (z : Str) : List Str := if z = "" then [] else Txt.split z " "
theorem wok_nil : WOk [] := ⟨fun _ h => (by cases h), fun _ h => (by cases h), List.Pairwise.nil, by decide⟩
theorem Rd_iff {z : Str} {rs : List (Str × Int)} : Rd z rs ↔ rdAll (ptsOf z) = some rs ∧ WOk rs := by
  unfold Rd ptsOf
  by_cases h : z = ""
  · rw [if_pos h]
    constructor
    · rintro (⟨_, rfl⟩ | ⟨h', _⟩)
      · exact ⟨rfl, wok_nil⟩
      · exact absurd h h'
    · rintro ⟨h1, _⟩
      cases h1
      exact .inl ⟨h, rfl⟩
  · rw [if_neg h]
    constructor
    · rintro (⟨h', _⟩ | ⟨_, h'⟩)
      · exact absurd h' h
      · exact h'
    · exact fun h' => .inr ⟨h, h'⟩
theorem dv_bound : ∀ (cs : List Nat) (a : Nat), cs.all dig = true → a * 10 ^ cs.length ≤ cs.foldl (fun acc c => acc * 10 + (c - 48)) a ∧ cs.foldl (fun acc c => acc * 10 + (c - 48)) a < (a + 1) * 10 ^ cs.length
  | [], a, _ => by simp
  | c :: cs, a, h => by
    rw [List.all_cons, Bool.and_eq_true] at h
    obtain ⟨h1, h2⟩ := dv_bound cs (a * 10 + (c - 48)) h.2
    have hd : 48 ≤ c ∧ c ≤ 57 := by
      have := h.1
      unfold dig at this
      simpa using this
    rw [List.foldl_cons, List.length_cons, Nat.pow_succ]
    generalize List.foldl (fun acc c => acc * 10 + (c - 48)) (a * 10 + (c - 48)) cs = v at *
    generalize 10 ^ cs.length = t at *
    have e1 : a * (t * 10) = (a * 10) * t := by rw [Nat.mul_comm t 10, Nat.mul_assoc]
    have e2 : (a + 1) * (t * 10) = (a * 10 + 10) * t := by rw [Nat.mul_comm t 10, ← Nat.mul_assoc, Nat.add_mul]
    constructor
    · rw [e1]
      exact Nat.le_trans (Nat.mul_le_mul_right _ (by omega)) h1
    · rw [e2]
      exact Nat.lt_of_lt_of_le h2 (Nat.mul_le_mul_right _ (by omega))
theorem nVal_in {x : Str} (h : isNoT x 6 = true) : 1 ≤ nVal x ∧ nVal x ≤ 999999 := by
  unfold isNoT at h
  simp only [Bool.and_eq_true, decide_eq_true_eq] at h
  obtain ⟨⟨⟨h1, h2⟩, h3⟩, h4⟩ := h
  have ln : x.length = x.cps.toList.length := by simp [Str.length]
  unfold nVal PySem.NumText.digitsVal
  rw [ln] at h1 h2
  generalize x.cps.toList = cs at *
  cases cs with
  | nil => simp at h1
  | cons c cs =>
    rw [List.all_cons, Bool.and_eq_true] at h4
    have hd : 48 ≤ c ∧ c ≤ 57 := by
      have := h4.1
      unfold dig at this
      simpa using this
    have n48 : c ≠ 48 := by simpa [no0] using h3
    obtain ⟨b1, b2⟩ := dv_bound cs (0 * 10 + (c - 48)) h4.2
    rw [List.foldl_cons]
    generalize List.foldl (fun acc c => acc * 10 + (c - 48)) (0 * 10 + (c - 48)) cs = v at *
    have l5 : cs.length ≤ 5 := by simp at h2; omega
    have p1 : 1 ≤ 10 ^ cs.length := Nat.one_le_pow _ _ (by decide)
    have p2 : 10 ^ cs.length ≤ 10 ^ 5 := Nat.pow_le_pow_right (by decide) l5
    generalize 10 ^ cs.length = t at *
    have m1 : 1 * t ≤ (0 * 10 + (c - 48)) * t := Nat.mul_le_mul_right _ (by omega)
    have m2 : (0 * 10 + (c - 48) + 1) * t ≤ 10 * t := Nat.mul_le_mul_right _ (by omega)
    omega
theorem isNoT_sign {x : Str} (h : isNoT (partT x "=").2.2 6 = true) : (partT x "=").2.1 ≠ "" := by
  unfold partT at h ⊢
  split at h
  · rename_i e
    exact fun z => absurd (show ("=" : Str) = "" from z) (by decide +kernel)
  · exact absurd (show isNoT Str.empty 6 = true from h) (by decide +kernel)
theorem rd_gd {p : Str} {r : Str × Int} (h : rdP p = some r) (hn : Nm r.1) : gdP p = true := by
  unfold rdP at h
  split at h
  · rename_i hi
    cases h
    unfold gdP
    rw [decide_eq_false (isNoT_sign hi), hi, Nm_isN hn]
    rfl
  · cases h
theorem gd_rd {p : Str} (h : gdP p = true) : isNoT (partT p "=").2.2 6 = true ∧ rdP p = some ((partT p "=").1, nVal (partT p "=").2.2) ∧ Nm (partT p "=").1 := by
  unfold gdP at h
  rw [Bool.and_eq_true, Bool.and_eq_true] at h
  refine ⟨h.2.2, by unfold rdP; rw [if_pos h.2.2], ?_⟩
  have := isN_Nm h.2.1
  rw [S_self] at this
  exact this
theorem rdAll_gd : ∀ {ps : List Str} {rs : List (Str × Int)}, rdAll ps = some rs → (∀ r ∈ rs, Nm r.1) → ∀ p ∈ ps, gdP p = true
  | [], rs, _, _, p, hp => by cases hp
  | q :: ps, rs, h, hn, p, hp => by
    unfold rdAll at h
    split at h
    · rename_i r' rs' h1 h2
      cases h
      rcases List.mem_cons.mp hp with rfl | hp
      · exact rd_gd h1 (hn _ (List.mem_cons_self ..))
      · exact rdAll_gd h2 (fun r hr => hn r (List.mem_cons_of_mem _ hr)) p hp
    · cases h
theorem gd_all : ∀ {ps : List Str} {rs : List (Str × Int)}, rdAll ps = some rs → (∀ p ∈ ps, gdP p = true) → ∀ r ∈ rs, Nm r.1 ∧ 1 ≤ r.2 ∧ r.2 ≤ 999999
  | [], rs, h, _, r, hr => by cases h; cases hr
  | q :: ps, rs, h, hn, r, hr => by
    unfold rdAll at h
    split at h
    · rename_i r' rs' h1 h2
      cases h
      rcases List.mem_cons.mp hr with rfl | hr
      · obtain ⟨k1, k2, k3⟩ := gd_rd (hn q (List.mem_cons_self ..))
        rw [k2] at h1
        cases h1
        exact ⟨k3, nVal_in k1⟩
      · exact gd_all h2 (fun r hr => hn r (List.mem_cons_of_mem _ hr)) r hr
    · cases h
def nfB : D → Bool
  | .str z => !Txt.contains "0123456789" z
  | _ => false
theorem nf_fil (cs : List Nat) : (cs.map sgD).filter nfB = (cs.filter fun c => !dig c).map sgD := by
  rw [List.filter_map]
  congr 2
  funext c
  show (!Txt.contains "0123456789" (S [c])) = _
  rw [has_fig]
theorem sgs_x (x : Str) : sgs x = x.cps.toList.map sgD := by
  have := sgs_S x.cps.toList
  rw [S_self] at this
  exact this
def SDue : Ct := fun ds A R _ => ∃ z, ds = [.str z] ∧ z.length ≤ 61 ∧ Asc z.cps.toList ∧ (∀ rs, Rd z rs → ∀ A', Gr A A' → R (encW rs) A') ∧ ((∀ rs, ¬ Rd z rs) → ∀ A', Gr A A' → R .non A')
def SAk30 : Ct := fun ds A R _ => ∃ x, ds = [x] ∧ okA A x = true ∧ ((∀ z, x ≠ .str z) → ∀ A', Gr A A' → R (rfd 8) A') ∧ ∀ z, x = .str z → z.length ≤ 61 ∧ (∀ rs, Rd z rs → ∀ A', Gr A A' → R (encW rs) A') ∧ ((∀ rs, ¬ Rd z rs) → ∀ A', Gr A A' → R (rfd 8) A')
theorem sub_asc {x : Str} (h : Asc x.cps.toList) (i j : Nat) : Asc (Builtin.Str.strSub x i j).cps.toList := fun c hc => by
  rw [StrLaws.strSub_toList] at hc
  exact h c (List.mem_of_mem_drop (List.mem_of_mem_take hc))
theorem part_asc {x : Str} (h : Asc x.cps.toList) : Asc (partT x "=").1.cps.toList ∧ Asc (partT x "=").2.2.cps.toList := by
  unfold partT
  split
  · exact ⟨sub_asc h _ _, sub_asc h _ _⟩
  · exact ⟨h, fun c hc => absurd hc (by show c ∉ ([] : List Nat); simp)⟩
theorem spl_asc {z p : Str} (h : Asc z.cps.toList) (hp : p ∈ Txt.split z " ") : Asc p.cps.toList := by
  have e := StrLaws.join_split z " "
  have : ∀ (ps : List Str), p ∈ ps → ∀ c ∈ p.cps.toList, c ∈ (Str.join " " ps).cps.toList := by
    intro ps
    induction ps with
    | nil => intro h; cases h
    | cons q qs ih =>
      intro h c hc
      cases qs with
      | nil =>
        rw [List.mem_singleton.mp h] at hc
        exact hc
      | cons q2 qs =>
        have l : (Str.join " " (q :: q2 :: qs)).cps.toList = (q ++ " " ++ Str.join " " (q2 :: qs)).cps.toList := rfl
        rw [l, cps_app, cps_app]
        rcases List.mem_cons.mp h with rfl | h
        · simp [hc]
        · have := ih h c hc
          simp [this]
  intro c hc
  have := this _ hp c hc
  rw [e] at this
  exact h c this
end DP
namespace My
open PySem PySem.Spec PyProof.Rows L2 DP MA
section
variable {P : Program} {w : World} {K : PySem.W.Frag} {mg : Str → Option Value} {base : Heap}
theorem f_ask30 (T : TopD K mg "_law_ask" s__law_ask p__law_ask) {a_HangError a_NoText : Addr} (m_HangError : mg "HangError" = some (.ref a_HangError)) (m_NoText : mg "NoText" = some (.ref a_NoText)) (x1 : PySem.W.exmOne K (.ref a_NoText) (.ref a_HangError) = some true)
    (F_read_weights : FnX P w K mg base 4 "read_weights" p_read_weights (spOf mg 1 SRdwA)) (H__law_which : FnH P w K mg base 1 "_law_which" p__law_which (spOf mg 1 SWhL)) : FnX P w K mg base 24 "_law_ask" p__law_ask (spOf mg 1 SAk30) := by
  refine fnD T sc__law_ask rfl (by decide) fun N RE f cdv B outer s H E hr hR hx ds A R h hl => ?_
  have hu := hr.units
  have nd := sc__law_ask.nd
  obtain ⟨okc, hok⟩ : ∃ o : List Str, o = [("NoText" : Str)] := ⟨_, rfl⟩
  have hokc : ∀ c C, c ∈ okc → mg c = some (.ref C) → PySem.W.exmOne K (.ref C) (.ref a_HangError) = some true := fun c C hc hm => by
    rw [hok] at hc
    rw [List.mem_singleton.mp hc, m_NoText] at hm; cases hm; exact x1
  refine ⟨_, (dss_one (ds_try (i := 1) okc rfl rfl rfl nd rfl rfl m_HangError hokc (fun M RE pn E hx => (dss_one (ds_ret (de_call F_read_weights (hr.mono (by omega)) hx (da_cons (vr 0) da_nil))))) (fun M e => (dss_one (ds_ret (de_callH H__law_which (RoomH.of (hr.mono (by omega))) (da_cons (vr 1) da_nil))))))), ?_⟩
  have hi1 : ("NoText" : Str) ∈ okc := by rw [hok]; simp
  obtain ⟨x, rfl, hk, q0, q1⟩ := h
  refine ⟨rfl, x, rfl, hk, fun hn A' g => ⟨hi1, rfl, rfl, fun A2 g2 => q0 hn _ (g.trans g2)⟩, fun z hz => ?_⟩
  obtain ⟨hl, q1, q2⟩ := q1 z hz
  exact ⟨hl, fun rs h A' g => q1 rs h _ g, fun h A' g => ⟨hi1, rfl, rfl, fun A2 g2 => q2 h _ (g.trans g2)⟩⟩
theorem f_due (T : TopD K mg "_law_due" s__law_due p__law_due) (b_len : mg "len" = none) (b_int : mg "int" = none) (b_tuple : mg "tuple" = none) (b_sorted : mg "sorted" = none) (b_set : mg "set" = none) : FnX P w K mg base 1 "_law_due" p__law_due (spOf mg 1 SDue) := by
  refine fnD T sc__law_due rfl (by decide) fun N RE f cdv B outer s H E hr hR hx ds A R h hl => ?_
  have hu := hr.units
  have nd := sc__law_due.nd
  refine ⟨_, (dss_cons (ds_set (i := 1) nd rfl (by first | exact Or.inl rfl | exact Or.inr rfl) (de_lst da_nil))
    (dss_cons (ds_for ownX rfl (di_seq (de_ite (t_ne hu (vr 0) de_str) (de_mtS PySem.F.plainAttrs_str PySem.F.slot_str_split PySem.F.type_str_split mt_split d_split (vr 0) (da_cons de_str da_nil)) (de_lst da_nil))) (dg_name (i := 2) nd rfl (by first | exact Or.inl rfl | exact Or.inr rfl)) (dss_cons (ds_asg (de_mtS PySem.F.plainAttrs_str PySem.F.slot_str_partition PySem.F.type_str_partition mt_part d_part (vr 2) (da_cons de_str da_nil)) (dg_tup rfl (dgs_cons (dg_name (i := 3) nd rfl (by first | exact Or.inl rfl | exact Or.inr rfl)) (dgs_cons (dg_name (i := 4) nd rfl (by first | exact Or.inl rfl | exact Or.inr rfl)) (dgs_cons (dg_name (i := 5) nd rfl (by first | exact Or.inl rfl | exact Or.inr rfl)) dgs_nil)))))
    (dss_cons (ds_if (PW.pt (dw_or (t_eq hu (vr 4) de_str) (dw_or (dt_not (t_lele de_int (de_cb c_len d_len b_len PySem.boot_len (da_cons (vr 3) da_nil)) de_int)) (dw_or (dt_not (t_lele de_int (de_cb c_len d_len b_len PySem.boot_len (da_cons (vr 5) da_nil)) de_int)) (dw_or1 (t_eq hu (de_ix hu (vr 5) de_int (fun _ _ => rfl)) de_str)))))) (dss_one (ds_ret de_non)) dss_nil)
    (dss_cons (ds_if (t_ne hu (de_compI none (own := ["_law_one"]) (frees := []) (ix := []) rfl (di_str (vr 3)) (fun c => (pg_name (i := 0) (show (["_law_one"] : List Str).Nodup by decide +kernel) rfl (by first | exact Or.inl rfl | exact Or.inr rfl))) (fun c => (t_ninS (vr 0) de_str)) (fun c => (vr 0))) (de_lst da_nil)) (dss_one (ds_ret de_non)) dss_nil)
    (dss_cons (ds_if (t_ne hu (de_compI none (own := ["_law_one"]) (frees := []) (ix := []) rfl (di_str (vr 5)) (fun c => (pg_name (i := 0) (show (["_law_one"] : List Str).Nodup by decide +kernel) rfl (by first | exact Or.inl rfl | exact Or.inr rfl))) (fun c => (t_ninS (vr 0) de_str)) (fun c => (vr 0))) (de_lst da_nil)) (dss_one (ds_ret de_non)) dss_nil)
    (dss_one (ds_expr (de_mt PySem.F.plainAttrs_list PySem.F.slot_list_append PySem.F.type_list_append mt_append d_app (vr 1) (da_cons (de_tup (da_cons (vr 3) (da_cons (de_cty call_intT d_intT b_int boot_int (da_cons (vr 5) da_nil)) da_nil))) da_nil)))))))))
    (dss_cons (ds_comp (some 2) (own := ["_law_name", "_law_number"]) (frees := []) (ix := []) (i := 6) nd rfl (by first | exact Or.inl rfl | exact Or.inr rfl) rfl (di_seq (vr 1)) (fun c => (pg_tup rfl (pgs_cons (pg_name (i := 0) (show (["_law_name", "_law_number"] : List Str).Nodup by decide +kernel) rfl (by first | exact Or.inl rfl | exact Or.inr rfl)) (pgs_cons (pg_name (i := 1) (show (["_law_name", "_law_number"] : List Str).Nodup by decide +kernel) rfl (by first | exact Or.inl rfl | exact Or.inr rfl)) pgs_nil)))) (fun c => (vr 0)))
    (dss_one (ds_ret (de_ite (t_eq hu (vr 6) (de_sortset b_sorted b_set rfl (da_cons (vr 6) da_nil))) (de_cty call_tuple_of d_tup b_tuple boot_tuple (da_cons (vr 1) da_nil)) de_non)))))), ?_⟩
  obtain ⟨z, rfl, hlen, hasc, q1, q2⟩ := h
  have hz : (2000 : Nat) ≤ sizeLine := by decide
  have fin : ∀ (rd : List (Str × Int)) (A4 : Ar) (a b c d : Option D), rdAll (ptsOf z) = some rd → (∀ p ∈ ptsOf z, gdP p = true) → rd.length < 64 → A4[A.length]? = some (.lst (rd.map rowD)) → Gr A A4 → sSeq (sSet 6 (dComp (some 2) [] (iSeq (dVar 1)) tt0 (dVar 0))) (sRet (dIte (dTest (dOp eqD (dVar 6) (dCb srtD (dCons (dVar 6) dNil)))) (dCb tupD (dCons (dVar 1) dNil)) (dC D.non))) { nx := fun _ A' => R .non A', rt := R } [some (.str z), some (.ref A.length), a, b, c, d, none] A4 := fun rd A4 a b c d hrd hgd h64 hm g => by
    have hall := gd_all hrd hgd
    refine it_ok hm ?_
    refine cloop_map (f := fun x => match x with | .tup (y :: _) => y | x => x) hm _ _ (fun x hx => ?_) (show 0 + (rd.map rowD).length ≤ sizeLine by rw [List.length_map]; omega) ?_
    · obtain ⟨r, hr, rfl⟩ := List.mem_map.mp hx
      exact ⟨[.str r.1, .int r.2], rfl, fun Q hQ => hQ⟩
    have e : (rd.map rowD).map (fun x => match x with | .tup (y :: _) => y | x => x) = (rd.map (·.1)).map D.str := by
      rw [List.map_map, List.map_map]
      rfl
    rw [List.nil_append, e]
    have hns : ∀ n ∈ rd.map (·.1), Nm n := fun n hn => by
      obtain ⟨r, hr, rfl⟩ := List.mem_map.mp hn
      exact (hall r hr).1
    refine srt_ok (ss := rd.map (·.1)) last_get (by have := strs_map id (rd.map (·.1)); simpa using this) (by simpa using h64) fun ys hp hmm => ?_
    refine eq_strs (getElem?_push last_get) last_get hns (fun n hn => hns n ((hmm n).mp hn)) ?_
    have gg := (g.trans (Gr.push (T := [C.lst ((rd.map (·.1)).map D.str)]))).trans (Gr.push (T := [C.lst (ys.map D.str)]))
    refine cD (fun h => ?_) (fun h => ?_)
    · refine tup_ok (getElem?_push (getElem?_push hm)) (q1 rd (Rd_iff.mpr ⟨hrd, fun r hr => (hall r hr).1, fun r hr => (hall r hr).2, ?_, h64⟩) _ gg)
      rw [h]
      exact hp
    · refine q2 (fun rs hR => h ?_) _ gg
      obtain ⟨e1, hw⟩ := Rd_iff.mp hR
      rw [hrd] at e1
      cases e1
      exact (pw_eq hp hw.up hmm).symm
  refine ⟨Nat.zero_le _, ?_⟩
  refine cN (fun c => ?_) (fun c => ?_)
  · have c : z ≠ "" := c
    have ep : ptsOf z = Txt.split z " " := if_neg c
    have pl := pb_len z " "
    have sl := spl_len z
    refine ⟨by decide +kernel, by omega, by omega, by omega, ?_⟩
    refine it_ok last_get ?_
    refine dloop_I (fun rest τ A' => ∃ (dn : List Str) (rd : List (Str × Int)) (more : List Str) (a b c d : Option D), rest = more.map D.str ∧ rdAll dn = some rd ∧ (∀ p ∈ dn, gdP p = true) ∧ dn ++ more = ptsOf z ∧ τ = [some (.str z), some (.ref A.length), a, b, c, d, none] ∧ A'[A.length]? = some (.lst (rd.map rowD)) ∧ A'[A.length + 1]? = some (.lst ((Txt.split z " ").map D.str)) ∧ Gr A A') ?_ ?_ ?_ _ _ _ ⟨[], [], ptsOf z, none, none, none, none, by rw [ep], rfl, fun _ h => (by cases h), rfl, rfl, getElem?_push last_get, ?_, Gr.push.trans Gr.push⟩
    · rintro rest τ A' ⟨dn, rd, more, a, b, c, d, _, _, _, _, _, _, h, _⟩
      have el : (A ++ [C.lst []]).length = A.length + 1 := by simp
      rw [el]
      exact h
    · rintro v rest τ A3 ⟨dn, rd, more, a, b, cc, d, e1, hrd, hgd, hdm, rfl, hm, hsp, g⟩ Nx hN
      cases more with
      | nil => cases e1
      | cons y more =>
        cases e1
        have hy : y ∈ ptsOf z := by rw [← hdm]; simp
        have hy' : y ∈ Txt.split z " " := by rw [← ep]; exact hy
        have ly := spl_mem hy'
        obtain ⟨pl1, pl2⟩ := part_len y
        obtain ⟨pa1, pa2⟩ := part_asc (spl_asc hasc hy')
        have ldn := rdAll_len hrd
        have lpt : (dn ++ y :: more).length = (Txt.split z " ").length := by rw [hdm, ep]
        simp at lpt
        have bad : gdP y = false → ∀ A', Gr A A' → R .non A' := fun h A' g => q2 (fun rs hR => by
          obtain ⟨e1, hw⟩ := Rd_iff.mp hR
          rw [rdAll_gd e1 hw.nm y hy] at h
          cases h) A' g
        refine ⟨by decide +kernel, by omega, rfl, ?_⟩
        have good : gdP y = (!decide ((partT y "=").2.1 = "") && (isN (partT y "=").1.cps.toList && isNoT (partT y "=").2.2 6)) := rfl
        have grow : gdP y = true → rdP y = some ((partT y "=").1, nVal (partT y "=").2.2) := fun h => (gd_rd h).2.1
        generalize (partT y "=").1 = nn at *
        generalize (partT y "=").2.1 = sg at *
        generalize (partT y "=").2.2 = hh at *
        have nlen : nn.length = nn.cps.toList.length := by simp [Str.length]
        have hlen' : hh.length = hh.cps.toList.length := by simp [Str.length]
        refine cD (fun e => bad ?_ _ g) (fun e => ?_)
        · have e : sg = "" := e
          rw [good, decide_eq_true e]
          rfl
        have e : ¬ sg = "" := e
        rw [decide_eq_false e, Bool.not_false, Bool.true_and] at good
        refine ⟨by omega, ?_⟩
        refine cD (fun c1 => ?_) (fun c1 => bad ?_ _ g)
        rotate_left
        · have c1 : ¬ (1 : Int) ≤ ((nn.length : Nat) : Int) := c1
          rw [good]
          unfold isN
          rw [decide_eq_false (show ¬ 1 ≤ nn.cps.toList.length by omega)]
          rfl
        have c1 : (1 : Int) ≤ ((nn.length : Nat) : Int) := c1
        refine cN (fun c2 => bad ?_ _ g) (fun c2 => ?_)
        · have c2 : ¬ ((nn.length : Nat) : Int) ≤ 3 := c2
          rw [good]
          unfold isN
          rw [decide_eq_false (show ¬ nn.cps.toList.length ≤ 3 by omega)]
          simp
        have c2 : ((nn.length : Nat) : Int) ≤ 3 := c2
        have en : isN nn.cps.toList = nn.cps.toList.all lt1 := by
          unfold isN
          rw [decide_eq_true (show 1 ≤ nn.cps.toList.length by omega), decide_eq_true (show nn.cps.toList.length ≤ 3 by omega)]
          rfl
        refine ⟨by omega, ?_⟩
        refine cD (fun c3 => ?_) (fun c3 => bad ?_ _ g)
        rotate_left
        · have c3 : ¬ (1 : Int) ≤ ((hh.length : Nat) : Int) := c3
          rw [good]
          unfold isNoT
          rw [decide_eq_false (show ¬ 1 ≤ hh.length by omega)]
          simp
        have c3 : (1 : Int) ≤ ((hh.length : Nat) : Int) := c3
        refine cN (fun c4 => bad ?_ _ g) (fun c4 => ?_)
        · have c4 : ¬ ((hh.length : Nat) : Int) ≤ 6 := c4
          rw [good]
          unfold isNoT
          rw [decide_eq_false (show ¬ hh.length ≤ 6 by omega)]
          simp
        have c4 : ((hh.length : Nat) : Int) ≤ 6 := c4
        obtain ⟨cc0, cs, hcs⟩ : ∃ c cs, hh.cps.toList = c :: cs := by
          cases e : hh.cps.toList with
          | nil => rw [e] at hlen'; simp at hlen'; omega
          | cons c cs => exact ⟨c, cs, rfl⟩
        have hat : atI hh.cps.toList 0 = some cc0 := by rw [hcs]; exact atI_nat (j := 0) rfl
        conv => whnf
        rw [hat]
        refine ⟨by omega, ?_⟩
        have e0 : isNoT hh 6 = (!decide (cc0 = 48) && hh.cps.toList.all dig) := by
          unfold isNoT
          rw [decide_eq_true (show 1 ≤ hh.length by omega), decide_eq_true (show hh.length ≤ 6 by omega), hcs]
          simp [no0]
        refine cI (fun e => bad ?_ _ g) (fun e => ?_)
        · have e : decide ((⟨#[cc0]⟩ : Str) = "0") = true := e
          rw [sg_eq (y := 48) (by decide +kernel)] at e
          rw [good, e0, e]
          simp
        have e : decide ((⟨#[cc0]⟩ : Str) = "0") = false := e
        rw [sg_eq (y := 48) (by decide +kernel)] at e
        rw [e0, e, Bool.not_false, Bool.true_and, en] at good
        refine cloop_fil trivial nlB id _ _ (fun y hy => ⟨[y], rfl, fun Q hQ => ?_, fun Q hQ => hQ⟩) ?_ ?_
        · rw [sgs_x] at hy
          obtain ⟨c, hc, rfl⟩ := List.mem_map.mp hy
          exact hQ
        · rw [sgs_x, List.length_map]
          show 0 + nn.cps.toList.length ≤ sizeLine
          omega
        rw [sgs_x, nl_fil, List.map_id, List.nil_append]
        refine ⟨Nat.zero_le _, ?_⟩
        refine eq_sg_nil (neg := true) (getElem?_push last_get) last_get (fun c hc => pa1 c ((List.mem_filter.mp hc).1)) ?_
        rw [if_pos rfl]
        have g2 := (g.trans (Gr.push (T := [C.lst ((nn.cps.toList.filter fun c => !lt1 c).map sgD)]))).trans (Gr.push (T := [C.lst []]))
        have hm2 := getElem?_push (T := [C.lst []]) (getElem?_push (T := [C.lst ((nn.cps.toList.filter fun c => !lt1 c).map sgD)]) hm)
        have hsp2 := getElem?_push (T := [C.lst []]) (getElem?_push (T := [C.lst ((nn.cps.toList.filter fun c => !lt1 c).map sgD)]) hsp)
        generalize A3 ++ [C.lst ((nn.cps.toList.filter fun c => !lt1 c).map sgD)] ++ [C.lst []] = A5 at *
        refine cN (fun h => bad ?_ _ g2) (fun h => ?_)
        · rw [good]
          have : nn.cps.toList.all lt1 = false := by
            rw [Bool.eq_false_iff]
            intro h'
            refine h ?_
            rw [List.filter_eq_nil_iff]
            intro a ha
            rw [List.all_eq_true.mp h' a ha]
            decide
          rw [this]
          rfl
        have el : nn.cps.toList.all lt1 = true := by
          rw [List.filter_eq_nil_iff] at h
          refine List.all_eq_true.mpr fun a ha => ?_
          have := h a ha
          simpa using this
        rw [el, Bool.true_and] at good
        refine cloop_fil trivial nfB id _ _ (fun y hy => ⟨[y], rfl, fun Q hQ => ?_, fun Q hQ => hQ⟩) ?_ ?_
        · rw [sgs_x] at hy
          obtain ⟨c, hc, rfl⟩ := List.mem_map.mp hy
          exact hQ
        · rw [sgs_x, List.length_map]
          show 0 + hh.cps.toList.length ≤ sizeLine
          omega
        rw [sgs_x, nf_fil, List.map_id, List.nil_append]
        refine ⟨Nat.zero_le _, ?_⟩
        refine eq_sg_nil (neg := true) (getElem?_push last_get) last_get (fun c hc => pa2 c ((List.mem_filter.mp hc).1)) ?_
        rw [if_pos rfl]
        have g3 := (g2.trans (Gr.push (T := [C.lst ((hh.cps.toList.filter fun c => !dig c).map sgD)]))).trans (Gr.push (T := [C.lst []]))
        have hm3 := getElem?_push (T := [C.lst []]) (getElem?_push (T := [C.lst ((hh.cps.toList.filter fun c => !dig c).map sgD)]) hm2)
        have hsp3 := getElem?_push (T := [C.lst []]) (getElem?_push (T := [C.lst ((hh.cps.toList.filter fun c => !dig c).map sgD)]) hsp2)
        generalize A5 ++ [C.lst ((hh.cps.toList.filter fun c => !dig c).map sgD)] ++ [C.lst []] = A6 at *
        refine cN (fun h => bad ?_ _ g3) (fun h => ?_)
        · rw [good]
          rw [Bool.eq_false_iff]
          intro h'
          refine h ?_
          rw [List.filter_eq_nil_iff]
          intro a ha
          rw [List.all_eq_true.mp h' a ha]
          decide
        have ed : hh.cps.toList.all dig = true := by
          rw [List.filter_eq_nil_iff] at h
          refine List.all_eq_true.mpr fun a ha => ?_
          have := h a ha
          simpa using this
        rw [ed] at good
        refine ⟨isL_of hm3, nVal hh, nVal_reads ed (by omega) (by omega), by omega, show 2 ≤ sizeLine by omega, app_ok hm3 (by rw [List.length_map]; omega) ?_⟩
        refine hN _ _ ⟨dn ++ [y], rd ++ [(nn, nVal hh)], more, _, _, _, _, rfl, rdAll_snoc hrd (grow good), fun p hp => ?_, by simpa using hdm, rfl, ?_, ?_, g3.set (Nat.le_refl _)⟩
        · rcases List.mem_append.mp hp with h | h
          · exact hgd p h
          · rw [List.mem_singleton.mp h]
            exact good
        · have := get_set (ys := rd.map rowD ++ [rowD (nn, nVal hh)]) hm3
          rw [List.map_append]
          exact this
        · rw [List.getElem?_set_ne (by omega)]
          exact hsp3
    · rintro τ A' ⟨dn, rd, more, a, b, cc, d, e1, hrd, hgd, hdm, rfl, hm, hsp, g⟩
      cases more with
      | cons y more => cases e1
      | nil =>
        have hdm : dn = ptsOf z := by simpa using hdm
        rw [hdm] at hrd hgd
        have l1 := rdAll_len hrd
        rw [ep] at l1
        exact fin rd A' _ _ _ _ hrd hgd (by omega) hm g
    · have el : (A ++ [C.lst []]).length = A.length + 1 := by simp
      rw [← el]
      exact last_get
  · have c : z = "" := c
    have ep : ptsOf z = [] := if_pos c
    refine ⟨Nat.zero_le _, ?_⟩
    refine it_ok last_get ?_
    exact ⟨last_get, fin [] _ none none none none (by rw [ep]; rfl) (fun p hp => (by rw [ep] at hp; cases hp)) (by decide) (getElem?_push last_get) (Gr.push.trans Gr.push)⟩
end
end My
namespace My
open PySem PySem.Spec PyProof.Rows L2 DP MA
def spA (i : Nat) : Stmt := (defBody s_law).getD i (.Pass ⟨0, 0, 0, 0⟩)
theorem sp_body : defBody s_law = [spA 0, spA 1, spA 2, spA 3, spA 4, spA 5, spA 6, spA 7, spA 8] := rfl
def m_sp5 : DTE := (dLst (dCons (dC .non) (dCons (dC (.str " ")) (dCons (dC (.int 5)) (dCons (dC (.str "a")) (dCons (dC (.str "a=")) (dCons (dC (.str "a=0")) (dCons (dC (.str "a=01")) (dCons (dC (.str "=1")) (dCons (dC (.str "b=1 a=1")) (dCons (dC (.str "a=1 a=1")) (dCons (dC (.str "a=1000000")) (dCons (dTup (dCons (dC (.str "a=1")) dNil)) (dCons (dC (.str "a=+1")) dNil))))))))))))))
theorem t_sp5 : ∃ (q1 q2 q3 q4 q5 q6 q7 q8 q9 q10 q11 q12 q13 q14 q15 q16 q17 : Pos), spA 5 = .Assign [.Name "_law_odd" q1] (.List [.Constant .none 0 q2, .Constant (.str " ") 0 q3, .Constant (.int 5) 0 q4, .Constant (.str "a") 0 q5, .Constant (.str "a=") 0 q6, .Constant (.str "a=0") 0 q7, .Constant (.str "a=01") 0 q8, .Constant (.str "=1") 0 q9, .Constant (.str "b=1 a=1") 0 q10, .Constant (.str "a=1 a=1") 0 q11, .Constant (.str "a=1000000") 0 q12, .Tuple [.Constant (.str "a=1") 0 q13] 0 q14, .Constant (.str "a=+1") 0 q15] q16) q17 :=
  ⟨_, _, _, _, _, _, _, _, _, _, _, _, _, _, _, _, _, rfl⟩
theorem sp5 {X : Cx} {N : En} (nd : X.N.Nodup) (hi : X.N[8]? = some ("_law_odd" : Str)) (hx : Loc X.env.scope "_law_odd") (hf : X.fn ("_law_odd" : Str) = true ∨ X.env.scope.names.lookup ("_law_odd" : Str) = some .local) : PS X (spA 5) (upS X.mg N (sSet 8 m_sp5)) := by
  obtain ⟨q1, q2, q3, q4, q5, q6, q7, q8, q9, q10, q11, q12, q13, q14, q15, q16, q17, hb⟩ := t_sp5
  rw [hb]
  unfold m_sp5
  with_reducible exact ds_set (i := 8) nd hi hx (de_lst (da_cons de_non (da_cons de_str (da_cons de_int (da_cons de_str (da_cons de_str (da_cons de_str (da_cons de_str (da_cons de_str (da_cons de_str (da_cons de_str (da_cons de_str (da_cons (de_tup (da_cons de_str da_nil sc_con)) (da_cons de_str da_nil sc_con) sc_tup) sc_con) sc_con) sc_con) sc_con) sc_con) sc_con) sc_con) sc_con) sc_con) sc_con) sc_con)) sw_lst hf
end My
namespace My
open PySem PySem.Spec PyProof.Rows L2 DP MA
def m_sp4 (RE : DX) : DTS := sFor (iR1 (dCons (dVar 2) dNil)) (gN 5) (sSeq (sSet 6 (dCall 3 SDraw RE (dCons (dVar 0) (dCons (dVar 1) (dCons (dOp addD (dCb lenD (dCons (dVar 4) dNil)) (dC (.int 1))) dNil)))))
  (sSeq (sSet 7 (dCall 3 SPick RE (dCons (dVar 0) (dCons (dVar 1) (dCons (dLst (dCons (dC (.str "")) (dCons (dC (.str "a")) (dCons (dC (.str "z")) (dCons (dC (.str "1")) (dCons (dC (.str "0")) (dCons (dC (.str "=")) (dCons (dC (.str " ")) (dCons (dC (.str "-")) (dCons (dC (.str "99999")) (dCons (dC (.str "A")) (dCons (dC (.str "b=3")) (dCons (dC (.str "  ")) dNil))))))))))))) dNil)))))
    (sSet 4 (dOp addD (dOp addD (dSls (dVar 4) oN (oS (dVar 6))) (dVar 7)) (dSls (dVar 4) (oS (dOp addD (dVar 6) (dCall 3 SDraw RE (dCons (dVar 0) (dCons (dVar 1) (dCons (dC (.int 2)) dNil)))))) oN)))))
section
variable {P : Program} {w : World} {K : PySem.W.Frag} {mg : Str → Option Value} {base : Heap}
theorem sp4 (b_len : mg "len" = none) (b_range : mg "range" = none) (F__law_draw : FnX P w K mg base 3 "_law_draw" p__law_draw (spOf mg 3 SDraw)) (F__law_pick : FnX P w K mg base 4 "_law_pick" p__law_pick (spOf mg 3 SPick)) {N : En} {RE : DX} {f : Addr} {cdv : Value} {B : Around} {outer : List Env} {s : Shared} {H : Hp} {E : XK} (hr : Room 24 (cxOf (CX1 P w) P w K mg base ["_law_script", "_law_town", "_law_often", "_law_names_here", "_law_text", "_law_k", "_law_at", "_law_sign_in", "_law_odd", "_law_due_here"] "law" (defScope s_law) f cdv B outer s H E).A) (hx : Passes (CX1 P w) (cxOf (CX1 P w) P w K mg base ["_law_script", "_law_town", "_law_often", "_law_names_here", "_law_text", "_law_k", "_law_at", "_law_sign_in", "_law_odd", "_law_due_here"] "law" (defScope s_law) f cdv B outer s H E) (EL mg N RE)) : PS (cxOf (CX1 P w) P w K mg base ["_law_script", "_law_town", "_law_often", "_law_names_here", "_law_text", "_law_k", "_law_at", "_law_sign_in", "_law_odd", "_law_due_here"] "law" (defScope s_law) f cdv B outer s H E) (spA 4) (upS mg N (m_sp4 RE)) := by
  have hu := hr.units
  have nd := sc_law.nd
  exact (ds_for ownX rfl (di_range1 b_range (da_cons (vr 2) da_nil)) (dg_name (i := 5) nd rfl (by first | exact Or.inl rfl | exact Or.inr rfl)) (@dss_cons _ _ _ _ _ _ (ds_set (i := 6) nd rfl (by first | exact Or.inl rfl | exact Or.inr rfl) (de_call F__law_draw (hr.mono (by omega)) hx (da_cons (vr 0) (da_cons (vr 1) (da_cons (de_add (de_cb c_len d_len b_len PySem.boot_len (da_cons (vr 4) da_nil)) de_int) da_nil))))) (@dss_cons _ _ _ _ _ _ (ds_set (i := 7) nd rfl (by first | exact Or.inl rfl | exact Or.inr rfl) (de_call F__law_pick (hr.mono (by omega)) hx (da_cons (vr 0) (da_cons (vr 1) (da_cons (de_lst (@da_cons _ _ _ _ _ _ de_str (@da_cons _ _ _ _ _ _ de_str (@da_cons _ _ _ _ _ _ de_str (@da_cons _ _ _ _ _ _ de_str (@da_cons _ _ _ _ _ _ de_str (@da_cons _ _ _ _ _ _ de_str (@da_cons _ _ _ _ _ _ de_str (@da_cons _ _ _ _ _ _ de_str (@da_cons _ _ _ _ _ _ de_str (@da_cons _ _ _ _ _ _ de_str (@da_cons _ _ _ _ _ _ de_str (@da_cons _ _ _ _ _ _ de_str da_nil sc_con) sc_con) sc_con) sc_con) sc_con) sc_con) sc_con) sc_con) sc_con) sc_con) sc_con) sc_con)) da_nil))))) (@dss_one _ _ _ _ (ds_set (i := 4) nd rfl (by first | exact Or.inl rfl | exact Or.inr rfl) (de_add (de_add (de_sls (vr 4) do_none (do_some (vr 6))) (vr 7)) (de_sls (vr 4) (do_some (de_add (vr 6) (de_call F__law_draw (hr.mono (by omega)) hx (da_cons (vr 0) (da_cons (vr 1) (da_cons de_int da_nil)))))) do_none)))))))
end
end My
namespace DP
open PySem PySem.Spec PyProof.Rows L2 MA
theorem cloop_J {k : Option Nat} {fr : DSt} {tt : DTT} {te : DTE} {chk : Ar → Prop} {R : List D → Ar → Prop} (J : List D → List D → Ar → Prop) (hc : ∀ rest ys A, J rest ys A → chk A) (hl : ∀ rest ys A, J rest ys A → ys.length < sizeLine)
    (hs : ∀ x rest ys A, J (x :: rest) ys A → ∃ vs, unp k x = some vs ∧ ∀ Qt : Bool → Ar → Prop, (∀ A3, J rest ys A3 → Qt false A3) → (∀ A3, (∀ Q : DK, (∀ y A4, J rest (ys ++ [y]) A4 → Q y A4) → te (vs.map some ++ fr) A3 Q) → Qt true A3) → tt (vs.map some ++ fr) A Qt) (he : ∀ ys A, J [] ys A → R ys A) : ∀ items ys A, J items ys A → cLoopD chk k fr tt te R items ys A
  | [], ys, A, j => ⟨hc _ _ _ j, he _ _ j⟩
  | x :: rest, ys, A, j => by
    obtain ⟨vs, hu, q⟩ := hs _ _ _ _ j
    refine ⟨hc _ _ _ j, ?_⟩
    rw [hu]
    exact q _ (fun A3 j3 => cloop_J J hc hl hs he rest ys A3 j3) fun A3 h => h _ fun y A4 j4 => ⟨hl _ _ _ j, cloop_J J hc hl hs he rest _ A4 j4⟩
theorem sl_lo (l : Option Int) (len : Nat) {j : Int} (h : (len : Int) ≤ j) : Builtin.Str.strSliceIndices (some j) l 1 len = Builtin.Str.strSliceIndices (some (len : Int)) l 1 len := by
  have a : ¬ ((len : Int) < 0) := by omega
  have b : ¬ (j < 0) := by omega
  have c : min j (len : Int) = (len : Int) := by omega
  simp [Builtin.Str.strSliceIndices, a, b, c]
theorem cut_len (tx : Str) {i j : Int} (i0 : 0 ≤ i) (i1 : i ≤ tx.length) (j0 : 0 ≤ j) : (Txt.slice tx none (some i)).length + (Txt.slice tx (some (i + j)) none).length ≤ tx.length := by
  obtain ⟨cs, rfl⟩ : ∃ cs, tx = S cs := ⟨_, (S_self tx).symm⟩
  rw [S_len] at i1 ⊢
  obtain ⟨a, rfl⟩ : ∃ a : Nat, i = a := ⟨i.toNat, by omega⟩
  obtain ⟨b, rfl⟩ : ∃ b : Nat, j = b := ⟨j.toNat, by omega⟩
  rw [sl_to cs (by omega), S_len, List.length_take]
  by_cases h : a + b ≤ cs.length
  · rw [show ((a : Int) + (b : Int)) = ((a + b : Nat) : Int) by omega, sl_from cs h, S_len, List.length_drop]
    omega
  · have e : Txt.slice (S cs) (some ((a : Int) + (b : Int))) none = Txt.slice (S cs) (some (cs.length : Int)) none := by
      unfold Txt.slice
      rw [S_len, sl_lo _ _ (show (cs.length : Int) ≤ (a : Int) + (b : Int) by omega)]
    rw [e, sl_from cs (Nat.le_refl _), S_len, List.length_drop]
    omega
theorem join_asc : ∀ (ps : List Str), (∀ p ∈ ps, Asc p.cps.toList) → Asc (Str.join " " ps).cps.toList
  | [], _ => fun c hc => absurd hc (by show c ∉ ([] : List Nat); simp)
  | [p], h => h p (by simp)
  | p :: q :: ps, h => by
    have l : (Str.join " " (p :: q :: ps)).cps.toList = (p ++ " " ++ Str.join " " (q :: ps)).cps.toList := rfl
    rw [l]
    exact app_asc (app_asc (h p (by simp)) (by unfold Asc; decide +kernel)) (join_asc (q :: ps) fun x hx => h x (List.mem_cons_of_mem _ hx))
theorem wtx_asc {rs : List (Str × Int)} (h : ∀ r ∈ rs, Rw r) : Asc (wtx rs).cps.toList := by
  refine join_asc _ fun p hp => ?_
  obtain ⟨r, hr, rfl⟩ := List.mem_map.mp hp
  intro c hc
  rw [prt_cps] at hc
  rcases List.mem_append.mp hc with h1 | h1
  · have := (h r hr).1.az c h1
    omega
  rcases List.mem_cons.mp h1 with h2 | h2
  · omega
  · have := itS_dig (h r hr).2.1 (h r hr).2.2 c h2
    omega
theorem sg30 {x : D} (h : x ∈ [D.str "", D.str "a", D.str "z", D.str "1", D.str "0", D.str "=", D.str " ", D.str "-", D.str "99999", D.str "A", D.str "b=3", D.str "  "]) : ∃ z : Str, x = .str z ∧ z.length ≤ 5 ∧ Asc z.cps.toList := by
  simp only [List.mem_cons, List.not_mem_nil, or_false] at h
  rcases h with rfl | rfl | rfl | rfl | rfl | rfl | rfl | rfl | rfl | rfl | rfl | rfl
  all_goals exact ⟨_, rfl, by decide +kernel, by unfold Asc; decide +kernel⟩
theorem no_rd {z : Str} (h : rdAll (ptsOf z) = none) : ∀ rs, ¬ Rd z rs := fun rs hR => by
  rw [(Rd_iff.mp hR).1] at h
  cases h
theorem no_rd2 {z : Str} {rs : List (Str × Int)} (h : rdAll (ptsOf z) = some rs) (hn : ¬ WOk rs) : ∀ rs, ¬ Rd z rs := fun rs' hR => by
  obtain ⟨e, hw⟩ := Rd_iff.mp hR
  rw [h] at e
  cases e
  exact hn hw
theorem odd30 {A : Ar} {x : D} (h : x ∈ [D.non, D.str " ", D.int 5, D.str "a", D.str "a=", D.str "a=0", D.str "a=01", D.str "=1", D.str "b=1 a=1", D.str "a=1 a=1", D.str "a=1000000", D.tup [D.str "a=1"], D.str "a=+1"]) : okA A x = true ∧ ((∃ z : Str, x = .str z ∧ z.length ≤ 61 ∧ ∀ rs, ¬ Rd z rs) ∨ ∀ z, x ≠ .str z) := by
  simp only [List.mem_cons, List.not_mem_nil, or_false] at h
  rcases h with rfl | rfl | rfl | rfl | rfl | rfl | rfl | rfl | rfl | rfl | rfl | rfl | rfl
  · exact ⟨rfl, .inr fun z e => by cases e⟩
  · exact ⟨by unfold okA; decide +kernel, .inl ⟨_, rfl, by decide +kernel, no_rd (by decide +kernel)⟩⟩
  · exact ⟨rfl, .inr fun z e => by cases e⟩
  · exact ⟨by unfold okA; decide +kernel, .inl ⟨_, rfl, by decide +kernel, no_rd (by decide +kernel)⟩⟩
  · exact ⟨by unfold okA; decide +kernel, .inl ⟨_, rfl, by decide +kernel, no_rd (by decide +kernel)⟩⟩
  · exact ⟨by unfold okA; decide +kernel, .inl ⟨_, rfl, by decide +kernel, no_rd (by decide +kernel)⟩⟩
  · exact ⟨by unfold okA; decide +kernel, .inl ⟨_, rfl, by decide +kernel, no_rd (by decide +kernel)⟩⟩
  · refine ⟨by unfold okA; decide +kernel, .inl ⟨_, rfl, by decide +kernel, no_rd2 (rs := [("", 1)]) (by decide +kernel) fun hw => ?_⟩⟩
    exact absurd (hw.nm _ (List.mem_cons_self ..)).lo (by decide +kernel)
  · refine ⟨by unfold okA; decide +kernel, .inl ⟨_, rfl, by decide +kernel, no_rd2 (rs := [("b", 1), ("a", 1)]) (by decide +kernel) fun hw => ?_⟩⟩
    have := (List.pairwise_cons.mp hw.up).1 "a" (by simp)
    exact absurd this (by unfold strLt; decide +kernel)
  · refine ⟨by unfold okA; decide +kernel, .inl ⟨_, rfl, by decide +kernel, no_rd2 (rs := [("a", 1), ("a", 1)]) (by decide +kernel) fun hw => ?_⟩⟩
    have := (List.pairwise_cons.mp hw.up).1 "a" (by simp)
    exact absurd this (by unfold strLt; decide +kernel)
  · exact ⟨by unfold okA; decide +kernel, .inl ⟨_, rfl, by decide +kernel, no_rd (by decide +kernel)⟩⟩
  · exact ⟨by simp [okA, okAs]; decide +kernel, .inr fun z e => by cases e⟩
  · exact ⟨by unfold okA; decide +kernel, .inl ⟨_, rfl, by decide +kernel, no_rd (by decide +kernel)⟩⟩
def NL6 : List Str := ["a", "ab", "b", "kk", "x", "zzz"]
theorem nl6_up : NL6.Pairwise strLt := by unfold NL6 strLt; decide +kernel
theorem nl6_nm : ∀ n ∈ NL6, Nm n := fun n h => by
  unfold NL6 at h
  simp only [List.mem_cons, List.not_mem_nil, or_false] at h
  rcases h with rfl | rfl | rfl | rfl | rfl | rfl
  all_goals exact ⟨by decide +kernel, by decide +kernel, by decide +kernel⟩
end DP
namespace My
open PySem PySem.Spec PyProof.Rows L2 DP MA
section
variable {P : Program} {w : World} {K : PySem.W.Frag} {mg : Str → Option Value} {base : Heap}
theorem f_law {fo : Addr} {fd : FuncData} (T : Fun K "law" "law" s_law fo fd) (b_len : mg "len" = none) (b_range : mg "range" = none) (F__law_draw : FnX P w K mg base 3 "_law_draw" p__law_draw (spOf mg 3 SDraw)) (F__law_pick : FnX P w K mg base 4 "_law_pick" p__law_pick (spOf mg 3 SPick)) (F__law_weights : FnX P w K mg base 5 "_law_weights" p__law_weights (spOf mg 3 SWt12)) (F_weights_text : FnX P w K mg base 5 "weights_text" p_weights_text (spOf mg 1 SWtx)) (F__law_due : FnX P w K mg base 1 "_law_due" p__law_due (spOf mg 1 SDue)) (F__law_ask : FnX P w K mg base 24 "_law_ask" p__law_ask (spOf mg 1 SAk30)) : FnOk P w K mg base (CX1 P w) 26 fo fd p_law (spOf mg 1 SLaw) := by
  refine fnL T sc_law rfl (by decide) fun N RE f cdv B outer s H E hr hR hx ds A R h hl => ?_
  have hu := hr.units
  have nd := sc_law.nd
  have S0 := (show PS (cxOf (CX1 P w) P w K mg base ["_law_script", "_law_town", "_law_often", "_law_names_here", "_law_text", "_law_k", "_law_at", "_law_sign_in", "_law_odd", "_law_due_here"] "law" (defScope s_law) f cdv B outer s H E) (spA 0) (upS mg N _) from (ds_set (i := 1) nd rfl (by first | exact Or.inl rfl | exact Or.inr rfl) (de_lst da_nil)))
  have S1 := (show PS (cxOf (CX1 P w) P w K mg base ["_law_script", "_law_town", "_law_often", "_law_names_here", "_law_text", "_law_k", "_law_at", "_law_sign_in", "_law_odd", "_law_due_here"] "law" (defScope s_law) f cdv B outer s H E) (spA 1) (upS mg N _) from (ds_set (i := 2) nd rfl (by first | exact Or.inl rfl | exact Or.inr rfl) (de_call F__law_draw (hr.mono (by omega)) hx (da_cons (vr 0) (da_cons (vr 1) (da_cons de_int da_nil))))))
  have S2 := (show PS (cxOf (CX1 P w) P w K mg base ["_law_script", "_law_town", "_law_often", "_law_names_here", "_law_text", "_law_k", "_law_at", "_law_sign_in", "_law_odd", "_law_due_here"] "law" (defScope s_law) f cdv B outer s H E) (spA 2) (upS mg N _) from (ds_compI none (own := ["_law_name"]) (frees := ["_law_script", "_law_town"]) (ix := [0, 1]) (i := 3) nd rfl (by first | exact Or.inl rfl | exact Or.inr rfl) rfl (di_seq (de_lst (@da_cons _ _ _ _ _ _ de_str (@da_cons _ _ _ _ _ _ de_str (@da_cons _ _ _ _ _ _ de_str (@da_cons _ _ _ _ _ _ de_str (@da_cons _ _ _ _ _ _ de_str (@da_cons _ _ _ _ _ _ de_str da_nil sc_con) sc_con) sc_con) sc_con) sc_con) sc_con))) (fun c => (pg_name (i := 0) (show (["_law_name", "_law_script", "_law_town"] : List Str).Nodup by decide +kernel) rfl (by first | exact Or.inl rfl | exact Or.inr rfl))) (fun c => (t_eq hu (de_call F__law_draw (hr.mono (by omega)) pass0D (da_cons (vr 1) (da_cons (vr 2) (da_cons de_int da_nil)))) de_int)) (fun c => (vr 0))))
  have S3 := (show PS (cxOf (CX1 P w) P w K mg base ["_law_script", "_law_town", "_law_often", "_law_names_here", "_law_text", "_law_k", "_law_at", "_law_sign_in", "_law_odd", "_law_due_here"] "law" (defScope s_law) f cdv B outer s H E) (spA 3) (upS mg N _) from (ds_set (i := 4) nd rfl (by first | exact Or.inl rfl | exact Or.inr rfl) (de_call F_weights_text (hr.mono (by omega)) hx (da_cons (de_call F__law_weights (hr.mono (by omega)) hx (da_cons (vr 0) (da_cons (vr 1) (da_cons (vr 3) da_nil)))) da_nil))))
  have S4 := sp4 (N := N) (RE := RE) (f := f) (cdv := cdv) (B := B) (outer := outer) (s := s) (H := H) (E := E) b_len b_range F__law_draw F__law_pick (hr.mono (by omega)) hx
  have S5 := @sp5 (cxOf (CX1 P w) P w K mg base ["_law_script", "_law_town", "_law_often", "_law_names_here", "_law_text", "_law_k", "_law_at", "_law_sign_in", "_law_odd", "_law_due_here"] "law" (defScope s_law) f cdv B outer s H E) N nd rfl (by first | exact Or.inl rfl | exact Or.inr rfl) (by first | exact .inl rfl | exact .inr rfl)
  have S6 := (show PS (cxOf (CX1 P w) P w K mg base ["_law_script", "_law_town", "_law_often", "_law_names_here", "_law_text", "_law_k", "_law_at", "_law_sign_in", "_law_odd", "_law_due_here"] "law" (defScope s_law) f cdv B outer s H E) (spA 6) (upS mg N _) from (ds_set (i := 8) nd rfl (by first | exact Or.inl rfl | exact Or.inr rfl) (de_call F__law_pick (hr.mono (by omega)) hx (da_cons (vr 0) (da_cons (vr 1) (da_cons (vr 8) da_nil))))))
  have S7 := (show PS (cxOf (CX1 P w) P w K mg base ["_law_script", "_law_town", "_law_often", "_law_names_here", "_law_text", "_law_k", "_law_at", "_law_sign_in", "_law_odd", "_law_due_here"] "law" (defScope s_law) f cdv B outer s H E) (spA 7) (upS mg N _) from (ds_set (i := 9) nd rfl (by first | exact Or.inl rfl | exact Or.inr rfl) (de_call F__law_due (hr.mono (by omega)) hx (da_cons (vr 4) da_nil))))
  have S8 := (show PS (cxOf (CX1 P w) P w K mg base ["_law_script", "_law_town", "_law_often", "_law_names_here", "_law_text", "_law_k", "_law_at", "_law_sign_in", "_law_odd", "_law_due_here"] "law" (defScope s_law) f cdv B outer s H E) (spA 8) (upS mg N _) from (ds_ret (de_and (e_eq hu (de_call F__law_ask (hr.mono (by omega)) hx (da_cons (vr 8) da_nil)) (de_tup (da_cons de_str (da_cons de_int da_nil)))) (de_one (e_eq hu (de_call F__law_ask (hr.mono (by omega)) hx (da_cons (vr 4) da_nil)) (de_ite (t_isnt (vr 9) de_non) (vr 9) (de_tup (da_cons de_str (da_cons de_int da_nil)))))))))
  obtain ⟨st5, hst⟩ : ∃ st, st = spA 5 := ⟨_, rfl⟩
  obtain ⟨st4, hst4⟩ : ∃ st, st = spA 4 := ⟨_, rfl⟩
  rw [← hst] at S5
  rw [← hst4] at S4
  rw [sp_body, ← hst, ← hst4]
  refine ⟨_, (dss_cons S0 (dss_cons S1 (dss_cons S2 (dss_cons S3 (dss_cons S4 (dss_cons S5 (dss_cons S6 (dss_cons S7 (dss_one S8))))))))), ?_⟩
  clear S0 S1 S2 S3 S4 S5 S6 S7 S8
  obtain ⟨ns, rfl, q⟩ := h
  have hz : (3000 : Nat) ≤ sizeLine := by decide
  refine ⟨Nat.zero_le _, rfl, ns, _, 3, 0, rfl, ⟨[], last_get, Nat.le_refl _⟩, by decide, by decide, fun often A1 o0 o3 b1 t1 => ?_⟩
  refine ⟨show 6 ≤ sizeLine by omega, ?_⟩
  have tA := t1
  obtain ⟨xs1, hx1, _⟩ := id tA
  have lt1 := lt_of_get hx1
  refine it_ok last_get ?_
  refine cloop_J (fun rest ys A' => ∃ (nms more : List Str), rest = more.map D.str ∧ ys = nms.map D.str ∧ (nms ++ more).Sublist NL6 ∧ A'[A1.length]? = some (.lst (NL6.map D.str)) ∧ Tw A.length (10 - more.length) A') ?_ ?_ ?_ ?_ _ _ _ ⟨[], NL6, rfl, rfl, List.Sublist.refl _, last_get, (t1.gr Gr.push).mono (by decide)⟩
  · rintro rest ys A' ⟨nms, more, _, _, _, h, _⟩
    exact h
  · rintro rest ys A' ⟨nms, more, _, rfl, hs, _, _⟩
    have := hs.length_le
    simp [NL6] at this ⊢
    omega
  · rintro x rest ys A' ⟨nms, more, e1, rfl, hs, hL, ht⟩
    cases more with
    | nil => cases e1
    | cons y more =>
      cases e1
      have l6 := hs.length_le
      simp [NL6] at l6
      refine ⟨[.str y], rfl, fun Qt h0 h1 => ?_⟩
      refine ⟨rfl, ns, A.length, 2, 10 - (y :: more).length, rfl, ht, by omega, by decide, fun i A2 i0 i1 b2 t2 => ?_⟩
      have hL2 := b2 _ _ (show A1.length ≠ A.length by omega) hL
      have t3 : Tw A.length (10 - more.length) A2 := t2.mono (by rw [List.length_cons]; omega)
      show Qt (decide (i = 0)) A2
      by_cases c : i = 0
      · rw [decide_eq_true c]
        exact h1 A2 fun Q hQ => hQ _ _ ⟨nms ++ [y], more, rfl, by simp, by simpa using hs, hL2, t3⟩
      · rw [decide_eq_false c]
        exact h0 A2 ⟨nms, more, rfl, rfl, ((List.sublist_cons_self y more).append_left nms).trans hs, hL2, t3⟩
  · rintro ys A' ⟨nms, more, e1, rfl, hs, hL, ht⟩
    cases more with
    | cons y more => cases e1
    | nil =>
      rw [List.append_nil] at hs
      have l6 := hs.length_le
      simp [NL6] at l6
      have lA := lt_of_get hL
      refine ⟨rfl, ns, A.length, A'.length, nms, 10, rfl, by omega, last_get, nl6_up.sublist hs, fun n hn => nl6_nm n (hs.subset hn), by omega, (ht.gr Gr.push).mono (by simp), by decide, fun rs A2 wok erm r12 r2 => ?_⟩
      have lrs : rs.length ≤ 6 := by
        have := congrArg List.length erm
        simp at this
        omega
      refine ⟨rfl, _, rfl, okA_encW wok.nm, short_encW wok, .inr ⟨rs, rfl, wok, r12, fun A3 g3 => ?_⟩⟩
      have lw := wtx_len (rw_of wok r12)
      have t3 : Tw A.length 200 A3 := (r2.tw.gr g3).mono (by decide)
      have hn2 : (rng 0 often.toNat).length ≤ 2 := by unfold rng; simp; omega
      have fin : ∀ (tx : Str) (A4 : Ar) (x y z : Option D), tx.length ≤ 61 → Asc tx.cps.toList → Tw A.length 300 A4 → sSeq (sSet 8 m_sp5) (sSeq (sSet 8 (dCall 3 SPick RE (dCons (dVar 0) (dCons (dVar 1) (dCons (dVar 8) dNil))))) (sSeq (sSet 9 (dCall 1 SDue RE (dCons (dVar 4) dNil))) (sRet (dAndV (dOp eqD (dCall 1 SAk30 RE (dCons (dVar 8) dNil)) (dTup (dCons (dC (.str "refused")) (dCons (dC (.int 8)) dNil)))) (dOp eqD (dCall 1 SAk30 RE (dCons (dVar 4) dNil)) (dIte (dTest (dOp notND (dVar 9) (dC .non))) (dVar 9) (dTup (dCons (dC (.str "refused")) (dCons (dC (.int 8)) dNil))))))))) { nx := fun _ A' => R .non A', rt := R } [some (.fl ns), some (.ref A.length), some (.int often), some (.ref A'.length), some (.str tx), x, y, z, none, none] A4 := fun tx A4 x y z hl ha ht => by
        obtain ⟨xs2, hx2, _⟩ := id ht
        have lt2 := lt_of_get hx2
        have s2 : 2 ≤ sizeLine := by omega
        refine ⟨show 1 ≤ sizeLine by omega, show 13 ≤ sizeLine by omega, ?_⟩
        refine ⟨rfl, ns, A.length, _, _, 300, rfl, by omega, last_get, by simp, ht.gr Gr.push, by decide, fun o A5 hod b5 t5 => ?_⟩
        obtain ⟨k1, k2⟩ := odd30 (A := A5) hod
        have first : ∀ (A6 : Ar) (Q : DK), Gr A5 A6 → (∀ A7, Q (.bl true) A7) → dOp eqD (dCall 1 SAk30 RE (dCons (dC o) dNil)) (dTup (dCons (dC (.str "refused")) (dCons (dC (.int 8)) dNil))) [] A6 Q := fun A6 Q g6 hQ => by
          refine ⟨rfl, o, rfl, okA_gr g6 _ k1, fun hno A7 g7 => ⟨s2, q_rfd (neg := false) (hQ _)⟩, fun zz hzz => ?_⟩
          rcases k2 with ⟨z0, e0, l0, n0⟩ | hno
          · subst e0
            cases hzz
            exact ⟨l0, fun rs h => absurd h (n0 rs), fun _ A7 g7 => ⟨s2, q_rfd (neg := false) (hQ _)⟩⟩
          · exact absurd hzz (hno zz)
        refine ⟨rfl, tx, rfl, hl, ha, fun rs hR A6 g6 => ?_, fun hno A6 g6 => ?_⟩
        · have nmr : ∀ r ∈ rs, Nm r.1 := (Rd_iff.mp hR).2.nm
          refine first A6 _ g6 fun A7 => ?_
          refine ⟨rfl, .str tx, rfl, decide_eq_true (by omega), fun hno => absurd rfl (hno tx), fun zz hzz => ?_⟩
          cases hzz
          refine ⟨hl, fun rs' hR' A8 g8 => ?_, fun hno => absurd hR (hno rs)⟩
          have e1 := (Rd_iff.mp hR).1
          rw [(Rd_iff.mp hR').1] at e1
          cases e1
          exact eq_encW nmr (q _)
        · refine first A6 _ g6 fun A7 => ?_
          refine ⟨rfl, .str tx, rfl, decide_eq_true (by omega), fun hno => absurd rfl (hno tx), fun zz hzz => ?_⟩
          cases hzz
          exact ⟨hl, fun rs' hR' => absurd hR' (hno rs'), fun _ A8 g8 => ⟨s2, q_rfd (neg := false) (q _)⟩⟩
      unfold m_sp4
      refine ⟨by omega, by omega, ?_⟩
      refine dloop_I (fun rest τ A4 => ∃ (tx : Str) (x y z : Option D), rest.length ≤ 2 ∧ tx.length + 5 * rest.length ≤ 52 ∧ Asc tx.cps.toList ∧ τ = [some (.fl ns), some (.ref A.length), some (.int often), some (.ref A'.length), some (.str tx), x, y, z, none, none] ∧ Tw A.length (300 - 3 * rest.length) A4) ?_ ?_ ?_ _ _ _ ⟨wtx rs, none, none, none, hn2, by omega, wtx_asc (rw_of wok r12), rfl, t3.mono (by omega)⟩
      · intro _ _ _ _
        trivial
      · rintro v rest τ A4 ⟨tx, x, y, z, h2, hb, ha, rfl, ht⟩ Nx hN
        rw [List.length_cons] at h2 hb ht
        refine ⟨show tx.length ≤ sizeLine by omega, rfl, ns, A.length, _, _, rfl, ht, by omega, by omega, fun i B1 i0 i1 b1 u1 => ?_⟩
        obtain ⟨xs2, hx2, _⟩ := id u1
        have lt2 := lt_of_get hx2
        refine ⟨show 12 ≤ sizeLine by omega, rfl, ns, A.length, _, _, _, rfl, by omega, last_get, by simp, u1.gr Gr.push, by omega, fun sg B2 hsg b2 u2 => ?_⟩
        obtain ⟨zz, rfl, lz, az⟩ := sg30 hsg
        have l1 := Txt.slice_le tx none (some i)
        refine ⟨show tx.length ≤ sizeLine by omega, by omega, rfl, ns, A.length, 2, _, rfl, u2, by omega, by decide, fun j B3 j0 j1 b3 u3 => ?_⟩
        have cl := cut_len tx i0 (by omega) j0
        have la := len_app (Txt.slice tx none (some i)) zz
        refine ⟨show tx.length ≤ sizeLine by omega, by rw [la]; omega, hN _ _ ⟨_, _, _, _, by omega, ?_, ?_, rfl, u3.mono (by omega)⟩⟩
        · rw [len_app, la]
          omega
        · exact app_asc (app_asc (sl_asc ha _ _) az) (sl_asc ha _ _)
      · rintro τ A4 ⟨tx, x, y, z, h2, hb, ha, rfl, ht⟩
        exact fin tx A4 x y z (by omega) ha ht
end
end My
namespace L2
open PySem PySem.Spec PyProof.Rows
theorem topD_go {C : Prop} {K : PySem.W.Frag} {h : Heap} {mg : Str → Option Value} {x : Str} {st : Stmt} {ps : List Str} {f : Addr} {oc : Value} {od an : Option Addr} {osl : Array (Option Value)} {kV doc pm cdv ct : Value} (X : K.In h) (G : h.Ns mainGlobals mg)
    (a : PySem.W.nsIn K mainGlobals x = some (some (.ref f))) (l : K.lookup f = some ⟨oc, od, .func (PySem.W.fnOf x x (defArgs st) (defBody st) (defScope st) .none kV doc pm an cdv ct), osl⟩) (c : PySem.W.codeIn K cdv x = true) (k : PySem.W.keepIn K (.ref f) = true)
    (hb : ∀ (kV doc pm : Value) (an : Option Addr) (cdv ct : Value) (us : List Value), us.length = ps.length → bindArgs (PySem.W.fnOf x x (defArgs st) (defBody st) (defScope st) .none kV doc pm an cdv ct) ⟨us, []⟩ = pure (ps.zip us)) (go : TopD K mg x st ps → C) : C :=
  go ⟨f, _, fun_mk l c k, (fun_mk l c k).binds hb, PySem.W.mg_of X G a⟩
theorem exc_go {C : Prop} {K : PySem.W.Frag} {h : Heap} {mg : Str → Option Value} {x : Str} {e : Addr} (X : K.In h) (G : h.Ns mainGlobals mg) (a : PySem.W.nsIn K mainGlobals x = some (some (.ref e))) (go : mg x = some (.ref e) → C) : C := go (PySem.W.mg_of X G a)
theorem cls_some {K : PySem.W.Frag} {C : Addr} {bmB : List Value} {newId : String} (q : PySem.W.excIn K C bmB newId = true) : (PySem.W.clsIn K C).isSome = true := by
  unfold PySem.W.excIn at q
  split at q
  · rename_i ho
    unfold PySem.W.clsIn
    rw [ho]
    rfl
  · cases q
theorem exk_mk {K : PySem.W.Frag} {e : Addr} (h1 : PySem.W.findIn K (.ref e) "__getattribute__" = some (some (.builtin "BaseException.__getattribute__"))) (h2 : PySem.W.findIn K (.ref e) "__getattr__" = some none)
    (h3 : PySem.W.findIn K (.ref e) "__class__" = some (some (.builtin "object.__class__"))) (h4 : PySem.W.specialIn K (.builtin "object.__class__") "__get__" = some (some (.builtin "getset_descriptor.__get__"))) (h5 : PySem.W.takesIn K (.builtin "object.__class__") = some true)
    (h6 : PySem.W.mroIn K e (.type "object") = some true) (h7 : PySem.W.mroIn K e (.type "BaseException") = some true) (x : PySem.W.excIn K e vErr "ValueError.__new__" = true) : ExcK K e := ⟨h1, h2, h3, h4, h5, h6, h7, cls_some x⟩
end L2
namespace My
open PySem PySem.Spec PyProof.Rows L2 DP MA
theorem all {P : Program} {w : World} {K : PySem.W.Frag} {mg : Str → Option Value} {base : Heap} {f : Addr} {fd : FuncData} {e_HangError e_NoMobile e_NoHall e_NoWeights e_NoWay e_NoNumber e_Never e_TooLong e_TooDeep e_NoText e_Nothing : Addr} (T_is_number : TopD K mg "is_number" s_is_number p_is_number) (T_is_name : TopD K mg "is_name" s_is_name p_is_name) (T_is_named_number : TopD K mg "is_named_number" s_is_named_number p_is_named_number) (T_is_weights : TopD K mg "is_weights" s_is_weights p_is_weights) (T_check_are_weights : TopD K mg "check_are_weights" s_check_are_weights p_check_are_weights) (T_check_text : TopD K mg "check_text" s_check_text p_check_text) (T_whole_number : TopD K mg "whole_number" s_whole_number p_whole_number) (T_named_number : TopD K mg "named_number" s_named_number p_named_number) (T_weights_text : TopD K mg "weights_text" s_weights_text p_weights_text) (T_read_weights : TopD K mg "read_weights" s_read_weights p_read_weights) (T__law_cell_at : TopD K mg "_law_cell_at" s__law_cell_at p__law_cell_at) (T__law_mixed : TopD K mg "_law_mixed" s__law_mixed p__law_mixed) (T__law_draw : TopD K mg "_law_draw" s__law_draw p__law_draw) (T__law_pick : TopD K mg "_law_pick" s__law_pick p__law_pick) (T__law_weights : TopD K mg "_law_weights" s__law_weights p__law_weights) (T__law_which : TopD K mg "_law_which" s__law_which p__law_which) (T__law_ask : TopD K mg "_law_ask" s__law_ask p__law_ask) (T__law_due : TopD K mg "_law_due" s__law_due p__law_due) (b_len : mg "len" = none) (b_isinstance : mg "isinstance" = none) (b_bool : mg "bool" = none) (b_int : mg "int" = none) (b_str : mg "str" = none) (b_tuple : mg "tuple" = none) (b_all : mg "all" = none) (b_sorted : mg "sorted" = none) (b_set : mg "set" = none) (b_range : mg "range" = none) (b_ValueError : mg "ValueError" = none) (m_HangError : mg "HangError" = some (.ref e_HangError)) (m_NoMobile : mg "NoMobile" = some (.ref e_NoMobile)) (m_NoHall : mg "NoHall" = some (.ref e_NoHall)) (m_NoWeights : mg "NoWeights" = some (.ref e_NoWeights)) (m_NoWay : mg "NoWay" = some (.ref e_NoWay)) (m_NoNumber : mg "NoNumber" = some (.ref e_NoNumber)) (m_Never : mg "Never" = some (.ref e_Never)) (m_TooLong : mg "TooLong" = some (.ref e_TooLong)) (m_TooDeep : mg "TooDeep" = some (.ref e_TooDeep)) (m_NoText : mg "NoText" = some (.ref e_NoText)) (m_Nothing : mg "Nothing" = some (.ref e_Nothing)) (x_NoText : PySem.W.excIn K e_NoText vErr "ValueError.__new__" = true) (x_NoWeights : PySem.W.excIn K e_NoWeights vErr "ValueError.__new__" = true) (em_NoText : PySem.W.exmOne K (.ref e_NoText) (.ref e_HangError) = some true) (xk_NoText : ExcK K e_NoText) (kq_NoText_NoMobile : PySem.W.kitOne K (.ref e_NoText) (.ref e_NoMobile) = some false) (kq_NoText_NoHall : PySem.W.kitOne K (.ref e_NoText) (.ref e_NoHall) = some false) (kq_NoText_NoWeights : PySem.W.kitOne K (.ref e_NoText) (.ref e_NoWeights) = some false) (kq_NoText_NoWay : PySem.W.kitOne K (.ref e_NoText) (.ref e_NoWay) = some false) (kq_NoText_NoNumber : PySem.W.kitOne K (.ref e_NoText) (.ref e_NoNumber) = some false) (kq_NoText_Never : PySem.W.kitOne K (.ref e_NoText) (.ref e_Never) = some false) (kq_NoText_TooLong : PySem.W.kitOne K (.ref e_NoText) (.ref e_TooLong) = some false) (kq_NoText_TooDeep : PySem.W.kitOne K (.ref e_NoText) (.ref e_TooDeep) = some false) (kq_NoText_NoText : PySem.W.kitOne K (.ref e_NoText) (.ref e_NoText) = some true) (kq_NoText_Nothing : PySem.W.kitOne K (.ref e_NoText) (.ref e_Nothing) = some false) (kv_NoText : PySem.W.kitOne K (.ref e_NoText) (.type "ValueError") = some true) {t_LONGEST_NAME : Tok} (m_LONGEST_NAME : mg "LONGEST_NAME" = some (.int 3 t_LONGEST_NAME)) {t_HEAVIEST : Tok} (m_HEAVIEST : mg "HEAVIEST" = some (.int 999999 t_HEAVIEST)) {t_FIGURES : Tok} (m_FIGURES : mg "FIGURES" = some (.str "0123456789" t_FIGURES)) (T : Fun K "law" "law" s_law f fd) : FnOk P w K mg base (CX1 P w) 26 f fd p_law spFz := by
  have FnumA := fA_num (P := P) (w := w) (base := base) T_is_number b_isinstance b_bool b_int
  have FnameA := fA_name (P := P) (w := w) (base := base) T_is_name b_isinstance b_str b_len b_all m_LONGEST_NAME
  have FnnA := fA_nn T_is_named_number b_isinstance b_tuple b_len m_HEAVIEST FnameA FnumA
  have FiwA := fA_iw T_is_weights b_isinstance b_tuple b_all b_sorted b_set FnnA
  have FcawA := fA_caw T_check_are_weights m_NoWeights x_NoWeights FiwA
  have Fwn := f_wnA (P := P) (w := w) (base := base) T_whole_number b_len b_str b_int b_all m_FIGURES m_NoText x_NoText
  have Fct := f_ctA (P := P) (w := w) (base := base) T_check_text b_isinstance b_str m_NoText x_NoText
  have Fnmd := f_nmdA T_named_number m_HEAVIEST Fwn
  have Fwtx := f_wtx T_weights_text FcawA
  have Frw := f_rwA T_read_weights b_tuple m_NoText x_NoText Fct Fnmd FiwA
  have Fcell := f_cell (P := P) (w := w) (base := base) T__law_cell_at b_len
  have Fmix := f_mixed T__law_mixed Fcell
  have Fdraw := f_draw T__law_draw b_len Fmix
  have Fpick := f_pick T__law_pick b_len Fdraw
  have Fwt := f_wt12 T__law_weights b_tuple Fdraw Fpick
  have Hwh := f_whichL (P := P) (w := w) (base := base) T__law_which b_isinstance b_ValueError m_NoMobile m_NoHall m_NoWeights m_NoWay m_NoNumber m_Never m_TooLong m_TooDeep m_NoText m_Nothing (KEr.cons m_NoText xk_NoText kq_NoText_NoMobile KEr.nil) (KEr.cons m_NoText xk_NoText kq_NoText_NoHall KEr.nil) (KEr.cons m_NoText xk_NoText kq_NoText_NoWeights KEr.nil) (KEr.cons m_NoText xk_NoText kq_NoText_NoWay KEr.nil) (KEr.cons m_NoText xk_NoText kq_NoText_NoNumber KEr.nil) (KEr.cons m_NoText xk_NoText kq_NoText_Never KEr.nil) (KEr.cons m_NoText xk_NoText kq_NoText_TooLong KEr.nil) (KEr.cons m_NoText xk_NoText kq_NoText_TooDeep KEr.nil) (KEr.cons m_NoText xk_NoText kq_NoText_NoText KEr.nil) (KEr.cons m_NoText xk_NoText kq_NoText_Nothing KEr.nil) (KEr.cons m_NoText xk_NoText kv_NoText KEr.nil)
  have Fask := f_ask30 T__law_ask m_HangError m_NoText em_NoText Frw Hwh
  have Fdue := f_due (P := P) (w := w) (base := base) T__law_due b_len b_int b_tuple b_sorted b_set
  exact (f_law T b_len b_range Fdraw Fpick Fwt Fwtx Fdue Fask).imp fun vs H Q E h => sp_fz h
theorem walk {l : PySem.W.OpenLaw} {q : Program} {loose : List Str} {XP : (Str → Option Value) → Heap → Prop} {YP : World → Heap → Prop} {d : DefRec} {K : Params → PySem.W.Frag} (hn : l.most = some 63) (hdf : d.params.defaults = []) (hK : ∀ p, (K p).all (fun p => noL p.2) = true)
    (hY : ∀ (w : World) (h : Heap), YP w h → (K w.params).In h)
    (F : ∀ (w : World) (mg : Str → Option Value) (fa : Addr) (h : Heap), (K w.params).In h → h.Ns mainGlobals mg → mg d.name = some (.ref fa) →
      ∃ fd : FuncData, (∀ (s : Shared) (u : Value), BindsTo s fd ⟨[u], []⟩ [("_law_script", u)]) ∧ ∀ base : Heap, (K w.params).In base → base.Ns mainGlobals mg → FnOk l.prog w (K w.params) mg base (CX1 l.prog w) 26 fa fd ["_law_script"] spFz) :
    PySem.W.WalkO q loose XP YP l.row.toRowW d [] (fun f vs => PySem.call f vs) :=
  L2.walk_of (n := 63) (k := 26) (x := "_law_script") (CX := fun w => CX1 l.prog w) (sp := fun _ => spFz) hn (by decide) hdf ⟨rfl, by decide, by decide⟩ hY F (fun w H a ns _ hO hS => fz_of (hK w.params) hO hS) fun w H s e s' z => by
    obtain ⟨_, _, _, _, _, z⟩ := z
    exact z
theorem law_mk {P : Program} {w : World} {K : PySem.W.Frag} {h : Heap} {mg : Str → Option Value} {fa f3 : Addr} {od3 an3 : Option Addr} {sl3 : Array (Option Value)} {oc3 kV3 dc3 pm3 cd3 ct3 : Value} (X : K.In h) (G : h.Ns mainGlobals mg) (hfa : mg "law" = some (.ref fa))
    (a3 : PySem.W.nsIn K mainGlobals "law" = some (some (.ref f3))) (l3 : K.lookup f3 = some ⟨oc3, od3, .func (PySem.W.fnOf "law" "law" (defArgs s_law) (defBody s_law) (defScope s_law) .none kV3 dc3 pm3 an3 cd3 ct3), sl3⟩) (c3 : PySem.W.codeIn K cd3 "law" = true) (k3 : PySem.W.keepIn K (.ref f3) = true)
    (go : ∀ (base : Heap) {f : Addr} {fd : FuncData}, Fun K "law" "law" s_law f fd → FnOk P w K mg base (CX1 P w) 26 f fd p_law spFz) :
    ∃ fd : FuncData, (∀ (s : Shared) (v : Value), BindsTo s fd ⟨[v], []⟩ [("_law_script", v)]) ∧ ∀ base : Heap, K.In base → base.Ns mainGlobals mg → FnOk P w K mg base (CX1 P w) 26 fa fd ["_law_script"] spFz := by
  have e := hfa.symm.trans (PySem.W.mg_of X G a3)
  cases e
  exact ⟨PySem.W.fnOf "law" "law" (defArgs s_law) (defBody s_law) (defScope s_law) .none kV3 dc3 pm3 an3 cd3 ct3, fun s v => .of_eq rfl, fun base _ _ => go base (fun_mk l3 c3 k3)⟩
end My
open PySem PySem.W PyProof.Rows
set_option maxHeartbeats 0
namespace PySem.W.Fast
end PySem.W.Fast
open_top hd for PySem.Challenge.rw_hangstill_k30_whole_weights_texts
theorem PySem.Challenge.cw_hangstill_k30_whole_weights_texts_holds : PySem.Challenge.rw_hangstill_k30_whole_weights_texts.Holds := by
  refine hd ?_
  k_fill
  refine My.walk (l := PySem.Challenge.rw_hangstill_k30_whole_weights_texts) rfl rfl ?K (fun w h Y => PySem.W.kIn_of Y) ?F
  case K => exact fun p => (Eq.refl true : true = true)
  case F =>
    intro w mg fa h KX G hmg
    refine' L2.topD_go (x := "is_number") (st := My.s_is_number) (ps := My.p_is_number) KX G ?a1 ?l1 ?c1 ?k1 (fun _ _ _ _ _ _ us hl => match us, hl with | [_, _, _], _ => rfl) ?go1
    (case a1 => k_is); (case l1 => k_is); (case c1 => k_is); (case k1 => k_is)
    intro T_is_number
    refine' L2.topD_go (x := "is_name") (st := My.s_is_name) (ps := My.p_is_name) KX G ?a2 ?l2 ?c2 ?k2 (fun _ _ _ _ _ _ us hl => match us, hl with | [_], _ => rfl) ?go2
    (case a2 => k_is); (case l2 => k_is); (case c2 => k_is); (case k2 => k_is)
    intro T_is_name
    refine' L2.topD_go (x := "is_named_number") (st := My.s_is_named_number) (ps := My.p_is_named_number) KX G ?a3 ?l3 ?c3 ?k3 (fun _ _ _ _ _ _ us hl => match us, hl with | [_], _ => rfl) ?go3
    (case a3 => k_is); (case l3 => k_is); (case c3 => k_is); (case k3 => k_is)
    intro T_is_named_number
    refine' L2.topD_go (x := "is_weights") (st := My.s_is_weights) (ps := My.p_is_weights) KX G ?a4 ?l4 ?c4 ?k4 (fun _ _ _ _ _ _ us hl => match us, hl with | [_], _ => rfl) ?go4
    (case a4 => k_is); (case l4 => k_is); (case c4 => k_is); (case k4 => k_is)
    intro T_is_weights
    refine' L2.topD_go (x := "check_are_weights") (st := My.s_check_are_weights) (ps := My.p_check_are_weights) KX G ?a5 ?l5 ?c5 ?k5 (fun _ _ _ _ _ _ us hl => match us, hl with | [_], _ => rfl) ?go5
    (case a5 => k_is); (case l5 => k_is); (case c5 => k_is); (case k5 => k_is)
    intro T_check_are_weights
    refine' L2.topD_go (x := "check_text") (st := My.s_check_text) (ps := My.p_check_text) KX G ?a6 ?l6 ?c6 ?k6 (fun _ _ _ _ _ _ us hl => match us, hl with | [_], _ => rfl) ?go6
    (case a6 => k_is); (case l6 => k_is); (case c6 => k_is); (case k6 => k_is)
    intro T_check_text
    refine' L2.topD_go (x := "whole_number") (st := My.s_whole_number) (ps := My.p_whole_number) KX G ?a7 ?l7 ?c7 ?k7 (fun _ _ _ _ _ _ us hl => match us, hl with | [_, _], _ => rfl) ?go7
    (case a7 => k_is); (case l7 => k_is); (case c7 => k_is); (case k7 => k_is)
    intro T_whole_number
    refine' L2.topD_go (x := "named_number") (st := My.s_named_number) (ps := My.p_named_number) KX G ?a8 ?l8 ?c8 ?k8 (fun _ _ _ _ _ _ us hl => match us, hl with | [_], _ => rfl) ?go8
    (case a8 => k_is); (case l8 => k_is); (case c8 => k_is); (case k8 => k_is)
    intro T_named_number
    refine' L2.topD_go (x := "weights_text") (st := My.s_weights_text) (ps := My.p_weights_text) KX G ?a9 ?l9 ?c9 ?k9 (fun _ _ _ _ _ _ us hl => match us, hl with | [_], _ => rfl) ?go9
    (case a9 => k_is); (case l9 => k_is); (case c9 => k_is); (case k9 => k_is)
    intro T_weights_text
    refine' L2.topD_go (x := "read_weights") (st := My.s_read_weights) (ps := My.p_read_weights) KX G ?a10 ?l10 ?c10 ?k10 (fun _ _ _ _ _ _ us hl => match us, hl with | [_], _ => rfl) ?go10
    (case a10 => k_is); (case l10 => k_is); (case c10 => k_is); (case k10 => k_is)
    intro T_read_weights
    refine' L2.topD_go (x := "_law_cell_at") (st := My.s__law_cell_at) (ps := My.p__law_cell_at) KX G ?a11 ?l11 ?c11 ?k11 (fun _ _ _ _ _ _ us hl => match us, hl with | [_, _], _ => rfl) ?go11
    (case a11 => k_is); (case l11 => k_is); (case c11 => k_is); (case k11 => k_is)
    intro T__law_cell_at
    refine' L2.topD_go (x := "_law_mixed") (st := My.s__law_mixed) (ps := My.p__law_mixed) KX G ?a12 ?l12 ?c12 ?k12 (fun _ _ _ _ _ _ us hl => match us, hl with | [_, _, _], _ => rfl) ?go12
    (case a12 => k_is); (case l12 => k_is); (case c12 => k_is); (case k12 => k_is)
    intro T__law_mixed
    refine' L2.topD_go (x := "_law_draw") (st := My.s__law_draw) (ps := My.p__law_draw) KX G ?a13 ?l13 ?c13 ?k13 (fun _ _ _ _ _ _ us hl => match us, hl with | [_, _, _], _ => rfl) ?go13
    (case a13 => k_is); (case l13 => k_is); (case c13 => k_is); (case k13 => k_is)
    intro T__law_draw
    refine' L2.topD_go (x := "_law_pick") (st := My.s__law_pick) (ps := My.p__law_pick) KX G ?a14 ?l14 ?c14 ?k14 (fun _ _ _ _ _ _ us hl => match us, hl with | [_, _, _], _ => rfl) ?go14
    (case a14 => k_is); (case l14 => k_is); (case c14 => k_is); (case k14 => k_is)
    intro T__law_pick
    refine' L2.topD_go (x := "_law_weights") (st := My.s__law_weights) (ps := My.p__law_weights) KX G ?a15 ?l15 ?c15 ?k15 (fun _ _ _ _ _ _ us hl => match us, hl with | [_, _, _], _ => rfl) ?go15
    (case a15 => k_is); (case l15 => k_is); (case c15 => k_is); (case k15 => k_is)
    intro T__law_weights
    refine' L2.topD_go (x := "_law_which") (st := My.s__law_which) (ps := My.p__law_which) KX G ?a16 ?l16 ?c16 ?k16 (fun _ _ _ _ _ _ us hl => match us, hl with | [_], _ => rfl) ?go16
    (case a16 => k_is); (case l16 => k_is); (case c16 => k_is); (case k16 => k_is)
    intro T__law_which
    refine' L2.topD_go (x := "_law_ask") (st := My.s__law_ask) (ps := My.p__law_ask) KX G ?a17 ?l17 ?c17 ?k17 (fun _ _ _ _ _ _ us hl => match us, hl with | [_], _ => rfl) ?go17
    (case a17 => k_is); (case l17 => k_is); (case c17 => k_is); (case k17 => k_is)
    intro T__law_ask
    refine' L2.topD_go (x := "_law_due") (st := My.s__law_due) (ps := My.p__law_due) KX G ?a18 ?l18 ?c18 ?k18 (fun _ _ _ _ _ _ us hl => match us, hl with | [_], _ => rfl) ?go18
    (case a18 => k_is); (case l18 => k_is); (case c18 => k_is); (case k18 => k_is)
    intro T__law_due
    have b_len : mg "len" = none := PySem.W.mg_none_of KX G (by k_is)
    have b_isinstance : mg "isinstance" = none := PySem.W.mg_none_of KX G (by k_is)
    have b_bool : mg "bool" = none := PySem.W.mg_none_of KX G (by k_is)
    have b_int : mg "int" = none := PySem.W.mg_none_of KX G (by k_is)
    have b_str : mg "str" = none := PySem.W.mg_none_of KX G (by k_is)
    have b_tuple : mg "tuple" = none := PySem.W.mg_none_of KX G (by k_is)
    have b_all : mg "all" = none := PySem.W.mg_none_of KX G (by k_is)
    have b_sorted : mg "sorted" = none := PySem.W.mg_none_of KX G (by k_is)
    have b_set : mg "set" = none := PySem.W.mg_none_of KX G (by k_is)
    have b_range : mg "range" = none := PySem.W.mg_none_of KX G (by k_is)
    have b_ValueError : mg "ValueError" = none := PySem.W.mg_none_of KX G (by k_is)
    refine' L2.exc_go (x := "HangError") KX G ?e0 ?ge0
    (case e0 => k_is)
    intro m_HangError
    refine' L2.exc_go (x := "NoMobile") KX G ?e1 ?ge1
    (case e1 => k_is)
    intro m_NoMobile
    refine' L2.exc_go (x := "NoHall") KX G ?e2 ?ge2
    (case e2 => k_is)
    intro m_NoHall
    refine' L2.exc_go (x := "NoWeights") KX G ?e3 ?ge3
    (case e3 => k_is)
    intro m_NoWeights
    refine' L2.exc_go (x := "NoWay") KX G ?e4 ?ge4
    (case e4 => k_is)
    intro m_NoWay
    refine' L2.exc_go (x := "NoNumber") KX G ?e5 ?ge5
    (case e5 => k_is)
    intro m_NoNumber
    refine' L2.exc_go (x := "Never") KX G ?e6 ?ge6
    (case e6 => k_is)
    intro m_Never
    refine' L2.exc_go (x := "TooLong") KX G ?e7 ?ge7
    (case e7 => k_is)
    intro m_TooLong
    refine' L2.exc_go (x := "TooDeep") KX G ?e8 ?ge8
    (case e8 => k_is)
    intro m_TooDeep
    refine' L2.exc_go (x := "NoText") KX G ?e9 ?ge9
    (case e9 => k_is)
    intro m_NoText
    refine' L2.exc_go (x := "Nothing") KX G ?e10 ?ge10
    (case e10 => k_is)
    intro m_Nothing
    refine' My.law_mk KX G hmg ?aL ?lL ?cL ?kL ?goL
    (case aL => k_is); (case lL => k_is); (case cL => k_is); (case kL => k_is)
    case goL =>
      intro base f fd T
      refine' My.all  T_is_number T_is_name T_is_named_number T_is_weights T_check_are_weights T_check_text T_whole_number T_named_number T_weights_text T_read_weights T__law_cell_at T__law_mixed T__law_draw T__law_pick T__law_weights T__law_which T__law_ask T__law_due b_len b_isinstance b_bool b_int b_str b_tuple b_all b_sorted b_set b_range b_ValueError m_HangError m_NoMobile m_NoHall m_NoWeights m_NoWay m_NoNumber m_Never m_TooLong m_TooDeep m_NoText m_Nothing ?x_NoText ?x_NoWeights ?em_NoText (L2.exk_mk ?h1_NoText ?h2_NoText ?h3_NoText ?h4_NoText ?h5_NoText ?h6_NoText ?h7_NoText ?y_NoText) ?kq_NoText_NoMobile ?kq_NoText_NoHall ?kq_NoText_NoWeights ?kq_NoText_NoWay ?kq_NoText_NoNumber ?kq_NoText_Never ?kq_NoText_TooLong ?kq_NoText_TooDeep ?kq_NoText_NoText ?kq_NoText_Nothing ?kv_NoText (PySem.W.mg_of KX G ?m_LONGEST_NAME) (PySem.W.mg_of KX G ?m_HEAVIEST) (PySem.W.mg_of KX G ?m_FIGURES) T
      (case x_NoText => k_exc); (case x_NoWeights => k_exc); (case em_NoText => kts_exm); (case h1_NoText => k_is); (case h2_NoText => k_is); (case h3_NoText => k_is); (case h4_NoText => k_is); (case h5_NoText => k_is); (case h6_NoText => k_is); (case h7_NoText => k_is); (case y_NoText => k_exc); (case kq_NoText_NoMobile => kit_is); (case kq_NoText_NoHall => kit_is); (case kq_NoText_NoWeights => kit_is); (case kq_NoText_NoWay => kit_is); (case kq_NoText_NoNumber => kit_is); (case kq_NoText_Never => kit_is); (case kq_NoText_TooLong => kit_is); (case kq_NoText_TooDeep => kit_is); (case kq_NoText_NoText => kit_is); (case kq_NoText_Nothing => kit_is); (case kv_NoText => kit_is); (case m_LONGEST_NAME => k_is); (case m_HEAVIEST => k_is); (case m_FIGURES => k_is)
