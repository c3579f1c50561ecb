import PyProof.Rows.All
import Wide.All
import OpenK.AllK
import Wide.FinOn
import Lean
import PyProof.EqAt
import PyProof.EqKinds
import PyProof.NeKinds
import PyProof.TupleCall
import PyProof.ZipIter
import PyProof.ListNew
import PyProof.P3Eq
import PyProof.NeData
import PyProof.EnumFor
import PyProof.EnumMake
import PyProof.ExcBaseAll.ValueError
import PyProof.Rows.SetFrom
import PyProof.CollectWalk
import PyProof.SumWalk
import PyProof.FString
import KE.KDictOf
import PyProof.AttrMissHeap
import PyProof.TupleOfGen
import KE.KDictSum
import PyProof.ConsumeS
import PyProof.P3In
import PyProof.Rows.RuleN_abs
import PyProof.Rows.FactsN_abs
import PyProof.StrBlockI
import PyProof.SliceStr2
import PyProof.Rows.StrClose
import PyProof.FactsAll.tuple_2
import PyProof.MinMaxWalk
import PyProof.WalksMore
import PyProof.Rows.RowHeap
import PyProof.DictWalks
import KE.KSortTup
import PyProof.Rows.ListMul
import PyProof.ListRange
import PyProof.TupleOfStr
import KE.KRevSl
import KE.KDictList
import PySem.Challenge.RW_hangstill_k26_whole_benches
import KE.RegKIsAll
import KE.RegKTryMore
set_option Elab.async false
set_option linter.all false
set_option maxRecDepth 100000
set_option maxHeartbeats 4000000
namespace L2
open PySem PySem.Spec PyProof.Rows
abbrev Key := Sum Int Str
def keyIs : Key → Value → Bool
  | .inl k, v => Value.isInt k v
  | .inr x, v => Value.isStrOf x v
def keyH (w : World) : Key → Int
  | .inl k => hashInt k
  | .inr x => hashStr w x
theorem keyIs_shape : ∀ {k : Key} {v : Value}, keyIs k v = true → (∃ i t, k = Sum.inl i ∧ v = Value.int i t) ∨ (∃ x t, k = Sum.inr x ∧ v = Value.str x t)
  | .inl i, v, h => by
    obtain ⟨t, e⟩ := Value.isInt_shape (k := i) (v := v) h
    exact .inl ⟨i, t, rfl, e⟩
  | .inr x, v, h => by
    obtain ⟨t, e⟩ := Value.isStrOf_shape (x := x) (v := v) h
    exact .inr ⟨x, t, rfl, e⟩
theorem keyIs_int (i : Int) (t : Tok) : keyIs (.inl i) (.int i t) = true := by simp [keyIs, Value.isInt]
theorem keyIs_str (x : Str) (t : Tok) : keyIs (.inr x) (.str x t) = true := by simp [keyIs, Value.isStrOf]
theorem key_ll (a b : Int) : decide ((Sum.inl a : Key) = Sum.inl b) = (a == b) := by
  by_cases e : a = b
  · subst e; simp
  · have h : ¬ (Sum.inl a : Key) = Sum.inl b := fun q => e (Sum.inl.inj q)
    rw [decide_eq_false h]
    exact (beq_eq_false_iff_ne.mpr e).symm
theorem key_rr (a b : Str) : decide ((Sum.inr a : Key) = Sum.inr b) = decide (a = b) := by
  by_cases e : a = b
  · subst e; simp
  · have h : ¬ (Sum.inr a : Key) = Sum.inr b := fun q => e (Sum.inr.inj q)
    rw [decide_eq_false h, decide_eq_false e]
theorem key_lr (a : Int) (b : Str) : decide ((Sum.inl a : Key) = Sum.inr b) = false := decide_eq_false (fun q => nomatch q)
theorem key_rl (a : Str) (b : Int) : decide ((Sum.inr a : Key) = Sum.inl b) = false := decide_eq_false (fun q => nomatch q)
def mixKind (prog : Program) (w : World) : PySem.KeyKind prog w Key where
  is := keyIs
  hash := keyH w
  inj := fun v a b ha hb => by
    rcases keyIs_shape ha with ⟨i, t, rfl, rfl⟩ | ⟨x, t, rfl, rfl⟩
    · rcases keyIs_shape hb with ⟨j, u, rfl, e⟩ | ⟨y, u, rfl, e⟩
      · injection e with e1 _; rw [e1]
      · exact nomatch e
    · rcases keyIs_shape hb with ⟨j, u, rfl, e⟩ | ⟨y, u, rfl, e⟩
      · exact nomatch e
      · injection e with e1 _; rw [e1]
  byValue := fun k v h => by
    rcases keyIs_shape h with ⟨i, t, rfl, rfl⟩ | ⟨x, t, rfl, rfl⟩ <;> rfl
  pyHash := fun hv h => by
    rcases keyIs_shape hv with ⟨i, t, rfl, rfl⟩ | ⟨x, t, rfl, rfl⟩
    · exact wpAny_pyHash_int h
    · exact wpAny_pyHash_str h
  eqBool := fun hu hv h => by
    rcases keyIs_shape hu with ⟨i, t, rfl, rfl⟩ | ⟨x, t, rfl, rfl⟩
    · rcases keyIs_shape hv with ⟨j, u, rfl, rfl⟩ | ⟨y, u, rfl, rfl⟩
      · rw [key_ll] at h; exact wpAny_eqBool_int h
      · rw [key_lr] at h; exact SeqAt.EqAt.int_str i t y u _ _ _ _ h
    · rcases keyIs_shape hv with ⟨j, u, rfl, rfl⟩ | ⟨y, u, rfl, rfl⟩
      · rw [key_rl] at h; exact SeqAt.EqAt.str_int x t j u _ _ _ _ h
      · rw [key_rr] at h; exact wpAny_eqBool_str h
  «strs» := fun k x t v h => by
    rcases keyIs_shape h with ⟨i, u, rfl, e⟩ | ⟨y, u, rfl, e⟩
    · exact nomatch e
    · injection e with e1 _
      subst e1
      cases v <;> rfl
theorem mixKind_int (prog : Program) (w : World) (i : Int) (t : Tok) : (mixKind prog w).is (.inl i) (.int i t) = true := keyIs_int i t
theorem mixKind_str (prog : Program) (w : World) (x : Str) (t : Tok) : (mixKind prog w).is (.inr x) (.str x t) = true := keyIs_str x t
end L2
namespace L2
open PySem PySem.Spec PyProof.Rows
inductive V where
  | non | bl (b : Bool) | int (i : Int) | str (x : Str) | byt (b : Array UInt8) | flt (b : UInt64) | ref (a : Addr) | ty (n : String)
  deriving DecidableEq
def RelV : V → Value → Prop
  | .non, u => u = Value.none
  | .bl b, u => u = Value.bool b
  | .int i, u => ∃ t, u = Value.int i t
  | .str x, u => ∃ t, u = Value.str x t
  | .byt b, u => ∃ t, u = Value.bytes b t
  | .flt b, u => ∃ t, u = Value.float b t
  | .ref a, u => u = Value.ref a
  | .ty n, u => u = Value.type n
abbrev Vals : List V → List Value → Prop := Paired RelV
theorem Vals.length {xs : List V} {us : List Value} (r : Vals xs us) : xs.length = us.length := Paired.length r
theorem Vals.get : ∀ {xs : List V} {us : List Value} {i : Nat} {x : V}, Vals xs us → xs[i]? = some x → ∃ u, us[i]? = some u ∧ RelV x u
  | _, _, _, _, .nil, e => by simp at e
  | _, _, 0, _, .cons r _, e => by simp at e; subst e; exact ⟨_, rfl, r⟩
  | _, _, i + 1, x, .cons _ t, e => by
    obtain ⟨u, h1, h2⟩ := Vals.get (i := i) (x := x) t (by simpa using e)
    exact ⟨u, by simpa using h1, h2⟩
theorem Vals.append : ∀ {xs ys : List V} {us ws : List Value}, Vals xs us → Vals ys ws → Vals (xs ++ ys) (us ++ ws)
  | _, _, _, _, .nil, s => s
  | _, _, _, _, .cons r t, s => .cons r (Vals.append t s)
theorem Vals.take : ∀ {xs : List V} {us : List Value} (n : Nat), Vals xs us → Vals (xs.take n) (us.take n)
  | _, _, 0, _ => .nil
  | _, _, _ + 1, .nil => .nil
  | _, _, n + 1, .cons r t => .cons r (Vals.take n t)
theorem Vals.drop : ∀ {xs : List V} {us : List Value} (n : Nat), Vals xs us → Vals (xs.drop n) (us.drop n)
  | _, _, 0, r => r
  | _, _, _ + 1, .nil => .nil
  | _, _, n + 1, .cons _ t => Vals.drop n t
def RelO : Option V → Option Value → Prop
  | some v, some u => RelV v u
  | none, none => True
  | _, _ => False
def KV {κ : Type} : List (κ × V) → List (κ × Value) → Prop := Paired fun (p : κ × V) (q : κ × Value) => p.1 = q.1 ∧ RelV p.2 q.2
def kV : Key → V
  | .inl i => .int i
  | .inr x => .str x
def TupO (h : Heap) (a : Addr) (items : Array Value) : Prop := ∃ n, h.get? a = some { cls := .type "tuple", data := .seq items n }
theorem TupO.is {h : Heap} {a : Addr} {items : Array Value} (x : TupO h a items) : IsTup h a items := let ⟨n, e⟩ := x; ⟨_, e, rfl, n, rfl⟩
theorem TupO.new (h : Heap) (items : Array Value) : TupO (h.push { cls := .type "tuple", data := .seq items }) h.objs.size items := ⟨0, Heap.get?_push_size _ rfl⟩
inductive HO where
  /-- a list -/
  | lst (xs : List V)
  /-- a tuple (never changes) -/
  | tup (xs : List V)
  /-- a dict whose keys are ints and texts; one whose keys are tuples of ints and texts (the empty one is both) -/
  | dK (kvs : List (Key × V)) | dT (kvs : List (List Key × V))
  /-- a set of ints: its members, its size -/
  | set (S : Int → Bool) (n : Nat)
  /-- an instance of the class at C, its dict at dx, its attributes -/
  | ins (C dx : Addr) (fs : List (Str × V))
  /-- the dict of the instance at x -/
  | own (x : Addr)
  /-- the dict of an exception -/
  | xd (fs : List (Str × V))
  /-- a bound method, f of x -/
  | met (f x : Addr)
  /-- a range object lo, lo + 1, .. below hi -/
  | rng (lo hi : Int)
  /-- a thing that is known to the object (the script; a dict while a loop walks it): read, never written while it is so -/
  | frz (o : Obj) (u : HO)
  /-- a code object's table -/
  | tbl (ps : Array Value)
  /-- any other thing, by what is true of its one object (a def of one's own: SetO a S n := HO.ext fun h => ..) -/
  | ext (φ : Heap → Prop)
abbrev Hp := Addr → Option HO
def upd (H : Hp) (a : Addr) (o : HO) : Hp := fun b => if b = a then some o else H b
theorem upd_same {H : Hp} {a : Addr} {o : HO} : upd H a o a = some o := by unfold upd; rw [if_pos rfl]
theorem upd_ne {H : Hp} {a b : Addr} {o : HO} (h : b ≠ a) : upd H a o b = H b := by unfold upd; rw [if_neg h]
theorem ne_of_none {H : Hp} {a b : Addr} {o : HO} (h : H a = some o) (h' : H b = none) : a ≠ b := by
  intro e; subst e; rw [h] at h'; cases h'
section
variable (P : Program) (w : World)
def ObjOk (H : Hp) (h : Heap) (a : Addr) : HO → Prop
  | .lst xs => xs.length ≤ sizeLine ∧ ∃ (its : List Value) (n : Nat), Vals xs its ∧ h.get? a = some { cls := .type "list", data := .seq its.toArray n }
  | .tup xs => xs.length ≤ sizeLine ∧ ∃ its : List Value, Vals xs its ∧ TupO h a its.toArray
  | .dK kvs => kvs.length ≤ sizeLine ∧ (a == sysModules) = false ∧ ∃ vs, KV kvs vs ∧ h.DictOf (mixKind P w) a vs
  | .dT kvs => kvs.length ≤ sizeLine ∧ (a == sysModules) = false ∧ ∃ xs : List (List Key × Addr × Value),
      Paired (fun (p : List Key × V) (q : List Key × Addr × Value) => p.1 = q.1 ∧ H q.2.1 = some (.tup (p.1.map kV)) ∧ RelV p.2 q.2.2) kvs xs ∧
      ∃ o es ep, h.get? a = some o ∧ o.ExactDict ∧ o.data = .dict es ep ∧ es.toList = xs.map (entryOfKey (tupleKind (mixKind P w))) ∧ (xs.map (·.1)).Nodup
  | .set S n => h.SetOf (intKind P w) a S n
  | .ins C dx fs => H dx = some (.own a) ∧ fs.length ≤ 1000 ∧ dx ≠ a ∧ h.get? a = some (PySem.W.instObj C dx) ∧
      ∃ mA, h.Ns1 dx mA ∧ (∀ f, RelO (fs.lookup f) (mA f)) ∧ PySem.Within mA (fs.map (·.1))
  | .own _ => ∃ o, h.get? a = some o
  | .xd fs => ∃ mA, h.Ns1 a mA ∧ ∀ f, RelO (fs.lookup f) (mA f)
  | .rng lo hi => ∃ t u v, h.get? a = some { cls := .type "range", data := .fields #[.int lo t, .int hi u, .int 1 v] }
  | .frz o u => h.get? a = some o ∧ ObjOk H h a u
  | .tbl ps => h.get? a = some { cls := .none, data := .fields ps }
  | .met f x => h.get? a = some (PySem.W.methodObj (.ref f) (.ref x))
  | .ext φ => φ h ∧ (∃ o, h.get? a = some o) ∧ ∀ h1 h2 : Heap, φ h1 → (∀ o, h1.get? a = some o → h2.get? a = some o) → φ h2
def HOk (H : Hp) (h : Heap) : Prop := ∀ a o, H a = some o → ObjOk P w H h a o
end
section
variable {P : Program} {w : World} {H H' : Hp} {h h' : Heap} {a : Addr} {o : HO}
theorem ObjOk.lt (x : ObjOk P w H h a o) : a < h.objs.size := by
  cases o with
  | lst xs => obtain ⟨_, _, _, _, e⟩ := x; exact Heap.lt_size e
  | tup xs => obtain ⟨_, _, _, p⟩ := x; exact p.is.lt
  | dK kvs => obtain ⟨_, _, _, _, o, _, _, e, _⟩ := x; exact Heap.lt_size e
  | dT kvs => obtain ⟨_, _, _, _, o, _, _, e, _⟩ := x; exact Heap.lt_size e
  | set S n => obtain ⟨o, _, _, _, e, _⟩ := x; exact Heap.lt_size e
  | ins C dx fs => obtain ⟨_, _, _, e, _⟩ := x; exact Heap.lt_size e
  | own y => obtain ⟨_, e⟩ := x; exact Heap.lt_size e
  | xd fs => obtain ⟨_, ⟨_, _, _, e, _⟩, _⟩ := x; exact Heap.lt_size e
  | rng lo hi => obtain ⟨_, _, _, e⟩ := x; exact Heap.lt_size e
  | frz ob u => obtain ⟨e, _⟩ := x; exact Heap.lt_size e
  | tbl ps => exact Heap.lt_size (show h.get? a = some _ from x)
  | met f y => exact Heap.lt_size (show h.get? a = some _ from x)
  | ext φ => obtain ⟨_, ⟨_, e⟩, _⟩ := x; exact Heap.lt_size e
theorem Paired.mapP {α β : Type} {F G : α → β → Prop} : ∀ {l₁ : List α} {l₂ : List β}, Paired F l₁ l₂ → (∀ a b, F a b → G a b) → Paired G l₁ l₂
  | _, _, .nil, _ => .nil
  | _, _, .cons r t, f => .cons (f _ _ r) (Paired.mapP t f)
theorem ObjOk.stay (x : ObjOk P w H h a o) (k : ∀ b u, (b = a ∨ H b = some (.own a)) → h.get? b = some u → h'.get? b = some u)
    (ho : ∀ b, H b = some (.own a) → H' b = some (.own a)) (ht : ∀ b xs, H b = some (.tup xs) → H' b = some (.tup xs)) : ObjOk P w H' h' a o := by
  induction o with
  | lst xs => obtain ⟨z, its, n, r, e⟩ := x; exact ⟨z, its, n, r, k _ _ (.inl rfl) e⟩
  | tup xs => obtain ⟨z, its, r, n, e⟩ := x; exact ⟨z, its, r, n, k _ _ (.inl rfl) e⟩
  | dK kvs => obtain ⟨z, y, vs, r, ob, es, ep, e, c⟩ := x; exact ⟨z, y, vs, r, ob, es, ep, k _ _ (.inl rfl) e, c⟩
  | dT kvs =>
    obtain ⟨z, y, xs, r, ob, es, ep, e, c⟩ := x
    exact ⟨z, y, xs, Paired.mapP r fun p q z => ⟨z.1, ht _ _ z.2.1, z.2.2⟩, ob, es, ep, k _ _ (.inl rfl) e, c⟩
  | set S n => obtain ⟨ob, es, ep, t, e, c⟩ := x; exact ⟨ob, es, ep, t, k _ _ (.inl rfl) e, c⟩
  | ins C dx fs =>
    obtain ⟨d, z, ne, e, mA, ⟨od, es, ep, e2, c⟩, r⟩ := x
    exact ⟨ho _ d, z, ne, k _ _ (.inl rfl) e, mA, ⟨od, es, ep, k _ _ (.inr d) e2, c⟩, r⟩
  | own y => obtain ⟨ob, e⟩ := x; exact ⟨ob, k _ _ (.inl rfl) e⟩
  | xd fs => obtain ⟨mA, ⟨od, es, ep, e, c⟩, r⟩ := x; exact ⟨mA, ⟨od, es, ep, k _ _ (.inl rfl) e, c⟩, r⟩
  | rng lo hi => obtain ⟨t, u, v, e⟩ := x; exact ⟨t, u, v, k _ _ (.inl rfl) e⟩
  | frz ob u ih => obtain ⟨e, q⟩ := x; exact ⟨k _ _ (.inl rfl) e, ih q⟩
  | tbl ps =>
    have e : h.get? a = some { cls := .none, data := .fields ps } := x
    show h'.get? a = some { cls := .none, data := .fields ps }
    exact k a _ (.inl rfl) e
  | met f y =>
    have e : h.get? a = some (PySem.W.methodObj (.ref f) (.ref y)) := x
    show h'.get? a = some (PySem.W.methodObj (.ref f) (.ref y))
    exact k a _ (.inl rfl) e
  | ext φ => obtain ⟨p, ⟨o, e⟩, st⟩ := x; exact ⟨st _ _ p fun o q => k _ _ (.inl rfl) q, ⟨o, k _ _ (.inl rfl) e⟩, st⟩
theorem HOk.lt (x : HOk P w H h) (e : H a = some o) : a < h.objs.size := (x a o e).lt
theorem HOk.fresh (x : HOk P w H h) (e : h.objs.size ≤ a) : H a = none := by
  cases q : H a with
  | none => rfl
  | some u => exact absurd (Nat.lt_of_lt_of_le (x.lt q) e) (Nat.lt_irrefl _)
theorem HOk.kept (x : HOk P w H h) (k : ∀ b u, h.get? b = some u → h'.get? b = some u) : HOk P w H h' := fun a o e =>
  (x a o e).stay (fun b u _ q => k b u q) (fun _ q => q) fun _ _ q => q
theorem HOk.laid (x : HOk P w H h) (k : ∀ b u, h.get? b = some u → h'.get? b = some u) (hp : h.objs.size ≤ a) (new : ObjOk P w (upd H a o) h' a o) : HOk P w (upd H a o) h' := fun b u e => by
  have hn := x.fresh hp
  by_cases hb : b = a
  · subst hb; rw [upd_same] at e; cases e; exact new
  · rw [upd_ne hb] at e
    exact (x b u e).stay (fun c v _ q => k c v q) (fun c q => by rw [upd_ne (ne_of_none q hn)]; exact q) fun c xs q => by rw [upd_ne (ne_of_none q hn)]; exact q
end
def Rd (H : Hp) (a : Addr) (u : HO) : Prop := H a = some u ∨ ∃ o, H a = some (.frz o u)
theorem Rd.ok {P : Program} {w : World} {H : Hp} {h : Heap} {a : Addr} {u : HO} (r : Rd H a u) (x : HOk P w H h) : ObjOk P w H h a u := by
  rcases r with r | ⟨o, r⟩
  · exact x a u r
  · obtain ⟨_, q⟩ := x a _ r
    exact q
def Mut : Option HO → Prop
  | some (.lst _) => True
  | some (.dK _) => True
  | some (.dT _) => True
  | some (.set _ _) => True
  | some (.ins _ _ _) => True
  | some (.ext _) => True
  | _ => False
section
variable {P : Program} {w : World} {H : Hp} {h h' : Heap} {x e : Addr} {o' : HO}
theorem HOk.write (ok : HOk P w H h) (mu : Mut (H x)) (he : e = x ∨ H e = some (.own x)) (k : ∀ b u, b ≠ e → h.get? b = some u → h'.get? b = some u) (heo : ∃ u, h'.get? e = some u)
    (new : ObjOk P w (upd H x o') h' x o') : HOk P w (upd H x o') h' := fun b u q => by
  have nown : ∀ c y, H c = some (.own y) → c ≠ x := fun c y r z => by subst z; rw [r] at mu; exact mu
  have ntup : ∀ c xs, H c = some (.tup xs) → c ≠ x := fun c xs r z => by subst z; rw [r] at mu; exact mu
  by_cases hb : b = x
  · subst hb; rw [upd_same] at q; cases q; exact new
  · rw [upd_ne hb] at q
    by_cases hbe : b = e
    · have q' : H b = some (.own x) := by
        rcases he with z | z
        · exact absurd (hbe.trans z) hb
        · rw [hbe]; exact z
      rw [q] at q'; cases q'
      obtain ⟨v, hv⟩ := heo
      exact ⟨v, by rw [hbe]; exact hv⟩
    · refine (ok b u q).stay (fun c v hc r => k c v ?_ r) (fun c r => by rw [upd_ne (nown c b r)]; exact r) fun c xs r => by rw [upd_ne (ntup c xs r)]; exact r
      rcases hc with rfl | hc
      · exact hbe
      · rintro rfl
        rcases he with z | z
        · exact nown c b hc z
        · rw [hc] at z; cases z; exact hb rfl
end
structure Un (fs ex : List Addr) (H H' : Hp) (h h' : Heap) : Prop where
  keep : ∀ b o, h.get? b = some o → H b = none → b ∉ fs → b ∉ ex → h'.get? b = some o
  slot : ∀ b o, h.get? b = some o → H b = none → b ∈ fs → b ∉ ex → ∃ sl, h'.get? b = some { o with slots := sl }
  free : ∀ b o, h.get? b = some o → H b = none → b ∉ ex → H' b = none
  there : ∀ b o, h.get? b = some o → b ∉ ex → ∃ o', h'.get? b = some o'
  tups : ∀ b xs, H b = some (.tup xs) → H' b = some (.tup xs)
  frzs : ∀ b o u, H b = some (.frz o u) → H' b = some (.frz o u)
  tbls : ∀ b ps, H b = some (.tbl ps) → ∃ more, H' b = some (.tbl (ps ++ more))
section
variable {fs fs' ex ex' : List Addr} {H H1 H2 : Hp} {h h1 h2 h' : Heap} {a x e : Addr} {o : HO}
theorem Un.any (u : Un fs ex H H1 h h1) {b : Addr} {ob : Obj} (q : h.get? b = some ob) (n : H b = none) (hx : b ∉ ex) : ∃ sl, h1.get? b = some { ob with slots := sl } := by
  by_cases hb : b ∈ fs
  · exact u.slot b ob q n hb hx
  · exact ⟨ob.slots, u.keep b ob q n hb hx⟩
theorem Un.kept (k : ∀ b u, h.get? b = some u → h'.get? b = some u) : Un fs ex H H h h' :=
  ⟨fun b ob q _ _ _ => k b ob q, fun b ob q _ _ _ => ⟨ob.slots, k b ob q⟩, fun _ _ _ n _ => n, fun b ob q _ => ⟨ob, k b ob q⟩, fun _ _ q => q, fun _ _ _ q => q, fun _ ps q => ⟨#[], by rw [q]; simp⟩⟩
theorem Un.refl : Un fs ex H H h h := Un.kept fun _ _ q => q
theorem Un.laid (k : ∀ b u, h.get? b = some u → h'.get? b = some u) (hp : h.objs.size ≤ a) (hn : H a = none) : Un fs ex H (upd H a o) h h' where
  keep := fun b u q _ _ _ => k b u q
  slot := fun b u q _ _ _ => ⟨u.slots, k b u q⟩
  free := fun b u q n _ => by rw [upd_ne (Nat.ne_of_lt (Nat.lt_of_lt_of_le (Heap.lt_size q) hp))]; exact n
  there := fun b u q _ => ⟨u, k b u q⟩
  tups := fun b xs q => by rw [upd_ne (ne_of_none q hn)]; exact q
  frzs := fun b u xs q => by rw [upd_ne (ne_of_none q hn)]; exact q
  tbls := fun b ps q => ⟨#[], by rw [upd_ne (ne_of_none q hn), q]; simp⟩
theorem Un.write (mu : Mut (H x)) (he : e = x ∨ H e = some (.own x)) (k : ∀ b u, b ≠ e → h.get? b = some u → h'.get? b = some u) (heo : ∃ u, h'.get? e = some u) : Un fs ex H (upd H x o) h h' := by
  have hx : ∀ b, H b = none → b ≠ x := fun b n z => by subst z; rw [n] at mu; exact mu
  have hb : ∀ b, H b = none → b ≠ e := fun b n z => by
    subst z
    rcases he with r | r
    · exact hx b n r
    · rw [n] at r; cases r
  have hm : ∀ b u, H b = some u → ¬ Mut (some u) → b ≠ x := fun b u q nm z => by subst z; rw [q] at mu; exact nm mu
  refine ⟨fun b u q n _ _ => k b u (hb b n) q, fun b u q n _ _ => ⟨u.slots, k b u (hb b n) q⟩, fun b u q n _ => by rw [upd_ne (hx b n)]; exact n, fun b u q _ => ?_,
    fun b xs q => by rw [upd_ne (hm b _ q fun z => z)]; exact q, fun b u xs q => by rw [upd_ne (hm b _ q fun z => z)]; exact q, fun b ps q => ⟨#[], by rw [upd_ne (hm b _ q fun z => z), q]; simp⟩⟩
  by_cases hbe : b = e
  · subst hbe; exact heo
  · exact ⟨u, k b u hbe q⟩
end
def trk (h : Heap) (H : Hp) : List Addr := (List.range h.objs.size).filter fun a => (H a).isSome
def hidT (h : Heap) (H : Hp) : Heap := PySem.W.hideAll h (trk h H)
theorem hidT_size (h : Heap) (H : Hp) : (hidT h H).objs.size = h.objs.size := PySem.W.hideAll_size _ _
theorem hidT_get {h : Heap} {H : Hp} {b : Addr} {o : Obj} (e : h.get? b = some o) (n : H b = none) : (hidT h H).get? b = some o :=
  PySem.W.hideAll_get _ e fun hm => by
    have q : (H b).isSome = true := (List.mem_filter.mp hm).2
    rw [n] at q; simp at q
theorem of_hidT {h : Heap} {H : Hp} {b : Addr} {o : Obj} (e : (hidT h H).get? b = some o) : h.get? b = some o ∧ H b = none := by
  have e' : h.get? b = some o := PySem.W.of_hideAll (trk h H) e
  refine ⟨e', ?_⟩
  cases q : H b with
  | none => rfl
  | some x =>
    have hm : b ∈ trk h H := List.mem_filter.mpr ⟨List.mem_range.mpr (Heap.lt_size e'), by simp [q]⟩
    have z : (hidT h H).get? b = none := PySem.W.hideAll_none (trk h H) hm
    rw [z] at e; cases e
end L2
namespace L2
open PySem PySem.Spec PyProof.Rows
structure Mod (K : PySem.W.Frag) (mg : Str → Option Value) (base : Heap) : Prop where
  kin : K.In base
  glob : base.Ns mainGlobals mg
  blt : ∃ mb, base.Ns builtinsNs mb ∧ ∀ x : Str, x ≠ "__name__" → mb x = bootBuiltins x
  nolimit : base.NoLimit
structure Cx where
  prog : Program
  w : World
  K : PySem.W.Frag
  mg : Str → Option Value
  base : Heap
  A : Around
  N : List Str
  s₀ : Shared
  H₀ : Hp
  env : Env
  outer : List Env
  stack : List Env
  ex : List Addr
  fn : Str → Bool
  calm : Bool
  pn : List (Addr × Obj)
  xe : Value → Shared → Prop
def frs (l : List Env) : List Addr := l.filterMap (·.frame)
abbrev Cx.fs (X : Cx) : List Addr := frs X.outer
def Vis (sc : Scope) (x : Str) : Prop := sc.names.lookup x = some .local ∨ sc.names.lookup x = some .cell ∨ sc.names.lookup x = some .free
def Loc (sc : Scope) (x : Str) : Prop := sc.names.lookup x = some .local ∨ sc.names.lookup x = some .cell
def Look (env : Env) (h : Heap) (m : Str → Option Value) (x : Str) (u : Value) : Prop :=
  (env.kindOf x = some .local ∧ m x = some u) ∨ ((env.kindOf x = some .cell ∨ env.kindOf x = some .free) ∧ ∃ c, env.cells.lookup x = some c ∧ h.IsCell c (some u))
structure Cx.Ok (X : Cx) : Prop where
  mod : Mod X.K X.mg X.base
  kind : X.env.scope.kind = .function
  glob : X.env.globals = mainGlobals
  blt : X.env.builtins = builtinsNs
  above : X.s₀.heap.objs.size ≤ X.env.locals
  inj : ∀ x y c, X.env.cells.lookup x = some c → X.env.cells.lookup y = some c → x = y
  has : ∀ x, (X.env.kindOf x = some .cell ∨ X.env.kindOf x = some .free) → ∃ c, X.env.cells.lookup x = some c
  cab : ∀ x c, X.fn x = true → X.env.cells.lookup x = some c → X.s₀.heap.objs.size ≤ c
  hd : X.calm = true → X.A.handled = none
  frames : X.A.frames = some X.stack
  stk : X.stack = X.outer ∨ (X.stack = X.env :: X.outer ∧ X.env.frame = some X.env.locals)
  exf : ∀ b ∈ X.ex, b ≠ X.env.locals ∧ ∀ x c, X.env.cells.lookup x = some c → c ≠ b
  bs : ∀ b o, X.base.get? b = some o → X.s₀.heap.get? b = some o ∧ X.H₀ b = none
  bsz : X.base.objs.size ≤ X.s₀.heap.objs.size
  noex : ∀ b o, X.base.get? b = some o → b ∉ X.ex
  exfs : ∀ b ∈ X.ex, b ∉ X.fs
  funs : X.s₀.heap.FunFrames X.base X.outer
  frf : ∀ b ∈ X.fs, X.H₀ b = none
structure Inv (X : Cx) (pins : List (Addr × Obj)) (σ : List (Option V)) (H : Hp) (s : Shared) : Prop where
  ok : X.Ok
  os : s.os = X.s₀.os
  bare : AllBare s.gens
  base : Un X.fs X.ex X.H₀ H X.s₀.heap s.heap
  loc : ∃ m, s.heap.Ns X.env.locals m ∧ ∀ (i : Nat) (x : Str) (v : V), X.N[i]? = some x → σ[i]? = some (some v) → Vis X.env.scope x → ∃ u, RelV v u ∧ Look X.env s.heap m x u
  cell : ∀ x c, X.env.cells.lookup x = some c → ∃ v, s.heap.IsCell c v
  free : H X.env.locals = none
  freeC : ∀ x c, X.env.cells.lookup x = some c → H c = none
  pin : ∀ p ∈ X.pn ++ pins, s.heap.get? p.1 = some p.2 ∧ H p.1 = none ∧ p.1 ≠ X.env.locals ∧ p.1 ∉ X.fs ∧ ∀ v, p.2.data ≠ .cell v
  hok : HOk X.prog X.w H s.heap
  len : σ.length = X.N.length
section
variable {X : Cx} {pins : List (Addr × Obj)} {σ : List (Option V)} {H H' : Hp} {s : Shared} {h' : Heap}
theorem Cx.Ok.nofr (ok : X.Ok) {b : Addr} {o : Obj} (e : X.base.get? b = some o) : b ∉ X.fs := fun hb => by
  have := (ok.funs.mem hb).1
  rw [e] at this; cases this
theorem Inv.bs (I : Inv X pins σ H s) : ∀ b o, X.base.get? b = some o → s.heap.get? b = some o ∧ H b = none := fun b o e =>
  ⟨I.base.keep b o (I.ok.bs b o e).1 (I.ok.bs b o e).2 (I.ok.nofr e) (I.ok.noex b o e), I.base.free b o (I.ok.bs b o e).1 (I.ok.bs b o e).2 (I.ok.noex b o e)⟩
theorem Inv.bk (I : Inv X pins σ H s) : ∀ b o, X.base.get? b = some o → s.heap.get? b = some o := fun b o e => (I.bs b o e).1
theorem Inv.mod (I : Inv X pins σ H s) : Mod X.K X.mg X.base := I.ok.mod
theorem Inv.kIn (I : Inv X pins σ H s) : X.K.In s.heap := I.ok.mod.kin.keeps I.bk
theorem Inv.lt (I : Inv X pins σ H s) : X.env.locals < s.heap.objs.size := let ⟨_, hn, _⟩ := I.loc; hn.lt
theorem Inv.sz (I : Inv X pins σ H s) : X.s₀.heap.objs.size ≤ s.heap.objs.size := Nat.le_trans I.ok.above (Nat.le_of_lt I.lt)
theorem Inv.nofs (I : Inv X pins σ H s) {a : Addr} (h : s.heap.objs.size ≤ a) : a ∉ X.fs := fun hb => by
  obtain ⟨_, o, ho, _⟩ := I.ok.funs.mem hb
  exact absurd (Nat.lt_of_lt_of_le (Heap.lt_size ho) (Nat.le_trans I.sz h)) (Nat.lt_irrefl _)
theorem Inv.cne (I : Inv X pins σ H s) : ∀ x c, X.env.cells.lookup x = some c → c ≠ X.env.locals := fun x c e z => by
  obtain ⟨v, o, ho, hd⟩ := I.cell x c e
  obtain ⟨m, ⟨o', es, ep, ho', hd', _⟩, _⟩ := I.loc
  rw [z, ho'] at ho; cases ho; rw [hd'] at hd; cases hd
theorem Inv.funs (I : Inv X pins σ H s) : s.heap.FunFrames X.base X.outer := by
  have all : ∀ (l : List Env), (∀ b ∈ frs l, b ∈ X.fs) → X.s₀.heap.FunFrames X.base l → s.heap.FunFrames X.base l := by
    intro l
    induction l with
    | nil => intro _ _; trivial
    | cons env r ih =>
      intro hs hl
      obtain ⟨hk, ⟨L, o, hf, hn, ho, hd⟩, hr⟩ := hl
      have hL : L ∈ X.fs := hs L (by unfold frs; rw [List.filterMap_cons, hf]; exact List.mem_cons_self)
      obtain ⟨sl, e⟩ := I.base.slot L o ho (I.ok.frf L hL) hL fun z => I.ok.exfs L z hL
      exact ⟨hk, ⟨L, _, hf, hn, e, hd⟩, ih (fun b hb => hs b (by unfold frs; rw [List.filterMap_cons, hf]; exact List.mem_cons_of_mem _ hb)) hr⟩
  exact all X.outer (fun _ hb => hb) I.ok.funs
theorem Inv.stack (I : Inv X pins σ H s) : s.heap.FunFrames X.base X.stack := by
  rcases I.ok.stk with e | ⟨e, hf⟩
  · rw [e]; exact I.funs
  · rw [e]
    obtain ⟨m, hn, _⟩ := I.loc
    refine .cons (by rw [I.ok.kind]; decide) hf hn ?_ I.funs
    exact Heap.get?_none_of_le (Nat.le_trans I.ok.bsz I.ok.above)
theorem Inv.stkSub (I : Inv X pins σ H s) : ∀ b ∈ frs X.stack, b ∈ X.env.locals :: X.fs := fun b hb => by
  rcases I.ok.stk with e | ⟨e, hf⟩
  · rw [e] at hb; exact List.mem_cons_of_mem _ hb
  · rw [e] at hb
    unfold frs at hb
    rw [List.filterMap_cons, hf] at hb
    exact hb
theorem Inv.stkFree (I : Inv X pins σ H s) : ∀ b ∈ frs X.stack, H b = none := fun b hb => by
  rcases List.mem_cons.mp (I.stkSub b hb) with e | hb
  · rw [e]; exact I.free
  · obtain ⟨_, o, ho, _⟩ := I.ok.funs.mem hb
    exact I.base.free b o ho (I.ok.frf b hb) fun z => I.ok.exfs b z hb
theorem Inv.step {g' : Array GenState} {t' : Nat} {d' : Drawn} {ch : List Addr} (I : Inv X pins σ H s)
    (hch : ∀ b ∈ ch, (b ∈ X.ex ∨ X.s₀.heap.objs.size ≤ b) ∧ b ≠ X.env.locals ∧ (∀ x c, X.env.cells.lookup x = some c → c ≠ b) ∧ ∀ p ∈ X.pn ++ pins, p.1 ≠ b)
    (keep : ∀ b o, b ≠ X.env.locals → b ∉ X.fs → b ∉ ch → s.heap.get? b = some o → H b = none → h'.get? b = some o)
    (slot : ∀ b o, b ≠ X.env.locals → b ∈ X.fs → b ∉ ch → s.heap.get? b = some o → H b = none → ∃ sl, h'.get? b = some { o with slots := sl }) (free : ∀ b o, b ∉ ch → s.heap.get? b = some o → H b = none → H' b = none)
    (there : ∀ b o, b ∉ ch → s.heap.get? b = some o → ∃ o', h'.get? b = some o')
    (tups : ∀ b xs, H b = some (.tup xs) → H' b = some (.tup xs)) (frzs : ∀ b o u, H b = some (.frz o u) → H' b = some (.frz o u)) (tbls : ∀ b ps, H b = some (.tbl ps) → ∃ more, H' b = some (.tbl (ps ++ more)))
    (ns : ∀ m, s.heap.Ns X.env.locals m → h'.Ns X.env.locals m) (hok : HOk X.prog X.w H' h') (hg : AllBare g') :
    Inv X pins σ H' { s with heap := h', gens := g', drawn := d', toks := t' } := by
  have neL : ∀ b o, X.s₀.heap.get? b = some o → b ≠ X.env.locals := fun b o e => Nat.ne_of_lt (Nat.lt_of_lt_of_le (Heap.lt_size e) I.ok.above)
  have neC : ∀ b o, X.s₀.heap.get? b = some o → b ∉ X.ex → b ∉ ch := fun b o e hx hb => by
    rcases (hch b hb).1 with z | z
    · exact hx z
    · exact absurd (Nat.lt_of_lt_of_le (Heap.lt_size e) z) (Nat.lt_irrefl _)
  have cellK : ∀ x c, X.env.cells.lookup x = some c → ∀ v, s.heap.IsCell c v → h'.IsCell c v := fun x c e v ⟨o, ho, hd⟩ => by
    have nch : c ∉ ch := fun z => (hch c z).2.2.1 x c e rfl
    by_cases hc : c ∈ X.fs
    · obtain ⟨sl, q⟩ := slot c o (I.cne x c e) hc nch ho (I.freeC x c e)
      exact ⟨_, q, hd⟩
    · exact ⟨o, keep c o (I.cne x c e) hc nch ho (I.freeC x c e), hd⟩
  refine ⟨I.ok, I.os, hg, ⟨fun b o e n hb hx => ?_, fun b o e n hb hx => ?_, fun b o e n hx => ?_, fun b o e hx => ?_, fun b xs e => tups b xs (I.base.tups b xs e), fun b o xs e => frzs b o xs (I.base.frzs b o xs e), fun b ps e => ?_⟩, ?_, fun x c e => ?_, ?_, fun x c e => ?_, fun p hp => ?_, hok, I.len⟩
  · exact keep b o (neL b o e) hb (neC b o e hx) (I.base.keep b o e n hb hx) (I.base.free b o e n hx)
  · obtain ⟨sl, e1⟩ := I.base.slot b o e n hb hx
    obtain ⟨sl', e2⟩ := slot b _ (neL b o e) hb (neC b o e hx) e1 (I.base.free b o e n hx)
    exact ⟨sl', e2⟩
  · obtain ⟨o', e1⟩ := I.base.there b o e hx
    exact free b o' (neC b o e hx) e1 (I.base.free b o e n hx)
  · obtain ⟨o', e1⟩ := I.base.there b o e hx
    exact there b o' (neC b o e hx) e1
  · obtain ⟨m1, e1⟩ := I.base.tbls b ps e
    obtain ⟨m2, e2⟩ := tbls b _ e1
    exact ⟨m1 ++ m2, by rw [e2, Array.append_assoc]⟩
  · obtain ⟨m, hn, hl⟩ := I.loc
    refine ⟨m, ns m hn, fun i x v e1 e2 e3 => ?_⟩
    obtain ⟨u, r, l⟩ := hl i x v e1 e2 e3
    refine ⟨u, r, ?_⟩
    rcases l with l | ⟨k, c, e, z⟩
    · exact .inl l
    · exact .inr ⟨k, c, e, cellK x c e _ z⟩
  · obtain ⟨v, z⟩ := I.cell x c e
    exact ⟨v, cellK x c e v z⟩
  · obtain ⟨m, ⟨o, _, _, ho, _⟩, _⟩ := I.loc
    exact free _ o (fun z => (hch _ z).2.1 rfl) ho I.free
  · obtain ⟨v, o, ho, hd⟩ := I.cell x c e
    exact free c o (fun z => (hch c z).2.2.1 x c e rfl) ho (I.freeC x c e)
  · obtain ⟨e, n, ne, nf, d⟩ := I.pin p hp
    have nch : p.1 ∉ ch := fun z => (hch p.1 z).2.2.2 p hp rfl
    exact ⟨keep p.1 p.2 ne nf nch e n, free p.1 p.2 nch e n, ne, nf, d⟩
theorem Inv.un {t' : Nat} (I : Inv X pins σ H s) (u : Un X.fs [] H H' s.heap h') (hok : HOk X.prog X.w H' h') : Inv X pins σ H' { s with heap := h', toks := t' } := by
  obtain ⟨m, ⟨o, es, ep, ho, r⟩, _⟩ := id I.loc
  obtain ⟨sl, hL⟩ := u.any ho I.free (by simp)
  exact I.step (g' := s.gens) (d' := s.drawn) (ch := []) (fun _ z => nomatch z) (fun b o _ hb _ e n => u.keep b o e n hb (by simp)) (fun b o _ hb _ e n => u.slot b o e n hb (by simp)) (fun b o _ e n => u.free b o e n (by simp)) (fun b o _ e => u.there b o e (by simp)) u.tups u.frzs u.tbls (fun m' hm => by
    obtain ⟨o', es', ep', ho', r'⟩ := hm
    rw [ho] at ho'; cases ho'
    exact ⟨_, es', ep', hL, r'⟩) hok I.bare
theorem Inv.call {g' : Array GenState} {t' : Nat} {d' : Drawn} {ch : List Addr} (I : Inv X pins σ H s) (u : Un (frs X.stack) ch H H' s.heap h') (hok : HOk X.prog X.w H' h') (hg : AllBare g')
    (hch : ∀ b ∈ ch, (b ∈ X.ex ∨ X.s₀.heap.objs.size ≤ b) ∧ b ≠ X.env.locals ∧ (∀ x c, X.env.cells.lookup x = some c → c ≠ b) ∧ ∀ p ∈ X.pn ++ pins, p.1 ≠ b) :
    Inv X pins σ H' { s with heap := h', gens := g', drawn := d', toks := t' } := by
  obtain ⟨m, ⟨o, es, ep, ho, r⟩, _⟩ := id I.loc
  obtain ⟨sl, hL⟩ := u.any ho I.free fun z => (hch _ z).2.1 rfl
  exact I.step (ch := ch) hch (fun b o hL hb hc e n => u.keep b o e n (fun z => (List.mem_cons.mp (I.stkSub b z)).elim hL hb) hc) (fun b o _ _ hc e n => u.any e n hc) (fun b o hc e n => u.free b o e n hc) (fun b o hc e => u.there b o e hc) u.tups u.frzs u.tbls (fun m' hm => by
    obtain ⟨o', es', ep', ho', r'⟩ := hm
    rw [ho] at ho'; cases ho'
    exact ⟨_, es', ep', hL, r'⟩) hok hg
theorem Inv.turned {t' : Nat} {it : Addr} (I : Inv X pins σ H s) (k : ∀ b o, b ≠ it → s.heap.get? b = some o → h'.get? b = some o) (hn : H it = none) (hL : it ≠ X.env.locals)
    (h1 : it ∈ X.ex ∨ X.s₀.heap.objs.size ≤ it) (h2 : ∀ x c, X.env.cells.lookup x = some c → c ≠ it) (h3 : ∀ p ∈ X.pn ++ pins, p.1 ≠ it) : Inv X pins σ H { s with heap := h', toks := t' } := by
  have nit : ∀ b u, H b = some u → b ≠ it := fun b u e z => by rw [z, hn] at e; cases e
  refine I.step (g' := s.gens) (d' := s.drawn) (ch := [it]) (fun b hb => ?_) (fun b o _ _ hc e _ => k b o (fun z => hc (by simp [z])) e) (fun b o _ _ hc e _ => ⟨o.slots, k b o (fun z => hc (by simp [z])) e⟩) (fun _ _ _ _ n => n)
    (fun b o hc e => ⟨o, k b o (fun z => hc (by simp [z])) e⟩) (fun _ _ e => e) (fun _ _ _ e => e) (fun b ps e => ⟨#[], by rw [e]; simp⟩) (fun m hm => ?_) (fun b u e => ?_) I.bare
  · have e : b = it := by simpa using hb
    subst e
    exact ⟨h1, hL, h2, h3⟩
  · obtain ⟨o, es, ep, ho, r⟩ := hm
    exact ⟨o, es, ep, k _ o (Ne.symm hL) ho, r⟩
  · refine (I.hok b u e).stay (fun c v hc q => k c v ?_ q) (fun _ q => q) fun _ _ q => q
    rcases hc with z | z
    · rw [z]; exact nit b u e
    · exact nit c _ z
theorem Inv.tok (I : Inv X pins σ H s) (t : Nat) : Inv X pins σ H { s with toks := t } := I.un (h' := s.heap) (t' := t) Un.refl I.hok
theorem Inv.kept {t' : Nat} (I : Inv X pins σ H s) (k : ∀ b u, s.heap.get? b = some u → h'.get? b = some u) : Inv X pins σ H { s with heap := h', toks := t' } := I.un (Un.kept k) (I.hok.kept k)
theorem Inv.laid {a : Addr} {o : HO} {t' : Nat} (I : Inv X pins σ H s) (k : ∀ b u, s.heap.get? b = some u → h'.get? b = some u) (hp : s.heap.objs.size ≤ a) (new : ObjOk X.prog X.w (upd H a o) h' a o) :
    Inv X pins σ (upd H a o) { s with heap := h', toks := t' } := I.un (Un.laid k hp (I.hok.fresh hp)) (I.hok.laid k hp new)
theorem Inv.write {x e : Addr} {o : HO} {t' : Nat} (I : Inv X pins σ H s) (mu : Mut (H x)) (he : e = x ∨ H e = some (.own x)) (k : ∀ b u, b ≠ e → s.heap.get? b = some u → h'.get? b = some u) (heo : ∃ u, h'.get? e = some u)
    (new : ObjOk X.prog X.w (upd H x o) h' x o) : Inv X pins σ (upd H x o) { s with heap := h', toks := t' } := I.un (Un.write mu he k heo) (I.hok.write mu he k heo new)
theorem Inv.weak {σ' : List (Option V)} (I : Inv X pins σ H s) (hl : σ'.length = σ.length) (w : ∀ (i : Nat) v, σ'[i]? = some (some v) → σ[i]? = some (some v)) : Inv X pins σ' H s :=
  ⟨I.ok, I.os, I.bare, I.base, let ⟨m, hn, hl'⟩ := I.loc; ⟨m, hn, fun i x v e1 e2 e3 => hl' i x v e1 (w i v e2) e3⟩, I.cell, I.free, I.freeC, I.pin, I.hok, hl.trans I.len⟩
theorem Inv.pins_of {pins' : List (Addr × Obj)} (I : Inv X pins σ H s) (h : ∀ p ∈ pins', s.heap.get? p.1 = some p.2 ∧ H p.1 = none ∧ p.1 ≠ X.env.locals ∧ p.1 ∉ X.fs ∧ ∀ v, p.2.data ≠ .cell v) : Inv X pins' σ H s :=
  ⟨I.ok, I.os, I.bare, I.base, I.loc, I.cell, I.free, I.freeC, fun p hp => (List.mem_append.mp hp).elim (fun z => I.pin p (List.mem_append_left _ z)) (h p), I.hok, I.len⟩
theorem nodup_ix {N : List Str} (hN : N.Nodup) {i j : Nat} {x : Str} (a : N[i]? = some x) (b : N[j]? = some x) : i = j := by
  obtain ⟨h1, e1⟩ := List.getElem?_eq_some_iff.mp a
  obtain ⟨h2, e2⟩ := List.getElem?_eq_some_iff.mp b
  exact (List.getElem_inj hN).mp (e1.trans e2.symm)
theorem store_ok2 {M : Model} {A : Around} {E : Value → Shared → Prop} {i : Nat} {x : Str} {v : V} {u : Value} {Q : Unit → Shared → Prop} (I : Inv X pins σ H s) (hN : X.N.Nodup) (hi : X.N[i]? = some x) (hx : Loc X.env.scope x) (r : RelV v u)
    (h : ∀ s', Inv X pins (σ.set i (some v)) H s' → (∃ a, Heap.SameBut a s.heap s'.heap ∧ (a = X.env.locals ∨ X.env.cells.lookup x = some a)) → Q () s') (hf : X.fn x = true ∨ X.env.scope.names.lookup x = some .local := by first | exact .inl rfl | exact .inr rfl | assumption) : wpAny M A (storeName X.env x u) Q E s := by
  obtain ⟨m, hn, hl⟩ := id I.loc
  have hcls : (X.env.scope.kind == .class || (X.env.scope.kind == .module && X.env.locals != X.env.globals)) = false := by rw [I.ok.kind]; rfl
  have hiσ : i < σ.length := by rw [I.len]; exact (List.getElem?_eq_some_iff.mp hi).1
  have cne := I.cne
  have tracked : ∀ {a : Addr} {h' : Heap}, (∃ o, s.heap.get? a = some o ∧ H a = none) → Heap.SameBut a s.heap h' → HOk X.prog X.w H h' := fun {a h'} ha hs b ob e => by
    obtain ⟨_, _, hfree⟩ := ha
    refine (I.hok b ob e).stay (fun c w' hc q => (hs.2 c ?_).trans q) (fun _ q => q) fun _ _ q => q
    rintro rfl
    rcases hc with rfl | hc
    · rw [hfree] at e; cases e
    · rw [hfree] at hc; cases hc
  rcases hx with hk | hk
  · refine wpAny_storeName_local hk hn (fun h' hn' hs => ?_) hcls
    obtain ⟨oL, _, _, hoL, _⟩ := id hn
    refine h _ ⟨I.ok, I.os, I.bare, ⟨fun b o e n hb hx => ?_, fun b o e n hb hx => ?_, I.base.free, fun b o e hx => ?_, I.base.tups, I.base.frzs, I.base.tbls⟩, ⟨_, hn', fun j y v' e1 e2 e3 => ?_⟩, fun y c e => ?_, I.free, I.freeC, fun p hp => ?_, tracked ⟨oL, hoL, I.free⟩ hs, by simpa using I.len⟩ ⟨_, hs, .inl rfl⟩
    · exact (hs.2 b (Nat.ne_of_lt (Nat.lt_of_lt_of_le (Heap.lt_size e) I.ok.above))).trans (I.base.keep b o e n hb hx)
    · obtain ⟨sl, e1⟩ := I.base.slot b o e n hb hx
      exact ⟨sl, (hs.2 b (Nat.ne_of_lt (Nat.lt_of_lt_of_le (Heap.lt_size e) I.ok.above))).trans e1⟩
    · obtain ⟨o', e1⟩ := I.base.there b o e hx
      exact ⟨o', (hs.2 b (Nat.ne_of_lt (Nat.lt_of_lt_of_le (Heap.lt_size e) I.ok.above))).trans e1⟩
    · by_cases hj : j = i
      · subst hj
        rw [hi] at e1; cases e1
        rw [List.getElem?_set_self hiσ] at e2
        cases e2
        exact ⟨u, r, .inl ⟨hk, by simp⟩⟩
      · rw [List.getElem?_set_ne (Ne.symm hj)] at e2
        obtain ⟨u', r', q⟩ := hl j y v' e1 e2 e3
        refine ⟨u', r', ?_⟩
        rcases q with ⟨k, e⟩ | ⟨k, c, e, z⟩
        · refine .inl ⟨k, ?_⟩
          have : y ≠ x := fun e => hj (nodup_ix hN e1 (e ▸ hi))
          simp [this, e]
        · exact .inr ⟨k, c, e, z.sameBut hs (cne y c e)⟩
    · obtain ⟨w', z⟩ := I.cell y c e
      exact ⟨w', z.sameBut hs (cne y c e)⟩
    · obtain ⟨e, n, ne, nf, d⟩ := I.pin p hp
      exact ⟨(hs.2 p.1 ne).trans e, n, ne, nf, d⟩
  · have hfn : X.fn x = true := by
      rcases hf with z | z
      · exact z
      · rw [z] at hk; cases hk
    obtain ⟨c, hc⟩ := I.ok.has x (.inl hk)
    obtain ⟨w', z⟩ := I.cell x c hc
    refine wpAny_storeName_cell I.ok.kind hk hc z (fun h' hc' hs => ?_)
    obtain ⟨oc, hoc, hocd⟩ := id z
    refine h { s with heap := h' } ⟨I.ok, I.os, I.bare, ⟨fun b o e n hb hx => ?_, fun b o e n hb hx => ?_, I.base.free, fun b o e hx => ?_, I.base.tups, I.base.frzs, I.base.tbls⟩, ⟨m, hn.sameBut hs (Ne.symm (cne x c hc)), fun j y v' e1 e2 e3 => ?_⟩, fun y c' e => ?_, I.free, I.freeC, fun p hp => ?_, tracked ⟨oc, hoc, I.freeC x c hc⟩ hs, by simpa using I.len⟩ ⟨c, hs, .inr hc⟩
    · exact (hs.2 b (Nat.ne_of_lt (Nat.lt_of_lt_of_le (Heap.lt_size e) (I.ok.cab x c hfn hc)))).trans (I.base.keep b o e n hb hx)
    · obtain ⟨sl, e1⟩ := I.base.slot b o e n hb hx
      exact ⟨sl, (hs.2 b (Nat.ne_of_lt (Nat.lt_of_lt_of_le (Heap.lt_size e) (I.ok.cab x c hfn hc)))).trans e1⟩
    · obtain ⟨o', e1⟩ := I.base.there b o e hx
      exact ⟨o', (hs.2 b (Nat.ne_of_lt (Nat.lt_of_lt_of_le (Heap.lt_size e) (I.ok.cab x c hfn hc)))).trans e1⟩
    · by_cases hj : j = i
      · subst hj
        rw [hi] at e1; cases e1
        rw [List.getElem?_set_self hiσ] at e2
        cases e2
        exact ⟨u, r, .inr ⟨.inl hk, c, hc, hc'⟩⟩
      · rw [List.getElem?_set_ne (Ne.symm hj)] at e2
        obtain ⟨u', r', q⟩ := hl j y v' e1 e2 e3
        refine ⟨u', r', ?_⟩
        rcases q with q | ⟨k, c', e, z'⟩
        · exact .inl q
        · refine .inr ⟨k, c', e, z'.sameBut hs ?_⟩
          rintro rfl
          exact hj (nodup_ix hN e1 (I.ok.inj _ _ _ e hc ▸ hi))
    · by_cases hcc : c' = c
      · subst hcc; exact ⟨_, hc'⟩
      · obtain ⟨w2, z2⟩ := I.cell y c' e
        exact ⟨w2, z2.sameBut hs hcc⟩
    · obtain ⟨e, n, ne, nf, d⟩ := I.pin p hp
      refine ⟨(hs.2 p.1 ?_).trans e, n, ne, nf, d⟩
      intro q
      rw [q, hoc] at e
      have q' : oc = p.2 := Option.some.inj e
      exact d w' (by rw [← q']; exact hocd)
theorem store_ok {M : Model} {A : Around} {E : Value → Shared → Prop} {i : Nat} {x : Str} {v : V} {u : Value} {Q : Unit → Shared → Prop} (I : Inv X pins σ H s) (hN : X.N.Nodup) (hi : X.N[i]? = some x) (hx : Loc X.env.scope x) (r : RelV v u)
    (h : ∀ s', Inv X pins (σ.set i (some v)) H s' → Q () s') (hf : X.fn x = true ∨ X.env.scope.names.lookup x = some .local := by first | exact .inl rfl | exact .inr rfl | assumption) : wpAny M A (storeName X.env x u) Q E s :=
  store_ok2 I hN hi hx r (fun s' I' _ => h s' I') hf
theorem Inv.call' {s' : Shared} {ch : List Addr} (I : Inv X pins σ H s) (ho : s'.os = s.os) (u : Un (frs X.stack) ch H H' s.heap s'.heap) (hok : HOk X.prog X.w H' s'.heap) (hg : AllBare s'.gens)
    (hch : ∀ b ∈ ch, (b ∈ X.ex ∨ X.s₀.heap.objs.size ≤ b) ∧ b ≠ X.env.locals ∧ (∀ x c, X.env.cells.lookup x = some c → c ≠ b) ∧ ∀ p ∈ X.pn ++ pins, p.1 ≠ b) : Inv X pins σ H' s' := by
  obtain ⟨h', g', d', t', o'⟩ := s'
  have e : o' = s.os := ho
  subst e
  exact I.call (g' := g') (t' := t') (d' := d') u hok hg hch
end
abbrev XK := Value → Option Addr → Hp → Prop
abbrev St := List (Option V)
abbrev VK := V → Hp → Prop
abbrev TE := St → Hp → VK → Prop
abbrev TT := St → Hp → (Bool → Hp → Prop) → Prop
abbrev TA := St → Hp → (List V → Hp → Prop) → Prop
structure Ends where
  nx : St → Hp → Prop
  rt : VK
  bk : St → Hp → Prop := fun _ _ => False
  ct : St → Hp → Prop := fun _ _ => False
abbrev TS := Ends → St → Hp → Prop
def EP (X : Cx) (pins : List (Addr × Obj)) (σ : St) (Q : VK) (u : Value) (s' : Shared) : Prop := ∃ v H', Inv X pins σ H' s' ∧ RelV v u ∧ Q v H'
def TP (X : Cx) (pins : List (Addr × Obj)) (σ : St) (Q : Bool → Hp → Prop) (b : Bool) (s' : Shared) : Prop := ∃ H', Inv X pins σ H' s' ∧ Q b H'
def AP (X : Cx) (pins : List (Addr × Obj)) (σ : St) (Q : List V → Hp → Prop) (us : List Value) (s' : Shared) : Prop := ∃ vs H', Inv X pins σ H' s' ∧ Vals vs us ∧ Q vs H'
def SP (X : Cx) (pins : List (Addr × Obj)) (D : Ends) (f : Flow) (s' : Shared) : Prop :=
  match f with
  | .next => ∃ σ' H', Inv X pins σ' H' s' ∧ D.nx σ' H'
  | .brk => ∃ σ' H', Inv X pins σ' H' s' ∧ D.bk σ' H'
  | .cont => ∃ σ' H', Inv X pins σ' H' s' ∧ D.ct σ' H'
  | .ret u => ∃ v σ' H', Inv X pins σ' H' s' ∧ RelV v u ∧ D.rt v H'
def PE (X : Cx) (e : Expr) (t : TE) : Prop :=
  ∀ (pins : List (Addr × Obj)) (s : Shared) (σ : St) (H : Hp) (Q : VK), Inv X pins σ H s → t σ H Q → wpAny (model X.prog X.w) X.A (eval e X.env) (EP X pins σ Q) X.xe s
def PT (X : Cx) (e : Expr) (t : TT) : Prop :=
  ∀ (pins : List (Addr × Obj)) (s : Shared) (σ : St) (H : Hp) (Q : Bool → Hp → Prop), Inv X pins σ H s → t σ H Q → wpAny (model X.prog X.w) X.A (isTrue e X.env (eval e X.env)) (TP X pins σ Q) X.xe s
def PW (X : Cx) (e : Expr) (t : TT) : Prop :=
  ∀ (whole : Sem Value) (pins : List (Addr × Obj)) (s : Shared) (σ : St) (H : Hp) (Q : Bool → Hp → Prop), Inv X pins σ H s → t σ H Q → wpAny (model X.prog X.w) X.A (isTrue e X.env whole) (TP X pins σ Q) X.xe s
theorem PW.pt {X : Cx} {e : Expr} {t : TT} (h : PW X e t) : PT X e t := h _
def PA (X : Cx) (es : List Expr) (t : TA) : Prop :=
  ∀ (pos : Pos) (pins : List (Addr × Obj)) (s : Shared) (σ : St) (H : Hp) (Q : List V → Hp → Prop), Inv X pins σ H s → t σ H Q → wpAny (model X.prog X.w) X.A (spliced (backTo pos (starEach es X.env))) (AP X pins σ Q) X.xe s
def PS (X : Cx) (st : Stmt) (t : TS) : Prop :=
  ∀ (pins : List (Addr × Obj)) (s : Shared) (σ : St) (H : Hp) (D : Ends), Inv X pins σ H s → t D σ H → wpAny (model X.prog X.w) X.A (exec st X.env) (SP X pins D) X.xe s
def PSs (X : Cx) (st : List Stmt) (t : TS) : Prop :=
  ∀ (pins : List (Addr × Obj)) (s : Shared) (σ : St) (H : Hp) (D : Ends), Inv X pins σ H s → t D σ H → wpAny (model X.prog X.w) X.A (execs st X.env) (SP X pins D) X.xe s
theorem thn {α : Type} {t : Sem α} {Q Q' : α → Shared → Prop} {M : Model} {A : Around} {E : Value → Shared → Prop} {s : Shared} (h : wpAny M A t Q E s) (hQ : ∀ a s, Q a s → Q' a s) : wpAny M A t Q' E s := wpAny_mono h hQ fun _ _ x => x
end L2
namespace L2
open PySem PySem.Spec PyProof.Rows
section
variable {X : Cx}
def tVar (i : Nat) : TE := fun σ H Q => ∃ v, σ[i]? = some (some v) ∧ Q v H
def tC (v : V) : TE := fun _ H Q => Q v H
theorem pe_var {i : Nat} {x : Str} {pos : Pos} (hN : X.N[i]? = some x) (hv : Vis X.env.scope x) (hd : (x == ("__debug__" : Str)) = false := by decide) (hcd : (x == ("__classdict__" : Str)) = false := by decide) : PE X (.Name x pos) (tVar i) := by
  intro pins s σ H Q I h
  obtain ⟨v, e, h⟩ := h
  obtain ⟨m, hn, hl⟩ := I.loc
  obtain ⟨u, r, l⟩ := hl i x v hN e hv
  have fin : EP X pins σ Q u s := ⟨v, H, I, r, h⟩
  rcases l with ⟨hk, hm⟩ | ⟨hk, c, hc, hcell⟩
  · exact wpAny_Name (wpAny_loadName_local I.ok.kind hk hn hm fin) hd
  · rcases hk with hk | hk
    · exact wpAny_Name (wpAny_loadName_cell I.ok.kind hk hc hcell fin) hd
    · exact wpAny_Name (wpAny_loadName_free I.ok.kind hk hc hcell fin hcd) hd
theorem pe_int {i j pos} : PE X (.Constant (.int i) j pos) (tC (.int i)) := fun _ _ _ H _ I h => wpAny_Constant_int ⟨.int i, H, I.tok _, ⟨_, rfl⟩, h⟩
theorem pe_bl {b j pos} : PE X (.Constant (.bool b) j pos) (tC (.bl b)) := fun _ _ _ H _ I h => Constant_bool ⟨.bl b, H, I, rfl, h⟩
theorem pe_non {j pos} : PE X (.Constant .none j pos) (tC .non) := fun _ _ _ H _ I h => Constant_none ⟨.non, H, I, rfl, h⟩
theorem pe_str {x j pos} : PE X (.Constant (.str x) j pos) (tC (.str x)) := fun _ _ _ H _ I h => Calls.Constant_str ⟨.str x, H, I.tok _, ⟨_, rfl⟩, h⟩
def Gl (X : Cx) (x : Str) : Prop := X.env.kindOf x = some .globalImplicit
theorem ld_glob {E : Value → Shared → Prop} {pins : List (Addr × Obj)} {s : Shared} {σ : St} {H : Hp} {x : Str} {u : Value} {pos : Pos} {Q : Value → Shared → Prop} (I : Inv X pins σ H s) (hg : Gl X x) (hm : X.mg x = some u) (h : Q u s)
    (hd : (x == ("__debug__" : Str)) = false := by decide) : wpAny (model X.prog X.w) X.A (eval (.Name x pos) X.env) Q E s :=
  Calls.Name_function_global I.ok.kind hg (Calls.loadGlobal_global (by rw [I.ok.glob]; exact I.mod.glob.keeps I.bk) hm h) hd
theorem ld_blt {E : Value → Shared → Prop} {pins : List (Addr × Obj)} {s : Shared} {σ : St} {H : Hp} {x : Str} {u : Value} {pos : Pos} {Q : Value → Shared → Prop} (I : Inv X pins σ H s) (hg : Gl X x) (hm : X.mg x = none) (hv : bootBuiltins x = some u) (h : Q u s)
    (hn : x ≠ "__name__" := by decide) (hd : (x == ("__debug__" : Str)) = false := by decide) : wpAny (model X.prog X.w) X.A (eval (.Name x pos) X.env) Q E s := by
  obtain ⟨mb, h1, h2⟩ := I.mod.blt
  exact Calls.Name_function_global I.ok.kind hg (Calls.loadGlobal_builtin (by rw [I.ok.glob]; exact I.mod.glob.keeps I.bk) hm (by rw [I.ok.blt]; exact h1.keeps I.bk) ((h2 x hn).trans hv) h) hd
theorem pe_glob {x : Str} {v : V} {u : Value} {pos : Pos} (hg : Gl X x) (hm : X.mg x = some u) (r : RelV v u) (hd : (x == ("__debug__" : Str)) = false := by decide) : PE X (.Name x pos) (tC v) :=
  fun _ _ _ H _ I h => ld_glob I hg hm ⟨v, H, I, r, h⟩ hd
theorem pe_bltn {x : Str} {v : V} {u : Value} {pos : Pos} (hg : Gl X x) (hm : X.mg x = none) (hv : bootBuiltins x = some u) (r : RelV v u) (hn : x ≠ "__name__" := by decide) (hd : (x == ("__debug__" : Str)) = false := by decide) : PE X (.Name x pos) (tC v) :=
  fun _ _ _ H _ I h => ld_blt I hg hm hv ⟨v, H, I, r, h⟩ hn hd
variable {a b : Expr} {ta tb : TE} {pos : Pos}
def tB (t : TE) : TT := fun σ H Q => t σ H fun x H1 => ∃ c, x = .bl c ∧ Q c H1
theorem pt_val {e : Expr} {t : TE} (h : PE X e t) (he : ∀ whole, isTrue e X.env whole = (do let v ← whole; standAt e.pos; holding [v] (truthy v)) := by intro _; rfl) : PT X e (tB t) := by
  intro pins s σ H Q I hw
  refine isTrue_plain (thn (h pins s σ H _ I hw) fun v s1 ⟨x, H1, I1, r1, q1⟩ => ?_) (he _)
  obtain ⟨d, rfl, q⟩ := q1
  cases r1
  exact wpAny_truthy_bool ⟨H1, I1, q⟩
variable {tA tB' : TT} {rest : List Expr}
def tAnd (t u : TT) : TT := fun σ H Q => t σ H fun c H1 => if c = true then u σ H1 Q else Q false H1
def tOr (t u : TT) : TT := fun σ H Q => t σ H fun c H1 => if c = true then Q true H1 else u σ H1 Q
def tNot (t : TT) : TT := fun σ H Q => t σ H fun c H1 => Q (!c) H1
theorem pw_and1 (ha : PT X a tA) : PW X (.BoolOp .And [a] pos) tA := by
  intro wh pins s σ H Q I h
  refine isTrue_and (thn (ha pins s σ H Q I h) fun c s1 e => ?_)
  cases c with
  | true => exact isTrue_and_nil e
  | false => exact e
theorem pw_or1 (ha : PT X a tA) : PW X (.BoolOp .Or [a] pos) tA := by
  intro wh pins s σ H Q I h
  refine isTrue_or (thn (ha pins s σ H Q I h) fun c s1 e => ?_)
  cases c with
  | false => exact isTrue_or_nil e
  | true => exact e
theorem pw_and (ha : PT X a tA) (hb : PW X (.BoolOp .And (b :: rest) pos) tB') : PW X (.BoolOp .And (a :: b :: rest) pos) (tAnd tA tB') := by
  intro wh pins s σ H Q I h
  refine isTrue_and (thn (ha pins s σ H _ I h) fun c s1 ⟨H1, I1, q1⟩ => ?_)
  cases c with
  | true => exact hb wh pins s1 σ H1 Q I1 q1
  | false => exact ⟨H1, I1, q1⟩
theorem pw_or (ha : PT X a tA) (hb : PW X (.BoolOp .Or (b :: rest) pos) tB') : PW X (.BoolOp .Or (a :: b :: rest) pos) (tOr tA tB') := by
  intro wh pins s σ H Q I h
  refine isTrue_or (thn (ha pins s σ H _ I h) fun c s1 ⟨H1, I1, q1⟩ => ?_)
  cases c with
  | true => exact ⟨H1, I1, q1⟩
  | false => exact hb wh pins s1 σ H1 Q I1 q1
theorem pt_not (ha : PT X a tA) : PT X (.UnaryOp .Not a pos) (tNot tA) := by
  intro pins s σ H Q I h
  exact isTrue_not (ha pins s σ H (fun c H1 => Q (!c) H1) I h)
def tAndV (ta tb : TE) : TE := fun σ H Q => ta σ H fun x H1 => ∃ c, x = .bl c ∧ if c = true then tb σ H1 Q else Q (.bl false) H1
theorem pe_one {op} {t : TE} (h : PE X a t) : PE X (.BoolOp op [a] pos) t := fun pins s σ H Q I hw => BoolOp_one (h pins s σ H Q I hw)
theorem pe_and (ha : PE X a ta) (hb : PE X (.BoolOp .And (b :: rest) pos) tb) : PE X (.BoolOp .And (a :: b :: rest) pos) (tAndV ta tb) := by
  intro pins s σ H Q I h
  refine BoolOp_and (thn (ha pins s σ H _ I h) fun v s1 ⟨x, H1, I1, r1, q1⟩ => ?_)
  obtain ⟨c, rfl, q1⟩ := q1
  cases r1
  refine wpAny_truthy_bool ?_
  cases c with
  | true => exact hb pins s1 σ H1 Q I1 q1
  | false => exact ⟨.bl false, H1, I1, rfl, q1⟩
def tIf (t : TT) (ta tb : TE) : TE := fun σ H Q => t σ H fun c H1 => if c = true then ta σ H1 Q else tb σ H1 Q
theorem pe_ifExp {c : Expr} (hc : PT X c tA) (ha : PE X a ta) (hb : PE X b tb) : PE X (.IfExp c a b pos) (tIf tA ta tb) := by
  intro pins s σ H Q I h
  refine wpAny_IfExp (thn (hc pins s σ H _ I h) fun d s1 ⟨H1, I1, q1⟩ => ?_)
  cases d with
  | true => exact ha pins s1 σ H1 Q I1 q1
  | false => exact hb pins s1 σ H1 Q I1 q1
end
end L2
namespace L2
open PySem PySem.Spec PyProof.Rows
def SqL (K : PySem.W.Frag) (H : Hp) (a : Addr) (xs : List V) : Prop :=
  Rd H a (.lst xs) ∨
    ∃ (o : Obj) (its : Array Value) (n : Nat), K.lookup a = some o ∧ o.cls = .type "list" ∧ o.dict = none ∧ o.data = .seq its n ∧ its.size ≤ sizeLine ∧ Vals xs its.toList
def SqT (K : PySem.W.Frag) (H : Hp) (a : Addr) (xs : List V) : Prop :=
  Rd H a (.tup xs) ∨
    ∃ (o : Obj) (its : Array Value) (n : Nat), K.lookup a = some o ∧ o.cls = .type "tuple" ∧ o.data = .seq its n ∧ its.size ≤ sizeLine ∧ Vals xs its.toList
def absV : Value → Option V
  | .none => some .non
  | .bool b => some (.bl b)
  | .int i _ => some (.int i)
  | .str x _ => some (.str x)
  | .bytes b _ => some (.byt b)
  | .float b _ => some (.flt b)
  | .ref a => some (.ref a)
  | .type n => some (.ty n)
  | _ => none
theorem RelV.abs {x : V} {u : Value} (r : RelV x u) : absV u = some x := by
  cases x with
  | non => cases r; rfl
  | bl _ => cases r; rfl
  | int _ => obtain ⟨t, rfl⟩ := r; rfl
  | str _ => obtain ⟨t, rfl⟩ := r; rfl
  | byt _ => obtain ⟨t, rfl⟩ := r; rfl
  | flt _ => obtain ⟨t, rfl⟩ := r; rfl
  | ref _ => cases r; rfl
  | ty _ => cases r; rfl
theorem RelV.inj {x y : V} {u : Value} (r : RelV x u) (q : RelV y u) : x = y := Option.some.inj (r.abs.symm.trans q.abs)
theorem Vals.inj : ∀ {xs ys : List V} {us : List Value}, Vals xs us → Vals ys us → xs = ys
  | _, _, _, .nil, .nil => rfl
  | _, _, _, .cons r t, .cons r' t' => by rw [r.inj r', Vals.inj t t']
section
variable {X : Cx} {pins : List (Addr × Obj)} {σ : St} {H : Hp} {s : Shared} {a : Addr} {xs ys : List V}
theorem SqL.of {K : PySem.W.Frag} (h : H a = some (.lst xs)) : SqL K H a xs := .inl (.inl h)
theorem SqT.of {K : PySem.W.Frag} (h : H a = some (.tup xs)) : SqT K H a xs := .inl (.inl h)
theorem Inv.list (I : Inv X pins σ H s) (h : SqL X.K H a xs) : ∃ its : List Value, Vals xs its ∧ PlainL s.heap a its.toArray ∧ xs.length ≤ sizeLine := by
  rcases h with h | ⟨o, its, n, hk, hc, hd, hs, hz, r⟩
  · obtain ⟨z, its, n, r, e⟩ := h.ok I.hok
    exact ⟨its, r, ⟨_, n, e, rfl, rfl, rfl⟩, z⟩
  · refine ⟨its.toList, r, ⟨o, n, I.kIn a o hk, hc, hd, by simpa using hs⟩, ?_⟩
    have e := r.length
    simp only [Array.length_toList] at e
    omega
theorem Inv.tuple (I : Inv X pins σ H s) (h : SqT X.K H a xs) : ∃ its : List Value, Vals xs its ∧ IsTup s.heap a its.toArray ∧ xs.length ≤ sizeLine := by
  rcases h with h | ⟨o, its, n, hk, hc, hs, hz, r⟩
  · obtain ⟨z, its, r, p⟩ := h.ok I.hok
    exact ⟨its, r, p.is, z⟩
  · refine ⟨its.toList, r, ⟨o, I.kIn a o hk, hc, n, by simpa using hs⟩, ?_⟩
    have e := r.length
    simp only [Array.length_toList] at e
    omega
theorem Inv.tupleO (I : Inv X pins σ H s) (h : H a = some (.tup xs)) : ∃ (its : List Value) (n : Nat), Vals xs its ∧ s.heap.get? a = some { cls := .type "tuple", data := .seq its.toArray n } ∧ xs.length ≤ sizeLine := by
  obtain ⟨z, its, r, n, e⟩ := (show ObjOk X.prog X.w H s.heap a (.tup xs) from I.hok a _ h)
  exact ⟨its, n, r, e, z⟩
theorem Inv.list_inj (I : Inv X pins σ H s) (h : SqL X.K H a xs) (h' : SqL X.K H a ys) : xs = ys := by
  obtain ⟨its, r, ⟨o, n, e, _, _, d⟩, _⟩ := I.list h
  obtain ⟨its', r', ⟨o', n', e', _, _, d'⟩, _⟩ := I.list h'
  rw [e] at e'; cases e'
  rw [d] at d'
  injection d' with d1 _
  have : its = its' := by simpa using congrArg Array.toList d1
  subst this
  exact r.inj r'
theorem Inv.tuple_inj (I : Inv X pins σ H s) (h : SqT X.K H a xs) (h' : SqT X.K H a ys) : xs = ys := by
  obtain ⟨its, r, ⟨o, e, _, n, d⟩, _⟩ := I.tuple h
  obtain ⟨its', r', ⟨o', e', _, n', d'⟩, _⟩ := I.tuple h'
  rw [e] at e'; cases e'
  rw [d] at d'
  injection d' with d1 _
  have : its = its' := by simpa using congrArg Array.toList d1
  subst this
  exact r.inj r'
end
section
variable {X : Cx} {pins : List (Addr × Obj)} {σ : St} {H : Hp} {s : Shared} {E : Value → Shared → Prop}
end
section
variable {X : Cx} {st : Stmt} {rest : List Stmt} {t u : TS} {e : Expr} {te : TE} {pos : Pos}
def tNext : TS := fun D σ H => D.nx σ H
def tSeq (t u : TS) : TS := fun D σ H => t { D with nx := u D } σ H
theorem pss_nil : PSs X [] tNext := fun _ _ σ H _ I h => wpAny_execs_nil ⟨σ, H, I, h⟩
theorem pss_cons (h1 : PS X st t) (h2 : PSs X rest u) : PSs X (st :: rest) (tSeq t u) := by
  intro pins s σ H D I h
  refine wpAny_execs_cons (thn (h1 pins s σ H { D with nx := u D } I h) fun f s1 q => ?_)
  cases f with
  | next =>
    obtain ⟨σ', H', I', q⟩ := q
    exact h2 pins s1 σ' H' D I' q
  | ret v => exact q
  | brk => exact q
  | cont => exact q
theorem pss_one (h1 : PS X st t) : PSs X [st] t := by
  intro pins s σ H D I h
  refine wpAny_execs_cons (thn (h1 pins s σ H D I h) fun f s1 q => ?_)
  cases f with
  | next => exact wpAny_execs_nil q
  | ret v => exact q
  | brk => exact q
  | cont => exact q
theorem Inv.quiet {pins : List (Addr × Obj)} {σ : St} {H : Hp} {s : Shared} (I : Inv X pins σ H s) : interactive X.env = false := by simp [interactive, I.ok.kind]
def tDrop (te : TE) : TS := fun D σ H => te σ H fun _ H1 => D.nx σ H1
theorem ps_expr (he : PE X e te) (hs : swapsWith e none pos.line X.env = pure false := by rfl) : PS X (.Expr e pos) (tDrop te) := by
  intro pins s σ H D I h
  exact wpAny_Expr_any (thn (he pins s σ H _ I h) fun v s1 ⟨x, H1, I1, r1, q1⟩ => ⟨σ, H1, I1, q1⟩) I.quiet hs
def tRet (te : TE) : TS := fun D σ H => te σ H D.rt
theorem ps_ret (he : PE X e te) : PS X (.Return (some e) pos) (tRet te) := by
  intro pins s σ H D I h
  exact wpAny_Return_some (thn (he pins s σ H _ I h) fun v s1 ⟨x, H1, I1, r1, q1⟩ => ⟨x, σ, H1, I1, r1, q1⟩)
def tIfS (c : TT) (t u : TS) : TS := fun D σ H => c σ H fun b H1 => if b = true then t D σ H1 else u D σ H1
theorem ps_if {c : Expr} {a b : List Stmt} {tc : TT} (hc : PT X c tc) (ha : PSs X a t) (hb : PSs X b u) : PS X (.If c a b pos) (tIfS tc t u) := by
  intro pins s σ H D I h
  refine wpAny_If (thn (hc pins s σ H _ I h) fun d s1 ⟨H1, I1, q1⟩ => ?_)
  cases d with
  | true => exact ha pins s1 σ H1 D I1 q1
  | false => exact hb pins s1 σ H1 D I1 q1
end
abbrev TG := V → St → Hp → (St → Hp → Prop) → Prop
abbrev TGs := List V → St → Hp → (St → Hp → Prop) → Prop
def PG (X : Cx) (target : Expr) (t : TG) : Prop :=
  ∀ (pins : List (Addr × Obj)) (s : Shared) (σ : St) (H : Hp) (v : V) (u : Value) (Q : St → Hp → Prop), Inv X pins σ H s → RelV v u → t v σ H Q →
    wpAny (model X.prog X.w) X.A (assign target X.env u) (fun _ s' => ∃ σ' H', Inv X pins σ' H' s' ∧ Q σ' H') X.xe s
def PGs (X : Cx) (ts : List Expr) (t : TGs) : Prop :=
  ∀ (pins : List (Addr × Obj)) (s : Shared) (σ : St) (H : Hp) (vs : List V) (us : List Value) (Q : St → Hp → Prop), Inv X pins σ H s → Vals vs us → t vs σ H Q →
    wpAny (model X.prog X.w) X.A (assignInOrder ((assignEach ts X.env).map (·.2)) us) (fun _ s' => ∃ σ' H', Inv X pins σ' H' s' ∧ Q σ' H') X.xe s
section
variable {X : Cx} {pos : Pos}
def gName (i : Nat) : TG := fun v σ H Q => Q (σ.set i (some v)) H
theorem pg_name {i : Nat} {x : Str} (hN : X.N.Nodup) (hi : X.N[i]? = some x) (hx : Loc X.env.scope x) (hf : X.fn x = true ∨ X.env.scope.names.lookup x = some .local := by first | exact .inl rfl | exact .inr rfl | assumption) : PG X (.Name x pos) (gName i) := by
  intro pins s σ H v u Q I r h
  exact wpAny_assign_Name (store_ok I hN hi hx r (fun s' I' => ⟨_, H, I', h⟩) hf)
def gNil : TGs := fun vs σ H Q => vs = [] ∧ Q σ H
def gCons (t : TG) (u : TGs) : TGs := fun vs σ H Q => ∃ v r, vs = v :: r ∧ t v σ H fun σ' H' => u r σ' H' Q
theorem pgs_nil : PGs X [] gNil := by
  intro pins s σ H vs us Q I r h
  obtain ⟨e, h⟩ := h
  subst e
  cases r
  exact assignInOrder_nil ⟨σ, H, I, h⟩
theorem pgs_cons {e : Expr} {es : List Expr} {t : TG} {u : TGs} (h1 : PG X e t) (h2 : PGs X es u)
    (hs : (assignEach (e :: es) X.env).map (·.2) = assign e X.env :: (assignEach es X.env).map (·.2) := by rfl) : PGs X (e :: es) (gCons t u) := by
  intro pins s σ H vs us Q I r h
  obtain ⟨v, vr, e1, h⟩ := h
  subst e1
  cases r with
  | cons r rr =>
    rw [hs]
    refine assignInOrder_cons (thn (h1 pins s σ H _ _ _ I r h) fun _ s1 ⟨σ1, H1, I1, q1⟩ => ?_)
    exact h2 pins s1 σ1 H1 _ _ Q I1 rr q1
def gTup (K : PySem.W.Frag) (n : Nat) (t : TGs) : TG := fun v σ H Q => ∃ a xs, v = .ref a ∧ SqT K H a xs ∧ xs.length = n ∧ t xs σ H Q
theorem pg_tup {es : List Expr} {k : Nat} {t : TGs} {n : Nat} (hc : X.calm = true) (h : PGs X es t)
    (hn : (assignEach es X.env).length = n := by rfl) (hst : (assignEach es X.env).findIdx? (·.1) = none := by rfl) : PG X (.Tuple es k pos) (gTup X.K n t) := by
  intro pins s σ H v u Q I r hw
  obtain ⟨a, xs, e1, hq, hl, hw⟩ := hw
  subst e1
  cases r
  obtain ⟨its, rv, ht, hz⟩ := I.tuple hq
  refine assign_Tuple_tuple (I.ok.hd hc) ht (by simp [hn, ← hl, rv.length]) hst fun h' hx => ?_
  have I1 : Inv X pins σ H { s with heap := h' } := I.kept (t' := s.toks) fun b o e => hx b o (Nat.ne_of_lt (Heap.lt_size e)) e
  exact h pins _ σ H xs _ Q I1 (by simpa using rv) hw
def tAsg (te : TE) (g : TG) : TS := fun D σ H => te σ H fun x H1 => g x σ H1 D.nx
theorem ps_asg {tg e : Expr} {te : TE} {g : TG} (he : PE X e te) (hg : PG X tg g) (hs : swapsWithSole [tg] e pos.line X.env = pure false := by rfl) (hw : swappedStores [tg] e X.env = pure none := by rfl)
    (h1 : (assignEach [tg] X.env).map (·.2) = [assign tg X.env] := by rfl) : PS X (.Assign [tg] e pos) (tAsg te g) := by
  intro pins s σ H D I h
  refine wpAny_Assign_stores (thn (he pins s σ H _ I h) fun v s1 ⟨x, H1, I1, r1, q1⟩ => ?_) hs hw
  rw [h1]
  exact thn (hg pins s1 σ H1 x v _ I1 r1 q1) fun _ s2 q => q
theorem ps_set {i : Nat} {x : Str} {e : Expr} {te : TE} {pos' : Pos} (hN : X.N.Nodup) (hi : X.N[i]? = some x) (hx : Loc X.env.scope x) (he : PE X e te) (hs : swapsWith e (some (.Name x pos')) pos.line X.env = pure false := by rfl) (hf : X.fn x = true ∨ X.env.scope.names.lookup x = some .local := by first | exact .inl rfl | exact .inr rfl | assumption) :
    PS X (.Assign [.Name x pos'] e pos) (tAsg te (gName i)) := by
  intro pins s σ H D I h
  refine wpAny_Assign_Name (thn (he pins s σ H _ I h) fun v s1 ⟨y, H1, I1, r1, q1⟩ => ?_) hs
  exact store_ok I1 hN hi hx r1 (fun s2 I2 => ⟨_, H1, I2, q1⟩) hf
def tPar (i j : Nat) (ta : TA) : TS := fun D σ H => ta σ H fun vs H1 => ∃ v w, vs = [v, w] ∧ D.nx ((σ.set i (some v)).set j (some w)) H1
theorem ps_par {i j : Nat} {x y : Str} {a b : Expr} {ta : TA} {px py pt : Pos} {kt k2 pt2} (hc : X.calm = true) (hN : X.N.Nodup) (hi : X.N[i]? = some x) (hj : X.N[j]? = some y) (hij : i ≠ j)
    (hx : X.env.scope.names.lookup x = some .local) (hy : X.env.scope.names.lookup y = some .local) (ha : PA X [a, b] ta)
    (hw : swappedStores [.Tuple [.Name x px, .Name y py] kt pt] (.Tuple [a, b] k2 pt2) X.env = pure (some [x, y]))
    (hs : swapsWithSole [.Tuple [.Name x px, .Name y py] kt pt] (.Tuple [a, b] k2 pt2) pos.line X.env = pure false := by rfl) :
    PS X (.Assign [.Tuple [.Name x px, .Name y py] kt pt] (.Tuple [a, b] k2 pt2) pos) (tPar i j ta) := by
  intro pins s σ H D I h
  rw [exec_Assign_arm]
  refine wpAny_bind (wpAny_standAt ?_)
  rw [hs]
  refine wpAny_bind (wpAny_pure ?_)
  rw [if_neg (by decide)]
  refine wpAny_bind (Tuple_ (thn (ha _ pins s σ H _ I h) fun us s1 ⟨vs, H1, I1, r1, q1⟩ => ?_))
  obtain ⟨v, w, e1, q1⟩ := q1
  subst e1
  obtain ⟨u1, u2, rfl, rv, rw'⟩ : ∃ u1 u2, us = [u1, u2] ∧ RelV v u1 ∧ RelV w u2 := by
    cases r1 with
    | cons p q =>
      cases q with
      | cons p' q' =>
        cases q'
        exact ⟨_, _, rfl, p, p'⟩
  refine wpAny_newObj_type ?_ (by show 2 ≤ sizeLine; decide)
  have I2 : Inv X pins σ H1 { s1 with heap := s1.heap.push { cls := .type "tuple", data := .seq [u1, u2].toArray } } := I1.kept (t' := s1.toks) fun b o e => Heap.get?_push_of_some _ e
  rw [hw]
  refine wpAny_bind (wpAny_pure ?_)
  show wpAny (model X.prog X.w) X.A (do rule "assign.swapped-stores"; let items ← unpackItems (.ref s1.heap.objs.size) 2 none; assignInOrder [fun v => bindName X.env y v, fun v => bindName X.env x v] items.reverse; pure Flow.next) _ _ _
  refine wpAny_bind (wpAny_rule (wpAny_bind (unpackItems_tuple (items := #[u1, u2]) (I.ok.hd hc) (IsTup.new s1.heap _) fun h' hx' => ?_)))
  have I3 := I2.kept (h' := h') (t' := s1.toks) fun b o e => hx' b o (Nat.ne_of_lt (Heap.lt_size e)) e
  show wpAny _ _ (assignInOrder [fun v => bindName X.env y v, fun v => bindName X.env x v] [u2, u1] >>= fun _ => pure Flow.next) _ _ _
  refine wpAny_bind (assignInOrder_cons (wpAny_bindName (store_ok I3 hN hj (.inl hy) rw' (fun s2 I4 => ?_) (.inr hy))))
  refine assignInOrder_cons (wpAny_bindName (store_ok I4 hN hi (.inl hx) rv (fun s3 I5 => assignInOrder_nil (wpAny_pure ?_)) (.inr hx)))
  rw [List.set_comm _ _ (Ne.symm hij)] at I5
  exact ⟨_, H1, I5, q1⟩
end
section
variable {X : Cx} {pos : Pos}
def tWhile (c : TT) (tb : TS) : TS := fun D σ H => ∃ W : Nat → St → Hp → Prop, (∃ m, W m σ H) ∧ ∀ m σ H, W m σ H →
  c σ H fun b H1 => if b = true then ∃ N : St → Hp → Prop, (∀ σ' H', N σ' H' → ∃ m', m' < m ∧ W m' σ' H') ∧ tb { D with nx := N, ct := N, bk := D.nx } σ H1 else D.nx σ H1
theorem ps_while {c : Expr} {body : List Stmt} {tc : TT} {tb : TS} (hp : PassesOwn (model X.prog X.w) X.A X.env X.xe) (hc : PT X c tc) (hb : PSs X body tb) : PS X (.While c body [] pos) (tWhile tc tb) := by
  intro pins s σ H D I h
  obtain ⟨W, ⟨m0, w0⟩, turn⟩ := h
  refine wpAny_While (codeAny_whileLoop (fun n s' => ∃ σ' H', Inv X pins σ' H' s' ∧ W n σ' H') ?_ m0 ⟨σ, H, I, w0⟩)
  rintro n s1 ⟨σ1, H1, I1, w1⟩
  refine wpAny_passesOwn hp (thn (hc pins s1 σ1 H1 _ I1 (turn n σ1 H1 w1)) fun b s2 ⟨H2, I2, q2⟩ => ?_)
  cases b with
  | true =>
    obtain ⟨N, hN, q2⟩ := q2
    rw [if_pos rfl]
    refine wpAny_passesOwn hp (thn (hb pins s2 σ1 H2 _ I2 q2) fun f s3 q3 => ?_)
    cases f with
    | next =>
      obtain ⟨σ3, H3, I3, n3⟩ := q3
      obtain ⟨m', hm, w3⟩ := hN σ3 H3 n3
      exact ⟨m', hm, σ3, H3, I3, w3⟩
    | cont =>
      obtain ⟨σ3, H3, I3, n3⟩ := q3
      obtain ⟨m', hm, w3⟩ := hN σ3 H3 n3
      exact ⟨m', hm, σ3, H3, I3, w3⟩
    | brk => exact q3
    | ret v => exact q3
  | false =>
    rw [if_neg Bool.false_ne_true]
    exact wpAny_execs_nil ⟨σ1, H2, I2, q2⟩
end
structure It where
  go : Nat → Hp → Prop
  yld : Nat → Hp → V → Hp → Prop
  stop : Nat → Hp → Prop
def FpOk (X : Cx) (pins : List (Addr × Obj)) (H : Hp) (b : Addr) : Prop :=
  H b = none ∧ b ≠ X.env.locals ∧ b ∉ X.fs ∧ (b ∈ X.ex ∨ X.s₀.heap.objs.size ≤ b) ∧ (∀ x c, X.env.cells.lookup x = some c → c ≠ b) ∧ ∀ p ∈ X.pn ++ pins, p.1 ≠ b
theorem Inv.fpOk {X : Cx} {pins : List (Addr × Obj)} {σ : St} {H H' : Hp} {s : Shared} {b : Addr} (I : Inv X pins σ H s) (hb : s.heap.objs.size ≤ b) (hn : H' b = none) : FpOk X pins H' b := by
  refine ⟨hn, Nat.ne_of_gt (Nat.lt_of_lt_of_le I.lt hb), I.nofs hb, .inr (Nat.le_trans I.sz hb), fun x c e z => ?_, fun p hp z => ?_⟩
  · obtain ⟨v, q⟩ := I.cell x c e
    exact absurd (Nat.lt_of_lt_of_le q.lt (by rw [z]; exact hb)) (Nat.lt_irrefl _)
  · exact absurd (Nat.lt_of_lt_of_le (Heap.lt_size (I.pin p hp).1) (by rw [z]; exact hb)) (Nat.lt_irrefl _)
structure Turn (P : Program) (w : World) (K : PySem.W.Frag) (tg : Expr) (J : It) (fp : List Addr) (it : Addr) (tn : Nat → Heap → Prop) : Prop where
  mem : it ∈ fp
  obj : ∀ i h, tn i h → ∀ b ∈ fp, ∃ o, h.get? b = some o ∧ ∀ v, o.data ≠ .cell v
  keep : ∀ i h h', tn i h → (∀ b ∈ fp, ∀ o, h.get? b = some o → h'.get? b = some o) → tn i h'
  item : ∀ (X : Cx), X.prog = P → X.w = w → X.K = K → X.calm = true → ∀ (i : Nat) (pins : List (Addr × Obj)) (s : Shared) (σ : St) (H : Hp) (E : Value → Shared → Prop), Inv X pins σ H s → (∀ b ∈ fp, FpOk X pins H b) → tn i s.heap → J.go i H →
    wpAny (model P w) X.A (pyNext (.ref it)) (fun r s1 => ∃ u, r = some u ∧
      wpAny (model P w) X.A (letOwnedTupleGo tg (.ref it) u) (fun _ s2 => ∃ x H', Inv X pins σ H' s2 ∧ RelV x u ∧ J.yld i H x H' ∧ tn (i + 1) s2.heap ∧ ∀ b ∈ fp, H' b = none) E s1) E s
  done : ∀ (X : Cx), X.prog = P → X.w = w → X.K = K → X.calm = true → ∀ (i : Nat) (pins : List (Addr × Obj)) (s : Shared) (σ : St) (H : Hp) (E : Value → Shared → Prop), Inv X pins σ H s → (∀ b ∈ fp, FpOk X pins H b) → tn i s.heap → J.stop i H →
    wpAny (model P w) X.A (pyNext (.ref it)) (fun r s1 => r = none ∧ Inv X pins σ H s1) E s
  self : ∀ (A : Around) (i : Nat) (s : Shared) (Q : Value → Shared → Prop) (E : Value → Shared → Prop), tn i s.heap → Q (.ref it) s → wpAny (model P w) A (pyIter (.ref it)) Q E s
abbrev TI := St → Hp → (It → Hp → Prop) → Prop
def PIE (X : Cx) (pins : List (Addr × Obj)) (σ : St) (tg : Expr) (R : It → Hp → Prop) (itv : Value) (s2 : Shared) : Prop :=
  ∃ (it : Addr) (fp : List Addr) (tn : Nat → Heap → Prop) (J : It) (H' : Hp), itv = .ref it ∧ Inv X pins σ H' s2 ∧ Turn X.prog X.w X.K tg J fp it tn ∧ tn 0 s2.heap ∧ (∀ b ∈ fp, FpOk X pins H' b) ∧ R J H'
def PI (X : Cx) (tg iter : Expr) (wi : TI) : Prop :=
  ∀ (pins : List (Addr × Obj)) (s : Shared) (σ : St) (H : Hp) (R : It → Hp → Prop), Inv X pins σ H s → wi σ H R →
    wpAny (model X.prog X.w) X.A (eval iter X.env) (fun v s1 => wpAny (model X.prog X.w) X.A (pyIter v) (PIE X pins σ tg R) X.xe s1) X.xe s
theorem go_of {M : Model} {A : Around} {E : Value → Shared → Prop} {s : Shared} {tg : Expr} {it : Addr} {u : Value} {o : Obj} {n : String} {vs : Array Value} {Q : Unit → Shared → Prop} (ho : s.heap.get? it = some o) (hc : o.cls = .type n) (hd : o.data = .fields vs)
    (hn : ["enumerate", "zip", "dict_itemiterator", "dict_reverseitemiterator", "odict_iterator", "itertools.zip_longest", "itertools.pairwise"].contains n = false) (hQ : Q () s) : wpAny M A (letOwnedTupleGo tg (.ref it) u) Q E s := by
  unfold letOwnedTupleGo
  cases tg <;> first
    | exact wpAny_pure hQ
    | (cases u <;> first
        | exact wpAny_pure hQ
        | (refine wpAny_bind (wpAny_load ho ?_)
           rw [hc, hd]
           show wpAny M A (if (["enumerate", "zip", "dict_itemiterator", "dict_reverseitemiterator", "odict_iterator", "itertools.zip_longest", "itertools.pairwise"].contains n && vs[0]? == some (rawInt _)) = true then _ else _) Q E s
           rw [if_neg (by intro h; rw [hn, Bool.false_and] at h; cases h)]
           exact wpAny_pure hQ))
def Itl (K : PySem.W.Frag) (a : Addr) : It :=
  ⟨fun i H => ∃ xs x, SqL K H a xs ∧ xs[i]? = some x, fun i H x H' => H' = H ∧ ∀ xs, SqL K H a xs → xs[i]? = some x, fun i H => ∃ xs, SqL K H a xs ∧ xs.length ≤ i⟩
def Itt (K : PySem.W.Frag) (a : Addr) : It :=
  ⟨fun i H => ∃ xs x, SqT K H a xs ∧ xs[i]? = some x, fun i H x H' => H' = H ∧ ∀ xs, SqT K H a xs → xs[i]? = some x, fun i H => ∃ xs, SqT K H a xs ∧ xs.length ≤ i⟩
def Itr (lo : Int) (n : Nat) : It := ⟨fun i _ => i < n, fun i H x H' => H' = H ∧ x = .int (lo + i), fun i _ => n ≤ i⟩
theorem turn_list {P : Program} {w : World} {K : PySem.W.Frag} {tg : Expr} (a it : Addr) : Turn P w K tg (Itl K a) [it] it (fun i h => h.IsListIter it a i) where
  mem := by simp
  obj := fun i h st b hb => by
    have e : b = it := by simpa using hb
    subst e
    obtain ⟨o, e, c, d⟩ := st
    exact ⟨o, e, fun v z => by rw [d] at z; cases z⟩
  keep := fun i h h' st k => st.at fun o e => k it (by simp) o e
  item := by
    intro X hP hw hK hc i pins s σ H E I hf st hg
    subst hP hw hK
    obtain ⟨xs, x, hq, hx⟩ := hg
    obtain ⟨its, rv, p, hz⟩ := I.list hq
    obtain ⟨u, hu, ru⟩ := rv.get hx
    obtain ⟨f0, f1, f2, f3, f4, f5⟩ := hf it (by simp)
    refine wpAny_pyNext_list_item st p.isList (x := u) (by simpa using hu) fun h' st' sb => ?_
    have I1 : Inv X pins σ H { s with heap := h' } := I.turned (t' := s.toks) (fun b o hb e => (sb.2 b hb).trans e) f0 f1 f3 f4 f5
    obtain ⟨o, e, c, d⟩ := id st'
    exact ⟨u, rfl, go_of (s := { s with heap := h' }) e c d (by decide) ⟨x, H, I1, ru, ⟨rfl, fun ys hy => by rw [I.list_inj hy hq]; exact hx⟩, st', fun b hb => (hf b hb).1⟩⟩
  done := by
    intro X hP hw hK hc i pins s σ H E I hf st hg
    subst hP hw hK
    obtain ⟨xs, hq, hx⟩ := hg
    obtain ⟨its, rv, p, hz⟩ := I.list hq
    obtain ⟨f0, f1, f2, f3, f4, f5⟩ := hf it (by simp)
    have hl := rv.length
    exact wpAny_pyNext_list_end (I.ok.hd hc) st p.isList (by simp; omega) fun h' eb => ⟨rfl, I.turned (t' := s.toks) (fun b o hb e => eb b o hb e) f0 f1 f3 f4 f5⟩
  self := fun _ _ _ _ _ st h => wpAny_pyIter_listiter st h
theorem turn_tuple {P : Program} {w : World} {K : PySem.W.Frag} {tg : Expr} (a it : Addr) : Turn P w K tg (Itt K a) [it] it (fun i h => h.IsTupleIter it a i) where
  mem := by simp
  obj := fun i h st b hb => by
    have e : b = it := by simpa using hb
    subst e
    obtain ⟨o, e, c, d⟩ := st
    exact ⟨o, e, fun v z => by rw [d] at z; cases z⟩
  keep := fun i h h' st k => st.at fun o e => k it (by simp) o e
  item := by
    intro X hP hw hK hc i pins s σ H E I hf st hg
    subst hP hw hK
    obtain ⟨xs, x, hq, hx⟩ := hg
    obtain ⟨its, rv, p, hz⟩ := I.tuple hq
    obtain ⟨u, hu, ru⟩ := rv.get hx
    obtain ⟨f0, f1, f2, f3, f4, f5⟩ := hf it (by simp)
    refine wpAny_pyNext_tuple_item st (show s.heap.IsTuple a its.toArray from p) (x := u) (by simpa using hu) fun h' st' sb => ?_
    have I1 : Inv X pins σ H { s with heap := h' } := I.turned (t' := s.toks) (fun b o hb e => (sb.2 b hb).trans e) f0 f1 f3 f4 f5
    obtain ⟨o, e, c, d⟩ := id st'
    exact ⟨u, rfl, go_of (s := { s with heap := h' }) e c d (by decide) ⟨x, H, I1, ru, ⟨rfl, fun ys hy => by rw [I.tuple_inj hy hq]; exact hx⟩, st', fun b hb => (hf b hb).1⟩⟩
  done := by
    intro X hP hw hK hc i pins s σ H E I hf st hg
    subst hP hw hK
    obtain ⟨xs, hq, hx⟩ := hg
    obtain ⟨its, rv, p, hz⟩ := I.tuple hq
    obtain ⟨f0, f1, f2, f3, f4, f5⟩ := hf it (by simp)
    have hl := rv.length
    exact wpAny_pyNext_tuple_end (I.ok.hd hc) st (show s.heap.IsTuple a its.toArray from p) (by simp; omega) fun h' eb => ⟨rfl, I.turned (t' := s.toks) (fun b o hb e => eb b o hb e) f0 f1 f3 f4 f5⟩
  self := fun _ _ _ _ _ st h => wpAny_pyIter_tupleiter st h
theorem turn_range {P : Program} {w : World} {K : PySem.W.Frag} {tg : Expr} (it : Addr) (lo : Int) (n : Nat) : Turn P w K tg (Itr lo n) [it] it (fun i h => IsRangeIter h it (lo + (i : Nat) * 1) ((n : Int) - (i : Nat)) 1) where
  mem := by simp
  obj := fun i h st b hb => by
    have e : b = it := by simpa using hb
    subst e
    exact ⟨_, st, fun v z => by
      have z' : Data.fields _ = Data.cell v := z
      cases z'⟩
  keep := fun i h h' st k => k it (by simp) _ st
  item := by
    intro X hP hw hK hc i pins s σ H E I hf st hg
    subst hP hw hK
    obtain ⟨f0, f1, f2, f3, f4, f5⟩ := hf it (by simp)
    have W := Walks.range (prog := X.prog) (w := X.w) (I.ok.hd hc) it lo 1 n
    refine W.item i s _ _ hg st fun v h' tk hv st' kk => ?_
    obtain ⟨t, rfl⟩ := hv
    have I1 : Inv X pins σ H { s with heap := h', toks := tk } := I.turned (fun b o hb e => kk b o (by simpa using hb) e) f0 f1 f3 f4 f5
    refine ⟨_, rfl, go_of (s := { s with heap := h', toks := tk }) (n := "range_iterator") st' rfl rfl (by decide) ⟨.int (lo + i), H, I1, ⟨t, ?_⟩, ⟨rfl, rfl⟩, st', fun b hb => (hf b hb).1⟩⟩
    rw [Int.mul_one]
  done := by
    intro X hP hw hK hc i pins s σ H E I hf st hg
    subst hP hw hK
    obtain ⟨f0, f1, f2, f3, f4, f5⟩ := hf it (by simp)
    exact wpAny_pyNext_range_end (I.ok.hd hc) st (by have : n ≤ i := hg; omega) fun h' eb => ⟨rfl, I.turned (t' := s.toks) (fun b o hb e => eb b o hb e) f0 f1 f3 f4 f5⟩
  self := fun _ _ _ _ _ st h => wpAny_pyIter_rangeiter st h
end L2
namespace L2
open PySem PySem.Spec PyProof.Rows
section
variable {X : Cx} {tg : Expr}
theorem range_it {pins : List (Addr × Obj)} {σ : St} {H : Hp} {s : Shared} {R : It → Hp → Prop} {E : Value → Shared → Prop} {lo hi : Int} {t u v : Tok} {tk : Nat} (I : Inv X pins σ H s) (h1 : -(2 ^ 62) ≤ lo) (h2 : lo < 2 ^ 62) (h3 : -(2 ^ 62) ≤ hi) (h4 : hi < 2 ^ 62)
    (q : R (Itr lo (hi - lo).toNat) H) : wpAny (model X.prog X.w) X.A (pyIter (.ref s.heap.objs.size)) (PIE X pins σ tg R) E { s with heap := s.heap.push { cls := .type "range", data := .fields #[.int lo t, .int hi u, .int 1 v] }, toks := tk } := by
  refine wpAny_pyIter_range (IsRange.new ..) (small_one h1 h2 h3 h4) ?_
  have I1 : Inv X pins σ H { s with heap := s.heap.push { cls := .type "range", data := .fields #[.int lo t, .int hi u, .int 1 v] }, toks := tk } := I.kept fun b o e => Heap.get?_push_of_some _ e
  refine ⟨(s.heap.push { cls := .type "range", data := .fields #[.int lo t, .int hi u, .int 1 v] }).objs.size, [(s.heap.push { cls := .type "range", data := .fields #[.int lo t, .int hi u, .int 1 v] }).objs.size], _, _, H, rfl,
    I1.kept (t' := tk) fun b o e => Heap.get?_push_of_some _ e, turn_range _ lo (hi - lo).toNat, ?_, fun b hb => ?_, q⟩
  · have e1 : lo + ((0 : Nat) : Int) * 1 = lo := by simp
    have e2 : (((hi - lo).toNat : Nat) : Int) - ((0 : Nat) : Int) = Builtin.Range.rangeSize lo hi 1 := by rw [rangeSize_one]; split <;> omega
    show IsRangeIter _ _ (lo + ((0 : Nat) : Int) * 1) ((((hi - lo).toNat : Nat) : Int) - ((0 : Nat) : Int)) 1
    rw [e1, e2]
    exact Heap.get?_push_size _ rfl
  · have e : b = (s.heap.push { cls := .type "range", data := .fields #[.int lo t, .int hi u, .int 1 v] }).objs.size := by simpa using hb
    subst e
    exact I1.fpOk (Nat.le_refl _) (I1.hok.fresh (Nat.le_refl _))
def iRng1 (ta : TA) : TI := fun σ H R => ta σ H fun vs H1 => ∃ j : Int, vs = [.int j] ∧ -(2 ^ 62) ≤ j ∧ j < 2 ^ 62 ∧ R (Itr 0 j.toNat) H1
def iRng2 (ta : TA) : TI := fun σ H R => ta σ H fun vs H1 => ∃ i j : Int, vs = [.int i, .int j] ∧ (-(2 ^ 62) ≤ i ∧ i < 2 ^ 62 ∧ -(2 ^ 62) ≤ j ∧ j < 2 ^ 62) ∧ R (Itr i (j - i).toNat) H1
theorem pi_range1 {a : Expr} {ta : TA} {p pos : Pos} (hg : Gl X "range") (hm : X.mg "range" = none) (ha : PA X [a] ta) (hs : starEach [a] X.env = [(false, eval a X.env)] := by rfl) : PI X tg (.Call (.Name "range" p) [a] [] pos) (iRng1 ta) := by
  intro pins s σ H R I h
  refine Call_ (ld_blt I hg hm boot_range (PyProof.Rows.callWith_type1 (thn (ha pos pins s σ H _ I h) fun us s1 ⟨vs, H1, I1, r1, q1⟩ => ?_) hs rfl))
  obtain ⟨j, e, q1, q2, q⟩ := q1
  subst e
  cases r1 with
  | cons r rr =>
    cases rr
    obtain ⟨t, rfl⟩ := r
    exact call_range_1 (range_it I1 (by omega) (by omega) q1 q2 (by simpa using q))
theorem pi_range2 {a b : Expr} {ta : TA} {p pos : Pos} (hg : Gl X "range") (hm : X.mg "range" = none) (ha : PA X [a, b] ta) (hs : starEach [a, b] X.env = [(false, eval a X.env), (false, eval b X.env)] := by rfl) (hs2 : starEach [b] X.env = [(false, eval b X.env)] := by rfl) :
    PI X tg (.Call (.Name "range" p) [a, b] [] pos) (iRng2 ta) := by
  intro pins s σ H R I h
  refine Call_ (ld_blt I hg hm boot_range (PyProof.Rows.callWith_type1 (thn (ha pos pins s σ H _ I h) fun us s1 ⟨vs, H1, I1, r1, q1⟩ => ?_) (by rw [hs, hs2]) (by rw [hs2]; rfl)))
  obtain ⟨i, j, e, ⟨q1, q2, q3, q4⟩, q⟩ := q1
  subst e
  cases r1 with
  | cons r rr =>
    cases rr with
    | cons r' rr =>
      cases rr
      obtain ⟨t, rfl⟩ := r
      obtain ⟨t', rfl⟩ := r'
      exact call_range_2 (range_it I1 q1 q2 q3 q4 q)
def tFor (wi : TI) (g : TG) (tb : TS) : TS := fun D σ H => wi σ H fun J H1 => ∃ W : Nat → Nat → St → Hp → Prop, (∃ m, W 0 m σ H1) ∧ ∀ i m σ H, W i m σ H →
  (J.stop i H ∧ D.nx σ H) ∨ (J.go i H ∧ ∃ N : St → Hp → Prop, (∀ σ' H', N σ' H' → ∃ m', m' < m ∧ W (i + 1) m' σ' H') ∧ ∀ x H', J.yld i H x H' → g x σ H' fun σ2 H2 => tb { D with nx := N, ct := N, bk := D.nx } σ2 H2)
def pinsAt (fp : List Addr) (h : Heap) : List (Addr × Obj) := fp.filterMap fun b => (h.get? b).map fun o => (b, o)
theorem mem_pinsAt {fp : List Addr} {h : Heap} {b : Addr} {o : Obj} (hb : b ∈ fp) (e : h.get? b = some o) : (b, o) ∈ pinsAt fp h := List.mem_filterMap.mpr ⟨b, hb, by rw [e]; rfl⟩
theorem of_pinsAt {fp : List Addr} {h : Heap} {p : Addr × Obj} (hp : p ∈ pinsAt fp h) : p.1 ∈ fp ∧ h.get? p.1 = some p.2 := by
  obtain ⟨b, hb, e⟩ := List.mem_filterMap.mp hp
  cases q : h.get? b with
  | none => rw [q] at e; cases e
  | some o =>
    rw [q] at e
    have e' : (b, o) = p := Option.some.inj e
    subst e'
    exact ⟨hb, q⟩
theorem Inv.pinned {pins : List (Addr × Obj)} {σ : St} {H : Hp} {s : Shared} {fp : List Addr} (I : Inv X pins σ H s) (hf : ∀ b ∈ fp, FpOk X pins H b) (ho : ∀ b ∈ fp, ∃ o, s.heap.get? b = some o ∧ ∀ v, o.data ≠ .cell v) : Inv X (pins ++ pinsAt fp s.heap) σ H s :=
  I.pins_of fun p hp => (List.mem_append.mp hp).elim (fun z => I.pin p (List.mem_append_right _ z)) fun z => by
    obtain ⟨hb, e⟩ := of_pinsAt z
    obtain ⟨f0, f1, f2, _⟩ := hf p.1 hb
    obtain ⟨o, e', d⟩ := ho p.1 hb
    rw [e] at e'; cases e'
    exact ⟨e, f0, f1, f2, d⟩
theorem Inv.unpinned {pins pl : List (Addr × Obj)} {σ : St} {H : Hp} {s : Shared} (I : Inv X (pins ++ pl) σ H s) : Inv X pins σ H s := I.pins_of fun p hp => I.pin p (List.mem_append_right _ (List.mem_append_left _ hp))
theorem ps_for {iter : Expr} {body : List Stmt} {wi : TI} {g : TG} {tb : TS} {pos : Pos} (hp : PassesOwn (model X.prog X.w) X.A X.env X.xe) (hc : X.calm = true) (hi : PI X tg iter wi) (hg : PG X tg g) (hb : PSs X body tb)
    (hs : ∀ x, foldedSetIterable iter X.env x = pure x := by intro _; rfl) : PS X (.For tg iter body [] pos) (tFor wi g tb) := by
  intro pins s σ H D I h
  refine wpAny_For (thn (hi pins s σ H _ I h) fun v s1 h1 => thn h1 fun itv s2 h2 => ?_) hs
  obtain ⟨it, fp, tn, J, H2, e, I2, T, st2, f2, W, ⟨m0, w0⟩, turn⟩ := h2
  subst e
  have stat : ∀ {H' : Hp}, (∀ b ∈ fp, H' b = none) → ∀ b ∈ fp, FpOk X pins H' b := fun hn b hb => ⟨hn b hb, (f2 b hb).2⟩
  refine codeAny_forLoop_any (fun n s' => ∃ i σ' H', Inv X pins σ' H' s' ∧ tn i s'.heap ∧ (∀ b ∈ fp, H' b = none) ∧ W i n σ' H') ?_ m0 ⟨0, σ, H2, I2, st2, fun b hb => (f2 b hb).1, w0⟩
  rintro n s3 ⟨i, σ3, H3, I3, st3, fr3, w3⟩
  rcases turn i n σ3 H3 w3 with ⟨stop, qn⟩ | ⟨go, N, hN, step⟩
  · refine wpAny_passesOwn hp (thn (T.done X rfl rfl rfl hc i pins s3 σ3 H3 X.xe I3 (stat fr3) st3 stop) fun r s4 ⟨hr, I4⟩ => ?_)
    subst hr
    exact wpAny_execs_nil ⟨σ3, H3, I4, qn⟩
  · refine wpAny_passesOwn hp (thn (T.item X rfl rfl rfl hc i pins s3 σ3 H3 X.xe I3 (stat fr3) st3 go) fun r s4 ⟨u, hr, h4⟩ => ?_)
    subst hr
    refine wpAny_passesOwn hp (thn h4 fun _ s5 ⟨x, H5, I5, r5, y5, st5, fr5⟩ => ?_)
    have I5' := I5.pinned (stat fr5) (T.obj _ _ st5)
    refine wpAny_passesOwn hp (thn (hg _ s5 σ3 H5 x u _ I5' r5 (step x H5 y5)) fun _ s6 ⟨σ6, H6, I6, q6⟩ => ?_)
    refine wpAny_passesOwn hp (thn (hb _ s6 σ6 H6 _ I6 q6) fun f s7 q7 => ?_)
    have again : ∀ {σ7 : St} {H7 : Hp}, Inv X (pins ++ pinsAt fp s5.heap) σ7 H7 s7 → N σ7 H7 → ∃ m, m < n ∧ ∃ i σ' H', Inv X pins σ' H' s7 ∧ tn i s7.heap ∧ (∀ b ∈ fp, H' b = none) ∧ W i m σ' H' := fun {σ7 H7} I7 n7 => by
      obtain ⟨m', hm, w7⟩ := hN σ7 H7 n7
      refine ⟨m', hm, i + 1, σ7, H7, I7.unpinned, T.keep _ _ _ st5 fun b hb o e => (I7.pin (b, o) (List.mem_append_right _ (List.mem_append_right _ (mem_pinsAt hb e)))).1, fun b hb => ?_, w7⟩
      obtain ⟨o, e, d⟩ := T.obj _ _ st5 b hb
      exact (I7.pin (b, o) (List.mem_append_right _ (List.mem_append_right _ (mem_pinsAt hb e)))).2.1
    cases f with
    | next => obtain ⟨σ7, H7, I7, n7⟩ := q7; exact again I7 n7
    | cont => obtain ⟨σ7, H7, I7, n7⟩ := q7; exact again I7 n7
    | brk => obtain ⟨σ7, H7, I7, q7⟩ := q7; exact ⟨σ7, H7, I7.unpinned, q7⟩
    | ret v => obtain ⟨x7, σ7, H7, I7, r7, q7⟩ := q7; exact ⟨x7, σ7, H7, I7.unpinned, r7, q7⟩
end
end L2
namespace L2
open PySem PySem.Spec PyProof.Rows
abbrev R2 := V → V → Hp → VK → Prop
def OpR (X : Cx) (f : Value → Value → Sem Value) (r : R2) : Prop :=
  ∀ (pins : List (Addr × Obj)) (s : Shared) (σ : St) (H : Hp) (x y : V) (v u : Value) (Q : VK), Inv X pins σ H s → RelV x v → RelV y u → r x y H Q →
    wpAny (model X.prog X.w) X.A (f v u) (EP X pins σ Q) X.xe s
def UnR (X : Cx) (f : Value → Sem Value) (r : V → Hp → VK → Prop) : Prop :=
  ∀ (pins : List (Addr × Obj)) (s : Shared) (σ : St) (H : Hp) (x : V) (v : Value) (Q : VK), Inv X pins σ H s → RelV x v → r x H Q →
    wpAny (model X.prog X.w) X.A (f v) (EP X pins σ Q) X.xe s
def CallR (X : Cx) (f : Value) (r : List V → Hp → VK → Prop) : Prop :=
  ∀ (pins : List (Addr × Obj)) (s : Shared) (σ : St) (H : Hp) (xs : List V) (us : List Value) (Q : VK), Inv X pins σ H s → Vals xs us → r xs H Q →
    wpAny (model X.prog X.w) X.A (call f us) (EP X pins σ Q) X.xe s
def tOp (r : R2) (ta tb : TE) : TE := fun σ H Q => ta σ H fun x H1 => tb σ H1 fun y H2 => r x y H2 Q
def tUn (r : V → Hp → VK → Prop) (ta : TE) : TE := fun σ H Q => ta σ H fun x H1 => r x H1 Q
def rI (C : Int → Int → Prop) (g : Int → Int → V) : R2 := fun x y H Q => ∃ i j, x = .int i ∧ y = .int j ∧ C i j ∧ Q (g i j) H
def rI0 (g : Int → Int → V) : R2 := fun x y H Q => ∃ i j, x = .int i ∧ y = .int j ∧ Q (g i j) H
def rU (g : Int → V) : V → Hp → VK → Prop := fun x H Q => ∃ i, x = .int i ∧ Q (g i) H
section
variable {X : Cx} {a b c : Expr} {ta tb tc : TE} {pos : Pos}
theorem binT (ha : PE X a ta) (hb : PE X b tb) {pins : List (Addr × Obj)} {s : Shared} {σ : St} {H : Hp} {R : V → V → Hp → Prop} (I : Inv X pins σ H s)
    (h : ta σ H fun x H1 => tb σ H1 fun y H2 => R x y H2) {Q : Value → Shared → Prop} {f : Value → Value → Sem Value}
    (hf : ∀ v u s2 x y H2, Inv X pins σ H2 s2 → RelV x v → RelV y u → R x y H2 → wpAny (model X.prog X.w) X.A (f v u) Q X.xe s2) :
    wpAny (model X.prog X.w) X.A (eval a X.env) (fun v s₁ => wpAny (model X.prog X.w) X.A (eval b X.env) (fun u s₂ => wpAny (model X.prog X.w) X.A (f v u) Q X.xe s₂) X.xe s₁) X.xe s := by
  refine thn (ha pins s σ H _ I h) fun v s1 ⟨x, H1, I1, r1, q1⟩ => ?_
  refine thn (hb pins s1 σ H1 _ I1 q1) fun u s2 ⟨y, H2, I2, r2, q2⟩ => ?_
  exact hf v u s2 x y H2 I2 r1 r2 q2
theorem pe_op {op : Operator} {r : R2} (ho : OpR X (binaryOp op) r) (ha : PE X a ta) (hb : PE X b tb) : PE X (.BinOp a op b pos) (tOp r ta tb) := by
  intro pins s σ H Q I h
  exact wpAny_BinOp (binT ha hb I h fun v u s2 x y H2 I2 rx ry q => ho pins s2 σ H2 x y v u Q I2 rx ry q)
theorem pe_un {op : UnaryOp} {r : V → Hp → VK → Prop} (ho : UnR X (unaryOp op) r) (ha : PE X a ta) : PE X (.UnaryOp op a pos) (tUn r ta) := by
  intro pins s σ H Q I h
  exact UnaryOp_ (thn (ha pins s σ H _ I h) fun v s1 ⟨x, H1, I1, r1, q1⟩ => ho pins s1 σ H1 x v Q I1 r1 q1)
theorem opI {f : Value → Value → Sem Value} {C : Int → Int → Prop} {g : Int → Int → Int}
    (rule : ∀ (i j : Int) (t u : Tok) (s : Shared) (Q : Value → Shared → Prop) (E : Value → Shared → Prop), C i j → Q (.int (g i j) s.toks) { s with toks := s.toks + 1 } → wpAny (model X.prog X.w) X.A (f (.int i t) (.int j u)) Q E s) :
    OpR X f (rI C fun i j => .int (g i j)) := by
  intro pins s σ H x y v u Q I rx ry h
  obtain ⟨i, j, rfl, rfl, hc, q⟩ := h
  obtain ⟨t, rfl⟩ := rx
  obtain ⟨t', rfl⟩ := ry
  exact rule i j t t' s _ _ hc ⟨.int (g i j), H, I.tok _, ⟨_, rfl⟩, q⟩
theorem opI0 {f : Value → Value → Sem Value} {g : Int → Int → Int}
    (rule : ∀ (i j : Int) (t u : Tok) (s : Shared) (Q : Value → Shared → Prop) (E : Value → Shared → Prop), Q (.int (g i j) s.toks) { s with toks := s.toks + 1 } → wpAny (model X.prog X.w) X.A (f (.int i t) (.int j u)) Q E s) :
    OpR X f (rI0 fun i j => .int (g i j)) := by
  intro pins s σ H x y v u Q I rx ry h
  obtain ⟨i, j, rfl, rfl, q⟩ := h
  obtain ⟨t, rfl⟩ := rx
  obtain ⟨t', rfl⟩ := ry
  exact rule i j t t' s _ _ ⟨.int (g i j), H, I.tok _, ⟨_, rfl⟩, q⟩
theorem opB0 {f : Value → Value → Sem Value} {g : Int → Int → Bool}
    (rule : ∀ (i j : Int) (t u : Tok) (s : Shared) (Q : Value → Shared → Prop) (E : Value → Shared → Prop), Q (.bool (g i j)) s → wpAny (model X.prog X.w) X.A (f (.int i t) (.int j u)) Q E s) :
    OpR X f (rI0 fun i j => .bl (g i j)) := by
  intro pins s σ H x y v u Q I rx ry h
  obtain ⟨i, j, rfl, rfl, q⟩ := h
  obtain ⟨t, rfl⟩ := rx
  obtain ⟨t', rfl⟩ := ry
  exact rule i j t t' s _ _ ⟨.bl (g i j), H, I, rfl, q⟩
def CPow (i j : Int) : Prop := 0 ≤ j ∧ j ≤ 1000000 ∧ i.natAbs < 2 ^ 64
def CMul (i j : Int) : Prop := (-(2 ^ 64) < i ∧ i < 2 ^ 64) ∨ (-(2 ^ 64) < j ∧ j < 2 ^ 64)
theorem CMul.ok {i j : Int} (h : CMul i j) : IntMulOk i j := by
  rcases h with ⟨h1, h2⟩ | ⟨h1, h2⟩
  · exact .of_left (intBits_le_64 h1 h2)
  · exact .of_right (intBits_le_64 h1 h2)
theorem op_add : OpR X (binaryOp .Add) (rI0 fun i j => .int (i + j)) := opI0 fun _ _ _ _ _ _ _ q => add_int q
theorem op_sub : OpR X (binaryOp .Sub) (rI0 fun i j => .int (i - j)) := opI0 fun _ _ _ _ _ _ _ q => sub_int q
theorem op_mul : OpR X (binaryOp .Mult) (rI CMul fun i j => .int (i * j)) := opI fun _ _ _ _ _ _ _ hc q => mul_int q hc.ok
theorem op_mod : OpR X (binaryOp .Mod) (rI (fun _ j => 0 < j) fun i j => .int (i % j)) := opI fun i j _ _ _ _ _ hc q => by
  have h1 : (0 : Int) < j := hc
  exact mod_int' (by omega) (by rw [Int.fmod_eq_emod_of_nonneg i (by omega)]; exact q)
theorem op_pow : OpR X (binaryOp .Pow) (rI CPow fun i j => .int (i ^ j.toNat)) := opI fun _ _ _ _ _ _ _ hc q => pow_int_small hc.1 hc.2.1 hc.2.2 q
theorem unI {f : Value → Sem Value} {g : Int → Int}
    (rule : ∀ (i : Int) (t : Tok) (s : Shared) (Q : Value → Shared → Prop) (E : Value → Shared → Prop), Q (.int (g i) s.toks) { s with toks := s.toks + 1 } → wpAny (model X.prog X.w) X.A (f (.int i t)) Q E s) :
    UnR X f (rU fun i => .int (g i)) := by
  intro pins s σ H x v Q I rx h
  obtain ⟨i, rfl, q⟩ := h
  obtain ⟨t, rfl⟩ := rx
  exact rule i t s _ _ ⟨.int (g i), H, I.tok _, ⟨_, rfl⟩, q⟩
theorem un_neg : UnR X (unaryOp .USub) (rU fun i => .int (-i)) := unI fun _ _ _ _ _ q => neg_int q
end
def scal : V → V → Bool
  | .non, .non => true | .non, .int _ => true | .int _, .non => true | .non, .bl _ => true | .bl _, .non => true | .non, .str _ => true | .str _, .non => true
  | .int _, .int _ => true | .bl _, .bl _ => true | .str _, .str _ => true | .byt _, .byt _ => true
  | .int _, .str _ => true | .str _, .int _ => true | .bl _, .str _ => true | .str _, .bl _ => true
  | _, _ => false
def rEq : R2 := fun x y H Q => scal x y = true ∧ Q (.bl (decide (x = y))) H
def rNe : R2 := fun x y H Q => scal x y = true ∧ Q (.bl (!decide (x = y))) H
theorem dec_int {i j : Int} : decide (V.int i = V.int j) = (i == j) := by
  rw [Bool.eq_iff_iff]
  simp
theorem dec_bl {i j : Bool} : decide (V.bl i = V.bl j) = (i == j) := by
  rw [Bool.eq_iff_iff]
  simp
theorem dec_str {i j : Str} : decide (V.str i = V.str j) = (i == j) := by
  rw [Bool.eq_iff_iff]
  simp
theorem dec_byt {i j : Array UInt8} : decide (V.byt i = V.byt j) = (i.toList == j.toList) := by
  rw [Bool.eq_iff_iff]
  cases i
  cases j
  simp
section
variable {X : Cx} {a b c : Expr} {ta tb tc : TE} {pos : Pos}
theorem fin_bl {pins : List (Addr × Obj)} {σ : St} {H : Hp} {s : Shared} {Q : VK} {k k' : Bool} (I : Inv X pins σ H s) (q : Q (.bl k) H) (e : k = k') : EP X pins σ Q (.bool k') s := by
  subst e
  exact ⟨.bl k, H, I, rfl, q⟩
theorem op_eq : OpR X (compareOp .Eq) rEq := by
  intro pins s σ H x y v u Q I rx ry h
  obtain ⟨hs, q⟩ := h
  cases x with
  | non =>
    cases rx
    cases y with
    | non => cases ry; exact PySem.EqNone.eq_none_none (fin_bl I q (by simp))
    | bl j => cases ry; exact PySem.EqNone.eq_none_bool (fin_bl I q (by simp))
    | int j => obtain ⟨t', rfl⟩ := ry; exact PySem.EqNone.eq_none_int (fin_bl I q (by simp))
    | str j => obtain ⟨t', rfl⟩ := ry; exact PySem.EqNone.eq_none_str (fin_bl I q (by simp))
    | _ => exact absurd (show false = true from hs) Bool.false_ne_true
  | bl i =>
    cases rx
    cases y with
    | non => cases ry; exact PySem.EqNone.eq_bool_none (fin_bl I q (by simp))
    | bl j => cases ry; exact eq_bool (fin_bl I q dec_bl)
    | str j => obtain ⟨t', rfl⟩ := ry; exact PySem.EqMixed.eq_bool_str (fin_bl I q (by simp))
    | _ => exact absurd (show false = true from hs) Bool.false_ne_true
  | int i =>
    obtain ⟨t, rfl⟩ := rx
    cases y with
    | non => cases ry; exact PySem.EqNone.eq_int_none (fin_bl I q (by simp))
    | int j => obtain ⟨t', rfl⟩ := ry; exact eq_int (fin_bl I q dec_int)
    | str j => obtain ⟨t', rfl⟩ := ry; exact PySem.EqMixed.eq_int_str (fin_bl I q (by simp))
    | _ => exact absurd (show false = true from hs) Bool.false_ne_true
  | str i =>
    obtain ⟨t, rfl⟩ := rx
    cases y with
    | non => cases ry; exact PySem.EqNone.eq_str_none (fin_bl I q (by simp))
    | bl j => cases ry; exact PySem.EqMixed.eq_str_bool (fin_bl I q (by simp))
    | int j => obtain ⟨t', rfl⟩ := ry; exact PySem.EqMixed.eq_str_int (fin_bl I q (by simp))
    | str j => obtain ⟨t', rfl⟩ := ry; exact eq_str (fin_bl I q dec_str)
    | _ => exact absurd (show false = true from hs) Bool.false_ne_true
  | byt i =>
    obtain ⟨t, rfl⟩ := rx
    cases y with
    | byt j => obtain ⟨t', rfl⟩ := ry; exact PySem.W.eq_bytes (fin_bl I q dec_byt)
    | _ => exact absurd (show false = true from hs) Bool.false_ne_true
  | _ => cases y <;> exact absurd (show false = true from hs) Bool.false_ne_true
theorem op_ne : OpR X (compareOp .NotEq) rNe := by
  intro pins s σ H x y v u Q I rx ry h
  obtain ⟨hs, q⟩ := h
  cases x with
  | non =>
    cases rx
    cases y with
    | non => cases ry; exact PySem.EqNone.ne_none_none (fin_bl I q (by simp))
    | bl j => cases ry; exact PySem.EqNone.ne_none_bool (fin_bl I q (by simp))
    | int j => obtain ⟨t', rfl⟩ := ry; exact PySem.EqNone.ne_none_int (fin_bl I q (by simp))
    | str j => obtain ⟨t', rfl⟩ := ry; exact PySem.EqNone.ne_none_str (fin_bl I q (by simp))
    | _ => exact absurd (show false = true from hs) Bool.false_ne_true
  | bl i =>
    cases rx
    cases y with
    | non => cases ry; exact PySem.EqNone.ne_bool_none (fin_bl I q (by simp))
    | bl j => cases ry; exact ne_bool (fin_bl I q (congrArg not dec_bl))
    | str j => obtain ⟨t', rfl⟩ := ry; exact PySem.EqMixed.ne_bool_str (fin_bl I q (by simp))
    | _ => exact absurd (show false = true from hs) Bool.false_ne_true
  | int i =>
    obtain ⟨t, rfl⟩ := rx
    cases y with
    | non => cases ry; exact PySem.EqNone.ne_int_none (fin_bl I q (by simp))
    | int j => obtain ⟨t', rfl⟩ := ry; exact ne_int (fin_bl I q (congrArg not dec_int))
    | str j => obtain ⟨t', rfl⟩ := ry; exact PySem.EqMixed.ne_int_str (fin_bl I q (by simp))
    | _ => exact absurd (show false = true from hs) Bool.false_ne_true
  | str i =>
    obtain ⟨t, rfl⟩ := rx
    cases y with
    | non => cases ry; exact PySem.EqNone.ne_str_none (fin_bl I q (by simp))
    | bl j => cases ry; exact PySem.EqMixed.ne_str_bool (fin_bl I q (by simp))
    | int j => obtain ⟨t', rfl⟩ := ry; exact PySem.EqMixed.ne_str_int (fin_bl I q (by simp))
    | str j => obtain ⟨t', rfl⟩ := ry; exact ne_str (fin_bl I q (congrArg not dec_str))
    | _ => exact absurd (show false = true from hs) Bool.false_ne_true
  | byt i =>
    obtain ⟨t, rfl⟩ := rx
    cases y with
    | byt j => obtain ⟨t', rfl⟩ := ry; exact PySem.W.ne_bytes (fin_bl I q (congrArg not dec_byt))
    | _ => exact absurd (show false = true from hs) Bool.false_ne_true
  | _ => cases y <;> exact absurd (show false = true from hs) Bool.false_ne_true
theorem op_lt : OpR X (compareOp .Lt) (rI0 fun i j => .bl (decide (i < j))) := opB0 fun _ _ _ _ _ _ _ q => lt_int q
theorem op_le : OpR X (compareOp .LtE) (rI0 fun i j => .bl (decide (i ≤ j))) := opB0 fun _ _ _ _ _ _ _ q => le_int q
theorem op_gt : OpR X (compareOp .Gt) (rI0 fun i j => .bl (decide (j < i))) := opB0 fun _ _ _ _ _ _ _ q => gt_int q
theorem op_lt_str : OpR X (compareOp .Lt) (fun x y H Q => ∃ i j, x = .str i ∧ y = .str j ∧ Q (.bl (decide (i.cps.toList < j.cps.toList))) H) := by
  intro pins s σ H x y v u Q I rx ry h
  obtain ⟨i, j, rfl, rfl, q⟩ := h
  obtain ⟨t, rfl⟩ := rx
  obtain ⟨t', rfl⟩ := ry
  exact lt_str (fin_bl I q rfl)
theorem op_isN : OpR X (compareOp .Is) (fun x y H Q => y = .non ∧ Q (.bl (decide (x = .non))) H) := by
  intro pins s σ H x y v u Q I rx ry h
  obtain ⟨rfl, q⟩ := h
  cases ry
  refine is_none_gen (fin_bl I q ?_)
  cases x <;> first
    | (cases rx; rfl)
    | (obtain ⟨t, rfl⟩ := rx; rfl)
theorem OpR.or {f : Value → Value → Sem Value} {r r' : R2} (h : OpR X f r) (h' : OpR X f r') : OpR X f (fun x y H Q => r x y H Q ∨ r' x y H Q) := by
  intro pins s σ H x y v u Q I rx ry q
  rcases q with q | q
  · exact h pins s σ H x y v u Q I rx ry q
  · exact h' pins s σ H x y v u Q I rx ry q
theorem nomark (b : Expr) {op : CmpOp} (h : op ≠ .In := by decide) (h2 : op ≠ .NotIn := by decide) : behindInMarks op b = false := by
  have e1 : (op == CmpOp.In) = false := by cases op <;> first | rfl | exact absurd rfl h
  have e2 : (op == CmpOp.NotIn) = false := by cases op <;> first | rfl | exact absurd rfl h2
  cases b <;> simp [behindInMarks, e1, e2]
theorem pe_cmpR {op : CmpOp} {r : R2} (ho : OpR X (compareOp op) r) (ha : PE X a ta) (hb : PE X b tb) (hm : behindInMarks op b = false) : PE X (.Compare a [op] [b] pos) (tOp r ta tb) := by
  intro pins s σ H Q I h
  exact wpAny_Compare1 (binT ha hb I h fun v u s2 x y H2 I2 rx ry q => ho pins s2 σ H2 x y v u Q I2 rx ry q) hm
def tTest (t : TE) : TT := fun σ H Q => t σ H fun x H' => ∃ k, x = .bl k ∧ Q k H'
theorem pt_cmpR {op : CmpOp} {r : R2} (ho : OpR X (compareOp op) r) (ha : PE X a ta) (hb : PE X b tb) (hm : behindInMarks op b = false) : PT X (.Compare a [op] [b] pos) (tTest (tOp r ta tb)) := by
  intro pins s σ H Q I h
  refine wpAny_isTrue_Compare1 (thn (ha pins s σ H _ I h) fun v s1 ⟨x, H1, I1, r1, q1⟩ => thn (hb pins s1 σ H1 _ I1 q1) fun u s2 ⟨y, H2, I2, r2, q2⟩ =>
    thn (ho pins s2 σ H2 x y v u _ I2 r1 r2 q2) fun c s3 ⟨z, H3, I3, r3, k, e, q3⟩ => ?_) hm
  subst e
  cases r3
  exact wpAny_truthy_bool ⟨H3, I3, q3⟩
def tChain (r r' : R2) (ta tb tc : TE) : TE := fun σ H Q => ta σ H fun x H1 => tb σ H1 fun y H2 => r x y H2 fun z H3 => ∃ k, z = .bl k ∧
  (if k = true then tc σ H3 fun w' H4 => r' y w' H4 Q else Q (.bl false) H3)
theorem pe_chain {op op' : CmpOp} {r r' : R2} (ho : OpR X (compareOp op) r) (ho' : OpR X (compareOp op') r') (ha : PE X a ta) (hb : PE X b tb) (hc : PE X c tc)
    (hm : lastMarks [op, op'] [b, c] = false := by with_unfolding_all rfl) : PE X (.Compare a [op, op'] [b, c] pos) (tChain r r' ta tb tc) := by
  intro pins s σ H Q I h
  refine Compare_chain (thn (ha pins s σ H _ I h) fun v s1 ⟨x, H1, I1, r1, q1⟩ => chain_link (thn (hb pins s1 σ H1 _ I1 q1) fun u s2 ⟨y, H2, I2, r2, q2⟩ =>
    thn (ho pins s2 σ H2 x y v u _ I2 r1 r2 q2) fun d s3 ⟨z, H3, I3, r3, k, e, q3⟩ => ?_)) hm
  subst e
  cases r3
  refine wpAny_truthy_bool ?_
  cases k with
  | false => exact ite_ff ⟨.bl false, H3, I3, rfl, q3⟩
  | true => exact ite_tt (chain_last (thn (hc pins s3 σ H3 _ I3 q3) fun w' s4 ⟨z', H4, I4, r4, q4⟩ => ho' pins s4 σ H4 y z' u w' Q I4 r2 r4 q4))
theorem pt_chain {op op' : CmpOp} {r r' : R2} (ho : OpR X (compareOp op) r) (ho' : OpR X (compareOp op') r') (ha : PE X a ta) (hb : PE X b tb) (hc : PE X c tc)
    (hm : lastMarks [op, op'] [b, c] = false := by with_unfolding_all rfl) : PT X (.Compare a [op, op'] [b, c] pos) (tTest (tChain r r' ta tb tc)) := by
  intro pins s σ H Q I h
  refine isTrue_chain (thn (ha pins s σ H _ I h) fun v s1 ⟨x, H1, I1, r1, q1⟩ => test_link (thn (hb pins s1 σ H1 _ I1 q1) fun u s2 ⟨y, H2, I2, r2, q2⟩ =>
    thn (ho pins s2 σ H2 x y v u _ I2 r1 r2 q2) fun d s3 ⟨z, H3, I3, r3, k, e, q3⟩ => ?_)) hm
  subst e
  cases r3
  refine wpAny_truthy_bool ?_
  cases k with
  | false =>
    obtain ⟨k', e', q'⟩ := q3
    cases e'
    exact ite_ff ⟨H3, I3, q'⟩
  | true =>
    refine ite_tt (test_last (thn (hc pins s3 σ H3 _ I3 q3) fun w' s4 ⟨z', H4, I4, r4, q4⟩ => thn (ho' pins s4 σ H4 y z' u w' _ I4 r2 r4 q4) fun d' s5 ⟨z2, H5, I5, r5, k2, e2, q5⟩ => ?_))
    subst e2
    cases r5
    exact wpAny_truthy_bool ⟨H5, I5, q5⟩
theorem isEmpty_kv {κ : Type} {kvs : List (κ × V)} {vs : List (κ × Value)} (r : KV kvs vs) : (!vs.isEmpty) = !kvs.isEmpty := by
  cases r <;> rfl
theorem isEmpty_of {xs : List V} {its : List Value} (r : Vals xs its) : (!its.toArray.isEmpty) = !xs.isEmpty := by
  cases r <;> simp
theorem line63 : (sizeLine : Nat) < 2 ^ 63 := by rw [sizeLine_eq]; decide
theorem op_add_str : OpR X (binaryOp .Add) (fun x y H Q => ∃ i j, x = .str i ∧ y = .str j ∧ i.length + j.length ≤ sizeLine ∧ Q (.str (i ++ j)) H) := by
  intro pins s σ H x y v u Q I rx ry h
  obtain ⟨i, j, rfl, rfl, hz, q⟩ := h
  obtain ⟨t, rfl⟩ := rx
  obtain ⟨t', rfl⟩ := ry
  exact add_str (fun t' tk => ⟨.str (i ++ j), H, I.tok _, ⟨_, rfl⟩, q⟩) hz
theorem vals1 {x : V} {us : List Value} (r : Vals [x] us) : ∃ u, us = [u] ∧ RelV x u := by
  cases r with
  | cons r1 r2 => cases r2; exact ⟨_, rfl, r1⟩
theorem vals2 {x y : V} {us : List Value} (r : Vals [x, y] us) : ∃ u w', us = [u, w'] ∧ RelV x u ∧ RelV y w' := by
  cases r with
  | cons r1 r2 =>
    cases r2 with
    | cons r3 r4 => cases r4; exact ⟨_, _, rfl, r1, r3⟩
theorem call_max2 (hc : X.calm = true) : CallR X (.builtin "max") (fun xs H Q => ∃ i j, xs = [.int i, .int j] ∧ Q (.int (if j > i then j else i)) H) := by
  intro pins s σ H xs us Q I r h
  obtain ⟨i, j, rfl, q⟩ := h
  obtain ⟨u, w', rfl, ⟨t, rfl⟩, ⟨t', rfl⟩⟩ := vals2 r
  refine max_two_ints (I.ok.hd hc) fun h' tk k => ⟨_, H, I.kept k, ?_, q⟩
  by_cases hj : j > i
  · rw [if_pos hj, if_pos hj]; exact ⟨_, rfl⟩
  · rw [if_neg hj, if_neg hj]; exact ⟨_, rfl⟩
end
end L2
namespace L2
open PySem PySem.Spec PyProof.Rows
structure ObjM (h : Heap) (x dx C : Addr) (mA : Str → Option Value) : Prop where
  obj : h.get? x = some (PySem.W.instObj C dx)
  ns : h.Ns1 dx mA
  ne : dx ≠ x
theorem lookIn_ns {h : Heap} {dx : Addr} {mA : Str → Option Value} (n : h.Ns1 dx mA) : ∃ od, h.get? dx = some od ∧ ∀ name, PySem.W.lookIn name od = some (mA name) := by
  obtain ⟨o, es, ep, ho, hd, hk, _, hm⟩ := n
  refine ⟨o, ho, fun name => ?_⟩
  have e := hm name
  unfold nsFind findBy at e
  rw [← Array.find?_toList] at e
  unfold PySem.W.lookIn
  rw [hd]
  dsimp only
  split
  · rename_i y q
    rw [q] at e
    exact congrArg some e
  · rename_i q
    rw [q] at e
    have a : es.toList.any (·.refKey) = false := by
      rw [List.any_eq_false]
      intro y hy
      obtain ⟨z, t, hkey⟩ := hk y (Array.mem_toList_iff.mp hy)
      simp [DictEntry.refKey, hkey]
    have a' : ¬ es.toList.any (·.refKey) = true := by rw [a]; exact Bool.false_ne_true
    rw [if_neg a']
    exact congrArg some e
theorem ObjM.look {h : Heap} {x dx C : Addr} {mA : Str → Option Value} (I : ObjM h x dx C mA) : ∃ od, PySem.W.InstAt h x (PySem.W.instObj C dx) C (some od) ∧ ∀ name, PySem.W.lookIn name od = some (mA name) :=
  let ⟨od, ho, hl⟩ := lookIn_ns I.ns
  ⟨od, ⟨I.obj, rfl, rfl, ho⟩, hl⟩
section
variable {prog : Program} {w : World} {A : Around} {E : Value → Shared → Prop} {s : Shared} {K : PySem.W.Frag} {x dx C f : Addr} {mA : Str → Option Value} {name : Str} {v : Value}
theorem get_map {expr : Bool} {Q : Value → Shared → Prop} (X : K.In s.heap) (I : ObjM s.heap x dx C mA) (hg : PySem.W.plainGet K C name = true) (hh : PySem.W.hasDictIn K C = true)
    (ha : PySem.W.findIn K (.ref C) name = some none) (hv : mA name = some v) (hv' : PySem.W.handedIn v = true) (h : Q v { s with toks := s.toks + 1 }) :
    wpAny (model prog w) A (getAttr (.ref x) name expr) Q E s := by
  obtain ⟨od, J, hl⟩ := I.look
  exact PySem.W.get_value X J (PySem.W.plainGet_of hg).1 (PySem.W.findObj_own hh ha rfl (by rw [hl, hv])) hv' h
theorem get_meth {pl : Sem Bool} {Q : Value × List Value → Shared → Prop} (X : K.In s.heap) (I : ObjM s.heap x dx C mA) (hg : PySem.W.plainGet K C name = true)
    (hf : PySem.W.findIn K (.ref C) name = some (some (.ref f))) (ht : PySem.W.isFn K (.ref f) = true) (hv : mA name = none) (h : Q (.ref f, [.ref x]) s) :
    wpAny (model prog w) A (getMethod (.ref x) name pl) Q E s := by
  obtain ⟨od, J, hl⟩ := I.look
  exact PySem.W.method_fn X J (PySem.W.plainGet_of hg).1 (PySem.W.plainGet_of hg).2 hf (beq_iff_eq.mp ht) (by show (PySem.W.lookIn name od).map (·.isSome) = some false; rw [hl, hv]; rfl) h
theorem set_map {ns : List Str} {Q : Unit → Shared → Prop} (X : K.In s.heap) (I : ObjM s.heap x dx C mA)
    (hs : PySem.W.findIn K (.ref C) "__setattr__" = some (some (.builtin "object.__setattr__"))) (hp : PySem.W.plainOver K C = true) (ht : PySem.W.takerIn K C name = some none) (hh : PySem.W.hasDictIn K C = true)
    (hw : PySem.Within mA ns) (hsz : ns.length ≤ sizeLine)
    (h : ∀ h', ObjM h' x dx C (fun y => if y = name then some v else mA y) → Heap.SameBut dx s.heap h' → Q () { s with heap := h', toks := s.toks + 2 }) :
    wpAny (model prog w) A (setAttr (.ref x) name v) Q E s := by
  obtain ⟨od, J, hl⟩ := I.look
  refine PySem.W.set_plain X J hs (PySem.W.osa_open (s := { s with toks := s.toks + 1 }) (r := none) X J hp ht fun b => ?_)
  obtain ⟨cd, hc, hd'⟩ := PySem.W.any_some hh
  have hx : s.heap.get? x = some ⟨.ref C, some dx, .plain, #[]⟩ := I.obj
  refine wpAny_bind (wpAny_pure (wpAny_bind (wpAny_bind (wpAny_loadPart hx (wpAny_bind (PySem.W.Looks.here (s := { s with toks := s.toks + 1 }) (PySem.W.looks_clsIn X hc) ?_))))))
  rw [hd']
  refine wpAny_pure (a := some dx) (wpAny_bind (wpAny_pure (wpAny_bind ?_)))
  refine wpAny_nsSet1 (s := { s with toks := s.toks + 1 }) I.ns fun h' hn2 hs2 => ?_
  obtain ⟨oD, esD, epD, hoD, hdD, hcD⟩ := hn2.count (PySem.Within.cons name v hw)
  refine wpAny_bind (wpAny_lookBehind hoD (by rw [hdD]; exact pastItsLine_dict (Nat.le_trans hcD (by rw [List.length_cons]; omega))) ?_)
  exact wpAny_pure (h _ ⟨(hs2.2 _ (Ne.symm I.ne)).trans I.obj, hn2, I.ne⟩ hs2)
theorem make_map {R : Result → Shared → Prop} {vs : List Value} {kw : List (Str × Value)} (X : K.In s.heap) (hm : PySem.W.makesIn K C = true)
    (hi : PySem.W.findIn K (.ref C) "__init__" = some (some (.ref f))) (hf : PySem.W.typeIn K (.ref f) = some (.type "function"))
    (h : codeAny (model prog w) (A.under (.builtin "type.__call__" ⟨.ref C :: vs, kw⟩)) (.call (.ref f) ⟨.ref (s.heap.objs.size + 1) :: vs, kw⟩) (PySem.W.InitBack (s.heap.objs.size + 1) R)
      { s with heap := (s.heap.push PySem.W.emptyDict).push (PySem.W.instObj C s.heap.objs.size) }) :
    codeAny (model prog w) A (.call (.ref C) ⟨vs, kw⟩) R s := by
  obtain ⟨hh, g, d, t, os⟩ := s
  exact PySem.W.make_core (PySem.W.makes_of X hm) (PySem.W.looks_findIn X hi) (fun self => PySem.W.bind_fn X self hf) (.inl rfl) h
end
def putF (f : Str) (v : V) : List (Str × V) → List (Str × V)
  | [] => [(f, v)]
  | (g, x) :: r => if g = f then (g, v) :: r else (g, x) :: putF f v r
theorem lookup_putF (f g : Str) (v : V) : ∀ fs : List (Str × V), (putF f v fs).lookup g = if g = f then some v else fs.lookup g
  | [] => by
    show List.lookup g [(f, v)] = _
    by_cases h : g = f
    · have hb : (g == f) = true := beq_iff_eq.mpr h
      simp only [List.lookup, hb, if_pos h]
    · have hb : (g == f) = false := beq_eq_false_iff_ne.mpr h
      simp only [List.lookup, hb, if_neg h]
  | (k, x) :: r => by
    have ih := lookup_putF f g v r
    rw [show putF f v ((k, x) :: r) = (if k = f then (k, v) :: r else (k, x) :: putF f v r) from rfl]
    by_cases hk : k = f
    · rw [if_pos hk]
      by_cases h : g = k
      · have hb : (g == k) = true := beq_iff_eq.mpr h
        simp only [List.lookup, hb, if_pos (h.trans hk)]
      · have hb : (g == k) = false := beq_eq_false_iff_ne.mpr h
        simp only [List.lookup, hb, if_neg (fun e : g = f => h (e.trans hk.symm))]
    · rw [if_neg hk]
      by_cases h : g = k
      · have hb : (g == k) = true := beq_iff_eq.mpr h
        simp only [List.lookup, hb, if_neg (fun e : g = f => hk (h.symm.trans e))]
      · have hb : (g == k) = false := beq_eq_false_iff_ne.mpr h
        simp only [List.lookup, hb]
        exact ih
theorem keys_putF (f : Str) (v : V) : ∀ fs : List (Str × V), f ∈ (putF f v fs).map (·.1) ∧ ∀ g, g ∈ fs.map (·.1) → g ∈ (putF f v fs).map (·.1)
  | [] => ⟨by simp [putF], fun g h => by simp at h⟩
  | (k, x) :: r => by
    obtain ⟨i1, i2⟩ := keys_putF f v r
    rw [show putF f v ((k, x) :: r) = (if k = f then (k, v) :: r else (k, x) :: putF f v r) from rfl]
    by_cases hk : k = f
    · rw [if_pos hk]
      subst hk
      exact ⟨by simp, fun g h => by simpa using h⟩
    · rw [if_neg hk]
      refine ⟨?_, fun g h => ?_⟩
      · rw [List.map_cons]
        exact List.mem_cons_of_mem _ i1
      · rw [List.map_cons] at h ⊢
        rcases List.mem_cons.mp h with e | e
        · exact List.mem_cons.mpr (.inl e)
        · exact List.mem_cons_of_mem _ (i2 g e)
theorem length_putF (f : Str) (v : V) : ∀ fs : List (Str × V), (putF f v fs).length ≤ fs.length + 1
  | [] => by simp [putF]
  | (k, x) :: r => by
    have ih := length_putF f v r
    rw [show putF f v ((k, x) :: r) = (if k = f then (k, v) :: r else (k, x) :: putF f v r) from rfl]
    by_cases hk : k = f
    · rw [if_pos hk, List.length_cons, List.length_cons]; omega
    · rw [if_neg hk, List.length_cons, List.length_cons]; omega
theorem RelO.some_of {v : V} {o : Option Value} (r : RelO (some v) o) : ∃ u, o = some u ∧ RelV v u := by
  cases o with
  | none => exact (show False from r).elim
  | some u => exact ⟨u, rfl, r⟩
theorem RelO.none_of {o : Option Value} (r : RelO none o) : o = none := by
  cases o with
  | none => rfl
  | some u => exact (show False from r).elim
theorem handed_of {v : V} {u : Value} (r : RelV v u) : PySem.W.handedIn u = true := by
  cases v with
  | non => cases (show u = Value.none from r); rfl
  | bl b => cases (show u = Value.bool b from r); rfl
  | int i => obtain ⟨t, e⟩ := (show ∃ t, u = Value.int i t from r); cases e; rfl
  | str x => obtain ⟨t, e⟩ := (show ∃ t, u = Value.str x t from r); cases e; rfl
  | byt b => obtain ⟨t, e⟩ := (show ∃ t, u = Value.bytes b t from r); cases e; rfl
  | flt b => obtain ⟨t, e⟩ := (show ∃ t, u = Value.float b t from r); cases e; rfl
  | ref a => cases (show u = Value.ref a from r); rfl
  | ty n => cases (show u = Value.type n from r); rfl
section
variable {P : Program} {w : World} {H H' : Hp} {h h' : Heap} {a C dx : Addr} {fs fs' : List (Str × V)}
theorem ins_get (hok : HOk P w H h) (e : H a = some (.ins C dx fs)) : ∃ mA, ObjM h a dx C mA ∧ (∀ f, RelO (fs.lookup f) (mA f)) ∧ PySem.Within mA (fs.map (·.1)) ∧ fs.length ≤ 1000 ∧ H dx = some (.own a) := by
  obtain ⟨d, z, ne, ob, mA, n, r, q⟩ := (show ObjOk P w H h a (.ins C dx fs) from hok a _ e)
  exact ⟨mA, ⟨ob, n, ne⟩, r, q, z, d⟩
end
structure Cls (K : PySem.W.Frag) (C : Addr) : Prop where
  pg : PySem.W.plainGet K C Str.empty = true
  hd : PySem.W.hasDictIn K C = true
  po : PySem.W.plainOver K C = true
  sa : PySem.W.findIn K (.ref C) "__setattr__" = some (some (.builtin "object.__setattr__"))
theorem Cls.get {K : PySem.W.Frag} {C : Addr} (c : Cls K C) (f : Str) : PySem.W.plainGet K C f = true := c.pg
def NoAttr (K : PySem.W.Frag) (C : Addr) (f : Str) : Prop := PySem.W.findIn K (.ref C) f = some none
theorem NoAttr.taker {K : PySem.W.Frag} {C : Addr} {f : Str} (n : NoAttr K C f) : PySem.W.takerIn K C f = some none := by
  unfold PySem.W.takerIn
  rw [show PySem.W.findIn K (.ref C) f = some none from n]
  rfl
structure Meth (K : PySem.W.Frag) (C : Addr) (m : Str) (f : Addr) : Prop where
  at_ : PySem.W.findIn K (.ref C) m = some (some (.ref f))
  fn : PySem.W.isFn K (.ref f) = true
  kp : PySem.W.keepIn K (.ref f) = true
section
variable {X : Cx} {pins : List (Addr × Obj)} {σ : St} {H : Hp} {s : Shared} {a C dx : Addr} {fs : List (Str × V)} {f : Str} {v : V} {A : Around} {E : Value → Shared → Prop}
theorem getattr_ok {b : Bool} {Q : Value → Shared → Prop} (I : Inv X pins σ H s) (e : H a = some (.ins C dx fs)) (c : Cls X.K C) (n : NoAttr X.K C f) (l : fs.lookup f = some v)
    (h : ∀ u s', Inv X pins σ H s' → RelV v u → Q u s') : wpAny (model X.prog X.w) A (getAttr (.ref a) f b) Q E s := by
  obtain ⟨mA, O, r, _, _, _⟩ := ins_get I.hok e
  obtain ⟨u, hu, ru⟩ := RelO.some_of (v := v) (o := mA f) (by rw [← l]; exact r f)
  exact get_map I.kIn O (c.get f) c.hd n hu (handed_of ru) (h u _ (I.tok _) ru)
theorem getmeth_ok {m : Str} {g : Addr} {pl : Sem Bool} {Q : Value × List Value → Shared → Prop} (I : Inv X pins σ H s) (e : H a = some (.ins C dx fs)) (c : Cls X.K C) (k : Meth X.K C m g) (l : fs.lookup m = none)
    (h : Q (.ref g, [.ref a]) s) : wpAny (model X.prog X.w) A (getMethod (.ref a) m pl) Q E s := by
  obtain ⟨mA, O, r, _, _, _⟩ := ins_get I.hok e
  have hn : mA m = none := RelO.none_of (by rw [← l]; exact r m)
  exact get_meth I.kIn O (c.get m) k.at_ k.fn hn h
theorem setattr_ok {y : V} {u : Value} {Q : Unit → Shared → Prop} (I : Inv X pins σ H s) (e : H a = some (.ins C dx fs)) (c : Cls X.K C) (n : NoAttr X.K C f) (hl : fs.length < 1000) (ry : RelV y u)
    (h : ∀ s', Inv X pins σ (upd H a (.ins C dx (putF f y fs))) s' → Q () s') : wpAny (model X.prog X.w) A (setAttr (.ref a) f u) Q E s := by
  obtain ⟨mA, O, r, wi, _, ho⟩ := ins_get I.hok e
  have hz : (fs.map (·.1)).length ≤ sizeLine := by rw [List.length_map, sizeLine_eq]; omega
  refine set_map I.kIn O c.sa c.po n.taker c.hd wi hz fun h' O' sb => h _ ?_
  have hd : ∃ o, h'.get? dx = some o := let ⟨o, _, _, e', _⟩ := O'.ns; ⟨o, e'⟩
  refine I.write (x := a) (e := dx) (by rw [e]; exact True.intro) (.inr ho) (fun b q hb z => (sb.2 b hb).trans z) hd ?_
  refine ⟨by rw [upd_ne O.ne]; exact ho, ?_, O.ne, O'.obj, _, O'.ns, fun g => ?_, fun g hg => ?_⟩
  · have := length_putF f y fs; omega
  · show RelO ((putF f y fs).lookup g) (if g = f then some u else mA g)
    rw [lookup_putF]
    by_cases q : g = f
    · rw [if_pos q, if_pos q]; exact ry
    · rw [if_neg q, if_neg q]; exact r g
  · by_cases q : g = f
    · rw [q]; exact (keys_putF f y fs).1
    · refine (keys_putF f y fs).2 g (wi g fun z => hg ?_)
      show (if g = f then some u else mA g) = none
      rw [if_neg q]; exact z
theorem Inv.made (I : Inv X pins σ H s) : Inv X pins σ (upd (upd H s.heap.objs.size (.own (s.heap.objs.size + 1))) (s.heap.objs.size + 1) (.ins C s.heap.objs.size []))
    { s with heap := (s.heap.push PySem.W.emptyDict).push (PySem.W.instObj C s.heap.objs.size) } := by
  have e1 : (s.heap.push PySem.W.emptyDict).get? s.heap.objs.size = some PySem.W.emptyDict := Heap.get?_push_size s.heap rfl
  have e2 : ((s.heap.push PySem.W.emptyDict).push (PySem.W.instObj C s.heap.objs.size)).get? (s.heap.objs.size + 1) = some (PySem.W.instObj C s.heap.objs.size) := by
    have := Heap.get?_push_size (s.heap.push PySem.W.emptyDict) (o := PySem.W.instObj C s.heap.objs.size) rfl
    rwa [Heap.size_push] at this
  have e3 : (s.heap.push PySem.W.emptyDict).Ns s.heap.objs.size (fun _ => none) := ⟨PySem.W.emptyDict, #[], _, e1, rfl, (fun e he => absurd he (by simp)), fun _ => rfl⟩
  have I1 := I.laid (a := s.heap.objs.size) (o := .own (s.heap.objs.size + 1)) (h' := s.heap.push PySem.W.emptyDict) (t' := s.toks) (fun b u q => Heap.get?_push_of_some _ q) (Nat.le_refl _) ⟨_, e1⟩
  refine I1.laid (a := s.heap.objs.size + 1) (o := .ins C s.heap.objs.size []) (t' := s.toks) (fun b u q => Heap.get?_push_of_some _ q) (Nat.le_of_eq (Heap.size_push _ _)) ?_
  have ne : s.heap.objs.size ≠ s.heap.objs.size + 1 := Nat.ne_of_lt (Nat.lt_succ_self _)
  refine ⟨by rw [upd_ne ne, upd_same], Nat.zero_le _, ne, e2, fun _ => none, (Heap.Ns1.of_empty e3).at fun o q => Heap.get?_push_of_some _ q, fun _ => True.intro, fun y hy => absurd rfl hy⟩
theorem attr_of {prog : Program} {w : World} {env : Env} {e : Expr} {f : Str} {pos : Pos} {s : Shared} {Q : Value → Shared → Prop} (hb : attributeBase e f env (eval e env) = eval e env)
    (h : wpAny (model prog w) A (eval e env) (fun o s₁ => wpAny (model prog w) A (getAttr o f true) Q E s₁) E s) : wpAny (model prog w) A (eval (.Attribute e f pos) env) Q E s :=
  Attribute_any_ h (by rw [arm_eval_Attribute, hb])
end
def tFld (K : PySem.W.Frag) (ta : TE) (f : Str) : TE := fun σ H Q => ta σ H fun x H1 => ∃ a C dx fs v, x = .ref a ∧ H1 a = some (.ins C dx fs) ∧ Cls K C ∧ NoAttr K C f ∧ fs.lookup f = some v ∧ Q v H1
def sFld (K : PySem.W.Frag) (ta tv : TE) (f : Str) : TS := fun D σ H => tv σ H fun y H1 => ta σ H1 fun x H2 => ∃ a C dx fs, x = .ref a ∧ H2 a = some (.ins C dx fs) ∧ Cls K C ∧ NoAttr K C f ∧ fs.length < 1000 ∧
  D.nx σ (upd H2 a (.ins C dx (putF f y fs)))
section
variable {X : Cx} {o e value : Expr} {f : Str} {pos pos' tpos : Pos} {ta tv : TE}
theorem pe_fld (he : PE X e ta) (hb : attributeBase e f X.env (eval e X.env) = eval e X.env) : PE X (.Attribute e f pos) (tFld X.K ta f) := by
  intro pins s σ H Q I h
  refine attr_of hb (thn (he pins s σ H _ I h) fun u s1 ⟨x, H1, I1, rx, a, C, dx, fs, v, ex, ea, c, n, l, q⟩ => ?_)
  subst ex
  obtain rfl : u = Value.ref a := rx
  exact getattr_ok I1 ea c n l fun u' s2 I2 ru => ⟨v, H1, I2, ru, q⟩
theorem ps_fld (ha : PE X o ta) (hv : PE X value tv) (hs : swapsWith value (some (.Attribute o f pos')) pos.line X.env = pure false) : PS X (.Assign [.Attribute o f pos'] value pos) (sFld X.K ta tv f) := by
  intro pins s σ H D I h
  refine plainObj_wpAny_Assign_Attribute (thn (hv pins s σ H _ I h) fun u s1 ⟨y, H1, I1, ry, q⟩ => thn (ha pins s1 σ H1 _ I1 q) fun ov s2 ⟨x, H2, I2, rx, a, C, dx, fs, ex, ea, c, n, l, q2⟩ => ?_) hs
  subst ex
  obtain rfl : ov = Value.ref a := rx
  exact setattr_ok I2 ea c n l ry fun s3 I3 => ⟨σ, _, I3, q2⟩
end
section
variable {X : Cx} {pins : List (Addr × Obj)} {σ : St} {H : Hp} {s : Shared} {A : Around} {E : Value → Shared → Prop} {Q : Value → Shared → Prop} {c : Value} {b : Bool}
inductive TyOf (K : PySem.W.Frag) (H : Hp) : V → Value → Prop where
  | non : TyOf K H .non (.type "NoneType")
  | bl (x : Bool) : TyOf K H (.bl x) (.type "bool")
  | int (i : Int) : TyOf K H (.int i) (.type "int")
  | str (x : Str) : TyOf K H (.str x) (.type "str")
  | flt (x : UInt64) : TyOf K H (.flt x) (.type "float")
  | lst {a : Addr} {xs : List V} (e : H a = some (.lst xs)) : TyOf K H (.ref a) (.type "list")
  | frz {a : Addr} {o : Obj} {xs : List V} (e : H a = some (.frz o (.lst xs))) : TyOf K H (.ref a) (.type "list")
  | tup {a : Addr} {xs : List V} (e : H a = some (.tup xs)) : TyOf K H (.ref a) (.type "tuple")
  | dK {a : Addr} {kvs : List (Key × V)} (e : H a = some (.dK kvs)) : TyOf K H (.ref a) (.type "dict")
  | dT {a : Addr} {kvs : List (List Key × V)} (e : H a = some (.dT kvs)) : TyOf K H (.ref a) (.type "dict")
  | ins {a C dx : Addr} {fs : List (Str × V)} (e : H a = some (.ins C dx fs)) (cl : Cls K C) (ha : PySem.W.findIn K (.ref C) "__class__" = some (some (.builtin "object.__class__")))
      (hn : PySem.W.specialIn K (.builtin "object.__class__") "__get__" = some (some (.builtin "getset_descriptor.__get__"))) (htk : PySem.W.takesIn K (.builtin "object.__class__") = some true)
      (hm : PySem.W.mroIn K C (.type "object") = some true) : TyOf K H (.ref a) (.ref C)
theorem isinst_ok {x : V} {u t : Value} (I : Inv X pins σ H s) (rx : RelV x u) (ty : TyOf X.K H x t) (e : PySem.W.kitOne X.K t c = some b) (h : ∀ tk, Q (.bool b) { s with toks := tk }) :
    wpAny (model X.prog X.w) A (call (.builtin "isinstance") [u, c]) Q E s := by
  cases ty with
  | non => cases (show u = Value.none from rx); exact PySem.W.kia_one PySem.W.kitx_none I.kIn True.intro e (fun z => nomatch z) h
  | bl y => cases (show u = Value.bool y from rx); exact PySem.W.kia_one PySem.W.kitx_bool I.kIn True.intro e (fun z => nomatch z) h
  | int i => obtain ⟨t, q⟩ := (show ∃ t, u = Value.int i t from rx); cases q; exact PySem.W.kia_one PySem.W.kitx_int I.kIn True.intro e (fun z => nomatch z) h
  | str y => obtain ⟨t, q⟩ := (show ∃ t, u = Value.str y t from rx); cases q; exact PySem.W.kia_one PySem.W.kitx_str I.kIn True.intro e (fun z => nomatch z) h
  | flt y => obtain ⟨t, q⟩ := (show ∃ t, u = Value.float y t from rx); cases q; exact PySem.W.kia_one PySem.W.kitx_float I.kIn True.intro e (fun z => nomatch z) h
  | @lst a xs ea =>
    cases (show u = Value.ref a from rx)
    obtain ⟨_, _, n, _, h1⟩ := (show ObjOk X.prog X.w H s.heap a (.lst xs) from I.hok a _ ea)
    exact PySem.W.kia_one PySem.W.kitx_list I.kIn ⟨_, h1, rfl⟩ e (fun z => nomatch z) h
  | @frz a ob xs ea =>
    cases (show u = Value.ref a from rx)
    obtain ⟨_, _, _, n, _, h1⟩ := (show ObjOk X.prog X.w H s.heap a (.frz ob (.lst xs)) from I.hok a _ ea)
    exact PySem.W.kia_one PySem.W.kitx_list I.kIn ⟨_, h1, rfl⟩ e (fun z => nomatch z) h
  | @tup a xs ea =>
    cases (show u = Value.ref a from rx)
    obtain ⟨_, _, _, p⟩ := (show ObjOk X.prog X.w H s.heap a (.tup xs) from I.hok a _ ea)
    obtain ⟨o, h1, h2, _⟩ := p.is
    exact PySem.W.kia_one PySem.W.kitx_tuple I.kIn ⟨o, h1, h2⟩ e (fun z => nomatch z) h
  | @dK a kvs ea =>
    cases (show u = Value.ref a from rx)
    obtain ⟨_, _, vs, _, p⟩ := (show ObjOk X.prog X.w H s.heap a (.dK kvs) from I.hok a _ ea)
    obtain ⟨o, es, ep, h1, h2, _⟩ := p
    exact PySem.W.kia_one PySem.W.kitx_dict I.kIn ⟨o, h1, h2.1⟩ e (fun z => nomatch z) h
  | @dT a kvs ea =>
    cases (show u = Value.ref a from rx)
    obtain ⟨_, _, xs, _, o, es, ep, h1, h2, _⟩ := (show ObjOk X.prog X.w H s.heap a (.dT kvs) from I.hok a _ ea)
    exact PySem.W.kia_one PySem.W.kitx_dict I.kIn ⟨o, h1, h2.1⟩ e (fun z => nomatch z) h
  | @ins a C dx fs ea cl ha hn htk hm =>
    cases (show u = Value.ref a from rx)
    obtain ⟨mA, O, _⟩ := ins_get I.hok ea
    obtain ⟨od, J, _⟩ := O.look
    exact PySem.W.kia_one (PySem.W.kitx_own (cl.get _) cl.hd ha hn htk hm) I.kIn J e (fun z => nomatch z) h
end
end L2
namespace L2
open PySem PySem.Spec PyProof.Rows
structure Room (k : Nat) (A : Around) : Prop where
  hd : A.handled = none
  dp : A.depth + 3 * k + 5 < recursionLimit
  un : A.units + 16 * k + 200 < cLine
theorem Room.mono {j k : Nat} {A : Around} (r : Room k A) (h : j ≤ k) : Room j A := ⟨r.hd, by have := r.dp; omega, by have := r.un; omega⟩
theorem Room.deeper {k : Nat} {A : Around} (r : Room (k + 1) A) (env : Env) : Room k (A.deeper env) :=
  ⟨r.hd, by have := r.dp; show A.depth + 1 + 3 * k + 5 < _; omega, by have := r.un; show A.units + 3 + 16 * k + 200 < _; omega⟩
theorem make_depth {A : Around} {C : Addr} {us : List Value} {kw : List (Str × Value)} : (A.under (.builtin "type.__call__" ⟨.ref C :: us, kw⟩)).depth = A.depth + 1 := by
  first | rfl | simp [Around.under, Code.weight, Code.isCreation, Code.isGuard, Code.isCaller, Code.frames, Code.isFrame, guardIds]
theorem make_units {A : Around} {C : Addr} {us : List Value} {kw : List (Str × Value)} : (A.under (.builtin "type.__call__" ⟨.ref C :: us, kw⟩)).units = A.units + 1 := by
  first | rfl | simp [Around.under, Code.cUnits, Code.frames, Code.isFrame]
theorem Room.make {k : Nat} {A : Around} (r : Room (k + 1) A) (C : Addr) (us : List Value) (kw : List (Str × Value)) : Room k (A.under (.builtin "type.__call__" ⟨.ref C :: us, kw⟩)) :=
  ⟨r.hd, by have := r.dp; rw [make_depth]; omega, by have := r.un; rw [make_units]; omega⟩
theorem Room.depth {k : Nat} {A : Around} (r : Room k A) : A.depth < recursionLimit := by have := r.dp; omega
theorem Room.units {k : Nat} {A : Around} (r : Room k A) : A.units + 64 < cLine := by have := r.un; omega
def tNil : TA := fun _ H Q => Q [] H
def tCons (ta : TE) (tr : TA) : TA := fun σ H Q => ta σ H fun x H1 => tr σ H1 fun xs H2 => Q (x :: xs) H2
section
variable {X : Cx} {e : Expr} {es : List Expr} {te : TE} {t : TA} {pos : Pos}
theorem pa_nil : PA X [] tNil := fun _ _ _ _ H Q I h => Calls.spliced_nil ⟨[], H, I, .nil, h⟩
theorem pa_cons (ha : PE X e te) (hr : PA X es t) (hs : starEach (e :: es) X.env = (false, eval e X.env) :: starEach es X.env := by rfl) : PA X (e :: es) (tCons te t) := by
  intro pos pins s σ H Q I h
  rw [hs]
  show wpAny _ _ (spliced ((false, eval e X.env) :: backTo pos (starEach es X.env))) _ _ s
  refine Calls.spliced_cons (thn (ha pins s σ H _ I h) fun u s1 ⟨x, H1, I1, r1, q1⟩ => ?_)
  exact thn (hr pos pins s1 σ H1 _ I1 q1) fun us s2 ⟨xs, H2, I2, r2, q2⟩ => ⟨x :: xs, H2, I2, .cons r1 r2, q2⟩
def tTup (t : TA) : TE := fun σ H Q => t σ H fun xs H1 => xs.length ≤ sizeLine ∧ ∀ p, H1 p = none → Q (.ref p) (upd H1 p (.tup xs))
def tLst (t : TA) : TE := fun σ H Q => t σ H fun xs H1 => xs.length ≤ sizeLine ∧ ∀ p, H1 p = none → Q (.ref p) (upd H1 p (.lst xs))
theorem pe_tup {x1} (h : PA X es t) : PE X (.Tuple es x1 pos) (tTup t) := by
  intro pins s σ H Q I hq
  refine wpAny_Tuple_spliced (thn (h pos pins s σ H _ I hq) fun us s1 ⟨xs, H1, I1, r, z, q⟩ => ⟨by rw [← r.length]; exact z, ?_⟩)
  have hf : H1 s1.heap.objs.size = none := I1.hok.fresh (Nat.le_refl _)
  refine ⟨.ref s1.heap.objs.size, upd H1 s1.heap.objs.size (.tup xs), I1.laid (t' := s1.toks) (fun b u e => Heap.get?_push_of_some _ e) (Nat.le_refl _) ?_, rfl, q _ hf⟩
  exact ⟨z, us, r, ⟨_, Heap.get?_push_size _ rfl⟩⟩
theorem pe_lst (h : PA X es t) : PE X (.List es pos) (tLst t) := by
  intro pins s σ H Q I hq
  refine wpAny_List_spliced (thn (h pos pins s σ H _ I hq) fun us s1 ⟨xs, H1, I1, r, z, q⟩ => ⟨by rw [← r.length]; exact z, ?_⟩)
  have hf : H1 s1.heap.objs.size = none := I1.hok.fresh (Nat.le_refl _)
  refine ⟨.ref s1.heap.objs.size, upd H1 s1.heap.objs.size (.lst xs), I1.laid (t' := s1.toks) (fun b u e => Heap.get?_push_of_some _ e) (Nat.le_refl _) ?_, rfl, q _ hf⟩
  exact ⟨z, us, 0, r, Heap.get?_push_size _ rfl⟩
end
abbrev Sp := List V → Hp → VK → XK → Prop
abbrev CXT := List Env → Hp → Shared → XK → Value → Shared → Prop
structure Env0 (P : Program) (w : World) (K : PySem.W.Frag) (mg : Str → Option Value) (base : Heap) (A : Around) (outer : List Env) (s : Shared) (H : Hp) : Prop where
  frames : A.frames = some outer
  mod : Mod K mg base
  bs : ∀ b o, base.get? b = some o → s.heap.get? b = some o ∧ H b = none
  bsz : base.objs.size ≤ s.heap.objs.size
  funs : s.heap.FunFrames base outer
  frf : ∀ b ∈ frs outer, H b = none
  hok : HOk P w H s.heap
  bare : AllBare s.gens
def CE (outer : List Env) (P : Program) (w : World) (H : Hp) (s : Shared) (Q : VK) (u : Value) (s' : Shared) : Prop :=
  ∃ v H', s'.os = s.os ∧ AllBare s'.gens ∧ Un (frs outer) [] H H' s.heap s'.heap ∧ HOk P w H' s'.heap ∧ RelV v u ∧ Q v H'
def CR (CX : CXT) (outer : List Env) (P : Program) (w : World) (H : Hp) (s : Shared) (Q : VK) (E : XK) (r : Result) (s' : Shared) : Prop :=
  match r with
  | .ok (.ret u) => CE outer P w H s Q u s'
  | .ok _ => False
  | .error e => CX outer H s E e s'
structure FnOk (P : Program) (w : World) (K : PySem.W.Frag) (mg : Str → Option Value) (base : Heap) (CX : CXT) (k : Nat) (f : Addr) (fd : FuncData) (ps : List Str) (sp : Sp) : Prop where
  len : ∀ vs H Q E, sp vs H Q E → vs.length = ps.length
  run : ∀ (A : Around) (outer : List Env) (s : Shared) (H : Hp) (args : Args) (us : List Value) (vs : List V) (Q : VK) (E : XK), Room k A → Env0 P w K mg base A outer s H → BindsTo s fd args (ps.zip us) → Vals vs us → sp vs H Q E →
    codeAny (model P w) A (.call (.ref f) args) (CR CX outer P w H s Q E) s
theorem FnOk.mono {P : Program} {w : World} {K : PySem.W.Frag} {mg : Str → Option Value} {base : Heap} {CX : CXT} {j k : Nat} {f : Addr} {fd : FuncData} {ps : List Str} {sp : Sp} (F : FnOk P w K mg base CX j f fd ps sp) (h : j ≤ k) :
    FnOk P w K mg base CX k f fd ps sp := ⟨F.len, fun A outer s H args us vs Q E hr => F.run A outer s H args us vs Q E (hr.mono h)⟩
theorem FnOk.imp {P : Program} {w : World} {K : PySem.W.Frag} {mg : Str → Option Value} {base : Heap} {CX : CXT} {k : Nat} {f : Addr} {fd : FuncData} {ps : List Str} {sp sp' : Sp} (F : FnOk P w K mg base CX k f fd ps sp)
    (h : ∀ vs H Q E, sp' vs H Q E → sp vs H Q E) : FnOk P w K mg base CX k f fd ps sp' :=
  ⟨fun vs H Q E q => F.len vs H Q E (h _ _ _ _ q), fun A outer s H args us vs Q E hr he hb hv hs => F.run A outer s H args us vs Q E hr he hb hv (h _ _ _ _ hs)⟩
theorem Env0.make {P : Program} {w : World} {K : PySem.W.Frag} {mg : Str → Option Value} {base : Heap} {A : Around} {outer : List Env} {s : Shared} {H : Hp} (e : Env0 P w K mg base A outer s H) (C : Addr) (us : List Value) (kw : List (Str × Value)) :
    Env0 P w K mg base (A.under (.builtin "type.__call__" ⟨.ref C :: us, kw⟩)) outer s H := ⟨by first | exact e.frames | (simpa [Around.under, Code.envs, Code.isFrame, pushEnvs] using e.frames), e.mod, e.bs, e.bsz, e.funs, e.frf, e.hok, e.bare⟩
section
variable {X : Cx} {pins : List (Addr × Obj)} {σ : St} {H : Hp} {s s' : Shared}
theorem Inv.env0 (I : Inv X pins σ H s) : Env0 X.prog X.w X.K X.mg X.base X.A X.stack s H :=
  ⟨I.ok.frames, I.ok.mod, I.bs, Nat.le_trans I.ok.bsz I.sz, I.stack, I.stkFree, I.hok, I.bare⟩
theorem Inv.after {Q : VK} {u : Value} (I : Inv X pins σ H s) (h : CE X.stack X.prog X.w H s Q u s') : EP X pins σ Q u s' := by
  obtain ⟨v, H', os, bare, un, hok, r, q⟩ := h
  obtain ⟨hh, g, d, t, os'⟩ := s'
  obtain rfl : os' = s.os := os
  exact ⟨v, H', I.call (h' := hh) (g' := g) (d' := d) (t' := t) (ch := []) un hok bare (fun b z => absurd z (by simp)), r, q⟩
end
def tCall (sp : Sp) (dvs : List V) (E : XK) (t : TA) : TE := fun σ H Q => t σ H fun vs H1 => sp (vs ++ dvs) H1 Q E
def tMeth (C : Addr) (m : Str) (sp : Sp) (dvs : List V) (E : XK) (ta : TE) (t : TA) : TE := fun σ H Q => ta σ H fun x H1 => ∃ a dx fs, x = .ref a ∧ H1 a = some (.ins C dx fs) ∧ fs.lookup m = none ∧
  t σ H1 fun vs H2 => sp (x :: (vs ++ dvs)) H2 Q E
def tMake (C : Addr) (sp : Sp) (dvs : List V) (E : XK) (t : TA) : TE := fun σ H Q => t σ H fun vs H1 => ∀ x dx, H1 x = none → H1 dx = none → dx ≠ x →
  sp (.ref x :: (vs ++ dvs)) (upd (upd H1 dx (.own x)) x (.ins C dx [])) (fun v H2 => v = .non ∧ Q (.ref x) H2) E
def Binds (K : PySem.W.Frag) (fd : FuncData) (ps : List Str) (ds : List Value) : Prop :=
  ∀ (s : Shared) (us : List Value), K.In s.heap → (us ++ ds).length = ps.length → BindsTo s fd ⟨us, []⟩ (ps.zip (us ++ ds))
theorem Binds.all {K : PySem.W.Frag} {fd : FuncData} {ps : List Str} (h : ∀ us : List Value, us.length = ps.length → bindArgs fd ⟨us, []⟩ = pure (ps.zip us)) : Binds K fd ps [] := fun s us _ hl => by
  rw [List.append_nil] at hl ⊢
  exact .of_eq (h us hl)
def Passes (CX : CXT) (X : Cx) (E : XK) : Prop := ∀ (pins : List (Addr × Obj)) (σ : St) (H : Hp) (s : Shared) (e : Value) (s' : Shared), Inv X pins σ H s → CX X.stack H s E e s' → X.xe e s'
section
variable {X : Cx} {CX : CXT} {k : Nat} {f C : Addr} {fd : FuncData} {ps : List Str} {sp : Sp} {dvs : List V} {ds : List Value} {E : XK} {x m : Str} {p pos apos : Pos} {e o : Expr} {es : List Expr} {ta : TE} {t : TA}
theorem run_fn {pins : List (Addr × Obj)} {σ : St} {H : Hp} {s : Shared} {Q : VK} {us : List Value} {vs : List V} (F : FnOk X.prog X.w X.K X.mg X.base CX k f fd ps sp) (hr : Room k X.A) (hb : Binds X.K fd ps ds) (hd : Vals dvs ds) (hx : Passes CX X E)
    (I : Inv X pins σ H s) (r : Vals vs us) (h : sp (vs ++ dvs) H Q E) : wpAny (model X.prog X.w) X.A (call (.ref f) us) (EP X pins σ Q) X.xe s := by
  have r2 : Vals (vs ++ dvs) (us ++ ds) := r.append hd
  have hl : (us ++ ds).length = ps.length := by rw [← r2.length]; exact F.len _ _ _ _ h
  refine wpAny_call (codeAny_mono (F.run X.A X.stack s H ⟨us, []⟩ (us ++ ds) (vs ++ dvs) Q E hr I.env0 (hb s us I.kIn hl) r2 h) fun r s' hq => ?_)
  cases r with
  | error e => exact hx pins σ H s e s' I hq
  | ok fl =>
    cases fl with
    | ret u => exact I.after hq
    | next => exact False.elim hq
    | brk => exact False.elim hq
    | cont => exact False.elim hq
theorem pe_call (F : FnOk X.prog X.w X.K X.mg X.base CX k f fd ps sp) (hr : Room k X.A) (hg : Gl X x) (hm : X.mg x = some (.ref f)) (hk : PySem.W.keepIn X.K (.ref f) = true) (hb : Binds X.K fd ps ds) (hd : Vals dvs ds) (hx : Passes CX X E)
    (ha : PA X (e :: es) t) (hdb : (x == ("__debug__" : Str)) = false := by decide) (he : starEach (e :: es) X.env = (false, eval e X.env) :: starEach es X.env := by rfl) (hpl : (backTo pos (starEach es X.env)).any (·.1) = false := by rfl) :
    PE X (.Call (.Name x p) (e :: es) [] pos) (tCall sp dvs E t) := by
  intro pins s σ H Q I h
  refine wpAny_Call_Name_kw (ld_glob I hg hm ?_ hdb)
  refine PySem.W.callWith_K (h₀ := X.base) I.ok.mod.kin hk (thn (ha pos pins s σ H _ I h) fun us s1 ⟨vs, H1, I1, r, q⟩ => ⟨I1.kIn, ?_⟩) he hpl
  exact run_fn F hr hb hd hx I1 r q
theorem pe_meth {pl : Sem Bool} (he : PE X o ta) (c : Cls X.K C) (hm : Meth X.K C m f) (F : FnOk X.prog X.w X.K X.mg X.base CX k f fd ps sp) (hr : Room k X.A) (hb : Binds X.K fd ps ds) (hd : Vals dvs ds) (hx : Passes CX X E) (ha : PA X (e :: es) t)
    (hst : starEach (e :: es) X.env = (false, eval e X.env) :: starEach es X.env := by rfl) (hpl : (backTo pos (starEach es X.env)).any (·.1) = false := by rfl)
    (ht : eval (.Call (.Attribute o m apos) (e :: es) [] pos) X.env = (do
      let ov ← eval o X.env
      standAt apos.atName
      let (f, first) ← holding [ov] (getMethod ov m pl)
      callWith pos f first (backTo pos (starEach (e :: es) X.env)) (backToKw pos (keywordEach [] X.env))) := by rfl) :
    PE X (.Call (.Attribute o m apos) (e :: es) [] pos) (tMeth C m sp dvs E ta t) := by
  intro pins s σ H Q I h
  refine PySem.W.methodCall_KW (pl := pl) (thn (he pins s σ H _ I h) fun u s1 ⟨x, H1, I1, rx, a, dx, fs, ex, ea, l, q⟩ => ?_) ht
  subst ex
  obtain rfl : u = Value.ref a := rx
  refine getmeth_ok I1 ea c hm l ?_
  refine PySem.W.callWith_K (first := [.ref a]) (h₀ := X.base) I.ok.mod.kin hm.kp (thn (ha pos pins s1 σ H1 _ I1 q) fun us s2 ⟨vs, H2, I2, r, q2⟩ => ⟨I2.kIn, ?_⟩) hst hpl
  exact run_fn (us := .ref a :: us) (vs := .ref a :: vs) F hr hb hd hx I2 (.cons rfl r) q2
theorem pe_meth0 {pl : Sem Bool} (he : PE X o ta) (c : Cls X.K C) (hm : Meth X.K C m f) (F : FnOk X.prog X.w X.K X.mg X.base CX k f fd ps sp) (hr : Room k X.A) (hb : Binds X.K fd ps ds) (hd : Vals dvs ds) (hx : Passes CX X E)
    (ht : eval (.Call (.Attribute o m apos) [] [] pos) X.env = (do
      let ov ← eval o X.env
      standAt apos.atName
      let (f, first) ← holding [ov] (getMethod ov m pl)
      callWith pos f first (backTo pos (starEach [] X.env)) (backToKw pos (keywordEach [] X.env))) := by rfl) :
    PE X (.Call (.Attribute o m apos) [] [] pos) (tMeth C m sp dvs E ta tNil) := by
  intro pins s σ H Q I h
  refine PySem.W.methodCall_KW (pl := pl) (thn (he pins s σ H _ I h) fun u s1 ⟨x, H1, I1, rx, a, dx, fs, ex, ea, l, q⟩ => ?_) ht
  subst ex
  obtain rfl : u = Value.ref a := rx
  refine getmeth_ok I1 ea c hm l ?_
  exact PySem.W.callWith_K0 (first := [.ref a]) I1.kIn hm.kp (run_fn (us := [.ref a]) (vs := [.ref a]) F hr hb hd hx I1 (.cons rfl .nil) q)
structure Mk (K : PySem.W.Frag) (C f : Addr) : Prop where
  makes : PySem.W.makesIn K C = true
  init : PySem.W.findIn K (.ref C) "__init__" = some (some (.ref f))
  fn : PySem.W.isFn K (.ref f) = true
  kp : PySem.W.keepIn K (.ref C) = true
theorem run_make {pins : List (Addr × Obj)} {σ : St} {H : Hp} {s : Shared} {Q : VK} {us : List Value} {vs : List V} (M : Mk X.K C f) (F : FnOk X.prog X.w X.K X.mg X.base CX k f fd ps sp) (hr : Room (k + 1) X.A) (hb : Binds X.K fd ps ds) (hd : Vals dvs ds)
    (hx : Passes CX X E) (I : Inv X pins σ H s) (r : Vals vs us)
    (h : ∀ x dx, H x = none → H dx = none → dx ≠ x → sp (.ref x :: (vs ++ dvs)) (upd (upd H dx (.own x)) x (.ins C dx [])) (fun v H2 => v = .non ∧ Q (.ref x) H2) E) :
    wpAny (model X.prog X.w) X.A (call (.ref C) us) (EP X pins σ Q) X.xe s := by
  have hq := h (s.heap.objs.size + 1) s.heap.objs.size (I.hok.fresh (Nat.le_succ _)) (I.hok.fresh (Nat.le_refl _)) (Nat.ne_of_lt (Nat.lt_succ_self _))
  have I2 := Inv.made (C := C) I
  have r2 : Vals (V.ref (s.heap.objs.size + 1) :: (vs ++ dvs)) (Value.ref (s.heap.objs.size + 1) :: (us ++ ds)) := .cons rfl (r.append hd)
  have hl : (Value.ref (s.heap.objs.size + 1) :: us ++ ds).length = ps.length := by
    have e := r2.length
    rw [F.len _ _ _ _ hq] at e
    exact e.symm
  refine wpAny_call (make_map (f := f) I.kIn M.makes M.init (beq_iff_eq.mp M.fn) (codeAny_mono (F.run _ X.stack _ _ ⟨Value.ref (s.heap.objs.size + 1) :: us, []⟩ (Value.ref (s.heap.objs.size + 1) :: (us ++ ds)) _ _ E (hr.make C us [])
    (I2.env0.make C us []) (hb _ (Value.ref (s.heap.objs.size + 1) :: us) I2.kIn hl) r2 hq) fun r s' hq' => ?_))
  cases r with
  | error e => exact hx pins σ _ _ e s' I2 hq'
  | ok fl =>
    cases fl with
    | ret u =>
      obtain ⟨v, H', I3, rv, ev, q3⟩ := I2.after hq'
      subst ev
      exact ⟨rv, ⟨V.ref (s.heap.objs.size + 1), H', I3, rfl, q3⟩⟩
    | next => exact False.elim hq'
    | brk => exact False.elim hq'
    | cont => exact False.elim hq'
theorem pe_make (M : Mk X.K C f) (F : FnOk X.prog X.w X.K X.mg X.base CX k f fd ps sp) (hr : Room (k + 1) X.A) (hg : Gl X x) (hm : X.mg x = some (.ref C)) (hb : Binds X.K fd ps ds) (hd : Vals dvs ds) (hx : Passes CX X E)
    (ha : PA X (e :: es) t) (hdb : (x == ("__debug__" : Str)) = false := by decide) (he : starEach (e :: es) X.env = (false, eval e X.env) :: starEach es X.env := by rfl) (hpl : (backTo pos (starEach es X.env)).any (·.1) = false := by rfl) :
    PE X (.Call (.Name x p) (e :: es) [] pos) (tMake C sp dvs E t) := by
  intro pins s σ H Q I h
  refine wpAny_Call_Name_kw (ld_glob I hg hm ?_ hdb)
  refine PySem.W.callWith_K (h₀ := X.base) I.ok.mod.kin M.kp (thn (ha pos pins s σ H _ I h) fun us s1 ⟨vs, H1, I1, r, q⟩ => ⟨I1.kIn, ?_⟩) he hpl
  exact run_make M F hr hb hd hx I1 r q
end
section
variable {X : Cx} {CX : CXT} {k : Nat} {f C : Addr} {fd : FuncData} {ps ks : List Str} {sp : Sp} {E : XK} {x m : Str} {p pos apos kpos : Pos} {e o : Expr} {es : List Expr} {kws : List Keyword} {te ta : TE} {t tk : TA} {nm : Option Str}
variable {g : List Value → List Value → List Value} {gV : List V → List V → List V}
end
structure FnScope (N P : List Str) (sc : Scope) : Prop where
  kind : sc.kind = .function
  co : sc.isCoroutine = false
  gen : sc.isGenerator = false
  nd : N.Nodup
  pre : N.take P.length = P
  par : ∀ x ∈ P, sc.names.lookup x = some .local ∨ sc.names.lookup x = some .cell
  nofree : ∀ y ∈ sc.names, y.2 ≠ .free
theorem bindL_out {kindOf : Str → Option NameKind} {x : Str} : ∀ {binds : List (Str × Value)} {m : Str → Option Value}, (∀ v, (x, v) ∉ binds) → bindL kindOf binds m x = m x
  | [], _, _ => rfl
  | (n, v) :: r, m, h => by
    unfold bindL
    rw [bindL_out fun w hw => h w (List.mem_cons_of_mem _ hw)]
    split
    · have : x ≠ n := by rintro rfl; exact h v List.mem_cons_self
      simp [this]
    · rfl
theorem bindC_out {kindOf : Str → Option NameKind} {x : Str} : ∀ {binds : List (Str × Value)} {m : Str → Option Value}, (∀ v, (x, v) ∉ binds) → bindC kindOf binds m x = m x
  | [], _, _ => rfl
  | (n, v) :: r, m, h => by
    unfold bindC
    rw [bindC_out fun w hw => h w (List.mem_cons_of_mem _ hw)]
    split
    · rfl
    · have : x ≠ n := by rintro rfl; exact h v List.mem_cons_self
      simp [this]
theorem bindL_get {kindOf : Str → Option NameKind} {x : Str} {v : Value} : ∀ {P : List Str} {vs : List Value} {i : Nat} {m : Str → Option Value}, P.Nodup → P[i]? = some x → vs[i]? = some v → kindOf x = some .local →
    bindL kindOf (P.zip vs) m x = some v
  | [], _, _, _, _, h, _, _ => by simp at h
  | _ :: _, [], _, _, _, _, h, _ => by simp at h
  | p :: P, w :: vs, 0, m, nd, h1, h2, hk => by
    simp at h1 h2; subst h1; subst h2
    show bindL kindOf ((p, w) :: P.zip vs) m p = _
    unfold bindL
    rw [bindL_out fun v hv => (List.nodup_cons.mp nd).1 (List.of_mem_zip hv).1, if_pos hk]
    simp
  | p :: P, w :: vs, i + 1, m, nd, h1, h2, hk => by
    show bindL kindOf ((p, w) :: P.zip vs) m x = _
    unfold bindL
    exact bindL_get (i := i) (List.nodup_cons.mp nd).2 (by simpa using h1) (by simpa using h2) hk
theorem bindC_get {kindOf : Str → Option NameKind} {x : Str} {v : Value} : ∀ {P : List Str} {vs : List Value} {i : Nat} {m : Str → Option Value}, P.Nodup → P[i]? = some x → vs[i]? = some v → kindOf x ≠ some .local →
    bindC kindOf (P.zip vs) m x = some v
  | [], _, _, _, _, h, _, _ => by simp at h
  | _ :: _, [], _, _, _, _, h, _ => by simp at h
  | p :: P, w :: vs, 0, m, nd, h1, h2, hk => by
    simp at h1 h2; subst h1; subst h2
    show bindC kindOf ((p, w) :: P.zip vs) m p = _
    unfold bindC
    rw [bindC_out fun v hv => (List.nodup_cons.mp nd).1 (List.of_mem_zip hv).1, if_neg hk]
    simp
  | p :: P, w :: vs, i + 1, m, nd, h1, h2, hk => by
    show bindC kindOf ((p, w) :: P.zip vs) m x = _
    unfold bindC
    exact bindC_get (i := i) (List.nodup_cons.mp nd).2 (by simpa using h1) (by simpa using h2) hk
def start (N : List Str) (vs : List V) : St := vs.map some ++ List.replicate (N.length - vs.length) none
def cxOf (CX : CXT) (P : Program) (w : World) (K : PySem.W.Frag) (mg : Str → Option Value) (base : Heap) (N : List Str) (qual : Str) (scope : Scope) (f : Addr) (cd : Value) (A : Around) (outer : List Env) (s : Shared) (H : Hp) (E : XK) : Cx where
  prog := P
  w := w
  K := K
  mg := mg
  base := base
  A := A.deeper (envOfC qual scope s.heap.objs.size f cd)
  N := N
  s₀ := s
  H₀ := H
  env := envOfC qual scope s.heap.objs.size f cd
  outer := outer
  stack := envOfC qual scope s.heap.objs.size f cd :: outer
  ex := []
  calm := true
  fn := fun _ => true
  pn := []
  xe := fun e s' => wpAny (model P w) (A.deeper (envOfC qual scope s.heap.objs.size f cd)) (leaving (envOfC qual scope s.heap.objs.size f cd) e) (fun _ s'' => CX outer H s E e s'') (fun e' s'' => CX outer H s E e' s'') s'
theorem cell_has {sc : Scope} {n : Nat} {x : Str} (h : sc.names.lookup x = some .cell) : ∃ c, (cellsFrom n sc.names []).lookup x = some c := by
  have q := PySem.W.cellsFrom_some sc.names n [] (.inl h)
  exact Option.isSome_iff_exists.mp q
theorem inv_start {CX : CXT} {P : Program} {w : World} {K : PySem.W.Frag} {mg : Str → Option Value} {base : Heap} {N ps : List Str} {qual : Str} {scope : Scope} {f : Addr} {cd : Value} {A : Around} {outer : List Env} {s s1 : Shared} {H : Hp} {E : XK} {us : List Value} {vs : List V}
    (S : FnScope N ps scope) (hd : A.handled = none) (e0 : Env0 P w K mg base A outer s H) (hl : vs.length = ps.length) (r : Vals vs us)
    (x : InCallC s s.heap.objs.size (bindL (envOfC qual scope s.heap.objs.size f cd).kindOf (ps.zip us) fun _ => none) (cellsFrom (s.heap.objs.size + 1) scope.names []) (bindC (envOfC qual scope s.heap.objs.size f cd).kindOf (ps.zip us) fun _ => none) s1) :
    Inv (cxOf CX P w K mg base N qual scope f cd A outer s H E) [] (start N vs) H s1 := by
  have hpl : ps.length ≤ N.length := by have := congrArg List.length S.pre; rw [List.length_take] at this; omega
  obtain ⟨h1, tk, rfl, hk⟩ := x.done
  have noA : ∀ b : Addr, b ∉ (cxOf CX P w K mg base N qual scope f cd A outer s H E).ex := fun b z => absurd (show b ∈ ([] : List Addr) from z) (by simp)
  refine ⟨⟨e0.mod, S.kind, rfl, rfl, Nat.le_refl _, fun y z c h1 h2 => ?_, fun y hy => ?_, fun y c _ h => ?_, fun _ => hd, Around.frames_deeper e0.frames, .inr ⟨rfl, rfl⟩, fun b z => absurd z (noA b), e0.bs, e0.bsz, fun b _ _ => noA b, fun b z => absurd z (noA b), e0.funs, e0.frf⟩,
    rfl, e0.bare, Un.kept hk, ⟨_, x.toInCall.ns, fun i y v h1 h2 h3 => ?_⟩, fun y c h => ⟨_, x.cell y c h⟩, e0.hok.fresh (Nat.le_refl _), fun y c h => ?_, fun p hp => absurd (show p ∈ ([] : List (Addr × Obj)) from hp) (by simp), e0.hok.kept hk, ?_⟩
  · exact name_of_addr x.apart (PySem.mem_of_lookup h1) (PySem.mem_of_lookup h2)
  · have hy : scope.names.lookup y = some .cell ∨ scope.names.lookup y = some .free := hy
    rcases hy with hy | hy
    · exact cell_has hy
    · exact absurd rfl (S.nofree _ (PySem.mem_of_lookup hy))
  · exact Nat.le_of_lt (x.above y c (PySem.mem_of_lookup h))
  · have hi : i < vs.length := by
      unfold start at h2
      by_cases hi : i < vs.length
      · exact hi
      · rw [List.getElem?_append_right (by simpa using hi)] at h2
        rw [List.getElem?_replicate] at h2
        split at h2 <;> cases h2
    have ha : vs[i]? = some v := by
      unfold start at h2
      rw [List.getElem?_append_left (by simpa using hi), List.getElem?_map] at h2
      cases e : vs[i]? with
      | none => rw [e] at h2; cases h2
      | some a => rw [e] at h2; cases h2; rfl
    obtain ⟨u, hu, rv⟩ := r.get ha
    have hp : ps[i]? = some y := by
      rw [← S.pre, List.getElem?_take_of_lt (by omega)]; exact h1
    have ndP : ps.Nodup := by rw [← S.pre]; exact S.nd.sublist (List.take_sublist _ _)
    refine ⟨u, rv, ?_⟩
    rcases S.par y (List.mem_of_getElem? hp) with k | k
    · exact .inl ⟨k, bindL_get ndP hp hu k⟩
    · obtain ⟨c, e⟩ := cell_has (n := s.heap.objs.size + 1) k
      refine .inr ⟨.inl k, c, e, ?_⟩
      have q := x.cell y c e
      rw [bindC_get ndP hp hu (by show scope.names.lookup y ≠ _; rw [k]; decide)] at q
      exact q
  · exact e0.hok.fresh (Nat.le_of_lt (x.above y c (PySem.mem_of_lookup h)))
  · unfold start
    show _ = N.length
    rw [List.length_append, List.length_map, List.length_replicate]
    omega
theorem fn_of {CX : CXT} {P : Program} {w : World} {K : PySem.W.Frag} {mg : Str → Option Value} {base : Heap} {k : Nat} {f : Addr} {name qual : Str} {params : Arguments} {body : List Stmt} {scope : Scope} {dV kV doc pm cdv ct oc : Value} {an od : Option Addr}
    {osl : Array (Option Value)} {N ps : List Str} {sp : Sp} (lk : K.lookup f = some ⟨oc, od, .func (PySem.W.fnOf name qual params body scope dV kV doc pm an cdv ct), osl⟩) (hcd : PySem.W.codeIn K cdv qual = true) (S : FnScope N ps scope)
    (len : ∀ vs H Q E, sp vs H Q E → vs.length = ps.length)
    (hbody : ∀ (A : Around) (outer : List Env) (s : Shared) (H : Hp) (vs : List V) (Q : VK) (E : XK), Room k (A.deeper (envOfC qual scope s.heap.objs.size f cdv)) → sp vs H Q E →
      ∃ t, PSs (cxOf CX P w K mg base N qual scope f cdv A outer s H E) body t ∧ t { nx := fun _ H' => Q .non H', rt := Q } (start N vs) H) :
    FnOk P w K mg base CX (k + 1) f (PySem.W.fnOf name qual params body scope dV kV doc pm an cdv ct) ps sp := by
  refine ⟨len, fun A outer s H args us vs Q E hr e0 hb r hsp => ?_⟩
  have hl := len _ _ _ _ hsp
  have KX : K.In s.heap := e0.mod.kin.keeps fun b o e => (e0.bs b o e).1
  have lim : s.heap.NoLimit := e0.mod.nolimit.keeps fun b o e => (e0.bs b o e).1
  have hkind : ∀ y ∈ ps.zip us, scope.names.lookup y.1 = some .local ∨ (scope.names.lookup y.1 = some .cell ∧ ((cellsFrom (s.heap.objs.size + 1) scope.names []).lookup y.1).isSome = true) := fun ⟨n, v⟩ hy => by
    rcases S.par n (List.of_mem_zip hy).1 with q | q
    · exact .inl q
    · exact .inr ⟨q, PySem.W.cellsFrom_some _ _ _ (.inl q)⟩
  refine codeAny_call_function hr.depth (KX _ _ lk) rfl S.co S.gen rfl (PySem.W.codeRec_of KX hcd) (hb _ _ _ _ ?_)
  refine wpAny_newFunctionEnv_cells S.kind hkind fun env he s1 x => ?_
  subst he
  refine ⟨lim.keeps x.toInCall.keep, codeAny_func ?_⟩
  obtain ⟨t, ht, hq⟩ := hbody A outer s H vs Q E (hr.deeper _) hsp
  have I : Inv (cxOf CX P w K mg base N qual scope f cdv A outer s H E) [] (start N vs) H s1 := inv_start S hr.hd e0 hl r x
  refine wpAny_mono (ht [] s1 (start N vs) H _ I hq) (fun fl s' hs => ?_) fun e s' hs => hs
  have fin : ∀ {σ' : St} {H' : Hp} {v : V} {u : Value}, Inv (cxOf CX P w K mg base N qual scope f cdv A outer s H E) [] σ' H' s' → RelV v u → Q v H' → CE outer P w H s Q u s' :=
    fun {σ' H' v u} J rv q => ⟨v, H', J.os, J.bare, J.base, J.hok, rv, q⟩
  cases fl with
  | ret u =>
    obtain ⟨v, σ', H', J, rv, q⟩ := hs
    exact fin J rv q
  | next =>
    obtain ⟨σ', H', J, q⟩ := hs
    exact fin (v := V.non) (u := Value.none) J rfl q
  | brk =>
    obtain ⟨_, _, _, q⟩ := hs
    exact False.elim q
  | cont =>
    obtain ⟨_, _, _, q⟩ := hs
    exact False.elim q
end L2
namespace L2
open PySem PySem.Spec PyProof.Rows
section
variable {X : Cx} {x : Str} {p pos : Pos} {e : Expr} {es : List Expr} {t : TA} {id T : String} {r : List V → Hp → VK → Prop}
def tCB (r : List V → Hp → VK → Prop) (t : TA) : TE := fun σ H Q => t σ H fun vs H1 => r vs H1 Q
theorem pe_callB (hc : CallR X (.builtin id) r) (hg : Gl X x) (hm : X.mg x = none) (hv : bootBuiltins x = some (.builtin id)) (ha : PA X (e :: es) t) (hn : x ≠ "__name__" := by decide) (hdb : (x == ("__debug__" : Str)) = false := by decide)
    (he : starEach (e :: es) X.env = (false, eval e X.env) :: starEach es X.env := by rfl) (hpl : (backTo pos (starEach es X.env)).any (·.1) = false := by rfl) : PE X (.Call (.Name x p) (e :: es) [] pos) (tCB r t) := by
  intro pins s σ H Q I h
  refine wpAny_Call_Name_kw (ld_blt I hg hm hv ?_ hn hdb)
  exact PyProof.Rows.callWith_builtin1 (thn (ha pos pins s σ H _ I h) fun us s1 ⟨vs, H1, I1, r1, q1⟩ => hc pins s1 σ H1 vs us Q I1 r1 q1) he hpl
theorem pe_callTy (hc : CallR X (.type T) r) (hg : Gl X x) (hm : X.mg x = none) (hv : bootBuiltins x = some (.type T)) (ha : PA X (e :: es) t) (hn : x ≠ "__name__" := by decide) (hdb : (x == ("__debug__" : Str)) = false := by decide)
    (he : starEach (e :: es) X.env = (false, eval e X.env) :: starEach es X.env := by rfl) (hpl : (backTo pos (starEach es X.env)).any (·.1) = false := by rfl) : PE X (.Call (.Name x p) (e :: es) [] pos) (tCB r t) := by
  intro pins s σ H Q I h
  refine wpAny_Call_Name_kw (ld_blt I hg hm hv ?_ hn hdb)
  exact PyProof.Rows.callWith_type1 (thn (ha pos pins s σ H _ I h) fun us s1 ⟨vs, H1, I1, r1, q1⟩ => hc pins s1 σ H1 vs us Q I1 r1 q1) he hpl
end
end L2
namespace HT
open PySem PyProof.Rows
section
open PySem.SeqAt
open PySem.AutoSeq1 (wpAny_loadPart')
open PySem.MeetsSeq PySem.MeetsSeq2 PySem.MeetsSeq3
end
section
variable {prog : Program} {w : World} {A : Around} {E : Value → Shared → Prop} {s : Shared}
theorem cat_tup {t b : Addr} {vs ws : List Value} {Q : Value → Shared → Prop} (ht : IsTup s.heap t vs.toArray) (hb : IsTup s.heap b ws.toArray) (hv : vs ≠ [])
    (h1 : ws = [] → Q (.ref t) s) (h2 : ws ≠ [] → Q (.ref s.heap.objs.size) { s with heap := s.heap.push { cls := .type "tuple", data := .seq (vs ++ ws).toArray } })
    (hsz : vs.length + ws.length ≤ sizeLine) : wpAny (model prog w) A (binaryOp .Add (.ref t) (.ref b)) Q E s := by
  obtain ⟨⟨cls, dd, data, sl⟩, ho, hc, n, hd⟩ := id ht
  obtain ⟨⟨cls2, dd2, data2, sl2⟩, ho2, hc2, n2, hd2⟩ := id hb
  simp only at hc hd hc2 hd2
  subst hc hd hc2 hd2
  have e : vs.toArray ++ ws.toArray = (vs ++ ws).toArray := by simp
  by_cases hw : ws = []
  · exact concat_meets ⟨_, ho, rfl⟩ ⟨_, ho2, rfl⟩ noFill_tuple_add seq_tuple_add PySem.F.slot_tuple_add PySem.F.entry_tuple_add (PySem.F.args_tuple_add_2 _ _)
      (tuple_addW1 t b vs.toArray ws.toArray n n2 dd dd2 sl sl2 (by simpa using hv) (by simp [hw])) ⟨ho, ho2, h1 hw⟩
  · refine concat_meets ⟨_, ho, rfl⟩ ⟨_, ho2, rfl⟩ noFill_tuple_add seq_tuple_add PySem.F.slot_tuple_add PySem.F.entry_tuple_add (PySem.F.args_tuple_add_2 _ _)
      (tuple_addW2 t b vs.toArray ws.toArray n n2 dd dd2 sl sl2 (by simpa using hv) (by simpa using hw) (by rw [List.size_toArray, List.size_toArray]; exact hsz)) ⟨ho, ho2, ?_⟩
    rw [e]
    exact h2 hw
def sIx (n d : Nat) : Option Int → Nat
  | none => d
  | some v => if v < 0 then (v + (n : Int)).toNat else min v.toNat n
theorem sIx_none (n d : Nat) : sIx n d none = d := rfl
theorem sIx_nat (n d k : Nat) : sIx n d (some (k : Int)) = min k n := by
  show (if (k : Int) < 0 then ((k : Int) + (n : Int)).toNat else min (k : Int).toNat n) = min k n
  rw [if_neg (by omega), Int.toNat_natCast]
theorem sIx_le (n d : Nat) (hd : d ≤ n) (o : Option Int) : sIx n d o ≤ n := by
  cases o with
  | none => exact hd
  | some v =>
    show (if v < 0 then (v + (n : Int)).toNat else min v.toNat n) ≤ n
    by_cases hv : v < 0
    · rw [if_pos hv]; omega
    · rw [if_neg hv]; exact Nat.min_le_right _ _
theorem clip_eq (v : Int) (n d : Nat) : (if v < 0 then max (v + (n : Int)) 0 else min v (n : Int)) = ((sIx n d (some v) : Nat) : Int) := by
  show (if v < 0 then max (v + (n : Int)) 0 else min v (n : Int)) = (((if v < 0 then (v + (n : Int)).toNat else min v.toNat n) : Nat) : Int)
  by_cases hv : v < 0
  · simp only [if_pos hv]; omega
  · simp only [if_neg hv]; omega
theorem adjust_gen (lo hi : Option Int) (n : Nat) : Builtin.Slice.sliceAdjust lo hi 1 (n : Int) = (((sIx n 0 lo : Nat) : Int), ((sIx n n hi : Nat) : Int)) := by
  have h1 : ¬ ((1 : Int) < 0) := by omega
  unfold Builtin.Slice.sliceAdjust
  simp only [h1, if_false]
  refine Prod.ext ?_ ?_
  · cases lo with
    | none => rfl
    | some v => exact clip_eq v n 0
  · cases hi with
    | none => rfl
    | some v => exact clip_eq v n n
theorem places_gen (i j : Nat) : Builtin.Slice.slicePlaces (i : Int) (j : Int) 1 = j - i := by
  unfold Builtin.Slice.slicePlaces
  have h1 : (1 : Int) > 0 := by omega
  simp only [h1, if_true, Int.ediv_one]
  split <;> omega
theorem slicePart_ {v : Value} {o : Option Int} {Q : Option Int → Shared → Prop} (p : IsPart v o) (h : Q o s) : wpAny (model prog w) A (Builtin.Slice.slicePartIndex v) Q E s := by
  cases p with
  | none => exact slicePart_none h
  | int i t => exact slicePart_int h
theorem sliceApplied_gen {sl : Addr} {vl vu : Value} {lo hi : Option Int} {n : Nat} {Q : Int × Int × Nat → Shared → Prop} (hs : s.heap.IsSliceOf sl vl vu .none) (pl : IsPart vl lo) (pu : IsPart vu hi)
    (h : Q (((sIx n 0 lo : Nat) : Int), 1, sIx n n hi - sIx n 0 lo) s) : wpAny (model prog w) A (Builtin.Slice.sliceApplied (.ref sl) (pure (n : Int))) Q E s := by
  obtain ⟨os, hos, hcs, hds⟩ := id hs
  unfold Builtin.Slice.sliceApplied Builtin.Slice.sliceFields
  refine wpAny_bind (wpAny_bind (wpAny_field hos hds (x := vl) rfl (wpAny_bind (wpAny_field hos hds (x := vu) rfl (wpAny_bind (wpAny_field hos hds (x := .none) rfl (wpAny_pure ?_)))))))
  refine wpAny_bind (slicePart_none ?_)
  show wpAny _ _ (if ((1 : Int) == 0) = true then _ else _) _ _ s
  rw [if_neg (by decide)]
  refine wpAny_bind (slicePart_ pl (wpAny_bind (slicePart_ pu (wpAny_bind (wpAny_pure ?_)))))
  show wpAny _ _ (match Builtin.Slice.sliceAdjust lo hi 1 (n : Int) with | (lo, hi) => pure (lo, (1 : Int), Builtin.Slice.slicePlaces lo hi 1)) _ _ s
  rw [adjust_gen lo hi n]
  show wpAny _ _ (pure (((sIx n 0 lo : Nat) : Int), (1 : Int), Builtin.Slice.slicePlaces ((sIx n 0 lo : Nat) : Int) ((sIx n n hi : Nat) : Int) 1)) _ _ s
  rw [places_gen]
  exact wpAny_pure h
theorem pick_gen (xs : Array Value) (i k : Nat) : ((List.range k).filterMap fun (m : Nat) => xs[((i : Int) + (m : Int) * 1).toNat]?).toArray = ((xs.toList.drop i).take k).toArray := by
  have e : (fun (m : Nat) => xs[((i : Int) + (m : Int) * 1).toNat]?) = fun m => xs[i + m]? := by
    funext m
    have : ((i : Int) + (m : Int) * 1).toNat = i + m := by omega
    rw [this]
  rw [e]
  have := pick_run xs i k
  rw [List.filterMap_map] at this
  have e2 : ((fun x => xs[x]?) ∘ fun x => i + x) = fun m => xs[i + m]? := rfl
  rw [e2] at this
  rw [this]
theorem getItem_tuple_cut {t sl : Addr} {items : Array Value} {vl vu : Value} {lo hi : Option Int} {Q : Value → Shared → Prop} (ht : IsTup s.heap t items) (hs : s.heap.IsSliceOf sl vl vu .none) (pl : IsPart vl lo) (pu : IsPart vu hi)
    (hw : ¬ (sIx items.size 0 lo = 0 ∧ sIx items.size items.size hi = items.size))
    (h : Q (.ref s.heap.objs.size) { s with heap := s.heap.push { cls := .type "tuple", data := .seq ((items.toList.drop (sIx items.size 0 lo)).take (sIx items.size items.size hi - sIx items.size 0 lo)).toArray } })
    (hsz : items.size ≤ sizeLine) : wpAny (model prog w) A (getItem (.ref t) (.ref sl)) Q E s := by
  have htake : sizeOk (.seq ((items.toList.drop (sIx items.size 0 lo)).take (sIx items.size items.size hi - sIx items.size 0 lo)).toArray) := by
    show ((items.toList.drop (sIx items.size 0 lo)).take (sIx items.size items.size hi - sIx items.size 0 lo)).toArray.size ≤ sizeLine
    rw [List.size_toArray, List.length_take, List.length_drop, Array.length_toList]
    omega
  have hj : sIx items.size items.size hi ≤ items.size := sIx_le _ _ (Nat.le_refl _) hi
  obtain ⟨os, hos, hcs, hds⟩ := id hs
  have hTs : s.TypeIs (.ref sl) "slice" := ⟨os, hos, hcs⟩
  unfold getItem
  try with_reducible refine wpAny_holding ?_
  first | refine wpAny_bind (wpAny_pure ?_) | skip
  refine wpAny_bind (wpAny_sequenceKey ht.typeIs (by decide) ?_)
  refine wpAny_bind (wpAny_callSpecial?_slot (name := Str.ofString "__getitem__") ht.typeIs PyProof.Rows.slot_tuple_getitem
    (wpAny_call_entry PyProof.Rows.slot_tuple_getitem ht.typeIs entry_tuple_getitem ?_ (args_tuple_getitem _ _)))
  show wpAny _ _ (Builtin.Tuple.tupleItemsOf (.ref t) >>= _) _ _ s
  refine wpAny_bind (tupleItemsOf_ ht ?_)
  refine wpAny_bind (wpAny_typeOf hTs ?_)
  rw [if_pos (by decide)]
  refine wpAny_bind (sliceApplied_gen hs pl pu ?_)
  have hno : ¬ ((((sIx items.size 0 lo : Nat) : Int) == 0 && (1 : Int) == 1 && (sIx items.size items.size hi - sIx items.size 0 lo) == items.size) = true) := by
    intro q
    rw [Bool.and_eq_true, Bool.and_eq_true] at q
    have q1 : ((sIx items.size 0 lo : Nat) : Int) = 0 := eq_of_beq q.1.1
    have q2 : sIx items.size items.size hi - sIx items.size 0 lo = items.size := eq_of_beq q.2
    exact hw ⟨by omega, by omega⟩
  show wpAny _ _ (if (((sIx items.size 0 lo : Nat) : Int) == 0 && (1 : Int) == 1 && (sIx items.size items.size hi - sIx items.size 0 lo) == items.size) = true then _ else _) _ _ s
  rw [if_neg hno, pick_gen]
  first
    | exact wpAny_bind (m := Builtin.Tuple.tupleExact _) (wpAny_newObj_type (wpAny_pure ⟨_, rfl, wpAny_pure h⟩) htake)
    | exact wpAny_bind (m := Builtin.Tuple.tupleExact _) (wpAny_newObj_type (wpAny_bind (wpAny_pure (wpAny_pure ⟨_, rfl, wpAny_pure h⟩))) htake)
    | exact wpAny_bind (wpAny_bind (m := Builtin.Tuple.tupleExact _) (wpAny_newObj_type (wpAny_pure (wpAny_pure ⟨_, rfl, wpAny_pure h⟩)) htake))
    | exact wpAny_bind (wpAny_bind (m := Builtin.Tuple.tupleExact _) (wpAny_newObj_type (wpAny_pure ⟨_, rfl, wpAny_pure h⟩) htake))
end
end HT
namespace L2
open PySem PySem.Spec PyProof.Rows
abbrev TO := St → Hp → (Option Int → Hp → Prop) → Prop
def PO (X : Cx) (e : Option Expr) (t : TO) : Prop :=
  ∀ (pins : List (Addr × Obj)) (s : Shared) (σ : St) (H : Hp) (Q : Option Int → Hp → Prop), Inv X pins σ H s → t σ H Q →
    wpAny (model X.prog X.w) X.A (evalPart e X.env) (fun u s' => ∃ o H', Inv X pins σ H' s' ∧ IsPart u o ∧ Q o H') X.xe s
def tNoPart : TO := fun _ H Q => Q none H
def tPart (t : TE) : TO := fun σ H Q => t σ H fun x H1 => ∃ i, x = .int i ∧ Q (some i) H1
section
variable {X : Cx} {e : Expr} {te : TE} {lo hi : Option Expr} {tl th : TO} {pos p2 : Pos}
theorem po_none : PO X none tNoPart := by
  intro pins s σ H Q I h
  rw [evalPart_none]
  exact wpAny_pure ⟨none, H, I, .none, h⟩
theorem po_some (h : PE X e te) : PO X (some e) (tPart te) := by
  intro pins s σ H Q I hw
  rw [evalPart_some]
  refine thn (h pins s σ H _ I hw) fun u s1 ⟨x, H1, I1, r1, q1⟩ => ?_
  obtain ⟨i, rfl, q⟩ := q1
  obtain ⟨t, rfl⟩ := r1
  exact ⟨some i, H1, I1, .int i t, q⟩
def SlR (X : Cx) (r : V → Option Int → Option Int → Hp → VK → Prop) : Prop :=
  ∀ (pins : List (Addr × Obj)) (s : Shared) (σ : St) (H : Hp) (x : V) (v vl vu : Value) (lo hi : Option Int) (sl : Addr) (Q : VK), Inv X pins σ H s → RelV x v → s.heap.IsSliceOf sl vl vu .none → IsPart vl lo → IsPart vu hi → r x lo hi H Q →
    ∃ T id, typeLookup (.type T) "__getitem__" = pure (some (.builtin id)) ∧ s.TypeIs v T ∧ wpAny (model X.prog X.w) X.A (getItem v (.ref sl)) (EP X pins σ Q) X.xe s
theorem SlR.or {r r' : V → Option Int → Option Int → Hp → VK → Prop} (h : SlR X r) (h' : SlR X r') : SlR X (fun x lo hi H Q => r x lo hi H Q ∨ r' x lo hi H Q) := by
  intro pins s σ H x v vl vu lo hi sl Q I rx hs pl pu q
  rcases q with q | q
  · exact h pins s σ H x v vl vu lo hi sl Q I rx hs pl pu q
  · exact h' pins s σ H x v vl vu lo hi sl Q I rx hs pl pu q
def tSl (r : V → Option Int → Option Int → Hp → VK → Prop) (te : TE) (tl th : TO) : TE := fun σ H Q => te σ H fun x H1 => tl σ H1 fun l H2 => th σ H2 fun u H3 => r x l u H3 Q
theorem pe_slice {r : V → Option Int → Option Int → Hp → VK → Prop} (hr : SlR X r) (he : PE X e te) (hl : PO X lo tl) (hu : PO X hi th) : PE X (.Subscript e (.Slice lo hi none p2) pos) (tSl r te tl th) := by
  intro pins s σ H Q I h
  refine Subscript_ (thn (he pins s σ H _ I h) fun v s1 ⟨x, H1, I1, r1, q1⟩ => ?_)
  refine wpAny_Slice (thn (hl pins s1 σ H1 _ I1 q1) fun vl s2 ⟨l, H2, I2, pl, q2⟩ => thn (hu pins s2 σ H2 _ I2 q2) fun vu s3 ⟨u, H3, I3, pu, q3⟩ => ?_)
  rw [evalPart_none]
  refine wpAny_pure ?_
  have I4 : Inv X pins σ H3 { s3 with heap := s3.heap.push { cls := .type "slice", data := .fields #[vl, vu, .none] } } := I3.kept (t' := s3.toks) fun b ob q => Heap.get?_push_of_some _ q
  obtain ⟨T, id, hT, ht, hg⟩ := hr pins { s3 with heap := s3.heap.push { cls := .type "slice", data := .fields #[vl, vu, .none] } } σ H3 x v vl vu l u s3.heap.objs.size Q I4 r1 (Heap.IsSliceOf.new ..) pl pu q3
  show wpAny (model X.prog X.w) X.A (subscriptTail e (.Slice lo hi none p2) v (.ref s3.heap.objs.size)) (EP X pins σ Q) X.xe { s3 with heap := s3.heap.push { cls := .type "slice", data := .fields #[vl, vu, .none] } }
  exact tail_any (ops := [.ref s3.heap.objs.size, v]) ht hT hg (by with_unfolding_all rfl)
def cutV (xs : List V) (lo hi : Option Int) : List V := (xs.drop (HT.sIx xs.length 0 lo)).take (HT.sIx xs.length xs.length hi - HT.sIx xs.length 0 lo)
theorem cutV_length (xs : List V) (lo hi : Option Int) : (cutV xs lo hi).length ≤ xs.length := by
  unfold cutV
  rw [List.length_take, List.length_drop]
  omega
def rSlT (K : PySem.W.Frag) : V → Option Int → Option Int → Hp → VK → Prop := fun x lo hi H Q => ∃ a xs, x = .ref a ∧ SqT K H a xs ∧
  ¬ (HT.sIx xs.length 0 lo = 0 ∧ HT.sIx xs.length xs.length hi = xs.length) ∧ ∀ p, H p = none → Q (.ref p) (upd H p (.tup (cutV xs lo hi)))
theorem sl_tup : SlR X (rSlT X.K) := by
  intro pins s σ H x v vl vu lo hi sl Q I rx hs pl pu h
  obtain ⟨a, xs, rfl, hx, hw, q⟩ := h
  cases rx
  obtain ⟨its, r, ht, hz⟩ := I.tuple hx
  have hlen : its.toArray.size = xs.length := by rw [List.size_toArray]; exact r.length.symm
  refine ⟨"tuple", _, PyProof.Rows.slot_tuple_getitem.lookup, ht.typeIs, ?_⟩
  refine HT.getItem_tuple_cut ht hs pl pu (by rw [hlen]; exact hw) ?_ (by rw [hlen]; exact hz)
  rw [hlen]
  refine ⟨.ref s.heap.objs.size, _, I.laid (t' := s.toks) (o := .tup (cutV xs lo hi)) (fun b ob q => Heap.get?_push_of_some _ q) (Nat.le_refl _) ?_, rfl, q _ (I.hok.fresh (Nat.le_refl _))⟩
  exact ⟨Nat.le_trans (cutV_length xs lo hi) hz, _, (r.drop (HT.sIx xs.length 0 lo)).take (HT.sIx xs.length xs.length hi - HT.sIx xs.length 0 lo), TupO.new _ _⟩
def rCatT (K : PySem.W.Frag) : R2 := fun x y H Q => ∃ a b xs ys, x = .ref a ∧ y = .ref b ∧ SqT K H a xs ∧ SqT K H b ys ∧ xs ≠ [] ∧ xs.length + ys.length ≤ sizeLine ∧
  (ys = [] → Q (.ref a) H) ∧ (ys ≠ [] → ∀ p, H p = none → Q (.ref p) (upd H p (.tup (xs ++ ys))))
theorem Vals.nil_iff {xs : List V} {us : List Value} (r : Vals xs us) : us = [] ↔ xs = [] := by
  cases r with
  | nil => simp
  | cons _ _ => simp
theorem op_catT : OpR X (binaryOp .Add) (rCatT X.K) := by
  intro pins s σ H x y v u Q I rx ry h
  obtain ⟨a, b, xs, ys, rfl, rfl, ha, hb, hx, hz, q1, q2⟩ := h
  cases rx
  cases ry
  obtain ⟨its, r1, p1, _⟩ := I.tuple ha
  obtain ⟨its2, r2, p2, _⟩ := I.tuple hb
  refine HT.cat_tup p1 p2 (fun z => hx (r1.nil_iff.mp z)) (fun z => ⟨.ref a, H, I, rfl, q1 (r2.nil_iff.mp z)⟩) (fun z => ?_) (by rw [← r1.length, ← r2.length]; exact hz)
  refine ⟨.ref s.heap.objs.size, _, I.laid (t' := s.toks) (o := .tup (xs ++ ys)) (fun b ob q => Heap.get?_push_of_some _ q) (Nat.le_refl _) ?_, rfl, q2 (fun w => z (r2.nil_iff.mpr w)) _ (I.hok.fresh (Nat.le_refl _))⟩
  exact ⟨by rw [List.length_append]; exact hz, _, r1.append r2, TupO.new _ _⟩
end
end L2
namespace L2
open PySem PySem.Spec PyProof.Rows
def ixN (n : Nat) (i : Int) : Option Nat := if 0 ≤ i then (if i < n then some i.toNat else none) else if -(n : Int) ≤ i then some (i + n).toNat else none
def atI {α : Type} (xs : List α) (i : Int) : Option α := (ixN xs.length i).bind fun j => xs[j]?
theorem ixN_seq {n : Nat} {i : Int} {j : Nat} (h : ixN n i = some j) : seqIndex? i n = some j ∧ j < n ∧ -(n : Int) ≤ i ∧ i < n := by
  unfold ixN at h
  by_cases h0 : 0 ≤ i
  · rw [if_pos h0] at h
    by_cases h1 : i < n
    · rw [if_pos h1] at h
      have e : i.toNat = j := Option.some.inj h
      exact ⟨by rw [seqIndex_of h0 h1, e], by omega, by omega, h1⟩
    · rw [if_neg h1] at h; cases h
  · rw [if_neg h0] at h
    by_cases h1 : -(n : Int) ≤ i
    · rw [if_pos h1] at h
      have e : (i + n).toNat = j := Option.some.inj h
      exact ⟨by rw [seqIndex_neg (by omega) h1, e], by omega, h1, by omega⟩
    · rw [if_neg h1] at h; cases h
theorem atI_get {α : Type} {xs : List α} {i : Int} {v : α} (h : atI xs i = some v) : ∃ j, seqIndex? i xs.length = some j ∧ xs[j]? = some v ∧ j < xs.length ∧ -(xs.length : Int) ≤ i ∧ i < xs.length := by
  unfold atI at h
  cases e : ixN xs.length i with
  | none => rw [e] at h; cases h
  | some j =>
    rw [e] at h
    obtain ⟨h1, h2, h3, h4⟩ := ixN_seq e
    exact ⟨j, h1, h, h2, h3, h4⟩
theorem atI_nat {α : Type} {xs : List α} {j : Nat} {v : α} (h : xs[j]? = some v) : atI xs (j : Int) = some v := by
  have hj : j < xs.length := (List.getElem?_eq_some_iff.mp h).1
  have e : ixN xs.length (j : Int) = some j := by
    unfold ixN
    rw [if_pos (by omega), if_pos (by omega)]; simp
  unfold atI; rw [e]; exact h
def PlainIx (b : Expr) : Prop := ∀ o i, subscripted b false o i = operate [o, i] (getItem o i)
def IxR (X : Cx) (r : R2) : Prop :=
  ∀ (value slice : Expr) (pins : List (Addr × Obj)) (s : Shared) (σ : St) (H : Hp) (x y : V) (v u : Value) (Q : VK), Inv X pins σ H s → RelV x v → RelV y u → r x y H Q →
    subscripted slice false v u = operate [v, u] (getItem v u) → wpAny (model X.prog X.w) X.A (subscriptTail value slice v u) (EP X pins σ Q) X.xe s
def MtR (X : Cx) (id : String) (r : V → List V → Hp → VK → Prop) : Prop :=
  ∀ (pins : List (Addr × Obj)) (s : Shared) (σ : St) (H : Hp) (x : V) (xs : List V) (v : Value) (us : List Value) (Q : VK), Inv X pins σ H s → RelV x v → Vals xs us → r x xs H Q →
    wpAny (model X.prog X.w) X.A (call (.builtin id) (v :: us)) (EP X pins σ Q) X.xe s
section
variable {X : Cx} {a b : Expr} {ta tb : TE} {pos : Pos}
theorem IxR.or {r r' : R2} (h : IxR X r) (h' : IxR X r') : IxR X (fun x y H Q => r x y H Q ∨ r' x y H Q) := by
  intro value slice pins s σ H x y v u Q I rx ry q hs
  rcases q with q | q
  · exact h value slice pins s σ H x y v u Q I rx ry q hs
  · exact h' value slice pins s σ H x y v u Q I rx ry q hs
theorem pe_ix {r : R2} (hr : IxR X r) (ha : PE X a ta) (hb : PE X b tb) (hs : PlainIx b) : PE X (.Subscript a b pos) (tOp r ta tb) := by
  intro pins s σ H Q I h
  exact Subscript_ (binT ha hb I h fun v u s2 x y H2 I2 rx ry q => hr a b pins s2 σ H2 x y v u Q I2 rx ry q (hs _ _))
def rIxL (K : PySem.W.Frag) : R2 := fun x y H Q => ∃ p xs i v, x = .ref p ∧ y = .int i ∧ SqL K H p xs ∧ atI xs i = some v ∧ Q v H
def rIxT (K : PySem.W.Frag) : R2 := fun x y H Q => ∃ p xs i v, x = .ref p ∧ y = .int i ∧ SqT K H p xs ∧ atI xs i = some v ∧ Q v H
def rIxS : R2 := fun x y H Q => ∃ z i c, x = .str z ∧ y = .int i ∧ z.length ≤ sizeLine ∧ atI z.cps.toList i = some c ∧ Q (.str ⟨#[c]⟩) H
theorem ix_list : IxR X (rIxL X.K) := by
  intro value slice pins s σ H x y v u Q I rx ry h hs
  obtain ⟨p, xs, i, z, rfl, rfl, hq, he, q⟩ := h
  cases rx
  obtain ⟨t, rfl⟩ := ry
  obtain ⟨its, r, pl, hz⟩ := I.list hq
  obtain ⟨j, h1, h2, h3, h4, h5⟩ := atI_get he
  obtain ⟨w, ew, rw'⟩ := r.get h2
  have hl := r.length
  have hn := line63
  have fin : EP X pins σ Q w s := ⟨z, H, I, rw', q⟩
  by_cases h0 : 0 ≤ i
  · have hj : i.toNat = j := by
      rw [seqIndex_of h0 h5] at h1
      exact Option.some.inj h1
    exact item_listR pl.isList h0 (by omega) (by rw [hj]; simpa using ew) fin hs
  · have hj : (i + (its.toArray.size : Int)).toNat = j := by
      rw [seqIndex_neg (by omega) h4] at h1
      rw [List.size_toArray, ← hl]
      exact Option.some.inj h1
    exact subscriptTail_builtinR (x := w) pl.isList.typeIs slot_list_getitem.lookup
      (wpAny_getItem_list_neg (Q := fun r s' => r = w ∧ EP X pins σ Q r s') pl.isList (by omega) (by rw [List.size_toArray] <;> omega) (by omega) (by rw [hj]; simpa using ew) ⟨rfl, fin⟩) hs
theorem ix_tup : IxR X (rIxT X.K) := by
  intro value slice pins s σ H x y v u Q I rx ry h hs
  obtain ⟨p, xs, i, z, rfl, rfl, hq, he, q⟩ := h
  cases rx
  obtain ⟨t, rfl⟩ := ry
  obtain ⟨its, r, pl, hz⟩ := I.tuple hq
  obtain ⟨j, h1, h2, h3, h4, h5⟩ := atI_get he
  obtain ⟨w, ew, rw'⟩ := r.get h2
  have hl := r.length
  have hn := line63
  have fin : EP X pins σ Q w s := ⟨z, H, I, rw', q⟩
  exact subscriptTail_builtinR (x := w) pl.typeIs slot_tuple_getitem.lookup
    (getItem_tuple (j := j) (Q := fun r s' => r = w ∧ EP X pins σ Q r s') pl (by omega) (by omega) (by rw [List.size_toArray, ← hl]; exact h1) (by simpa using ew) ⟨rfl, fin⟩) hs
theorem ix_str : IxR X rIxS := by
  intro value slice pins s σ H x y v u Q I rx ry h hs
  obtain ⟨z, i, c, rfl, rfl, hz, he, q⟩ := h
  obtain ⟨t, rfl⟩ := rx
  obtain ⟨t', rfl⟩ := ry
  obtain ⟨j, h1, h2, h3, h4, h5⟩ := atI_get he
  have hl : z.cps.toList.length = z.length := by simp [Str.length]
  rw [hl] at h1 h4 h5
  have hn := line63
  exact tail_any (typeIs_str s z t) slot_str_getitem.lookup (getItem_str (c := c) (by
    have e1 : decide (i < -(2 ^ 63 : Int)) = false := decide_eq_false (by omega)
    have e2 : decide (i ≥ 2 ^ 63) = false := decide_eq_false (by omega)
    rw [e1, e2, Bool.or_false]) (by rw [h1]; simpa using h2) ⟨.str ⟨#[c]⟩, H, I.tok _, ⟨_, rfl⟩, q⟩) hs
def rIx (K : PySem.W.Frag) : R2 := fun x y H Q => rIxL K x y H Q ∨ rIxT K x y H Q ∨ rIxS x y H Q
theorem ix_seq : IxR X (rIx X.K) := ix_list.or (ix_tup.or ix_str)
theorem slice_bounds (lo hi : Option Int) (n : Nat) : (sliceBounds lo hi none n).1 = ((HT.sIx n 0 lo : Nat) : Int) ∧ (sliceBounds lo hi none n).2.1 = ((HT.sIx n n hi : Nat) : Int) ∧ (sliceBounds lo hi none n).2.2 = 1 := by
  refine ⟨?_, ?_, rfl⟩
  · cases lo with
    | none => simp [sliceBounds, HT.sIx]
    | some i =>
      simp only [sliceBounds, HT.sIx, Option.getD_none, show (1 : Int) > 0 by decide, if_true]
      by_cases h : i < 0
      · simp only [h, if_true] <;> omega
      · simp only [h, if_false] <;> omega
  · cases hi with
    | none => simp [sliceBounds, HT.sIx]
    | some i =>
      simp only [sliceBounds, HT.sIx, Option.getD_none, show (1 : Int) > 0 by decide, if_true]
      by_cases h : i < 0
      · simp only [h, if_true] <;> omega
      · simp only [h, if_false] <;> omega
theorem slicePick_cut (its : List Value) (lo hi : Option Int) : slicePick its.toArray lo hi none = ((its.drop (HT.sIx its.length 0 lo)).take (HT.sIx its.length its.length hi - HT.sIx its.length 0 lo)).toArray := by
  obtain ⟨h1, h2, h3⟩ := slice_bounds lo hi its.toArray.size
  unfold slicePick
  rw [h1, h2, h3]
  simp only [sliceRange_one, pick_run, List.size_toArray] <;> rfl
def rSlL (K : PySem.W.Frag) : V → Option Int → Option Int → Hp → VK → Prop := fun x lo hi H Q => ∃ a xs, x = .ref a ∧ SqL K H a xs ∧ ∀ p, H p = none → Q (.ref p) (upd H p (.lst (cutV xs lo hi)))
theorem sl_list : SlR X (rSlL X.K) := by
  intro pins s σ H x v vl vu lo hi sl Q I rx hs pl pu h
  obtain ⟨a, xs, rfl, hx, q⟩ := h
  cases rx
  obtain ⟨its, r, ht, hz⟩ := I.list hx
  have hlen := r.length
  refine ⟨"list", _, slot_list_getitem.lookup, ht.isList.typeIs, ?_⟩
  refine wpAny_getItem_list_slice ht.isList hs pl pu .none (by simp) ?_ (by rw [List.size_toArray] <;> omega)
  rw [slicePick_cut, ← hlen]
  refine ⟨.ref s.heap.objs.size, _, I.laid (t' := s.toks) (o := .lst (cutV xs lo hi)) (fun b ob q => Heap.get?_push_of_some _ q) (Nat.le_refl _) ?_, rfl, q _ (I.hok.fresh (Nat.le_refl _))⟩
  exact ⟨Nat.le_trans (cutV_length xs lo hi) hz, _, 0, (r.drop (HT.sIx xs.length 0 lo)).take (HT.sIx xs.length xs.length hi - HT.sIx xs.length 0 lo), Heap.get?_push_size _ rfl⟩
def flatV : V → Bool
  | .non => true
  | .bl _ => true
  | .int _ => true
  | .str _ => true
  | _ => false
def eqV : V → V → Bool
  | .non, .non => true
  | .bl a, .bl b => a == b
  | .bl a, .int b => (if a then 1 else 0) == b
  | .int a, .bl b => a == (if b then 1 else 0)
  | .int a, .int b => a == b
  | .str a, .str b => a == b
  | _, _ => false
theorem eqAt_V {A : Around} {s : Shared} {y x : V} {u v : Value} (ry : RelV y u) (rx : RelV x v) (fy : flatV y = true) (fx : flatV x = true) : SeqAt.EqAt A s u v (eqV y x) := by
  cases y with
  | non =>
    cases ry
    cases x with
    | non => cases rx; exact SeqAt.EqAt.same _
    | bl b => cases rx; exact SeqAt.EqAt.none_bool b
    | int b => obtain ⟨t, rfl⟩ := rx; exact SeqAt.EqAt.none_int b t
    | str b => obtain ⟨t, rfl⟩ := rx; exact SeqAt.EqAt.none_str b t
    | _ => exact absurd (show false = true from fx) Bool.false_ne_true
  | bl a =>
    cases ry
    cases x with
    | non => cases rx; exact SeqAt.EqAt.bool_none a
    | bl b => cases rx; exact SeqAt.EqAt.bool_bool a b
    | int b => obtain ⟨t, rfl⟩ := rx; exact SeqAt.EqAt.bool_int a b t
    | str b => obtain ⟨t, rfl⟩ := rx; exact SeqAt.EqAt.bool_str a b t
    | _ => exact absurd (show false = true from fx) Bool.false_ne_true
  | int a =>
    obtain ⟨t', rfl⟩ := ry
    cases x with
    | non => cases rx; exact SeqAt.EqAt.int_none a t'
    | bl b => cases rx; exact SeqAt.EqAt.int_bool a t' b
    | int b => obtain ⟨t, rfl⟩ := rx; exact SeqAt.EqAt.int_int a t' b t
    | str b => obtain ⟨t, rfl⟩ := rx; exact SeqAt.EqAt.int_str a t' b t
    | _ => exact absurd (show false = true from fx) Bool.false_ne_true
  | str a =>
    obtain ⟨t', rfl⟩ := ry
    cases x with
    | non => cases rx; exact SeqAt.EqAt.str_none a t'
    | bl b => cases rx; exact SeqAt.EqAt.str_bool a t' b
    | int b => obtain ⟨t, rfl⟩ := rx; exact SeqAt.EqAt.str_int a t' b t
    | str b => obtain ⟨t, rfl⟩ := rx; exact SeqAt.EqAt.str_str a t' b t
    | _ => exact absurd (show false = true from fx) Bool.false_ne_true
  | _ => exact absurd (show false = true from fy) Bool.false_ne_true
def eqU (x : V) (u : Value) : Bool := match u with
  | .none => eqV .non x
  | .bool b => eqV (.bl b) x
  | .int i _ => eqV (.int i) x
  | .str z _ => eqV (.str z) x
  | _ => false
theorem eqU_of {x y : V} {u : Value} (r : RelV y u) (f : flatV y = true) : eqU x u = eqV y x := by
  cases y with
  | non => cases r; rfl
  | bl b => cases r; rfl
  | int i => obtain ⟨t, rfl⟩ := r; rfl
  | str z => obtain ⟨t, rfl⟩ := r; rfl
  | _ => exact absurd (show false = true from f) Bool.false_ne_true
theorem any_eqU {x : V} : ∀ {xs : List V} {us : List Value}, Vals xs us → xs.all flatV = true → us.any (eqU x) = xs.any fun y => eqV y x
  | _, _, .nil, _ => rfl
  | y :: xs, u :: us, .cons r t, f => by
    rw [List.all_cons, Bool.and_eq_true] at f
    rw [List.any_cons, List.any_cons, eqU_of r f.1, any_eqU t f.2]
theorem mem_eqAt {A : Around} {s : Shared} {x : V} {v : Value} (rx : RelV x v) (fx : flatV x = true) : ∀ {xs : List V} {us : List Value}, Vals xs us → xs.all flatV = true → ∀ u ∈ us, SeqAt.EqAt A s u v (eqU x u)
  | _, _, .nil, _ => fun u hu => by cases hu
  | y :: xs, u :: us, .cons r t, f => fun u' hu => by
    rw [List.all_cons, Bool.and_eq_true] at f
    rcases List.mem_cons.mp hu with rfl | hu
    · rw [eqU_of r f.1]; exact eqAt_V r rx f.1 fx
    · exact mem_eqAt rx fx t f.2 u' hu
def inV (x : V) (xs : List V) : Bool := xs.any fun y => eqV y x
def rIn (K : PySem.W.Frag) (neg : Bool) : R2 := fun x y H Q => ∃ p xs, y = .ref p ∧ (SqL K H p xs ∨ SqT K H p xs) ∧ flatV x = true ∧ xs.all flatV = true ∧ Q (.bl (if neg then !inV x xs else inV x xs)) H
theorem op_in_seq : OpR X (compareOp .In) (rIn X.K false) := by
  intro pins s σ H x y v u Q I rx ry h
  obtain ⟨p, xs, rfl, hq, fx, fs, q⟩ := h
  cases ry
  rcases hq with hq | hq
  · obtain ⟨its, r, pl, hz⟩ := I.list hq
    refine SeqAt.in_listAt (eqU x) pl.isList (fun w hw => mem_eqAt rx fx r fs w (by simpa using hw)) ⟨.bl _, H, I, rfl, ?_⟩
    rw [show its.toArray.any (eqU x) = its.any (eqU x) by simp, any_eqU r fs]
    exact q
  · obtain ⟨its, r, pl, hz⟩ := I.tuple hq
    refine SeqAt.in_tupleAt (eqU x) pl (fun w hw => mem_eqAt rx fx r fs w (by simpa using hw)) ⟨.bl _, H, I, rfl, ?_⟩
    rw [show its.toArray.any (eqU x) = its.any (eqU x) by simp, any_eqU r fs]
    exact q
theorem op_notIn_seq : OpR X (compareOp .NotIn) (rIn X.K true) := by
  intro pins s σ H x y v u Q I rx ry h
  obtain ⟨p, xs, rfl, hq, fx, fs, q⟩ := h
  cases ry
  rcases hq with hq | hq
  · obtain ⟨its, r, pl, hz⟩ := I.list hq
    refine SeqAt.notIn_listAt (eqU x) pl.isList (fun w hw => mem_eqAt rx fx r fs w (by simpa using hw)) ⟨.bl _, H, I, rfl, ?_⟩
    rw [show its.toArray.any (eqU x) = its.any (eqU x) by simp, any_eqU r fs]
    exact q
  · obtain ⟨its, r, pl, hz⟩ := I.tuple hq
    refine SeqAt.notIn_tupleAt (eqU x) pl (fun w hw => mem_eqAt rx fx r fs w (by simpa using hw)) ⟨.bl _, H, I, rfl, ?_⟩
    rw [show its.toArray.any (eqU x) = its.any (eqU x) by simp, any_eqU r fs]
    exact q
theorem call_len_seq : CallR X (.builtin "len") (fun xs H Q => ∃ p ys, xs = [.ref p] ∧ (SqL X.K H p ys ∨ SqT X.K H p ys) ∧ Q (.int ys.length) H) := by
  intro pins s σ H xs us Q I r h
  obtain ⟨p, ys, rfl, hq, q⟩ := h
  obtain ⟨u, rfl, rx⟩ := vals1 r
  cases rx
  have hn := line63
  rcases hq with hq | hq
  · obtain ⟨its, r', pl, hz⟩ := I.list hq
    have hlen := r'.length
    exact Calls.call_len_list pl.isList (by simp only [List.size_toArray] <;> omega) ⟨.int ys.length, H, I.tok _, ⟨s.toks + 1, by rw [List.size_toArray, hlen]⟩, q⟩
  · obtain ⟨its, r', pl, hz⟩ := I.tuple hq
    have hlen := r'.length
    exact len_tuple pl (by simp only [List.size_toArray] <;> omega) ⟨.int ys.length, H, I.tok _, ⟨s.toks + 1, by rw [List.size_toArray, hlen]⟩, q⟩
theorem call_len_str : CallR X (.builtin "len") (fun xs H Q => ∃ z, xs = [.str z] ∧ z.length ≤ sizeLine ∧ Q (.int z.length) H) := by
  intro pins s σ H xs us Q I r h
  obtain ⟨z, rfl, hz, q⟩ := h
  obtain ⟨u, rfl, t, rfl⟩ := vals1 r
  have hn := line63
  exact len_str (by omega) ⟨.int z.length, H, I.tok _, ⟨_, rfl⟩, q⟩
theorem CallR.or {f : Value} {r r' : List V → Hp → VK → Prop} (h : CallR X f r) (h' : CallR X f r') : CallR X f (fun xs H Q => r xs H Q ∨ r' xs H Q) := by
  intro pins s σ H xs us Q I rs q
  rcases q with q | q
  · exact h pins s σ H xs us Q I rs q
  · exact h' pins s σ H xs us Q I rs q
def tyV (K : PySem.W.Frag) (T : String) (x : V) (H : Hp) : Prop := match x with
  | .str _ => T = "str"
  | .int _ => T = "int"
  | .ref p => (T = "list" ∧ ∃ xs, SqL K H p xs) ∨ (T = "tuple" ∧ ∃ o, K.lookup p = some o ∧ o.cls = .type "tuple" ∧ o.dict = none) ∨
      (T = "dict" ∧ ((∃ kvs, H p = some (.dK kvs)) ∨ ∃ kvs, H p = some (.dT kvs))) ∨ (T = "set" ∧ ∃ S n, H p = some (.set S n))
  | _ => False
theorem tyV_is {pins : List (Addr × Obj)} {σ : St} {H : Hp} {s : Shared} {T : String} {x : V} {v : Value} (I : Inv X pins σ H s) (r : RelV x v) (ty : tyV X.K T x H) :
    s.TypeIs v T ∧ ∀ a, v = .ref a → ∃ ob, s.heap.get? a = some ob ∧ ob.dict = none := by
  cases x with
  | str z =>
    obtain ⟨t, rfl⟩ := r
    cases (show T = "str" from ty)
    exact ⟨typeIs_str s z t, fun _ e => nomatch e⟩
  | int i =>
    obtain ⟨t, rfl⟩ := r
    cases (show T = "int" from ty)
    exact ⟨typeIs_int s i t, fun _ e => nomatch e⟩
  | ref p =>
    cases r
    rcases ty with ⟨rfl, xs, hq⟩ | ⟨rfl, o, hk, hc, hd⟩ | ⟨rfl, hk⟩ | ⟨rfl, S, n, hk⟩
    · obtain ⟨its, _, pl, _⟩ := I.list hq
      refine ⟨pl.isList.typeIs, fun a e => ?_⟩
      cases e
      obtain ⟨o, n, e, c, hd, _⟩ := pl
      exact ⟨o, e, hd⟩
    · refine ⟨⟨o, I.kIn p o hk, hc⟩, fun a e => ?_⟩
      cases e
      exact ⟨o, I.kIn _ o hk, hd⟩
    · have z : ∃ o, s.heap.get? p = some o ∧ o.ExactDict := by
        rcases hk with ⟨kvs, hk⟩ | ⟨kvs, hk⟩
        · obtain ⟨_, _, _, _, o, _, _, e, ex, _⟩ := I.hok p _ hk
          exact ⟨o, e, ex⟩
        · obtain ⟨_, _, _, _, o, _, _, e, ex, _⟩ := I.hok p _ hk
          exact ⟨o, e, ex⟩
      obtain ⟨o, e, ex⟩ := z
      refine ⟨⟨o, e, ex.1⟩, fun a e2 => ?_⟩
      cases e2
      exact ⟨o, e, ex.2.1⟩
    · obtain ⟨o, _, _, _, e, ex, _⟩ := I.hok p _ hk
      refine ⟨⟨o, e, ex.1⟩, fun a e2 => ?_⟩
      cases e2
      exact ⟨o, e, ex.2.1⟩
  | _ => exact False.elim ty
def tBM0 (K : PySem.W.Frag) (T : String) (r : V → List V → Hp → VK → Prop) (to : TE) : TE := fun σ H Q => to σ H fun x H1 => tyV K T x H1 ∧ r x [] H1 Q
def tBM (K : PySem.W.Frag) (T : String) (r : V → List V → Hp → VK → Prop) (to : TE) (t : TA) : TE := fun σ H Q => to σ H fun x H1 => tyV K T x H1 ∧ t σ H1 fun xs H2 => r x xs H2 Q
variable {o e : Expr} {es : List Expr} {to : TE} {t : TA} {name : Str} {apos cpos : Pos} {T id : String} {r : V → List V → Hp → VK → Prop}
theorem pe_bm0 (pa : PlainAttrs T) (slot : Slot T name id) (hty : typeOf (.builtin id) = pure (.type "method_descriptor")) (hm : MtR X id r) (ho : PE X o to)
    (hbase : attributeBase o name X.env (eval o X.env) = eval o X.env := by rfl) (hline : (apos.endLine == cpos.line) = true := by rfl) : PE X (.Call (.Attribute o name apos) [] [] cpos) (tBM0 X.K T r to) := by
  intro pins s σ H Q I h
  refine wpAny_Call_method0_late hbase hline (thn (ho pins s σ H _ I h) fun v s1 ⟨x, H1, I1, r1, ty, q1⟩ => ?_)
  obtain ⟨h1, h2⟩ := tyV_is I1 r1 ty
  exact ⟨T, id, pa, slot, hty, h1, h2, Calls.callWith_builtin rfl (PySem.evalArgs_none (hm pins s1 σ H1 x [] v [] Q I1 r1 .nil q1))⟩
theorem pe_bm (pa : PlainAttrs T) (slot : Slot T name id) (hty : typeOf (.builtin id) = pure (.type "method_descriptor")) (hm : MtR X id r) (ho : PE X o to) (ha : PA X (e :: es) t)
    (hbase : attributeBase o name X.env (eval o X.env) = eval o X.env := by rfl)
    (hfew : ((backTo cpos (starEach (e :: es) X.env)).all (fun x => !x.1) && (backToKw cpos (keywordEach [] X.env)).all (fun x => x.1.isSome)
      && decide ((e :: es).length + ([] : List Keyword).length + (if ([] : List Keyword).isEmpty then 0 else 1) < 30)) = true := by rfl)
    (hline : (apos.endLine == cpos.line) = true := by rfl) (hs : starEach (e :: es) X.env = (false, eval e X.env) :: starEach es X.env := by rfl) (hplain : (backTo cpos (starEach es X.env)).any (·.1) = false := by rfl) :
    PE X (.Call (.Attribute o name apos) (e :: es) [] cpos) (tBM X.K T r to t) := by
  intro pins s σ H Q I h
  refine wpAny_Call_method_late hbase hfew hline rfl (thn (ho pins s σ H _ I h) fun v s1 ⟨x, H1, I1, r1, ty, q1⟩ => ?_)
  obtain ⟨h1, h2⟩ := tyV_is I1 r1 ty
  refine ⟨T, id, pa, slot, hty, h1, h2, ?_⟩
  have hA := ha cpos pins s1 σ H1 _ I1 q1
  rw [hs] at hA ⊢
  refine Calls.callWith_builtin (by show (false || (backTo cpos (starEach es X.env)).any (·.1)) = false; rw [hplain] <;> rfl) (Calls.evalArgs_plain ?_)
  exact thn hA fun us s2 ⟨vs, H2, I2, r2, q2⟩ => hm pins s2 σ H2 x vs v us Q I2 r1 r2 q2
end
end L2
namespace L2
open PySem PySem.Spec PyProof.Rows
def MtM (X : Cx) (id : String) (r : V → List V → Hp → VK → Prop) : Prop :=
  ∀ (pins : List (Addr × Obj)) (s : Shared) (σ : St) (H : Hp) (x : V) (xs : List V) (v : Value) (us : List Value) (Q : VK), Inv X pins σ H s → RelV x v → Vals xs us → r x xs H Q →
    wpAny (model X.prog X.w) X.A (call (.builtin id) (v :: us)) (EP X pins σ Q) X.xe s
theorem Vals.one : ∀ {x : V} {us : List Value}, Vals [x] us → ∃ u, us = [u] ∧ RelV x u
  | _, _, .cons r .nil => ⟨_, rfl, r⟩
theorem Vals.zero : ∀ {us : List Value}, Vals [] us → us = []
  | _, .nil => rfl
theorem Vals.dropLast {xs : List V} {us : List Value} (h : Vals xs us) : Vals xs.dropLast us.dropLast := by
  induction h with
  | nil => exact .nil
  | cons r t ih =>
    cases t with
    | nil => exact .nil
    | cons q t' => exact .cons r ih
theorem erase_last {α : Type} (l : List α) : l.eraseIdx (l.length - 1) = l.dropLast := by
  induction l with
  | nil => rfl
  | cons a r ih =>
    cases r with
    | nil => rfl
    | cons b r =>
      have e : (a :: b :: r).length - 1 = ((b :: r).length - 1) + 1 := by
        have h1 : (a :: b :: r).length = r.length + 2 := rfl
        have h2 : (b :: r).length = r.length + 1 := rfl
        omega
      rw [e, List.eraseIdx_cons_succ, ih]
      all_goals rfl
section
variable {X : Cx} {pins : List (Addr × Obj)} {σ : St} {H : Hp} {s : Shared} {l b : Addr} {xs ys zs : List V}
theorem Inv.lset {its its' : List Value} {n : Nat} {f : Array Value → Array Value} {t' : Nat} (I : Inv X pins σ H s) (hH : H l = some (.lst xs))
    (e : s.heap.get? l = some { cls := .type "list", data := .seq its.toArray n }) (hf : f its.toArray = its'.toArray) (hv : Vals ys its') (hz : ys.length ≤ sizeLine) :
    Inv X pins σ (upd H l (.lst ys)) { s with heap := s.heap.update l (Obj.mapSeq f), toks := t' } := by
  have q := PySem.IsL.update e f
  rw [hf] at q
  refine I.write (x := l) (e := l) (by rw [hH]; exact trivial) (.inl rfl) (fun b' u hb hu => (Heap.get?_update_other s.heap (Obj.mapSeq f) (Ne.symm hb)).trans hu) ⟨_, q⟩ ?_
  exact ⟨hz, its', _, hv, q⟩
theorem Inv.lnew {its : List Value} {t' : Nat} (I : Inv X pins σ H s) (hv : Vals ys its) (hz : ys.length ≤ sizeLine) :
    Inv X pins σ (upd H s.heap.objs.size (.lst ys)) { s with heap := s.heap.push { cls := .type "list", data := .seq its.toArray }, toks := t' } :=
  I.laid (fun _ _ q => Heap.get?_push_of_some _ q) (Nat.le_refl _) ⟨hz, its, 0, hv, Heap.get?_push_size _ rfl⟩
theorem Inv.fresh (I : Inv X pins σ H s) : H s.heap.objs.size = none := I.hok.fresh (Nat.le_refl _)
theorem Inv.lstM (I : Inv X pins σ H s) (hH : H l = some (.lst xs)) : xs.length ≤ sizeLine ∧ ∃ (its : List Value) (n : Nat), Vals xs its ∧ xs.length = its.length ∧ s.heap.get? l = some { cls := .type "list", data := .seq its.toArray n } := by
  obtain ⟨z, its, n, r, e⟩ := I.hok l _ hH
  exact ⟨z, its, n, r, r.length, e⟩
theorem notLongL {n : Nat} (h : n ≤ sizeLine) : Builtin.List.listTooLong n = false := by
  unfold Builtin.List.listTooLong
  exact decide_eq_false (by omega)
end
section
variable {X : Cx}
def rAppend : V → List V → Hp → VK → Prop := fun x vs H Q => ∃ l xs y, x = .ref l ∧ vs = [y] ∧ H l = some (.lst xs) ∧ xs.length < sizeLine ∧ Q .non (upd H l (.lst (xs ++ [y])))
theorem mt_append : MtM X "list.append" rAppend := by
  intro pins s σ H x vs v us Q I rx rv h
  obtain ⟨l, xs, y, rfl, rfl, hH, hz, q⟩ := h
  cases rx
  obtain ⟨u, rfl, ru⟩ := rv.one
  obtain ⟨z, its, n, r, hl, e⟩ := I.lstM hH
  refine call_meets F.slot_list_append ⟨_, e, rfl⟩ F.entry_list_append (F.args_list_append_2 _ _) (PySem.list_append l its.toArray n u (by rw [List.size_toArray]; omega)) ⟨e, ?_⟩
  refine ⟨.non, _, I.lset (its' := its ++ [u]) hH e (by simp) (r.append (.cons ru .nil)) ?_, rfl, q⟩
  rw [List.length_append, List.length_singleton]
  omega
def rExtend : V → List V → Hp → VK → Prop := fun x vs H Q => ∃ l b xs zs, x = .ref l ∧ vs = [.ref b] ∧ H l = some (.lst xs) ∧ H b = some (.lst zs) ∧ xs.length + zs.length ≤ sizeLine ∧ Q .non (upd H l (.lst (xs ++ zs)))
theorem mt_extend : MtM X "list.extend" rExtend := by
  intro pins s σ H x vs v us Q I rx rv h
  obtain ⟨l, b, xs, zs, rfl, rfl, hH, hB, hz, q⟩ := h
  cases rx
  obtain ⟨u, rfl, ru⟩ := rv.one
  cases ru
  obtain ⟨z, its, n, r, hl, e⟩ := I.lstM hH
  obtain ⟨z2, its2, n2, r2, hl2, e2⟩ := I.lstM hB
  have hsz : its.toArray.size + its2.toArray.size ≤ sizeLine := by rw [List.size_toArray, List.size_toArray]; omega
  have hlong : ¬ (!its.toArray.isEmpty && Builtin.List.listTooLong (its.toArray.size + its2.toArray.size)) = true := by
    rw [notLongL hsz, Bool.and_false]
    exact Bool.false_ne_true
  refine call_meets F.slot_list_extend ⟨_, e, rfl⟩ F.entry_list_extend (F.args_list_extend_2 _ _)
    (AutoSeq1.list_extend_list_list_0 l its.toArray n b its2.toArray n2 hlong (by rw [List.size_toArray]; omega) (by omega)) ⟨e, e2, ?_⟩
  refine ⟨.non, _, I.lset (its' := its ++ its2) hH e (by simp) (r.append r2) ?_, rfl, q⟩
  rw [List.length_append]
  omega
def rPop : V → List V → Hp → VK → Prop := fun x vs H Q => ∃ l xs y, x = .ref l ∧ vs = [] ∧ H l = some (.lst xs) ∧ xs[xs.length - 1]? = some y ∧ Q y (upd H l (.lst xs.dropLast))
theorem mt_pop : MtM X "list.pop" rPop := by
  intro pins s σ H x vs v us Q I rx rv h
  obtain ⟨l, xs, y, rfl, rfl, hH, hy, q⟩ := h
  cases rx
  have hus := rv.zero
  subst hus
  obtain ⟨z, its, n, r, hl, e⟩ := I.lstM hH
  obtain ⟨u, hu, ru⟩ := r.get hy
  have hy' : its.toArray[its.toArray.size - 1]? = some u := by
    show its.toArray[its.length - 1]? = some u
    rw [← Array.getElem?_toList, ← hl]
    exact hu
  refine call_meets F.slot_list_pop ⟨_, e, rfl⟩ F.entry_list_pop (F.args_list_pop_1 _) (MeetsSeq.list_pop_last l its.toArray n u hy' (by rw [List.size_toArray]; omega)) ⟨e, ?_⟩
  refine ⟨y, _, I.lset (its' := its.dropLast) hH e ?_ r.dropLast ?_, ru, q⟩
  · show its.toArray.eraseIdxIfInBounds (its.toArray.size - 1) = its.dropLast.toArray
    rw [List.size_toArray, List.eraseIdxIfInBounds_toArray, erase_last]
  · rw [List.length_dropLast]
    omega
def rCat : R2 := fun x y H Q => ∃ l b xs zs, x = .ref l ∧ y = .ref b ∧ H l = some (.lst xs) ∧ H b = some (.lst zs) ∧ xs.length + zs.length ≤ sizeLine ∧ ∀ p, H p = none → Q (.ref p) (upd H p (.lst (xs ++ zs)))
theorem op_cat : OpR X (binaryOp .Add) rCat := by
  intro pins s σ H x y v u Q I rx ry h
  obtain ⟨l, b, xs, zs, rfl, rfl, hH, hB, hz, q⟩ := h
  cases rx
  cases ry
  obtain ⟨z, its, n, r, hl, e⟩ := I.lstM hH
  obtain ⟨z2, its2, n2, r2, hl2, e2⟩ := I.lstM hB
  refine PySem.P.add_list e e2 ?_ (by rw [List.size_toArray, List.size_toArray]; omega)
  have ea : its.toArray ++ its2.toArray = (its ++ its2).toArray := by simp
  rw [ea]
  exact ⟨.ref _, _, I.lnew (t' := s.toks) (r.append r2) (by rw [List.length_append]; omega), rfl, q _ I.fresh⟩
end
section
variable {prog : Program} {w : World} {A : Around} {E : Value → Shared → Prop} {s : Shared}
end
section
variable {X : Cx}
end
end L2
namespace L2
open PySem PySem.Spec PyProof.Rows
section
variable {κ : Type} [DecidableEq κ]
def valV (kvs : List (κ × V)) (k : κ) : Option V := (kvs.find? fun kv => decide (kv.1 = k)).map (·.2)
def putK (kvs : List (κ × V)) (k : κ) (v : V) : List (κ × V) :=
  if (kvs.any fun kv => decide (kv.1 = k)) = true then kvs.map (fun kv => if kv.1 = k then (kv.1, v) else kv) else kvs ++ [(k, v)]
theorem valV_pos {p : κ × V} {r : List (κ × V)} {k : κ} (e : p.1 = k) : valV (p :: r) k = some p.2 := by simp [valV, List.find?_cons, e]
theorem valV_neg {p : κ × V} {r : List (κ × V)} {k : κ} (e : ¬ p.1 = k) : valV (p :: r) k = valV r k := by simp [valV, List.find?_cons, e]
theorem RelO.isSome_eq {o : Option V} {u : Option Value} (r : RelO o u) : o.isSome = u.isSome := by
  cases o with
  | none => cases u with
    | none => rfl
    | some _ => exact (show False from r).elim
  | some _ => cases u with
    | none => exact (show False from r).elim
    | some _ => rfl
theorem KV.val {kvs : List (κ × V)} {vs : List (κ × Value)} (r : KV kvs vs) (k : κ) : RelO (valV kvs k) (valueAt vs k) := by
  unfold KV at r
  induction r with
  | nil => exact True.intro
  | @cons p q ps qs h t ih =>
    obtain ⟨h1, h2⟩ := h
    by_cases e : p.1 = k
    · have e' : q.1 = k := h1.symm.trans e
      have b : valueAt (q :: qs) k = some q.2 := by simp [valueAt, List.find?_cons, e']
      rw [valV_pos e, b]; exact h2
    · have e' : ¬ q.1 = k := fun z => e (h1.trans z)
      have b : valueAt (q :: qs) k = valueAt qs k := by simp [valueAt, List.find?_cons, e']
      rw [valV_neg e, b]; exact ih
theorem KV.any {kvs : List (κ × V)} {vs : List (κ × Value)} (r : KV kvs vs) (k : κ) : (kvs.any fun kv => decide (kv.1 = k)) = vs.any fun kv => decide (kv.1 = k) := by
  unfold KV at r
  induction r with
  | nil => rfl
  | cons h t ih => rw [List.any_cons, List.any_cons, ih, h.1]
theorem KV.repl {kvs : List (κ × V)} {vs : List (κ × Value)} (r : KV kvs vs) (k : κ) {y : V} {u : Value} (ry : RelV y u) :
    KV (kvs.map fun kv => if kv.1 = k then (kv.1, y) else kv) (vs.map fun kv => if kv.1 = k then (kv.1, u) else kv) := by
  unfold KV at r ⊢
  induction r with
  | nil => exact .nil
  | @cons p q ps qs h t ih =>
    rw [List.map_cons, List.map_cons]
    refine .cons ?_ ih
    obtain ⟨h1, h2⟩ := h
    by_cases e : p.1 = k
    · rw [if_pos e, if_pos (h1.symm.trans e)]; exact ⟨h1, ry⟩
    · rw [if_neg e, if_neg (fun z => e (h1.trans z))]; exact ⟨h1, h2⟩
theorem KV.put {kvs : List (κ × V)} {vs : List (κ × Value)} (r : KV kvs vs) (k : κ) {y : V} {u : Value} (ry : RelV y u) : KV (putK kvs k y) (stored vs k u) := by
  unfold putK stored
  rw [r.any k]
  by_cases e : (vs.any fun kv => decide (kv.1 = k)) = true
  · rw [if_pos e, if_pos e]; exact r.repl k ry
  · rw [if_neg e, if_neg e]; exact Paired.snoc r ⟨rfl, ry⟩
theorem KV.length {kvs : List (κ × V)} {vs : List (κ × Value)} (r : KV kvs vs) : kvs.length = vs.length := Paired.length r
end
theorem kV_is {P : Program} {w : World} {k : Key} {u : Value} (r : RelV (kV k) u) : (mixKind P w).is k u = true := by
  cases k with
  | inl i => obtain ⟨t, e⟩ := (show ∃ t, u = Value.int i t from r); subst e; exact mixKind_int P w i t
  | inr x => obtain ⟨t, e⟩ := (show ∃ t, u = Value.str x t from r); subst e; exact mixKind_str P w x t
theorem items_are {P : Program} {w : World} : ∀ {ks : List Key} {us : List Value}, Vals (ks.map kV) us → ItemsAre (mixKind P w) ks us
  | [], _, r => by rw [List.map_nil] at r; cases r; exact .nil
  | k :: ks, _, r => by
    rw [List.map_cons] at r
    cases r with
    | cons h t => exact .cons (kV_is h) (items_are t)
abbrev KT (H : Hp) : List (List Key × V) → List (List Key × Addr × Value) → Prop := Paired fun p q => p.1 = q.1 ∧ H q.2.1 = some (.tup (p.1.map kV)) ∧ RelV p.2 q.2.2
theorem KT.val {H : Hp} {kvs : List (List Key × V)} {xs : List (List Key × Addr × Value)} (r : KT H kvs xs) (k : List Key) : RelO (valV kvs k) ((atKey xs k).map (·.2)) := by
  induction r with
  | nil => exact True.intro
  | @cons p q ps qs h t ih =>
    obtain ⟨h1, _, h2⟩ := h
    by_cases e : p.1 = k
    · have e' : q.1 = k := h1.symm.trans e
      have b : atKey (q :: qs) k = some q.2 := by simp [atKey, List.find?_cons, e']
      rw [valV_pos e, b]; exact h2
    · have e' : ¬ q.1 = k := fun z => e (h1.trans z)
      have b : atKey (q :: qs) k = atKey qs k := by simp [atKey, List.find?_cons, e']
      rw [valV_neg e, b]; exact ih
section
variable {P : Program} {w : World} {H : Hp} {h : Heap} {a : Addr}
theorem rd_of {u : HO} (ok : HOk P w H h) (e : Rd H a u) : ObjOk P w H h a u := e.ok ok
theorem dk_rd {kvs : List (Key × V)} (ok : HOk P w H h) (e : Rd H a (.dK kvs)) : kvs.length ≤ sizeLine ∧ (a == sysModules) = false ∧ ∃ vs, KV kvs vs ∧ h.DictOf (mixKind P w) a vs :=
  show ObjOk P w H h a (.dK kvs) from rd_of ok e
theorem key_of {ks : List Key} (ok : HOk P w H h) (e : H a = some (.tup (ks.map kV))) : (tupleKind (mixKind P w)).is h ks a := by
  obtain ⟨_, its, r, p⟩ := (show ObjOk P w H h a (.tup (ks.map kV)) from ok a _ e)
  obtain ⟨o, h1, h2, n, h3⟩ := p.is
  exact ⟨o, its.toArray, n, h1, h2, h3, by simpa using items_are r⟩
theorem dt_rd {kvs : List (List Key × V)} (ok : HOk P w H h) (e : Rd H a (.dT kvs)) : kvs.length ≤ sizeLine ∧ (a == sysModules) = false ∧
    ∃ xs, KT H kvs xs ∧ h.DictOfH (tupleKind (mixKind P w)) a xs := by
  obtain ⟨z, y, xs, r, o, es, ep, h1, h2, h3, h4, h5⟩ := (show ObjOk P w H h a (.dT kvs) from rd_of ok e)
  refine ⟨z, y, xs, r, o, es, ep, h1, h2, h3, h4, fun x hx => ?_, h5⟩
  have all : ∀ {l : List (List Key × V)} {m : List (List Key × Addr × Value)}, KT H l m → ∀ x ∈ m, (tupleKind (mixKind P w)).is h x.1 x.2.1 := by
    intro l m q
    induction q with
    | nil => intro x hx; exact nomatch hx
    | @cons p q ps qs hq t ih =>
      intro x hx
      rcases List.mem_cons.mp hx with e | hx
      · subst e
        exact key_of ok (by rw [← hq.1]; exact hq.2.1)
      · exact ih x hx
  exact all r x hx
end
def DGet (H : Hp) (a : Addr) (y : V) (r : Option V) : Prop :=
  (∃ kvs k, Rd H a (.dK kvs) ∧ y = kV k ∧ r = valV kvs k) ∨ ∃ kvs k b, Rd H a (.dT kvs) ∧ y = .ref b ∧ H b = some (.tup (k.map kV)) ∧ r = valV kvs k
section
variable {X : Cx} {pins : List (Addr × Obj)} {σ : St} {H : Hp} {s : Shared} {a : Addr} {y v : V} {u r : Value} {o : Option V} {A : Around} {E : Value → Shared → Prop}
theorem Inv.big (I : Inv X pins σ H s) : sysModules < s.heap.objs.size := by
  have h : mainGlobals < s.heap.objs.size := (I.mod.glob.keeps I.bk).lt
  exact Nat.lt_trans (by decide) h
theorem d_getItem {Q : Value → Shared → Prop} (hu : A.units + 1 < cLine) (I : Inv X pins σ H s) (g : DGet H a y (some v)) (ry : RelV y u) (h : ∀ w' s', Inv X pins σ H s' → RelV v w' → Q w' s') :
    wpAny (model X.prog X.w) A (getItem (.ref a) u) Q E s := by
  rcases g with ⟨kvs, k, e, ey, l⟩ | ⟨kvs, k, b, e, ey, eb, l⟩
  · subst ey
    obtain ⟨z, hd, vs, rel, dd⟩ := dk_rd I.hok e
    obtain ⟨w', hw, rw'⟩ := RelO.some_of (v := v) (o := valueAt vs k) (by rw [l]; exact rel.val k)
    exact wpAny_getItem_of (kV_is ry) dd.mapOf hw (h w' _ (I.tok _) rw')
  · subst ey
    cases (show u = Value.ref b from ry)
    obtain ⟨z, hd, xs, rel, dd⟩ := dt_rd I.hok e
    obtain ⟨w', hw, rw'⟩ := RelO.some_of (v := v) (o := (atKey xs k).map (·.2)) (by rw [l]; exact rel.val k)
    obtain ⟨p, hp, hp2⟩ := Option.map_eq_some_iff.mp hw
    refine wpAny_getItem_heap (tupleKind_room_in1 hu) (key_of I.hok eb) dd hp ?_
    rw [hp2]
    exact h w' _ (I.tok _) rw'
theorem d_in {Q : Value → Shared → Prop} (hu : A.units + 1 < cLine) (I : Inv X pins σ H s) (g : DGet H a y o) (ry : RelV y u) (h : ∀ s', Inv X pins σ H s' → Q (.bool o.isSome) s') :
    wpAny (model X.prog X.w) A (compareOp .In u (.ref a)) Q E s := by
  rcases g with ⟨kvs, k, e, ey, l⟩ | ⟨kvs, k, b, e, ey, eb, l⟩
  · subst ey
    obtain ⟨z, hd, vs, rel, dd⟩ := dk_rd I.hok e
    refine wpAny_in_of (kV_is ry) hd dd.mapOf ?_
    rw [← (rel.val k).isSome_eq, ← l]
    exact h _ (I.tok _)
  · subst ey
    cases (show u = Value.ref b from ry)
    obtain ⟨z, hd, xs, rel, dd⟩ := dt_rd I.hok e
    refine wpAny_in_heap (tupleKind_room_in1 hu) (key_of I.hok eb) hd dd ?_
    have q := (rel.val k).isSome_eq
    rw [Option.isSome_map] at q
    rw [← q, ← l]
    exact h _ (I.tok _)
theorem d_notIn {Q : Value → Shared → Prop} (hu : A.units + 1 < cLine) (I : Inv X pins σ H s) (g : DGet H a y o) (ry : RelV y u) (h : ∀ s', Inv X pins σ H s' → Q (.bool (!o.isSome)) s') :
    wpAny (model X.prog X.w) A (compareOp .NotIn u (.ref a)) Q E s := by
  rcases g with ⟨kvs, k, e, ey, l⟩ | ⟨kvs, k, b, e, ey, eb, l⟩
  · subst ey
    obtain ⟨z, hd, vs, rel, dd⟩ := dk_rd I.hok e
    refine wpAny_notIn_of (kV_is ry) hd dd.mapOf ?_
    rw [← (rel.val k).isSome_eq, ← l]
    exact h _ (I.tok _)
  · subst ey
    cases (show u = Value.ref b from ry)
    obtain ⟨z, hd, xs, rel, dd⟩ := dt_rd I.hok e
    refine wpAny_notIn_heap (tupleKind_room_in1 hu) (key_of I.hok eb) hd dd ?_
    have q := (rel.val k).isSome_eq
    rw [Option.isSome_map] at q
    rw [← q, ← l]
    exact h _ (I.tok _)
end
section
variable {X : Cx} {pins : List (Addr × Obj)} {σ : St} {H : Hp} {s : Shared} {a : Addr} {kvs : List (Key × V)} {k : Key} {u : Value} {A : Around} {E : Value → Shared → Prop}
theorem d_len {Q : Value → Shared → Prop} (I : Inv X pins σ H s) (e : Rd H a (.dK kvs)) (h : ∀ t s', Inv X pins σ H s' → Q (.int kvs.length t) s') : wpAny (model X.prog X.w) A (call (.builtin "len") [.ref a]) Q E s := by
  obtain ⟨z, hd, vs, rel, dd⟩ := dk_rd I.hok e
  refine call_len_dict hd dd (by rw [← rel.length]; rw [sizeLine_eq] at z; omega) ?_
  rw [← rel.length]
  exact h _ _ (I.tok _)
end
theorem dict_typeIs {X : Cx} {pins : List (Addr × Obj)} {σ : St} {H : Hp} {s : Shared} {a : Addr} {y : V} {o : Option V} (I : Inv X pins σ H s) (g : DGet H a y o) : s.TypeIs (.ref a) "dict" := by
  rcases g with ⟨kvs, k, e, _, _⟩ | ⟨kvs, k, b, e, _, _, _⟩
  · obtain ⟨_, _, vs, _, dd⟩ := dk_rd I.hok e
    exact dd.typeIs
  · obtain ⟨_, _, xs, _, dd⟩ := dt_rd I.hok e
    exact dd.typeIs
section
variable {X : Cx} {o i e value : Expr} {pos pos' tpos : Pos} {td ty tv : TE}
end
section
variable {X : Cx} {pos : Pos}
end
section
variable {X : Cx} {pins : List (Addr × Obj)} {σ : St} {H : Hp} {s : Shared} {a : Addr} {y d : V} {u r : Value} {o : Option V} {A : Around} {E : Value → Shared → Prop}
end
section
variable {X : Cx} {o e f : Expr} {apos cpos : Pos} {td ty tx : TE}
end
section
variable {X : Cx} {pins : List (Addr × Obj)} {σ : St} {H : Hp} {s : Shared} {a : Addr} {kvs : List (Key × V)} {A : Around} {E : Value → Shared → Prop}
end
section
variable {X : Cx} {pins : List (Addr × Obj)} {σ : St} {H : Hp} {s : Shared} {a : Addr} {y : V} {u : Value} {A : Around} {E : Value → Shared → Prop}
end
end L2
namespace Att
open PySem PySem.W PySem.Calls PyProof.Rows
theorem ints_of_wellAll {P : Params} {h : Heap} : ∀ (ns : List Int) (vs : List Value), WellAll P h vs (ns.map WData.int) → IntsAre vs ns := by
  intro ns
  induction ns with
  | nil =>
    intro vs w
    rw [List.map_nil] at w
    cases w
    exact .nil
  | cons n ns ih =>
    intro vs w
    rw [List.map_cons] at w
    cases w with
    | cons a b =>
      cases a
      exact .cons _ _ (ih _ b)
theorem script_of {l : OpenLaw} {n : Nat} (hn : l.most = some n) {P : Params} {h : Heap} {args : List WData} {vals : List Value}
    (hpre : l.row.toRowW.claim.pre args = true) (hwl : WellAll P h vals args) :
    ∃ a vs ns, vals = [Value.ref a] ∧ args = [WData.list (ns.map WData.int)] ∧ h.get? a = some { cls := .type "list", data := .seq vs.toArray } ∧ IntsAre vs ns ∧ ns.length ≤ n := by
  have hsh : WShape.hasAll [] args [.list .int] = true := (pre_splitW hpre).1
  have hc : l.pre.holds [] { args := args } = true := (pre_splitW hpre).2
  obtain ⟨d, r, rfl, h1, h2⟩ := hasAllW_cons hsh
  obtain rfl := hasAllW_nil h2
  obtain ⟨xs, rfl, h3⟩ := hasW_list h1
  obtain ⟨ns, rfl⟩ := items_int h3
  have hlen : ns.length ≤ n := by
    unfold OpenLaw.pre at hc
    have h4 : (WTm.not (.lt (.lit (.int (n : Int))) (.len (.arg 0)))).holds [] { args := [.list (ns.map .int)] } = true := by
      have h4 := (holds_andW hc).1
      rw [hn] at h4
      exact h4
    have h5 := condW_of h4 (w_not (w_lt w_lit (w_len_list (w_arg rfl))))
    rw [List.length_map] at h5
    refine Nat.le_of_not_lt fun q => ?_
    have q' : (n : Int) < ((ns.length : Nat) : Int) := by omega
    first
      | (rw [decide_eq_true q'] at h5; exact absurd h5 (by decide))
      | (simp at h5; omega)
  cases hwl with
  | cons w1 w2 =>
    cases w2
    cases w1 with
    | list ho hall => exact ⟨_, _, ns, rfl, rfl, ho, ints_of_wellAll ns _ hall, hlen⟩
theorem post_true (l : OpenLaw) (args : List WData) : l.row.toRowW.claim.post args (.bool true) args = true :=
  postW_of (r := l.row.toRowW) (X := (true == true))
    (show WShape.has [] (.bool true) .bool = true by first | rfl | decide | simp [WShape.has, WShape.arms, WShape.armsAll])
    (show (WTm.eq .res (.lit (.bool true))).value [] { args := args, res := some (.bool true), after := args } = some (.bool (true == true)) from w_eq_bool (w_res rfl) w_lit) rfl
theorem attach_call {l : OpenLaw} {n : Nat} {q : Program} {loose : List Str} {XP : (Str → Option Value) → Heap → Prop} {YP : World → Heap → Prop} {d : DefRec}
    (hn : l.most = some n) (hdf : d.params.defaults = [])
    (call : ∀ (w : World) (s₀ s₁ : Shared) (mg mb : Str → Option Value) (fa : Addr) (o : Obj) (pm cd doc : Value) (a : Addr) (vs : List Value) (ns : List Int),
      Ground q loose [] XP w s₀ mg mb s₁.heap → YP w s₁.heap →
      s₁.heap.get? fa = some o → o.data = .func (docDef d.name d.params d.body d.scope pm cd doc) → s₁.heap.CodeRec cd d.name → mg d.name = some (.ref fa) →
      s₁.heap.get? a = some { cls := .type "list", data := .seq vs.toArray } → IntsAre vs ns → ns.length ≤ n → s₁.gens = #[] →
      codeAny (model l.prog w) callerA (.call (.ref fa) ⟨[.ref a], []⟩) (fun r s' => r = .ok (.ret (.bool true)) ∧ OldK s₁.heap s'.heap ∧ s'.os = s₁.os ∧ AllBare s'.gens) s₁) :
    WalkO q loose XP YP l.row.toRowW d [] (fun f vs => PySem.call f vs) := by
  intro w s₀ s₁ mg mb G Y fa o pm cd doc dV kV ho hd hcd hD hmg hg args vals as hpre hlay hrd hwl hlo
  obtain rfl : dV = .none := Dflts.none hD hdf
  obtain rfl : kV = .none := Dflts.noKw hD
  obtain ⟨a, vs, ns, rfl, rfl, hobj, hints, hlen⟩ := script_of hn hpre hwl
  refine enter_call (codeAny_mono (call w s₀ s₁ mg mb fa o pm cd doc a vs ns G Y ho (fd_plain hd) hcd hmg hobj hints hlen hg) fun r s' hq => ?_)
  obtain ⟨rfl, h2, h3, h4⟩ := hq
  exact ⟨.inl ⟨.bool true, .bool true, [], rfl, fun _ => rfl, .bool true, post_true l _, fun _ => ⟨List.Pairwise.nil, fun _ hm => (nomatch hm)⟩⟩, h2, h3, h4⟩
section
variable {prog : Program} {w : World} {A : Around} {E : Value → Shared → Prop} {s : Shared} {K : Frag}
end
end Att
namespace L2
open PySem PySem.Spec PyProof.Rows
theorem vals_ints : ∀ {vs : List Value} {ns : List Int}, IntsAre vs ns → Vals (ns.map V.int) vs
  | _, _, .nil => .nil
  | _, _, .cons n t h => .cons ⟨t, rfl⟩ (vals_ints h)
def Only (H : Hp) : Prop := ∀ b, H b = none ∨ ∃ o xs, H b = some (.frz o (.lst xs))
theorem law_call {P : Program} {w : World} {K : PySem.W.Frag} {mg mb : Str → Option Value} {CX : CXT} {k : Nat} {fa a : Addr} {fd : FuncData} {x : Str} {sp : Sp} {s₁ : Shared} {vs : List Value} {ns : List Int}
    (KX : K.In s₁.heap) (hns : s₁.heap.Ns mainGlobals mg) (hb : s₁.heap.Ns builtinsNs mb) (hbb : ∀ x : Str, x ≠ "__name__" → mb x = bootBuiltins x) (hlim : s₁.heap.NoLimit) (hg : s₁.gens = #[])
    (ha : s₁.heap.get? a = some { cls := .type "list", data := .seq vs.toArray }) (hi : IntsAre vs ns) (hl : ns.length ≤ sizeLine) (hr : Room k callerA)
    (F : ∀ base : Heap, K.In base → base.Ns mainGlobals mg → FnOk P w K mg base CX k fa fd [x] sp) (hbind : ∀ (s : Shared) (u : Value), BindsTo s fd ⟨[u], []⟩ [(x, u)])
    (hsp : ∀ H : Hp, Only H → SqL K H a (ns.map V.int) → sp [.ref a] H (fun v _ => v = .bl true) fun _ _ _ => False)
    (hCX : ∀ H e s', CX [] H s₁ (fun _ _ _ => False) e s' → False) :
    codeAny (model P w) callerA (.call (.ref fa) ⟨[.ref a], []⟩) (fun r s' => r = .ok (.ret (.bool true)) ∧ OldK s₁.heap s'.heap ∧ s'.os = s₁.os ∧ AllBare s'.gens) s₁ := by
  have rv := vals_ints hi
  have lenV := hi.length
  have core : ∀ H : Hp, Only H → SqL K H a (ns.map V.int) → HOk P w H s₁.heap → (∀ b, H b ≠ none → b = a) → (H a ≠ none → K.lookup a = none) →
      codeAny (model P w) callerA (.call (.ref fa) ⟨[.ref a], []⟩) (fun r s' => r = .ok (.ret (.bool true)) ∧ OldK s₁.heap s'.heap ∧ s'.os = s₁.os ∧ AllBare s'.gens) s₁ := by
    intro H hO hS hok hA hK
    have base_of : ∀ {b : Addr} {o : Obj}, s₁.heap.get? b = some o → H b = none → (hidT s₁.heap H).get? b = some o := fun e n => hidT_get e n
    have noA : ∀ {b : Addr} {o : Obj} {es : Array DictEntry} {ep : Nat}, s₁.heap.get? b = some o → o.data = .dict es ep → H b = none := fun {b o es ep} e d => by
      cases q : H b with
      | none => rfl
      | some u =>
        have e' : b = a := hA b (by rw [q]; simp)
        subst e'
        rw [ha] at e; cases e
        have d' : Data.seq vs.toArray _ = Data.dict es ep := d
        cases d'
    have nsK : ∀ {b : Addr} {m : Str → Option Value}, s₁.heap.Ns b m → (hidT s₁.heap H).Ns b m := fun {b m} ⟨o, es, ep, e, d, r⟩ => ⟨o, es, ep, base_of e (noA e d), d, r⟩
    have hKb : K.In (hidT s₁.heap H) := fun b o e => base_of (KX b o e) (by
      cases q : H b with
      | none => rfl
      | some u =>
        have e' : b = a := hA b (by rw [q]; simp)
        subst e'
        rw [hK (by rw [q]; simp)] at e; cases e)
    have hM : Mod K mg (hidT s₁.heap H) := ⟨hKb, nsK hns, ⟨mb, nsK hb, hbb⟩, let ⟨mc, h1, h2⟩ := hlim; ⟨mc, nsK h1, h2⟩⟩
    have e0 : Env0 P w K mg (hidT s₁.heap H) callerA [] s₁ H := ⟨rfl, hM, fun b o e => of_hidT e, Nat.le_of_eq (hidT_size _ _), trivial, fun b hb => absurd (show b ∈ ([] : List Addr) from hb) (by simp), hok, .of_eq hg⟩
    refine codeAny_mono ((F _ hKb (nsK hns)).run callerA [] s₁ H ⟨[.ref a], []⟩ [.ref a] [.ref a] _ _ hr e0 (hbind s₁ (.ref a)) (.cons rfl .nil) (hsp H hO hS)) fun r s' h => ?_
    cases r with
    | error e => exact (hCX H e s' h).elim
    | ok fl =>
      cases fl with
      | next => exact False.elim h
      | brk => exact False.elim h
      | cont => exact False.elim h
      | ret u =>
        obtain ⟨v, H', os, bare, un, hok', r', q⟩ := h
        have q' : v = .bl true := q
        subst q'
        obtain rfl : u = Value.bool true := r'
        refine ⟨rfl, OldK.of_keep fun b o e => ?_, os, bare⟩
        cases q : H b with
        | none => exact un.keep b o e q (by intro z; exact absurd (show b ∈ ([] : List Addr) from z) (by simp)) (by simp)
        | some u =>
          rcases hO b with z | ⟨ob, xs, z⟩
          · rw [q] at z; cases z
          · have z2 := un.frzs b ob _ z
            obtain ⟨e1, _⟩ := hok b _ z
            obtain ⟨e2, _⟩ := hok' b _ z2
            rw [e] at e1; cases e1
            exact e2
  cases hk : K.lookup a with
  | some o =>
    have e := KX a o hk
    rw [ha] at e
    cases e
    refine core (fun _ => none) (fun _ => .inl rfl) (.inr ⟨_, vs.toArray, _, hk, rfl, rfl, rfl, by rw [List.size_toArray, lenV]; exact hl, by simpa using rv⟩) (fun b u z => by have z' : (none : Option HO) = some u := z; cases z') (fun b z => absurd rfl z) fun z => absurd rfl z
  | none =>
    refine core (fun b => if b = a then some (.frz { cls := .type "list", data := .seq vs.toArray } (.lst (ns.map V.int))) else none) (fun b => ?_) (.inl (.inr ⟨{ cls := .type "list", data := .seq vs.toArray }, if_pos rfl⟩)) (fun b u z => ?_) (fun b z => ?_) fun _ => hk
    · by_cases hb : b = a
      · exact .inr ⟨_, _, if_pos hb⟩
      · exact .inl (if_neg hb)
    · by_cases hb : b = a
      · have z' := (if_pos hb).symm.trans z
        cases z'
        subst hb
        exact ⟨ha, by rw [List.length_map]; exact hl, vs, _, rv, ha⟩
      · have z' := (if_neg hb).symm.trans z
        cases z'
    · by_cases hb : b = a
      · exact hb
      · exact absurd (if_neg hb) z
end L2
namespace L2
open PySem PySem.Spec PyProof.Rows
theorem walk_of {l : PySem.W.OpenLaw} {n k : Nat} {q : Program} {loose : List Str} {XP : (Str → Option Value) → Heap → Prop} {YP : World → Heap → Prop} {d : DefRec} {K : Params → PySem.W.Frag} {CX : World → CXT} {sp : World → Sp} {x : Str}
    (hn : l.most = some n) (hn2 : n ≤ sizeLine) (hdf : d.params.defaults = []) (hr : Room k callerA)
    (hY : ∀ (w : World) (h : Heap), YP w h → (K w.params).In h)
    (F : ∀ (w : World) (mg : Str → Option Value) (fa : Addr) (h : Heap), (K w.params).In h → h.Ns mainGlobals mg → mg d.name = some (.ref fa) →
      ∃ fd : FuncData, (∀ (s : Shared) (u : Value), BindsTo s fd ⟨[u], []⟩ [(x, u)]) ∧
        ∀ base : Heap, (K w.params).In base → base.Ns mainGlobals mg → FnOk l.prog w (K w.params) mg base (CX w) k fa fd [x] (sp w))
    (hsp : ∀ (w : World) (H : Hp) (a : Addr) (ns : List Int), ns.length ≤ n → Only H → SqL (K w.params) H a (ns.map V.int) → sp w [.ref a] H (fun v _ => v = .bl true) fun _ _ _ => False)
    (hCX : ∀ (w : World) (H : Hp) (s : Shared) (e : Value) (s' : Shared), CX w [] H s (fun _ _ _ => False) e s' → False) :
    PySem.W.WalkO q loose XP YP l.row.toRowW d [] (fun f vs => PySem.call f vs) := by
  refine Att.attach_call hn hdf fun w s₀ s₁ mg mb fa o pm cd doc a vs ns G Y ho hd hcd hmg hobj hints hlen hg => ?_
  have KX := hY w _ Y
  obtain ⟨fd, hb, hF⟩ := F w mg fa _ KX G.T.g hmg
  exact law_call KX G.T.g G.T.b G.T.builtins G.T.nolimit hg hobj hints (Nat.le_trans hlen hn2) hr hF hb (fun H hO hS => hsp w H a ns hlen hO hS) fun H e s' => hCX w H s₁ e s'
end L2
namespace L2
open PySem PySem.Spec PyProof.Rows
def inClass (s : Stmt) (j : Nat) : Stmt := match s with
  | .ClassDef _ _ _ body _ _ _ _ _ _ _ => body.getD j (.Pass ⟨0, 0, 0, 0⟩)
  | _ => .Pass ⟨0, 0, 0, 0⟩
def defArgs (s : Stmt) : Arguments := match s with
  | .FunctionDef _ a _ _ _ _ _ _ _ _ => a
  | _ => { posonlyargs := [], args := [], vararg := none, kwonlyargs := [], kw_defaults := [], kwarg := none, defaults := [] }
def defBody (s : Stmt) : List Stmt := match s with
  | .FunctionDef _ _ b _ _ _ _ _ _ _ => b
  | _ => []
def defScope (s : Stmt) : Scope := match s with
  | .FunctionDef _ _ _ _ _ _ sc _ _ _ => sc
  | _ => { kind := .function, names := [], isGenerator := false, isCoroutine := false }
abbrev CX0 : CXT := fun _ _ _ _ _ _ => False
abbrev E0 : XK := fun _ _ _ => False
structure Fun (K : PySem.W.Frag) (x qual : Str) (st : Stmt) (f : Addr) (fd : FuncData) : Prop where
  ex : ∃ (oc : Value) (od : Option Addr) (kV doc pm : Value) (an : Option Addr) (cdv ct : Value) (osl : Array (Option Value)),
    fd = PySem.W.fnOf x qual (defArgs st) (defBody st) (defScope st) .none kV doc pm an cdv ct ∧ K.lookup f = some ⟨oc, od, .func fd, osl⟩ ∧ PySem.W.codeIn K cdv qual = true
  kp : PySem.W.keepIn K (.ref f) = true
section
variable {P : Program} {w : World} {K : PySem.W.Frag} {mg : Str → Option Value} {base : Heap}
theorem Fun.binds {x qual : Str} {st : Stmt} {f : Addr} {fd : FuncData} {ps : List Str} (F : Fun K x qual st f fd)
    (h : ∀ (kV doc pm : Value) (an : Option Addr) (cdv ct : Value) (us : List Value), us.length = ps.length → bindArgs (PySem.W.fnOf x qual (defArgs st) (defBody st) (defScope st) .none kV doc pm an cdv ct) ⟨us, []⟩ = pure (ps.zip us)) : Binds K fd ps [] := by
  obtain ⟨oc, od, kV, doc, pm, an, cdv, ct, osl, rfl, lk, hcd⟩ := F.ex
  exact .all (h kV doc pm an cdv ct)
theorem fun_mk {x qual : Str} {st : Stmt} {f : Addr} {oc : Value} {od an : Option Addr} {osl : Array (Option Value)} {kV doc pm cdv ct : Value} (l : K.lookup f = some ⟨oc, od, .func (PySem.W.fnOf x qual (defArgs st) (defBody st) (defScope st) .none kV doc pm an cdv ct), osl⟩)
    (c : PySem.W.codeIn K cdv qual = true) (k : PySem.W.keepIn K (.ref f) = true) : Fun K x qual st f (PySem.W.fnOf x qual (defArgs st) (defBody st) (defScope st) .none kV doc pm an cdv ct) := ⟨⟨oc, od, kV, doc, pm, an, cdv, ct, osl, rfl, l, c⟩, k⟩
end
section
variable {X : Cx}
theorem call_lenD : CallR X (.builtin "len") (fun xs H Q => ∃ a kvs, xs = [V.ref a] ∧ H a = some (.dK kvs) ∧ Q (.int kvs.length) H) := by
  intro pins s σ H xs us Q I r h
  obtain ⟨a, kvs, rfl, ha, q⟩ := h
  obtain ⟨u, rfl, ru⟩ := vals1 r
  cases ru
  exact d_len I (.inl ha) fun t s' I' => ⟨.int kvs.length, H, I', ⟨t, rfl⟩, q⟩
end
theorem iteF {A B : Prop} (h : B) : if false = true then A else B := by
  rw [if_neg Bool.false_ne_true]
  exact h
theorem iteT {A B : Prop} (h : A) : if true = true then A else B := by
  rw [if_pos rfl]
  exact h
def Same (H H' : Hp) : Prop := ∀ b o, H b = some o → H' b = some o
section
variable {κ : Type} [DecidableEq κ]
end
end L2
namespace PySem
open Sem (wp)
namespace ZL
section
variable {prog : Program} {w : World} {A : Around} {E : Value → Shared → Prop} {s : Shared}
end
namespace F
end F
section
variable {prog : Program} {w : World} {A : Around} {s : Shared} {R : Result → Shared → Prop} {z TI TO i1 i2 l1 l2 base S : Addr} {xs ys : Array Value}
end
section
variable {prog : Program} {w : World} {A : Around} {E : Value → Shared → Prop} {s : Shared}
end
end ZL
end PySem
namespace L2
open PySem PySem.Spec PyProof.Rows
def freesOf : List (Str × NameKind) → List Str
  | [] => []
  | (n, k) :: r => if (k == NameKind.free) = true then n :: freesOf r else freesOf r
def clFrom (env : Env) : List (Str × NameKind) → List (Str × Addr) → List (Str × Addr)
  | [], acc => acc
  | (n, k) :: r, acc => if (k == NameKind.free) = true then clFrom env r ((n, (env.cells.lookup n).getD 0) :: acc) else clFrom env r acc
theorem closure_loop {env : Env} {f : (Str × NameKind) → List (Str × Addr) → Sem (ForInStep (List (Str × Addr)))}
    (h1 : ∀ n k cs c, (k == NameKind.free) = true → env.cells.lookup n = some c → f (n, k) cs = pure (.yield ((n, c) :: cs))) (h2 : ∀ n k cs, (k == NameKind.free) = false → f (n, k) cs = pure (.yield cs)) :
    ∀ (names : List (Str × NameKind)) (acc : List (Str × Addr)), (∀ n ∈ freesOf names, ∃ c, env.cells.lookup n = some c) → forIn names acc f = pure (clFrom env names acc)
  | [], acc, _ => by rw [List.forIn_nil]; rfl
  | (n, k) :: r, acc, h => by
    rw [List.forIn_cons]
    cases e : (k == NameKind.free) with
    | true =>
      have hf : freesOf ((n, k) :: r) = n :: freesOf r := by show (if (k == NameKind.free) = true then n :: freesOf r else freesOf r) = _; rw [if_pos e]
      obtain ⟨c, hc⟩ := h n (by rw [hf]; exact List.mem_cons_self)
      rw [h1 n k acc c e hc, pure_bind]
      show forIn r ((n, c) :: acc) f = _
      rw [closure_loop h1 h2 r _ fun m hm => h m (by rw [hf]; exact List.mem_cons_of_mem _ hm)]
      have hcl : clFrom env ((n, k) :: r) acc = clFrom env r ((n, (env.cells.lookup n).getD 0) :: acc) := by
        show (if (k == NameKind.free) = true then _ else _) = _
        rw [if_pos e]
      rw [hcl, hc]
      rfl
    | false =>
      have hf : freesOf ((n, k) :: r) = freesOf r := by show (if (k == NameKind.free) = true then n :: freesOf r else freesOf r) = _; rw [if_neg (by rw [e]; decide)]
      rw [h2 n k acc e, pure_bind]
      show forIn r acc f = _
      rw [closure_loop h1 h2 r _ fun m hm => h m (by rw [hf]; exact hm)]
      have hcl : clFrom env ((n, k) :: r) acc = clFrom env r acc := by
        show (if (k == NameKind.free) = true then _ else _) = _
        rw [if_neg (by rw [e]; decide)]
      rw [hcl]
theorem closure_is {scope : Scope} {env : Env} (h : ∀ n ∈ freesOf scope.names, ∃ c, env.cells.lookup n = some c) : closureFor scope env = pure (clFrom env scope.names []) := by
  unfold closureFor
  show (forIn scope.names [] _ >>= _) = _
  rw [closure_loop (env := env) (fun n k cs c hk hc => ?_) (fun n k cs hk => ?_) scope.names [] h]
  · exact pure_bind _ _
  · dsimp only
    rw [if_pos hk]
    unfold cellOf
    rw [hc]
    rfl
  · dsimp only
    rw [if_neg (by rw [hk]; decide)]
theorem clFrom_lookup {env : Env} {x : Str} : ∀ (names : List (Str × NameKind)) (acc : List (Str × Addr)), (∀ n ∈ freesOf names, ∃ c, env.cells.lookup n = some c) →
    (clFrom env names acc).lookup x = if x ∈ freesOf names then env.cells.lookup x else acc.lookup x
  | [], acc, _ => by simp [clFrom, freesOf]
  | (n, k) :: r, acc, h => by
    cases e : (k == NameKind.free) with
    | true =>
      have hf : freesOf ((n, k) :: r) = n :: freesOf r := by show (if (k == NameKind.free) = true then n :: freesOf r else freesOf r) = _; rw [if_pos e]
      obtain ⟨c, hc⟩ := h n (by rw [hf]; exact List.mem_cons_self)
      have hcl : clFrom env ((n, k) :: r) acc = clFrom env r ((n, (env.cells.lookup n).getD 0) :: acc) := by
        show (if (k == NameKind.free) = true then _ else _) = _
        rw [if_pos e]
      rw [hcl, hf, clFrom_lookup r _ fun m hm => h m (by rw [hf]; exact List.mem_cons_of_mem _ hm)]
      by_cases hr : x ∈ freesOf r
      · rw [if_pos hr, if_pos (List.mem_cons_of_mem _ hr)]
      · rw [if_neg hr]
        by_cases hx : x = n
        · subst hx
          rw [if_pos List.mem_cons_self, hc]
          simp
        · rw [if_neg (by intro z; rcases List.mem_cons.mp z with z | z; exact hx z; exact hr z)]
          have hb : (x == n) = false := by simpa using hx
          rw [List.lookup_cons, hb]
    | false =>
      have hf : freesOf ((n, k) :: r) = freesOf r := by show (if (k == NameKind.free) = true then n :: freesOf r else freesOf r) = _; rw [if_neg (by rw [e]; decide)]
      have hcl : clFrom env ((n, k) :: r) acc = clFrom env r acc := by
        show (if (k == NameKind.free) = true then _ else _) = _
        rw [if_neg (by rw [e]; decide)]
      rw [hcl, hf, clFrom_lookup r _ fun m hm => h m (by rw [hf]; exact hm)]
structure CScope (X : Cx) (scope : Scope) (frees : List Str) : Prop where
  kind : scope.kind = .function
  nocell : ∀ y ∈ scope.names, y.2 ≠ .cell
  locs : ∀ y ∈ scope.names, y.2 = .local → scope.names.lookup y.1 = some .local
  sub : ∀ n ∈ freesOf scope.names, n ∈ frees
  free : ∀ n ∈ frees, scope.names.lookup n = some .free
  kinds : (frees.all fun n => X.env.kindOf n == some .cell || X.env.kindOf n == some .free) = true
theorem CScope.frees {X : Cx} {scope : Scope} {fr : List Str} (S : CScope X scope fr) : ∀ n ∈ freesOf scope.names, X.env.kindOf n = some .cell ∨ X.env.kindOf n = some .free := fun n hn => by
  have h := List.all_eq_true.mp S.kinds n (S.sub n hn)
  rcases Bool.or_eq_true _ _ ▸ h with h | h
  · exact .inl (eq_of_beq h)
  · exact .inr (eq_of_beq h)
theorem mem_freesOf {x : Str} : ∀ {names : List (Str × NameKind)}, (x, NameKind.free) ∈ names → x ∈ freesOf names
  | (n, k) :: r, h => by
    unfold freesOf
    rcases List.mem_cons.mp h with e | e
    · injection e with e1 e2
      subst e1 e2
      rw [if_pos (by rfl)]
      exact List.mem_cons_self
    · split
      · exact List.mem_cons_of_mem _ (mem_freesOf e)
      · exact mem_freesOf e
theorem relabel_lookup {env : Env} {x : Str} : ∀ {names : List (Str × NameKind)} {k : NameKind}, (names.map fun (n, k) => if (k == NameKind.free && env.scope.kind == .function && env.kindOf n == some .cell) then (n, NameKind.cell) else (n, k)).lookup x = some k →
    ∃ k0, names.lookup x = some k0 ∧ (k = k0 ∨ (k0 = .free ∧ k = .cell))
  | [], k, h => by simp at h
  | (n, k1) :: r, k, h => by
    rw [List.map_cons] at h
    by_cases hx : (x == n) = true
    · by_cases hc : (k1 == NameKind.free && env.scope.kind == .function && env.kindOf n == some .cell) = true
      · dsimp only at h
        rw [if_pos hc, List.lookup_cons, hx] at h
        have e : k = .cell := by injection h with h; exact h.symm
        have e1 : k1 = .free := by
          have := (Bool.and_eq_true _ _ ▸ (Bool.and_eq_true _ _ ▸ hc).1).1
          exact eq_of_beq this
        exact ⟨k1, by rw [List.lookup_cons, hx], .inr ⟨e1, e⟩⟩
      · dsimp only at h
        rw [if_neg hc, List.lookup_cons, hx] at h
        injection h with h
        exact ⟨k1, by rw [List.lookup_cons, hx], .inl h.symm⟩
    · have hx' : (x == n) = false := by simpa using hx
      have h' : (List.map (fun (n, k) => if (k == NameKind.free && env.scope.kind == .function && env.kindOf n == some .cell) then (n, NameKind.cell) else (n, k)) r).lookup x = some k := by
        by_cases hc : (k1 == NameKind.free && env.scope.kind == .function && env.kindOf n == some .cell) = true
        · dsimp only at h; rw [if_pos hc, List.lookup_cons, hx'] at h; exact h
        · dsimp only at h; rw [if_neg hc, List.lookup_cons, hx'] at h; exact h
      obtain ⟨k0, e1, e2⟩ := relabel_lookup h'
      exact ⟨k0, by rw [List.lookup_cons, hx']; exact e1, e2⟩
theorem relabel_free {env : Env} {x : Str} : ∀ {names : List (Str × NameKind)}, names.lookup x = some .free →
    (names.map fun (n, k) => if (k == NameKind.free && env.scope.kind == .function && env.kindOf n == some .cell) then (n, NameKind.cell) else (n, k)).lookup x = some .cell ∨
    (names.map fun (n, k) => if (k == NameKind.free && env.scope.kind == .function && env.kindOf n == some .cell) then (n, NameKind.cell) else (n, k)).lookup x = some .free
  | [], h => by simp at h
  | (n, k1) :: r, h => by
    rw [List.map_cons]
    by_cases hx : (x == n) = true
    · rw [List.lookup_cons, hx] at h
      injection h with h
      subst h
      by_cases hc : (NameKind.free == NameKind.free && env.scope.kind == .function && env.kindOf n == some .cell) = true
      · left; dsimp only; rw [if_pos hc, List.lookup_cons, hx]
      · right; dsimp only; rw [if_neg hc, List.lookup_cons, hx]
    · have hx' : (x == n) = false := by simpa using hx
      rw [List.lookup_cons, hx'] at h
      have ih := relabel_free (env := env) h
      by_cases hc : (k1 == NameKind.free && env.scope.kind == .function && env.kindOf n == some .cell) = true
      · dsimp only; rw [if_pos hc, List.lookup_cons, hx']; exact ih
      · dsimp only; rw [if_neg hc, List.lookup_cons, hx']; exact ih
structure CP where
  C : Addr
  s : Shared
  H : Hp
  pins : List (Addr × Obj)
  fp : List Addr
def cxC (X : Cx) (NC : List Str) (scope : Scope) (c : CP) : Cx where
  prog := X.prog
  w := X.w
  K := X.K
  mg := X.mg
  base := X.base
  A := X.A
  N := NC
  s₀ := c.s
  H₀ := c.H
  env := compEnvC scope (clFrom X.env scope.names []) c.C X.env
  outer := X.stack
  stack := X.stack
  ex := c.fp
  fn := fun _ => false
  calm := true
  pn := X.pn ++ c.pins
  xe := fun _ _ => False
section
variable {X : Cx} {scope : Scope} {frees : List Str} {NC : List Str} {pins : List (Addr × Obj)} {σ σc : St} {H H' : Hp} {s s' : Shared} {fp : List Addr} {C : Addr}
theorem CScope.has (S : CScope X scope frees) (ok : X.Ok) : ∀ n ∈ freesOf scope.names, ∃ c, X.env.cells.lookup n = some c := fun n hn => ok.has n (S.frees n hn)
theorem CScope.cells (S : CScope X scope frees) (ok : X.Ok) {x : Str} {c : Addr} (h : (clFrom X.env scope.names []).lookup x = some c) : x ∈ freesOf scope.names ∧ X.env.cells.lookup x = some c := by
  rw [clFrom_lookup scope.names [] (S.has ok)] at h
  by_cases hx : x ∈ freesOf scope.names
  · rw [if_pos hx] at h; exact ⟨hx, h⟩
  · rw [if_neg hx] at h; simp at h
theorem cxC_ok (S : CScope X scope frees) (hc : X.calm = true) (I : Inv X pins σ H s) (hf : ∀ b ∈ fp, FpOk X pins H b ∧ b < s.heap.objs.size) (hC : C = s.heap.objs.size) : (cxC X NC scope ⟨C, s, H, pins, fp⟩).Ok where
  mod := I.ok.mod
  kind := S.kind
  glob := I.ok.glob
  blt := I.ok.blt
  above := by show s.heap.objs.size ≤ C; rw [hC]; exact Nat.le_refl _
  inj := fun x y c h1 h2 => I.ok.inj x y c (S.cells I.ok h1).2 (S.cells I.ok h2).2
  has := fun x hx => by
    have hx' : ∃ k, (relabel scope X.env).names.lookup x = some k ∧ (k = .cell ∨ k = .free) := by
      rcases hx with h | h
      · exact ⟨_, h, .inl rfl⟩
      · exact ⟨_, h, .inr rfl⟩
    obtain ⟨k, h, hk⟩ := hx'
    obtain ⟨k0, e0, e1⟩ := relabel_lookup h
    have hm := PySem.mem_of_lookup e0
    have k0f : k0 = .free := by
      rcases e1 with e1 | ⟨e1, _⟩
      · rcases hk with hk | hk
        · exact absurd (e1 ▸ hk : k0 = .cell) (S.nocell _ hm)
        · exact e1 ▸ hk
      · exact e1
    subst k0f
    have hx2 := mem_freesOf hm
    obtain ⟨c, hcc⟩ := S.has I.ok x hx2
    exact ⟨c, by show (clFrom X.env scope.names []).lookup x = some c; rw [clFrom_lookup scope.names [] (S.has I.ok), if_pos hx2]; exact hcc⟩
  cab := fun x c h => nomatch h
  hd := fun _ => I.ok.hd hc
  frames := I.ok.frames
  stk := .inl rfl
  exf := fun b hb => ⟨fun z => by have := (hf b hb).2; rw [z] at this; exact absurd (hC ▸ this) (Nat.lt_irrefl _), fun x c h => (hf b hb).1.2.2.2.2.1 x c (S.cells I.ok h).2⟩
  bs := I.bs
  bsz := Nat.le_trans I.ok.bsz I.sz
  noex := fun b o e hb => by
    rcases (hf b hb).1.2.2.2.1 with z | z
    · exact I.ok.noex b o e z
    · exact absurd (Nat.lt_of_lt_of_le (Heap.lt_size e) (Nat.le_trans I.ok.bsz z)) (Nat.lt_irrefl _)
  exfs := fun b hb z => by
    rcases List.mem_cons.mp (I.stkSub b z) with e | e
    · exact (hf b hb).1.2.1 e
    · exact (hf b hb).1.2.2.1 e
  funs := I.stack
  frf := I.stkFree
def stC (own : List Str) (ix : List Nat) (σ : St) : St := own.map (fun _ => none) ++ ix.map fun i => (σ[i]?).join
theorem stC_get {own frees : List Str} {ix : List Nat} {σ : St} {NX : List Str} (hN : ix.map (fun i => NX[i]?) = frees.map some) {j : Nat} {x : Str} {v : V} (h1 : (own ++ frees)[j]? = some x) (h2 : (stC own ix σ)[j]? = some (some v)) :
    x ∈ frees ∧ ∃ i : Nat, NX[i]? = some x ∧ σ[i]? = some (some v) := by
  have hl : ix.length = frees.length := by have := congrArg List.length hN; simpa using this
  unfold stC at h2
  by_cases hj : j < own.length
  · rw [List.getElem?_append_left (by simpa using hj), List.getElem?_map] at h2
    cases e : own[j]? with
    | none => rw [e] at h2; simp at h2
    | some o => rw [e] at h2; simp at h2
  · rw [List.getElem?_append_right (by simpa using hj), List.getElem?_map, List.length_map] at h2
    rw [List.getElem?_append_right (by omega)] at h1
    have hm : (ix.map (fun i => NX[i]?))[j - own.length]? = (frees.map some)[j - own.length]? := by rw [hN]
    rw [List.getElem?_map, List.getElem?_map, h1] at hm
    cases e : ix[j - own.length]? with
    | none => rw [e] at h2; simp at h2
    | some i =>
      rw [e] at h2 hm
      simp only [Option.map_some, Option.some.injEq] at h2 hm
      refine ⟨List.mem_of_getElem? h1, i, hm, ?_⟩
      cases q : σ[i]? with
      | none => rw [q] at h2; simp at h2
      | some o => rw [q] at h2; simp at h2; rw [h2]
theorem stC_len {own frees : List Str} {ix : List Nat} {σ : St} {NX : List Str} (hN : ix.map (fun i => NX[i]?) = frees.map some) : (stC own ix σ).length = (own ++ frees).length := by
  have hl : ix.length = frees.length := by have := congrArg List.length hN; simpa using this
  unfold stC
  simp [hl]
theorem cxC_inv {own : List Str} {ix : List Nat} {h₁ : Heap} {tk : Nat} (S : CScope X scope frees) (hc : X.calm = true) (I : Inv X pins σ H s) (hf : ∀ b ∈ fp, FpOk X pins H b ∧ b < s.heap.objs.size) (hC : C = s.heap.objs.size)
    (hN : ix.map (fun i => X.N[i]?) = frees.map some) (hns : ∃ m, h₁.Ns C m) (hk : ∀ b o, s.heap.get? b = some o → h₁.get? b = some o) :
    Inv (cxC X (own ++ frees) scope ⟨C, s, H, pins, fp⟩) [] (stC own ix σ) H { s with heap := h₁, toks := tk } := by
  obtain ⟨m, hm⟩ := hns
  refine ⟨cxC_ok S hc I hf hC, rfl, I.bare, Un.kept hk, ⟨m, hm, fun j x v h1 h2 h3 => ?_⟩, fun x c h => ?_, ?_, fun x c h => ?_, fun p hp => ?_, I.hok.kept hk, stC_len hN⟩
  · obtain ⟨hx, i, e1, e2⟩ := stC_get hN h1 h2
    have hfree := S.free x hx
    have hmf := mem_freesOf (PySem.mem_of_lookup hfree)
    have hkx := S.frees x hmf
    obtain ⟨m0, _, hl⟩ := I.loc
    have vis : Vis X.env.scope x := by rcases hkx with z | z; exact .inr (.inl z); exact .inr (.inr z)
    obtain ⟨u, r, l⟩ := hl i x v e1 e2 vis
    refine ⟨u, r, ?_⟩
    rcases l with ⟨kl, _⟩ | ⟨_, c, ec, ic⟩
    · rcases hkx with z | z
      · rw [kl] at z; cases z
      · rw [kl] at z; cases z
    · refine .inr ⟨relabel_free (env := X.env) hfree, c, ?_, ?_⟩
      · show (clFrom X.env scope.names []).lookup x = some c
        rw [clFrom_lookup scope.names [] (S.has I.ok), if_pos hmf]
        exact ec
      · obtain ⟨o, ho, hd⟩ := ic
        exact ⟨o, hk _ _ ho, hd⟩
  · obtain ⟨_, e⟩ := S.cells I.ok h
    obtain ⟨v, o, ho, hd⟩ := I.cell x c e
    exact ⟨v, o, hk _ _ ho, hd⟩
  · show H C = none
    rw [hC]
    exact I.hok.fresh (Nat.le_refl _)
  · exact I.freeC x c (S.cells I.ok h).2
  · have hp' : p ∈ X.pn ++ pins := by
      have : p ∈ (X.pn ++ pins) ++ [] := hp
      rwa [List.append_nil] at this
    obtain ⟨e, n, ne, nf, d⟩ := I.pin p hp'
    refine ⟨hk _ _ e, n, ?_, fun z => ?_, d⟩
    · show p.1 ≠ C
      rw [hC]
      exact Nat.ne_of_lt (Heap.lt_size e)
    · rcases List.mem_cons.mp (I.stkSub p.1 z) with q | q
      · exact ne q
      · exact nf q
theorem cxC_fp {NC : List Str} (S : CScope X scope frees) (I : Inv X pins σ H s) (hf : ∀ b ∈ fp, FpOk X pins H b ∧ b < s.heap.objs.size) (hC : C = s.heap.objs.size) {b : Addr} (hb : b ∈ fp) (hn : H' b = none) : FpOk (cxC X NC scope ⟨C, s, H, pins, fp⟩) [] H' b := by
  refine ⟨hn, ?_, fun z => ?_, .inl hb, fun x c h => (hf b hb).1.2.2.2.2.1 x c (S.cells I.ok h).2, fun p hp => (hf b hb).1.2.2.2.2.2 p ?_⟩
  · show b ≠ C
    rw [hC]
    exact Nat.ne_of_lt (hf b hb).2
  · rcases List.mem_cons.mp (I.stkSub b z) with q | q
    · exact (hf b hb).1.2.1 q
    · exact (hf b hb).1.2.2.1 q
  · have : p ∈ (X.pn ++ pins) ++ [] := hp
    rwa [List.append_nil] at this
theorem cxC_back {NC : List Str} (I : Inv X pins σ H s) (hf : ∀ b ∈ fp, FpOk X pins H b ∧ b < s.heap.objs.size) (J : Inv (cxC X NC scope ⟨C, s, H, pins, fp⟩) [] σc H' s') : Inv X pins σ H' s' :=
  I.call' J.os J.base J.hok J.bare fun b hb => ⟨(hf b hb).1.2.2.2.1, (hf b hb).1.2.1, (hf b hb).1.2.2.2.2.1, (hf b hb).1.2.2.2.2.2⟩
theorem cxC_gone {h' : Heap} (I : Inv X pins σ H s) (hn : H C = none) (h1 : C ≠ X.env.locals) (h2 : X.s₀.heap.objs.size ≤ C) (h3 : ∀ x c, X.env.cells.lookup x = some c → c ≠ C) (h4 : ∀ p ∈ X.pn ++ pins, p.1 ≠ C) (hs : Heap.SameBut C s.heap h') :
    Inv X pins σ H { s with heap := h' } := I.turned (t' := s.toks) (fun b o hb e => (hs.2 b hb).trans e) hn h1 (.inr h2) h3 h4
end
inductive KSt : St → St → Prop
  | nil : KSt [] []
  | own {o : Option V} {a b : St} : KSt a b → KSt (none :: a) (o :: b)
  | keep {o : Option V} {a b : St} : KSt a b → KSt (o :: a) (o :: b)
theorem KSt.len : ∀ {a b : St}, KSt a b → b.length = a.length
  | _, _, .nil => rfl
  | _, _, .own h => congrArg (· + 1) h.len
  | _, _, .keep h => congrArg (· + 1) h.len
theorem KSt.get : ∀ {a b : St}, KSt a b → ∀ (i : Nat) v, a[i]? = some (some v) → b[i]? = some (some v)
  | _, _, .nil, i, v, e => by simp at e
  | _, _, .own h, 0, v, e => by simp at e
  | _, _, .own h, i + 1, v, e => by
    rw [List.getElem?_cons_succ] at e ⊢
    exact h.get i v e
  | _, _, .keep h, 0, v, e => by simpa using e
  | _, _, .keep h, i + 1, v, e => by
    rw [List.getElem?_cons_succ] at e ⊢
    exact h.get i v e
theorem KSt.refl : ∀ a : St, KSt a a
  | [] => .nil
  | _ :: r => .keep (KSt.refl r)
inductive PIf (X : Cx) : List Expr → TT → Prop
  | nil : PIf X [] (fun _ H Q => Q true H)
  | one {c : Expr} {t : TT} : PT X c t → PIf X [c] t
theorem PIf.run {X : Cx} {ifs : List Expr} {t : TT} (h : PIf X ifs t) {pins : List (Addr × Obj)} {s : Shared} {σ : St} {H : Hp} {Q : Bool → Hp → Prop} (I : Inv X pins σ H s) (hw : t σ H Q) :
    wpAny (model X.prog X.w) X.A (forIn ifs true fun c r => if r = true then do let ok ← isTrue c X.env (eval c X.env); pure (ForInStep.yield ok) else pure (ForInStep.yield r)) (TP X pins σ Q) X.xe s := by
  cases h with
  | nil => exact wpAny_tests_nil ⟨H, I, hw⟩
  | one h => exact wpAny_tests_one (h pins s σ H Q I hw)
def cBody (σc : St) (acc : Addr) (g : TG) (tt : TT) (te : TE) (x : V) (ys : List V) (H : Hp) (N : List V → Hp → Prop) : Prop :=
  g x σc H fun σ2 H2 => KSt σc σ2 ∧ tt σ2 H2 fun b H3 => if b = true then te σ2 H3 fun y H4 => H4 acc = some (.lst ys) ∧ ys.length < sizeLine ∧ N (ys ++ [y]) (upd H4 acc (.lst (ys ++ [y]))) else N ys H3
def cLoop (J : It) (σc : St) (acc : Addr) (g : TG) (tt : TT) (te : TE) (H : Hp) (Q : VK) : Prop :=
  ∃ W : Nat → Nat → List V → Hp → Prop, (∃ m, W 0 m [] H) ∧ ∀ i m ys H, W i m ys H → H acc = some (.lst ys) ∧
    ((J.stop i H ∧ Q (.ref acc) H) ∨ (J.go i H ∧ ∃ N : List V → Hp → Prop, (∀ ys' H', N ys' H' → ∃ m', m' < m ∧ W (i + 1) m' ys' H') ∧ ∀ x H', J.yld i H x H' → cBody σc acc g tt te x ys H' N))
def tComp (own : List Str) (ix : List Nat) (wi : TI) (g : CP → TG) (tt : CP → TT) (te : CP → TE) : TE := fun σ H Q =>
  wi σ H fun J H1 => ∀ (c : CP) (acc : Addr), H1 acc = none → cLoop J (stC own ix σ) acc (g c) (tt c) (te c) (upd H1 acc (.lst [])) Q
section
variable {X : Cx} {scope : Scope} {own frees : List Str} {ix : List Nat} {tg elt iter : Expr} {ifs : List Expr} {pos : Pos} {wi : TI} {g : CP → TG} {tt : CP → TT} {te : CP → TE}
theorem comp_loop {J : It} {it acc : Addr} {fp : List Addr} {tn : Nat → Heap → Prop} {c : CP} {σ : St} {H : Hp} {s : Shared} {Q : VK} {R : Result → Shared → Prop}
    (hfp : c.fp = fp) (T : Turn X.prog X.w X.K tg J fp it tn) (hg : PG (cxC X (own ++ frees) scope c) tg (g c)) (ht : PIf (cxC X (own ++ frees) scope c) ifs (tt c)) (he : PE (cxC X (own ++ frees) scope c) elt (te c))
    (fpk : ∀ b ∈ fp, ∀ H' : Hp, H' b = none → FpOk (cxC X (own ++ frees) scope c) [] H' b)
    (I : Inv (cxC X (own ++ frees) scope c) [] (stC own ix σ) H s) (st : tn 0 s.heap) (fr : ∀ b ∈ fp, H b = none) (h : cLoop J (stC own ix σ) acc (g c) (tt c) (te c) H Q)
    (hR : ∀ s' H', Inv (cxC X (own ++ frees) scope c) [] (stC own ix σ) H' s' → Q (.ref acc) H' → R (.ok .next) s') :
    codeAny (model X.prog X.w) X.A (.compLoop (.ListComp elt [⟨tg, iter, ifs, 0⟩] scope pos) 0 (.ref it) (.ref acc) (cxC X (own ++ frees) scope c).env) R s := by
  obtain ⟨W, ⟨m0, w0⟩, turn⟩ := h
  refine codeAny_loop rfl (fun n s' => ∃ i ys H', Inv (cxC X (own ++ frees) scope c) [] (stC own ix σ) H' s' ∧ tn i s'.heap ∧ (∀ b ∈ fp, H' b = none) ∧ W i n ys H') (fun n s1 hI => ?_) m0 ⟨0, [], H, I, st, fr, w0⟩
  obtain ⟨i, ys, H1, I1, st1, fr1, w1⟩ := hI
  show wpAny _ X.A ((compTurn (.ListComp elt [⟨tg, iter, ifs, 0⟩] scope pos) 0 (.ref it) (.ref acc) (cxC X (own ++ frees) scope c).env).onRaise (fun x => do noteFrame x (cxC X (own ++ frees) scope c).env; theTreesLotGoes x)) _ _ s1
  have nv : ∀ {α : Type} {t : Sem α} {P : α → Shared → Prop} {s : Shared}, wpAny (model X.prog X.w) X.A t P (fun _ _ => False) s → wpAny (model X.prog X.w) X.A t P (notedBy (model X.prog X.w) X.A (cxC X (own ++ frees) scope c).env fun e s' => R (.error e) s') s :=
    fun h => wpAny_mono h (fun _ _ q => q) fun _ _ z => z.elim
  refine wpAny_noted ?_
  rw [compTurn_list]
  obtain ⟨ha, hw⟩ := turn i n ys H1 w1
  rcases hw with ⟨stop, q⟩ | ⟨go, N, hN, step⟩
  · refine wpAny_bind (wpAny_standAt (wpAny_bind (nv (thn (T.done (cxC X (own ++ frees) scope c) rfl rfl rfl rfl i [] s1 _ H1 (fun _ _ => False) I1 (fun b hb => fpk b hb H1 (fr1 b hb)) st1 stop) fun r s2 ⟨hr, I2⟩ => ?_))))
    subst hr
    exact wpAny_pure (hR s2 H1 I2 q)
  · refine wpAny_bind (wpAny_standAt (wpAny_bind (nv (thn (T.item (cxC X (own ++ frees) scope c) rfl rfl rfl rfl i [] s1 _ H1 (fun _ _ => False) I1 (fun b hb => fpk b hb H1 (fr1 b hb)) st1 go) fun r s2 ⟨u, hr, h2⟩ => ?_))))
    subst hr
    refine wpAny_bind (nv (thn h2 fun _ s3 ⟨x, H3, I3, r3, y3, st3, fr3⟩ => ?_))
    have I3' := I3.pinned (fun b hb => fpk b hb H3 (fr3 b hb)) (T.obj _ _ st3)
    refine wpAny_bind (nv (thn (hg _ s3 _ H3 x u _ I3' r3 (step x H3 y3)) fun _ s4 ⟨σ4, H4, I4, ks, q4⟩ => ?_))
    refine wpAny_bind (nv (thn (ht.run I4 q4) fun ok s5 ⟨H5, I5, q5⟩ => ?_))
    have keepT : ∀ {s6 : Shared} {σ6 : St} {H6 : Hp}, Inv (cxC X (own ++ frees) scope c) ([] ++ pinsAt fp s3.heap) σ6 H6 s6 → tn (i + 1) s6.heap ∧ ∀ b ∈ fp, H6 b = none := fun {s6 σ6 H6} I6 =>
      ⟨T.keep _ _ _ st3 fun b hb o e => (I6.pin (b, o) (List.mem_append_right _ (List.mem_append_right _ (mem_pinsAt hb e)))).1, fun b hb => by
        obtain ⟨o, e, d⟩ := T.obj _ _ st3 b hb
        exact (I6.pin (b, o) (List.mem_append_right _ (List.mem_append_right _ (mem_pinsAt hb e)))).2.1⟩
    cases ok with
    | false =>
      rw [if_neg (by decide)] at q5
      obtain ⟨m', hm, w5⟩ := hN _ _ q5
      obtain ⟨k1, k2⟩ := keepT I5
      exact wpAny_pure ⟨rfl, m', hm, i + 1, ys, H5, (I5.unpinned).weak ks.len.symm ks.get, k1, k2, w5⟩
    | true =>
      rw [if_pos rfl] at q5
      refine wpAny_bind (wpAny_bind (nv (thn (he _ s5 _ H5 _ I5 q5) fun y s6 ⟨yv, H6, I6, r6, a6, l6, q6⟩ => ?_)))
      obtain ⟨m', hm, w6⟩ := hN _ _ q6
      obtain ⟨k1, k2⟩ := keepT I6
      refine wpAny_bind (nv (thn (mt_append (X := cxC X (own ++ frees) scope c) _ s6 _ H6 (.ref acc) [yv] (.ref acc) [y] (fun _ H7 => H7 = upd H6 acc (.lst (ys ++ [yv]))) I6 rfl (.cons r6 .nil) ⟨acc, ys, yv, rfl, rfl, a6, l6, rfl⟩) fun _ s7 ⟨_, H7, I7, _, e7⟩ => ?_))
      subst e7
      obtain ⟨k1, k2⟩ := keepT I7
      exact wpAny_pure (wpAny_pure ⟨rfl, m', hm, i + 1, ys ++ [yv], _, (I7.unpinned).weak ks.len.symm ks.get, k1, k2, w6⟩)
structure CGone (X : Cx) (pins : List (Addr × Obj)) (C : Addr) (H : Hp) : Prop where
  no : H C = none
  loc : C ≠ X.env.locals
  old : X.s₀.heap.objs.size ≤ C
  cel : ∀ x c, X.env.cells.lookup x = some c → c ≠ C
  pin : ∀ p ∈ X.pn ++ pins, p.1 ≠ C
theorem CGone.inv {pins : List (Addr × Obj)} {σ : St} {H : Hp} {s : Shared} {C : Addr} {h' : Heap} (G : CGone X pins C H) (I : Inv X pins σ H s) (hs : Heap.SameBut C s.heap h') : Inv X pins σ H { s with heap := h' } :=
  cxC_gone I G.no G.loc G.old G.cel G.pin hs
theorem comp_block {pins : List (Addr × Obj)} {σ : St} {H : Hp} {s : Shared} {Q : VK} {RR : Value → Addr → Result → Shared → Prop} {E : Value → Shared → Prop} {J : It} {it : Addr} {fp : List Addr} {tn : Nat → Heap → Prop}
    (S : CScope X scope frees) (hc : X.calm = true) (hN : ix.map (fun i => X.N[i]?) = frees.map some)
    (hg : ∀ c, PG (cxC X (own ++ frees) scope c) tg (g c)) (ht : ∀ c, PIf (cxC X (own ++ frees) scope c) ifs (tt c)) (he : ∀ c, PE (cxC X (own ++ frees) scope c) elt (te c))
    (I : Inv X pins σ H s) (T : Turn X.prog X.w X.K tg J fp it tn) (st : tn 0 s.heap) (hf : ∀ b ∈ fp, FpOk X pins H b)
    (h : ∀ (c : CP) (acc : Addr), H acc = none → cLoop J (stC own ix σ) acc (g c) (tt c) (te c) (upd H acc (.lst [])) Q)
    (hRR : ∀ (acc C : Addr) s' H' m, Inv X pins σ H' s' → s'.heap.Ns C m → CGone X pins C H' → Q (.ref acc) H' → RR (.ref acc) C (.ok .next) s') :
    wpAny (model X.prog X.w) X.A (newList []) (fun acc s₃ => wpAny (model X.prog X.w) X.A (newFunctionEnv scope X.env.globals (clFrom X.env scope.names []) [] X.env.qual none .none (some X.env)) (fun cenv s₄ =>
      codeAny (model X.prog X.w) X.A (.compStart (.ListComp elt [⟨tg, iter, ifs, 0⟩] scope pos) 0 (.ref it) acc { cenv with scope := relabel scope X.env }) (RR acc cenv.locals) s₄) E s₃) E s := by
  refine wpAny_newObj_type (wpAny_newFunctionEnv S.nocell (by intro y hy; simp at hy) (fun h₁ hns hsb => ?_) S.kind)
  dsimp only at hns hsb ⊢
  have hn0 : H s.heap.objs.size = none := I.hok.fresh (Nat.le_refl _)
  have I3 : Inv X pins σ (upd H s.heap.objs.size (.lst [])) { s with heap := s.heap.push { cls := .type "list", data := .seq ([] : List Value).toArray } } := I.lnew (its := []) (t' := s.toks) .nil (Nat.zero_le _)
  generalize hs3 : ({ s with heap := s.heap.push { cls := .type "list", data := .seq ([] : List Value).toArray } } : Shared) = s3 at I3
  have e3 : s3.heap = s.heap.push { cls := .type "list", data := .seq ([] : List Value).toArray } := by rw [← hs3]
  have ob : ∀ b ∈ fp, b < s.heap.objs.size := fun b hb => by
    obtain ⟨o, e, _⟩ := T.obj _ _ st b hb
    exact Heap.lt_size e
  have sz : s3.heap.objs.size = s.heap.objs.size + 1 := by rw [e3, Heap.size_push]
  have hf3 : ∀ b ∈ fp, FpOk X pins (upd H s.heap.objs.size (.lst [])) b ∧ b < s3.heap.objs.size := fun b hb =>
    ⟨⟨by rw [upd_ne (Nat.ne_of_lt (ob b hb))]; exact (hf b hb).1, (hf b hb).2⟩, by rw [sz]; exact Nat.lt_succ_of_lt (ob b hb)⟩
  have kp : ∀ b o, s3.heap.get? b = some o → h₁.get? b = some o := fun b o e => by
    refine hsb.extBut b o ?_ (Heap.get?_push_of_some _ (e3 ▸ e))
    rw [← e3]
    exact Nat.ne_of_lt (Heap.lt_size e)
  have nsC : h₁.Ns s3.heap.objs.size (fun x => ([] : List (Str × Value)).reverse.lookup x) := by rw [e3]; exact hns
  have J0 : Inv (cxC X (own ++ frees) scope ⟨s3.heap.objs.size, s3, upd H s.heap.objs.size (.lst []), pins, fp⟩) [] (stC own ix σ) (upd H s.heap.objs.size (.lst [])) { s3 with heap := h₁, toks := s.toks + 0 } :=
    cxC_inv S hc I3 hf3 rfl hN ⟨_, nsC⟩ kp
  have fpk : ∀ b ∈ fp, ∀ H' : Hp, H' b = none → FpOk (cxC X (own ++ frees) scope ⟨s3.heap.objs.size, s3, upd H s.heap.objs.size (.lst []), pins, fp⟩) [] H' b := fun b hb H' hn => cxC_fp S I3 hf3 rfl hb hn
  have st1 : tn 0 h₁ := T.keep _ _ _ st fun b hb o e => kp b o (by rw [e3]; exact Heap.get?_push_of_some _ e)
  have loop : codeAny (model X.prog X.w) X.A (.compLoop (.ListComp elt [⟨tg, iter, ifs, 0⟩] scope pos) 0 (.ref it) (.ref s.heap.objs.size) (cxC X (own ++ frees) scope ⟨s3.heap.objs.size, s3, upd H s.heap.objs.size (.lst []), pins, fp⟩).env)
      (RR (.ref s.heap.objs.size) s3.heap.objs.size) { s3 with heap := h₁, toks := s.toks + 0 } := by
    refine comp_loop rfl T (hg _) (ht _) (he _) fpk J0 st1 (fun b hb => (hf3 b hb).1.1) (h _ _ hn0) fun s' H' I' q => ?_
    obtain ⟨m, hm, _⟩ := I'.loc
    refine hRR _ _ s' H' m (cxC_back I3 hf3 I') hm ⟨I'.free, Nat.ne_of_gt I3.lt, I3.sz, fun x c e z => ?_, fun p hp z => ?_⟩ q
    · obtain ⟨v, q⟩ := I3.cell x c e
      exact absurd (Nat.lt_of_lt_of_le q.lt (by rw [z]; exact Nat.le_refl _)) (Nat.lt_irrefl _)
    · exact absurd (Nat.lt_of_lt_of_le (Heap.lt_size (I3.pin p hp).1) (by rw [z]; exact Nat.le_refl _)) (Nat.lt_irrefl _)
  have loop' := loop
  rw [← hs3] at loop'
  exact codeAny_compStart_list loop' (T.self _ 0 _ _ _ st1 loop')
theorem pe_comp (hi : PI X tg iter wi)
    (hg : ∀ c, PG (cxC X (own ++ frees) scope c) tg (g c)) (ht : ∀ c, PIf (cxC X (own ++ frees) scope c) ifs (tt c)) (he : ∀ c, PE (cxC X (own ++ frees) scope c) elt (te c)) (S : CScope X scope frees := by exact ⟨rfl, by decide +kernel, by decide +kernel, by decide +kernel, by decide +kernel, rfl⟩) (hc : X.calm = true := by rfl) (hN : ix.map (fun i => X.N[i]?) = frees.map some := by rfl) (hs : ∀ x, foldedSetIterable iter X.env x = pure x := by intro _; rfl) :
    PE X (.ListComp elt [⟨tg, iter, ifs, 0⟩] scope pos) (tComp own ix wi g tt te) := by
  intro pins s σ H Q I h
  rw [eval_ListComp]
  refine wpAny_comprehension_free (use := none) rfl hs (closure_is (S.has I.ok)) S.kind S.locs (thn (hi pins s σ H _ I h) fun v s1 h1 => thn h1 fun itv s2 h2 => ?_)
  obtain ⟨it, fp, tn, J, H2, e, I2, T, st2, f2, hw⟩ := h2
  subst e
  refine comp_block S hc hN hg ht he I2 T st2 f2 hw fun acc C s' H' m I' hm G q => ?_
  exact ⟨m, hm, fun h' hs' => ⟨.ref acc, H', G.inv I' hs', rfl, q⟩⟩
end
section
variable {σc : St} {acc : Addr} {g : TG} {tt : TT} {te : TE} {H : Hp} {Q : VK}
end
end L2
namespace L2
open PySem PySem.Spec PyProof.Rows
section
variable {X : Cx}
theorem bools_of : ∀ {bs : List Bool} {its : List Value}, Vals (bs.map V.bl) its → LSm.BoolsAre its bs
  | [], _, .nil => .nil
  | b :: r, _, .cons q t => by
    cases q
    exact .cons b (bools_of t)
theorem call_all (hc : X.calm = true) : CallR X (.builtin "all") (fun xs H Q => ∃ (p : Addr) (bs : List Bool), xs = [.ref p] ∧ SqL X.K H p (bs.map V.bl) ∧ Q (.bl (bs.all id)) H) := by
  intro pins s σ H xs us Q I r h
  obtain ⟨p, bs, rfl, hq, q⟩ := h
  obtain ⟨u, rfl, ru⟩ := vals1 r
  cases ru
  obtain ⟨vs, rv, pl, hz⟩ := I.list hq
  have hb := bools_of rv
  have hl := pl.isList
  have hlt : p < s.heap.objs.size := by obtain ⟨_, e, _⟩ := hl; exact Heap.lt_size e
  refine call_all_walk (wpAny_pyIter_list hl ?_)
  refine ⟨s.heap.objs.size, [s.heap.objs.size, p], [s.heap.objs.size], vs.toArray.size, _, _, fun i => (bs[i]?).getD true, rfl, Walks.list (A := X.A.in1) (I.ok.hd hc) _ p (Nat.ne_of_lt hlt) vs.toArray,
    ⟨⟨_, Heap.get?_push_size _ rfl, rfl, rfl⟩, hl.push _⟩, fun i v s' Q' E' hP hQ => ?_, fun h' tk hk => ?_⟩
  · obtain ⟨b, e, rfl⟩ := hb.get i v (by simpa using hP)
    simp only [e, Option.getD_some] at hQ
    exact wpAny_truthy_bool hQ
  · have e : ((List.range vs.toArray.size).all fun i => (bs[i]?).getD true) = bs.all id := by
      rw [List.size_toArray, hb.length]; exact LSm.range_all bs
    rw [e]
    exact ⟨.bl _, H, I.kept (h' := h') (t' := tk) (LSm.kept_iter hk), rfl, q⟩
theorem op_fdivL : OpR X (binaryOp .FloorDiv) (rI (fun _ j => 0 < j ∧ j.natAbs.log2 < 9000) fun i j => .int (i / j)) := opI fun i j _ _ _ _ _ hc q => by
  have h1 : (0 : Int) < j := hc.1
  exact floordiv_int (by omega) (by rw [Int.fdiv_eq_ediv_of_nonneg i (by omega)]; exact q) (.inl (PyProof.noPylong_of_log2 hc.2))
def Its (y : Str) : It := ⟨fun i _ => i < y.cps.size, fun i H x H' => H' = H ∧ ∃ c, y.cps[i]? = some c ∧ x = .str ⟨#[c]⟩, fun i _ => i = y.cps.size⟩
theorem turn_str {P : Program} {w : World} {K : PySem.W.Frag} {nm : Str} {px : Pos} {ty : String} {y : Str} {t : Tok} (it : Addr)
    (W : ∀ A : Around, A.handled = none → Walks P w A it [it] [it] y.cps.size (SignAt y) (fun i h => h.IsStrIter it ty y t i))
    (sf : ∀ (A : Around) (i : Nat) (s : Shared) (Q : Value → Shared → Prop) (E : Value → Shared → Prop), s.heap.IsStrIter it ty y t i → Q (.ref it) s → wpAny (model P w) A (pyIter (.ref it)) Q E s) : Turn P w K (.Name nm px) (Its y) [it] it (fun i h => h.IsStrIter it ty y t i) where
  mem := by simp
  obj := fun i h st b hb => by
    have e : b = it := by simpa using hb
    subst e
    obtain ⟨o, e, c, d⟩ := st
    exact ⟨o, e, fun v z => by rw [d] at z; cases z⟩
  keep := fun i h h' st k => let ⟨o, ho, r⟩ := st; ⟨o, k it (by simp) o ho, r⟩
  item := by
    intro X hP hw hK hc i pins s σ H E I hf st hg
    subst hP hw hK
    obtain ⟨f0, f1, f2, f3, f4, f5⟩ := hf it (by simp)
    refine (W X.A (I.ok.hd hc)).item i s _ _ hg st fun v h' tk hP st' hk => ?_
    obtain ⟨c, u, hcx, rfl⟩ := hP
    have I1 : Inv X pins σ H { s with heap := h', toks := tk } := I.turned (fun b o hb e => hk b o (by simpa using hb) e) f0 f1 f3 f4 f5
    exact ⟨_, rfl, wpAny_pure ⟨.str ⟨#[c]⟩, H, I1, ⟨u, rfl⟩, ⟨rfl, c, hcx, rfl⟩, st', fun b hb => (hf b hb).1⟩⟩
  done := by
    intro X hP hw hK hc i pins s σ H E I hf st hg
    subst hP hw hK
    obtain ⟨f0, f1, f2, f3, f4, f5⟩ := hf it (by simp)
    have hg' : i = y.cps.size := hg
    subst hg'
    exact (W X.A (I.ok.hd hc)).done s _ _ st fun h' tk hk => ⟨rfl, I.turned (fun b o hb e => hk b o (by simpa using hb) e) f0 f1 f3 f4 f5⟩
  self := fun A i s Q E st h => sf A i s Q E st h
def iStr (tl : TE) : TI := fun σ H R => tl σ H fun x H1 => ∃ y, x = .str y ∧ R (Its y) H1
theorem pi_str {l : Expr} {tl : TE} {nm : Str} {px : Pos} (hl : PE X l tl) : PI X (.Name nm px) l (iStr tl) := by
  intro pins s σ H R I h
  refine thn (hl pins s σ H _ I h) fun v s1 ⟨x, H1, I1, r1, q1⟩ => ?_
  obtain ⟨y, e, q⟩ := q1
  subst e
  obtain ⟨t, rfl⟩ := r1
  have fin : ∀ (ty : String) (o : Obj) (W : ∀ A : Around, A.handled = none → Walks X.prog X.w A s1.heap.objs.size [s1.heap.objs.size] [s1.heap.objs.size] y.cps.size (SignAt y) (fun i h => h.IsStrIter s1.heap.objs.size ty y t i))
      (sf : ∀ (A : Around) (i : Nat) (s : Shared) (Q : Value → Shared → Prop) (E : Value → Shared → Prop), s.heap.IsStrIter s1.heap.objs.size ty y t i → Q (.ref s1.heap.objs.size) s → wpAny (model X.prog X.w) A (pyIter (.ref s1.heap.objs.size)) Q E s),
      (s1.heap.push o).IsStrIter s1.heap.objs.size ty y t 0 → PIE X pins σ (.Name nm px) R (.ref s1.heap.objs.size) { s1 with heap := s1.heap.push o } := fun ty o W sf st => by
    refine ⟨s1.heap.objs.size, [s1.heap.objs.size], _, _, H1, rfl, I1.kept (t' := s1.toks) fun b o e => Heap.get?_push_of_some _ e, turn_str _ W sf, st, fun b hb => ?_, q⟩
    have e : b = s1.heap.objs.size := by simpa using hb
    subst e
    exact I1.fpOk (Nat.le_refl _) (I1.hok.fresh (Nat.le_refl _))
  cases ha : y.cps.all (· < 128)
  · exact wpAny_pyIter_wide ha (fin _ _ (fun A' hA => Walks.strWide hA _ y t) (fun _ _ _ _ _ st h => wpAny_pyIter_striter_wide st h) ⟨_, Heap.get?_push_size _ rfl, rfl, rfl⟩)
  · exact wpAny_pyIter_ascii ha (fin _ _ (fun A' hA => Walks.strAscii hA _ y t) (fun _ _ _ _ _ st h => wpAny_pyIter_striter_ascii st h) ⟨_, Heap.get?_push_size _ rfl, rfl, rfl⟩)
end
end L2
namespace L2
open PySem PySem.Spec PyProof.Rows
mutual
inductive Dp (K : PySem.W.Frag) (H : Hp) : V → PyData → Prop
  | non : Dp K H .non .none
  | bl (b : Bool) : Dp K H (.bl b) (.bool b)
  | int (i : Int) : Dp K H (.int i) (.int i)
  | str (x : Str) : Dp K H (.str x) (.str x)
  | lst {a : Addr} {xs : List V} {ds : List PyData} : SqL K H a xs → DpAll K H xs ds → Dp K H (.ref a) (.list ds)
  | tup {a : Addr} {xs : List V} {ds : List PyData} : SqT K H a xs → DpAll K H xs ds → Dp K H (.ref a) (.tuple ds)
inductive DpAll (K : PySem.W.Frag) (H : Hp) : List V → List PyData → Prop
  | nil : DpAll K H [] []
  | cons {v : V} {vs : List V} {d : PyData} {ds : List PyData} : Dp K H v d → DpAll K H vs ds → DpAll K H (v :: vs) (d :: ds)
end
section
variable {X : Cx} {pins : List (Addr × Obj)} {σ : St} {H H' : Hp} {s : Shared} {K : PySem.W.Frag}
mutual
theorem Dp.reads (I : Inv X pins σ H s) : ∀ (d : PyData) (v : V) (u : Value), Dp X.K H v d → RelV v u → ∃ as, Reads s.heap u d as
  | .none, _, _, h, r => by cases h; cases r; exact ⟨_, .none⟩
  | .bool b, _, _, h, r => by cases h; cases r; exact ⟨_, .bool b⟩
  | .int i, _, _, h, r => by cases h; obtain ⟨t, rfl⟩ := r; exact ⟨_, .int i t⟩
  | .str x, _, _, h, r => by cases h; obtain ⟨t, rfl⟩ := r; exact ⟨_, .str x t⟩
  | .list ds, _, _, h, r => by
    cases h with
    | lst hq hs =>
      cases r
      obtain ⟨its, rv, pl, hz⟩ := I.list hq
      obtain ⟨as, ra⟩ := DpAll.reads I ds _ _ hs rv
      obtain ⟨o, e, hc, n, hd⟩ := pl.isList
      exact ⟨_, .list e hc hd (by simpa using ra)⟩
  | .tuple ds, _, _, h, r => by
    cases h with
    | tup hq hs =>
      cases r
      obtain ⟨its, rv, pl, hz⟩ := I.tuple hq
      obtain ⟨as, ra⟩ := DpAll.reads I ds _ _ hs rv
      obtain ⟨o, e, hc, n, hd⟩ := pl
      exact ⟨_, .tuple e hc hd (by simpa using ra)⟩
  | .dict _, _, _, h, _ => nomatch h
theorem DpAll.reads (I : Inv X pins σ H s) : ∀ (ds : List PyData) (vs : List V) (us : List Value), DpAll X.K H vs ds → Vals vs us → ∃ as, ReadsAll s.heap us ds as
  | [], _, _, h, r => by cases h; cases r; exact ⟨_, .nil⟩
  | d :: ds, _, _, h, r => by
    cases h with
    | cons h1 h2 =>
      cases r with
      | cons r1 r2 =>
        obtain ⟨as, a1⟩ := Dp.reads I d _ _ h1 r1
        obtain ⟨bs, a2⟩ := DpAll.reads I ds _ _ h2 r2
        exact ⟨_, .cons a1 a2⟩
end
def rEqD (K : PySem.W.Frag) : R2 := fun x y H Q => ∃ d e, Dp K H x d ∧ Dp K H y e ∧ d.canLay0 = true ∧ e.canLay0 = true ∧ min d.depth e.depth ≤ 64 ∧ Q (.bl (PyData.eqv d e)) H
def rNeD (K : PySem.W.Frag) : R2 := fun x y H Q => ∃ d e, Dp K H x d ∧ Dp K H y e ∧ d.canLay0 = true ∧ e.canLay0 = true ∧ min d.depth e.depth ≤ 64 ∧ Q (.bl (!PyData.eqv d e)) H
theorem op_eqD (hu : X.A.units + 64 < cLine) : OpR X (compareOp .Eq) (rEqD X.K) := by
  intro pins s σ H x y v u Q I rx ry h
  obtain ⟨d, e, h1, h2, c1, c2, hd, q⟩ := h
  obtain ⟨as, ra⟩ := Dp.reads I d x v h1 rx
  obtain ⟨bs, rb⟩ := Dp.reads I e y u h2 ry
  exact SeqAt.compareEq_reads ra rb c1 c2 (by omega) ⟨.bl _, H, I, rfl, q⟩
theorem op_neD (hu : X.A.units + 64 < cLine) : OpR X (compareOp .NotEq) (rNeD X.K) := by
  intro pins s σ H x y v u Q I rx ry h
  obtain ⟨d, e, h1, h2, c1, c2, hd, q⟩ := h
  obtain ⟨as, ra⟩ := Dp.reads I d x v h1 rx
  obtain ⟨bs, rb⟩ := Dp.reads I e y u h2 ry
  exact SeqAt.compareNe_reads ra rb c1 c2 (by omega) ⟨.bl _, H, I, rfl, q⟩
theorem Same.new {p : Addr} (h : H p = none) (o : HO) : Same H (upd H p o) := fun b u q => by rw [upd_ne (ne_of_none q h)]; exact q
theorem DpAll.ints : ∀ (xs : List Int), DpAll K H (xs.map V.int) (xs.map PyData.int)
  | [] => .nil
  | x :: r => .cons (.int x) (DpAll.ints r)
end
mutual
def noB : PyData → Bool
  | .none | .int _ | .str _ => true
  | .bool _ => false
  | .list ds => noBs ds
  | .tuple ds => noBs ds
  | .dict _ => false
def noBs : List PyData → Bool
  | [] => true
  | d :: r => noB d && noBs r
end
mutual
theorem eqv_iff : ∀ (d e : PyData), noB d = true → noB e = true → (PyData.eqv d e = true ↔ d = e)
  | .none, e, _, h => by cases e <;> simp [PyData.eqv, noB] at h ⊢
  | .bool b, e, h, _ => by simp [noB] at h
  | .int i, e, _, h => by cases e <;> simp [PyData.eqv, noB] at h ⊢
  | .str x, e, _, h => by cases e <;> simp [PyData.eqv, noB] at h ⊢
  | .list ds, e, h1, h2 => by
    cases e with
    | list es =>
      have := eqvs_iff ds es (by simpa [noB] using h1) (by simpa [noB] using h2)
      simpa [PyData.eqv] using this
    | _ => simp [PyData.eqv, noB] at h2 ⊢
  | .tuple ds, e, h1, h2 => by
    cases e with
    | tuple es =>
      have := eqvs_iff ds es (by simpa [noB] using h1) (by simpa [noB] using h2)
      simpa [PyData.eqv] using this
    | _ => simp [PyData.eqv, noB] at h2 ⊢
  | .dict _, _, h, _ => by simp [noB] at h
theorem eqvs_iff : ∀ (ds es : List PyData), noBs ds = true → noBs es = true → (PyData.eqvAll ds es = true ↔ ds = es)
  | [], [], _, _ => by simp [PyData.eqvAll]
  | [], _ :: _, _, _ => by simp [PyData.eqvAll]
  | _ :: _, [], _, _ => by simp [PyData.eqvAll]
  | d :: ds, e :: es, h1, h2 => by
    have n1 : noB d = true ∧ noBs ds = true := by simpa [noBs] using h1
    have n2 : noB e = true ∧ noBs es = true := by simpa [noBs] using h2
    have a := eqv_iff d e n1.1 n2.1
    have b := eqvs_iff ds es n1.2 n2.2
    simp only [PyData.eqvAll, Bool.and_eq_true, List.cons.injEq, a, b]
end
end L2
namespace L2
open PySem PySem.Spec PyProof.Rows
section
variable {P : Program} {w : World} {K : PySem.W.Frag} {mg : Str → Option Value} {base : Heap}
def TopD (K : PySem.W.Frag) (mg : Str → Option Value) (x : Str) (st : Stmt) (ps : List Str) : Prop := ∃ f fd, Fun K x x st f fd ∧ Binds K fd ps [] ∧ mg x = some (.ref f)
end
section
variable {X : Cx} {k : Nat} {x : Str} {ps : List Str} {sp : Sp} {e : Expr} {es : List Expr} {t : TA} {p pos : Pos}
theorem op_le_str : OpR X (compareOp .LtE) (fun x y H Q => ∃ i j, x = .str i ∧ y = .str j ∧ Q (.bl (!decide (j.cps.toList < i.cps.toList))) H) := by
  intro pins s σ H x y v u Q I rx ry h
  obtain ⟨i, j, rfl, rfl, q⟩ := h
  obtain ⟨t, rfl⟩ := rx
  obtain ⟨t', rfl⟩ := ry
  exact PySem.P.le_str (fin_bl I q rfl)
end
end L2
namespace L2
open PySem PySem.Spec PyProof.Rows
section
variable {X : Cx}
end
inductive TyR (K : PySem.W.Frag) (H : Hp) : V → Value → Prop where
  | of {x : V} {t : Value} (h : TyOf K H x t) : TyR K H x t
  | tup {a : Addr} {xs : List V} (h : SqT K H a xs) : TyR K H (.ref a) (.type "tuple")
  | lst {a : Addr} {xs : List V} (h : SqL K H a xs) : TyR K H (.ref a) (.type "list")
theorem call_isI {X : Cx} : CallR X (.builtin "isinstance") (fun xs H Q => ∃ x c t b, xs = [x, .ty c] ∧ TyR X.K H x t ∧ PySem.W.kitOne X.K t (.type c) = some b ∧ Q (.bl b) H) := by
  intro pins s σ H xs us Q I r h
  obtain ⟨x, c, t, b, rfl, ty, e, q⟩ := h
  obtain ⟨u, w', rfl, ru, rw'⟩ := vals2 r
  cases rw'
  cases ty with
  | of ty => exact isinst_ok I ru ty e fun tk => ⟨.bl b, H, I.tok tk, rfl, q⟩
  | tup hq =>
    cases ru
    obtain ⟨its, rv, ⟨o, h1, h2, _⟩, _⟩ := I.tuple hq
    exact PySem.W.kia_one PySem.W.kitx_tuple I.kIn ⟨o, h1, h2⟩ e (fun z => nomatch z) fun tk => ⟨.bl b, H, I.tok tk, rfl, q⟩
  | lst hq =>
    cases ru
    obtain ⟨its, rv, pl, _⟩ := I.list hq
    obtain ⟨o, h1, h2, _⟩ := pl.isList
    exact PySem.W.kia_one PySem.W.kitx_list I.kIn ⟨o, h1, h2⟩ e (fun z => nomatch z) fun tk => ⟨.bl b, H, I.tok tk, rfl, q⟩
end L2
namespace MA
theorem gcd_step {a b : Int} (ha : 0 ≤ a) (hb : 0 < b) : Int.gcd b (a % b) = Int.gcd a b := by
  obtain ⟨m, rfl⟩ := Int.eq_ofNat_of_zero_le ha
  obtain ⟨n, rfl⟩ := Int.eq_ofNat_of_zero_le (Int.le_of_lt hb)
  rw [← Int.natCast_emod, Int.gcd_natCast_natCast, Int.gcd_natCast_natCast, Nat.gcd_comm n (m % n), ← Nat.gcd_rec, Nat.gcd_comm]
inductive Mob (N : Type) where
  | wt (n : N)
  | rod (l r : Int) (a b : Mob N)
namespace Mob
variable {N : Type}
def arms : Mob N → Prop
  | wt _ => True
  | rod l r a b => 1 ≤ l ∧ l ≤ 9 ∧ 1 ≤ r ∧ r ≤ 9 ∧ a.arms ∧ b.arms
def deep : Mob N → Nat
  | wt _ => 0
  | rod _ _ a b => max a.deep b.deep + 1
def names : Mob N → List N
  | wt n => [n]
  | rod _ _ a b => a.names ++ b.names
end Mob
end MA
namespace MA
namespace Mob
variable {N : Type}
end Mob
end MA
namespace L2
open PySem PySem.Spec PyProof.Rows
section
variable {P : Program} {w : World} {H H' : Hp} {h : Heap} {a : Addr} {o : HO}
theorem ObjOk.obj (x : ObjOk P w H h a o) : ∃ u, h.get? a = some u := by
  cases o with
  | lst xs => obtain ⟨_, _, _, _, e⟩ := x; exact ⟨_, e⟩
  | tup xs => obtain ⟨_, _, _, _, e⟩ := x; exact ⟨_, e⟩
  | dK kvs => obtain ⟨_, _, _, _, o, _, _, e, _⟩ := x; exact ⟨_, e⟩
  | dT kvs => obtain ⟨_, _, _, _, o, _, _, e, _⟩ := x; exact ⟨_, e⟩
  | set S n => obtain ⟨o, _, _, _, e, _⟩ := x; exact ⟨_, e⟩
  | ins C dx fs => obtain ⟨_, _, _, e, _⟩ := x; exact ⟨_, e⟩
  | own y => exact x
  | xd fs => obtain ⟨_, ⟨_, _, _, e, _⟩, _⟩ := x; exact ⟨_, e⟩
  | rng lo hi => obtain ⟨_, _, _, e⟩ := x; exact ⟨_, e⟩
  | frz ob u => obtain ⟨e, _⟩ := x; exact ⟨_, e⟩
  | tbl ps => exact ⟨_, (show h.get? a = some _ from x)⟩
  | met f y => exact ⟨_, (show h.get? a = some _ from x)⟩
  | ext φ => obtain ⟨_, e, _⟩ := x; exact e
end
structure Fly (P : Program) (w : World) (outer : List Env) (H H' : Hp) (s s' : Shared) (a : Addr) (C : Value) : Prop where
  os : s'.os = s.os
  bare : AllBare s'.gens
  slot : ∀ b o, s.heap.get? b = some o → b ∈ frs outer → ∃ sl, s'.heap.get? b = some { o with slots := sl }
  free : ∀ b o, s.heap.get? b = some o → H b = none → H' b = none
  tups : ∀ b xs, H b = some (.tup xs) → H' b = some (.tup xs)
  frzs : ∀ b o u, H b = some (.frz o u) → H' b = some (.frz o u)
  tbls : ∀ b ps, H b = some (.tbl ps) → ∃ more, H' b = some (.tbl (ps ++ more))
  fl : ∃ (B : Heap) (a0 : Value), (∀ b o, s.heap.get? b = some o → H b = none → b ∉ frs outer → B.get? b = some o) ∧ (∀ b o, s.heap.get? b = some o → b ∉ frs outer → ∃ o', B.get? b = some o') ∧ HOk P w H' B ∧ Heap.FlyingW B outer a C a0 s'.heap
section
variable {P : Program} {w : World} {outer : List Env} {H H' : Hp} {s s' : Shared} {a : Addr} {C : Value}
theorem Fly.un (F : Fly P w outer H H' s s' a C) : Un (frs outer) [] H H' s.heap s'.heap where
  keep := fun b o q n hb _ => by
    obtain ⟨B, a0, k, _, _, f⟩ := F.fl
    exact f.1 b o (k b o q n hb)
  slot := fun b o q n hb _ => F.slot b o q hb
  free := fun b o q n _ => F.free b o q n
  there := fun b o q _ => by
    by_cases hb : b ∈ frs outer
    · obtain ⟨sl, e⟩ := F.slot b o q hb
      exact ⟨_, e⟩
    · obtain ⟨B, a0, _, t, _, f⟩ := F.fl
      obtain ⟨o', e⟩ := t b o q hb
      exact ⟨o', f.1 b o' e⟩
  tups := F.tups
  frzs := F.frzs
  tbls := F.tbls
theorem Fly.hok (F : Fly P w outer H H' s s' a C) : HOk P w H' s'.heap := by
  obtain ⟨B, a0, _, _, h, f⟩ := F.fl
  exact h.kept f.1
theorem Fly.new (F : Fly P w outer H H' s s' a C) : H' a = none := by
  obtain ⟨B, a0, _, _, h, f⟩ := F.fl
  cases e : H' a with
  | none => rfl
  | some o =>
    obtain ⟨u, q⟩ := (h a o e).obj
    rw [f.2.1] at q
    cases q
end
def CX1 (P : Program) (w : World) : CXT := fun outer H s E e s' => ∃ (a : Addr) (C : Value) (H' : Hp), e = .ref a ∧ Fly P w outer H H' s s' a C ∧ E C none H'
section
variable {X : Cx} {pins : List (Addr × Obj)} {σ : St} {H H' : Hp} {s s' : Shared} {a : Addr} {C : Value}
theorem fly_out (I : Inv X pins σ H s) (hex : X.ex = []) (os : s'.os = s.os) (bare : AllBare s'.gens) (slot : ∀ b o, s.heap.get? b = some o → b ∈ frs X.outer → ∃ sl, s'.heap.get? b = some { o with slots := sl })
    (free : ∀ b o, s.heap.get? b = some o → H b = none → H' b = none) (tups : ∀ b xs, H b = some (.tup xs) → H' b = some (.tup xs)) (frzs : ∀ b o u, H b = some (.frz o u) → H' b = some (.frz o u))
    (tbls : ∀ b ps, H b = some (.tbl ps) → ∃ more, H' b = some (.tbl (ps ++ more)))
    (fl : ∃ (B : Heap) (a0 : Value), (∀ b o, s.heap.get? b = some o → H b = none → b ∉ frs X.stack → B.get? b = some o) ∧ (∀ b o, s.heap.get? b = some o → b ∉ frs X.stack → ∃ o', B.get? b = some o') ∧ HOk X.prog X.w H' B ∧ Heap.FlyingW B X.outer a C a0 s'.heap) :
    Fly X.prog X.w X.outer X.H₀ H' X.s₀ s' a C := by
  have nx : ∀ b : Addr, b ∉ X.ex := fun b => by rw [hex]; simp
  have nst : ∀ b o, X.s₀.heap.get? b = some o → b ∉ frs X.outer → b ∉ frs X.stack := fun b o q hb z => by
    rcases List.mem_cons.mp (I.stkSub b z) with e | e
    · exact absurd (Nat.lt_of_lt_of_le (Heap.lt_size q) I.ok.above) (by rw [e]; exact Nat.lt_irrefl _)
    · exact hb e
  refine ⟨os.trans I.os, bare, fun b o q hb => ?_, fun b o q n => ?_, fun b xs q => tups b xs (I.base.tups b xs q), fun b o u q => frzs b o u (I.base.frzs b o u q), fun b ps q => ?_, ?_⟩
  · obtain ⟨sl, e⟩ := I.base.slot b o q (I.ok.frf b hb) hb (nx b)
    obtain ⟨sl', e'⟩ := slot b _ e hb
    exact ⟨sl', e'⟩
  · obtain ⟨sl, e⟩ := I.base.any q n (nx b)
    exact free b _ e (I.base.free b o q n (nx b))
  · obtain ⟨m1, e1⟩ := I.base.tbls b ps q
    obtain ⟨m2, e2⟩ := tbls b _ e1
    exact ⟨m1 ++ m2, by rw [e2, Array.append_assoc]⟩
  · obtain ⟨B, a0, k, t, h, f⟩ := fl
    refine ⟨B, a0, fun b o q n hb => k b o (I.base.keep b o q n hb (nx b)) (I.base.free b o q n (nx b)) (nst b o q hb), fun b o q hb => ?_, h, f⟩
    obtain ⟨o', e⟩ := I.base.there b o q (nx b)
    exact t b o' e (nst b o q hb)
end
def Raises (X : Cx) (E : XK) : Prop := ∀ (pins : List (Addr × Obj)) (σ : St) (H : Hp) (s : Shared) (e : Addr) (h' : Heap) (C : Value) (args : List Value), Inv X pins σ H s → Heap.MadeExcOf s.heap h' e C args → E C none H → X.xe (.ref e) { s with heap := h' }
section
variable {P : Program} {w : World} {K : PySem.W.Frag} {mg : Str → Option Value} {base : Heap} {N : List Str} {qual : Str} {scope : Scope} {f : Addr} {cd : Value} {A : Around} {outer : List Env} {s : Shared} {H : Hp} {E : XK}
theorem frs_cons {env : Env} {l : List Env} {b : Addr} (h : b ∈ frs l) : b ∈ frs (env :: l) := by
  obtain ⟨e, he, hf⟩ := List.mem_filterMap.mp h
  exact List.mem_filterMap.mpr ⟨e, List.mem_cons_of_mem _ he, hf⟩
theorem raisesX : Raises (cxOf (CX1 P w) P w K mg base N qual scope f cd A outer s H E) E := by
  intro pins σ H1 s1 e h' C args I mx hE
  have stk := I.stack
  have nofr : ∀ b o, H1 b = some o → b ∉ frs (cxOf (CX1 P w) P w K mg base N qual scope f cd A outer s H E).stack := fun b o q z => by
    rw [I.stkFree b z] at q; cases q
  have hin : ∀ env' ∈ (cxOf (CX1 P w) P w K mg base N qual scope f cd A outer s H E).stack, ∀ b, env'.frame = some b → b ∈ frs (cxOf (CX1 P w) P w K mg base N qual scope f cd A outer s H E).stack := fun env' he b hb => List.mem_filterMap.mpr ⟨env', he, hb⟩
  show wpAny (model P w) _ (leaving _ (.ref e)) _ _ _
  refine wpAny_leaves_madeW (base := PySem.W.hideAll s1.heap (frs (cxOf (CX1 P w) P w K mg base N qual scope f cd A outer s H E).stack)) I.ok.frames rfl (fun b o q => PySem.W.of_hideAll _ q) (PySem.W.funFrames_hide stk hin) mx fun h'' t fl tup bt up => ?_
  refine ⟨e, C, H1, rfl, fly_out I rfl rfl I.bare (fun b o q hb => ?_) (fun _ _ _ n => n) (fun _ _ q => q) (fun _ _ _ q => q) (fun _ ps q => ⟨#[], by rw [q]; simp⟩) ⟨_, _, fun b o q n hb => PySem.W.hideAll_get _ q hb, fun b o q hb => ⟨o, PySem.W.hideAll_get _ q hb⟩, fun b o q => ?_, fl⟩, hE⟩
  · obtain ⟨_, o', ho', hd⟩ := stk.mem (frs_cons (env := envOfC qual scope s.heap.objs.size f cd) hb)
    rw [q] at ho'
    cases ho'
    exact up b o (mx.keeps b o q) hd
  · refine (I.hok b o q).stay (fun c u hc r => PySem.W.hideAll_get _ r ?_) (fun _ r => r) fun _ _ r => r
    rcases hc with z | z
    · rw [z]; exact nofr b o q
    · exact nofr c _ z
theorem passX : Passes (CX1 P w) (cxOf (CX1 P w) P w K mg base N qual scope f cd A outer s H E) E := by
  intro pins σ H1 s1 e s' I h
  obtain ⟨a, C, H', rfl, F, hE⟩ := h
  obtain ⟨B, a0, kb, th, hok, fl⟩ := F.fl
  show wpAny (model P w) _ (leaving _ (.ref a)) _ _ _
  refine wpAny_leaves_onW I.ok.frames rfl fl fun h'' fl' up => ⟨a, C, H', rfl, fly_out I rfl F.os F.bare (fun b o q hb => ?_) F.free F.tups F.frzs F.tbls ⟨B, a0, kb, th, hok, fl'⟩, hE⟩
  have hb' := frs_cons (env := envOfC qual scope s.heap.objs.size f cd) hb
  obtain ⟨sl, e⟩ := F.slot b o q hb'
  obtain ⟨_, o', ho', hd⟩ := fl.2.2.1.mem hb'
  rw [e] at ho'
  cases ho'
  obtain ⟨sl', e'⟩ := up b _ e hd
  exact ⟨sl', e'⟩
theorem ownX : PassesOwn (model P w) (cxOf (CX1 P w) P w K mg base N qual scope f cd A outer s H E).A (cxOf (CX1 P w) P w K mg base N qual scope f cd A outer s H E).env (cxOf (CX1 P w) P w K mg base N qual scope f cd A outer s H E).xe :=
  PassesOwn.leaving
end
abbrev vErr : List Value := [.type "ValueError", .type "Exception", .type "BaseException", .type "object"]
theorem exc_of_in {K : PySem.W.Frag} {h : Heap} {C : Addr} {bmB : List Value} {newId : String} (X : K.In h) (q : PySem.W.excIn K C bmB newId = true) : ∃ nm qn N bs bm hdct sn sub ab col dd k0 k1 k2 k3 k5, ∃ mN : Str → Option Value,
    h.get? C = some (excClassObj nm qn C N bs bm hdct sn sub ab col dd k0 k1 k2 k3 k5 newId) ∧ h.Ns N mN ∧ mN "__init__" = none ∧ OwnTail h bmB bm := by
  unfold PySem.W.excIn at q
  split at q
  · rename_i dd cd sl ho
    split at q
    · rename_i C' bm k0 k1 k2 k3 n k5 hm hs
      simp only [Bool.and_eq_true, beq_iff_eq, Bool.not_eq_true'] at q
      obtain ⟨⟨⟨⟨⟨rfl, rfl⟩, hdel⟩, ht⟩, hok⟩, hni⟩ := q
      obtain ⟨nm, bs, mro, ns, qn, hd, sn, sub, ab, col, del⟩ := cd
      dsimp only at hm hdel hok hni
      subst hm hdel
      have hsl : sl = #[k0, k1, k2, k3, some (.builtin n), k5] := by
        obtain ⟨l⟩ := sl
        simp only at hs
        rw [hs]
      subst hsl
      exact ⟨nm, qn, ns, bs, bm, hd, sn, sub, ab, col, dd, k0, k1, k2, k3, k5, _, X _ _ ho, .of_isNs (PySem.W.isNs_of_in X hok), PySem.W.nsMap_none_of_in X hok hni, PySem.W.tail_of_in X ht⟩
    · cases q
  · cases q
section
variable {X : Cx} {E : XK} {x : Str} {C : Addr} {e : Expr} {t : TA} {np cpos pos : Pos}
def tRaise (E : XK) (C : Addr) (t : TA) : TS := fun _ σ H => t σ H fun vs H1 => vs.length ≤ sizeLine ∧ E (.ref C) none H1
theorem ps_raise (hR : Raises X E) (hc : X.calm = true) (hm : X.mg x = some (.ref C)) (hC : PySem.W.excIn X.K C vErr "ValueError.__new__" = true) (ha : PA X [e] t) (hg : Gl X x := by rfl) (hdb : (x == ("__debug__" : Str)) = false := by decide)
    (he : starEach [e] X.env = [(false, eval e X.env)] := by rfl) : PS X (.Raise (some (.Call (.Name x np) [e] [] cpos)) none pos) (tRaise E C t) := by
  intro pins s σ H D I h
  obtain ⟨nm, qn, N, bs, bm, hdct, sn, sub, ab, col, dd, k0, k1, k2, k3, k5, mN, hCo, hN, hni, hT⟩ := exc_of_in I.mod.kin hC
  refine wpAny_Raise_call_subT (nm := nm) (q := qn) (C := C) (N := N) (bs := bs) (bm := bm) (hdct := hdct) (sn := sn) (sub := sub) (ab := ab) (col := col) (dd := dd) (k0 := k0) (k1 := k1) (k2 := k2) (k3 := k3) (k5 := k5) (mN := mN) PySem.F.excBase_ValueError (hT.hasType (by decide +kernel)) (I.ok.hd hc) (by rw [he]; rfl) hni (ld_glob I hg hm ⟨rfl, ?_⟩ hdb)
  have h' := ha cpos pins s σ H _ I h
  rw [he] at h' ⊢
  refine Calls.evalArgs_plain (thn h' fun us s1 ⟨vs, H1, I1, r1, q1⟩ => ?_)
  have hl := r1.length
  exact ⟨rfl, by show us.length ≤ sizeLine; rw [← hl]; exact q1.1, I1.bk _ _ hCo, hN.keeps I1.bk, hT.keeps I1.bk, fun h2 e2 mx => hR _ _ _ _ _ _ _ _ I1 mx q1.2⟩
end
end L2
namespace L2
open PySem PySem.Spec PyProof.Rows
def excAt (a : Addr) (C : Value) (h : Heap) : Prop := ∃ o, h.get? a = some o ∧ o.cls = C
structure ExcK (K : PySem.W.Frag) (C : Addr) : Prop where
  ga : PySem.W.findIn K (.ref C) "__getattribute__" = some (some (.builtin "BaseException.__getattribute__"))
  gh : PySem.W.findIn K (.ref C) "__getattr__" = some none
  fc : PySem.W.findIn K (.ref C) "__class__" = some (some (.builtin "object.__class__"))
  fg : PySem.W.specialIn K (.builtin "object.__class__") "__get__" = some (some (.builtin "getset_descriptor.__get__"))
  ft : PySem.W.takesIn K (.builtin "object.__class__") = some true
  mo : PySem.W.mroIn K C (.type "object") = some true
  mb : PySem.W.mroIn K C (.type "BaseException") = some true
  cl : (PySem.W.clsIn K C).isSome = true
section
variable {prog : Program} {w : World} {A : Around} {E : Value → Shared → Prop} {s : Shared} {K : PySem.W.Frag} {x C : Addr} {ox : Obj}
open PySem.W Builtin Builtin.ObjectAttr in
theorem find_data {M : Model} {h : Heap} {name : Str} {a g : Value} (X : K.In h) (h1 : PySem.W.findIn K (.ref C) name = some (some a)) (h2 : PySem.W.specialIn K a "__get__" = some (some g)) (h3 : PySem.W.takesIn K a = some true) :
    Looks M h (find (.ref x) (.ref C) name) (.bind g a) := by
  have L1 := looks_findIn (M := M) X h1
  have L2 : Looks M h (getOf (some a)) (some g) := looks_specialIn X h2
  have L3 := looks_takesIn (M := M) X h3
  exact L1.andThen (L2.andThen ((show Looks M h (dataDescriptor? (some a) (some g)) (some (g, a)) from L3.andThen .now).andThen (Looks.tag .now)))
open PySem.W Builtin Builtin.ObjectAttr Builtin.Getset_descriptor in
theorem exc_get {R : Result → Shared → Prop} {tp : Value} (X : K.In s.heap) (L0 : Looks (model prog w) s.heap (typeOf (.ref x)) (.ref C)) (hm : PySem.W.mroIn K C (.type "object") = some true)
    (h : R (.ok (.ret (.ref C))) s) : codeAny (model prog w) A (.call (.builtin "getset_descriptor.__get__") ⟨[.builtin "object.__class__", .ref x, tp], []⟩) R s := by
  obtain ⟨hh, g, dr, t, os⟩ := s
  have L1 := looks_mroIn (M := model prog w) X hm
  refine codeAny_call_builtin KF.slot_gs.plain KF.entry_gs (KF.slot_gs.check _ _ _ _ _ _ _ _ KF.type_class (KF.args_gs _ _ _) ?_)
  unfold Builtin.«getset_descriptor.__get__» descrGet
  rw [dga_obj]
  refine wpAny_bind (wpAny_pure ?_)
  unfold descrGetter descrCheckInstance descrNameAndClass isInstance
  simp only [KF.owner_class]
  repeat lk
  refine ⟨Code.quiet_builtin _ (by decide +kernel), codeAny_builtin KF.entry_class ?_⟩
  unfold Builtin.«object.__class__» shownTypeOf
  repeat lk
  exact h
open PySem.W in
theorem exc_class (Z : ExcK K C) {Q : Option Value → Shared → Prop} (X : K.In s.heap) (I : excAt x (.ref C) s.heap) (h : Q (some (.ref C)) { s with toks := s.toks + 1 }) : wpAny (model prog w) A (getAttr? (.ref x) "__class__") Q E s := by
  obtain ⟨hh, g, d, t, os⟩ := s
  obtain ⟨ox, ho, hc⟩ := I
  have L0 : Looks (model prog w) hh (typeOf (.ref x)) (.ref C) := hc ▸ (Looks.ld ho).andThen .now
  have L1 := looks_findIn (M := model prog w) X Z.ga
  have L2 := looks_findIn (M := model prog w) X Z.gh
  have L3 := find_data (x := x) (M := model prog w) X Z.fc Z.fg Z.ft
  have L4 := looks_mroIn (M := model prog w) X Z.mb
  have hk : builtinKind "BaseException.__getattribute__" = some .slot := by decide +kernel
  have hsplit : splitId "BaseException.__getattribute__" = some ("BaseException", "__getattribute__") := by decide +kernel
  have f3 := PySem.F.excAttr_ValueError.ga.bind (.ref x)
  have hx2 : (Value.builtin "BaseException.__getattribute__" == Value.builtin "object.__getattribute__") = false := by decide +kernel
  unfold getAttr? getAttrBy? getAttrBy
  refine wpAny_bind (wpAny_mkText (wpAny_bind (wpAny_attempt (wpAny_holding (wpAny_bind (L0.at (wpAny_bind (L1.at ?_))))))))
  have hx1 : (onTheHeap (Value.ref C) && Value.builtin "BaseException.__getattribute__" == Value.builtin "object.__getattribute__") = false := by rw [hx2]; rfl
  show wpAny _ _ (if (onTheHeap (Value.ref C) && Value.builtin "BaseException.__getattribute__" == Value.builtin "object.__getattribute__") = true then _ else _) _ _ _
  rw [hx1, if_neg (by decide)]
  unfold getAttrByItsOwn hookBefore
  refine wpAny_bind ?_
  show wpAny _ _ (typeLookup (.ref C) "__getattr__") _ _ _
  refine L2.at ?_
  refine wpAny_bind (wpAny_attempt (wpAny_holding ?_))
  unfold callGetattribute boundAndCalled
  rw [if_neg (by simp), f3]
  refine wpAny_bind (wpAny_pure ?_)
  show wpAny _ _ (call (.builtin "BaseException.__getattribute__") [.ref x, .str "__class__" t]) _ _ _
  have ha := PySem.F.args_bexc_ga (.ref x) (.str "__class__" t)
  refine wpAny_call (codeAny_call_builtin PySem.F.excAttr_ValueError.ga.plain PySem.F.entry_bexc_ga ?_)
  simp only [checkBuiltinCall, hk, hsplit]
  refine wpAny_bind ?_
  unfold isInstance
  refine wpAny_bind (L0.at (L4.at ?_))
  repeat (any_goals (first | assumption | (with_reducible refine L0.at ?_) | (with_reducible refine L3.at ?_) | wp_step))
  refine exc_get (s := { heap := hh, gens := g, drawn := d, toks := t + 1, os := os }) X L0 Z.mo ?_
  refine wpAny_pure ?_
  show wpAny _ _ (handedOut (.ref C)) _ _ _
  exact handed_on rfl (wpAny_pure h)
open PySem.W in
theorem kitx_exc (Z : ExcK K C) : KitX K (.ref x) (.ref C) (excAt x (.ref C)) where
  ty := fun _ h _ p => by
    obtain ⟨ox, ho, hc⟩ := p
    exact hc ▸ (Looks.ld ho).andThen .now
  it := fun _ _ X _ => by
    have z := Z.cl
    unfold clsIn at z
    split at z
    · rename_i c' d' cd' sl' ho
      intro A' Q' E' s' k q
      unfold isType loadHead
      exact wpAny_bind (wpAny_loadPart (k _ _ (X _ _ ho)) (wpAny_pure q))
    · cases z
  ne := fun h tp dd its n sl X htp => by
    refine Bool.eq_false_iff.mpr fun q => ?_
    have e : C = tp := Value.ref.inj (beq_iff_eq.mp q)
    subst e
    have z := Z.cl
    unfold clsIn at z
    split at z
    · rename_i c' d' cd' sl' ho
      have z := (X _ _ ho).symm.trans htp
      cases z
    · cases z
  ca := fun X p k => exc_class Z X p k
end
abbrev excO (a C : Addr) : HO := .ext (excAt a (.ref C))
section
variable {X : Cx}
theorem call_isE : CallR X (.builtin "isinstance") (fun xs H Q => ∃ (a : Addr) (y : V) (C : Addr) (c : Value) (b : Bool), xs = [.ref a, y] ∧ (∀ u, RelV y u → u = c) ∧ H a = some (excO a C) ∧ ExcK X.K C ∧ PySem.W.kitOne X.K (.ref C) c = some b ∧ Q (.bl b) H) := by
  intro pins s σ H xs us Q I r h
  obtain ⟨a, y, C, c, b, rfl, hy, ha, Z, e, q⟩ := h
  obtain ⟨u, w', rfl, ru, rw'⟩ := vals2 r
  cases ru
  cases hy _ rw'
  exact PySem.W.kia_one (kitx_exc Z) I.kIn (I.hok a _ ha).1 e (fun z => nomatch z) fun tk => ⟨.bl b, H, I.tok tk, rfl, q⟩
end
end L2
namespace L2
open PySem PySem.Spec PyProof.Rows
abbrev Cx.inExc (X : Cx) (e : Addr) : Cx := { X with A := X.A.mark (some (.ref e)), calm := false, xe := fun _ _ => False }
abbrev Cx.tried (X : Cx) (pn : List (Addr × Obj)) (E : Value → Shared → Prop) : Cx := { X with pn := pn, xe := E }
section
variable {X : Cx} {pins : List (Addr × Obj)} {σ : St} {H : Hp} {s : Shared}
theorem Inv.inExc (I : Inv X pins σ H s) (e : Addr) : Inv (X.inExc e) pins σ H s :=
  ⟨⟨I.ok.mod, I.ok.kind, I.ok.glob, I.ok.blt, I.ok.above, I.ok.inj, I.ok.has, I.ok.cab, (fun z => nomatch z), I.ok.frames, I.ok.stk, I.ok.exf, I.ok.bs, I.ok.bsz, I.ok.noex, I.ok.exfs, I.ok.funs, I.ok.frf⟩, I.os, I.bare, I.base, I.loc, I.cell, I.free, I.freeC, I.pin, I.hok, I.len⟩
theorem Inv.outExc {e : Addr} (ok : X.Ok) (I : Inv (X.inExc e) pins σ H s) : Inv X pins σ H s :=
  ⟨ok, I.os, I.bare, I.base, I.loc, I.cell, I.free, I.freeC, I.pin, I.hok, I.len⟩
theorem Inv.tried (I : Inv X pins σ H s) (E : Value → Shared → Prop) : Inv (X.tried (X.pn ++ pins) E) [] σ H s :=
  ⟨⟨I.ok.mod, I.ok.kind, I.ok.glob, I.ok.blt, I.ok.above, I.ok.inj, I.ok.has, I.ok.cab, I.ok.hd, I.ok.frames, I.ok.stk, I.ok.exf, I.ok.bs, I.ok.bsz, I.ok.noex, I.ok.exfs, I.ok.funs, I.ok.frf⟩, I.os, I.bare, I.base, I.loc, I.cell, I.free, I.freeC,
    fun p hp => I.pin p ((List.mem_append.mp hp).elim id fun z => absurd z (by simp)), I.hok, I.len⟩
theorem Inv.untried {E : Value → Shared → Prop} {pins' : List (Addr × Obj)} (ok : X.Ok) (I : Inv (X.tried (X.pn ++ pins) E) pins' σ H s) : Inv X pins σ H s :=
  ⟨ok, I.os, I.bare, I.base, I.loc, I.cell, I.free, I.freeC, fun p hp => I.pin p (List.mem_append_left _ hp), I.hok, I.len⟩
theorem SP.untried {E : Value → Shared → Prop} {pins' : List (Addr × Obj)} {D : Ends} {f : Flow} (ok : X.Ok) (h : SP (X.tried (X.pn ++ pins) E) pins' D f s) : SP X pins D f s := by
  cases f with
  | next => obtain ⟨σ', H', I, q⟩ := h; exact ⟨σ', H', I.untried ok, q⟩
  | brk => obtain ⟨σ', H', I, q⟩ := h; exact ⟨σ', H', I.untried ok, q⟩
  | cont => obtain ⟨σ', H', I, q⟩ := h; exact ⟨σ', H', I.untried ok, q⟩
  | ret u => obtain ⟨v, σ', H', I, r, q⟩ := h; exact ⟨v, σ', H', I.untried ok, r, q⟩
theorem Inv.track {a : Addr} {φ : Heap → Prop} (I : Inv X pins σ H s) (n0 : ∀ b o, X.s₀.heap.get? b = some o → X.H₀ b = none → b ≠ a) (nl : X.env.locals ≠ a) (nc : ∀ x c, X.env.cells.lookup x = some c → c ≠ a) (np : ∀ p ∈ X.pn ++ pins, p.1 ≠ a)
    (hn : H a = none) (hx : φ s.heap) (ho : ∃ o, s.heap.get? a = some o) (st : ∀ h1 h2 : Heap, φ h1 → (∀ o, h1.get? a = some o → h2.get? a = some o) → φ h2) : Inv X pins σ (upd H a (.ext φ)) s := by
  refine ⟨I.ok, I.os, I.bare, ⟨I.base.keep, I.base.slot, fun b o q n hx => ?_, I.base.there, fun b xs q => ?_, fun b o u q => ?_, fun b ps q => ?_⟩, I.loc, I.cell, ?_, fun x c e => ?_, fun p hp => ?_, fun b o q => ?_, I.len⟩
  · rw [upd_ne (n0 b o q n)]; exact I.base.free b o q n hx
  · have z := I.base.tups b xs q
    rw [upd_ne (ne_of_none z hn)]; exact z
  · have z := I.base.frzs b o u q
    rw [upd_ne (ne_of_none z hn)]; exact z
  · obtain ⟨m, z⟩ := I.base.tbls b ps q
    exact ⟨m, by rw [upd_ne (ne_of_none z hn)]; exact z⟩
  · rw [upd_ne nl]; exact I.free
  · rw [upd_ne (nc x c e)]; exact I.freeC x c e
  · obtain ⟨e, n, r⟩ := I.pin p hp
    exact ⟨e, by rw [upd_ne (np p hp)]; exact n, r⟩
  · by_cases hb : b = a
    · subst hb
      rw [upd_same] at q
      cases q
      exact ⟨hx, ho, st⟩
    · rw [upd_ne hb] at q
      exact (I.hok b o q).stay (fun _ _ _ r => r) (fun c r => by rw [upd_ne (ne_of_none r hn)]; exact r) fun c xs r => by rw [upd_ne (ne_of_none r hn)]; exact r
theorem Inv.blur {h' : Heap} {t' : Nat} {m' : Str → Option Value} (I : Inv X pins σ H s) (hs : Heap.SameBut X.env.locals s.heap h') (hn : h'.Ns X.env.locals m') : Inv X pins (List.replicate X.N.length none) H { s with heap := h', toks := t' } := by
  have cne := I.cne
  obtain ⟨m, hm, _⟩ := id I.loc
  obtain ⟨oL, _, _, hoL, _⟩ := id hm
  have up : ∀ b o, X.s₀.heap.get? b = some o → b ≠ X.env.locals := fun b o e => Nat.ne_of_lt (Nat.lt_of_lt_of_le (Heap.lt_size e) I.ok.above)
  refine ⟨I.ok, I.os, I.bare, ⟨fun b o e n hb hx => ?_, fun b o e n hb hx => ?_, I.base.free, fun b o e hx => ?_, I.base.tups, I.base.frzs, I.base.tbls⟩, ⟨_, hn, fun j y v' e1 e2 e3 => ?_⟩, fun y c e => ?_, I.free, I.freeC, fun p hp => ?_, fun b ob e => ?_, by simp⟩
  · exact (hs.2 b (up b o e)).trans (I.base.keep b o e n hb hx)
  · obtain ⟨sl, e1⟩ := I.base.slot b o e n hb hx
    exact ⟨sl, (hs.2 b (up b o e)).trans e1⟩
  · obtain ⟨o', e1⟩ := I.base.there b o e hx
    exact ⟨o', (hs.2 b (up b o e)).trans e1⟩
  · rw [List.getElem?_replicate] at e2
    split at e2 <;> cases e2
  · obtain ⟨w', z⟩ := I.cell y c e
    exact ⟨w', z.sameBut hs (cne y c e)⟩
  · obtain ⟨e, n, ne, nf, d⟩ := I.pin p hp
    exact ⟨(hs.2 p.1 ne).trans e, n, ne, nf, d⟩
  · refine (I.hok b ob e).stay (fun c w' hc q => (hs.2 c ?_).trans q) (fun _ q => q) fun _ _ q => q
    rintro rfl
    rcases hc with rfl | hc
    · rw [I.free] at e; cases e
    · rw [I.free] at hc; cases hc
end
section
variable {P : Program} {w : World} {outer : List Env} {H H' : Hp} {s s' : Shared} {a : Addr} {C a0 : Value} {B h'' : Heap}
theorem Fly.move (F : Fly P w outer H H' s s' a C) (kb : ∀ b o, s.heap.get? b = some o → H b = none → b ∉ frs outer → B.get? b = some o) (th : ∀ b o, s.heap.get? b = some o → b ∉ frs outer → ∃ o', B.get? b = some o') (hok : HOk P w H' B)
    (fl : Heap.FlyingW B outer a C a0 s'.heap) (fl' : Heap.FlyingW B outer a C a0 h'') (up : s'.heap.UpToSlots h'') : Fly P w outer H H' s { s' with heap := h'' } a C := by
  refine ⟨F.os, F.bare, fun b o q hb => ?_, F.free, F.tups, F.frzs, F.tbls, B, a0, kb, th, hok, fl'⟩
  obtain ⟨sl, e⟩ := F.slot b o q hb
  obtain ⟨_, o', ho', hd⟩ := fl.2.2.1.mem hb
  rw [e] at ho'
  cases ho'
  obtain ⟨sl', e'⟩ := up b _ e hd
  exact ⟨sl', e'⟩
theorem Fly.ne (F : Fly P w outer H H' s s' a C) {b : Addr} {o : Obj} (q : s.heap.get? b = some o) (n : H b = none) : b ≠ a := by
  rintro rfl
  obtain ⟨B, a0, kb, th, hok, fl⟩ := F.fl
  obtain ⟨oe, vs, he, _, hd, _⟩ := fl.first
  by_cases hb : b ∈ frs outer
  · obtain ⟨_, o', ho', hd'⟩ := fl.2.2.1.mem hb
    rw [he] at ho'
    cases ho'
    exact hd' _ hd
  · have z := kb b o q n hb
    rw [fl.2.1] at z
    cases z
end
def tTry (K : PySem.W.Frag) (len i : Nat) (D : Addr) (tb : List (Addr × Obj) → (Value → Shared → Prop) → XK → TS) (th : TS) : TS := fun Dn σ H =>
  ∀ (pn : List (Addr × Obj)) (E : Value → Shared → Prop), tb pn E (fun C _ H' => ∃ c : Addr, C = .ref c ∧ PySem.W.exmOne K (.ref c) (.ref D) = some true ∧ ∀ (a : Addr) (σ' : St), σ'.length = len → H' a = none → th { nx := fun _ _ => False, rt := Dn.rt } (σ'.set i (some (.ref a))) (upd H' a (excO a c))) Dn σ H
section
variable {X : Cx} {D : Addr} {i : Nat} {n cn : Str} {b₀ : Stmt} {suite body : List Stmt} {tb : List (Addr × Obj) → (Value → Shared → Prop) → XK → TS} {th : TS} {np hpos pos : Pos}
theorem ps_try (hex : X.ex = []) (hst : X.stack = X.env :: X.outer) (hfr : X.env.frame = some X.env.locals) (hN : X.N.Nodup) (hi : X.N[i]? = some n) (hl : X.env.scope.names.lookup n = some .local) (hm : X.mg cn = some (.ref D))
    (hb : ∀ (pn : List (Addr × Obj)) (E : Value → Shared → Prop) (Ex : XK), Passes (CX1 X.prog X.w) (X.tried pn E) Ex → PSs (X.tried pn E) body (tb pn E Ex)) (hh : ∀ e : Addr, PSs (X.inExc e) (b₀ :: suite) th)
    (hg : Gl X cn := by rfl) (hdb : (cn == ("__debug__" : Str)) = false := by decide) :
    PS X (.Try body [.ExceptHandler (some (.Name cn np)) (some n) (b₀ :: suite) hpos] [] [] pos) (tTry X.K X.N.length i D tb th) := by
  intro pins s σ H Dn I h
  refine wpAny_Try_except ?_
  refine wpAny_mono (hb (X.pn ++ pins) _ _ ?_ [] s σ H Dn (I.tried _) (h _ _)) (fun f s₁ q => ?_) fun e s₁ q => q
  · intro pins' σ' H1 s1 e s' I1 hx
    obtain ⟨a, C, H', rfl, F, c, rfl, hex1, hth⟩ := hx
    have J1 : Inv X pins σ' H1 s1 := I1.untried I.ok
    have F : Fly X.prog X.w X.stack H1 H' s1 s' a (.ref c) := F
    obtain ⟨B, a0, kb, tth, hok, fl⟩ := F.fl
    have fl0 := fl
    rw [hst] at fl
    refine wpAny_looks_onW (by rw [← hst]; exact I.ok.frames) hfr fl fun h₄ hheld₄ hsm₄ => ?_
    refine wpAny_landsW hheld₄ fun h₅ fl₅ hsm₅ => ?_
    have F5 : Fly X.prog X.w X.stack H1 H' s1 { s' with heap := h₅ } a (.ref c) := F.move kb tth hok fl0 (by rw [hst]; exact fl₅) (hsm₄.trans hsm₅)
    have J5 : Inv X pins σ' H' { s' with heap := h₅ } := J1.call' F5.os F5.un F5.hok F5.bare fun b z => absurd z (by simp)
    have LT : PySem.W.Looks (model X.prog X.w) h₅ (typeOf (.ref a)) (.ref c) := by
      obtain ⟨ob, hob, hc⟩ := fl₅.there
      exact hc ▸ (PySem.W.Looks.ld hob).andThen .now
    refine wpAny_handleBy_cons (codeAny_handlers_test (ld_glob (X := X.inExc a) (J5.inExc a) hg hm ((PySem.W.exm_one (J5.kIn) LT hex1).here ?_) hdb)) (by intro q; cases q)
    refine codeAny_handlers_suite_as ?_
    refine lands_againW fl₅ fun h₆ fl₆ hsm₆ => ?_
    have F6 : Fly X.prog X.w X.stack H1 H' s1 { s' with heap := h₆ } a (.ref c) := F5.move kb tth hok (by rw [hst]; exact fl₅) (by rw [hst]; exact fl₆) hsm₆
    have J6 : Inv X pins σ' H' { s' with heap := h₆ } := J1.call' F6.os F6.un F6.hok F6.bare fun b z => absurd z (by simp)
    obtain ⟨ob, hob, hobc⟩ := fl₆.there
    have J7 : Inv X pins σ' (upd H' a (excO a c)) { s' with heap := h₆ } := by
      refine J6.track (fun b o q n => ?_) ?_ (fun x c' e => ?_) (fun p hp => ?_) F6.new ⟨ob, hob, hobc⟩ ⟨ob, hob⟩ fun h1 h2 p k => ?_
      · obtain ⟨sl, e⟩ := J1.base.any q n (by rw [hex]; simp)
        exact F6.ne e (J1.base.free b o q n (by rw [hex]; simp))
      · obtain ⟨m, ⟨o, _, _, e, _⟩, _⟩ := id J1.loc
        exact F6.ne e J1.free
      · obtain ⟨v, o, e, _⟩ := J1.cell x c' e
        exact F6.ne e (J1.freeC x c' (by assumption))
      · obtain ⟨e, n, _⟩ := J1.pin p hp
        exact F6.ne e n
      · obtain ⟨o, e, ec⟩ := p
        exact ⟨o, k o e, ec⟩
    refine store_ok (X := X.inExc a) (J7.inExc a) hN hi (.inl hl) (v := .ref a) rfl (fun s₇ J8 => ?_) (.inr hl)
    refine wpAny_mono (hh a pins s₇ _ _ _ J8 (hth a σ' J1.len F.new)) (fun fl s₈ q => ?_) fun e s₈ z => False.elim z
    cases fl with
    | next => obtain ⟨_, _, _, z⟩ := q; exact False.elim z
    | brk => obtain ⟨_, _, _, z⟩ := q; exact False.elim z
    | cont => obtain ⟨_, _, _, z⟩ := q; exact False.elim z
    | ret u =>
      obtain ⟨v, σ2, H2, J9, rv, z⟩ := q
      have J9 : Inv X pins σ2 H2 s₈ := J9.outExc I.ok
      obtain ⟨m, hn, _⟩ := id J9.loc
      exact wpAny_nameGoes hl hn (by rw [I.ok.kind]; rfl) fun h' m' hn' hs => ⟨v, _, H2, J9.blur hs hn', rv, z⟩
  · cases f with
    | next => exact wpAny_execs_nil (SP.untried I.ok q)
    | brk => exact SP.untried I.ok q
    | cont => exact SP.untried I.ok q
    | ret u => exact SP.untried I.ok q
end
end L2
namespace L2
open PySem PySem.Spec PyProof.Rows
section
variable {P : Program} {w : World} {K : PySem.W.Frag} {mg : Str → Option Value} {base : Heap}
def FnX (P : Program) (w : World) (K : PySem.W.Frag) (mg : Str → Option Value) (base : Heap) (k : Nat) (x : Str) (ps : List Str) (sp : Sp) : Prop :=
  ∃ f fd, FnOk P w K mg base (CX1 P w) k f fd ps sp ∧ Binds K fd ps [] ∧ PySem.W.keepIn K (.ref f) = true ∧ mg x = some (.ref f)
theorem FnX.mono {j k : Nat} {x : Str} {ps : List Str} {sp : Sp} (F : FnX P w K mg base j x ps sp) (h : j ≤ k) : FnX P w K mg base k x ps sp := by
  obtain ⟨f, fd, F, r⟩ := F
  exact ⟨f, fd, F.mono h, r⟩
theorem FnX.imp {k : Nat} {x : Str} {ps : List Str} {sp sp' : Sp} (F : FnX P w K mg base k x ps sp) (h : ∀ vs H Q E, sp' vs H Q E → sp vs H Q E) : FnX P w K mg base k x ps sp' := by
  obtain ⟨f, fd, F, r⟩ := F
  exact ⟨f, fd, F.imp h, r⟩
theorem TopD.fnX {x : Str} {st : Stmt} {N ps : List Str} {k : Nat} {sp : Sp} (T : TopD K mg x st ps) (S : FnScope N ps (defScope st)) (len : ∀ vs H Q E, sp vs H Q E → vs.length = ps.length)
    (hbody : ∀ (f : Addr) (cdv : Value) (A : Around) (outer : List Env) (s : Shared) (H : Hp) (vs : List V) (Q : VK) (E : XK), Room k (A.deeper (envOfC x (defScope st) s.heap.objs.size f cdv)) → sp vs H Q E →
      ∃ t, PSs (cxOf (CX1 P w) P w K mg base N x (defScope st) f cdv A outer s H E) (defBody st) t ∧ t { nx := fun _ H' => Q .non H', rt := Q } (start N vs) H) : FnX P w K mg base (k + 1) x ps sp := by
  obtain ⟨f, fd, F, b, m⟩ := T
  have kp := F.kp
  obtain ⟨oc, od, kV, doc, pm, an, cdv, ct, osl, rfl, lk, hcd⟩ := F.ex
  exact ⟨f, _, fn_of lk hcd S len fun A outer s H vs Q E hr hsp => hbody f cdv A outer s H vs Q E hr hsp, b, kp, m⟩
structure RoomH (k : Nat) (A : Around) : Prop where
  dp : A.depth + 3 * k + 5 < recursionLimit
  un : A.units + 16 * k + 200 < cLine
theorem RoomH.of {k : Nat} {A : Around} {h : Option Value} (r : Room k A) : RoomH k (A.mark h) := ⟨r.dp, r.un⟩
def FnH (P : Program) (w : World) (K : PySem.W.Frag) (mg : Str → Option Value) (base : Heap) (k : Nat) (x : Str) (ps : List Str) (sp : Sp) : Prop :=
  ∃ f fd, (∀ vs H Q E, sp vs H Q E → vs.length = ps.length) ∧ (∀ (A : Around) (outer : List Env) (s : Shared) (H : Hp) (args : Args) (us : List Value) (vs : List V) (Q : VK) (E : XK), RoomH k A → Env0 P w K mg base A outer s H → BindsTo s fd args (ps.zip us) → Vals vs us → sp vs H Q E →
    codeAny (model P w) A (.call (.ref f) args) (CR CX0 outer P w H s Q E) s) ∧ Binds K fd ps [] ∧ PySem.W.keepIn K (.ref f) = true ∧ mg x = some (.ref f)
abbrev Cx.loud (X : Cx) (A : Around) : Cx := { X with A := A, calm := false, xe := fun _ _ => False }
theorem TopD.fnH {x : Str} {st : Stmt} {N ps : List Str} {k : Nat} {sp : Sp} (T : TopD K mg x st ps) (S : FnScope N ps (defScope st)) (len : ∀ vs H Q E, sp vs H Q E → vs.length = ps.length)
    (hbody : ∀ (f : Addr) (cdv : Value) (A : Around) (outer : List Env) (s : Shared) (H : Hp) (vs : List V) (Q : VK) (E : XK), RoomH k (A.deeper (envOfC x (defScope st) s.heap.objs.size f cdv)) → sp vs H Q E →
      ∃ t, PSs ((cxOf CX0 P w K mg base N x (defScope st) f cdv { A with handled := Option.none } outer s H E).loud (A.deeper (envOfC x (defScope st) s.heap.objs.size f cdv))) (defBody st) t ∧ t { nx := fun _ H' => Q .non H', rt := Q } (start N vs) H) : FnH P w K mg base (k + 1) x ps sp := by
  obtain ⟨f, fd, F, b, m⟩ := T
  have kp := F.kp
  obtain ⟨oc, od, kV, doc, pm, an, cdv, ct, osl, rfl, lk, hcd⟩ := F.ex
  refine ⟨f, _, len, fun A outer s H args us vs Q E hr e0 hb r hsp => ?_, b, kp, m⟩
  have hl := len _ _ _ _ hsp
  have KX : K.In s.heap := e0.mod.kin.keeps fun b o e => (e0.bs b o e).1
  have lim : s.heap.NoLimit := e0.mod.nolimit.keeps fun b o e => (e0.bs b o e).1
  have hkind : ∀ y ∈ ps.zip us, (defScope st).names.lookup y.1 = some .local ∨ ((defScope st).names.lookup y.1 = some .cell ∧ ((cellsFrom (s.heap.objs.size + 1) (defScope st).names []).lookup y.1).isSome = true) := fun ⟨n, v⟩ hy => by
    rcases S.par n (List.of_mem_zip hy).1 with q | q
    · exact .inl q
    · exact .inr ⟨q, PySem.W.cellsFrom_some _ _ _ (.inl q)⟩
  refine codeAny_call_function (by have := hr.dp; omega) (KX _ _ lk) rfl S.co S.gen rfl (PySem.W.codeRec_of KX hcd) (hb _ _ _ _ ?_)
  refine wpAny_newFunctionEnv_cells S.kind hkind fun env he s1 xx => ?_
  subst he
  refine ⟨lim.keeps xx.toInCall.keep, codeAny_func ?_⟩
  have hr' : RoomH k (A.deeper (envOfC x (defScope st) s.heap.objs.size f cdv)) := ⟨by have := hr.dp; show A.depth + 1 + 3 * k + 5 < _; omega, by have := hr.un; show A.units + 3 + 16 * k + 200 < _; omega⟩
  obtain ⟨t, ht, hq⟩ := hbody f cdv A outer s H vs Q E hr' hsp
  have e1 : Env0 P w K mg base { A with handled := Option.none } outer s H := ⟨e0.frames, e0.mod, e0.bs, e0.bsz, e0.funs, e0.frf, e0.hok, e0.bare⟩
  have I0 : Inv (cxOf CX0 P w K mg base N x (defScope st) f cdv { A with handled := Option.none } outer s H E) [] (start N vs) H s1 := inv_start S rfl e1 hl r xx
  have I : Inv ((cxOf CX0 P w K mg base N x (defScope st) f cdv { A with handled := Option.none } outer s H E).loud (A.deeper (envOfC x (defScope st) s.heap.objs.size f cdv))) [] (start N vs) H s1 :=
    ⟨⟨I0.ok.mod, I0.ok.kind, I0.ok.glob, I0.ok.blt, I0.ok.above, I0.ok.inj, I0.ok.has, I0.ok.cab, (fun z => nomatch z), Around.frames_deeper e0.frames, I0.ok.stk, I0.ok.exf, I0.ok.bs, I0.ok.bsz, I0.ok.noex, I0.ok.exfs, I0.ok.funs, I0.ok.frf⟩, I0.os, I0.bare, I0.base, I0.loc, I0.cell, I0.free, I0.freeC, I0.pin, I0.hok, I0.len⟩
  refine wpAny_mono (ht [] s1 (start N vs) H _ I hq) (fun fl s' hs => ?_) fun e s' hs => False.elim hs
  have fin : ∀ {σ' : St} {H' : Hp} {v : V} {u : Value}, Inv ((cxOf CX0 P w K mg base N x (defScope st) f cdv { A with handled := Option.none } outer s H E).loud (A.deeper (envOfC x (defScope st) s.heap.objs.size f cdv))) [] σ' H' s' → RelV v u → Q v H' → CE outer P w H s Q u s' :=
    fun {σ' H' v u} J rv q => ⟨v, H', J.os, J.bare, J.base, J.hok, rv, q⟩
  cases fl with
  | ret u =>
    obtain ⟨v, σ', H', J, rv, q⟩ := hs
    exact fin J rv q
  | next =>
    obtain ⟨σ', H', J, q⟩ := hs
    exact fin (v := V.non) (u := Value.none) J rfl q
  | brk =>
    obtain ⟨_, _, _, q⟩ := hs
    exact False.elim q
  | cont =>
    obtain ⟨_, _, _, q⟩ := hs
    exact False.elim q
end
section
variable {X : Cx} {k : Nat} {x : Str} {ps : List Str} {sp : Sp} {e fe : Expr} {es : List Expr} {t : TA} {tf : TE} {p pos : Pos} {E : XK}
theorem pe_callX (F : FnX X.prog X.w X.K X.mg X.base k x ps sp) (hr : Room k X.A) (hx : Passes (CX1 X.prog X.w) X E) (ha : PA X (e :: es) t) (hg : Gl X x := by rfl) (hdb : (x == ("__debug__" : Str)) = false := by decide)
    (he : starEach (e :: es) X.env = (false, eval e X.env) :: starEach es X.env := by rfl) (hpl : (backTo pos (starEach es X.env)).any (·.1) = false := by rfl) :
    PE X (.Call (.Name x p) (e :: es) [] pos) (tCall sp [] E t) := by
  obtain ⟨f, fd, F, b, kp, m⟩ := F
  exact pe_call F hr hg m kp b .nil hx ha hdb he hpl
theorem pe_callH (F : FnH X.prog X.w X.K X.mg X.base k x ps sp) (hr : RoomH k X.A) (ha : PA X (e :: es) t) (hg : Gl X x := by rfl) (hdb : (x == ("__debug__" : Str)) = false := by decide)
    (he : starEach (e :: es) X.env = (false, eval e X.env) :: starEach es X.env := by rfl) (hpl : (backTo pos (starEach es X.env)).any (·.1) = false := by rfl) :
    PE X (.Call (.Name x p) (e :: es) [] pos) (tCall sp [] E0 t) := by
  obtain ⟨f, fd, len, F, b, kp, m⟩ := F
  intro pins s σ H Q I h
  refine wpAny_Call_Name_kw (ld_glob I hg m ?_ hdb)
  refine PySem.W.callWith_K (h₀ := X.base) I.ok.mod.kin kp (thn (ha pos pins s σ H _ I h) fun us s1 ⟨vs, H1, I1, r, q⟩ => ⟨I1.kIn, ?_⟩) he hpl
  have r2 : Vals (vs ++ []) (us ++ []) := r.append .nil
  have hl : (us ++ []).length = ps.length := by rw [← r2.length]; exact len _ _ _ _ q
  refine wpAny_call (codeAny_mono (F X.A X.stack s1 H1 ⟨us, []⟩ (us ++ []) (vs ++ []) Q E0 hr I1.env0 (b s1 us I1.kIn hl) r2 q) fun r s' hq => ?_)
  cases r with
  | error e => exact False.elim hq
  | ok fl =>
    cases fl with
    | ret u => exact I1.after hq
    | next => exact False.elim hq
    | brk => exact False.elim hq
    | cont => exact False.elim hq
end
end L2
namespace SS
open PySem PySem.Spec PyProof.Rows
section
variable {prog : Program} {w : World} {A : Around} {E : Value → Shared → Prop} {s : Shared}
end
end SS
namespace SS
open PySem PySem.Spec PyProof.Rows
section
variable {prog : Program} {w : World} {A : Around} {R : Result → Shared → Prop} {I : Addr} {fp wr : List Addr} {G : Array GenState → Array GenState → Prop} {n : Nat} {P : Nat → Value → Prop} {St : Nat → Shared → Prop}
end
section
variable {prog : Program} {w : World} {A : Around} {E : Value → Shared → Prop} {s : Shared}
end
end SS
namespace SS
open PySem PySem.Spec PyProof.Rows
section
variable {M : Model} {A : Around} {E : Value → Shared → Prop} {s : Shared}
end
section
variable {prog : Program} {w : World} {A : Around} {E : Value → Shared → Prop} {s : Shared} {it a : Addr} {es : Array (Int × Value)} {ep : Nat} {t : SetTable}
end
end SS
namespace SS
open PySem PySem.Spec PyProof.Rows
section
variable {prog : Program} {w : World} {A : Around} {E : Value → Shared → Prop} {s : Shared} {it a : Addr} {es : Array (Int × Value)} {ep : Nat} {t : SetTable}
end
end SS
namespace SS
open PySem PySem.Spec PyProof.Rows
section
variable {prog : Program} {w : World} {A : Around} {E : Value → Shared → Prop} {s : Shared} {it a : Addr} {es : Array (Int × Value)} {ep : Nat} {t : SetTable}
end
end SS
namespace SS
open PySem PySem.Spec PyProof.Rows
section
variable {prog : Program} {w : World} {A : Around} {E : Value → Shared → Prop} {s : Shared} {it a : Addr} {es : Array (Int × Value)} {ep : Nat} {t : SetTable}
end
end SS
namespace SS
open PySem PySem.Spec PyProof.Rows
section
variable {prog : Program} {w : World} {A : Around} {E : Value → Shared → Prop} {s : Shared} {a : Addr} {es : Array (Int × Value)}
end
end SS
namespace L2
open PySem PySem.Spec PyProof.Rows
section
variable {X : Cx}
def strLt (a b : Str) : Prop := a.cps.toList < b.cps.toList
theorem vals_strs : ∀ {out : List Value} {ss : List Str}, StrsAre out ss → Vals (ss.map V.str) out
  | _, _, .nil => .nil
  | _, _, .cons x t h => .cons ⟨t, rfl⟩ (vals_strs h)
end
end L2
namespace L2
open PySem PySem.Spec PyProof.Rows
section
variable {X : Cx}
end
end L2
namespace L2
open PySem PySem.Spec PyProof.Rows
section
variable {X : Cx}
end
section
variable {prog : Program} {w : World} {A : Around} {E : Value → Shared → Prop} {s : Shared}
theorem tuple_addW0 (l b : Addr) (items items2 : Array Value) (n n2 : Nat) (dd dd2 : Option Addr) (sl sl2 : Array (Option Value)) (hc0 : items.isEmpty = true) :
    Meets (Builtin.«tuple.__add__» ⟨[.ref l, .ref b], []⟩) (fun _ R s => s.heap.get? l = some { cls := .type "tuple", dict := dd, data := .seq items n, slots := sl } ∧ s.heap.get? b = some { cls := .type "tuple", dict := dd2, data := .seq items2 n2, slots := sl2 } ∧ R (.ok (.ret (Value.ref b))) { s with heap := s.heap, toks := s.toks }) :=
  .of_wp fun prog w A R s h => by obtain ⟨hp, g, d, tk, os⟩ := s; obtain ⟨hl, hb, h⟩ := h; have f1 := AutoSeq1.idx_int; have f2 := AutoSeq1.sub_tuple_tuple; have f3 := AutoSeq1.sub_list_list; have f4 := AutoSeq1.sub_tuple_list; have f5 := AutoSeq1.sub_list_tuple; wp_walk using wpAny_loadPart' hl, wpAny_loadPart' hb; exact ⟨_, rfl, h⟩
end
section
variable {X : Cx}
def rCatT0 (K : PySem.W.Frag) : R2 := fun x y H Q => ∃ a b ys, x = .ref a ∧ y = .ref b ∧ SqT K H a [] ∧ SqT K H b ys ∧ Q (.ref b) H
theorem op_catT0 : OpR X (binaryOp .Add) (rCatT0 X.K) := by
  intro pins s σ H x y v u Q I rx ry h
  obtain ⟨a, b, ys, rfl, rfl, ha, hb, q⟩ := h
  cases rx
  cases ry
  obtain ⟨its, r1, p1, _⟩ := I.tuple ha
  obtain ⟨its2, r2, p2, _⟩ := I.tuple hb
  cases r1
  obtain ⟨⟨cls, dd, data, sl⟩, ho, hc, n, hd⟩ := id p1
  obtain ⟨⟨cls2, dd2, data2, sl2⟩, ho2, hc2, n2, hd2⟩ := id p2
  simp only at hc hd hc2 hd2
  subst hc hd hc2 hd2
  exact concat_meets ⟨_, ho, rfl⟩ ⟨_, ho2, rfl⟩ noFill_tuple_add seq_tuple_add PySem.F.slot_tuple_add PySem.F.entry_tuple_add (PySem.F.args_tuple_add_2 _ _)
      (tuple_addW0 a b #[] its2.toArray n n2 dd dd2 sl sl2 rfl) ⟨ho, ho2, ⟨.ref b, H, I, rfl, q⟩⟩
def rCatA (K : PySem.W.Frag) : R2 := fun x y H Q => ∃ a b xs ys, x = .ref a ∧ y = .ref b ∧ SqT K H a xs ∧ SqT K H b ys ∧ xs.length + ys.length ≤ sizeLine ∧
  (xs = [] → Q (.ref b) H) ∧ (xs ≠ [] → ys = [] → Q (.ref a) H) ∧ (xs ≠ [] → ys ≠ [] → ∀ p, H p = none → Q (.ref p) (upd H p (.tup (xs ++ ys))))
theorem op_catA : OpR X (binaryOp .Add) (rCatA X.K) := by
  intro pins s σ H x y v u Q I rx ry h
  obtain ⟨a, b, xs, ys, rfl, rfl, ha, hb, hz, q0, q1, q2⟩ := h
  by_cases hx : xs = []
  · subst hx
    exact op_catT0 pins s σ H _ _ v u Q I rx ry ⟨a, b, ys, rfl, rfl, ha, hb, q0 rfl⟩
  · exact op_catT pins s σ H _ _ v u Q I rx ry ⟨a, b, xs, ys, rfl, rfl, ha, hb, hx, hz, q1 hx, q2 hx⟩
end
end L2
namespace DP
open PySem PySem.Spec PyProof.Rows
theorem miss_list : typeLookup (.type "list") "keys" = pure none := by rw [typeLookup_type, builtinLookup_eq_fast]; kernel_rfl
theorem miss_tuple : typeLookup (.type "tuple") "keys" = pure none := by rw [typeLookup_type, builtinLookup_eq_fast]; kernel_rfl
section
variable {prog : Program} {w : World} {A : Around} {E : Value → Shared → Prop} {s : Shared}
theorem nokeys_list {a : Addr} {xs : Array Value} {k : Nat} {Q : Option Value → Shared → Prop} (hx : s.heap.get? a = some { cls := .type "list", data := .seq xs k }) (hA : A.handled = none)
    (h : ∀ h' tk, (∀ b o, s.heap.get? b = some o → h'.get? b = some o) → Q none { s with heap := h', toks := tk }) : wpAny (model prog w) A (getAttr? (.ref a) "keys") Q E s := by
  obtain ⟨hp, g, d, tk, os⟩ := s
  have hT : ∀ tk', (⟨hp, g, d, tk', os⟩ : Shared).TypeIs (.ref a) "list" := fun _ => ⟨_, hx, rfl⟩
  have f1 := sub_AttributeError
  have f3 := PySem.F.slot_list_getattribute.lookup
  have f4 := PySem.F.slot_list_getattribute.bind (.ref a)
  have f5 := am_list_getattr_none
  unfold getAttr? getAttrBy? getAttrBy
  repeat (any_goals (first | assumption | exact hT _ | ((with_reducible show wpAny _ _ (call (Value.builtin "list.__getattribute__") _ _) _ _ _); refine call_meets PySem.F.slot_list_getattribute (hT _) am_entry_list_getattribute (PySem.F.args_list_getattribute_2 _ _) (meets_getattribute_miss_list a xs k #[] "keys" _ miss_list (by decide) (by decide)) ⟨hx, hA, fun h' tk' e hx' => ?_⟩) | wp_step))
  obtain ⟨t', u', he⟩ := hx'.there
  show wpAny _ _ (getattributeRaised _ _ _ _ _ _ _) _ _ _
  unfold getattributeRaised
  repeat (any_goals (first | assumption | wp_step))
  exact h _ _ hx'.keeps
theorem nokeys_tuple {a : Addr} {xs : Array Value} {k : Nat} {Q : Option Value → Shared → Prop} (hx : s.heap.get? a = some { cls := .type "tuple", data := .seq xs k }) (hA : A.handled = none)
    (h : ∀ h' tk, (∀ b o, s.heap.get? b = some o → h'.get? b = some o) → Q none { s with heap := h', toks := tk }) : wpAny (model prog w) A (getAttr? (.ref a) "keys") Q E s := by
  obtain ⟨hp, g, d, tk, os⟩ := s
  have hT : ∀ tk', (⟨hp, g, d, tk', os⟩ : Shared).TypeIs (.ref a) "tuple" := fun _ => ⟨_, hx, rfl⟩
  have f1 := sub_AttributeError
  have f3 := PySem.F.slot_tuple_getattribute.lookup
  have f4 := PySem.F.slot_tuple_getattribute.bind (.ref a)
  have f5 := am_tuple_getattr_none
  unfold getAttr? getAttrBy? getAttrBy
  repeat (any_goals (first | assumption | exact hT _ | ((with_reducible show wpAny _ _ (call (Value.builtin "tuple.__getattribute__") _ _) _ _ _); refine call_meets PySem.F.slot_tuple_getattribute (hT _) am_entry_tuple_getattribute (PySem.F.args_tuple_getattribute_2 _ _) (meets_getattribute_miss_tuple a xs k #[] "keys" _ miss_tuple (by decide) (by decide)) ⟨hx, hA, fun h' tk' e hx' => ?_⟩) | wp_step))
  obtain ⟨t', u', he⟩ := hx'.there
  show wpAny _ _ (getattributeRaised _ _ _ _ _ _ _) _ _ _
  unfold getattributeRaised
  repeat (any_goals (first | assumption | wp_step))
  exact h _ _ hx'.keeps
end
theorem entry_loop : entryFor table "dict.update.loop" = some Builtin.«dict.update.loop» := entryFor_of_tree (by kernel_rfl)
theorem plain_loop : plainId "dict.update.loop" = true := by decide +kernel
section
variable {prog : Program} {w : World} {A : Around} {R : Result → Shared → Prop} {I : Addr} {fp wr : List Addr} {n : Nat} {P : Nat → Value → Prop} {St : Nat → Heap → Prop}
theorem loop (W : Walks prog w A.in1 I fp wr n P St) (D : Addr) (hDf : D ∉ fp) (h₀ : Heap) (key : Nat → L2.Key) (kv vv : Nat → Value)
    (hval : ∀ i v, i < n → P i v → ∃ t, v = .ref t ∧ t ≠ D ∧ t ∉ wr ∧ IsTup h₀ t #[kv i, vv i]) (hkey : ∀ i, i < n → (L2.mixKind prog w).is (key i) (kv i) = true) (hn : n ≤ sizeLine) :
    ∀ (k i : Nat) (s : Shared) (kvs : List (L2.Key × Value)), n - i = k → i ≤ n → St i s.heap → s.heap.DictOf (L2.mixKind prog w) D kvs → kvs.length ≤ i → (∀ b o, b ≠ D → b ∉ wr → h₀.get? b = some o → s.heap.get? b = some o) →
      (∀ h' tk, h'.DictOf (L2.mixKind prog w) D (((List.range n).drop i).foldl (fun acc j => stored acc (key j) (vv j)) kvs) → (∀ b o, b ≠ D → b ∉ wr → s.heap.get? b = some o → h'.get? b = some o) → R (.ok (.ret .none)) { s with heap := h', toks := tk }) →
      codeAny (model prog w) A (.builtin "dict.update.loop" ⟨[.ref D, .ref I, rawInt (i : Nat), .none], []⟩) R s := by
  have hDw : D ∉ wr := fun h => hDf (W.sub _ h)
  intro k
  induction k with
  | zero =>
    intro i s kvs hk hi hst hD hl hh hR
    have hin : i = n := by omega
    subst hin
    refine codeAny_builtin entry_loop ?_
    rw [Around.under_plainId plain_loop _]
    show wpAny _ A.in1 (pyNext (.ref I) >>= _) _ _ s
    refine wpAny_bind (W.done s _ _ hst fun h' tk hm => ?_)
    show wpAny _ A.in1 (Builtin.Dict.addKeywords D [] >>= _) _ _ _
    refine wpAny_bind (wpAny_pure (wpAny_pure (hR h' tk ?_ fun b o hb hb' e => hm b o hb' e)))
    rw [List.drop_eq_nil_of_le (by simp), List.foldl_nil]
    obtain ⟨o, es, ep, ho, r⟩ := hD
    exact ⟨o, es, ep, hm D o hDw ho, r⟩
  | succ k ih =>
    intro i s kvs hk hi hst hD hl hh hR
    have hlt : i < n := by omega
    refine codeAny_builtin entry_loop ?_
    rw [Around.under_plainId plain_loop _]
    show wpAny _ A.in1 (pyNext (.ref I) >>= _) _ _ s
    refine wpAny_bind (W.item i s _ _ hlt hst fun v h1 tk hP hst' hm => ?_)
    obtain ⟨t, rfl, tD, tw, ht⟩ := hval i v hlt hP
    obtain ⟨ot, hot, hct, nt, hdt⟩ := ht
    have hot1 : h1.get? t = some ot := hm t ot tw (hh t ot tD tw hot)
    refine wpAny_bind (wpAny_holding ?_)
    refine wpAny_bind (wpAny_tryCatch ?_)
    unfold Builtin.Dict.pairItems
    refine wpAny_bind (wpAny_typeOf (T := "tuple") ⟨ot, hot1, hct⟩ ?_)
    rw [if_pos (by decide)]
    refine wpAny_bind (wpAny_seqItems hot1 hdt (wpAny_pure ?_))
    show wpAny _ _ (holding [kv i, vv i] (dictSet D (kv i) (vv i))) _ _ _
    have hD1 : h1.DictOf (L2.mixKind prog w) D kvs := by
      obtain ⟨o, es, ep, ho, r⟩ := hD
      exact ⟨o, es, ep, hm D o hDw ho, r⟩
    refine wpAny_holding (wpAny_dictSet_pairs (s := { s with heap := h1, toks := tk }) (hkey i hlt) hD1 (fun h2 hD2 hs2 => ?_) (by omega))
    have st2 : St (i + 1) h2 := W.frame _ _ _ hst' fun b hb o e => (hs2.2 b fun z => hDf (z ▸ hb)).trans e
    have e1 : ((i : Nat) : Int) + 1 = ((i + 1 : Nat) : Int) := by omega
    refine wpAny_pure ⟨plainId_quiet plain_loop _, ?_⟩
    show codeAny _ _ (.builtin "dict.update.loop" ⟨[.ref D, .ref I, rawInt (((i : Nat) : Int) + 1), .none], []⟩) _ _
    rw [e1]
    refine ih (i + 1) _ _ (by omega) hlt st2 hD2 ?_ (fun b o hb hb' e => (hs2.2 b hb).trans (hm b o hb' (hh b o hb hb' e))) fun h' tk' hD' hk' => ?_
    · have := stored_length_le kvs (key i) (vv i)
      omega
    · refine hR h' tk' ?_ fun b o hb hb' e => hk' b o hb hb' ((hs2.2 b hb).trans (hm b o hb' e))
      have e2 : (List.range n).drop i = i :: (List.range n).drop (i + 1) := by
        rw [List.drop_eq_getElem_cons (by simpa using hlt)]
        simp
      rw [e2, List.foldl_cons]
      exact hD'
end
end DP
namespace L2
open PySem PySem.Spec PyProof.Rows
def putAll (ps : List (Key × V)) : List (Key × V) := ps.foldl (fun acc p => putK acc p.1 p.2) []
theorem putAll_len (ps acc : List (Key × V)) : (ps.foldl (fun acc p => putK acc p.1 p.2) acc).length ≤ acc.length + ps.length := by
  induction ps generalizing acc with
  | nil => simp
  | cons p r ih =>
    rw [List.foldl_cons, List.length_cons]
    refine Nat.le_trans (ih _) ?_
    have : (putK acc p.1 p.2).length ≤ acc.length + 1 := by
      unfold putK
      split
      · rw [List.length_map]; omega
      · rw [List.length_append]; simp
    omega
theorem kv_fold {ps : List (Key × V)} {n : Nat} {key : Nat → Key} {vv : Nat → Value} (hn : n = ps.length) (h : ∀ i p, ps[i]? = some p → key i = p.1 ∧ RelV p.2 (vv i)) : KV (putAll ps) ((List.range n).foldl (fun acc j => stored acc (key j) (vv j)) []) := by
  subst hn
  unfold putAll
  have gen : ∀ (m : Nat), m ≤ ps.length → KV ((ps.take m).foldl (fun acc p => putK acc p.1 p.2) []) ((List.range m).foldl (fun acc j => stored acc (key j) (vv j)) []) := fun m => by
    induction m with
    | zero => intro _; simp; exact .nil
    | succ m ih =>
      intro hm
      have e : ps[m]? = some (ps[m]'(by omega)) := List.getElem?_eq_getElem (by omega)
      obtain ⟨h1, h2⟩ := h m _ e
      rw [List.take_add_one, e, List.range_succ, List.foldl_append, List.foldl_append]
      simp only [Option.toList_some, List.foldl_cons, List.foldl_nil]
      rw [h1]
      exact KV.put (ih (by omega)) _ h2
  have := gen ps.length (Nat.le_refl _)
  rwa [List.take_length] at this
section
variable {X : Cx}
def Pairs (K : PySem.W.Frag) (H : Hp) (ts : List V) (ps : List (Key × V)) : Prop := ts.length = ps.length ∧ ∀ (i : Nat) (x : V) (p : Key × V), ts[i]? = some x → ps[i]? = some p → ∃ t, x = .ref t ∧ SqT K H t [kV p.1, p.2]
theorem call_dictP (hc : X.calm = true) : CallR X (.type "dict") (fun xs H Q => ∃ (p : Addr) (ts : List V) (ps : List (Key × V)), xs = [.ref p] ∧ (H p = some (.lst ts) ∨ H p = some (.tup ts)) ∧ Pairs X.K H ts ps ∧ ps.length ≤ 1000 ∧ ∀ d, H d = none → Q (.ref d) (upd H d (.dK (putAll ps)))) := by
  intro pins s σ H xs us Q I r h
  obtain ⟨p, ts, ps, rfl, hp, hP, hl, q⟩ := h
  obtain ⟨u, rfl, ru⟩ := vals1 r
  cases ru
  have hh := I.ok.hd hc
  obtain ⟨its, hv, hobj⟩ : ∃ its : List Value, Vals ts its ∧ ((∃ n, s.heap.get? p = some { cls := .type "list", data := .seq its.toArray n }) ∨ ∃ n, s.heap.get? p = some { cls := .type "tuple", data := .seq its.toArray n }) := by
    rcases hp with hp | hp
    · obtain ⟨_, its, n, rv, e⟩ := (show ObjOk X.prog X.w H s.heap p (.lst ts) from I.hok p _ hp)
      exact ⟨its, rv, .inl ⟨n, e⟩⟩
    · obtain ⟨its, n, rv, e, _⟩ := I.tupleO hp
      exact ⟨its, rv, .inr ⟨n, e⟩⟩
  have hlen : its.length = ps.length := by rw [← hv.length]; exact hP.1
  have plt : p < s.heap.objs.size := by rcases hobj with ⟨_, e⟩ | ⟨_, e⟩ <;> exact Heap.lt_size e
  have pair : ∀ i, i < ps.length → ∃ t k v, its[i]? = some (.ref t) ∧ IsTup s.heap t #[k, v] ∧ ∃ p, ps[i]? = some p ∧ RelV (kV p.1) k ∧ RelV p.2 v := fun i hi => by
    have e1 : ps[i]? = some (ps[i]'hi) := List.getElem?_eq_getElem hi
    have e2 : ts[i]? = some (ts[i]'(by rw [hP.1]; exact hi)) := List.getElem?_eq_getElem _
    obtain ⟨t, ex, hq⟩ := hP.2 i _ _ e2 e1
    obtain ⟨u, hu, ru⟩ := hv.get e2
    rw [ex] at ru
    cases ru
    obtain ⟨its2, r2, p2, _⟩ := I.tuple hq
    obtain ⟨k, v, rfl, rk, rv⟩ := vals2 r2
    exact ⟨t, k, v, hu, p2, _, e1, rk, rv⟩
  let kk : Nat → Value := fun i => match its[i]? with | some (.ref t) => (match s.heap.get? t with | some o => (match o.data with | .seq a _ => a.getD 0 .none | _ => .none) | none => .none) | _ => .none
  let vv : Nat → Value := fun i => match its[i]? with | some (.ref t) => (match s.heap.get? t with | some o => (match o.data with | .seq a _ => a.getD 1 .none | _ => .none) | none => .none) | _ => .none
  let key : Nat → Key := fun i => ((ps[i]?).map (·.1)).getD (.inl 0)
  have pair2 : ∀ i, i < ps.length → ∃ t p, its[i]? = some (.ref t) ∧ IsTup s.heap t #[kk i, vv i] ∧ ps[i]? = some p ∧ key i = p.1 ∧ RelV (kV p.1) (kk i) ∧ RelV p.2 (vv i) := fun i hi => by
    obtain ⟨t, k, v, e1, ht, pp, e2, rk, rv⟩ := pair i hi
    obtain ⟨o, ho, hcl, n, hd⟩ := id ht
    have ek : kk i = k := by simp only [kk, e1, ho, hd]; rfl
    have ev : vv i = v := by simp only [vv, e1, ho, hd]; rfl
    have ey : key i = pp.1 := by simp only [key, e2]; rfl
    rw [ek, ev, ey]
    exact ⟨t, pp, e1, ht, e2, rfl, rk, rv⟩
  have hsz : ps.length ≤ sizeLine := Nat.le_trans hl (by decide)
  refine callType_codes (Q₁ := fun obj s₁ => obj = .ref s.heap.objs.size ∧ s₁ = { s with heap := s.heap.push { cls := .type "dict", data := .dict #[] } }) PySem.F.kt_called_dict (PySem.F.kt_typeCall_dict_1 _) PySem.F.entry_dict_init (kt_code_dict_new _ ⟨rfl, rfl⟩) ?_
  rintro obj s₁ ⟨rfl, rfl⟩
  have hnew : (s.heap.push { cls := .type "dict", data := .dict #[] }).DictOf (mixKind X.prog X.w) s.heap.objs.size [] := Heap.DictOf.new s.heap
  refine ⟨hnew.typeIs, PySem.F.args_dict_init_2 _ _, ?_⟩
  unfold Builtin.«dict.__init__»
  refine wpAny_bind ?_
  unfold Builtin.Dict.selfAndRest
  refine wpAny_bind (wpAny_notOrdered_dict hnew.typeIs ?_)
  show wpAny _ _ (pure (s.heap.objs.size, [Value.ref p])) _ _ _
  refine wpAny_pure ?_
  show wpAny _ _ (Builtin.Dict.updateFrom "dict.__init__" s.heap.objs.size (.ref p) [] .none) _ _ _
  unfold Builtin.Dict.updateFrom
  have k0 : ∀ b o, s.heap.get? b = some o → (s.heap.push { cls := .type "dict", data := .dict #[] }).get? b = some o := fun b o e => Heap.get?_push_of_some _ e
  have pD : p ≠ s.heap.objs.size := Nat.ne_of_lt plt
  have go : ∀ (h1 : Heap) (tk : Nat) (I' : Addr) (fp : List Addr) (St : Nat → Heap → Prop), (∀ b o, (s.heap.push { cls := .type "dict", data := .dict #[] }).get? b = some o → h1.get? b = some o) → s.heap.objs.size < I' →
      Walks X.prog X.w X.A.in1.in1 I' fp [I'] its.length (fun i v => its.toArray[i]? = some v) St → St 0 h1 → s.heap.objs.size ∉ fp →
      codeAny (model X.prog X.w) X.A.in1 (.builtin "dict.update.loop" ⟨[.ref s.heap.objs.size, .ref I', rawInt 0, .none], []⟩) (wants (fun r s₂ => r = .none ∧ EP X pins σ Q (.ref s.heap.objs.size) s₂) X.xe) { s with heap := h1, toks := tk } := by
    intro h1 tk I' fp St k1 hI W st0 hDf
    have hD1 : h1.DictOf (mixKind X.prog X.w) s.heap.objs.size [] := by
      obtain ⟨o, es, ep, ho, r⟩ := hnew
      exact ⟨o, es, ep, k1 _ o ho, r⟩
    refine DP.loop W s.heap.objs.size hDf s.heap key kk vv (fun i v hi hv' => ?_) (fun i hi => ?_) (by rw [hlen]; exact hsz) its.length 0 _ [] rfl (Nat.zero_le _) st0 hD1 (Nat.zero_le _) (fun b o _ _ e => k1 b o (k0 b o e)) fun h2 tk2 hD2 k2 => ?_
    · obtain ⟨t, pp, e1, ht, _⟩ := pair2 i (by rw [← hlen]; exact hi)
      have e : its[i]? = some v := by simpa using hv'
      rw [e1] at e
      cases e
      have tlt : t < s.heap.objs.size := ht.lt
      exact ⟨t, rfl, Nat.ne_of_lt tlt, by simp only [List.mem_singleton]; exact Nat.ne_of_lt (Nat.lt_trans tlt hI), ht⟩
    · obtain ⟨t, pp, e1, ht, e2, ek, rk, rv⟩ := pair2 i (by rw [← hlen]; exact hi)
      rw [ek]
      exact kV_is rk
    · have hn : H s.heap.objs.size = none := I.hok.fresh (Nat.le_refl _)
      have kk2 : ∀ b o, s.heap.get? b = some o → h2.get? b = some o := fun b o e => by
        have hb : b < s.heap.objs.size := Heap.lt_size e
        exact k2 b o (Nat.ne_of_lt hb) (by simp only [List.mem_singleton]; exact Nat.ne_of_lt (Nat.lt_trans hb hI)) (k1 b o (k0 b o e))
      rw [List.drop_zero, hlen] at hD2
      have hkv : KV (putAll ps) ((List.range ps.length).foldl (fun acc j => stored acc (key j) (vv j)) []) := kv_fold rfl fun i pp e => by
        obtain ⟨t, pp', e1, ht, e2, ek, rk, rv⟩ := pair2 i (List.getElem?_eq_some_iff.mp e).1
        rw [e] at e2
        cases e2
        exact ⟨ek, rv⟩
      have hns : (s.heap.objs.size == sysModules) = false := beq_false_of_ne (Nat.ne_of_gt I.big)
      refine ⟨rfl, .ref s.heap.objs.size, _, I.laid (t' := tk2) (o := .dK (putAll ps)) kk2 (Nat.le_refl _) ⟨?_, hns, _, hkv, hD2⟩, rfl, q _ hn⟩
      have := putAll_len ps []
      unfold putAll
      simp only [List.length_nil, Nat.zero_add] at this
      omega
  rcases hobj with ⟨n, e⟩ | ⟨n, e⟩
  · have e' := k0 _ _ e
    refine wpAny_bind (wpAny_typeOf (T := "list") ⟨_, e', rfl⟩ ?_)
    rw [if_pos (by decide)]
    refine wpAny_bind (DP.nokeys_list (s := { s with heap := s.heap.push { cls := .type "dict", data := .dict #[] } }) e' hh fun h1 tk1 k1 => ?_)
    rw [if_pos (show (none : Option Value).isNone = true from rfl)]
    refine wpAny_bind (wpAny_rule ?_)
    have hl1 : h1.IsList p its.toArray := ⟨_, k1 _ _ e', rfl, n, rfl⟩
    have plt1 : p < h1.objs.size := Heap.lt_size (k1 _ _ e')
    have dlt1 : s.heap.objs.size < h1.objs.size := by obtain ⟨o, _, _, ho, _⟩ := hnew; exact Heap.lt_size (k1 _ _ ho)
    refine wpAny_bind (wpAny_pyIter_list (s := { s with heap := h1, toks := tk1 }) hl1 ?_)
    have W := Walks.list (prog := X.prog) (w := X.w) (A := X.A.in1.in1) hh h1.objs.size p (Nat.ne_of_lt plt1) its.toArray
    rw [List.size_toArray] at W
    refine wpAny_pure ⟨plainId_quiet DP.plain_loop _, go _ _ _ _ _ (fun b o q => Heap.get?_push_of_some _ (k1 b o q)) dlt1 W ⟨⟨_, Heap.get?_push_size _ rfl, rfl, rfl⟩, hl1.push _⟩ ?_⟩
    simp only [List.mem_cons, List.not_mem_nil, or_false, not_or]
    exact ⟨Nat.ne_of_lt dlt1, Ne.symm pD⟩
  · have e' := k0 _ _ e
    refine wpAny_bind (wpAny_typeOf (T := "tuple") ⟨_, e', rfl⟩ ?_)
    rw [if_pos (by decide)]
    refine wpAny_bind (DP.nokeys_tuple (s := { s with heap := s.heap.push { cls := .type "dict", data := .dict #[] } }) e' hh fun h1 tk1 k1 => ?_)
    rw [if_pos (show (none : Option Value).isNone = true from rfl)]
    refine wpAny_bind (wpAny_rule ?_)
    have hl1 : h1.IsTuple p its.toArray := ⟨_, k1 _ _ e', rfl, n, rfl⟩
    have plt1 : p < h1.objs.size := Heap.lt_size (k1 _ _ e')
    have dlt1 : s.heap.objs.size < h1.objs.size := by obtain ⟨o, _, _, ho, _⟩ := hnew; exact Heap.lt_size (k1 _ _ ho)
    refine wpAny_bind (wpAny_pyIter_tuple (s := { s with heap := h1, toks := tk1 }) hl1 ?_)
    have W := Walks.tuple (prog := X.prog) (w := X.w) (A := X.A.in1.in1) hh h1.objs.size p (Nat.ne_of_lt plt1) its.toArray
    rw [List.size_toArray] at W
    refine wpAny_pure ⟨plainId_quiet DP.plain_loop _, go _ _ _ _ _ (fun b o q => Heap.get?_push_of_some _ (k1 b o q)) dlt1 W ⟨⟨_, Heap.get?_push_size _ rfl, rfl, rfl⟩, hl1.push _⟩ ?_⟩
    simp only [List.mem_cons, List.not_mem_nil, or_false, not_or]
    exact ⟨Nat.ne_of_lt dlt1, Ne.symm pD⟩
end
end L2
namespace L2
open PySem PySem.Spec PyProof.Rows
theorem eq_gives_bool (a b : Bool) : PySem.MeetsSeq.EqGives (.bool a) (.bool b) (a == b) := by
  intro prog w A E s Q h
  exact PySem.SeqAt.EqAt.bool_bool a b prog w E Q h
theorem vals_bl : ∀ {bs : List Bool} {its : List Value}, Vals (bs.map V.bl) its → its = bs.map Value.bool
  | [], _, .nil => rfl
  | b :: r, _, .cons q t => by
    have := vals_bl t
    subst this
    cases q
    rfl
section
variable {X : Cx}
def rCount : V → List V → Hp → VK → Prop := fun x vs H Q => ∃ (l : Addr) (bs : List Bool) (b : Bool), x = .ref l ∧ vs = [.bl b] ∧ H l = some (.lst (bs.map V.bl)) ∧ Q (.int (bs.countP (· == b) : Nat)) H
theorem mt_count : MtM X "list.count" rCount := by
  intro pins s σ H x vs v us Q I rx rv h
  obtain ⟨l, bs, b, rfl, rfl, hH, q⟩ := h
  cases rx
  obtain ⟨u, rfl, ru⟩ := rv.one
  cases ru
  obtain ⟨z, its, n, r, hl, e⟩ := I.lstM hH
  have e2 := vals_bl r
  subst e2
  refine call_meets F.slot_list_count ⟨_, e, rfl⟩ F.entry_list_count (F.args_list_count_2 _ _) (PySem.MeetsSeq.list_count l (bs.map Value.bool).toArray n (.bool b) (fun y => match y with | .bool c => c == b | _ => false) (fun y hy => ?_)) ⟨e, ?_⟩
  · have hy' : y ∈ bs.map Value.bool := by simpa using hy
    obtain ⟨c, _, rfl⟩ := List.mem_map.mp hy'
    exact eq_gives_bool c b
  · have ec : ((bs.map Value.bool).toArray.toList.countP fun y => match y with | .bool c => c == b | _ => false) = bs.countP (· == b) := by
      show ((bs.map Value.bool).countP _) = _
      rw [List.countP_map]
      rfl
    rw [ec]
    exact ⟨.int _, H, I.tok _, ⟨_, rfl⟩, q⟩
def rIndex : V → List V → Hp → VK → Prop := fun x vs H Q => ∃ (l : Addr) (bs : List Bool) (b : Bool) (j : Nat), x = .ref l ∧ vs = [.bl b] ∧ H l = some (.lst (bs.map V.bl)) ∧ bs[j]? = some b ∧ (∀ m c, m < j → bs[m]? = some c → c ≠ b) ∧ Q (.int (j : Nat)) H
theorem mt_index : MtM X "list.index" rIndex := by
  intro pins s σ H x vs v us Q I rx rv h
  obtain ⟨l, bs, b, j, rfl, rfl, hH, hj, hno, q⟩ := h
  cases rx
  obtain ⟨u, rfl, ru⟩ := rv.one
  cases ru
  obtain ⟨z, its, n, r, hl, e⟩ := I.lstM hH
  have e2 := vals_bl r
  subst e2
  have hjl : j < bs.length := (List.getElem?_eq_some_iff.mp hj).1
  have hz : bs.length ≤ sizeLine := by simpa using z
  refine call_meets F.slot_list_index ⟨_, e, rfl⟩ F.entry_list_index (F.args_list_index_2 _ _) (PySem.MeetsSeq.list_index l (bs.map Value.bool).toArray n (.bool b) (fun y => match y with | .bool c => c == b | _ => false) (fun y hy => ?_) j (by simpa using hjl) ?_ ?_ fun m hm hmj => ?_) ⟨e, ?_⟩
  · have hy' : y ∈ bs.map Value.bool := by simpa using hy
    obtain ⟨c, _, rfl⟩ := List.mem_map.mp hy'
    exact eq_gives_bool c b
  · have : (sizeLine : Nat) < 2 ^ 63 - 1 := by decide
    omega
  · have := (List.getElem?_eq_some_iff.mp hj).2
    simp [this]
  · have hm' : m < bs.length := by simpa using hm
    have := hno m _ hmj (List.getElem?_eq_getElem hm')
    simpa using this
  · exact ⟨.int _, H, I.tok _, ⟨_, rfl⟩, q⟩
end
end L2
namespace PySem
open Sem (wp)
open AutoSeq1 (wpAny_loadPart')
namespace ZL
section
variable {prog : Program} {w : World} {A : Around} {E : Value → Shared → Prop} {s : Shared} {z TI TO i1 i2 l1 l2 : Addr} {xs ys : Array Value}
end
section
variable {prog : Program} {w : World} {A : Around} {E : Value → Shared → Prop} {s : Shared}
end
end ZL
end PySem
namespace L2
open PySem PySem.Spec PyProof.Rows
section
variable {X : Cx}
end
theorem strs_pt : ∀ {vs : List Value} {ss : List Str}, vs.length = ss.length → (∀ (i : Nat) v x, vs[i]? = some v → ss[i]? = some x → ∃ t, v = Value.str x t) → StrsAre vs ss
  | [], [], _, _ => .nil
  | v :: vs, x :: ss, hl, h => by
    obtain ⟨t, rfl⟩ := h 0 v x rfl rfl
    exact .cons x t (strs_pt (by simpa using hl) fun i v' x' e1 e2 => h (i + 1) v' x' (by simpa using e1) (by simpa using e2))
theorem KV.at {kvs : List (Key × V)} {vs : List (Key × Value)} (r : KV kvs vs) : ∀ {i : Nat} {q : Key × Value}, vs[i]? = some q → ∃ p, kvs[i]? = some p ∧ p.1 = q.1 ∧ RelV p.2 q.2 := by
  induction r with
  | nil => intro i q h; simp at h
  | cons h1 h2 ih =>
    intro i q h
    cases i with
    | zero => simp at h; subst h; exact ⟨_, rfl, h1⟩
    | succ i => exact ih (by simpa using h)
theorem KV.len {kvs : List (Key × V)} {vs : List (Key × Value)} (r : KV kvs vs) : kvs.length = vs.length := by
  induction r with
  | nil => rfl
  | cons h1 h2 ih => simp [ih]
section
variable {X : Cx}
theorem Inv.manyF {pins : List (Addr × Obj)} {σ : St} {H H' : Hp} {s : Shared} {h' : Heap} {t' : Nat} (I : Inv X pins σ H s) (kp : ∀ b o, s.heap.get? b = some o → h'.get? b = some o) (hs : Same H H')
    (hnew : ∀ b o, H' b = some o → H b = some o ∨ ((∀ u, s.heap.get? b ≠ some u) ∧ ObjOk X.prog X.w H' h' b o)) : Inv X pins σ H' { s with heap := h', toks := t' } := by
  refine I.un (h' := h') (t' := t') ⟨fun b o q _ _ _ => kp b o q, fun b o q _ _ _ => ⟨o.slots, kp b o q⟩, fun b o q n _ => ?_, fun b o q _ => ⟨o, kp b o q⟩, fun b xs q => hs _ _ q, fun b o u q => hs _ _ q, fun b ps q => ⟨#[], by rw [hs _ _ q]; simp⟩⟩ fun b o q => ?_
  · cases e : H' b with
    | none => rfl
    | some u =>
      rcases hnew b u e with z | ⟨z, _⟩
      · rw [n] at z; cases z
      · exact absurd q (z _)
  · rcases hnew b o q with z | ⟨_, z⟩
    · exact (I.hok b o z).stay (fun c v _ r => kp c v r) (fun c r => hs _ _ r) fun c xs r => hs _ _ r
    · exact z
end
end L2
namespace L2
open PySem PySem.Spec PyProof.Rows
section
variable {X : Cx}
end
end L2
namespace MA
namespace Mob
variable {N : Type}
end Mob
end MA
namespace MA
end MA
namespace DP
open PySem PySem.Spec PyProof.Rows L2
inductive D where
  | non | bl (b : Bool) | int (i : Int) | str (x : Str) | tup (xs : List D) | ref (r : Nat) | fl (xs : List Int) | exc (c : Str)
inductive C where
  | lst (xs : List D) | dct (kvs : List (Key × D)) | fdc (o : Obj) (kvs : List (Key × D)) | ins (cl : Str) (fs : List (Str × D))
abbrev Ar := List C
abbrev Io := Nat → Addr
section
variable (mg : Str → Option Value)
mutual
def RV (ι : Io) (n : Nat) (H : Hp) : D → V → Prop
  | .non, v => v = .non
  | .bl b, v => v = .bl b
  | .int i, v => v = .int i
  | .str x, v => v = .str x
  | .tup ds, v => ∃ a xs, v = .ref a ∧ H a = some (.tup xs) ∧ RVs ι n H ds xs
  | .ref r, v => r < n ∧ v = .ref (ι r)
  | .fl ns, v => ∃ a o, v = .ref a ∧ H a = some (.frz o (.lst (ns.map V.int)))
  | .exc c, v => ∃ a C, v = .ref a ∧ mg c = some (.ref C) ∧ H a = some (excO a C)
def RVs (ι : Io) (n : Nat) (H : Hp) : List D → List V → Prop
  | [], xs => xs = []
  | d :: ds, xs => ∃ x r, xs = x :: r ∧ RV ι n H d x ∧ RVs ι n H ds r
end
def RK (ι : Io) (n : Nat) (H : Hp) : List (Key × D) → List (Key × V) → Prop
  | [], xs => xs = []
  | p :: ds, xs => ∃ x r, xs = (p.1, x) :: r ∧ RV mg ι n H p.2 x ∧ RK ι n H ds r
def RF (ι : Io) (n : Nat) (H : Hp) : List (Str × D) → List (Str × V) → Prop
  | [], xs => xs = []
  | p :: ds, xs => ∃ x r, xs = (p.1, x) :: r ∧ RV mg ι n H p.2 x ∧ RF ι n H ds r
def CO (ι : Io) (n : Nat) (H : Hp) (a : Addr) : C → Prop
  | .lst ds => ∃ xs, H a = some (.lst xs) ∧ RVs mg ι n H ds xs
  | .dct kvs => ∃ xs, H a = some (.dK xs) ∧ RK mg ι n H kvs xs
  | .fdc o kvs => ∃ xs, H a = some (.frz o (.dK xs)) ∧ RK mg ι n H kvs xs
  | .ins cl fs => ∃ Cc dx xs, mg cl = some (.ref Cc) ∧ H a = some (.ins Cc dx xs) ∧ RF mg ι n H fs xs
structure RA (ι : Io) (H : Hp) (A : Ar) : Prop where
  cel : ∀ r c, A[r]? = some c → CO mg ι A.length H (ι r) c
  inj : ∀ r q, r < A.length → q < A.length → ι r = ι q → r = q
end
def mutO : HO → Bool
  | .lst _ | .dK _ | .frz _ (.dK _) | .ins _ _ _ => true
  | _ => false
structure Ext (A : Ar) (ι : Io) (H : Hp) (A' : Ar) (ι' : Io) (H' : Hp) : Prop where
  len : A.length ≤ A'.length
  ag : ∀ r, r < A.length → ι' r = ι r
  im : ∀ r, r < A.length → ∃ o, H (ι r) = some o ∧ mutO o = true
  mo : ∀ b o, H b = some o → (∀ r, r < A.length → ι r ≠ b) → H' b = some o
  nw : ∀ r, A.length ≤ r → r < A'.length → H (ι' r) = none
  al : ∀ b o, H b = some o → ∃ o', H' b = some o'
theorem Ext.fix {A A' : Ar} {ι ι' : Io} {H H' : Hp} (e : Ext A ι H A' ι' H') {b : Addr} {o : HO} (hm : mutO o = false) (h : H b = some o) : H' b = some o := e.mo b o h fun r hr z => by
  obtain ⟨u, h1, h2⟩ := e.im r hr
  rw [z, h] at h1; cases h1; rw [hm] at h2; cases h2
theorem Ext.trans {A A1 A2 : Ar} {ι ι1 ι2 : Io} {H H1 H2 : Hp} (a : Ext A ι H A1 ι1 H1) (b : Ext A1 ι1 H1 A2 ι2 H2) : Ext A ι H A2 ι2 H2 where
  len := Nat.le_trans a.len b.len
  ag := fun r h => (b.ag r (Nat.lt_of_lt_of_le h a.len)).trans (a.ag r h)
  im := a.im
  mo := fun c o h hn => b.mo c o (a.mo c o h hn) fun r hr z => by
    by_cases hl : r < A.length
    · rw [a.ag r hl] at z; exact hn r hl z
    · have := a.nw r (by omega) hr
      rw [z, h] at this; cases this
  nw := fun r h1 h2 => by
    by_cases hl : r < A1.length
    · rw [b.ag r hl]; exact a.nw r h1 hl
    · have n1 := b.nw r (by omega) h2
      cases q : H (ι2 r) with
      | none => rfl
      | some o =>
        obtain ⟨o', h'⟩ := a.al _ o q
        rw [h'] at n1; cases n1
  al := fun c o h => by
    obtain ⟨o1, h1⟩ := a.al c o h
    exact b.al c o1 h1
section
variable {mg : Str → Option Value} {A A' : Ar} {ι ι' : Io} {H H' : Hp}
section
variable {n n' : Nat}
mutual
theorem RV.ag (hn : n ≤ n') (hι : ∀ r, r < n → ι' r = ι r) (hf : ∀ b o, mutO o = false → H b = some o → H' b = some o) : ∀ (d : D) (v : V), RV mg ι n H d v → RV mg ι' n' H' d v
  | .non, _, h => h
  | .bl _, _, h => h
  | .int _, _, h => h
  | .str _, _, h => h
  | .tup ds, v, h => by
    obtain ⟨a, xs, e1, e2, e3⟩ := h
    exact ⟨a, xs, e1, hf _ _ rfl e2, RVs.ag hn hι hf ds xs e3⟩
  | .ref r, v, h => ⟨Nat.lt_of_lt_of_le h.1 hn, by rw [hι r h.1]; exact h.2⟩
  | .fl ns, v, h => by
    obtain ⟨a, o, e1, e2⟩ := h
    exact ⟨a, o, e1, hf _ _ rfl e2⟩
  | .exc c, v, h => by
    obtain ⟨a, C, e1, e2, e3⟩ := h
    exact ⟨a, C, e1, e2, hf _ _ rfl e3⟩
theorem RVs.ag (hn : n ≤ n') (hι : ∀ r, r < n → ι' r = ι r) (hf : ∀ b o, mutO o = false → H b = some o → H' b = some o) : ∀ (ds : List D) (vs : List V), RVs mg ι n H ds vs → RVs mg ι' n' H' ds vs
  | [], _, h => h
  | d :: ds, vs, h => by
    obtain ⟨x, r, e1, e2, e3⟩ := h
    exact ⟨x, r, e1, RV.ag hn hι hf d x e2, RVs.ag hn hι hf ds r e3⟩
end
theorem RK.ag (hn : n ≤ n') (hι : ∀ r, r < n → ι' r = ι r) (hf : ∀ b o, mutO o = false → H b = some o → H' b = some o) : ∀ (ds : List (Key × D)) (vs : List (Key × V)), RK mg ι n H ds vs → RK mg ι' n' H' ds vs
  | [], _, h => h
  | d :: ds, vs, h => by
    obtain ⟨x, r, e1, e2, e3⟩ := h
    exact ⟨x, r, e1, RV.ag hn hι hf _ x e2, RK.ag hn hι hf ds r e3⟩
theorem RF.ag (hn : n ≤ n') (hι : ∀ r, r < n → ι' r = ι r) (hf : ∀ b o, mutO o = false → H b = some o → H' b = some o) : ∀ (ds : List (Str × D)) (vs : List (Str × V)), RF mg ι n H ds vs → RF mg ι' n' H' ds vs
  | [], _, h => h
  | d :: ds, vs, h => by
    obtain ⟨x, r, e1, e2, e3⟩ := h
    exact ⟨x, r, e1, RV.ag hn hι hf _ x e2, RF.ag hn hι hf ds r e3⟩
theorem CO.ag {a : Addr} (hn : n ≤ n') (hι : ∀ r, r < n → ι' r = ι r) (hf : ∀ b o, mutO o = false → H b = some o → H' b = some o) (ha : ∀ o, H a = some o → H' a = some o) : ∀ (c : C), CO mg ι n H a c → CO mg ι' n' H' a c
  | .lst ds, h => by
    obtain ⟨xs, e1, e2⟩ := h
    exact ⟨xs, ha _ e1, RVs.ag hn hι hf ds xs e2⟩
  | .dct ds, h => by
    obtain ⟨xs, e1, e2⟩ := h
    exact ⟨xs, ha _ e1, RK.ag hn hι hf ds xs e2⟩
  | .fdc o ds, h => by
    obtain ⟨xs, e1, e2⟩ := h
    exact ⟨xs, ha _ e1, RK.ag hn hι hf ds xs e2⟩
  | .ins cl ds, h => by
    obtain ⟨Cc, dx, xs, e0, e1, e2⟩ := h
    exact ⟨Cc, dx, xs, e0, ha _ e1, RF.ag hn hι hf ds xs e2⟩
end
theorem RV.ext (e : Ext A ι H A' ι' H') (d : D) (v : V) (h : RV mg ι A.length H d v) : RV mg ι' A'.length H' d v := RV.ag e.len e.ag (fun _ _ m h => e.fix m h) d v h
theorem RVs.ext (e : Ext A ι H A' ι' H') (d : List D) (v : List V) (h : RVs mg ι A.length H d v) : RVs mg ι' A'.length H' d v := RVs.ag e.len e.ag (fun _ _ m h => e.fix m h) d v h
theorem RK.ext (e : Ext A ι H A' ι' H') (d : List (Key × D)) (v : List (Key × V)) (h : RK mg ι A.length H d v) : RK mg ι' A'.length H' d v := RK.ag e.len e.ag (fun _ _ m h => e.fix m h) d v h
theorem RF.ext (e : Ext A ι H A' ι' H') (d : List (Str × D)) (v : List (Str × V)) (h : RF mg ι A.length H d v) : RF mg ι' A'.length H' d v := RF.ag e.len e.ag (fun _ _ m h => e.fix m h) d v h
theorem CO.ext {a : Addr} (e : Ext A ι H A' ι' H') (ha : ∀ o, H a = some o → H' a = some o) (c : C) (h : CO mg ι A.length H a c) : CO mg ι' A'.length H' a c := CO.ag (a := a) (H := H) (H' := H') e.len e.ag (fun _ _ m h => e.fix m h) ha c h
theorem RVs.length : ∀ {ds : List D} {vs : List V} {n : Nat}, RVs mg ι n H ds vs → ds.length = vs.length
  | [], vs, _, h => by have h' : vs = [] := h; rw [h']; rfl
  | d :: ds, vs, n, h => by
    obtain ⟨x, r, rfl, _, e3⟩ := h
    simp [RVs.length e3]
theorem RVs.get : ∀ {ds : List D} {vs : List V} {n i : Nat} {d : D}, RVs mg ι n H ds vs → ds[i]? = some d → ∃ v, vs[i]? = some v ∧ RV mg ι n H d v
  | [], _, _, _, _, _, e => by simp at e
  | d :: ds, vs, n, 0, d', h, e => by
    obtain ⟨x, r, rfl, e2, _⟩ := h
    simp at e; subst e
    exact ⟨x, rfl, e2⟩
  | d :: ds, vs, n, i + 1, d', h, e => by
    obtain ⟨x, r, rfl, _, e3⟩ := h
    obtain ⟨v, h1, h2⟩ := RVs.get (i := i) e3 (by simpa using e)
    exact ⟨v, by simpa using h1, h2⟩
theorem RVs.app : ∀ {ds es : List D} {vs ws : List V} {n : Nat}, RVs mg ι n H ds vs → RVs mg ι n H es ws → RVs mg ι n H (ds ++ es) (vs ++ ws)
  | [], _, vs, _, _, h, q => by have h' : vs = [] := h; rw [h']; exact q
  | d :: ds, es, vs, ws, n, h, q => by
    obtain ⟨x, r, rfl, e2, e3⟩ := h
    exact ⟨x, r ++ ws, rfl, e2, RVs.app e3 q⟩
theorem RVs.take : ∀ {ds : List D} {vs : List V} {n : Nat} (k : Nat), RVs mg ι n H ds vs → RVs mg ι n H (ds.take k) (vs.take k)
  | ds, vs, n, 0, h => by simp [RVs]
  | [], vs, n, k + 1, h => by have h' : vs = [] := h; rw [h']; simp [RVs]
  | d :: ds, vs, n, k + 1, h => by
    obtain ⟨x, r, rfl, e2, e3⟩ := h
    exact ⟨x, r.take k, rfl, e2, RVs.take k e3⟩
theorem RVs.drop : ∀ {ds : List D} {vs : List V} {n : Nat} (k : Nat), RVs mg ι n H ds vs → RVs mg ι n H (ds.drop k) (vs.drop k)
  | ds, vs, n, 0, h => by simpa using h
  | [], vs, n, k + 1, h => by have h' : vs = [] := h; rw [h']; simp [RVs]
  | d :: ds, vs, n, k + 1, h => by
    obtain ⟨x, r, rfl, e2, e3⟩ := h
    exact RVs.drop k e3
theorem RA.im (R : RA mg ι H A) : ∀ r, r < A.length → ∃ o, H (ι r) = some o ∧ mutO o = true := fun r h => by
  obtain ⟨c', hc'⟩ : ∃ c', A[r]? = some c' := ⟨A[r], by rw [List.getElem?_eq_getElem h]⟩
  have := R.cel r c' hc'
  cases c' with
  | lst ds => obtain ⟨xs, e1, _⟩ := this; exact ⟨_, e1, rfl⟩
  | dct ds => obtain ⟨xs, e1, _⟩ := this; exact ⟨_, e1, rfl⟩
  | fdc o ds => obtain ⟨xs, e1, _⟩ := this; exact ⟨_, e1, rfl⟩
  | ins cl ds => obtain ⟨Cc, dx, xs, _, e1, _⟩ := this; exact ⟨_, e1, rfl⟩
theorem RA.refl (R : RA mg ι H A) : Ext A ι H A ι H := ⟨Nat.le_refl _, fun _ _ => rfl, R.im, fun _ _ h _ => h, fun r h1 h2 => absurd h2 (by omega), fun _ o h => ⟨o, h⟩⟩
theorem RA.ext_fix (R : RA mg ι H A) {p : Addr} {o : HO} (hp : H p = none) : Ext A ι H A ι (upd H p o) :=
  ⟨Nat.le_refl _, fun _ _ => rfl, R.im, fun b u h _ => by rw [upd_ne (ne_of_none h hp)]; exact h, fun r h1 h2 => absurd h2 (by omega), fun b u h => ⟨u, by rw [upd_ne (ne_of_none h hp)]; exact h⟩⟩
theorem RA.ext_push (R : RA mg ι H A) {p : Addr} {o : HO} {c : C} (hp : H p = none) : Ext A ι H (A ++ [c]) (fun r => if r = A.length then p else ι r) (upd H p o) :=
  ⟨by simp, fun r h => by
    show (if r = A.length then p else ι r) = ι r
    rw [if_neg (by omega)], R.im, fun b u h _ => by rw [upd_ne (ne_of_none h hp)]; exact h, fun r h1 h2 => by
    have e : r = A.length := by simp at h2; omega
    show H (if r = A.length then p else ι r) = none
    rw [if_pos e]; exact hp, fun b u h => ⟨u, by rw [upd_ne (ne_of_none h hp)]; exact h⟩⟩
theorem RA.ext_put (R : RA mg ι H A) {r : Nat} {o : HO} {c : C} (hr : r < A.length) : Ext A ι H (A.set r c) ι (upd H (ι r) o) :=
  ⟨by simp, fun _ _ => rfl, R.im, fun b u h hn => by rw [upd_ne (fun e => hn r hr e.symm)]; exact h, fun q h1 h2 => absurd h2 (by simp; omega), fun b u h => by
    by_cases hb : b = ι r
    · subst hb; exact ⟨o, upd_same⟩
    · exact ⟨u, by rw [upd_ne hb]; exact h⟩⟩
theorem RA.fix (R : RA mg ι H A) (e : Ext A ι H A ι H') (k : ∀ b o, H b = some o → H' b = some o) : RA mg ι H' A := ⟨fun r c h => CO.ext e (fun o q => k _ o q) c (R.cel r c h), R.inj⟩
theorem RA.push {p : Addr} {o : HO} {c : C} (R : RA mg ι H A) (hp : H p = none) (hc : CO mg (fun r => if r = A.length then p else ι r) (A.length + 1) (upd H p o) p c) :
    RA mg (fun r => if r = A.length then p else ι r) (upd H p o) (A ++ [c]) ∧ Ext A ι H (A ++ [c]) (fun r => if r = A.length then p else ι r) (upd H p o) := by
  have E : Ext A ι H (A ++ [c]) (fun r => if r = A.length then p else ι r) (upd H p o) := R.ext_push hp
  have tr : ∀ r, r < A.length → ∃ u, H (ι r) = some u := fun r h => by
    obtain ⟨c', hc'⟩ : ∃ c', A[r]? = some c' := ⟨A[r], by rw [List.getElem?_eq_getElem h]⟩
    have := R.cel r c' hc'
    cases c' with
    | lst ds => obtain ⟨xs, e1, _⟩ := this; exact ⟨_, e1⟩
    | dct ds => obtain ⟨xs, e1, _⟩ := this; exact ⟨_, e1⟩
    | fdc o ds => obtain ⟨xs, e1, _⟩ := this; exact ⟨_, e1⟩
    | ins cl ds => obtain ⟨Cc, dx, xs, _, e1, _⟩ := this; exact ⟨_, e1⟩
  refine ⟨⟨fun r c' h => ?_, fun r q hr hq h => ?_⟩, E⟩
  · by_cases hr : r < A.length
    · rw [List.getElem?_append_left hr] at h
      have := CO.ext E (a := ι r) (fun o' q => by rw [upd_ne (ne_of_none q hp)]; exact q) c' (R.cel r c' h)
      show CO mg _ _ _ (if r = A.length then p else ι r) c'
      rw [if_neg (by omega)]
      exact this
    · have hl : r = A.length := by
        have := (List.getElem?_eq_some_iff.mp h).1
        simp at this; omega
      subst hl
      simp at h; subst h
      show CO mg _ _ _ (if A.length = A.length then p else ι A.length) c
      rw [if_pos rfl]
      simpa using hc
  · simp at hr hq
    have h' : (if r = A.length then p else ι r) = (if q = A.length then p else ι q) := h
    by_cases h1 : r = A.length
    · by_cases h2 : q = A.length
      · rw [h1, h2]
      · rw [if_pos h1, if_neg h2] at h'
        obtain ⟨u, hu⟩ := tr q (by omega)
        rw [← h', hp] at hu; cases hu
    · by_cases h2 : q = A.length
      · rw [if_neg h1, if_pos h2] at h'
        obtain ⟨u, hu⟩ := tr r (by omega)
        rw [h', hp] at hu; cases hu
      · rw [if_neg h1, if_neg h2] at h'
        exact R.inj r q (by omega) (by omega) h'
theorem RA.put {r : Nat} {u o : HO} {c c' : C} (R : RA mg ι H A) (hr : A[r]? = some c) (hu : H (ι r) = some u) (hm : mutO u = true) (hc : CO mg ι A.length (upd H (ι r) o) (ι r) c') :
    RA mg ι (upd H (ι r) o) (A.set r c') ∧ Ext A ι H (A.set r c') ι (upd H (ι r) o) := by
  have lr := (List.getElem?_eq_some_iff.mp hr).1
  have E : Ext A ι H (A.set r c') ι (upd H (ι r) o) := R.ext_put lr
  refine ⟨⟨fun q d h => ?_, fun a b ha hb => R.inj a b (by simpa using ha) (by simpa using hb)⟩, E⟩
  by_cases hq : q = r
  · subst hq
    rw [List.getElem?_set_self lr] at h
    cases h
    simpa using hc
  · rw [List.getElem?_set_ne (Ne.symm hq)] at h
    have lq := (List.getElem?_eq_some_iff.mp h).1
    have := CO.ext E (a := ι q) (fun o' z => by rw [upd_ne (fun e => hq (R.inj q r lq lr e))]; exact z) d (R.cel q d h)
    simpa using this
end
end DP
namespace DP
open PySem PySem.Spec PyProof.Rows L2
abbrev DSt := List (Option D)
def lk : DSt → Nat → Option D
  | [], _ => none
  | x :: _, 0 => x
  | _ :: r, i + 1 => lk r i
theorem lk_get : ∀ (τ : DSt) (i : Nat), lk τ i = (τ[i]?).join
  | [], i => by simp [lk]
  | x :: r, 0 => by simp [lk]
  | x :: r, i + 1 => by simp [lk, lk_get r i]
structure En where
  A : Ar
  ι : Io
  H : Hp
structure RS (mg : Str → Option Value) (ι : Io) (n : Nat) (H : Hp) (τ : DSt) (σ : L2.St) : Prop where
  len : τ.length = σ.length
  at' : ∀ i d, lk τ i = some d → ∃ v, σ[i]? = some (some v) ∧ RV mg ι n H d v
structure Sim (mg : Str → Option Value) (N : En) (A : Ar) (ι : Io) (τ : DSt) (σ : L2.St) (H : Hp) : Prop where
  ra : RA mg ι H A
  rs : RS mg ι A.length H τ σ
  ex : Ext N.A N.ι N.H A ι H
abbrev DK := D → Ar → Prop
abbrev DTE := DSt → Ar → DK → Prop
abbrev DTT := DSt → Ar → (Bool → Ar → Prop) → Prop
abbrev DTA := DSt → Ar → (List D → Ar → Prop) → Prop
def Kt (mg : Str → Option Value) (A : Ar) (ι : Io) (H : Hp) (R : DK) (Q : VK) : Prop := ∀ v A' ι' H' u, R v A' → Ext A ι H A' ι' H' → RA mg ι' H' A' → RV mg ι' A'.length H' v u → Q u H'
def KtB (mg : Str → Option Value) (A : Ar) (ι : Io) (H : Hp) (R : Bool → Ar → Prop) (Q : Bool → Hp → Prop) : Prop := ∀ v A' ι' H', R v A' → Ext A ι H A' ι' H' → RA mg ι' H' A' → Q v H'
def KtA (mg : Str → Option Value) (A : Ar) (ι : Io) (H : Hp) (R : List D → Ar → Prop) (Q : List V → Hp → Prop) : Prop := ∀ v A' ι' H' u, R v A' → Ext A ι H A' ι' H' → RA mg ι' H' A' → RVs mg ι' A'.length H' v u → Q u H'
def up (mg : Str → Option Value) (N : En) (m : DTE) : TE := fun σ H Q => ∃ A ι τ R, Sim mg N A ι τ σ H ∧ m τ A R ∧ Kt mg A ι H R Q
def upT (mg : Str → Option Value) (N : En) (m : DTT) : TT := fun σ H Q => ∃ A ι τ R, Sim mg N A ι τ σ H ∧ m τ A R ∧ KtB mg A ι H R Q
def upA (mg : Str → Option Value) (N : En) (m : DTA) : TA := fun σ H Q => ∃ A ι τ R, Sim mg N A ι τ σ H ∧ m τ A R ∧ KtA mg A ι H R Q
section
variable {mg : Str → Option Value} {N : En} {A A' : Ar} {ι ι' : Io} {τ : DSt} {σ : L2.St} {H H' : Hp}
theorem RS.ext (e : Ext A ι H A' ι' H') (r : RS mg ι A.length H τ σ) : RS mg ι' A'.length H' τ σ := ⟨r.len, fun i d h => by
  obtain ⟨v, h1, h2⟩ := r.at' i d h
  exact ⟨v, h1, RV.ext e d v h2⟩⟩
theorem Sim.next (S : Sim mg N A ι τ σ H) (e : Ext A ι H A' ι' H') (r : RA mg ι' H' A') : Sim mg N A' ι' τ σ H' := ⟨r, S.rs.ext e, S.ex.trans e⟩
theorem Kt.from {R : DK} {Q : VK} (k : Kt mg A ι H R Q) (e : Ext A ι H A' ι' H') : Kt mg A' ι' H' R Q := fun v A2 ι2 H2 u q e2 => k v A2 ι2 H2 u q (e.trans e2)
theorem KtB.from {R : Bool → Ar → Prop} {Q : Bool → Hp → Prop} (k : KtB mg A ι H R Q) (e : Ext A ι H A' ι' H') : KtB mg A' ι' H' R Q := fun v A2 ι2 H2 q e2 => k v A2 ι2 H2 q (e.trans e2)
theorem Kt.here {R : DK} {Q : VK} {d : D} {v : V} (k : Kt mg A ι H R Q) (r : RA mg ι H A) (q : R d A) (h : RV mg ι A.length H d v) : Q v H := k d A ι H v q r.refl r h
theorem KtB.here {R : Bool → Ar → Prop} {Q : Bool → Hp → Prop} {b : Bool} (k : KtB mg A ι H R Q) (r : RA mg ι H A) (q : R b A) : Q b H := k b A ι H q r.refl r
end
section
variable {X : Cx} {e : Expr}
theorem de_w {t t' : TE} (h : PE X e t) (w : ∀ σ H Q, t' σ H Q → t σ H Q) : PE X e t' := fun pins s σ H Q I q => h pins s σ H Q I (w σ H Q q)
theorem dt_w {t t' : TT} (h : PT X e t) (w : ∀ σ H Q, t' σ H Q → t σ H Q) : PT X e t' := fun pins s σ H Q I q => h pins s σ H Q I (w σ H Q q)
theorem dw_w {t t' : TT} (h : PW X e t) (w : ∀ σ H Q, t' σ H Q → t σ H Q) : PW X e t' := fun whole pins s σ H Q I q => h whole pins s σ H Q I (w σ H Q q)
theorem da_w {es : List Expr} {t t' : TA} (h : PA X es t) (w : ∀ σ H Q, t' σ H Q → t σ H Q) : PA X es t' := fun pos pins s σ H Q I q => h pos pins s σ H Q I (w σ H Q q)
theorem ds_w {st : Stmt} {t t' : TS} (h : PS X st t) (w : ∀ D σ H, t' D σ H → t D σ H) : PS X st t' := fun pins s σ H D I q => h pins s σ H D I (w D σ H q)
theorem dss_w {st : List Stmt} {t t' : TS} (h : PSs X st t) (w : ∀ D σ H, t' D σ H → t D σ H) : PSs X st t' := fun pins s σ H D I q => h pins s σ H D I (w D σ H q)
end
def dVar (i : Nat) : DTE := fun τ A R => match lk τ i with
  | some v => R v A
  | none => False
def dC (d : D) : DTE := fun _ A R => R d A
section
variable {X : Cx} {N : En} {pos : Pos}
theorem de_var {i : Nat} {x : Str} (hN : X.N[i]? = some x) (hv : Vis X.env.scope x) (hd : (x == ("__debug__" : Str)) = false := by decide) (hcd : (x == ("__classdict__" : Str)) = false := by decide) : PE X (.Name x pos) (up X.mg N (dVar i)) :=
  de_w (pe_var hN hv hd hcd) fun σ H Q h => by
    obtain ⟨A, ι, τ, R, S, h, k⟩ := h
    unfold dVar at h
    split at h
    · rename_i v e
      obtain ⟨u, h1, h2⟩ := S.rs.at' i v e
      exact ⟨u, h1, k.here S.ra h h2⟩
    · exact h.elim
theorem de_const {e : Expr} {d : D} {v : V} (h : PE X e (tC v)) (r : ∀ ι n H, RV X.mg ι n H d v) : PE X e (up X.mg N (dC d)) :=
  de_w h fun σ H Q h => by
    obtain ⟨A, ι, τ, R, S, h, k⟩ := h
    exact k.here S.ra h (r _ _ _)
theorem de_int {i j} : PE X (.Constant (.int i) j pos) (up X.mg N (dC (.int i))) := de_const pe_int fun _ _ _ => rfl
theorem de_bl {b j} : PE X (.Constant (.bool b) j pos) (up X.mg N (dC (.bl b))) := de_const pe_bl fun _ _ _ => rfl
theorem de_non {j} : PE X (.Constant .none j pos) (up X.mg N (dC .non)) := de_const pe_non fun _ _ _ => rfl
theorem de_str {x j} : PE X (.Constant (.str x) j pos) (up X.mg N (dC (.str x))) := de_const pe_str fun _ _ _ => rfl
theorem de_num {x : Str} {i : Int} {t : Tok} (hm : X.mg x = some (.int i t)) (hg : Gl X x := by rfl) (hd : (x == ("__debug__" : Str)) = false := by decide) : PE X (.Name x pos) (up X.mg N (dC (.int i))) :=
  de_const (pe_glob (v := .int i) hg hm ⟨_, rfl⟩ hd) fun _ _ _ => rfl
end
abbrev DOp := D → D → Ar → DK → Prop
def OpD (mg : Str → Option Value) (r : R2) (f : DOp) : Prop := ∀ x y A ι H u v R Q, RA mg ι H A → RV mg ι A.length H x u → RV mg ι A.length H y v → f x y A R → Kt mg A ι H R Q → r u v H Q
def dOp (f : DOp) (ma mb : DTE) : DTE := fun τ A R => ma τ A fun x A1 => mb τ A1 fun y A2 => f x y A2 R
section
variable {X : Cx} {N : En} {pos : Pos} {a b c : Expr} {ma mb mc : DTE} {f f' : DOp} {r r' : R2}
theorem up_op (h : OpD X.mg r f) {σ : L2.St} {H : Hp} {Q : VK} (q : up X.mg N (dOp f ma mb) σ H Q) : tOp r (up X.mg N ma) (up X.mg N mb) σ H Q := by
  obtain ⟨A, ι, τ, R, S, q, k⟩ := q
  have q : ma τ A (fun x A1 => mb τ A1 fun y A2 => f x y A2 R) := q
  refine ⟨A, ι, τ, _, S, q, fun x A1 ι1 H1 u q1 e1 r1 v1 => ?_⟩
  refine ⟨A1, ι1, τ, _, S.next e1 r1, q1, fun y A2 ι2 H2 v q2 e2 r2 v2 => ?_⟩
  exact h x y A2 ι2 H2 u v R Q r2 (RV.ext e2 x u v1) v2 q2 (k.from (e1.trans e2))
theorem de_op {op : Operator} (ho : OpR X (binaryOp op) r) (hd : OpD X.mg r f) (ha : PE X a (up X.mg N ma)) (hb : PE X b (up X.mg N mb)) : PE X (.BinOp a op b pos) (up X.mg N (dOp f ma mb)) :=
  de_w (pe_op ho ha hb) fun _ _ _ h => up_op hd h
theorem de_cmp {op : CmpOp} (ho : OpR X (compareOp op) r) (hd : OpD X.mg r f) (ha : PE X a (up X.mg N ma)) (hb : PE X b (up X.mg N mb)) (hm : behindInMarks op b = false) : PE X (.Compare a [op] [b] pos) (up X.mg N (dOp f ma mb)) :=
  de_w (pe_cmpR ho ha hb hm) fun _ _ _ h => up_op hd h
def dTest (m : DTE) : DTT := fun τ A R => m τ A fun x A1 => match x with
  | .bl k => R k A1
  | _ => False
theorem up_test {t : TE} {m : DTE} (ht : ∀ σ H Q, up X.mg N m σ H Q → t σ H Q) {σ : L2.St} {H : Hp} {Q : Bool → Hp → Prop} (q : upT X.mg N (dTest m) σ H Q) : tTest t σ H Q := by
  obtain ⟨A, ι, τ, R, S, q, k⟩ := q
  refine ht _ _ _ ⟨A, ι, τ, _, S, q, fun x A1 ι1 H1 u q1 e1 r1 v1 => ?_⟩
  cases x with
  | bl b => exact ⟨b, v1, k b A1 ι1 H1 q1 e1 r1⟩
  | _ => exact q1.elim
theorem dt_cmp {op : CmpOp} (ho : OpR X (compareOp op) r) (hd : OpD X.mg r f) (ha : PE X a (up X.mg N ma)) (hb : PE X b (up X.mg N mb)) (hm : behindInMarks op b = false) : PT X (.Compare a [op] [b] pos) (upT X.mg N (dTest (dOp f ma mb))) :=
  dt_w (pt_cmpR ho ha hb hm) fun _ _ _ h => up_test (fun _ _ _ h => up_op hd h) h
def dChain (f f' : DOp) (ma mb mc : DTE) : DTE := fun τ A R => ma τ A fun x A1 => mb τ A1 fun y A2 => f x y A2 fun z A3 => match z with
  | .bl k => cond k (mc τ A3 fun w A4 => f' y w A4 R) (R (.bl false) A3)
  | _ => False
theorem up_chain (h : OpD X.mg r f) (h' : OpD X.mg r' f') {σ : L2.St} {H : Hp} {Q : VK} (q : up X.mg N (dChain f f' ma mb mc) σ H Q) : tChain r r' (up X.mg N ma) (up X.mg N mb) (up X.mg N mc) σ H Q := by
  obtain ⟨A, ι, τ, R, S, q, k⟩ := q
  refine ⟨A, ι, τ, _, S, q, fun x A1 ι1 H1 u q1 e1 r1 v1 => ?_⟩
  refine ⟨A1, ι1, τ, _, S.next e1 r1, q1, fun y A2 ι2 H2 v q2 e2 r2 v2 => ?_⟩
  refine h x y A2 ι2 H2 u v _ _ r2 (RV.ext e2 x u v1) v2 q2 fun z A3 ι3 H3 w q3 e3 r3 v3 => ?_
  cases z with
  | bl b =>
    refine ⟨b, v3, ?_⟩
    cases b with
    | true =>
      rw [if_pos rfl]
      refine ⟨A3, ι3, τ, _, ((S.next e1 r1).next e2 r2).next e3 r3, q3, fun z A4 ι4 H4 w q4 e4 r4 v4 => ?_⟩
      exact h' y z A4 ι4 H4 v w R Q r4 (RV.ext (e3.trans e4) y v v2) v4 q4 (k.from (((e1.trans e2).trans e3).trans e4))
    | false =>
      rw [if_neg Bool.false_ne_true]
      exact (k.from ((e1.trans e2).trans e3)).here r3 q3 rfl
  | _ => exact q3.elim
theorem de_chain {op op' : CmpOp} (ho : OpR X (compareOp op) r) (ho' : OpR X (compareOp op') r') (hd : OpD X.mg r f) (hd' : OpD X.mg r' f') (ha : PE X a (up X.mg N ma)) (hb : PE X b (up X.mg N mb)) (hc : PE X c (up X.mg N mc))
    (hm : lastMarks [op, op'] [b, c] = false := by with_unfolding_all rfl) : PE X (.Compare a [op, op'] [b, c] pos) (up X.mg N (dChain f f' ma mb mc)) :=
  de_w (pe_chain ho ho' ha hb hc hm) fun _ _ _ h => up_chain hd hd' h
theorem dt_chain {op op' : CmpOp} (ho : OpR X (compareOp op) r) (ho' : OpR X (compareOp op') r') (hd : OpD X.mg r f) (hd' : OpD X.mg r' f') (ha : PE X a (up X.mg N ma)) (hb : PE X b (up X.mg N mb)) (hc : PE X c (up X.mg N mc))
    (hm : lastMarks [op, op'] [b, c] = false := by with_unfolding_all rfl) : PT X (.Compare a [op, op'] [b, c] pos) (upT X.mg N (dTest (dChain f f' ma mb mc))) :=
  dt_w (pt_chain ho ho' ha hb hc hm) fun _ _ _ h => up_test (fun _ _ _ h => up_chain hd hd' h) h
theorem dt_val {m : DTE} (h : PE X a (up X.mg N m)) (he : ∀ whole, isTrue a X.env whole = (do let v ← whole; standAt a.pos; holding [v] (truthy v)) := by intro _; rfl) : PT X a (upT X.mg N (dTest m)) :=
  dt_w (pt_val h he) fun _ _ _ q => up_test (fun _ _ _ h => h) q
def dAnd (t u : DTT) : DTT := fun τ A R => t τ A fun c A1 => cond c (u τ A1 R) (R false A1)
def dOr (t u : DTT) : DTT := fun τ A R => t τ A fun c A1 => cond c (R true A1) (u τ A1 R)
def dNot (t : DTT) : DTT := fun τ A R => t τ A fun c A1 => R (!c) A1
variable {tA tB : DTT} {rest : List Expr}
theorem dw_and1 (ha : PT X a (upT X.mg N tA)) : PW X (.BoolOp .And [a] pos) (upT X.mg N tA) := pw_and1 ha
theorem dw_or1 (ha : PT X a (upT X.mg N tA)) : PW X (.BoolOp .Or [a] pos) (upT X.mg N tA) := pw_or1 ha
theorem dw_and (ha : PT X a (upT X.mg N tA)) (hb : PW X (.BoolOp .And (b :: rest) pos) (upT X.mg N tB)) : PW X (.BoolOp .And (a :: b :: rest) pos) (upT X.mg N (dAnd tA tB)) :=
  dw_w (pw_and ha hb) fun σ H Q q => by
    obtain ⟨A, ι, τ, R, S, q, k⟩ := q
    refine ⟨A, ι, τ, _, S, q, fun x A1 ι1 H1 q1 e1 r1 => ?_⟩
    cases x with
    | true => rw [if_pos rfl]; exact ⟨A1, ι1, τ, _, S.next e1 r1, q1, k.from e1⟩
    | false => rw [if_neg Bool.false_ne_true]; exact (k.from e1).here r1 q1
theorem dw_or (ha : PT X a (upT X.mg N tA)) (hb : PW X (.BoolOp .Or (b :: rest) pos) (upT X.mg N tB)) : PW X (.BoolOp .Or (a :: b :: rest) pos) (upT X.mg N (dOr tA tB)) :=
  dw_w (pw_or ha hb) fun σ H Q q => by
    obtain ⟨A, ι, τ, R, S, q, k⟩ := q
    refine ⟨A, ι, τ, _, S, q, fun x A1 ι1 H1 q1 e1 r1 => ?_⟩
    cases x with
    | true => rw [if_pos rfl]; exact (k.from e1).here r1 q1
    | false => rw [if_neg Bool.false_ne_true]; exact ⟨A1, ι1, τ, _, S.next e1 r1, q1, k.from e1⟩
theorem dt_not (ha : PT X a (upT X.mg N tA)) : PT X (.UnaryOp .Not a pos) (upT X.mg N (dNot tA)) :=
  dt_w (pt_not ha) fun σ H Q q => by
    obtain ⟨A, ι, τ, R, S, q, k⟩ := q
    exact ⟨A, ι, τ, _, S, q, fun x A1 ι1 H1 q1 e1 r1 => (k.from e1).here r1 q1⟩
def dAndV (ma mb : DTE) : DTE := fun τ A R => ma τ A fun x A1 => match x with
  | .bl c => cond c (mb τ A1 R) (R (.bl false) A1)
  | _ => False
theorem de_one {op} (h : PE X a (up X.mg N ma)) : PE X (.BoolOp op [a] pos) (up X.mg N ma) := pe_one h
theorem de_and (ha : PE X a (up X.mg N ma)) (hb : PE X (.BoolOp .And (b :: rest) pos) (up X.mg N mb)) : PE X (.BoolOp .And (a :: b :: rest) pos) (up X.mg N (dAndV ma mb)) :=
  de_w (pe_and ha hb) fun σ H Q q => by
    obtain ⟨A, ι, τ, R, S, q, k⟩ := q
    refine ⟨A, ι, τ, _, S, q, fun x A1 ι1 H1 u q1 e1 r1 v1 => ?_⟩
    cases x with
    | bl c =>
      refine ⟨c, v1, ?_⟩
      cases c with
      | true => rw [if_pos rfl]; exact ⟨A1, ι1, τ, _, S.next e1 r1, q1, k.from e1⟩
      | false => rw [if_neg Bool.false_ne_true]; exact (k.from e1).here r1 q1 rfl
    | _ => exact q1.elim
def dIte (t : DTT) (ma mb : DTE) : DTE := fun τ A R => t τ A fun c A1 => cond c (ma τ A1 R) (mb τ A1 R)
theorem de_ite (hc : PT X c (upT X.mg N tA)) (ha : PE X a (up X.mg N ma)) (hb : PE X b (up X.mg N mb)) : PE X (.IfExp c a b pos) (up X.mg N (dIte tA ma mb)) :=
  de_w (pe_ifExp hc ha hb) fun σ H Q q => by
    obtain ⟨A, ι, τ, R, S, q, k⟩ := q
    refine ⟨A, ι, τ, _, S, q, fun x A1 ι1 H1 q1 e1 r1 => ?_⟩
    cases x with
    | true => rw [if_pos rfl]; exact ⟨A1, ι1, τ, _, S.next e1 r1, q1, k.from e1⟩
    | false => rw [if_neg Bool.false_ne_true]; exact ⟨A1, ι1, τ, _, S.next e1 r1, q1, k.from e1⟩
end
def dNil : DTA := fun _ A R => R [] A
def dCons (m : DTE) (n : DTA) : DTA := fun τ A R => m τ A fun x A1 => n τ A1 fun xs A2 => R (x :: xs) A2
def dTup (n : DTA) : DTE := fun τ A R => n τ A fun xs A1 => xs.length ≤ sizeLine ∧ R (.tup xs) A1
def dLst (n : DTA) : DTE := fun τ A R => n τ A fun xs A1 => xs.length ≤ sizeLine ∧ R (.ref A1.length) (A1 ++ [.lst xs])
section
variable {X : Cx} {N : En} {pos : Pos} {e : Expr} {es : List Expr} {m : DTE} {n : DTA}
theorem da_nil : PA X [] (upA X.mg N dNil) := da_w pa_nil fun σ H Q q => by
  obtain ⟨A, ι, τ, R, S, q, k⟩ := q
  exact k [] A ι H [] q S.ra.refl S.ra rfl
theorem da_cons (ha : PE X e (up X.mg N m)) (hr : PA X es (upA X.mg N n)) (hs : starEach (e :: es) X.env = (false, eval e X.env) :: starEach es X.env := by rfl) : PA X (e :: es) (upA X.mg N (dCons m n)) :=
  da_w (pa_cons ha hr hs) fun σ H Q q => by
    obtain ⟨A, ι, τ, R, S, q, k⟩ := q
    refine ⟨A, ι, τ, _, S, q, fun x A1 ι1 H1 u q1 e1 r1 v1 => ?_⟩
    refine ⟨A1, ι1, τ, _, S.next e1 r1, q1, fun y A2 ι2 H2 v q2 e2 r2 v2 => ?_⟩
    exact k _ A2 ι2 H2 _ q2 (e1.trans e2) r2 ⟨u, v, rfl, RV.ext e2 x u v1, v2⟩
theorem new_tup {mg : Str → Option Value} {A : Ar} {ι : Io} {H : Hp} {R : DK} {Q : VK} {ds : List D} {xs : List V} {p : Addr} (k : Kt mg A ι H R Q) (r : RA mg ι H A) (h : RVs mg ι A.length H ds xs) (q : R (.tup ds) A) (hp : H p = none) : Q (.ref p) (upd H p (.tup xs)) := by
  have E : Ext A ι H A ι (upd H p (.tup xs)) := r.ext_fix hp
  exact k _ A ι _ _ q E (r.fix E fun b o z => by rw [upd_ne (ne_of_none z hp)]; exact z) ⟨p, xs, rfl, upd_same, RVs.ext E ds xs h⟩
theorem new_lst {mg : Str → Option Value} {A : Ar} {ι : Io} {H : Hp} {R : DK} {Q : VK} {ds : List D} {xs : List V} {p : Addr} (k : Kt mg A ι H R Q) (r : RA mg ι H A) (h : RVs mg ι A.length H ds xs) (q : R (.ref A.length) (A ++ [.lst ds])) (hp : H p = none) : Q (.ref p) (upd H p (.lst xs)) := by
  have E : Ext A ι H (A ++ [.lst ds]) (fun r => if r = A.length then p else ι r) (upd H p (.lst xs)) := r.ext_push hp
  obtain ⟨r1, e1⟩ := r.push (c := .lst ds) (o := .lst xs) hp ⟨xs, upd_same, by simpa using RVs.ext E ds xs h⟩
  refine k _ _ _ _ _ q e1 r1 ⟨by simp, ?_⟩
  show V.ref p = V.ref (if A.length = A.length then p else ι A.length)
  rw [if_pos rfl]
theorem de_tup {x1} (h : PA X es (upA X.mg N n)) : PE X (.Tuple es x1 pos) (up X.mg N (dTup n)) := de_w (pe_tup h) fun σ H Q q => by
  obtain ⟨A, ι, τ, R, S, q, k⟩ := q
  refine ⟨A, ι, τ, _, S, q, fun x A1 ι1 H1 u q1 e1 r1 v1 => ?_⟩
  exact ⟨by rw [← RVs.length v1]; exact q1.1, fun p hp => new_tup (k.from e1) r1 v1 q1.2 hp⟩
theorem de_lst (h : PA X es (upA X.mg N n)) : PE X (.List es pos) (up X.mg N (dLst n)) := de_w (pe_lst h) fun σ H Q q => by
  obtain ⟨A, ι, τ, R, S, q, k⟩ := q
  refine ⟨A, ι, τ, _, S, q, fun x A1 ι1 H1 u q1 e1 r1 v1 => ?_⟩
  exact ⟨by rw [← RVs.length v1]; exact q1.1, fun p hp => new_lst (k.from e1) r1 v1 q1.2 hp⟩
end
end DP
namespace DP
open PySem PySem.Spec PyProof.Rows L2
section
variable {mg : Str → Option Value} {K : PySem.W.Frag} {A : Ar} {ι : Io} {H : Hp}
theorem RA.lst (r : RA mg ι H A) {q : Nat} {ds : List D} (h : A[q]? = some (.lst ds)) : ∃ xs, H (ι q) = some (.lst xs) ∧ RVs mg ι A.length H ds xs := r.cel q _ h
theorem RA.dct (r : RA mg ι H A) {q : Nat} {ds : List (Key × D)} (h : A[q]? = some (.dct ds)) : ∃ xs, H (ι q) = some (.dK xs) ∧ RK mg ι A.length H ds xs := r.cel q _ h
theorem RA.fdc (r : RA mg ι H A) {q : Nat} {o : Obj} {ds : List (Key × D)} (h : A[q]? = some (.fdc o ds)) : ∃ xs, H (ι q) = some (.frz o (.dK xs)) ∧ RK mg ι A.length H ds xs := r.cel q _ h
theorem RVs.ints : ∀ (ns : List Int) {n : Nat}, RVs mg ι n H (ns.map D.int) (ns.map V.int)
  | [], _ => rfl
  | i :: r, n => ⟨_, _, rfl, rfl, RVs.ints r⟩
theorem RVs.nilI {n : Nat} {ds : List D} (h : RVs mg ι n H ds []) : ds = [] := by
  cases ds with
  | nil => rfl
  | cons d r => obtain ⟨x, r, e, _⟩ := h; cases e
end
abbrev rAdd4 (K : PySem.W.Frag) : R2 := fun x y H Q => rI0 (fun i j => .int (i + j)) x y H Q ∨ (∃ i j, x = .str i ∧ y = .str j ∧ i.length + j.length ≤ sizeLine ∧ Q (.str (i ++ j)) H) ∨ rCatA K x y H Q ∨ rCat x y H Q
theorem o_add {X : Cx} : OpR X (binaryOp .Add) (rAdd4 X.K) := op_add.or (op_add_str.or (op_catA.or op_cat))
@[irreducible] def catR (r q : Nat) (A : Ar) (R : DK) : Prop := match A[r]?, A[q]? with
  | some (.lst xs), some (.lst ys) => xs.length + ys.length ≤ sizeLine ∧ R (.ref A.length) (A ++ [.lst (xs ++ ys)])
  | _, _ => False
def addD : DOp := fun x y A R => match x, y with
  | .int i, .int j => R (.int (i + j)) A
  | .str a, .str b => a.length + b.length ≤ sizeLine ∧ R (.str (a ++ b)) A
  | .tup xs, .tup ys => xs.length + ys.length ≤ sizeLine ∧ R (.tup (xs ++ ys)) A
  | .ref r, .ref q => catR r q A R
  | _, _ => False
theorem d_add {mg : Str → Option Value} {K : PySem.W.Frag} : OpD mg (rAdd4 K) addD := by
  intro x y A ι H u v R Q ra rx ry h k
  unfold addD at h
  split at h
  · cases rx; cases ry
    exact .inl ⟨_, _, rfl, rfl, k.here ra h rfl⟩
  · cases rx; cases ry
    exact .inr (.inl ⟨_, _, rfl, rfl, h.1, k.here ra h.2 rfl⟩)
  · obtain ⟨a, xs, rfl, e1, r1⟩ := rx
    obtain ⟨b, ys, rfl, e2, r2⟩ := ry
    refine .inr (.inr (.inl ⟨a, b, xs, ys, rfl, rfl, SqT.of e1, SqT.of e2, by rw [← RVs.length r1, ← RVs.length r2]; exact h.1, fun z => ?_, fun _ z => ?_, fun _ _ p hp => new_tup k ra (r1.app r2) h.2 hp⟩))
    · subst z
      obtain rfl := RVs.nilI r1
      exact k.here ra h.2 ⟨b, ys, rfl, e2, r2⟩
    · subst z
      obtain rfl := RVs.nilI r2
      exact k.here ra h.2 ⟨a, xs, rfl, e1, by rw [List.append_nil]; exact r1⟩
  · rename_i r q
    unfold catR at h
    split at h
    · rename_i xs ys e1 e2
      obtain ⟨us, h1, r1⟩ := ra.lst e1
      obtain ⟨vs, h2, r2⟩ := ra.lst e2
      obtain ⟨_, rfl⟩ := rx
      obtain ⟨_, rfl⟩ := ry
      exact .inr (.inr (.inr ⟨_, _, us, vs, rfl, rfl, h1, h2, by rw [← RVs.length r1, ← RVs.length r2]; exact h.1, fun p hp => new_lst k ra (r1.app r2) h.2 hp⟩))
    · exact h.elim
  · exact h.elim
def intD (C : Int → Int → Prop) (g : Int → Int → D) : DOp := fun x y A R => match x, y with
  | .int i, .int j => C i j ∧ R (g i j) A
  | _, _ => False
def intD0 (g : Int → Int → D) : DOp := fun x y A R => match x, y with
  | .int i, .int j => R (g i j) A
  | _, _ => False
theorem d_int {mg : Str → Option Value} {C : Int → Int → Prop} {g : Int → Int → V} {g' : Int → Int → D} (hg : ∀ i j ι n H, RV mg ι n H (g' i j) (g i j)) : OpD mg (rI C g) (intD C g') := by
  intro x y A ι H u v R Q ra rx ry h k
  unfold intD at h
  split at h
  · cases rx; cases ry
    exact ⟨_, _, rfl, rfl, h.1, k.here ra h.2 (hg _ _ _ _ _)⟩
  · exact h.elim
theorem d_int0 {mg : Str → Option Value} {g : Int → Int → V} {g' : Int → Int → D} (hg : ∀ i j ι n H, RV mg ι n H (g' i j) (g i j)) : OpD mg (rI0 g) (intD0 g') := by
  intro x y A ι H u v R Q ra rx ry h k
  unfold intD0 at h
  split at h
  · cases rx; cases ry
    exact ⟨_, _, rfl, rfl, k.here ra h (hg _ _ _ _ _)⟩
  · exact h.elim
abbrev subD : DOp := intD0 fun i j => .int (i - j)
abbrev mulD : DOp := intD CMul fun i j => .int (i * j)
abbrev divD : DOp := intD (fun _ j => 0 < j ∧ j.natAbs.log2 < 9000) fun i j => .int (i / j)
abbrev modD : DOp := intD (fun _ j => 0 < j) fun i j => .int (i % j)
abbrev powD : DOp := intD CPow fun i j => .int (i ^ j.toNat)
section
variable {X : Cx} {N : En} {pos : Pos} {a b c : Expr} {ma mb mc : DTE}
theorem de_add (ha : PE X a (up X.mg N ma)) (hb : PE X b (up X.mg N mb)) : PE X (.BinOp a .Add b pos) (up X.mg N (dOp addD ma mb)) := de_op o_add d_add ha hb
theorem de_sub (ha : PE X a (up X.mg N ma)) (hb : PE X b (up X.mg N mb)) : PE X (.BinOp a .Sub b pos) (up X.mg N (dOp subD ma mb)) := de_op op_sub (d_int0 fun _ _ _ _ _ => rfl) ha hb
theorem de_mul (ha : PE X a (up X.mg N ma)) (hb : PE X b (up X.mg N mb)) : PE X (.BinOp a .Mult b pos) (up X.mg N (dOp mulD ma mb)) := de_op op_mul (d_int fun _ _ _ _ _ => rfl) ha hb
theorem de_div (ha : PE X a (up X.mg N ma)) (hb : PE X b (up X.mg N mb)) : PE X (.BinOp a .FloorDiv b pos) (up X.mg N (dOp divD ma mb)) := de_op op_fdivL (d_int fun _ _ _ _ _ => rfl) ha hb
theorem de_mod (ha : PE X a (up X.mg N ma)) (hb : PE X b (up X.mg N mb)) : PE X (.BinOp a .Mod b pos) (up X.mg N (dOp modD ma mb)) := de_op op_mod (d_int fun _ _ _ _ _ => rfl) ha hb
theorem de_pow (ha : PE X a (up X.mg N ma)) (hb : PE X b (up X.mg N mb)) : PE X (.BinOp a .Pow b pos) (up X.mg N (dOp powD ma mb)) := de_op op_pow (d_int fun _ _ _ _ _ => rfl) ha hb
def dNeg (m : DTE) : DTE := fun τ A R => m τ A fun x A1 => match x with
  | .int i => R (.int (-i)) A1
  | _ => False
theorem de_neg (ha : PE X a (up X.mg N ma)) : PE X (.UnaryOp .USub a pos) (up X.mg N (dNeg ma)) := de_w (pe_un un_neg ha) fun σ H Q q => by
  obtain ⟨A, ι, τ, R, S, q, k⟩ := q
  refine ⟨A, ι, τ, _, S, q, fun x A1 ι1 H1 u q1 e1 r1 v1 => ?_⟩
  cases x with
  | int i => cases v1; exact ⟨i, rfl, (k.from e1).here r1 q1 rfl⟩
  | _ => exact q1.elim
end
abbrev rLt2 : R2 := fun x y H Q => rI0 (fun i j => .bl (decide (i < j))) x y H Q ∨ ∃ i j, x = .str i ∧ y = .str j ∧ Q (.bl (decide (i.cps.toList < j.cps.toList))) H
abbrev rLe2 : R2 := fun x y H Q => rI0 (fun i j => .bl (decide (i ≤ j))) x y H Q ∨ ∃ i j, x = .str i ∧ y = .str j ∧ Q (.bl (!decide (j.cps.toList < i.cps.toList))) H
theorem o_lt {X : Cx} : OpR X (compareOp .Lt) rLt2 := op_lt.or op_lt_str
theorem o_le {X : Cx} : OpR X (compareOp .LtE) rLe2 := op_le.or op_le_str
def ltD : DOp := fun x y A R => match x, y with
  | .int i, .int j => R (.bl (decide (i < j))) A
  | .str a, .str b => R (.bl (decide (a.cps.toList < b.cps.toList))) A
  | _, _ => False
def leD : DOp := fun x y A R => match x, y with
  | .int i, .int j => R (.bl (decide (i ≤ j))) A
  | .str a, .str b => R (.bl (!decide (b.cps.toList < a.cps.toList))) A
  | _, _ => False
theorem d_lt {mg : Str → Option Value} : OpD mg rLt2 ltD := by
  intro x y A ι H u v R Q ra rx ry h k
  unfold ltD at h
  split at h
  · cases rx; cases ry; exact .inl ⟨_, _, rfl, rfl, k.here ra h rfl⟩
  · cases rx; cases ry; exact .inr ⟨_, _, rfl, rfl, k.here ra h rfl⟩
  · exact h.elim
theorem d_le {mg : Str → Option Value} : OpD mg rLe2 leD := by
  intro x y A ι H u v R Q ra rx ry h k
  unfold leD at h
  split at h
  · cases rx; cases ry; exact .inl ⟨_, _, rfl, rfl, k.here ra h rfl⟩
  · cases rx; cases ry; exact .inr ⟨_, _, rfl, rfl, k.here ra h rfl⟩
  · exact h.elim
abbrev gtD : DOp := intD0 fun i j => .bl (decide (j < i))
theorem d_gt {mg : Str → Option Value} : OpD mg (rI0 fun i j => .bl (decide (j < i))) gtD := d_int0 fun _ _ _ _ _ => rfl
def isNo : D → Bool
  | .non => true
  | _ => false
def isND : DOp := fun x y A R => match y with
  | .non => R (.bl (isNo x)) A
  | _ => False
theorem RV.non_iff {mg : Str → Option Value} {ι : Io} {n : Nat} {H : Hp} {x : D} {u : V} (r : RV mg ι n H x u) : decide (u = .non) = isNo x := by
  cases x with
  | non => cases r; rfl
  | bl b => cases r; rfl
  | int b => cases r; rfl
  | str b => cases r; rfl
  | tup ds => obtain ⟨a, xs, rfl, _⟩ := r; rfl
  | ref q => obtain ⟨_, rfl⟩ := r; rfl
  | fl ns => obtain ⟨a, o, rfl, _⟩ := r; rfl
  | exc c => obtain ⟨a, C, rfl, _⟩ := r; rfl
theorem d_isN {mg : Str → Option Value} : OpD mg (fun x y H Q => y = .non ∧ Q (.bl (decide (x = .non))) H) isND := by
  intro x y A ι H u v R Q ra rx ry h k
  unfold isND at h
  split at h
  · cases ry
    refine ⟨rfl, ?_⟩
    rw [rx.non_iff]
    exact k.here ra h rfl
  · exact h.elim
mutual
def toQ : D → PyData
  | .non => .none
  | .bl b => .bool b
  | .int i => .int i
  | .str x => .str x
  | .tup xs => .tuple (toQs xs)
  | .ref _ => .none
  | .fl ns => .list (ns.map .int)
  | .exc _ => .none
def toQs : List D → List PyData
  | [] => []
  | d :: r => toQ d :: toQs r
end
mutual
def pur : D → Bool
  | .tup xs => purs xs
  | .ref _ => false
  | .exc _ => false
  | _ => true
def purs : List D → Bool
  | [] => true
  | d :: r => pur d && purs r
end
def toP (A : Ar) : D → PyData
  | .ref r => match A[r]? with
    | some (.lst xs) => .list (toQs xs)
    | _ => .none
  | d => toQ d
def okP (A : Ar) : D → Bool
  | .ref r => match A[r]? with
    | some (.lst xs) => purs xs
    | _ => false
  | d => pur d
section
variable {mg : Str → Option Value} {K : PySem.W.Frag} {A : Ar} {ι : Io} {H : Hp}
theorem dp_ints : ∀ ns : List Int, DpAll K H (ns.map V.int) (ns.map PyData.int) := DpAll.ints
mutual
theorem RV.dp {n : Nat} : ∀ (d : D) (v : V), pur d = true → RV mg ι n H d v → Dp K H v (toQ d)
  | .non, _, _, h => by cases h; exact .non
  | .bl b, _, _, h => by cases h; exact .bl b
  | .int i, _, _, h => by cases h; exact .int i
  | .str x, _, _, h => by cases h; exact .str x
  | .tup ds, v, p, h => by
    obtain ⟨a, xs, rfl, e, r⟩ := h
    exact .tup (SqT.of e) (RVs.dp ds xs (by simpa [pur] using p) r)
  | .ref _, _, p, _ => by simp [pur] at p
  | .fl ns, v, _, h => by
    obtain ⟨a, o, rfl, e⟩ := h
    exact .lst (.inl (.inr ⟨o, e⟩)) (dp_ints ns)
  | .exc _, _, p, _ => by simp [pur] at p
theorem RVs.dp {n : Nat} : ∀ (ds : List D) (vs : List V), purs ds = true → RVs mg ι n H ds vs → DpAll K H vs (toQs ds)
  | [], vs, _, h => by cases (show vs = [] from h); exact .nil
  | d :: ds, vs, p, h => by
    obtain ⟨x, r, rfl, h1, h2⟩ := h
    have p' : pur d = true ∧ purs ds = true := by simpa [purs] using p
    exact .cons (RV.dp d x p'.1 h1) (RVs.dp ds r p'.2 h2)
end
theorem RA.dp (ra : RA mg ι H A) {d : D} {v : V} (p : okP A d = true) (h : RV mg ι A.length H d v) : Dp K H v (toP A d) := by
  cases d with
  | ref r =>
    obtain ⟨_, rfl⟩ := h
    unfold okP at p
    unfold toP
    simp only at p ⊢
    split at p
    · rename_i xs e
      obtain ⟨us, h1, r1⟩ := ra.lst e
      exact .lst (SqL.of h1) (RVs.dp xs us p r1)
    · cases p
  | _ => exact RV.dp _ v p h
end
@[irreducible] def dataEq (neg : Bool) (x y : D) (A : Ar) (R : DK) : Prop := okP A x = true ∧ okP A y = true ∧ (toP A x).canLay0 = true ∧ (toP A y).canLay0 = true ∧ min (toP A x).depth (toP A y).depth ≤ 64 ∧ R (.bl (if neg then !PyData.eqv (toP A x) (toP A y) else PyData.eqv (toP A x) (toP A y))) A
def eqD : DOp := fun x y A R => match x, y with
  | .int i, .int j => R (.bl (decide (i = j))) A
  | .str a, .str b => R (.bl (decide (a = b))) A
  | .bl a, .bl b => R (.bl (decide (a = b))) A
  | x, y => dataEq false x y A R
def neD : DOp := fun x y A R => match x, y with
  | .int i, .int j => R (.bl (!decide (i = j))) A
  | .str a, .str b => R (.bl (!decide (a = b))) A
  | .bl a, .bl b => R (.bl (!decide (a = b))) A
  | x, y => dataEq true x y A R
theorem o_eq {X : Cx} (hu : X.A.units + 64 < cLine) : OpR X (compareOp .Eq) (fun x y H Q => rEq x y H Q ∨ rEqD X.K x y H Q) := op_eq.or (op_eqD hu)
theorem o_ne {X : Cx} (hu : X.A.units + 64 < cLine) : OpR X (compareOp .NotEq) (fun x y H Q => rNe x y H Q ∨ rNeD X.K x y H Q) := op_ne.or (op_neD hu)
theorem d_eq {mg : Str → Option Value} {K : PySem.W.Frag} : OpD mg (fun x y H Q => rEq x y H Q ∨ rEqD K x y H Q) eqD := by
  intro x y A ι H u v R Q ra rx ry h k
  unfold eqD at h
  split at h
  · cases rx; cases ry
    rename_i i j
    refine .inl ⟨rfl, ?_⟩
    have e : decide (V.int i = V.int j) = decide (i = j) := by simp
    rw [e]
    exact k.here ra h rfl
  · cases rx; cases ry
    rename_i i j
    refine .inl ⟨rfl, ?_⟩
    have e : decide (V.str i = V.str j) = decide (i = j) := by simp
    rw [e]
    exact k.here ra h rfl
  · cases rx; cases ry
    rename_i i j
    refine .inl ⟨rfl, ?_⟩
    have e : decide (V.bl i = V.bl j) = decide (i = j) := by simp
    rw [e]
    exact k.here ra h rfl
  · unfold dataEq at h
    obtain ⟨p1, p2, c1, c2, hd, q⟩ := h
    exact .inr ⟨_, _, ra.dp p1 rx, ra.dp p2 ry, c1, c2, hd, k.here ra q rfl⟩
theorem d_ne {mg : Str → Option Value} {K : PySem.W.Frag} : OpD mg (fun x y H Q => rNe x y H Q ∨ rNeD K x y H Q) neD := by
  intro x y A ι H u v R Q ra rx ry h k
  unfold neD at h
  split at h
  · cases rx; cases ry
    rename_i i j
    refine .inl ⟨rfl, ?_⟩
    have e : decide (V.int i = V.int j) = decide (i = j) := by simp
    rw [e]
    exact k.here ra h rfl
  · cases rx; cases ry
    rename_i i j
    refine .inl ⟨rfl, ?_⟩
    have e : decide (V.str i = V.str j) = decide (i = j) := by simp
    rw [e]
    exact k.here ra h rfl
  · cases rx; cases ry
    rename_i i j
    refine .inl ⟨rfl, ?_⟩
    have e : decide (V.bl i = V.bl j) = decide (i = j) := by simp
    rw [e]
    exact k.here ra h rfl
  · unfold dataEq at h
    obtain ⟨p1, p2, c1, c2, hd, q⟩ := h
    exact .inr ⟨_, _, ra.dp p1 rx, ra.dp p2 ry, c1, c2, hd, k.here ra q rfl⟩
def keyD : D → Option Key
  | .int i => some (.inl i)
  | .str x => some (.inr x)
  | _ => none
def getK : List (Key × D) → Key → Option D
  | [], _ => none
  | p :: r, k => if p.1 = k then some p.2 else getK r k
@[irreducible] def ixR (r : Nat) (y : D) (A : Ar) (R : DK) : Prop := match A[r]? with
  | some (.lst xs) => (match y with
    | .int i => (match atI xs i with
      | some v => R v A
      | none => False)
    | _ => False)
  | some (.dct kvs) => (match keyD y with
    | some k => (match getK kvs k with
      | some v => R v A
      | none => False)
    | none => False)
  | some (.fdc _ kvs) => (match keyD y with
    | some k => (match getK kvs k with
      | some v => R v A
      | none => False)
    | none => False)
  | _ => False
def ixD : DOp := fun x y A R => match x, y with
  | .tup xs, .int i => match atI xs i with
    | some v => R v A
    | none => False
  | .str z, .int i => match atI z.cps.toList i with
    | some c => z.length ≤ sizeLine ∧ R (.str ⟨#[c]⟩) A
    | none => False
  | .fl ns, .int i => match atI ns i with
    | some c => R (.int c) A
    | none => False
  | .ref r, y => ixR r y A R
  | _, _ => False
section
variable {mg : Str → Option Value} {K : PySem.W.Frag} {A : Ar} {ι : Io} {H : Hp}
theorem RVs.atI {n : Nat} {ds : List D} {vs : List V} {i : Int} {d : D} (r : RVs mg ι n H ds vs) (h : L2.atI ds i = some d) : ∃ v, L2.atI vs i = some v ∧ RV mg ι n H d v := by
  unfold L2.atI at h ⊢
  rw [← RVs.length r]
  cases q : ixN ds.length i with
  | none => rw [q] at h; cases h
  | some j =>
    rw [q] at h
    exact RVs.get r h
theorem atI_map {α β : Type} (f : α → β) (xs : List α) (i : Int) : L2.atI (xs.map f) i = (L2.atI xs i).map f := by
  unfold L2.atI
  rw [List.length_map]
  cases ixN xs.length i with
  | none => rfl
  | some j => simp
theorem RK.get {n : Nat} : ∀ {kvs : List (Key × D)} {xs : List (Key × V)} {k : Key}, RK mg ι n H kvs xs → (∀ d, getK kvs k = some d → ∃ v, valV xs k = some v ∧ RV mg ι n H d v) ∧ (getK kvs k = none → valV xs k = none)
  | [], xs, k, h => by
    cases (show xs = [] from h)
    exact ⟨fun d e => by simp [getK] at e, fun _ => rfl⟩
  | p :: r, xs, k, h => by
    obtain ⟨x, r', rfl, h1, h2⟩ := h
    obtain ⟨g1, g2⟩ := RK.get (k := k) h2
    unfold getK
    by_cases hk : p.1 = k
    · rw [if_pos hk]
      have e : valV ((p.1, x) :: r') k = some x := by simp [valV, hk]
      rw [e]
      exact ⟨fun d z => by cases z; exact ⟨x, rfl, h1⟩, fun z => by cases z⟩
    · rw [if_neg hk]
      have e : valV ((p.1, x) :: r') k = valV r' k := by simp [valV, List.find?_cons, hk]
      rw [e]
      exact ⟨g1, g2⟩
theorem keyD_kV {n : Nat} {y : D} {v : V} {k : Key} (h : keyD y = some k) (r : RV mg ι n H y v) : v = kV k := by
  cases y with
  | int i => cases h; exact r
  | str x => cases h; exact r
  | _ => cases h
end
def rIxD : R2 := fun x y H Q => ∃ a v, x = .ref a ∧ DGet H a y (some v) ∧ Q v H
theorem ix_dct {X : Cx} (hu : X.A.units + 64 < cLine) : IxR X rIxD := by
  intro value slice pins s σ H x y v u Q I rx ry h hs
  obtain ⟨a, z, rfl, g, q⟩ := h
  cases rx
  exact tail_any (dict_typeIs I g) PySem.F.slot_dict_getitem.lookup (d_getItem (by omega) I g ry fun w' s3 I3 rw' => ⟨z, H, I3, rw', q⟩) hs
abbrev rIx4 (K : PySem.W.Frag) : R2 := fun x y H Q => rIx K x y H Q ∨ rIxD x y H Q
theorem i_x {X : Cx} (hu : X.A.units + 64 < cLine) : IxR X (rIx4 X.K) := ix_seq.or (ix_dct hu)
theorem d_ix {mg : Str → Option Value} {K : PySem.W.Frag} : OpD mg (rIx4 K) ixD := by
  intro x y A ι H u v R Q ra rx ry h k
  unfold ixD at h
  split at h
  · obtain ⟨a, xs, rfl, e1, r1⟩ := rx
    cases ry
    split at h
    · rename_i d e
      obtain ⟨z, hz, rz⟩ := r1.atI e
      exact .inl (.inr (.inl ⟨a, xs, _, z, rfl, rfl, SqT.of e1, hz, k.here ra h rz⟩))
    · exact h.elim
  · cases rx; cases ry
    split at h
    · rename_i d e
      exact .inl (.inr (.inr ⟨_, _, _, rfl, rfl, h.1, e, k.here ra h.2 rfl⟩))
    · exact h.elim
  · obtain ⟨a, o, rfl, e1⟩ := rx
    cases ry
    split at h
    · rename_i d e
      exact .inl (.inl ⟨a, _, _, _, rfl, rfl, .inl (.inr ⟨o, e1⟩), by rw [atI_map, e]; rfl, k.here ra h rfl⟩)
    · exact h.elim
  · obtain ⟨_, rfl⟩ := rx
    unfold ixR at h
    split at h
    · rename_i xs e
      obtain ⟨us, h1, r1⟩ := ra.lst e
      split at h
      · cases ry
        split at h
        · rename_i d e
          obtain ⟨z, hz, rz⟩ := r1.atI e
          exact .inl (.inl ⟨_, us, _, z, rfl, rfl, SqL.of h1, hz, k.here ra h rz⟩)
        · exact h.elim
      · exact h.elim
    · rename_i kvs e
      obtain ⟨us, h1, r1⟩ := ra.dct e
      split at h
      · rename_i ky ek
        cases keyD_kV ek ry
        split at h
        · rename_i d ed
          obtain ⟨z, hz, rz⟩ := (RK.get r1).1 d ed
          exact .inr ⟨_, z, rfl, .inl ⟨us, ky, .inl h1, rfl, hz.symm⟩, k.here ra h rz⟩
        · exact h.elim
      · exact h.elim
    · rename_i o kvs e
      obtain ⟨us, h1, r1⟩ := ra.fdc e
      split at h
      · rename_i ky ek
        cases keyD_kV ek ry
        split at h
        · rename_i d ed
          obtain ⟨z, hz, rz⟩ := (RK.get r1).1 d ed
          exact .inr ⟨_, z, rfl, .inl ⟨us, ky, .inr ⟨o, h1⟩, rfl, hz.symm⟩, k.here ra h rz⟩
        · exact h.elim
      · exact h.elim
    · exact h.elim
  · exact h.elim
theorem de_ix {X : Cx} {N : En} {pos : Pos} {a b : Expr} {ma mb : DTE} (hu : X.A.units + 64 < cLine) (ha : PE X a (up X.mg N ma)) (hb : PE X b (up X.mg N mb)) (hs : PlainIx b) : PE X (.Subscript a b pos) (up X.mg N (dOp ixD ma mb)) :=
  de_w (pe_ix (i_x hu) ha hb hs) fun _ _ _ h => up_op d_ix h
end DP
namespace DP
open PySem PySem.Spec PyProof.Rows L2
structure DEnds where
  nx : DSt → Ar → Prop
  rt : DK
  bk : DSt → Ar → Prop := fun _ _ => False
  ct : DSt → Ar → Prop := fun _ _ => False
abbrev DTS := DEnds → DSt → Ar → Prop
def KtN (mg : Str → Option Value) (A : Ar) (ι : Io) (H : Hp) (R : DSt → Ar → Prop) (Q : L2.St → Hp → Prop) : Prop := ∀ τ A' ι' σ H', R τ A' → Ext A ι H A' ι' H' → RA mg ι' H' A' → RS mg ι' A'.length H' τ σ → Q σ H'
structure KtS (mg : Str → Option Value) (A : Ar) (ι : Io) (H : Hp) (R : DEnds) (Q : Ends) : Prop where
  nx : KtN mg A ι H R.nx Q.nx
  rt : Kt mg A ι H R.rt Q.rt
  bk : KtN mg A ι H R.bk Q.bk
  ct : KtN mg A ι H R.ct Q.ct
def upS (mg : Str → Option Value) (N : En) (m : DTS) : TS := fun Q σ H => ∃ A ι τ R, Sim mg N A ι τ σ H ∧ m R τ A ∧ KtS mg A ι H R Q
section
variable {mg : Str → Option Value} {N : En} {A A' : Ar} {ι ι' : Io} {τ τ' : DSt} {σ σ' : L2.St} {H H' : Hp}
theorem KtN.from {R : DSt → Ar → Prop} {Q : L2.St → Hp → Prop} (k : KtN mg A ι H R Q) (e : Ext A ι H A' ι' H') : KtN mg A' ι' H' R Q := fun τ A2 ι2 σ H2 q e2 => k τ A2 ι2 σ H2 q (e.trans e2)
theorem KtS.from {R : DEnds} {Q : Ends} (k : KtS mg A ι H R Q) (e : Ext A ι H A' ι' H') : KtS mg A' ι' H' R Q := ⟨k.nx.from e, k.rt.from e, k.bk.from e, k.ct.from e⟩
theorem KtN.here {R : DSt → Ar → Prop} {Q : L2.St → Hp → Prop} (k : KtN mg A ι H R Q) (S : Sim mg N A ι τ σ H) (q : R τ A) : Q σ H := k τ A ι σ H q S.ra.refl S.ra S.rs
theorem Sim.to (S : Sim mg N A ι τ σ H) (e : Ext A ι H A' ι' H') (r : RA mg ι' H' A') (s : RS mg ι' A'.length H' τ' σ') : Sim mg N A' ι' τ' σ' H' := ⟨r, s, S.ex.trans e⟩
theorem lk_set_self : ∀ (τ : DSt) (i : Nat) (d : D), i < τ.length → lk (τ.set i (some d)) i = some d
  | [], i, d, h => by simp at h
  | x :: r, 0, d, _ => rfl
  | x :: r, i + 1, d, h => lk_set_self r i d (by simpa using h)
theorem lk_set_ne : ∀ (τ : DSt) (i j : Nat) (d : Option D), j ≠ i → lk (τ.set i d) j = lk τ j
  | [], i, j, d, _ => rfl
  | x :: r, 0, 0, d, h => absurd rfl h
  | x :: r, 0, j + 1, d, _ => rfl
  | x :: r, i + 1, 0, d, _ => rfl
  | x :: r, i + 1, j + 1, d, h => lk_set_ne r i j d (by omega)
theorem RS.set {n : Nat} {i : Nat} {d : D} {v : V} (r : RS mg ι n H τ σ) (h : RV mg ι n H d v) : RS mg ι n H (τ.set i (some d)) (σ.set i (some v)) := ⟨by simp [r.len], fun j e q => by
  by_cases hj : j = i
  · subst hj
    by_cases hl : j < τ.length
    · rw [lk_set_self _ _ _ hl] at q
      cases q
      refine ⟨v, ?_, h⟩
      rw [List.getElem?_set_self (by rw [← r.len]; exact hl)]
    · rw [List.set_eq_of_length_le (by omega)] at q
      rw [lk_get, List.getElem?_eq_none (by omega)] at q
      cases q
  · rw [lk_set_ne _ _ _ _ hj] at q
    obtain ⟨w, h1, h2⟩ := r.at' j e q
    exact ⟨w, by rw [List.getElem?_set_ne (Ne.symm hj)]; exact h1, h2⟩⟩
theorem Sim.set {i : Nat} {d : D} {v : V} (S : Sim mg N A ι τ σ H) (h : RV mg ι A.length H d v) : Sim mg N A ι (τ.set i (some d)) (σ.set i (some v)) H := ⟨S.ra, S.rs.set h, S.ex⟩
end
def sNext : DTS := fun R τ A => R.nx τ A
def sSeq (t u : DTS) : DTS := fun R τ A => t { R with nx := u R } τ A
def sExpr (m : DTE) : DTS := fun R τ A => m τ A fun _ A1 => R.nx τ A1
def sRet (m : DTE) : DTS := fun R τ A => m τ A R.rt
def sIf (c : DTT) (t u : DTS) : DTS := fun R τ A => c τ A fun b A1 => cond b (t R τ A1) (u R τ A1)
section
variable {X : Cx} {N : En} {pos : Pos} {st : Stmt} {rest : List Stmt} {t u : DTS} {e : Expr} {m : DTE}
theorem dss_nil : PSs X [] (upS X.mg N sNext) := dss_w pss_nil fun Q σ H q => by
  obtain ⟨A, ι, τ, R, S, q, k⟩ := q
  exact k.nx.here S q
theorem dss_cons (h1 : PS X st (upS X.mg N t)) (h2 : PSs X rest (upS X.mg N u)) : PSs X (st :: rest) (upS X.mg N (sSeq t u)) := dss_w (pss_cons h1 h2) fun Q σ H q => by
  obtain ⟨A, ι, τ, R, S, q, k⟩ := q
  exact ⟨A, ι, τ, _, S, q, ⟨fun τ1 A1 ι1 σ1 H1 q1 e1 r1 s1 => ⟨A1, ι1, τ1, R, S.to e1 r1 s1, q1, k.from e1⟩, k.rt, k.bk, k.ct⟩⟩
theorem dss_one (h1 : PS X st (upS X.mg N t)) : PSs X [st] (upS X.mg N t) := pss_one h1
theorem ds_expr (he : PE X e (up X.mg N m)) (hs : swapsWith e none pos.line X.env = pure false := by rfl) : PS X (.Expr e pos) (upS X.mg N (sExpr m)) := ds_w (ps_expr he hs) fun Q σ H q => by
  obtain ⟨A, ι, τ, R, S, q, k⟩ := q
  exact ⟨A, ι, τ, _, S, q, fun v A1 ι1 H1 u q1 e1 r1 v1 => (k.nx.from e1).here (S.next e1 r1) q1⟩
theorem ds_ret (he : PE X e (up X.mg N m)) : PS X (.Return (some e) pos) (upS X.mg N (sRet m)) := ds_w (ps_ret he) fun Q σ H q => by
  obtain ⟨A, ι, τ, R, S, q, k⟩ := q
  exact ⟨A, ι, τ, _, S, q, k.rt⟩
theorem ds_if {c : Expr} {a b : List Stmt} {tc : DTT} (hc : PT X c (upT X.mg N tc)) (ha : PSs X a (upS X.mg N t)) (hb : PSs X b (upS X.mg N u)) : PS X (.If c a b pos) (upS X.mg N (sIf tc t u)) := ds_w (ps_if hc ha hb) fun Q σ H q => by
  obtain ⟨A, ι, τ, R, S, q, k⟩ := q
  refine ⟨A, ι, τ, _, S, q, fun x A1 ι1 H1 q1 e1 r1 => ?_⟩
  cases x with
  | true => rw [if_pos rfl]; exact ⟨A1, ι1, τ, R, S.next e1 r1, q1, k.from e1⟩
  | false => rw [if_neg Bool.false_ne_true]; exact ⟨A1, ι1, τ, R, S.next e1 r1, q1, k.from e1⟩
end
abbrev DTG := D → DSt → Ar → (DSt → Ar → Prop) → Prop
abbrev DTGs := List D → DSt → Ar → (DSt → Ar → Prop) → Prop
def upG (mg : Str → Option Value) (N : En) (g : DTG) : TG := fun v σ H Q => ∃ A ι τ d R, Sim mg N A ι τ σ H ∧ RV mg ι A.length H d v ∧ g d τ A R ∧ KtN mg A ι H R Q
def upGs (mg : Str → Option Value) (N : En) (g : DTGs) : TGs := fun vs σ H Q => ∃ A ι τ ds R, Sim mg N A ι τ σ H ∧ RVs mg ι A.length H ds vs ∧ g ds τ A R ∧ KtN mg A ι H R Q
def gN (i : Nat) : DTG := fun d τ A R => R (τ.set i (some d)) A
def gs0 : DTGs := fun ds τ A R => match ds with
  | [] => R τ A
  | _ => False
def gsC (g : DTG) (h : DTGs) : DTGs := fun ds τ A R => match ds with
  | d :: r => g d τ A fun τ1 A1 => h r τ1 A1 R
  | [] => False
def gT (n : Nat) (g : DTGs) : DTG := fun d τ A R => match d with
  | .tup ds => ds.length = n ∧ g ds τ A R
  | _ => False
def sAsg (m : DTE) (g : DTG) : DTS := fun R τ A => m τ A fun v A1 => g v τ A1 R.nx
section
variable {X : Cx} {N : En} {pos : Pos} {e tg : Expr} {es : List Expr} {m : DTE} {g : DTG} {gs : DTGs}
theorem dg_w {t t' : TG} (h : PG X tg t) (w : ∀ v σ H Q, t' v σ H Q → t v σ H Q) : PG X tg t' := fun pins s σ H v u Q I r q => h pins s σ H v u Q I r (w v σ H Q q)
theorem dgs_w {t t' : TGs} (h : PGs X es t) (w : ∀ v σ H Q, t' v σ H Q → t v σ H Q) : PGs X es t' := fun pins s σ H v u Q I r q => h pins s σ H v u Q I r (w v σ H Q q)
theorem dg_name {i : Nat} {x : Str} (hN : X.N.Nodup) (hi : X.N[i]? = some x) (hx : Loc X.env.scope x) (hf : X.fn x = true ∨ X.env.scope.names.lookup x = some .local := by first | exact .inl rfl | exact .inr rfl | assumption) : PG X (.Name x pos) (upG X.mg N (gN i)) :=
  dg_w (pg_name hN hi hx hf) fun v σ H Q q => by
    obtain ⟨A, ι, τ, d, R, S, r, q, k⟩ := q
    exact k.here (S.set r) q
theorem dgs_nil : PGs X [] (upGs X.mg N gs0) := dgs_w pgs_nil fun v σ H Q q => by
  obtain ⟨A, ι, τ, ds, R, S, r, q, k⟩ := q
  unfold gs0 at q
  split at q
  · exact ⟨r, k.here S q⟩
  · exact q.elim
theorem dgs_cons (h1 : PG X e (upG X.mg N g)) (h2 : PGs X es (upGs X.mg N gs)) (hs : (assignEach (e :: es) X.env).map (·.2) = assign e X.env :: (assignEach es X.env).map (·.2) := by rfl) : PGs X (e :: es) (upGs X.mg N (gsC g gs)) :=
  dgs_w (pgs_cons h1 h2 hs) fun v σ H Q q => by
    obtain ⟨A, ι, τ, ds, R, S, r, q, k⟩ := q
    cases ds with
    | nil => exact q.elim
    | cons d ds =>
      obtain ⟨x, xs, rfl, r1, r2⟩ := r
      refine ⟨x, xs, rfl, A, ι, τ, d, _, S, r1, q, fun τ1 A1 ι1 σ1 H1 q1 e1 a1 s1 => ?_⟩
      exact ⟨A1, ι1, τ1, ds, R, S.to e1 a1 s1, RVs.ext e1 ds xs r2, q1, k.from e1⟩
theorem dg_tup {k n : Nat} (hc : X.calm = true) (h : PGs X es (upGs X.mg N gs)) (hn : (assignEach es X.env).length = n := by rfl) (hst : (assignEach es X.env).findIdx? (·.1) = none := by rfl) : PG X (.Tuple es k pos) (upG X.mg N (gT n gs)) :=
  dg_w (pg_tup hc h hn hst) fun v σ H Q q => by
    obtain ⟨A, ι, τ, d, R, S, r, q, k⟩ := q
    cases d with
    | tup ds =>
      obtain ⟨a, xs, rfl, h1, h2⟩ := r
      exact ⟨a, xs, rfl, SqT.of h1, by rw [← RVs.length h2]; exact q.1, A, ι, τ, ds, R, S, h2, q.2, k⟩
    | _ => exact q.elim
theorem up_asg {te : TE} {σ : L2.St} {H : Hp} {Q : Ends} (he : ∀ σ H Q, up X.mg N m σ H Q → te σ H Q) (q : upS X.mg N (sAsg m g) Q σ H) : tAsg te (upG X.mg N g) Q σ H := by
  obtain ⟨A, ι, τ, R, S, q, k⟩ := q
  exact he _ _ _ ⟨A, ι, τ, _, S, q, fun v A1 ι1 H1 u q1 e1 r1 v1 => ⟨A1, ι1, τ, v, _, S.next e1 r1, v1, q1, k.nx.from e1⟩⟩
theorem ds_asg (he : PE X e (up X.mg N m)) (hg : PG X tg (upG X.mg N g)) (hs : swapsWithSole [tg] e pos.line X.env = pure false := by rfl) (hw : swappedStores [tg] e X.env = pure none := by rfl)
    (h1 : (assignEach [tg] X.env).map (·.2) = [assign tg X.env] := by rfl) : PS X (.Assign [tg] e pos) (upS X.mg N (sAsg m g)) := ds_w (ps_asg he hg hs hw h1) fun _ _ _ q => up_asg (fun _ _ _ h => h) q
def sSet (i : Nat) (m : DTE) : DTS := fun R τ A => m τ A fun v A1 => R.nx (τ.set i (some v)) A1
theorem ds_set {i : Nat} {x : Str} {pos' : Pos} (hN : X.N.Nodup) (hi : X.N[i]? = some x) (hx : Loc X.env.scope x) (he : PE X e (up X.mg N m)) (hs : swapsWith e (some (.Name x pos')) pos.line X.env = pure false := by rfl) (hf : X.fn x = true ∨ X.env.scope.names.lookup x = some .local := by first | exact .inl rfl | exact .inr rfl | assumption) :
    PS X (.Assign [.Name x pos'] e pos) (upS X.mg N (sSet i m)) := ds_w (ps_set hN hi hx he hs hf) fun Q σ H q => by
  obtain ⟨A, ι, τ, R, S, q, k⟩ := q
  exact ⟨A, ι, τ, _, S, q, fun v A1 ι1 H1 u q1 e1 r1 v1 => (k.nx.from e1).here ((S.next e1 r1).set v1) q1⟩
def sPar (i j : Nat) (n : DTA) : DTS := fun R τ A => n τ A fun vs A1 => match vs with
  | [v, w] => R.nx ((τ.set i (some v)).set j (some w)) A1
  | _ => False
theorem ds_par {i j : Nat} {x y : Str} {a b : Expr} {n : DTA} {px py pt : Pos} {kt k2 pt2} (hc : X.calm = true) (hN : X.N.Nodup) (hi : X.N[i]? = some x) (hj : X.N[j]? = some y) (hij : i ≠ j)
    (hx : X.env.scope.names.lookup x = some .local) (hy : X.env.scope.names.lookup y = some .local) (ha : PA X [a, b] (upA X.mg N n))
    (hw : swappedStores [.Tuple [.Name x px, .Name y py] kt pt] (.Tuple [a, b] k2 pt2) X.env = pure (some [x, y]))
    (hs : swapsWithSole [.Tuple [.Name x px, .Name y py] kt pt] (.Tuple [a, b] k2 pt2) pos.line X.env = pure false := by rfl) :
    PS X (.Assign [.Tuple [.Name x px, .Name y py] kt pt] (.Tuple [a, b] k2 pt2) pos) (upS X.mg N (sPar i j n)) := ds_w (ps_par hc hN hi hj hij hx hy ha hw hs) fun Q σ H q => by
  obtain ⟨A, ι, τ, R, S, q, k⟩ := q
  refine ⟨A, ι, τ, _, S, q, fun vs A1 ι1 H1 us q1 e1 r1 v1 => ?_⟩
  match vs, q1, v1 with
  | [v, w], q1, v1 =>
    obtain ⟨x1, _, rfl, h1, x2, _, rfl, h2, h3⟩ := v1
    obtain rfl := h3
    exact ⟨x1, x2, rfl, (k.nx.from e1).here (((S.next e1 r1).set h1).set h2) q1⟩
  | [], q1, _ => exact q1.elim
  | [_], q1, _ => exact q1.elim
  | _ :: _ :: _ :: _, q1, _ => exact q1.elim
end
abbrev DX := Str → Ar → Prop
abbrev Ct := List D → Ar → DK → DX → Prop
def KtX (mg : Str → Option Value) (A : Ar) (ι : Io) (H : Hp) (R : DX) (E : XK) : Prop := ∀ c A' ι' H' C, R c A' → mg c = some (.ref C) → Ext A ι H A' ι' H' → RA mg ι' H' A' → E (.ref C) none H'
def spOf (mg : Str → Option Value) (n : Nat) (S : Ct) : Sp := fun vs H Q E => ∃ A ι ds R RE, ds.length = n ∧ RA mg ι H A ∧ RVs mg ι A.length H ds vs ∧ S ds A R RE ∧ Kt mg A ι H R Q ∧ KtX mg A ι H RE E
def EL (mg : Str → Option Value) (N : En) (R : DX) : XK := fun C _ H' => ∃ c A' ι', (∃ a, C = .ref a ∧ mg c = some (.ref a)) ∧ Ext N.A N.ι N.H A' ι' H' ∧ RA mg ι' H' A' ∧ R c A'
def dCall (n : Nat) (S : Ct) (RE : DX) (m : DTA) : DTE := fun τ A R => m τ A fun vs A1 => vs.length = n ∧ S vs A1 R RE
section
variable {X : Cx} {N : En} {k n : Nat} {x : Str} {ps : List Str} {S : Ct} {RE : DX} {e : Expr} {es : List Expr} {m : DTA} {p pos : Pos}
theorem de_call (F : FnX X.prog X.w X.K X.mg X.base k x ps (spOf X.mg n S)) (hr : Room k X.A) (hx : Passes (CX1 X.prog X.w) X (EL X.mg N RE)) (ha : PA X (e :: es) (upA X.mg N m)) (hg : Gl X x := by rfl) (hdb : (x == ("__debug__" : Str)) = false := by decide)
    (he : starEach (e :: es) X.env = (false, eval e X.env) :: starEach es X.env := by rfl) (hpl : (backTo pos (starEach es X.env)).any (·.1) = false := by rfl) :
    PE X (.Call (.Name x p) (e :: es) [] pos) (up X.mg N (dCall n S RE m)) := de_w (pe_callX F hr hx ha hg hdb he hpl) fun σ H Q q => by
  obtain ⟨A, ι, τ, R, Z, q, k⟩ := q
  refine ⟨A, ι, τ, _, Z, q, fun vs A1 ι1 H1 us q1 e1 r1 v1 => ?_⟩
  show spOf X.mg n S (us ++ []) H1 Q (EL X.mg N RE)
  rw [List.append_nil]
  exact ⟨A1, ι1, vs, R, RE, q1.1, r1, v1, q1.2, k.from e1, fun c A2 ι2 H2 C q2 hc e2 r2 => ⟨c, A2, ι2, ⟨C, rfl, hc⟩, (Z.ex.trans e1).trans e2, r2, q2⟩⟩
end
def startD (n : Nat) (ds : List D) : DSt := ds.map some ++ List.replicate n none
theorem lk_start : ∀ (ds : List D) (n i : Nat) (d : D), lk (startD n ds) i = some d → ds[i]? = some d
  | [], n, i, d, h => by
    rw [lk_get] at h
    simp [startD, List.getElem?_replicate] at h
    split at h <;> simp at h
  | x :: r, n, 0, d, h => by simpa [startD, lk] using h
  | x :: r, n, i + 1, d, h => by simpa using lk_start r n i d h
theorem TopD.fnD {P : Program} {w : World} {K : PySem.W.Frag} {mg : Str → Option Value} {base : Heap} {x : Str} {st : Stmt} {Nm ps : List Str} {k n : Nat} {S : Ct} (T : TopD K mg x st ps) (Sc : FnScope Nm ps (defScope st)) (hn : ps.length = n) (hN : ps.length ≤ Nm.length)
    (hbody : ∀ (N : En) (RE : DX) (X : Cx), X.prog = P → X.w = w → X.K = K → X.mg = mg → X.base = base → X.N = Nm → X.calm = true → X.ex = [] → (∃ f cdv A outer s H E, X = cxOf (CX1 P w) P w K mg base Nm x (defScope st) f cdv A outer s H E) → Room k X.A → Raises X (EL X.mg N RE) → Passes (CX1 X.prog X.w) X (EL X.mg N RE) →
      ∀ ds A R, S ds A R RE → ds.length = n → ∃ m, PSs X (defBody st) (upS X.mg N m) ∧ m { nx := fun _ A' => R .non A', rt := R } (startD (Nm.length - n) ds) A) : FnX P w K mg base (k + 1) x ps (spOf mg n S) := by
  refine T.fnX Sc (fun vs H Q E h => ?_) fun f cdv A outer s H vs Q E hr h => ?_
  · obtain ⟨A, ι, ds, R, RE, hl, _, hv, _⟩ := h
    rw [← RVs.length hv, hl, hn]
  · obtain ⟨A0, ι0, ds, R, RE, hl, ra, hv, hS, kq, kx⟩ := h
    have hE : ∀ C a H', EL mg ⟨A0, ι0, H⟩ RE C a H' → E C none H' := fun C a H' z => by
      obtain ⟨c, A', ι', ⟨b, rfl, hc⟩, ex, r, q⟩ := z
      exact kx c A' ι' H' b q hc ex r
    obtain ⟨m, hP, hm⟩ := hbody ⟨A0, ι0, H⟩ RE (cxOf (CX1 P w) P w K mg base Nm x (defScope st) f cdv A outer s H E) rfl rfl rfl rfl rfl rfl rfl rfl ⟨_, _, _, _, _, _, _, rfl⟩ hr
      (fun pins σ H1 s1 e h' C args I mx z => raisesX pins σ H1 s1 e h' C args I mx (hE _ _ _ z))
      (fun pins σ H1 s1 e s' I z => passX pins σ H1 s1 e s' I (by
        obtain ⟨a, C, H', h1, h2, h3⟩ := z
        exact ⟨a, C, H', h1, h2, hE _ _ _ h3⟩)) ds A0 R hS hl
    have hlv := RVs.length hv
    refine ⟨_, hP, A0, ι0, _, _, ⟨ra, ⟨?_, fun i d q => ?_⟩, ra.refl⟩, hm, ⟨fun τ A' ι' σ H' q e r _ => kq _ A' ι' H' _ q e r rfl, kq, fun _ _ _ _ _ q _ _ _ => q.elim, fun _ _ _ _ _ q _ _ _ => q.elim⟩⟩
    · simp [startD, L2.start]
      omega
    · obtain ⟨v, h1, h2⟩ := RVs.get hv (lk_start ds _ i d q)
      refine ⟨v, ?_, h2⟩
      have hi := (List.getElem?_eq_some_iff.mp h1).1
      unfold L2.start
      rw [List.getElem?_append_left (by simpa using hi), List.getElem?_map, h1]
      rfl
end DP
namespace DP
open PySem PySem.Spec PyProof.Rows L2
abbrev DCb := List D → Ar → DK → Prop
def CbD (mg : Str → Option Value) (r : List V → Hp → VK → Prop) (f : DCb) : Prop := ∀ ds A ι H us R Q, RA mg ι H A → RVs mg ι A.length H ds us → f ds A R → Kt mg A ι H R Q → r us H Q
def dCb (f : DCb) (m : DTA) : DTE := fun τ A R => m τ A fun vs A1 => f vs A1 R
section
variable {X : Cx} {N : En} {e : Expr} {es : List Expr} {m : DTA} {p pos : Pos} {f : DCb} {r : List V → Hp → VK → Prop} {x : Str} {id T : String}
theorem up_cb (h : CbD X.mg r f) {σ : L2.St} {H : Hp} {Q : VK} (q : up X.mg N (dCb f m) σ H Q) : tCB r (upA X.mg N m) σ H Q := by
  obtain ⟨A, ι, τ, R, S, q, k⟩ := q
  exact ⟨A, ι, τ, _, S, q, fun vs A1 ι1 H1 us q1 e1 r1 v1 => h vs A1 ι1 H1 us R Q r1 v1 q1 (k.from e1)⟩
theorem de_cb (hc : CallR X (.builtin id) r) (hd : CbD X.mg r f) (hm : X.mg x = none) (hv : bootBuiltins x = some (.builtin id)) (ha : PA X (e :: es) (upA X.mg N m)) (hg : Gl X x := by rfl) (hn : x ≠ "__name__" := by decide) (hdb : (x == ("__debug__" : Str)) = false := by decide)
    (he : starEach (e :: es) X.env = (false, eval e X.env) :: starEach es X.env := by rfl) (hpl : (backTo pos (starEach es X.env)).any (·.1) = false := by rfl) : PE X (.Call (.Name x p) (e :: es) [] pos) (up X.mg N (dCb f m)) := de_w (pe_callB hc hg hm hv ha hn hdb he hpl) fun _ _ _ h => up_cb hd h
theorem de_cty (hc : CallR X (.type T) r) (hd : CbD X.mg r f) (hm : X.mg x = none) (hv : bootBuiltins x = some (.type T)) (ha : PA X (e :: es) (upA X.mg N m)) (hg : Gl X x := by rfl) (hn : x ≠ "__name__" := by decide) (hdb : (x == ("__debug__" : Str)) = false := by decide)
    (he : starEach (e :: es) X.env = (false, eval e X.env) :: starEach es X.env := by rfl) (hpl : (backTo pos (starEach es X.env)).any (·.1) = false := by rfl) : PE X (.Call (.Name x p) (e :: es) [] pos) (up X.mg N (dCb f m)) := de_w (pe_callTy hc hg hm hv ha hn hdb he hpl) fun _ _ _ h => up_cb hd h
end
@[irreducible] def lenR (r : Nat) (A : Ar) (R : DK) : Prop := match A[r]? with
    | some (.lst xs) => R (.int xs.length) A
    | some (.dct kvs) => R (.int kvs.length) A
    | _ => False
def lenD : DCb := fun vs A R => match vs with
  | [.tup xs] => R (.int xs.length) A
  | [.str z] => z.length ≤ sizeLine ∧ R (.int z.length) A
  | [.fl ns] => R (.int ns.length) A
  | [.ref r] => lenR r A R
  | _ => False
theorem RK.length {mg : Str → Option Value} {ι : Io} {H : Hp} : ∀ {ds : List (Key × D)} {vs : List (Key × V)} {n : Nat}, RK mg ι n H ds vs → ds.length = vs.length
  | [], vs, _, h => by have h' : vs = [] := h; rw [h']; rfl
  | d :: ds, vs, n, h => by
    obtain ⟨x, r, rfl, _, e3⟩ := h
    simp [RK.length e3]
theorem c_len {X : Cx} : CallR X (.builtin "len") (fun xs H Q => (∃ p ys, xs = [.ref p] ∧ (SqL X.K H p ys ∨ SqT X.K H p ys) ∧ Q (.int ys.length) H) ∨ (∃ z, xs = [.str z] ∧ z.length ≤ sizeLine ∧ Q (.int z.length) H) ∨ ∃ a kvs, xs = [V.ref a] ∧ H a = some (.dK kvs) ∧ Q (.int kvs.length) H) := call_len_seq.or (call_len_str.or call_lenD)
theorem d_len {mg : Str → Option Value} {K : PySem.W.Frag} : CbD mg (fun xs H Q => (∃ p ys, xs = [.ref p] ∧ (SqL K H p ys ∨ SqT K H p ys) ∧ Q (.int ys.length) H) ∨ (∃ z, xs = [.str z] ∧ z.length ≤ sizeLine ∧ Q (.int z.length) H) ∨ ∃ a kvs, xs = [V.ref a] ∧ H a = some (.dK kvs) ∧ Q (.int kvs.length) H) lenD := by
  intro ds A ι H us R Q ra rs h k
  unfold lenD at h
  split at h
  · obtain ⟨_, _, rfl, ⟨a, xs, rfl, e1, r1⟩, rfl⟩ := rs
    exact .inl ⟨a, xs, rfl, .inr (SqT.of e1), k.here ra h (by rw [RVs.length r1]; rfl)⟩
  · obtain ⟨_, _, rfl, rfl, rfl⟩ := rs
    exact .inr (.inl ⟨_, rfl, h.1, k.here ra h.2 rfl⟩)
  · obtain ⟨_, _, rfl, ⟨a, o, rfl, e1⟩, rfl⟩ := rs
    exact .inl ⟨a, _, rfl, .inl (.inl (.inr ⟨o, e1⟩)), k.here ra h (by rw [List.length_map]; rfl)⟩
  · obtain ⟨_, _, rfl, ⟨_, rfl⟩, rfl⟩ := rs
    unfold lenR at h
    split at h
    · rename_i xs e
      obtain ⟨us, h1, r1⟩ := ra.lst e
      exact .inl ⟨_, us, rfl, .inl (SqL.of h1), k.here ra h (by rw [RVs.length r1]; rfl)⟩
    · rename_i xs e
      obtain ⟨us, h1, r1⟩ := ra.dct e
      exact .inr (.inr ⟨_, us, rfl, h1, k.here ra h (by rw [RK.length r1]; rfl)⟩)
    · exact h.elim
  · exact h.elim
@[irreducible] def lstR (r : Nat) (A : Ar) (R : DK) : Prop := match A[r]? with
    | some (.lst xs) => R (.ref A.length) (A ++ [.lst xs])
    | _ => False
def maxD : DCb := fun vs A R => match vs with
  | [.int i, .int j] => R (.int (if j > i then j else i)) A
  | _ => False
theorem d_max {mg : Str → Option Value} : CbD mg (fun xs H Q => ∃ i j, xs = [.int i, .int j] ∧ Q (.int (if j > i then j else i)) H) maxD := by
  intro ds A ι H us R Q ra rs h k
  unfold maxD at h
  split at h
  · obtain ⟨_, _, rfl, rfl, _, _, rfl, rfl, rfl⟩ := rs
    exact ⟨_, _, rfl, k.here ra h rfl⟩
  · exact h.elim
def bls : List D → Option (List Bool)
  | [] => some []
  | .bl b :: r => (bls r).map (b :: ·)
  | _ :: _ => none
def intsD : List D → Option (List Int)
  | [] => some []
  | .int b :: r => (intsD r).map (b :: ·)
  | _ :: _ => none
theorem bls_V {mg : Str → Option Value} {ι : Io} {n : Nat} {H : Hp} : ∀ {ds : List D} {us : List V} {bs : List Bool}, bls ds = some bs → RVs mg ι n H ds us → us = bs.map V.bl
  | [], us, bs, h, r => by cases h; exact r
  | d :: ds, us, bs, h, r => by
    obtain ⟨x, r', rfl, h1, h2⟩ := r
    cases d with
    | bl b =>
      cases q : bls ds with
      | none => simp [bls, q] at h
      | some l =>
        simp [bls, q] at h
        subst h
        rw [bls_V q h2]
        cases h1; rfl
    | _ => simp [bls] at h
theorem ints_V {mg : Str → Option Value} {ι : Io} {n : Nat} {H : Hp} : ∀ {ds : List D} {us : List V} {bs : List Int}, intsD ds = some bs → RVs mg ι n H ds us → us = bs.map V.int
  | [], us, bs, h, r => by cases h; exact r
  | d :: ds, us, bs, h, r => by
    obtain ⟨x, r', rfl, h1, h2⟩ := r
    cases d with
    | int b =>
      cases q : intsD ds with
      | none => simp [intsD, q] at h
      | some l =>
        simp [intsD, q] at h
        subst h
        rw [ints_V q h2]
        cases h1; rfl
    | _ => simp [intsD] at h
@[irreducible] def allR (r : Nat) (A : Ar) (R : DK) : Prop := match A[r]? with
    | some (.lst xs) => (match bls xs with
      | some bs => R (.bl (bs.all id)) A
      | none => False)
    | _ => False
def allD : DCb := fun vs A R => match vs with
  | [.ref r] => allR r A R
  | _ => False
theorem d_all {mg : Str → Option Value} {K : PySem.W.Frag} : CbD mg (fun xs H Q => ∃ (p : Addr) (bs : List Bool), xs = [.ref p] ∧ SqL K H p (bs.map V.bl) ∧ Q (.bl (bs.all id)) H) allD := by
  intro ds A ι H us R Q ra rs h k
  unfold allD at h
  split at h
  · obtain ⟨_, _, rfl, ⟨_, rfl⟩, rfl⟩ := rs
    unfold allR at h
    split at h
    · rename_i xs e
      split at h
      · rename_i bs eb
        obtain ⟨us, h1, r1⟩ := ra.lst e
        exact ⟨_, bs, rfl, SqL.of (by rw [h1, bls_V eb r1]), k.here ra h rfl⟩
      · exact h.elim
    · exact h.elim
  · exact h.elim
def tyD (A : Ar) : D → Option String
  | .non => some "NoneType"
  | .bl _ => some "bool"
  | .int _ => some "int"
  | .str _ => some "str"
  | .tup _ => some "tuple"
  | .fl _ => some "list"
  | .exc _ => none
  | .ref r => match A[r]? with
    | some (.lst _) => some "list"
    | some (.dct _) => some "dict"
    | _ => none
def isT (t c : String) : Bool := t == c || (t == "bool" && c == "int")
def dIs (c : String) (m : DTE) : DTE := fun τ A R => m τ A fun x A1 => match tyD A1 x with
  | some t => R (.bl (isT t c)) A1
  | none => False
def tys : List String := ["NoneType", "bool", "int", "str", "tuple", "list", "dict"]
theorem tyD_mem {A : Ar} {d : D} {t : String} (h : tyD A d = some t) : t ∈ tys := by
  cases d with
  | ref r =>
    unfold tyD at h
    simp only at h
    split at h <;> first | (cases h; decide) | cases h
  | exc c => cases h
  | _ => cases h; decide
theorem RA.ty {mg : Str → Option Value} {K : PySem.W.Frag} {A : Ar} {ι : Io} {H : Hp} (ra : RA mg ι H A) {d : D} {v : V} {t : String} (h : tyD A d = some t) (r : RV mg ι A.length H d v) : TyR K H v (.type t) := by
  cases d with
  | non => cases h; cases r; exact .of .non
  | bl b => cases h; cases r; exact .of (.bl b)
  | int b => cases h; cases r; exact .of (.int b)
  | str b => cases h; cases r; exact .of (.str b)
  | tup ds => cases h; obtain ⟨a, xs, rfl, e, _⟩ := r; exact .of (.tup e)
  | fl ns => cases h; obtain ⟨a, o, rfl, e⟩ := r; exact .of (.frz e)
  | exc c => cases h
  | ref q =>
    obtain ⟨_, rfl⟩ := r
    unfold tyD at h
    simp only at h
    split at h
    · rename_i xs e
      cases h
      obtain ⟨us, h1, _⟩ := ra.lst e
      exact .of (.lst h1)
    · rename_i xs e
      cases h
      obtain ⟨us, h1, _⟩ := ra.dct e
      exact .of (.dK h1)
    · cases h
section
variable {X : Cx} {N : En} {e : Expr} {es : List Expr} {m : DTE} {p p2 pos : Pos} {x : Str} {c : String}
theorem de_is (hk : ∀ t ∈ tys, PySem.W.kitOne X.K (.type t) (.type c) = some (isT t c)) (hm : X.mg "isinstance" = none) (hmx : X.mg x = none) (hvx : bootBuiltins x = some (.type c)) (ha : PE X e (up X.mg N m)) (hg : Gl X "isinstance" := by rfl) (hgx : Gl X x := by rfl) (hn : x ≠ "__name__" := by decide) (hdb : (x == ("__debug__" : Str)) = false := by decide)
    (hs : starEach [e, .Name x p2] X.env = [(false, eval e X.env), (false, eval (.Name x p2) X.env)] := by rfl) :
    PE X (.Call (.Name "isinstance" p) [e, .Name x p2] [] pos) (up X.mg N (dIs c m)) := by
  have hT : PE X (.Name x p2) (tC (.ty c)) := pe_bltn hgx hmx hvx rfl hn hdb
  refine de_w (pe_callB call_isI hg hm boot_isinstance (pa_cons ha (pa_cons hT pa_nil rfl) (by rw [hs]; rfl)) (by decide) (by decide) (by rw [hs]; rfl) rfl) fun σ H Q q => ?_
  obtain ⟨A, ι, τ, R, S, q, k⟩ := q
  refine ⟨A, ι, τ, _, S, q, fun v A1 ι1 H1 u q1 e1 r1 v1 => ?_⟩
  have q1 : (match tyD A1 v with | some t => R (.bl (isT t c)) A1 | none => False) := q1
  split at q1
  · rename_i t ht
    exact ⟨u, c, .type t, isT t c, rfl, r1.ty ht v1, hk t (tyD_mem ht), (k.from e1).here r1 q1 rfl⟩
  · exact q1.elim
end
abbrev DMt := D → List D → Ar → DK → Prop
def MtD (mg : Str → Option Value) (K : PySem.W.Frag) (T : String) (r : V → List V → Hp → VK → Prop) (f : DMt) : Prop := ∀ x ds A ι H u us R Q, RA mg ι H A → RV mg ι A.length H x u → RVs mg ι A.length H ds us → f x ds A R → Kt mg A ι H R Q → r u us H Q
def isL (A : Ar) : D → Bool
  | .ref r => match A[r]? with
    | some (.lst _) => true
    | _ => false
  | _ => false
def dMt (f : DMt) (mo : DTE) (m : DTA) : DTE := fun τ A R => mo τ A fun x A1 => isL A1 x = true ∧ m τ A1 fun vs A2 => f x vs A2 R
theorem RA.isL {mg : Str → Option Value} {K : PySem.W.Frag} {A : Ar} {ι : Io} {H : Hp} (ra : RA mg ι H A) {d : D} {v : V} (h : isL A d = true) (r : RV mg ι A.length H d v) : tyV K "list" v H := by
  cases d with
  | ref q =>
    obtain ⟨_, rfl⟩ := r
    unfold DP.isL at h
    simp only at h
    split at h
    · rename_i xs e
      obtain ⟨us, h1, _⟩ := ra.lst e
      exact .inl ⟨rfl, us, SqL.of h1⟩
    · cases h
  | _ => cases h
section
variable {X : Cx} {N : En} {e o : Expr} {es : List Expr} {mo : DTE} {m : DTA} {apos cpos : Pos} {f : DMt} {r : V → List V → Hp → VK → Prop} {name : Str} {id : String}
theorem de_mt (pa : PlainAttrs "list") (slot : Slot "list" name id) (hty : typeOf (.builtin id) = pure (.type "method_descriptor")) (hm : MtR X id r) (hd : MtD X.mg X.K "list" r f) (ho : PE X o (up X.mg N mo)) (ha : PA X (e :: es) (upA X.mg N m))
    (hbase : attributeBase o name X.env (eval o X.env) = eval o X.env := by rfl)
    (hfew : ((backTo cpos (starEach (e :: es) X.env)).all (fun x => !x.1) && (backToKw cpos (keywordEach [] X.env)).all (fun x => x.1.isSome)
      && decide ((e :: es).length + ([] : List Keyword).length + (if ([] : List Keyword).isEmpty then 0 else 1) < 30)) = true := by rfl)
    (hline : (apos.endLine == cpos.line) = true := by rfl) (hs : starEach (e :: es) X.env = (false, eval e X.env) :: starEach es X.env := by rfl) (hplain : (backTo cpos (starEach es X.env)).any (·.1) = false := by rfl) :
    PE X (.Call (.Attribute o name apos) (e :: es) [] cpos) (up X.mg N (dMt f mo m)) := de_w (pe_bm pa slot hty hm ho ha hbase hfew hline hs hplain) fun σ H Q q => by
  obtain ⟨A, ι, τ, R, S, q, k⟩ := q
  refine ⟨A, ι, τ, _, S, q, fun x A1 ι1 H1 u q1 e1 r1 v1 => ?_⟩
  refine ⟨r1.isL q1.1 v1, A1, ι1, τ, _, S.next e1 r1, q1.2, fun ys A2 ι2 H2 us q2 e2 r2 v2 => ?_⟩
  exact hd x ys A2 ι2 H2 u us R Q r2 (RV.ext e2 x u v1) v2 q2 (k.from (e1.trans e2))
end
theorem put_lst {mg : Str → Option Value} {A : Ar} {ι : Io} {H : Hp} {R : DK} {Q : VK} {ds es : List D} {xs ys : List V} {q : Nat} {d : D} {v : V} (k : Kt mg A ι H R Q) (r : RA mg ι H A) (hA : A[q]? = some (.lst ds)) (hH : H (ι q) = some (.lst xs)) (h : RVs mg ι A.length H es ys)
    (hq : R d (A.set q (.lst es))) (hd : ∀ H', RV mg ι A.length H' d v) : Q v (upd H (ι q) (.lst ys)) := by
  have E : Ext A ι H (A.set q (.lst es)) ι (upd H (ι q) (.lst ys)) := r.ext_put (List.getElem?_eq_some_iff.mp hA).1
  obtain ⟨r1, e1⟩ := r.put (c' := .lst es) (o := .lst ys) hA hH rfl ⟨ys, upd_same, by simpa using RVs.ext E es ys h⟩
  exact k _ _ _ _ _ hq e1 r1 (by simpa using hd _)
@[irreducible] def appR (r : Nat) (y : D) (A : Ar) (R : DK) : Prop := match A[r]? with
  | some (.lst xs) => xs.length < sizeLine ∧ R .non (A.set r (.lst (xs ++ [y])))
  | _ => False
def appD : DMt := fun x vs A R => match x, vs with
  | .ref r, [y] => appR r y A R
  | _, _ => False
theorem d_app {mg : Str → Option Value} {K : PySem.W.Frag} : MtD mg K "list" rAppend appD := by
  intro x ds A ι H u us R Q ra rx rs h k
  unfold appD at h
  split at h
  · obtain ⟨_, rfl⟩ := rx
    obtain ⟨v, _, rfl, rv, rfl⟩ := rs
    unfold appR at h
    split at h
    · rename_i xs e
      obtain ⟨ws, h1, r1⟩ := ra.lst e
      exact ⟨_, ws, v, rfl, rfl, h1, by rw [← RVs.length r1]; exact h.1, put_lst k ra e h1 (r1.app (es := [_]) (ws := [v]) ⟨v, [], rfl, rv, rfl⟩) h.2 fun _ => rfl⟩
    · exact h.elim
  · exact h.elim
@[irreducible] def extR (r q : Nat) (A : Ar) (R : DK) : Prop := match A[r]?, A[q]? with
  | some (.lst xs), some (.lst ys) => xs.length + ys.length ≤ sizeLine ∧ R .non (A.set r (.lst (xs ++ ys)))
  | _, _ => False
def extD : DMt := fun x vs A R => match x, vs with
  | .ref r, [.ref q] => extR r q A R
  | _, _ => False
theorem d_ext {mg : Str → Option Value} {K : PySem.W.Frag} : MtD mg K "list" rExtend extD := by
  intro x ds A ι H u us R Q ra rx rs h k
  unfold extD at h
  split at h
  · obtain ⟨_, rfl⟩ := rx
    obtain ⟨v, _, rfl, ⟨_, rfl⟩, rfl⟩ := rs
    unfold extR at h
    split at h
    · rename_i xs ys e e2
      obtain ⟨ws, h1, r1⟩ := ra.lst e
      obtain ⟨zs, h2, r2⟩ := ra.lst e2
      exact ⟨_, _, ws, zs, rfl, rfl, h1, h2, by rw [← RVs.length r1, ← RVs.length r2]; exact h.1, put_lst k ra e h1 (r1.app r2) h.2 fun _ => rfl⟩
    · exact h.elim
  · exact h.elim
def sRaise (RE : DX) (c : Str) (m : DTA) : DTS := fun _ τ A => m τ A fun vs A1 => vs.length ≤ sizeLine ∧ RE c A1
theorem ds_raise {X : Cx} {N : En} {RE : DX} {x : Str} {C : Addr} {e : Expr} {m : DTA} {np cpos pos : Pos} (hR : Raises X (EL X.mg N RE)) (hc : X.calm = true) (hm : X.mg x = some (.ref C)) (hC : PySem.W.excIn X.K C vErr "ValueError.__new__" = true) (ha : PA X [e] (upA X.mg N m)) (hg : Gl X x := by rfl) (hdb : (x == ("__debug__" : Str)) = false := by decide)
    (he : starEach [e] X.env = [(false, eval e X.env)] := by rfl) : PS X (.Raise (some (.Call (.Name x np) [e] [] cpos)) none pos) (upS X.mg N (sRaise RE x m)) := ds_w (ps_raise hR hc hm hC ha hg hdb he) fun Q σ H q => by
  obtain ⟨A, ι, τ, R, S, q, k⟩ := q
  exact ⟨A, ι, τ, _, S, q, fun vs A1 ι1 H1 us q1 e1 r1 v1 => ⟨by rw [← RVs.length v1]; exact q1.1, x, A1, ι1, ⟨C, rfl, hm⟩, S.ex.trans e1, r1, q1.2⟩⟩
end DP
namespace DP
open PySem PySem.Spec PyProof.Rows L2
def flD : D → Bool
  | .int _ | .str _ => true
  | _ => false
def eqF : D → D → Bool
  | .int i, .int j => decide (i = j)
  | .str a, .str b => decide (a = b)
  | _, _ => false
def inF (x : D) (xs : List D) : Bool := xs.any fun y => eqF y x
section
variable {mg : Str → Option Value} {K : PySem.W.Frag} {A : Ar} {ι : Io} {H : Hp} {n : Nat}
theorem fl_V {d : D} {v : V} (h : flD d = true) (r : RV mg ι n H d v) : flatV v = true := by
  cases d with
  | int i => cases r; rfl
  | str i => cases r; rfl
  | _ => cases h
theorem eqF_V {d e : D} {u v : V} (h1 : flD d = true) (h2 : flD e = true) (r1 : RV mg ι n H d u) (r2 : RV mg ι n H e v) : eqV u v = eqF d e := by
  cases d with
  | int i =>
    cases r1
    cases e with
    | int j => cases r2; simp [eqV, eqF, Bool.beq_eq_decide_eq]
    | str j => cases r2; rfl
    | _ => cases h2
  | str i =>
    cases r1
    cases e with
    | int j => cases r2; rfl
    | str j => cases r2; simp [eqV, eqF, Bool.beq_eq_decide_eq]
    | _ => cases h2
  | _ => cases h1
theorem inF_V {x : D} {v : V} (hx : flD x = true) (rx : RV mg ι n H x v) : ∀ {ds : List D} {vs : List V}, ds.all flD = true → RVs mg ι n H ds vs → inV v vs = inF x ds ∧ vs.all flatV = true
  | [], vs, _, r => by cases (show vs = [] from r); exact ⟨rfl, rfl⟩
  | d :: ds, vs, h, r => by
    obtain ⟨y, r', rfl, h1, h2⟩ := r
    have h' : flD d = true ∧ ds.all flD = true := by simpa using h
    obtain ⟨g1, g2⟩ := inF_V hx rx h'.2 h2
    constructor
    · show (eqV y v || inV v r') = (eqF d x || inF x ds)
      rw [eqF_V h'.1 hx h1 rx, g1]
    · simp [fl_V h'.1 h1, g2]
end
abbrev rInD (neg : Bool) : R2 := fun x y H Q => ∃ a o, y = .ref a ∧ DGet H a x o ∧ Q (.bl (if neg then !o.isSome else o.isSome)) H
theorem o_inD {X : Cx} (hu : X.A.units + 64 < cLine) : OpR X (compareOp .In) (rInD false) := by
  intro pins s σ H x y v u Q I rx ry h
  obtain ⟨a, o, rfl, g, q⟩ := h
  cases ry
  exact d_in (by omega) I g rx fun s3 I3 => ⟨.bl o.isSome, H, I3, rfl, q⟩
theorem o_notInD {X : Cx} (hu : X.A.units + 64 < cLine) : OpR X (compareOp .NotIn) (rInD true) := by
  intro pins s σ H x y v u Q I rx ry h
  obtain ⟨a, o, rfl, g, q⟩ := h
  cases ry
  exact d_notIn (by omega) I g rx fun s3 I3 => ⟨.bl (!o.isSome), H, I3, rfl, q⟩
@[irreducible] def inR (neg : Bool) (x : D) (r : Nat) (A : Ar) (R : DK) : Prop := match A[r]? with
  | some (.lst xs) => flD x = true ∧ xs.all flD = true ∧ R (.bl (if neg then !inF x xs else inF x xs)) A
  | some (.dct kvs) => (match keyD x with
    | some k => R (.bl (if neg then !(getK kvs k).isSome else (getK kvs k).isSome)) A
    | none => False)
  | _ => False
def inD (neg : Bool) : DOp := fun x y A R => match y with
  | .tup xs => flD x = true ∧ xs.all flD = true ∧ R (.bl (if neg then !inF x xs else inF x xs)) A
  | .ref r => inR neg x r A R
  | _ => False
theorem d_inD {mg : Str → Option Value} {K : PySem.W.Frag} (neg : Bool) : OpD mg (fun x y H Q => rIn K neg x y H Q ∨ rInD neg x y H Q) (inD neg) := by
  intro x y A ι H u v R Q ra rx ry h k
  unfold inD at h
  split at h
  · obtain ⟨a, xs, rfl, e1, r1⟩ := ry
    obtain ⟨g1, g2⟩ := inF_V h.1 rx h.2.1 r1
    exact .inl ⟨a, xs, rfl, .inr (SqT.of e1), fl_V h.1 rx, g2, by rw [g1]; exact k.here ra h.2.2 rfl⟩
  · obtain ⟨_, rfl⟩ := ry
    unfold inR at h
    split at h
    · rename_i xs e
      obtain ⟨us, h1, r1⟩ := ra.lst e
      obtain ⟨g1, g2⟩ := inF_V h.1 rx h.2.1 r1
      exact .inl ⟨_, us, rfl, .inl (SqL.of h1), fl_V h.1 rx, g2, by rw [g1]; exact k.here ra h.2.2 rfl⟩
    · rename_i kvs e
      obtain ⟨us, h1, r1⟩ := ra.dct e
      split at h
      · rename_i ky ek
        cases keyD_kV ek rx
        obtain ⟨g1, g2⟩ := RK.get (k := ky) r1
        refine .inr ⟨_, valV us ky, rfl, .inl ⟨us, ky, .inl h1, rfl, rfl⟩, ?_⟩
        have e2 : (valV us ky).isSome = (getK kvs ky).isSome := by
          cases q : getK kvs ky with
          | none => rw [g2 q]; rfl
          | some d => obtain ⟨z, hz, _⟩ := g1 d q; rw [hz]; rfl
        rw [e2]
        exact k.here ra h rfl
      · exact h.elim
    · exact h.elim
  · exact h.elim
section
variable {X : Cx} {N : En} {pos : Pos} {a b c : Expr} {ma mb mc : DTE} {x : Str}
theorem vr (i : Nat) (hN : X.N[i]? = some x := by rfl) (hv : Vis X.env.scope x := by first | exact Or.inl rfl | exact Or.inr (Or.inl rfl) | exact Or.inr (Or.inr rfl)) (hd : (x == ("__debug__" : Str)) = false := by decide)
    (hcd : (x == ("__classdict__" : Str)) = false := by decide) : PE X (.Name x pos) (up X.mg N (dVar i)) := de_var hN hv hd hcd
theorem e_eq (hu : X.A.units + 64 < cLine) (ha : PE X a (up X.mg N ma)) (hb : PE X b (up X.mg N mb)) : PE X (.Compare a [.Eq] [b] pos) (up X.mg N (dOp eqD ma mb)) := de_cmp (o_eq hu) d_eq ha hb (nomark _)
theorem t_eq (hu : X.A.units + 64 < cLine) (ha : PE X a (up X.mg N ma)) (hb : PE X b (up X.mg N mb)) : PT X (.Compare a [.Eq] [b] pos) (upT X.mg N (dTest (dOp eqD ma mb))) := dt_cmp (o_eq hu) d_eq ha hb (nomark _)
theorem t_ne (hu : X.A.units + 64 < cLine) (ha : PE X a (up X.mg N ma)) (hb : PE X b (up X.mg N mb)) : PT X (.Compare a [.NotEq] [b] pos) (upT X.mg N (dTest (dOp neD ma mb))) := dt_cmp (o_ne hu) d_ne ha hb (nomark _)
theorem t_lt (ha : PE X a (up X.mg N ma)) (hb : PE X b (up X.mg N mb)) : PT X (.Compare a [.Lt] [b] pos) (upT X.mg N (dTest (dOp ltD ma mb))) := dt_cmp o_lt d_lt ha hb (nomark _)
theorem t_le (ha : PE X a (up X.mg N ma)) (hb : PE X b (up X.mg N mb)) : PT X (.Compare a [.LtE] [b] pos) (upT X.mg N (dTest (dOp leD ma mb))) := dt_cmp o_le d_le ha hb (nomark _)
theorem t_gt (ha : PE X a (up X.mg N ma)) (hb : PE X b (up X.mg N mb)) : PT X (.Compare a [.Gt] [b] pos) (upT X.mg N (dTest (dOp gtD ma mb))) := dt_cmp op_gt d_gt ha hb (nomark _)
theorem t_is (ha : PE X a (up X.mg N ma)) (hb : PE X b (up X.mg N mb)) : PT X (.Compare a [.Is] [b] pos) (upT X.mg N (dTest (dOp isND ma mb))) := dt_cmp op_isN d_isN ha hb (nomark _)
theorem t_in (hu : X.A.units + 64 < cLine) (ha : PE X a (up X.mg N ma)) (hb : PE X b (up X.mg N mb)) (hm : behindInMarks .In b = false := by rfl) : PT X (.Compare a [.In] [b] pos) (upT X.mg N (dTest (dOp (inD false) ma mb))) := dt_cmp (op_in_seq.or (o_inD hu)) (d_inD false) ha hb hm
theorem t_nin (hu : X.A.units + 64 < cLine) (ha : PE X a (up X.mg N ma)) (hb : PE X b (up X.mg N mb)) (hm : behindInMarks .NotIn b = false := by rfl) : PT X (.Compare a [.NotIn] [b] pos) (upT X.mg N (dTest (dOp (inD true) ma mb))) := dt_cmp (op_notIn_seq.or (o_notInD hu)) (d_inD true) ha hb hm
theorem e_lele (ha : PE X a (up X.mg N ma)) (hb : PE X b (up X.mg N mb)) (hc : PE X c (up X.mg N mc)) (hm : lastMarks [.LtE, .LtE] [b, c] = false := by with_unfolding_all rfl) : PE X (.Compare a [.LtE, .LtE] [b, c] pos) (up X.mg N (dChain leD leD ma mb mc)) := de_chain o_le o_le d_le d_le ha hb hc hm
theorem t_lele (ha : PE X a (up X.mg N ma)) (hb : PE X b (up X.mg N mb)) (hc : PE X c (up X.mg N mc)) (hm : lastMarks [.LtE, .LtE] [b, c] = false := by with_unfolding_all rfl) : PT X (.Compare a [.LtE, .LtE] [b, c] pos) (upT X.mg N (dTest (dChain leD leD ma mb mc))) := dt_chain o_le o_le d_le d_le ha hb hc hm
end
theorem fnD {P : Program} {w : World} {K : PySem.W.Frag} {mg : Str → Option Value} {base : Heap} {x : Str} {st : Stmt} {Nm ps : List Str} {k n : Nat} {S : Ct} (T : TopD K mg x st ps) (Sc : FnScope Nm ps (defScope st)) (hn : ps.length = n) (hN : ps.length ≤ Nm.length)
    (hbody : ∀ (N : En) (RE : DX) (f : Addr) (cdv : Value) (B : Around) (outer : List Env) (s : Shared) (H : Hp) (E : XK), Room k (cxOf (CX1 P w) P w K mg base Nm x (defScope st) f cdv B outer s H E).A →
      Raises (cxOf (CX1 P w) P w K mg base Nm x (defScope st) f cdv B outer s H E) (EL mg N RE) → Passes (CX1 P w) (cxOf (CX1 P w) P w K mg base Nm x (defScope st) f cdv B outer s H E) (EL mg N RE) →
      ∀ ds A R, S ds A R RE → ds.length = n → ∃ m, PSs (cxOf (CX1 P w) P w K mg base Nm x (defScope st) f cdv B outer s H E) (defBody st) (upS mg N m) ∧ m { nx := fun _ A' => R .non A', rt := R } (startD (Nm.length - n) ds) A) : FnX P w K mg base (k + 1) x ps (spOf mg n S) := by
  refine TopD.fnD T Sc hn hN fun N RE X _ _ _ _ _ _ _ _ hX hr hR hx ds A R h hl => ?_
  obtain ⟨f, cdv, B, outer, s, H, E, rfl⟩ := hX
  exact hbody N RE f cdv B outer s H E hr hR hx ds A R h hl
end DP
namespace DP
open PySem PySem.Spec PyProof.Rows L2
def sWhile (c : DTT) (b : DTS) : DTS := fun R τ A => ∃ W : Nat → DSt → Ar → Prop, (∃ n, W n τ A) ∧ ∀ n τ A, W n τ A → c τ A fun k A1 => cond k (∃ Nx : DSt → Ar → Prop, (∀ τ' A', Nx τ' A' → ∃ n', n' < n ∧ W n' τ' A') ∧ b { R with nx := Nx, ct := Nx, bk := R.nx } τ A1) (R.nx τ A1)
section
variable {X : Cx} {N : En} {pos : Pos} {c : Expr} {body : List Stmt} {tc : DTT} {tb : DTS}
theorem ds_while (hp : PassesOwn (model X.prog X.w) X.A X.env X.xe) (hc : PT X c (upT X.mg N tc)) (hb : PSs X body (upS X.mg N tb)) : PS X (.While c body [] pos) (upS X.mg N (sWhile tc tb)) := ds_w (ps_while hp hc hb) fun Q σ H q => by
  obtain ⟨A, ι, τ, R, S, ⟨W, ⟨n, w0⟩, turn⟩, k⟩ := q
  refine ⟨fun n σ' H' => ∃ A' ι' τ', Sim X.mg N A' ι' τ' σ' H' ∧ Ext A ι H A' ι' H' ∧ W n τ' A', ⟨n, A, ι, τ, S, S.ra.refl, w0⟩, ?_⟩
  rintro m σ1 H1 ⟨A1, ι1, τ1, S1, e1, w1⟩
  refine ⟨A1, ι1, τ1, _, S1, turn m τ1 A1 w1, fun b A2 ι2 H2 q2 e2 r2 => ?_⟩
  cases b with
  | true =>
    rw [if_pos rfl]
    obtain ⟨Nx, hN, q2⟩ := q2
    refine ⟨fun σ' H' => ∃ A' ι' τ', Sim X.mg N A' ι' τ' σ' H' ∧ Ext A ι H A' ι' H' ∧ Nx τ' A', fun σ' H' ⟨A', ι', τ', S', e', z⟩ => ?_, ?_⟩
    · obtain ⟨m', hm, w'⟩ := hN τ' A' z
      exact ⟨m', hm, A', ι', τ', S', e', w'⟩
    · refine ⟨A2, ι2, τ1, _, S1.next e2 r2, q2, ⟨?_, k.rt.from (e1.trans e2), k.nx.from (e1.trans e2), ?_⟩⟩
      · exact fun τ3 A3 ι3 σ3 H3 q3 e3 r3 s3 => ⟨A3, ι3, τ3, (S1.next e2 r2).to e3 r3 s3, (e1.trans e2).trans e3, q3⟩
      · exact fun τ3 A3 ι3 σ3 H3 q3 e3 r3 s3 => ⟨A3, ι3, τ3, (S1.next e2 r2).to e3 r3 s3, (e1.trans e2).trans e3, q3⟩
  | false =>
    rw [if_neg Bool.false_ne_true]
    exact (k.nx.from (e1.trans e2)).here (S1.next e2 r2) q2
end
structure JOk (mg : Str → Option Value) (A0 : Ar) (ι0 : Io) (H0 : Hp) (J : It) (items : List D) (chk : Ar → Prop) : Prop where
  go : ∀ (i : Nat) d A ι H, items[i]? = some d → Ext A0 ι0 H0 A ι H → RA mg ι H A → chk A → J.go i H ∧ ∀ x H', J.yld i H x H' → Ext A ι H A ι H' ∧ RA mg ι H' A ∧ RV mg ι A.length H' d x
  stop : ∀ A ι H, Ext A0 ι0 H0 A ι H → RA mg ι H A → chk A → J.stop items.length H
abbrev DTI := DSt → Ar → (List D → (Ar → Prop) → Ar → Prop) → Prop
def upI (mg : Str → Option Value) (N : En) (m : DTI) : TI := fun σ H Q => ∃ A ι τ R, Sim mg N A ι τ σ H ∧ m τ A R ∧ ∀ items chk A' ι' H' J, R items chk A' → Ext A ι H A' ι' H' → RA mg ι' H' A' → JOk mg A' ι' H' J items chk → Q J H'
theorem di_w {X : Cx} {tg e : Expr} {t t' : TI} (h : PI X tg e t) (w : ∀ σ H Q, t' σ H Q → t σ H Q) : PI X tg e t' := fun pins s σ H Q I q => h pins s σ H Q I (w σ H Q q)
section
variable {mg : Str → Option Value} {K : PySem.W.Frag} {A : Ar} {ι : Io} {H : Hp}
theorem jok_tup {a : Addr} {ds : List D} {xs : List V} (he : H a = some (.tup xs)) (hr : RVs mg ι A.length H ds xs) : JOk mg A ι H (Itt K a) ds (fun _ => True) where
  go := fun i d A1 ι1 H1 hd e r _ => by
    have he' := e.fix rfl he
    obtain ⟨v, h1, h2⟩ := RVs.get (RVs.ext e ds xs hr) hd
    refine ⟨⟨xs, v, SqT.of he', h1⟩, fun x H' y => ?_⟩
    obtain ⟨rfl, y⟩ := y
    have := y xs (SqT.of he')
    rw [h1] at this; cases this
    exact ⟨r.refl, r, h2⟩
  stop := fun A1 ι1 H1 e r _ => ⟨xs, SqT.of (e.fix rfl he), by rw [RVs.length hr]; exact Nat.le_refl _⟩
theorem jok_fl {a : Addr} {o : Obj} {ns : List Int} (he : H a = some (.frz o (.lst (ns.map V.int)))) : JOk mg A ι H (Itl K a) (ns.map D.int) (fun _ => True) where
  go := fun i d A1 ι1 H1 hd e r _ => by
    have he' : SqL K H1 a (ns.map V.int) := .inl (.inr ⟨o, e.fix rfl he⟩)
    obtain ⟨v, h1, h2⟩ := RVs.get (RVs.ints (mg := mg) (ι := ι1) (H := H1) ns (n := A1.length)) hd
    refine ⟨⟨_, v, he', h1⟩, fun x H' y => ?_⟩
    obtain ⟨rfl, y⟩ := y
    have := y _ he'
    rw [h1] at this; cases this
    exact ⟨r.refl, r, h2⟩
  stop := fun A1 ι1 H1 e r _ => ⟨_, .inl (.inr ⟨o, e.fix rfl he⟩), by simp⟩
theorem jok_lst {q : Nat} {ds : List D} (hq : q < A.length) : JOk mg A ι H (Itl K (ι q)) ds (fun A' => A'[q]? = some (.lst ds)) where
  go := fun i d A1 ι1 H1 hd e r hc => by
    obtain ⟨xs, h1, h2⟩ := r.lst hc
    rw [e.ag q hq] at h1
    obtain ⟨v, h3, h4⟩ := RVs.get h2 hd
    refine ⟨⟨xs, v, SqL.of h1, h3⟩, fun x H' y => ?_⟩
    obtain ⟨rfl, y⟩ := y
    have := y xs (SqL.of h1)
    rw [h3] at this; cases this
    exact ⟨r.refl, r, h4⟩
  stop := fun A1 ι1 H1 e r hc => by
    obtain ⟨xs, h1, h2⟩ := r.lst hc
    rw [e.ag q hq] at h1
    exact ⟨xs, SqL.of h1, by rw [RVs.length h2]; exact Nat.le_refl _⟩
def rng (lo : Int) (n : Nat) : List D := (List.range n).map fun (i : Nat) => D.int (lo + i)
theorem jok_rng {lo : Int} {n : Nat} : JOk mg A ι H (Itr lo n) (rng lo n) (fun _ => True) where
  go := fun i d A1 ι1 H1 hd e r _ => by
    unfold rng at hd
    rw [List.getElem?_map] at hd
    cases q : (List.range n)[i]? with
    | none => rw [q] at hd; cases hd
    | some j =>
      rw [q] at hd
      have hi := (List.getElem?_eq_some_iff.mp q).1
      have hj := (List.getElem?_eq_some_iff.mp q).2
      simp at hi hj
      subst hj
      cases hd
      refine ⟨hi, fun x H' y => ?_⟩
      obtain ⟨rfl, rfl⟩ := y
      exact ⟨r.refl, r, rfl⟩
  stop := fun A1 ι1 H1 e r _ => by
    show n ≤ _
    simp [rng]
def sgs (z : Str) : List D := z.cps.toList.map fun c => D.str ⟨#[c]⟩
theorem jok_str {z : Str} : JOk mg A ι H (Its z) (sgs z) (fun _ => True) where
  go := fun i d A1 ι1 H1 hd e r _ => by
    unfold sgs at hd
    rw [List.getElem?_map] at hd
    cases q : z.cps.toList[i]? with
    | none => rw [q] at hd; cases hd
    | some j =>
      rw [q] at hd
      cases hd
      have hi := (List.getElem?_eq_some_iff.mp q).1
      refine ⟨show i < z.cps.size by simpa using hi, fun x H' y => ?_⟩
      obtain ⟨rfl, c, hc, rfl⟩ := y
      have : z.cps.toList[i]? = some c := by simpa using hc
      rw [q] at this; cases this
      exact ⟨r.refl, r, rfl⟩
  stop := fun A1 ι1 H1 e r _ => by
    show _ = _
    simp [sgs]
end
def iSq (K : PySem.W.Frag) (tl : TE) : TI := fun σ H R => tl σ H fun x H1 => (∃ a, x = .ref a ∧ (∃ xs, SqL K H1 a xs) ∧ R (Itl K a) H1) ∨ (∃ a, x = .ref a ∧ (∃ xs, SqT K H1 a xs) ∧ R (Itt K a) H1)
theorem pi_sq {X : Cx} {tg l : Expr} {tl : TE} (hl : PE X l tl) : PI X tg l (iSq X.K tl) := by
  intro pins s σ H R I h
  refine thn (hl pins s σ H _ I h) fun v s1 ⟨x, H1, I1, r1, q1⟩ => ?_
  rcases q1 with ⟨a, e, ⟨xs, hq⟩, q⟩ | ⟨a, e, ⟨xs, hq⟩, q⟩
  · subst e
    cases r1
    obtain ⟨its, rv, p, hz⟩ := I1.list hq
    refine wpAny_pyIter_list p.isList ?_
    refine ⟨s1.heap.objs.size, [s1.heap.objs.size], _, _, H1, rfl, I1.kept (t' := s1.toks) fun b o e => Heap.get?_push_of_some _ e, turn_list a _, ⟨_, Heap.get?_push_size _ rfl, rfl, rfl⟩, fun b hb => ?_, q⟩
    have e : b = s1.heap.objs.size := by simpa using hb
    subst e
    exact I1.fpOk (Nat.le_refl _) (I1.hok.fresh (Nat.le_refl _))
  · subst e
    cases r1
    obtain ⟨its, rv, p, hz⟩ := I1.tuple hq
    refine wpAny_pyIter_tuple (show s1.heap.IsTuple a its.toArray from p) ?_
    refine ⟨s1.heap.objs.size, [s1.heap.objs.size], _, _, H1, rfl, I1.kept (t' := s1.toks) fun b o e => Heap.get?_push_of_some _ e, turn_tuple a _, ⟨_, Heap.get?_push_size _ rfl, rfl, rfl⟩, fun b hb => ?_, q⟩
    have e : b = s1.heap.objs.size := by simpa using hb
    subst e
    exact I1.fpOk (Nat.le_refl _) (I1.hok.fresh (Nat.le_refl _))
@[irreducible] def itR (r : Nat) (A : Ar) (R : List D → (Ar → Prop) → Ar → Prop) : Prop := match A[r]? with
  | some (.lst xs) => R xs (fun A' => A'[r]? = some (.lst xs)) A
  | _ => False
def iSeq (m : DTE) : DTI := fun τ A R => m τ A fun x A1 => match x with
  | .tup xs => R xs (fun _ => True) A1
  | .fl ns => R (ns.map .int) (fun _ => True) A1
  | .ref r => itR r A1 R
  | _ => False
def iStrD (m : DTE) : DTI := fun τ A R => m τ A fun x A1 => match x with
  | .str z => R (sgs z) (fun _ => True) A1
  | _ => False
def iR1 (n : DTA) : DTI := fun τ A R => n τ A fun vs A1 => match vs with
  | [.int j] => -(2 ^ 62) ≤ j ∧ j < 2 ^ 62 ∧ R (rng 0 j.toNat) (fun _ => True) A1
  | _ => False
def iR2 (n : DTA) : DTI := fun τ A R => n τ A fun vs A1 => match vs with
  | [.int i, .int j] => (-(2 ^ 62) ≤ i ∧ i < 2 ^ 62 ∧ -(2 ^ 62) ≤ j ∧ j < 2 ^ 62) ∧ R (rng i (j - i).toNat) (fun _ => True) A1
  | _ => False
section
variable {X : Cx} {N : En} {pos p : Pos} {tg e a b : Expr} {m : DTE} {n : DTA} {nm : Str} {px : Pos}
theorem di_seq (he : PE X e (up X.mg N m)) : PI X tg e (upI X.mg N (iSeq m)) := di_w (pi_sq he) fun σ H Q q => by
  obtain ⟨A, ι, τ, R, S, q, k⟩ := q
  refine ⟨A, ι, τ, _, S, q, fun x A1 ι1 H1 u q1 e1 r1 v1 => ?_⟩
  cases x with
  | tup ds =>
    obtain ⟨b, xs, rfl, h1, h2⟩ := v1
    exact .inr ⟨b, rfl, ⟨xs, SqT.of h1⟩, k ds _ A1 ι1 H1 _ q1 e1 r1 (jok_tup h1 h2)⟩
  | fl ns =>
    obtain ⟨b, o, rfl, h1⟩ := v1
    exact .inl ⟨b, rfl, ⟨_, .inl (.inr ⟨o, h1⟩)⟩, k _ _ A1 ι1 H1 _ q1 e1 r1 (jok_fl h1)⟩
  | ref r =>
    obtain ⟨hr, rfl⟩ := v1
    have q1 : itR r A1 R := q1
    unfold itR at q1
    split at q1
    · rename_i xs e
      obtain ⟨us, h1, _⟩ := r1.lst e
      exact .inl ⟨_, rfl, ⟨us, SqL.of h1⟩, k _ _ A1 ι1 H1 _ q1 e1 r1 (jok_lst hr)⟩
    · exact q1.elim
  | _ => exact q1.elim
theorem di_str (he : PE X e (up X.mg N m)) : PI X (.Name nm px) e (upI X.mg N (iStrD m)) := di_w (pi_str he) fun σ H Q q => by
  obtain ⟨A, ι, τ, R, S, q, k⟩ := q
  refine ⟨A, ι, τ, _, S, q, fun x A1 ι1 H1 u q1 e1 r1 v1 => ?_⟩
  cases x with
  | str z => exact ⟨z, v1, k _ _ A1 ι1 H1 _ q1 e1 r1 jok_str⟩
  | _ => exact q1.elim
theorem di_range1 (hm : X.mg "range" = none) (ha : PA X [a] (upA X.mg N n)) (hg : Gl X "range" := by rfl) (hs : starEach [a] X.env = [(false, eval a X.env)] := by rfl) : PI X tg (.Call (.Name "range" p) [a] [] pos) (upI X.mg N (iR1 n)) := di_w (pi_range1 hg hm ha hs) fun σ H Q q => by
  obtain ⟨A, ι, τ, R, S, q, k⟩ := q
  refine ⟨A, ι, τ, _, S, q, fun x A1 ι1 H1 u q1 e1 r1 v1 => ?_⟩
  match x, q1, v1 with
  | [.int j], q1, v1 =>
    obtain ⟨_, _, rfl, rfl, rfl⟩ := v1
    exact ⟨j, rfl, q1.1, q1.2.1, k _ _ A1 ι1 H1 _ q1.2.2 e1 r1 jok_rng⟩
theorem di_range2 (hm : X.mg "range" = none) (ha : PA X [a, b] (upA X.mg N n)) (hg : Gl X "range" := by rfl) (hs : starEach [a, b] X.env = [(false, eval a X.env), (false, eval b X.env)] := by rfl) (hs2 : starEach [b] X.env = [(false, eval b X.env)] := by rfl) :
    PI X tg (.Call (.Name "range" p) [a, b] [] pos) (upI X.mg N (iR2 n)) := di_w (pi_range2 hg hm ha hs hs2) fun σ H Q q => by
  obtain ⟨A, ι, τ, R, S, q, k⟩ := q
  refine ⟨A, ι, τ, _, S, q, fun x A1 ι1 H1 u q1 e1 r1 v1 => ?_⟩
  match x, q1, v1 with
  | [.int i, .int j], q1, v1 =>
    obtain ⟨_, _, rfl, rfl, _, _, rfl, rfl, rfl⟩ := v1
    exact ⟨i, j, rfl, q1.1, k _ _ A1 ι1 H1 _ q1.2 e1 r1 jok_rng⟩
end
def dLoop (chk : Ar → Prop) (g : DTG) (b : DTS) (R : DEnds) : List D → DSt → Ar → Prop
  | [], τ, A => chk A ∧ R.nx τ A
  | x :: xs, τ, A => chk A ∧ g x τ A fun τ1 A1 => b { R with nx := dLoop chk g b R xs, ct := dLoop chk g b R xs, bk := R.nx } τ1 A1
def sFor (it : DTI) (g : DTG) (b : DTS) : DTS := fun R τ A => it τ A fun items chk A1 => dLoop chk g b R items τ A1
theorem ds_for {X : Cx} {N : En} {pos : Pos} {tg iter : Expr} {body : List Stmt} {it : DTI} {g : DTG} {tb : DTS} (hp : PassesOwn (model X.prog X.w) X.A X.env X.xe) (hc : X.calm = true) (hi : PI X tg iter (upI X.mg N it)) (hg : PG X tg (upG X.mg N g)) (hb : PSs X body (upS X.mg N tb))
    (hs : ∀ x, foldedSetIterable iter X.env x = pure x := by intro _; rfl) : PS X (.For tg iter body [] pos) (upS X.mg N (sFor it g tb)) := ds_w (ps_for hp hc hi hg hb hs) fun Q σ H q => by
  obtain ⟨A, ι, τ, R, S, q, k⟩ := q
  refine ⟨A, ι, τ, _, S, q, fun items chk A1 ι1 H1 J q1 e1 r1 j1 => ?_⟩
  have S1 := S.next e1 r1
  refine ⟨fun i m σ' H' => m = items.length - i ∧ i ≤ items.length ∧ ∃ A' ι' τ', Sim X.mg N A' ι' τ' σ' H' ∧ Ext A1 ι1 H1 A' ι' H' ∧ dLoop chk g tb R (items.drop i) τ' A', ⟨_, rfl, Nat.zero_le _, A1, ι1, τ, S1, r1.refl, by simpa using q1⟩, ?_⟩
  rintro i m σ2 H2 ⟨rfl, hi, A2, ι2, τ2, S2, e2, q2⟩
  by_cases hl : i < items.length
  · right
    have hd : items.drop i = items[i] :: items.drop (i + 1) := by rw [List.drop_eq_getElem_cons hl]
    rw [hd] at q2
    obtain ⟨hchk, q2⟩ := q2
    obtain ⟨g1, g2⟩ := j1.go i items[i] A2 ι2 H2 (by rw [List.getElem?_eq_getElem hl]) e2 S2.ra hchk
    refine ⟨g1, fun σ' H' => ∃ A' ι' τ', Sim X.mg N A' ι' τ' σ' H' ∧ Ext A1 ι1 H1 A' ι' H' ∧ dLoop chk g tb R (items.drop (i + 1)) τ' A', fun σ' H' ⟨A', ι', τ', z⟩ => ⟨_, by omega, rfl, hl, A', ι', τ', z⟩, fun x H3 y => ?_⟩
    obtain ⟨e3, r3, v3⟩ := g2 x H3 y
    refine ⟨A2, ι2, τ2, items[i], _, S2.next e3 r3, v3, q2, fun τ4 A4 ι4 σ4 H4 q4 e4 r4 s4 => ?_⟩
    have e24 := e3.trans e4
    refine ⟨A4, ι4, τ4, _, (S2.next e3 r3).to e4 r4 s4, q4, ⟨?_, k.rt.from ((e1.trans e2).trans e24), k.nx.from ((e1.trans e2).trans e24), ?_⟩⟩
    · exact fun τ5 A5 ι5 σ5 H5 q5 e5 r5 s5 => ⟨A5, ι5, τ5, ((S2.next e3 r3).to e4 r4 s4).to e5 r5 s5, (e2.trans e24).trans e5, q5⟩
    · exact fun τ5 A5 ι5 σ5 H5 q5 e5 r5 s5 => ⟨A5, ι5, τ5, ((S2.next e3 r3).to e4 r4 s4).to e5 r5 s5, (e2.trans e24).trans e5, q5⟩
  · left
    have e : i = items.length := by omega
    subst e
    rw [List.drop_length] at q2
    exact ⟨j1.stop A2 ι2 H2 e2 S2.ra q2.1, (k.nx.from (e1.trans e2)).here S2 q2.2⟩
end DP
namespace DP
open PySem PySem.Spec PyProof.Rows L2
def unp : Option Nat → D → Option (List D)
  | none, x => some [x]
  | some k, .tup ds => if ds.length = k then some ds else none
  | some _, _ => none
def cLoopD (chk : Ar → Prop) (k : Option Nat) (fr : DSt) (tt : DTT) (te : DTE) (R : List D → Ar → Prop) : List D → List D → Ar → Prop
  | [], ys, A => chk A ∧ R ys A
  | x :: xs, ys, A => chk A ∧ match unp k x with
    | some vs => tt (vs.map some ++ fr) A fun b A3 => cond b (te (vs.map some ++ fr) A3 fun y A4 => ys.length < sizeLine ∧ cLoopD chk k fr tt te R xs (ys ++ [y]) A4) (cLoopD chk k fr tt te R xs ys A3)
    | none => False
def dComp (k : Option Nat) (ix : List Nat) (it : DTI) (tt : DTT) (te : DTE) : DTE := fun τ A R => it τ A fun items chk A1 => cLoopD chk k (ix.map (lk τ)) tt te (fun ys A2 => R (.ref A2.length) (A2 ++ [.lst ys])) items [] A1
def gsN : Nat → Nat → TGs
  | _, 0 => gNil
  | i, n + 1 => gCons (gName i) (gsN (i + 1) n)
def tgL (K : PySem.W.Frag) : Option Nat → TG
  | none => gName 0
  | some k => gTup K k (gsN 0 k)
theorem gs_run {Q : L2.St → Hp → Prop} {H : Hp} {fs : L2.St} : ∀ (xs : List V) (dn : L2.St), Q (dn ++ (xs.map some ++ fs)) H → gsN dn.length xs.length xs (dn ++ (List.replicate xs.length none ++ fs)) H Q
  | [], dn, h => ⟨rfl, by simpa using h⟩
  | x :: r, dn, h => by
    refine ⟨x, r, rfl, ?_⟩
    show gsN (dn.length + 1) r.length r ((dn ++ (List.replicate (r.length + 1) none ++ fs)).set dn.length (some x)) H Q
    have e : (dn ++ (List.replicate (r.length + 1) none ++ fs)).set dn.length (some x) = (dn ++ [some x]) ++ (List.replicate r.length none ++ fs) := by
      rw [List.set_append_right _ _ (Nat.le_refl _)]
      simp [List.replicate_succ]
    rw [e]
    have := gs_run r (dn ++ [some x]) (by simpa using h)
    simpa using this
theorem kst_own {fs : L2.St} : ∀ (xs : L2.St), KSt (List.replicate xs.length none ++ fs) (xs ++ fs)
  | [] => KSt.refl fs
  | x :: r => .own (kst_own r)
section
variable {mg : Str → Option Value} {K : PySem.W.Frag} {A : Ar} {ι : Io} {H : Hp}
theorem tg_run {k : Option Nat} {d : D} {vs : List D} {x : V} {n : Nat} (hu : unp k d = some vs) (r : RV mg ι n H d x) : ∃ xs, RVs mg ι n H vs xs ∧ vs.length = k.getD 1 ∧ ∀ (fs : L2.St) (Q : L2.St → Hp → Prop), Q (xs.map some ++ fs) H → tgL K k x (List.replicate (k.getD 1) none ++ fs) H Q := by
  cases k with
  | none =>
    cases hu
    exact ⟨[x], ⟨x, [], rfl, r, rfl⟩, rfl, fun fs Q q => q⟩
  | some k =>
    cases d with
    | tup ds =>
      have hu : (if ds.length = k then some ds else none) = some vs := hu
      by_cases hl : ds.length = k
      · rw [if_pos hl] at hu
        cases hu
        obtain ⟨a, xs, rfl, h1, h2⟩ := r
        have hx := RVs.length h2
        refine ⟨xs, h2, hl, fun fs Q q => ⟨a, xs, rfl, SqT.of h1, by rw [← hx]; exact hl, ?_⟩⟩
        have := gs_run (Q := Q) (H := H) (fs := fs) xs [] q
        show gsN 0 k xs (List.replicate k none ++ fs) H Q
        have e : k = xs.length := by rw [← hx, hl]
        rw [e]
        exact this
      · rw [if_neg hl] at hu
        cases hu
    | _ => cases hu
theorem RA.off (R : RA mg ι H A) {p : Addr} {o u : HO} (hp : ∀ r, r < A.length → ι r ≠ p) (hu : H p = some u) (hm : mutO u = true) : RA mg ι (upd H p o) A :=
  ⟨fun r c h => CO.ag (Nat.le_refl _) (fun _ _ => rfl) (fun b q m z => by
      rw [upd_ne]
      · exact z
      · rintro rfl
        rw [hu] at z; cases z; rw [hm] at m; cases m) (fun q z => by rw [upd_ne (hp r (List.getElem?_eq_some_iff.mp h).1)]; exact z) c (R.cel r c h), R.inj⟩
end
theorem stC_rep {own : List Str} {ix : List Nat} {σ : L2.St} : L2.stC own ix σ = List.replicate own.length none ++ ix.map fun i => (σ[i]?).join := by
  unfold L2.stC
  rw [List.map_const']
theorem lk_app1 : ∀ (ds : List D) (fr : DSt) (i : Nat) (d : D), lk (ds.map some ++ fr) i = some d → (ds[i]? = some d) ∨ (ds.length ≤ i ∧ lk fr (i - ds.length) = some d)
  | [], fr, i, d, h => .inr ⟨Nat.zero_le _, by simpa using h⟩
  | x :: r, fr, 0, d, h => .inl (by simpa [lk] using h)
  | x :: r, fr, i + 1, d, h => by
    rcases lk_app1 r fr i d (by simpa [lk] using h) with q | ⟨q1, q2⟩
    · exact .inl (by simpa using q)
    · exact .inr ⟨by simpa using q1, by simpa using q2⟩
theorem RS.block {mg : Str → Option Value} {ι : Io} {n : Nat} {H : Hp} {τ : DSt} {σ : L2.St} {ix : List Nat} {vs : List D} {xs : List V} (r : RS mg ι n H τ σ) (h : RVs mg ι n H vs xs) : RS mg ι n H (vs.map some ++ ix.map (lk τ)) (xs.map some ++ ix.map fun i => (σ[i]?).join) := ⟨by simp [RVs.length h], fun i d q => by
  have hl := RVs.length h
  rcases lk_app1 vs _ i d q with q | ⟨q1, q2⟩
  · obtain ⟨v, h1, h2⟩ := RVs.get h q
    have hi := (List.getElem?_eq_some_iff.mp h1).1
    exact ⟨v, by rw [List.getElem?_append_left (by simpa using hi), List.getElem?_map, h1]; rfl, h2⟩
  · rw [lk_get, List.getElem?_map] at q2
    cases e : ix[i - vs.length]? with
    | none => rw [e] at q2; simp at q2
    | some j =>
      rw [e] at q2
      have q2 : lk τ j = some d := by simpa using q2
      obtain ⟨v, h1, h2⟩ := r.at' j d q2
      refine ⟨v, ?_, h2⟩
      rw [List.getElem?_append_right (by simpa [← hl] using q1), List.getElem?_map, List.length_map, ← hl, e]
      simp [h1]⟩
section
variable {X : Cx} {N : En} {own frees : List Str} {ix : List Nat} {it : DTI} {tt : DTT} {te : DTE} {k : Option Nat}
theorem up_comp (hk : own.length = k.getD 1) {tT : CP → TT} (hT : ∀ c σ H Q, upT X.mg N tt σ H Q → tT c σ H Q) {σ : L2.St} {H : Hp} {Q : VK} (q : up X.mg N (dComp k ix it tt te) σ H Q) : tComp own ix (upI X.mg N it) (fun _ => tgL X.K k) tT (fun _ => up X.mg N te) σ H Q := by
  obtain ⟨A, ι, τ, R, S, q, kq⟩ := q
  refine ⟨A, ι, τ, _, S, q, fun items chk A1 ι1 H1 J q1 e1 r1 j1 c acc hacc => ?_⟩
  have S1 := S.next e1 r1
  rw [stC_rep, hk]
  have off1 : ∀ r, r < A1.length → ι1 r ≠ acc := fun r hr z => by
    obtain ⟨o, h1, _⟩ := r1.im r hr
    rw [z, hacc] at h1; cases h1
  have rn := r1.ext_fix (o := .lst []) hacc
  refine ⟨fun i m ys H' => m = items.length - i ∧ i ≤ items.length ∧ ∃ A' ι' yds, RA X.mg ι' H' A' ∧ Ext A1 ι1 H1 A' ι' H' ∧ (∀ r, r < A'.length → ι' r ≠ acc) ∧ H' acc = some (.lst ys) ∧ RVs X.mg ι' A'.length H' yds ys ∧ cLoopD chk k (ix.map (lk τ)) tt te (fun ys A2 => R (.ref A2.length) (A2 ++ [.lst ys])) (items.drop i) yds A',
    ⟨_, rfl, Nat.zero_le _, A1, ι1, [], r1.fix rn (fun b o z => by rw [upd_ne (ne_of_none z hacc)]; exact z), rn, off1, upd_same, rfl, by simpa using q1⟩, ?_⟩
  rintro i m ys H2 ⟨rfl, hi, A2, ι2, yds, r2, e2, off2, hy, ry, q2⟩
  refine ⟨hy, ?_⟩
  by_cases hl : i < items.length
  · right
    have hd : items.drop i = items[i] :: items.drop (i + 1) := by rw [List.drop_eq_getElem_cons hl]
    rw [hd] at q2
    obtain ⟨hchk, q2⟩ := q2
    obtain ⟨g1, g2⟩ := j1.go i items[i] A2 ι2 H2 (by rw [List.getElem?_eq_getElem hl]) e2 r2 hchk
    refine ⟨g1, fun ys' H' => ∃ A' ι' yds', RA X.mg ι' H' A' ∧ Ext A1 ι1 H1 A' ι' H' ∧ (∀ r, r < A'.length → ι' r ≠ acc) ∧ H' acc = some (.lst ys') ∧ RVs X.mg ι' A'.length H' yds' ys' ∧ cLoopD chk k (ix.map (lk τ)) tt te (fun ys A2 => R (.ref A2.length) (A2 ++ [.lst ys])) (items.drop (i + 1)) yds' A', fun ys' H' z => ⟨_, by omega, rfl, hl, z⟩, fun x H3 y => ?_⟩
    obtain ⟨e3, r3, v3⟩ := g2 x H3 y
    split at q2
    · rename_i vs hu
      obtain ⟨xs, h1, h2, h3⟩ := tg_run (K := X.K) hu v3
      refine h3 _ _ ⟨by have := kst_own (fs := ix.map fun i => (σ[i]?).join) (xs.map some); rw [List.length_map, ← RVs.length h1, h2] at this; exact this, ?_⟩
      have e13 := e2.trans e3
      have S3 : Sim X.mg N A2 ι2 (vs.map some ++ ix.map (lk τ)) (xs.map some ++ ix.map fun i => (σ[i]?).join) H3 := ⟨r3, RS.block (S1.rs.ext e13) h1, S1.ex.trans e13⟩
      have hy3 : H3 acc = some (.lst ys) := e3.mo acc _ hy off2
      refine hT _ _ _ _ ⟨A2, ι2, _, _, S3, q2, fun b A4 ι4 H4 q4 e4 r4 => ?_⟩
      have off4 : ∀ r, r < A4.length → ι4 r ≠ acc := fun r hr z => by
        by_cases hl : r < A2.length
        · rw [e4.ag r hl] at z; exact off2 r hl z
        · have := e4.nw r (by omega) hr
          rw [z, hy3] at this; cases this
      have hy4 : H4 acc = some (.lst ys) := e4.mo acc _ hy3 off2
      have ry4 := RVs.ext (e3.trans e4) yds ys ry
      cases b with
      | true =>
        refine iteT ?_
        refine ⟨A4, ι4, _, _, S3.next e4 r4, q4, fun v A5 ι5 H5 u q5 e5 r5 v5 => ?_⟩
        have hy5 : H5 acc = some (.lst ys) := e5.mo acc _ hy4 off4
        have off5 : ∀ r, r < A5.length → ι5 r ≠ acc := fun r hr z => by
          by_cases hl : r < A4.length
          · rw [e5.ag r hl] at z; exact off4 r hl z
          · have := e5.nw r (by omega) hr
            rw [z, hy4] at this; cases this
        have ry5 := RVs.ext e5 yds ys ry4
        have e15 := (e13.trans e4).trans e5
        have fx : ∀ b o, mutO o = false → H5 b = some o → upd H5 acc (.lst (ys ++ [u])) b = some o := fun b o m z => by
          rw [upd_ne]
          · exact z
          · rintro rfl
            rw [hy5] at z; cases z; cases m
        refine ⟨hy5, by rw [← RVs.length ry5]; exact q5.1, A5, ι5, yds ++ [v], r5.off off5 hy5 rfl, ⟨e15.len, e15.ag, e15.im, fun b o z hn => ?_, e15.nw, fun b o z => ?_⟩, off5, upd_same, ?_, q5.2⟩
        · rw [upd_ne (ne_of_none z hacc)]; exact e15.mo b o z hn
        · obtain ⟨o', h'⟩ := e15.al b o z
          exact ⟨o', by rw [upd_ne (ne_of_none z hacc)]; exact h'⟩
        · exact RVs.ag (Nat.le_refl _) (fun _ _ => rfl) fx _ _ (ry5.app (es := [v]) (ws := [u]) ⟨u, [], rfl, v5, rfl⟩)
      | false =>
        refine iteF ?_
        exact ⟨A4, ι4, yds, r4, e13.trans e4, off4, hy4, ry4, q4⟩
    · exact q2.elim
  · left
    have e : i = items.length := by omega
    subst e
    rw [List.drop_length] at q2
    obtain ⟨hchk, q2⟩ := q2
    refine ⟨j1.stop A2 ι2 H2 e2 r2 hchk, ?_⟩
    obtain ⟨ι3, ag2, at2⟩ : ∃ ι3 : Io, (∀ r, r < A2.length → ι3 r = ι2 r) ∧ ι3 A2.length = acc := ⟨fun r => if r = A2.length then acc else ι2 r, fun r h => by
      show (if r = A2.length then acc else ι2 r) = ι2 r
      rw [if_neg (by omega)], by
      show (if A2.length = A2.length then acc else ι2 A2.length) = acc
      rw [if_pos rfl]⟩
    refine kq (.ref A2.length) (A2 ++ [.lst yds]) ι3 H2 _ q2 (e1.trans ⟨by have := e2.len; simp; omega, fun r h => by rw [ag2 r (Nat.lt_of_lt_of_le h e2.len)]; exact e2.ag r h, e2.im, e2.mo, fun r h1 h2 => ?_, e2.al⟩) ⟨fun r c h => ?_, fun r s hr hs h => ?_⟩ ⟨by simp, by rw [at2]⟩
    · by_cases hr : r < A2.length
      · rw [ag2 r hr]; exact e2.nw r h1 hr
      · have : r = A2.length := by simp at h2; omega
        subst this
        rw [at2]; exact hacc
    · by_cases hr : r < A2.length
      · rw [List.getElem?_append_left hr] at h
        have := CO.ag (n' := (A2 ++ [C.lst yds]).length) (ι' := ι3) (H' := H2) (by simp) ag2 (fun _ _ _ z => z) (fun _ z => z) c (r2.cel r c h)
        rw [ag2 r hr]
        exact this
      · have hr' : r = A2.length := by
          have := (List.getElem?_eq_some_iff.mp h).1
          simp at this; omega
        subst hr'
        simp at h; subst h
        rw [at2]
        exact ⟨ys, hy, RVs.ag (by simp) ag2 (fun _ _ _ z => z) yds ys ry⟩
    · simp at hr hs
      by_cases h1 : r = A2.length
      · by_cases h2 : s = A2.length
        · rw [h1, h2]
        · subst h1
          rw [at2, ag2 s (by omega)] at h
          exact absurd h.symm (off2 s (by omega))
      · by_cases h2 : s = A2.length
        · subst h2
          rw [at2, ag2 r (by omega)] at h
          exact absurd h (off2 r (by omega))
        · rw [ag2 r (by omega), ag2 s (by omega)] at h
          exact r2.inj r s (by omega) (by omega) h
end
def tt0 : DTT := fun _ A R => R true A
section
variable {X : Cx} {N : En} {own frees : List Str} {ix : List Nat} {it : DTI} {tt : DTT} {te : DTE} (k : Option Nat) {tg iter elt cnd : Expr} {scope : Scope} {pos : Pos}
theorem de_comp (hk : own.length = k.getD 1) (hi : PI X tg iter (upI X.mg N it)) (hg : ∀ c, PG (cxC X (own ++ frees) scope c) tg (tgL X.K k)) (he : ∀ c, PE (cxC X (own ++ frees) scope c) elt (up X.mg N te)) (S : CScope X scope frees := by exact ⟨rfl, by decide +kernel, by decide +kernel, by decide +kernel, by decide +kernel, rfl⟩) (hc : X.calm = true := by rfl) (hN : ix.map (fun i => X.N[i]?) = frees.map some := by rfl) (hs : ∀ x, foldedSetIterable iter X.env x = pure x := by intro _; rfl) :
    PE X (.ListComp elt [⟨tg, iter, [], 0⟩] scope pos) (up X.mg N (dComp k ix it tt0 te)) :=
  de_w (pe_comp hi hg (fun c => PIf.nil) he S hc hN hs) fun σ H Q q => up_comp (own := own) hk (fun _ σ H Q h => by
    obtain ⟨A, ι, τ, R, S, h, k⟩ := h
    exact k.here S.ra h) q
theorem de_compI (hk : own.length = k.getD 1) (hi : PI X tg iter (upI X.mg N it)) (hg : ∀ c, PG (cxC X (own ++ frees) scope c) tg (tgL X.K k)) (ht : ∀ c, PT (cxC X (own ++ frees) scope c) cnd (upT X.mg N tt)) (he : ∀ c, PE (cxC X (own ++ frees) scope c) elt (up X.mg N te)) (S : CScope X scope frees := by exact ⟨rfl, by decide +kernel, by decide +kernel, by decide +kernel, by decide +kernel, rfl⟩) (hc : X.calm = true := by rfl) (hN : ix.map (fun i => X.N[i]?) = frees.map some := by rfl) (hs : ∀ x, foldedSetIterable iter X.env x = pure x := by intro _; rfl) :
    PE X (.ListComp elt [⟨tg, iter, [cnd], 0⟩] scope pos) (up X.mg N (dComp k ix it tt te)) :=
  de_w (pe_comp hi hg (fun c => PIf.one (ht c)) he S hc hN hs) fun σ H Q q => up_comp (own := own) hk (fun _ σ H Q h => h) q
variable {i : Nat} {x : Str} {pos' spos : Pos}
end
end DP
namespace DP
open PySem PySem.Spec PyProof.Rows L2
abbrev DTO := DSt → Ar → (Option Int → Ar → Prop) → Prop
def upO (mg : Str → Option Value) (N : En) (m : DTO) : TO := fun σ H Q => ∃ A ι τ R, Sim mg N A ι τ σ H ∧ m τ A R ∧ ∀ o A' ι' H', R o A' → Ext A ι H A' ι' H' → RA mg ι' H' A' → Q o H'
def oN : DTO := fun _ A R => R none A
def oS (m : DTE) : DTO := fun τ A R => m τ A fun x A1 => match x with
  | .int i => R (some i) A1
  | _ => False
def cutD (xs : List D) (lo hi : Option Int) : List D := (xs.drop (HT.sIx xs.length 0 lo)).take (HT.sIx xs.length xs.length hi - HT.sIx xs.length 0 lo)
theorem RVs.cut {mg : Str → Option Value} {ι : Io} {H : Hp} {n : Nat} {ds : List D} {vs : List V} (r : RVs mg ι n H ds vs) (lo hi : Option Int) : RVs mg ι n H (cutD ds lo hi) (cutV vs lo hi) := by
  unfold cutD cutV
  rw [← RVs.length r]
  exact (r.drop _).take _
@[irreducible] def slR (r : Nat) (lo hi : Option Int) (A : Ar) (R : DK) : Prop := match A[r]? with
  | some (.lst xs) => R (.ref A.length) (A ++ [.lst (cutD xs lo hi)])
  | _ => False
def slD (x : D) (lo hi : Option Int) (A : Ar) (R : DK) : Prop := match x with
  | .tup xs => ¬ (HT.sIx xs.length 0 lo = 0 ∧ HT.sIx xs.length xs.length hi = xs.length) ∧ R (.tup (cutD xs lo hi)) A
  | .ref r => slR r lo hi A R
  | _ => False
def dSl (m : DTE) (l u : DTO) : DTE := fun τ A R => m τ A fun x A1 => l τ A1 fun lo A2 => u τ A2 fun hi A3 => slD x lo hi A3 R
section
variable {X : Cx} {N : En} {pos p2 : Pos} {e : Expr} {lo hi : Option Expr} {m : DTE} {l u : DTO}
theorem do_w {t t' : TO} (h : PO X lo t) (w : ∀ σ H Q, t' σ H Q → t σ H Q) : PO X lo t' := fun pins s σ H Q I q => h pins s σ H Q I (w σ H Q q)
theorem do_none : PO X none (upO X.mg N oN) := do_w po_none fun σ H Q q => by
  obtain ⟨A, ι, τ, R, S, q, k⟩ := q
  exact k none A ι H q S.ra.refl S.ra
theorem do_some (h : PE X e (up X.mg N m)) : PO X (some e) (upO X.mg N (oS m)) := do_w (po_some h) fun σ H Q q => by
  obtain ⟨A, ι, τ, R, S, q, k⟩ := q
  refine ⟨A, ι, τ, _, S, q, fun x A1 ι1 H1 u q1 e1 r1 v1 => ?_⟩
  cases x with
  | int i => exact ⟨i, v1, k (some i) A1 ι1 H1 q1 e1 r1⟩
  | _ => exact q1.elim
theorem de_sl (he : PE X e (up X.mg N m)) (hl : PO X lo (upO X.mg N l)) (hu : PO X hi (upO X.mg N u)) : PE X (.Subscript e (.Slice lo hi none p2) pos) (up X.mg N (dSl m l u)) :=
  de_w (pe_slice (sl_tup.or sl_list) he hl hu) fun σ H Q q => by
    obtain ⟨A, ι, τ, R, S, q, k⟩ := q
    refine ⟨A, ι, τ, _, S, q, fun x A1 ι1 H1 v q1 e1 r1 v1 => ?_⟩
    refine ⟨A1, ι1, τ, _, S.next e1 r1, q1, fun o2 A2 ι2 H2 q2 e2 r2 => ?_⟩
    refine ⟨A2, ι2, τ, _, (S.next e1 r1).next e2 r2, q2, fun o3 A3 ι3 H3 q3 e3 r3 => ?_⟩
    have e13 := (e1.trans e2).trans e3
    have v3 := RV.ext (e2.trans e3) x v v1
    cases x with
    | tup ds =>
      obtain ⟨a, xs, rfl, h1, h2⟩ := v3
      refine .inl ⟨a, xs, rfl, SqT.of h1, by rw [← RVs.length h2]; exact q3.1, fun p hp => new_tup (k.from e13) r3 (h2.cut _ _) q3.2 hp⟩
    | ref r =>
      obtain ⟨_, rfl⟩ := v3
      have q3 : slR r o2 o3 A3 R := q3
      unfold slR at q3
      split at q3
      · rename_i xs e
        obtain ⟨us, h1, h2⟩ := r3.lst e
        exact .inr ⟨_, us, rfl, SqL.of h1, fun p hp => new_lst (k.from e13) r3 (h2.cut _ _) q3 hp⟩
      · exact q3.elim
    | _ => exact q3.elim
end
def strsD : List D → Option (List Str)
  | [] => some []
  | .str b :: r => (strsD r).map (b :: ·)
  | _ :: _ => none
@[irreducible] def srtR (r : Nat) (A : Ar) (R : DK) : Prop := match A[r]? with
  | some (.lst xs) => (match strsD xs with
    | some ss => ss.length < 64 ∧ ∀ ys : List Str, ys.Pairwise strLt → (∀ x, x ∈ ys ↔ x ∈ ss) → R (.ref A.length) (A ++ [.lst (ys.map D.str)])
    | none => False)
  | _ => False
def srtD : DCb := fun vs A R => match vs with
  | [.ref r] => srtR r A R
  | _ => False
def putG {β : Type} (kvs : List (Key × β)) (k : Key) (v : β) : List (Key × β) :=
  if (kvs.any fun kv => decide (kv.1 = k)) = true then kvs.map (fun kv => if kv.1 = k then (kv.1, v) else kv) else kvs ++ [(k, v)]
section
variable {mg : Str → Option Value} {ι : Io} {H : Hp} {n : Nat}
theorem RK.any {k : Key} : ∀ {kvs : List (Key × D)} {xs : List (Key × V)}, RK mg ι n H kvs xs → (kvs.any fun kv => decide (kv.1 = k)) = (xs.any fun kv => decide (kv.1 = k))
  | [], xs, h => by cases (show xs = [] from h); rfl
  | p :: r, xs, h => by
    obtain ⟨x, r', rfl, h1, h2⟩ := h
    rw [List.any_cons, List.any_cons, RK.any h2]
theorem RK.mapv {k : Key} {d : D} {v : V} (hv : RV mg ι n H d v) : ∀ {kvs : List (Key × D)} {xs : List (Key × V)}, RK mg ι n H kvs xs → RK mg ι n H (kvs.map fun kv => if kv.1 = k then (kv.1, d) else kv) (xs.map fun kv => if kv.1 = k then (kv.1, v) else kv)
  | [], xs, h => by cases (show xs = [] from h); rfl
  | p :: r, xs, h => by
    obtain ⟨x, r', rfl, h1, h2⟩ := h
    rw [List.map_cons, List.map_cons]
    by_cases hp : p.1 = k
    · rw [if_pos hp, if_pos hp]; exact ⟨v, _, rfl, hv, RK.mapv hv h2⟩
    · rw [if_neg hp, if_neg hp]; exact ⟨x, _, rfl, h1, RK.mapv hv h2⟩
theorem RK.app : ∀ {ds es : List (Key × D)} {vs ws : List (Key × V)}, RK mg ι n H ds vs → RK mg ι n H es ws → RK mg ι n H (ds ++ es) (vs ++ ws)
  | [], _, vs, _, h, q => by have h' : vs = [] := h; rw [h']; exact q
  | d :: ds, es, vs, ws, h, q => by
    obtain ⟨x, r, rfl, e2, e3⟩ := h
    exact ⟨x, r ++ ws, rfl, e2, RK.app e3 q⟩
theorem RK.put {k : Key} {d : D} {v : V} (hv : RV mg ι n H d v) {kvs : List (Key × D)} {xs : List (Key × V)} (h : RK mg ι n H kvs xs) : RK mg ι n H (putG kvs k d) (putK xs k v) := by
  unfold putG putK
  rw [RK.any h]
  split
  · exact RK.mapv hv h
  · exact h.app (es := [(k, d)]) (ws := [(k, v)]) ⟨v, [], rfl, hv, rfl⟩
end
def pairsD : List D → Option (List (Key × D))
  | [] => some []
  | .tup [a, b] :: r => (match keyD a, pairsD r with
    | some k, some l => some ((k, b) :: l)
    | _, _ => none)
  | _ :: _ => none
def putAllD (ps : List (Key × D)) : List (Key × D) := ps.foldl (fun acc p => putG acc p.1 p.2) []
section
variable {mg : Str → Option Value} {K : PySem.W.Frag} {ι : Io} {H : Hp} {n : Nat}
theorem pairs_V : ∀ {ds : List D} {us : List V} {ps : List (Key × D)}, pairsD ds = some ps → RVs mg ι n H ds us → ∃ qs, RK mg ι n H ps qs ∧ us.length = qs.length ∧ ∀ (i : Nat) (x : V) (p : Key × V), us[i]? = some x → qs[i]? = some p → ∃ t, x = .ref t ∧ SqT K H t [kV p.1, p.2]
  | [], us, ps, h, r => by
    cases h
    cases (show us = [] from r)
    exact ⟨[], rfl, rfl, fun i x p e => by simp at e⟩
  | .tup [a, b] :: ds, us, ps, h, r => by
    obtain ⟨x, r', rfl, h1, h2⟩ := r
    unfold pairsD at h
    split at h
    · rename_i k l ek el
      cases h
      obtain ⟨qs, g1, g2, g3⟩ := pairs_V el h2
      obtain ⟨t, xs, rfl, e1, y1, _, rfl, e2, y2, _, rfl, e3, e4⟩ := h1
      obtain rfl := e4
      cases keyD_kV ek e2
      refine ⟨(k, y2) :: qs, ⟨y2, qs, rfl, e3, g1⟩, by simp [g2], fun i z p hz hp => ?_⟩
      cases i with
      | zero =>
        have hz' : V.ref t = z := by simpa using hz
        have hp' : (k, y2) = p := by simpa using hp
        subst hz' hp'
        exact ⟨t, rfl, SqT.of e1⟩
      | succ i => exact g3 i z p (by simpa using hz) (by simpa using hp)
    · cases h
  | .non :: _, _, _, h, _ => by simp [pairsD] at h
  | .bl _ :: _, _, _, h, _ => by simp [pairsD] at h
  | .int _ :: _, _, _, h, _ => by simp [pairsD] at h
  | .str _ :: _, _, _, h, _ => by simp [pairsD] at h
  | .ref _ :: _, _, _, h, _ => by simp [pairsD] at h
  | .fl _ :: _, _, _, h, _ => by simp [pairsD] at h
  | .exc _ :: _, _, _, h, _ => by simp [pairsD] at h
  | .tup [] :: _, _, _, h, _ => by simp [pairsD] at h
  | .tup [_] :: _, _, _, h, _ => by simp [pairsD] at h
  | .tup (_ :: _ :: _ :: _) :: _, _, _, h, _ => by simp [pairsD] at h
theorem RK.fold {ps : List (Key × D)} {qs : List (Key × V)} (h : RK mg ι n H ps qs) : ∀ {acc : List (Key × D)} {acv : List (Key × V)}, RK mg ι n H acc acv → RK mg ι n H (ps.foldl (fun acc p => putG acc p.1 p.2) acc) (qs.foldl (fun acc p => putK acc p.1 p.2) acv) := by
  induction ps generalizing qs with
  | nil => intro acc acv ha; cases (show qs = [] from h); exact ha
  | cons p r ih =>
    intro acc acv ha
    obtain ⟨x, r', rfl, h1, h2⟩ := h
    exact ih h2 (RK.put h1 ha)
end
theorem new_dct {mg : Str → Option Value} {A : Ar} {ι : Io} {H : Hp} {R : DK} {Q : VK} {ds : List (Key × D)} {xs : List (Key × V)} {p : Addr} (k : Kt mg A ι H R Q) (r : RA mg ι H A) (h : RK mg ι A.length H ds xs) (q : R (.ref A.length) (A ++ [.dct ds])) (hp : H p = none) : Q (.ref p) (upd H p (.dK xs)) := by
  have E : Ext A ι H (A ++ [.dct ds]) (fun r => if r = A.length then p else ι r) (upd H p (.dK xs)) := r.ext_push hp
  obtain ⟨r1, e1⟩ := r.push (c := .dct ds) (o := .dK xs) hp ⟨xs, upd_same, by simpa using RK.ext E ds xs h⟩
  refine k _ _ _ _ _ q e1 r1 ⟨by simp, ?_⟩
  show V.ref p = V.ref (if A.length = A.length then p else ι A.length)
  rw [if_pos rfl]
@[irreducible] def dctP (xs : List D) (A : Ar) (R : DK) : Prop := match pairsD xs with
  | some ps => ps.length ≤ 1000 ∧ R (.ref A.length) (A ++ [.dct (putAllD ps)])
  | none => False
@[irreducible] def dctR (r : Nat) (A : Ar) (R : DK) : Prop := match A[r]? with
  | some (.lst xs) => dctP xs A R
  | _ => False
def dctD : DCb := fun vs A R => match vs with
  | [.tup xs] => dctP xs A R
  | [.ref r] => dctR r A R
  | _ => False
theorem RK.len' {mg : Str → Option Value} {ι : Io} {H : Hp} {n : Nat} {ds : List (Key × D)} {vs : List (Key × V)} (h : RK mg ι n H ds vs) : vs.length = ds.length := (RK.length h).symm
theorem d_dict {mg : Str → Option Value} {K : PySem.W.Frag} : CbD mg (fun xs H Q => ∃ (p : Addr) (ts : List V) (ps : List (Key × V)), xs = [.ref p] ∧ (H p = some (.lst ts) ∨ H p = some (.tup ts)) ∧ Pairs K H ts ps ∧ ps.length ≤ 1000 ∧ ∀ d, H d = none → Q (.ref d) (upd H d (.dK (putAll ps)))) dctD := by
  intro ds A ι H us R Q ra rs h k
  have fin : ∀ (xs : List D) (ts : List V) (p : Addr), RVs mg ι A.length H xs ts → (H p = some (.lst ts) ∨ H p = some (.tup ts)) → dctP xs A R → ∃ (q : Addr) (ts : List V) (ps : List (Key × V)), [V.ref p] = [.ref q] ∧ (H q = some (.lst ts) ∨ H q = some (.tup ts)) ∧ Pairs K H ts ps ∧ ps.length ≤ 1000 ∧ ∀ d, H d = none → Q (.ref d) (upd H d (.dK (putAll ps))) := fun xs ts p r hp h => by
    unfold dctP at h
    split at h
    · rename_i ps ep
      obtain ⟨qs, g1, g2, g3⟩ := pairs_V (K := K) ep r
      exact ⟨p, ts, qs, rfl, hp, ⟨g2, g3⟩, by rw [RK.len' g1]; exact h.1, fun d hd => new_dct k ra (RK.fold g1 (acc := []) (acv := []) rfl) h.2 hd⟩
    · exact h.elim
  unfold dctD at h
  split at h
  · obtain ⟨_, _, rfl, ⟨a, xs, rfl, e1, r1⟩, rfl⟩ := rs
    exact fin _ xs a r1 (.inr e1) h
  · obtain ⟨_, _, rfl, ⟨_, rfl⟩, rfl⟩ := rs
    unfold dctR at h
    split at h
    · rename_i xs e
      obtain ⟨us, h1, r1⟩ := ra.lst e
      exact fin _ us _ r1 (.inl h1) h
    · exact h.elim
  · exact h.elim
end DP
namespace DP
open PySem PySem.Spec PyProof.Rows L2
theorem kit_bool {K : PySem.W.Frag} : ∀ t ∈ tys, PySem.W.kitOne K (.type t) (.type "bool") = some (isT t "bool") := by
  intro t ht
  simp only [tys, List.mem_cons, List.not_mem_nil, or_false] at ht
  rcases ht with rfl | rfl | rfl | rfl | rfl | rfl | rfl <;> rfl
theorem kit_int {K : PySem.W.Frag} : ∀ t ∈ tys, PySem.W.kitOne K (.type t) (.type "int") = some (isT t "int") := by
  intro t ht
  simp only [tys, List.mem_cons, List.not_mem_nil, or_false] at ht
  rcases ht with rfl | rfl | rfl | rfl | rfl | rfl | rfl <;> rfl
theorem kit_str {K : PySem.W.Frag} : ∀ t ∈ tys, PySem.W.kitOne K (.type t) (.type "str") = some (isT t "str") := by
  intro t ht
  simp only [tys, List.mem_cons, List.not_mem_nil, or_false] at ht
  rcases ht with rfl | rfl | rfl | rfl | rfl | rfl | rfl <;> rfl
theorem kit_tuple {K : PySem.W.Frag} : ∀ t ∈ tys, PySem.W.kitOne K (.type t) (.type "tuple") = some (isT t "tuple") := by
  intro t ht
  simp only [tys, List.mem_cons, List.not_mem_nil, or_false] at ht
  rcases ht with rfl | rfl | rfl | rfl | rfl | rfl | rfl <;> rfl
end DP
namespace DP
open PySem PySem.Spec PyProof.Rows L2
theorem cI {b : Bool} {X Y : Prop} (h1 : b = true → X) (h2 : b = false → Y) : cond b X Y := by
  cases b with
  | true => exact h1 rfl
  | false => exact h2 rfl
theorem cD {p : Prop} [Decidable p] {X Y : Prop} (h1 : p → X) (h2 : ¬ p → Y) : cond (decide p) X Y := cI (fun e => h1 (of_decide_eq_true e)) fun e => h2 (of_decide_eq_false e)
theorem cN {p : Prop} [Decidable p] {X Y : Prop} (h1 : ¬ p → X) (h2 : p → Y) : cond (!decide p) X Y := cI (fun e => h1 (of_decide_eq_false (by simpa using e))) fun e => h2 (of_decide_eq_true (by simpa using e))
def But (t : Nat) (A A' : Ar) : Prop := ∀ q c, q ≠ t → A[q]? = some c → A'[q]? = some c
theorem But.refl {t : Nat} {A : Ar} : But t A A := fun _ _ _ h => h
theorem But.trans {t : Nat} {A B C : Ar} (a : But t A B) (b : But t B C) : But t A C := fun q c n h => b q c n (a q c n h)
theorem But.set {t : Nat} {A : Ar} {c : C} : But t A (A.set t c) := fun q d n h => by rw [List.getElem?_set_ne (Ne.symm n)]; exact h
def Tw (t n : Nat) (A : Ar) : Prop := ∃ xs, A[t]? = some (.lst xs) ∧ xs.length ≤ n
theorem Tw.mono {t n m : Nat} {A : Ar} (h : Tw t n A) (l : n ≤ m) : Tw t m A := let ⟨xs, a, b⟩ := h; ⟨xs, a, Nat.le_trans b l⟩
theorem getElem?_push {A T : Ar} {q : Nat} {c : C} (h : A[q]? = some c) : (A ++ T)[q]? = some c := by
  have := (List.getElem?_eq_some_iff.mp h).1
  rw [List.getElem?_append_left this]; exact h
def Gr (A A' : Ar) : Prop := ∃ T, A' = A ++ T
theorem Gr.refl {A : Ar} : Gr A A := ⟨[], by simp⟩
theorem Gr.push {A T : Ar} : Gr A (A ++ T) := ⟨T, rfl⟩
theorem Gr.trans {A B C : Ar} (a : Gr A B) (b : Gr B C) : Gr A C := by
  obtain ⟨T, rfl⟩ := a
  obtain ⟨T', rfl⟩ := b
  exact ⟨T ++ T', by simp⟩
theorem Gr.get {A B : Ar} (a : Gr A B) {q : Nat} {c : C} (h : A[q]? = some c) : B[q]? = some c := by
  obtain ⟨T, rfl⟩ := a
  exact getElem?_push h
theorem Gr.but {A B : Ar} {t : Nat} (a : Gr A B) : But t A B := fun _ _ _ h => a.get h
theorem Tw.gr {A B : Ar} {t n : Nat} (h : Tw t n A) (a : Gr A B) : Tw t n B := let ⟨xs, x, y⟩ := h; ⟨xs, a.get x, y⟩
def SCell : Ct := fun ds A R _ => ∃ ns k, ds = [.fl ns, .int k] ∧ 0 ≤ k ∧ ∀ i A', Gr A A' → R (.int i) A'
def SMixed : Ct := fun ds A R _ => ∃ ns k m, ds = [.fl ns, .int k, .int m] ∧ 0 ≤ k ∧ 0 < m ∧ ∀ i A', 0 ≤ i → i < m → Gr A A' → R (.int i) A'
def SDraw : Ct := fun ds A R _ => ∃ ns t m n, ds = [.fl ns, .ref t, .int m] ∧ Tw t n A ∧ n < 1000000 ∧ 0 < m ∧ ∀ i A', 0 ≤ i → i < m → But t A A' → Tw t (n + 1) A' → R (.int i) A'
def SPick : Ct := fun ds A R _ => ∃ ns t q xs n, ds = [.fl ns, .ref t, .ref q] ∧ q ≠ t ∧ A[q]? = some (.lst xs) ∧ xs ≠ [] ∧ Tw t n A ∧ n < 1000000 ∧ ∀ x A', x ∈ xs → But t A A' → Tw t (n + 1) A' → R x A'
theorem atI_some' {α : Type} {xs : List α} {k : Int} (h0 : 0 ≤ k) (h : k < (xs.length : Int)) : ∃ v, atI xs k = some v ∧ v ∈ xs := by
  have hk : k.toNat < xs.length := by omega
  refine ⟨xs[k.toNat], ?_, List.getElem_mem hk⟩
  unfold atI ixN
  rw [if_pos h0, if_pos h]
  simp [List.getElem?_eq_getElem hk]
end DP
namespace DP
open PySem PySem.Spec PyProof.Rows L2
theorem lay_ints : ∀ ns : List Int, PyData.canLayAll0 (ns.map PyData.int) = true
  | [] => by simp [PyData.canLayAll0]
  | n :: r => by simp [PyData.canLayAll0, PyData.canLay0, lay_ints r]
theorem last_get {A : Ar} {c : C} : (A ++ [c])[A.length]? = some c := by simp
theorem eq_fl_nil {ns : List Int} {A : Ar} {R : DK} (h : R (.bl (decide (ns = []))) (A ++ [.lst []])) : dataEq false (.fl ns) (.ref A.length) (A ++ [.lst []]) R := by
  unfold dataEq
  have e1 : toP (A ++ [.lst []]) (.ref A.length) = .list [] := by unfold toP; simp only [last_get]; rfl
  have e0 : toP (A ++ [.lst []]) (.fl ns) = .list (ns.map PyData.int) := by unfold toP; rfl
  refine ⟨rfl, ?_, ?_, ?_, ?_, ?_⟩
  · unfold okP; simp only [last_get]; rfl
  · rw [e0]; simpa [PyData.canLay0] using lay_ints ns
  · rw [e1]; simp [PyData.canLay0, PyData.canLayAll0]
  · rw [e1]; simp [PyData.depth, PyData.depthAll]; omega
  · rw [e0, e1]
    have e : PyData.eqv (.list (ns.map PyData.int)) (.list []) = decide (ns = []) := by cases ns <;> simp [PyData.eqv, PyData.eqvAll]
    rw [if_neg Bool.false_ne_true, e]
    exact h
end DP
namespace DP
open PySem PySem.Spec PyProof.Rows L2
section
variable {A : Ar} {r q t : Nat} {xs ys : List D} {kvs : List (Key × D)} {R : DK}
theorem isL_of (h : A[r]? = some (.lst xs)) : isL A (.ref r) = true := by unfold isL; simp only [h]
theorem app_ok {y : D} (h : A[r]? = some (.lst xs)) (hz : xs.length < sizeLine) (k : R .non (A.set r (.lst (xs ++ [y])))) : appR r y A R := by
  unfold appR
  simp only [h]
  exact ⟨hz, k⟩
theorem ext_ok (h : A[r]? = some (.lst xs)) (h2 : A[q]? = some (.lst ys)) (hz : xs.length + ys.length ≤ sizeLine) (k : R .non (A.set r (.lst (xs ++ ys)))) : extR r q A R := by
  unfold extR
  simp only [h, h2]
  exact ⟨hz, k⟩
theorem cat_ok (h : A[r]? = some (.lst xs)) (h2 : A[q]? = some (.lst ys)) (hz : xs.length + ys.length ≤ sizeLine) (k : R (.ref A.length) (A ++ [.lst (xs ++ ys)])) : catR r q A R := by
  unfold catR
  simp only [h, h2]
  exact ⟨hz, k⟩
theorem len_ok (h : A[r]? = some (.lst xs)) (k : R (.int xs.length) A) : lenR r A R := by
  unfold lenR
  simp only [h]
  exact k
theorem ix_ok {i : Int} {v : D} (h : A[r]? = some (.lst xs)) (hi : atI xs i = some v) (k : R v A) : ixR r (.int i) A R := by
  unfold ixR
  simp only [h, hi]
  exact k
theorem get_set (h : A[t]? = some (.lst xs)) : (A.set t (.lst ys))[t]? = some (.lst ys) := by
  rw [List.getElem?_set_self (List.getElem?_eq_some_iff.mp h).1]
theorem lt_of_get {c : C} (h : A[t]? = some c) : t < A.length := (List.getElem?_eq_some_iff.mp h).1
end
end DP
namespace DP
open PySem PySem.Spec PyProof.Rows L2
theorem vals_ints_at {ns : List Int} {its : List Value} (r : Vals (ns.map V.int) its) : ∀ (i : Nat) (v : Value), its.toArray[i]? = some v → ∃ t : Tok, v = Value.int (ns.getD i 0) t := fun i v h => by
  have h' : its[i]? = some v := by simpa using h
  have hi := (List.getElem?_eq_some_iff.mp h').1
  have hl := r.length
  have hi2 : i < (ns.map V.int).length := by omega
  obtain ⟨u, e, ru⟩ := r.get (List.getElem?_eq_getElem hi2)
  rw [h'] at e
  cases e
  rw [List.getElem_map] at ru
  obtain ⟨t, rfl⟩ := ru
  refine ⟨t, ?_⟩
  rw [List.getD_eq_getElem?_getD, List.getElem?_eq_getElem (by simpa using hi2)]
  rfl
theorem call_maxT {X : Cx} (hc : X.calm = true) : CallR X (.builtin "max") (fun xs H Q => ∃ (p : Addr) (ns : List Int), xs = [.ref p] ∧ (SqT X.K H p (ns.map V.int) ∨ SqL X.K H p (ns.map V.int)) ∧ ns ≠ [] ∧ ∀ m ∈ ns, (∀ n ∈ ns, n ≤ m) → Q (.int m) H) := by
  intro pins s σ H xs us Q I r h
  obtain ⟨p, ns, rfl, hq, hne, q⟩ := h
  obtain ⟨u, rfl, ru⟩ := vals1 r
  cases ru
  have npos := List.length_pos_iff.mpr hne
  have fin : ∀ (its : List Value) (oI : Obj), Vals (ns.map V.int) its → ∀ (v : Value) (h' : Heap) (tk : Nat), its.toArray[argBest (fun i j => decide (ns.getD i 0 > ns.getD j 0)) (its.toArray.size - 1)]? = some v → (∀ b o, b ∉ [s.heap.objs.size] → (s.heap.push oI).get? b = some o → h'.get? b = some o) → EP X pins σ Q v { s with heap := h', toks := tk } := fun its oI rv v h' tk hv hk => by
    obtain ⟨t, rfl⟩ := vals_ints_at rv _ v hv
    have hl : its.toArray.size = ns.length := by rw [List.size_toArray, ← rv.length, List.length_map]
    obtain ⟨b1, b2⟩ := argBest_gt (fun i => ns.getD i 0) (its.toArray.size - 1)
    have hi : argBest (fun i j => decide (ns.getD i 0 > ns.getD j 0)) (its.toArray.size - 1) < ns.length := by omega
    have hmem : ns.getD (argBest (fun i j => decide (ns.getD i 0 > ns.getD j 0)) (its.toArray.size - 1)) 0 ∈ ns := by
      rw [List.getD_eq_getElem?_getD, List.getElem?_eq_getElem hi]
      exact List.getElem_mem hi
    have Q1 := q _ hmem fun n hn => by
      obtain ⟨j, hj, e⟩ := List.getElem_of_mem hn
      have := b2 j (by omega)
      rw [List.getD_eq_getElem?_getD, List.getElem?_eq_getElem hj] at this
      rw [← e]
      exact this
    exact ⟨.int _, H, I.kept fun b o e => hk b o (fun z => by
      have z' : b = s.heap.objs.size := by simpa using z
      exact absurd (Heap.lt_size e) (by rw [z']; exact Nat.lt_irrefl _)) (Heap.get?_push_of_some _ e), ⟨_, rfl⟩, Q1⟩
  refine call_max_walk ?_
  rcases hq with hq | hq
  · obtain ⟨its, rv, pl, hz⟩ := I.tuple hq
    have hsz : 0 < its.toArray.size := by rw [List.size_toArray, ← rv.length, List.length_map]; exact npos
    have hlt : p < s.heap.objs.size := pl.lt
    refine wpAny_pyIter_tuple (show s.heap.IsTuple p its.toArray from pl) ⟨s.heap.objs.size, _, _, _, _, _, _, rfl, Walks.tuple (A := X.A.in1) (I.ok.hd hc) s.heap.objs.size p (Nat.ne_of_lt hlt) its.toArray, ⟨⟨_, Heap.get?_push_size _ rfl, rfl, rfl⟩, ?_⟩, fun b hb => ?_, hsz, CmpOf.ints_gt (fun i => ns.getD i 0) (vals_ints_at rv), fun v h' tk hv hk => fin its _ rv v h' tk hv hk⟩
    · obtain ⟨o, ho, r⟩ := (show s.heap.IsTuple p its.toArray from pl)
      exact ⟨o, Heap.get?_push_of_some _ ho, r⟩
    · show b < (s.heap.push _).objs.size
      rw [size_push']
      rcases List.mem_cons.mp hb with e | hb
      · rw [e]; exact Nat.lt_succ_self _
      · rw [List.mem_singleton.mp hb]; exact Nat.lt_succ_of_lt hlt
  · obtain ⟨its, rv, pl, hz⟩ := I.list hq
    have hsz : 0 < its.toArray.size := by rw [List.size_toArray, ← rv.length, List.length_map]; exact npos
    have hL := pl.isList
    have hlt : p < s.heap.objs.size := by obtain ⟨o, ho, _⟩ := hL; exact Heap.lt_size ho
    refine wpAny_pyIter_list hL ⟨s.heap.objs.size, _, _, _, _, _, _, rfl, Walks.list (A := X.A.in1) (I.ok.hd hc) s.heap.objs.size p (Nat.ne_of_lt hlt) its.toArray, ⟨⟨_, Heap.get?_push_size _ rfl, rfl, rfl⟩, ?_⟩, fun b hb => ?_, hsz, CmpOf.ints_gt (fun i => ns.getD i 0) (vals_ints_at rv), fun v h' tk hv hk => fin its _ rv v h' tk hv hk⟩
    · obtain ⟨o, ho, r⟩ := hL
      exact ⟨o, Heap.get?_push_of_some _ ho, r⟩
    · show b < (s.heap.push _).objs.size
      rw [size_push']
      rcases List.mem_cons.mp hb with e | hb
      · rw [e]; exact Nat.lt_succ_self _
      · rw [List.mem_singleton.mp hb]; exact Nat.lt_succ_of_lt hlt
@[irreducible] def maxI (xs : List D) (A : Ar) (R : DK) : Prop := match intsD xs with
  | some ns => ns ≠ [] ∧ ∀ m ∈ ns, (∀ n ∈ ns, n ≤ m) → R (.int m) A
  | none => False
@[irreducible] def maxR (r : Nat) (A : Ar) (R : DK) : Prop := match A[r]? with
  | some (.lst xs) => maxI xs A R
  | _ => False
def max1D : DCb := fun vs A R => match vs with
  | [.tup xs] => maxI xs A R
  | [.ref r] => maxR r A R
  | _ => False
theorem d_max1 {mg : Str → Option Value} {K : PySem.W.Frag} : CbD mg (fun xs H Q => ∃ (p : Addr) (ns : List Int), xs = [.ref p] ∧ (SqT K H p (ns.map V.int) ∨ SqL K H p (ns.map V.int)) ∧ ns ≠ [] ∧ ∀ m ∈ ns, (∀ n ∈ ns, n ≤ m) → Q (.int m) H) max1D := by
  intro ds A ι H us R Q ra rs h k
  unfold max1D at h
  split at h
  · obtain ⟨_, _, rfl, ⟨a, xs, rfl, e1, r1⟩, rfl⟩ := rs
    unfold maxI at h
    split at h
    · rename_i ns en
      exact ⟨a, ns, rfl, .inl (SqT.of (by rw [e1, ints_V en r1])), h.1, fun m hm hb => k.here ra (h.2 m hm hb) rfl⟩
    · exact h.elim
  · obtain ⟨_, _, rfl, ⟨_, rfl⟩, rfl⟩ := rs
    unfold maxR at h
    split at h
    · rename_i xs e
      obtain ⟨us, h1, r1⟩ := ra.lst e
      unfold maxI at h
      split at h
      · rename_i ns en
        exact ⟨_, ns, rfl, .inr (SqL.of (by rw [h1, ints_V en r1])), h.1, fun m hm hb => k.here ra (h.2 m hm hb) rfl⟩
      · exact h.elim
    · exact h.elim
  · exact h.elim
end DP
namespace DP
open PySem PySem.Spec PyProof.Rows L2
def sTry (okc : List Str) (len i : Nat) (m : DX → DTS) (th : DTS) : DTS := fun R τ A => m (fun c A' => c ∈ okc ∧ th { nx := fun _ _ => False, rt := R.rt } ((List.replicate len none).set i (some (.exc c))) A') R τ A
theorem ds_try {X : Cx} {N : En} {D : Addr} {i : Nat} {n cn : Str} {b₀ : Stmt} {suite body : List Stmt} {m : DX → DTS} {th : DTS} {np hpos pos : Pos} (okc : List Str) (hex : X.ex = []) (hst : X.stack = X.env :: X.outer) (hfr : X.env.frame = some X.env.locals) (hN : X.N.Nodup) (hi : X.N[i]? = some n) (hl : X.env.scope.names.lookup n = some .local) (hm : X.mg cn = some (.ref D))
    (hok : ∀ c C, c ∈ okc → X.mg c = some (.ref C) → PySem.W.exmOne X.K (.ref C) (.ref D) = some true)
    (hb : ∀ (M : En) (RE : DX) (pn : List (Addr × Obj)) (E : Value → Shared → Prop), Passes (CX1 X.prog X.w) (X.tried pn E) (EL X.mg M RE) → PSs (X.tried pn E) body (upS X.mg M (m RE))) (hh : ∀ (M : En) (e : Addr), PSs (X.inExc e) (b₀ :: suite) (upS X.mg M th))
    (hg : Gl X cn := by rfl) (hdb : (cn == ("__debug__" : Str)) = false := by decide) :
    PS X (.Try body [.ExceptHandler (some (.Name cn np)) (some n) (b₀ :: suite) hpos] [] [] pos) (upS X.mg N (sTry okc X.N.length i m th)) := by
  intro pins s σ H Dn I q
  obtain ⟨A, ι, τ, R, S, q, k⟩ := q
  refine ps_try (tb := fun pn E Ex Q σ' H' => ∃ RE : DX, (∀ C a H', EL X.mg ⟨A, ι, H⟩ RE C a H' → Ex C none H') ∧ upS X.mg ⟨A, ι, H⟩ (m RE) Q σ' H') (th := upS X.mg ⟨A, ι, H⟩ th) hex hst hfr hN hi hl hm (fun pn E Ex hx => ?_) (hh ⟨A, ι, H⟩) hg hdb pins s σ H Dn I ?_
  · intro pins' s' σ' H' Q I' z
    obtain ⟨RE, hE, z⟩ := z
    exact hb ⟨A, ι, H⟩ RE pn E (fun pins σ H1 s1 e s' I z => hx pins σ H1 s1 e s' I (by
      obtain ⟨a, C, H2, h1, h2, h3⟩ := z
      exact ⟨a, C, H2, h1, h2, hE _ _ _ h3⟩)) pins' s' σ' H' Q I' z
  · intro pn E
    refine ⟨_, fun C a0 H' z => ?_, A, ι, τ, R, ⟨S.ra, S.rs, S.ra.refl⟩, q, k⟩
    obtain ⟨c, A', ι', ⟨Ca, rfl, hc⟩, e, r, hin, ht⟩ := z
    refine ⟨Ca, rfl, hok c Ca hin hc, fun a σ' hlen ha => ?_⟩
    have E1 := r.ext_fix (o := excO a Ca) ha
    have r1 := r.fix E1 fun b o z => by rw [upd_ne (ne_of_none z ha)]; exact z
    refine ⟨A', ι', _, _, ⟨r1, ⟨by simp [hlen], fun j d hj => ?_⟩, e.trans E1⟩, ht, ⟨fun _ _ _ _ _ z _ _ _ => z.elim, k.rt.from (e.trans E1), fun _ _ _ _ _ z _ _ _ => z.elim, fun _ _ _ _ _ z _ _ _ => z.elim⟩⟩
    by_cases hji : j = i
    · subst hji
      by_cases hlt : j < X.N.length
      · rw [lk_set_self _ _ _ (by simpa using hlt)] at hj
        cases hj
        exact ⟨.ref a, by rw [List.getElem?_set_self (by rw [hlen]; exact hlt)], a, Ca, rfl, hc, upd_same⟩
      · rw [List.set_eq_of_length_le (by simp; omega), lk_get, List.getElem?_eq_none (by simp; omega)] at hj
        cases hj
    · rw [lk_set_ne _ _ _ _ hji, lk_get, List.getElem?_replicate] at hj
      split at hj <;> simp at hj
end DP
namespace L2
open PySem PySem.Spec PyProof.Rows
section
variable {X : Cx} {D : Addr} {cn : Str} {b₀ : Stmt} {suite body : List Stmt} {tb : List (Addr × Obj) → (Value → Shared → Prop) → XK → TS} {th : TS} {np hpos pos : Pos}
end
end L2
namespace DP
open PySem PySem.Spec PyProof.Rows L2
end DP
namespace DP
open PySem PySem.Spec PyProof.Rows L2 MA
abbrev M := Mob Str
def enc : M → D
  | .wt n => .tup [.str "weight", .str n]
  | .rod l r a b => .tup [.str "rod", .int l, .int r, enc a, enc b]
theorem cloop_map {k : Option Nat} {fr : DSt} {te : DTE} {chk : Ar → Prop} {R : List D → Ar → Prop} {A : Ar} (hc : chk A) (f : D → D) : ∀ (items ys : List D), (∀ x ∈ items, ∃ vs, unp k x = some vs ∧ ∀ Q : DK, Q (f x) A → te (vs.map some ++ fr) A Q) → ys.length + items.length ≤ sizeLine → R (ys ++ items.map f) A → cLoopD chk k fr tt0 te R items ys A
  | [], ys, _, _, h => ⟨hc, by simpa using h⟩
  | x :: xs, ys, hx, hl, h => by
    obtain ⟨vs, hu, ht⟩ := hx x (List.mem_cons_self ..)
    refine ⟨hc, ?_⟩
    rw [hu]
    refine ht _ ⟨by simp at hl; omega, cloop_map hc f xs (ys ++ [f x]) (fun y hy => hx y (List.mem_cons_of_mem _ hy)) (by simp at hl ⊢; omega) (by simpa using h)⟩
theorem bls_map {α : Type} (f : α → Bool) : ∀ xs : List α, bls (xs.map fun x => D.bl (f x)) = some (xs.map f)
  | [] => rfl
  | x :: r => by simp [bls, bls_map f r]
theorem ints_map {α : Type} (f : α → Int) : ∀ xs : List α, intsD (xs.map fun x => D.int (f x)) = some (xs.map f)
  | [] => rfl
  | x :: r => by simp [intsD, ints_map f r]
theorem all_ok {A : Ar} {r : Nat} {xs : List D} {bs : List Bool} {R : DK} (h : A[r]? = some (.lst xs)) (hb : bls xs = some bs) (k : R (.bl (bs.all id)) A) : allR r A R := by
  unfold allR
  simp only [h, hb]
  exact k
theorem it_ok {A : Ar} {r : Nat} {xs : List D} {R : List D → (Ar → Prop) → Ar → Prop} (h : A[r]? = some (.lst xs)) (k : R xs (fun A' => A'[r]? = some (.lst xs)) A) : itR r A R := by
  unfold itR
  simp only [h]
  exact k
structure Nm (n : Str) : Prop where
  lo : 1 ≤ n.length
  hi : n.length ≤ 3
  az : ∀ c ∈ n.cps.toList, 97 ≤ c ∧ c ≤ 122
structure Wf (m : M) : Prop where
  arms : m.arms
  nm : ∀ n ∈ m.names, Nm n
def SV (dom : List D → D → Prop) : Ct := fun ds A R _ => ∃ v, dom ds v ∧ ∀ A', Gr A A' → R v A'
abbrev SChk : Ct := SV fun ds v => ∃ m, ds = [enc m] ∧ Wf m ∧ m.deep ≤ 5 ∧ v = .non
end DP
namespace DP
open PySem PySem.Spec PyProof.Rows L2 MA
theorem fnNo {P : Program} {w : World} {K : PySem.W.Frag} {mg : Str → Option Value} {base : Heap} {x : Str} {st : Stmt} {ps : List Str} {k n : Nat} {S : Ct} (T : TopD K mg x st ps) (no : ∀ ds A R RE, ¬ S ds A R RE) : FnX P w K mg base k x ps (spOf mg n S) := by
  obtain ⟨f, fd, F, b, m⟩ := T
  have no' : ∀ vs H Q E, ¬ spOf mg n S vs H Q E := fun vs H Q E h => by
    obtain ⟨A, ι, ds, R, RE, _, _, _, z, _⟩ := h
    exact no _ _ _ _ z
  exact ⟨f, fd, ⟨fun vs H Q E h => absurd h (no' vs H Q E), fun A outer s H args us vs Q E _ _ _ _ h => absurd h (no' vs H Q E)⟩, b, F.kp, m⟩
end DP
namespace DP
open PySem PySem.Spec PyProof.Rows L2 MA
theorem put_new {kvs : List (Key × D)} {k : Key} {v : D} (h : ∀ p ∈ kvs, p.1 ≠ k) : putG kvs k v = kvs ++ [(k, v)] := by
  unfold putG
  rw [if_neg]
  intro z
  obtain ⟨p, hp, e⟩ := List.any_eq_true.mp z
  exact h p hp (of_decide_eq_true e)
abbrev SRw (d : Nat) : Ct := SV fun ds v => ∃ m, ds = [enc m] ∧ m.deep < d ∧ v = .int m.deep
end DP
namespace DP
open PySem PySem.Spec PyProof.Rows L2 MA
theorem Nm.ok {n : Str} (h : Nm n) : PyData.canLay0 (.str n) = true := by
  have e : n.cps.all (fun c => decide (c < 0x110000)) = true := by
    rw [← Array.all_toList, List.all_eq_true]
    intro c hc
    have := h.az c hc
    exact decide_eq_true (by omega)
  simpa [PyData.canLay0, PyData.strOk] using e
end DP
namespace DP
open PySem PySem.Spec PyProof.Rows L2 MA
theorem ixd_ok {A : Ar} {r : Nat} {kvs : List (Key × D)} {y v : D} {k : Key} {R : DK} (h : A[r]? = some (.dct kvs)) (hk : keyD y = some k) (hv : getK kvs k = some v) (q : R v A) : ixR r y A R := by
  unfold ixR
  simp only [h, hk, hv]
  exact q
end DP
namespace DP
open PySem PySem.Spec PyProof.Rows L2 MA
theorem ind_ok {A : Ar} {r : Nat} {kvs : List (Key × D)} {y : D} {k : Key} {R : DK} {neg : Bool} (h : A[r]? = some (.dct kvs)) (hk : keyD y = some k) (q : R (.bl (if neg then !(getK kvs k).isSome else (getK kvs k).isSome)) A) : inR neg y r A R := by
  unfold inR
  simp only [h, hk]
  exact q
end DP
namespace DP
open PySem PySem.Spec PyProof.Rows L2 MA
def rd (a b : Int) : Int × Int := (a / (Int.gcd a b : Int), b / (Int.gcd a b : Int))
abbrev SGcd : Ct := SV fun ds v => ∃ a b : Int, ds = [.int a, .int b] ∧ 0 ≤ a ∧ 0 ≤ b ∧ v = .int (Int.gcd a b : Int)
abbrev SRed : Ct := SV fun ds v => ∃ a b : Int, ds = [.int a, .int b] ∧ 0 < a ∧ 0 < b ∧ a < 2 ^ 2000 ∧ v = .tup [.int (rd a b).1, .int (rd a b).2]
theorem rd_pos {a b : Int} (ha : 0 < a) (hb : 0 < b) : 1 ≤ (rd a b).1 ∧ 1 ≤ (rd a b).2 := by
  have hg : 0 < (Int.gcd a b : Int) := by
    have := Int.gcd_pos_of_ne_zero_left b (show a ≠ 0 by omega)
    omega
  have d1 : (Int.gcd a b : Int) ∣ a := Int.gcd_dvd_left ..
  have d2 : (Int.gcd a b : Int) ∣ b := Int.gcd_dvd_right ..
  unfold rd
  constructor
  · obtain ⟨k, hk⟩ := d1
    show 1 ≤ a / _
    rw [Int.le_ediv_iff_mul_le hg]
    have := Int.le_of_dvd ha (Int.gcd_dvd_left a b)
    omega
  · show 1 ≤ b / _
    rw [Int.le_ediv_iff_mul_le hg]
    have := Int.le_of_dvd hb (Int.gcd_dvd_right a b)
    omega
theorem rd_le {a b : Int} (ha : 0 < a) (hb : 0 < b) : (rd a b).1 ≤ a ∧ (rd a b).2 ≤ b := by
  unfold rd
  exact ⟨Int.ediv_le_self _ (by omega), Int.ediv_le_self _ (by omega)⟩
end DP
namespace DP
open PySem PySem.Spec PyProof.Rows L2 MA
theorem Gr.len {A B : Ar} (a : Gr A B) : A.length ≤ B.length := by
  obtain ⟨T, rfl⟩ := a
  simp
def cst (d : Nat) : Nat := 5 * 2 ^ d - 4
theorem cst_succ (d : Nat) : cst (d + 1) = 4 + 2 * cst d := by
  unfold cst
  have : 0 < 2 ^ d := Nat.pow_pos (by decide)
  rw [Nat.pow_succ]; omega
theorem cst_pos (d : Nat) : 1 ≤ cst d := by
  unfold cst
  have : 0 < 2 ^ d := Nat.pow_pos (by decide)
  omega
structure Dr (t : Nat) (A A' : Ar) (n k : Nat) : Prop where
  but : But t A A'
  tw : Tw t (n + k) A'
def SMob (d : Nat) : Ct := fun ds A R _ => ∃ ns t q nms n, ds = [.fl ns, .ref t, .ref q, .int ((d : Int) - 1)] ∧ 0 < d ∧ q ≠ t ∧ A[q]? = some (.lst (nms.map D.str)) ∧ nms ≠ [] ∧ (∀ x ∈ nms, Nm x) ∧ Tw t n A ∧ n + cst d ≤ 1000000 ∧ ∀ m A', Wf m → m.deep < d → (∀ x ∈ m.names, x ∈ nms) → Dr t A A' n (cst d) → R (enc m) A'
def SFresh (d : Nat) : Ct := fun ds A R _ => ∃ m q n, ds = [enc m, .ref q] ∧ Wf m ∧ m.deep < d ∧ d ≤ 8 ∧ Tw q n A ∧ n + 2 ^ d ≤ 1000000 ∧ ∀ m' A', Wf m' → m'.deep = m.deep → Dr q A A' n (2 ^ d) → R (enc m') A'
end DP
namespace DP
open PySem PySem.Spec PyProof.Rows L2 MA
theorem ixs_ok {z : Str} {i : Int} {c : Nat} {A : Ar} {R : DK} (h : atI z.cps.toList i = some c) (hz : z.length ≤ sizeLine) (k : R (.str ⟨#[c]⟩) A) : ixD (.str z) (.int i) A R := by
  show (match atI z.cps.toList i with | some c => z.length ≤ sizeLine ∧ R (.str ⟨#[c]⟩) A | none => False)
  rw [h]
  exact ⟨hz, k⟩
end DP
namespace DP
open PySem PySem.Spec PyProof.Rows L2 MA
def SSomeD (d : Nat) : Ct := fun ds A R _ => ∃ ns t n, ds = [.fl ns, .ref t, .int ((d : Nat) : Int)] ∧ Tw t n A ∧ n + 200 ≤ 1000000 ∧ ∀ m A', Wf m → m.deep ≤ d → Dr t A A' n 200 → R (enc m) A'
end DP
namespace DP
open PySem PySem.Spec PyProof.Rows L2 MA
theorem cst200 {d : Nat} (h : d ≤ 4) : cst (d + 1) ≤ 156 := by
  have e : d = 0 ∨ d = 1 ∨ d = 2 ∨ d = 3 ∨ d = 4 := by omega
  rcases e with rfl | rfl | rfl | rfl | rfl <;> decide
end DP
namespace DP
open PySem PySem.Spec PyProof.Rows L2
def KEr (K : PySem.W.Frag) (mg : Str → Option Value) (cv : Value) (ans : Str → Option Bool) : Prop := ∀ c C b, ans c = some b → mg c = some (.ref C) → ExcK K C ∧ PySem.W.kitOne K (.ref C) cv = some b
def dIsE (ans : Str → Option Bool) (m : DTE) : DTE := fun τ A R => m τ A fun v A1 => match v with
  | .exc c => (match ans c with
    | some b => R (.bl b) A1
    | none => False)
  | _ => False
section
variable {X : Cx} {N : En} {e : Expr} {m : DTE} {p p2 pos : Pos} {x : Str} {ans : Str → Option Bool}
theorem up_isE {y : V} {cv : Value} (hy : ∀ u, RelV y u → u = cv) (hk : KEr X.K X.mg cv ans) {σ : L2.St} {H : Hp} {Q : VK} (q : up X.mg N (dIsE ans m) σ H Q) : up X.mg N m σ H (fun v H' => ∃ (a : Addr) (z : V) (C : Addr) (c : Value) (b : Bool), [v, y] = [.ref a, z] ∧ (∀ u, RelV z u → u = c) ∧ H' a = some (excO a C) ∧ ExcK X.K C ∧ PySem.W.kitOne X.K (.ref C) c = some b ∧ Q (.bl b) H') := by
  obtain ⟨A, ι, τ, R, S, q, k⟩ := q
  refine ⟨A, ι, τ, _, S, q, fun v A1 ι1 H1 u q1 e1 r1 v1 => ?_⟩
  cases v with
  | exc c =>
    obtain ⟨a, C, rfl, hc, ho⟩ := v1
    have q1 : (match ans c with | some b => R (.bl b) A1 | none => False) := q1
    split at q1
    · rename_i b hb
      obtain ⟨z1, z2⟩ := hk c C b hb hc
      exact ⟨a, y, C, cv, b, rfl, hy, ho, z1, z2, (k.from e1).here r1 q1 rfl⟩
    · exact q1.elim
  | _ => exact q1.elim
theorem de_isE {D : Addr} (hm : X.mg "isinstance" = none) (hx : X.mg x = some (.ref D)) (hk : KEr X.K X.mg (.ref D) ans) (ha : PE X e (up X.mg N m)) (hg : Gl X "isinstance" := by rfl) (hgx : Gl X x := by rfl) (hdb : (x == ("__debug__" : Str)) = false := by decide)
    (hs : starEach [e, .Name x p2] X.env = [(false, eval e X.env), (false, eval (.Name x p2) X.env)] := by rfl) :
    PE X (.Call (.Name "isinstance" p) [e, .Name x p2] [] pos) (up X.mg N (dIsE ans m)) := by
  have hT : PE X (.Name x p2) (tC (.ref D)) := pe_glob hgx hx rfl hdb
  exact de_w (pe_callB call_isE hg hm boot_isinstance (pa_cons ha (pa_cons hT pa_nil rfl) (by rw [hs]; rfl)) (by decide) (by decide) (by rw [hs]; rfl) rfl) fun σ H Q q => up_isE (y := .ref D) (fun _ r => r) hk q
theorem de_isEB {c : String} (hm : X.mg "isinstance" = none) (hmx : X.mg x = none) (hvx : bootBuiltins x = some (.type c)) (hk : KEr X.K X.mg (.type c) ans) (ha : PE X e (up X.mg N m)) (hg : Gl X "isinstance" := by rfl) (hgx : Gl X x := by rfl) (hn : x ≠ "__name__" := by decide) (hdb : (x == ("__debug__" : Str)) = false := by decide)
    (hs : starEach [e, .Name x p2] X.env = [(false, eval e X.env), (false, eval (.Name x p2) X.env)] := by rfl) :
    PE X (.Call (.Name "isinstance" p) [e, .Name x p2] [] pos) (up X.mg N (dIsE ans m)) := by
  have hT : PE X (.Name x p2) (tC (.ty c)) := pe_bltn hgx hmx hvx rfl hn hdb
  exact de_w (pe_callB call_isE hg hm boot_isinstance (pa_cons ha (pa_cons hT pa_nil rfl) (by rw [hs]; rfl)) (by decide) (by decide) (by rw [hs]; rfl) rfl) fun σ H Q q => up_isE (y := .ty c) (fun _ r => r) hk q
end
section
variable {X : Cx} {N : En} {k n : Nat} {x : Str} {ps : List Str} {S : Ct} {e : Expr} {es : List Expr} {m : DTA} {p pos : Pos}
theorem de_callH (F : FnH X.prog X.w X.K X.mg X.base k x ps (spOf X.mg n S)) (hr : RoomH k X.A) (ha : PA X (e :: es) (upA X.mg N m)) (hg : Gl X x := by rfl) (hdb : (x == ("__debug__" : Str)) = false := by decide)
    (he : starEach (e :: es) X.env = (false, eval e X.env) :: starEach es X.env := by rfl) (hpl : (backTo pos (starEach es X.env)).any (·.1) = false := by rfl) :
    PE X (.Call (.Name x p) (e :: es) [] pos) (up X.mg N (dCall n S (fun _ _ => False) m)) := de_w (pe_callH F hr ha hg hdb he hpl) fun σ H Q q => by
  obtain ⟨A, ι, τ, R, Z, q, k⟩ := q
  refine ⟨A, ι, τ, _, Z, q, fun vs A1 ι1 H1 us q1 e1 r1 v1 => ?_⟩
  show spOf X.mg n S (us ++ []) H1 Q E0
  rw [List.append_nil]
  exact ⟨A1, ι1, vs, R, _, q1.1, r1, v1, q1.2, k.from e1, fun c A2 ι2 H2 C q2 hc e2 r2 => q2.elim⟩
end
theorem fnHD {P : Program} {w : World} {K : PySem.W.Frag} {mg : Str → Option Value} {base : Heap} {x : Str} {st : Stmt} {Nm ps : List Str} {k n : Nat} {S : Ct} (T : TopD K mg x st ps) (Sc : FnScope Nm ps (defScope st)) (hn : ps.length = n) (hN : ps.length ≤ Nm.length)
    (hbody : ∀ (N : En) (f : Addr) (cdv : Value) (B : Around) (outer : List Env) (s : Shared) (H : Hp) (E : XK), RoomH k (B.deeper (envOfC x (defScope st) s.heap.objs.size f cdv)) →
      ∀ ds A R RE, S ds A R RE → ds.length = n → ∃ m, PSs ((cxOf CX0 P w K mg base Nm x (defScope st) f cdv { B with handled := Option.none } outer s H E).loud (B.deeper (envOfC x (defScope st) s.heap.objs.size f cdv))) (defBody st) (upS mg N m) ∧ m { nx := fun _ A' => R .non A', rt := R } (startD (Nm.length - n) ds) A) : FnH P w K mg base (k + 1) x ps (spOf mg n S) := by
  refine T.fnH Sc (fun vs H Q E h => ?_) fun f cdv A outer s H vs Q E hr h => ?_
  · obtain ⟨A, ι, ds, R, RE, hl, _, hv, _⟩ := h
    rw [← RVs.length hv, hl, hn]
  · obtain ⟨A0, ι0, ds, R, RE, hl, ra, hv, hS, kq, kx⟩ := h
    obtain ⟨m, hP, hm⟩ := hbody ⟨A0, ι0, H⟩ f cdv A outer s H E hr ds A0 R RE hS hl
    have hlv := RVs.length hv
    refine ⟨_, hP, A0, ι0, _, _, ⟨ra, ⟨?_, fun i d q => ?_⟩, ra.refl⟩, hm, ⟨fun τ A' ι' σ H' q e r _ => kq _ A' ι' H' _ q e r rfl, kq, fun _ _ _ _ _ q _ _ _ => q.elim, fun _ _ _ _ _ q _ _ _ => q.elim⟩⟩
    · simp [startD, L2.start]
      omega
    · obtain ⟨v, h1, h2⟩ := RVs.get hv (lk_start ds _ i d q)
      refine ⟨v, ?_, h2⟩
      have hi := (List.getElem?_eq_some_iff.mp h1).1
      unfold L2.start
      rw [List.getElem?_append_left (by simpa using hi), List.getElem?_map, h1]
      rfl
end DP
namespace DP
open PySem PySem.Spec PyProof.Rows L2
@[irreducible] def cntR (r : Nat) (b : Bool) (A : Ar) (R : DK) : Prop := match A[r]? with
  | some (.lst xs) => (match bls xs with
    | some bs => R (.int (bs.countP (· == b) : Nat)) A
    | none => False)
  | _ => False
def cntD : DMt := fun x vs A R => match x, vs with
  | .ref r, [.bl b] => cntR r b A R
  | _, _ => False
theorem d_count {mg : Str → Option Value} {K : PySem.W.Frag} : MtD mg K "list" rCount cntD := by
  intro x ds A ι H u us R Q ra rx rs h k
  unfold cntD at h
  split at h
  · obtain ⟨_, rfl⟩ := rx
    obtain ⟨v, _, rfl, rfl, rfl⟩ := rs
    unfold cntR at h
    split at h
    · rename_i xs e
      obtain ⟨ws, h1, r1⟩ := ra.lst e
      split at h
      · rename_i bs hb
        cases bls_V hb r1
        exact ⟨_, bs, _, rfl, rfl, h1, k.here ra h rfl⟩
      · exact h.elim
    · exact h.elim
  · exact h.elim
@[irreducible] def idxR (r : Nat) (b : Bool) (A : Ar) (R : DK) : Prop := match A[r]? with
  | some (.lst xs) => (match bls xs with
    | some bs => ∃ j : Nat, bs[j]? = some b ∧ (∀ m c, m < j → bs[m]? = some c → c ≠ b) ∧ R (.int (j : Nat)) A
    | none => False)
  | _ => False
def idxD : DMt := fun x vs A R => match x, vs with
  | .ref r, [.bl b] => idxR r b A R
  | _, _ => False
theorem d_index {mg : Str → Option Value} {K : PySem.W.Frag} : MtD mg K "list" rIndex idxD := by
  intro x ds A ι H u us R Q ra rx rs h k
  unfold idxD at h
  split at h
  · obtain ⟨_, rfl⟩ := rx
    obtain ⟨v, _, rfl, rfl, rfl⟩ := rs
    unfold idxR at h
    split at h
    · rename_i xs e
      obtain ⟨ws, h1, r1⟩ := ra.lst e
      split at h
      · rename_i bs hb
        cases bls_V hb r1
        obtain ⟨j, z1, z2, z3⟩ := h
        exact ⟨_, bs, _, j, rfl, rfl, h1, z1, z2, k.here ra z3 rfl⟩
      · exact h.elim
    · exact h.elim
  · exact h.elim
theorem cnt_ok {A : Ar} {r : Nat} {xs : List D} {bs : List Bool} {b : Bool} {R : DK} (h : A[r]? = some (.lst xs)) (hb : bls xs = some bs) (k : R (.int (bs.countP (· == b) : Nat)) A) : cntR r b A R := by
  unfold cntR
  simp only [h, hb]
  exact k
theorem idx_ok {A : Ar} {r : Nat} {xs : List D} {bs : List Bool} {b : Bool} {R : DK} (j : Nat) (h : A[r]? = some (.lst xs)) (hb : bls xs = some bs) (h1 : bs[j]? = some b) (h2 : ∀ m c, m < j → bs[m]? = some c → c ≠ b) (k : R (.int (j : Nat)) A) : idxR r b A R := by
  unfold idxR
  simp only [h, hb]
  exact ⟨j, h1, h2, k⟩
end DP
namespace L2
open PySem PySem.Spec PyProof.Rows
section
variable {X : Cx}
end
end L2
namespace DP
open PySem PySem.Spec PyProof.Rows L2
section
variable {X : Cx} {N : En} {pos : Pos} {a b : Expr} {ma mb : DTE}
end
theorem ne_ref_nil {A : Ar} {p : Nat} {xs : List D} {R : DK} (h : A[p]? = some (.lst xs)) (hp : purs xs = true) (hl : PyData.canLayAll0 (toQs xs) = true) (k : R (.bl (!decide (xs = []))) (A ++ [.lst []])) : dataEq true (.ref p) (.ref A.length) (A ++ [.lst []]) R := by
  unfold dataEq
  have e0 : toP (A ++ [.lst []]) (.ref p) = .list (toQs xs) := by unfold toP; simp only [getElem?_push h]
  have e1 : toP (A ++ [.lst []]) (.ref A.length) = .list [] := by unfold toP; simp only [last_get]; rfl
  refine ⟨?_, ?_, ?_, ?_, ?_, ?_⟩
  · unfold okP; simp only [getElem?_push h]; exact hp
  · unfold okP; simp only [last_get]; rfl
  · rw [e0]; simpa [PyData.canLay0] using hl
  · rw [e1]; simp [PyData.canLay0, PyData.canLayAll0]
  · rw [e1]; simp [PyData.depth, PyData.depthAll]; omega
  · rw [e0, e1]
    have e : PyData.eqv (.list (toQs xs)) (.list []) = decide (xs = []) := by cases xs <;> simp [toQs, PyData.eqv, PyData.eqvAll]
    rw [if_pos rfl, e]
    exact k
end DP
namespace L2
open PySem PySem.Spec PyProof.Rows
section
variable {prog : Program} {w : World} {B : Around} {E : Value → Shared → Prop}
end
section
variable {X : Cx} {pos : Pos}
end
end L2
namespace DP
open PySem PySem.Spec PyProof.Rows L2
theorem Gr.set {A B : Ar} {r : Nat} {c : C} (g : Gr A B) (h : A.length ≤ r) : Gr A (B.set r c) := by
  obtain ⟨T, rfl⟩ := g
  exact ⟨T.set (r - A.length) c, by rw [List.set_append_right _ _ h]⟩
open MA
theorem Wf.left {l r : Int} {a b : M} (h : Wf (.rod l r a b)) : Wf a := ⟨h.arms.2.2.2.2.1, fun n hn => h.nm n (by simp [Mob.names, hn])⟩
theorem Wf.right {l r : Int} {a b : M} (h : Wf (.rod l r a b)) : Wf b := ⟨h.arms.2.2.2.2.2, fun n hn => h.nm n (by simp [Mob.names, hn])⟩
end DP
namespace DP
open PySem PySem.Spec PyProof.Rows L2
end DP
namespace DP
open PySem PySem.Spec PyProof.Rows L2 MA
section
variable {m : M} {s : Str → Rat} {B : Str → Int}
end
theorem dloop_I {chk : Ar → Prop} {g : DTG} {b : DTS} {R : DEnds} (J : List D → DSt → Ar → Prop) (hc : ∀ rest τ A, J rest τ A → chk A)
    (hs : ∀ x rest τ A, J (x :: rest) τ A → ∀ Nx : DSt → Ar → Prop, (∀ τ' A', J rest τ' A' → Nx τ' A') → g x τ A fun τ1 A1 => b { R with nx := Nx, ct := Nx, bk := R.nx } τ1 A1) (he : ∀ τ A, J [] τ A → R.nx τ A) : ∀ (items : List D) (τ : DSt) (A : Ar), J items τ A → dLoop chk g b R items τ A
  | [], τ, A, j => ⟨hc _ _ _ j, he _ _ j⟩
  | x :: rest, τ, A, j => ⟨hc _ _ _ j, hs _ _ _ _ j _ fun τ' A' j' => dloop_I J hc hs he rest τ' A' j'⟩
theorem cloop_fil {k : Option Nat} {fr : DSt} {tt : DTT} {te : DTE} {chk : Ar → Prop} {R : List D → Ar → Prop} {A : Ar} (hc : chk A) (p : D → Bool) (f : D → D) : ∀ (items ys : List D), (∀ x ∈ items, ∃ vs, unp k x = some vs ∧ (∀ Q : Bool → Ar → Prop, Q (p x) A → tt (vs.map some ++ fr) A Q) ∧ ∀ Q : DK, Q (f x) A → te (vs.map some ++ fr) A Q) → ys.length + items.length ≤ sizeLine → R (ys ++ (items.filter p).map f) A → cLoopD chk k fr tt te R items ys A
  | [], ys, _, _, h => ⟨hc, by simpa using h⟩
  | x :: xs, ys, hx, hl, h => by
    obtain ⟨vs, hu, ht, he⟩ := hx x (List.mem_cons_self ..)
    refine ⟨hc, ?_⟩
    rw [hu]
    simp at hl
    refine ht _ ?_
    cases hp : p x with
    | true =>
      rw [List.filter_cons_of_pos hp] at h
      exact he _ ⟨by omega, cloop_fil hc p f xs (ys ++ [f x]) (fun y hy => hx y (List.mem_cons_of_mem _ hy)) (by simp; omega) (by simpa using h)⟩
    | false =>
      rw [List.filter_cons_of_neg (by simp [hp])] at h
      exact cloop_fil hc p f xs ys (fun y hy => hx y (List.mem_cons_of_mem _ hy)) (by omega) h
end DP
namespace L2
open PySem PySem.Spec PyProof.Rows
def rSlS : V → Option Int → Option Int → Hp → VK → Prop := fun x lo hi H Q => ∃ z, x = .str z ∧ z.length ≤ sizeLine ∧ Q (.str (Txt.slice z lo hi)) H
theorem sl_str {X : Cx} : SlR X rSlS := by
  intro pins s σ H x v vl vu lo hi sl Q I rx hs pl pu h
  obtain ⟨z, rfl, hz, q⟩ := h
  obtain ⟨t, rfl⟩ := rx
  refine ⟨"str", _, F.slot_str_getitem.lookup, typeIs_str _ _ _, ?_⟩
  obtain ⟨o, ho, hc, hd⟩ := hs
  have fin : ∀ (l u : Option (Int × Tok)), vl = partValue l → vu = partValue u → l.map (·.1) = lo → u.map (·.1) = hi → wpAny (model X.prog X.w) X.A (getItem (.str z t) (.ref sl)) (EP X pins σ Q) X.xe s := fun l u e1 e2 e3 e4 => by
    refine wpAny_getItem_str_slice (l := l) (u := u) (st := none) ⟨o, ho, hc, by rw [hd, e1, e2]; rfl⟩ rfl ?_
    refine post_val_or_str ⟨?_, fun t' k => ?_⟩
    · have := Txt.slice_le z lo hi
      rw [← e3, ← e4] at this
      exact Nat.le_trans this hz
    · refine ⟨.str (Txt.slice z lo hi), H, I.kept fun b ob e => e, ⟨t', ?_⟩, q⟩
      rw [← e3, ← e4]
      rfl
  cases pl with
  | none =>
    cases pu with
    | none => exact fin none none rfl rfl rfl rfl
    | int j t2 => exact fin none (some (j, t2)) rfl rfl rfl rfl
  | int i t1 =>
    cases pu with
    | none => exact fin (some (i, t1)) none rfl rfl rfl rfl
    | int j t2 => exact fin (some (i, t1)) (some (j, t2)) rfl rfl rfl rfl
end L2
namespace DP
open PySem PySem.Spec PyProof.Rows L2
def slS (x : D) (lo hi : Option Int) (A : Ar) (R : DK) : Prop := match x with
  | .str z => z.length ≤ sizeLine ∧ R (.str (Txt.slice z lo hi)) A
  | _ => False
def dSls (m : DTE) (l u : DTO) : DTE := fun τ A R => m τ A fun x A1 => l τ A1 fun lo A2 => u τ A2 fun hi A3 => slS x lo hi A3 R
theorem de_sls {X : Cx} {N : En} {e : Expr} {m : DTE} {lo hi : Option Expr} {l u : DTO} {p2 pos : Pos} (he : PE X e (up X.mg N m)) (hl : PO X lo (upO X.mg N l)) (hu : PO X hi (upO X.mg N u)) : PE X (.Subscript e (.Slice lo hi none p2) pos) (up X.mg N (dSls m l u)) :=
  de_w (pe_slice sl_str he hl hu) fun σ H Q q => by
    obtain ⟨A, ι, τ, R, S, q, k⟩ := q
    refine ⟨A, ι, τ, _, S, q, fun x A1 ι1 H1 v q1 e1 r1 v1 => ?_⟩
    refine ⟨A1, ι1, τ, _, S.next e1 r1, q1, fun o2 A2 ι2 H2 q2 e2 r2 => ?_⟩
    refine ⟨A2, ι2, τ, _, (S.next e1 r1).next e2 r2, q2, fun o3 A3 ι3 H3 q3 e3 r3 => ?_⟩
    have e13 := (e1.trans e2).trans e3
    cases x with
    | str z =>
      cases v1
      exact ⟨z, rfl, q3.1, (k.from e13).here r3 q3.2 rfl⟩
    | _ => exact q3.elim
theorem sl_tail {z : Str} {c : Nat} {cs : List Nat} (h : z.cps.toList = c :: cs) : (Txt.slice z (some 1) none).cps.toList = cs := by
  have := slice_closes_from (x := z) (i := 1) ⟨by decide, by rw [h]; simp; omega⟩
  have e : Txt.slice z (some 1) none = ⟨((z.cps.toList.drop (1 : Int).toNat).take ((z.cps.toList.length : Int) - 1).toNat).toArray⟩ := by simpa using this
  rw [e, h]
  simp
end DP
namespace L2
open PySem PySem.Spec PyProof.Rows PySem.SeqAt
open AutoSeq1 (wpAny_loadPart')
open MeetsSeq MeetsSeq2 MeetsSeq3 SeqRoads2
end L2
namespace L2
open PySem PySem.Spec PyProof.Rows PySem.SeqAt
end L2
namespace L2
open PySem PySem.Spec PyProof.Rows PySem.SeqAt
section
variable {prog : Program} {w : World} {A : Around} {E : Value → Shared → Prop} {s : Shared}
end
end L2
namespace L2
open PySem PySem.Spec PyProof.Rows PySem.SeqAt
section
variable {X : Cx}
end
end L2
namespace DP
open PySem PySem.Spec PyProof.Rows L2
end DP
namespace SR
open PySem PySem.Spec PyProof.Rows
end SR
namespace SI
open PySem PySem.Spec PyProof.Rows SS
section
variable {prog : Program} {w : World} {A : Around} {E : Value → Shared → Prop} {s : Shared}
end
end SI
namespace SI
open PySem PySem.Spec PyProof.Rows SS
section
variable {prog : Program} {w : World} {A : Around} {R : Result → Shared → Prop} {I : Addr} {fp wr : List Addr} {G : Array GenState → Array GenState → Prop} {n : Nat} {P : Nat → Value → Prop} {St : Nat → Shared → Prop}
end
section
variable {prog : Program} {w : World} {A : Around} {E : Value → Shared → Prop} {s : Shared}
end
end SI
namespace SI
open PySem PySem.Spec PyProof.Rows SS
section
variable {prog : Program} {w : World} {A : Around} {E : Value → Shared → Prop} {s : Shared}
end
end SI
namespace SI
open PySem PySem.Spec PyProof.Rows SS
section
variable {prog : Program} {w : World} {A : Around} {E : Value → Shared → Prop} {s : Shared} {it a : Addr} {es : Array (Int × Value)} {ep : Nat} {t : SetTable}
end
end SI
namespace SI
open PySem PySem.Spec PyProof.Rows SS
section
variable {prog : Program} {w : World} {A : Around} {E : Value → Shared → Prop} {s : Shared} {it a : Addr} {es : Array (Int × Value)} {ep : Nat} {t : SetTable}
end
end SI
namespace L2
open PySem PySem.Spec PyProof.Rows
section
variable {X : Cx}
end
end L2
namespace DP
open PySem PySem.Spec PyProof.Rows L2
section
variable {X : Cx} {N : En} {e : Expr} {n : DTA} {p1 p2 pos1 pos2 : Pos}
end
end DP
namespace HT
open PySem PySem.Spec PyProof.Rows L2
section
variable {prog : Program} {w : World} {A : Around} {E : Value → Shared → Prop} {s : Shared}
end
end HT
namespace L2
open PySem PySem.Spec PyProof.Rows
section
variable {X : Cx}
end
end L2
namespace DP
open PySem PySem.Spec PyProof.Rows L2
section
variable {X : Cx} {N : En} {pos p2 : Pos} {e : Expr} {lo hi : Option Expr} {m : DTE} {l u : DTO}
end
end DP
namespace L2
open PySem PySem.Spec PyProof.Rows
section
variable {X : Cx} {pins : List (Addr × Obj)} {σ : St} {H : Hp} {s : Shared} {d : Addr} {kvs : List (Key × V)}
end
end L2
namespace DP
open PySem PySem.Spec PyProof.Rows L2
section
variable {X : Cx} {N : En} {tg e : Expr} {m : DTE}
end
end DP
namespace L2
open PySem PySem.Spec PyProof.Rows
section
variable {X : Cx}
end
end L2
namespace DP
open PySem PySem.Spec PyProof.Rows L2
@[irreducible] def anyR (r : Nat) (A : Ar) (R : DK) : Prop := match A[r]? with
    | some (.lst xs) => (match bls xs with
      | some bs => R (.bl (bs.any id)) A
      | none => False)
    | _ => False
end DP
namespace KO
open PySem PySem.W PyProof.Rows
section
variable {O : KeyOrd} {key : Nat → O.α} {n : Nat} {cmp : Nat → Nat → (Bool → Shared → Prop) → Shared → Prop} {s : Shared}
variable (hc : ∀ i j, i < n → j < n → ∀ C : Bool → Shared → Prop, C (O.blt (key i) (key j)) s → cmp i j C s)
include hc
end
end KO
namespace KP
open PySem PySem.W PySem.Spec PyProof.Rows KO
section
variable {prog : Program} {w : World} {A : Around} {E : Value → Shared → Prop} {s : Shared}
end
end KP
namespace L2
open PySem PySem.Spec PyProof.Rows PySem.SeqAt
section
variable {X : Cx}
end
end L2
namespace DP
open PySem PySem.Spec PyProof.Rows L2
end DP
namespace L2
open PySem PySem.Spec PyProof.Rows PySem.SeqAt
open AutoSeq1 (wpAny_loadPart')
open MeetsSeq MeetsSeq2 MeetsSeq3 SeqRoads2
end L2
namespace L2
open PySem PySem.Spec PyProof.Rows PySem.SeqAt
end L2
namespace L2
open PySem PySem.Spec PyProof.Rows PySem.SeqAt
end L2
namespace DP
open PySem PySem.Spec PyProof.Rows L2
section
variable {X : Cx} {N : En} {a b : Expr} {ma mb : DTE} {pos : Pos}
end
end DP
namespace L2
open PySem PySem.Spec PyProof.Rows
end L2
namespace DP
open PySem PySem.Spec PyProof.Rows L2
section
variable {X : Cx} {N : En} {a b : Expr} {ma mb : DTE} {pos : Pos}
end
end DP
namespace L2
open PySem PySem.Spec PyProof.Rows
open Sem (wp)
open AutoSeq1 (wpAny_loadPart')
section
variable {prog : Program} {w : World} {A : Around} {E : Value → Shared → Prop} {s : Shared}
end
section
variable {prog : Program} {w : World} {A : Around} {E : Value → Shared → Prop} {s : Shared}
end
section
variable {X : Cx}
end
end L2
namespace DP
open PySem PySem.Spec PyProof.Rows L2
end DP
namespace DP
open PySem PySem.Spec PyProof.Rows L2
section
variable {es : List Expr} {env : Env} {p : Pos}
end
end DP
namespace DP
open PySem PySem.Spec PyProof.Rows L2
section
variable {X : Cx} {k n : Nat}
end
end DP
namespace HT
open PySem PySem.Spec PyProof.Rows L2
section
variable {prog : Program} {w : World} {A : Around} {E : Value → Shared → Prop} {s : Shared}
end
end HT
namespace L2
open PySem PySem.Spec PyProof.Rows
section
variable {X : Cx} {e se : Expr} {te ts : TE} {p2 pos : Pos}
end
end L2
namespace DP
open PySem PySem.Spec PyProof.Rows L2
end DP
namespace L2
open PySem PySem.Spec PyProof.Rows
section
variable {X : Cx}
end
end L2
namespace DP
open PySem PySem.Spec PyProof.Rows L2
section
variable {X : Cx} {N : En} {a b : Expr} {pos : Pos} {ma mb : DTE}
end
end DP
namespace DP
open PySem PySem.Spec PyProof.Rows L2
def putFD (f : Str) (v : D) : List (Str × D) → List (Str × D)
  | [] => [(f, v)]
  | p :: r => if p.1 = f then (p.1, v) :: r else p :: putFD f v r
section
variable {mg : Str → Option Value} {ι : Io} {n : Nat} {H : Hp}
theorem RF.look {f : Str} : ∀ {ds : List (Str × D)} {vs : List (Str × V)}, RF mg ι n H ds vs → (∀ d, ds.lookup f = some d → ∃ v, vs.lookup f = some v ∧ RV mg ι n H d v) ∧ (ds.lookup f = none → vs.lookup f = none)
  | [], vs, h => by
    have h : vs = [] := h
    subst h
    exact ⟨fun d h => (by cases h), fun _ => rfl⟩
  | p :: ds, vs, h => by
    obtain ⟨x, r, rfl, h1, h2⟩ := h
    obtain ⟨i1, i2⟩ := RF.look (f := f) h2
    cases e : (f == p.1) with
    | true =>
      refine ⟨fun d h => ?_, fun h => ?_⟩
      · rw [show ((p :: ds).lookup f) = some p.2 by rw [List.lookup]; rw [e]] at h
        cases h
        exact ⟨x, by rw [List.lookup]; rw [e], h1⟩
      · rw [show ((p :: ds).lookup f) = some p.2 by rw [List.lookup]; rw [e]] at h
        cases h
    | false =>
      have e1 : (p :: ds).lookup f = ds.lookup f := by rw [List.lookup]; rw [e]
      have e2 : ((p.1, x) :: r).lookup f = r.lookup f := by rw [List.lookup]; rw [e]
      rw [e1, e2]
      exact ⟨i1, i2⟩
theorem RF.length : ∀ {ds : List (Str × D)} {vs : List (Str × V)}, RF mg ι n H ds vs → ds.length = vs.length
  | [], vs, h => by have h : vs = [] := h; rw [h]; rfl
  | p :: ds, vs, h => by
    obtain ⟨x, r, rfl, h1, h2⟩ := h
    simp [RF.length h2]
theorem RF.put {f : Str} {d : D} {v : V} (hv : RV mg ι n H d v) : ∀ {ds : List (Str × D)} {vs : List (Str × V)}, RF mg ι n H ds vs → RF mg ι n H (putFD f d ds) (putF f v vs)
  | [], vs, h => by
    have h : vs = [] := h
    subst h
    exact ⟨v, [], rfl, hv, rfl⟩
  | p :: ds, vs, h => by
    obtain ⟨x, r, rfl, h1, h2⟩ := h
    show RF mg ι n H (if p.1 = f then (p.1, d) :: ds else p :: putFD f d ds) (if p.1 = f then (p.1, v) :: r else (p.1, x) :: putF f v r)
    by_cases e : p.1 = f
    · rw [if_pos e, if_pos e]
      exact ⟨v, r, rfl, hv, h2⟩
    · rw [if_neg e, if_neg e]
      exact ⟨x, _, rfl, h1, RF.put hv h2⟩
end
theorem RA.ins {mg : Str → Option Value} {A : Ar} {ι : Io} {H : Hp} (r : RA mg ι H A) {q : Nat} {cl : Str} {fs : List (Str × D)} (h : A[q]? = some (.ins cl fs)) : ∃ Cc dx xs, mg cl = some (.ref Cc) ∧ H (ι q) = some (.ins Cc dx xs) ∧ RF mg ι A.length H fs xs := r.cel q _ h
@[irreducible] def fldR (cl f : Str) (r : Nat) (A : Ar) (R : DK) : Prop := match A[r]? with
  | some (.ins c fs) => c = cl ∧ (match fs.lookup f with
    | some v => R v A
    | none => False)
  | _ => False
def fldD (cl f : Str) (x : D) (A : Ar) (R : DK) : Prop := match x with
  | .ref r => fldR cl f r A R
  | _ => False
def dFld (cl f : Str) (m : DTE) : DTE := fun τ A R => m τ A fun x A1 => fldD cl f x A1 R
theorem fld_ok {cl f : Str} {r : Nat} {A : Ar} {R : DK} {fs : List (Str × D)} {v : D} (h : A[r]? = some (.ins cl fs)) (hl : fs.lookup f = some v) (q : R v A) : fldR cl f r A R := by
  unfold fldR
  rw [h]
  refine ⟨rfl, ?_⟩
  rw [hl]
  exact q
section
variable {X : Cx} {N : En} {cl f : Str} {C : Addr} {e o value : Expr} {pos pos' : Pos} {m mo mv : DTE}
theorem de_fld (hm : X.mg cl = some (.ref C)) (hc : Cls X.K C) (hn : NoAttr X.K C f) (he : PE X e (up X.mg N m)) (hb : attributeBase e f X.env (eval e X.env) = eval e X.env := by rfl) : PE X (.Attribute e f pos) (up X.mg N (dFld cl f m)) :=
  de_w (pe_fld he hb) fun σ H Q q => by
    obtain ⟨A, ι, τ, R, S, q, k⟩ := q
    refine ⟨A, ι, τ, _, S, q, fun x A1 ι1 H1 u q1 e1 r1 v1 => ?_⟩
    cases x with
    | ref r =>
      obtain ⟨_, rfl⟩ := v1
      have q9 : fldR cl f r A1 R := q1
      clear q1
      unfold fldR at q9
      split at q9
      · rename_i c fs ea
        obtain ⟨rfl, q9⟩ := q9
        split at q9
        · rename_i v el
          obtain ⟨Cc, dx, xs, h1, h2, h3⟩ := r1.ins ea
          rw [hm] at h1
          cases h1
          obtain ⟨w, h4, h5⟩ := (RF.look h3).1 v el
          exact ⟨ι1 r, C, dx, xs, w, rfl, h2, hc, hn, h4, (k.from e1).here r1 q9 h5⟩
        · exact q9.elim
      · exact q9.elim
    | _ => exact q1.elim
@[irreducible] def sfR (cl f : Str) (y : D) (r : Nat) (A : Ar) (Q : Ar → Prop) : Prop := match A[r]? with
  | some (.ins c fs) => c = cl ∧ fs.length < 1000 ∧ Q (A.set r (.ins c (putFD f y fs)))
  | _ => False
def sfD (cl f : Str) (y x : D) (A : Ar) (Q : Ar → Prop) : Prop := match x with
  | .ref r => sfR cl f y r A Q
  | _ => False
def sFldD (cl f : Str) (mo mv : DTE) : DTS := fun R τ A => mv τ A fun y A1 => mo τ A1 fun x A2 => sfD cl f y x A2 fun A3 => R.nx τ A3
theorem sf_ok {cl f : Str} {y : D} {r : Nat} {A : Ar} {Q : Ar → Prop} {fs : List (Str × D)} (h : A[r]? = some (.ins cl fs)) (hl : fs.length < 1000) (q : Q (A.set r (.ins cl (putFD f y fs)))) : sfR cl f y r A Q := by
  unfold sfR
  rw [h]
  exact ⟨rfl, hl, q⟩
theorem ds_fld (hm : X.mg cl = some (.ref C)) (hc : Cls X.K C) (hn : NoAttr X.K C f) (ho : PE X o (up X.mg N mo)) (hv : PE X value (up X.mg N mv)) (hs : swapsWith value (some (.Attribute o f pos')) pos.line X.env = pure false := by rfl) :
    PS X (.Assign [.Attribute o f pos'] value pos) (upS X.mg N (sFldD cl f mo mv)) := ds_w (ps_fld ho hv hs) fun Q σ H q => by
  obtain ⟨A, ι, τ, R, S, q, k⟩ := q
  refine ⟨A, ι, τ, _, S, q, fun y A1 ι1 H1 w q1 e1 r1 v1 => ?_⟩
  refine ⟨A1, ι1, τ, _, S.next e1 r1, q1, fun x A2 ι2 H2 u q2 e2 r2 v2 => ?_⟩
  cases x with
  | ref r =>
    obtain ⟨_, rfl⟩ := v2
    have q9 : sfR cl f y r A2 fun A3 => R.nx τ A3 := q2
    clear q2
    unfold sfR at q9
    split at q9
    · rename_i c fs ea
      obtain ⟨rfl, hl, q9⟩ := q9
      obtain ⟨Cc, dx, xs, h1, h2, h3⟩ := r2.ins ea
      rw [hm] at h1
      cases h1
      have lr := (List.getElem?_eq_some_iff.mp ea).1
      have E := r2.ext_put (o := .ins C dx (putF f w xs)) (c := .ins c (putFD f y fs)) lr
      obtain ⟨r3, e3⟩ := r2.put (c' := .ins c (putFD f y fs)) (o := .ins C dx (putF f w xs)) ea h2 rfl ⟨C, dx, _, hm, upd_same, by
        have := RF.ext E _ _ (RF.put (f := f) (RV.ext e2 y w v1) h3)
        simpa using this⟩
      exact ⟨ι2 r, C, dx, xs, rfl, h2, hc, hn, by rw [← RF.length h3]; exact hl, (k.nx.from ((e1.trans e2).trans e3)).here (((S.next e1 r1).next e2 r2).next e3 r3) q9⟩
    · exact q9.elim
  | _ => exact q2.elim
end
def FnM (P : Program) (w : World) (K : PySem.W.Frag) (mg : Str → Option Value) (base : Heap) (k : Nat) (cl m : Str) (ps : List Str) (sp : Sp) : Prop :=
  ∃ C f fd, mg cl = some (.ref C) ∧ Cls K C ∧ Meth K C m f ∧ FnOk P w K mg base (CX1 P w) k f fd ps sp ∧ Binds K fd ps []
def FnI (P : Program) (w : World) (K : PySem.W.Frag) (mg : Str → Option Value) (base : Heap) (k : Nat) (cl : Str) (ps : List Str) (sp : Sp) : Prop :=
  ∃ C f fd, mg cl = some (.ref C) ∧ Mk K C f ∧ FnOk P w K mg base (CX1 P w) k f fd ps sp ∧ Binds K fd ps []
def isI (cl m : Str) (A : Ar) : D → Bool
  | .ref r => match A[r]? with
    | some (.ins c fs) => decide (c = cl) && (fs.lookup m).isNone
    | _ => false
  | _ => false
theorem isI_of {cl m : Str} {A : Ar} {r : Nat} {fs : List (Str × D)} (h : A[r]? = some (.ins cl fs)) (hl : fs.lookup m = none) : isI cl m A (.ref r) = true := by
  unfold isI
  simp only [h, hl]
  simp
def dMeth (cl mn : Str) (n : Nat) (S : Ct) (RE : DX) (mo : DTE) (m : DTA) : DTE := fun τ A R => mo τ A fun x A1 => isI cl mn A1 x = true ∧ m τ A1 fun vs A2 => vs.length + 1 = n ∧ S (x :: vs) A2 R RE
def dMake (cl : Str) (n : Nat) (S : Ct) (RE : DX) (m : DTA) : DTE := fun τ A R => m τ A fun vs A1 => vs.length + 1 = n ∧ S (.ref A1.length :: vs) (A1 ++ [.ins cl []]) (fun v A2 => v = .non ∧ R (.ref A1.length) A2) RE
theorem RA.isI {mg : Str → Option Value} {A : Ar} {ι : Io} {H : Hp} {cl mn : Str} {C : Addr} (hm : mg cl = some (.ref C)) (ra : RA mg ι H A) {d : D} {v : V} (h : isI cl mn A d = true) (r : RV mg ι A.length H d v) : ∃ a dx fs, v = .ref a ∧ H a = some (.ins C dx fs) ∧ fs.lookup mn = none := by
  cases d with
  | ref q =>
    obtain ⟨_, rfl⟩ := r
    unfold DP.isI at h
    simp only at h
    split at h
    · rename_i c fs e
      rw [Bool.and_eq_true, decide_eq_true_eq] at h
      obtain ⟨rfl, h⟩ := h
      obtain ⟨Cc, dx, xs, h1, h2, h3⟩ := ra.ins e
      rw [hm] at h1
      cases h1
      refine ⟨ι q, dx, xs, rfl, h2, (RF.look h3).2 ?_⟩
      cases hl : fs.lookup mn with
      | none => rfl
      | some v => rw [hl] at h; cases h
    · cases h
  | _ => cases h
section
variable {X : Cx} {N : En} {k n : Nat} {cl mn : Str} {ps : List Str} {S : Ct} {RE : DX} {o e : Expr} {es : List Expr} {mo : DTE} {m : DTA} {p pos apos : Pos}
theorem de_meth {pl : Sem Bool} (F : FnM X.prog X.w X.K X.mg X.base k cl mn ps (spOf X.mg n S)) (ho : PE X o (up X.mg N mo)) (hr : Room k X.A) (hx : Passes (CX1 X.prog X.w) X (EL X.mg N RE)) (ha : PA X (e :: es) (upA X.mg N m))
    (hst : starEach (e :: es) X.env = (false, eval e X.env) :: starEach es X.env := by rfl) (hpl : (backTo pos (starEach es X.env)).any (·.1) = false := by rfl)
    (ht : eval (.Call (.Attribute o mn apos) (e :: es) [] pos) X.env = (do
      let ov ← eval o X.env
      standAt apos.atName
      let (f, first) ← holding [ov] (getMethod ov mn pl)
      callWith pos f first (backTo pos (starEach (e :: es) X.env)) (backToKw pos (keywordEach [] X.env))) := by rfl) :
    PE X (.Call (.Attribute o mn apos) (e :: es) [] pos) (up X.mg N (dMeth cl mn n S RE mo m)) := by
  obtain ⟨C, f, fd, hm, hc, hM, F, hb⟩ := F
  refine de_w (pe_meth (dvs := []) (ds := []) ho hc hM F hr hb .nil hx ha hst hpl ht) fun σ H Q q => ?_
  obtain ⟨A, ι, τ, R, Z, q, k⟩ := q
  refine ⟨A, ι, τ, _, Z, q, fun x A1 ι1 H1 u q1 e1 r1 v1 => ?_⟩
  obtain ⟨a, dx, fs, rfl, h1, h2⟩ := r1.isI hm q1.1 v1
  refine ⟨a, dx, fs, rfl, h1, h2, A1, ι1, τ, _, Z.next e1 r1, q1.2, fun vs A2 ι2 H2 us q2 e2 r2 v2 => ?_⟩
  show spOf X.mg n S (.ref a :: (us ++ [])) H2 Q (EL X.mg N RE)
  rw [List.append_nil]
  exact ⟨A2, ι2, x :: vs, R, RE, q2.1, r2, ⟨_, _, rfl, RV.ext e2 _ _ v1, v2⟩, q2.2, k.from (e1.trans e2), fun c A3 ι3 H3 C q3 hc e3 r3 => ⟨c, A3, ι3, ⟨C, rfl, hc⟩, ((Z.ex.trans e1).trans e2).trans e3, r3, q3⟩⟩
theorem de_meth0 {pl : Sem Bool} (F : FnM X.prog X.w X.K X.mg X.base k cl mn ps (spOf X.mg n S)) (ho : PE X o (up X.mg N mo)) (hr : Room k X.A) (hx : Passes (CX1 X.prog X.w) X (EL X.mg N RE))
    (ht : eval (.Call (.Attribute o mn apos) [] [] pos) X.env = (do
      let ov ← eval o X.env
      standAt apos.atName
      let (f, first) ← holding [ov] (getMethod ov mn pl)
      callWith pos f first (backTo pos (starEach [] X.env)) (backToKw pos (keywordEach [] X.env))) := by rfl) :
    PE X (.Call (.Attribute o mn apos) [] [] pos) (up X.mg N (dMeth cl mn n S RE mo dNil)) := by
  obtain ⟨C, f, fd, hm, hc, hM, F, hb⟩ := F
  refine de_w (pe_meth0 (dvs := []) (ds := []) ho hc hM F hr hb .nil hx ht) fun σ H Q q => ?_
  obtain ⟨A, ι, τ, R, Z, q, k⟩ := q
  refine ⟨A, ι, τ, _, Z, q, fun x A1 ι1 H1 u q1 e1 r1 v1 => ?_⟩
  obtain ⟨a, dx, fs, rfl, h1, h2⟩ := r1.isI hm q1.1 v1
  refine ⟨a, dx, fs, rfl, h1, h2, ?_⟩
  show spOf X.mg n S (.ref a :: ([] ++ [])) H1 Q (EL X.mg N RE)
  have q2 : [].length + 1 = n ∧ S [x] A1 R RE := q1.2
  exact ⟨A1, ι1, [x], R, RE, q2.1, r1, ⟨_, _, rfl, v1, rfl⟩, q2.2, k.from e1, fun c A3 ι3 H3 C q3 hc e3 r3 => ⟨c, A3, ι3, ⟨C, rfl, hc⟩, (Z.ex.trans e1).trans e3, r3, q3⟩⟩
theorem de_make (F : FnI X.prog X.w X.K X.mg X.base k cl ps (spOf X.mg n S)) (hr : Room (k + 1) X.A) (hx : Passes (CX1 X.prog X.w) X (EL X.mg N RE)) (ha : PA X (e :: es) (upA X.mg N m)) (hg : Gl X cl := by rfl) (hdb : (cl == ("__debug__" : Str)) = false := by decide)
    (he : starEach (e :: es) X.env = (false, eval e X.env) :: starEach es X.env := by rfl) (hpl : (backTo pos (starEach es X.env)).any (·.1) = false := by rfl) :
    PE X (.Call (.Name cl p) (e :: es) [] pos) (up X.mg N (dMake cl n S RE m)) := by
  obtain ⟨C, f, fd, hm, hM, F, hb⟩ := F
  refine de_w (pe_make (dvs := []) (ds := []) hM F hr hg hm hb .nil hx ha hdb he hpl) fun σ H Q q => ?_
  obtain ⟨A, ι, τ, R, Z, q, k⟩ := q
  refine ⟨A, ι, τ, _, Z, q, fun vs A1 ι1 H1 us q1 e1 r1 v1 x dx nx ndx hne => ?_⟩
  show spOf X.mg n S (.ref x :: (us ++ [])) _ _ _
  rw [List.append_nil]
  have E2 : Ext A1 ι1 H1 A1 ι1 (upd H1 dx (.own x)) := r1.ext_fix ndx
  have r2 : RA X.mg ι1 (upd H1 dx (.own x)) A1 := r1.fix E2 fun b o z => by rw [upd_ne (ne_of_none z ndx)]; exact z
  have nx2 : (upd H1 dx (.own x)) x = none := by rw [upd_ne (Ne.symm hne)]; exact nx
  obtain ⟨r3, e3⟩ := r2.push (c := .ins cl []) (o := .ins C dx []) nx2 ⟨C, dx, [], hm, upd_same, rfl⟩
  have E13 := E2.trans e3
  refine ⟨A1 ++ [.ins cl []], _, .ref A1.length :: vs, _, RE, q1.1, r3, ⟨_, _, rfl, ⟨by simp, ?_⟩, RVs.ext E13 _ _ v1⟩, q1.2, fun v A4 ι4 H4 u q4 e4 r4 v4 => ?_, fun c A3 ι3 H3 C q3 hc e3' r3' => ⟨c, A3, ι3, ⟨C, rfl, hc⟩, ((Z.ex.trans e1).trans E13).trans e3', r3', q3⟩⟩
  · show V.ref x = V.ref (if A1.length = A1.length then x else ι1 A1.length)
    rw [if_pos rfl]
  · obtain ⟨rfl, q4⟩ := q4
    refine ⟨v4, k _ A4 ι4 H4 _ q4 ((e1.trans E13).trans e4) r4 ⟨?_, ?_⟩⟩
    · have := e4.len
      simp at this
      omega
    · rw [e4.ag A1.length (by simp)]
      show V.ref x = V.ref (if A1.length = A1.length then x else ι1 A1.length)
      rw [if_pos rfl]
end
@[irreducible] def popR (r : Nat) (A : Ar) (R : DK) : Prop := match A[r]? with
  | some (.lst xs) => (match xs[xs.length - 1]? with
    | some y => R y (A.set r (.lst xs.dropLast))
    | none => False)
  | _ => False
def popD : DMt := fun x vs A R => match x, vs with
  | .ref r, [] => popR r A R
  | _, _ => False
theorem pop_ok {A : Ar} {r : Nat} {xs : List D} {y : D} {R : DK} (h : A[r]? = some (.lst xs)) (hy : xs[xs.length - 1]? = some y) (k : R y (A.set r (.lst xs.dropLast))) : popR r A R := by
  unfold popR
  rw [h]
  simp only [hy]
  exact k
theorem RVs.dropLast {mg : Str → Option Value} {ι : Io} {H : Hp} {n : Nat} {ds : List D} {vs : List V} (h : RVs mg ι n H ds vs) : RVs mg ι n H ds.dropLast vs.dropLast := by
  rw [List.dropLast_eq_take, List.dropLast_eq_take, ← RVs.length h]
  exact h.take _
theorem d_pop {mg : Str → Option Value} {K : PySem.W.Frag} : MtD mg K "list" rPop popD := by
  intro x ds A ι H u us R Q ra rx rs h k
  unfold popD at h
  split at h
  · obtain ⟨_, rfl⟩ := rx
    have rs : us = [] := rs
    subst rs
    unfold popR at h
    split at h
    · rename_i xs e
      split at h
      · rename_i y ey
        obtain ⟨ws, h1, r1⟩ := ra.lst e
        obtain ⟨v, h2, h3⟩ := RVs.get r1 ey
        have lr := (List.getElem?_eq_some_iff.mp e).1
        have E := ra.ext_put (o := .lst ws.dropLast) (c := .lst xs.dropLast) lr
        obtain ⟨r3, e3⟩ := ra.put (c' := .lst xs.dropLast) (o := .lst ws.dropLast) e h1 rfl ⟨_, upd_same, by simpa using RVs.ext E _ _ (RVs.dropLast r1)⟩
        exact ⟨_, ws, v, rfl, rfl, h1, by rw [← RVs.length r1]; exact h2, k _ _ _ _ _ h e3 r3 (by simpa using RV.ext e3 _ _ h3)⟩
      · exact h.elim
    · exact h.elim
  · exact h.elim
section
variable {X : Cx} {N : En} {o : Expr} {mo : DTE} {apos cpos : Pos} {f : DMt} {r : V → List V → Hp → VK → Prop} {name : Str} {id : String}
def dMt0 (f : DMt) (mo : DTE) : DTE := fun τ A R => mo τ A fun x A1 => isL A1 x = true ∧ f x [] A1 R
theorem de_mt0 (pa : PlainAttrs "list") (slot : Slot "list" name id) (hty : typeOf (.builtin id) = pure (.type "method_descriptor")) (hm : MtR X id r) (hd : MtD X.mg X.K "list" r f) (ho : PE X o (up X.mg N mo))
    (hbase : attributeBase o name X.env (eval o X.env) = eval o X.env := by rfl) (hline : (apos.endLine == cpos.line) = true := by rfl) :
    PE X (.Call (.Attribute o name apos) [] [] cpos) (up X.mg N (dMt0 f mo)) := de_w (pe_bm0 pa slot hty hm ho hbase hline) fun σ H Q q => by
  obtain ⟨A, ι, τ, R, S, q, k⟩ := q
  refine ⟨A, ι, τ, _, S, q, fun x A1 ι1 H1 u q1 e1 r1 v1 => ?_⟩
  exact ⟨r1.isL q1.1 v1, hd x [] A1 ι1 H1 u [] R Q r1 v1 rfl q1.2 (k.from e1)⟩
end
def MetD (K : PySem.W.Frag) (mg : Str → Option Value) (cl m qual : Str) (st : Stmt) (ps : List Str) : Prop := ∃ C f fd, mg cl = some (.ref C) ∧ Cls K C ∧ Meth K C m f ∧ Fun K m qual st f fd ∧ Binds K fd ps []
def IniD (K : PySem.W.Frag) (mg : Str → Option Value) (cl qual : Str) (st : Stmt) (ps : List Str) : Prop := ∃ C f fd, mg cl = some (.ref C) ∧ Mk K C f ∧ Fun K "__init__" qual st f fd ∧ Binds K fd ps []
theorem fnQ {P : Program} {w : World} {K : PySem.W.Frag} {mg : Str → Option Value} {base : Heap} {x qual : Str} {st : Stmt} {Nm ps : List Str} {k n : Nat} {S : Ct} {fo : Addr} {fd : FuncData} (T : Fun K x qual st fo fd) (Sc : FnScope Nm ps (defScope st)) (hn : ps.length = n) (hN : ps.length ≤ Nm.length)
    (hbody : ∀ (N : En) (RE : DX) (f : Addr) (cdv : Value) (B : Around) (outer : List Env) (s : Shared) (H : Hp) (E : XK), Room k (cxOf (CX1 P w) P w K mg base Nm qual (defScope st) f cdv B outer s H E).A →
      Raises (cxOf (CX1 P w) P w K mg base Nm qual (defScope st) f cdv B outer s H E) (EL mg N RE) → Passes (CX1 P w) (cxOf (CX1 P w) P w K mg base Nm qual (defScope st) f cdv B outer s H E) (EL mg N RE) →
      ∀ ds A R, S ds A R RE → ds.length = n → ∃ m, PSs (cxOf (CX1 P w) P w K mg base Nm qual (defScope st) f cdv B outer s H E) (defBody st) (upS mg N m) ∧ m { nx := fun _ A' => R .non A', rt := R } (startD (Nm.length - n) ds) A) : FnOk P w K mg base (CX1 P w) (k + 1) fo fd ps (spOf mg n S) := by
  obtain ⟨oc, od, kV, doc, pm, an, cdv, ct, osl, rfl, lk', hcd⟩ := T.ex
  refine fn_of lk' hcd Sc (fun vs H Q E h => ?_) fun A outer s H vs Q E hr h => ?_
  · obtain ⟨A, ι, ds, R, RE, hl, _, hv, _⟩ := h
    rw [← RVs.length hv, hl, hn]
  · obtain ⟨A0, ι0, ds, R, RE, hl, ra, hv, hS, kq, kx⟩ := h
    have hE : ∀ C a H', EL mg ⟨A0, ι0, H⟩ RE C a H' → E C none H' := fun C a H' z => by
      obtain ⟨c, A', ι', ⟨b, rfl, hc⟩, ex, r, q⟩ := z
      exact kx c A' ι' H' b q hc ex r
    obtain ⟨m, hP, hm⟩ := hbody ⟨A0, ι0, H⟩ RE fo cdv A outer s H E hr
      (fun pins σ H1 s1 e h' C args I mx z => raisesX pins σ H1 s1 e h' C args I mx (hE _ _ _ z))
      (fun pins σ H1 s1 e s' I z => passX pins σ H1 s1 e s' I (by
        obtain ⟨a, C, H', h1, h2, h3⟩ := z
        exact ⟨a, C, H', h1, h2, hE _ _ _ h3⟩)) ds A0 R hS hl
    have hlv := RVs.length hv
    refine ⟨_, hP, A0, ι0, _, _, ⟨ra, ⟨?_, fun i d q => ?_⟩, ra.refl⟩, hm, ⟨fun τ A' ι' σ H' q e r _ => kq _ A' ι' H' _ q e r rfl, kq, fun _ _ _ _ _ q _ _ _ => q.elim, fun _ _ _ _ _ q _ _ _ => q.elim⟩⟩
    · simp [startD, L2.start]
      omega
    · obtain ⟨v, h1, h2⟩ := RVs.get hv (lk_start ds _ i d q)
      refine ⟨v, ?_, h2⟩
      have hi := (List.getElem?_eq_some_iff.mp h1).1
      unfold L2.start
      rw [List.getElem?_append_left (by simpa using hi), List.getElem?_map, h1]
      rfl
theorem fnM {P : Program} {w : World} {K : PySem.W.Frag} {mg : Str → Option Value} {base : Heap} {cl x qual : Str} {st : Stmt} {Nm ps : List Str} {k n : Nat} {S : Ct} (T : MetD K mg cl x qual st ps) (Sc : FnScope Nm ps (defScope st)) (hn : ps.length = n) (hN : ps.length ≤ Nm.length)
    (hbody : ∀ (N : En) (RE : DX) (f : Addr) (cdv : Value) (B : Around) (outer : List Env) (s : Shared) (H : Hp) (E : XK), Room k (cxOf (CX1 P w) P w K mg base Nm qual (defScope st) f cdv B outer s H E).A →
      Raises (cxOf (CX1 P w) P w K mg base Nm qual (defScope st) f cdv B outer s H E) (EL mg N RE) → Passes (CX1 P w) (cxOf (CX1 P w) P w K mg base Nm qual (defScope st) f cdv B outer s H E) (EL mg N RE) →
      ∀ ds A R, S ds A R RE → ds.length = n → ∃ m, PSs (cxOf (CX1 P w) P w K mg base Nm qual (defScope st) f cdv B outer s H E) (defBody st) (upS mg N m) ∧ m { nx := fun _ A' => R .non A', rt := R } (startD (Nm.length - n) ds) A) : FnM P w K mg base (k + 1) cl x ps (spOf mg n S) := by
  obtain ⟨C, f, fd, hm, hc, hM, F, b⟩ := T
  exact ⟨C, f, fd, hm, hc, hM, fnQ F Sc hn hN hbody, b⟩
theorem fnI {P : Program} {w : World} {K : PySem.W.Frag} {mg : Str → Option Value} {base : Heap} {cl qual : Str} {st : Stmt} {Nm ps : List Str} {k n : Nat} {S : Ct} (T : IniD K mg cl qual st ps) (Sc : FnScope Nm ps (defScope st)) (hn : ps.length = n) (hN : ps.length ≤ Nm.length)
    (hbody : ∀ (N : En) (RE : DX) (f : Addr) (cdv : Value) (B : Around) (outer : List Env) (s : Shared) (H : Hp) (E : XK), Room k (cxOf (CX1 P w) P w K mg base Nm qual (defScope st) f cdv B outer s H E).A →
      Raises (cxOf (CX1 P w) P w K mg base Nm qual (defScope st) f cdv B outer s H E) (EL mg N RE) → Passes (CX1 P w) (cxOf (CX1 P w) P w K mg base Nm qual (defScope st) f cdv B outer s H E) (EL mg N RE) →
      ∀ ds A R, S ds A R RE → ds.length = n → ∃ m, PSs (cxOf (CX1 P w) P w K mg base Nm qual (defScope st) f cdv B outer s H E) (defBody st) (upS mg N m) ∧ m { nx := fun _ A' => R .non A', rt := R } (startD (Nm.length - n) ds) A) : FnI P w K mg base (k + 1) cl ps (spOf mg n S) := by
  obtain ⟨C, f, fd, hm, hM, F, b⟩ := T
  exact ⟨C, f, fd, hm, hM, fnQ F Sc hn hN hbody, b⟩
end DP
namespace L2
open PySem PySem.Spec PyProof.Rows
section
variable {X : Cx}
theorem call_listD (hc : X.calm = true) : CallR X (.type "list") (fun xs H Q => ∃ (d : Addr) (kvs : List (Key × V)) (ns : List Str), xs = [.ref d] ∧ H d = some (.dK kvs) ∧ kvs.map (·.1) = ns.map Sum.inr ∧ ns.length ≤ 1000 ∧ ∀ l : Addr, H l = none → Q (.ref l) (upd H l (.lst (ns.map V.str)))) := by
  intro pins s σ H xs us Q I r h
  obtain ⟨d, kvs, ns, rfl, hd, hk, hn, q⟩ := h
  obtain ⟨u, rfl, ru⟩ := vals1 r
  cases ru
  obtain ⟨hz, hs, vs, rel, dd⟩ := (show ObjOk X.prog X.w H s.heap d (.dK kvs) from I.hok d _ hd)
  obtain ⟨ep, hat⟩ := dd.dictAt
  have hlen : kvs.length = ns.length := by
    have := congrArg List.length hk
    simpa using this
  have hlv : vs.length = ns.length := by rw [← rel.len, hlen]
  have h1000 : (1000 : Nat) ≤ sizeLine := by decide
  refine PySem.W.kdl_call (PySem.W.kdl_dict (knd := mixKind X.prog X.w) (kvs := vs) (ep := ep) hs) (I.ok.hd hc) hat (by rw [hlv]; omega) fun h' tk acc c' k1 hS hacc => ?_
  have hst : StrsAre acc.toList ns := by
    refine strs_pt (by rw [Array.length_toList, hacc.1, hlv]) fun i v x e1 e2 => ?_
    rw [Array.getElem?_toList] at e1
    obtain ⟨k, y, e3, e4⟩ := hacc.2 i v e1
    obtain ⟨p, e5, e6, _⟩ := rel.at e3
    have e7 : (kvs.map (·.1))[i]? = some k := by rw [List.getElem?_map, e5]; exact congrArg some e6
    rw [hk, List.getElem?_map, e2] at e7
    have e8 : k = Sum.inr x := (Option.some.inj e7).symm
    rw [e8] at e4
    rcases keyIs_shape (show keyIs (Sum.inr x) v = true from e4) with ⟨_, _, z, _⟩ | ⟨x', t, z, z2⟩
    · cases z
    · cases z; exact ⟨t, z2⟩
  have hn' : H s.heap.objs.size = none := I.hok.fresh (Nat.le_refl _)
  refine ⟨.ref s.heap.objs.size, upd H s.heap.objs.size (.lst (ns.map V.str)), ?_, rfl, q _ hn'⟩
  refine I.manyF (t' := tk) k1 (Same.new hn' _) fun b o eb => ?_
  by_cases hb : b = s.heap.objs.size
  · subst hb
    rw [upd_same] at eb
    cases eb
    refine .inr ⟨fun u z => Nat.lt_irrefl _ (Heap.lt_size z), ?_⟩
    refine ⟨by rw [List.length_map]; omega, acc.toList, c', vals_strs hst, ?_⟩
    rw [Array.toArray_toList]
    exact hS
  · rw [upd_ne hb] at eb
    exact .inl eb
end
end L2
namespace DP
open PySem PySem.Spec PyProof.Rows L2
@[irreducible] def lsKR (r : Nat) (A : Ar) (R : DK) : Prop := ∃ (kvs : List (Key × D)) (ns : List Str), A[r]? = some (.dct kvs) ∧ kvs.map (·.1) = ns.map Sum.inr ∧ ns.length ≤ 1000 ∧ R (.ref A.length) (A ++ [.lst (ns.map D.str)])
def lsKD : DCb := fun vs A R => match vs with
  | [.ref r] => lsKR r A R
  | _ => False
theorem lsK_ok {A : Ar} {r : Nat} {kvs : List (Key × D)} {ns : List Str} {R : DK} (h : A[r]? = some (.dct kvs)) (hk : kvs.map (·.1) = ns.map Sum.inr) (hn : ns.length ≤ 1000) (k : R (.ref A.length) (A ++ [.lst (ns.map D.str)])) : lsKR r A R := by
  unfold lsKR
  exact ⟨kvs, ns, h, hk, hn, k⟩
theorem RK.keysE {mg : Str → Option Value} {ι : Io} {n : Nat} {H : Hp} : ∀ {ds : List (Key × D)} {vs : List (Key × V)}, RK mg ι n H ds vs → vs.map (·.1) = ds.map (·.1)
  | [], vs, h => by have h : vs = [] := h; rw [h]; rfl
  | p :: ds, vs, h => by
    obtain ⟨x, r, rfl, h1, h2⟩ := h
    simp [RK.keysE h2]
theorem RVs.strsE {mg : Str → Option Value} {ι : Io} {n : Nat} {H : Hp} : ∀ ns : List Str, RVs mg ι n H (ns.map D.str) (ns.map V.str)
  | [] => rfl
  | x :: ns => ⟨_, _, rfl, rfl, RVs.strsE ns⟩
theorem d_lsK {mg : Str → Option Value} : CbD mg (fun xs H Q => ∃ (d : Addr) (kvs : List (Key × V)) (ns : List Str), xs = [.ref d] ∧ H d = some (.dK kvs) ∧ kvs.map (·.1) = ns.map Sum.inr ∧ ns.length ≤ 1000 ∧ ∀ l : Addr, H l = none → Q (.ref l) (upd H l (.lst (ns.map V.str)))) lsKD := by
  intro ds A ι H us R Q ra rs h k
  unfold lsKD at h
  split at h
  · obtain ⟨_, _, rfl, ⟨_, rfl⟩, rfl⟩ := rs
    unfold lsKR at h
    obtain ⟨kvs, ns, h1, h2, h3, h4⟩ := h
    obtain ⟨xs, e1, e2⟩ := ra.dct h1
    exact ⟨_, xs, ns, rfl, e1, by rw [RK.keysE e2]; exact h2, h3, fun l hl => new_lst k ra (RVs.strsE ns) h4 hl⟩
  · exact h.elim
end DP
namespace My
open PySem PySem.Spec PyProof.Rows L2 DP
def top (i : Nat) : Stmt := PySem.Challenge.pw_hangstill_k26_whole_benches.main.body.getD i (.Pass ⟨0, 0, 0, 0⟩)
abbrev s_is_number : Stmt := top 16
abbrev p_is_number : List Str := ["thing", "first", "last"]
theorem sc_is_number : FnScope ["thing", "first", "last"] p_is_number (defScope s_is_number) := ⟨rfl, rfl, rfl, by decide +kernel, rfl, by decide +kernel, by decide +kernel⟩
abbrev s_is_name : Stmt := top 17
abbrev p_is_name : List Str := ["thing"]
theorem sc_is_name : FnScope ["thing"] p_is_name (defScope s_is_name) := ⟨rfl, rfl, rfl, by decide +kernel, rfl, by decide +kernel, by decide +kernel⟩
abbrev s_is_mobile_within : Stmt := top 18
abbrev p_is_mobile_within : List Str := ["thing", "rods"]
theorem sc_is_mobile_within : FnScope ["thing", "rods"] p_is_mobile_within (defScope s_is_mobile_within) := ⟨rfl, rfl, rfl, by decide +kernel, rfl, by decide +kernel, by decide +kernel⟩
abbrev s_is_mobile : Stmt := top 19
abbrev p_is_mobile : List Str := ["thing"]
theorem sc_is_mobile : FnScope ["thing"] p_is_mobile (defScope s_is_mobile) := ⟨rfl, rfl, rfl, by decide +kernel, rfl, by decide +kernel, by decide +kernel⟩
abbrev s_check_mobile : Stmt := top 20
abbrev p_check_mobile : List Str := ["thing"]
theorem sc_check_mobile : FnScope ["thing"] p_check_mobile (defScope s_check_mobile) := ⟨rfl, rfl, rfl, by decide +kernel, rfl, by decide +kernel, by decide +kernel⟩
abbrev s_part_at : Stmt := top 21
abbrev p_part_at : List Str := ["mobile", "way"]
theorem sc_part_at : FnScope ["mobile", "way", "part", "sign"] p_part_at (defScope s_part_at) := ⟨rfl, rfl, rfl, by decide +kernel, rfl, by decide +kernel, by decide +kernel⟩
abbrev s_rod_at : Stmt := top 22
abbrev p_rod_at : List Str := ["mobile", "way"]
theorem sc_rod_at : FnScope ["mobile", "way", "part"] p_rod_at (defScope s_rod_at) := ⟨rfl, rfl, rfl, by decide +kernel, rfl, by decide +kernel, by decide +kernel⟩
abbrev s_rods_within : Stmt := top 23
abbrev p_rods_within : List Str := ["mobile"]
theorem sc_rods_within : FnScope ["mobile"] p_rods_within (defScope s_rods_within) := ⟨rfl, rfl, rfl, by decide +kernel, rfl, by decide +kernel, by decide +kernel⟩
abbrev s_greatest_divisor : Stmt := top 25
abbrev p_greatest_divisor : List Str := ["one", "other"]
theorem sc_greatest_divisor : FnScope ["one", "other", "rest"] p_greatest_divisor (defScope s_greatest_divisor) := ⟨rfl, rfl, rfl, by decide +kernel, rfl, by decide +kernel, by decide +kernel⟩
abbrev s_reduced : Stmt := top 26
abbrev p_reduced : List Str := ["top", "bottom"]
theorem sc_reduced : FnScope ["top", "bottom", "divisor"] p_reduced (defScope s_reduced) := ⟨rfl, rfl, rfl, by decide +kernel, rfl, by decide +kernel, by decide +kernel⟩
abbrev s_with_part : Stmt := top 28
abbrev p_with_part : List Str := ["mobile", "way", "part"]
theorem sc_with_part : FnScope ["mobile", "way", "part"] p_with_part (defScope s_with_part) := ⟨rfl, rfl, rfl, by decide +kernel, rfl, by decide +kernel, by decide +kernel⟩
abbrev s_turned_rod : Stmt := top 29
abbrev p_turned_rod : List Str := ["rod"]
theorem sc_turned_rod : FnScope ["rod"] p_turned_rod (defScope s_turned_rod) := ⟨rfl, rfl, rfl, by decide +kernel, rfl, by decide +kernel, by decide +kernel⟩
abbrev s_plain_below : Stmt := top 30
abbrev p_plain_below : List Str := ["mobile"]
theorem sc_plain_below : FnScope ["mobile", "arms"] p_plain_below (defScope s_plain_below) := ⟨rfl, rfl, rfl, by decide +kernel, rfl, by decide +kernel, by decide +kernel⟩
abbrev s_turned : Stmt := top 31
abbrev p_turned : List Str := ["mobile", "way"]
theorem sc_turned : FnScope ["mobile", "way"] p_turned (defScope s_turned) := ⟨rfl, rfl, rfl, by decide +kernel, rfl, by decide +kernel, by decide +kernel⟩
abbrev s_longer : Stmt := top 32
abbrev p_longer : List Str := ["mobile", "way", "many"]
theorem sc_longer : FnScope ["mobile", "way", "many", "rod", "left", "right"] p_longer (defScope s_longer) := ⟨rfl, rfl, rfl, by decide +kernel, rfl, by decide +kernel, by decide +kernel⟩
abbrev s_plain : Stmt := top 33
abbrev p_plain : List Str := ["mobile"]
theorem sc_plain : FnScope ["mobile"] p_plain (defScope s_plain) := ⟨rfl, rfl, rfl, by decide +kernel, rfl, by decide +kernel, by decide +kernel⟩
abbrev s_put : Stmt := top 34
abbrev p_put : List Str := ["mobile", "way", "part"]
theorem sc_put : FnScope ["mobile", "way", "part"] p_put (defScope s_put) := ⟨rfl, rfl, rfl, by decide +kernel, rfl, by decide +kernel, by decide +kernel⟩
abbrev s__law_cell_at : Stmt := top 38
abbrev p__law_cell_at : List Str := ["_law_script", "_law_k"]
theorem sc__law_cell_at : FnScope ["_law_script", "_law_k"] p__law_cell_at (defScope s__law_cell_at) := ⟨rfl, rfl, rfl, by decide +kernel, rfl, by decide +kernel, by decide +kernel⟩
abbrev s__law_mixed : Stmt := top 39
abbrev p__law_mixed : List Str := ["_law_script", "_law_k", "_law_many"]
theorem sc__law_mixed : FnScope ["_law_script", "_law_k", "_law_many", "_law_drawn"] p__law_mixed (defScope s__law_mixed) := ⟨rfl, rfl, rfl, by decide +kernel, rfl, by decide +kernel, by decide +kernel⟩
abbrev s__law_draw : Stmt := top 40
abbrev p__law_draw : List Str := ["_law_script", "_law_town", "_law_many"]
theorem sc__law_draw : FnScope ["_law_script", "_law_town", "_law_many"] p__law_draw (defScope s__law_draw) := ⟨rfl, rfl, rfl, by decide +kernel, rfl, by decide +kernel, by decide +kernel⟩
abbrev s__law_pick : Stmt := top 41
abbrev p__law_pick : List Str := ["_law_script", "_law_town", "_law_some_here"]
theorem sc__law_pick : FnScope ["_law_script", "_law_town", "_law_some_here"] p__law_pick (defScope s__law_pick) := ⟨rfl, rfl, rfl, by decide +kernel, rfl, by decide +kernel, by decide +kernel⟩
abbrev s__law_mobile : Stmt := top 42
abbrev p__law_mobile : List Str := ["_law_script", "_law_town", "_law_names_here", "_law_deep"]
theorem sc__law_mobile : FnScope ["_law_script", "_law_town", "_law_names_here", "_law_deep", "_law_most", "_law_left", "_law_right", "_law_one"] p__law_mobile (defScope s__law_mobile) := ⟨rfl, rfl, rfl, by decide +kernel, rfl, by decide +kernel, by decide +kernel⟩
abbrev s__law_fresh : Stmt := top 43
abbrev p__law_fresh : List Str := ["_law_part", "_law_row"]
theorem sc__law_fresh : FnScope ["_law_part", "_law_row", "_law_one"] p__law_fresh (defScope s__law_fresh) := ⟨rfl, rfl, rfl, by decide +kernel, rfl, by decide +kernel, by decide +kernel⟩
abbrev s__law_some : Stmt := top 44
abbrev p__law_some : List Str := ["_law_script", "_law_town", "_law_deep"]
theorem sc__law_some : FnScope ["_law_script", "_law_town", "_law_deep", "_law_part"] p__law_some (defScope s__law_some) := ⟨rfl, rfl, rfl, by decide +kernel, rfl, by decide +kernel, by decide +kernel⟩
abbrev s__law_rods : Stmt := top 45
abbrev p__law_rods : List Str := ["_law_part", "_law_way"]
theorem sc__law_rods : FnScope ["_law_part", "_law_way"] p__law_rods (defScope s__law_rods) := ⟨rfl, rfl, rfl, by decide +kernel, rfl, by decide +kernel, by decide +kernel⟩
abbrev s__law_put : Stmt := top 48
abbrev p__law_put : List Str := ["_law_part", "_law_way", "_law_other"]
theorem sc__law_put : FnScope ["_law_part", "_law_way", "_law_other"] p__law_put (defScope s__law_put) := ⟨rfl, rfl, rfl, by decide +kernel, rfl, by decide +kernel, by decide +kernel⟩
abbrev s__law_shorter : Stmt := top 49
abbrev p__law_shorter : List Str := ["_law_part"]
theorem sc__law_shorter : FnScope ["_law_part", "_law_by", "_law_one", "_law_other"] p__law_shorter (defScope s__law_shorter) := ⟨rfl, rfl, rfl, by decide +kernel, rfl, by decide +kernel, by decide +kernel⟩
abbrev s__law_depth : Stmt := top 50
abbrev p__law_depth : List Str := ["_law_part"]
theorem sc__law_depth : FnScope ["_law_part"] p__law_depth (defScope s__law_depth) := ⟨rfl, rfl, rfl, by decide +kernel, rfl, by decide +kernel, by decide +kernel⟩
abbrev s__law_due : Stmt := top 51
abbrev p__law_due : List Str := ["_law_part", "_law_deed_here"]
theorem sc__law_due : FnScope ["_law_part", "_law_deed_here", "_law_word", "_law_way", "_law_more", "_law_rods_here", "_law_ways", "_law_made", "_law_rod"] p__law_due (defScope s__law_due) := ⟨rfl, rfl, rfl, by decide +kernel, rfl, by decide +kernel, by decide +kernel⟩
abbrev s__law_deed : Stmt := top 52
abbrev p__law_deed : List Str := ["_law_script", "_law_town", "_law_part"]
theorem sc__law_deed : FnScope ["_law_script", "_law_town", "_law_part", "_law_ways", "_law_word", "_law_more"] p__law_deed (defScope s__law_deed) := ⟨rfl, rfl, rfl, by decide +kernel, rfl, by decide +kernel, by decide +kernel⟩
abbrev s__law_which : Stmt := top 53
abbrev p__law_which : List Str := ["_law_e"]
theorem sc__law_which : FnScope ["_law_e", "_law_own"] p__law_which (defScope s__law_which) := ⟨rfl, rfl, rfl, by decide +kernel, rfl, by decide +kernel, by decide +kernel⟩
abbrev s__law_do : Stmt := top 54
abbrev p__law_do : List Str := ["_law_bench", "_law_deed_here"]
theorem sc__law_do : FnScope ["_law_bench", "_law_deed_here", "_law_word", "_law_way", "_law_more", "_law_e"] p__law_do (defScope s__law_do) := ⟨rfl, rfl, rfl, by decide +kernel, rfl, by decide +kernel, by decide +kernel⟩
abbrev s_law : Stmt := top 55
abbrev p_law : List Str := ["_law_script"]
theorem sc_law : FnScope ["_law_script", "_law_town", "_law_mobile_here", "_law_bench", "_law_second", "_law_past", "_law_gone", "_law_k", "_law_way", "_law_deed_here", "_law_rows", "_law_due_here", "_law_made"] p_law (defScope s_law) := ⟨rfl, rfl, rfl, by decide +kernel, rfl, by decide +kernel, by decide +kernel⟩
abbrev s_Bench___init__ : Stmt := inClass (top 36) 0
abbrev p_Bench___init__ : List Str := ["self", "mobile"]
theorem sc_Bench___init__ : FnScope ["self", "mobile"] p_Bench___init__ (defScope s_Bench___init__) := ⟨rfl, rfl, rfl, by decide +kernel, rfl, by decide +kernel, by decide +kernel⟩
abbrev s_Bench_now : Stmt := inClass (top 36) 1
abbrev p_Bench_now : List Str := ["self"]
theorem sc_Bench_now : FnScope ["self"] p_Bench_now (defScope s_Bench_now) := ⟨rfl, rfl, rfl, by decide +kernel, rfl, by decide +kernel, by decide +kernel⟩
abbrev s_Bench_change : Stmt := inClass (top 36) 2
abbrev p_Bench_change : List Str := ["self", "mobile"]
theorem sc_Bench_change : FnScope ["self", "mobile"] p_Bench_change (defScope s_Bench_change) := ⟨rfl, rfl, rfl, by decide +kernel, rfl, by decide +kernel, by decide +kernel⟩
abbrev s_Bench_turn : Stmt := inClass (top 36) 3
abbrev p_Bench_turn : List Str := ["self", "way"]
theorem sc_Bench_turn : FnScope ["self", "way"] p_Bench_turn (defScope s_Bench_turn) := ⟨rfl, rfl, rfl, by decide +kernel, rfl, by decide +kernel, by decide +kernel⟩
abbrev s_Bench_stretch : Stmt := inClass (top 36) 4
abbrev p_Bench_stretch : List Str := ["self", "way", "many"]
theorem sc_Bench_stretch : FnScope ["self", "way", "many"] p_Bench_stretch (defScope s_Bench_stretch) := ⟨rfl, rfl, rfl, by decide +kernel, rfl, by decide +kernel, by decide +kernel⟩
abbrev s_Bench_hang : Stmt := inClass (top 36) 5
abbrev p_Bench_hang : List Str := ["self", "way", "part"]
theorem sc_Bench_hang : FnScope ["self", "way", "part"] p_Bench_hang (defScope s_Bench_hang) := ⟨rfl, rfl, rfl, by decide +kernel, rfl, by decide +kernel, by decide +kernel⟩
abbrev s_Bench_shorten : Stmt := inClass (top 36) 6
abbrev p_Bench_shorten : List Str := ["self"]
theorem sc_Bench_shorten : FnScope ["self"] p_Bench_shorten (defScope s_Bench_shorten) := ⟨rfl, rfl, rfl, by decide +kernel, rfl, by decide +kernel, by decide +kernel⟩
abbrev s_Bench_undo : Stmt := inClass (top 36) 7
abbrev p_Bench_undo : List Str := ["self"]
theorem sc_Bench_undo : FnScope ["self"] p_Bench_undo (defScope s_Bench_undo) := ⟨rfl, rfl, rfl, by decide +kernel, rfl, by decide +kernel, by decide +kernel⟩
abbrev s_Bench_again : Stmt := inClass (top 36) 8
abbrev p_Bench_again : List Str := ["self"]
theorem sc_Bench_again : FnScope ["self"] p_Bench_again (defScope s_Bench_again) := ⟨rfl, rfl, rfl, by decide +kernel, rfl, by decide +kernel, by decide +kernel⟩
abbrev s_Bench_deeds : Stmt := inClass (top 36) 9
abbrev p_Bench_deeds : List Str := ["self"]
theorem sc_Bench_deeds : FnScope ["self"] p_Bench_deeds (defScope s_Bench_deeds) := ⟨rfl, rfl, rfl, by decide +kernel, rfl, by decide +kernel, by decide +kernel⟩
end My
namespace My
open PySem PySem.Spec PyProof.Rows L2 DP MA
section
variable {P : Program} {w : World} {K : PySem.W.Frag} {mg : Str → Option Value} {base : Heap}
theorem one_lt {c d : Nat} : ([c] : List Nat) < [d] ↔ c < d := by simp [List.cons_lt_cons_iff]
theorem sg_a : ("a" : Str).cps.toList = [97] := by decide +kernel
theorem sg_z : ("z" : Str).cps.toList = [122] := by decide +kernel
end
end My
namespace DP
open PySem PySem.Spec PyProof.Rows L2 MA
mutual
def okA (A : Ar) : D → Bool
  | .tup xs => okAs A xs
  | .exc _ => false
  | .str z => decide (z.length ≤ sizeLine)
  | .ref r => match A[r]? with
    | some (.lst _) => true
    | some (.dct _) => true
    | _ => false
  | _ => true
def okAs (A : Ar) : List D → Bool
  | [] => true
  | x :: xs => okA A x && okAs A xs
end
def isNu (x : D) (a b : Int) : Bool := match x with
  | .int i => decide (a ≤ i) && decide (i ≤ b)
  | _ => false
def azB : D → Bool
  | .str z => !decide (z.cps.toList < ("a" : Str).cps.toList) && !decide (("z" : Str).cps.toList < z.cps.toList)
  | _ => false
def isNa : D → Bool
  | .str n => decide ((1 : Int) ≤ (n.length : Nat)) && decide (((n.length : Nat) : Int) ≤ 3) && (sgs n).all azB
  | _ => false
def isMob : Nat → D → Bool
  | _, .tup [.str k, n] => decide (k = "weight") && isNa n
  | d + 1, .tup [.str k, l, r, a, b] => decide (k = "rod") && isNu l 1 9 && isNu r 1 9 && isMob d a && isMob d b
  | _, _ => false
def SNumA : Ct := fun ds A R _ => ∃ x a b, ds = [x, .int a, .int b] ∧ okA A x = true ∧ ∀ A', Gr A A' → R (.bl (isNu x a b)) A'
def SNameA : Ct := fun ds A R _ => ∃ x, ds = [x] ∧ okA A x = true ∧ ∀ A', Gr A A' → R (.bl (isNa x)) A'
def SImA (d : Nat) : Ct := fun ds A R _ => ∃ x, ds = [x, .int ((d : Int) - 1)] ∧ 0 < d ∧ okA A x = true ∧ ∀ A', Gr A A' → R (.bl (isMob (d - 1) x)) A'
def SMbA : Ct := fun ds A R _ => ∃ x, ds = [x] ∧ okA A x = true ∧ ∀ A', Gr A A' → R (.bl (isMob 5 x)) A'
def SChkA : Ct := fun ds A R E => ∃ x, ds = [x] ∧ okA A x = true ∧ ∀ A', Gr A A' → if isMob 5 x = true then R .non A' else E "NoMobile" A'
mutual
theorem okA_gr {A A' : Ar} (g : Gr A A') : ∀ x, okA A x = true → okA A' x = true
  | .tup xs, h => by
    have h : okAs A xs = true := h
    exact okAs_gr g xs h
  | .non, h => rfl
  | .bl _, h => rfl
  | .int _, h => rfl
  | .str _, h => h
  | .fl _, h => rfl
  | .exc _, h => by cases h
  | .ref r, h => by
    unfold okA at h ⊢
    cases e : A[r]? with
    | none => rw [e] at h; cases h
    | some c => rw [e] at h; rw [g.get e]; exact h
theorem okAs_gr {A A' : Ar} (g : Gr A A') : ∀ xs, okAs A xs = true → okAs A' xs = true
  | [], h => rfl
  | x :: xs, h => by
    have h : (okA A x && okAs A xs) = true := h
    rw [Bool.and_eq_true] at h
    show (okA A' x && okAs A' xs) = true
    rw [Bool.and_eq_true]
    exact ⟨okA_gr g x h.1, okAs_gr g xs h.2⟩
end
theorem at_zero {α : Type} (y : α) (ys : List α) : atI (y :: ys) 0 = some y := atI_nat (j := 0) rfl
theorem isMob_no {d : Nat} {k : Str} {ys : List D} (h1 : ∀ n, ys = [n] → ¬ k = "weight") (h2 : ∀ l r a b, ys = [l, r, a, b] → ¬ k = "rod") : isMob d (.tup (.str k :: ys)) = false := by
  match ys with
  | [] => cases d <;> rfl
  | [n] =>
    have e : isMob d (.tup [.str k, n]) = (decide (k = "weight") && isNa n) := by cases d <;> rfl
    rw [e, decide_eq_false (h1 n rfl)]
    rfl
  | [_, _] => cases d <;> rfl
  | [_, _, _] => cases d <;> rfl
  | [l, r, a, b] =>
    cases d with
    | zero => rfl
    | succ d =>
      show (decide (k = "rod") && isNu l 1 9 && isNu r 1 9 && isMob d a && isMob d b) = false
      rw [decide_eq_false (h2 l r a b rfl)]
      rfl
  | _ :: _ :: _ :: _ :: _ :: _ => cases d <;> rfl
theorem isMob_no2 {d : Nat} {k : Str} {ys : List D} (h1 : ¬ k = "weight") (h2 : ¬ k = "rod") : isMob d (.tup (.str k :: ys)) = false := isMob_no (fun _ _ => h1) fun _ _ _ _ _ => h2
theorem okA_ref {A : Ar} {r : Nat} (h : okA A (.ref r) = true) : tyD A (.ref r) = some "list" ∨ tyD A (.ref r) = some "dict" := by
  unfold okA at h
  cases e : A[r]? with
  | none => rw [e] at h; cases h
  | some c =>
    rw [e] at h
    cases c with
    | lst xs => exact .inl (by unfold tyD; simp only [e])
    | dct kvs => exact .inr (by unfold tyD; simp only [e])
    | fdc o kvs => cases h
    | ins cl fs => cases h
theorem isNa_nm {n : Str} (h : Nm n) : isNa (.str n) = true := by
  have h1 := h.lo
  have h3 := h.hi
  unfold isNa
  rw [Bool.and_eq_true, Bool.and_eq_true, decide_eq_true_eq, decide_eq_true_eq]
  refine ⟨⟨by omega, by omega⟩, List.all_eq_true.mpr fun x hx => ?_⟩
  obtain ⟨c, hc, rfl⟩ := List.mem_map.mp hx
  obtain ⟨c1, c2⟩ := h.az c hc
  have e1 : ¬ ((⟨#[c]⟩ : Str).cps.toList < ("a" : Str).cps.toList) := by
    rw [My.sg_a]; intro h; have := My.one_lt.mp h; omega
  have e2 : ¬ (("z" : Str).cps.toList < (⟨#[c]⟩ : Str).cps.toList) := by
    rw [My.sg_z]; intro h; have := My.one_lt.mp h; omega
  show (!decide ((⟨#[c]⟩ : Str).cps.toList < ("a" : Str).cps.toList) && !decide (("z" : Str).cps.toList < (⟨#[c]⟩ : Str).cps.toList)) = true
  rw [decide_eq_false e1, decide_eq_false e2]
  rfl
theorem okA_nm {A : Ar} {n : Str} (h : Nm n) : okA A (.str n) = true := decide_eq_true (Nat.le_trans h.hi (by decide))
theorem okA_enc {A : Ar} : ∀ {m : M}, (∀ n ∈ m.names, Nm n) → okA A (enc m) = true
  | .wt n, h => by
    have hn := okA_nm (A := A) (h n (by simp [Mob.names]))
    have e : okA A (.str "weight") = true := show decide (("weight" : Str).length ≤ sizeLine) = true by decide +kernel
    show (okA A (.str "weight") && (okA A (.str n) && true)) = true
    rw [hn, e]
    rfl
  | .rod l r a b, h => by
    have ha := okA_enc (A := A) (m := a) fun n hn => h n (by simp [Mob.names, hn])
    have hb := okA_enc (A := A) (m := b) fun n hn => h n (by simp [Mob.names, hn])
    have e : okA A (.str "rod") = true := show decide (("rod" : Str).length ≤ sizeLine) = true by decide +kernel
    show (okA A (.str "rod") && (true && (true && (okA A (enc a) && (okA A (enc b) && true))))) = true
    rw [ha, hb, e]
    rfl
theorem isMob_enc : ∀ {m : M} {d : Nat}, Wf m → m.deep ≤ d → isMob d (enc m) = true
  | .wt n, d, hw, _ => by
    have e := isNa_nm (hw.nm n (by simp [Mob.names]))
    cases d <;> (show (decide (("weight" : Str) = "weight") && isNa (.str n)) = true; rw [e]; decide +kernel)
  | .rod l r a b, d, hw, hd => by
    have hd : max a.deep b.deep + 1 ≤ d := hd
    cases d with
    | zero => omega
    | succ d =>
      obtain ⟨h1, h2, h3, h4, h5, h6⟩ := hw.arms
      show (decide (("rod" : Str) = "rod") && isNu (.int l) 1 9 && isNu (.int r) 1 9 && isMob d (enc a) && isMob d (enc b)) = true
      rw [isMob_enc hw.left (by omega), isMob_enc hw.right (by omega)]
      simp [isNu, h1, h2, h3, h4]
end DP
namespace My
open PySem PySem.Spec PyProof.Rows L2 DP MA
section
variable {P : Program} {w : World} {K : PySem.W.Frag} {mg : Str → Option Value} {base : Heap}
theorem fA_num (T : TopD K mg "is_number" s_is_number p_is_number) (b_isinstance : mg "isinstance" = none) (b_bool : mg "bool" = none) (b_int : mg "int" = none) : FnX P w K mg base 1 "is_number" p_is_number (spOf mg 3 SNumA) := by
  refine fnD T sc_is_number rfl (by decide) fun N RE f cdv B outer s H E hr hR hx ds A R h hl => ?_
  have hu := hr.units
  refine ⟨_, (dss_cons (ds_if (PW.pt (dw_or (dt_val (de_is kit_bool b_isinstance b_bool boot_bool (vr 0))) (dw_or1 (dt_not (dt_val (de_is kit_int b_isinstance b_int boot_int (vr 0))))))) (dss_one (ds_ret de_bl)) dss_nil)
    (dss_one (ds_ret (e_lele (vr 1) (vr 0) (vr 2))))), ?_⟩
  obtain ⟨x, a, b, rfl, hk, q⟩ := h
  cases x with
  | int i =>
    have q : ∀ A', Gr A A' → R (.bl (decide (a ≤ i) && decide (i ≤ b))) A' := q
    refine cD (fun c => ?_) (fun c => ?_)
    · have e : (decide (a ≤ i) && decide (i ≤ b)) = decide (i ≤ b) := by simp [c]
      rw [e] at q
      exact q _ Gr.refl
    · have e : (decide (a ≤ i) && decide (i ≤ b)) = false := by simp [c]
      rw [e] at q
      exact q _ Gr.refl
  | exc c => cases hk
  | ref r =>
    rcases okA_ref hk with e | e
    all_goals
      conv => whnf
      rw [e]
      conv => whnf
      rw [e]
      exact q _ Gr.refl
  | _ => exact q _ Gr.refl
theorem fA_name (T : TopD K mg "is_name" s_is_name p_is_name) (b_isinstance : mg "isinstance" = none) (b_str : mg "str" = none) (b_len : mg "len" = none) (b_all : mg "all" = none) {t : Tok} (m_LONGEST_NAME : mg "LONGEST_NAME" = some (.int 3 t)) : FnX P w K mg base 1 "is_name" p_is_name (spOf mg 1 SNameA) := by
  refine fnD T sc_is_name rfl (by decide) fun N RE f cdv B outer s H E hr hR hx ds A R h hl => ?_
  have hu := hr.units
  refine ⟨_, (dss_cons (ds_if (PW.pt (dw_or (dt_not (dt_val (de_is kit_str b_isinstance b_str boot_str (vr 0)))) (dw_or1 (dt_not (t_lele de_int (de_cb c_len d_len b_len PySem.boot_len (da_cons (vr 0) da_nil)) (de_num m_LONGEST_NAME)))))) (dss_one (ds_ret de_bl)) dss_nil)
    (dss_one (ds_ret (de_cb (call_all rfl) d_all b_all boot_all (da_cons (de_comp none (own := ["letter"]) (frees := []) (ix := []) rfl (di_str (vr 0)) (fun c => (pg_name (i := 0) (show (["letter"] : List Str).Nodup by decide +kernel) rfl (by first | exact Or.inl rfl | exact Or.inr rfl))) (fun c => (e_lele de_str (vr 0) de_str))) da_nil))))), ?_⟩
  obtain ⟨x, rfl, hk, q⟩ := h
  cases x with
  | str n =>
    have hz : n.length ≤ sizeLine := of_decide_eq_true hk
    have q : ∀ A', Gr A A' → R (.bl (decide ((1 : Int) ≤ (n.length : Nat)) && decide (((n.length : Nat) : Int) ≤ 3) && (sgs n).all azB)) A' := q
    refine ⟨hz, cD (fun c1 => ?_) (fun c1 => ?_)⟩
    · refine cN (fun c2 => ?_) (fun c2 => ?_)
      · rw [decide_eq_false c2] at q
        simp only [Bool.and_false, Bool.false_and] at q
        exact q _ Gr.refl
      rw [decide_eq_true c1, decide_eq_true c2] at q
      simp only [Bool.true_and] at q
      refine cloop_map (f := fun x => .bl (azB x)) trivial _ _ (fun x hx => ⟨[x], rfl, fun Q hQ => ?_⟩) ?_ ?_
      · obtain ⟨c, hc, rfl⟩ := List.mem_map.mp hx
        have hQ : Q (.bl (!decide ((⟨#[c]⟩ : Str).cps.toList < ("a" : Str).cps.toList) && !decide (("z" : Str).cps.toList < (⟨#[c]⟩ : Str).cps.toList))) A := hQ
        refine cN (fun e1 => ?_) (fun e1 => ?_)
        · rw [decide_eq_false e1] at hQ
          exact hQ
        · rw [decide_eq_true e1] at hQ
          exact hQ
      · have : (sgs n).length = n.length := by simp [sgs, Str.length]
        show 0 + (sgs n).length ≤ sizeLine
        omega
      · refine all_ok (bs := (sgs n).map azB) last_get (bls_map _ _) ?_
        have e : ((sgs n).map azB).all id = (sgs n).all azB := by simp
        rw [e]
        exact q _ Gr.push
    · rw [decide_eq_false c1] at q
      simp only [Bool.false_and] at q
      exact q _ Gr.refl
  | exc c => cases hk
  | ref r =>
    rcases okA_ref hk with e | e
    all_goals
      conv => whnf
      rw [e]
      exact q _ Gr.refl
  | _ => exact q _ Gr.refl
theorem fA_imw (T : TopD K mg "is_mobile_within" s_is_mobile_within p_is_mobile_within) (b_isinstance : mg "isinstance" = none) (b_str : mg "str" = none) (b_tuple : mg "tuple" = none) (b_len : mg "len" = none) {t : Tok} (m_LONGEST_ARM : mg "LONGEST_ARM" = some (.int 9 t))
    (F_is_name : FnX P w K mg base 1 "is_name" p_is_name (spOf mg 1 SNameA)) (F_is_number : FnX P w K mg base 1 "is_number" p_is_number (spOf mg 3 SNumA)) : ∀ d, FnX P w K mg base (d + 1) "is_mobile_within" p_is_mobile_within (spOf mg 2 (SImA d)) := by
  intro d
  induction d with
  | zero =>
    refine fnNo T fun ds A R RE h => ?_
    obtain ⟨x, _, h, _⟩ := h
    omega
  | succ d F_is_mobile_within =>
    refine fnD T sc_is_mobile_within rfl (by decide) fun N RE f cdv B outer s H E hr hR hx ds A R h hl => ?_
    have hu := hr.units
    refine ⟨_, (dss_cons (ds_if (PW.pt (dw_or (dt_not (dt_val (de_is kit_tuple b_isinstance b_tuple boot_tuple (vr 0)))) (dw_or (t_eq hu (de_cb c_len d_len b_len PySem.boot_len (da_cons (vr 0) da_nil)) de_int) (dw_or1 (dt_not (dt_val (de_is kit_str b_isinstance b_str boot_str (de_ix hu (vr 0) de_int (fun _ _ => rfl))))))))) (dss_one (ds_ret de_bl)) dss_nil)
    (dss_cons (ds_if (t_eq hu (de_ix hu (vr 0) de_int (fun _ _ => rfl)) de_str) (dss_one (ds_ret (de_and (e_eq hu (de_cb c_len d_len b_len PySem.boot_len (da_cons (vr 0) da_nil)) de_int) (de_one (de_call F_is_name (hr.mono (by omega)) hx (da_cons (de_ix hu (vr 0) de_int (fun _ _ => rfl)) da_nil)))))) dss_nil)
    (dss_cons (ds_if (PW.pt (dw_or (t_ne hu (de_ix hu (vr 0) de_int (fun _ _ => rfl)) de_str) (dw_or (t_ne hu (de_cb c_len d_len b_len PySem.boot_len (da_cons (vr 0) da_nil)) de_int) (dw_or1 (t_eq hu (vr 1) de_int))))) (dss_one (ds_ret de_bl)) dss_nil)
    (dss_cons (ds_if (PW.pt (dw_or (dt_not (dt_val (de_call F_is_number (hr.mono (by omega)) hx (da_cons (de_ix hu (vr 0) de_int (fun _ _ => rfl)) (da_cons de_int (da_cons (de_num m_LONGEST_ARM) da_nil)))))) (dw_or1 (dt_not (dt_val (de_call F_is_number (hr.mono (by omega)) hx (da_cons (de_ix hu (vr 0) de_int (fun _ _ => rfl)) (da_cons de_int (da_cons (de_num m_LONGEST_ARM) da_nil))))))))) (dss_one (ds_ret de_bl)) dss_nil)
    (dss_one (ds_ret (de_and (de_call F_is_mobile_within (hr.mono (by omega)) hx (da_cons (de_ix hu (vr 0) de_int (fun _ _ => rfl)) (da_cons (de_sub (vr 1) de_int) da_nil))) (de_one (de_call F_is_mobile_within (hr.mono (by omega)) hx (da_cons (de_ix hu (vr 0) de_int (fun _ _ => rfl)) (da_cons (de_sub (vr 1) de_int) da_nil))))))))))), ?_⟩
    obtain ⟨x, rfl, _, hk, q⟩ := h
    have q : ∀ A', Gr A A' → R (.bl (isMob d x)) A' := q
    have no : isMob d x = false → R (.bl false) A := fun e => by
      have := q A Gr.refl
      rwa [e] at this
    cases x with
    | tup xs =>
      cases xs with
      | nil => exact no (by cases d <;> rfl)
      | cons y ys =>
        have hk : (okA A y && okAs A ys) = true := hk
        rw [Bool.and_eq_true] at hk
        have ln : (((y :: ys).length : Nat) : Int) = (ys.length : Int) + 1 := by simp
        conv => whnf
        rw [at_zero]
        cases y with
        | str k =>
          conv => whnf
          rw [at_zero]
          refine cD (fun ck => ?_) (fun ck => ?_)
          · refine cD (fun c2 => ?_) (fun c2 => ?_)
            · have c2 : (((D.str k :: ys).length : Nat) : Int) = 2 := c2
              obtain ⟨n, rfl⟩ : ∃ n, ys = [n] := by
                match ys, ln, c2 with
                | [], ln, c2 => simp at c2
                | [n], _, _ => exact ⟨n, rfl⟩
                | _ :: _ :: _, ln, c2 => simp at c2; omega
              refine ⟨rfl, n, rfl, ?_, fun A1 g1 => ?_⟩
              · have := hk.2
                simp only [okAs, Bool.and_true] at this
                exact this
              · have e : isMob d (.tup [.str k, n]) = isNa n := by
                  have : isMob d (.tup [.str k, n]) = (decide (k = "weight") && isNa n) := by cases d <;> rfl
                  rw [this, decide_eq_true ck, Bool.true_and]
                rw [← e]
                exact q _ g1
            · refine no (isMob_no (fun n e => ?_) fun l r a b e => ?_)
              · exact absurd (by rw [e]; rfl) c2
              · rw [ck]; decide +kernel
          · conv => whnf
            rw [at_zero]
            refine cN (fun c1 => ?_) (fun c1 => ?_)
            · exact no (isMob_no2 ck c1)
            · refine cN (fun c2 => ?_) (fun c2 => ?_)
              · refine no (isMob_no (fun n e => ?_) fun l r a b e => ?_)
                · exact ck
                · exact absurd (by rw [e]; rfl) c2
              · have c2 : (((D.str k :: ys).length : Nat) : Int) = 5 := c2
                obtain ⟨l, r, a, b, rfl⟩ : ∃ l r a b, ys = [l, r, a, b] := by
                  match ys, c2 with
                  | [l, r, a, b], _ => exact ⟨l, r, a, b, rfl⟩
                  | [], c2 => simp at c2
                  | [_], c2 => simp at c2
                  | [_, _], c2 => simp at c2
                  | [_, _, _], c2 => simp at c2
                  | _ :: _ :: _ :: _ :: _ :: _, c2 => simp at c2; omega
                have hk2 : (okA A l && (okA A r && (okA A a && (okA A b && true)))) = true := hk.2
                simp only [Bool.and_eq_true, and_true] at hk2
                obtain ⟨k1, k2, k3, k4⟩ := hk2
                refine cD (fun c3 => ?_) (fun c3 => ?_)
                · have : d = 0 := by have c3 : ((d + 1 : Nat) : Int) - 1 = 0 := c3
                                     omega
                  subst this
                  exact no rfl
                · cases d with
                  | zero => exact absurd rfl c3
                  | succ d =>
                    have ed : ((d + 1 + 1 : Nat) : Int) - 1 - 1 = ((d + 1 : Nat) : Int) - 1 := by omega
                    have eM : isMob (d + 1) (.tup [.str k, l, r, a, b]) = (isNu l 1 9 && isNu r 1 9 && isMob d a && isMob d b) := by
                      show (decide (k = "rod") && isNu l 1 9 && isNu r 1 9 && isMob d a && isMob d b) = _
                      rw [decide_eq_true c1, Bool.true_and]
                    rw [eM] at q
                    refine ⟨rfl, l, 1, 9, rfl, k1, fun A1 g1 => ?_⟩
                    cases e1 : isNu l 1 9 with
                    | false =>
                      rw [e1] at q
                      exact q _ g1
                    | true =>
                      refine ⟨rfl, r, 1, 9, rfl, okA_gr g1 _ k2, fun A2 g2 => ?_⟩
                      rw [e1] at q
                      have g12 := g1.trans g2
                      cases e2 : isNu r 1 9 with
                      | false =>
                        rw [e2] at q
                        exact q _ g12
                      | true =>
                        rw [e2] at q
                        refine ⟨rfl, a, show [a, D.int (((d + 1 + 1 : Nat) : Int) - 1 - 1)] = _ by rw [ed], by omega, okA_gr g12 _ k3, fun A3 g3 => ?_⟩
                        have g13 := g12.trans g3
                        show cond (isMob d a) _ _
                        cases e3 : isMob d a with
                        | false =>
                          rw [e3] at q
                          exact q _ g13
                        | true =>
                          rw [e3] at q
                          refine ⟨rfl, b, show [b, D.int (((d + 1 + 1 : Nat) : Int) - 1 - 1)] = _ by rw [ed], by omega, okA_gr g13 _ k4, fun A4 g4 => ?_⟩
                          exact q _ (g13.trans g4)
        | exc c => exact absurd hk.1 (by simp [okA])
        | ref r =>
          rcases okA_ref hk.1 with e | e
          all_goals
            conv => whnf
            rw [e]
            exact no (by cases d <;> rfl)
        | _ => exact no (by cases d <;> rfl)
    | exc c => cases hk
    | ref r =>
      rcases okA_ref hk with e | e
      all_goals
        conv => whnf
        rw [e]
        exact no (by cases d <;> rfl)
    | _ => exact no (by cases d <;> rfl)
theorem fA_mob (T : TopD K mg "is_mobile" s_is_mobile p_is_mobile) {t : Tok} (m_MOST_RODS : mg "MOST_RODS" = some (.int 5 t)) (F_is_mobile_within : FnX P w K mg base 7 "is_mobile_within" p_is_mobile_within (spOf mg 2 (SImA 6))) : FnX P w K mg base 8 "is_mobile" p_is_mobile (spOf mg 1 SMbA) := by
  refine fnD T sc_is_mobile rfl (by decide) fun N RE f cdv B outer s H E hr hR hx ds A R h hl => ?_
  refine ⟨_, (dss_one (ds_ret (de_call F_is_mobile_within (hr.mono (by omega)) hx (da_cons (vr 0) (da_cons (de_num m_MOST_RODS) da_nil))))), ?_⟩
  obtain ⟨x, rfl, hk, q⟩ := h
  exact ⟨rfl, x, rfl, by decide, hk, q⟩
theorem fA_chk (T : TopD K mg "check_mobile" s_check_mobile p_check_mobile) {a_NoMobile : Addr} (m_NoMobile : mg "NoMobile" = some (.ref a_NoMobile)) (x_NoMobile : PySem.W.excIn K a_NoMobile vErr "ValueError.__new__" = true) (F_is_mobile : FnX P w K mg base 8 "is_mobile" p_is_mobile (spOf mg 1 SMbA)) : FnX P w K mg base 9 "check_mobile" p_check_mobile (spOf mg 1 SChkA) := by
  refine fnD T sc_check_mobile rfl (by decide) fun N RE f cdv B outer s H E hr hR hx ds A R h hl => ?_
  refine ⟨_, (dss_one (ds_if (dt_not (dt_val (de_call F_is_mobile (hr.mono (by omega)) hx (da_cons (vr 0) da_nil)))) (dss_one (ds_raise hR rfl m_NoMobile x_NoMobile (da_cons de_str da_nil))) dss_nil)), ?_⟩
  obtain ⟨x, rfl, hk, q⟩ := h
  refine ⟨rfl, x, rfl, hk, fun A1 g1 => ?_⟩
  have q := q A1 g1
  cases e : isMob 5 x with
  | true => rw [e] at q; exact q
  | false => rw [e] at q; exact ⟨by decide, q⟩
theorem chk_of (F : FnX P w K mg base 9 "check_mobile" p_check_mobile (spOf mg 1 SChkA)) : FnX P w K mg base 9 "check_mobile" p_check_mobile (spOf mg 1 SChk) := F.imp fun vs H Q E h => by
  obtain ⟨A, ι, ds, R, RE, h1, h2, h3, h4, h5⟩ := h
  obtain ⟨v, ⟨m, rfl, hw, hd, rfl⟩, q⟩ := h4
  exact ⟨A, ι, _, R, RE, h1, h2, h3, ⟨_, rfl, okA_enc hw.nm, fun A' g => by rw [if_pos (isMob_enc hw hd)]; exact q A' g⟩, h5⟩
end
end My
namespace DP
open PySem PySem.Spec PyProof.Rows L2 MA
end DP
namespace My
open PySem PySem.Spec PyProof.Rows L2 DP MA
section
variable {P : Program} {w : World} {K : PySem.W.Frag} {mg : Str → Option Value} {base : Heap}
theorem f_rw (T : TopD K mg "rods_within" s_rods_within p_rods_within) (b_max : mg "max" = none) : ∀ d, FnX P w K mg base (d + 1) "rods_within" p_rods_within (spOf mg 1 (SRw d)) := by
  intro d
  induction d with
  | zero =>
    refine fnNo T fun ds A R RE h => ?_
    obtain ⟨v, ⟨m, _, h, _⟩, _⟩ := h
    omega
  | succ d F_rods_within =>
    refine fnD T sc_rods_within rfl (by decide) fun N RE f cdv B outer s H E hr hR hx ds A R h hl => ?_
    have hu := hr.units
    refine ⟨_, (dss_cons (ds_if (t_eq hu (de_ix hu (vr 0) de_int (fun _ _ => rfl)) de_str) (dss_one (ds_ret de_int)) dss_nil)
    (dss_one (ds_ret (de_add de_int (de_cb (call_max2 rfl) d_max b_max boot_max (da_cons (de_call F_rods_within (hr.mono (by omega)) hx (da_cons (de_ix hu (vr 0) de_int (fun _ _ => rfl)) da_nil)) (da_cons (de_call F_rods_within (hr.mono (by omega)) hx (da_cons (de_ix hu (vr 0) de_int (fun _ _ => rfl)) da_nil)) da_nil))))))), ?_⟩
    obtain ⟨v, ⟨m, rfl, hd, rfl⟩, q⟩ := h
    cases m with
    | wt n => exact q _ Gr.refl
    | rod l r a b =>
      have hd' : max a.deep b.deep + 1 < d + 1 := hd
      refine ⟨rfl, _, ⟨a, rfl, by omega, rfl⟩, fun A1 g1 => ?_⟩
      refine ⟨rfl, _, ⟨b, rfl, by omega, rfl⟩, fun A2 g2 => ?_⟩
      have e : (1 : Int) + (if (b.deep : Int) > a.deep then (b.deep : Int) else a.deep) = ((max a.deep b.deep + 1 : Nat) : Int) := by split <;> omega
      show R (.int (1 + (if (b.deep : Int) > a.deep then (b.deep : Int) else a.deep))) A2
      rw [e]
      exact q _ (g1.trans g2)
end
end My
namespace DP
open PySem PySem.Spec PyProof.Rows L2 MA
end DP
namespace My
open PySem PySem.Spec PyProof.Rows L2 DP MA
section
variable {P : Program} {w : World} {K : PySem.W.Frag} {mg : Str → Option Value} {base : Heap}
end
end My
namespace My
open PySem PySem.Spec PyProof.Rows L2 DP MA
section
variable {P : Program} {w : World} {K : PySem.W.Frag} {mg : Str → Option Value} {base : Heap}
theorem f_gcd (T : TopD K mg "greatest_divisor" s_greatest_divisor p_greatest_divisor) : FnX P w K mg base 1 "greatest_divisor" p_greatest_divisor (spOf mg 2 SGcd) := by
  refine fnD T sc_greatest_divisor rfl (by decide) fun N RE f cdv B outer s H E hr hR hx ds A R h hl => ?_
  have nd := sc_greatest_divisor.nd
  refine ⟨_, (dss_cons (ds_while ownX (t_gt (vr 1) de_int) (dss_cons (ds_set (i := 2) nd rfl (by first | exact Or.inl rfl | exact Or.inr rfl) (de_mod (vr 0) (vr 1)))
    (dss_cons (ds_set (i := 0) nd rfl (by first | exact Or.inl rfl | exact Or.inr rfl) (vr 1))
    (dss_one (ds_set (i := 1) nd rfl (by first | exact Or.inl rfl | exact Or.inr rfl) (vr 2))))))
    (dss_one (ds_ret (vr 0)))), ?_⟩
  obtain ⟨v, ⟨a, b, rfl, ha, hb, rfl⟩, q⟩ := h
  refine ⟨fun n τ A' => A' = A ∧ ∃ (x y : Int) (r : Option D), τ = [some (.int x), some (.int y), r] ∧ 0 ≤ x ∧ 0 ≤ y ∧ Int.gcd x y = Int.gcd a b ∧ n = y.toNat, ⟨_, rfl, a, b, none, rfl, ha, hb, rfl, rfl⟩, ?_⟩
  rintro n τ A' ⟨rfl, x, y, r, rfl, h0, h1, hg, rfl⟩
  refine cD (fun c => ?_) (fun c => ?_)
  · refine ⟨fun τ A2 => A2 = A' ∧ ∃ (x' y' : Int) (r : Option D), τ = [some (.int x'), some (.int y'), r] ∧ 0 ≤ x' ∧ 0 ≤ y' ∧ Int.gcd x' y' = Int.gcd a b ∧ y'.toNat < y.toNat, fun τ' A' ⟨e, x', y', r', h1, h2, h3, h4, h5⟩ => ⟨_, h5, e, x', y', r', h1, h2, h3, h4, rfl⟩, ?_⟩
    have m0 := Int.emod_nonneg x (show y ≠ 0 by omega)
    have m1 := Int.emod_lt_of_pos x (show 0 < y by omega)
    exact ⟨c, rfl, y, x % y, _, rfl, h1, m0, by rw [gcd_step h0 c]; exact hg, by omega⟩
  · have e : y = 0 := by omega
    subst e
    have : (x : Int) = (Int.gcd a b : Int) := by rw [← hg, Int.gcd_zero_right]; omega
    show R (.int x) A'
    rw [this]
    exact q _ Gr.refl
theorem f_reduced (T : TopD K mg "reduced" s_reduced p_reduced) (F_greatest_divisor : FnX P w K mg base 1 "greatest_divisor" p_greatest_divisor (spOf mg 2 SGcd)) : FnX P w K mg base 2 "reduced" p_reduced (spOf mg 2 SRed) := by
  refine fnD T sc_reduced rfl (by decide) fun N RE f cdv B outer s H E hr hR hx ds A R h hl => ?_
  have nd := sc_reduced.nd
  refine ⟨_, (dss_cons (ds_set (i := 2) nd rfl (by first | exact Or.inl rfl | exact Or.inr rfl) (de_call F_greatest_divisor (hr.mono (by omega)) hx (da_cons (vr 0) (da_cons (vr 1) da_nil))))
    (dss_one (ds_ret (de_tup (da_cons (de_div (vr 0) (vr 2)) (da_cons (de_div (vr 1) (vr 2)) da_nil)))))), ?_⟩
  obtain ⟨v, ⟨a, b, rfl, ha, hb, hz, rfl⟩, q⟩ := h
  have hg : 0 < (Int.gcd a b : Int) := by
    have := Int.gcd_pos_of_ne_zero_left b (show a ≠ 0 by omega)
    omega
  have hl : (Int.gcd a b : Int) ≤ a := Int.le_of_dvd ha (Int.gcd_dvd_left a b)
  have h9 : (Int.gcd a b : Int).natAbs.log2 < 9000 := by
    have h1 : (Int.gcd a b : Int).natAbs < 2 ^ 2000 := by omega
    have := (Nat.log2_lt (n := (Int.gcd a b : Int).natAbs) (k := 2000) (by omega)).mpr h1
    omega
  refine ⟨rfl, _, ⟨a, b, rfl, by omega, by omega, rfl⟩, fun A1 g1 => ?_⟩
  exact ⟨⟨hg, h9⟩, ⟨hg, h9⟩, show 2 ≤ sizeLine by decide, q _ g1⟩
end
end My
namespace DP
open PySem PySem.Spec PyProof.Rows L2 MA
theorem big2000 {a : Int} (h : a ≤ 1000000000000) : a < 2 ^ 2000 := Int.lt_of_le_of_lt h (Int.lt_of_lt_of_le (show (1000000000000 : Int) < 2 ^ 64 by decide) (by
  have : (2 : Nat) ^ 64 ≤ 2 ^ 2000 := Nat.pow_le_pow_right (by decide) (by decide)
  exact_mod_cast this))
end DP
namespace My
open PySem PySem.Spec PyProof.Rows L2 DP MA
section
variable {P : Program} {w : World} {K : PySem.W.Frag} {mg : Str → Option Value} {base : Heap}
end
end My
namespace DP
open PySem PySem.Spec PyProof.Rows L2 MA
end DP
namespace My
open PySem PySem.Spec PyProof.Rows L2 DP MA
section
variable {P : Program} {w : World} {K : PySem.W.Frag} {mg : Str → Option Value} {base : Heap}
end
end My
namespace My
open PySem PySem.Spec PyProof.Rows L2 DP MA
section
variable {P : Program} {w : World} {K : PySem.W.Frag} {mg : Str → Option Value} {base : Heap}
theorem f_cell (T : TopD K mg "_law_cell_at" s__law_cell_at p__law_cell_at) (b_len : mg "len" = none) : FnX P w K mg base 1 "_law_cell_at" p__law_cell_at (spOf mg 2 SCell) := by
  refine fnD T sc__law_cell_at rfl (by decide) fun N RE f cdv B outer s H E hr hR hx ds A R h hl => ?_
  have hu := hr.units
  refine ⟨_, (dss_cons (ds_if (t_lt (vr 1) (de_cb c_len d_len b_len PySem.boot_len (da_cons (vr 0) da_nil))) (dss_one (ds_ret (de_ix hu (vr 0) (vr 1) (fun _ _ => rfl)))) dss_nil)
    (dss_cons (ds_if (t_eq hu (vr 0) (de_lst da_nil)) (dss_one (ds_ret de_int)) dss_nil)
    (dss_one (ds_ret (de_add (de_mul (de_ix hu (vr 0) (de_mod (vr 1) (de_cb c_len d_len b_len PySem.boot_len (da_cons (vr 0) da_nil))) (fun _ _ => rfl)) de_int) (vr 1)))))), ?_⟩
  obtain ⟨ns, k, rfl, hk, q⟩ := h
  refine cD (fun c => ?_) (fun c => ?_)
  · obtain ⟨v, hv, _⟩ := atI_some' hk c
    conv => whnf
    rw [hv]
    exact q v _ Gr.refl
  · refine ⟨Nat.zero_le _, eq_fl_nil ?_⟩
    refine cD (fun c2 => ?_) (fun c2 => ?_)
    · exact q _ _ Gr.push
    · have hne : 0 < (ns.length : Int) := by
        have := List.length_pos_iff.mpr c2
        omega
      obtain ⟨v, hv, _⟩ := atI_some' (xs := ns) (Int.emod_nonneg k (by omega)) (Int.emod_lt_of_pos k hne)
      refine ⟨hne, ?_⟩
      conv => whnf
      rw [hv]
      exact ⟨.inr ⟨by decide, by decide⟩, q _ _ Gr.push⟩
theorem f_mixed (T : TopD K mg "_law_mixed" s__law_mixed p__law_mixed) (F__law_cell_at : FnX P w K mg base 1 "_law_cell_at" p__law_cell_at (spOf mg 2 SCell)) : FnX P w K mg base 2 "_law_mixed" p__law_mixed (spOf mg 3 SMixed) := by
  refine fnD T sc__law_mixed rfl (by decide) fun N RE f cdv B outer s H E hr hR hx ds A R h hl => ?_
  have hu := hr.units
  have nd := sc__law_mixed.nd
  refine ⟨_, (dss_cons (ds_set (i := 3) nd rfl (by first | exact Or.inl rfl | exact Or.inr rfl) (de_mod (de_add (de_add (de_mul (de_call F__law_cell_at (hr.mono (by omega)) hx (da_cons (vr 0) (da_cons (vr 1) da_nil))) de_int) (de_mul de_int (vr 1))) de_int) de_int))
    (dss_one (ds_ret (de_mod (de_mod (de_mod (de_pow (vr 3) de_int) de_int) de_int) (vr 2))))), ?_⟩
  obtain ⟨ns, k, m, rfl, hk, hm, q⟩ := h
  refine ⟨rfl, ns, k, rfl, hk, fun i A' g => ?_⟩
  refine ⟨.inr ⟨by decide, by decide⟩, .inl ⟨by decide, by decide⟩, (by decide : (0 : Int) < 2147483647), ?_⟩
  have b0 := Int.emod_nonneg (i * 1103515245 + 7919 * k + 12345) (show (2147483647 : Int) ≠ 0 by decide)
  have b1 := Int.emod_lt_of_pos (i * 1103515245 + 7919 * k + 12345) (show (0 : Int) < 2147483647 by decide)
  refine ⟨⟨by decide, by decide, ?_⟩, (by decide : (0 : Int) < 2147483647), (by decide : (0 : Int) < 999983), hm, ?_⟩
  · have : (2147483647 : Nat) < 2 ^ 64 := by decide
    omega
  exact q _ _ (Int.emod_nonneg _ (by omega)) (Int.emod_lt_of_pos _ hm) g
theorem f_draw (T : TopD K mg "_law_draw" s__law_draw p__law_draw) (b_len : mg "len" = none) (F__law_mixed : FnX P w K mg base 2 "_law_mixed" p__law_mixed (spOf mg 3 SMixed)) : FnX P w K mg base 3 "_law_draw" p__law_draw (spOf mg 3 SDraw) := by
  refine fnD T sc__law_draw rfl (by decide) fun N RE f cdv B outer s H E hr hR hx ds A R h hl => ?_
  have hu := hr.units
  refine ⟨_, (dss_cons (ds_expr (de_mt PySem.F.plainAttrs_list PySem.F.slot_list_append PySem.F.type_list_append mt_append d_app (vr 1) (da_cons de_int da_nil)))
    (dss_one (ds_ret (de_call F__law_mixed (hr.mono (by omega)) hx (da_cons (vr 0) (da_cons (de_cb c_len d_len b_len PySem.boot_len (da_cons (vr 1) da_nil)) (da_cons (vr 2) da_nil))))))), ?_⟩
  obtain ⟨ns, t, m, n, rfl, ⟨xs, ht, hz⟩, hn, hm, q⟩ := h
  refine ⟨isL_of ht, app_ok ht (by rw [sizeLine]; omega) ?_⟩
  have ht' : (A.set t (.lst (xs ++ [.int 0])))[t]? = some (.lst (xs ++ [.int 0])) := get_set ht
  refine len_ok ht' ⟨rfl, ns, _, m, rfl, by omega, hm, fun i A' h0 h1 g => ?_⟩
  exact q i A' h0 h1 (But.set.trans g.but) (Tw.gr ⟨_, ht', by simpa using hz⟩ g)
theorem f_pick (T : TopD K mg "_law_pick" s__law_pick p__law_pick) (b_len : mg "len" = none) (F__law_draw : FnX P w K mg base 3 "_law_draw" p__law_draw (spOf mg 3 SDraw)) : FnX P w K mg base 4 "_law_pick" p__law_pick (spOf mg 3 SPick) := by
  refine fnD T sc__law_pick rfl (by decide) fun N RE f cdv B outer s H E hr hR hx ds A R h hl => ?_
  have hu := hr.units
  refine ⟨_, (dss_one (ds_ret (de_ix hu (vr 2) (de_call F__law_draw (hr.mono (by omega)) hx (da_cons (vr 0) (da_cons (vr 1) (da_cons (de_cb c_len d_len b_len PySem.boot_len (da_cons (vr 2) da_nil)) da_nil)))) (fun _ _ => rfl)))), ?_⟩
  obtain ⟨ns, t, r, xs, n, rfl, hne, hr, hx, ht, hn, q⟩ := h
  have hp := List.length_pos_iff.mpr hx
  refine len_ok hr ⟨rfl, ns, t, _, n, rfl, ht, hn, by omega, fun i A' h0 h1 b t' => ?_⟩
  obtain ⟨v, hv, hm⟩ := atI_some' h0 h1
  exact ix_ok (b r _ hne hr) hv (q v A' hm b t')
theorem f_mobile (T : TopD K mg "_law_mobile" s__law_mobile p__law_mobile) (F__law_draw : FnX P w K mg base 3 "_law_draw" p__law_draw (spOf mg 3 SDraw)) (F__law_pick : FnX P w K mg base 4 "_law_pick" p__law_pick (spOf mg 3 SPick)) : ∀ d, FnX P w K mg base (d + 4) "_law_mobile" p__law_mobile (spOf mg 4 (SMob d)) := by
  intro d
  induction d with
  | zero =>
    refine fnNo T fun ds A R RE h => ?_
    obtain ⟨ns, t, q, nms, n, _, h, _⟩ := h
    omega
  | succ d F__law_mobile =>
    refine fnD T sc__law_mobile rfl (by decide) fun N RE f cdv B outer s H E hr hR hx ds A R h hl => ?_
    have hu := hr.units
    have nd := sc__law_mobile.nd
    refine ⟨_, (dss_cons (ds_if (PW.pt (dw_or (t_eq hu (vr 3) de_int) (dw_or1 (t_eq hu (de_call F__law_draw (hr.mono (by omega)) hx (da_cons (vr 0) (da_cons (vr 1) (da_cons de_int da_nil)))) de_int)))) (dss_one (ds_ret (de_tup (da_cons de_str (da_cons (de_call F__law_pick (hr.mono (by omega)) hx (da_cons (vr 0) (da_cons (vr 1) (da_cons (vr 2) da_nil)))) da_nil))))) dss_nil)
    (dss_cons (ds_set (i := 4) nd rfl (by first | exact Or.inl rfl | exact Or.inr rfl) (de_call F__law_pick (hr.mono (by omega)) hx (da_cons (vr 0) (da_cons (vr 1) (da_cons (de_lst (da_cons de_int (da_cons de_int (da_cons de_int (da_cons de_int da_nil))))) da_nil)))))
    (dss_cons (ds_par (i := 5) (j := 6) rfl nd rfl rfl (by decide) rfl rfl (da_cons (de_add de_int (de_call F__law_draw (hr.mono (by omega)) hx (da_cons (vr 0) (da_cons (vr 1) (da_cons (vr 4) da_nil))))) (da_cons (de_add de_int (de_call F__law_draw (hr.mono (by omega)) hx (da_cons (vr 0) (da_cons (vr 1) (da_cons (vr 4) da_nil))))) da_nil)) rfl)
    (dss_cons (ds_set (i := 7) nd rfl (by first | exact Or.inl rfl | exact Or.inr rfl) (de_call F__law_mobile (hr.mono (by omega)) hx (da_cons (vr 0) (da_cons (vr 1) (da_cons (vr 2) (da_cons (de_sub (vr 3) de_int) da_nil))))))
    (dss_one (ds_ret (de_tup (da_cons de_str (da_cons (vr 5) (da_cons (vr 6) (da_cons (vr 7) (da_cons (de_call F__law_mobile (hr.mono (by omega)) hx (da_cons (vr 0) (da_cons (vr 1) (da_cons (vr 2) (da_cons (de_sub (vr 3) de_int) da_nil))))) da_nil)))))))))))), ?_⟩
    obtain ⟨ns, t, r, nms, n, rfl, _, hne, hA, hns, hnm, ht, hc, q⟩ := h
    have hcs := cst_succ d
    have hcp := cst_pos (d + 1)
    have hdd : ((d + 1 : Nat) : Int) - 1 = (d : Int) := by omega
    have leaf : ∀ A1 n1, But t A A1 → Tw t n1 A1 → n ≤ n1 → n1 + 1 ≤ n + cst (d + 1) → SPick [.fl ns, .ref t, .ref r] A1 (fun x A' => 2 ≤ sizeLine ∧ R (.tup [.str "weight", x]) A') RE := fun A1 n1 b1 t1 h0 h1 => by
      refine ⟨ns, t, r, _, n1, rfl, hne, b1 r _ hne hA, by simpa using hns, t1, by omega, fun x A' hx b t' => ⟨by decide, ?_⟩⟩
      obtain ⟨y, hy, rfl⟩ := List.mem_map.mp hx
      have one : ∀ z ∈ Mob.names (Mob.wt y), z = y := fun z hz => by simpa [Mob.names] using hz
      exact q (.wt y) A' ⟨trivial, fun z hz => by rw [one z hz]; exact hnm y hy⟩ (Nat.succ_pos _) (fun z hz => by rw [one z hz]; exact hy) ⟨b1.trans b, t'.mono (by omega)⟩
    refine cD (fun c => ⟨rfl, leaf A n But.refl ht (by omega) (by omega)⟩) (fun c => ?_)
    refine ⟨rfl, ns, t, 4, n, rfl, ht, by omega, by decide, fun i A1 _ _ b1 t1 => ?_⟩
    refine cD (fun c2 => ⟨rfl, leaf A1 (n + 1) b1 t1 (by omega) (by omega)⟩) (fun c2 => ?_)
    obtain ⟨xs1, hx1, _⟩ := id t1
    have hd0 : 0 < d := by omega
    have l1 := lt_of_get hx1
    refine ⟨show 4 ≤ sizeLine by decide, rfl, ns, t, _, [.int 2, .int 3, .int 4, .int 9], n + 1, rfl, by omega, last_get, by simp, t1.gr Gr.push, by omega, fun x A2 hx b2 t2 => ?_⟩
    obtain ⟨most, rfl, m0, m9⟩ : ∃ k : Int, x = .int k ∧ 2 ≤ k ∧ k ≤ 9 := by
      simp at hx
      rcases hx with h | h | h | h <;> exact ⟨_, h, by omega, by omega⟩
    refine ⟨rfl, ns, t, most, n + 2, rfl, t2, by omega, by omega, fun i3 A3 i0 i1 b3 t3 => ?_⟩
    refine ⟨rfl, ns, t, most, n + 3, rfl, t3, by omega, by omega, fun i4 A4 j0 j1 b4 t4 => ?_⟩
    have b04 : But t A A4 := (((b1.trans (Gr.push.but)).trans b2).trans b3).trans b4
    refine ⟨rfl, ns, t, r, nms, n + 4, show [D.fl ns, D.ref t, D.ref r, D.int (((d + 1 : Nat) : Int) - 1 - 1)] = _ by rw [hdd], hd0, hne, b04 r _ hne hA, hns, hnm, t4, by omega, fun m1 A5 w1 d1 s1 r1 => ?_⟩
    refine ⟨rfl, ns, t, r, nms, n + 4 + cst d, show [D.fl ns, D.ref t, D.ref r, D.int (((d + 1 : Nat) : Int) - 1 - 1)] = _ by rw [hdd], hd0, hne, r1.but r _ hne (b04 r _ hne hA), hns, hnm, r1.tw, by omega, fun m2 A6 w2 d2 s2 r2 => ?_⟩
    refine ⟨show 5 ≤ sizeLine by decide, q (.rod (1 + i3) (1 + i4) m1 m2) A6 ⟨⟨by omega, by omega, by omega, by omega, w1.arms, w2.arms⟩, fun x hx => ?_⟩ (show max m1.deep m2.deep + 1 < d + 1 by omega) (fun x hx => ?_) ⟨(b04.trans r1.but).trans r2.but, r2.tw.mono (by omega)⟩⟩
    · rcases List.mem_append.mp (show x ∈ m1.names ++ m2.names from hx) with h | h
      · exact w1.nm x h
      · exact w2.nm x h
    · rcases List.mem_append.mp (show x ∈ m1.names ++ m2.names from hx) with h | h
      · exact s1 x h
      · exact s2 x h
theorem nm_letter {c : Nat} (h1 : 97 ≤ c) (h2 : c ≤ 122) : Nm ⟨#[c]⟩ := by
  refine ⟨by show 1 ≤ 1; decide, by show 1 ≤ 3; decide, fun x hx => ?_⟩
  have : x = c := by simpa using hx
  omega
theorem abc_list : ("abcdefghijklmnopqrstuvwxyz" : Str).cps.toList = (List.range 26).map (· + 97) := by decide +kernel
theorem abc_at {k : Int} (h0 : 0 ≤ k) (h1 : k < 26) : ∃ c, atI ("abcdefghijklmnopqrstuvwxyz" : Str).cps.toList k = some c ∧ 97 ≤ c ∧ c ≤ 122 := by
  obtain ⟨c, hc, hm⟩ := atI_some' (xs := ("abcdefghijklmnopqrstuvwxyz" : Str).cps.toList) h0 (by rw [abc_list]; simpa using h1)
  refine ⟨c, hc, ?_⟩
  rw [abc_list] at hm
  obtain ⟨j, hj, rfl⟩ := List.mem_map.mp hm
  have := List.mem_range.mp hj
  omega
theorem f_fresh (T : TopD K mg "_law_fresh" s__law_fresh p__law_fresh) (b_len : mg "len" = none) : ∀ d, FnX P w K mg base (d + 1) "_law_fresh" p__law_fresh (spOf mg 2 (SFresh d)) := by
  intro d
  induction d with
  | zero =>
    refine fnNo T fun ds A R RE h => ?_
    obtain ⟨m, q, n, _, _, h, _⟩ := h
    omega
  | succ d F__law_fresh =>
    refine fnD T sc__law_fresh rfl (by decide) fun N RE f cdv B outer s H E hr hR hx ds A R h hl => ?_
    have hu := hr.units
    have nd := sc__law_fresh.nd
    refine ⟨_, (dss_cons (ds_if (t_eq hu (de_ix hu (vr 0) de_int (fun _ _ => rfl)) de_str) (dss_cons (ds_expr (de_mt PySem.F.plainAttrs_list PySem.F.slot_list_append PySem.F.type_list_append mt_append d_app (vr 1) (da_cons de_int da_nil)))
    (dss_one (ds_ret (de_tup (da_cons de_str (da_cons (de_ix hu de_str (de_mod (de_mul (de_cb c_len d_len b_len PySem.boot_len (da_cons (vr 1) da_nil)) de_int) de_int) (fun _ _ => rfl)) da_nil)))))) dss_nil)
    (dss_cons (ds_set (i := 2) nd rfl (by first | exact Or.inl rfl | exact Or.inr rfl) (de_call F__law_fresh (hr.mono (by omega)) hx (da_cons (de_ix hu (vr 0) de_int (fun _ _ => rfl)) (da_cons (vr 1) da_nil))))
    (dss_one (ds_ret (de_add (de_sl (vr 0) do_none (do_some de_int)) (de_tup (da_cons (vr 2) (da_cons (de_call F__law_fresh (hr.mono (by omega)) hx (da_cons (de_ix hu (vr 0) de_int (fun _ _ => rfl)) (da_cons (vr 1) da_nil))) da_nil)))))))), ?_⟩
    obtain ⟨m, r, n, rfl, hw, hd, h8, ⟨xs, hA, hz⟩, hn, q⟩ := h
    have p2 : 2 ^ (d + 1) = 2 * 2 ^ d := by rw [Nat.pow_succ]; omega
    have p0 : 0 < 2 ^ d := Nat.pow_pos (by decide)
    have hsz : (1000000 : Nat) < sizeLine := by decide
    cases m with
    | wt y =>
      refine ⟨isL_of hA, app_ok hA (by omega) ?_⟩
      have hA' : (A.set r (.lst (xs ++ [.int 0])))[r]? = some (.lst (xs ++ [.int 0])) := get_set hA
      refine len_ok hA' ⟨.inr ⟨by decide, by decide⟩, (by decide : (0 : Int) < 26), ?_⟩
      obtain ⟨c, hc, c1, c2⟩ := abc_at (Int.emod_nonneg (((xs ++ [D.int 0]).length : Nat) * 7 : Int) (by decide)) (Int.emod_lt_of_pos (((xs ++ [D.int 0]).length : Nat) * 7 : Int) (by decide))
      refine ixs_ok hc (by decide +kernel) ⟨show 2 ≤ sizeLine by decide, ?_⟩
      have one : ∀ z ∈ Mob.names (Mob.wt (⟨#[c]⟩ : Str)), z = ⟨#[c]⟩ := fun z hz => by simpa [Mob.names] using hz
      exact q (.wt ⟨#[c]⟩) _ ⟨trivial, fun z hz => by rw [one z hz]; exact nm_letter c1 c2⟩ rfl ⟨But.set, _, hA', by simp; omega⟩
    | rod l r' a b =>
      have hd' : max a.deep b.deep + 1 < d + 1 := hd
      obtain ⟨⟨h1, h2, h3, h4, h5, h6⟩, hnm⟩ := hw
      refine ⟨rfl, a, r, n, rfl, ⟨h5, fun x h => hnm x (by simp [Mob.names, h])⟩, by omega, by omega, ⟨xs, hA, hz⟩, by omega, fun a' A1 wa da ra => ?_⟩
      refine ⟨show ¬ (HT.sIx 5 0 none = 0 ∧ HT.sIx 5 5 (some 3) = 5) by decide, rfl, b, r, n + 2 ^ d, rfl, ⟨h6, fun x h => hnm x (by simp [Mob.names, h])⟩, by omega, by omega, ra.tw, by omega, fun b' A2 wb db rb => ?_⟩
      refine ⟨show 2 ≤ sizeLine by decide, show 3 + 2 ≤ sizeLine by decide, ?_⟩
      refine q (.rod l r' a' b') A2 ⟨⟨h1, h2, h3, h4, wa.arms, wb.arms⟩, fun x hx => ?_⟩ (show max a'.deep b'.deep + 1 = max a.deep b.deep + 1 by rw [da, db]) ⟨ra.but.trans rb.but, rb.tw.mono (by omega)⟩
      rcases List.mem_append.mp (show x ∈ a'.names ++ b'.names from hx) with h | h
      · exact wa.nm x h
      · exact wb.nm x h
end
end My
namespace My
open PySem PySem.Spec PyProof.Rows L2 DP MA
section
variable {P : Program} {w : World} {K : PySem.W.Frag} {mg : Str → Option Value} {base : Heap}
theorem nm_a : Nm "a" := ⟨by decide +kernel, by decide +kernel, by decide +kernel⟩
theorem nm_b : Nm "b" := ⟨by decide +kernel, by decide +kernel, by decide +kernel⟩
theorem nm_c : Nm "c" := ⟨by decide +kernel, by decide +kernel, by decide +kernel⟩
theorem nm_x : Nm "x" := ⟨by decide +kernel, by decide +kernel, by decide +kernel⟩
theorem nm_kk : Nm "kk" := ⟨by decide +kernel, by decide +kernel, by decide +kernel⟩
theorem nms1 : ∀ x ∈ (["a"] : List Str), Nm x := fun x h => by
  rw [List.mem_singleton.mp h]
  exact nm_a
theorem nms2 : ∀ x ∈ (["a", "b"] : List Str), Nm x := fun x h => by
  rcases List.mem_cons.mp h with e | h
  · rw [e]
    exact nm_a
  rw [List.mem_singleton.mp h]
  exact nm_b
theorem nms3 : ∀ x ∈ (["x", "b", "kk", "c"] : List Str), Nm x := fun x h => by
  rcases List.mem_cons.mp h with e | h
  · rw [e]
    exact nm_x
  rcases List.mem_cons.mp h with e | h
  · rw [e]
    exact nm_b
  rcases List.mem_cons.mp h with e | h
  · rw [e]
    exact nm_kk
  rw [List.mem_singleton.mp h]
  exact nm_c
theorem f_some (T : TopD K mg "_law_some" s__law_some p__law_some) (F__law_draw : FnX P w K mg base 3 "_law_draw" p__law_draw (spOf mg 3 SDraw)) (F__law_pick : FnX P w K mg base 4 "_law_pick" p__law_pick (spOf mg 3 SPick)) (FM : ∀ d, FnX P w K mg base (d + 4) "_law_mobile" p__law_mobile (spOf mg 4 (SMob d))) (F__law_fresh : FnX P w K mg base 9 "_law_fresh" p__law_fresh (spOf mg 2 (SFresh 8))) (dd : Nat) (hdd : dd ≤ 4) : FnX P w K mg base 10 "_law_some" p__law_some (spOf mg 3 (SSomeD dd)) := by
  have F__law_mobile := (FM (dd + 1)).mono (show dd + 1 + 4 ≤ 9 by omega)
  refine fnD T sc__law_some rfl (by decide) fun N RE f cdv B outer s H E hr hR hx ds A R h hl => ?_
  have hu := hr.units
  have nd := sc__law_some.nd
  refine ⟨_, (dss_cons (ds_set (i := 3) nd rfl (by first | exact Or.inl rfl | exact Or.inr rfl) (de_call F__law_mobile (hr.mono (by omega)) hx (da_cons (vr 0) (da_cons (vr 1) (da_cons (de_call F__law_pick (hr.mono (by omega)) hx (da_cons (vr 0) (da_cons (vr 1) (da_cons (de_lst (da_cons (de_lst (da_cons de_str da_nil)) (da_cons (de_lst (da_cons de_str (da_cons de_str da_nil))) (da_cons (de_lst (da_cons de_str (da_cons de_str (da_cons de_str (da_cons de_str da_nil))))) da_nil)))) da_nil)))) (da_cons (vr 2) da_nil))))))
    (dss_one (ds_ret (de_ite (t_eq hu (de_call F__law_draw (hr.mono (by omega)) hx (da_cons (vr 0) (da_cons (vr 1) (da_cons de_int da_nil)))) de_int) (vr 3) (de_call F__law_fresh (hr.mono (by omega)) hx (da_cons (vr 3) (da_cons (de_lst da_nil) da_nil))))))), ?_⟩
  obtain ⟨ns, t, n, rfl, ht, hn, q⟩ := h
  obtain ⟨xs0, hx0, hz0⟩ := id ht
  have l0 := lt_of_get hx0
  have hcs := cst200 hdd
  have s1 : (1 : Nat) ≤ sizeLine := by decide
  have s2 : (2 : Nat) ≤ sizeLine := by decide
  have s3 : (3 : Nat) ≤ sizeLine := by decide
  have s4 : (4 : Nat) ≤ sizeLine := by decide
  refine ⟨s1, s2, s4, s3, rfl, ns, t, _, _, n, rfl, ?_, last_get, by simp, ((((ht.gr Gr.push).gr Gr.push).gr Gr.push).gr Gr.push), by omega, fun x A1 hx b1 t1 => ?_⟩
  · simp; omega
  have g : Gr A (A ++ [C.lst [D.str "a"]] ++ [C.lst [D.str "a", D.str "b"]] ++ [C.lst [D.str "x", D.str "b", D.str "kk", D.str "c"]] ++ [C.lst [D.ref A.length, D.ref (A ++ [C.lst [D.str "a"]]).length, D.ref (A ++ [C.lst [D.str "a"]] ++ [C.lst [D.str "a", D.str "b"]]).length]]) := ((Gr.push.trans Gr.push).trans Gr.push).trans Gr.push
  have e1 : (A ++ [C.lst [D.str "a"]]).length = A.length + 1 := by simp
  have e2 : (A ++ [C.lst [D.str "a"]] ++ [C.lst [D.str "a", D.str "b"]]).length = A.length + 2 := by simp
  obtain ⟨r, nms, rfl, hr', h1, hne, hnm⟩ : ∃ (r : Nat) (nms : List Str), x = .ref r ∧ r ≠ t ∧ A1[r]? = some (.lst (nms.map D.str)) ∧ nms ≠ [] ∧ ∀ x ∈ nms, Nm x := by
    rcases List.mem_cons.mp hx with e | hx
    · exact ⟨_, ["a"], e, by omega, b1 _ _ (by omega) (getElem?_push (getElem?_push (getElem?_push last_get))), by simp, nms1⟩
    rcases List.mem_cons.mp hx with e | hx
    · exact ⟨_, ["a", "b"], e, by omega, b1 _ _ (by omega) (getElem?_push (getElem?_push last_get)), by simp, nms2⟩
    · exact ⟨_, ["x", "b", "kk", "c"], List.mem_singleton.mp hx, by omega, b1 _ _ (by omega) (getElem?_push last_get), by simp, nms3⟩
  have b01 : But t A A1 := g.but.trans b1
  refine ⟨rfl, ns, t, r, nms, n + 1, show [D.fl ns, D.ref t, D.ref r, D.int (dd : Nat)] = _ by rw [show (((dd + 1 : Nat) : Int) - 1) = (dd : Nat) by omega], by omega, hr', h1, hne, hnm, t1, by omega, fun m A2 wm dm _ r2 => ?_⟩
  refine ⟨rfl, ns, t, 2, n + 1 + cst (dd + 1), rfl, r2.tw, by omega, by decide, fun i A3 _ _ b3 t3 => ?_⟩
  have d3 : Dr t A A3 n 200 := ⟨(b01.trans r2.but).trans b3, t3.mono (by omega)⟩
  refine cD (fun c => q m A3 wm (by omega) d3) (fun c => ⟨Nat.zero_le _, rfl, m, _, 0, rfl, wm, by omega, by decide, ⟨[], last_get, Nat.le_refl _⟩, by decide, fun m' A4 wm' dm' r4 => ?_⟩)
  refine q m' A4 wm' (by omega) ?_
  obtain ⟨xs3, hx3, hz3⟩ := t3
  have l3 := lt_of_get hx3
  refine ⟨fun q c hq h => r4.but q c ?_ (getElem?_push (d3.but q c hq h)), ?_⟩
  · have := lt_of_get (d3.but q c hq h)
    omega
  · exact ⟨xs3, r4.but t _ (by omega) (getElem?_push hx3), by omega⟩
end
end My
namespace DP
open PySem PySem.Spec PyProof.Rows L2 MA
def od : Option M → D
  | some m => enc m
  | none => .non
end DP
namespace My
open PySem PySem.Spec PyProof.Rows L2 DP MA
section
variable {P : Program} {w : World} {K : PySem.W.Frag} {mg : Str → Option Value} {base : Heap}
end
end My
namespace L2
open PySem PySem.Spec PyProof.Rows
theorem Fun.okX {P : Program} {w : World} {K : PySem.W.Frag} {mg : Str → Option Value} {base : Heap} {x : Str} {st : Stmt} {N ps : List Str} {k : Nat} {sp : Sp} {f : Addr} {fd : FuncData} (F : Fun K x x st f fd) (S : FnScope N ps (defScope st)) (len : ∀ vs H Q E, sp vs H Q E → vs.length = ps.length)
    (hbody : ∀ (f : Addr) (cdv : Value) (A : Around) (outer : List Env) (s : Shared) (H : Hp) (vs : List V) (Q : VK) (E : XK), Room k (A.deeper (envOfC x (defScope st) s.heap.objs.size f cdv)) → sp vs H Q E →
      ∃ t, PSs (cxOf (CX1 P w) P w K mg base N x (defScope st) f cdv A outer s H E) (defBody st) t ∧ t { nx := fun _ H' => Q .non H', rt := Q } (start N vs) H) : FnOk P w K mg base (CX1 P w) (k + 1) f fd ps sp := by
  obtain ⟨oc, od, kV, doc, pm, an, cdv, ct, osl, rfl, lk, hcd⟩ := F.ex
  exact fn_of lk hcd S len fun A outer s H vs Q E hr hsp => hbody f cdv A outer s H vs Q E hr hsp
end L2
namespace DP
open PySem PySem.Spec PyProof.Rows L2 MA
theorem fnL {P : Program} {w : World} {K : PySem.W.Frag} {mg : Str → Option Value} {base : Heap} {x : Str} {st : Stmt} {Nm ps : List Str} {k n : Nat} {S : Ct} {fo : Addr} {fd : FuncData} (T : Fun K x x st fo fd) (Sc : FnScope Nm ps (defScope st)) (hn : ps.length = n) (hN : ps.length ≤ Nm.length)
    (hbody : ∀ (N : En) (RE : DX) (f : Addr) (cdv : Value) (B : Around) (outer : List Env) (s : Shared) (H : Hp) (E : XK), Room k (cxOf (CX1 P w) P w K mg base Nm x (defScope st) f cdv B outer s H E).A →
      Raises (cxOf (CX1 P w) P w K mg base Nm x (defScope st) f cdv B outer s H E) (EL mg N RE) → Passes (CX1 P w) (cxOf (CX1 P w) P w K mg base Nm x (defScope st) f cdv B outer s H E) (EL mg N RE) →
      ∀ ds A R, S ds A R RE → ds.length = n → ∃ m, PSs (cxOf (CX1 P w) P w K mg base Nm x (defScope st) f cdv B outer s H E) (defBody st) (upS mg N m) ∧ m { nx := fun _ A' => R .non A', rt := R } (startD (Nm.length - n) ds) A) : FnOk P w K mg base (CX1 P w) (k + 1) fo fd ps (spOf mg n S) := by
  refine T.okX Sc (fun vs H Q E h => ?_) fun f cdv A outer s H vs Q E hr h => ?_
  · obtain ⟨A, ι, ds, R, RE, hl, _, hv, _⟩ := h
    rw [← RVs.length hv, hl, hn]
  · obtain ⟨A0, ι0, ds, R, RE, hl, ra, hv, hS, kq, kx⟩ := h
    have hE : ∀ C a H', EL mg ⟨A0, ι0, H⟩ RE C a H' → E C none H' := fun C a H' z => by
      obtain ⟨c, A', ι', ⟨b, rfl, hc⟩, ex, r, q⟩ := z
      exact kx c A' ι' H' b q hc ex r
    obtain ⟨m, hP, hm⟩ := hbody ⟨A0, ι0, H⟩ RE f cdv A outer s H E hr
      (fun pins σ H1 s1 e h' C args I mx z => raisesX pins σ H1 s1 e h' C args I mx (hE _ _ _ z))
      (fun pins σ H1 s1 e s' I z => passX pins σ H1 s1 e s' I (by
        obtain ⟨a, C, H', h1, h2, h3⟩ := z
        exact ⟨a, C, H', h1, h2, hE _ _ _ h3⟩)) ds A0 R hS hl
    have hlv := RVs.length hv
    refine ⟨_, hP, A0, ι0, _, _, ⟨ra, ⟨?_, fun i d q => ?_⟩, ra.refl⟩, hm, ⟨fun τ A' ι' σ H' q e r _ => kq _ A' ι' H' _ q e r rfl, kq, fun _ _ _ _ _ q _ _ _ => q.elim, fun _ _ _ _ _ q _ _ _ => q.elim⟩⟩
    · simp [startD, L2.start]
      omega
    · obtain ⟨v, h1, h2⟩ := RVs.get hv (lk_start ds _ i d q)
      refine ⟨v, ?_, h2⟩
      have hi := (List.getElem?_eq_some_iff.mp h1).1
      unfold L2.start
      rw [List.getElem?_append_left (by simpa using hi), List.getElem?_map, h1]
      rfl
def SLaw : Ct := fun ds A R _ => ∃ ns, ds = [.fl ns] ∧ ∀ A', R (.bl true) A'
def spFz : Sp := fun vs H Q _ => ∃ (a : Addr) (o : Obj) (ns : List Int), vs = [.ref a] ∧ H a = some (.frz o (.lst (ns.map V.int))) ∧ ∀ H', Q (.bl true) H'
theorem sp_fz {mg : Str → Option Value} {vs : List V} {H : Hp} {Q : VK} {E : XK} (h : spFz vs H Q E) : spOf mg 1 SLaw vs H Q E := by
  obtain ⟨a, o, ns, rfl, h, q⟩ := h
  refine ⟨[], fun _ => a, [.fl ns], fun v _ => v = .bl true, fun _ _ => False, rfl, ⟨fun r c h => by simp at h, fun r s hr => by simp at hr⟩, ⟨_, [], rfl, ⟨a, o, rfl, h⟩, rfl⟩, ⟨ns, rfl, fun _ => rfl⟩, fun v A' ι' H' u e _ _ r => ?_, fun _ _ _ _ _ z => z.elim⟩
  subst e
  cases r
  exact q _
def noL (o : Obj) : Bool := match o.cls with
  | .type t => !(decide (t = "list"))
  | _ => true
theorem no_list {K : PySem.W.Frag} (h : K.all (fun p => noL p.2) = true) {a : Addr} {o : Obj} (e : K.lookup a = some o) : noL o = true := by
  induction K with
  | nil => cases e
  | cons p r ih =>
    have h' : noL p.2 = true ∧ List.all r (fun p => noL p.2) = true := by simpa using h
    rw [List.lookup] at e
    split at e
    · cases e
      exact h'.1
    · exact ih h'.2 e
theorem fz_of {K : PySem.W.Frag} (hK : K.all (fun p => noL p.2) = true) {H : Hp} {a : Addr} {ns : List Int} (hO : Only H) (hS : SqL K H a (ns.map V.int)) : spFz [.ref a] H (fun v _ => v = .bl true) fun _ _ _ => False := by
  rcases hS with (e | ⟨o, e⟩) | ⟨o, its, n, e, c, _⟩
  · rcases hO a with z | ⟨o, xs, z⟩
    · rw [z] at e; cases e
    · rw [z] at e; cases e
  · exact ⟨a, o, ns, rfl, e, fun _ => rfl⟩
  · have := no_list hK e
    unfold noL at this
    rw [c] at this
    simp at this
theorem pur_enc : ∀ m : M, pur (enc m) = true
  | .wt n => by simp [enc, pur, purs]
  | .rod l r a b => by simp [enc, pur, purs, pur_enc a, pur_enc b]
theorem rod_ok : PyData.canLay0 (.str "rod") = true := by decide +kernel
theorem weight_ok : PyData.canLay0 (.str "weight") = true := by decide +kernel
theorem lay_enc : ∀ m : M, (∀ n ∈ m.names, Nm n) → (toQ (enc m)).canLay0 = true
  | .wt n, h => by
    have h1 := (h n (by simp [Mob.names])).ok
    have h2 := weight_ok
    simp only [enc, toQ, toQs]
    simp only [PyData.canLay0, PyData.canLayAll0] at h1 h2 ⊢
    simp [h1, h2]
  | .rod l r a b, h => by
    have h1 := lay_enc a fun n hn => h n (by simp [Mob.names, hn])
    have h2 := lay_enc b fun n hn => h n (by simp [Mob.names, hn])
    have h3 := rod_ok
    simp only [enc, toQ, toQs]
    simp only [PyData.canLay0] at h3
    simp [PyData.canLay0, PyData.canLayAll0, h1, h2, h3]
theorem dep_enc : ∀ m : M, (toQ (enc m)).depth ≤ m.deep + 1
  | .wt n => by
    simp only [enc, toQ, toQs]
    simp [PyData.depth, PyData.depthAll]
  | .rod l r a b => by
    have h1 := dep_enc a
    have h2 := dep_enc b
    simp only [enc, toQ, toQs]
    simp [PyData.depth, PyData.depthAll, Mob.deep]
    omega
theorem top_enc {A : Ar} : ∀ m : M, toP A (enc m) = toQ (enc m)
  | .wt n => rfl
  | .rod l r a b => rfl
theorem ok_enc {A : Ar} : ∀ m : M, okP A (enc m) = pur (enc m)
  | .wt n => rfl
  | .rod l r a b => rfl
end DP
namespace DP
open PySem PySem.Spec PyProof.Rows L2 MA
end DP
namespace My
open PySem PySem.Spec PyProof.Rows L2 DP MA
section
variable {P : Program} {w : World} {K : PySem.W.Frag} {mg : Str → Option Value} {base : Heap}
end
end My
namespace DP
open PySem PySem.Spec PyProof.Rows L2 MA
def rds : M → Str → List (Str × M)
  | .wt _, _ => []
  | .rod l r a b, w => (w, .rod l r a b) :: (rds a (w ++ "l") ++ rds b (w ++ "r"))
def rdD (p : Str × M) : D := .tup [.str p.1, enc p.2]
theorem rds_len : ∀ (m : M) (w : Str), (rds m w).length + 1 ≤ 2 ^ m.deep
  | .wt n, w => by simp [rds, Mob.deep]
  | .rod l r a b, w => by
    have h1 := rds_len a (w ++ "l")
    have h2 := rds_len b (w ++ "r")
    have e1 : 2 ^ a.deep ≤ 2 ^ max a.deep b.deep := Nat.pow_le_pow_right (by decide) (by omega)
    have e2 : 2 ^ b.deep ≤ 2 ^ max a.deep b.deep := Nat.pow_le_pow_right (by decide) (by omega)
    show (rds a (w ++ "l") ++ rds b (w ++ "r")).length + 1 + 1 ≤ 2 ^ (max a.deep b.deep + 1)
    rw [Nat.pow_succ, List.length_append]
    omega
def SLF (dom : List D → List D → Prop) : Ct := fun ds A R _ => ∃ v, dom ds v ∧ ∀ A' r, Gr A A' → A'[r]? = some (.lst v) → A.length ≤ r → R (.ref r) A'
abbrev SRds (d : Nat) : Ct := SLF fun ds v => ∃ m w, ds = [enc m, .str w] ∧ m.deep < d ∧ w.length + d ≤ 100 ∧ d ≤ 8 ∧ v = (rds m w).map rdD
end DP
namespace My
open PySem PySem.Spec PyProof.Rows L2 DP MA
section
variable {P : Program} {w : World} {K : PySem.W.Frag} {mg : Str → Option Value} {base : Heap}
theorem f_rds (T : TopD K mg "_law_rods" s__law_rods p__law_rods) : ∀ d, FnX P w K mg base (d + 1) "_law_rods" p__law_rods (spOf mg 2 (SRds d)) := by
  intro d
  induction d with
  | zero =>
    refine fnNo T fun ds A R RE h => ?_
    obtain ⟨v, ⟨m, w, _, h, _⟩, _⟩ := h
    omega
  | succ d F__law_rods =>
    refine fnD T sc__law_rods rfl (by decide) fun N RE f cdv B outer s H E hr hR hx ds A R h hl => ?_
    have hu := hr.units
    refine ⟨_, (dss_cons (ds_if (t_eq hu (de_ix hu (vr 0) de_int (fun _ _ => rfl)) de_str) (dss_one (ds_ret (de_lst da_nil))) dss_nil)
    (dss_one (ds_ret (de_add (de_add (de_lst (da_cons (de_tup (da_cons (vr 1) (da_cons (vr 0) da_nil))) da_nil)) (de_call F__law_rods (hr.mono (by omega)) hx (da_cons (de_ix hu (vr 0) de_int (fun _ _ => rfl)) (da_cons (de_add (vr 1) de_str) da_nil)))) (de_call F__law_rods (hr.mono (by omega)) hx (da_cons (de_ix hu (vr 0) de_int (fun _ _ => rfl)) (da_cons (de_add (vr 1) de_str) da_nil))))))), ?_⟩
    obtain ⟨v, ⟨m, w, rfl, hd, hw, h8, rfl⟩, q⟩ := h
    have hs : (100 : Nat) ≤ sizeLine := by decide
    cases m with
    | wt n => exact ⟨Nat.zero_le _, q _ _ Gr.push last_get (Nat.le_refl _)⟩
    | rod l r a b =>
      have hd' : max a.deep b.deep + 1 < d + 1 := hd
      have ll : ("l" : Str).length = 1 := by decide +kernel
      have lr : ("r" : Str).length = 1 := by decide +kernel
      have al : ∀ x y : Str, (x ++ y).length = x.length + y.length := fun x y => Array.size_append
      have n1 := rds_len a (w ++ "l")
      have n2 := rds_len b (w ++ "r")
      have p1 : 2 ^ a.deep ≤ 2 ^ 8 := Nat.pow_le_pow_right (by decide) (by omega)
      have p2 : 2 ^ b.deep ≤ 2 ^ 8 := Nat.pow_le_pow_right (by decide) (by omega)
      have hz : (1024 : Nat) ≤ sizeLine := by decide
      refine ⟨show 2 ≤ sizeLine by decide, show 1 ≤ sizeLine by decide, by omega, rfl, _, ⟨a, _, rfl, by omega, by rw [al]; omega, by omega, rfl⟩, fun A1 r1 g1 h1 _ => ?_⟩
      refine cat_ok (g1.get last_get) h1 (by simp; omega) ?_
      refine ⟨by omega, rfl, _, ⟨b, _, rfl, by omega, by rw [al]; omega, by omega, rfl⟩, fun A2 r2 g2 h2 _ => ?_⟩
      have gg : Gr A A2 := ((Gr.push.trans g1).trans Gr.push).trans g2
      refine cat_ok (g2.get last_get) h2 (by simp; omega) (q _ _ (gg.trans Gr.push) ?_ gg.len)
      rw [last_get]
      simp [rds, rdD, enc]
end
end My
namespace DP
open PySem PySem.Spec PyProof.Rows L2 MA
end DP
namespace My
open PySem PySem.Spec PyProof.Rows L2 DP MA
section
variable {P : Program} {w : World} {K : PySem.W.Frag} {mg : Str → Option Value} {base : Heap}
end
end My
namespace DP
open PySem PySem.Spec PyProof.Rows L2 MA
def atW : M → List Nat → Option M
  | m, [] => some m
  | .wt _, _ :: _ => none
  | .rod _ _ a b, c :: r => if c = 108 then atW a r else if c = 114 then atW b r else none
theorem atW_nil (m : M) : atW m [] = some m := by cases m <;> rfl
theorem eL : ("l" : Str) = ⟨#[108]⟩ := by decide +kernel
theorem eR : ("r" : Str) = ⟨#[114]⟩ := by decide +kernel
theorem isl {c : Nat} : (⟨#[c]⟩ : Str) = "l" ↔ c = 108 := by
  rw [eL]
  simp
def endR (R : DK) (RE : DX) (A : Ar) : Option M → Prop
  | some (.rod l r a b) => R (enc (.rod l r a b)) A
  | _ => RE "NoWay" A
theorem eq_ref_nil {A : Ar} {p : Nat} {xs : List D} {R : DK} (h : A[p]? = some (.lst xs)) (hp : purs xs = true) (hl : PyData.canLayAll0 (toQs xs) = true) (k : R (.bl (decide (xs = []))) (A ++ [.lst []])) : dataEq false (.ref p) (.ref A.length) (A ++ [.lst []]) R := by
  unfold dataEq
  have e0 : toP (A ++ [.lst []]) (.ref p) = .list (toQs xs) := by unfold toP; simp only [getElem?_push h]
  have e1 : toP (A ++ [.lst []]) (.ref A.length) = .list [] := by unfold toP; simp only [last_get]; rfl
  refine ⟨?_, ?_, ?_, ?_, ?_, ?_⟩
  · unfold okP; simp only [getElem?_push h]; exact hp
  · unfold okP; simp only [last_get]; rfl
  · rw [e0]; simpa [PyData.canLay0] using hl
  · rw [e1]; simp [PyData.canLay0, PyData.canLayAll0]
  · rw [e1]; simp [PyData.depth, PyData.depthAll]; omega
  · rw [e0, e1]
    have e : PyData.eqv (.list (toQs xs)) (.list []) = decide (xs = []) := by cases xs <;> simp [toQs, PyData.eqv, PyData.eqvAll]
    rw [if_neg (by decide), e]
    exact k
def Wy (w : Str) : Prop := ∀ c ∈ w.cps.toList, c = 108 ∨ c = 114
theorem cps_app (x y : Str) : (x ++ y).cps.toList = x.cps.toList ++ y.cps.toList := Array.toList_append
theorem Wy.nil : Wy "" := fun c h => by
  have e : ("" : Str).cps.toList = [] := by decide +kernel
  rw [e] at h
  cases h
theorem cpsL : ("l" : Str).cps.toList = [108] := by decide +kernel
theorem cpsR : ("r" : Str).cps.toList = [114] := by decide +kernel
theorem cpsN : ("" : Str).cps.toList = [] := by decide +kernel
theorem Wy.l {w : Str} (h : Wy w) : Wy (w ++ "l") := fun c hc => by
  rw [cps_app, cpsL] at hc
  rcases List.mem_append.mp hc with h' | h'
  · exact h c h'
  · exact .inl (List.mem_singleton.mp h')
theorem Wy.r {w : Str} (h : Wy w) : Wy (w ++ "r") := fun c hc => by
  rw [cps_app, cpsR] at hc
  rcases List.mem_append.mp hc with h' | h'
  · exact h c h'
  · exact .inr (List.mem_singleton.mp h')
end DP
namespace My
open PySem PySem.Spec PyProof.Rows L2 DP MA
section
variable {P : Program} {w : World} {K : PySem.W.Frag} {mg : Str → Option Value} {base : Heap}
end
end My
namespace DP
open PySem PySem.Spec PyProof.Rows L2 MA
end DP
namespace My
open PySem PySem.Spec PyProof.Rows L2 DP MA
section
variable {P : Program} {w : World} {K : PySem.W.Frag} {mg : Str → Option Value} {base : Heap}
end
end My
namespace DP
open PySem PySem.Spec PyProof.Rows L2 MA
end DP
namespace DP
open PySem PySem.Spec PyProof.Rows L2
theorem boot_ValueError : bootBuiltins "ValueError" = some (.type "ValueError") := by decide +kernel
def SWh (nm : Str) (j : Nat) : Ct := fun ds A R _ => ds = [.exc nm] ∧ ∀ A', Gr A A' → R (.tup [.str "refused", .int (j : Nat)]) A'
end DP
namespace My
open PySem PySem.Spec PyProof.Rows L2 DP MA
section
variable {P : Program} {w : World} {K : PySem.W.Frag} {mg : Str → Option Value} {base : Heap}
end
end My
namespace DP
open PySem PySem.Spec PyProof.Rows L2
end DP
namespace My
open PySem PySem.Spec PyProof.Rows L2 DP MA
section
variable {P : Program} {w : World} {K : PySem.W.Frag} {mg : Str → Option Value} {base : Heap}
end
end My
namespace DP
open PySem PySem.Spec PyProof.Rows L2 MA
end DP
namespace My
open PySem PySem.Spec PyProof.Rows L2 DP MA
section
variable {P : Program} {w : World} {K : PySem.W.Frag} {mg : Str → Option Value} {base : Heap}
end
end My
namespace DP
open PySem PySem.Spec PyProof.Rows L2 MA
end DP
namespace DP
open PySem PySem.Spec PyProof.Rows L2 MA
theorem rds_at : ∀ (m : M) (w : Str) (p : Str × M), p ∈ rds m w → ∃ cs : List Nat, p.1.cps.toList = w.cps.toList ++ cs ∧ atW m cs = some p.2
  | .wt n, w, p, h => by simp [rds] at h
  | .rod l r a b, w, p, h => by
    rcases List.mem_cons.mp (show p ∈ (w, Mob.rod l r a b) :: (rds a (w ++ "l") ++ rds b (w ++ "r")) from h) with rfl | h
    · exact ⟨[], by simp, atW_nil _⟩
    rcases List.mem_append.mp h with h | h
    · obtain ⟨cs, e1, e2⟩ := rds_at a _ p h
      refine ⟨108 :: cs, by rw [e1, cps_app, cpsL]; simp, ?_⟩
      show (if 108 = 108 then atW a cs else _) = _
      rw [if_pos rfl]
      exact e2
    · obtain ⟨cs, e1, e2⟩ := rds_at b _ p h
      refine ⟨114 :: cs, by rw [e1, cps_app, cpsR]; simp, ?_⟩
      show (if 114 = 108 then atW a cs else if 114 = 114 then atW b cs else none) = _
      rw [if_neg (by decide), if_pos rfl]
      exact e2
theorem rds_at0 {m : M} {p : Str × M} (h : p ∈ rds m "") : atW m p.1.cps.toList = some p.2 := by
  obtain ⟨cs, e1, e2⟩ := rds_at m "" p h
  rw [e1, cpsN, List.nil_append]
  exact e2
end DP
namespace My
open PySem PySem.Spec PyProof.Rows L2 DP MA
section
variable {P : Program} {w : World} {K : PySem.W.Frag} {mg : Str → Option Value} {base : Heap}
end
end My
namespace DP
open PySem PySem.Spec PyProof.Rows L2 MA
def pln : M → M
  | .wt n => .wt n
  | .rod l r a b => .rod (rd l r).1 (rd l r).2 (pln a) (pln b)
def SPlb (d : Nat) : Ct := SV fun ds v => ∃ m, ds = [enc m] ∧ m.arms ∧ m.deep < d ∧ v = enc (pln m)
def SPln : Ct := SV fun ds v => ∃ m, ds = [enc m] ∧ Wf m ∧ m.deep ≤ 5 ∧ v = enc (pln m)
theorem pln_nm : ∀ m : M, (pln m).names = m.names
  | .wt n => rfl
  | .rod l r a b => by
    show (pln a).names ++ (pln b).names = a.names ++ b.names
    rw [pln_nm a, pln_nm b]
theorem pln_dp : ∀ m : M, (pln m).deep = m.deep
  | .wt n => rfl
  | .rod l r a b => by
    show max (pln a).deep (pln b).deep + 1 = max a.deep b.deep + 1
    rw [pln_dp a, pln_dp b]
theorem rds_wy : ∀ (m : M) (w : Str), Wy w → Wf m → ∀ p ∈ rds m w, Wy p.1 ∧ ∀ n ∈ p.2.names, Nm n
  | .wt n, w, _, _, p, h => by simp [rds] at h
  | .rod l r a b, w, hw, hf, p, h => by
    rcases List.mem_cons.mp (show p ∈ (w, Mob.rod l r a b) :: (rds a (w ++ "l") ++ rds b (w ++ "r")) from h) with rfl | h
    · exact ⟨hw, hf.nm⟩
    rcases List.mem_append.mp h with h | h
    · exact rds_wy a _ hw.l hf.left p h
    · exact rds_wy b _ hw.r hf.right p h
end DP
namespace My
open PySem PySem.Spec PyProof.Rows L2 DP MA
section
variable {P : Program} {w : World} {K : PySem.W.Frag} {mg : Str → Option Value} {base : Heap}
theorem f_plb (T : TopD K mg "plain_below" s_plain_below p_plain_below) (F_reduced : FnX P w K mg base 2 "reduced" p_reduced (spOf mg 2 SRed)) : ∀ d, FnX P w K mg base (d + 3) "plain_below" p_plain_below (spOf mg 1 (SPlb d)) := by
  intro d
  induction d with
  | zero =>
    refine fnNo T fun ds A R RE h => ?_
    obtain ⟨v, ⟨m, _, _, h, _⟩, _⟩ := h
    omega
  | succ d F_plain_below =>
    refine fnD T sc_plain_below rfl (by decide) fun N RE f cdv B outer s H E hr hR hx ds A R h hl => ?_
    have hu := hr.units
    have nd := sc_plain_below.nd
    refine ⟨_, (dss_cons (ds_if (t_eq hu (de_ix hu (vr 0) de_int (fun _ _ => rfl)) de_str) (dss_one (ds_ret (vr 0))) dss_nil)
    (dss_cons (ds_set (i := 1) nd rfl (by first | exact Or.inl rfl | exact Or.inr rfl) (de_call F_reduced (hr.mono (by omega)) hx (da_cons (de_ix hu (vr 0) de_int (fun _ _ => rfl)) (da_cons (de_ix hu (vr 0) de_int (fun _ _ => rfl)) da_nil))))
    (dss_one (ds_ret (de_tup (da_cons de_str (da_cons (de_ix hu (vr 1) de_int (fun _ _ => rfl)) (da_cons (de_ix hu (vr 1) de_int (fun _ _ => rfl)) (da_cons (de_call F_plain_below (hr.mono (by omega)) hx (da_cons (de_ix hu (vr 0) de_int (fun _ _ => rfl)) da_nil)) (da_cons (de_call F_plain_below (hr.mono (by omega)) hx (da_cons (de_ix hu (vr 0) de_int (fun _ _ => rfl)) da_nil)) da_nil)))))))))), ?_⟩
    obtain ⟨v, ⟨m, rfl, ha, hd, rfl⟩, q⟩ := h
    cases m with
    | wt n => exact q _ Gr.refl
    | rod l r a b =>
      have hd' : max a.deep b.deep + 1 < d + 1 := hd
      obtain ⟨r1, r2, r3, r4, ha1, ha2⟩ := ha
      refine ⟨rfl, _, ⟨l, r, rfl, by omega, by omega, big2000 (by omega), rfl⟩, fun A1 g1 => ?_⟩
      refine ⟨rfl, _, ⟨a, rfl, ha1, by omega, rfl⟩, fun A2 g2 => ?_⟩
      refine ⟨rfl, _, ⟨b, rfl, ha2, by omega, rfl⟩, fun A3 g3 => ?_⟩
      exact ⟨show 5 ≤ sizeLine by decide, q _ ((g1.trans g2).trans g3)⟩
theorem f_plain (T : TopD K mg "plain" s_plain p_plain) (F_check_mobile : FnX P w K mg base 9 "check_mobile" p_check_mobile (spOf mg 1 SChk)) (F_plain_below : FnX P w K mg base 9 "plain_below" p_plain_below (spOf mg 1 (SPlb 6))) : FnX P w K mg base 10 "plain" p_plain (spOf mg 1 SPln) := by
  refine fnD T sc_plain rfl (by decide) fun N RE f cdv B outer s H E hr hR hx ds A R h hl => ?_
  refine ⟨_, (dss_cons (ds_expr (de_call F_check_mobile (hr.mono (by omega)) hx (da_cons (vr 0) da_nil)))
    (dss_one (ds_ret (de_call F_plain_below (hr.mono (by omega)) hx (da_cons (vr 0) da_nil))))), ?_⟩
  obtain ⟨v, ⟨m, rfl, hw, hd, rfl⟩, q⟩ := h
  refine ⟨rfl, _, ⟨m, rfl, hw, hd, rfl⟩, fun A1 g1 => ?_⟩
  exact ⟨rfl, _, ⟨m, rfl, hw.arms, by omega, rfl⟩, fun A2 g2 => q _ (g1.trans g2)⟩
end
end My
namespace DP
open PySem PySem.Spec PyProof.Rows L2 MA
theorem eqv_ints : ∀ ns : List Int, PyData.eqvAll (ns.map PyData.int) (ns.map PyData.int) = true
  | [] => by simp [PyData.eqvAll]
  | n :: r => by simp [PyData.eqvAll, PyData.eqv, eqv_ints r]
mutual
theorem eqv_self : ∀ d : D, PyData.eqv (toQ d) (toQ d) = true
  | .non => by simp [toQ, PyData.eqv]
  | .bl b => by simp [toQ, PyData.eqv]
  | .int i => by simp [toQ, PyData.eqv]
  | .str x => by simp [toQ, PyData.eqv]
  | .tup xs => by simp [toQ, PyData.eqv, eqvs_self xs]
  | .ref r => by simp [toQ, PyData.eqv]
  | .fl ns => by simp [toQ, PyData.eqv, eqv_ints ns]
  | .exc c => by simp [toQ, PyData.eqv]
theorem eqvs_self : ∀ xs : List D, PyData.eqvAll (toQs xs) (toQs xs) = true
  | [] => by simp [toQs, PyData.eqvAll]
  | d :: r => by simp [toQs, PyData.eqvAll, eqv_self d, eqvs_self r]
end
theorem ne_self {d : D} {A : Ar} {R : DK} (hp : pur d = true) (hl : (toQ d).canLay0 = true) (hd : (toQ d).depth ≤ 64) (k : R (.bl false) A) : dataEq true d d A R := by
  unfold dataEq
  cases d with
  | ref r => cases hp
  | _ =>
    refine ⟨hp, hp, hl, hl, by show min (PyData.depth (toQ _)) (PyData.depth (toQ _)) ≤ 64; omega, ?_⟩
    have e := eqv_self
    show R (.bl (if true = true then !PyData.eqv (toQ _) (toQ _) else _)) A
    rw [if_pos rfl, e]
    exact k
end DP
namespace DP
open PySem PySem.Spec PyProof.Rows L2 MA
def setW : M → List Nat → M → Option M
  | _, [], p => some p
  | .wt _, _ :: _, _ => none
  | .rod l r a b, c :: cs, p => if c = 108 then (setW a cs p).map fun x => .rod l r x b else if c = 114 then (setW b cs p).map fun x => .rod l r a x else none
theorem setW_nil (m p : M) : setW m [] p = some p := by cases m <;> rfl
theorem str_nil {w : Str} (h : w.cps.toList = []) : w = "" := by
  have e : w.cps = #[] := by
    apply Array.ext'
    simpa using h
  have e2 : ("" : Str) = ⟨#[]⟩ := by decide +kernel
  rw [e2, ← e]
def SWp (d : Nat) : Ct := SV fun ds v => ∃ m w p x, ds = [enc m, .str w, enc p] ∧ setW m w.cps.toList p = some x ∧ w.cps.toList.length < d ∧ d ≤ 100 ∧ v = enc x
structure Put (m x q p : M) : Prop where
  wf : Wf m → Wf p → Wf x
  nm : ∀ n ∈ x.names, n ∈ m.names ∨ n ∈ p.names
  dp : p.deep ≤ q.deep → x.deep ≤ m.deep
theorem put_of : ∀ (cs : List Nat) (m q p : M), atW m cs = some q → ∃ x, setW m cs p = some x ∧ Put m x q p
  | [], m, q, p, h => by
    rw [atW_nil] at h
    cases h
    exact ⟨p, setW_nil m p, fun _ h => h, fun n h => .inr h, fun h => h⟩
  | c :: cs, .wt n, q, p, h => by cases h
  | c :: cs, .rod l r a b, q, p, h => by
    have h : (if c = 108 then atW a cs else if c = 114 then atW b cs else none) = some q := h
    have e : setW (.rod l r a b) (c :: cs) p = if c = 108 then (setW a cs p).map fun x => .rod l r x b else if c = 114 then (setW b cs p).map fun x => .rod l r a x else none := rfl
    rw [e]
    by_cases h1 : c = 108
    · rw [if_pos h1] at h ⊢
      obtain ⟨x, e1, P⟩ := put_of cs a q p h
      refine ⟨.rod l r x b, by rw [e1]; rfl, fun wm wp => ?_, fun n hn => ?_, fun hd => ?_⟩
      · have wx := P.wf wm.left wp
        exact ⟨⟨wm.arms.1, wm.arms.2.1, wm.arms.2.2.1, wm.arms.2.2.2.1, wx.arms, wm.right.arms⟩, fun n hn => by
          rcases List.mem_append.mp (show n ∈ x.names ++ b.names from hn) with h | h
          · exact wx.nm n h
          · exact wm.right.nm n h⟩
      · rcases List.mem_append.mp (show n ∈ x.names ++ b.names from hn) with h | h
        · rcases P.nm n h with h | h
          · exact .inl (List.mem_append_left _ h)
          · exact .inr h
        · exact .inl (List.mem_append_right _ h)
      · have := P.dp hd
        show max x.deep b.deep + 1 ≤ max a.deep b.deep + 1
        omega
    · rw [if_neg h1] at h ⊢
      by_cases h2 : c = 114
      · rw [if_pos h2] at h ⊢
        obtain ⟨x, e1, P⟩ := put_of cs b q p h
        refine ⟨.rod l r a x, by rw [e1]; rfl, fun wm wp => ?_, fun n hn => ?_, fun hd => ?_⟩
        · have wx := P.wf wm.right wp
          exact ⟨⟨wm.arms.1, wm.arms.2.1, wm.arms.2.2.1, wm.arms.2.2.2.1, wm.left.arms, wx.arms⟩, fun n hn => by
            rcases List.mem_append.mp (show n ∈ a.names ++ x.names from hn) with h | h
            · exact wm.left.nm n h
            · exact wx.nm n h⟩
        · rcases List.mem_append.mp (show n ∈ a.names ++ x.names from hn) with h | h
          · exact .inl (List.mem_append_left _ h)
          · rcases P.nm n h with h | h
            · exact .inl (List.mem_append_right _ h)
            · exact .inr h
        · have := P.dp hd
          show max a.deep x.deep + 1 ≤ max a.deep b.deep + 1
          omega
      · rw [if_neg h2] at h
        cases h
theorem rds_arms : ∀ (m : M) (w : Str), m.arms → ∀ p ∈ rds m w, p.2.arms
  | .wt n, w, _, p, h => by simp [rds] at h
  | .rod l r a b, w, ha, p, h => by
    rcases List.mem_cons.mp (show p ∈ (w, Mob.rod l r a b) :: (rds a (w ++ "l") ++ rds b (w ++ "r")) from h) with rfl | h
    · exact ha
    rcases List.mem_append.mp h with h | h
    · exact rds_arms a _ ha.2.2.2.2.1 p h
    · exact rds_arms b _ ha.2.2.2.2.2 p h
theorem atW_len : ∀ (cs : List Nat) (m q : M), atW m cs = some q → cs.length + q.deep ≤ m.deep
  | [], m, q, h => by
    rw [atW_nil] at h
    cases h
    simp
  | c :: cs, .wt n, q, h => by cases h
  | c :: cs, .rod l r a b, q, h => by
    have h : (if c = 108 then atW a cs else if c = 114 then atW b cs else none) = some q := h
    have e : (Mob.rod l r a b : M).deep = max a.deep b.deep + 1 := rfl
    by_cases h1 : c = 108
    · rw [if_pos h1] at h
      have := atW_len cs a q h
      simp
      omega
    · rw [if_neg h1] at h
      by_cases h2 : c = 114
      · rw [if_pos h2] at h
        have := atW_len cs b q h
        simp
        omega
      · rw [if_neg h2] at h
        cases h
abbrev STr' : Ct := SV fun ds v => ∃ l r a b, ds = [enc (.rod l r a b)] ∧ v = enc (.rod r l b a)
end DP
namespace My
open PySem PySem.Spec PyProof.Rows L2 DP MA
section
variable {P : Program} {w : World} {K : PySem.W.Frag} {mg : Str → Option Value} {base : Heap}
theorem f_tr' (T : TopD K mg "turned_rod" s_turned_rod p_turned_rod) : FnX P w K mg base 1 "turned_rod" p_turned_rod (spOf mg 1 STr') := by
  refine fnD T sc_turned_rod rfl (by decide) fun N RE f cdv B outer s H E hr hR hx ds A R h hl => ?_
  have hu := hr.units
  refine ⟨_, (dss_one (ds_ret (de_tup (da_cons de_str (da_cons (de_ix hu (vr 0) de_int (fun _ _ => rfl)) (da_cons (de_ix hu (vr 0) de_int (fun _ _ => rfl)) (da_cons (de_ix hu (vr 0) de_int (fun _ _ => rfl)) (da_cons (de_ix hu (vr 0) de_int (fun _ _ => rfl)) da_nil)))))))), ?_⟩
  obtain ⟨v, ⟨l, r, a, b, rfl, rfl⟩, q⟩ := h
  exact ⟨show 5 ≤ sizeLine by decide, q _ Gr.refl⟩
theorem f_wp (T : TopD K mg "with_part" s_with_part p_with_part) : ∀ d, FnX P w K mg base d "with_part" p_with_part (spOf mg 3 (SWp d)) := by
  intro d
  induction d with
  | zero =>
    refine fnNo T fun ds A R RE h => ?_
    obtain ⟨v, ⟨m, w, p, x, _, _, h, _⟩, _⟩ := h
    omega
  | succ d F_with_part =>
    refine fnD T sc_with_part rfl (by decide) fun N RE f cdv B outer s H E hr hR hx ds A R h hl => ?_
    have hu := hr.units
    refine ⟨_, (dss_cons (ds_if (t_eq hu (vr 1) de_str) (dss_one (ds_ret (vr 2))) dss_nil)
    (dss_cons (ds_if (t_eq hu (de_ix hu (vr 1) de_int (fun _ _ => rfl)) de_str) (dss_one (ds_ret (de_tup (da_cons de_str (da_cons (de_ix hu (vr 0) de_int (fun _ _ => rfl)) (da_cons (de_ix hu (vr 0) de_int (fun _ _ => rfl)) (da_cons (de_call F_with_part (hr.mono (by omega)) hx (da_cons (de_ix hu (vr 0) de_int (fun _ _ => rfl)) (da_cons (de_sls (vr 1) (do_some de_int) do_none) (da_cons (vr 2) da_nil)))) (da_cons (de_ix hu (vr 0) de_int (fun _ _ => rfl)) da_nil)))))))) dss_nil)
    (dss_one (ds_ret (de_tup (da_cons de_str (da_cons (de_ix hu (vr 0) de_int (fun _ _ => rfl)) (da_cons (de_ix hu (vr 0) de_int (fun _ _ => rfl)) (da_cons (de_ix hu (vr 0) de_int (fun _ _ => rfl)) (da_cons (de_call F_with_part (hr.mono (by omega)) hx (da_cons (de_ix hu (vr 0) de_int (fun _ _ => rfl)) (da_cons (de_sls (vr 1) (do_some de_int) do_none) (da_cons (vr 2) da_nil)))) da_nil)))))))))), ?_⟩
    obtain ⟨v, ⟨m, w, p, x, rfl, hs, hd, h100, rfl⟩, q⟩ := h
    have hz : (1000 : Nat) ≤ sizeLine := by decide
    have hwl : w.length = w.cps.toList.length := by simp [Str.length]
    refine cD (fun c => ?_) (fun c => ?_)
    · subst c
      rw [cpsN, setW_nil] at hs
      cases hs
      exact q _ Gr.refl
    · cases hc : w.cps.toList with
      | nil => exact absurd (str_nil hc) c
      | cons k cs =>
        rw [hc] at hs hd
        cases m with
        | wt n => cases hs
        | rod l r a b =>
          have hs : (if k = 108 then (setW a cs p).map fun x => Mob.rod l r x b else if k = 114 then (setW b cs p).map fun x => Mob.rod l r a x else none) = some x := hs
          have hv : atI w.cps.toList 0 = some k := by rw [hc]; exact atI_nat (j := 0) rfl
          conv => whnf
          rw [hv]
          refine ⟨by rw [hwl, hc]; simp at hd ⊢; omega, ?_⟩
          have htl := sl_tail hc
          simp at hd
          refine cD (fun e => ?_) (fun e => ?_)
          · have e1 := isl.mp e
            rw [if_pos e1] at hs
            cases ey : setW a cs p with
            | none => rw [ey] at hs; cases hs
            | some y =>
              rw [ey] at hs
              cases hs
              refine ⟨by rw [hwl, hc]; simp; omega, rfl, _, ⟨a, _, p, y, rfl, by rw [htl]; exact ey, by rw [htl]; omega, by omega, rfl⟩, fun A1 g1 => ?_⟩
              exact ⟨show 5 ≤ sizeLine by decide, q _ g1⟩
          · have e1 : ¬ k = 108 := fun z => e (isl.mpr z)
            rw [if_neg e1] at hs
            by_cases e2 : k = 114
            · rw [if_pos e2] at hs
              cases ey : setW b cs p with
              | none => rw [ey] at hs; cases hs
              | some y =>
                rw [ey] at hs
                cases hs
                refine ⟨by rw [hwl, hc]; simp; omega, rfl, _, ⟨b, _, p, y, rfl, by rw [htl]; exact ey, by rw [htl]; omega, by omega, rfl⟩, fun A1 g1 => ?_⟩
                exact ⟨show 5 ≤ sizeLine by decide, q _ g1⟩
            · rw [if_neg e2] at hs
              cases hs
end
end My
namespace DP
open PySem PySem.Spec PyProof.Rows L2 MA
def decM : ∀ x y : M, Decidable (x = y)
  | .wt a, .wt b => if h : a = b then .isTrue (by rw [h]) else .isFalse fun z => h (by injection z)
  | .wt _, .rod _ _ _ _ => .isFalse fun z => by cases z
  | .rod _ _ _ _, .wt _ => .isFalse fun z => by cases z
  | .rod l r a b, .rod l' r' a' b' =>
    if h1 : l = l' then if h2 : r = r' then match decM a a', decM b b' with
      | .isTrue h3, .isTrue h4 => .isTrue (by rw [h1, h2, h3, h4])
      | .isFalse h3, _ => .isFalse fun z => h3 (by injection z)
      | _, .isFalse h4 => .isFalse fun z => h4 (by injection z)
    else .isFalse fun z => h2 (by injection z) else .isFalse fun z => h1 (by injection z)
instance : DecidableEq M := decM
theorem noB_enc : ∀ m : M, noB (toQ (enc m)) = true
  | .wt n => by simp [enc, toQ, toQs, noB, noBs]
  | .rod l r a b => by simp [enc, toQ, toQs, noB, noBs, noB_enc a, noB_enc b]
theorem toQ_inj : ∀ x y : M, toQ (enc x) = toQ (enc y) → x = y
  | .wt n, .wt m, h => by simp [enc, toQ, toQs] at h; rw [h]
  | .wt n, .rod _ _ _ _, h => by simp [enc, toQ, toQs] at h
  | .rod _ _ _ _, .wt n, h => by simp [enc, toQ, toQs] at h
  | .rod l r a b, .rod l' r' a' b', h => by
    simp only [enc, toQ, toQs, PyData.tuple.injEq, List.cons.injEq, PyData.int.injEq, true_and, and_true] at h
    obtain ⟨h1, h2, h3, h4⟩ := h
    rw [h1, h2, toQ_inj a a' h3, toQ_inj b b' h4]
theorem eqv_encs (x y : M) : PyData.eqv (toQ (enc x)) (toQ (enc y)) = decide (x = y) := by
  rw [Bool.eq_iff_iff, eqv_iff _ _ (noB_enc x) (noB_enc y), decide_eq_true_eq]
  exact ⟨toQ_inj x y, fun h => by rw [h]⟩
end DP
namespace DP
open PySem PySem.Spec PyProof.Rows L2 MA
theorem eq_encs {x y : M} {A : Ar} {R : DK} (hx : ∀ n ∈ x.names, Nm n) (hy : ∀ n ∈ y.names, Nm n) (hd : x.deep ≤ 60) (k : R (.bl (decide (x = y))) A) : dataEq false (enc x) (enc y) A R := by
  unfold dataEq
  rw [top_enc, top_enc, ok_enc, ok_enc, pur_enc, pur_enc]
  have := dep_enc x
  refine ⟨rfl, rfl, lay_enc x hx, lay_enc y hy, by omega, ?_⟩
  rw [eqv_encs]
  exact k
theorem ne_encs {x y : M} {A : Ar} {R : DK} (hx : ∀ n ∈ x.names, Nm n) (hy : ∀ n ∈ y.names, Nm n) (hd : x.deep ≤ 60) (k : R (.bl (!decide (x = y))) A) : dataEq true (enc x) (enc y) A R := by
  unfold dataEq
  rw [top_enc, top_enc, ok_enc, ok_enc, pur_enc, pur_enc]
  have := dep_enc x
  refine ⟨rfl, rfl, lay_enc x hx, lay_enc y hy, by omega, ?_⟩
  rw [eqv_encs]
  exact k
theorem eqD_encs {x y : M} {A : Ar} {R : DK} (hx : ∀ n ∈ x.names, Nm n) (hy : ∀ n ∈ y.names, Nm n) (hd : x.deep ≤ 60) (k : R (.bl (decide (x = y))) A) : eqD (enc x) (enc y) A R := by
  have h := eq_encs hx hy hd k
  cases x <;> cases y <;> exact h
theorem neD_encs {x y : M} {A : Ar} {R : DK} (hx : ∀ n ∈ x.names, Nm n) (hy : ∀ n ∈ y.names, Nm n) (hd : x.deep ≤ 60) (k : R (.bl (!decide (x = y))) A) : neD (enc x) (enc y) A R := by
  have h := ne_encs hx hy hd k
  cases x <;> cases y <;> exact h
theorem pln_arms : ∀ m : M, m.arms → (pln m).arms
  | .wt n, h => h
  | .rod l r a b, h => by
    obtain ⟨r1, r2, r3, r4, ha1, ha2⟩ := h
    have le := rd_le (a := l) (b := r) (by omega) (by omega)
    have po := rd_pos (a := l) (b := r) (by omega) (by omega)
    exact ⟨po.1, by omega, po.2, by omega, pln_arms a ha1, pln_arms b ha2⟩
theorem pln_wf {m : M} (h : Wf m) : Wf (pln m) := ⟨pln_arms m h.arms, by rw [pln_nm]; exact h.nm⟩
end DP
namespace My
open PySem PySem.Spec PyProof.Rows L2 DP MA
section
variable {P : Program} {w : World} {K : PySem.W.Frag} {mg : Str → Option Value} {base : Heap}
end
end My
namespace DP
open PySem PySem.Spec PyProof.Rows L2 MA
end DP
namespace My
open PySem PySem.Spec PyProof.Rows L2 DP MA
section
variable {P : Program} {w : World} {K : PySem.W.Frag} {mg : Str → Option Value} {base : Heap}
end
end My
namespace DP
open PySem PySem.Spec PyProof.Rows L2 MA
end DP
namespace My
open PySem PySem.Spec PyProof.Rows L2 DP MA
section
variable {P : Program} {w : World} {K : PySem.W.Frag} {mg : Str → Option Value} {base : Heap}
end
end My
namespace DP
open PySem PySem.Spec PyProof.Rows L2 MA
section
variable {rs : List (Str × Int)} {s : Str → Rat} {ns : List Str} {κ : Rat}
end
end DP
namespace DP
open PySem PySem.Spec PyProof.Rows L2 MA
section
variable {m : M} {ys : List Str} {gs : List (Str × Int)} {κ : Rat}
end
end DP
namespace DP
open PySem PySem.Spec PyProof.Rows L2 MA
end DP
namespace My
open PySem PySem.Spec PyProof.Rows L2 DP MA
section
variable {P : Program} {w : World} {K : PySem.W.Frag} {mg : Str → Option Value} {base : Heap}
end
end My
namespace DP
open PySem PySem.Spec PyProof.Rows L2 MA
end DP
namespace DP
open PySem PySem.Spec PyProof.Rows L2 MA
end DP
namespace DP
open PySem PySem.Spec PyProof.Rows L2 MA
end DP
namespace My
open PySem PySem.Spec PyProof.Rows L2 DP MA
section
variable {P : Program} {w : World} {K : PySem.W.Frag} {mg : Str → Option Value} {base : Heap}
end
end My
namespace DP
open PySem PySem.Spec PyProof.Rows L2 MA
end DP
namespace My
open PySem PySem.Spec PyProof.Rows L2 DP MA
section
variable {P : Program} {w : World} {K : PySem.W.Frag} {mg : Str → Option Value} {base : Heap}
end
end My
namespace DP
open PySem PySem.Spec PyProof.Rows L2 MA
end DP
namespace My
open PySem PySem.Spec PyProof.Rows L2 DP MA
section
variable {P : Program} {w : World} {K : PySem.W.Frag} {mg : Str → Option Value} {base : Heap}
end
end My
namespace DP
open PySem PySem.Spec PyProof.Rows L2 MA
end DP
namespace My
open PySem PySem.Spec PyProof.Rows L2 DP MA
section
variable {P : Program} {w : World} {K : PySem.W.Frag} {mg : Str → Option Value} {base : Heap}
end
end My
namespace DP
open PySem PySem.Spec PyProof.Rows L2 MA
theorem setW_deep : ∀ (cs : List Nat) (m p x : M), setW m cs p = some x → cs.length + p.deep ≤ x.deep ∧ x.deep ≤ max m.deep (cs.length + p.deep)
  | [], m, p, x, h => by
    rw [setW_nil] at h
    cases h
    simp
    omega
  | c :: cs, .wt n, p, x, h => by cases h
  | c :: cs, .rod l r a b, p, x, h => by
    have h : (if c = 108 then (setW a cs p).map fun x => Mob.rod l r x b else if c = 114 then (setW b cs p).map fun x => Mob.rod l r a x else none) = some x := h
    have hd : (Mob.rod l r a b : M).deep = max a.deep b.deep + 1 := rfl
    by_cases h1 : c = 108
    · rw [if_pos h1] at h
      cases e : setW a cs p with
      | none => rw [e] at h; cases h
      | some y =>
        rw [e] at h
        cases h
        have := setW_deep cs a p y e
        have hx : (Mob.rod l r y b : M).deep = max y.deep b.deep + 1 := rfl
        simp only [List.length_cons]
        omega
    · rw [if_neg h1] at h
      by_cases h2 : c = 114
      · rw [if_pos h2] at h
        cases e : setW b cs p with
        | none => rw [e] at h; cases h
        | some y =>
          rw [e] at h
          cases h
          have := setW_deep cs b p y e
          have hx : (Mob.rod l r a y : M).deep = max a.deep y.deep + 1 := rfl
          simp only [List.length_cons]
          omega
      · rw [if_neg h2] at h
        cases h
def atA (m : M) : D → Option M
  | .str w => atW m w.cps.toList
  | _ => none
def SPtB : Ct := fun ds A R _ => ∃ m z, ds = [enc m, z] ∧ okA A z = true ∧ R (od (atA m z)) A
def SRaB : Ct := fun ds A R E => ∃ m z, ds = [enc m, z] ∧ okA A z = true ∧ endR R E A (atA m z)
def isRd : Option M → Bool
  | some (.rod _ _ _ _) => true
  | _ => false
def STrB : Ct := fun ds A R E => ∃ m z, ds = [enc m, z] ∧ Wf m ∧ m.deep ≤ 5 ∧ okA A z = true ∧
  ((isRd (atA m z) = false ∧ ∀ A', Gr A A' → E "NoWay" A') ∨
  (∃ w l r a b x, z = .str w ∧ atW m w.cps.toList = some (.rod l r a b) ∧ setW m w.cps.toList (.rod r l b a) = some x ∧ ∀ A', Gr A A' → R (enc x) A'))
def SLgB : Ct := fun ds A R E => ∃ m z y, ds = [enc m, z, y] ∧ Wf m ∧ m.deep ≤ 5 ∧ okA A z = true ∧ okA A y = true ∧
  ((isRd (atA m z) = false ∧ ∀ A', Gr A A' → E "NoWay" A') ∨
  (isRd (atA m z) = true ∧ isNu y 1 9 = false ∧ ∀ A', Gr A A' → E "NoNumber" A') ∨
  (∃ w l r a b k x, z = .str w ∧ atW m w.cps.toList = some (.rod l r a b) ∧ y = .int k ∧ 1 ≤ k ∧ k ≤ 9 ∧ 1 ≤ l ∧ l ≤ 9 ∧ 1 ≤ r ∧ r ≤ 9 ∧ setW m w.cps.toList (.rod (l * k) (r * k) a b) = some x ∧ ∀ A', Gr A A' → if max (l * k) (r * k) ≤ 9 then R (enc x) A' else E "TooLong" A'))
def SPuB : Ct := fun ds A R E => ∃ m z y, ds = [enc m, z, y] ∧ Wf m ∧ m.deep ≤ 5 ∧ okA A z = true ∧ okA A y = true ∧
  ((atA m z = none ∧ ∀ A', Gr A A' → E "NoWay" A') ∨
  ((atA m z).isSome = true ∧ isMob 5 y = false ∧ ∀ A', Gr A A' → E "NoMobile" A') ∨
  (∃ w p q x, z = .str w ∧ atW m w.cps.toList = some q ∧ y = enc p ∧ Wf p ∧ p.deep ≤ 5 ∧ setW m w.cps.toList p = some x ∧ ∀ A', Gr A A' → if w.cps.toList.length + p.deep ≤ 5 then R (enc x) A' else E "TooDeep" A'))
end DP
namespace My
open PySem PySem.Spec PyProof.Rows L2 DP MA
section
variable {P : Program} {w : World} {K : PySem.W.Frag} {mg : Str → Option Value} {base : Heap}
theorem fB_part (T : TopD K mg "part_at" s_part_at p_part_at) (b_isinstance : mg "isinstance" = none) (b_str : mg "str" = none) : FnX P w K mg base 1 "part_at" p_part_at (spOf mg 2 SPtB) := by
  refine fnD T sc_part_at rfl (by decide) fun N RE f cdv B outer s H E hr hR hx ds A R h hl => ?_
  have hu := hr.units
  have nd := sc_part_at.nd
  refine ⟨_, (dss_cons (ds_if (dt_not (dt_val (de_is kit_str b_isinstance b_str boot_str (vr 1)))) (dss_one (ds_ret de_non)) dss_nil)
    (dss_cons (ds_set (i := 2) nd rfl (by first | exact Or.inl rfl | exact Or.inr rfl) (vr 0))
    (dss_cons (ds_for ownX rfl (di_str (vr 1)) (dg_name (i := 3) nd rfl (by first | exact Or.inl rfl | exact Or.inr rfl)) (dss_cons (ds_if (PW.pt (dw_or (t_eq hu (de_ix hu (vr 2) de_int (fun _ _ => rfl)) de_str) (dw_or1 (t_nin hu (vr 3) (de_tup (da_cons de_str (da_cons de_str da_nil))))))) (dss_one (ds_ret de_non)) dss_nil)
    (dss_one (ds_set (i := 2) nd rfl (by first | exact Or.inl rfl | exact Or.inr rfl) (de_ite (t_eq hu (vr 3) de_str) (de_ix hu (vr 2) de_int (fun _ _ => rfl)) (de_ix hu (vr 2) de_int (fun _ _ => rfl)))))))
    (dss_one (ds_ret (vr 2)))))), ?_⟩
  obtain ⟨m, z, rfl, hk, q0⟩ := h
  cases z with
  | str w =>
    have q : R (od (atW m w.cps.toList)) A := q0
    refine dloop_I (fun rest τ A' => ∃ (cs : List Nat) (p : M) (z : Option D), rest = cs.map (fun c => D.str ⟨#[c]⟩) ∧ τ = [some (enc m), some (.str w), some (enc p), z] ∧ atW p cs = atW m w.cps.toList ∧ A' = A) ?_ ?_ ?_ _ _ _ ⟨w.cps.toList, m, none, rfl, rfl, rfl, rfl⟩
    · intro _ _ _ _
      trivial
    · rintro x rest τ A' ⟨cs, p, z, e, rfl, hw, rfl⟩ Nx hN
      cases cs with
      | nil => cases e
      | cons c cs =>
        cases e
        cases p with
        | wt n =>
          rw [← hw] at q
          exact q
        | rod l r a b =>
          refine ⟨show 2 ≤ sizeLine by decide, rfl, rfl, ?_⟩
          have hw : (if c = 108 then atW a cs else if c = 114 then atW b cs else none) = atW m w.cps.toList := hw
          have ei : inF (.str ⟨#[c]⟩) [.str "l", .str "r"] = (decide (c = 108) || decide (c = 114)) := by
            show (decide (("l" : Str) = ⟨#[c]⟩) || (decide (("r" : Str) = ⟨#[c]⟩) || false)) = _
            rw [eL, eR, Bool.or_false]
            congr 1
            · simp [eq_comm]
            · simp [eq_comm]
          show cond (!inF (.str ⟨#[c]⟩) [.str "l", .str "r"]) _ _
          rw [ei]
          by_cases h1 : c = 108
          · rw [if_pos h1] at hw
            rw [decide_eq_true h1, Bool.true_or]
            refine cD (fun _ => ?_) (fun k => absurd (isl.mpr h1) k)
            exact hN _ _ ⟨cs, a, _, rfl, rfl, hw, rfl⟩
          · rw [if_neg h1] at hw
            by_cases h2 : c = 114
            · rw [if_pos h2] at hw
              rw [decide_eq_true h2, Bool.or_true]
              refine cD (fun k => absurd (isl.mp k) h1) (fun _ => ?_)
              exact hN _ _ ⟨cs, b, _, rfl, rfl, hw, rfl⟩
            · rw [if_neg h2] at hw
              rw [decide_eq_false h1, decide_eq_false h2]
              rw [← hw] at q
              exact q
    · rintro τ A' ⟨cs, p, z, e, rfl, hw, rfl⟩
      cases cs with
      | cons c cs => cases e
      | nil =>
        rw [atW_nil] at hw
        rw [← hw] at q
        exact q
  | exc c => cases hk
  | ref r =>
    have q0 : R .non A := q0
    rcases okA_ref hk with e | e
    all_goals
      conv => whnf
      rw [e]
      exact q0
  | _ => exact q0
theorem fB_rod (T : TopD K mg "rod_at" s_rod_at p_rod_at) {a_NoWay : Addr} (m_NoWay : mg "NoWay" = some (.ref a_NoWay)) (x_NoWay : PySem.W.excIn K a_NoWay vErr "ValueError.__new__" = true) (F_part_at : FnX P w K mg base 1 "part_at" p_part_at (spOf mg 2 SPtB)) : FnX P w K mg base 2 "rod_at" p_rod_at (spOf mg 2 SRaB) := by
  refine fnD T sc_rod_at rfl (by decide) fun N RE f cdv B outer s H E hr hR hx ds A R h hl => ?_
  have hu := hr.units
  have nd := sc_rod_at.nd
  refine ⟨_, (dss_cons (ds_set (i := 2) nd rfl (by first | exact Or.inl rfl | exact Or.inr rfl) (de_call F_part_at (hr.mono (by omega)) hx (da_cons (vr 0) (da_cons (vr 1) da_nil))))
    (dss_cons (ds_if (PW.pt (dw_or (t_is (vr 2) de_non) (dw_or1 (t_eq hu (de_ix hu (vr 2) de_int (fun _ _ => rfl)) de_str)))) (dss_one (ds_raise hR rfl m_NoWay x_NoWay (da_cons de_str da_nil))) dss_nil)
    (dss_one (ds_ret (vr 2))))), ?_⟩
  obtain ⟨m, z, rfl, hk, q⟩ := h
  refine ⟨rfl, m, z, rfl, hk, ?_⟩
  cases e : atA m z with
  | none =>
    rw [e] at q
    exact ⟨by decide, q⟩
  | some p =>
    rw [e] at q
    cases p with
    | wt n => exact ⟨by decide, q⟩
    | rod l r a b => exact q
theorem fB_turned (T : TopD K mg "turned" s_turned p_turned) (F_check_mobile : FnX P w K mg base 9 "check_mobile" p_check_mobile (spOf mg 1 SChk)) (F_rod_at : FnX P w K mg base 2 "rod_at" p_rod_at (spOf mg 2 SRaB)) (F_turned_rod : FnX P w K mg base 1 "turned_rod" p_turned_rod (spOf mg 1 STr')) (F_with_part : FnX P w K mg base 6 "with_part" p_with_part (spOf mg 3 (SWp 6))) : FnX P w K mg base 10 "turned" p_turned (spOf mg 2 STrB) := by
  refine fnD T sc_turned rfl (by decide) fun N RE f cdv B outer s H E hr hR hx ds A R h hl => ?_
  refine ⟨_, (dss_cons (ds_expr (de_call F_check_mobile (hr.mono (by omega)) hx (da_cons (vr 0) da_nil)))
    (dss_one (ds_ret (de_call F_with_part (hr.mono (by omega)) hx (da_cons (vr 0) (da_cons (vr 1) (da_cons (de_call F_turned_rod (hr.mono (by omega)) hx (da_cons (de_call F_rod_at (hr.mono (by omega)) hx (da_cons (vr 0) (da_cons (vr 1) da_nil))) da_nil)) da_nil))))))), ?_⟩
  obtain ⟨m, z, rfl, hw, hd, hk, h⟩ := h
  refine ⟨rfl, _, ⟨_, rfl, hw, hd, rfl⟩, fun A1 g1 => ?_⟩
  refine ⟨rfl, m, z, rfl, okA_gr g1 _ hk, ?_⟩
  rcases h with ⟨hn, q⟩ | ⟨w, l, r, a, b, x, rfl, hat, hset, q⟩
  · cases e : atA m z with
    | none => exact q _ g1
    | some p =>
      rw [e] at hn
      cases p with
      | wt n => exact q _ g1
      | rod l r a b => cases hn
  · have hlen := atW_len _ _ _ hat
    have e : atA m (.str w) = some (.rod l r a b) := hat
    rw [e]
    refine ⟨rfl, _, ⟨l, r, a, b, rfl, rfl⟩, fun A2 g2 => ?_⟩
    exact ⟨rfl, _, ⟨m, w, _, x, rfl, hset, by omega, by omega, rfl⟩, fun A3 g3 => q _ ((g1.trans g2).trans g3)⟩
theorem fB_longer (T : TopD K mg "longer" s_longer p_longer) (b_max : mg "max" = none) {t : Tok} (m_LONGEST_ARM : mg "LONGEST_ARM" = some (.int 9 t)) {a_NoNumber a_TooLong : Addr} (m_NoNumber : mg "NoNumber" = some (.ref a_NoNumber)) (x_NoNumber : PySem.W.excIn K a_NoNumber vErr "ValueError.__new__" = true) (m_TooLong : mg "TooLong" = some (.ref a_TooLong)) (x_TooLong : PySem.W.excIn K a_TooLong vErr "ValueError.__new__" = true) (F_check_mobile : FnX P w K mg base 9 "check_mobile" p_check_mobile (spOf mg 1 SChk)) (F_rod_at : FnX P w K mg base 2 "rod_at" p_rod_at (spOf mg 2 SRaB)) (F_is_number : FnX P w K mg base 1 "is_number" p_is_number (spOf mg 3 SNumA)) (F_with_part : FnX P w K mg base 6 "with_part" p_with_part (spOf mg 3 (SWp 6))) : FnX P w K mg base 10 "longer" p_longer (spOf mg 3 SLgB) := by
  refine fnD T sc_longer rfl (by decide) fun N RE f cdv B outer s H E hr hR hx ds A R h hl => ?_
  have hu := hr.units
  have nd := sc_longer.nd
  refine ⟨_, (dss_cons (ds_expr (de_call F_check_mobile (hr.mono (by omega)) hx (da_cons (vr 0) da_nil)))
    (dss_cons (ds_set (i := 3) nd rfl (by first | exact Or.inl rfl | exact Or.inr rfl) (de_call F_rod_at (hr.mono (by omega)) hx (da_cons (vr 0) (da_cons (vr 1) da_nil))))
    (dss_cons (ds_if (dt_not (dt_val (de_call F_is_number (hr.mono (by omega)) hx (da_cons (vr 2) (da_cons de_int (da_cons (de_num m_LONGEST_ARM) da_nil)))))) (dss_one (ds_raise hR rfl m_NoNumber x_NoNumber (da_cons de_str da_nil))) dss_nil)
    (dss_cons (ds_set (i := 4) nd rfl (by first | exact Or.inl rfl | exact Or.inr rfl) (de_mul (de_ix hu (vr 3) de_int (fun _ _ => rfl)) (vr 2)))
    (dss_cons (ds_set (i := 5) nd rfl (by first | exact Or.inl rfl | exact Or.inr rfl) (de_mul (de_ix hu (vr 3) de_int (fun _ _ => rfl)) (vr 2)))
    (dss_cons (ds_if (t_gt (de_cb (call_max2 rfl) d_max b_max boot_max (da_cons (vr 4) (da_cons (vr 5) da_nil))) (de_num m_LONGEST_ARM)) (dss_one (ds_raise hR rfl m_TooLong x_TooLong (da_cons de_str da_nil))) dss_nil)
    (dss_one (ds_ret (de_call F_with_part (hr.mono (by omega)) hx (da_cons (vr 0) (da_cons (vr 1) (da_cons (de_tup (da_cons de_str (da_cons (vr 4) (da_cons (vr 5) (da_cons (de_ix hu (vr 3) de_int (fun _ _ => rfl)) (da_cons (de_ix hu (vr 3) de_int (fun _ _ => rfl)) da_nil)))))) da_nil)))))))))))), ?_⟩
  obtain ⟨m, z, y, rfl, hw, hd, hk, hky, h⟩ := h
  refine ⟨rfl, _, ⟨_, rfl, hw, hd, rfl⟩, fun A1 g1 => ?_⟩
  refine ⟨rfl, m, z, rfl, okA_gr g1 _ hk, ?_⟩
  rcases h with ⟨hn, q⟩ | ⟨hn, hi, q⟩ | ⟨w, l, r, a, b, k, x, rfl, hat, rfl, k1, k9, l1, l9, r1, r9, hset, q⟩
  · cases e : atA m z with
    | none => exact q _ g1
    | some p =>
      rw [e] at hn
      cases p with
      | wt n => exact q _ g1
      | rod l r a b => cases hn
  · cases e : atA m z with
    | none => rw [e] at hn; cases hn
    | some p =>
      rw [e] at hn
      cases p with
      | wt n => cases hn
      | rod l r a b =>
        refine ⟨rfl, y, 1, 9, rfl, okA_gr g1 _ hky, fun A2 g2 => ?_⟩
        rw [hi]
        exact ⟨by decide, q _ (g1.trans g2)⟩
  · have hlen := atW_len _ _ _ hat
    have b64 : (9 : Int) < 2 ^ 64 := by decide
    have e : atA m (.str w) = some (.rod l r a b) := hat
    rw [e]
    refine ⟨rfl, _, 1, 9, rfl, hky, fun A2 g2 => ?_⟩
    rw [show isNu (.int k) 1 9 = true by simp [isNu, k1, k9]]
    refine ⟨.inl ⟨by omega, by omega⟩, .inl ⟨by omega, by omega⟩, ?_⟩
    have em : (if r * k > l * k then r * k else l * k) = max (l * k) (r * k) := by split <;> omega
    have q2 := q A2 (g1.trans g2)
    refine cD (fun c => ?_) (fun c => ?_)
    · have c : 9 < (if r * k > l * k then r * k else l * k) := c
      rw [em] at c
      rw [if_neg (by omega)] at q2
      exact ⟨by decide, q2⟩
    · have c : ¬ 9 < (if r * k > l * k then r * k else l * k) := c
      rw [em] at c
      refine ⟨show 5 ≤ sizeLine by decide, rfl, _, ⟨m, w, .rod (l * k) (r * k) a b, x, rfl, hset, by omega, by omega, rfl⟩, fun A3 g3 => ?_⟩
      have q3 := q A3 ((g1.trans g2).trans g3)
      rw [if_pos (by omega)] at q3
      exact q3
theorem fB_put (T : TopD K mg "put" s_put p_put) (b_len : mg "len" = none) {t : Tok} (m_MOST_RODS : mg "MOST_RODS" = some (.int 5 t)) {a_NoWay a_TooDeep : Addr} (m_NoWay : mg "NoWay" = some (.ref a_NoWay)) (x_NoWay : PySem.W.excIn K a_NoWay vErr "ValueError.__new__" = true) (m_TooDeep : mg "TooDeep" = some (.ref a_TooDeep)) (x_TooDeep : PySem.W.excIn K a_TooDeep vErr "ValueError.__new__" = true) (F_check_mobile : FnX P w K mg base 9 "check_mobile" p_check_mobile (spOf mg 1 SChkA)) (F_part_at : FnX P w K mg base 1 "part_at" p_part_at (spOf mg 2 SPtB)) (F_rods_within : FnX P w K mg base 8 "rods_within" p_rods_within (spOf mg 1 (SRw 7))) (F_with_part : FnX P w K mg base 6 "with_part" p_with_part (spOf mg 3 (SWp 6))) : FnX P w K mg base 10 "put" p_put (spOf mg 3 SPuB) := by
  refine fnD T sc_put rfl (by decide) fun N RE f cdv B outer s H E hr hR hx ds A R h hl => ?_
  have hu := hr.units
  have nd := sc_put.nd
  refine ⟨_, (dss_cons (ds_expr (de_call F_check_mobile (hr.mono (by omega)) hx (da_cons (vr 0) da_nil)))
    (dss_cons (ds_if (t_is (de_call F_part_at (hr.mono (by omega)) hx (da_cons (vr 0) (da_cons (vr 1) da_nil))) de_non) (dss_one (ds_raise hR rfl m_NoWay x_NoWay (da_cons de_str da_nil))) dss_nil)
    (dss_cons (ds_expr (de_call F_check_mobile (hr.mono (by omega)) hx (da_cons (vr 2) da_nil)))
    (dss_cons (ds_if (t_gt (de_add (de_cb c_len d_len b_len PySem.boot_len (da_cons (vr 1) da_nil)) (de_call F_rods_within (hr.mono (by omega)) hx (da_cons (vr 2) da_nil))) (de_num m_MOST_RODS)) (dss_one (ds_raise hR rfl m_TooDeep x_TooDeep (da_cons de_str da_nil))) dss_nil)
    (dss_one (ds_ret (de_call F_with_part (hr.mono (by omega)) hx (da_cons (vr 0) (da_cons (vr 1) (da_cons (vr 2) da_nil)))))))))), ?_⟩
  obtain ⟨m, z, y, rfl, hw, hd, hk, hky, h⟩ := h
  refine ⟨rfl, _, rfl, okA_enc hw.nm, fun A1 g1 => ?_⟩
  rw [if_pos (isMob_enc hw hd)]
  refine ⟨rfl, m, z, rfl, okA_gr g1 _ hk, ?_⟩
  rcases h with ⟨hn, q⟩ | ⟨hn, hi, q⟩ | ⟨w, p, p0, x, rfl, hat, rfl, wp, dp, hset, q⟩
  · rw [hn]
    exact ⟨by decide, q _ g1⟩
  · cases e : atA m z with
    | none => rw [e] at hn; cases hn
    | some p =>
      cases p with
      | wt n =>
        refine ⟨rfl, _, rfl, okA_gr g1 _ hky, fun A2 g2 => ?_⟩
        rw [if_neg (by rw [hi]; decide)]
        exact q _ (g1.trans g2)
      | rod l r a b =>
        refine ⟨rfl, _, rfl, okA_gr g1 _ hky, fun A2 g2 => ?_⟩
        rw [if_neg (by rw [hi]; decide)]
        exact q _ (g1.trans g2)
  · have hlen := atW_len _ _ _ hat
    have e : atA m (.str w) = some p0 := hat
    have hwl : w.length = w.cps.toList.length := by simp [Str.length]
    have hz : (1000 : Nat) ≤ sizeLine := by decide
    rw [e]
    cases p0
    all_goals
      refine ⟨rfl, _, rfl, okA_enc wp.nm, fun A2 g2 => ?_⟩
      rw [if_pos (isMob_enc wp dp)]
      refine ⟨by omega, rfl, _, ⟨p, rfl, by omega, rfl⟩, fun A3 g3 => ?_⟩
      have g := (g1.trans g2).trans g3
      refine cD (fun c => ?_) (fun c => ?_)
      · have c : (5 : Int) < ((w.length : Nat) : Int) + ((p.deep : Nat) : Int) := c
        have q2 := q _ g
        rw [if_neg (by omega)] at q2
        exact ⟨by decide, q2⟩
      · have c : ¬ (5 : Int) < ((w.length : Nat) : Int) + ((p.deep : Nat) : Int) := c
        refine ⟨rfl, _, ⟨m, w, p, x, rfl, hset, by omega, by omega, rfl⟩, fun A4 g4 => ?_⟩
        have q2 := q _ (g.trans g4)
        rw [if_pos (by omega)] at q2
        exact q2
end
end My
namespace DP
open PySem PySem.Spec PyProof.Rows L2 MA
theorem dv_ok {i : Nat} {τ : DSt} {A : Ar} {R : DK} {v : D} (h : lk τ i = some v) (q : R v A) : dVar i τ A R := by
  unfold dVar
  rw [h]
  exact q
def rfd (j : Nat) : D := .tup [.str "refused", .int j]
theorem lay_rfd (j : Nat) : (toQ (rfd j)).canLay0 = true := by
  show PyData.canLay0 (.tuple [.str "refused", .int j]) = true
  simp only [PyData.canLay0, PyData.canLayAll0, Bool.and_true]
  decide +kernel
theorem q_rfd {neg : Bool} {j : Nat} {A : Ar} {R : DK} (k : R (.bl (!neg)) A) : dataEq neg (rfd j) (.tup [.str "refused", .int j]) A R := by
  unfold dataEq
  have c := lay_rfd j
  have h1 : toP A (rfd j) = toQ (rfd j) := rfl
  have h2 : toP A (.tup [.str "refused", .int j]) = toQ (rfd j) := rfl
  rw [h1, h2]
  refine ⟨rfl, rfl, c, c, ?_, ?_⟩
  · show min (PyData.depth (.tuple [.str "refused", .int j])) (PyData.depth (.tuple [.str "refused", .int j])) ≤ 64
    simp [PyData.depth, PyData.depthAll]
  · rw [PySem.SeqAt.eqv_refl _ c]
    cases neg <;> exact k
end DP
namespace DP
open PySem PySem.Spec PyProof.Rows L2 MA
def bF (r1 r2 : Nat) : List (Str × D) := [("stages", .ref r1), ("taken_back", .ref r2)]
theorem ne_st : ¬ (("taken_back" : Str) = "stages") := by decide +kernel
theorem look_s {r1 r2 : Nat} : (bF r1 r2).lookup ("stages" : Str) = some (.ref r1) := by
  unfold bF
  rw [List.lookup]
  simp
theorem look_t {r1 r2 : Nat} : (bF r1 r2).lookup ("taken_back" : Str) = some (.ref r2) := by
  unfold bF
  rw [List.lookup, show (("taken_back" : Str) == "stages") = false from beq_eq_false_iff_ne.mpr ne_st]
  simp [List.lookup]
theorem look_no {r1 r2 : Nat} {m : Str} (h1 : ¬ m = "stages") (h2 : ¬ m = "taken_back") : (bF r1 r2).lookup m = none := by
  unfold bF
  rw [List.lookup, show (m == ("stages" : Str)) = false from beq_eq_false_iff_ne.mpr h1]
  simp only
  rw [List.lookup, show (m == ("taken_back" : Str)) = false from beq_eq_false_iff_ne.mpr h2]
  rfl
theorem putB_t {r1 r2 r : Nat} : putFD "taken_back" (.ref r) (bF r1 r2) = bF r1 r := by
  show (if ("stages" : Str) = "taken_back" then _ else (("stages" : Str), D.ref r1) :: (if ("taken_back" : Str) = "taken_back" then _ else _)) = _
  rw [if_neg (fun z => ne_st z.symm), if_pos rfl]
  rfl
theorem putB_new {r1 r2 : Nat} : putFD "taken_back" (.ref r2) (putFD "stages" (.ref r1) []) = bF r1 r2 := by
  show (if ("stages" : Str) = "taken_back" then _ else (("stages" : Str), D.ref r1) :: putFD "taken_back" (.ref r2) []) = _
  rw [if_neg (fun z => ne_st z.symm)]
  rfl
structure Bn (A : Ar) (b r1 r2 : Nat) (ss tb : List M) : Prop where
  ob : A[b]? = some (.ins "Bench" (bF r1 r2))
  st : A[r1]? = some (.lst (ss.map enc))
  tk : A[r2]? = some (.lst (tb.map enc))
  ne : r1 ≠ r2
theorem Bn.b1 {A : Ar} {b r1 r2 : Nat} {ss tb : List M} (h : Bn A b r1 r2 ss tb) : b ≠ r1 := fun e => by
  have h1 := h.ob
  rw [e, h.st] at h1
  cases h1
theorem Bn.b2 {A : Ar} {b r1 r2 : Nat} {ss tb : List M} (h : Bn A b r1 r2 ss tb) : b ≠ r2 := fun e => by
  have h1 := h.ob
  rw [e, h.tk] at h1
  cases h1
def Bt (S : List Nat) (A A' : Ar) : Prop := A.length ≤ A'.length ∧ ∀ q c, q ∉ S → A[q]? = some c → A'[q]? = some c
theorem Gr.bt {A A' : Ar} {S : List Nat} (g : Gr A A') : Bt S A A' := ⟨g.len, fun q c _ h => g.get h⟩
theorem Bt.trans {A A1 A2 : Ar} {S : List Nat} (a : Bt S A A1) (b : Bt S A1 A2) : Bt S A A2 := ⟨Nat.le_trans a.1 b.1, fun q c h e => b.2 q c h (a.2 q c h e)⟩
theorem Bt.set {A : Ar} {S : List Nat} {r : Nat} {c : C} (h : r ∈ S) : Bt S A (A.set r c) := ⟨by simp, fun q d hq e => by
  rw [List.getElem?_set_ne (fun z : r = q => hq (by rw [← z]; exact h))]
  exact e⟩
theorem Bn.bt {A A' : Ar} {b r1 r2 : Nat} {ss tb : List M} {S : List Nat} (h : Bn A b r1 r2 ss tb) (t : Bt S A A') (h1 : b ∉ S) (h2 : r1 ∉ S) (h3 : r2 ∉ S) : Bn A' b r1 r2 ss tb := ⟨t.2 _ _ h1 h.ob, t.2 _ _ h2 h.st, t.2 _ _ h3 h.tk, h.ne⟩
theorem Bn.gr {A A' : Ar} {b r1 r2 : Nat} {ss tb : List M} (h : Bn A b r1 r2 ss tb) (g : Gr A A') : Bn A' b r1 r2 ss tb := ⟨g.get h.ob, g.get h.st, g.get h.tk, h.ne⟩
def Nx (A : Ar) (b r1 : Nat) (ss : List M) (x : M) (R : DK) : Prop := ∀ A' r2', Bn A' b r1 r2' (ss ++ [x]) [] → A.length ≤ r2' → Bt [b, r1] A A' → R .non A'
def SIni : Ct := fun ds A R E => ∃ b x, ds = [.ref b, x] ∧ A[b]? = some (.ins "Bench" []) ∧ okA A x = true ∧
  ((isMob 5 x = false ∧ ∀ A', Gr A A' → E "NoMobile" A') ∨ (∃ m, x = enc m ∧ Wf m ∧ m.deep ≤ 5 ∧ ∀ A' r1 r2, Bn A' b r1 r2 [m] [] → A.length ≤ r1 → A.length ≤ r2 → Bt [b] A A' → R .non A'))
def SNow : Ct := fun ds A R _ => ∃ b r1 r2 ss tb m, ds = [.ref b] ∧ Bn A b r1 r2 (ss ++ [m]) tb ∧ R (enc m) A
def SChg : Ct := fun ds A R _ => ∃ b r1 r2 ss tb m, ds = [.ref b, enc m] ∧ Bn A b r1 r2 ss tb ∧ ss.length < 100000 ∧ Nx A b r1 ss m R
def STun : Ct := fun ds A R E => ∃ b r1 r2 ss tb m z, ds = [.ref b, z] ∧ Bn A b r1 r2 (ss ++ [m]) tb ∧ ss.length < 1000 ∧ Wf m ∧ m.deep ≤ 5 ∧ okA A z = true ∧
  ((isRd (atA m z) = false ∧ ∀ A', Gr A A' → E "NoWay" A') ∨
  (∃ w l r a b' x, z = .str w ∧ atW m w.cps.toList = some (.rod l r a b') ∧ setW m w.cps.toList (.rod r l b' a) = some x ∧ Nx A b r1 (ss ++ [m]) x R))
def SStr : Ct := fun ds A R E => ∃ b r1 r2 ss tb m z y, ds = [.ref b, z, y] ∧ Bn A b r1 r2 (ss ++ [m]) tb ∧ ss.length < 1000 ∧ Wf m ∧ m.deep ≤ 5 ∧ okA A z = true ∧ okA A y = true ∧
  ((isRd (atA m z) = false ∧ ∀ A', Gr A A' → E "NoWay" A') ∨
  (isRd (atA m z) = true ∧ isNu y 1 9 = false ∧ ∀ A', Gr A A' → E "NoNumber" A') ∨
  (∃ w l r a b' k x, z = .str w ∧ atW m w.cps.toList = some (.rod l r a b') ∧ y = .int k ∧ 1 ≤ k ∧ k ≤ 9 ∧ 1 ≤ l ∧ l ≤ 9 ∧ 1 ≤ r ∧ r ≤ 9 ∧ setW m w.cps.toList (.rod (l * k) (r * k) a b') = some x ∧ (if max (l * k) (r * k) ≤ 9 then Nx A b r1 (ss ++ [m]) x R else ∀ A', Gr A A' → E "TooLong" A')))
def SHng : Ct := fun ds A R E => ∃ b r1 r2 ss tb m z y, ds = [.ref b, z, y] ∧ Bn A b r1 r2 (ss ++ [m]) tb ∧ ss.length < 1000 ∧ Wf m ∧ m.deep ≤ 5 ∧ okA A z = true ∧ okA A y = true ∧
  ((atA m z = none ∧ ∀ A', Gr A A' → E "NoWay" A') ∨
  ((atA m z).isSome = true ∧ isMob 5 y = false ∧ ∀ A', Gr A A' → E "NoMobile" A') ∨
  (∃ w p q x, z = .str w ∧ atW m w.cps.toList = some q ∧ y = enc p ∧ Wf p ∧ p.deep ≤ 5 ∧ setW m w.cps.toList p = some x ∧ (if w.cps.toList.length + p.deep ≤ 5 then Nx A b r1 (ss ++ [m]) x R else ∀ A', Gr A A' → E "TooDeep" A')))
def SSho : Ct := fun ds A R _ => ∃ b r1 r2 ss tb m, ds = [.ref b] ∧ Bn A b r1 r2 (ss ++ [m]) tb ∧ ss.length < 1000 ∧ Wf m ∧ m.deep ≤ 5 ∧ Nx A b r1 (ss ++ [m]) (pln m) R
def SDds : Ct := fun ds A R _ => ∃ b r1 r2 ss tb, ds = [.ref b] ∧ Bn A b r1 r2 ss tb ∧ ss.length ≤ 2000 ∧ R (.int ((ss.length : Int) - 1)) A
def SUnd : Ct := fun ds A R E => ∃ b r1 r2 ss tb m, ds = [.ref b] ∧ Bn A b r1 r2 (ss ++ [m]) tb ∧ ss.length ≤ 1000 ∧ tb.length ≤ 1000 ∧
  ((ss = [] ∧ E "Nothing" A) ∨ (ss ≠ [] ∧ ∀ A', Bn A' b r1 r2 ss (tb ++ [m]) → Bt [r1, r2] A A' → R .non A'))
def SAgn : Ct := fun ds A R E => ∃ b r1 r2 ss tb, ds = [.ref b] ∧ Bn A b r1 r2 ss tb ∧ ss.length ≤ 1000 ∧ tb.length ≤ 1000 ∧ (∀ m ∈ tb, Wf m) ∧
  ((tb = [] ∧ ∀ A', Gr A A' → E "Nothing" A') ∨ (∃ t m, tb = t ++ [m] ∧ ∀ A', Bn A' b r1 r2 (ss ++ [m]) t → Bt [r1, r2] A A' → R .non A'))
theorem encs_data : ∀ l : List M, (∀ m ∈ l, Wf m) → purs (l.map enc) = true ∧ PyData.canLayAll0 (toQs (l.map enc)) = true
  | [], _ => ⟨rfl, rfl⟩
  | m :: l, h => by
    obtain ⟨h1, h2⟩ := encs_data l fun x hx => h x (List.mem_cons_of_mem _ hx)
    have e1 := pur_enc m
    have e2 := lay_enc m (h m (List.mem_cons_self ..)).nm
    refine ⟨?_, ?_⟩
    · show (pur (enc m) && purs (l.map enc)) = true
      rw [e1, h1]
      rfl
    · show (PyData.canLay0 (toQ (enc m)) && PyData.canLayAll0 (toQs (l.map enc))) = true
      rw [e2, h2]
      rfl
theorem last_ix {ss : List M} {m : M} : atI ((ss ++ [m]).map enc) (-1) = some (enc m) := by
  unfold atI ixN
  rw [if_neg (by decide), if_pos (by simp; omega)]
  have e : ((-1 : Int) + (((ss ++ [m]).map enc).length : Nat)).toNat = ss.length := by simp; omega
  show ((ss ++ [m]).map enc)[_]? = _
  rw [e]
  simp
end DP
namespace My
open PySem PySem.Spec PyProof.Rows L2 DP MA
section
variable {P : Program} {w : World} {K : PySem.W.Frag} {mg : Str → Option Value} {base : Heap} {a_Bench : Addr}
theorem m_init (T : IniD K mg "Bench" "Bench.__init__" s_Bench___init__ p_Bench___init__) (m_Bench : mg "Bench" = some (.ref a_Bench)) (c_Bench : Cls K a_Bench) (n_stages : NoAttr K a_Bench "stages") (n_taken_back : NoAttr K a_Bench "taken_back") (F_check_mobile : FnX P w K mg base 9 "check_mobile" p_check_mobile (spOf mg 1 SChkA)) : FnI P w K mg base 10 "Bench" p_Bench___init__ (spOf mg 2 SIni) := by
  refine fnI T sc_Bench___init__ rfl (by decide) fun N RE f cdv B outer s H E hr hR hx ds A R h hl => ?_
  refine ⟨_, (dss_cons (ds_expr (de_call F_check_mobile (hr.mono (by omega)) hx (da_cons (vr 1) da_nil)))
    (dss_cons (ds_fld m_Bench c_Bench n_stages (vr 0) (de_lst (da_cons (vr 1) da_nil)))
    (dss_one (ds_fld m_Bench c_Bench n_taken_back (vr 0) (de_lst da_nil))))), ?_⟩
  obtain ⟨b, x, rfl, hb, hk, h⟩ := h
  refine ⟨rfl, x, rfl, hk, fun A1 g1 => ?_⟩
  rcases h with ⟨hm, q⟩ | ⟨m, rfl, wm, dm, q⟩
  · rw [if_neg (by rw [hm]; decide)]
    exact q _ g1
  · rw [if_pos (isMob_enc wm dm)]
    have hb1 := g1.get hb
    have lb := lt_of_get hb1
    refine ⟨show 1 ≤ sizeLine by decide, sf_ok (getElem?_push hb1) (Nat.le_of_ble_eq_true rfl) ?_⟩
    have lb2 : b < (A1 ++ [C.lst [enc m]]).length := by rw [List.length_append]; omega
    refine ⟨Nat.zero_le _, sf_ok (fs := putFD "stages" (.ref A1.length) []) (getElem?_push (List.getElem?_set_self lb2)) (Nat.le_of_ble_eq_true rfl) ?_⟩
    have e3 : ((A1 ++ [C.lst [enc m]]).set b (.ins "Bench" (putFD "stages" (.ref A1.length) []))).length = A1.length + 1 := by simp
    rw [e3, putB_new]
    refine q _ A1.length (A1.length + 1) ⟨?_, ?_, ?_, by omega⟩ g1.len (Nat.le_trans g1.len (by omega)) ?_
    · exact List.getElem?_set_self (by rw [List.length_append, e3]; omega)
    · rw [List.getElem?_set_ne (by omega)]
      refine getElem?_push ?_
      rw [List.getElem?_set_ne (by omega)]
      exact last_get
    · rw [List.getElem?_set_ne (by omega), ← e3]
      exact last_get
    · exact (((g1.trans Gr.push).bt.trans (Bt.set (List.mem_singleton_self _))).trans Gr.push.bt).trans (Bt.set (List.mem_singleton_self _))
theorem m_now (T : MetD K mg "Bench" "now" "Bench.now" s_Bench_now p_Bench_now) (m_Bench : mg "Bench" = some (.ref a_Bench)) (c_Bench : Cls K a_Bench) (n_stages : NoAttr K a_Bench "stages") : FnM P w K mg base 1 "Bench" "now" p_Bench_now (spOf mg 1 SNow) := by
  refine fnM T sc_Bench_now rfl (by decide) fun N RE f cdv B outer s H E hr hR hx ds A R h hl => ?_
  have hu := hr.units
  refine ⟨_, (dss_one (ds_ret (de_ix hu (de_fld m_Bench c_Bench n_stages (vr 0)) (de_neg de_int) (fun _ _ => rfl)))), ?_⟩
  obtain ⟨b, r1, r2, ss, tb, m, rfl, hb, q⟩ := h
  exact fld_ok hb.ob look_s (ix_ok hb.st last_ix q)
theorem m_change (T : MetD K mg "Bench" "change" "Bench.change" s_Bench_change p_Bench_change) (m_Bench : mg "Bench" = some (.ref a_Bench)) (c_Bench : Cls K a_Bench) (n_stages : NoAttr K a_Bench "stages") (n_taken_back : NoAttr K a_Bench "taken_back") : FnM P w K mg base 1 "Bench" "change" p_Bench_change (spOf mg 2 SChg) := by
  refine fnM T sc_Bench_change rfl (by decide) fun N RE f cdv B outer s H E hr hR hx ds A R h hl => ?_
  refine ⟨_, (dss_cons (ds_expr (de_mt PySem.F.plainAttrs_list PySem.F.slot_list_append PySem.F.type_list_append mt_append d_app (de_fld m_Bench c_Bench n_stages (vr 0)) (da_cons (vr 1) da_nil)))
    (dss_one (ds_fld m_Bench c_Bench n_taken_back (vr 0) (de_lst da_nil)))), ?_⟩
  obtain ⟨b, r1, r2, ss, tb, m, rfl, hb, hs, q⟩ := h
  have hz : (100000 : Nat) ≤ sizeLine := by decide
  have b1 := hb.b1
  have l1 := lt_of_get hb.st
  have lb := lt_of_get hb.ob
  refine fld_ok hb.ob look_s ⟨isL_of hb.st, app_ok hb.st (by simp; omega) ?_⟩
  have ob1 : (A.set r1 (.lst (ss.map enc ++ [enc m])))[b]? = some (.ins "Bench" (bF r1 r2)) := by
    rw [List.getElem?_set_ne (Ne.symm b1)]
    exact hb.ob
  refine ⟨Nat.zero_le _, sf_ok (getElem?_push ob1) (Nat.le_of_ble_eq_true rfl) ?_⟩
  rw [putB_t]
  have e : (A.set r1 (.lst (ss.map enc ++ [enc m]))).length = A.length := by simp
  refine q _ A.length ⟨?_, ?_, ?_, by omega⟩ (Nat.le_refl _) ?_
  · rw [← e]
    exact List.getElem?_set_self (by rw [List.length_append, e]; omega)
  · rw [List.getElem?_set_ne b1, getElem?_push (List.getElem?_set_self l1)]
    simp
  · rw [List.getElem?_set_ne (by omega), ← e]
    exact last_get
  · exact ((Bt.set (by simp)).trans Gr.push.bt).trans (Bt.set (by simp))
theorem nx_of {A A1 : Ar} {b r1 : Nat} {ss : List M} {x : M} {R : DK} (g : Gr A A1) (q : Nx A b r1 ss x R) : Nx A1 b r1 ss x R := fun A' r2' h1 h2 h3 => q A' r2' h1 (Nat.le_trans g.len h2) (g.bt.trans h3)
theorem m_turn (T : MetD K mg "Bench" "turn" "Bench.turn" s_Bench_turn p_Bench_turn) (M_Bench_change : FnM P w K mg base 1 "Bench" "change" p_Bench_change (spOf mg 2 SChg)) (M_Bench_now : FnM P w K mg base 1 "Bench" "now" p_Bench_now (spOf mg 1 SNow)) (F_turned : FnX P w K mg base 10 "turned" p_turned (spOf mg 2 STrB)) : FnM P w K mg base 11 "Bench" "turn" p_Bench_turn (spOf mg 2 STun) := by
  refine fnM T sc_Bench_turn rfl (by decide) fun N RE f cdv B outer s H E hr hR hx ds A R h hl => ?_
  refine ⟨_, (dss_one (ds_expr (de_meth M_Bench_change (vr 0) (hr.mono (by omega)) hx (da_cons (de_call F_turned (hr.mono (by omega)) hx (da_cons (de_meth0 M_Bench_now (vr 0) (hr.mono (by omega)) hx) (da_cons (vr 1) da_nil))) da_nil)))), ?_⟩
  obtain ⟨b, r1, r2, ss, tb, m, z, rfl, hb, hs, wm, dm, hk, h⟩ := h
  refine ⟨isI_of hb.ob (look_no (by decide +kernel) (by decide +kernel)), isI_of hb.ob (look_no (by decide +kernel) (by decide +kernel)), rfl, b, r1, r2, ss, tb, m, rfl, hb, ?_⟩
  refine ⟨rfl, m, z, rfl, wm, dm, hk, ?_⟩
  rcases h with ⟨hn, q⟩ | ⟨w, l, r, a, b', x, rfl, hat, hset, q⟩
  · exact .inl ⟨hn, q⟩
  · exact .inr ⟨w, l, r, a, b', x, rfl, hat, hset, fun A1 g1 => ⟨rfl, b, r1, r2, ss ++ [m], tb, x, rfl, hb.gr g1, by simp; omega, nx_of g1 q⟩⟩
theorem m_stretch (T : MetD K mg "Bench" "stretch" "Bench.stretch" s_Bench_stretch p_Bench_stretch) (M_Bench_change : FnM P w K mg base 1 "Bench" "change" p_Bench_change (spOf mg 2 SChg)) (M_Bench_now : FnM P w K mg base 1 "Bench" "now" p_Bench_now (spOf mg 1 SNow)) (F_longer : FnX P w K mg base 10 "longer" p_longer (spOf mg 3 SLgB)) : FnM P w K mg base 11 "Bench" "stretch" p_Bench_stretch (spOf mg 3 SStr) := by
  refine fnM T sc_Bench_stretch rfl (by decide) fun N RE f cdv B outer s H E hr hR hx ds A R h hl => ?_
  refine ⟨_, (dss_one (ds_expr (de_meth M_Bench_change (vr 0) (hr.mono (by omega)) hx (da_cons (de_call F_longer (hr.mono (by omega)) hx (da_cons (de_meth0 M_Bench_now (vr 0) (hr.mono (by omega)) hx) (da_cons (vr 1) (da_cons (vr 2) da_nil)))) da_nil)))), ?_⟩
  obtain ⟨b, r1, r2, ss, tb, m, z, y, rfl, hb, hs, wm, dm, hk, hky, h⟩ := h
  refine ⟨isI_of hb.ob (look_no (by decide +kernel) (by decide +kernel)), isI_of hb.ob (look_no (by decide +kernel) (by decide +kernel)), rfl, b, r1, r2, ss, tb, m, rfl, hb, ?_⟩
  refine ⟨rfl, m, z, y, rfl, wm, dm, hk, hky, ?_⟩
  rcases h with ⟨hn, q⟩ | ⟨hn, hi, q⟩ | ⟨w, l, r, a, b', k, x, rfl, hat, rfl, k1, k9, l1, l9, r1', r9, hset, q⟩
  · exact .inl ⟨hn, q⟩
  · exact .inr (.inl ⟨hn, hi, q⟩)
  · refine .inr (.inr ⟨w, l, r, a, b', k, x, rfl, hat, rfl, k1, k9, l1, l9, r1', r9, hset, fun A1 g1 => ?_⟩)
    by_cases c : max (l * k) (r * k) ≤ 9
    · rw [if_pos c] at q ⊢
      exact ⟨rfl, b, r1, r2, ss ++ [m], tb, x, rfl, hb.gr g1, by simp; omega, nx_of g1 q⟩
    · rw [if_neg c] at q ⊢
      exact q _ g1
theorem m_hang (T : MetD K mg "Bench" "hang" "Bench.hang" s_Bench_hang p_Bench_hang) (M_Bench_change : FnM P w K mg base 1 "Bench" "change" p_Bench_change (spOf mg 2 SChg)) (M_Bench_now : FnM P w K mg base 1 "Bench" "now" p_Bench_now (spOf mg 1 SNow)) (F_put : FnX P w K mg base 10 "put" p_put (spOf mg 3 SPuB)) : FnM P w K mg base 11 "Bench" "hang" p_Bench_hang (spOf mg 3 SHng) := by
  refine fnM T sc_Bench_hang rfl (by decide) fun N RE f cdv B outer s H E hr hR hx ds A R h hl => ?_
  refine ⟨_, (dss_one (ds_expr (de_meth M_Bench_change (vr 0) (hr.mono (by omega)) hx (da_cons (de_call F_put (hr.mono (by omega)) hx (da_cons (de_meth0 M_Bench_now (vr 0) (hr.mono (by omega)) hx) (da_cons (vr 1) (da_cons (vr 2) da_nil)))) da_nil)))), ?_⟩
  obtain ⟨b, r1, r2, ss, tb, m, z, y, rfl, hb, hs, wm, dm, hk, hky, h⟩ := h
  refine ⟨isI_of hb.ob (look_no (by decide +kernel) (by decide +kernel)), isI_of hb.ob (look_no (by decide +kernel) (by decide +kernel)), rfl, b, r1, r2, ss, tb, m, rfl, hb, ?_⟩
  refine ⟨rfl, m, z, y, rfl, wm, dm, hk, hky, ?_⟩
  rcases h with ⟨hn, q⟩ | ⟨hn, hi, q⟩ | ⟨w, p, p0, x, rfl, hat, rfl, wp, dp, hset, q⟩
  · exact .inl ⟨hn, q⟩
  · exact .inr (.inl ⟨hn, hi, q⟩)
  · refine .inr (.inr ⟨w, p, p0, x, rfl, hat, rfl, wp, dp, hset, fun A1 g1 => ?_⟩)
    by_cases c : w.cps.toList.length + p.deep ≤ 5
    · rw [if_pos c] at q ⊢
      exact ⟨rfl, b, r1, r2, ss ++ [m], tb, x, rfl, hb.gr g1, by simp; omega, nx_of g1 q⟩
    · rw [if_neg c] at q ⊢
      exact q _ g1
theorem m_shorten (T : MetD K mg "Bench" "shorten" "Bench.shorten" s_Bench_shorten p_Bench_shorten) (M_Bench_change : FnM P w K mg base 1 "Bench" "change" p_Bench_change (spOf mg 2 SChg)) (M_Bench_now : FnM P w K mg base 1 "Bench" "now" p_Bench_now (spOf mg 1 SNow)) (F_plain : FnX P w K mg base 10 "plain" p_plain (spOf mg 1 SPln)) : FnM P w K mg base 11 "Bench" "shorten" p_Bench_shorten (spOf mg 1 SSho) := by
  refine fnM T sc_Bench_shorten rfl (by decide) fun N RE f cdv B outer s H E hr hR hx ds A R h hl => ?_
  refine ⟨_, (dss_one (ds_expr (de_meth M_Bench_change (vr 0) (hr.mono (by omega)) hx (da_cons (de_call F_plain (hr.mono (by omega)) hx (da_cons (de_meth0 M_Bench_now (vr 0) (hr.mono (by omega)) hx) da_nil)) da_nil)))), ?_⟩
  obtain ⟨b, r1, r2, ss, tb, m, rfl, hb, hs, wm, dm, q⟩ := h
  refine ⟨isI_of hb.ob (look_no (by decide +kernel) (by decide +kernel)), isI_of hb.ob (look_no (by decide +kernel) (by decide +kernel)), rfl, b, r1, r2, ss, tb, m, rfl, hb, ?_⟩
  exact ⟨rfl, _, ⟨m, rfl, wm, dm, rfl⟩, fun A1 g1 => ⟨rfl, b, r1, r2, ss ++ [m], tb, pln m, rfl, hb.gr g1, by simp; omega, nx_of g1 q⟩⟩
theorem m_deeds (T : MetD K mg "Bench" "deeds" "Bench.deeds" s_Bench_deeds p_Bench_deeds) (b_len : mg "len" = none) (m_Bench : mg "Bench" = some (.ref a_Bench)) (c_Bench : Cls K a_Bench) (n_stages : NoAttr K a_Bench "stages") : FnM P w K mg base 1 "Bench" "deeds" p_Bench_deeds (spOf mg 1 SDds) := by
  refine fnM T sc_Bench_deeds rfl (by decide) fun N RE f cdv B outer s H E hr hR hx ds A R h hl => ?_
  refine ⟨_, (dss_one (ds_ret (de_sub (de_cb c_len d_len b_len PySem.boot_len (da_cons (de_fld m_Bench c_Bench n_stages (vr 0)) da_nil)) de_int))), ?_⟩
  obtain ⟨b, r1, r2, ss, tb, rfl, hb, hs, q⟩ := h
  refine fld_ok hb.ob look_s (len_ok hb.st ?_)
  rw [List.length_map]
  exact q
theorem m_undo (T : MetD K mg "Bench" "undo" "Bench.undo" s_Bench_undo p_Bench_undo) {a_Nothing : Addr} (m_Nothing : mg "Nothing" = some (.ref a_Nothing)) (x_Nothing : PySem.W.excIn K a_Nothing vErr "ValueError.__new__" = true) (m_Bench : mg "Bench" = some (.ref a_Bench)) (c_Bench : Cls K a_Bench) (n_stages : NoAttr K a_Bench "stages") (n_taken_back : NoAttr K a_Bench "taken_back") (M_Bench_deeds : FnM P w K mg base 1 "Bench" "deeds" p_Bench_deeds (spOf mg 1 SDds)) : FnM P w K mg base 2 "Bench" "undo" p_Bench_undo (spOf mg 1 SUnd) := by
  refine fnM T sc_Bench_undo rfl (by decide) fun N RE f cdv B outer s H E hr hR hx ds A R h hl => ?_
  have hu := hr.units
  refine ⟨_, (dss_cons (ds_if (t_eq hu (de_meth0 M_Bench_deeds (vr 0) (hr.mono (by omega)) hx) de_int) (dss_one (ds_raise hR rfl m_Nothing x_Nothing (da_cons de_str da_nil))) dss_nil)
    (dss_one (ds_expr (de_mt PySem.F.plainAttrs_list PySem.F.slot_list_append PySem.F.type_list_append mt_append d_app (de_fld m_Bench c_Bench n_taken_back (vr 0)) (da_cons (de_mt0 PySem.F.plainAttrs_list PySem.F.slot_list_pop PySem.F.type_list_pop mt_pop d_pop (de_fld m_Bench c_Bench n_stages (vr 0))) da_nil))))), ?_⟩
  obtain ⟨b, r1, r2, ss, tb, m, rfl, hb, hs, ht, h⟩ := h
  have hz : (100000 : Nat) ≤ sizeLine := by decide
  refine ⟨isI_of hb.ob (look_no (by decide +kernel) (by decide +kernel)), rfl, b, r1, r2, _, tb, rfl, hb, by simp; omega, ?_⟩
  have ln : (((ss ++ [m]).length : Nat) : Int) - 1 = (ss.length : Int) := by simp
  rw [ln]
  show cond (decide (((ss.length : Nat) : Int) = 0)) _ _
  rcases h with ⟨rfl, q⟩ | ⟨hne, q⟩
  · exact ⟨by decide, q⟩
  · have l0 : 0 < ss.length := by cases ss with
      | nil => exact absurd rfl hne
      | cons _ _ => simp
    refine cD (fun c => absurd c (by omega)) (fun _ => ?_)
    have l1 := lt_of_get hb.st
    have l2 := lt_of_get hb.tk
    have b1 := hb.b1
    have b2 := hb.b2
    refine fld_ok hb.ob look_t ⟨isL_of hb.tk, fld_ok hb.ob look_s ⟨isL_of hb.st, pop_ok hb.st (y := enc m) (by simp) ?_⟩⟩
    have tk1 : (A.set r1 (.lst ((ss ++ [m]).map enc).dropLast))[r2]? = some (.lst (tb.map enc)) := by
      rw [List.getElem?_set_ne hb.ne]
      exact hb.tk
    refine app_ok tk1 (by simp; omega) (q _ ⟨?_, ?_, ?_, hb.ne⟩ ((Bt.set (by simp)).trans (Bt.set (by simp))))
    · rw [List.getElem?_set_ne (Ne.symm b2), List.getElem?_set_ne (Ne.symm b1)]
      exact hb.ob
    · rw [List.getElem?_set_ne (Ne.symm hb.ne), List.getElem?_set_self l1]
      simp
    · rw [List.getElem?_set_self (by simpa using l2)]
      simp
theorem m_again (T : MetD K mg "Bench" "again" "Bench.again" s_Bench_again p_Bench_again) {a_Nothing : Addr} (m_Nothing : mg "Nothing" = some (.ref a_Nothing)) (x_Nothing : PySem.W.excIn K a_Nothing vErr "ValueError.__new__" = true) (m_Bench : mg "Bench" = some (.ref a_Bench)) (c_Bench : Cls K a_Bench) (n_stages : NoAttr K a_Bench "stages") (n_taken_back : NoAttr K a_Bench "taken_back") : FnM P w K mg base 2 "Bench" "again" p_Bench_again (spOf mg 1 SAgn) := by
  refine fnM T sc_Bench_again rfl (by decide) fun N RE f cdv B outer s H E hr hR hx ds A R h hl => ?_
  have hu := hr.units
  refine ⟨_, (dss_cons (ds_if (t_eq hu (de_fld m_Bench c_Bench n_taken_back (vr 0)) (de_lst da_nil)) (dss_one (ds_raise hR rfl m_Nothing x_Nothing (da_cons de_str da_nil))) dss_nil)
    (dss_one (ds_expr (de_mt PySem.F.plainAttrs_list PySem.F.slot_list_append PySem.F.type_list_append mt_append d_app (de_fld m_Bench c_Bench n_stages (vr 0)) (da_cons (de_mt0 PySem.F.plainAttrs_list PySem.F.slot_list_pop PySem.F.type_list_pop mt_pop d_pop (de_fld m_Bench c_Bench n_taken_back (vr 0))) da_nil))))), ?_⟩
  obtain ⟨b, r1, r2, ss, tb, rfl, hb, hs, ht, wt, h⟩ := h
  have hz : (100000 : Nat) ≤ sizeLine := by decide
  obtain ⟨p1, p2⟩ := encs_data tb wt
  refine fld_ok hb.ob look_t ⟨Nat.zero_le _, eq_ref_nil hb.tk p1 p2 ?_⟩
  have g : Gr A (A ++ [C.lst []]) := Gr.push
  have hb1 := hb.gr g
  rcases h with ⟨rfl, q⟩ | ⟨t, m, rfl, q⟩
  · exact ⟨by decide, q _ g⟩
  · rw [decide_eq_false (by simp)]
    have l1 := lt_of_get hb1.st
    have l2 := lt_of_get hb1.tk
    have b1 := hb.b1
    have b2 := hb.b2
    generalize A ++ [C.lst []] = A1 at *
    refine fld_ok hb1.ob look_s ⟨isL_of hb1.st, fld_ok hb1.ob look_t ⟨isL_of hb1.tk, pop_ok hb1.tk (y := enc m) (by simp) ?_⟩⟩
    have st1 : (A1.set r2 (.lst ((t ++ [m]).map enc).dropLast))[r1]? = some (.lst (ss.map enc)) := by
      rw [List.getElem?_set_ne (Ne.symm hb.ne)]
      exact hb1.st
    refine app_ok st1 (by simp; omega) (q _ ⟨?_, ?_, ?_, hb.ne⟩ ((g.bt.trans (Bt.set (by simp))).trans (Bt.set (by simp))))
    · rw [List.getElem?_set_ne (Ne.symm b1), List.getElem?_set_ne (Ne.symm b2)]
      exact hb1.ob
    · rw [List.getElem?_set_self (by simpa using l1)]
      simp
    · rw [List.getElem?_set_ne hb.ne, List.getElem?_set_self l2]
      simp
end
end My
namespace DP
open PySem PySem.Spec PyProof.Rows L2 MA
theorem max1_okB {A : Ar} {r : Nat} {xs : List D} {ns : List Int} {R : DK} (h : A[r]? = some (.lst xs)) (hi : intsD xs = some ns) (hne : ns ≠ []) (k : ∀ m ∈ ns, (∀ n ∈ ns, n ≤ m) → R (.int m) A) : maxR r A R := by
  unfold maxR
  rw [h]
  show maxI xs A R
  unfold maxI
  rw [hi]
  exact ⟨hne, k⟩
theorem ints_mapB (ns : List Int) : intsD (ns.map D.int) = some ns := by
  have := ints_map id ns
  simpa using this
def cdv (l r : Int) : List Int := ((List.range 9).map fun (j : Nat) => (1 + j : Int)).filter fun k => decide (l % k = 0) && decide (r % k = 0)
theorem cdv_max {l r m : Int} (hl : 1 ≤ l) (hl9 : l ≤ 9) (hr : 1 ≤ r) (hm : m ∈ cdv l r) (hx : ∀ n ∈ cdv l r, n ≤ m) : m = (Int.gcd l r : Int) := by
  have hg : 0 < Int.gcd l r := Int.gcd_pos_of_ne_zero_left _ (by omega)
  have g1 : ((Int.gcd l r : Nat) : Int) ∣ l := Int.gcd_dvd_left ..
  have g2 : ((Int.gcd l r : Nat) : Int) ∣ r := Int.gcd_dvd_right ..
  have g3 : ((Int.gcd l r : Nat) : Int) ≤ l := Int.le_of_dvd (by omega) g1
  have mem : ∀ k : Int, k ∈ cdv l r ↔ (1 ≤ k ∧ k ≤ 9) ∧ k ∣ l ∧ k ∣ r := fun k => by
    unfold cdv
    rw [List.mem_filter, Bool.and_eq_true, decide_eq_true_eq, decide_eq_true_eq]
    constructor
    · rintro ⟨h1, h2, h3⟩
      obtain ⟨j, hj, rfl⟩ := List.mem_map.mp h1
      have := List.mem_range.mp hj
      exact ⟨⟨by omega, by omega⟩, Int.dvd_of_emod_eq_zero h2, Int.dvd_of_emod_eq_zero h3⟩
    · rintro ⟨⟨h1, h2⟩, h3, h4⟩
      exact ⟨List.mem_map.mpr ⟨(k - 1).toNat, List.mem_range.mpr (by omega), by omega⟩, Int.emod_eq_zero_of_dvd h3, Int.emod_eq_zero_of_dvd h4⟩
  obtain ⟨⟨m1, m2⟩, m3, m4⟩ := (mem m).mp hm
  have a := hx _ ((mem _).mpr ⟨⟨by omega, by omega⟩, g1, g2⟩)
  have b : m ∣ ((Int.gcd l r : Nat) : Int) := Int.dvd_coe_gcd m3 m4
  have c := Int.le_of_dvd (by omega) b
  omega
theorem cdv_ne (l r : Int) : cdv l r ≠ [] := fun z => by
  have : (1 : Int) ∈ cdv l r := by
    unfold cdv
    rw [List.mem_filter]
    exact ⟨List.mem_map.mpr ⟨0, by simp, by simp⟩, by simp⟩
  rw [z] at this
  cases this
end DP
namespace My
open PySem PySem.Spec PyProof.Rows L2 DP MA
section
variable {P : Program} {w : World} {K : PySem.W.Frag} {mg : Str → Option Value} {base : Heap}
theorem f_lput (T : TopD K mg "_law_put" s__law_put p__law_put) : ∀ d, FnX P w K mg base d "_law_put" p__law_put (spOf mg 3 (SWp d)) := by
  intro d
  induction d with
  | zero =>
    refine fnNo T fun ds A R RE h => ?_
    obtain ⟨v, ⟨m, w, p, x, _, _, h, _⟩, _⟩ := h
    omega
  | succ d F__law_put =>
    refine fnD T sc__law_put rfl (by decide) fun N RE f cdv B outer s H E hr hR hx ds A R h hl => ?_
    have hu := hr.units
    refine ⟨_, (dss_cons (ds_if (t_eq hu (vr 1) de_str) (dss_one (ds_ret (vr 2))) dss_nil)
    (dss_cons (ds_if (t_eq hu (de_ix hu (vr 1) de_int (fun _ _ => rfl)) de_str) (dss_one (ds_ret (de_add (de_sl (vr 0) do_none (do_some de_int)) (de_tup (da_cons (de_call F__law_put (hr.mono (by omega)) hx (da_cons (de_ix hu (vr 0) de_int (fun _ _ => rfl)) (da_cons (de_sls (vr 1) (do_some de_int) do_none) (da_cons (vr 2) da_nil)))) (da_cons (de_ix hu (vr 0) de_int (fun _ _ => rfl)) da_nil)))))) dss_nil)
    (dss_one (ds_ret (de_add (de_sl (vr 0) do_none (do_some de_int)) (de_tup (da_cons (de_call F__law_put (hr.mono (by omega)) hx (da_cons (de_ix hu (vr 0) de_int (fun _ _ => rfl)) (da_cons (de_sls (vr 1) (do_some de_int) do_none) (da_cons (vr 2) da_nil)))) da_nil))))))), ?_⟩
    obtain ⟨v, ⟨m, w, p, x, rfl, hs, hd, h100, rfl⟩, q⟩ := h
    have hz : (1000 : Nat) ≤ sizeLine := by decide
    have hwl : w.length = w.cps.toList.length := by simp [Str.length]
    refine cD (fun c => ?_) (fun c => ?_)
    · subst c
      rw [cpsN, setW_nil] at hs
      cases hs
      exact q _ Gr.refl
    · cases hc : w.cps.toList with
      | nil => exact absurd (str_nil hc) c
      | cons k cs =>
        rw [hc] at hs hd
        cases m with
        | wt n => cases hs
        | rod l r a b =>
          have hs : (if k = 108 then (setW a cs p).map fun x => Mob.rod l r x b else if k = 114 then (setW b cs p).map fun x => Mob.rod l r a x else none) = some x := hs
          have hv : atI w.cps.toList 0 = some k := by rw [hc]; exact atI_nat (j := 0) rfl
          conv => whnf
          rw [hv]
          refine ⟨by rw [hwl, hc]; simp at hd ⊢; omega, ?_⟩
          have htl := sl_tail hc
          simp at hd
          refine cD (fun e => ?_) (fun e => ?_)
          · have e1 := isl.mp e
            rw [if_pos e1] at hs
            cases ey : setW a cs p with
            | none => rw [ey] at hs; cases hs
            | some y =>
              rw [ey] at hs
              cases hs
              refine ⟨show ¬ (HT.sIx 5 0 none = 0 ∧ HT.sIx 5 5 (some 3) = 5) by decide, ?_⟩
              refine ⟨by rw [hwl, hc]; simp; omega, rfl, _, ⟨a, _, p, y, rfl, by rw [htl]; exact ey, by rw [htl]; omega, by omega, rfl⟩, fun A1 g1 => ?_⟩
              exact ⟨show 2 ≤ sizeLine by decide, show 3 + 2 ≤ sizeLine by decide, q _ g1⟩
          · have e1 : ¬ k = 108 := fun z => e (isl.mpr z)
            rw [if_neg e1] at hs
            by_cases e2 : k = 114
            · rw [if_pos e2] at hs
              cases ey : setW b cs p with
              | none => rw [ey] at hs; cases hs
              | some y =>
                rw [ey] at hs
                cases hs
                refine ⟨show ¬ (HT.sIx 5 0 none = 0 ∧ HT.sIx 5 5 (some 4) = 5) by decide, ?_⟩
                refine ⟨by rw [hwl, hc]; simp; omega, rfl, _, ⟨b, _, p, y, rfl, by rw [htl]; exact ey, by rw [htl]; omega, by omega, rfl⟩, fun A1 g1 => ?_⟩
                exact ⟨show 1 ≤ sizeLine by decide, show 4 + 1 ≤ sizeLine by decide, q _ g1⟩
            · rw [if_neg e2] at hs
              cases hs
theorem f_shorter (T : TopD K mg "_law_shorter" s__law_shorter p__law_shorter) (b_max : mg "max" = none) (b_range : mg "range" = none) : ∀ d, FnX P w K mg base (d + 1) "_law_shorter" p__law_shorter (spOf mg 1 (SPlb d)) := by
  intro d
  induction d with
  | zero =>
    refine fnNo T fun ds A R RE h => ?_
    obtain ⟨v, ⟨m, _, _, h, _⟩, _⟩ := h
    omega
  | succ d F__law_shorter =>
    refine fnD T sc__law_shorter rfl (by decide) fun N RE f cdv B outer s H E hr hR hx ds A R h hl => ?_
    have hu := hr.units
    have nd := sc__law_shorter.nd
    refine ⟨_, (dss_cons (ds_if (t_eq hu (de_ix hu (vr 0) de_int (fun _ _ => rfl)) de_str) (dss_one (ds_ret (vr 0))) dss_nil)
    (dss_cons (ds_set (i := 1) nd rfl (by first | exact Or.inl rfl | exact Or.inr rfl) (de_cb (call_maxT rfl) d_max1 b_max boot_max (da_cons (de_compI none (own := ["_law_k"]) (frees := ["_law_part"]) (ix := [0]) rfl (di_range2 b_range (da_cons de_int (da_cons de_int da_nil))) (fun c => (pg_name (i := 0) (show (["_law_k", "_law_part"] : List Str).Nodup by decide +kernel) rfl (by first | exact Or.inl rfl | exact Or.inr rfl))) (fun c => (PW.pt (dw_and (t_eq hu (de_mod (de_ix hu (vr 1) de_int (fun _ _ => rfl)) (vr 0)) de_int) (dw_and1 (t_eq hu (de_mod (de_ix hu (vr 1) de_int (fun _ _ => rfl)) (vr 0)) de_int))))) (fun c => (vr 0))) da_nil)))
    (dss_cons (ds_par (i := 2) (j := 3) rfl nd rfl rfl (by decide) rfl rfl (da_cons (de_call F__law_shorter (hr.mono (by omega)) hx (da_cons (de_ix hu (vr 0) de_int (fun _ _ => rfl)) da_nil)) (da_cons (de_call F__law_shorter (hr.mono (by omega)) hx (da_cons (de_ix hu (vr 0) de_int (fun _ _ => rfl)) da_nil)) da_nil)) rfl)
    (dss_one (ds_ret (de_tup (da_cons de_str (da_cons (de_div (de_ix hu (vr 0) de_int (fun _ _ => rfl)) (vr 1)) (da_cons (de_div (de_ix hu (vr 0) de_int (fun _ _ => rfl)) (vr 1)) (da_cons (vr 2) (da_cons (vr 3) da_nil))))))))))), ?_⟩
    obtain ⟨v, ⟨m, rfl, ha, hd, rfl⟩, q⟩ := h
    cases m with
    | wt n => exact q _ Gr.refl
    | rod l r a b =>
      have hd' : max a.deep b.deep + 1 < d + 1 := hd
      obtain ⟨r1, r2, r3, r4, ha1, ha2⟩ := ha
      have hz : (1000 : Nat) ≤ sizeLine := by decide
      refine ⟨by decide, ?_⟩
      refine cloop_fil trivial (fun x => match x with | .int k => decide (l % k = 0) && decide (r % k = 0) | _ => false) (fun x => x) _ _ (fun d hd => ?_) (by simp [rng]; omega) ?_
      · obtain ⟨j, hj, rfl⟩ := List.mem_map.mp hd
        have hj9 := List.mem_range.mp hj
        refine ⟨[.int (1 + (j : Int))], rfl, fun Q hQ => ?_, fun Q hQ => hQ⟩
        have hQ : Q (decide (l % (1 + (j : Int)) = 0) && decide (r % (1 + (j : Int)) = 0)) A := hQ
        refine ⟨show (0 : Int) < 1 + j by omega, ?_⟩
        refine cD (fun c1 => ?_) (fun c1 => ?_)
        · rw [decide_eq_true c1, Bool.true_and] at hQ
          exact ⟨show (0 : Int) < 1 + j by omega, hQ⟩
        · rw [decide_eq_false c1] at hQ
          exact hQ
      · have e9 : ((rng 1 9).filter (fun x => match x with | .int k => decide (l % k = 0) && decide (r % k = 0) | _ => false)).map (fun x => x) = (DP.cdv l r).map D.int := by
          unfold rng DP.cdv
          rw [List.filter_map, List.filter_map, List.map_map, List.map_map]
          rfl
        refine max1_okB (xs := (DP.cdv l r).map D.int) (ns := DP.cdv l r) ?_ (ints_mapB _) (cdv_ne l r) fun g hg hgx => ?_
        · rw [last_get]
          exact congrArg (fun z => some (C.lst z)) e9
        · have eg := cdv_max r1 r2 r3 hg hgx
          subst eg
          have hg0 : 0 < Int.gcd l r := Int.gcd_pos_of_ne_zero_left _ (by omega)
          refine ⟨rfl, _, ⟨a, rfl, ha1, by omega, rfl⟩, fun A2 g2 => ?_⟩
          refine ⟨rfl, _, ⟨b, rfl, ha2, by omega, rfl⟩, fun A3 g3 => ?_⟩
          have hle : (Int.gcd l r : Int) ≤ l := Int.le_of_dvd (by omega) (Int.gcd_dvd_left ..)
          have h0 : (0 : Int) < (Int.gcd l r : Int) ∧ (Int.gcd l r : Int).natAbs.log2 < 9000 := ⟨by omega, Nat.lt_of_le_of_lt (Nat.log2_le_self _) (by omega)⟩
          exact ⟨h0, h0, show 5 ≤ sizeLine by decide, q _ ((Gr.push.trans g2).trans g3)⟩
theorem f_depth (T : TopD K mg "_law_depth" s__law_depth p__law_depth) (b_max : mg "max" = none) : ∀ d, FnX P w K mg base (d + 1) "_law_depth" p__law_depth (spOf mg 1 (SRw d)) := by
  intro d
  induction d with
  | zero =>
    refine fnNo T fun ds A R RE h => ?_
    obtain ⟨v, ⟨m, _, h, _⟩, _⟩ := h
    omega
  | succ d F__law_depth =>
    refine fnD T sc__law_depth rfl (by decide) fun N RE f cdv B outer s H E hr hR hx ds A R h hl => ?_
    have hu := hr.units
    refine ⟨_, (dss_one (ds_ret (de_ite (t_eq hu (de_ix hu (vr 0) de_int (fun _ _ => rfl)) de_str) de_int (de_add de_int (de_cb (call_max2 rfl) d_max b_max boot_max (da_cons (de_call F__law_depth (hr.mono (by omega)) hx (da_cons (de_ix hu (vr 0) de_int (fun _ _ => rfl)) da_nil)) (da_cons (de_call F__law_depth (hr.mono (by omega)) hx (da_cons (de_ix hu (vr 0) de_int (fun _ _ => rfl)) da_nil)) da_nil))))))), ?_⟩
    obtain ⟨v, ⟨m, rfl, hd, rfl⟩, q⟩ := h
    cases m with
    | wt n => exact q _ Gr.refl
    | rod l r a b =>
      have hd' : max a.deep b.deep + 1 < d + 1 := hd
      refine ⟨rfl, _, ⟨a, rfl, by omega, rfl⟩, fun A1 g1 => ?_⟩
      refine ⟨rfl, _, ⟨b, rfl, by omega, rfl⟩, fun A2 g2 => ?_⟩
      have e : (1 : Int) + (if (b.deep : Int) > a.deep then (b.deep : Int) else a.deep) = ((max a.deep b.deep + 1 : Nat) : Int) := by split <;> omega
      show R (.int (1 + (if (b.deep : Int) > a.deep then (b.deep : Int) else a.deep))) A2
      rw [e]
      exact q _ (g1.trans g2)
end
end My
namespace DP
open PySem PySem.Spec PyProof.Rows L2 MA
theorem str_cat {w : Str} {c : Nat} {cs : List Nat} : (w ++ (⟨#[c]⟩ : Str)) ++ (⟨cs.toArray⟩ : Str) = w ++ (⟨(c :: cs).toArray⟩ : Str) := by
  show (⟨(w.cps ++ #[c]) ++ cs.toArray⟩ : Str) = ⟨w.cps ++ (c :: cs).toArray⟩
  congr 1
  apply Array.ext'
  simp
theorem rds_all : ∀ (cs : List Nat) (m : M) (w : Str) (l r : Int) (a b : M), atW m cs = some (.rod l r a b) → (w ++ (⟨cs.toArray⟩ : Str), Mob.rod l r a b) ∈ rds m w
  | [], m, w, l, r, a, b, h => by
    rw [atW_nil] at h
    cases h
    have e : w ++ (⟨([] : List Nat).toArray⟩ : Str) = w := by
      show (⟨w.cps ++ #[]⟩ : Str) = w
      simp
    rw [e]
    exact List.mem_cons_self ..
  | c :: cs, .wt n, w, l, r, a, b, h => by cases h
  | c :: cs, .rod l' r' a' b', w, l, r, a, b, h => by
    have h : (if c = 108 then atW a' cs else if c = 114 then atW b' cs else none) = some (.rod l r a b) := h
    show _ ∈ (w, Mob.rod l' r' a' b') :: (rds a' (w ++ "l") ++ rds b' (w ++ "r"))
    by_cases h1 : c = 108
    · rw [if_pos h1] at h
      have ih := rds_all cs a' (w ++ "l") l r a b h
      rw [eL, str_cat, ← h1] at ih
      rw [eL, ← h1]
      exact List.mem_cons_of_mem _ (List.mem_append_left _ ih)
    · rw [if_neg h1] at h
      by_cases h2 : c = 114
      · rw [if_pos h2] at h
        have ih := rds_all cs b' (w ++ "r") l r a b h
        rw [eR, str_cat, ← h2] at ih
        rw [eR, ← h2]
        exact List.mem_cons_of_mem _ (List.mem_append_right _ ih)
      · rw [if_neg h2] at h
        cases h
theorem str_self (w : Str) : ("" : Str) ++ (⟨w.cps.toList.toArray⟩ : Str) = w := by
  have e : ("" : Str) = ⟨#[]⟩ := by decide +kernel
  rw [e]
  show (⟨#[] ++ w.cps.toList.toArray⟩ : Str) = w
  simp
theorem rds_in {m : M} {w : Str} {l r : Int} {a b : M} (h : atW m w.cps.toList = some (.rod l r a b)) : (w, Mob.rod l r a b) ∈ rds m "" := by
  have := rds_all w.cps.toList m "" l r a b h
  rwa [str_self] at this
theorem atW_appB : ∀ (cs ds : List Nat) (m p : M), atW m cs = some p → atW m (cs ++ ds) = atW p ds
  | [], ds, m, p, h => by
    rw [atW_nil] at h
    cases h
    rfl
  | c :: cs, ds, .wt n, p, h => by cases h
  | c :: cs, ds, .rod l r a b, p, h => by
    have h : (if c = 108 then atW a cs else if c = 114 then atW b cs else none) = some p := h
    show (if c = 108 then atW a (cs ++ ds) else if c = 114 then atW b (cs ++ ds) else none) = _
    by_cases h1 : c = 108
    · rw [if_pos h1] at h ⊢
      exact atW_appB cs ds a p h
    · rw [if_neg h1] at h ⊢
      by_cases h2 : c = 114
      · rw [if_pos h2] at h ⊢
        exact atW_appB cs ds b p h
      · rw [if_neg h2] at h
        cases h
theorem atW_none_app : ∀ (cs ds : List Nat) (m : M), atW m cs = none → atW m (cs ++ ds) = none
  | [], ds, m, h => by rw [atW_nil] at h; cases h
  | c :: cs, ds, .wt n, h => rfl
  | c :: cs, ds, .rod l r a b, h => by
    have h : (if c = 108 then atW a cs else if c = 114 then atW b cs else none) = none := h
    show (if c = 108 then atW a (cs ++ ds) else if c = 114 then atW b (cs ++ ds) else none) = _
    by_cases h1 : c = 108
    · rw [if_pos h1] at h ⊢
      exact atW_none_app cs ds a h
    · rw [if_neg h1] at h ⊢
      by_cases h2 : c = 114
      · rw [if_pos h2] at h ⊢
        exact atW_none_app cs ds b h
      · rw [if_neg h2]
theorem rds_rod : ∀ (m : M) (w : Str) (p : Str × M), p ∈ rds m w → ∃ l r a b, p.2 = .rod l r a b
  | .wt n, w, p, h => by cases h
  | .rod l r a b, w, p, h => by
    have h : p ∈ (w, Mob.rod l r a b) :: (rds a (w ++ "l") ++ rds b (w ++ "r")) := h
    rcases List.mem_cons.mp h with rfl | h
    · exact ⟨l, r, a, b, rfl⟩
    · rcases List.mem_append.mp h with h | h
      · exact rds_rod a _ p h
      · exact rds_rod b _ p h
theorem cps_l (w : Str) : (w ++ "l").cps.toList = w.cps.toList ++ [108] := by rw [eL]; exact Array.toList_append
theorem cps_r (w : Str) : (w ++ "r").cps.toList = w.cps.toList ++ [114] := by rw [eR]; exact Array.toList_append
theorem rds_pre : ∀ (m : M) (w : Str) (p : Str × M), p ∈ rds m w → ∃ cs, p.1.cps.toList = w.cps.toList ++ cs
  | .wt n, w, p, h => by cases h
  | .rod l r a b, w, p, h => by
    have h : p ∈ (w, Mob.rod l r a b) :: (rds a (w ++ "l") ++ rds b (w ++ "r")) := h
    rcases List.mem_cons.mp h with rfl | h
    · exact ⟨[], by simp⟩
    · rcases List.mem_append.mp h with h | h
      · obtain ⟨cs, e⟩ := rds_pre a _ p h
        exact ⟨108 :: cs, by rw [e, cps_l]; simp⟩
      · obtain ⟨cs, e⟩ := rds_pre b _ p h
        exact ⟨114 :: cs, by rw [e, cps_r]; simp⟩
theorem rds_nd : ∀ (m : M) (w : Str), ((rds m w).map (·.1)).Nodup
  | .wt n, w => List.nodup_nil
  | .rod l r a b, w => by
    show (w :: ((rds a (w ++ "l") ++ rds b (w ++ "r")).map (·.1))).Nodup
    rw [List.nodup_cons, List.map_append, List.nodup_append]
    refine ⟨fun h => ?_, rds_nd a _, rds_nd b _, fun x hx y hy e => ?_⟩
    · rcases List.mem_append.mp h with h | h
      · obtain ⟨p, hp, e⟩ := List.mem_map.mp h
        obtain ⟨cs, e2⟩ := rds_pre a _ p hp
        rw [e, cps_l] at e2
        have := congrArg List.length e2
        simp at this
      · obtain ⟨p, hp, e⟩ := List.mem_map.mp h
        obtain ⟨cs, e2⟩ := rds_pre b _ p hp
        rw [e, cps_r] at e2
        have := congrArg List.length e2
        simp at this
    · obtain ⟨p, hp, rfl⟩ := List.mem_map.mp hx
      obtain ⟨p', hp', rfl⟩ := List.mem_map.mp hy
      obtain ⟨cs, e2⟩ := rds_pre a _ p hp
      obtain ⟨cs', e3⟩ := rds_pre b _ p' hp'
      rw [e, e3, cps_l, cps_r, List.append_assoc, List.append_assoc] at e2
      have := List.append_cancel_left e2
      simp at this
def wys (m : M) : List Str := [("" : Str)] ++ (rds m "").map (fun p : Str × M => p.1 ++ ("l" : Str)) ++ (rds m "").map (fun p : Str × M => p.1 ++ ("r" : Str))
theorem wys_iff (m : M) (w : Str) : w ∈ wys m ↔ (atW m w.cps.toList).isSome = true := by
  have ap : ∀ (p : Str × M) (c : Nat), p ∈ rds m "" → (∃ l r a b, p.2 = .rod l r a b) → c = 108 ∨ c = 114 → (atW m (p.1 ++ (⟨#[c]⟩ : Str)).cps.toList).isSome = true := fun p c hp hr hc => by
    have e : (p.1 ++ (⟨#[c]⟩ : Str)).cps.toList = p.1.cps.toList ++ [c] := Array.toList_append
    rw [e, atW_appB _ _ _ _ (rds_at0 hp)]
    obtain ⟨l, r, a, b, ep⟩ := hr
    rw [ep]
    rcases hc with rfl | rfl
    · show (if (108 : Nat) = 108 then atW a [] else _).isSome = true
      rw [if_pos rfl, atW_nil]
      rfl
    · show (if (114 : Nat) = 108 then atW a [] else if (114 : Nat) = 114 then atW b [] else none).isSome = true
      rw [if_neg (by decide), if_pos rfl, atW_nil]
      rfl
  constructor
  · intro h
    unfold wys at h
    rcases List.mem_append.mp h with h | h
    · rcases List.mem_append.mp h with h | h
      · rw [List.mem_singleton.mp h, show ("" : Str).cps.toList = [] by decide +kernel, atW_nil]
        rfl
      · obtain ⟨p, hp, rfl⟩ := List.mem_map.mp h
        rw [eL]
        exact ap p 108 hp (rds_rod m "" p hp) (.inl rfl)
    · obtain ⟨p, hp, rfl⟩ := List.mem_map.mp h
      rw [eR]
      exact ap p 114 hp (rds_rod m "" p hp) (.inr rfl)
  · intro h
    unfold wys
    rcases List.eq_nil_or_concat w.cps.toList with e | ⟨cs, c, e⟩
    · have := str_nil e
      subst this
      simp
    · have ew : w = (⟨cs.toArray⟩ : Str) ++ (⟨#[c]⟩ : Str) := by
        show w = ⟨cs.toArray ++ #[c]⟩
        obtain ⟨cps⟩ := w
        congr 1
        apply Array.ext'
        rw [show cps.toList = cs ++ [c] from by simpa using e]
        simp
      have ecs : (⟨cs.toArray⟩ : Str).cps.toList = cs := by simp
      rw [e, List.concat_eq_append] at h
      cases hq : atW m cs with
      | none => rw [atW_none_app _ _ _ hq] at h; cases h
      | some p =>
        rw [atW_appB _ _ _ _ hq] at h
        cases p with
        | wt n => cases h
        | rod l r a b =>
          have hin := rds_in (m := m) (w := ⟨cs.toArray⟩) (by rw [ecs]; exact hq)
          have h : (if c = 108 then atW a [] else if c = 114 then atW b [] else none).isSome = true := h
          by_cases h1 : c = 108
          · subst h1
            rw [ew, ← eL]
            exact List.mem_append_left _ (List.mem_append_right _ (List.mem_map.mpr ⟨_, hin, rfl⟩))
          · rw [if_neg h1] at h
            by_cases h2 : c = 114
            · subst h2
              rw [ew, ← eR]
              exact List.mem_append_right _ (List.mem_map.mpr ⟨_, hin, rfl⟩)
            · rw [if_neg h2] at h
              cases h
def kvR (m : M) : List (Key × D) := (rds m "").map fun p => (Sum.inr p.1, enc p.2)
theorem put_allN : ∀ (rs : List (Str × M)) (acc : List (Key × D)), (rs.map (·.1)).Nodup → (∀ p ∈ acc, ∀ r ∈ rs, p.1 ≠ Sum.inr r.1) → (rs.map fun p => ((Sum.inr p.1 : Key), enc p.2)).foldl (fun acc p => putG acc p.1 p.2) acc = acc ++ rs.map fun p => (Sum.inr p.1, enc p.2)
  | [], acc, _, _ => by simp
  | r :: rs, acc, hp, hn => by
    have hp' := List.nodup_cons.mp (show (r.1 :: rs.map (·.1)).Nodup from hp)
    have e : putG acc (Sum.inr r.1) (enc r.2) = acc ++ [(Sum.inr r.1, enc r.2)] := put_new fun p hpm => hn p hpm r (List.mem_cons_self ..)
    show (rs.map fun p => ((Sum.inr p.1 : Key), enc p.2)).foldl _ (putG acc (Sum.inr r.1) (enc r.2)) = _
    rw [e, put_allN rs _ hp'.2]
    · simp
    · intro p hpm q hq
      rcases List.mem_append.mp hpm with z | z
      · exact hn p z q (List.mem_cons_of_mem _ hq)
      · have z' : p = (Sum.inr r.1, enc r.2) := by simpa using z
        subst z'
        exact fun e => hp'.1 (by rw [Sum.inr.inj e]; exact List.mem_map_of_mem hq)
theorem pairs_rd : ∀ rs : List (Str × M), pairsD (rs.map rdD) = some (rs.map fun p => (Sum.inr p.1, enc p.2))
  | [] => rfl
  | r :: rs => by
    have := pairs_rd rs
    simp only [List.map_cons, rdD, pairsD, keyD, this]
theorem dct_rods {m : M} {A : Ar} {r : Nat} {R : DK} (hd : m.deep ≤ 5) (h : A[r]? = some (.lst ((rds m "").map rdD))) (k : R (.ref A.length) (A ++ [.dct (kvR m)])) : dctR r A R := by
  unfold dctR
  rw [h]
  show dctP ((rds m "").map rdD) A R
  unfold dctP
  rw [pairs_rd]
  have ln := rds_len m ""
  have pm : 2 ^ m.deep ≤ 2 ^ 5 := Nat.pow_le_pow_right (by decide) hd
  refine ⟨by rw [List.length_map]; omega, ?_⟩
  unfold putAllD
  rw [put_allN _ [] (rds_nd m "") (fun p h => by simp at h)]
  exact k
theorem getK_in : ∀ (rs : List (Str × M)) (w : Str) (q : M), (rs.map (·.1)).Nodup → (w, q) ∈ rs → getK (rs.map fun p => ((Sum.inr p.1 : Key), enc p.2)) (Sum.inr w) = some (enc q)
  | [], w, q, _, h => by cases h
  | r :: rs, w, q, hp, h => by
    have hp' := List.nodup_cons.mp (show (r.1 :: rs.map (·.1)).Nodup from hp)
    show (if (Sum.inr r.1 : Key) = Sum.inr w then some (enc r.2) else getK (rs.map fun p => ((Sum.inr p.1 : Key), enc p.2)) (Sum.inr w)) = _
    rcases List.mem_cons.mp h with e | h
    · subst e
      rw [if_pos rfl]
    · rw [if_neg (fun e => hp'.1 (by rw [Sum.inr.inj e]; exact List.mem_map_of_mem (f := (·.1)) h)), getK_in rs w q hp'.2 h]
theorem getK_out : ∀ (rs : List (Str × M)) (w : Str), w ∉ rs.map (·.1) → getK (rs.map fun p => ((Sum.inr p.1 : Key), enc p.2)) (Sum.inr w) = none
  | [], w, _ => rfl
  | r :: rs, w, h => by
    have h : w ∉ r.1 :: rs.map (·.1) := h
    rw [List.mem_cons, not_or] at h
    show (if (Sum.inr r.1 : Key) = Sum.inr w then some (enc r.2) else getK (rs.map fun p => ((Sum.inr p.1 : Key), enc p.2)) (Sum.inr w)) = _
    rw [if_neg (fun e => h.1 (Sum.inr.inj e).symm), getK_out rs w h.2]
theorem getK_rod {m : M} {w : Str} {l r : Int} {a b : M} (h : atW m w.cps.toList = some (.rod l r a b)) : getK (kvR m) (Sum.inr w) = some (enc (.rod l r a b)) := getK_in _ w _ (rds_nd m "") (rds_in h)
theorem getK_noR {m : M} {w : Str} (h : isRd (atW m w.cps.toList) = false) : getK (kvR m) (Sum.inr w) = none := getK_out _ w fun z => by
  obtain ⟨p, hp, rfl⟩ := List.mem_map.mp z
  obtain ⟨l, r, a, b, e⟩ := rds_rod m "" p hp
  rw [rds_at0 hp, e] at h
  cases h
def DuOk (m : M) (word w : Str) (more : D) (res : M ⊕ Nat) : Prop :=
  (word = "shorten" ∧ res = .inl (pln m)) ∨
  (word = "hang" ∧ ∃ p, more = enc p ∧ Wf p ∧ p.deep ≤ 2 ∧ ((atW m w.cps.toList = none ∧ res = .inr 3) ∨ ∃ q x, atW m w.cps.toList = some q ∧ setW m w.cps.toList p = some x ∧ res = if w.cps.toList.length + p.deep ≤ 5 then .inl x else .inr 7)) ∨
  (word = "turn" ∧ ((isRd (atW m w.cps.toList) = false ∧ res = .inr 3) ∨ ∃ l r a b x, atW m w.cps.toList = some (.rod l r a b) ∧ setW m w.cps.toList (.rod r l b a) = some x ∧ res = .inl x)) ∨
  (word = "stretch" ∧ ∃ k, more = .int k ∧ 1 ≤ k ∧ k ≤ 4 ∧ ((isRd (atW m w.cps.toList) = false ∧ res = .inr 3) ∨ ∃ l r a b x, atW m w.cps.toList = some (.rod l r a b) ∧ 1 ≤ l ∧ l ≤ 9 ∧ 1 ≤ r ∧ r ≤ 9 ∧ setW m w.cps.toList (.rod (l * k) (r * k) a b) = some x ∧ res = if max (l * k) (r * k) ≤ 9 then .inl x else .inr 6))
def resD : M ⊕ Nat → D
  | .inl x => enc x
  | .inr e => rfd e
def deedD (word w : Str) (more : D) : D := .tup [.str word, .str w, more]
def SDue : Ct := fun ds A R _ => ∃ m word w more res, ds = [enc m, deedD word w more] ∧ Wf m ∧ m.deep ≤ 5 ∧ w.length ≤ 100 ∧ DuOk m word w more res ∧ ∀ A', Gr A A' → R (resD res) A'
theorem fl_strs : ∀ ss : List Str, (ss.map D.str).all flD = true
  | [] => rfl
  | s :: ss => by
    show (flD (.str s) && (ss.map D.str).all flD) = true
    rw [fl_strs ss]
    rfl
theorem inF_str (w : Str) : ∀ ss : List Str, inF (.str w) (ss.map D.str) = decide (w ∈ ss)
  | [] => by simp [inF]
  | s :: ss => by
    show (decide (s = w) || inF (.str w) (ss.map D.str)) = _
    rw [inF_str w ss]
    by_cases h : s = w
    · simp [h]
    · simp [h, Ne.symm h]
theorem ninL_ok {A : Ar} {r : Nat} {ss : List Str} {w : Str} {R : DK} (h : A[r]? = some (.lst (ss.map D.str))) (k : R (.bl (!decide (w ∈ ss))) A) : inR true (.str w) r A R := by
  unfold inR
  rw [h]
  refine ⟨rfl, fl_strs ss, ?_⟩
  rw [inF_str]
  exact k
def app (z : Str) : D → D
  | .str s => .str (s ++ z)
  | x => x
theorem wys_D (m : M) : [D.str ""] ++ (((rds m "").map (·.1)).map D.str).map (app "l") ++ (((rds m "").map (·.1)).map D.str).map (app "r") = (wys m).map D.str := by
  unfold wys
  rw [List.map_append, List.map_append, List.map_map, List.map_map, List.map_map, List.map_map, List.map_map, List.map_map]
  rfl
end DP
namespace My
open PySem PySem.Spec PyProof.Rows L2 DP MA
section
variable {P : Program} {w : World} {K : PySem.W.Frag} {mg : Str → Option Value} {base : Heap}
theorem f_due (T : TopD K mg "_law_due" s__law_due p__law_due) (b_dict : mg "dict" = none) (b_list : mg "list" = none) (b_max : mg "max" = none) (F__law_rods : FnX P w K mg base 9 "_law_rods" p__law_rods (spOf mg 2 (SRds 8))) (F__law_shorter : FnX P w K mg base 7 "_law_shorter" p__law_shorter (spOf mg 1 (SPlb 6))) (F__law_put : FnX P w K mg base 6 "_law_put" p__law_put (spOf mg 3 (SWp 6))) (F__law_depth : FnX P w K mg base 12 "_law_depth" p__law_depth (spOf mg 1 (SRw 11))) : FnX P w K mg base 13 "_law_due" p__law_due (spOf mg 2 SDue) := by
  refine fnD T sc__law_due rfl (by decide) fun N RE f cdv B outer s H E hr hR hx ds A R h hl => ?_
  have hu := hr.units
  have nd := sc__law_due.nd
  refine ⟨_, (dss_cons (ds_asg (vr 1) (dg_tup rfl (dgs_cons (dg_name (i := 2) nd rfl (by first | exact Or.inl rfl | exact Or.inr rfl)) (dgs_cons (dg_name (i := 3) nd rfl (by first | exact Or.inl rfl | exact Or.inr rfl)) (dgs_cons (dg_name (i := 4) nd rfl (by first | exact Or.inl rfl | exact Or.inr rfl)) dgs_nil)))))
    (dss_cons (ds_set (i := 5) nd rfl (by first | exact Or.inl rfl | exact Or.inr rfl) (de_cty (call_dictP rfl) d_dict b_dict boot_dict (da_cons (de_call F__law_rods (hr.mono (by omega)) hx (da_cons (vr 0) (da_cons de_str da_nil))) da_nil)))
    (dss_cons (ds_if (t_eq hu (vr 2) de_str) (dss_one (ds_ret (de_call F__law_shorter (hr.mono (by omega)) hx (da_cons (vr 0) da_nil)))) dss_nil)
    (dss_cons (ds_if (t_eq hu (vr 2) de_str) (dss_cons (ds_set (i := 6) nd rfl (by first | exact Or.inl rfl | exact Or.inr rfl) (de_add (de_add (de_lst (da_cons de_str da_nil)) (de_comp none (own := ["_law_rod"]) (frees := []) (ix := []) rfl (di_seq (de_cty (call_listD rfl) d_lsK b_list boot_list (da_cons (vr 5) da_nil))) (fun c => (pg_name (i := 0) (show (["_law_rod"] : List Str).Nodup by decide +kernel) rfl (by first | exact Or.inl rfl | exact Or.inr rfl))) (fun c => (de_add (vr 0) de_str)))) (de_comp none (own := ["_law_rod"]) (frees := []) (ix := []) rfl (di_seq (de_cty (call_listD rfl) d_lsK b_list boot_list (da_cons (vr 5) da_nil))) (fun c => (pg_name (i := 0) (show (["_law_rod"] : List Str).Nodup by decide +kernel) rfl (by first | exact Or.inl rfl | exact Or.inr rfl))) (fun c => (de_add (vr 0) de_str)))))
    (dss_cons (ds_if (t_nin hu (vr 3) (vr 6)) (dss_one (ds_ret (de_tup (da_cons de_str (da_cons de_int da_nil))))) dss_nil)
    (dss_cons (ds_set (i := 7) nd rfl (by first | exact Or.inl rfl | exact Or.inr rfl) (de_call F__law_put (hr.mono (by omega)) hx (da_cons (vr 0) (da_cons (vr 3) (da_cons (vr 4) da_nil)))))
    (dss_one (ds_ret (de_ite (t_le (de_call F__law_depth (hr.mono (by omega)) hx (da_cons (vr 7) da_nil)) de_int) (vr 7) (de_tup (da_cons de_str (da_cons de_int da_nil))))))))) dss_nil)
    (dss_cons (ds_if (t_nin hu (vr 3) (vr 5)) (dss_one (ds_ret (de_tup (da_cons de_str (da_cons de_int da_nil))))) dss_nil)
    (dss_cons (ds_set (i := 8) nd rfl (by first | exact Or.inl rfl | exact Or.inr rfl) (de_ix hu (vr 5) (vr 3) (fun _ _ => rfl)))
    (dss_cons (ds_if (t_eq hu (vr 2) de_str) (dss_one (ds_ret (de_call F__law_put (hr.mono (by omega)) hx (da_cons (vr 0) (da_cons (vr 3) (da_cons (de_tup (da_cons de_str (da_cons (de_ix hu (vr 8) de_int (fun _ _ => rfl)) (da_cons (de_ix hu (vr 8) de_int (fun _ _ => rfl)) (da_cons (de_ix hu (vr 8) de_int (fun _ _ => rfl)) (da_cons (de_ix hu (vr 8) de_int (fun _ _ => rfl)) da_nil)))))) da_nil)))))) dss_nil)
    (dss_cons (ds_if (t_gt (de_mul (de_cb (call_max2 rfl) d_max b_max boot_max (da_cons (de_ix hu (vr 8) de_int (fun _ _ => rfl)) (da_cons (de_ix hu (vr 8) de_int (fun _ _ => rfl)) da_nil))) (vr 4)) de_int) (dss_one (ds_ret (de_tup (da_cons de_str (da_cons de_int da_nil))))) dss_nil)
    (dss_one (ds_ret (de_call F__law_put (hr.mono (by omega)) hx (da_cons (vr 0) (da_cons (vr 3) (da_cons (de_tup (da_cons de_str (da_cons (de_mul (de_ix hu (vr 8) de_int (fun _ _ => rfl)) (vr 4)) (da_cons (de_mul (de_ix hu (vr 8) de_int (fun _ _ => rfl)) (vr 4)) (da_cons (de_ix hu (vr 8) de_int (fun _ _ => rfl)) (da_cons (de_ix hu (vr 8) de_int (fun _ _ => rfl)) da_nil)))))) da_nil)))))))))))))), ?_⟩
  obtain ⟨m, word, w, more, res, rfl, wm, dm, lw, du, q⟩ := h
  have hz : (1000 : Nat) ≤ sizeLine := by decide
  have hwl : w.length = w.cps.toList.length := by simp [Str.length]
  refine ⟨rfl, rfl, _, ⟨m, "", rfl, by omega, by decide +kernel, by decide, rfl⟩, fun A1 q1 g1 h1 l1 => ?_⟩
  refine dct_rods dm h1 ?_
  have ln := rds_len m ""
  have pm : 2 ^ m.deep ≤ 2 ^ 5 := Nat.pow_le_pow_right (by decide) dm
  have hd2 := last_get (A := A1) (c := C.dct (kvR m))
  have g2 : Gr A (A1 ++ [C.dct (kvR m)]) := g1.trans Gr.push
  rcases du with ⟨rfl, rfl⟩ | ⟨rfl, p, rfl, wp, dp, du⟩ | ⟨rfl, du⟩ | ⟨rfl, k, rfl, k1, k4, du⟩
  · exact ⟨rfl, _, ⟨m, rfl, wm.arms, by omega, rfl⟩, fun A3 g3 => q _ (g2.trans g3)⟩
  · have key : (kvR m).map (·.1) = ((rds m "").map (·.1)).map Sum.inr := by unfold kvR; rw [List.map_map, List.map_map]; rfl
    have lks : ((rds m "").map (·.1)).length ≤ 40 := by rw [List.length_map]; omega
    have lkd : (((rds m "").map (·.1)).map D.str).length ≤ 40 := by rw [List.length_map]; exact lks
    have wl : ∀ x ∈ (rds m "").map (·.1), x.length ≤ 10 := fun x hx => by
      obtain ⟨p', hp, rfl⟩ := List.mem_map.mp hx
      have := atW_len _ _ _ (rds_at0 hp)
      have e : p'.1.length = p'.1.cps.toList.length := by simp [Str.length]
      omega
    have l1' : ("l" : Str).length = 1 := by decide +kernel
    have r1' : ("r" : Str).length = 1 := by decide +kernel
    refine ⟨show 1 ≤ sizeLine by decide, lsK_ok (getElem?_push hd2) key (by omega) (it_ok last_get ?_)⟩
    refine cloop_map (f := app "l") last_get _ _ (fun x hx => ?_) (by show 0 + _ ≤ _; omega) ?_
    · obtain ⟨z, hz', rfl⟩ := List.mem_map.mp hx
      have := wl z hz'
      exact ⟨[.str z], rfl, fun Q hQ => ⟨by rw [l1']; omega, hQ⟩⟩
    refine cat_ok (getElem?_push (getElem?_push last_get)) last_get (by simp only [List.length_append, List.length_map] at lkd ⊢; show 1 + _ ≤ _; simp; omega) ?_
    refine lsK_ok (getElem?_push (getElem?_push (getElem?_push (getElem?_push hd2)))) key (by omega) (it_ok last_get ?_)
    refine cloop_map (f := app "r") last_get _ _ (fun x hx => ?_) (by show 0 + _ ≤ _; omega) ?_
    · obtain ⟨z, hz', rfl⟩ := List.mem_map.mp hx
      have := wl z hz'
      exact ⟨[.str z], rfl, fun Q hQ => ⟨by rw [r1']; omega, hQ⟩⟩
    refine cat_ok (getElem?_push (getElem?_push last_get)) last_get (by simp only [List.length_append, List.length_map] at lkd ⊢; simp; omega) ?_
    have gb : ∀ T1 T2 T3 T4 T5 T6 T7 : Ar, Gr A (A1 ++ [C.dct (kvR m)] ++ T1 ++ T2 ++ T3 ++ T4 ++ T5 ++ T6 ++ T7) := fun _ _ _ _ _ _ _ => ((((((g2.trans Gr.push).trans Gr.push).trans Gr.push).trans Gr.push).trans Gr.push).trans Gr.push).trans Gr.push
    refine ninL_ok (ss := wys m) (by rw [last_get, List.nil_append, List.nil_append, wys_D]) ?_
    rcases du with ⟨hn, rfl⟩ | ⟨q0, x, hat, hset, rfl⟩
    · rw [decide_eq_false (fun h => by
        have := (wys_iff m w).mp h
        rw [hn] at this
        cases this)]
      exact ⟨show 2 ≤ sizeLine by decide, q _ (gb _ _ _ _ _ _ _)⟩
    · rw [decide_eq_true ((wys_iff m w).mpr (by rw [hat]; rfl))]
      have hlen := atW_len _ _ _ hat
      have hdp := setW_deep _ m p x hset
      refine ⟨rfl, _, ⟨m, w, p, x, rfl, hset, by omega, by omega, rfl⟩, fun A9 g9 => ?_⟩
      refine ⟨rfl, _, ⟨x, rfl, by omega, rfl⟩, fun A10 g10 => ?_⟩
      have gz := ((gb _ _ _ _ _ _ _).trans g9).trans g10
      refine cD (fun c => ?_) (fun c => ?_)
      · have c : ((x.deep : Nat) : Int) ≤ 5 := c
        rw [if_pos (by omega)] at q
        exact q _ gz
      · have c : ¬ ((x.deep : Nat) : Int) ≤ 5 := c
        rw [if_neg (by omega)] at q
        exact ⟨show 2 ≤ sizeLine by decide, q _ gz⟩
  · refine ind_ok hd2 rfl ?_
    rcases du with ⟨hn, rfl⟩ | ⟨l, r, a, b, x, hat, hset, rfl⟩
    · rw [getK_noR hn]
      exact ⟨show 2 ≤ sizeLine by decide, q _ g2⟩
    · rw [getK_rod hat]
      have hlen := atW_len _ _ _ hat
      refine ixd_ok hd2 rfl (getK_rod hat) ?_
      refine ⟨show 5 ≤ sizeLine by decide, rfl, _, ⟨m, w, .rod r l b a, x, rfl, hset, by omega, by omega, rfl⟩, fun A3 g3 => q _ (g2.trans g3)⟩
  · refine ind_ok hd2 rfl ?_
    rcases du with ⟨hn, rfl⟩ | ⟨l, r, a, b, x, hat, l1, l9, r1, r9, hset, rfl⟩
    · rw [getK_noR hn]
      exact ⟨show 2 ≤ sizeLine by decide, q _ g2⟩
    · rw [getK_rod hat]
      have hlen := atW_len _ _ _ hat
      refine ixd_ok hd2 rfl (getK_rod hat) ?_
      have em : max l r * k = max (l * k) (r * k) := by
        rcases Int.le_total l r with h | h
        · rw [Int.max_eq_right h, Int.max_eq_right (Int.mul_le_mul_of_nonneg_right h (by omega))]
        · rw [Int.max_eq_left h, Int.max_eq_left (Int.mul_le_mul_of_nonneg_right h (by omega))]
      have ei : (if r > l then r else l) = max l r := by split <;> omega
      refine ⟨.inr ⟨by omega, by omega⟩, ?_⟩
      refine cD (fun c => ?_) (fun c => ?_)
      · have c : (if r > l then r else l) * k > 9 := c
        rw [ei, em] at c
        rw [if_neg (by omega)] at q
        exact ⟨show 2 ≤ sizeLine by decide, q _ g2⟩
      · have c : ¬ (if r > l then r else l) * k > 9 := c
        rw [ei, em] at c
        rw [if_pos (by omega)] at q
        exact ⟨.inr ⟨by omega, by omega⟩, .inr ⟨by omega, by omega⟩, show 5 ≤ sizeLine by decide, rfl, _, ⟨m, w, .rod (l * k) (r * k) a b, x, rfl, hset, by omega, by omega, rfl⟩, fun A3 g3 => q _ (g2.trans g3)⟩
end
end My
namespace DP
open PySem PySem.Spec PyProof.Rows L2 MA
def DeedOk (word : Str) (more : D) : Prop := (word = "hang" ∧ ∃ p, more = enc p ∧ Wf p ∧ p.deep ≤ 2) ∨ ((word = "turn" ∨ word = "stretch" ∨ word = "shorten") ∧ ∃ k, more = .int k ∧ 1 ≤ k ∧ k ≤ 4)
def SDd : Ct := fun ds A R _ => ∃ ns t m n, ds = [.fl ns, .ref t, enc m] ∧ Wf m ∧ m.deep ≤ 5 ∧ Tw t n A ∧ n + 300 ≤ 1000000 ∧ ∀ word w more A', DeedOk word more → w.length ≤ 100 → But t A A' → Tw t (n + 300) A' → R (deedD word w more) A'
theorem du_ex {m : M} (wm : Wf m) (dm : m.deep ≤ 5) {word w : Str} {more : D} (h : DeedOk word more) : ∃ res, DuOk m word w more res ∧ ∀ x, res = .inl x → Wf x ∧ x.deep ≤ 5 := by
  have rodw : ∀ l r a b, atW m w.cps.toList = some (.rod l r a b) → Wf (.rod l r a b) := fun l r a b hat => by
    have hin := rds_in hat
    exact (rds_wy m "" .nil wm _ hin).elim fun _ hn => ⟨rds_arms m "" wm.arms _ hin, hn⟩
  rcases h with ⟨rfl, p, rfl, wp, dp⟩ | ⟨h, k, rfl, k1, k4⟩
  · cases hat : atW m w.cps.toList with
    | none => exact ⟨.inr 3, .inr (.inl ⟨rfl, p, rfl, wp, dp, .inl ⟨hat, rfl⟩⟩), fun x hx => by cases hx⟩
    | some q =>
      obtain ⟨x, st, Pt⟩ := put_of w.cps.toList m q p hat
      have hdp := setW_deep _ m p x st
      refine ⟨if w.cps.toList.length + p.deep ≤ 5 then .inl x else .inr 7, .inr (.inl ⟨rfl, p, rfl, wp, dp, .inr ⟨q, x, hat, st, rfl⟩⟩), fun y hy => ?_⟩
      split at hy
      · cases hy
        exact ⟨Pt.wf wm wp, by omega⟩
      · cases hy
  · rcases h with rfl | rfl | rfl
    · cases hr : isRd (atW m w.cps.toList) with
      | false => exact ⟨.inr 3, .inr (.inr (.inl ⟨rfl, .inl ⟨hr, rfl⟩⟩)), fun x hx => by cases hx⟩
      | true =>
        obtain ⟨l, r, a, b, hat⟩ : ∃ l r a b, atW m w.cps.toList = some (.rod l r a b) := by
          cases e : atW m w.cps.toList with
          | none => rw [e] at hr; cases hr
          | some q =>
            rw [e] at hr
            cases q with
            | wt n => cases hr
            | rod l r a b => exact ⟨l, r, a, b, rfl⟩
        have wab := rodw l r a b hat
        obtain ⟨h1, h2, h3, h4, h5, h6⟩ := wab.arms
        have wt : Wf (.rod r l b a) := ⟨⟨h3, h4, h1, h2, h6, h5⟩, fun n hn => wab.nm n (by simp [Mob.names] at hn ⊢; exact hn.symm)⟩
        obtain ⟨x, st, Pt⟩ := put_of w.cps.toList m (.rod l r a b) (.rod r l b a) hat
        have dx := Pt.dp (show max b.deep a.deep + 1 ≤ max a.deep b.deep + 1 by omega)
        exact ⟨.inl x, .inr (.inr (.inl ⟨rfl, .inr ⟨l, r, a, b, x, hat, st, rfl⟩⟩)), fun y hy => by cases hy; exact ⟨Pt.wf wm wt, by omega⟩⟩
    · cases hr : isRd (atW m w.cps.toList) with
      | false => exact ⟨.inr 3, .inr (.inr (.inr ⟨rfl, k, rfl, k1, k4, .inl ⟨hr, rfl⟩⟩)), fun x hx => by cases hx⟩
      | true =>
        obtain ⟨l, r, a, b, hat⟩ : ∃ l r a b, atW m w.cps.toList = some (.rod l r a b) := by
          cases e : atW m w.cps.toList with
          | none => rw [e] at hr; cases hr
          | some q =>
            rw [e] at hr
            cases q with
            | wt n => cases hr
            | rod l r a b => exact ⟨l, r, a, b, rfl⟩
        have wab := rodw l r a b hat
        obtain ⟨h1, h2, h3, h4, h5, h6⟩ := wab.arms
        obtain ⟨x, st, Pt⟩ := put_of w.cps.toList m (.rod l r a b) (.rod (l * k) (r * k) a b) hat
        have dx := Pt.dp (show max a.deep b.deep + 1 ≤ max a.deep b.deep + 1 by omega)
        refine ⟨if max (l * k) (r * k) ≤ 9 then .inl x else .inr 6, .inr (.inr (.inr ⟨rfl, k, rfl, k1, k4, .inr ⟨l, r, a, b, x, hat, h1, h2, h3, h4, st, rfl⟩⟩)), fun y hy => ?_⟩
        split at hy
        · rename_i hle
          cases hy
          have hlk : 1 ≤ l * k := Int.mul_pos (show 0 < l by omega) (show 0 < k by omega)
          have hrk : 1 ≤ r * k := Int.mul_pos (show 0 < r by omega) (show 0 < k by omega)
          have wt : Wf (.rod (l * k) (r * k) a b) := ⟨⟨hlk, by omega, hrk, by omega, h5, h6⟩, wab.nm⟩
          exact ⟨Pt.wf wm wt, by omega⟩
        · cases hy
    · exact ⟨.inl (pln m), .inl ⟨rfl, rfl⟩, fun x hx => by cases hx; exact ⟨pln_wf wm, by rw [pln_dp]; exact dm⟩⟩
end DP
namespace My
open PySem PySem.Spec PyProof.Rows L2 DP MA
section
variable {P : Program} {w : World} {K : PySem.W.Frag} {mg : Str → Option Value} {base : Heap}
theorem f_deed (T : TopD K mg "_law_deed" s__law_deed p__law_deed) (F__law_draw : FnX P w K mg base 3 "_law_draw" p__law_draw (spOf mg 3 SDraw)) (F__law_pick : FnX P w K mg base 4 "_law_pick" p__law_pick (spOf mg 3 SPick)) (F__law_some : FnX P w K mg base 10 "_law_some" p__law_some (spOf mg 3 (SSomeD 2))) (F__law_rods : FnX P w K mg base 9 "_law_rods" p__law_rods (spOf mg 2 (SRds 8))) : FnX P w K mg base 11 "_law_deed" p__law_deed (spOf mg 3 SDd) := by
  refine fnD T sc__law_deed rfl (by decide) fun N RE f cdv B outer s H E hr hR hx ds A R h hl => ?_
  have hu := hr.units
  have nd := sc__law_deed.nd
  refine ⟨_, (dss_cons (ds_set (i := 3) nd rfl (by first | exact Or.inl rfl | exact Or.inr rfl) (de_add (de_comp (some 2) (own := ["_law_way", "_law_rod"]) (frees := []) (ix := []) rfl (di_seq (de_call F__law_rods (hr.mono (by omega)) hx (da_cons (vr 2) (da_cons de_str da_nil)))) (fun c => (pg_tup rfl (pgs_cons (pg_name (i := 0) (show (["_law_way", "_law_rod"] : List Str).Nodup by decide +kernel) rfl (by first | exact Or.inl rfl | exact Or.inr rfl)) (pgs_cons (pg_name (i := 1) (show (["_law_way", "_law_rod"] : List Str).Nodup by decide +kernel) rfl (by first | exact Or.inl rfl | exact Or.inr rfl)) pgs_nil)))) (fun c => (vr 0))) (de_lst (da_cons de_str (da_cons de_str (da_cons de_str (da_cons de_str da_nil)))))))
    (dss_cons (ds_set (i := 4) nd rfl (by first | exact Or.inl rfl | exact Or.inr rfl) (de_call F__law_pick (hr.mono (by omega)) hx (da_cons (vr 0) (da_cons (vr 1) (da_cons (de_lst (da_cons de_str (da_cons de_str (da_cons de_str (da_cons de_str (da_cons de_str (da_cons de_str da_nil))))))) da_nil)))))
    (dss_cons (ds_set (i := 5) nd rfl (by first | exact Or.inl rfl | exact Or.inr rfl) (de_ite (t_eq hu (vr 4) de_str) (de_call F__law_some (hr.mono (by omega)) hx (da_cons (vr 0) (da_cons (vr 1) (da_cons de_int da_nil)))) (de_add de_int (de_call F__law_draw (hr.mono (by omega)) hx (da_cons (vr 0) (da_cons (vr 1) (da_cons de_int da_nil)))))))
    (dss_one (ds_ret (de_tup (da_cons (vr 4) (da_cons (de_call F__law_pick (hr.mono (by omega)) hx (da_cons (vr 0) (da_cons (vr 1) (da_cons (vr 3) da_nil)))) (da_cons (vr 5) da_nil))))))))), ?_⟩
  obtain ⟨ns, t, m, n, rfl, wm, dm, ht, hn, q⟩ := h
  have hz : (1000 : Nat) ≤ sizeLine := by decide
  have ln := rds_len m ""
  have pm : 2 ^ m.deep ≤ 2 ^ 5 := Nat.pow_le_pow_right (by decide) dm
  obtain ⟨y0, hy0, _⟩ := id ht
  have lt0 := lt_of_get hy0
  refine ⟨rfl, _, ⟨m, "", rfl, by omega, by decide +kernel, by decide, rfl⟩, fun A1 q1 g1 h1 l1 => ?_⟩
  refine it_ok h1 ?_
  refine cloop_map (f := fun x => match x with | .tup (z :: _) => z | x => x) h1 _ _ (fun x hx => ?_) (by show 0 + _ ≤ _; rw [List.length_map]; omega) ?_
  · obtain ⟨p, hp, rfl⟩ := List.mem_map.mp hx
    exact ⟨[.str p.1, enc p.2], rfl, fun Q hQ => hQ⟩
  have e1 : ([] : List D) ++ ((rds m "").map rdD).map (fun x => match x with | .tup (z :: _) => z | x => x) = ((rds m "").map (·.1)).map D.str := by
    rw [List.nil_append, List.map_map, List.map_map]
    rfl
  rw [e1]
  refine ⟨show 4 ≤ sizeLine by decide, cat_ok (getElem?_push last_get) last_get (by rw [List.length_map, List.length_map]; show _ + 4 ≤ _; omega) ?_⟩
  have g3 : Gr A (A1 ++ [C.lst (((rds m "").map (·.1)).map D.str)] ++ [C.lst [D.str "", .str "l", .str "rl", .str "x"]] ++ [C.lst (((rds m "").map (·.1)).map D.str ++ [D.str "", .str "l", .str "rl", .str "x"])]) := ((g1.trans Gr.push).trans Gr.push).trans Gr.push
  have hw3 := last_get (A := A1 ++ [C.lst (((rds m "").map (·.1)).map D.str)] ++ [C.lst [D.str "", .str "l", .str "rl", .str "x"]]) (c := C.lst (((rds m "").map (·.1)).map D.str ++ [D.str "", .str "l", .str "rl", .str "x"]))
  obtain ⟨iw, hiw⟩ : ∃ i, i = (A1 ++ [C.lst (((rds m "").map (·.1)).map D.str)] ++ [C.lst [D.str "", .str "l", .str "rl", .str "x"]]).length := ⟨_, rfl⟩
  rw [← hiw] at hw3 ⊢
  have lA1 := g1.len
  have iwt : iw ≠ t := by rw [hiw]; simp only [List.length_append]; omega
  have t3 := ht.gr g3
  generalize A1 ++ [C.lst (((rds m "").map (·.1)).map D.str)] ++ [C.lst [D.str "", .str "l", .str "rl", .str "x"]] ++ [C.lst (((rds m "").map (·.1)).map D.str ++ [D.str "", .str "l", .str "rl", .str "x"])] = A3 at *
  have fin : ∀ (word : Str) (more : D) (A5 : Ar) (n5 : Nat), DeedOk word more → But t A A5 → Tw t n5 A5 → n5 + 1 ≤ n + 300 → A5[iw]? = some (.lst (((rds m "").map (·.1)).map D.str ++ [D.str "", .str "l", .str "rl", .str "x"])) → SPick [.fl ns, .ref t, .ref iw] A5 (fun v A' => 3 ≤ sizeLine ∧ R (.tup [.str word, v, more]) A') RE := fun word more A5 n5 hd b5 t5 h5 hw5 => by
    refine ⟨ns, t, iw, _, n5, rfl, iwt, hw5, by simp, t5, by omega, fun v A6 hv b6 t6 => ⟨by decide, ?_⟩⟩
    obtain ⟨w, rfl, hw⟩ : ∃ w, v = .str w ∧ w.length ≤ 100 := by
      rcases List.mem_append.mp hv with h | h
      · obtain ⟨w, hw, rfl⟩ := List.mem_map.mp h
        obtain ⟨p, hp, rfl⟩ := List.mem_map.mp hw
        have := atW_len _ _ _ (rds_at0 hp)
        have e : p.1.length = p.1.cps.toList.length := by simp [Str.length]
        exact ⟨p.1, rfl, by omega⟩
      · simp only [List.mem_cons, List.not_mem_nil, or_false] at h
        rcases h with rfl | rfl | rfl | rfl
        · exact ⟨_, rfl, by decide +kernel⟩
        · exact ⟨_, rfl, by decide +kernel⟩
        · exact ⟨_, rfl, by decide +kernel⟩
        · exact ⟨_, rfl, by decide +kernel⟩
    exact q word w more A6 hd hw (b5.trans b6) (t6.mono (by omega))
  obtain ⟨y3, hy3, _⟩ := id t3
  have lt3 := lt_of_get hy3
  refine ⟨show 6 ≤ sizeLine by decide, rfl, ns, t, _, [.str "turn", .str "stretch", .str "hang", .str "shorten", .str "turn", .str "hang"], n, rfl, by omega, last_get, by simp, t3.gr Gr.push, by omega, fun v A4 hv b4 t4 => ?_⟩
  have hw4 := b4 iw _ iwt (getElem?_push hw3)
  have b04 : But t A A4 := (g3.trans Gr.push).but.trans b4
  simp only [List.mem_cons, List.not_mem_nil, or_false] at hv
  rcases hv with rfl | rfl | rfl | rfl | rfl | rfl
  · exact ⟨rfl, ns, t, 4, n + 1, rfl, t4, by omega, by decide, fun i A5 i0 i4 b5 t5 => ⟨rfl, fin "turn" (.int (1 + i)) A5 _ (.inr ⟨.inl rfl, 1 + i, rfl, by omega, by omega⟩) (b04.trans b5) t5 (by omega) (b5 iw _ iwt hw4)⟩⟩
  · exact ⟨rfl, ns, t, 4, n + 1, rfl, t4, by omega, by decide, fun i A5 i0 i4 b5 t5 => ⟨rfl, fin "stretch" (.int (1 + i)) A5 _ (.inr ⟨.inr (.inl rfl), 1 + i, rfl, by omega, by omega⟩) (b04.trans b5) t5 (by omega) (b5 iw _ iwt hw4)⟩⟩
  · exact ⟨rfl, ns, t, n + 1, rfl, t4, by omega, fun p A5 wp dp r5 => ⟨rfl, fin "hang" (enc p) A5 _ (.inl ⟨rfl, p, rfl, wp, dp⟩) (b04.trans r5.but) r5.tw (by omega) (r5.but iw _ iwt hw4)⟩⟩
  · exact ⟨rfl, ns, t, 4, n + 1, rfl, t4, by omega, by decide, fun i A5 i0 i4 b5 t5 => ⟨rfl, fin "shorten" (.int (1 + i)) A5 _ (.inr ⟨.inr (.inr rfl), 1 + i, rfl, by omega, by omega⟩) (b04.trans b5) t5 (by omega) (b5 iw _ iwt hw4)⟩⟩
  · exact ⟨rfl, ns, t, 4, n + 1, rfl, t4, by omega, by decide, fun i A5 i0 i4 b5 t5 => ⟨rfl, fin "turn" (.int (1 + i)) A5 _ (.inr ⟨.inl rfl, 1 + i, rfl, by omega, by omega⟩) (b04.trans b5) t5 (by omega) (b5 iw _ iwt hw4)⟩⟩
  · exact ⟨rfl, ns, t, n + 1, rfl, t4, by omega, fun p A5 wp dp r5 => ⟨rfl, fin "hang" (enc p) A5 _ (.inl ⟨rfl, p, rfl, wp, dp⟩) (b04.trans r5.but) r5.tw (by omega) (r5.but iw _ iwt hw4)⟩⟩
end
end My
namespace DP
open PySem PySem.Spec PyProof.Rows L2
def ansL : List (Str × Bool) → Str → Option Bool
  | [], _ => none
  | (n, b) :: r, c => if c = n then some b else ansL r c
theorem KEr.nil {K : PySem.W.Frag} {mg : Str → Option Value} {cv : Value} : KEr K mg cv (ansL []) := fun c C b h _ => by cases h
theorem KEr.cons {K : PySem.W.Frag} {mg : Str → Option Value} {nm : Str} {C : Addr} {cv : Value} {b : Bool} {r : List (Str × Bool)} (hm : mg nm = some (.ref C)) (hC : ExcK K C) (hk : PySem.W.kitOne K (.ref C) cv = some b) (hr : KEr K mg cv (ansL r)) : KEr K mg cv (ansL ((nm, b) :: r)) := fun c C' b' h h' => by
  unfold ansL at h
  split at h
  · rename_i e
    subst e
    cases h
    rw [hm] at h'
    cases h'
    exact ⟨hC, hk⟩
  · exact hr c C' b' h h'
def SWhL : Ct := fun ds A R E => SWh "NoWay" 3 ds A R E ∨ SWh "TooLong" 6 ds A R E ∨ SWh "TooDeep" 7 ds A R E ∨ SWh "Nothing" 9 ds A R E
end DP
namespace My
open PySem PySem.Spec PyProof.Rows L2 DP MA
section
variable {P : Program} {w : World} {K : PySem.W.Frag} {mg : Str → Option Value} {base : Heap}
theorem f_whichL (T : TopD K mg "_law_which" s__law_which p__law_which) (b_isinstance : mg "isinstance" = none) (b_ValueError : mg "ValueError" = none) {a_NoMobile a_NoHall a_NoWeights a_NoWay a_NoNumber a_Never a_TooLong a_TooDeep a_NoText a_Nothing : Addr}
    (m_NoMobile : mg "NoMobile" = some (.ref a_NoMobile)) (m_NoHall : mg "NoHall" = some (.ref a_NoHall)) (m_NoWeights : mg "NoWeights" = some (.ref a_NoWeights)) (m_NoWay : mg "NoWay" = some (.ref a_NoWay)) (m_NoNumber : mg "NoNumber" = some (.ref a_NoNumber)) (m_Never : mg "Never" = some (.ref a_Never)) (m_TooLong : mg "TooLong" = some (.ref a_TooLong)) (m_TooDeep : mg "TooDeep" = some (.ref a_TooDeep)) (m_NoText : mg "NoText" = some (.ref a_NoText)) (m_Nothing : mg "Nothing" = some (.ref a_Nothing))
    (kx_NoMobile : KEr K mg (.ref a_NoMobile) (ansL [("NoWay", false), ("TooLong", false), ("TooDeep", false), ("Nothing", false)])) (kx_NoHall : KEr K mg (.ref a_NoHall) (ansL [("NoWay", false), ("TooLong", false), ("TooDeep", false), ("Nothing", false)])) (kx_NoWeights : KEr K mg (.ref a_NoWeights) (ansL [("NoWay", false), ("TooLong", false), ("TooDeep", false), ("Nothing", false)])) (kx_NoWay : KEr K mg (.ref a_NoWay) (ansL [("NoWay", true), ("TooLong", false), ("TooDeep", false), ("Nothing", false)])) (kx_NoNumber : KEr K mg (.ref a_NoNumber) (ansL [("NoWay", false), ("TooLong", false), ("TooDeep", false), ("Nothing", false)])) (kx_Never : KEr K mg (.ref a_Never) (ansL [("NoWay", false), ("TooLong", false), ("TooDeep", false), ("Nothing", false)])) (kx_TooLong : KEr K mg (.ref a_TooLong) (ansL [("NoWay", false), ("TooLong", true), ("TooDeep", false), ("Nothing", false)])) (kx_TooDeep : KEr K mg (.ref a_TooDeep) (ansL [("NoWay", false), ("TooLong", false), ("TooDeep", true), ("Nothing", false)])) (kx_NoText : KEr K mg (.ref a_NoText) (ansL [("NoWay", false), ("TooLong", false), ("TooDeep", false), ("Nothing", false)])) (kx_Nothing : KEr K mg (.ref a_Nothing) (ansL [("NoWay", false), ("TooLong", false), ("TooDeep", false), ("Nothing", true)])) (kx_ValueError : KEr K mg (.type "ValueError") (ansL [("NoWay", true), ("TooLong", true), ("TooDeep", true), ("Nothing", true)])) : FnH P w K mg base 1 "_law_which" p__law_which (spOf mg 1 SWhL) := by
  refine fnHD T sc__law_which rfl (by decide) fun N f cdv B outer s H E hr ds A R RE h hl => ?_
  have hu : (B.deeper (envOfC "_law_which" (defScope s__law_which) s.heap.objs.size f cdv)).units + 64 < cLine := by
    have := hr.un
    omega
  have nd := sc__law_which.nd
  refine ⟨_, (dss_cons (ds_set (i := 1) nd rfl (by first | exact Or.inl rfl | exact Or.inr rfl) (de_lst (da_cons (de_isE b_isinstance m_NoMobile kx_NoMobile (vr 0)) (da_cons (de_isE b_isinstance m_NoHall kx_NoHall (vr 0)) (da_cons (de_isE b_isinstance m_NoWeights kx_NoWeights (vr 0)) (da_cons (de_isE b_isinstance m_NoWay kx_NoWay (vr 0)) da_nil))))))
    (dss_cons (ds_expr (de_mt PySem.F.plainAttrs_list PySem.F.slot_list_extend PySem.F.type_list_extend mt_extend d_ext (vr 1) (da_cons (de_lst (da_cons (de_isE b_isinstance m_NoNumber kx_NoNumber (vr 0)) (da_cons (de_isE b_isinstance m_Never kx_Never (vr 0)) (da_cons (de_isE b_isinstance m_TooLong kx_TooLong (vr 0)) (da_cons (de_isE b_isinstance m_TooDeep kx_TooDeep (vr 0)) da_nil))))) da_nil)))
    (dss_cons (ds_expr (de_mt PySem.F.plainAttrs_list PySem.F.slot_list_extend PySem.F.type_list_extend mt_extend d_ext (vr 1) (da_cons (de_lst (da_cons (de_isE b_isinstance m_NoText kx_NoText (vr 0)) (da_cons (de_isE b_isinstance m_Nothing kx_Nothing (vr 0)) da_nil))) da_nil)))
    (dss_cons (ds_if (PW.pt (dw_or (t_ne hu (de_mt PySem.F.plainAttrs_list PySem.F.slot_list_count PySem.F.type_list_count mt_count d_count (vr 1) (da_cons de_bl da_nil)) de_int) (dw_or1 (dt_not (dt_val (de_isEB b_isinstance b_ValueError boot_ValueError kx_ValueError (vr 0))))))) (dss_one (ds_ret (de_tup (da_cons de_str (da_cons (de_neg de_int) da_nil))))) dss_nil)
    (dss_one (ds_ret (de_tup (da_cons de_str (da_cons (de_mt PySem.F.plainAttrs_list PySem.F.slot_list_index PySem.F.type_list_index mt_index d_index (vr 1) (da_cons de_bl da_nil)) da_nil))))))))), ?_⟩
  rcases h with ⟨rfl, q⟩ | ⟨rfl, q⟩ | ⟨rfl, q⟩ | ⟨rfl, q⟩
  · refine ⟨show 4 ≤ sizeLine by decide, isL_of last_get, show 4 ≤ sizeLine by decide, ext_ok (getElem?_push last_get) last_get (by decide) ?_⟩
    have h1 := get_set (ys := [D.bl false, D.bl false, D.bl false, D.bl true] ++ [D.bl false, D.bl false, D.bl false, D.bl false]) (getElem?_push (T := [C.lst [D.bl false, D.bl false, D.bl false, D.bl false]]) (last_get (A := A) (c := C.lst [D.bl false, D.bl false, D.bl false, D.bl true])))
    refine ⟨isL_of h1, show 2 ≤ sizeLine by decide, ext_ok (getElem?_push h1) last_get (by decide) ?_⟩
    have h2 := get_set (ys := [D.bl false, D.bl false, D.bl false, D.bl true] ++ [D.bl false, D.bl false, D.bl false, D.bl false] ++ [D.bl false, D.bl false]) (getElem?_push (T := [C.lst [D.bl false, D.bl false]]) h1)
    have h6 : ∀ m, m < 3 → [false, false, false, true, false, false, false, false, false, false][m]? = some false := by decide
    refine ⟨isL_of h2, cnt_ok (bs := [false, false, false, true, false, false, false, false, false, false]) h2 rfl ?_⟩
    refine ⟨isL_of h2, idx_ok (bs := [false, false, false, true, false, false, false, false, false, false]) 3 h2 rfl rfl (fun m c hm h => by rw [h6 m hm] at h; cases h; decide) ⟨show 2 ≤ sizeLine by decide, q _ ?_⟩⟩
    exact ((((Gr.push.trans Gr.push).set (Nat.le_refl _)).trans Gr.push).set (Nat.le_refl _))
  · refine ⟨show 4 ≤ sizeLine by decide, isL_of last_get, show 4 ≤ sizeLine by decide, ext_ok (getElem?_push last_get) last_get (by decide) ?_⟩
    have h1 := get_set (ys := [D.bl false, D.bl false, D.bl false, D.bl false] ++ [D.bl false, D.bl false, D.bl true, D.bl false]) (getElem?_push (T := [C.lst [D.bl false, D.bl false, D.bl true, D.bl false]]) (last_get (A := A) (c := C.lst [D.bl false, D.bl false, D.bl false, D.bl false])))
    refine ⟨isL_of h1, show 2 ≤ sizeLine by decide, ext_ok (getElem?_push h1) last_get (by decide) ?_⟩
    have h2 := get_set (ys := [D.bl false, D.bl false, D.bl false, D.bl false] ++ [D.bl false, D.bl false, D.bl true, D.bl false] ++ [D.bl false, D.bl false]) (getElem?_push (T := [C.lst [D.bl false, D.bl false]]) h1)
    have h6 : ∀ m, m < 6 → [false, false, false, false, false, false, true, false, false, false][m]? = some false := by decide
    refine ⟨isL_of h2, cnt_ok (bs := [false, false, false, false, false, false, true, false, false, false]) h2 rfl ?_⟩
    refine ⟨isL_of h2, idx_ok (bs := [false, false, false, false, false, false, true, false, false, false]) 6 h2 rfl rfl (fun m c hm h => by rw [h6 m hm] at h; cases h; decide) ⟨show 2 ≤ sizeLine by decide, q _ ?_⟩⟩
    exact ((((Gr.push.trans Gr.push).set (Nat.le_refl _)).trans Gr.push).set (Nat.le_refl _))
  · refine ⟨show 4 ≤ sizeLine by decide, isL_of last_get, show 4 ≤ sizeLine by decide, ext_ok (getElem?_push last_get) last_get (by decide) ?_⟩
    have h1 := get_set (ys := [D.bl false, D.bl false, D.bl false, D.bl false] ++ [D.bl false, D.bl false, D.bl false, D.bl true]) (getElem?_push (T := [C.lst [D.bl false, D.bl false, D.bl false, D.bl true]]) (last_get (A := A) (c := C.lst [D.bl false, D.bl false, D.bl false, D.bl false])))
    refine ⟨isL_of h1, show 2 ≤ sizeLine by decide, ext_ok (getElem?_push h1) last_get (by decide) ?_⟩
    have h2 := get_set (ys := [D.bl false, D.bl false, D.bl false, D.bl false] ++ [D.bl false, D.bl false, D.bl false, D.bl true] ++ [D.bl false, D.bl false]) (getElem?_push (T := [C.lst [D.bl false, D.bl false]]) h1)
    have h6 : ∀ m, m < 7 → [false, false, false, false, false, false, false, true, false, false][m]? = some false := by decide
    refine ⟨isL_of h2, cnt_ok (bs := [false, false, false, false, false, false, false, true, false, false]) h2 rfl ?_⟩
    refine ⟨isL_of h2, idx_ok (bs := [false, false, false, false, false, false, false, true, false, false]) 7 h2 rfl rfl (fun m c hm h => by rw [h6 m hm] at h; cases h; decide) ⟨show 2 ≤ sizeLine by decide, q _ ?_⟩⟩
    exact ((((Gr.push.trans Gr.push).set (Nat.le_refl _)).trans Gr.push).set (Nat.le_refl _))
  · refine ⟨show 4 ≤ sizeLine by decide, isL_of last_get, show 4 ≤ sizeLine by decide, ext_ok (getElem?_push last_get) last_get (by decide) ?_⟩
    have h1 := get_set (ys := [D.bl false, D.bl false, D.bl false, D.bl false] ++ [D.bl false, D.bl false, D.bl false, D.bl false]) (getElem?_push (T := [C.lst [D.bl false, D.bl false, D.bl false, D.bl false]]) (last_get (A := A) (c := C.lst [D.bl false, D.bl false, D.bl false, D.bl false])))
    refine ⟨isL_of h1, show 2 ≤ sizeLine by decide, ext_ok (getElem?_push h1) last_get (by decide) ?_⟩
    have h2 := get_set (ys := [D.bl false, D.bl false, D.bl false, D.bl false] ++ [D.bl false, D.bl false, D.bl false, D.bl false] ++ [D.bl false, D.bl true]) (getElem?_push (T := [C.lst [D.bl false, D.bl true]]) h1)
    have h6 : ∀ m, m < 9 → [false, false, false, false, false, false, false, false, false, true][m]? = some false := by decide
    refine ⟨isL_of h2, cnt_ok (bs := [false, false, false, false, false, false, false, false, false, true]) h2 rfl ?_⟩
    refine ⟨isL_of h2, idx_ok (bs := [false, false, false, false, false, false, false, false, false, true]) 9 h2 rfl rfl (fun m c hm h => by rw [h6 m hm] at h; cases h; decide) ⟨show 2 ≤ sizeLine by decide, q _ ?_⟩⟩
    exact ((((Gr.push.trans Gr.push).set (Nat.le_refl _)).trans Gr.push).set (Nat.le_refl _))
end
end My
namespace DP
open PySem PySem.Spec PyProof.Rows L2 MA
def endB (A : Ar) (b r1 : Nat) (ss : List M) (R : DK) : M ⊕ Nat → Prop
  | .inl x => Nx A b r1 ss x R
  | .inr e => ∀ A', Gr A A' → R (rfd e) A'
def SDo : Ct := fun ds A R _ => ∃ b r1 r2 ss tb m word w more, ds = [.ref b, deedD word w more] ∧ Bn A b r1 r2 (ss ++ [m]) tb ∧ ss.length ≤ 100 ∧ tb.length ≤ 100 ∧ w.length ≤ 100 ∧
  ((∃ res, Wf m ∧ m.deep ≤ 5 ∧ DuOk m word w more res ∧ endB A b r1 (ss ++ [m]) R res) ∨
  (word = "undo" ∧ ((ss = [] ∧ ∀ A', Gr A A' → R (rfd 9) A') ∨ (ss ≠ [] ∧ ∀ A', Bn A' b r1 r2 ss (tb ++ [m]) → Bt [r1, r2] A A' → R .non A'))) ∨
  (word = "again" ∧ (∀ y ∈ tb, Wf y) ∧ ((tb = [] ∧ ∀ A', Gr A A' → R (rfd 9) A') ∨ ∃ t y, tb = t ++ [y] ∧ ∀ A', Bn A' b r1 r2 (ss ++ [m] ++ [y]) t → Bt [r1, r2] A A' → R .non A')))
end DP
namespace My
open PySem PySem.Spec PyProof.Rows L2 DP MA
section
variable {P : Program} {w : World} {K : PySem.W.Frag} {mg : Str → Option Value} {base : Heap}
theorem f_do (T : TopD K mg "_law_do" s__law_do p__law_do) {a_HangError a_NoWay a_TooLong a_TooDeep a_Nothing : Addr} (m_HangError : mg "HangError" = some (.ref a_HangError)) (m_NoWay : mg "NoWay" = some (.ref a_NoWay)) (m_TooLong : mg "TooLong" = some (.ref a_TooLong)) (m_TooDeep : mg "TooDeep" = some (.ref a_TooDeep)) (m_Nothing : mg "Nothing" = some (.ref a_Nothing))
    (x1 : PySem.W.exmOne K (.ref a_NoWay) (.ref a_HangError) = some true) (x2 : PySem.W.exmOne K (.ref a_TooLong) (.ref a_HangError) = some true) (x3 : PySem.W.exmOne K (.ref a_TooDeep) (.ref a_HangError) = some true) (x4 : PySem.W.exmOne K (.ref a_Nothing) (.ref a_HangError) = some true)
    (M_Bench_hang : FnM P w K mg base 11 "Bench" "hang" p_Bench_hang (spOf mg 3 SHng)) (M_Bench_stretch : FnM P w K mg base 11 "Bench" "stretch" p_Bench_stretch (spOf mg 3 SStr)) (M_Bench_turn : FnM P w K mg base 11 "Bench" "turn" p_Bench_turn (spOf mg 2 STun)) (M_Bench_undo : FnM P w K mg base 2 "Bench" "undo" p_Bench_undo (spOf mg 1 SUnd)) (M_Bench_again : FnM P w K mg base 2 "Bench" "again" p_Bench_again (spOf mg 1 SAgn)) (M_Bench_shorten : FnM P w K mg base 11 "Bench" "shorten" p_Bench_shorten (spOf mg 1 SSho))
    (H__law_which : FnH P w K mg base 1 "_law_which" p__law_which (spOf mg 1 SWhL)) : FnX P w K mg base 13 "_law_do" p__law_do (spOf mg 2 SDo) := by
  refine fnD T sc__law_do rfl (by decide) fun N RE f cdv B outer s H E hr hR hx ds A R h hl => ?_
  have hu := hr.units
  have nd := sc__law_do.nd
  obtain ⟨okc, hok⟩ : ∃ o : List Str, o = [("NoWay" : Str), "TooLong", "TooDeep", "Nothing"] := ⟨_, rfl⟩
  have hokc : ∀ c C, c ∈ okc → mg c = some (.ref C) → PySem.W.exmOne K (.ref C) (.ref a_HangError) = some true := fun c C hc hm => by
    rw [hok] at hc
    rcases List.mem_cons.mp hc with rfl | hc
    · rw [m_NoWay] at hm; cases hm; exact x1
    rcases List.mem_cons.mp hc with rfl | hc
    · rw [m_TooLong] at hm; cases hm; exact x2
    rcases List.mem_cons.mp hc with rfl | hc
    · rw [m_TooDeep] at hm; cases hm; exact x3
    · rw [List.mem_singleton.mp hc, m_Nothing] at hm; cases hm; exact x4
  refine ⟨_, (dss_cons (ds_asg (vr 1) (dg_tup rfl (dgs_cons (dg_name (i := 2) nd rfl (by first | exact Or.inl rfl | exact Or.inr rfl)) (dgs_cons (dg_name (i := 3) nd rfl (by first | exact Or.inl rfl | exact Or.inr rfl)) (dgs_cons (dg_name (i := 4) nd rfl (by first | exact Or.inl rfl | exact Or.inr rfl)) dgs_nil)))))
    (dss_one (ds_try (i := 5) okc rfl rfl rfl nd rfl rfl m_HangError hokc (fun M RE pn E hx => (dss_cons (ds_if (t_in hu (vr 2) (de_tup (da_cons de_str (da_cons de_str da_nil)))) (dss_one (ds_ret (de_ite (t_eq hu (vr 2) de_str) (de_meth0 M_Bench_undo (vr 0) (hr.mono (by omega)) hx) (de_meth0 M_Bench_again (vr 0) (hr.mono (by omega)) hx)))) dss_nil)
    (dss_cons (ds_if (t_eq hu (vr 2) de_str) (dss_one (ds_ret (de_meth0 M_Bench_shorten (vr 0) (hr.mono (by omega)) hx))) dss_nil)
    (dss_cons (ds_if (t_eq hu (vr 2) de_str) (dss_one (ds_ret (de_meth M_Bench_hang (vr 0) (hr.mono (by omega)) hx (da_cons (vr 3) (da_cons (vr 4) da_nil))))) dss_nil)
    (dss_one (ds_ret (de_ite (t_eq hu (vr 2) de_str) (de_meth M_Bench_turn (vr 0) (hr.mono (by omega)) hx (da_cons (vr 3) da_nil)) (de_meth M_Bench_stretch (vr 0) (hr.mono (by omega)) hx (da_cons (vr 3) (da_cons (vr 4) da_nil)))))))))) (fun M e => (dss_one (ds_ret (de_callH H__law_which (RoomH.of (hr.mono (by omega))) (da_cons (vr 5) da_nil)))))))), ?_⟩
  have hi1 : ("NoWay" : Str) ∈ okc := by rw [hok]; simp
  have hi2 : ("TooLong" : Str) ∈ okc := by rw [hok]; simp
  have hi3 : ("TooDeep" : Str) ∈ okc := by rw [hok]; simp
  have hi4 : ("Nothing" : Str) ∈ okc := by rw [hok]; simp
  obtain ⟨b, r1, r2, ss, tb, m, word, w, more, rfl, hb, ls, lt, lw, h⟩ := h
  have hz : (1000 : Nat) ≤ sizeLine := by decide
  have kw : okA A (.str w) = true := decide_eq_true (by omega)
  have i1 : isI "Bench" "hang" A (.ref b) = true := isI_of hb.ob (look_no (by decide +kernel) (by decide +kernel))
  have i2 : isI "Bench" "stretch" A (.ref b) = true := isI_of hb.ob (look_no (by decide +kernel) (by decide +kernel))
  have i3 : isI "Bench" "turn" A (.ref b) = true := isI_of hb.ob (look_no (by decide +kernel) (by decide +kernel))
  have i4 : isI "Bench" "undo" A (.ref b) = true := isI_of hb.ob (look_no (by decide +kernel) (by decide +kernel))
  have i5 : isI "Bench" "again" A (.ref b) = true := isI_of hb.ob (look_no (by decide +kernel) (by decide +kernel))
  have i6 : isI "Bench" "shorten" A (.ref b) = true := isI_of hb.ob (look_no (by decide +kernel) (by decide +kernel))
  refine ⟨rfl, ?_⟩
  rcases h with ⟨res, wm, dm, du, q⟩ | ⟨rfl, h⟩ | ⟨rfl, wt, h⟩
  · rcases du with ⟨rfl, rfl⟩ | ⟨rfl, p, rfl, wp, dp, du⟩ | ⟨rfl, du⟩ | ⟨rfl, k, rfl, k1, k4, du⟩
    · exact ⟨show 2 ≤ sizeLine by decide, rfl, rfl, i6, rfl, b, r1, r2, ss, tb, m, rfl, hb, by omega, wm, dm, q⟩
    · refine ⟨show 2 ≤ sizeLine by decide, rfl, rfl, i1, rfl, b, r1, r2, ss, tb, m, .str w, enc p, rfl, hb, by omega, wm, dm, kw, okA_enc wp.nm, ?_⟩
      rcases du with ⟨hn, rfl⟩ | ⟨q0, x, hat, hset, rfl⟩
      · exact .inl ⟨hn, fun A' g => ⟨hi1, rfl, .inl ⟨rfl, fun A2 g2 => q _ (g.trans g2)⟩⟩⟩
      · refine .inr (.inr ⟨w, p, q0, x, rfl, hat, rfl, wp, by omega, hset, ?_⟩)
        by_cases c : w.cps.toList.length + p.deep ≤ 5
        · rw [if_pos c] at q ⊢
          exact q
        · rw [if_neg c] at q ⊢
          exact fun A' g => ⟨hi3, rfl, .inr (.inr (.inl ⟨rfl, fun A2 g2 => q _ (g.trans g2)⟩))⟩
    · refine ⟨show 2 ≤ sizeLine by decide, rfl, rfl, i3, rfl, b, r1, r2, ss, tb, m, .str w, rfl, hb, by omega, wm, dm, kw, ?_⟩
      rcases du with ⟨hn, rfl⟩ | ⟨l, r, a, b', x, hat, hset, rfl⟩
      · exact .inl ⟨hn, fun A' g => ⟨hi1, rfl, .inl ⟨rfl, fun A2 g2 => q _ (g.trans g2)⟩⟩⟩
      · exact .inr ⟨w, l, r, a, b', x, rfl, hat, hset, q⟩
    · refine ⟨show 2 ≤ sizeLine by decide, rfl, rfl, i2, rfl, b, r1, r2, ss, tb, m, .str w, .int k, rfl, hb, by omega, wm, dm, kw, rfl, ?_⟩
      rcases du with ⟨hn, rfl⟩ | ⟨l, r, a, b', x, hat, l1, l9, r1', r9, hset, rfl⟩
      · exact .inl ⟨hn, fun A' g => ⟨hi1, rfl, .inl ⟨rfl, fun A2 g2 => q _ (g.trans g2)⟩⟩⟩
      · refine .inr (.inr ⟨w, l, r, a, b', k, x, rfl, hat, rfl, k1, by omega, l1, l9, r1', r9, hset, ?_⟩)
        by_cases c : max (l * k) (r * k) ≤ 9
        · rw [if_pos c] at q ⊢
          exact q
        · rw [if_neg c] at q ⊢
          exact fun A' g => ⟨hi2, rfl, .inr (.inl ⟨rfl, fun A2 g2 => q _ (g.trans g2)⟩)⟩
  · refine ⟨show 2 ≤ sizeLine by decide, rfl, rfl, i4, rfl, b, r1, r2, ss, tb, m, rfl, hb, by omega, by omega, ?_⟩
    rcases h with ⟨rfl, q⟩ | ⟨hne, q⟩
    · exact .inl ⟨rfl, hi4, rfl, .inr (.inr (.inr ⟨rfl, fun A2 g2 => q _ g2⟩))⟩
    · exact .inr ⟨hne, q⟩
  · refine ⟨show 2 ≤ sizeLine by decide, rfl, rfl, i5, rfl, b, r1, r2, ss ++ [m], tb, rfl, hb, by simp; omega, by omega, wt, ?_⟩
    rcases h with ⟨rfl, q⟩ | ⟨t, y, rfl, q⟩
    · exact .inl ⟨rfl, fun A' g => ⟨hi4, rfl, .inr (.inr (.inr ⟨rfl, fun A2 g2 => q _ (g.trans g2)⟩))⟩⟩
    · exact .inr ⟨t, y, rfl, q⟩
end
end My
namespace DP
open PySem PySem.Spec PyProof.Rows L2 MA
theorem Bn.but {A A' : Ar} {b r1 r2 t : Nat} {ss tb : List M} (h : Bn A b r1 r2 ss tb) (k : But t A A') (h1 : b ≠ t) (h2 : r1 ≠ t) (h3 : r2 ≠ t) : Bn A' b r1 r2 ss tb := ⟨k _ _ h1 h.ob, k _ _ h2 h.st, k _ _ h3 h.tk, h.ne⟩
theorem Tw.bt {A A' : Ar} {t n : Nat} {S : List Nat} (h : Tw t n A) (b : Bt S A A') (ht : t ∉ S) : Tw t n A' := by
  obtain ⟨xs, h1, h2⟩ := h
  exact ⟨xs, b.2 _ _ ht h1, h2⟩
theorem slL_ok {A : Ar} {r : Nat} {lo hi : Option Int} {xs : List D} {R : DK} (h : A[r]? = some (.lst xs)) (k : R (.ref A.length) (A ++ [.lst (cutD xs lo hi)])) : slR r lo hi A R := by
  unfold slR
  rw [h]
  exact k
theorem cut_tail (l : List M) : cutD (l.map enc) (some 1) none = (l.drop 1).map enc := by
  unfold cutD
  have e : HT.sIx (l.map enc).length 0 (some 1) = min 1 l.length := by
    rw [List.length_map]
    exact HT.sIx_nat _ _ 1
  rw [e, HT.sIx_none, List.length_map, ← List.map_drop, ← List.map_take]
  congr 1
  cases l with
  | nil => rfl
  | cons y l =>
    have : min 1 (y :: l).length = 1 := by simp
    rw [this, List.take_of_length_le (by simp)]
theorem cut_last (l : List M) (y : M) : cutD ((l ++ [y]).map enc) none (some (-1)) = l.map enc := by
  unfold cutD
  have e : HT.sIx ((l ++ [y]).map enc).length ((l ++ [y]).map enc).length (some (-1)) = l.length := by
    show (if (-1 : Int) < 0 then ((-1 : Int) + (((l ++ [y]).map enc).length : Int)).toNat else min (-1 : Int).toNat ((l ++ [y]).map enc).length) = _
    rw [if_pos (by decide)]
    simp
    omega
  rw [e, HT.sIx_none, List.drop_zero, Nat.sub_zero, List.map_append, List.take_append_of_le_length (by simp), List.take_of_length_le (by simp)]
theorem ne_non {A : Ar} {R : DK} (k : R (.bl false) A) : dataEq true .non .non A R := ne_self rfl rfl (by decide) k
structure St26 (A : Ar) (t b c qp qg r1 r2 s1 s2 n j : Nat) (m0 : M) (ss tb : List M) (x : M) : Prop where
  hb : Bn A b r1 r2 (ss ++ [x]) tb
  hc : Bn A c s1 s2 [m0] []
  hp : A[qp]? = some (.lst ((ss ++ [x]).map enc))
  hg : A[qg]? = some (.lst (tb.map enc))
  wf : ∀ y ∈ ss ++ [x], Wf y ∧ y.deep ≤ 5
  wg : ∀ y ∈ tb, Wf y ∧ y.deep ≤ 5
  ls : ss.length ≤ j
  lt : tb.length ≤ j
  tw : Tw t n A
  d1 : t < b ∧ b < c ∧ b ≤ r1 ∧ b ≤ r2 ∧ b ≤ s1 ∧ b ≤ s2 ∧ b ≤ qp ∧ b ≤ qg
  d2 : s1 ≠ r1 ∧ s1 ≠ r2 ∧ s2 ≠ r1 ∧ s2 ≠ r2 ∧ qp ≠ r1 ∧ qp ≠ r2 ∧ qg ≠ r1 ∧ qg ≠ r2
theorem St26.cne {A : Ar} {t b c qp qg r1 r2 s1 s2 n j : Nat} {m0 : M} {ss tb : List M} {x : M} (S : St26 A t b c qp qg r1 r2 s1 s2 n j m0 ss tb x) : c ≠ r1 ∧ c ≠ r2 := by
  have h := S.hc.ob
  exact ⟨fun e => (by rw [e, S.hb.st] at h; cases h), fun e => (by rw [e, S.hb.tk] at h; cases h)⟩
theorem St26.gr {A A' : Ar} {t b c qp qg r1 r2 s1 s2 n j : Nat} {m0 : M} {ss tb : List M} {x : M} (S : St26 A t b c qp qg r1 r2 s1 s2 n j m0 ss tb x) (g : Gr A A') : St26 A' t b c qp qg r1 r2 s1 s2 n j m0 ss tb x :=
  ⟨S.hb.gr g, S.hc.gr g, g.get S.hp, g.get S.hg, S.wf, S.wg, S.ls, S.lt, S.tw.gr g, S.d1, S.d2⟩
theorem St26.but {A A' : Ar} {t b c qp qg r1 r2 s1 s2 n n' j : Nat} {m0 : M} {ss tb : List M} {x : M} (S : St26 A t b c qp qg r1 r2 s1 s2 n j m0 ss tb x) (k : But t A A') (w : Tw t n' A') : St26 A' t b c qp qg r1 r2 s1 s2 n' j m0 ss tb x := by
  have d := S.d1
  exact ⟨S.hb.but k (by omega) (by omega) (by omega), S.hc.but k (by omega) (by omega) (by omega), k _ _ (by omega) S.hp, k _ _ (by omega) S.hg, S.wf, S.wg, S.ls, S.lt, w, S.d1, S.d2⟩
theorem St26.up {A : Ar} {t b c qp qg r1 r2 s1 s2 n n' j j' : Nat} {m0 : M} {ss tb : List M} {x : M} (S : St26 A t b c qp qg r1 r2 s1 s2 n j m0 ss tb x) (hn : n ≤ n') (hj : j ≤ j') : St26 A t b c qp qg r1 r2 s1 s2 n' j' m0 ss tb x :=
  ⟨S.hb, S.hc, S.hp, S.hg, S.wf, S.wg, Nat.le_trans S.ls hj, Nat.le_trans S.lt hj, S.tw.mono hn, S.d1, S.d2⟩
def e26 (RE : DX) : DTS := sIf (dOr (dTest (dOp neD (dMeth "Bench" "now" 1 SNow RE (dVar 3) dNil) (dOp ixD (dVar 5) (dNeg (dC (D.int 1)))))) (dTest (dOp neD (dMeth "Bench" "deeds" 1 SDds RE (dVar 3) dNil) (dOp subD (dCb lenD (dCons (dVar 5) dNil)) (dC (D.int 1)))))) (sRet (dC (D.bl false))) sNext
theorem end26 {RE : DX} {E : DEnds} {A : Ar} {t b c qp qg r1 r2 s1 s2 n j : Nat} {m0 : M} {ss tb : List M} {x : M} {z0 z1 z2 z4 z6 z7 z8 z9 z10 z11 z12 : Option D} (S : St26 A t b c qp qg r1 r2 s1 s2 n j m0 ss tb x) (hj : j ≤ 1000)
    (k : E.nx [z0, z1, z2, some (.ref b), z4, some (.ref qp), z6, z7, z8, z9, z10, z11, z12] A) : e26 RE E [z0, z1, z2, some (.ref b), z4, some (.ref qp), z6, z7, z8, z9, z10, z11, z12] A := by
  have hb := S.hb
  have wx := S.wf x (by simp)
  have ls := S.ls
  refine ⟨isI_of hb.ob (look_no (by decide +kernel) (by decide +kernel)), rfl, b, r1, r2, ss, tb, x, rfl, hb, ?_⟩
  refine ix_ok S.hp last_ix (neD_encs wx.1.nm wx.1.nm (by omega) ?_)
  refine cN (fun c => absurd rfl c) (fun _ => ?_)
  refine ⟨isI_of hb.ob (look_no (by decide +kernel) (by decide +kernel)), rfl, b, r1, r2, ss ++ [x], tb, rfl, hb, by simp; omega, ?_⟩
  refine len_ok S.hp ?_
  have e : (((ss ++ [x]).length : Nat) : Int) - 1 = ((((ss ++ [x]).map enc).length : Nat) : Int) - 1 := by rw [List.length_map]
  refine cN (fun c => absurd e c) (fun _ => k)
end DP
namespace My
open PySem PySem.Spec PyProof.Rows L2 DP MA
section
variable {P : Program} {w : World} {K : PySem.W.Frag} {mg : Str → Option Value} {base : Heap}
theorem f_law {fo : Addr} {fd : FuncData} (T : Fun K "law" "law" s_law fo fd) (b_range : mg "range" = none) (b_len : mg "len" = none) (F__law_draw : FnX P w K mg base 3 "_law_draw" p__law_draw (spOf mg 3 SDraw)) (F__law_some : FnX P w K mg base 10 "_law_some" p__law_some (spOf mg 3 (SSomeD 3))) (F__law_deed : FnX P w K mg base 11 "_law_deed" p__law_deed (spOf mg 3 SDd)) (F__law_due : FnX P w K mg base 13 "_law_due" p__law_due (spOf mg 2 SDue)) (F__law_do : FnX P w K mg base 13 "_law_do" p__law_do (spOf mg 2 SDo))
    (I_Bench : FnI P w K mg base 10 "Bench" p_Bench___init__ (spOf mg 2 SIni)) (M_Bench_now : FnM P w K mg base 1 "Bench" "now" p_Bench_now (spOf mg 1 SNow)) (M_Bench_deeds : FnM P w K mg base 1 "Bench" "deeds" p_Bench_deeds (spOf mg 1 SDds)) : FnOk P w K mg base (CX1 P w) 16 fo fd p_law (spOf mg 1 SLaw) := by
  refine fnL T sc_law rfl (by decide) fun N RE f cdv B outer s H E hr hR hx ds A R h hl => ?_
  have hu := hr.units
  have nd := sc_law.nd
  refine ⟨_, (dss_cons (ds_set (i := 1) nd rfl (by first | exact Or.inl rfl | exact Or.inr rfl) (de_lst da_nil))
    (dss_cons (ds_set (i := 2) nd rfl (by first | exact Or.inl rfl | exact Or.inr rfl) (de_call F__law_some (hr.mono (by omega)) hx (da_cons (vr 0) (da_cons (vr 1) (da_cons de_int da_nil)))))
    (dss_cons (ds_par (i := 3) (j := 4) rfl nd rfl rfl (by decide) rfl rfl (da_cons (de_make I_Bench (hr.mono (by omega)) hx (da_cons (vr 2) da_nil)) (da_cons (de_make I_Bench (hr.mono (by omega)) hx (da_cons (vr 2) da_nil)) da_nil)) rfl)
    (dss_cons (ds_par (i := 5) (j := 6) rfl nd rfl rfl (by decide) rfl rfl (da_cons (de_lst (da_cons (vr 2) da_nil)) (da_cons (de_lst da_nil) da_nil)) rfl)
    (dss_cons (ds_for ownX rfl (di_range1 b_range (da_cons (de_call F__law_draw (hr.mono (by omega)) hx (da_cons (vr 0) (da_cons (vr 1) (da_cons de_int da_nil)))) da_nil)) (dg_name (i := 7) nd rfl (by first | exact Or.inl rfl | exact Or.inr rfl)) (dss_cons (ds_set (i := 8) nd rfl (by first | exact Or.inl rfl | exact Or.inr rfl) (de_call F__law_draw (hr.mono (by omega)) hx (da_cons (vr 0) (da_cons (vr 1) (da_cons de_int da_nil)))))
    (dss_cons (ds_set (i := 9) nd rfl (by first | exact Or.inl rfl | exact Or.inr rfl) (de_call F__law_deed (hr.mono (by omega)) hx (da_cons (vr 0) (da_cons (vr 1) (da_cons (de_ix hu (vr 5) (de_neg de_int) (fun _ _ => rfl)) da_nil)))))
    (dss_cons (ds_if (t_lt (vr 8) de_int) (dss_cons (ds_set (i := 9) nd rfl (by first | exact Or.inl rfl | exact Or.inr rfl) (de_tup (da_cons (de_ix hu (de_lst (da_cons de_str (da_cons de_str da_nil))) (vr 8) (fun _ _ => rfl)) (da_cons de_str (da_cons de_int da_nil)))))
    (dss_cons (ds_set (i := 10) nd rfl (by first | exact Or.inl rfl | exact Or.inr rfl) (de_ite (t_eq hu (vr 8) de_int) (de_sl (vr 5) (do_some de_int) do_none) (vr 6)))
    (dss_one (ds_set (i := 11) nd rfl (by first | exact Or.inl rfl | exact Or.inr rfl) (de_ite (t_ne hu (vr 10) (de_lst da_nil)) de_non (de_tup (da_cons de_str (da_cons de_int da_nil)))))))) (dss_cons (ds_set (i := 12) nd rfl (by first | exact Or.inl rfl | exact Or.inr rfl) (de_call F__law_due (hr.mono (by omega)) hx (da_cons (de_ix hu (vr 5) (de_neg de_int) (fun _ _ => rfl)) (da_cons (vr 9) da_nil))))
    (dss_one (ds_set (i := 11) nd rfl (by first | exact Or.inl rfl | exact Or.inr rfl) (de_ite (t_eq hu (de_ix hu (vr 12) de_int (fun _ _ => rfl)) de_str) (vr 12) de_non)))))
    (dss_cons (ds_if (t_ne hu (de_call F__law_do (hr.mono (by omega)) hx (da_cons (vr 3) (da_cons (vr 9) da_nil))) (vr 11)) (dss_one (ds_ret de_bl)) dss_nil)
    (dss_cons (ds_if (PW.pt (dw_and (t_is (vr 11) de_non) (dw_and1 (t_eq hu (vr 8) de_int)))) (dss_cons (ds_set (i := 6) nd rfl (by first | exact Or.inl rfl | exact Or.inr rfl) (de_add (vr 6) (de_lst (da_cons (de_ix hu (vr 5) (de_neg de_int) (fun _ _ => rfl)) da_nil))))
    (dss_one (ds_set (i := 5) nd rfl (by first | exact Or.inl rfl | exact Or.inr rfl) (de_sl (vr 5) do_none (do_some (de_neg de_int)))))) (dss_one (ds_if (PW.pt (dw_and (t_is (vr 11) de_non) (dw_and1 (t_eq hu (vr 8) de_int)))) (dss_cons (ds_set (i := 5) nd rfl (by first | exact Or.inl rfl | exact Or.inr rfl) (de_add (vr 5) (de_lst (da_cons (de_ix hu (vr 6) (de_neg de_int) (fun _ _ => rfl)) da_nil))))
    (dss_one (ds_set (i := 6) nd rfl (by first | exact Or.inl rfl | exact Or.inr rfl) (de_sl (vr 6) do_none (do_some (de_neg de_int)))))) (dss_one (ds_if (t_is (vr 11) de_non) (dss_one (ds_par (i := 5) (j := 6) rfl nd rfl rfl (by decide) rfl rfl (da_cons (de_add (vr 5) (de_lst (da_cons (vr 12) da_nil))) (da_cons (de_lst da_nil) da_nil)) rfl)) dss_nil)))))
    (dss_one (ds_if (PW.pt (dw_or (t_ne hu (de_meth0 M_Bench_now (vr 3) (hr.mono (by omega)) hx) (de_ix hu (vr 5) (de_neg de_int) (fun _ _ => rfl))) (dw_or1 (t_ne hu (de_meth0 M_Bench_deeds (vr 3) (hr.mono (by omega)) hx) (de_sub (de_cb c_len d_len b_len PySem.boot_len (da_cons (vr 5) da_nil)) de_int))))) (dss_one (ds_ret de_bl)) dss_nil))))))))
    (dss_one (ds_ret (de_and (e_eq hu (de_meth0 M_Bench_now (vr 4) (hr.mono (by omega)) hx) (vr 2)) (de_one (e_eq hu (de_meth0 M_Bench_deeds (vr 4) (hr.mono (by omega)) hx) de_int)))))))))), ?_⟩
  obtain ⟨ns, rfl, q⟩ := h
  have hz : (3000 : Nat) ≤ sizeLine := by decide
  refine ⟨Nat.zero_le _, rfl, ns, _, 0, rfl, ⟨[], last_get, Nat.le_refl _⟩, by decide, fun m A1 wm dm rr1 => ?_⟩
  have t1 : Tw A.length 200 A1 := rr1.tw
  obtain ⟨y1, hy1, ly1⟩ := id t1
  have lt1 := lt_of_get hy1
  refine ⟨rfl, A1.length, enc m, rfl, last_get, okA_enc wm.nm, .inr ⟨m, rfl, wm, by omega, fun A2 r1 r2 hb2 lr1 lr2 bt2 => ⟨rfl, ?_⟩⟩⟩
  have lr1 : A1.length + 1 ≤ r1 := by simpa using lr1
  have lr2 : A1.length + 1 ≤ r2 := by simpa using lr2
  have l2a := lt_of_get hb2.ob
  have l2b := lt_of_get hb2.st
  have l2c := lt_of_get hb2.tk
  refine ⟨rfl, A2.length, enc m, rfl, last_get, okA_enc wm.nm, .inr ⟨m, rfl, wm, by omega, fun A3 s1 s2 hc3 ls1 ls2 bt3 => ⟨rfl, ?_⟩⟩⟩
  have ls1 : A2.length + 1 ≤ s1 := by simpa using ls1
  have ls2 : A2.length + 1 ≤ s2 := by simpa using ls2
  have hb3 := (hb2.gr (Gr.push (T := [C.ins "Bench" []]))).bt bt3 (by simp; omega) (by simp; omega) (by simp; omega)
  have t2 : Tw A.length 200 A2 := ⟨y1, bt2.2 _ _ (by simp; omega) (getElem?_push hy1), ly1⟩
  have t3 := (t2.gr (Gr.push (T := [C.ins "Bench" []]))).bt bt3 (by simp; omega)
  have l3a := lt_of_get hc3.ob
  have l3b := lt_of_get hc3.st
  have l3c := lt_of_get hc3.tk
  refine ⟨show 1 ≤ sizeLine by decide, Nat.zero_le _, ?_⟩
  have e3 : (A3 ++ [C.lst [enc m]]).length = A3.length + 1 := by simp
  have S4 : St26 (A3 ++ [C.lst [enc m]] ++ [C.lst []]) A.length A1.length A2.length A3.length (A3.length + 1) r1 r2 s1 s2 200 0 m [] [] m := by
    refine ⟨(hb3.gr Gr.push).gr Gr.push, (hc3.gr Gr.push).gr Gr.push, getElem?_push last_get, by rw [← e3]; exact last_get, fun y hy => ?_, fun y hy => (by cases hy), Nat.le_refl _, Nat.le_refl _, (t3.gr Gr.push).gr Gr.push, by omega, by omega⟩
    rw [show y = m by simpa using hy]
    exact ⟨wm, by omega⟩
  refine ⟨rfl, ns, A.length, 11, 200, rfl, S4.tw, by decide, by decide, fun i A5 i0 i11 b5 t5 => ⟨by omega, by omega, ?_⟩⟩
  have S5 : St26 A5 A.length A1.length A2.length A3.length (A3.length + 1) r1 r2 s1 s2 201 0 m [] [] m := by
    have d := S4.d1
    exact ⟨S4.hb.but b5 (by omega) (by omega) (by omega), S4.hc.but b5 (by omega) (by omega) (by omega), b5 _ _ (by omega) S4.hp, b5 _ _ (by omega) S4.hg, S4.wf, S4.wg, S4.ls, S4.lt, t5, S4.d1, S4.d2⟩
  have ek : (rng 0 (i).toNat).length ≤ 10 := by unfold rng; simp; omega
  refine dloop_I (fun rest τ A' => ∃ (ss tb : List M) (x : M) (qp qg r2' j : Nat) (z7 z8 z9 z10 z11 z12 : Option D), rest.length + j ≤ 10 ∧ τ = [some (.fl ns), some (.ref A.length), some (enc m), some (.ref A1.length), some (.ref A2.length), some (.ref qp), some (.ref qg), z7, z8, z9, z10, z11, z12] ∧ St26 A' A.length A1.length A2.length qp qg r1 r2' s1 s2 (201 + 400 * j) j m ss tb x) ?_ ?_ ?_ _ _ _ ⟨[], [], m, A3.length, A3.length + 1, r2, 0, none, none, none, none, none, none, by omega, ?_, S5⟩
  · intro _ _ _ _
    trivial
  · rintro x0 rest τ A6 ⟨ss, tb, x, qp, qg, r2', j, z7, z8, z9, z10, z11, z12, hlen, rfl, S6⟩ Nx hN
    have hlen : rest.length + 1 + j ≤ 10 := hlen
    have d1 := S6.d1
    have wx := S6.wf x (by simp)
    refine ⟨rfl, ns, A.length, 4, _, rfl, S6.tw, by omega, by decide, fun wy A7 w0 w4 b7 t7 => ?_⟩
    refine ix_ok (b7 _ _ (by omega) S6.hp) last_ix ?_
    refine ⟨rfl, ns, A.length, x, _, rfl, wx.1, wx.2, t7, by omega, fun word w more A8 hd lw b8 t8 => ?_⟩
    have S8 := (S6.but b7 t7).but b8 t8
    have ls := S6.ls
    have lt := S6.lt
    have d2 := S6.d2
    clear b7 t7 b8 t8 S6
    have pst : ∀ (a b c d e : Option D), a = a := fun _ _ _ _ _ => rfl
    rcases (show wy = 0 ∨ wy = 1 ∨ 2 ≤ wy by omega) with rfl | rfl | hw2
    · refine ⟨show 2 ≤ sizeLine by decide, ix_ok last_get (v := .str "undo") rfl ⟨show 3 ≤ sizeLine by decide, ?_⟩⟩
      have S9 := S8.gr (Gr.push (T := [C.lst [D.str "undo", .str "again"]]))
      refine slL_ok S9.hp ?_
      rw [cut_tail]
      obtain ⟨p1, p2⟩ := encs_data ((ss ++ [x]).drop 1) fun y hy => (S9.wf y (List.mem_of_mem_drop hy)).1
      refine ⟨Nat.zero_le _, ne_ref_nil last_get p1 p2 ?_⟩
      have S11 := (S9.gr (Gr.push (T := [C.lst (((ss ++ [x]).drop 1).map enc)]))).gr (Gr.push (T := [C.lst []]))
      generalize A8 ++ [C.lst [D.str "undo", .str "again"]] ++ [C.lst (((ss ++ [x]).drop 1).map enc)] ++ [C.lst []] = A11 at *
      clear S8 S9 p1 p2
      cases ss with
      | nil =>
        refine ⟨show 2 ≤ sizeLine by decide, ?_⟩
        refine ⟨rfl, A1.length, r1, r2', [], tb, x, "undo", "", .int 0, rfl, S11.hb, by decide, by omega, by decide +kernel, .inr (.inl ⟨rfl, .inl ⟨rfl, fun A12 g12 => ?_⟩⟩)⟩
        refine q_rfd (neg := true) ?_
        exact end26 (S11.gr g12) (by omega) (hN _ _ ⟨[], tb, x, qp, qg, r2', j + 1, _, _, _, _, _, _, by omega, rfl, (S11.gr g12).up (by omega) (by omega)⟩)
      | cons y0 ss0 =>
        rw [decide_eq_false (by simp)]
        refine ⟨rfl, A1.length, r1, r2', y0 :: ss0, tb, x, "undo", "", .int 0, rfl, S11.hb, by omega, by omega, by decide +kernel, .inr (.inl ⟨rfl, .inr ⟨by simp, fun A12 hb12 bt12 => ?_⟩⟩)⟩
        refine ne_non ?_
        obtain ⟨ss2, y, ey⟩ : ∃ ss2 y, y0 :: ss0 = ss2 ++ [y] := ⟨(y0 :: ss0).dropLast, (y0 :: ss0).getLast (by simp), (List.dropLast_concat_getLast (by simp)).symm⟩
        have cne := S11.cne
        have hc12 := S11.hc.bt bt12 (by simp; omega) (by simp; omega) (by simp; omega)
        have hp12 := bt12.2 qp _ (by simp; omega) S11.hp
        have hg12 := bt12.2 qg _ (by simp; omega) S11.hg
        have t12 := S11.tw.bt bt12 (by simp; omega)
        have l12a := lt_of_get hb12.ob
        have l12b := lt_of_get hb12.st
        have l12c := lt_of_get hb12.tk
        refine ix_ok hp12 last_ix ⟨show 1 ≤ sizeLine by decide, cat_ok (getElem?_push hg12) last_get (by rw [List.length_map]; show _ + 1 ≤ _; omega) ?_⟩
        refine slL_ok (getElem?_push (getElem?_push hp12)) ?_
        rw [cut_last, ey]
        have e13 : (A12 ++ [C.lst [enc x]]).length = A12.length + 1 := by simp
        have S15 : St26 (A12 ++ [C.lst [enc x]] ++ [C.lst (tb.map enc ++ [enc x])] ++ [C.lst ((ss2 ++ [y]).map enc)]) A.length A1.length A2.length (A12 ++ [C.lst [enc x]] ++ [C.lst (tb.map enc ++ [enc x])]).length (A12 ++ [C.lst [enc x]]).length r1 r2' s1 s2 (201 + 400 * (j + 1)) (j + 1) m ss2 (tb ++ [x]) y := by
          have g15 : ∀ T1 T2 T3 : Ar, Gr A12 (A12 ++ T1 ++ T2 ++ T3) := fun _ _ _ => (Gr.push.trans Gr.push).trans Gr.push
          have el := congrArg List.length ey
          simp only [List.length_append, List.length_singleton, List.length_cons] at el ls
          have dd := S11.d1
          have e14 : (A12 ++ [C.lst [enc x]] ++ [C.lst (tb.map enc ++ [enc x])]).length = A12.length + 2 := by simp
          refine ⟨by rw [← ey]; exact hb12.gr (g15 _ _ _), hc12.gr (g15 _ _ _), last_get, ?_, fun u hu => S11.wf u (by rw [← ey] at hu; exact List.mem_append_left _ hu), fun u hu => ?_, by omega, by rw [List.length_append]; show _ + 1 ≤ _; omega, (t12.gr (g15 _ _ _)).mono (by omega), by omega, by omega⟩
          · rw [getElem?_push last_get, List.map_append]
            rfl
          · rcases List.mem_append.mp hu with h | h
            · exact S11.wg u h
            · rw [List.mem_singleton.mp h]; exact S11.wf x (by simp)
        exact end26 S15 (by omega) (hN _ _ ⟨ss2, tb ++ [x], y, _, _, r2', j + 1, _, _, _, _, _, _, by omega, rfl, S15⟩)
    · refine ⟨show 2 ≤ sizeLine by decide, ix_ok last_get (v := .str "again") rfl ⟨show 3 ≤ sizeLine by decide, ?_⟩⟩
      have S9 := S8.gr (Gr.push (T := [C.lst [D.str "undo", .str "again"]]))
      obtain ⟨p1, p2⟩ := encs_data tb fun y hy => (S9.wg y hy).1
      refine ⟨Nat.zero_le _, ne_ref_nil S9.hg p1 p2 ?_⟩
      have S11 := S9.gr (Gr.push (T := [C.lst []]))
      generalize A8 ++ [C.lst [D.str "undo", .str "again"]] ++ [C.lst []] = A11 at *
      clear S8 S9 p1 p2
      rcases List.eq_nil_or_concat tb with rfl | ⟨tt, y, ety⟩
      · refine ⟨show 2 ≤ sizeLine by decide, ?_⟩
        refine ⟨rfl, A1.length, r1, r2', ss, [], x, "again", "", .int 0, rfl, S11.hb, by omega, by decide, by decide +kernel, .inr (.inr ⟨rfl, fun u hu => (S11.wg u hu).1, .inl ⟨rfl, fun A12 g12 => ?_⟩⟩)⟩
        refine q_rfd (neg := true) ?_
        exact end26 (S11.gr g12) (by omega) (hN _ _ ⟨ss, [], x, qp, qg, r2', j + 1, _, _, _, _, _, _, by omega, rfl, (S11.gr g12).up (by omega) (by omega)⟩)
      · rw [List.concat_eq_append] at ety
        subst ety
        rw [decide_eq_false (by simp)]
        refine ⟨rfl, A1.length, r1, r2', ss, tt ++ [y], x, "again", "", .int 0, rfl, S11.hb, by omega, by omega, by decide +kernel, .inr (.inr ⟨rfl, fun u hu => (S11.wg u hu).1, .inr ⟨tt, y, rfl, fun A12 hb12 bt12 => ?_⟩⟩)⟩
        refine ne_non ?_
        have cne := S11.cne
        have hc12 := S11.hc.bt bt12 (by simp; omega) (by simp; omega) (by simp; omega)
        have hp12 := bt12.2 qp _ (by simp; omega) S11.hp
        have hg12 := bt12.2 qg _ (by simp; omega) S11.hg
        have t12 := S11.tw.bt bt12 (by simp; omega)
        have l12a := lt_of_get hb12.ob
        have l12b := lt_of_get hb12.st
        have l12c := lt_of_get hb12.tk
        refine ix_ok hg12 last_ix ⟨show 1 ≤ sizeLine by decide, cat_ok (getElem?_push hp12) last_get (by rw [List.length_map, List.length_append]; show _ + 1 + 1 ≤ _; omega) ?_⟩
        refine slL_ok (getElem?_push (getElem?_push hg12)) ?_
        rw [cut_last]
        have S15 : St26 (A12 ++ [C.lst [enc y]] ++ [C.lst ((ss ++ [x]).map enc ++ [enc y])] ++ [C.lst (tt.map enc)]) A.length A1.length A2.length (A12 ++ [C.lst [enc y]]).length (A12 ++ [C.lst [enc y]] ++ [C.lst ((ss ++ [x]).map enc ++ [enc y])]).length r1 r2' s1 s2 (201 + 400 * (j + 1)) (j + 1) m (ss ++ [x]) tt y := by
          have g15 : ∀ T1 T2 T3 : Ar, Gr A12 (A12 ++ T1 ++ T2 ++ T3) := fun _ _ _ => (Gr.push.trans Gr.push).trans Gr.push
          simp only [List.length_append, List.length_singleton] at lt
          have dd := S11.d1
          have e13 : (A12 ++ [C.lst [enc y]]).length = A12.length + 1 := by simp
          have e14 : (A12 ++ [C.lst [enc y]] ++ [C.lst ((ss ++ [x]).map enc ++ [enc y])]).length = A12.length + 2 := by simp
          refine ⟨hb12.gr (g15 _ _ _), hc12.gr (g15 _ _ _), ?_, last_get, fun u hu => ?_, fun u hu => S11.wg u (List.mem_append_left _ hu), by rw [List.length_append]; show _ + 1 ≤ _; omega, by omega, (t12.gr (g15 _ _ _)).mono (by omega), by omega, by omega⟩
          · rw [getElem?_push last_get, List.map_append (l₁ := ss ++ [x])]
            rfl
          · rcases List.mem_append.mp hu with h | h
            · exact S11.wf u h
            · rw [List.mem_singleton.mp h]; exact S11.wg y (by simp)
        exact end26 S15 (by omega) (hN _ _ ⟨ss ++ [x], tt, y, _, _, r2', j + 1, _, _, _, _, _, _, by omega, rfl, S15⟩)
    · refine cD (fun c => absurd (show wy < 2 from c) (by omega)) (fun _ => ?_)
      refine ix_ok S8.hp last_ix ?_
      obtain ⟨res, du, hres⟩ := du_ex wx.1 wx.2 (w := w) hd
      refine ⟨rfl, x, word, w, more, res, rfl, wx.1, wx.2, lw, du, fun A9 g9 => ?_⟩
      have S9 := S8.gr g9
      clear S8
      cases res with
      | inl y =>
        obtain ⟨wfy, dy⟩ := hres y rfl
        cases y with
        | wt n0 =>
          refine ⟨rfl, A1.length, r1, r2', ss, tb, x, word, w, more, rfl, S9.hb, by omega, by omega, lw, .inl ⟨.inl (Mob.wt n0), wx.1, wx.2, du, fun A12 r12 hb12 l12 bt12 => ?_⟩⟩
          refine ne_non ?_
          refine cD (fun c => absurd (show wy = 0 from c) (by omega)) (fun _ => ?_)
          refine cD (fun c => absurd (show wy = 1 from c) (by omega)) (fun _ => ?_)
          have cne := S9.cne
          have l9a := lt_of_get S9.hc.ob
          have l9b := lt_of_get S9.hc.st
          have l9c := lt_of_get S9.hc.tk
          have l9d := lt_of_get S9.hb.st
          have hc12 := S9.hc.bt bt12 (by simp; omega) (by simp; omega) (by simp; omega)
          have bq : qp ≠ A1.length := fun e => by
            have h := S9.hb.ob
            rw [← e, S9.hp] at h
            cases h
          have hp12 := bt12.2 qp _ (by simp; omega) S9.hp
          have t12 := S9.tw.bt bt12 (by simp; omega)
          have l12a := lt_of_get hb12.ob
          have l12b := lt_of_get hb12.st
          have l12c := lt_of_get hb12.tk
          have l912 := bt12.1
          refine ⟨show 1 ≤ sizeLine by decide, cat_ok (getElem?_push hp12) last_get (by rw [List.length_map, List.length_append]; show _ + 1 + 1 ≤ _; omega) ⟨Nat.zero_le _, ?_⟩⟩
          have S15 : St26 (A12 ++ [C.lst [enc (Mob.wt n0)]] ++ [C.lst ((ss ++ [x]).map enc ++ [enc (Mob.wt n0)])] ++ [C.lst []]) A.length A1.length A2.length (A12 ++ [C.lst [enc (Mob.wt n0)]]).length (A12 ++ [C.lst [enc (Mob.wt n0)]] ++ [C.lst ((ss ++ [x]).map enc ++ [enc (Mob.wt n0)])]).length r1 r12 s1 s2 (201 + 400 * (j + 1)) (j + 1) m (ss ++ [x]) [] (Mob.wt n0) := by
            have g15 : ∀ T1 T2 T3 : Ar, Gr A12 (A12 ++ T1 ++ T2 ++ T3) := fun _ _ _ => (Gr.push.trans Gr.push).trans Gr.push
            have dd := S9.d1
            have e13 : (A12 ++ [C.lst [enc (Mob.wt n0)]]).length = A12.length + 1 := by simp
            have e14 : (A12 ++ [C.lst [enc (Mob.wt n0)]] ++ [C.lst ((ss ++ [x]).map enc ++ [enc (Mob.wt n0)])]).length = A12.length + 2 := by simp
            refine ⟨hb12.gr (g15 _ _ _), hc12.gr (g15 _ _ _), ?_, last_get, fun u hu => ?_, fun u hu => (by cases hu), by rw [List.length_append]; show _ + 1 ≤ _; omega, Nat.zero_le _, (t12.gr (g15 _ _ _)).mono (by omega), by omega, by omega⟩
            · rw [getElem?_push last_get, List.map_append (l₁ := ss ++ [x])]
              rfl
            · rcases List.mem_append.mp hu with h | h
              · exact S9.wf u h
              · rw [List.mem_singleton.mp h]; exact ⟨wfy, dy⟩
          exact end26 S15 (by omega) (hN _ _ ⟨ss ++ [x], [], (Mob.wt n0), _, _, r12, j + 1, _, _, _, _, _, _, by omega, rfl, S15⟩)
        | rod l0 r0 a0 b0 =>
          refine ⟨rfl, A1.length, r1, r2', ss, tb, x, word, w, more, rfl, S9.hb, by omega, by omega, lw, .inl ⟨.inl (Mob.rod l0 r0 a0 b0), wx.1, wx.2, du, fun A12 r12 hb12 l12 bt12 => ?_⟩⟩
          refine ne_non ?_
          refine cD (fun c => absurd (show wy = 0 from c) (by omega)) (fun _ => ?_)
          refine cD (fun c => absurd (show wy = 1 from c) (by omega)) (fun _ => ?_)
          have cne := S9.cne
          have l9a := lt_of_get S9.hc.ob
          have l9b := lt_of_get S9.hc.st
          have l9c := lt_of_get S9.hc.tk
          have l9d := lt_of_get S9.hb.st
          have hc12 := S9.hc.bt bt12 (by simp; omega) (by simp; omega) (by simp; omega)
          have bq : qp ≠ A1.length := fun e => by
            have h := S9.hb.ob
            rw [← e, S9.hp] at h
            cases h
          have hp12 := bt12.2 qp _ (by simp; omega) S9.hp
          have t12 := S9.tw.bt bt12 (by simp; omega)
          have l12a := lt_of_get hb12.ob
          have l12b := lt_of_get hb12.st
          have l12c := lt_of_get hb12.tk
          have l912 := bt12.1
          refine ⟨show 1 ≤ sizeLine by decide, cat_ok (getElem?_push hp12) last_get (by rw [List.length_map, List.length_append]; show _ + 1 + 1 ≤ _; omega) ⟨Nat.zero_le _, ?_⟩⟩
          have S15 : St26 (A12 ++ [C.lst [enc (Mob.rod l0 r0 a0 b0)]] ++ [C.lst ((ss ++ [x]).map enc ++ [enc (Mob.rod l0 r0 a0 b0)])] ++ [C.lst []]) A.length A1.length A2.length (A12 ++ [C.lst [enc (Mob.rod l0 r0 a0 b0)]]).length (A12 ++ [C.lst [enc (Mob.rod l0 r0 a0 b0)]] ++ [C.lst ((ss ++ [x]).map enc ++ [enc (Mob.rod l0 r0 a0 b0)])]).length r1 r12 s1 s2 (201 + 400 * (j + 1)) (j + 1) m (ss ++ [x]) [] (Mob.rod l0 r0 a0 b0) := by
            have g15 : ∀ T1 T2 T3 : Ar, Gr A12 (A12 ++ T1 ++ T2 ++ T3) := fun _ _ _ => (Gr.push.trans Gr.push).trans Gr.push
            have dd := S9.d1
            have e13 : (A12 ++ [C.lst [enc (Mob.rod l0 r0 a0 b0)]]).length = A12.length + 1 := by simp
            have e14 : (A12 ++ [C.lst [enc (Mob.rod l0 r0 a0 b0)]] ++ [C.lst ((ss ++ [x]).map enc ++ [enc (Mob.rod l0 r0 a0 b0)])]).length = A12.length + 2 := by simp
            refine ⟨hb12.gr (g15 _ _ _), hc12.gr (g15 _ _ _), ?_, last_get, fun u hu => ?_, fun u hu => (by cases hu), by rw [List.length_append]; show _ + 1 ≤ _; omega, Nat.zero_le _, (t12.gr (g15 _ _ _)).mono (by omega), by omega, by omega⟩
            · rw [getElem?_push last_get, List.map_append (l₁ := ss ++ [x])]
              rfl
            · rcases List.mem_append.mp hu with h | h
              · exact S9.wf u h
              · rw [List.mem_singleton.mp h]; exact ⟨wfy, dy⟩
          exact end26 S15 (by omega) (hN _ _ ⟨ss ++ [x], [], (Mob.rod l0 r0 a0 b0), _, _, r12, j + 1, _, _, _, _, _, _, by omega, rfl, S15⟩)
      | inr e =>
        refine ⟨rfl, A1.length, r1, r2', ss, tb, x, word, w, more, rfl, S9.hb, by omega, by omega, lw, .inl ⟨.inr e, wx.1, wx.2, du, fun A12 g12 => ?_⟩⟩
        refine q_rfd (neg := true) (j := e) ?_
        exact end26 (S9.gr g12) (by omega) (hN _ _ ⟨ss, tb, x, qp, qg, r2', j + 1, _, _, _, _, _, _, by omega, rfl, (S9.gr g12).up (by omega) (by omega)⟩)
  · rintro τ A6 ⟨ss, tb, x, qp, qg, r2', j, z7, z8, z9, z10, z11, z12, hlen, rfl, S6⟩
    have hc : Bn A6 A2.length s1 s2 ([] ++ [m]) [] := S6.hc
    refine ⟨isI_of hc.ob (look_no (by decide +kernel) (by decide +kernel)), rfl, A2.length, s1, s2, [], [], m, rfl, hc, ?_⟩
    refine dv_ok (v := enc m) rfl (eqD_encs wm.nm wm.nm (by omega) ?_)
    rw [decide_eq_true rfl]
    exact ⟨isI_of hc.ob (look_no (by decide +kernel) (by decide +kernel)), rfl, A2.length, s1, s2, [m], [], rfl, hc, by simp, q _⟩
  · rw [← e3]
    rfl
end
end My
namespace L2
open PySem PySem.Spec PyProof.Rows
theorem topD_go {C : Prop} {K : PySem.W.Frag} {h : Heap} {mg : Str → Option Value} {x : Str} {st : Stmt} {ps : List Str} {f : Addr} {oc : Value} {od an : Option Addr} {osl : Array (Option Value)} {kV doc pm cdv ct : Value} (X : K.In h) (G : h.Ns mainGlobals mg)
    (a : PySem.W.nsIn K mainGlobals x = some (some (.ref f))) (l : K.lookup f = some ⟨oc, od, .func (PySem.W.fnOf x x (defArgs st) (defBody st) (defScope st) .none kV doc pm an cdv ct), osl⟩) (c : PySem.W.codeIn K cdv x = true) (k : PySem.W.keepIn K (.ref f) = true)
    (hb : ∀ (kV doc pm : Value) (an : Option Addr) (cdv ct : Value) (us : List Value), us.length = ps.length → bindArgs (PySem.W.fnOf x x (defArgs st) (defBody st) (defScope st) .none kV doc pm an cdv ct) ⟨us, []⟩ = pure (ps.zip us)) (go : TopD K mg x st ps → C) : C :=
  go ⟨f, _, fun_mk l c k, (fun_mk l c k).binds hb, PySem.W.mg_of X G a⟩
theorem cls_go {C : Prop} {K : PySem.W.Frag} {h : Heap} {mg : Str → Option Value} {cl : Str} {Cc : Addr} (X : K.In h) (hm : mg cl = some (.ref Cc)) (pg : PySem.W.plainGet K Cc Str.empty = true) (hd : PySem.W.hasDictIn K Cc = true) (po : PySem.W.plainOver K Cc = true) (sa : PySem.W.findIn K (.ref Cc) "__setattr__" = some (some (.builtin "object.__setattr__"))) (go : Cls K Cc → C) : C := go ⟨pg, hd, po, sa⟩
theorem noa_go {C : Prop} {K : PySem.W.Frag} {h : Heap} {mg : Str → Option Value} {cl f : Str} {Cc : Addr} (X : K.In h) (hm : mg cl = some (.ref Cc)) (n : PySem.W.findIn K (.ref Cc) f = some none) (go : NoAttr K Cc f → C) : C := go n
theorem met_go {C : Prop} {K : PySem.W.Frag} {h : Heap} {mg : Str → Option Value} {cl m qual : Str} {st : Stmt} {ps : List Str} {Cc f : Addr} {oc : Value} {od an : Option Addr} {osl : Array (Option Value)} {kV doc pm cdv ct : Value} (X : K.In h) (hm : mg cl = some (.ref Cc)) (hc : Cls K Cc)
    (a : PySem.W.findIn K (.ref Cc) m = some (some (.ref f))) (i : PySem.W.isFn K (.ref f) = true) (l : K.lookup f = some ⟨oc, od, .func (PySem.W.fnOf m qual (defArgs st) (defBody st) (defScope st) .none kV doc pm an cdv ct), osl⟩) (c : PySem.W.codeIn K cdv qual = true) (k : PySem.W.keepIn K (.ref f) = true)
    (hb : ∀ (kV doc pm : Value) (an : Option Addr) (cdv ct : Value) (us : List Value), us.length = ps.length → bindArgs (PySem.W.fnOf m qual (defArgs st) (defBody st) (defScope st) .none kV doc pm an cdv ct) ⟨us, []⟩ = pure (ps.zip us)) (go : DP.MetD K mg cl m qual st ps → C) : C :=
  go ⟨Cc, f, _, hm, hc, ⟨a, i, k⟩, fun_mk l c k, (fun_mk l c k).binds hb⟩
theorem ini_go {C : Prop} {K : PySem.W.Frag} {h : Heap} {mg : Str → Option Value} {cl qual : Str} {st : Stmt} {ps : List Str} {Cc f : Addr} {oc : Value} {od an : Option Addr} {osl : Array (Option Value)} {kV doc pm cdv ct : Value} (X : K.In h) (hm : mg cl = some (.ref Cc))
    (mk : PySem.W.makesIn K Cc = true) (kc : PySem.W.keepIn K (.ref Cc) = true) (a : PySem.W.findIn K (.ref Cc) "__init__" = some (some (.ref f))) (i : PySem.W.isFn K (.ref f) = true) (l : K.lookup f = some ⟨oc, od, .func (PySem.W.fnOf "__init__" qual (defArgs st) (defBody st) (defScope st) .none kV doc pm an cdv ct), osl⟩) (c : PySem.W.codeIn K cdv qual = true) (k : PySem.W.keepIn K (.ref f) = true)
    (hb : ∀ (kV doc pm : Value) (an : Option Addr) (cdv ct : Value) (us : List Value), us.length = ps.length → bindArgs (PySem.W.fnOf "__init__" qual (defArgs st) (defBody st) (defScope st) .none kV doc pm an cdv ct) ⟨us, []⟩ = pure (ps.zip us)) (go : DP.IniD K mg cl qual st ps → C) : C :=
  go ⟨Cc, f, _, hm, ⟨mk, a, i, kc⟩, fun_mk l c k, (fun_mk l c k).binds hb⟩
theorem exc_go {C : Prop} {K : PySem.W.Frag} {h : Heap} {mg : Str → Option Value} {x : Str} {e : Addr} (X : K.In h) (G : h.Ns mainGlobals mg) (a : PySem.W.nsIn K mainGlobals x = some (some (.ref e))) (go : mg x = some (.ref e) → C) : C := go (PySem.W.mg_of X G a)
theorem cls_some {K : PySem.W.Frag} {C : Addr} {bmB : List Value} {newId : String} (q : PySem.W.excIn K C bmB newId = true) : (PySem.W.clsIn K C).isSome = true := by
  unfold PySem.W.excIn at q
  split at q
  · rename_i ho
    unfold PySem.W.clsIn
    rw [ho]
    rfl
  · cases q
theorem exk_mk {K : PySem.W.Frag} {e : Addr} (h1 : PySem.W.findIn K (.ref e) "__getattribute__" = some (some (.builtin "BaseException.__getattribute__"))) (h2 : PySem.W.findIn K (.ref e) "__getattr__" = some none)
    (h3 : PySem.W.findIn K (.ref e) "__class__" = some (some (.builtin "object.__class__"))) (h4 : PySem.W.specialIn K (.builtin "object.__class__") "__get__" = some (some (.builtin "getset_descriptor.__get__"))) (h5 : PySem.W.takesIn K (.builtin "object.__class__") = some true)
    (h6 : PySem.W.mroIn K e (.type "object") = some true) (h7 : PySem.W.mroIn K e (.type "BaseException") = some true) (x : PySem.W.excIn K e vErr "ValueError.__new__" = true) : ExcK K e := ⟨h1, h2, h3, h4, h5, h6, h7, cls_some x⟩
end L2
namespace My
open PySem PySem.Spec PyProof.Rows L2 DP MA
theorem all {P : Program} {w : World} {K : PySem.W.Frag} {mg : Str → Option Value} {base : Heap} {f : Addr} {fd : FuncData} {e_HangError e_NoMobile e_NoHall e_NoWeights e_NoWay e_NoNumber e_Never e_TooLong e_TooDeep e_NoText e_Nothing : Addr} {a_Bench : Addr} (m_Bench : mg "Bench" = some (.ref a_Bench)) (c_Bench : Cls K a_Bench) (n_stages : NoAttr K a_Bench "stages") (n_taken_back : NoAttr K a_Bench "taken_back") (T_Bench___init__ : IniD K mg "Bench" "Bench.__init__" s_Bench___init__ p_Bench___init__) (T_Bench_now : MetD K mg "Bench" "now" "Bench.now" s_Bench_now p_Bench_now) (T_Bench_change : MetD K mg "Bench" "change" "Bench.change" s_Bench_change p_Bench_change) (T_Bench_turn : MetD K mg "Bench" "turn" "Bench.turn" s_Bench_turn p_Bench_turn) (T_Bench_stretch : MetD K mg "Bench" "stretch" "Bench.stretch" s_Bench_stretch p_Bench_stretch) (T_Bench_hang : MetD K mg "Bench" "hang" "Bench.hang" s_Bench_hang p_Bench_hang) (T_Bench_shorten : MetD K mg "Bench" "shorten" "Bench.shorten" s_Bench_shorten p_Bench_shorten) (T_Bench_undo : MetD K mg "Bench" "undo" "Bench.undo" s_Bench_undo p_Bench_undo) (T_Bench_again : MetD K mg "Bench" "again" "Bench.again" s_Bench_again p_Bench_again) (T_Bench_deeds : MetD K mg "Bench" "deeds" "Bench.deeds" s_Bench_deeds p_Bench_deeds) (T_is_number : TopD K mg "is_number" s_is_number p_is_number) (T_is_name : TopD K mg "is_name" s_is_name p_is_name) (T_is_mobile_within : TopD K mg "is_mobile_within" s_is_mobile_within p_is_mobile_within) (T_is_mobile : TopD K mg "is_mobile" s_is_mobile p_is_mobile) (T_check_mobile : TopD K mg "check_mobile" s_check_mobile p_check_mobile) (T_part_at : TopD K mg "part_at" s_part_at p_part_at) (T_rod_at : TopD K mg "rod_at" s_rod_at p_rod_at) (T_rods_within : TopD K mg "rods_within" s_rods_within p_rods_within) (T_greatest_divisor : TopD K mg "greatest_divisor" s_greatest_divisor p_greatest_divisor) (T_reduced : TopD K mg "reduced" s_reduced p_reduced) (T_with_part : TopD K mg "with_part" s_with_part p_with_part) (T_turned_rod : TopD K mg "turned_rod" s_turned_rod p_turned_rod) (T_plain_below : TopD K mg "plain_below" s_plain_below p_plain_below) (T_turned : TopD K mg "turned" s_turned p_turned) (T_longer : TopD K mg "longer" s_longer p_longer) (T_plain : TopD K mg "plain" s_plain p_plain) (T_put : TopD K mg "put" s_put p_put) (T__law_cell_at : TopD K mg "_law_cell_at" s__law_cell_at p__law_cell_at) (T__law_mixed : TopD K mg "_law_mixed" s__law_mixed p__law_mixed) (T__law_draw : TopD K mg "_law_draw" s__law_draw p__law_draw) (T__law_pick : TopD K mg "_law_pick" s__law_pick p__law_pick) (T__law_mobile : TopD K mg "_law_mobile" s__law_mobile p__law_mobile) (T__law_fresh : TopD K mg "_law_fresh" s__law_fresh p__law_fresh) (T__law_some : TopD K mg "_law_some" s__law_some p__law_some) (T__law_rods : TopD K mg "_law_rods" s__law_rods p__law_rods) (T__law_put : TopD K mg "_law_put" s__law_put p__law_put) (T__law_shorter : TopD K mg "_law_shorter" s__law_shorter p__law_shorter) (T__law_depth : TopD K mg "_law_depth" s__law_depth p__law_depth) (T__law_due : TopD K mg "_law_due" s__law_due p__law_due) (T__law_deed : TopD K mg "_law_deed" s__law_deed p__law_deed) (T__law_which : TopD K mg "_law_which" s__law_which p__law_which) (T__law_do : TopD K mg "_law_do" s__law_do p__law_do) (b_len : mg "len" = none) (b_isinstance : mg "isinstance" = none) (b_bool : mg "bool" = none) (b_int : mg "int" = none) (b_str : mg "str" = none) (b_tuple : mg "tuple" = none) (b_list : mg "list" = none) (b_dict : mg "dict" = none) (b_all : mg "all" = none) (b_range : mg "range" = none) (b_max : mg "max" = none) (b_ValueError : mg "ValueError" = none) (m_HangError : mg "HangError" = some (.ref e_HangError)) (m_NoMobile : mg "NoMobile" = some (.ref e_NoMobile)) (m_NoHall : mg "NoHall" = some (.ref e_NoHall)) (m_NoWeights : mg "NoWeights" = some (.ref e_NoWeights)) (m_NoWay : mg "NoWay" = some (.ref e_NoWay)) (m_NoNumber : mg "NoNumber" = some (.ref e_NoNumber)) (m_Never : mg "Never" = some (.ref e_Never)) (m_TooLong : mg "TooLong" = some (.ref e_TooLong)) (m_TooDeep : mg "TooDeep" = some (.ref e_TooDeep)) (m_NoText : mg "NoText" = some (.ref e_NoText)) (m_Nothing : mg "Nothing" = some (.ref e_Nothing)) (x_NoMobile : PySem.W.excIn K e_NoMobile vErr "ValueError.__new__" = true) (x_NoWay : PySem.W.excIn K e_NoWay vErr "ValueError.__new__" = true) (x_NoNumber : PySem.W.excIn K e_NoNumber vErr "ValueError.__new__" = true) (x_TooLong : PySem.W.excIn K e_TooLong vErr "ValueError.__new__" = true) (x_TooDeep : PySem.W.excIn K e_TooDeep vErr "ValueError.__new__" = true) (x_Nothing : PySem.W.excIn K e_Nothing vErr "ValueError.__new__" = true) (em_NoWay : PySem.W.exmOne K (.ref e_NoWay) (.ref e_HangError) = some true) (em_TooLong : PySem.W.exmOne K (.ref e_TooLong) (.ref e_HangError) = some true) (em_TooDeep : PySem.W.exmOne K (.ref e_TooDeep) (.ref e_HangError) = some true) (em_Nothing : PySem.W.exmOne K (.ref e_Nothing) (.ref e_HangError) = some true) (xk_NoWay : ExcK K e_NoWay) (kq_NoWay_NoMobile : PySem.W.kitOne K (.ref e_NoWay) (.ref e_NoMobile) = some false) (kq_NoWay_NoHall : PySem.W.kitOne K (.ref e_NoWay) (.ref e_NoHall) = some false) (kq_NoWay_NoWeights : PySem.W.kitOne K (.ref e_NoWay) (.ref e_NoWeights) = some false) (kq_NoWay_NoWay : PySem.W.kitOne K (.ref e_NoWay) (.ref e_NoWay) = some true) (kq_NoWay_NoNumber : PySem.W.kitOne K (.ref e_NoWay) (.ref e_NoNumber) = some false) (kq_NoWay_Never : PySem.W.kitOne K (.ref e_NoWay) (.ref e_Never) = some false) (kq_NoWay_TooLong : PySem.W.kitOne K (.ref e_NoWay) (.ref e_TooLong) = some false) (kq_NoWay_TooDeep : PySem.W.kitOne K (.ref e_NoWay) (.ref e_TooDeep) = some false) (kq_NoWay_NoText : PySem.W.kitOne K (.ref e_NoWay) (.ref e_NoText) = some false) (kq_NoWay_Nothing : PySem.W.kitOne K (.ref e_NoWay) (.ref e_Nothing) = some false) (kv_NoWay : PySem.W.kitOne K (.ref e_NoWay) (.type "ValueError") = some true) (xk_TooLong : ExcK K e_TooLong) (kq_TooLong_NoMobile : PySem.W.kitOne K (.ref e_TooLong) (.ref e_NoMobile) = some false) (kq_TooLong_NoHall : PySem.W.kitOne K (.ref e_TooLong) (.ref e_NoHall) = some false) (kq_TooLong_NoWeights : PySem.W.kitOne K (.ref e_TooLong) (.ref e_NoWeights) = some false) (kq_TooLong_NoWay : PySem.W.kitOne K (.ref e_TooLong) (.ref e_NoWay) = some false) (kq_TooLong_NoNumber : PySem.W.kitOne K (.ref e_TooLong) (.ref e_NoNumber) = some false) (kq_TooLong_Never : PySem.W.kitOne K (.ref e_TooLong) (.ref e_Never) = some false) (kq_TooLong_TooLong : PySem.W.kitOne K (.ref e_TooLong) (.ref e_TooLong) = some true) (kq_TooLong_TooDeep : PySem.W.kitOne K (.ref e_TooLong) (.ref e_TooDeep) = some false) (kq_TooLong_NoText : PySem.W.kitOne K (.ref e_TooLong) (.ref e_NoText) = some false) (kq_TooLong_Nothing : PySem.W.kitOne K (.ref e_TooLong) (.ref e_Nothing) = some false) (kv_TooLong : PySem.W.kitOne K (.ref e_TooLong) (.type "ValueError") = some true) (xk_TooDeep : ExcK K e_TooDeep) (kq_TooDeep_NoMobile : PySem.W.kitOne K (.ref e_TooDeep) (.ref e_NoMobile) = some false) (kq_TooDeep_NoHall : PySem.W.kitOne K (.ref e_TooDeep) (.ref e_NoHall) = some false) (kq_TooDeep_NoWeights : PySem.W.kitOne K (.ref e_TooDeep) (.ref e_NoWeights) = some false) (kq_TooDeep_NoWay : PySem.W.kitOne K (.ref e_TooDeep) (.ref e_NoWay) = some false) (kq_TooDeep_NoNumber : PySem.W.kitOne K (.ref e_TooDeep) (.ref e_NoNumber) = some false) (kq_TooDeep_Never : PySem.W.kitOne K (.ref e_TooDeep) (.ref e_Never) = some false) (kq_TooDeep_TooLong : PySem.W.kitOne K (.ref e_TooDeep) (.ref e_TooLong) = some false) (kq_TooDeep_TooDeep : PySem.W.kitOne K (.ref e_TooDeep) (.ref e_TooDeep) = some true) (kq_TooDeep_NoText : PySem.W.kitOne K (.ref e_TooDeep) (.ref e_NoText) = some false) (kq_TooDeep_Nothing : PySem.W.kitOne K (.ref e_TooDeep) (.ref e_Nothing) = some false) (kv_TooDeep : PySem.W.kitOne K (.ref e_TooDeep) (.type "ValueError") = some true) (xk_Nothing : ExcK K e_Nothing) (kq_Nothing_NoMobile : PySem.W.kitOne K (.ref e_Nothing) (.ref e_NoMobile) = some false) (kq_Nothing_NoHall : PySem.W.kitOne K (.ref e_Nothing) (.ref e_NoHall) = some false) (kq_Nothing_NoWeights : PySem.W.kitOne K (.ref e_Nothing) (.ref e_NoWeights) = some false) (kq_Nothing_NoWay : PySem.W.kitOne K (.ref e_Nothing) (.ref e_NoWay) = some false) (kq_Nothing_NoNumber : PySem.W.kitOne K (.ref e_Nothing) (.ref e_NoNumber) = some false) (kq_Nothing_Never : PySem.W.kitOne K (.ref e_Nothing) (.ref e_Never) = some false) (kq_Nothing_TooLong : PySem.W.kitOne K (.ref e_Nothing) (.ref e_TooLong) = some false) (kq_Nothing_TooDeep : PySem.W.kitOne K (.ref e_Nothing) (.ref e_TooDeep) = some false) (kq_Nothing_NoText : PySem.W.kitOne K (.ref e_Nothing) (.ref e_NoText) = some false) (kq_Nothing_Nothing : PySem.W.kitOne K (.ref e_Nothing) (.ref e_Nothing) = some true) (kv_Nothing : PySem.W.kitOne K (.ref e_Nothing) (.type "ValueError") = some true) {t_LONGEST_NAME : Tok} (m_LONGEST_NAME : mg "LONGEST_NAME" = some (.int 3 t_LONGEST_NAME)) {t_LONGEST_ARM : Tok} (m_LONGEST_ARM : mg "LONGEST_ARM" = some (.int 9 t_LONGEST_ARM)) {t_MOST_RODS : Tok} (m_MOST_RODS : mg "MOST_RODS" = some (.int 5 t_MOST_RODS))  (T : Fun K "law" "law" s_law f fd) : FnOk P w K mg base (CX1 P w) 16 f fd p_law spFz := by
  have FnumA := fA_num (P := P) (w := w) (base := base) T_is_number b_isinstance b_bool b_int
  have FnameA := fA_name (P := P) (w := w) (base := base) T_is_name b_isinstance b_str b_len b_all m_LONGEST_NAME
  have FimwA := fA_imw T_is_mobile_within b_isinstance b_str b_tuple b_len m_LONGEST_ARM FnameA FnumA 6
  have FmobA := fA_mob T_is_mobile m_MOST_RODS FimwA
  have FchkA := fA_chk T_check_mobile m_NoMobile x_NoMobile FmobA
  have Fchk := chk_of FchkA
  have Fpart := fB_part (P := P) (w := w) (base := base) T_part_at b_isinstance b_str
  have Frod := fB_rod T_rod_at m_NoWay x_NoWay Fpart
  have Frw := f_rw (P := P) (w := w) (base := base) T_rods_within b_max 7
  have Ftr := f_tr' (P := P) (w := w) (base := base) T_turned_rod
  have Fwp := f_wp (P := P) (w := w) (base := base) T_with_part 6
  have Fturned := fB_turned T_turned Fchk Frod Ftr Fwp
  have Flonger := fB_longer T_longer b_max m_LONGEST_ARM m_NoNumber x_NoNumber m_TooLong x_TooLong Fchk Frod FnumA Fwp
  have Fput := fB_put T_put b_len m_MOST_RODS m_NoWay x_NoWay m_TooDeep x_TooDeep FchkA Fpart Frw Fwp
  have Fgcd := f_gcd (P := P) (w := w) (base := base) T_greatest_divisor
  have Fred := f_reduced T_reduced Fgcd
  have Fplb := f_plb T_plain_below Fred 6
  have Fplain := f_plain T_plain Fchk Fplb
  have Ini := m_init T_Bench___init__ m_Bench c_Bench n_stages n_taken_back FchkA
  have Mnow := m_now (P := P) (w := w) (base := base) T_Bench_now m_Bench c_Bench n_stages
  have Mchg := m_change (P := P) (w := w) (base := base) T_Bench_change m_Bench c_Bench n_stages n_taken_back
  have Mturn := m_turn T_Bench_turn Mchg Mnow Fturned
  have Mstr := m_stretch T_Bench_stretch Mchg Mnow Flonger
  have Mhng := m_hang T_Bench_hang Mchg Mnow Fput
  have Msho := m_shorten T_Bench_shorten Mchg Mnow Fplain
  have Mdds := m_deeds (P := P) (w := w) (base := base) T_Bench_deeds b_len m_Bench c_Bench n_stages
  have Mund := m_undo T_Bench_undo m_Nothing x_Nothing m_Bench c_Bench n_stages n_taken_back Mdds
  have Magn := m_again (P := P) (w := w) (base := base) T_Bench_again m_Nothing x_Nothing m_Bench c_Bench n_stages n_taken_back
  have Fcell := f_cell (P := P) (w := w) (base := base) T__law_cell_at b_len
  have Fmix := f_mixed T__law_mixed Fcell
  have Fdraw := f_draw T__law_draw b_len Fmix
  have Fpick := f_pick T__law_pick b_len Fdraw
  have Fmob := f_mobile T__law_mobile Fdraw Fpick
  have Ffresh := f_fresh (P := P) (w := w) (base := base) T__law_fresh b_len 8
  have Fsome3 := f_some T__law_some Fdraw Fpick Fmob Ffresh 3 (by decide)
  have Fsome2 := f_some T__law_some Fdraw Fpick Fmob Ffresh 2 (by decide)
  have Frds := f_rds (P := P) (w := w) (base := base) T__law_rods 8
  have Flput := f_lput (P := P) (w := w) (base := base) T__law_put 6
  have Fshr := f_shorter (P := P) (w := w) (base := base) T__law_shorter b_max b_range 6
  have Fdpt := f_depth (P := P) (w := w) (base := base) T__law_depth b_max 11
  have Fdue := f_due T__law_due b_dict b_list b_max Frds Fshr Flput Fdpt
  have Fdeed := f_deed T__law_deed Fdraw Fpick Fsome2 Frds
  have Hwh := f_whichL (P := P) (w := w) (base := base) T__law_which b_isinstance b_ValueError m_NoMobile m_NoHall m_NoWeights m_NoWay m_NoNumber m_Never m_TooLong m_TooDeep m_NoText m_Nothing (KEr.cons m_NoWay xk_NoWay kq_NoWay_NoMobile (KEr.cons m_TooLong xk_TooLong kq_TooLong_NoMobile (KEr.cons m_TooDeep xk_TooDeep kq_TooDeep_NoMobile (KEr.cons m_Nothing xk_Nothing kq_Nothing_NoMobile KEr.nil)))) (KEr.cons m_NoWay xk_NoWay kq_NoWay_NoHall (KEr.cons m_TooLong xk_TooLong kq_TooLong_NoHall (KEr.cons m_TooDeep xk_TooDeep kq_TooDeep_NoHall (KEr.cons m_Nothing xk_Nothing kq_Nothing_NoHall KEr.nil)))) (KEr.cons m_NoWay xk_NoWay kq_NoWay_NoWeights (KEr.cons m_TooLong xk_TooLong kq_TooLong_NoWeights (KEr.cons m_TooDeep xk_TooDeep kq_TooDeep_NoWeights (KEr.cons m_Nothing xk_Nothing kq_Nothing_NoWeights KEr.nil)))) (KEr.cons m_NoWay xk_NoWay kq_NoWay_NoWay (KEr.cons m_TooLong xk_TooLong kq_TooLong_NoWay (KEr.cons m_TooDeep xk_TooDeep kq_TooDeep_NoWay (KEr.cons m_Nothing xk_Nothing kq_Nothing_NoWay KEr.nil)))) (KEr.cons m_NoWay xk_NoWay kq_NoWay_NoNumber (KEr.cons m_TooLong xk_TooLong kq_TooLong_NoNumber (KEr.cons m_TooDeep xk_TooDeep kq_TooDeep_NoNumber (KEr.cons m_Nothing xk_Nothing kq_Nothing_NoNumber KEr.nil)))) (KEr.cons m_NoWay xk_NoWay kq_NoWay_Never (KEr.cons m_TooLong xk_TooLong kq_TooLong_Never (KEr.cons m_TooDeep xk_TooDeep kq_TooDeep_Never (KEr.cons m_Nothing xk_Nothing kq_Nothing_Never KEr.nil)))) (KEr.cons m_NoWay xk_NoWay kq_NoWay_TooLong (KEr.cons m_TooLong xk_TooLong kq_TooLong_TooLong (KEr.cons m_TooDeep xk_TooDeep kq_TooDeep_TooLong (KEr.cons m_Nothing xk_Nothing kq_Nothing_TooLong KEr.nil)))) (KEr.cons m_NoWay xk_NoWay kq_NoWay_TooDeep (KEr.cons m_TooLong xk_TooLong kq_TooLong_TooDeep (KEr.cons m_TooDeep xk_TooDeep kq_TooDeep_TooDeep (KEr.cons m_Nothing xk_Nothing kq_Nothing_TooDeep KEr.nil)))) (KEr.cons m_NoWay xk_NoWay kq_NoWay_NoText (KEr.cons m_TooLong xk_TooLong kq_TooLong_NoText (KEr.cons m_TooDeep xk_TooDeep kq_TooDeep_NoText (KEr.cons m_Nothing xk_Nothing kq_Nothing_NoText KEr.nil)))) (KEr.cons m_NoWay xk_NoWay kq_NoWay_Nothing (KEr.cons m_TooLong xk_TooLong kq_TooLong_Nothing (KEr.cons m_TooDeep xk_TooDeep kq_TooDeep_Nothing (KEr.cons m_Nothing xk_Nothing kq_Nothing_Nothing KEr.nil)))) (KEr.cons m_NoWay xk_NoWay kv_NoWay (KEr.cons m_TooLong xk_TooLong kv_TooLong (KEr.cons m_TooDeep xk_TooDeep kv_TooDeep (KEr.cons m_Nothing xk_Nothing kv_Nothing KEr.nil))))
  have Fdo := f_do T__law_do m_HangError m_NoWay m_TooLong m_TooDeep m_Nothing em_NoWay em_TooLong em_TooDeep em_Nothing Mhng Mstr Mturn Mund Magn Msho Hwh
  exact (f_law T b_range b_len Fdraw Fsome3 Fdeed Fdue Fdo Ini Mnow Mdds).imp fun vs H Q E h => sp_fz h
theorem walk {l : PySem.W.OpenLaw} {q : Program} {loose : List Str} {XP : (Str → Option Value) → Heap → Prop} {YP : World → Heap → Prop} {d : DefRec} {K : Params → PySem.W.Frag} (hn : l.most = some 63) (hdf : d.params.defaults = []) (hK : ∀ p, (K p).all (fun p => noL p.2) = true)
    (hY : ∀ (w : World) (h : Heap), YP w h → (K w.params).In h)
    (F : ∀ (w : World) (mg : Str → Option Value) (fa : Addr) (h : Heap), (K w.params).In h → h.Ns mainGlobals mg → mg d.name = some (.ref fa) →
      ∃ fd : FuncData, (∀ (s : Shared) (u : Value), BindsTo s fd ⟨[u], []⟩ [("_law_script", u)]) ∧ ∀ base : Heap, (K w.params).In base → base.Ns mainGlobals mg → FnOk l.prog w (K w.params) mg base (CX1 l.prog w) 16 fa fd ["_law_script"] spFz) :
    PySem.W.WalkO q loose XP YP l.row.toRowW d [] (fun f vs => PySem.call f vs) :=
  L2.walk_of (n := 63) (k := 16) (x := "_law_script") (CX := fun w => CX1 l.prog w) (sp := fun _ => spFz) hn (by decide) hdf ⟨rfl, by decide, by decide⟩ hY F (fun w H a ns _ hO hS => fz_of (hK w.params) hO hS) fun w H s e s' z => by
    obtain ⟨_, _, _, _, _, z⟩ := z
    exact z
theorem law_mk {P : Program} {w : World} {K : PySem.W.Frag} {h : Heap} {mg : Str → Option Value} {fa f3 : Addr} {od3 an3 : Option Addr} {sl3 : Array (Option Value)} {oc3 kV3 dc3 pm3 cd3 ct3 : Value} (X : K.In h) (G : h.Ns mainGlobals mg) (hfa : mg "law" = some (.ref fa))
    (a3 : PySem.W.nsIn K mainGlobals "law" = some (some (.ref f3))) (l3 : K.lookup f3 = some ⟨oc3, od3, .func (PySem.W.fnOf "law" "law" (defArgs s_law) (defBody s_law) (defScope s_law) .none kV3 dc3 pm3 an3 cd3 ct3), sl3⟩) (c3 : PySem.W.codeIn K cd3 "law" = true) (k3 : PySem.W.keepIn K (.ref f3) = true)
    (go : ∀ (base : Heap) {f : Addr} {fd : FuncData}, Fun K "law" "law" s_law f fd → FnOk P w K mg base (CX1 P w) 16 f fd p_law spFz) :
    ∃ fd : FuncData, (∀ (s : Shared) (v : Value), BindsTo s fd ⟨[v], []⟩ [("_law_script", v)]) ∧ ∀ base : Heap, K.In base → base.Ns mainGlobals mg → FnOk P w K mg base (CX1 P w) 16 fa fd ["_law_script"] spFz := by
  have e := hfa.symm.trans (PySem.W.mg_of X G a3)
  cases e
  exact ⟨PySem.W.fnOf "law" "law" (defArgs s_law) (defBody s_law) (defScope s_law) .none kV3 dc3 pm3 an3 cd3 ct3, fun s v => .of_eq rfl, fun base _ _ => go base (fun_mk l3 c3 k3)⟩
end My
open PySem PySem.W PyProof.Rows
set_option maxHeartbeats 0
def PySem.W.Fast.tw16864618592142003386 := ()
def PySem.W.Fast.tw14904681115217272601 := ()
def PySem.W.Fast.tw11898673842065290130 := ()
def PySem.W.Fast.tw4684226298888400098 := ()
def PySem.W.Fast.tw15235614512728720 := ()
def PySem.W.Fast.tw4077048163395320219 := ()
def PySem.W.Fast.tw3520257249291928256 := ()
def PySem.W.Fast.tw15163409612377130007 := ()
def PySem.W.Fast.tw13913613514976480042 := ()
def PySem.W.Fast.tw599730875272715187 := ()
def PySem.W.Fast.tw16053306600634468012 := ()
def PySem.W.Fast.tw8060666987683057360 := ()
def PySem.W.Fast.tw16217903435359918192 := ()
def PySem.W.Fast.tw561727478393794602 := ()
def PySem.W.Fast.tw4683681711962371626 := ()
def PySem.W.Fast.tw16822532161544500889 := ()
def PySem.W.Fast.tw2187251505897268136 := ()
def PySem.W.Fast.tw11024694936033576346 := ()
def PySem.W.Fast.tw12188032599808994241 := ()
def PySem.W.Fast.tw13462424878891718212 := ()
def PySem.W.Fast.tw13861969467909019144 := ()
def PySem.W.Fast.tw855453113358079251 := ()
def PySem.W.Fast.tw15528221797031607849 := ()
def PySem.W.Fast.tw6953138203311097117 := ()
def PySem.W.Fast.tw6148498323302512570 := ()
def PySem.W.Fast.tw11738243743197964597 := ()
def PySem.W.Fast.tw8739830900816887780 := ()
def PySem.W.Fast.tw4734895289157585001 := ()
def PySem.W.Fast.tw14689541978594310382 := ()
def PySem.W.Fast.tw2358075552688931204 := ()
def PySem.W.Fast.tw10741264400317747893 := ()
def PySem.W.Fast.tw2399617604181995578 := ()
def PySem.W.Fast.tw17744993626210230056 := ()
def PySem.W.Fast.tw11401859456886640639 := ()
def PySem.W.Fast.tw10294118229990073760 := ()
def PySem.W.Fast.tw18101783494082082527 := ()
def PySem.W.Fast.tw866717566613908145 := ()
def PySem.W.Fast.tw15240619367488684849 := ()
def PySem.W.Fast.tw15166322114958858414 := ()
def PySem.W.Fast.tw15621415185263527259 := ()
def PySem.W.Fast.tw13034982811429478159 := ()
def PySem.W.Fast.tw3919386906821981792 := ()
def PySem.W.Fast.tw12887044766017154078 := ()
def PySem.W.Fast.tw4971374062829452455 := ()
def PySem.W.Fast.tw7217548393331319763 := ()
def PySem.W.Fast.tw16636501806038632012 := ()
def PySem.W.Fast.tw15254633091992210921 := ()
def PySem.W.Fast.tw15214748959534726111 := ()
def PySem.W.Fast.tw8047209995159408440 := ()
def PySem.W.Fast.tw6557801498797044033 := ()
def PySem.W.Fast.tw11564986514327137767 := ()
def PySem.W.Fast.tw11962351593759143498 := ()
def PySem.W.Fast.tw13769103115541136327 := ()
def PySem.W.Fast.tw17214186515701724070 := ()
def PySem.W.Fast.tw9592521066531166775 := ()
def PySem.W.Fast.tw9461873434466728008 := ()
def PySem.W.Fast.tw6056707288978253535 := ()
def PySem.W.Fast.tw16756451883985382160 := ()
def PySem.W.Fast.tw6522051377940421278 := ()
def PySem.W.Fast.tw2827255003249426055 := ()
def PySem.W.Fast.tw11692469974320434101 := ()
def PySem.W.Fast.tw8374155422468719031 := ()
def PySem.W.Fast.tw6881562489159757695 := ()
def PySem.W.Fast.tw4562827626845409882 := ()
def PySem.W.Fast.tw9582823730064241283 := ()
def PySem.W.Fast.tw2135409205425526673 := ()
def PySem.W.Fast.tw7933485763601977624 := ()
def PySem.W.Fast.tw10042083083395451092 := ()
def PySem.W.Fast.tw18367749455379333440 := ()
def PySem.W.Fast.tw1342123614928995077 := ()
def PySem.W.Fast.tw16902440903046159558 := ()
def PySem.W.Fast.tw4075453323654395381 := ()
def PySem.W.Fast.tw2295934692909999376 := ()
def PySem.W.Fast.tw7476452910721959123 := ()
def PySem.W.Fast.tw3985964047577975286 := ()
def PySem.W.Fast.tw8002303944043701648 := ()
def PySem.W.Fast.tw12954591660760965231 := ()
def PySem.W.Fast.tw11384182702204212275 := ()
def PySem.W.Fast.tw13946496683202179788 := ()
def PySem.W.Fast.tw15042883488752021643 := ()
def PySem.W.Fast.tw12459912946257978736 := ()
def PySem.W.Fast.tw6128145076113358165 := ()
def PySem.W.Fast.tw10258873121960336067 := ()
def PySem.W.Fast.tw8565224436197482051 := ()
def PySem.W.Fast.tw10510056951384868246 := ()
def PySem.W.Fast.tw1950803216711332702 := ()
def PySem.W.Fast.tw15577281813014381367 := ()
def PySem.W.Fast.tw1532491051758110099 := ()
def PySem.W.Fast.tw3300257896294614128 := ()
def PySem.W.Fast.tw1207101557538958131 := ()
def PySem.W.Fast.tw15831126876759372255 := ()
def PySem.W.Fast.tw13444670453868202053 := ()
def PySem.W.Fast.tw5890639436620234070 := ()
def PySem.W.Fast.tw17357851268252398515 := ()
def PySem.W.Fast.tw14592624751514493413 := ()
def PySem.W.Fast.tw10341888390210383824 := ()
def PySem.W.Fast.tw13812277999558781770 := ()
def PySem.W.Fast.tw8219003486749837733 := ()
def PySem.W.Fast.tw13469501207593853456 := ()
def PySem.W.Fast.tw8171798328758944481 := ()
def PySem.W.Fast.tw13421457143807847188 := ()
def PySem.W.Fast.tw2107523057676978006 := ()
def PySem.W.Fast.tw3235425350174046738 := ()
def PySem.W.Fast.tw6162269159774324313 := ()
def PySem.W.Fast.tw14424681132571578402 := ()
def PySem.W.Fast.tw17170472223608059050 := ()
def PySem.W.Fast.tw2741014181512449073 := ()
def PySem.W.Fast.tw15385626851002476777 := ()
def PySem.W.Fast.tw896878414759379649 := ()
def PySem.W.Fast.tw7257460582837084246 := ()
def PySem.W.Fast.tw14170518179582410385 := ()
def PySem.W.Fast.tw16203965252921439515 := ()
def PySem.W.Fast.tw14243238205550065757 := ()
def PySem.W.Fast.tw2483420100392427323 := ()
def PySem.W.Fast.tw384561282630992784 := ()
def PySem.W.Fast.tw14935467056822913822 := ()
def PySem.W.Fast.tw16409965706819354750 := ()
def PySem.W.Fast.tw8733291241859026926 := ()
def PySem.W.Fast.tw10016166984437732892 := ()
def PySem.W.Fast.tw16723463757517087524 := ()
def PySem.W.Fast.tw14782755387869428366 := ()
def PySem.W.Fast.tw17435391645217708394 := ()
def PySem.W.Fast.tw4635989785427082552 := ()
def PySem.W.Fast.tw16955839230299176341 := ()
def PySem.W.Fast.tw1922157984580058403 := ()
def PySem.W.Fast.tw11823594873375168262 := ()
def PySem.W.Fast.tw16279288168775177219 := ()
def PySem.W.Fast.tw1915925776726481438 := ()
def PySem.W.Fast.tw1979317910248211280 := ()
def PySem.W.Fast.tw9784134513789038367 := ()
def PySem.W.Fast.tw17187875760726034783 := ()
def PySem.W.Fast.tw12297992134047619483 := ()
def PySem.W.Fast.tw14746253646979254834 := ()
def PySem.W.Fast.tw446995266069924076 := ()
def PySem.W.Fast.tw8535803893964050539 := ()
def PySem.W.Fast.tw14961746396406840608 := ()
def PySem.W.Fast.tw16873086082458093902 := ()
def PySem.W.Fast.tw10888863842102328177 := ()
def PySem.W.Fast.tw2400638427578300857 := ()
def PySem.W.Fast.tw13114645530532618160 := ()
def PySem.W.Fast.tw6798380500665416597 := ()
def PySem.W.Fast.tw13135312941875745310 := ()
def PySem.W.Fast.tw13669536469129627823 := ()
def PySem.W.Fast.tw2144661209622563809 := ()
def PySem.W.Fast.tw1864683662541468164 := ()
def PySem.W.Fast.tw447263597446747957 := ()
def PySem.W.Fast.tw1478030337931831861 := ()
def PySem.W.Fast.tw1956260828630720203 := ()
def PySem.W.Fast.tw17464319187374939960 := ()
def PySem.W.Fast.tw9972681490609642005 := ()
def PySem.W.Fast.tw2080317491765294665 := ()
def PySem.W.Fast.tw3365755272349913518 := ()
def PySem.W.Fast.tw1000662321505670351 := ()
def PySem.W.Fast.tw7086961617601330827 := ()
def PySem.W.Fast.tw3303267245142563540 := ()
def PySem.W.Fast.tw14391293386007564604 := ()
def PySem.W.Fast.tw861502493610598483 := ()
def PySem.W.Fast.tw5000232492035539693 := ()
def PySem.W.Fast.tw17062427158221528723 := ()
def PySem.W.Fast.tw8222940686941784037 := ()
def PySem.W.Fast.tw140236481695663071 := ()
def PySem.W.Fast.tw13757698761724263525 := ()
def PySem.W.Fast.tw4483904966330829159 := ()
def PySem.W.Fast.tw7867829370405329436 := ()
def PySem.W.Fast.tw16721508838639397229 := ()
def PySem.W.Fast.tw256976265262469064 := ()
def PySem.W.Fast.tw9536688357841153863 := ()
def PySem.W.Fast.tw18437792190763421558 := ()
def PySem.W.Fast.tw2314633323536394700 := ()
def PySem.W.Fast.tw5459702643516471331 := ()
def PySem.W.Fast.tw1717767836212652739 := ()
def PySem.W.Fast.tw8159993647027272844 := ()
def PySem.W.Fast.tw2786648768249225349 := ()
def PySem.W.Fast.tw896239598344801917 := ()
def PySem.W.Fast.tw10698057553749749337 := ()
def PySem.W.Fast.tw18073898193381586223 := ()
def PySem.W.Fast.tw1719895430356276633 := ()
def PySem.W.Fast.tw16607193741793207195 := ()
def PySem.W.Fast.tw7001957589650049515 := ()
def PySem.W.Fast.tw12314708539913122752 := ()
def PySem.W.Fast.tw2261719852989239553 := ()
def PySem.W.Fast.tw258204147387103276 := ()
def PySem.W.Fast.tw3042748168174471775 := ()
def PySem.W.Fast.tw5344687154915797982 := ()
def PySem.W.Fast.tw140001813534094272 := ()
def PySem.W.Fast.tw14226173905949225808 := ()
def PySem.W.Fast.tw726351398001015727 := ()
def PySem.W.Fast.tw15895094517606616290 := ()
def PySem.W.Fast.tw12652081859355081885 := ()
def PySem.W.Fast.tw9387514328989991554 := ()
def PySem.W.Fast.tw13622603851894308203 := ()
def PySem.W.Fast.tw16919654943277366748 := ()
def PySem.W.Fast.tw6170744672141170255 := ()
def PySem.W.Fast.tw5498123283257192965 := ()
def PySem.W.Fast.tw16108870410212019532 := ()
def PySem.W.Fast.tw15861351967447197489 := ()
def PySem.W.Fast.tw2950685276103557050 := ()
def PySem.W.Fast.tw8498532028676091811 := ()
def PySem.W.Fast.tw10374632558016547081 := ()
def PySem.W.Fast.tw17590705303994421779 := ()
def PySem.W.Fast.tw17351735930882485243 := ()
def PySem.W.Fast.tw8157277791214410489 := ()
def PySem.W.Fast.tw1599053048872161195 := ()
def PySem.W.Fast.tw4480162626587320490 := ()
def PySem.W.Fast.tw12670982853097334264 := ()
def PySem.W.Fast.tw11066385474520676512 := ()
def PySem.W.Fast.tw11766270337846329995 := ()
def PySem.W.Fast.tw5323657890516693427 := ()
def PySem.W.Fast.tw6782663255696616371 := ()
def PySem.W.Fast.tw6702445572142316249 := ()
def PySem.W.Fast.tw17292613610259460706 := ()
def PySem.W.Fast.tw14196522196718054806 := ()
def PySem.W.Fast.tw1383625962624193546 := ()
def PySem.W.Fast.tw1607123104830579860 := ()
def PySem.W.Fast.tw8169806428440432713 := ()
def PySem.W.Fast.tw4046790133079468173 := ()
def PySem.W.Fast.tw6427576097997697322 := ()
def PySem.W.Fast.tw6105849179199505303 := ()
def PySem.W.Fast.tw4321966507151631593 := ()
def PySem.W.Fast.tw14664691819916384248 := ()
def PySem.W.Fast.tw1708089923452030704 := ()
def PySem.W.Fast.tw12408111787983249662 := ()
def PySem.W.Fast.tw14831331821628862639 := ()
def PySem.W.Fast.tw14520296925931582552 := ()
def PySem.W.Fast.tw8080008513338510535 := ()
def PySem.W.Fast.tw4548300405975405348 := ()
def PySem.W.Fast.tw15925456577456769635 := ()
def PySem.W.Fast.tw16298917771340976007 := ()
def PySem.W.Fast.tw17653592248189364939 := ()
def PySem.W.Fast.tw5217270863462422736 := ()
def PySem.W.Fast.tw3300454383303005205 := ()
def PySem.W.Fast.tw11421057715548341654 := ()
def PySem.W.Fast.tw7322748291113730364 := ()
def PySem.W.Fast.tw6420159726195949164 := ()
def PySem.W.Fast.tw7485256538410118956 := ()
def PySem.W.Fast.tw6469784823511061222 := ()
def PySem.W.Fast.tw18183970276198133131 := ()
def PySem.W.Fast.tw14564479935002850509 := ()
def PySem.W.Fast.tw4859391219904099992 := ()
def PySem.W.Fast.tw14404928986312190071 := ()
def PySem.W.Fast.tw3543459598558145280 := ()
def PySem.W.Fast.tw13855379610559885079 := ()
def PySem.W.Fast.tw6858818405166986180 := ()
def PySem.W.Fast.tw17613222154834848340 := ()
def PySem.W.Fast.tw2931988195819169919 := ()
def PySem.W.Fast.tw16654469307462801742 := ()
def PySem.W.Fast.tw3641951560692057861 := ()
def PySem.W.Fast.tw1956775160557780875 := ()
def PySem.W.Fast.tw5872530126848033075 := ()
def PySem.W.Fast.tw2941924889016668590 := ()
def PySem.W.Fast.tw17691633702590694504 := ()
def PySem.W.Fast.tw9796564346219866840 := ()
def PySem.W.Fast.tw18157406047293677543 := ()
def PySem.W.Fast.tw13956191218907399338 := ()
def PySem.W.Fast.tw6542358382571353910 := ()
def PySem.W.Fast.tw12740759652641322565 := ()
def PySem.W.Fast.tw5036737246369778296 := ()
def PySem.W.Fast.tw10910644110388302437 := ()
def PySem.W.Fast.tw15685335758407661847 := ()
def PySem.W.Fast.tw15541240446876304647 := ()
def PySem.W.Fast.tw5101696844757716304 := ()
def PySem.W.Fast.tw7830361148116998868 := ()
def PySem.W.Fast.tw13810262117814702294 := ()
def PySem.W.Fast.tw9947508896943372755 := ()
def PySem.W.Fast.tw6607644564249050058 := ()
def PySem.W.Fast.tw12099505692703838030 := ()
def PySem.W.Fast.tw10842938092177581297 := ()
def PySem.W.Fast.tw2789304352393801511 := ()
def PySem.W.Fast.tw11766667032028208565 := ()
def PySem.W.Fast.tw9331231397406362311 := ()
def PySem.W.Fast.tw8432719020341155521 := ()
def PySem.W.Fast.tw1725486776273817318 := ()
def PySem.W.Fast.tw11153475782318119604 := ()
def PySem.W.Fast.tw17724038513149304489 := ()
def PySem.W.Fast.tw14993981098963755598 := ()
def PySem.W.Fast.tw3721919958574915784 := ()
def PySem.W.Fast.tw7175993877961864270 := ()
def PySem.W.Fast.tw12843764043397292189 := ()
def PySem.W.Fast.tw18328257000508772394 := ()
def PySem.W.Fast.tw15438627641174518403 := ()
def PySem.W.Fast.tw9404705873571188630 := ()
def PySem.W.Fast.tw14074196154385387334 := ()
def PySem.W.Fast.tw5994696166404524948 := ()
def PySem.W.Fast.tw7374399212775623666 := ()
def PySem.W.Fast.tw87601786513091389 := ()
def PySem.W.Fast.tw9116068151291705539 := ()
def PySem.W.Fast.tw1401067106901849026 := ()
def PySem.W.Fast.tw14842496431369740429 := ()
def PySem.W.Fast.tw6472337539984862722 := ()
def PySem.W.Fast.tw6548459193220583526 := ()
def PySem.W.Fast.tw615563214671542189 := ()
def PySem.W.Fast.tw11513857634932158529 := ()
def PySem.W.Fast.tw2228412568605170491 := ()
def PySem.W.Fast.tw17260811203177919210 := ()
def PySem.W.Fast.tw3049343062529576306 := ()
def PySem.W.Fast.tw10297410513487048360 := ()
def PySem.W.Fast.tw6248682570935725439 := ()
def PySem.W.Fast.tw3475869608268796686 := ()
def PySem.W.Fast.tw4804111812005502284 := ()
def PySem.W.Fast.tw17483705464198625004 := ()
def PySem.W.Fast.tw1205274952441263945 := ()
def PySem.W.Fast.tw9806118890596472461 := ()
def PySem.W.Fast.tw12727641955093265886 := ()
def PySem.W.Fast.tw13953587524928339648 := ()
def PySem.W.Fast.tw8865387616306378214 := ()
def PySem.W.Fast.tw3187600833561265495 := ()
def PySem.W.Fast.tw1495895850433845275 := ()
def PySem.W.Fast.tw8899516883271353254 := ()
def PySem.W.Fast.tw2570914705882880060 := ()
def PySem.W.Fast.tw2353497105660221152 := ()
def PySem.W.Fast.tw991626836265849350 := ()
def PySem.W.Fast.tw3110587219445414310 := ()
def PySem.W.Fast.tw9646623106273453227 := ()
def PySem.W.Fast.tw17760279517084355780 := ()
def PySem.W.Fast.tw18031968618487185184 := ()
def PySem.W.Fast.tw15590096980072825465 := ()
def PySem.W.Fast.tw15433366417846715934 := ()
def PySem.W.Fast.tw1972164579936704799 := ()
def PySem.W.Fast.tw14611616552423853409 := ()
def PySem.W.Fast.tw18293242582946804979 := ()
def PySem.W.Fast.tw9919008367099125623 := ()
def PySem.W.Fast.tw2646887283097553488 := ()
def PySem.W.Fast.tw16248296213531012650 := ()
def PySem.W.Fast.tw11853640710764476214 := ()
def PySem.W.Fast.tw14172470266813156586 := ()
def PySem.W.Fast.tw13437419889732721216 := ()
def PySem.W.Fast.tw3671519592330383864 := ()
def PySem.W.Fast.tw9464783005390448368 := ()
def PySem.W.Fast.tw9879335643197240621 := ()
def PySem.W.Fast.tw15173544498738437827 := ()
def PySem.W.Fast.tw16120054744476736488 := ()
def PySem.W.Fast.tw6968137755033780318 := ()
def PySem.W.Fast.tw12382822922155266910 := ()
def PySem.W.Fast.tw17710873009340938204 := ()
def PySem.W.Fast.tw1293241653719404408 := ()
def PySem.W.Fast.tw17339309145561079191 := ()
def PySem.W.Fast.tw4906484309439969231 := ()
def PySem.W.Fast.tw547895379624588593 := ()
def PySem.W.Fast.tw977512076041815475 := ()
def PySem.W.Fast.tw3419001889969749887 := ()
def PySem.W.Fast.tw4699756791338806529 := ()
def PySem.W.Fast.tw443766864951011646 := ()
def PySem.W.Fast.tw2084650752826471497 := ()
def PySem.W.Fast.tw643336161829623379 := ()
def PySem.W.Fast.tw4436474186459923750 := ()
def PySem.W.Fast.tw3099597729799864441 := ()
def PySem.W.Fast.tw4171853373547519906 := ()
def PySem.W.Fast.tw4953865588907285216 := ()
def PySem.W.Fast.tw5702276774652866934 := ()
def PySem.W.Fast.tw2259672571474061568 := ()
def PySem.W.Fast.tw10519837036962490867 := ()
def PySem.W.Fast.tw11521511281804667912 := ()
def PySem.W.Fast.tw3382625519597670723 := ()
def PySem.W.Fast.tw8912161614967838395 := ()
def PySem.W.Fast.tw17267597263503486738 := ()
def PySem.W.Fast.tw7943549864190904611 := ()
def PySem.W.Fast.tw7046044490832178742 := ()
def PySem.W.Fast.tw7212858340449540239 := ()
def PySem.W.Fast.tw938635154573522699 := ()
def PySem.W.Fast.tw3998647374267775353 := ()
def PySem.W.Fast.tw9495317472360511255 := ()
def PySem.W.Fast.tw6575520176995025181 := ()
def PySem.W.Fast.tw17013487888433625170 := ()
def PySem.W.Fast.tw10624116801336726872 := ()
def PySem.W.Fast.tw7774113678449685934 := ()
def PySem.W.Fast.tw4189273013823423559 := ()
def PySem.W.Fast.tw8285278889055680438 := ()
def PySem.W.Fast.tw10879749546641988924 := ()
def PySem.W.Fast.tw5537553045615171315 := ()
def PySem.W.Fast.tw18418582437962087742 := ()
def PySem.W.Fast.tw16615150188913437886 := ()
def PySem.W.Fast.tw10551173667578312727 := ()
def PySem.W.Fast.tw4096438862311573950 := ()
def PySem.W.Fast.tw12960429369202013873 := ()
def PySem.W.Fast.tw6229817132586351632 := ()
def PySem.W.Fast.tw12903330217458380548 := ()
def PySem.W.Fast.tw6216382948874008006 := ()
def PySem.W.Fast.tw15752536640612570366 := ()
def PySem.W.Fast.tw2595585439558603231 := ()
def PySem.W.Fast.tw10876078143196172821 := ()
def PySem.W.Fast.tw2455152089536381482 := ()
def PySem.W.Fast.tw17817366049700826239 := ()
def PySem.W.Fast.tw12431713363859531893 := ()
def PySem.W.Fast.tw1467881925912835984 := ()
def PySem.W.Fast.tw5072417060200589145 := ()
def PySem.W.Fast.tw13547939009206843870 := ()
def PySem.W.Fast.tw14760874974797668852 := ()
def PySem.W.Fast.tw7480016910919988345 := ()
def PySem.W.Fast.tw5002640475654186023 := ()
def PySem.W.Fast.tw1070438729232803039 := ()
def PySem.W.Fast.tw15127105006835628225 := ()
def PySem.W.Fast.tw3778530596728393105 := ()
def PySem.W.Fast.tw11266997524610791606 := ()
def PySem.W.Fast.tw2466311954974566718 := ()
def PySem.W.Fast.tw16766683885213920930 := ()
def PySem.W.Fast.tw12768989823518198380 := ()
def PySem.W.Fast.tw6356304189028158447 := ()
def PySem.W.Fast.tw1937721966566455358 := ()
def PySem.W.Fast.tw8737599933303070863 := ()
def PySem.W.Fast.tw16728255500844073214 := ()
def PySem.W.Fast.tw9630203353718772412 := ()
def PySem.W.Fast.tw9977182230042388008 := ()
def PySem.W.Fast.tw13160504802963445071 := ()
def PySem.W.Fast.tw514280064592716601 := ()
def PySem.W.Fast.tw2694234056635809718 := ()
def PySem.W.Fast.tw5438652380644606353 := ()
def PySem.W.Fast.tw4015202173357781934 := ()
def PySem.W.Fast.tw11373181179767321252 := ()
def PySem.W.Fast.tw5449601097390414333 := ()
def PySem.W.Fast.tw6278996535519779258 := ()
def PySem.W.Fast.tw8431482922422412695 := ()
def PySem.W.Fast.tw14727194681476072466 := ()
def PySem.W.Fast.tw12147665669636231765 := ()
def PySem.W.Fast.tw15779231459743154856 := ()
def PySem.W.Fast.tw819570635367399668 := ()
def PySem.W.Fast.tw5093527231409595335 := ()
def PySem.W.Fast.tw14847308668706973960 := ()
def PySem.W.Fast.tw15402603294489630176 := ()
def PySem.W.Fast.tw10826640976665885199 := ()
def PySem.W.Fast.tw17659185236578331656 := ()
def PySem.W.Fast.tw772564365185477556 := ()
def PySem.W.Fast.tw14537775516033599862 := ()
def PySem.W.Fast.tw10295913840692754127 := ()
def PySem.W.Fast.tw539538531456391632 := ()
def PySem.W.Fast.tw4849480874435393781 := ()
def PySem.W.Fast.tw1840220198017710270 := ()
def PySem.W.Fast.tw14903569129155370506 := ()
def PySem.W.Fast.tw11662115353561507501 := ()
def PySem.W.Fast.tw8331849164307833061 := ()
def PySem.W.Fast.tw13055953723892786844 := ()
def PySem.W.Fast.tw9456574344343218679 := ()
def PySem.W.Fast.tw7424060955962978353 := ()
def PySem.W.Fast.tw15227483606004533461 := ()
def PySem.W.Fast.tw2692750590507578028 := ()
def PySem.W.Fast.tw12488014758255163090 := ()
def PySem.W.Fast.tw8949853181751564097 := ()
def PySem.W.Fast.tw209982475168477708 := ()
def PySem.W.Fast.tw10792498714594961201 := ()
def PySem.W.Fast.tw8972062959192195235 := ()
def PySem.W.Fast.tw14963028359598502718 := ()
def PySem.W.Fast.tw15404580678603264949 := ()
def PySem.W.Fast.tw9615563845995560447 := ()
def PySem.W.Fast.tw740290905518256060 := ()
def PySem.W.Fast.tw4547051000311932777 := ()
def PySem.W.Fast.tw13053770412826190925 := ()
def PySem.W.Fast.tw16670775579421159206 := ()
def PySem.W.Fast.tw12269216009862288129 := ()
def PySem.W.Fast.tw12770481643036789091 := ()
def PySem.W.Fast.tw14958820412457663293 := ()
def PySem.W.Fast.tw6512149657230936976 := ()
def PySem.W.Fast.tw6549852094080907030 := ()
def PySem.W.Fast.tw3681537716864247207 := ()
def PySem.W.Fast.tw17334828202450815106 := ()
def PySem.W.Fast.tw3239113980409921550 := ()
def PySem.W.Fast.tw11429584451438056573 := ()
def PySem.W.Fast.tw9860861378791804195 := ()
def PySem.W.Fast.tw5667099127317398114 := ()
def PySem.W.Fast.tw8997383693586321770 := ()
def PySem.W.Fast.tw12772213712371865176 := ()
def PySem.W.Fast.tw3270257207059953099 := ()
def PySem.W.Fast.tw8186657734068701312 := ()
def PySem.W.Fast.tw17678831435119133177 := ()
def PySem.W.Fast.tw16226643914720891334 := ()
open_top hd for PySem.Challenge.rw_hangstill_k26_whole_benches
theorem PySem.Challenge.cw_hangstill_k26_whole_benches_holds : PySem.Challenge.rw_hangstill_k26_whole_benches.Holds := by
  refine hd ?_
  k_fill
  refine My.walk (l := PySem.Challenge.rw_hangstill_k26_whole_benches) rfl rfl ?K (fun w h Y => PySem.W.kIn_of Y) ?F
  case K => exact fun p => (Eq.refl true : true = true)
  case F =>
    intro w mg fa h KX G hmg
    refine' L2.topD_go (x := "is_number") (st := My.s_is_number) (ps := My.p_is_number) KX G ?a1 ?l1 ?c1 ?k1 (fun _ _ _ _ _ _ us hl => match us, hl with | [_, _, _], _ => rfl) ?go1
    (case a1 => k_is); (case l1 => k_is); (case c1 => k_is); (case k1 => k_is)
    intro T_is_number
    refine' L2.topD_go (x := "is_name") (st := My.s_is_name) (ps := My.p_is_name) KX G ?a2 ?l2 ?c2 ?k2 (fun _ _ _ _ _ _ us hl => match us, hl with | [_], _ => rfl) ?go2
    (case a2 => k_is); (case l2 => k_is); (case c2 => k_is); (case k2 => k_is)
    intro T_is_name
    refine' L2.topD_go (x := "is_mobile_within") (st := My.s_is_mobile_within) (ps := My.p_is_mobile_within) KX G ?a3 ?l3 ?c3 ?k3 (fun _ _ _ _ _ _ us hl => match us, hl with | [_, _], _ => rfl) ?go3
    (case a3 => k_is); (case l3 => k_is); (case c3 => k_is); (case k3 => k_is)
    intro T_is_mobile_within
    refine' L2.topD_go (x := "is_mobile") (st := My.s_is_mobile) (ps := My.p_is_mobile) KX G ?a4 ?l4 ?c4 ?k4 (fun _ _ _ _ _ _ us hl => match us, hl with | [_], _ => rfl) ?go4
    (case a4 => k_is); (case l4 => k_is); (case c4 => k_is); (case k4 => k_is)
    intro T_is_mobile
    refine' L2.topD_go (x := "check_mobile") (st := My.s_check_mobile) (ps := My.p_check_mobile) KX G ?a5 ?l5 ?c5 ?k5 (fun _ _ _ _ _ _ us hl => match us, hl with | [_], _ => rfl) ?go5
    (case a5 => k_is); (case l5 => k_is); (case c5 => k_is); (case k5 => k_is)
    intro T_check_mobile
    refine' L2.topD_go (x := "part_at") (st := My.s_part_at) (ps := My.p_part_at) KX G ?a6 ?l6 ?c6 ?k6 (fun _ _ _ _ _ _ us hl => match us, hl with | [_, _], _ => rfl) ?go6
    (case a6 => k_is); (case l6 => k_is); (case c6 => k_is); (case k6 => k_is)
    intro T_part_at
    refine' L2.topD_go (x := "rod_at") (st := My.s_rod_at) (ps := My.p_rod_at) KX G ?a7 ?l7 ?c7 ?k7 (fun _ _ _ _ _ _ us hl => match us, hl with | [_, _], _ => rfl) ?go7
    (case a7 => k_is); (case l7 => k_is); (case c7 => k_is); (case k7 => k_is)
    intro T_rod_at
    refine' L2.topD_go (x := "rods_within") (st := My.s_rods_within) (ps := My.p_rods_within) KX G ?a8 ?l8 ?c8 ?k8 (fun _ _ _ _ _ _ us hl => match us, hl with | [_], _ => rfl) ?go8
    (case a8 => k_is); (case l8 => k_is); (case c8 => k_is); (case k8 => k_is)
    intro T_rods_within
    refine' L2.topD_go (x := "greatest_divisor") (st := My.s_greatest_divisor) (ps := My.p_greatest_divisor) KX G ?a9 ?l9 ?c9 ?k9 (fun _ _ _ _ _ _ us hl => match us, hl with | [_, _], _ => rfl) ?go9
    (case a9 => k_is); (case l9 => k_is); (case c9 => k_is); (case k9 => k_is)
    intro T_greatest_divisor
    refine' L2.topD_go (x := "reduced") (st := My.s_reduced) (ps := My.p_reduced) KX G ?a10 ?l10 ?c10 ?k10 (fun _ _ _ _ _ _ us hl => match us, hl with | [_, _], _ => rfl) ?go10
    (case a10 => k_is); (case l10 => k_is); (case c10 => k_is); (case k10 => k_is)
    intro T_reduced
    refine' L2.topD_go (x := "with_part") (st := My.s_with_part) (ps := My.p_with_part) KX G ?a11 ?l11 ?c11 ?k11 (fun _ _ _ _ _ _ us hl => match us, hl with | [_, _, _], _ => rfl) ?go11
    (case a11 => k_is); (case l11 => k_is); (case c11 => k_is); (case k11 => k_is)
    intro T_with_part
    refine' L2.topD_go (x := "turned_rod") (st := My.s_turned_rod) (ps := My.p_turned_rod) KX G ?a12 ?l12 ?c12 ?k12 (fun _ _ _ _ _ _ us hl => match us, hl with | [_], _ => rfl) ?go12
    (case a12 => k_is); (case l12 => k_is); (case c12 => k_is); (case k12 => k_is)
    intro T_turned_rod
    refine' L2.topD_go (x := "plain_below") (st := My.s_plain_below) (ps := My.p_plain_below) KX G ?a13 ?l13 ?c13 ?k13 (fun _ _ _ _ _ _ us hl => match us, hl with | [_], _ => rfl) ?go13
    (case a13 => k_is); (case l13 => k_is); (case c13 => k_is); (case k13 => k_is)
    intro T_plain_below
    refine' L2.topD_go (x := "turned") (st := My.s_turned) (ps := My.p_turned) KX G ?a14 ?l14 ?c14 ?k14 (fun _ _ _ _ _ _ us hl => match us, hl with | [_, _], _ => rfl) ?go14
    (case a14 => k_is); (case l14 => k_is); (case c14 => k_is); (case k14 => k_is)
    intro T_turned
    refine' L2.topD_go (x := "longer") (st := My.s_longer) (ps := My.p_longer) KX G ?a15 ?l15 ?c15 ?k15 (fun _ _ _ _ _ _ us hl => match us, hl with | [_, _, _], _ => rfl) ?go15
    (case a15 => k_is); (case l15 => k_is); (case c15 => k_is); (case k15 => k_is)
    intro T_longer
    refine' L2.topD_go (x := "plain") (st := My.s_plain) (ps := My.p_plain) KX G ?a16 ?l16 ?c16 ?k16 (fun _ _ _ _ _ _ us hl => match us, hl with | [_], _ => rfl) ?go16
    (case a16 => k_is); (case l16 => k_is); (case c16 => k_is); (case k16 => k_is)
    intro T_plain
    refine' L2.topD_go (x := "put") (st := My.s_put) (ps := My.p_put) KX G ?a17 ?l17 ?c17 ?k17 (fun _ _ _ _ _ _ us hl => match us, hl with | [_, _, _], _ => rfl) ?go17
    (case a17 => k_is); (case l17 => k_is); (case c17 => k_is); (case k17 => k_is)
    intro T_put
    refine' L2.topD_go (x := "_law_cell_at") (st := My.s__law_cell_at) (ps := My.p__law_cell_at) KX G ?a18 ?l18 ?c18 ?k18 (fun _ _ _ _ _ _ us hl => match us, hl with | [_, _], _ => rfl) ?go18
    (case a18 => k_is); (case l18 => k_is); (case c18 => k_is); (case k18 => k_is)
    intro T__law_cell_at
    refine' L2.topD_go (x := "_law_mixed") (st := My.s__law_mixed) (ps := My.p__law_mixed) KX G ?a19 ?l19 ?c19 ?k19 (fun _ _ _ _ _ _ us hl => match us, hl with | [_, _, _], _ => rfl) ?go19
    (case a19 => k_is); (case l19 => k_is); (case c19 => k_is); (case k19 => k_is)
    intro T__law_mixed
    refine' L2.topD_go (x := "_law_draw") (st := My.s__law_draw) (ps := My.p__law_draw) KX G ?a20 ?l20 ?c20 ?k20 (fun _ _ _ _ _ _ us hl => match us, hl with | [_, _, _], _ => rfl) ?go20
    (case a20 => k_is); (case l20 => k_is); (case c20 => k_is); (case k20 => k_is)
    intro T__law_draw
    refine' L2.topD_go (x := "_law_pick") (st := My.s__law_pick) (ps := My.p__law_pick) KX G ?a21 ?l21 ?c21 ?k21 (fun _ _ _ _ _ _ us hl => match us, hl with | [_, _, _], _ => rfl) ?go21
    (case a21 => k_is); (case l21 => k_is); (case c21 => k_is); (case k21 => k_is)
    intro T__law_pick
    refine' L2.topD_go (x := "_law_mobile") (st := My.s__law_mobile) (ps := My.p__law_mobile) KX G ?a22 ?l22 ?c22 ?k22 (fun _ _ _ _ _ _ us hl => match us, hl with | [_, _, _, _], _ => rfl) ?go22
    (case a22 => k_is); (case l22 => k_is); (case c22 => k_is); (case k22 => k_is)
    intro T__law_mobile
    refine' L2.topD_go (x := "_law_fresh") (st := My.s__law_fresh) (ps := My.p__law_fresh) KX G ?a23 ?l23 ?c23 ?k23 (fun _ _ _ _ _ _ us hl => match us, hl with | [_, _], _ => rfl) ?go23
    (case a23 => k_is); (case l23 => k_is); (case c23 => k_is); (case k23 => k_is)
    intro T__law_fresh
    refine' L2.topD_go (x := "_law_some") (st := My.s__law_some) (ps := My.p__law_some) KX G ?a24 ?l24 ?c24 ?k24 (fun _ _ _ _ _ _ us hl => match us, hl with | [_, _, _], _ => rfl) ?go24
    (case a24 => k_is); (case l24 => k_is); (case c24 => k_is); (case k24 => k_is)
    intro T__law_some
    refine' L2.topD_go (x := "_law_rods") (st := My.s__law_rods) (ps := My.p__law_rods) KX G ?a25 ?l25 ?c25 ?k25 (fun _ _ _ _ _ _ us hl => match us, hl with | [_, _], _ => rfl) ?go25
    (case a25 => k_is); (case l25 => k_is); (case c25 => k_is); (case k25 => k_is)
    intro T__law_rods
    refine' L2.topD_go (x := "_law_put") (st := My.s__law_put) (ps := My.p__law_put) KX G ?a26 ?l26 ?c26 ?k26 (fun _ _ _ _ _ _ us hl => match us, hl with | [_, _, _], _ => rfl) ?go26
    (case a26 => k_is); (case l26 => k_is); (case c26 => k_is); (case k26 => k_is)
    intro T__law_put
    refine' L2.topD_go (x := "_law_shorter") (st := My.s__law_shorter) (ps := My.p__law_shorter) KX G ?a27 ?l27 ?c27 ?k27 (fun _ _ _ _ _ _ us hl => match us, hl with | [_], _ => rfl) ?go27
    (case a27 => k_is); (case l27 => k_is); (case c27 => k_is); (case k27 => k_is)
    intro T__law_shorter
    refine' L2.topD_go (x := "_law_depth") (st := My.s__law_depth) (ps := My.p__law_depth) KX G ?a28 ?l28 ?c28 ?k28 (fun _ _ _ _ _ _ us hl => match us, hl with | [_], _ => rfl) ?go28
    (case a28 => k_is); (case l28 => k_is); (case c28 => k_is); (case k28 => k_is)
    intro T__law_depth
    refine' L2.topD_go (x := "_law_due") (st := My.s__law_due) (ps := My.p__law_due) KX G ?a29 ?l29 ?c29 ?k29 (fun _ _ _ _ _ _ us hl => match us, hl with | [_, _], _ => rfl) ?go29
    (case a29 => k_is); (case l29 => k_is); (case c29 => k_is); (case k29 => k_is)
    intro T__law_due
    refine' L2.topD_go (x := "_law_deed") (st := My.s__law_deed) (ps := My.p__law_deed) KX G ?a30 ?l30 ?c30 ?k30 (fun _ _ _ _ _ _ us hl => match us, hl with | [_, _, _], _ => rfl) ?go30
    (case a30 => k_is); (case l30 => k_is); (case c30 => k_is); (case k30 => k_is)
    intro T__law_deed
    refine' L2.topD_go (x := "_law_which") (st := My.s__law_which) (ps := My.p__law_which) KX G ?a31 ?l31 ?c31 ?k31 (fun _ _ _ _ _ _ us hl => match us, hl with | [_], _ => rfl) ?go31
    (case a31 => k_is); (case l31 => k_is); (case c31 => k_is); (case k31 => k_is)
    intro T__law_which
    refine' L2.topD_go (x := "_law_do") (st := My.s__law_do) (ps := My.p__law_do) KX G ?a32 ?l32 ?c32 ?k32 (fun _ _ _ _ _ _ us hl => match us, hl with | [_, _], _ => rfl) ?go32
    (case a32 => k_is); (case l32 => k_is); (case c32 => k_is); (case k32 => k_is)
    intro T__law_do
    have b_len : mg "len" = none := PySem.W.mg_none_of KX G (by k_is)
    have b_isinstance : mg "isinstance" = none := PySem.W.mg_none_of KX G (by k_is)
    have b_bool : mg "bool" = none := PySem.W.mg_none_of KX G (by k_is)
    have b_int : mg "int" = none := PySem.W.mg_none_of KX G (by k_is)
    have b_str : mg "str" = none := PySem.W.mg_none_of KX G (by k_is)
    have b_tuple : mg "tuple" = none := PySem.W.mg_none_of KX G (by k_is)
    have b_list : mg "list" = none := PySem.W.mg_none_of KX G (by k_is)
    have b_dict : mg "dict" = none := PySem.W.mg_none_of KX G (by k_is)
    have b_all : mg "all" = none := PySem.W.mg_none_of KX G (by k_is)
    have b_range : mg "range" = none := PySem.W.mg_none_of KX G (by k_is)
    have b_max : mg "max" = none := PySem.W.mg_none_of KX G (by k_is)
    have b_ValueError : mg "ValueError" = none := PySem.W.mg_none_of KX G (by k_is)
    refine' L2.exc_go (x := "HangError") KX G ?e0 ?ge0
    (case e0 => k_is)
    intro m_HangError
    refine' L2.exc_go (x := "NoMobile") KX G ?e1 ?ge1
    (case e1 => k_is)
    intro m_NoMobile
    refine' L2.exc_go (x := "NoHall") KX G ?e2 ?ge2
    (case e2 => k_is)
    intro m_NoHall
    refine' L2.exc_go (x := "NoWeights") KX G ?e3 ?ge3
    (case e3 => k_is)
    intro m_NoWeights
    refine' L2.exc_go (x := "NoWay") KX G ?e4 ?ge4
    (case e4 => k_is)
    intro m_NoWay
    refine' L2.exc_go (x := "NoNumber") KX G ?e5 ?ge5
    (case e5 => k_is)
    intro m_NoNumber
    refine' L2.exc_go (x := "Never") KX G ?e6 ?ge6
    (case e6 => k_is)
    intro m_Never
    refine' L2.exc_go (x := "TooLong") KX G ?e7 ?ge7
    (case e7 => k_is)
    intro m_TooLong
    refine' L2.exc_go (x := "TooDeep") KX G ?e8 ?ge8
    (case e8 => k_is)
    intro m_TooDeep
    refine' L2.exc_go (x := "NoText") KX G ?e9 ?ge9
    (case e9 => k_is)
    intro m_NoText
    refine' L2.exc_go (x := "Nothing") KX G ?e10 ?ge10
    (case e10 => k_is)
    intro m_Nothing
    refine' L2.exc_go (x := "Bench") KX G ?eBC ?geBC
    (case eBC => k_is)
    intro m_Bench
    refine' L2.cls_go KX m_Bench ?bc1 ?bc2 ?bc3 ?bc4 ?gbc
    (case bc1 => k_is); (case bc2 => k_is); (case bc3 => k_is); (case bc4 => k_is)
    intro c_Bench
    refine' L2.noa_go (f := "stages") KX m_Bench ?bf_stages ?gf_stages
    (case bf_stages => k_is)
    intro n_stages
    refine' L2.noa_go (f := "taken_back") KX m_Bench ?bf_taken_back ?gf_taken_back
    (case bf_taken_back => k_is)
    intro n_taken_back
    refine' L2.ini_go (qual := "Bench.__init__") (st := My.s_Bench___init__) (ps := My.p_Bench___init__) KX m_Bench ?mi1 ?mi2 ?mi3 ?mi4 ?mi5 ?mi6 ?mi7 (fun _ _ _ _ _ _ us hl => match us, hl with | [_, _], _ => rfl) ?mi8
    (case mi1 => k_is); (case mi2 => k_is); (case mi3 => k_is); (case mi4 => k_is); (case mi5 => k_is); (case mi6 => k_is); (case mi7 => k_is)
    intro T_Bench___init__
    refine' L2.met_go (m := "now") (qual := "Bench.now") (st := My.s_Bench_now) (ps := My.p_Bench_now) KX m_Bench c_Bench ?m1_Bench_now ?m2_Bench_now ?m3_Bench_now ?m4_Bench_now ?m5_Bench_now (fun _ _ _ _ _ _ us hl => match us, hl with | [_], _ => rfl) ?m6_Bench_now
    (case m1_Bench_now => k_is); (case m2_Bench_now => k_is); (case m3_Bench_now => k_is); (case m4_Bench_now => k_is); (case m5_Bench_now => k_is)
    intro T_Bench_now
    refine' L2.met_go (m := "change") (qual := "Bench.change") (st := My.s_Bench_change) (ps := My.p_Bench_change) KX m_Bench c_Bench ?m1_Bench_change ?m2_Bench_change ?m3_Bench_change ?m4_Bench_change ?m5_Bench_change (fun _ _ _ _ _ _ us hl => match us, hl with | [_, _], _ => rfl) ?m6_Bench_change
    (case m1_Bench_change => k_is); (case m2_Bench_change => k_is); (case m3_Bench_change => k_is); (case m4_Bench_change => k_is); (case m5_Bench_change => k_is)
    intro T_Bench_change
    refine' L2.met_go (m := "turn") (qual := "Bench.turn") (st := My.s_Bench_turn) (ps := My.p_Bench_turn) KX m_Bench c_Bench ?m1_Bench_turn ?m2_Bench_turn ?m3_Bench_turn ?m4_Bench_turn ?m5_Bench_turn (fun _ _ _ _ _ _ us hl => match us, hl with | [_, _], _ => rfl) ?m6_Bench_turn
    (case m1_Bench_turn => k_is); (case m2_Bench_turn => k_is); (case m3_Bench_turn => k_is); (case m4_Bench_turn => k_is); (case m5_Bench_turn => k_is)
    intro T_Bench_turn
    refine' L2.met_go (m := "stretch") (qual := "Bench.stretch") (st := My.s_Bench_stretch) (ps := My.p_Bench_stretch) KX m_Bench c_Bench ?m1_Bench_stretch ?m2_Bench_stretch ?m3_Bench_stretch ?m4_Bench_stretch ?m5_Bench_stretch (fun _ _ _ _ _ _ us hl => match us, hl with | [_, _, _], _ => rfl) ?m6_Bench_stretch
    (case m1_Bench_stretch => k_is); (case m2_Bench_stretch => k_is); (case m3_Bench_stretch => k_is); (case m4_Bench_stretch => k_is); (case m5_Bench_stretch => k_is)
    intro T_Bench_stretch
    refine' L2.met_go (m := "hang") (qual := "Bench.hang") (st := My.s_Bench_hang) (ps := My.p_Bench_hang) KX m_Bench c_Bench ?m1_Bench_hang ?m2_Bench_hang ?m3_Bench_hang ?m4_Bench_hang ?m5_Bench_hang (fun _ _ _ _ _ _ us hl => match us, hl with | [_, _, _], _ => rfl) ?m6_Bench_hang
    (case m1_Bench_hang => k_is); (case m2_Bench_hang => k_is); (case m3_Bench_hang => k_is); (case m4_Bench_hang => k_is); (case m5_Bench_hang => k_is)
    intro T_Bench_hang
    refine' L2.met_go (m := "shorten") (qual := "Bench.shorten") (st := My.s_Bench_shorten) (ps := My.p_Bench_shorten) KX m_Bench c_Bench ?m1_Bench_shorten ?m2_Bench_shorten ?m3_Bench_shorten ?m4_Bench_shorten ?m5_Bench_shorten (fun _ _ _ _ _ _ us hl => match us, hl with | [_], _ => rfl) ?m6_Bench_shorten
    (case m1_Bench_shorten => k_is); (case m2_Bench_shorten => k_is); (case m3_Bench_shorten => k_is); (case m4_Bench_shorten => k_is); (case m5_Bench_shorten => k_is)
    intro T_Bench_shorten
    refine' L2.met_go (m := "undo") (qual := "Bench.undo") (st := My.s_Bench_undo) (ps := My.p_Bench_undo) KX m_Bench c_Bench ?m1_Bench_undo ?m2_Bench_undo ?m3_Bench_undo ?m4_Bench_undo ?m5_Bench_undo (fun _ _ _ _ _ _ us hl => match us, hl with | [_], _ => rfl) ?m6_Bench_undo
    (case m1_Bench_undo => k_is); (case m2_Bench_undo => k_is); (case m3_Bench_undo => k_is); (case m4_Bench_undo => k_is); (case m5_Bench_undo => k_is)
    intro T_Bench_undo
    refine' L2.met_go (m := "again") (qual := "Bench.again") (st := My.s_Bench_again) (ps := My.p_Bench_again) KX m_Bench c_Bench ?m1_Bench_again ?m2_Bench_again ?m3_Bench_again ?m4_Bench_again ?m5_Bench_again (fun _ _ _ _ _ _ us hl => match us, hl with | [_], _ => rfl) ?m6_Bench_again
    (case m1_Bench_again => k_is); (case m2_Bench_again => k_is); (case m3_Bench_again => k_is); (case m4_Bench_again => k_is); (case m5_Bench_again => k_is)
    intro T_Bench_again
    refine' L2.met_go (m := "deeds") (qual := "Bench.deeds") (st := My.s_Bench_deeds) (ps := My.p_Bench_deeds) KX m_Bench c_Bench ?m1_Bench_deeds ?m2_Bench_deeds ?m3_Bench_deeds ?m4_Bench_deeds ?m5_Bench_deeds (fun _ _ _ _ _ _ us hl => match us, hl with | [_], _ => rfl) ?m6_Bench_deeds
    (case m1_Bench_deeds => k_is); (case m2_Bench_deeds => k_is); (case m3_Bench_deeds => k_is); (case m4_Bench_deeds => k_is); (case m5_Bench_deeds => k_is)
    intro T_Bench_deeds
    refine' My.law_mk KX G hmg ?aL ?lL ?cL ?kL ?goL
    (case aL => k_is); (case lL => k_is); (case cL => k_is); (case kL => k_is)
    case goL =>
      intro base f fd T
      refine' My.all m_Bench c_Bench n_stages n_taken_back T_Bench___init__ T_Bench_now T_Bench_change T_Bench_turn T_Bench_stretch T_Bench_hang T_Bench_shorten T_Bench_undo T_Bench_again T_Bench_deeds T_is_number T_is_name T_is_mobile_within T_is_mobile T_check_mobile T_part_at T_rod_at T_rods_within T_greatest_divisor T_reduced T_with_part T_turned_rod T_plain_below T_turned T_longer T_plain T_put T__law_cell_at T__law_mixed T__law_draw T__law_pick T__law_mobile T__law_fresh T__law_some T__law_rods T__law_put T__law_shorter T__law_depth T__law_due T__law_deed T__law_which T__law_do b_len b_isinstance b_bool b_int b_str b_tuple b_list b_dict b_all b_range b_max b_ValueError m_HangError m_NoMobile m_NoHall m_NoWeights m_NoWay m_NoNumber m_Never m_TooLong m_TooDeep m_NoText m_Nothing ?x_NoMobile ?x_NoWay ?x_NoNumber ?x_TooLong ?x_TooDeep ?x_Nothing ?em_NoWay ?em_TooLong ?em_TooDeep ?em_Nothing (L2.exk_mk ?h1_NoWay ?h2_NoWay ?h3_NoWay ?h4_NoWay ?h5_NoWay ?h6_NoWay ?h7_NoWay ?y_NoWay) ?kq_NoWay_NoMobile ?kq_NoWay_NoHall ?kq_NoWay_NoWeights ?kq_NoWay_NoWay ?kq_NoWay_NoNumber ?kq_NoWay_Never ?kq_NoWay_TooLong ?kq_NoWay_TooDeep ?kq_NoWay_NoText ?kq_NoWay_Nothing ?kv_NoWay (L2.exk_mk ?h1_TooLong ?h2_TooLong ?h3_TooLong ?h4_TooLong ?h5_TooLong ?h6_TooLong ?h7_TooLong ?y_TooLong) ?kq_TooLong_NoMobile ?kq_TooLong_NoHall ?kq_TooLong_NoWeights ?kq_TooLong_NoWay ?kq_TooLong_NoNumber ?kq_TooLong_Never ?kq_TooLong_TooLong ?kq_TooLong_TooDeep ?kq_TooLong_NoText ?kq_TooLong_Nothing ?kv_TooLong (L2.exk_mk ?h1_TooDeep ?h2_TooDeep ?h3_TooDeep ?h4_TooDeep ?h5_TooDeep ?h6_TooDeep ?h7_TooDeep ?y_TooDeep) ?kq_TooDeep_NoMobile ?kq_TooDeep_NoHall ?kq_TooDeep_NoWeights ?kq_TooDeep_NoWay ?kq_TooDeep_NoNumber ?kq_TooDeep_Never ?kq_TooDeep_TooLong ?kq_TooDeep_TooDeep ?kq_TooDeep_NoText ?kq_TooDeep_Nothing ?kv_TooDeep (L2.exk_mk ?h1_Nothing ?h2_Nothing ?h3_Nothing ?h4_Nothing ?h5_Nothing ?h6_Nothing ?h7_Nothing ?y_Nothing) ?kq_Nothing_NoMobile ?kq_Nothing_NoHall ?kq_Nothing_NoWeights ?kq_Nothing_NoWay ?kq_Nothing_NoNumber ?kq_Nothing_Never ?kq_Nothing_TooLong ?kq_Nothing_TooDeep ?kq_Nothing_NoText ?kq_Nothing_Nothing ?kv_Nothing (PySem.W.mg_of KX G ?m_LONGEST_NAME) (PySem.W.mg_of KX G ?m_LONGEST_ARM) (PySem.W.mg_of KX G ?m_MOST_RODS) T
      (case x_NoMobile => k_exc); (case x_NoWay => k_exc); (case x_NoNumber => k_exc); (case x_TooLong => k_exc); (case x_TooDeep => k_exc); (case x_Nothing => k_exc); (case em_NoWay => kts_exm); (case em_TooLong => kts_exm); (case em_TooDeep => kts_exm); (case em_Nothing => kts_exm); (case h1_NoWay => k_is); (case h2_NoWay => k_is); (case h3_NoWay => k_is); (case h4_NoWay => k_is); (case h5_NoWay => k_is); (case h6_NoWay => k_is); (case h7_NoWay => k_is); (case y_NoWay => k_exc); (case kq_NoWay_NoMobile => kit_is); (case kq_NoWay_NoHall => kit_is); (case kq_NoWay_NoWeights => kit_is); (case kq_NoWay_NoWay => kit_is); (case kq_NoWay_NoNumber => kit_is); (case kq_NoWay_Never => kit_is); (case kq_NoWay_TooLong => kit_is); (case kq_NoWay_TooDeep => kit_is); (case kq_NoWay_NoText => kit_is); (case kq_NoWay_Nothing => kit_is); (case kv_NoWay => kit_is); (case h1_TooLong => k_is); (case h2_TooLong => k_is); (case h3_TooLong => k_is); (case h4_TooLong => k_is); (case h5_TooLong => k_is); (case h6_TooLong => k_is); (case h7_TooLong => k_is); (case y_TooLong => k_exc); (case kq_TooLong_NoMobile => kit_is); (case kq_TooLong_NoHall => kit_is); (case kq_TooLong_NoWeights => kit_is); (case kq_TooLong_NoWay => kit_is); (case kq_TooLong_NoNumber => kit_is); (case kq_TooLong_Never => kit_is); (case kq_TooLong_TooLong => kit_is); (case kq_TooLong_TooDeep => kit_is); (case kq_TooLong_NoText => kit_is); (case kq_TooLong_Nothing => kit_is); (case kv_TooLong => kit_is); (case h1_TooDeep => k_is); (case h2_TooDeep => k_is); (case h3_TooDeep => k_is); (case h4_TooDeep => k_is); (case h5_TooDeep => k_is); (case h6_TooDeep => k_is); (case h7_TooDeep => k_is); (case y_TooDeep => k_exc); (case kq_TooDeep_NoMobile => kit_is); (case kq_TooDeep_NoHall => kit_is); (case kq_TooDeep_NoWeights => kit_is); (case kq_TooDeep_NoWay => kit_is); (case kq_TooDeep_NoNumber => kit_is); (case kq_TooDeep_Never => kit_is); (case kq_TooDeep_TooLong => kit_is); (case kq_TooDeep_TooDeep => kit_is); (case kq_TooDeep_NoText => kit_is); (case kq_TooDeep_Nothing => kit_is); (case kv_TooDeep => kit_is); (case h1_Nothing => k_is); (case h2_Nothing => k_is); (case h3_Nothing => k_is); (case h4_Nothing => k_is); (case h5_Nothing => k_is); (case h6_Nothing => k_is); (case h7_Nothing => k_is); (case y_Nothing => k_exc); (case kq_Nothing_NoMobile => kit_is); (case kq_Nothing_NoHall => kit_is); (case kq_Nothing_NoWeights => kit_is); (case kq_Nothing_NoWay => kit_is); (case kq_Nothing_NoNumber => kit_is); (case kq_Nothing_Never => kit_is); (case kq_Nothing_TooLong => kit_is); (case kq_Nothing_TooDeep => kit_is); (case kq_Nothing_NoText => kit_is); (case kq_Nothing_Nothing => kit_is); (case kv_Nothing => kit_is); (case m_LONGEST_NAME => k_is); (case m_LONGEST_ARM => k_is); (case m_MOST_RODS => k_is)
