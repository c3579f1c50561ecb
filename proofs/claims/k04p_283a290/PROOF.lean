import PyProof.Rows.All
import Wide.All
import OpenK.AllK
import Wide.FinOn
import Lean
import PyProof.EqAt
import PyProof.EqKinds
import PyProof.NeKinds
import PyProof.TupleCall
import PyProof.ZipIter
import PyProof.ListNew
import PyProof.P3Eq
import PyProof.NeData
import PyProof.EnumFor
import PyProof.EnumMake
import PyProof.ExcBaseAll.ValueError
import PyProof.Rows.SetFrom
import PyProof.CollectWalk
import PyProof.SumWalk
import PyProof.FString
import KE.KDictOf
import PyProof.AttrMissHeap
import PyProof.TupleOfGen
import KE.KDictSum
import PyProof.ConsumeS
import KE.RegKIsAll
import KE.RegKTryMore
import PySem.Challenge.RW_hangstill_k04_whole_least
set_option Elab.async false
set_option linter.all false
set_option maxRecDepth 100000
set_option maxHeartbeats 4000000
namespace L2
open PySem PySem.Spec PyProof.Rows
abbrev Key := Sum Int Str
def keyIs : Key → Value → Bool
  | .inl k, v => Value.isInt k v
  | .inr x, v => Value.isStrOf x v
def keyH (w : World) : Key → Int
  | .inl k => hashInt k
  | .inr x => hashStr w x
theorem keyIs_shape : ∀ {k : Key} {v : Value}, keyIs k v = true → (∃ i t, k = Sum.inl i ∧ v = Value.int i t) ∨ (∃ x t, k = Sum.inr x ∧ v = Value.str x t)
  | .inl i, v, h => by
    obtain ⟨t, e⟩ := Value.isInt_shape (k := i) (v := v) h
    exact .inl ⟨i, t, rfl, e⟩
  | .inr x, v, h => by
    obtain ⟨t, e⟩ := Value.isStrOf_shape (x := x) (v := v) h
    exact .inr ⟨x, t, rfl, e⟩
theorem keyIs_int (i : Int) (t : Tok) : keyIs (.inl i) (.int i t) = true := by simp [keyIs, Value.isInt]
theorem keyIs_str (x : Str) (t : Tok) : keyIs (.inr x) (.str x t) = true := by simp [keyIs, Value.isStrOf]
theorem key_ll (a b : Int) : decide ((Sum.inl a : Key) = Sum.inl b) = (a == b) := by
  by_cases e : a = b
  · subst e; simp
  · have h : ¬ (Sum.inl a : Key) = Sum.inl b := fun q => e (Sum.inl.inj q)
    rw [decide_eq_false h]
    exact (beq_eq_false_iff_ne.mpr e).symm
theorem key_rr (a b : Str) : decide ((Sum.inr a : Key) = Sum.inr b) = decide (a = b) := by
  by_cases e : a = b
  · subst e; simp
  · have h : ¬ (Sum.inr a : Key) = Sum.inr b := fun q => e (Sum.inr.inj q)
    rw [decide_eq_false h, decide_eq_false e]
theorem key_lr (a : Int) (b : Str) : decide ((Sum.inl a : Key) = Sum.inr b) = false := decide_eq_false (fun q => nomatch q)
theorem key_rl (a : Str) (b : Int) : decide ((Sum.inr a : Key) = Sum.inl b) = false := decide_eq_false (fun q => nomatch q)
def mixKind (prog : Program) (w : World) : PySem.KeyKind prog w Key where
  is := keyIs
  hash := keyH w
  inj := fun v a b ha hb => by
    rcases keyIs_shape ha with ⟨i, t, rfl, rfl⟩ | ⟨x, t, rfl, rfl⟩
    · rcases keyIs_shape hb with ⟨j, u, rfl, e⟩ | ⟨y, u, rfl, e⟩
      · injection e with e1 _; rw [e1]
      · exact nomatch e
    · rcases keyIs_shape hb with ⟨j, u, rfl, e⟩ | ⟨y, u, rfl, e⟩
      · exact nomatch e
      · injection e with e1 _; rw [e1]
  byValue := fun k v h => by
    rcases keyIs_shape h with ⟨i, t, rfl, rfl⟩ | ⟨x, t, rfl, rfl⟩ <;> rfl
  pyHash := fun hv h => by
    rcases keyIs_shape hv with ⟨i, t, rfl, rfl⟩ | ⟨x, t, rfl, rfl⟩
    · exact wpAny_pyHash_int h
    · exact wpAny_pyHash_str h
  eqBool := fun hu hv h => by
    rcases keyIs_shape hu with ⟨i, t, rfl, rfl⟩ | ⟨x, t, rfl, rfl⟩
    · rcases keyIs_shape hv with ⟨j, u, rfl, rfl⟩ | ⟨y, u, rfl, rfl⟩
      · rw [key_ll] at h; exact wpAny_eqBool_int h
      · rw [key_lr] at h; exact SeqAt.EqAt.int_str i t y u _ _ _ _ h
    · rcases keyIs_shape hv with ⟨j, u, rfl, rfl⟩ | ⟨y, u, rfl, rfl⟩
      · rw [key_rl] at h; exact SeqAt.EqAt.str_int x t j u _ _ _ _ h
      · rw [key_rr] at h; exact wpAny_eqBool_str h
  «strs» := fun k x t v h => by
    rcases keyIs_shape h with ⟨i, u, rfl, e⟩ | ⟨y, u, rfl, e⟩
    · exact nomatch e
    · injection e with e1 _
      subst e1
      cases v <;> rfl
theorem mixKind_int (prog : Program) (w : World) (i : Int) (t : Tok) : (mixKind prog w).is (.inl i) (.int i t) = true := keyIs_int i t
theorem mixKind_str (prog : Program) (w : World) (x : Str) (t : Tok) : (mixKind prog w).is (.inr x) (.str x t) = true := keyIs_str x t
end L2
namespace L2
open PySem PySem.Spec PyProof.Rows
inductive V where
  | non | bl (b : Bool) | int (i : Int) | str (x : Str) | byt (b : Array UInt8) | flt (b : UInt64) | ref (a : Addr) | ty (n : String)
  deriving DecidableEq
def RelV : V → Value → Prop
  | .non, u => u = Value.none
  | .bl b, u => u = Value.bool b
  | .int i, u => ∃ t, u = Value.int i t
  | .str x, u => ∃ t, u = Value.str x t
  | .byt b, u => ∃ t, u = Value.bytes b t
  | .flt b, u => ∃ t, u = Value.float b t
  | .ref a, u => u = Value.ref a
  | .ty n, u => u = Value.type n
abbrev Vals : List V → List Value → Prop := Paired RelV
theorem Vals.length {xs : List V} {us : List Value} (r : Vals xs us) : xs.length = us.length := Paired.length r
theorem Vals.get : ∀ {xs : List V} {us : List Value} {i : Nat} {x : V}, Vals xs us → xs[i]? = some x → ∃ u, us[i]? = some u ∧ RelV x u
  | _, _, _, _, .nil, e => by simp at e
  | _, _, 0, _, .cons r _, e => by simp at e; subst e; exact ⟨_, rfl, r⟩
  | _, _, i + 1, x, .cons _ t, e => by
    obtain ⟨u, h1, h2⟩ := Vals.get (i := i) (x := x) t (by simpa using e)
    exact ⟨u, by simpa using h1, h2⟩
theorem Vals.append : ∀ {xs ys : List V} {us ws : List Value}, Vals xs us → Vals ys ws → Vals (xs ++ ys) (us ++ ws)
  | _, _, _, _, .nil, s => s
  | _, _, _, _, .cons r t, s => .cons r (Vals.append t s)
theorem Vals.take : ∀ {xs : List V} {us : List Value} (n : Nat), Vals xs us → Vals (xs.take n) (us.take n)
  | _, _, 0, _ => .nil
  | _, _, _ + 1, .nil => .nil
  | _, _, n + 1, .cons r t => .cons r (Vals.take n t)
theorem Vals.drop : ∀ {xs : List V} {us : List Value} (n : Nat), Vals xs us → Vals (xs.drop n) (us.drop n)
  | _, _, 0, r => r
  | _, _, _ + 1, .nil => .nil
  | _, _, n + 1, .cons _ t => Vals.drop n t
def RelO : Option V → Option Value → Prop
  | some v, some u => RelV v u
  | none, none => True
  | _, _ => False
def KV {κ : Type} : List (κ × V) → List (κ × Value) → Prop := Paired fun (p : κ × V) (q : κ × Value) => p.1 = q.1 ∧ RelV p.2 q.2
def kV : Key → V
  | .inl i => .int i
  | .inr x => .str x
def TupO (h : Heap) (a : Addr) (items : Array Value) : Prop := ∃ n, h.get? a = some { cls := .type "tuple", data := .seq items n }
theorem TupO.is {h : Heap} {a : Addr} {items : Array Value} (x : TupO h a items) : IsTup h a items := let ⟨n, e⟩ := x; ⟨_, e, rfl, n, rfl⟩
theorem TupO.new (h : Heap) (items : Array Value) : TupO (h.push { cls := .type "tuple", data := .seq items }) h.objs.size items := ⟨0, Heap.get?_push_size _ rfl⟩
inductive HO where
  /-- a list -/
  | lst (xs : List V)
  /-- a tuple (never changes) -/
  | tup (xs : List V)
  /-- a dict whose keys are ints and texts; one whose keys are tuples of ints and texts (the empty one is both) -/
  | dK (kvs : List (Key × V)) | dT (kvs : List (List Key × V))
  /-- a set of ints: its members, its size -/
  | set (S : Int → Bool) (n : Nat)
  /-- an instance of the class at C, its dict at dx, its attributes -/
  | ins (C dx : Addr) (fs : List (Str × V))
  /-- the dict of the instance at x -/
  | own (x : Addr)
  /-- the dict of an exception -/
  | xd (fs : List (Str × V))
  /-- a bound method, f of x -/
  | met (f x : Addr)
  /-- a range object lo, lo + 1, .. below hi -/
  | rng (lo hi : Int)
  /-- a thing that is known to the object (the script; a dict while a loop walks it): read, never written while it is so -/
  | frz (o : Obj) (u : HO)
  /-- a code object's table -/
  | tbl (ps : Array Value)
  /-- any other thing, by what is true of its one object (a def of one's own: SetO a S n := HO.ext fun h => ..) -/
  | ext (φ : Heap → Prop)
abbrev Hp := Addr → Option HO
def upd (H : Hp) (a : Addr) (o : HO) : Hp := fun b => if b = a then some o else H b
theorem upd_same {H : Hp} {a : Addr} {o : HO} : upd H a o a = some o := by unfold upd; rw [if_pos rfl]
theorem upd_ne {H : Hp} {a b : Addr} {o : HO} (h : b ≠ a) : upd H a o b = H b := by unfold upd; rw [if_neg h]
theorem ne_of {H : Hp} {a b : Addr} {o u : HO} (h : H a = some o) (h' : H b = some u) (d : o ≠ u) : a ≠ b := by
  intro e; subst e; rw [h] at h'; exact d (Option.some.inj h')
theorem ne_of_none {H : Hp} {a b : Addr} {o : HO} (h : H a = some o) (h' : H b = none) : a ≠ b := by
  intro e; subst e; rw [h] at h'; cases h'
section
variable (P : Program) (w : World)
def ObjOk (H : Hp) (h : Heap) (a : Addr) : HO → Prop
  | .lst xs => xs.length ≤ sizeLine ∧ ∃ (its : List Value) (n : Nat), Vals xs its ∧ h.get? a = some { cls := .type "list", data := .seq its.toArray n }
  | .tup xs => xs.length ≤ sizeLine ∧ ∃ its : List Value, Vals xs its ∧ TupO h a its.toArray
  | .dK kvs => kvs.length ≤ sizeLine ∧ (a == sysModules) = false ∧ ∃ vs, KV kvs vs ∧ h.DictOf (mixKind P w) a vs
  | .dT kvs => kvs.length ≤ sizeLine ∧ (a == sysModules) = false ∧ ∃ xs : List (List Key × Addr × Value),
      Paired (fun (p : List Key × V) (q : List Key × Addr × Value) => p.1 = q.1 ∧ H q.2.1 = some (.tup (p.1.map kV)) ∧ RelV p.2 q.2.2) kvs xs ∧
      ∃ o es ep, h.get? a = some o ∧ o.ExactDict ∧ o.data = .dict es ep ∧ es.toList = xs.map (entryOfKey (tupleKind (mixKind P w))) ∧ (xs.map (·.1)).Nodup
  | .set S n => h.SetOf (intKind P w) a S n
  | .ins C dx fs => H dx = some (.own a) ∧ fs.length ≤ 1000 ∧ dx ≠ a ∧ h.get? a = some (PySem.W.instObj C dx) ∧
      ∃ mA, h.Ns1 dx mA ∧ (∀ f, RelO (fs.lookup f) (mA f)) ∧ PySem.Within mA (fs.map (·.1))
  | .own _ => ∃ o, h.get? a = some o
  | .xd fs => ∃ mA, h.Ns1 a mA ∧ ∀ f, RelO (fs.lookup f) (mA f)
  | .rng lo hi => ∃ t u v, h.get? a = some { cls := .type "range", data := .fields #[.int lo t, .int hi u, .int 1 v] }
  | .frz o u => h.get? a = some o ∧ ObjOk H h a u
  | .tbl ps => h.get? a = some { cls := .none, data := .fields ps }
  | .met f x => h.get? a = some (PySem.W.methodObj (.ref f) (.ref x))
  | .ext φ => φ h ∧ (∃ o, h.get? a = some o) ∧ ∀ h1 h2 : Heap, φ h1 → (∀ o, h1.get? a = some o → h2.get? a = some o) → φ h2
def HOk (H : Hp) (h : Heap) : Prop := ∀ a o, H a = some o → ObjOk P w H h a o
end
section
variable {P : Program} {w : World} {H H' : Hp} {h h' : Heap} {a : Addr} {o : HO}
theorem ObjOk.lt (x : ObjOk P w H h a o) : a < h.objs.size := by
  cases o with
  | lst xs => obtain ⟨_, _, _, _, e⟩ := x; exact Heap.lt_size e
  | tup xs => obtain ⟨_, _, _, p⟩ := x; exact p.is.lt
  | dK kvs => obtain ⟨_, _, _, _, o, _, _, e, _⟩ := x; exact Heap.lt_size e
  | dT kvs => obtain ⟨_, _, _, _, o, _, _, e, _⟩ := x; exact Heap.lt_size e
  | set S n => obtain ⟨o, _, _, _, e, _⟩ := x; exact Heap.lt_size e
  | ins C dx fs => obtain ⟨_, _, _, e, _⟩ := x; exact Heap.lt_size e
  | own y => obtain ⟨_, e⟩ := x; exact Heap.lt_size e
  | xd fs => obtain ⟨_, ⟨_, _, _, e, _⟩, _⟩ := x; exact Heap.lt_size e
  | rng lo hi => obtain ⟨_, _, _, e⟩ := x; exact Heap.lt_size e
  | frz ob u => obtain ⟨e, _⟩ := x; exact Heap.lt_size e
  | tbl ps => exact Heap.lt_size (show h.get? a = some _ from x)
  | met f y => exact Heap.lt_size (show h.get? a = some _ from x)
  | ext φ => obtain ⟨_, ⟨_, e⟩, _⟩ := x; exact Heap.lt_size e
theorem Paired.mapP {α β : Type} {F G : α → β → Prop} : ∀ {l₁ : List α} {l₂ : List β}, Paired F l₁ l₂ → (∀ a b, F a b → G a b) → Paired G l₁ l₂
  | _, _, .nil, _ => .nil
  | _, _, .cons r t, f => .cons (f _ _ r) (Paired.mapP t f)
theorem ObjOk.stay (x : ObjOk P w H h a o) (k : ∀ b u, (b = a ∨ H b = some (.own a)) → h.get? b = some u → h'.get? b = some u)
    (ho : ∀ b, H b = some (.own a) → H' b = some (.own a)) (ht : ∀ b xs, H b = some (.tup xs) → H' b = some (.tup xs)) : ObjOk P w H' h' a o := by
  induction o with
  | lst xs => obtain ⟨z, its, n, r, e⟩ := x; exact ⟨z, its, n, r, k _ _ (.inl rfl) e⟩
  | tup xs => obtain ⟨z, its, r, n, e⟩ := x; exact ⟨z, its, r, n, k _ _ (.inl rfl) e⟩
  | dK kvs => obtain ⟨z, y, vs, r, ob, es, ep, e, c⟩ := x; exact ⟨z, y, vs, r, ob, es, ep, k _ _ (.inl rfl) e, c⟩
  | dT kvs =>
    obtain ⟨z, y, xs, r, ob, es, ep, e, c⟩ := x
    exact ⟨z, y, xs, Paired.mapP r fun p q z => ⟨z.1, ht _ _ z.2.1, z.2.2⟩, ob, es, ep, k _ _ (.inl rfl) e, c⟩
  | set S n => obtain ⟨ob, es, ep, t, e, c⟩ := x; exact ⟨ob, es, ep, t, k _ _ (.inl rfl) e, c⟩
  | ins C dx fs =>
    obtain ⟨d, z, ne, e, mA, ⟨od, es, ep, e2, c⟩, r⟩ := x
    exact ⟨ho _ d, z, ne, k _ _ (.inl rfl) e, mA, ⟨od, es, ep, k _ _ (.inr d) e2, c⟩, r⟩
  | own y => obtain ⟨ob, e⟩ := x; exact ⟨ob, k _ _ (.inl rfl) e⟩
  | xd fs => obtain ⟨mA, ⟨od, es, ep, e, c⟩, r⟩ := x; exact ⟨mA, ⟨od, es, ep, k _ _ (.inl rfl) e, c⟩, r⟩
  | rng lo hi => obtain ⟨t, u, v, e⟩ := x; exact ⟨t, u, v, k _ _ (.inl rfl) e⟩
  | frz ob u ih => obtain ⟨e, q⟩ := x; exact ⟨k _ _ (.inl rfl) e, ih q⟩
  | tbl ps =>
    have e : h.get? a = some { cls := .none, data := .fields ps } := x
    show h'.get? a = some { cls := .none, data := .fields ps }
    exact k a _ (.inl rfl) e
  | met f y =>
    have e : h.get? a = some (PySem.W.methodObj (.ref f) (.ref y)) := x
    show h'.get? a = some (PySem.W.methodObj (.ref f) (.ref y))
    exact k a _ (.inl rfl) e
  | ext φ => obtain ⟨p, ⟨o, e⟩, st⟩ := x; exact ⟨st _ _ p fun o q => k _ _ (.inl rfl) q, ⟨o, k _ _ (.inl rfl) e⟩, st⟩
theorem HOk.lt (x : HOk P w H h) (e : H a = some o) : a < h.objs.size := (x a o e).lt
theorem HOk.fresh (x : HOk P w H h) (e : h.objs.size ≤ a) : H a = none := by
  cases q : H a with
  | none => rfl
  | some u => exact absurd (Nat.lt_of_lt_of_le (x.lt q) e) (Nat.lt_irrefl _)
theorem HOk.kept (x : HOk P w H h) (k : ∀ b u, h.get? b = some u → h'.get? b = some u) : HOk P w H h' := fun a o e =>
  (x a o e).stay (fun b u _ q => k b u q) (fun _ q => q) fun _ _ q => q
theorem HOk.laid (x : HOk P w H h) (k : ∀ b u, h.get? b = some u → h'.get? b = some u) (hp : h.objs.size ≤ a) (new : ObjOk P w (upd H a o) h' a o) : HOk P w (upd H a o) h' := fun b u e => by
  have hn := x.fresh hp
  by_cases hb : b = a
  · subst hb; rw [upd_same] at e; cases e; exact new
  · rw [upd_ne hb] at e
    exact (x b u e).stay (fun c v _ q => k c v q) (fun c q => by rw [upd_ne (ne_of_none q hn)]; exact q) fun c xs q => by rw [upd_ne (ne_of_none q hn)]; exact q
end
def Rd (H : Hp) (a : Addr) (u : HO) : Prop := H a = some u ∨ ∃ o, H a = some (.frz o u)
theorem Rd.ok {P : Program} {w : World} {H : Hp} {h : Heap} {a : Addr} {u : HO} (r : Rd H a u) (x : HOk P w H h) : ObjOk P w H h a u := by
  rcases r with r | ⟨o, r⟩
  · exact x a u r
  · obtain ⟨_, q⟩ := x a _ r
    exact q
def Mut : Option HO → Prop
  | some (.lst _) => True
  | some (.dK _) => True
  | some (.dT _) => True
  | some (.set _ _) => True
  | some (.ins _ _ _) => True
  | some (.ext _) => True
  | _ => False
section
variable {P : Program} {w : World} {H : Hp} {h h' : Heap} {x e : Addr} {o' : HO}
theorem HOk.write (ok : HOk P w H h) (mu : Mut (H x)) (he : e = x ∨ H e = some (.own x)) (k : ∀ b u, b ≠ e → h.get? b = some u → h'.get? b = some u) (heo : ∃ u, h'.get? e = some u)
    (new : ObjOk P w (upd H x o') h' x o') : HOk P w (upd H x o') h' := fun b u q => by
  have nown : ∀ c y, H c = some (.own y) → c ≠ x := fun c y r z => by subst z; rw [r] at mu; exact mu
  have ntup : ∀ c xs, H c = some (.tup xs) → c ≠ x := fun c xs r z => by subst z; rw [r] at mu; exact mu
  by_cases hb : b = x
  · subst hb; rw [upd_same] at q; cases q; exact new
  · rw [upd_ne hb] at q
    by_cases hbe : b = e
    · have q' : H b = some (.own x) := by
        rcases he with z | z
        · exact absurd (hbe.trans z) hb
        · rw [hbe]; exact z
      rw [q] at q'; cases q'
      obtain ⟨v, hv⟩ := heo
      exact ⟨v, by rw [hbe]; exact hv⟩
    · refine (ok b u q).stay (fun c v hc r => k c v ?_ r) (fun c r => by rw [upd_ne (nown c b r)]; exact r) fun c xs r => by rw [upd_ne (ntup c xs r)]; exact r
      rcases hc with rfl | hc
      · exact hbe
      · rintro rfl
        rcases he with z | z
        · exact nown c b hc z
        · rw [hc] at z; cases z; exact hb rfl
end
structure Un (fs ex : List Addr) (H H' : Hp) (h h' : Heap) : Prop where
  keep : ∀ b o, h.get? b = some o → H b = none → b ∉ fs → b ∉ ex → h'.get? b = some o
  slot : ∀ b o, h.get? b = some o → H b = none → b ∈ fs → b ∉ ex → ∃ sl, h'.get? b = some { o with slots := sl }
  free : ∀ b o, h.get? b = some o → H b = none → b ∉ ex → H' b = none
  there : ∀ b o, h.get? b = some o → b ∉ ex → ∃ o', h'.get? b = some o'
  tups : ∀ b xs, H b = some (.tup xs) → H' b = some (.tup xs)
  frzs : ∀ b o u, H b = some (.frz o u) → H' b = some (.frz o u)
  tbls : ∀ b ps, H b = some (.tbl ps) → ∃ more, H' b = some (.tbl (ps ++ more))
section
variable {fs fs' ex ex' : List Addr} {H H1 H2 : Hp} {h h1 h2 h' : Heap} {a x e : Addr} {o : HO}
theorem Un.any (u : Un fs ex H H1 h h1) {b : Addr} {ob : Obj} (q : h.get? b = some ob) (n : H b = none) (hx : b ∉ ex) : ∃ sl, h1.get? b = some { ob with slots := sl } := by
  by_cases hb : b ∈ fs
  · exact u.slot b ob q n hb hx
  · exact ⟨ob.slots, u.keep b ob q n hb hx⟩
theorem Un.kept (k : ∀ b u, h.get? b = some u → h'.get? b = some u) : Un fs ex H H h h' :=
  ⟨fun b ob q _ _ _ => k b ob q, fun b ob q _ _ _ => ⟨ob.slots, k b ob q⟩, fun _ _ _ n _ => n, fun b ob q _ => ⟨ob, k b ob q⟩, fun _ _ q => q, fun _ _ _ q => q, fun _ ps q => ⟨#[], by rw [q]; simp⟩⟩
theorem Un.refl : Un fs ex H H h h := Un.kept fun _ _ q => q
theorem Un.laid (k : ∀ b u, h.get? b = some u → h'.get? b = some u) (hp : h.objs.size ≤ a) (hn : H a = none) : Un fs ex H (upd H a o) h h' where
  keep := fun b u q _ _ _ => k b u q
  slot := fun b u q _ _ _ => ⟨u.slots, k b u q⟩
  free := fun b u q n _ => by rw [upd_ne (Nat.ne_of_lt (Nat.lt_of_lt_of_le (Heap.lt_size q) hp))]; exact n
  there := fun b u q _ => ⟨u, k b u q⟩
  tups := fun b xs q => by rw [upd_ne (ne_of_none q hn)]; exact q
  frzs := fun b u xs q => by rw [upd_ne (ne_of_none q hn)]; exact q
  tbls := fun b ps q => ⟨#[], by rw [upd_ne (ne_of_none q hn), q]; simp⟩
theorem Un.write (mu : Mut (H x)) (he : e = x ∨ H e = some (.own x)) (k : ∀ b u, b ≠ e → h.get? b = some u → h'.get? b = some u) (heo : ∃ u, h'.get? e = some u) : Un fs ex H (upd H x o) h h' := by
  have hx : ∀ b, H b = none → b ≠ x := fun b n z => by subst z; rw [n] at mu; exact mu
  have hb : ∀ b, H b = none → b ≠ e := fun b n z => by
    subst z
    rcases he with r | r
    · exact hx b n r
    · rw [n] at r; cases r
  have hm : ∀ b u, H b = some u → ¬ Mut (some u) → b ≠ x := fun b u q nm z => by subst z; rw [q] at mu; exact nm mu
  refine ⟨fun b u q n _ _ => k b u (hb b n) q, fun b u q n _ _ => ⟨u.slots, k b u (hb b n) q⟩, fun b u q n _ => by rw [upd_ne (hx b n)]; exact n, fun b u q _ => ?_,
    fun b xs q => by rw [upd_ne (hm b _ q fun z => z)]; exact q, fun b u xs q => by rw [upd_ne (hm b _ q fun z => z)]; exact q, fun b ps q => ⟨#[], by rw [upd_ne (hm b _ q fun z => z), q]; simp⟩⟩
  by_cases hbe : b = e
  · subst hbe; exact heo
  · exact ⟨u, k b u hbe q⟩
end
def trk (h : Heap) (H : Hp) : List Addr := (List.range h.objs.size).filter fun a => (H a).isSome
def hidT (h : Heap) (H : Hp) : Heap := PySem.W.hideAll h (trk h H)
theorem hidT_size (h : Heap) (H : Hp) : (hidT h H).objs.size = h.objs.size := PySem.W.hideAll_size _ _
theorem hidT_get {h : Heap} {H : Hp} {b : Addr} {o : Obj} (e : h.get? b = some o) (n : H b = none) : (hidT h H).get? b = some o :=
  PySem.W.hideAll_get _ e fun hm => by
    have q : (H b).isSome = true := (List.mem_filter.mp hm).2
    rw [n] at q; simp at q
theorem of_hidT {h : Heap} {H : Hp} {b : Addr} {o : Obj} (e : (hidT h H).get? b = some o) : h.get? b = some o ∧ H b = none := by
  have e' : h.get? b = some o := PySem.W.of_hideAll (trk h H) e
  refine ⟨e', ?_⟩
  cases q : H b with
  | none => rfl
  | some x =>
    have hm : b ∈ trk h H := List.mem_filter.mpr ⟨List.mem_range.mpr (Heap.lt_size e'), by simp [q]⟩
    have z : (hidT h H).get? b = none := PySem.W.hideAll_none (trk h H) hm
    rw [z] at e; cases e
end L2
namespace L2
open PySem PySem.Spec PyProof.Rows
structure Mod (K : PySem.W.Frag) (mg : Str → Option Value) (base : Heap) : Prop where
  kin : K.In base
  glob : base.Ns mainGlobals mg
  blt : ∃ mb, base.Ns builtinsNs mb ∧ ∀ x : Str, x ≠ "__name__" → mb x = bootBuiltins x
  nolimit : base.NoLimit
structure Cx where
  prog : Program
  w : World
  K : PySem.W.Frag
  mg : Str → Option Value
  base : Heap
  A : Around
  N : List Str
  s₀ : Shared
  H₀ : Hp
  env : Env
  outer : List Env
  stack : List Env
  ex : List Addr
  fn : Str → Bool
  calm : Bool
  pn : List (Addr × Obj)
  xe : Value → Shared → Prop
def frs (l : List Env) : List Addr := l.filterMap (·.frame)
abbrev Cx.fs (X : Cx) : List Addr := frs X.outer
def Vis (sc : Scope) (x : Str) : Prop := sc.names.lookup x = some .local ∨ sc.names.lookup x = some .cell ∨ sc.names.lookup x = some .free
def Loc (sc : Scope) (x : Str) : Prop := sc.names.lookup x = some .local ∨ sc.names.lookup x = some .cell
def Look (env : Env) (h : Heap) (m : Str → Option Value) (x : Str) (u : Value) : Prop :=
  (env.kindOf x = some .local ∧ m x = some u) ∨ ((env.kindOf x = some .cell ∨ env.kindOf x = some .free) ∧ ∃ c, env.cells.lookup x = some c ∧ h.IsCell c (some u))
structure Cx.Ok (X : Cx) : Prop where
  mod : Mod X.K X.mg X.base
  kind : X.env.scope.kind = .function
  glob : X.env.globals = mainGlobals
  blt : X.env.builtins = builtinsNs
  above : X.s₀.heap.objs.size ≤ X.env.locals
  inj : ∀ x y c, X.env.cells.lookup x = some c → X.env.cells.lookup y = some c → x = y
  has : ∀ x, (X.env.kindOf x = some .cell ∨ X.env.kindOf x = some .free) → ∃ c, X.env.cells.lookup x = some c
  cab : ∀ x c, X.fn x = true → X.env.cells.lookup x = some c → X.s₀.heap.objs.size ≤ c
  hd : X.calm = true → X.A.handled = none
  frames : X.A.frames = some X.stack
  stk : X.stack = X.outer ∨ (X.stack = X.env :: X.outer ∧ X.env.frame = some X.env.locals)
  exf : ∀ b ∈ X.ex, b ≠ X.env.locals ∧ ∀ x c, X.env.cells.lookup x = some c → c ≠ b
  bs : ∀ b o, X.base.get? b = some o → X.s₀.heap.get? b = some o ∧ X.H₀ b = none
  bsz : X.base.objs.size ≤ X.s₀.heap.objs.size
  noex : ∀ b o, X.base.get? b = some o → b ∉ X.ex
  exfs : ∀ b ∈ X.ex, b ∉ X.fs
  funs : X.s₀.heap.FunFrames X.base X.outer
  frf : ∀ b ∈ X.fs, X.H₀ b = none
structure Inv (X : Cx) (pins : List (Addr × Obj)) (σ : List (Option V)) (H : Hp) (s : Shared) : Prop where
  ok : X.Ok
  os : s.os = X.s₀.os
  bare : AllBare s.gens
  base : Un X.fs X.ex X.H₀ H X.s₀.heap s.heap
  loc : ∃ m, s.heap.Ns X.env.locals m ∧ ∀ (i : Nat) (x : Str) (v : V), X.N[i]? = some x → σ[i]? = some (some v) → Vis X.env.scope x → ∃ u, RelV v u ∧ Look X.env s.heap m x u
  cell : ∀ x c, X.env.cells.lookup x = some c → ∃ v, s.heap.IsCell c v
  free : H X.env.locals = none
  freeC : ∀ x c, X.env.cells.lookup x = some c → H c = none
  pin : ∀ p ∈ X.pn ++ pins, s.heap.get? p.1 = some p.2 ∧ H p.1 = none ∧ p.1 ≠ X.env.locals ∧ p.1 ∉ X.fs ∧ ∀ v, p.2.data ≠ .cell v
  hok : HOk X.prog X.w H s.heap
  len : σ.length = X.N.length
section
variable {X : Cx} {pins : List (Addr × Obj)} {σ : List (Option V)} {H H' : Hp} {s : Shared} {h' : Heap}
theorem Cx.Ok.nofr (ok : X.Ok) {b : Addr} {o : Obj} (e : X.base.get? b = some o) : b ∉ X.fs := fun hb => by
  have := (ok.funs.mem hb).1
  rw [e] at this; cases this
theorem Inv.bs (I : Inv X pins σ H s) : ∀ b o, X.base.get? b = some o → s.heap.get? b = some o ∧ H b = none := fun b o e =>
  ⟨I.base.keep b o (I.ok.bs b o e).1 (I.ok.bs b o e).2 (I.ok.nofr e) (I.ok.noex b o e), I.base.free b o (I.ok.bs b o e).1 (I.ok.bs b o e).2 (I.ok.noex b o e)⟩
theorem Inv.bk (I : Inv X pins σ H s) : ∀ b o, X.base.get? b = some o → s.heap.get? b = some o := fun b o e => (I.bs b o e).1
theorem Inv.mod (I : Inv X pins σ H s) : Mod X.K X.mg X.base := I.ok.mod
theorem Inv.kIn (I : Inv X pins σ H s) : X.K.In s.heap := I.ok.mod.kin.keeps I.bk
theorem Inv.lt (I : Inv X pins σ H s) : X.env.locals < s.heap.objs.size := let ⟨_, hn, _⟩ := I.loc; hn.lt
theorem Inv.sz (I : Inv X pins σ H s) : X.s₀.heap.objs.size ≤ s.heap.objs.size := Nat.le_trans I.ok.above (Nat.le_of_lt I.lt)
theorem Inv.nofs (I : Inv X pins σ H s) {a : Addr} (h : s.heap.objs.size ≤ a) : a ∉ X.fs := fun hb => by
  obtain ⟨_, o, ho, _⟩ := I.ok.funs.mem hb
  exact absurd (Nat.lt_of_lt_of_le (Heap.lt_size ho) (Nat.le_trans I.sz h)) (Nat.lt_irrefl _)
theorem Inv.cne (I : Inv X pins σ H s) : ∀ x c, X.env.cells.lookup x = some c → c ≠ X.env.locals := fun x c e z => by
  obtain ⟨v, o, ho, hd⟩ := I.cell x c e
  obtain ⟨m, ⟨o', es, ep, ho', hd', _⟩, _⟩ := I.loc
  rw [z, ho'] at ho; cases ho; rw [hd'] at hd; cases hd
theorem Inv.funs (I : Inv X pins σ H s) : s.heap.FunFrames X.base X.outer := by
  have all : ∀ (l : List Env), (∀ b ∈ frs l, b ∈ X.fs) → X.s₀.heap.FunFrames X.base l → s.heap.FunFrames X.base l := by
    intro l
    induction l with
    | nil => intro _ _; trivial
    | cons env r ih =>
      intro hs hl
      obtain ⟨hk, ⟨L, o, hf, hn, ho, hd⟩, hr⟩ := hl
      have hL : L ∈ X.fs := hs L (by unfold frs; rw [List.filterMap_cons, hf]; exact List.mem_cons_self)
      obtain ⟨sl, e⟩ := I.base.slot L o ho (I.ok.frf L hL) hL fun z => I.ok.exfs L z hL
      exact ⟨hk, ⟨L, _, hf, hn, e, hd⟩, ih (fun b hb => hs b (by unfold frs; rw [List.filterMap_cons, hf]; exact List.mem_cons_of_mem _ hb)) hr⟩
  exact all X.outer (fun _ hb => hb) I.ok.funs
theorem Inv.stack (I : Inv X pins σ H s) : s.heap.FunFrames X.base X.stack := by
  rcases I.ok.stk with e | ⟨e, hf⟩
  · rw [e]; exact I.funs
  · rw [e]
    obtain ⟨m, hn, _⟩ := I.loc
    refine .cons (by rw [I.ok.kind]; decide) hf hn ?_ I.funs
    exact Heap.get?_none_of_le (Nat.le_trans I.ok.bsz I.ok.above)
theorem Inv.stkSub (I : Inv X pins σ H s) : ∀ b ∈ frs X.stack, b ∈ X.env.locals :: X.fs := fun b hb => by
  rcases I.ok.stk with e | ⟨e, hf⟩
  · rw [e] at hb; exact List.mem_cons_of_mem _ hb
  · rw [e] at hb
    unfold frs at hb
    rw [List.filterMap_cons, hf] at hb
    exact hb
theorem Inv.stkFree (I : Inv X pins σ H s) : ∀ b ∈ frs X.stack, H b = none := fun b hb => by
  rcases List.mem_cons.mp (I.stkSub b hb) with e | hb
  · rw [e]; exact I.free
  · obtain ⟨_, o, ho, _⟩ := I.ok.funs.mem hb
    exact I.base.free b o ho (I.ok.frf b hb) fun z => I.ok.exfs b z hb
theorem Inv.step {g' : Array GenState} {t' : Nat} {d' : Drawn} {ch : List Addr} (I : Inv X pins σ H s)
    (hch : ∀ b ∈ ch, (b ∈ X.ex ∨ X.s₀.heap.objs.size ≤ b) ∧ b ≠ X.env.locals ∧ (∀ x c, X.env.cells.lookup x = some c → c ≠ b) ∧ ∀ p ∈ X.pn ++ pins, p.1 ≠ b)
    (keep : ∀ b o, b ≠ X.env.locals → b ∉ X.fs → b ∉ ch → s.heap.get? b = some o → H b = none → h'.get? b = some o)
    (slot : ∀ b o, b ≠ X.env.locals → b ∈ X.fs → b ∉ ch → s.heap.get? b = some o → H b = none → ∃ sl, h'.get? b = some { o with slots := sl }) (free : ∀ b o, b ∉ ch → s.heap.get? b = some o → H b = none → H' b = none)
    (there : ∀ b o, b ∉ ch → s.heap.get? b = some o → ∃ o', h'.get? b = some o')
    (tups : ∀ b xs, H b = some (.tup xs) → H' b = some (.tup xs)) (frzs : ∀ b o u, H b = some (.frz o u) → H' b = some (.frz o u)) (tbls : ∀ b ps, H b = some (.tbl ps) → ∃ more, H' b = some (.tbl (ps ++ more)))
    (ns : ∀ m, s.heap.Ns X.env.locals m → h'.Ns X.env.locals m) (hok : HOk X.prog X.w H' h') (hg : AllBare g') :
    Inv X pins σ H' { s with heap := h', gens := g', drawn := d', toks := t' } := by
  have neL : ∀ b o, X.s₀.heap.get? b = some o → b ≠ X.env.locals := fun b o e => Nat.ne_of_lt (Nat.lt_of_lt_of_le (Heap.lt_size e) I.ok.above)
  have neC : ∀ b o, X.s₀.heap.get? b = some o → b ∉ X.ex → b ∉ ch := fun b o e hx hb => by
    rcases (hch b hb).1 with z | z
    · exact hx z
    · exact absurd (Nat.lt_of_lt_of_le (Heap.lt_size e) z) (Nat.lt_irrefl _)
  have cellK : ∀ x c, X.env.cells.lookup x = some c → ∀ v, s.heap.IsCell c v → h'.IsCell c v := fun x c e v ⟨o, ho, hd⟩ => by
    have nch : c ∉ ch := fun z => (hch c z).2.2.1 x c e rfl
    by_cases hc : c ∈ X.fs
    · obtain ⟨sl, q⟩ := slot c o (I.cne x c e) hc nch ho (I.freeC x c e)
      exact ⟨_, q, hd⟩
    · exact ⟨o, keep c o (I.cne x c e) hc nch ho (I.freeC x c e), hd⟩
  refine ⟨I.ok, I.os, hg, ⟨fun b o e n hb hx => ?_, fun b o e n hb hx => ?_, fun b o e n hx => ?_, fun b o e hx => ?_, fun b xs e => tups b xs (I.base.tups b xs e), fun b o xs e => frzs b o xs (I.base.frzs b o xs e), fun b ps e => ?_⟩, ?_, fun x c e => ?_, ?_, fun x c e => ?_, fun p hp => ?_, hok, I.len⟩
  · exact keep b o (neL b o e) hb (neC b o e hx) (I.base.keep b o e n hb hx) (I.base.free b o e n hx)
  · obtain ⟨sl, e1⟩ := I.base.slot b o e n hb hx
    obtain ⟨sl', e2⟩ := slot b _ (neL b o e) hb (neC b o e hx) e1 (I.base.free b o e n hx)
    exact ⟨sl', e2⟩
  · obtain ⟨o', e1⟩ := I.base.there b o e hx
    exact free b o' (neC b o e hx) e1 (I.base.free b o e n hx)
  · obtain ⟨o', e1⟩ := I.base.there b o e hx
    exact there b o' (neC b o e hx) e1
  · obtain ⟨m1, e1⟩ := I.base.tbls b ps e
    obtain ⟨m2, e2⟩ := tbls b _ e1
    exact ⟨m1 ++ m2, by rw [e2, Array.append_assoc]⟩
  · obtain ⟨m, hn, hl⟩ := I.loc
    refine ⟨m, ns m hn, fun i x v e1 e2 e3 => ?_⟩
    obtain ⟨u, r, l⟩ := hl i x v e1 e2 e3
    refine ⟨u, r, ?_⟩
    rcases l with l | ⟨k, c, e, z⟩
    · exact .inl l
    · exact .inr ⟨k, c, e, cellK x c e _ z⟩
  · obtain ⟨v, z⟩ := I.cell x c e
    exact ⟨v, cellK x c e v z⟩
  · obtain ⟨m, ⟨o, _, _, ho, _⟩, _⟩ := I.loc
    exact free _ o (fun z => (hch _ z).2.1 rfl) ho I.free
  · obtain ⟨v, o, ho, hd⟩ := I.cell x c e
    exact free c o (fun z => (hch c z).2.2.1 x c e rfl) ho (I.freeC x c e)
  · obtain ⟨e, n, ne, nf, d⟩ := I.pin p hp
    have nch : p.1 ∉ ch := fun z => (hch p.1 z).2.2.2 p hp rfl
    exact ⟨keep p.1 p.2 ne nf nch e n, free p.1 p.2 nch e n, ne, nf, d⟩
theorem Inv.un {t' : Nat} (I : Inv X pins σ H s) (u : Un X.fs [] H H' s.heap h') (hok : HOk X.prog X.w H' h') : Inv X pins σ H' { s with heap := h', toks := t' } := by
  obtain ⟨m, ⟨o, es, ep, ho, r⟩, _⟩ := id I.loc
  obtain ⟨sl, hL⟩ := u.any ho I.free (by simp)
  exact I.step (g' := s.gens) (d' := s.drawn) (ch := []) (fun _ z => nomatch z) (fun b o _ hb _ e n => u.keep b o e n hb (by simp)) (fun b o _ hb _ e n => u.slot b o e n hb (by simp)) (fun b o _ e n => u.free b o e n (by simp)) (fun b o _ e => u.there b o e (by simp)) u.tups u.frzs u.tbls (fun m' hm => by
    obtain ⟨o', es', ep', ho', r'⟩ := hm
    rw [ho] at ho'; cases ho'
    exact ⟨_, es', ep', hL, r'⟩) hok I.bare
theorem Inv.call {g' : Array GenState} {t' : Nat} {d' : Drawn} {ch : List Addr} (I : Inv X pins σ H s) (u : Un (frs X.stack) ch H H' s.heap h') (hok : HOk X.prog X.w H' h') (hg : AllBare g')
    (hch : ∀ b ∈ ch, (b ∈ X.ex ∨ X.s₀.heap.objs.size ≤ b) ∧ b ≠ X.env.locals ∧ (∀ x c, X.env.cells.lookup x = some c → c ≠ b) ∧ ∀ p ∈ X.pn ++ pins, p.1 ≠ b) :
    Inv X pins σ H' { s with heap := h', gens := g', drawn := d', toks := t' } := by
  obtain ⟨m, ⟨o, es, ep, ho, r⟩, _⟩ := id I.loc
  obtain ⟨sl, hL⟩ := u.any ho I.free fun z => (hch _ z).2.1 rfl
  exact I.step (ch := ch) hch (fun b o hL hb hc e n => u.keep b o e n (fun z => (List.mem_cons.mp (I.stkSub b z)).elim hL hb) hc) (fun b o _ _ hc e n => u.any e n hc) (fun b o hc e n => u.free b o e n hc) (fun b o hc e => u.there b o e hc) u.tups u.frzs u.tbls (fun m' hm => by
    obtain ⟨o', es', ep', ho', r'⟩ := hm
    rw [ho] at ho'; cases ho'
    exact ⟨_, es', ep', hL, r'⟩) hok hg
theorem Inv.turned {t' : Nat} {it : Addr} (I : Inv X pins σ H s) (k : ∀ b o, b ≠ it → s.heap.get? b = some o → h'.get? b = some o) (hn : H it = none) (hL : it ≠ X.env.locals)
    (h1 : it ∈ X.ex ∨ X.s₀.heap.objs.size ≤ it) (h2 : ∀ x c, X.env.cells.lookup x = some c → c ≠ it) (h3 : ∀ p ∈ X.pn ++ pins, p.1 ≠ it) : Inv X pins σ H { s with heap := h', toks := t' } := by
  have nit : ∀ b u, H b = some u → b ≠ it := fun b u e z => by rw [z, hn] at e; cases e
  refine I.step (g' := s.gens) (d' := s.drawn) (ch := [it]) (fun b hb => ?_) (fun b o _ _ hc e _ => k b o (fun z => hc (by simp [z])) e) (fun b o _ _ hc e _ => ⟨o.slots, k b o (fun z => hc (by simp [z])) e⟩) (fun _ _ _ _ n => n)
    (fun b o hc e => ⟨o, k b o (fun z => hc (by simp [z])) e⟩) (fun _ _ e => e) (fun _ _ _ e => e) (fun b ps e => ⟨#[], by rw [e]; simp⟩) (fun m hm => ?_) (fun b u e => ?_) I.bare
  · have e : b = it := by simpa using hb
    subst e
    exact ⟨h1, hL, h2, h3⟩
  · obtain ⟨o, es, ep, ho, r⟩ := hm
    exact ⟨o, es, ep, k _ o (Ne.symm hL) ho, r⟩
  · refine (I.hok b u e).stay (fun c v hc q => k c v ?_ q) (fun _ q => q) fun _ _ q => q
    rcases hc with z | z
    · rw [z]; exact nit b u e
    · exact nit c _ z
theorem Inv.tok (I : Inv X pins σ H s) (t : Nat) : Inv X pins σ H { s with toks := t } := I.un (h' := s.heap) (t' := t) Un.refl I.hok
theorem Inv.kept {t' : Nat} (I : Inv X pins σ H s) (k : ∀ b u, s.heap.get? b = some u → h'.get? b = some u) : Inv X pins σ H { s with heap := h', toks := t' } := I.un (Un.kept k) (I.hok.kept k)
theorem Inv.laid {a : Addr} {o : HO} {t' : Nat} (I : Inv X pins σ H s) (k : ∀ b u, s.heap.get? b = some u → h'.get? b = some u) (hp : s.heap.objs.size ≤ a) (new : ObjOk X.prog X.w (upd H a o) h' a o) :
    Inv X pins σ (upd H a o) { s with heap := h', toks := t' } := I.un (Un.laid k hp (I.hok.fresh hp)) (I.hok.laid k hp new)
theorem Inv.write {x e : Addr} {o : HO} {t' : Nat} (I : Inv X pins σ H s) (mu : Mut (H x)) (he : e = x ∨ H e = some (.own x)) (k : ∀ b u, b ≠ e → s.heap.get? b = some u → h'.get? b = some u) (heo : ∃ u, h'.get? e = some u)
    (new : ObjOk X.prog X.w (upd H x o) h' x o) : Inv X pins σ (upd H x o) { s with heap := h', toks := t' } := I.un (Un.write mu he k heo) (I.hok.write mu he k heo new)
theorem Inv.weak {σ' : List (Option V)} (I : Inv X pins σ H s) (hl : σ'.length = σ.length) (w : ∀ (i : Nat) v, σ'[i]? = some (some v) → σ[i]? = some (some v)) : Inv X pins σ' H s :=
  ⟨I.ok, I.os, I.bare, I.base, let ⟨m, hn, hl'⟩ := I.loc; ⟨m, hn, fun i x v e1 e2 e3 => hl' i x v e1 (w i v e2) e3⟩, I.cell, I.free, I.freeC, I.pin, I.hok, hl.trans I.len⟩
theorem Inv.pins_of {pins' : List (Addr × Obj)} (I : Inv X pins σ H s) (h : ∀ p ∈ pins', s.heap.get? p.1 = some p.2 ∧ H p.1 = none ∧ p.1 ≠ X.env.locals ∧ p.1 ∉ X.fs ∧ ∀ v, p.2.data ≠ .cell v) : Inv X pins' σ H s :=
  ⟨I.ok, I.os, I.bare, I.base, I.loc, I.cell, I.free, I.freeC, fun p hp => (List.mem_append.mp hp).elim (fun z => I.pin p (List.mem_append_left _ z)) (h p), I.hok, I.len⟩
theorem nodup_ix {N : List Str} (hN : N.Nodup) {i j : Nat} {x : Str} (a : N[i]? = some x) (b : N[j]? = some x) : i = j := by
  obtain ⟨h1, e1⟩ := List.getElem?_eq_some_iff.mp a
  obtain ⟨h2, e2⟩ := List.getElem?_eq_some_iff.mp b
  exact (List.getElem_inj hN).mp (e1.trans e2.symm)
theorem store_ok2 {M : Model} {A : Around} {E : Value → Shared → Prop} {i : Nat} {x : Str} {v : V} {u : Value} {Q : Unit → Shared → Prop} (I : Inv X pins σ H s) (hN : X.N.Nodup) (hi : X.N[i]? = some x) (hx : Loc X.env.scope x) (r : RelV v u)
    (h : ∀ s', Inv X pins (σ.set i (some v)) H s' → (∃ a, Heap.SameBut a s.heap s'.heap ∧ (a = X.env.locals ∨ X.env.cells.lookup x = some a)) → Q () s') (hf : X.fn x = true ∨ X.env.scope.names.lookup x = some .local := by first | exact .inl rfl | exact .inr rfl | assumption) : wpAny M A (storeName X.env x u) Q E s := by
  obtain ⟨m, hn, hl⟩ := id I.loc
  have hcls : (X.env.scope.kind == .class || (X.env.scope.kind == .module && X.env.locals != X.env.globals)) = false := by rw [I.ok.kind]; rfl
  have hiσ : i < σ.length := by rw [I.len]; exact (List.getElem?_eq_some_iff.mp hi).1
  have cne := I.cne
  have tracked : ∀ {a : Addr} {h' : Heap}, (∃ o, s.heap.get? a = some o ∧ H a = none) → Heap.SameBut a s.heap h' → HOk X.prog X.w H h' := fun {a h'} ha hs b ob e => by
    obtain ⟨_, _, hfree⟩ := ha
    refine (I.hok b ob e).stay (fun c w' hc q => (hs.2 c ?_).trans q) (fun _ q => q) fun _ _ q => q
    rintro rfl
    rcases hc with rfl | hc
    · rw [hfree] at e; cases e
    · rw [hfree] at hc; cases hc
  rcases hx with hk | hk
  · refine wpAny_storeName_local hk hn (fun h' hn' hs => ?_) hcls
    obtain ⟨oL, _, _, hoL, _⟩ := id hn
    refine h _ ⟨I.ok, I.os, I.bare, ⟨fun b o e n hb hx => ?_, fun b o e n hb hx => ?_, I.base.free, fun b o e hx => ?_, I.base.tups, I.base.frzs, I.base.tbls⟩, ⟨_, hn', fun j y v' e1 e2 e3 => ?_⟩, fun y c e => ?_, I.free, I.freeC, fun p hp => ?_, tracked ⟨oL, hoL, I.free⟩ hs, by simpa using I.len⟩ ⟨_, hs, .inl rfl⟩
    · exact (hs.2 b (Nat.ne_of_lt (Nat.lt_of_lt_of_le (Heap.lt_size e) I.ok.above))).trans (I.base.keep b o e n hb hx)
    · obtain ⟨sl, e1⟩ := I.base.slot b o e n hb hx
      exact ⟨sl, (hs.2 b (Nat.ne_of_lt (Nat.lt_of_lt_of_le (Heap.lt_size e) I.ok.above))).trans e1⟩
    · obtain ⟨o', e1⟩ := I.base.there b o e hx
      exact ⟨o', (hs.2 b (Nat.ne_of_lt (Nat.lt_of_lt_of_le (Heap.lt_size e) I.ok.above))).trans e1⟩
    · by_cases hj : j = i
      · subst hj
        rw [hi] at e1; cases e1
        rw [List.getElem?_set_self hiσ] at e2
        cases e2
        exact ⟨u, r, .inl ⟨hk, by simp⟩⟩
      · rw [List.getElem?_set_ne (Ne.symm hj)] at e2
        obtain ⟨u', r', q⟩ := hl j y v' e1 e2 e3
        refine ⟨u', r', ?_⟩
        rcases q with ⟨k, e⟩ | ⟨k, c, e, z⟩
        · refine .inl ⟨k, ?_⟩
          have : y ≠ x := fun e => hj (nodup_ix hN e1 (e ▸ hi))
          simp [this, e]
        · exact .inr ⟨k, c, e, z.sameBut hs (cne y c e)⟩
    · obtain ⟨w', z⟩ := I.cell y c e
      exact ⟨w', z.sameBut hs (cne y c e)⟩
    · obtain ⟨e, n, ne, nf, d⟩ := I.pin p hp
      exact ⟨(hs.2 p.1 ne).trans e, n, ne, nf, d⟩
  · have hfn : X.fn x = true := by
      rcases hf with z | z
      · exact z
      · rw [z] at hk; cases hk
    obtain ⟨c, hc⟩ := I.ok.has x (.inl hk)
    obtain ⟨w', z⟩ := I.cell x c hc
    refine wpAny_storeName_cell I.ok.kind hk hc z (fun h' hc' hs => ?_)
    obtain ⟨oc, hoc, hocd⟩ := id z
    refine h { s with heap := h' } ⟨I.ok, I.os, I.bare, ⟨fun b o e n hb hx => ?_, fun b o e n hb hx => ?_, I.base.free, fun b o e hx => ?_, I.base.tups, I.base.frzs, I.base.tbls⟩, ⟨m, hn.sameBut hs (Ne.symm (cne x c hc)), fun j y v' e1 e2 e3 => ?_⟩, fun y c' e => ?_, I.free, I.freeC, fun p hp => ?_, tracked ⟨oc, hoc, I.freeC x c hc⟩ hs, by simpa using I.len⟩ ⟨c, hs, .inr hc⟩
    · exact (hs.2 b (Nat.ne_of_lt (Nat.lt_of_lt_of_le (Heap.lt_size e) (I.ok.cab x c hfn hc)))).trans (I.base.keep b o e n hb hx)
    · obtain ⟨sl, e1⟩ := I.base.slot b o e n hb hx
      exact ⟨sl, (hs.2 b (Nat.ne_of_lt (Nat.lt_of_lt_of_le (Heap.lt_size e) (I.ok.cab x c hfn hc)))).trans e1⟩
    · obtain ⟨o', e1⟩ := I.base.there b o e hx
      exact ⟨o', (hs.2 b (Nat.ne_of_lt (Nat.lt_of_lt_of_le (Heap.lt_size e) (I.ok.cab x c hfn hc)))).trans e1⟩
    · by_cases hj : j = i
      · subst hj
        rw [hi] at e1; cases e1
        rw [List.getElem?_set_self hiσ] at e2
        cases e2
        exact ⟨u, r, .inr ⟨.inl hk, c, hc, hc'⟩⟩
      · rw [List.getElem?_set_ne (Ne.symm hj)] at e2
        obtain ⟨u', r', q⟩ := hl j y v' e1 e2 e3
        refine ⟨u', r', ?_⟩
        rcases q with q | ⟨k, c', e, z'⟩
        · exact .inl q
        · refine .inr ⟨k, c', e, z'.sameBut hs ?_⟩
          rintro rfl
          exact hj (nodup_ix hN e1 (I.ok.inj _ _ _ e hc ▸ hi))
    · by_cases hcc : c' = c
      · subst hcc; exact ⟨_, hc'⟩
      · obtain ⟨w2, z2⟩ := I.cell y c' e
        exact ⟨w2, z2.sameBut hs hcc⟩
    · obtain ⟨e, n, ne, nf, d⟩ := I.pin p hp
      refine ⟨(hs.2 p.1 ?_).trans e, n, ne, nf, d⟩
      intro q
      rw [q, hoc] at e
      have q' : oc = p.2 := Option.some.inj e
      exact d w' (by rw [← q']; exact hocd)
theorem store_ok {M : Model} {A : Around} {E : Value → Shared → Prop} {i : Nat} {x : Str} {v : V} {u : Value} {Q : Unit → Shared → Prop} (I : Inv X pins σ H s) (hN : X.N.Nodup) (hi : X.N[i]? = some x) (hx : Loc X.env.scope x) (r : RelV v u)
    (h : ∀ s', Inv X pins (σ.set i (some v)) H s' → Q () s') (hf : X.fn x = true ∨ X.env.scope.names.lookup x = some .local := by first | exact .inl rfl | exact .inr rfl | assumption) : wpAny M A (storeName X.env x u) Q E s :=
  store_ok2 I hN hi hx r (fun s' I' _ => h s' I') hf
theorem Inv.call' {s' : Shared} {ch : List Addr} (I : Inv X pins σ H s) (ho : s'.os = s.os) (u : Un (frs X.stack) ch H H' s.heap s'.heap) (hok : HOk X.prog X.w H' s'.heap) (hg : AllBare s'.gens)
    (hch : ∀ b ∈ ch, (b ∈ X.ex ∨ X.s₀.heap.objs.size ≤ b) ∧ b ≠ X.env.locals ∧ (∀ x c, X.env.cells.lookup x = some c → c ≠ b) ∧ ∀ p ∈ X.pn ++ pins, p.1 ≠ b) : Inv X pins σ H' s' := by
  obtain ⟨h', g', d', t', o'⟩ := s'
  have e : o' = s.os := ho
  subst e
  exact I.call (g' := g') (t' := t') (d' := d') u hok hg hch
end
abbrev XK := Value → Option Addr → Hp → Prop
abbrev St := List (Option V)
abbrev VK := V → Hp → Prop
abbrev TE := St → Hp → VK → Prop
abbrev TT := St → Hp → (Bool → Hp → Prop) → Prop
abbrev TA := St → Hp → (List V → Hp → Prop) → Prop
structure Ends where
  nx : St → Hp → Prop
  rt : VK
  bk : St → Hp → Prop := fun _ _ => False
  ct : St → Hp → Prop := fun _ _ => False
abbrev TS := Ends → St → Hp → Prop
def EP (X : Cx) (pins : List (Addr × Obj)) (σ : St) (Q : VK) (u : Value) (s' : Shared) : Prop := ∃ v H', Inv X pins σ H' s' ∧ RelV v u ∧ Q v H'
def TP (X : Cx) (pins : List (Addr × Obj)) (σ : St) (Q : Bool → Hp → Prop) (b : Bool) (s' : Shared) : Prop := ∃ H', Inv X pins σ H' s' ∧ Q b H'
def AP (X : Cx) (pins : List (Addr × Obj)) (σ : St) (Q : List V → Hp → Prop) (us : List Value) (s' : Shared) : Prop := ∃ vs H', Inv X pins σ H' s' ∧ Vals vs us ∧ Q vs H'
def SP (X : Cx) (pins : List (Addr × Obj)) (D : Ends) (f : Flow) (s' : Shared) : Prop :=
  match f with
  | .next => ∃ σ' H', Inv X pins σ' H' s' ∧ D.nx σ' H'
  | .brk => ∃ σ' H', Inv X pins σ' H' s' ∧ D.bk σ' H'
  | .cont => ∃ σ' H', Inv X pins σ' H' s' ∧ D.ct σ' H'
  | .ret u => ∃ v σ' H', Inv X pins σ' H' s' ∧ RelV v u ∧ D.rt v H'
def PE (X : Cx) (e : Expr) (t : TE) : Prop :=
  ∀ (pins : List (Addr × Obj)) (s : Shared) (σ : St) (H : Hp) (Q : VK), Inv X pins σ H s → t σ H Q → wpAny (model X.prog X.w) X.A (eval e X.env) (EP X pins σ Q) X.xe s
def PT (X : Cx) (e : Expr) (t : TT) : Prop :=
  ∀ (pins : List (Addr × Obj)) (s : Shared) (σ : St) (H : Hp) (Q : Bool → Hp → Prop), Inv X pins σ H s → t σ H Q → wpAny (model X.prog X.w) X.A (isTrue e X.env (eval e X.env)) (TP X pins σ Q) X.xe s
def PW (X : Cx) (e : Expr) (t : TT) : Prop :=
  ∀ (whole : Sem Value) (pins : List (Addr × Obj)) (s : Shared) (σ : St) (H : Hp) (Q : Bool → Hp → Prop), Inv X pins σ H s → t σ H Q → wpAny (model X.prog X.w) X.A (isTrue e X.env whole) (TP X pins σ Q) X.xe s
theorem PW.pt {X : Cx} {e : Expr} {t : TT} (h : PW X e t) : PT X e t := h _
def PA (X : Cx) (es : List Expr) (t : TA) : Prop :=
  ∀ (pos : Pos) (pins : List (Addr × Obj)) (s : Shared) (σ : St) (H : Hp) (Q : List V → Hp → Prop), Inv X pins σ H s → t σ H Q → wpAny (model X.prog X.w) X.A (spliced (backTo pos (starEach es X.env))) (AP X pins σ Q) X.xe s
def PS (X : Cx) (st : Stmt) (t : TS) : Prop :=
  ∀ (pins : List (Addr × Obj)) (s : Shared) (σ : St) (H : Hp) (D : Ends), Inv X pins σ H s → t D σ H → wpAny (model X.prog X.w) X.A (exec st X.env) (SP X pins D) X.xe s
def PSs (X : Cx) (st : List Stmt) (t : TS) : Prop :=
  ∀ (pins : List (Addr × Obj)) (s : Shared) (σ : St) (H : Hp) (D : Ends), Inv X pins σ H s → t D σ H → wpAny (model X.prog X.w) X.A (execs st X.env) (SP X pins D) X.xe s
theorem thn {α : Type} {t : Sem α} {Q Q' : α → Shared → Prop} {M : Model} {A : Around} {E : Value → Shared → Prop} {s : Shared} (h : wpAny M A t Q E s) (hQ : ∀ a s, Q a s → Q' a s) : wpAny M A t Q' E s := wpAny_mono h hQ fun _ _ x => x
end L2
namespace L2
open PySem PySem.Spec PyProof.Rows
section
variable {X : Cx}
def tVar (i : Nat) : TE := fun σ H Q => ∃ v, σ[i]? = some (some v) ∧ Q v H
def tC (v : V) : TE := fun _ H Q => Q v H
theorem pe_var {i : Nat} {x : Str} {pos : Pos} (hN : X.N[i]? = some x) (hv : Vis X.env.scope x) (hd : (x == ("__debug__" : Str)) = false := by decide) (hcd : (x == ("__classdict__" : Str)) = false := by decide) : PE X (.Name x pos) (tVar i) := by
  intro pins s σ H Q I h
  obtain ⟨v, e, h⟩ := h
  obtain ⟨m, hn, hl⟩ := I.loc
  obtain ⟨u, r, l⟩ := hl i x v hN e hv
  have fin : EP X pins σ Q u s := ⟨v, H, I, r, h⟩
  rcases l with ⟨hk, hm⟩ | ⟨hk, c, hc, hcell⟩
  · exact wpAny_Name (wpAny_loadName_local I.ok.kind hk hn hm fin) hd
  · rcases hk with hk | hk
    · exact wpAny_Name (wpAny_loadName_cell I.ok.kind hk hc hcell fin) hd
    · exact wpAny_Name (wpAny_loadName_free I.ok.kind hk hc hcell fin hcd) hd
theorem pe_int {i j pos} : PE X (.Constant (.int i) j pos) (tC (.int i)) := fun _ _ _ H _ I h => wpAny_Constant_int ⟨.int i, H, I.tok _, ⟨_, rfl⟩, h⟩
theorem pe_bl {b j pos} : PE X (.Constant (.bool b) j pos) (tC (.bl b)) := fun _ _ _ H _ I h => Constant_bool ⟨.bl b, H, I, rfl, h⟩
theorem pe_non {j pos} : PE X (.Constant .none j pos) (tC .non) := fun _ _ _ H _ I h => Constant_none ⟨.non, H, I, rfl, h⟩
theorem pe_str {x j pos} : PE X (.Constant (.str x) j pos) (tC (.str x)) := fun _ _ _ H _ I h => Calls.Constant_str ⟨.str x, H, I.tok _, ⟨_, rfl⟩, h⟩
def Gl (X : Cx) (x : Str) : Prop := X.env.kindOf x = some .globalImplicit
theorem ld_glob {E : Value → Shared → Prop} {pins : List (Addr × Obj)} {s : Shared} {σ : St} {H : Hp} {x : Str} {u : Value} {pos : Pos} {Q : Value → Shared → Prop} (I : Inv X pins σ H s) (hg : Gl X x) (hm : X.mg x = some u) (h : Q u s)
    (hd : (x == ("__debug__" : Str)) = false := by decide) : wpAny (model X.prog X.w) X.A (eval (.Name x pos) X.env) Q E s :=
  Calls.Name_function_global I.ok.kind hg (Calls.loadGlobal_global (by rw [I.ok.glob]; exact I.mod.glob.keeps I.bk) hm h) hd
theorem ld_blt {E : Value → Shared → Prop} {pins : List (Addr × Obj)} {s : Shared} {σ : St} {H : Hp} {x : Str} {u : Value} {pos : Pos} {Q : Value → Shared → Prop} (I : Inv X pins σ H s) (hg : Gl X x) (hm : X.mg x = none) (hv : bootBuiltins x = some u) (h : Q u s)
    (hn : x ≠ "__name__" := by decide) (hd : (x == ("__debug__" : Str)) = false := by decide) : wpAny (model X.prog X.w) X.A (eval (.Name x pos) X.env) Q E s := by
  obtain ⟨mb, h1, h2⟩ := I.mod.blt
  exact Calls.Name_function_global I.ok.kind hg (Calls.loadGlobal_builtin (by rw [I.ok.glob]; exact I.mod.glob.keeps I.bk) hm (by rw [I.ok.blt]; exact h1.keeps I.bk) ((h2 x hn).trans hv) h) hd
theorem pe_glob {x : Str} {v : V} {u : Value} {pos : Pos} (hg : Gl X x) (hm : X.mg x = some u) (r : RelV v u) (hd : (x == ("__debug__" : Str)) = false := by decide) : PE X (.Name x pos) (tC v) :=
  fun _ _ _ H _ I h => ld_glob I hg hm ⟨v, H, I, r, h⟩ hd
theorem pe_bltn {x : Str} {v : V} {u : Value} {pos : Pos} (hg : Gl X x) (hm : X.mg x = none) (hv : bootBuiltins x = some u) (r : RelV v u) (hn : x ≠ "__name__" := by decide) (hd : (x == ("__debug__" : Str)) = false := by decide) : PE X (.Name x pos) (tC v) :=
  fun _ _ _ H _ I h => ld_blt I hg hm hv ⟨v, H, I, r, h⟩ hn hd
variable {a b : Expr} {ta tb : TE} {pos : Pos}
def PC (X : Cx) (op : CmpOp) (a b : Expr) (t : TE) : Prop :=
  ∀ (pins : List (Addr × Obj)) (s : Shared) (σ : St) (H : Hp) (Q : VK), Inv X pins σ H s → t σ H Q →
    wpAny (model X.prog X.w) X.A (eval a X.env) (fun v s₁ => wpAny (model X.prog X.w) X.A (eval b X.env) (fun u s₂ => wpAny (model X.prog X.w) X.A (compareOp op v u) (EP X pins σ Q) X.xe s₂) X.xe s₁) X.xe s
def tB (t : TE) : TT := fun σ H Q => t σ H fun x H1 => ∃ c, x = .bl c ∧ Q c H1
theorem pt_cmp {op : CmpOp} {t : TE} (h : PC X op a b t) (h1 : behindInMarks op b = false := by first | exact nobehind _ (by decide) (by decide) | rfl) : PT X (.Compare a [op] [b] pos) (tB t) := by
  intro pins s σ H Q I hw
  refine wpAny_isTrue_Compare1 (thn (h pins s σ H _ I hw) fun v s1 h1 => thn h1 fun u s2 h2 => thn h2 fun c s3 ⟨x, H1, I1, r1, q1⟩ => ?_) h1
  obtain ⟨d, rfl, q⟩ := q1
  cases r1
  exact wpAny_truthy_bool ⟨H1, I1, q⟩
theorem pt_val {e : Expr} {t : TE} (h : PE X e t) (he : ∀ whole, isTrue e X.env whole = (do let v ← whole; standAt e.pos; holding [v] (truthy v)) := by intro _; rfl) : PT X e (tB t) := by
  intro pins s σ H Q I hw
  refine isTrue_plain (thn (h pins s σ H _ I hw) fun v s1 ⟨x, H1, I1, r1, q1⟩ => ?_) (he _)
  obtain ⟨d, rfl, q⟩ := q1
  cases r1
  exact wpAny_truthy_bool ⟨H1, I1, q⟩
variable {tA tB' : TT} {rest : List Expr}
def tAnd (t u : TT) : TT := fun σ H Q => t σ H fun c H1 => if c = true then u σ H1 Q else Q false H1
def tOr (t u : TT) : TT := fun σ H Q => t σ H fun c H1 => if c = true then Q true H1 else u σ H1 Q
def tNot (t : TT) : TT := fun σ H Q => t σ H fun c H1 => Q (!c) H1
theorem pw_and1 (ha : PT X a tA) : PW X (.BoolOp .And [a] pos) tA := by
  intro wh pins s σ H Q I h
  refine isTrue_and (thn (ha pins s σ H Q I h) fun c s1 e => ?_)
  cases c with
  | true => exact isTrue_and_nil e
  | false => exact e
theorem pw_or1 (ha : PT X a tA) : PW X (.BoolOp .Or [a] pos) tA := by
  intro wh pins s σ H Q I h
  refine isTrue_or (thn (ha pins s σ H Q I h) fun c s1 e => ?_)
  cases c with
  | false => exact isTrue_or_nil e
  | true => exact e
theorem pw_and (ha : PT X a tA) (hb : PW X (.BoolOp .And (b :: rest) pos) tB') : PW X (.BoolOp .And (a :: b :: rest) pos) (tAnd tA tB') := by
  intro wh pins s σ H Q I h
  refine isTrue_and (thn (ha pins s σ H _ I h) fun c s1 ⟨H1, I1, q1⟩ => ?_)
  cases c with
  | true => exact hb wh pins s1 σ H1 Q I1 q1
  | false => exact ⟨H1, I1, q1⟩
theorem pw_or (ha : PT X a tA) (hb : PW X (.BoolOp .Or (b :: rest) pos) tB') : PW X (.BoolOp .Or (a :: b :: rest) pos) (tOr tA tB') := by
  intro wh pins s σ H Q I h
  refine isTrue_or (thn (ha pins s σ H _ I h) fun c s1 ⟨H1, I1, q1⟩ => ?_)
  cases c with
  | true => exact ⟨H1, I1, q1⟩
  | false => exact hb wh pins s1 σ H1 Q I1 q1
theorem pt_not (ha : PT X a tA) : PT X (.UnaryOp .Not a pos) (tNot tA) := by
  intro pins s σ H Q I h
  exact isTrue_not (ha pins s σ H (fun c H1 => Q (!c) H1) I h)
def tAndV (ta tb : TE) : TE := fun σ H Q => ta σ H fun x H1 => ∃ c, x = .bl c ∧ if c = true then tb σ H1 Q else Q (.bl false) H1
def tNotV (ta : TE) : TE := fun σ H Q => ta σ H fun x H1 => ∃ c, x = .bl c ∧ Q (.bl (!c)) H1
theorem pe_one {op} {t : TE} (h : PE X a t) : PE X (.BoolOp op [a] pos) t := fun pins s σ H Q I hw => BoolOp_one (h pins s σ H Q I hw)
theorem pe_and (ha : PE X a ta) (hb : PE X (.BoolOp .And (b :: rest) pos) tb) : PE X (.BoolOp .And (a :: b :: rest) pos) (tAndV ta tb) := by
  intro pins s σ H Q I h
  refine BoolOp_and (thn (ha pins s σ H _ I h) fun v s1 ⟨x, H1, I1, r1, q1⟩ => ?_)
  obtain ⟨c, rfl, q1⟩ := q1
  cases r1
  refine wpAny_truthy_bool ?_
  cases c with
  | true => exact hb pins s1 σ H1 Q I1 q1
  | false => exact ⟨.bl false, H1, I1, rfl, q1⟩
theorem pe_not (ha : PE X a ta) : PE X (.UnaryOp .Not a pos) (tNotV ta) := by
  intro pins s σ H Q I h
  refine UnaryOp_ (thn (ha pins s σ H _ I h) fun v s1 ⟨x, H1, I1, r1, q1⟩ => ?_)
  obtain ⟨c, rfl, q1⟩ := q1
  cases r1
  exact not_of (wpAny_truthy_bool ⟨.bl (!c), H1, I1, rfl, q1⟩)
end
end L2
namespace L2
open PySem PySem.Spec PyProof.Rows
def SqL (K : PySem.W.Frag) (H : Hp) (a : Addr) (xs : List V) : Prop :=
  Rd H a (.lst xs) ∨
    ∃ (o : Obj) (its : Array Value) (n : Nat), K.lookup a = some o ∧ o.cls = .type "list" ∧ o.dict = none ∧ o.data = .seq its n ∧ its.size ≤ sizeLine ∧ Vals xs its.toList
def SqT (K : PySem.W.Frag) (H : Hp) (a : Addr) (xs : List V) : Prop :=
  Rd H a (.tup xs) ∨
    ∃ (o : Obj) (its : Array Value) (n : Nat), K.lookup a = some o ∧ o.cls = .type "tuple" ∧ o.data = .seq its n ∧ its.size ≤ sizeLine ∧ Vals xs its.toList
def absV : Value → Option V
  | .none => some .non
  | .bool b => some (.bl b)
  | .int i _ => some (.int i)
  | .str x _ => some (.str x)
  | .bytes b _ => some (.byt b)
  | .float b _ => some (.flt b)
  | .ref a => some (.ref a)
  | .type n => some (.ty n)
  | _ => none
theorem RelV.abs {x : V} {u : Value} (r : RelV x u) : absV u = some x := by
  cases x with
  | non => cases r; rfl
  | bl _ => cases r; rfl
  | int _ => obtain ⟨t, rfl⟩ := r; rfl
  | str _ => obtain ⟨t, rfl⟩ := r; rfl
  | byt _ => obtain ⟨t, rfl⟩ := r; rfl
  | flt _ => obtain ⟨t, rfl⟩ := r; rfl
  | ref _ => cases r; rfl
  | ty _ => cases r; rfl
theorem RelV.inj {x y : V} {u : Value} (r : RelV x u) (q : RelV y u) : x = y := Option.some.inj (r.abs.symm.trans q.abs)
theorem Vals.inj : ∀ {xs ys : List V} {us : List Value}, Vals xs us → Vals ys us → xs = ys
  | _, _, _, .nil, .nil => rfl
  | _, _, _, .cons r t, .cons r' t' => by rw [r.inj r', Vals.inj t t']
section
variable {X : Cx} {pins : List (Addr × Obj)} {σ : St} {H : Hp} {s : Shared} {a : Addr} {xs ys : List V}
theorem SqL.of {K : PySem.W.Frag} (h : H a = some (.lst xs)) : SqL K H a xs := .inl (.inl h)
theorem SqT.of {K : PySem.W.Frag} (h : H a = some (.tup xs)) : SqT K H a xs := .inl (.inl h)
theorem Inv.list (I : Inv X pins σ H s) (h : SqL X.K H a xs) : ∃ its : List Value, Vals xs its ∧ PlainL s.heap a its.toArray ∧ xs.length ≤ sizeLine := by
  rcases h with h | ⟨o, its, n, hk, hc, hd, hs, hz, r⟩
  · obtain ⟨z, its, n, r, e⟩ := h.ok I.hok
    exact ⟨its, r, ⟨_, n, e, rfl, rfl, rfl⟩, z⟩
  · refine ⟨its.toList, r, ⟨o, n, I.kIn a o hk, hc, hd, by simpa using hs⟩, ?_⟩
    have e := r.length
    simp only [Array.length_toList] at e
    omega
theorem Inv.tuple (I : Inv X pins σ H s) (h : SqT X.K H a xs) : ∃ its : List Value, Vals xs its ∧ IsTup s.heap a its.toArray ∧ xs.length ≤ sizeLine := by
  rcases h with h | ⟨o, its, n, hk, hc, hs, hz, r⟩
  · obtain ⟨z, its, r, p⟩ := h.ok I.hok
    exact ⟨its, r, p.is, z⟩
  · refine ⟨its.toList, r, ⟨o, I.kIn a o hk, hc, n, by simpa using hs⟩, ?_⟩
    have e := r.length
    simp only [Array.length_toList] at e
    omega
theorem Inv.tupleO (I : Inv X pins σ H s) (h : H a = some (.tup xs)) : ∃ (its : List Value) (n : Nat), Vals xs its ∧ s.heap.get? a = some { cls := .type "tuple", data := .seq its.toArray n } ∧ xs.length ≤ sizeLine := by
  obtain ⟨z, its, r, n, e⟩ := (show ObjOk X.prog X.w H s.heap a (.tup xs) from I.hok a _ h)
  exact ⟨its, n, r, e, z⟩
theorem Inv.list_inj (I : Inv X pins σ H s) (h : SqL X.K H a xs) (h' : SqL X.K H a ys) : xs = ys := by
  obtain ⟨its, r, ⟨o, n, e, _, _, d⟩, _⟩ := I.list h
  obtain ⟨its', r', ⟨o', n', e', _, _, d'⟩, _⟩ := I.list h'
  rw [e] at e'; cases e'
  rw [d] at d'
  injection d' with d1 _
  have : its = its' := by simpa using congrArg Array.toList d1
  subst this
  exact r.inj r'
theorem Inv.tuple_inj (I : Inv X pins σ H s) (h : SqT X.K H a xs) (h' : SqT X.K H a ys) : xs = ys := by
  obtain ⟨its, r, ⟨o, e, _, n, d⟩, _⟩ := I.tuple h
  obtain ⟨its', r', ⟨o', e', _, n', d'⟩, _⟩ := I.tuple h'
  rw [e] at e'; cases e'
  rw [d] at d'
  injection d' with d1 _
  have : its = its' := by simpa using congrArg Array.toList d1
  subst this
  exact r.inj r'
end
abbrev Cx.wish (X : Cx) (E : Value → Shared → Prop) : Cx := { X with xe := E }
abbrev Cx.nox (X : Cx) : Cx := X.wish fun _ _ => False
theorem Cx.Ok.wish {X : Cx} (ok : X.Ok) (E : Value → Shared → Prop) : (X.wish E).Ok :=
  ⟨ok.mod, ok.kind, ok.glob, ok.blt, ok.above, ok.inj, ok.has, ok.cab, ok.hd, ok.frames, ok.stk, ok.exf, ok.bs, ok.bsz, ok.noex, ok.exfs, ok.funs, ok.frf⟩
theorem Cx.Ok.unwish {X : Cx} {E : Value → Shared → Prop} (ok : (X.wish E).Ok) : X.Ok :=
  ⟨ok.mod, ok.kind, ok.glob, ok.blt, ok.above, ok.inj, ok.has, ok.cab, ok.hd, ok.frames, ok.stk, ok.exf, ok.bs, ok.bsz, ok.noex, ok.exfs, ok.funs, ok.frf⟩
section
variable {X : Cx} {pins : List (Addr × Obj)} {σ : St} {H : Hp} {s : Shared} {E : Value → Shared → Prop}
theorem Inv.wish (I : Inv X pins σ H s) (E : Value → Shared → Prop) : Inv (X.wish E) pins σ H s := ⟨I.ok.wish E, I.os, I.bare, I.base, I.loc, I.cell, I.free, I.freeC, I.pin, I.hok, I.len⟩
theorem Inv.unwish (I : Inv (X.wish E) pins σ H s) : Inv X pins σ H s := ⟨I.ok.unwish, I.os, I.bare, I.base, I.loc, I.cell, I.free, I.freeC, I.pin, I.hok, I.len⟩
theorem SP.unwish {D : Ends} {f : Flow} {s' : Shared} (h : SP (X.wish E) pins D f s') : SP X pins D f s' := by
  cases f with
  | next => obtain ⟨σ', H', I, q⟩ := h; exact ⟨σ', H', I.unwish, q⟩
  | brk => obtain ⟨σ', H', I, q⟩ := h; exact ⟨σ', H', I.unwish, q⟩
  | cont => obtain ⟨σ', H', I, q⟩ := h; exact ⟨σ', H', I.unwish, q⟩
  | ret u => obtain ⟨v, σ', H', I, r, q⟩ := h; exact ⟨v, σ', H', I.unwish, r, q⟩
theorem PSs.nox {st : List Stmt} {t : TS} (h : PSs X.nox st t) : PSs X st t := fun pins s σ H D I hw =>
  wpAny_mono (h pins s σ H D (I.wish _) hw) (fun _ _ q => q.unwish) fun _ _ z => False.elim z
end
section
variable {X : Cx} {st : Stmt} {rest : List Stmt} {t u : TS} {e : Expr} {te : TE} {pos : Pos}
def tNext : TS := fun D σ H => D.nx σ H
def tSeq (t u : TS) : TS := fun D σ H => t { D with nx := u D } σ H
theorem pss_nil : PSs X [] tNext := fun _ _ σ H _ I h => wpAny_execs_nil ⟨σ, H, I, h⟩
theorem pss_cons (h1 : PS X st t) (h2 : PSs X rest u) : PSs X (st :: rest) (tSeq t u) := by
  intro pins s σ H D I h
  refine wpAny_execs_cons (thn (h1 pins s σ H { D with nx := u D } I h) fun f s1 q => ?_)
  cases f with
  | next =>
    obtain ⟨σ', H', I', q⟩ := q
    exact h2 pins s1 σ' H' D I' q
  | ret v => exact q
  | brk => exact q
  | cont => exact q
theorem pss_one (h1 : PS X st t) : PSs X [st] t := by
  intro pins s σ H D I h
  refine wpAny_execs_cons (thn (h1 pins s σ H D I h) fun f s1 q => ?_)
  cases f with
  | next => exact wpAny_execs_nil q
  | ret v => exact q
  | brk => exact q
  | cont => exact q
theorem Inv.quiet {pins : List (Addr × Obj)} {σ : St} {H : Hp} {s : Shared} (I : Inv X pins σ H s) : interactive X.env = false := by simp [interactive, I.ok.kind]
def tDrop (te : TE) : TS := fun D σ H => te σ H fun _ H1 => D.nx σ H1
theorem ps_expr (he : PE X e te) (hs : swapsWith e none pos.line X.env = pure false := by rfl) : PS X (.Expr e pos) (tDrop te) := by
  intro pins s σ H D I h
  exact wpAny_Expr_any (thn (he pins s σ H _ I h) fun v s1 ⟨x, H1, I1, r1, q1⟩ => ⟨σ, H1, I1, q1⟩) I.quiet hs
def tRet (te : TE) : TS := fun D σ H => te σ H D.rt
theorem ps_ret (he : PE X e te) : PS X (.Return (some e) pos) (tRet te) := by
  intro pins s σ H D I h
  exact wpAny_Return_some (thn (he pins s σ H _ I h) fun v s1 ⟨x, H1, I1, r1, q1⟩ => ⟨x, σ, H1, I1, r1, q1⟩)
def tIfS (c : TT) (t u : TS) : TS := fun D σ H => c σ H fun b H1 => if b = true then t D σ H1 else u D σ H1
theorem ps_if {c : Expr} {a b : List Stmt} {tc : TT} (hc : PT X c tc) (ha : PSs X a t) (hb : PSs X b u) : PS X (.If c a b pos) (tIfS tc t u) := by
  intro pins s σ H D I h
  refine wpAny_If (thn (hc pins s σ H _ I h) fun d s1 ⟨H1, I1, q1⟩ => ?_)
  cases d with
  | true => exact ha pins s1 σ H1 D I1 q1
  | false => exact hb pins s1 σ H1 D I1 q1
def tNever : TS := fun _ _ _ => False
theorem ps_never : PS X st tNever := fun _ _ _ _ _ _ h => h.elim
end
abbrev TG := V → St → Hp → (St → Hp → Prop) → Prop
abbrev TGs := List V → St → Hp → (St → Hp → Prop) → Prop
def PG (X : Cx) (target : Expr) (t : TG) : Prop :=
  ∀ (pins : List (Addr × Obj)) (s : Shared) (σ : St) (H : Hp) (v : V) (u : Value) (Q : St → Hp → Prop), Inv X pins σ H s → RelV v u → t v σ H Q →
    wpAny (model X.prog X.w) X.A (assign target X.env u) (fun _ s' => ∃ σ' H', Inv X pins σ' H' s' ∧ Q σ' H') X.xe s
def PGs (X : Cx) (ts : List Expr) (t : TGs) : Prop :=
  ∀ (pins : List (Addr × Obj)) (s : Shared) (σ : St) (H : Hp) (vs : List V) (us : List Value) (Q : St → Hp → Prop), Inv X pins σ H s → Vals vs us → t vs σ H Q →
    wpAny (model X.prog X.w) X.A (assignInOrder ((assignEach ts X.env).map (·.2)) us) (fun _ s' => ∃ σ' H', Inv X pins σ' H' s' ∧ Q σ' H') X.xe s
section
variable {X : Cx} {pos : Pos}
def gName (i : Nat) : TG := fun v σ H Q => Q (σ.set i (some v)) H
theorem pg_name {i : Nat} {x : Str} (hN : X.N.Nodup) (hi : X.N[i]? = some x) (hx : Loc X.env.scope x) (hf : X.fn x = true ∨ X.env.scope.names.lookup x = some .local := by first | exact .inl rfl | exact .inr rfl | assumption) : PG X (.Name x pos) (gName i) := by
  intro pins s σ H v u Q I r h
  exact wpAny_assign_Name (store_ok I hN hi hx r (fun s' I' => ⟨_, H, I', h⟩) hf)
def gNil : TGs := fun vs σ H Q => vs = [] ∧ Q σ H
def gCons (t : TG) (u : TGs) : TGs := fun vs σ H Q => ∃ v r, vs = v :: r ∧ t v σ H fun σ' H' => u r σ' H' Q
theorem pgs_nil : PGs X [] gNil := by
  intro pins s σ H vs us Q I r h
  obtain ⟨e, h⟩ := h
  subst e
  cases r
  exact assignInOrder_nil ⟨σ, H, I, h⟩
theorem pgs_cons {e : Expr} {es : List Expr} {t : TG} {u : TGs} (h1 : PG X e t) (h2 : PGs X es u)
    (hs : (assignEach (e :: es) X.env).map (·.2) = assign e X.env :: (assignEach es X.env).map (·.2) := by rfl) : PGs X (e :: es) (gCons t u) := by
  intro pins s σ H vs us Q I r h
  obtain ⟨v, vr, e1, h⟩ := h
  subst e1
  cases r with
  | cons r rr =>
    rw [hs]
    refine assignInOrder_cons (thn (h1 pins s σ H _ _ _ I r h) fun _ s1 ⟨σ1, H1, I1, q1⟩ => ?_)
    exact h2 pins s1 σ1 H1 _ _ Q I1 rr q1
def gTup (K : PySem.W.Frag) (n : Nat) (t : TGs) : TG := fun v σ H Q => ∃ a xs, v = .ref a ∧ SqT K H a xs ∧ xs.length = n ∧ t xs σ H Q
theorem pg_tup {es : List Expr} {k : Nat} {t : TGs} {n : Nat} (hc : X.calm = true) (h : PGs X es t)
    (hn : (assignEach es X.env).length = n := by rfl) (hst : (assignEach es X.env).findIdx? (·.1) = none := by rfl) : PG X (.Tuple es k pos) (gTup X.K n t) := by
  intro pins s σ H v u Q I r hw
  obtain ⟨a, xs, e1, hq, hl, hw⟩ := hw
  subst e1
  cases r
  obtain ⟨its, rv, ht, hz⟩ := I.tuple hq
  refine assign_Tuple_tuple (I.ok.hd hc) ht (by simp [hn, ← hl, rv.length]) hst fun h' hx => ?_
  have I1 : Inv X pins σ H { s with heap := h' } := I.kept (t' := s.toks) fun b o e => hx b o (Nat.ne_of_lt (Heap.lt_size e)) e
  exact h pins _ σ H xs _ Q I1 (by simpa using rv) hw
def tAsg (te : TE) (g : TG) : TS := fun D σ H => te σ H fun x H1 => g x σ H1 D.nx
theorem ps_set {i : Nat} {x : Str} {e : Expr} {te : TE} {pos' : Pos} (hN : X.N.Nodup) (hi : X.N[i]? = some x) (hx : Loc X.env.scope x) (he : PE X e te) (hs : swapsWith e (some (.Name x pos')) pos.line X.env = pure false := by rfl) (hf : X.fn x = true ∨ X.env.scope.names.lookup x = some .local := by first | exact .inl rfl | exact .inr rfl | assumption) :
    PS X (.Assign [.Name x pos'] e pos) (tAsg te (gName i)) := by
  intro pins s σ H D I h
  refine wpAny_Assign_Name (thn (he pins s σ H _ I h) fun v s1 ⟨y, H1, I1, r1, q1⟩ => ?_) hs
  exact store_ok I1 hN hi hx r1 (fun s2 I2 => ⟨_, H1, I2, q1⟩) hf
def tPar (i j : Nat) (ta : TA) : TS := fun D σ H => ta σ H fun vs H1 => ∃ v w, vs = [v, w] ∧ D.nx ((σ.set i (some v)).set j (some w)) H1
theorem ps_par {i j : Nat} {x y : Str} {a b : Expr} {ta : TA} {px py pt : Pos} {kt k2 pt2} (hc : X.calm = true) (hN : X.N.Nodup) (hi : X.N[i]? = some x) (hj : X.N[j]? = some y) (hij : i ≠ j)
    (hx : X.env.scope.names.lookup x = some .local) (hy : X.env.scope.names.lookup y = some .local) (ha : PA X [a, b] ta)
    (hw : swappedStores [.Tuple [.Name x px, .Name y py] kt pt] (.Tuple [a, b] k2 pt2) X.env = pure (some [x, y]))
    (hs : swapsWithSole [.Tuple [.Name x px, .Name y py] kt pt] (.Tuple [a, b] k2 pt2) pos.line X.env = pure false := by rfl) :
    PS X (.Assign [.Tuple [.Name x px, .Name y py] kt pt] (.Tuple [a, b] k2 pt2) pos) (tPar i j ta) := by
  intro pins s σ H D I h
  rw [exec_Assign_arm]
  refine wpAny_bind (wpAny_standAt ?_)
  rw [hs]
  refine wpAny_bind (wpAny_pure ?_)
  rw [if_neg (by decide)]
  refine wpAny_bind (Tuple_ (thn (ha _ pins s σ H _ I h) fun us s1 ⟨vs, H1, I1, r1, q1⟩ => ?_))
  obtain ⟨v, w, e1, q1⟩ := q1
  subst e1
  obtain ⟨u1, u2, rfl, rv, rw'⟩ : ∃ u1 u2, us = [u1, u2] ∧ RelV v u1 ∧ RelV w u2 := by
    cases r1 with
    | cons p q =>
      cases q with
      | cons p' q' =>
        cases q'
        exact ⟨_, _, rfl, p, p'⟩
  refine wpAny_newObj_type ?_ (by show 2 ≤ sizeLine; decide)
  have I2 : Inv X pins σ H1 { s1 with heap := s1.heap.push { cls := .type "tuple", data := .seq [u1, u2].toArray } } := I1.kept (t' := s1.toks) fun b o e => Heap.get?_push_of_some _ e
  rw [hw]
  refine wpAny_bind (wpAny_pure ?_)
  show wpAny (model X.prog X.w) X.A (do rule "assign.swapped-stores"; let items ← unpackItems (.ref s1.heap.objs.size) 2 none; assignInOrder [fun v => bindName X.env y v, fun v => bindName X.env x v] items.reverse; pure Flow.next) _ _ _
  refine wpAny_bind (wpAny_rule (wpAny_bind (unpackItems_tuple (items := #[u1, u2]) (I.ok.hd hc) (IsTup.new s1.heap _) fun h' hx' => ?_)))
  have I3 := I2.kept (h' := h') (t' := s1.toks) fun b o e => hx' b o (Nat.ne_of_lt (Heap.lt_size e)) e
  show wpAny _ _ (assignInOrder [fun v => bindName X.env y v, fun v => bindName X.env x v] [u2, u1] >>= fun _ => pure Flow.next) _ _ _
  refine wpAny_bind (assignInOrder_cons (wpAny_bindName (store_ok I3 hN hj (.inl hy) rw' (fun s2 I4 => ?_) (.inr hy))))
  refine assignInOrder_cons (wpAny_bindName (store_ok I4 hN hi (.inl hx) rv (fun s3 I5 => assignInOrder_nil (wpAny_pure ?_)) (.inr hx)))
  rw [List.set_comm _ _ (Ne.symm hij)] at I5
  exact ⟨_, H1, I5, q1⟩
end
section
variable {X : Cx} {pos : Pos}
def tWhile (c : TT) (tb : TS) : TS := fun D σ H => ∃ W : Nat → St → Hp → Prop, (∃ m, W m σ H) ∧ ∀ m σ H, W m σ H →
  c σ H fun b H1 => if b = true then ∃ N : St → Hp → Prop, (∀ σ' H', N σ' H' → ∃ m', m' < m ∧ W m' σ' H') ∧ tb { D with nx := N, ct := N, bk := D.nx } σ H1 else D.nx σ H1
theorem ps_while {c : Expr} {body : List Stmt} {tc : TT} {tb : TS} (hp : PassesOwn (model X.prog X.w) X.A X.env X.xe) (hc : PT X c tc) (hb : PSs X body tb) : PS X (.While c body [] pos) (tWhile tc tb) := by
  intro pins s σ H D I h
  obtain ⟨W, ⟨m0, w0⟩, turn⟩ := h
  refine wpAny_While (codeAny_whileLoop (fun n s' => ∃ σ' H', Inv X pins σ' H' s' ∧ W n σ' H') ?_ m0 ⟨σ, H, I, w0⟩)
  rintro n s1 ⟨σ1, H1, I1, w1⟩
  refine wpAny_passesOwn hp (thn (hc pins s1 σ1 H1 _ I1 (turn n σ1 H1 w1)) fun b s2 ⟨H2, I2, q2⟩ => ?_)
  cases b with
  | true =>
    obtain ⟨N, hN, q2⟩ := q2
    rw [if_pos rfl]
    refine wpAny_passesOwn hp (thn (hb pins s2 σ1 H2 _ I2 q2) fun f s3 q3 => ?_)
    cases f with
    | next =>
      obtain ⟨σ3, H3, I3, n3⟩ := q3
      obtain ⟨m', hm, w3⟩ := hN σ3 H3 n3
      exact ⟨m', hm, σ3, H3, I3, w3⟩
    | cont =>
      obtain ⟨σ3, H3, I3, n3⟩ := q3
      obtain ⟨m', hm, w3⟩ := hN σ3 H3 n3
      exact ⟨m', hm, σ3, H3, I3, w3⟩
    | brk => exact q3
    | ret v => exact q3
  | false =>
    rw [if_neg Bool.false_ne_true]
    exact wpAny_execs_nil ⟨σ1, H2, I2, q2⟩
end
structure It where
  go : Nat → Hp → Prop
  yld : Nat → Hp → V → Hp → Prop
  stop : Nat → Hp → Prop
def FpOk (X : Cx) (pins : List (Addr × Obj)) (H : Hp) (b : Addr) : Prop :=
  H b = none ∧ b ≠ X.env.locals ∧ b ∉ X.fs ∧ (b ∈ X.ex ∨ X.s₀.heap.objs.size ≤ b) ∧ (∀ x c, X.env.cells.lookup x = some c → c ≠ b) ∧ ∀ p ∈ X.pn ++ pins, p.1 ≠ b
theorem Inv.fpOk {X : Cx} {pins : List (Addr × Obj)} {σ : St} {H H' : Hp} {s : Shared} {b : Addr} (I : Inv X pins σ H s) (hb : s.heap.objs.size ≤ b) (hn : H' b = none) : FpOk X pins H' b := by
  refine ⟨hn, Nat.ne_of_gt (Nat.lt_of_lt_of_le I.lt hb), I.nofs hb, .inr (Nat.le_trans I.sz hb), fun x c e z => ?_, fun p hp z => ?_⟩
  · obtain ⟨v, q⟩ := I.cell x c e
    exact absurd (Nat.lt_of_lt_of_le q.lt (by rw [z]; exact hb)) (Nat.lt_irrefl _)
  · exact absurd (Nat.lt_of_lt_of_le (Heap.lt_size (I.pin p hp).1) (by rw [z]; exact hb)) (Nat.lt_irrefl _)
structure Turn (P : Program) (w : World) (K : PySem.W.Frag) (tg : Expr) (J : It) (fp : List Addr) (it : Addr) (tn : Nat → Heap → Prop) : Prop where
  mem : it ∈ fp
  obj : ∀ i h, tn i h → ∀ b ∈ fp, ∃ o, h.get? b = some o ∧ ∀ v, o.data ≠ .cell v
  keep : ∀ i h h', tn i h → (∀ b ∈ fp, ∀ o, h.get? b = some o → h'.get? b = some o) → tn i h'
  item : ∀ (X : Cx), X.prog = P → X.w = w → X.K = K → X.calm = true → ∀ (i : Nat) (pins : List (Addr × Obj)) (s : Shared) (σ : St) (H : Hp) (E : Value → Shared → Prop), Inv X pins σ H s → (∀ b ∈ fp, FpOk X pins H b) → tn i s.heap → J.go i H →
    wpAny (model P w) X.A (pyNext (.ref it)) (fun r s1 => ∃ u, r = some u ∧
      wpAny (model P w) X.A (letOwnedTupleGo tg (.ref it) u) (fun _ s2 => ∃ x H', Inv X pins σ H' s2 ∧ RelV x u ∧ J.yld i H x H' ∧ tn (i + 1) s2.heap ∧ ∀ b ∈ fp, H' b = none) E s1) E s
  done : ∀ (X : Cx), X.prog = P → X.w = w → X.K = K → X.calm = true → ∀ (i : Nat) (pins : List (Addr × Obj)) (s : Shared) (σ : St) (H : Hp) (E : Value → Shared → Prop), Inv X pins σ H s → (∀ b ∈ fp, FpOk X pins H b) → tn i s.heap → J.stop i H →
    wpAny (model P w) X.A (pyNext (.ref it)) (fun r s1 => r = none ∧ Inv X pins σ H s1) E s
  self : ∀ (A : Around) (i : Nat) (s : Shared) (Q : Value → Shared → Prop) (E : Value → Shared → Prop), tn i s.heap → Q (.ref it) s → wpAny (model P w) A (pyIter (.ref it)) Q E s
abbrev TI := St → Hp → (It → Hp → Prop) → Prop
def PIE (X : Cx) (pins : List (Addr × Obj)) (σ : St) (tg : Expr) (R : It → Hp → Prop) (itv : Value) (s2 : Shared) : Prop :=
  ∃ (it : Addr) (fp : List Addr) (tn : Nat → Heap → Prop) (J : It) (H' : Hp), itv = .ref it ∧ Inv X pins σ H' s2 ∧ Turn X.prog X.w X.K tg J fp it tn ∧ tn 0 s2.heap ∧ (∀ b ∈ fp, FpOk X pins H' b) ∧ R J H'
def PI (X : Cx) (tg iter : Expr) (wi : TI) : Prop :=
  ∀ (pins : List (Addr × Obj)) (s : Shared) (σ : St) (H : Hp) (R : It → Hp → Prop), Inv X pins σ H s → wi σ H R →
    wpAny (model X.prog X.w) X.A (eval iter X.env) (fun v s1 => wpAny (model X.prog X.w) X.A (pyIter v) (PIE X pins σ tg R) X.xe s1) X.xe s
theorem go_of {M : Model} {A : Around} {E : Value → Shared → Prop} {s : Shared} {tg : Expr} {it : Addr} {u : Value} {o : Obj} {n : String} {vs : Array Value} {Q : Unit → Shared → Prop} (ho : s.heap.get? it = some o) (hc : o.cls = .type n) (hd : o.data = .fields vs)
    (hn : ["enumerate", "zip", "dict_itemiterator", "dict_reverseitemiterator", "odict_iterator", "itertools.zip_longest", "itertools.pairwise"].contains n = false) (hQ : Q () s) : wpAny M A (letOwnedTupleGo tg (.ref it) u) Q E s := by
  unfold letOwnedTupleGo
  cases tg <;> first
    | exact wpAny_pure hQ
    | (cases u <;> first
        | exact wpAny_pure hQ
        | (refine wpAny_bind (wpAny_load ho ?_)
           rw [hc, hd]
           show wpAny M A (if (["enumerate", "zip", "dict_itemiterator", "dict_reverseitemiterator", "odict_iterator", "itertools.zip_longest", "itertools.pairwise"].contains n && vs[0]? == some (rawInt _)) = true then _ else _) Q E s
           rw [if_neg (by intro h; rw [hn, Bool.false_and] at h; cases h)]
           exact wpAny_pure hQ))
def Itl (K : PySem.W.Frag) (a : Addr) : It :=
  ⟨fun i H => ∃ xs x, SqL K H a xs ∧ xs[i]? = some x, fun i H x H' => H' = H ∧ ∀ xs, SqL K H a xs → xs[i]? = some x, fun i H => ∃ xs, SqL K H a xs ∧ xs.length ≤ i⟩
def Itt (K : PySem.W.Frag) (a : Addr) : It :=
  ⟨fun i H => ∃ xs x, SqT K H a xs ∧ xs[i]? = some x, fun i H x H' => H' = H ∧ ∀ xs, SqT K H a xs → xs[i]? = some x, fun i H => ∃ xs, SqT K H a xs ∧ xs.length ≤ i⟩
def Itr (lo : Int) (n : Nat) : It := ⟨fun i _ => i < n, fun i H x H' => H' = H ∧ x = .int (lo + i), fun i _ => n ≤ i⟩
theorem turn_list {P : Program} {w : World} {K : PySem.W.Frag} {tg : Expr} (a it : Addr) : Turn P w K tg (Itl K a) [it] it (fun i h => h.IsListIter it a i) where
  mem := by simp
  obj := fun i h st b hb => by
    have e : b = it := by simpa using hb
    subst e
    obtain ⟨o, e, c, d⟩ := st
    exact ⟨o, e, fun v z => by rw [d] at z; cases z⟩
  keep := fun i h h' st k => st.at fun o e => k it (by simp) o e
  item := by
    intro X hP hw hK hc i pins s σ H E I hf st hg
    subst hP hw hK
    obtain ⟨xs, x, hq, hx⟩ := hg
    obtain ⟨its, rv, p, hz⟩ := I.list hq
    obtain ⟨u, hu, ru⟩ := rv.get hx
    obtain ⟨f0, f1, f2, f3, f4, f5⟩ := hf it (by simp)
    refine wpAny_pyNext_list_item st p.isList (x := u) (by simpa using hu) fun h' st' sb => ?_
    have I1 : Inv X pins σ H { s with heap := h' } := I.turned (t' := s.toks) (fun b o hb e => (sb.2 b hb).trans e) f0 f1 f3 f4 f5
    obtain ⟨o, e, c, d⟩ := id st'
    exact ⟨u, rfl, go_of (s := { s with heap := h' }) e c d (by decide) ⟨x, H, I1, ru, ⟨rfl, fun ys hy => by rw [I.list_inj hy hq]; exact hx⟩, st', fun b hb => (hf b hb).1⟩⟩
  done := by
    intro X hP hw hK hc i pins s σ H E I hf st hg
    subst hP hw hK
    obtain ⟨xs, hq, hx⟩ := hg
    obtain ⟨its, rv, p, hz⟩ := I.list hq
    obtain ⟨f0, f1, f2, f3, f4, f5⟩ := hf it (by simp)
    have hl := rv.length
    exact wpAny_pyNext_list_end (I.ok.hd hc) st p.isList (by simp; omega) fun h' eb => ⟨rfl, I.turned (t' := s.toks) (fun b o hb e => eb b o hb e) f0 f1 f3 f4 f5⟩
  self := fun _ _ _ _ _ st h => wpAny_pyIter_listiter st h
theorem turn_tuple {P : Program} {w : World} {K : PySem.W.Frag} {tg : Expr} (a it : Addr) : Turn P w K tg (Itt K a) [it] it (fun i h => h.IsTupleIter it a i) where
  mem := by simp
  obj := fun i h st b hb => by
    have e : b = it := by simpa using hb
    subst e
    obtain ⟨o, e, c, d⟩ := st
    exact ⟨o, e, fun v z => by rw [d] at z; cases z⟩
  keep := fun i h h' st k => st.at fun o e => k it (by simp) o e
  item := by
    intro X hP hw hK hc i pins s σ H E I hf st hg
    subst hP hw hK
    obtain ⟨xs, x, hq, hx⟩ := hg
    obtain ⟨its, rv, p, hz⟩ := I.tuple hq
    obtain ⟨u, hu, ru⟩ := rv.get hx
    obtain ⟨f0, f1, f2, f3, f4, f5⟩ := hf it (by simp)
    refine wpAny_pyNext_tuple_item st (show s.heap.IsTuple a its.toArray from p) (x := u) (by simpa using hu) fun h' st' sb => ?_
    have I1 : Inv X pins σ H { s with heap := h' } := I.turned (t' := s.toks) (fun b o hb e => (sb.2 b hb).trans e) f0 f1 f3 f4 f5
    obtain ⟨o, e, c, d⟩ := id st'
    exact ⟨u, rfl, go_of (s := { s with heap := h' }) e c d (by decide) ⟨x, H, I1, ru, ⟨rfl, fun ys hy => by rw [I.tuple_inj hy hq]; exact hx⟩, st', fun b hb => (hf b hb).1⟩⟩
  done := by
    intro X hP hw hK hc i pins s σ H E I hf st hg
    subst hP hw hK
    obtain ⟨xs, hq, hx⟩ := hg
    obtain ⟨its, rv, p, hz⟩ := I.tuple hq
    obtain ⟨f0, f1, f2, f3, f4, f5⟩ := hf it (by simp)
    have hl := rv.length
    exact wpAny_pyNext_tuple_end (I.ok.hd hc) st (show s.heap.IsTuple a its.toArray from p) (by simp; omega) fun h' eb => ⟨rfl, I.turned (t' := s.toks) (fun b o hb e => eb b o hb e) f0 f1 f3 f4 f5⟩
  self := fun _ _ _ _ _ st h => wpAny_pyIter_tupleiter st h
theorem turn_range {P : Program} {w : World} {K : PySem.W.Frag} {tg : Expr} (it : Addr) (lo : Int) (n : Nat) : Turn P w K tg (Itr lo n) [it] it (fun i h => IsRangeIter h it (lo + (i : Nat) * 1) ((n : Int) - (i : Nat)) 1) where
  mem := by simp
  obj := fun i h st b hb => by
    have e : b = it := by simpa using hb
    subst e
    exact ⟨_, st, fun v z => by
      have z' : Data.fields _ = Data.cell v := z
      cases z'⟩
  keep := fun i h h' st k => k it (by simp) _ st
  item := by
    intro X hP hw hK hc i pins s σ H E I hf st hg
    subst hP hw hK
    obtain ⟨f0, f1, f2, f3, f4, f5⟩ := hf it (by simp)
    have W := Walks.range (prog := X.prog) (w := X.w) (I.ok.hd hc) it lo 1 n
    refine W.item i s _ _ hg st fun v h' tk hv st' kk => ?_
    obtain ⟨t, rfl⟩ := hv
    have I1 : Inv X pins σ H { s with heap := h', toks := tk } := I.turned (fun b o hb e => kk b o (by simpa using hb) e) f0 f1 f3 f4 f5
    refine ⟨_, rfl, go_of (s := { s with heap := h', toks := tk }) (n := "range_iterator") st' rfl rfl (by decide) ⟨.int (lo + i), H, I1, ⟨t, ?_⟩, ⟨rfl, rfl⟩, st', fun b hb => (hf b hb).1⟩⟩
    rw [Int.mul_one]
  done := by
    intro X hP hw hK hc i pins s σ H E I hf st hg
    subst hP hw hK
    obtain ⟨f0, f1, f2, f3, f4, f5⟩ := hf it (by simp)
    exact wpAny_pyNext_range_end (I.ok.hd hc) st (by have : n ≤ i := hg; omega) fun h' eb => ⟨rfl, I.turned (t' := s.toks) (fun b o hb e => eb b o hb e) f0 f1 f3 f4 f5⟩
  self := fun _ _ _ _ _ st h => wpAny_pyIter_rangeiter st h
end L2
namespace L2
open PySem PySem.Spec PyProof.Rows
section
variable {X : Cx} {tg : Expr}
def iList (K : PySem.W.Frag) (tl : TE) : TI := fun σ H R => tl σ H fun x H1 => ∃ a, x = .ref a ∧ (∃ xs, SqL K H1 a xs) ∧ R (Itl K a) H1
def iTup (K : PySem.W.Frag) (tl : TE) : TI := fun σ H R => tl σ H fun x H1 => ∃ a, x = .ref a ∧ (∃ xs, SqT K H1 a xs) ∧ R (Itt K a) H1
theorem pi_list {l : Expr} {tl : TE} (hl : PE X l tl) : PI X tg l (iList X.K tl) := by
  intro pins s σ H R I h
  refine thn (hl pins s σ H _ I h) fun v s1 ⟨x, H1, I1, r1, q1⟩ => ?_
  obtain ⟨a, e, ⟨xs, hq⟩, q⟩ := q1
  subst e
  cases r1
  obtain ⟨its, rv, p, hz⟩ := I1.list hq
  refine wpAny_pyIter_list p.isList ?_
  refine ⟨s1.heap.objs.size, [s1.heap.objs.size], _, _, H1, rfl, I1.kept (t' := s1.toks) fun b o e => Heap.get?_push_of_some _ e, turn_list a _, ⟨_, Heap.get?_push_size _ rfl, rfl, rfl⟩, fun b hb => ?_, q⟩
  have e : b = s1.heap.objs.size := by simpa using hb
  subst e
  exact I1.fpOk (Nat.le_refl _) (I1.hok.fresh (Nat.le_refl _))
theorem pi_tup {l : Expr} {tl : TE} (hl : PE X l tl) : PI X tg l (iTup X.K tl) := by
  intro pins s σ H R I h
  refine thn (hl pins s σ H _ I h) fun v s1 ⟨x, H1, I1, r1, q1⟩ => ?_
  obtain ⟨a, e, ⟨xs, hq⟩, q⟩ := q1
  subst e
  cases r1
  obtain ⟨its, rv, p, hz⟩ := I1.tuple hq
  refine wpAny_pyIter_tuple (show s1.heap.IsTuple a its.toArray from p) ?_
  refine ⟨s1.heap.objs.size, [s1.heap.objs.size], _, _, H1, rfl, I1.kept (t' := s1.toks) fun b o e => Heap.get?_push_of_some _ e, turn_tuple a _, ⟨_, Heap.get?_push_size _ rfl, rfl, rfl⟩, fun b hb => ?_, q⟩
  have e : b = s1.heap.objs.size := by simpa using hb
  subst e
  exact I1.fpOk (Nat.le_refl _) (I1.hok.fresh (Nat.le_refl _))
theorem range_it {pins : List (Addr × Obj)} {σ : St} {H : Hp} {s : Shared} {R : It → Hp → Prop} {E : Value → Shared → Prop} {lo hi : Int} {t u v : Tok} {tk : Nat} (I : Inv X pins σ H s) (h1 : -(2 ^ 62) ≤ lo) (h2 : lo < 2 ^ 62) (h3 : -(2 ^ 62) ≤ hi) (h4 : hi < 2 ^ 62)
    (q : R (Itr lo (hi - lo).toNat) H) : wpAny (model X.prog X.w) X.A (pyIter (.ref s.heap.objs.size)) (PIE X pins σ tg R) E { s with heap := s.heap.push { cls := .type "range", data := .fields #[.int lo t, .int hi u, .int 1 v] }, toks := tk } := by
  refine wpAny_pyIter_range (IsRange.new ..) (small_one h1 h2 h3 h4) ?_
  have I1 : Inv X pins σ H { s with heap := s.heap.push { cls := .type "range", data := .fields #[.int lo t, .int hi u, .int 1 v] }, toks := tk } := I.kept fun b o e => Heap.get?_push_of_some _ e
  refine ⟨(s.heap.push { cls := .type "range", data := .fields #[.int lo t, .int hi u, .int 1 v] }).objs.size, [(s.heap.push { cls := .type "range", data := .fields #[.int lo t, .int hi u, .int 1 v] }).objs.size], _, _, H, rfl,
    I1.kept (t' := tk) fun b o e => Heap.get?_push_of_some _ e, turn_range _ lo (hi - lo).toNat, ?_, fun b hb => ?_, q⟩
  · have e1 : lo + ((0 : Nat) : Int) * 1 = lo := by simp
    have e2 : (((hi - lo).toNat : Nat) : Int) - ((0 : Nat) : Int) = Builtin.Range.rangeSize lo hi 1 := by rw [rangeSize_one]; split <;> omega
    show IsRangeIter _ _ (lo + ((0 : Nat) : Int) * 1) ((((hi - lo).toNat : Nat) : Int) - ((0 : Nat) : Int)) 1
    rw [e1, e2]
    exact Heap.get?_push_size _ rfl
  · have e : b = (s.heap.push { cls := .type "range", data := .fields #[.int lo t, .int hi u, .int 1 v] }).objs.size := by simpa using hb
    subst e
    exact I1.fpOk (Nat.le_refl _) (I1.hok.fresh (Nat.le_refl _))
def iRng1 (ta : TA) : TI := fun σ H R => ta σ H fun vs H1 => ∃ j : Int, vs = [.int j] ∧ -(2 ^ 62) ≤ j ∧ j < 2 ^ 62 ∧ R (Itr 0 j.toNat) H1
theorem pi_range1 {a : Expr} {ta : TA} {p pos : Pos} (hg : Gl X "range") (hm : X.mg "range" = none) (ha : PA X [a] ta) (hs : starEach [a] X.env = [(false, eval a X.env)] := by rfl) : PI X tg (.Call (.Name "range" p) [a] [] pos) (iRng1 ta) := by
  intro pins s σ H R I h
  refine Call_ (ld_blt I hg hm boot_range (PyProof.Rows.callWith_type1 (thn (ha pos pins s σ H _ I h) fun us s1 ⟨vs, H1, I1, r1, q1⟩ => ?_) hs rfl))
  obtain ⟨j, e, q1, q2, q⟩ := q1
  subst e
  cases r1 with
  | cons r rr =>
    cases rr
    obtain ⟨t, rfl⟩ := r
    exact call_range_1 (range_it I1 (by omega) (by omega) q1 q2 (by simpa using q))
def tFor (wi : TI) (g : TG) (tb : TS) : TS := fun D σ H => wi σ H fun J H1 => ∃ W : Nat → Nat → St → Hp → Prop, (∃ m, W 0 m σ H1) ∧ ∀ i m σ H, W i m σ H →
  (J.stop i H ∧ D.nx σ H) ∨ (J.go i H ∧ ∃ N : St → Hp → Prop, (∀ σ' H', N σ' H' → ∃ m', m' < m ∧ W (i + 1) m' σ' H') ∧ ∀ x H', J.yld i H x H' → g x σ H' fun σ2 H2 => tb { D with nx := N, ct := N, bk := D.nx } σ2 H2)
def pinsAt (fp : List Addr) (h : Heap) : List (Addr × Obj) := fp.filterMap fun b => (h.get? b).map fun o => (b, o)
theorem mem_pinsAt {fp : List Addr} {h : Heap} {b : Addr} {o : Obj} (hb : b ∈ fp) (e : h.get? b = some o) : (b, o) ∈ pinsAt fp h := List.mem_filterMap.mpr ⟨b, hb, by rw [e]; rfl⟩
theorem of_pinsAt {fp : List Addr} {h : Heap} {p : Addr × Obj} (hp : p ∈ pinsAt fp h) : p.1 ∈ fp ∧ h.get? p.1 = some p.2 := by
  obtain ⟨b, hb, e⟩ := List.mem_filterMap.mp hp
  cases q : h.get? b with
  | none => rw [q] at e; cases e
  | some o =>
    rw [q] at e
    have e' : (b, o) = p := Option.some.inj e
    subst e'
    exact ⟨hb, q⟩
theorem Inv.pinned {pins : List (Addr × Obj)} {σ : St} {H : Hp} {s : Shared} {fp : List Addr} (I : Inv X pins σ H s) (hf : ∀ b ∈ fp, FpOk X pins H b) (ho : ∀ b ∈ fp, ∃ o, s.heap.get? b = some o ∧ ∀ v, o.data ≠ .cell v) : Inv X (pins ++ pinsAt fp s.heap) σ H s :=
  I.pins_of fun p hp => (List.mem_append.mp hp).elim (fun z => I.pin p (List.mem_append_right _ z)) fun z => by
    obtain ⟨hb, e⟩ := of_pinsAt z
    obtain ⟨f0, f1, f2, _⟩ := hf p.1 hb
    obtain ⟨o, e', d⟩ := ho p.1 hb
    rw [e] at e'; cases e'
    exact ⟨e, f0, f1, f2, d⟩
theorem Inv.unpinned {pins pl : List (Addr × Obj)} {σ : St} {H : Hp} {s : Shared} (I : Inv X (pins ++ pl) σ H s) : Inv X pins σ H s := I.pins_of fun p hp => I.pin p (List.mem_append_right _ (List.mem_append_left _ hp))
theorem ps_for {iter : Expr} {body : List Stmt} {wi : TI} {g : TG} {tb : TS} {pos : Pos} (hp : PassesOwn (model X.prog X.w) X.A X.env X.xe) (hc : X.calm = true) (hi : PI X tg iter wi) (hg : PG X tg g) (hb : PSs X body tb)
    (hs : ∀ x, foldedSetIterable iter X.env x = pure x := by intro _; rfl) : PS X (.For tg iter body [] pos) (tFor wi g tb) := by
  intro pins s σ H D I h
  refine wpAny_For (thn (hi pins s σ H _ I h) fun v s1 h1 => thn h1 fun itv s2 h2 => ?_) hs
  obtain ⟨it, fp, tn, J, H2, e, I2, T, st2, f2, W, ⟨m0, w0⟩, turn⟩ := h2
  subst e
  have stat : ∀ {H' : Hp}, (∀ b ∈ fp, H' b = none) → ∀ b ∈ fp, FpOk X pins H' b := fun hn b hb => ⟨hn b hb, (f2 b hb).2⟩
  refine codeAny_forLoop_any (fun n s' => ∃ i σ' H', Inv X pins σ' H' s' ∧ tn i s'.heap ∧ (∀ b ∈ fp, H' b = none) ∧ W i n σ' H') ?_ m0 ⟨0, σ, H2, I2, st2, fun b hb => (f2 b hb).1, w0⟩
  rintro n s3 ⟨i, σ3, H3, I3, st3, fr3, w3⟩
  rcases turn i n σ3 H3 w3 with ⟨stop, qn⟩ | ⟨go, N, hN, step⟩
  · refine wpAny_passesOwn hp (thn (T.done X rfl rfl rfl hc i pins s3 σ3 H3 X.xe I3 (stat fr3) st3 stop) fun r s4 ⟨hr, I4⟩ => ?_)
    subst hr
    exact wpAny_execs_nil ⟨σ3, H3, I4, qn⟩
  · refine wpAny_passesOwn hp (thn (T.item X rfl rfl rfl hc i pins s3 σ3 H3 X.xe I3 (stat fr3) st3 go) fun r s4 ⟨u, hr, h4⟩ => ?_)
    subst hr
    refine wpAny_passesOwn hp (thn h4 fun _ s5 ⟨x, H5, I5, r5, y5, st5, fr5⟩ => ?_)
    have I5' := I5.pinned (stat fr5) (T.obj _ _ st5)
    refine wpAny_passesOwn hp (thn (hg _ s5 σ3 H5 x u _ I5' r5 (step x H5 y5)) fun _ s6 ⟨σ6, H6, I6, q6⟩ => ?_)
    refine wpAny_passesOwn hp (thn (hb _ s6 σ6 H6 _ I6 q6) fun f s7 q7 => ?_)
    have again : ∀ {σ7 : St} {H7 : Hp}, Inv X (pins ++ pinsAt fp s5.heap) σ7 H7 s7 → N σ7 H7 → ∃ m, m < n ∧ ∃ i σ' H', Inv X pins σ' H' s7 ∧ tn i s7.heap ∧ (∀ b ∈ fp, H' b = none) ∧ W i m σ' H' := fun {σ7 H7} I7 n7 => by
      obtain ⟨m', hm, w7⟩ := hN σ7 H7 n7
      refine ⟨m', hm, i + 1, σ7, H7, I7.unpinned, T.keep _ _ _ st5 fun b hb o e => (I7.pin (b, o) (List.mem_append_right _ (List.mem_append_right _ (mem_pinsAt hb e)))).1, fun b hb => ?_, w7⟩
      obtain ⟨o, e, d⟩ := T.obj _ _ st5 b hb
      exact (I7.pin (b, o) (List.mem_append_right _ (List.mem_append_right _ (mem_pinsAt hb e)))).2.1
    cases f with
    | next => obtain ⟨σ7, H7, I7, n7⟩ := q7; exact again I7 n7
    | cont => obtain ⟨σ7, H7, I7, n7⟩ := q7; exact again I7 n7
    | brk => obtain ⟨σ7, H7, I7, q7⟩ := q7; exact ⟨σ7, H7, I7.unpinned, q7⟩
    | ret v => obtain ⟨x7, σ7, H7, I7, r7, q7⟩ := q7; exact ⟨x7, σ7, H7, I7.unpinned, r7, q7⟩
end
theorem for_list {K : PySem.W.Frag} {a : Addr} {xs : List V} {g : TG} {tb : TS} {D : Ends} {σ : St} {H : Hp} (Pv : Nat → St → Hp → Prop) (h0 : Pv 0 σ H) (hl : ∀ i σ H, i ≤ xs.length → Pv i σ H → SqL K H a xs)
    (hs : ∀ i x σ H, xs[i]? = some x → Pv i σ H → g x σ H fun σ2 H2 => tb { D with nx := Pv (i + 1), ct := Pv (i + 1), bk := D.nx } σ2 H2) (hd : ∀ σ H, Pv xs.length σ H → D.nx σ H) :
    ∃ W : Nat → Nat → St → Hp → Prop, (∃ m, W 0 m σ H) ∧ ∀ i m σ H, W i m σ H →
      ((Itl K a).stop i H ∧ D.nx σ H) ∨ ((Itl K a).go i H ∧ ∃ N : St → Hp → Prop, (∀ σ' H', N σ' H' → ∃ m', m' < m ∧ W (i + 1) m' σ' H') ∧ ∀ x H', (Itl K a).yld i H x H' → g x σ H' fun σ2 H2 => tb { D with nx := N, ct := N, bk := D.nx } σ2 H2) := by
  refine ⟨fun i m σ H => m = xs.length - i ∧ i ≤ xs.length ∧ Pv i σ H, ⟨xs.length, by simp, Nat.zero_le _, h0⟩, ?_⟩
  rintro i m σ H ⟨rfl, hi, p⟩
  have q := hl i σ H hi p
  by_cases hlt : i < xs.length
  · refine .inr ⟨⟨xs, xs[i], q, by simp [hlt]⟩, Pv (i + 1), fun σ' H' p' => ⟨xs.length - (i + 1), by omega, rfl, hlt, p'⟩, fun x H' y => ?_⟩
    obtain ⟨e, y⟩ := y
    subst e
    exact hs i x σ _ (y xs q) p
  · have e : i = xs.length := by omega
    subst e
    exact .inl ⟨⟨xs, q, Nat.le_refl _⟩, hd σ H p⟩
theorem for_range {lo : Int} {n : Nat} {g : TG} {tb : TS} {D : Ends} {σ : St} {H : Hp} (Pv : Nat → St → Hp → Prop) (h0 : Pv 0 σ H)
    (hs : ∀ i σ H, i < n → Pv i σ H → g (.int (lo + i)) σ H fun σ2 H2 => tb { D with nx := Pv (i + 1), ct := Pv (i + 1), bk := D.nx } σ2 H2) (hd : ∀ σ H, Pv n σ H → D.nx σ H) :
    ∃ W : Nat → Nat → St → Hp → Prop, (∃ m, W 0 m σ H) ∧ ∀ i m σ H, W i m σ H →
      ((Itr lo n).stop i H ∧ D.nx σ H) ∨ ((Itr lo n).go i H ∧ ∃ N : St → Hp → Prop, (∀ σ' H', N σ' H' → ∃ m', m' < m ∧ W (i + 1) m' σ' H') ∧ ∀ x H', (Itr lo n).yld i H x H' → g x σ H' fun σ2 H2 => tb { D with nx := N, ct := N, bk := D.nx } σ2 H2) := by
  refine ⟨fun i m σ H => m = n - i ∧ i ≤ n ∧ Pv i σ H, ⟨n, by simp, Nat.zero_le _, h0⟩, ?_⟩
  rintro i m σ H ⟨rfl, hi, p⟩
  by_cases hlt : i < n
  · refine .inr ⟨hlt, Pv (i + 1), fun σ' H' p' => ⟨n - (i + 1), by omega, rfl, hlt, p'⟩, fun x H' y => ?_⟩
    obtain ⟨e, y⟩ := y
    subst e y
    exact hs i σ _ hlt p
  · have e : i = n := by omega
    subst e
    exact .inl ⟨Nat.le_refl _, hd σ H p⟩
theorem while_by {c : TT} {tb : TS} {D : Ends} {σ : St} {H : Hp} (Pv : St → Hp → Prop) (μ : St → Hp → Nat) (h0 : Pv σ H)
    (hs : ∀ σ H, Pv σ H → c σ H fun b H1 => if b = true then tb { D with nx := fun σ' H' => Pv σ' H' ∧ μ σ' H' < μ σ H, ct := fun σ' H' => Pv σ' H' ∧ μ σ' H' < μ σ H, bk := D.nx } σ H1 else D.nx σ H1)
    (mono : ∀ σ H Q Q', (∀ b H1, Q b H1 → Q' b H1) → c σ H Q → c σ H Q') : tWhile c tb D σ H := by
  refine ⟨fun m σ H => m = μ σ H ∧ Pv σ H, ⟨_, rfl, h0⟩, ?_⟩
  rintro m σ H ⟨rfl, p⟩
  refine mono σ H _ _ (fun b H1 q => ?_) (hs σ H p)
  cases b with
  | true => exact ⟨_, fun σ' H' ⟨p', l⟩ => ⟨_, l, rfl, p'⟩, q⟩
  | false => exact q
end L2
namespace L2
open PySem PySem.Spec PyProof.Rows
abbrev R2 := V → V → Hp → VK → Prop
def OpR (X : Cx) (f : Value → Value → Sem Value) (r : R2) : Prop :=
  ∀ (pins : List (Addr × Obj)) (s : Shared) (σ : St) (H : Hp) (x y : V) (v u : Value) (Q : VK), Inv X pins σ H s → RelV x v → RelV y u → r x y H Q →
    wpAny (model X.prog X.w) X.A (f v u) (EP X pins σ Q) X.xe s
def UnR (X : Cx) (f : Value → Sem Value) (r : V → Hp → VK → Prop) : Prop :=
  ∀ (pins : List (Addr × Obj)) (s : Shared) (σ : St) (H : Hp) (x : V) (v : Value) (Q : VK), Inv X pins σ H s → RelV x v → r x H Q →
    wpAny (model X.prog X.w) X.A (f v) (EP X pins σ Q) X.xe s
def CallR (X : Cx) (f : Value) (r : List V → Hp → VK → Prop) : Prop :=
  ∀ (pins : List (Addr × Obj)) (s : Shared) (σ : St) (H : Hp) (xs : List V) (us : List Value) (Q : VK), Inv X pins σ H s → Vals xs us → r xs H Q →
    wpAny (model X.prog X.w) X.A (call f us) (EP X pins σ Q) X.xe s
def tOp (r : R2) (ta tb : TE) : TE := fun σ H Q => ta σ H fun x H1 => tb σ H1 fun y H2 => r x y H2 Q
def tUn (r : V → Hp → VK → Prop) (ta : TE) : TE := fun σ H Q => ta σ H fun x H1 => r x H1 Q
def rI (C : Int → Int → Prop) (g : Int → Int → V) : R2 := fun x y H Q => ∃ i j, x = .int i ∧ y = .int j ∧ C i j ∧ Q (g i j) H
def rI0 (g : Int → Int → V) : R2 := fun x y H Q => ∃ i j, x = .int i ∧ y = .int j ∧ Q (g i j) H
def rU (g : Int → V) : V → Hp → VK → Prop := fun x H Q => ∃ i, x = .int i ∧ Q (g i) H
section
variable {X : Cx} {a b c : Expr} {ta tb tc : TE} {pos : Pos}
theorem binT (ha : PE X a ta) (hb : PE X b tb) {pins : List (Addr × Obj)} {s : Shared} {σ : St} {H : Hp} {R : V → V → Hp → Prop} (I : Inv X pins σ H s)
    (h : ta σ H fun x H1 => tb σ H1 fun y H2 => R x y H2) {Q : Value → Shared → Prop} {f : Value → Value → Sem Value}
    (hf : ∀ v u s2 x y H2, Inv X pins σ H2 s2 → RelV x v → RelV y u → R x y H2 → wpAny (model X.prog X.w) X.A (f v u) Q X.xe s2) :
    wpAny (model X.prog X.w) X.A (eval a X.env) (fun v s₁ => wpAny (model X.prog X.w) X.A (eval b X.env) (fun u s₂ => wpAny (model X.prog X.w) X.A (f v u) Q X.xe s₂) X.xe s₁) X.xe s := by
  refine thn (ha pins s σ H _ I h) fun v s1 ⟨x, H1, I1, r1, q1⟩ => ?_
  refine thn (hb pins s1 σ H1 _ I1 q1) fun u s2 ⟨y, H2, I2, r2, q2⟩ => ?_
  exact hf v u s2 x y H2 I2 r1 r2 q2
theorem pe_op {op : Operator} {r : R2} (ho : OpR X (binaryOp op) r) (ha : PE X a ta) (hb : PE X b tb) : PE X (.BinOp a op b pos) (tOp r ta tb) := by
  intro pins s σ H Q I h
  exact wpAny_BinOp (binT ha hb I h fun v u s2 x y H2 I2 rx ry q => ho pins s2 σ H2 x y v u Q I2 rx ry q)
theorem pe_un {op : UnaryOp} {r : V → Hp → VK → Prop} (ho : UnR X (unaryOp op) r) (ha : PE X a ta) : PE X (.UnaryOp op a pos) (tUn r ta) := by
  intro pins s σ H Q I h
  exact UnaryOp_ (thn (ha pins s σ H _ I h) fun v s1 ⟨x, H1, I1, r1, q1⟩ => ho pins s1 σ H1 x v Q I1 r1 q1)
theorem opI {f : Value → Value → Sem Value} {C : Int → Int → Prop} {g : Int → Int → Int}
    (rule : ∀ (i j : Int) (t u : Tok) (s : Shared) (Q : Value → Shared → Prop) (E : Value → Shared → Prop), C i j → Q (.int (g i j) s.toks) { s with toks := s.toks + 1 } → wpAny (model X.prog X.w) X.A (f (.int i t) (.int j u)) Q E s) :
    OpR X f (rI C fun i j => .int (g i j)) := by
  intro pins s σ H x y v u Q I rx ry h
  obtain ⟨i, j, rfl, rfl, hc, q⟩ := h
  obtain ⟨t, rfl⟩ := rx
  obtain ⟨t', rfl⟩ := ry
  exact rule i j t t' s _ _ hc ⟨.int (g i j), H, I.tok _, ⟨_, rfl⟩, q⟩
theorem opI0 {f : Value → Value → Sem Value} {g : Int → Int → Int}
    (rule : ∀ (i j : Int) (t u : Tok) (s : Shared) (Q : Value → Shared → Prop) (E : Value → Shared → Prop), Q (.int (g i j) s.toks) { s with toks := s.toks + 1 } → wpAny (model X.prog X.w) X.A (f (.int i t) (.int j u)) Q E s) :
    OpR X f (rI0 fun i j => .int (g i j)) := by
  intro pins s σ H x y v u Q I rx ry h
  obtain ⟨i, j, rfl, rfl, q⟩ := h
  obtain ⟨t, rfl⟩ := rx
  obtain ⟨t', rfl⟩ := ry
  exact rule i j t t' s _ _ ⟨.int (g i j), H, I.tok _, ⟨_, rfl⟩, q⟩
theorem opB0 {f : Value → Value → Sem Value} {g : Int → Int → Bool}
    (rule : ∀ (i j : Int) (t u : Tok) (s : Shared) (Q : Value → Shared → Prop) (E : Value → Shared → Prop), Q (.bool (g i j)) s → wpAny (model X.prog X.w) X.A (f (.int i t) (.int j u)) Q E s) :
    OpR X f (rI0 fun i j => .bl (g i j)) := by
  intro pins s σ H x y v u Q I rx ry h
  obtain ⟨i, j, rfl, rfl, q⟩ := h
  obtain ⟨t, rfl⟩ := rx
  obtain ⟨t', rfl⟩ := ry
  exact rule i j t t' s _ _ ⟨.bl (g i j), H, I, rfl, q⟩
def CMul (i j : Int) : Prop := (-(2 ^ 64) < i ∧ i < 2 ^ 64) ∨ (-(2 ^ 64) < j ∧ j < 2 ^ 64)
theorem CMul.ok {i j : Int} (h : CMul i j) : IntMulOk i j := by
  rcases h with ⟨h1, h2⟩ | ⟨h1, h2⟩
  · exact .of_left (intBits_le_64 h1 h2)
  · exact .of_right (intBits_le_64 h1 h2)
theorem op_add : OpR X (binaryOp .Add) (rI0 fun i j => .int (i + j)) := opI0 fun _ _ _ _ _ _ _ q => add_int q
theorem op_sub : OpR X (binaryOp .Sub) (rI0 fun i j => .int (i - j)) := opI0 fun _ _ _ _ _ _ _ q => sub_int q
theorem op_mul : OpR X (binaryOp .Mult) (rI CMul fun i j => .int (i * j)) := opI fun _ _ _ _ _ _ _ hc q => mul_int q hc.ok
theorem op_mod : OpR X (binaryOp .Mod) (rI (fun _ j => 0 < j) fun i j => .int (i % j)) := opI fun i j _ _ _ _ _ hc q => by
  have h1 : (0 : Int) < j := hc
  exact mod_int' (by omega) (by rw [Int.fmod_eq_emod_of_nonneg i (by omega)]; exact q)
theorem unI {f : Value → Sem Value} {g : Int → Int}
    (rule : ∀ (i : Int) (t : Tok) (s : Shared) (Q : Value → Shared → Prop) (E : Value → Shared → Prop), Q (.int (g i) s.toks) { s with toks := s.toks + 1 } → wpAny (model X.prog X.w) X.A (f (.int i t)) Q E s) :
    UnR X f (rU fun i => .int (g i)) := by
  intro pins s σ H x v Q I rx h
  obtain ⟨i, rfl, q⟩ := h
  obtain ⟨t, rfl⟩ := rx
  exact rule i t s _ _ ⟨.int (g i), H, I.tok _, ⟨_, rfl⟩, q⟩
theorem un_neg : UnR X (unaryOp .USub) (rU fun i => .int (-i)) := unI fun _ _ _ _ _ q => neg_int q
end
def scal : V → V → Bool
  | .non, .non => true | .non, .int _ => true | .int _, .non => true | .non, .bl _ => true | .bl _, .non => true | .non, .str _ => true | .str _, .non => true
  | .int _, .int _ => true | .bl _, .bl _ => true | .str _, .str _ => true | .byt _, .byt _ => true
  | .int _, .str _ => true | .str _, .int _ => true | .bl _, .str _ => true | .str _, .bl _ => true
  | _, _ => false
def rEq : R2 := fun x y H Q => scal x y = true ∧ Q (.bl (decide (x = y))) H
def rNe : R2 := fun x y H Q => scal x y = true ∧ Q (.bl (!decide (x = y))) H
theorem dec_int {i j : Int} : decide (V.int i = V.int j) = (i == j) := by
  rw [Bool.eq_iff_iff]
  simp
theorem dec_bl {i j : Bool} : decide (V.bl i = V.bl j) = (i == j) := by
  rw [Bool.eq_iff_iff]
  simp
theorem dec_str {i j : Str} : decide (V.str i = V.str j) = (i == j) := by
  rw [Bool.eq_iff_iff]
  simp
theorem dec_byt {i j : Array UInt8} : decide (V.byt i = V.byt j) = (i.toList == j.toList) := by
  rw [Bool.eq_iff_iff]
  cases i
  cases j
  simp
section
variable {X : Cx} {a b c : Expr} {ta tb tc : TE} {pos : Pos}
theorem fin_bl {pins : List (Addr × Obj)} {σ : St} {H : Hp} {s : Shared} {Q : VK} {k k' : Bool} (I : Inv X pins σ H s) (q : Q (.bl k) H) (e : k = k') : EP X pins σ Q (.bool k') s := by
  subst e
  exact ⟨.bl k, H, I, rfl, q⟩
theorem op_eq : OpR X (compareOp .Eq) rEq := by
  intro pins s σ H x y v u Q I rx ry h
  obtain ⟨hs, q⟩ := h
  cases x with
  | non =>
    cases rx
    cases y with
    | non => cases ry; exact PySem.EqNone.eq_none_none (fin_bl I q (by simp))
    | bl j => cases ry; exact PySem.EqNone.eq_none_bool (fin_bl I q (by simp))
    | int j => obtain ⟨t', rfl⟩ := ry; exact PySem.EqNone.eq_none_int (fin_bl I q (by simp))
    | str j => obtain ⟨t', rfl⟩ := ry; exact PySem.EqNone.eq_none_str (fin_bl I q (by simp))
    | _ => exact absurd (show false = true from hs) Bool.false_ne_true
  | bl i =>
    cases rx
    cases y with
    | non => cases ry; exact PySem.EqNone.eq_bool_none (fin_bl I q (by simp))
    | bl j => cases ry; exact eq_bool (fin_bl I q dec_bl)
    | str j => obtain ⟨t', rfl⟩ := ry; exact PySem.EqMixed.eq_bool_str (fin_bl I q (by simp))
    | _ => exact absurd (show false = true from hs) Bool.false_ne_true
  | int i =>
    obtain ⟨t, rfl⟩ := rx
    cases y with
    | non => cases ry; exact PySem.EqNone.eq_int_none (fin_bl I q (by simp))
    | int j => obtain ⟨t', rfl⟩ := ry; exact eq_int (fin_bl I q dec_int)
    | str j => obtain ⟨t', rfl⟩ := ry; exact PySem.EqMixed.eq_int_str (fin_bl I q (by simp))
    | _ => exact absurd (show false = true from hs) Bool.false_ne_true
  | str i =>
    obtain ⟨t, rfl⟩ := rx
    cases y with
    | non => cases ry; exact PySem.EqNone.eq_str_none (fin_bl I q (by simp))
    | bl j => cases ry; exact PySem.EqMixed.eq_str_bool (fin_bl I q (by simp))
    | int j => obtain ⟨t', rfl⟩ := ry; exact PySem.EqMixed.eq_str_int (fin_bl I q (by simp))
    | str j => obtain ⟨t', rfl⟩ := ry; exact eq_str (fin_bl I q dec_str)
    | _ => exact absurd (show false = true from hs) Bool.false_ne_true
  | byt i =>
    obtain ⟨t, rfl⟩ := rx
    cases y with
    | byt j => obtain ⟨t', rfl⟩ := ry; exact PySem.W.eq_bytes (fin_bl I q dec_byt)
    | _ => exact absurd (show false = true from hs) Bool.false_ne_true
  | _ => cases y <;> exact absurd (show false = true from hs) Bool.false_ne_true
theorem op_ne : OpR X (compareOp .NotEq) rNe := by
  intro pins s σ H x y v u Q I rx ry h
  obtain ⟨hs, q⟩ := h
  cases x with
  | non =>
    cases rx
    cases y with
    | non => cases ry; exact PySem.EqNone.ne_none_none (fin_bl I q (by simp))
    | bl j => cases ry; exact PySem.EqNone.ne_none_bool (fin_bl I q (by simp))
    | int j => obtain ⟨t', rfl⟩ := ry; exact PySem.EqNone.ne_none_int (fin_bl I q (by simp))
    | str j => obtain ⟨t', rfl⟩ := ry; exact PySem.EqNone.ne_none_str (fin_bl I q (by simp))
    | _ => exact absurd (show false = true from hs) Bool.false_ne_true
  | bl i =>
    cases rx
    cases y with
    | non => cases ry; exact PySem.EqNone.ne_bool_none (fin_bl I q (by simp))
    | bl j => cases ry; exact ne_bool (fin_bl I q (congrArg not dec_bl))
    | str j => obtain ⟨t', rfl⟩ := ry; exact PySem.EqMixed.ne_bool_str (fin_bl I q (by simp))
    | _ => exact absurd (show false = true from hs) Bool.false_ne_true
  | int i =>
    obtain ⟨t, rfl⟩ := rx
    cases y with
    | non => cases ry; exact PySem.EqNone.ne_int_none (fin_bl I q (by simp))
    | int j => obtain ⟨t', rfl⟩ := ry; exact ne_int (fin_bl I q (congrArg not dec_int))
    | str j => obtain ⟨t', rfl⟩ := ry; exact PySem.EqMixed.ne_int_str (fin_bl I q (by simp))
    | _ => exact absurd (show false = true from hs) Bool.false_ne_true
  | str i =>
    obtain ⟨t, rfl⟩ := rx
    cases y with
    | non => cases ry; exact PySem.EqNone.ne_str_none (fin_bl I q (by simp))
    | bl j => cases ry; exact PySem.EqMixed.ne_str_bool (fin_bl I q (by simp))
    | int j => obtain ⟨t', rfl⟩ := ry; exact PySem.EqMixed.ne_str_int (fin_bl I q (by simp))
    | str j => obtain ⟨t', rfl⟩ := ry; exact ne_str (fin_bl I q (congrArg not dec_str))
    | _ => exact absurd (show false = true from hs) Bool.false_ne_true
  | byt i =>
    obtain ⟨t, rfl⟩ := rx
    cases y with
    | byt j => obtain ⟨t', rfl⟩ := ry; exact PySem.W.ne_bytes (fin_bl I q (congrArg not dec_byt))
    | _ => exact absurd (show false = true from hs) Bool.false_ne_true
  | _ => cases y <;> exact absurd (show false = true from hs) Bool.false_ne_true
theorem op_lt : OpR X (compareOp .Lt) (rI0 fun i j => .bl (decide (i < j))) := opB0 fun _ _ _ _ _ _ _ q => lt_int q
theorem op_le : OpR X (compareOp .LtE) (rI0 fun i j => .bl (decide (i ≤ j))) := opB0 fun _ _ _ _ _ _ _ q => le_int q
theorem op_gt : OpR X (compareOp .Gt) (rI0 fun i j => .bl (decide (j < i))) := opB0 fun _ _ _ _ _ _ _ q => gt_int q
theorem op_notN : OpR X (compareOp .IsNot) (fun x y H Q => y = .non ∧ Q (.bl (!decide (x = .non))) H) := by
  intro pins s σ H x y v u Q I rx ry h
  obtain ⟨rfl, q⟩ := h
  cases ry
  refine isnot_none_gen (fin_bl I q ?_)
  cases x <;> first
    | (cases rx; rfl)
    | (obtain ⟨t, rfl⟩ := rx; rfl)
theorem nomark (b : Expr) {op : CmpOp} (h : op ≠ .In := by decide) (h2 : op ≠ .NotIn := by decide) : behindInMarks op b = false := by
  have e1 : (op == CmpOp.In) = false := by cases op <;> first | rfl | exact absurd rfl h
  have e2 : (op == CmpOp.NotIn) = false := by cases op <;> first | rfl | exact absurd rfl h2
  cases b <;> simp [behindInMarks, e1, e2]
theorem pe_cmpR {op : CmpOp} {r : R2} (ho : OpR X (compareOp op) r) (ha : PE X a ta) (hb : PE X b tb) (hm : behindInMarks op b = false) : PE X (.Compare a [op] [b] pos) (tOp r ta tb) := by
  intro pins s σ H Q I h
  exact wpAny_Compare1 (binT ha hb I h fun v u s2 x y H2 I2 rx ry q => ho pins s2 σ H2 x y v u Q I2 rx ry q) hm
def tTest (t : TE) : TT := fun σ H Q => t σ H fun x H' => ∃ k, x = .bl k ∧ Q k H'
theorem pt_cmpR {op : CmpOp} {r : R2} (ho : OpR X (compareOp op) r) (ha : PE X a ta) (hb : PE X b tb) (hm : behindInMarks op b = false) : PT X (.Compare a [op] [b] pos) (tTest (tOp r ta tb)) := by
  intro pins s σ H Q I h
  refine wpAny_isTrue_Compare1 (thn (ha pins s σ H _ I h) fun v s1 ⟨x, H1, I1, r1, q1⟩ => thn (hb pins s1 σ H1 _ I1 q1) fun u s2 ⟨y, H2, I2, r2, q2⟩ =>
    thn (ho pins s2 σ H2 x y v u _ I2 r1 r2 q2) fun c s3 ⟨z, H3, I3, r3, k, e, q3⟩ => ?_) hm
  subst e
  cases r3
  exact wpAny_truthy_bool ⟨H3, I3, q3⟩
def tChain (r r' : R2) (ta tb tc : TE) : TE := fun σ H Q => ta σ H fun x H1 => tb σ H1 fun y H2 => r x y H2 fun z H3 => ∃ k, z = .bl k ∧
  (if k = true then tc σ H3 fun w' H4 => r' y w' H4 Q else Q (.bl false) H3)
theorem pe_chain {op op' : CmpOp} {r r' : R2} (ho : OpR X (compareOp op) r) (ho' : OpR X (compareOp op') r') (ha : PE X a ta) (hb : PE X b tb) (hc : PE X c tc)
    (hm : lastMarks [op, op'] [b, c] = false := by with_unfolding_all rfl) : PE X (.Compare a [op, op'] [b, c] pos) (tChain r r' ta tb tc) := by
  intro pins s σ H Q I h
  refine Compare_chain (thn (ha pins s σ H _ I h) fun v s1 ⟨x, H1, I1, r1, q1⟩ => chain_link (thn (hb pins s1 σ H1 _ I1 q1) fun u s2 ⟨y, H2, I2, r2, q2⟩ =>
    thn (ho pins s2 σ H2 x y v u _ I2 r1 r2 q2) fun d s3 ⟨z, H3, I3, r3, k, e, q3⟩ => ?_)) hm
  subst e
  cases r3
  refine wpAny_truthy_bool ?_
  cases k with
  | false => exact ite_ff ⟨.bl false, H3, I3, rfl, q3⟩
  | true => exact ite_tt (chain_last (thn (hc pins s3 σ H3 _ I3 q3) fun w' s4 ⟨z', H4, I4, r4, q4⟩ => ho' pins s4 σ H4 y z' u w' Q I4 r2 r4 q4))
theorem pt_chain {op op' : CmpOp} {r r' : R2} (ho : OpR X (compareOp op) r) (ho' : OpR X (compareOp op') r') (ha : PE X a ta) (hb : PE X b tb) (hc : PE X c tc)
    (hm : lastMarks [op, op'] [b, c] = false := by with_unfolding_all rfl) : PT X (.Compare a [op, op'] [b, c] pos) (tTest (tChain r r' ta tb tc)) := by
  intro pins s σ H Q I h
  refine isTrue_chain (thn (ha pins s σ H _ I h) fun v s1 ⟨x, H1, I1, r1, q1⟩ => test_link (thn (hb pins s1 σ H1 _ I1 q1) fun u s2 ⟨y, H2, I2, r2, q2⟩ =>
    thn (ho pins s2 σ H2 x y v u _ I2 r1 r2 q2) fun d s3 ⟨z, H3, I3, r3, k, e, q3⟩ => ?_)) hm
  subst e
  cases r3
  refine wpAny_truthy_bool ?_
  cases k with
  | false =>
    obtain ⟨k', e', q'⟩ := q3
    cases e'
    exact ite_ff ⟨H3, I3, q'⟩
  | true =>
    refine ite_tt (test_last (thn (hc pins s3 σ H3 _ I3 q3) fun w' s4 ⟨z', H4, I4, r4, q4⟩ => thn (ho' pins s4 σ H4 y z' u w' _ I4 r2 r4 q4) fun d' s5 ⟨z2, H5, I5, r5, k2, e2, q5⟩ => ?_))
    subst e2
    cases r5
    exact wpAny_truthy_bool ⟨H5, I5, q5⟩
theorem isEmpty_kv {κ : Type} {kvs : List (κ × V)} {vs : List (κ × Value)} (r : KV kvs vs) : (!vs.isEmpty) = !kvs.isEmpty := by
  cases r <;> rfl
theorem isEmpty_of {xs : List V} {its : List Value} (r : Vals xs its) : (!its.toArray.isEmpty) = !xs.isEmpty := by
  cases r <;> simp
theorem line63 : (sizeLine : Nat) < 2 ^ 63 := by rw [sizeLine_eq]; decide
theorem op_add_str : OpR X (binaryOp .Add) (fun x y H Q => ∃ i j, x = .str i ∧ y = .str j ∧ i.length + j.length ≤ sizeLine ∧ Q (.str (i ++ j)) H) := by
  intro pins s σ H x y v u Q I rx ry h
  obtain ⟨i, j, rfl, rfl, hz, q⟩ := h
  obtain ⟨t, rfl⟩ := rx
  obtain ⟨t', rfl⟩ := ry
  exact add_str (fun t' tk => ⟨.str (i ++ j), H, I.tok _, ⟨_, rfl⟩, q⟩) hz
theorem vals1 {x : V} {us : List Value} (r : Vals [x] us) : ∃ u, us = [u] ∧ RelV x u := by
  cases r with
  | cons r1 r2 => cases r2; exact ⟨_, rfl, r1⟩
theorem vals2 {x y : V} {us : List Value} (r : Vals [x, y] us) : ∃ u w', us = [u, w'] ∧ RelV x u ∧ RelV y w' := by
  cases r with
  | cons r1 r2 =>
    cases r2 with
    | cons r3 r4 => cases r4; exact ⟨_, _, rfl, r1, r3⟩
def LenV (K : PySem.W.Frag) (x : V) (H : Hp) (n : Nat) : Prop :=
  match x with
  | .str y => y.length ≤ sizeLine ∧ n = y.length
  | .byt y => y.size ≤ sizeLine ∧ n = y.size
  | .ref p => (∃ xs, SqL K H p xs ∧ n = xs.length) ∨ ∃ xs, SqT K H p xs ∧ n = xs.length
  | _ => False
theorem call_len : CallR X (.builtin "len") (fun xs H Q => ∃ x n, xs = [x] ∧ LenV X.K x H n ∧ Q (.int n) H) := by
  intro pins s σ H xs us Q I r h
  obtain ⟨x, n, rfl, e, q⟩ := h
  obtain ⟨u, rfl, rx⟩ := vals1 r
  have hl := line63
  have hs : sizeLine = 16777216 := sizeLine_eq
  cases x with
  | str y =>
    obtain ⟨t, rfl⟩ := rx
    obtain ⟨hy, e'⟩ : y.length ≤ sizeLine ∧ n = y.length := e
    subst e'
    exact len_str (by omega) ⟨.int _, H, I.tok _, ⟨_, rfl⟩, q⟩
  | byt y =>
    obtain ⟨t, rfl⟩ := rx
    obtain ⟨hy, e'⟩ : y.size ≤ sizeLine ∧ n = y.size := e
    subst e'
    exact PySem.W.len_bytes (by omega) ⟨.int _, H, I.tok _, ⟨_, rfl⟩, q⟩
  | ref p =>
    cases rx
    have e' : (∃ xs, SqL X.K H p xs ∧ n = xs.length) ∨ ∃ xs, SqT X.K H p xs ∧ n = xs.length := e
    rcases e' with ⟨xs, hx, e'⟩ | ⟨xs, hx, e'⟩
    · subst e'
      obtain ⟨its, r', pl, hz⟩ := I.list hx
      have hlen := r'.length
      exact Calls.call_len_list pl.isList (by simp only [List.size_toArray]; omega) ⟨.int xs.length, H, I.tok _, ⟨_, by simp only [List.size_toArray]; rw [hlen]⟩, q⟩
    · subst e'
      obtain ⟨its, r', pl, hz⟩ := I.tuple hx
      have hlen := r'.length
      exact len_tuple pl (by simp only [List.size_toArray]; omega) ⟨.int xs.length, H, I.tok _, ⟨_, by simp only [List.size_toArray]; rw [hlen]⟩, q⟩
  | _ => exact (show False from e).elim
end
end L2
namespace L2
open PySem PySem.Spec PyProof.Rows
structure ObjM (h : Heap) (x dx C : Addr) (mA : Str → Option Value) : Prop where
  obj : h.get? x = some (PySem.W.instObj C dx)
  ns : h.Ns1 dx mA
  ne : dx ≠ x
theorem lookIn_ns {h : Heap} {dx : Addr} {mA : Str → Option Value} (n : h.Ns1 dx mA) : ∃ od, h.get? dx = some od ∧ ∀ name, PySem.W.lookIn name od = some (mA name) := by
  obtain ⟨o, es, ep, ho, hd, hk, _, hm⟩ := n
  refine ⟨o, ho, fun name => ?_⟩
  have e := hm name
  unfold nsFind findBy at e
  rw [← Array.find?_toList] at e
  unfold PySem.W.lookIn
  rw [hd]
  dsimp only
  split
  · rename_i y q
    rw [q] at e
    exact congrArg some e
  · rename_i q
    rw [q] at e
    have a : es.toList.any (·.refKey) = false := by
      rw [List.any_eq_false]
      intro y hy
      obtain ⟨z, t, hkey⟩ := hk y (Array.mem_toList_iff.mp hy)
      simp [DictEntry.refKey, hkey]
    have a' : ¬ es.toList.any (·.refKey) = true := by rw [a]; exact Bool.false_ne_true
    rw [if_neg a']
    exact congrArg some e
theorem ObjM.look {h : Heap} {x dx C : Addr} {mA : Str → Option Value} (I : ObjM h x dx C mA) : ∃ od, PySem.W.InstAt h x (PySem.W.instObj C dx) C (some od) ∧ ∀ name, PySem.W.lookIn name od = some (mA name) :=
  let ⟨od, ho, hl⟩ := lookIn_ns I.ns
  ⟨od, ⟨I.obj, rfl, rfl, ho⟩, hl⟩
section
variable {prog : Program} {w : World} {A : Around} {E : Value → Shared → Prop} {s : Shared} {K : PySem.W.Frag} {x dx C f : Addr} {mA : Str → Option Value} {name : Str} {v : Value}
end
theorem RelO.some_of {v : V} {o : Option Value} (r : RelO (some v) o) : ∃ u, o = some u ∧ RelV v u := by
  cases o with
  | none => exact (show False from r).elim
  | some u => exact ⟨u, rfl, r⟩
section
variable {P : Program} {w : World} {H H' : Hp} {h h' : Heap} {a C dx : Addr} {fs fs' : List (Str × V)}
theorem ins_get (hok : HOk P w H h) (e : H a = some (.ins C dx fs)) : ∃ mA, ObjM h a dx C mA ∧ (∀ f, RelO (fs.lookup f) (mA f)) ∧ PySem.Within mA (fs.map (·.1)) ∧ fs.length ≤ 1000 ∧ H dx = some (.own a) := by
  obtain ⟨d, z, ne, ob, mA, n, r, q⟩ := (show ObjOk P w H h a (.ins C dx fs) from hok a _ e)
  exact ⟨mA, ⟨ob, n, ne⟩, r, q, z, d⟩
end
structure Cls (K : PySem.W.Frag) (C : Addr) : Prop where
  pg : PySem.W.plainGet K C Str.empty = true
  hd : PySem.W.hasDictIn K C = true
  po : PySem.W.plainOver K C = true
  sa : PySem.W.findIn K (.ref C) "__setattr__" = some (some (.builtin "object.__setattr__"))
theorem Cls.get {K : PySem.W.Frag} {C : Addr} (c : Cls K C) (f : Str) : PySem.W.plainGet K C f = true := c.pg
section
variable {X : Cx} {pins : List (Addr × Obj)} {σ : St} {H : Hp} {s : Shared} {a C dx : Addr} {fs : List (Str × V)} {f : Str} {v : V} {A : Around} {E : Value → Shared → Prop}
end
section
variable {X : Cx} {o e value : Expr} {f : Str} {pos pos' tpos : Pos} {ta tv : TE}
end
section
variable {X : Cx} {pins : List (Addr × Obj)} {σ : St} {H : Hp} {s : Shared} {A : Around} {E : Value → Shared → Prop} {Q : Value → Shared → Prop} {c : Value} {b : Bool}
inductive TyOf (K : PySem.W.Frag) (H : Hp) : V → Value → Prop where
  | non : TyOf K H .non (.type "NoneType")
  | bl (x : Bool) : TyOf K H (.bl x) (.type "bool")
  | int (i : Int) : TyOf K H (.int i) (.type "int")
  | str (x : Str) : TyOf K H (.str x) (.type "str")
  | flt (x : UInt64) : TyOf K H (.flt x) (.type "float")
  | lst {a : Addr} {xs : List V} (e : H a = some (.lst xs)) : TyOf K H (.ref a) (.type "list")
  | frz {a : Addr} {o : Obj} {xs : List V} (e : H a = some (.frz o (.lst xs))) : TyOf K H (.ref a) (.type "list")
  | tup {a : Addr} {xs : List V} (e : H a = some (.tup xs)) : TyOf K H (.ref a) (.type "tuple")
  | dK {a : Addr} {kvs : List (Key × V)} (e : H a = some (.dK kvs)) : TyOf K H (.ref a) (.type "dict")
  | dT {a : Addr} {kvs : List (List Key × V)} (e : H a = some (.dT kvs)) : TyOf K H (.ref a) (.type "dict")
  | ins {a C dx : Addr} {fs : List (Str × V)} (e : H a = some (.ins C dx fs)) (cl : Cls K C) (ha : PySem.W.findIn K (.ref C) "__class__" = some (some (.builtin "object.__class__")))
      (hn : PySem.W.specialIn K (.builtin "object.__class__") "__get__" = some (some (.builtin "getset_descriptor.__get__"))) (htk : PySem.W.takesIn K (.builtin "object.__class__") = some true)
      (hm : PySem.W.mroIn K C (.type "object") = some true) : TyOf K H (.ref a) (.ref C)
theorem isinst_ok {x : V} {u t : Value} (I : Inv X pins σ H s) (rx : RelV x u) (ty : TyOf X.K H x t) (e : PySem.W.kitOne X.K t c = some b) (h : ∀ tk, Q (.bool b) { s with toks := tk }) :
    wpAny (model X.prog X.w) A (call (.builtin "isinstance") [u, c]) Q E s := by
  cases ty with
  | non => cases (show u = Value.none from rx); exact PySem.W.kia_one PySem.W.kitx_none I.kIn True.intro e (fun z => nomatch z) h
  | bl y => cases (show u = Value.bool y from rx); exact PySem.W.kia_one PySem.W.kitx_bool I.kIn True.intro e (fun z => nomatch z) h
  | int i => obtain ⟨t, q⟩ := (show ∃ t, u = Value.int i t from rx); cases q; exact PySem.W.kia_one PySem.W.kitx_int I.kIn True.intro e (fun z => nomatch z) h
  | str y => obtain ⟨t, q⟩ := (show ∃ t, u = Value.str y t from rx); cases q; exact PySem.W.kia_one PySem.W.kitx_str I.kIn True.intro e (fun z => nomatch z) h
  | flt y => obtain ⟨t, q⟩ := (show ∃ t, u = Value.float y t from rx); cases q; exact PySem.W.kia_one PySem.W.kitx_float I.kIn True.intro e (fun z => nomatch z) h
  | @lst a xs ea =>
    cases (show u = Value.ref a from rx)
    obtain ⟨_, _, n, _, h1⟩ := (show ObjOk X.prog X.w H s.heap a (.lst xs) from I.hok a _ ea)
    exact PySem.W.kia_one PySem.W.kitx_list I.kIn ⟨_, h1, rfl⟩ e (fun z => nomatch z) h
  | @frz a ob xs ea =>
    cases (show u = Value.ref a from rx)
    obtain ⟨_, _, _, n, _, h1⟩ := (show ObjOk X.prog X.w H s.heap a (.frz ob (.lst xs)) from I.hok a _ ea)
    exact PySem.W.kia_one PySem.W.kitx_list I.kIn ⟨_, h1, rfl⟩ e (fun z => nomatch z) h
  | @tup a xs ea =>
    cases (show u = Value.ref a from rx)
    obtain ⟨_, _, _, p⟩ := (show ObjOk X.prog X.w H s.heap a (.tup xs) from I.hok a _ ea)
    obtain ⟨o, h1, h2, _⟩ := p.is
    exact PySem.W.kia_one PySem.W.kitx_tuple I.kIn ⟨o, h1, h2⟩ e (fun z => nomatch z) h
  | @dK a kvs ea =>
    cases (show u = Value.ref a from rx)
    obtain ⟨_, _, vs, _, p⟩ := (show ObjOk X.prog X.w H s.heap a (.dK kvs) from I.hok a _ ea)
    obtain ⟨o, es, ep, h1, h2, _⟩ := p
    exact PySem.W.kia_one PySem.W.kitx_dict I.kIn ⟨o, h1, h2.1⟩ e (fun z => nomatch z) h
  | @dT a kvs ea =>
    cases (show u = Value.ref a from rx)
    obtain ⟨_, _, xs, _, o, es, ep, h1, h2, _⟩ := (show ObjOk X.prog X.w H s.heap a (.dT kvs) from I.hok a _ ea)
    exact PySem.W.kia_one PySem.W.kitx_dict I.kIn ⟨o, h1, h2.1⟩ e (fun z => nomatch z) h
  | @ins a C dx fs ea cl ha hn htk hm =>
    cases (show u = Value.ref a from rx)
    obtain ⟨mA, O, _⟩ := ins_get I.hok ea
    obtain ⟨od, J, _⟩ := O.look
    exact PySem.W.kia_one (PySem.W.kitx_own (cl.get _) cl.hd ha hn htk hm) I.kIn J e (fun z => nomatch z) h
end
end L2
namespace L2
open PySem PySem.Spec PyProof.Rows
structure Room (k : Nat) (A : Around) : Prop where
  hd : A.handled = none
  dp : A.depth + 3 * k + 5 < recursionLimit
  un : A.units + 16 * k + 200 < cLine
theorem Room.mono {j k : Nat} {A : Around} (r : Room k A) (h : j ≤ k) : Room j A := ⟨r.hd, by have := r.dp; omega, by have := r.un; omega⟩
theorem Room.deeper {k : Nat} {A : Around} (r : Room (k + 1) A) (env : Env) : Room k (A.deeper env) :=
  ⟨r.hd, by have := r.dp; show A.depth + 1 + 3 * k + 5 < _; omega, by have := r.un; show A.units + 3 + 16 * k + 200 < _; omega⟩
theorem Room.depth {k : Nat} {A : Around} (r : Room k A) : A.depth < recursionLimit := by have := r.dp; omega
theorem Room.units {k : Nat} {A : Around} (r : Room k A) : A.units + 64 < cLine := by have := r.un; omega
def tNil : TA := fun _ H Q => Q [] H
def tCons (ta : TE) (tr : TA) : TA := fun σ H Q => ta σ H fun x H1 => tr σ H1 fun xs H2 => Q (x :: xs) H2
section
variable {X : Cx} {e : Expr} {es : List Expr} {te : TE} {t : TA} {pos : Pos}
theorem pa_nil : PA X [] tNil := fun _ _ _ _ H Q I h => Calls.spliced_nil ⟨[], H, I, .nil, h⟩
theorem pa_cons (ha : PE X e te) (hr : PA X es t) (hs : starEach (e :: es) X.env = (false, eval e X.env) :: starEach es X.env := by rfl) : PA X (e :: es) (tCons te t) := by
  intro pos pins s σ H Q I h
  rw [hs]
  show wpAny _ _ (spliced ((false, eval e X.env) :: backTo pos (starEach es X.env))) _ _ s
  refine Calls.spliced_cons (thn (ha pins s σ H _ I h) fun u s1 ⟨x, H1, I1, r1, q1⟩ => ?_)
  exact thn (hr pos pins s1 σ H1 _ I1 q1) fun us s2 ⟨xs, H2, I2, r2, q2⟩ => ⟨x :: xs, H2, I2, .cons r1 r2, q2⟩
def tTup (t : TA) : TE := fun σ H Q => t σ H fun xs H1 => xs.length ≤ sizeLine ∧ ∀ p, H1 p = none → Q (.ref p) (upd H1 p (.tup xs))
def tLst (t : TA) : TE := fun σ H Q => t σ H fun xs H1 => xs.length ≤ sizeLine ∧ ∀ p, H1 p = none → Q (.ref p) (upd H1 p (.lst xs))
theorem pe_tup {x1} (h : PA X es t) : PE X (.Tuple es x1 pos) (tTup t) := by
  intro pins s σ H Q I hq
  refine wpAny_Tuple_spliced (thn (h pos pins s σ H _ I hq) fun us s1 ⟨xs, H1, I1, r, z, q⟩ => ⟨by rw [← r.length]; exact z, ?_⟩)
  have hf : H1 s1.heap.objs.size = none := I1.hok.fresh (Nat.le_refl _)
  refine ⟨.ref s1.heap.objs.size, upd H1 s1.heap.objs.size (.tup xs), I1.laid (t' := s1.toks) (fun b u e => Heap.get?_push_of_some _ e) (Nat.le_refl _) ?_, rfl, q _ hf⟩
  exact ⟨z, us, r, ⟨_, Heap.get?_push_size _ rfl⟩⟩
theorem pe_lst (h : PA X es t) : PE X (.List es pos) (tLst t) := by
  intro pins s σ H Q I hq
  refine wpAny_List_spliced (thn (h pos pins s σ H _ I hq) fun us s1 ⟨xs, H1, I1, r, z, q⟩ => ⟨by rw [← r.length]; exact z, ?_⟩)
  have hf : H1 s1.heap.objs.size = none := I1.hok.fresh (Nat.le_refl _)
  refine ⟨.ref s1.heap.objs.size, upd H1 s1.heap.objs.size (.lst xs), I1.laid (t' := s1.toks) (fun b u e => Heap.get?_push_of_some _ e) (Nat.le_refl _) ?_, rfl, q _ hf⟩
  exact ⟨z, us, 0, r, Heap.get?_push_size _ rfl⟩
end
abbrev Sp := List V → Hp → VK → XK → Prop
abbrev CXT := List Env → Hp → Shared → XK → Value → Shared → Prop
structure Env0 (P : Program) (w : World) (K : PySem.W.Frag) (mg : Str → Option Value) (base : Heap) (A : Around) (outer : List Env) (s : Shared) (H : Hp) : Prop where
  frames : A.frames = some outer
  mod : Mod K mg base
  bs : ∀ b o, base.get? b = some o → s.heap.get? b = some o ∧ H b = none
  bsz : base.objs.size ≤ s.heap.objs.size
  funs : s.heap.FunFrames base outer
  frf : ∀ b ∈ frs outer, H b = none
  hok : HOk P w H s.heap
  bare : AllBare s.gens
def CE (outer : List Env) (P : Program) (w : World) (H : Hp) (s : Shared) (Q : VK) (u : Value) (s' : Shared) : Prop :=
  ∃ v H', s'.os = s.os ∧ AllBare s'.gens ∧ Un (frs outer) [] H H' s.heap s'.heap ∧ HOk P w H' s'.heap ∧ RelV v u ∧ Q v H'
def CR (CX : CXT) (outer : List Env) (P : Program) (w : World) (H : Hp) (s : Shared) (Q : VK) (E : XK) (r : Result) (s' : Shared) : Prop :=
  match r with
  | .ok (.ret u) => CE outer P w H s Q u s'
  | .ok _ => False
  | .error e => CX outer H s E e s'
structure FnOk (P : Program) (w : World) (K : PySem.W.Frag) (mg : Str → Option Value) (base : Heap) (CX : CXT) (k : Nat) (f : Addr) (fd : FuncData) (ps : List Str) (sp : Sp) : Prop where
  len : ∀ vs H Q E, sp vs H Q E → vs.length = ps.length
  run : ∀ (A : Around) (outer : List Env) (s : Shared) (H : Hp) (args : Args) (us : List Value) (vs : List V) (Q : VK) (E : XK), Room k A → Env0 P w K mg base A outer s H → BindsTo s fd args (ps.zip us) → Vals vs us → sp vs H Q E →
    codeAny (model P w) A (.call (.ref f) args) (CR CX outer P w H s Q E) s
theorem FnOk.mono {P : Program} {w : World} {K : PySem.W.Frag} {mg : Str → Option Value} {base : Heap} {CX : CXT} {j k : Nat} {f : Addr} {fd : FuncData} {ps : List Str} {sp : Sp} (F : FnOk P w K mg base CX j f fd ps sp) (h : j ≤ k) :
    FnOk P w K mg base CX k f fd ps sp := ⟨F.len, fun A outer s H args us vs Q E hr => F.run A outer s H args us vs Q E (hr.mono h)⟩
theorem FnOk.imp {P : Program} {w : World} {K : PySem.W.Frag} {mg : Str → Option Value} {base : Heap} {CX : CXT} {k : Nat} {f : Addr} {fd : FuncData} {ps : List Str} {sp sp' : Sp} (F : FnOk P w K mg base CX k f fd ps sp)
    (h : ∀ vs H Q E, sp' vs H Q E → sp vs H Q E) : FnOk P w K mg base CX k f fd ps sp' :=
  ⟨fun vs H Q E q => F.len vs H Q E (h _ _ _ _ q), fun A outer s H args us vs Q E hr he hb hv hs => F.run A outer s H args us vs Q E hr he hb hv (h _ _ _ _ hs)⟩
section
variable {X : Cx} {pins : List (Addr × Obj)} {σ : St} {H : Hp} {s s' : Shared}
theorem Inv.env0 (I : Inv X pins σ H s) : Env0 X.prog X.w X.K X.mg X.base X.A X.stack s H :=
  ⟨I.ok.frames, I.ok.mod, I.bs, Nat.le_trans I.ok.bsz I.sz, I.stack, I.stkFree, I.hok, I.bare⟩
theorem Inv.after {Q : VK} {u : Value} (I : Inv X pins σ H s) (h : CE X.stack X.prog X.w H s Q u s') : EP X pins σ Q u s' := by
  obtain ⟨v, H', os, bare, un, hok, r, q⟩ := h
  obtain ⟨hh, g, d, t, os'⟩ := s'
  obtain rfl : os' = s.os := os
  exact ⟨v, H', I.call (h' := hh) (g' := g) (d' := d) (t' := t) (ch := []) un hok bare (fun b z => absurd z (by simp)), r, q⟩
end
def tCall (sp : Sp) (dvs : List V) (E : XK) (t : TA) : TE := fun σ H Q => t σ H fun vs H1 => sp (vs ++ dvs) H1 Q E
def Binds (K : PySem.W.Frag) (fd : FuncData) (ps : List Str) (ds : List Value) : Prop :=
  ∀ (s : Shared) (us : List Value), K.In s.heap → (us ++ ds).length = ps.length → BindsTo s fd ⟨us, []⟩ (ps.zip (us ++ ds))
theorem Binds.all {K : PySem.W.Frag} {fd : FuncData} {ps : List Str} (h : ∀ us : List Value, us.length = ps.length → bindArgs fd ⟨us, []⟩ = pure (ps.zip us)) : Binds K fd ps [] := fun s us _ hl => by
  rw [List.append_nil] at hl ⊢
  exact .of_eq (h us hl)
def Passes (CX : CXT) (X : Cx) (E : XK) : Prop := ∀ (pins : List (Addr × Obj)) (σ : St) (H : Hp) (s : Shared) (e : Value) (s' : Shared), Inv X pins σ H s → CX X.stack H s E e s' → X.xe e s'
section
variable {X : Cx} {CX : CXT} {k : Nat} {f C : Addr} {fd : FuncData} {ps : List Str} {sp : Sp} {dvs : List V} {ds : List Value} {E : XK} {x m : Str} {p pos apos : Pos} {e o : Expr} {es : List Expr} {ta : TE} {t : TA}
theorem run_fn {pins : List (Addr × Obj)} {σ : St} {H : Hp} {s : Shared} {Q : VK} {us : List Value} {vs : List V} (F : FnOk X.prog X.w X.K X.mg X.base CX k f fd ps sp) (hr : Room k X.A) (hb : Binds X.K fd ps ds) (hd : Vals dvs ds) (hx : Passes CX X E)
    (I : Inv X pins σ H s) (r : Vals vs us) (h : sp (vs ++ dvs) H Q E) : wpAny (model X.prog X.w) X.A (call (.ref f) us) (EP X pins σ Q) X.xe s := by
  have r2 : Vals (vs ++ dvs) (us ++ ds) := r.append hd
  have hl : (us ++ ds).length = ps.length := by rw [← r2.length]; exact F.len _ _ _ _ h
  refine wpAny_call (codeAny_mono (F.run X.A X.stack s H ⟨us, []⟩ (us ++ ds) (vs ++ dvs) Q E hr I.env0 (hb s us I.kIn hl) r2 h) fun r s' hq => ?_)
  cases r with
  | error e => exact hx pins σ H s e s' I hq
  | ok fl =>
    cases fl with
    | ret u => exact I.after hq
    | next => exact False.elim hq
    | brk => exact False.elim hq
    | cont => exact False.elim hq
theorem pe_call (F : FnOk X.prog X.w X.K X.mg X.base CX k f fd ps sp) (hr : Room k X.A) (hg : Gl X x) (hm : X.mg x = some (.ref f)) (hk : PySem.W.keepIn X.K (.ref f) = true) (hb : Binds X.K fd ps ds) (hd : Vals dvs ds) (hx : Passes CX X E)
    (ha : PA X (e :: es) t) (hdb : (x == ("__debug__" : Str)) = false := by decide) (he : starEach (e :: es) X.env = (false, eval e X.env) :: starEach es X.env := by rfl) (hpl : (backTo pos (starEach es X.env)).any (·.1) = false := by rfl) :
    PE X (.Call (.Name x p) (e :: es) [] pos) (tCall sp dvs E t) := by
  intro pins s σ H Q I h
  refine wpAny_Call_Name_kw (ld_glob I hg hm ?_ hdb)
  refine PySem.W.callWith_K (h₀ := X.base) I.ok.mod.kin hk (thn (ha pos pins s σ H _ I h) fun us s1 ⟨vs, H1, I1, r, q⟩ => ⟨I1.kIn, ?_⟩) he hpl
  exact run_fn F hr hb hd hx I1 r q
end
section
variable {X : Cx} {CX : CXT} {k : Nat} {f C : Addr} {fd : FuncData} {ps ks : List Str} {sp : Sp} {E : XK} {x m : Str} {p pos apos kpos : Pos} {e o : Expr} {es : List Expr} {kws : List Keyword} {te ta : TE} {t tk : TA} {nm : Option Str}
variable {g : List Value → List Value → List Value} {gV : List V → List V → List V}
end
structure FnScope (N P : List Str) (sc : Scope) : Prop where
  kind : sc.kind = .function
  co : sc.isCoroutine = false
  gen : sc.isGenerator = false
  nd : N.Nodup
  pre : N.take P.length = P
  par : ∀ x ∈ P, sc.names.lookup x = some .local ∨ sc.names.lookup x = some .cell
  nofree : ∀ y ∈ sc.names, y.2 ≠ .free
theorem bindL_out {kindOf : Str → Option NameKind} {x : Str} : ∀ {binds : List (Str × Value)} {m : Str → Option Value}, (∀ v, (x, v) ∉ binds) → bindL kindOf binds m x = m x
  | [], _, _ => rfl
  | (n, v) :: r, m, h => by
    unfold bindL
    rw [bindL_out fun w hw => h w (List.mem_cons_of_mem _ hw)]
    split
    · have : x ≠ n := by rintro rfl; exact h v List.mem_cons_self
      simp [this]
    · rfl
theorem bindC_out {kindOf : Str → Option NameKind} {x : Str} : ∀ {binds : List (Str × Value)} {m : Str → Option Value}, (∀ v, (x, v) ∉ binds) → bindC kindOf binds m x = m x
  | [], _, _ => rfl
  | (n, v) :: r, m, h => by
    unfold bindC
    rw [bindC_out fun w hw => h w (List.mem_cons_of_mem _ hw)]
    split
    · rfl
    · have : x ≠ n := by rintro rfl; exact h v List.mem_cons_self
      simp [this]
theorem bindL_get {kindOf : Str → Option NameKind} {x : Str} {v : Value} : ∀ {P : List Str} {vs : List Value} {i : Nat} {m : Str → Option Value}, P.Nodup → P[i]? = some x → vs[i]? = some v → kindOf x = some .local →
    bindL kindOf (P.zip vs) m x = some v
  | [], _, _, _, _, h, _, _ => by simp at h
  | _ :: _, [], _, _, _, _, h, _ => by simp at h
  | p :: P, w :: vs, 0, m, nd, h1, h2, hk => by
    simp at h1 h2; subst h1; subst h2
    show bindL kindOf ((p, w) :: P.zip vs) m p = _
    unfold bindL
    rw [bindL_out fun v hv => (List.nodup_cons.mp nd).1 (List.of_mem_zip hv).1, if_pos hk]
    simp
  | p :: P, w :: vs, i + 1, m, nd, h1, h2, hk => by
    show bindL kindOf ((p, w) :: P.zip vs) m x = _
    unfold bindL
    exact bindL_get (i := i) (List.nodup_cons.mp nd).2 (by simpa using h1) (by simpa using h2) hk
theorem bindC_get {kindOf : Str → Option NameKind} {x : Str} {v : Value} : ∀ {P : List Str} {vs : List Value} {i : Nat} {m : Str → Option Value}, P.Nodup → P[i]? = some x → vs[i]? = some v → kindOf x ≠ some .local →
    bindC kindOf (P.zip vs) m x = some v
  | [], _, _, _, _, h, _, _ => by simp at h
  | _ :: _, [], _, _, _, _, h, _ => by simp at h
  | p :: P, w :: vs, 0, m, nd, h1, h2, hk => by
    simp at h1 h2; subst h1; subst h2
    show bindC kindOf ((p, w) :: P.zip vs) m p = _
    unfold bindC
    rw [bindC_out fun v hv => (List.nodup_cons.mp nd).1 (List.of_mem_zip hv).1, if_neg hk]
    simp
  | p :: P, w :: vs, i + 1, m, nd, h1, h2, hk => by
    show bindC kindOf ((p, w) :: P.zip vs) m x = _
    unfold bindC
    exact bindC_get (i := i) (List.nodup_cons.mp nd).2 (by simpa using h1) (by simpa using h2) hk
def start (N : List Str) (vs : List V) : St := vs.map some ++ List.replicate (N.length - vs.length) none
def cxOf (CX : CXT) (P : Program) (w : World) (K : PySem.W.Frag) (mg : Str → Option Value) (base : Heap) (N : List Str) (qual : Str) (scope : Scope) (f : Addr) (cd : Value) (A : Around) (outer : List Env) (s : Shared) (H : Hp) (E : XK) : Cx where
  prog := P
  w := w
  K := K
  mg := mg
  base := base
  A := A.deeper (envOfC qual scope s.heap.objs.size f cd)
  N := N
  s₀ := s
  H₀ := H
  env := envOfC qual scope s.heap.objs.size f cd
  outer := outer
  stack := envOfC qual scope s.heap.objs.size f cd :: outer
  ex := []
  calm := true
  fn := fun _ => true
  pn := []
  xe := fun e s' => wpAny (model P w) (A.deeper (envOfC qual scope s.heap.objs.size f cd)) (leaving (envOfC qual scope s.heap.objs.size f cd) e) (fun _ s'' => CX outer H s E e s'') (fun e' s'' => CX outer H s E e' s'') s'
theorem cell_has {sc : Scope} {n : Nat} {x : Str} (h : sc.names.lookup x = some .cell) : ∃ c, (cellsFrom n sc.names []).lookup x = some c := by
  have q := PySem.W.cellsFrom_some sc.names n [] (.inl h)
  exact Option.isSome_iff_exists.mp q
theorem inv_start {CX : CXT} {P : Program} {w : World} {K : PySem.W.Frag} {mg : Str → Option Value} {base : Heap} {N ps : List Str} {qual : Str} {scope : Scope} {f : Addr} {cd : Value} {A : Around} {outer : List Env} {s s1 : Shared} {H : Hp} {E : XK} {us : List Value} {vs : List V}
    (S : FnScope N ps scope) (hd : A.handled = none) (e0 : Env0 P w K mg base A outer s H) (hl : vs.length = ps.length) (r : Vals vs us)
    (x : InCallC s s.heap.objs.size (bindL (envOfC qual scope s.heap.objs.size f cd).kindOf (ps.zip us) fun _ => none) (cellsFrom (s.heap.objs.size + 1) scope.names []) (bindC (envOfC qual scope s.heap.objs.size f cd).kindOf (ps.zip us) fun _ => none) s1) :
    Inv (cxOf CX P w K mg base N qual scope f cd A outer s H E) [] (start N vs) H s1 := by
  have hpl : ps.length ≤ N.length := by have := congrArg List.length S.pre; rw [List.length_take] at this; omega
  obtain ⟨h1, tk, rfl, hk⟩ := x.done
  have noA : ∀ b : Addr, b ∉ (cxOf CX P w K mg base N qual scope f cd A outer s H E).ex := fun b z => absurd (show b ∈ ([] : List Addr) from z) (by simp)
  refine ⟨⟨e0.mod, S.kind, rfl, rfl, Nat.le_refl _, fun y z c h1 h2 => ?_, fun y hy => ?_, fun y c _ h => ?_, fun _ => hd, Around.frames_deeper e0.frames, .inr ⟨rfl, rfl⟩, fun b z => absurd z (noA b), e0.bs, e0.bsz, fun b _ _ => noA b, fun b z => absurd z (noA b), e0.funs, e0.frf⟩,
    rfl, e0.bare, Un.kept hk, ⟨_, x.toInCall.ns, fun i y v h1 h2 h3 => ?_⟩, fun y c h => ⟨_, x.cell y c h⟩, e0.hok.fresh (Nat.le_refl _), fun y c h => ?_, fun p hp => absurd (show p ∈ ([] : List (Addr × Obj)) from hp) (by simp), e0.hok.kept hk, ?_⟩
  · exact name_of_addr x.apart (PySem.mem_of_lookup h1) (PySem.mem_of_lookup h2)
  · have hy : scope.names.lookup y = some .cell ∨ scope.names.lookup y = some .free := hy
    rcases hy with hy | hy
    · exact cell_has hy
    · exact absurd rfl (S.nofree _ (PySem.mem_of_lookup hy))
  · exact Nat.le_of_lt (x.above y c (PySem.mem_of_lookup h))
  · have hi : i < vs.length := by
      unfold start at h2
      by_cases hi : i < vs.length
      · exact hi
      · rw [List.getElem?_append_right (by simpa using hi)] at h2
        rw [List.getElem?_replicate] at h2
        split at h2 <;> cases h2
    have ha : vs[i]? = some v := by
      unfold start at h2
      rw [List.getElem?_append_left (by simpa using hi), List.getElem?_map] at h2
      cases e : vs[i]? with
      | none => rw [e] at h2; cases h2
      | some a => rw [e] at h2; cases h2; rfl
    obtain ⟨u, hu, rv⟩ := r.get ha
    have hp : ps[i]? = some y := by
      rw [← S.pre, List.getElem?_take_of_lt (by omega)]; exact h1
    have ndP : ps.Nodup := by rw [← S.pre]; exact S.nd.sublist (List.take_sublist _ _)
    refine ⟨u, rv, ?_⟩
    rcases S.par y (List.mem_of_getElem? hp) with k | k
    · exact .inl ⟨k, bindL_get ndP hp hu k⟩
    · obtain ⟨c, e⟩ := cell_has (n := s.heap.objs.size + 1) k
      refine .inr ⟨.inl k, c, e, ?_⟩
      have q := x.cell y c e
      rw [bindC_get ndP hp hu (by show scope.names.lookup y ≠ _; rw [k]; decide)] at q
      exact q
  · exact e0.hok.fresh (Nat.le_of_lt (x.above y c (PySem.mem_of_lookup h)))
  · unfold start
    show _ = N.length
    rw [List.length_append, List.length_map, List.length_replicate]
    omega
theorem fn_of {CX : CXT} {P : Program} {w : World} {K : PySem.W.Frag} {mg : Str → Option Value} {base : Heap} {k : Nat} {f : Addr} {name qual : Str} {params : Arguments} {body : List Stmt} {scope : Scope} {dV kV doc pm cdv ct oc : Value} {an od : Option Addr}
    {osl : Array (Option Value)} {N ps : List Str} {sp : Sp} (lk : K.lookup f = some ⟨oc, od, .func (PySem.W.fnOf name qual params body scope dV kV doc pm an cdv ct), osl⟩) (hcd : PySem.W.codeIn K cdv qual = true) (S : FnScope N ps scope)
    (len : ∀ vs H Q E, sp vs H Q E → vs.length = ps.length)
    (hbody : ∀ (A : Around) (outer : List Env) (s : Shared) (H : Hp) (vs : List V) (Q : VK) (E : XK), Room k (A.deeper (envOfC qual scope s.heap.objs.size f cdv)) → sp vs H Q E →
      ∃ t, PSs (cxOf CX P w K mg base N qual scope f cdv A outer s H E) body t ∧ t { nx := fun _ H' => Q .non H', rt := Q } (start N vs) H) :
    FnOk P w K mg base CX (k + 1) f (PySem.W.fnOf name qual params body scope dV kV doc pm an cdv ct) ps sp := by
  refine ⟨len, fun A outer s H args us vs Q E hr e0 hb r hsp => ?_⟩
  have hl := len _ _ _ _ hsp
  have KX : K.In s.heap := e0.mod.kin.keeps fun b o e => (e0.bs b o e).1
  have lim : s.heap.NoLimit := e0.mod.nolimit.keeps fun b o e => (e0.bs b o e).1
  have hkind : ∀ y ∈ ps.zip us, scope.names.lookup y.1 = some .local ∨ (scope.names.lookup y.1 = some .cell ∧ ((cellsFrom (s.heap.objs.size + 1) scope.names []).lookup y.1).isSome = true) := fun ⟨n, v⟩ hy => by
    rcases S.par n (List.of_mem_zip hy).1 with q | q
    · exact .inl q
    · exact .inr ⟨q, PySem.W.cellsFrom_some _ _ _ (.inl q)⟩
  refine codeAny_call_function hr.depth (KX _ _ lk) rfl S.co S.gen rfl (PySem.W.codeRec_of KX hcd) (hb _ _ _ _ ?_)
  refine wpAny_newFunctionEnv_cells S.kind hkind fun env he s1 x => ?_
  subst he
  refine ⟨lim.keeps x.toInCall.keep, codeAny_func ?_⟩
  obtain ⟨t, ht, hq⟩ := hbody A outer s H vs Q E (hr.deeper _) hsp
  have I : Inv (cxOf CX P w K mg base N qual scope f cdv A outer s H E) [] (start N vs) H s1 := inv_start S hr.hd e0 hl r x
  refine wpAny_mono (ht [] s1 (start N vs) H _ I hq) (fun fl s' hs => ?_) fun e s' hs => hs
  have fin : ∀ {σ' : St} {H' : Hp} {v : V} {u : Value}, Inv (cxOf CX P w K mg base N qual scope f cdv A outer s H E) [] σ' H' s' → RelV v u → Q v H' → CE outer P w H s Q u s' :=
    fun {σ' H' v u} J rv q => ⟨v, H', J.os, J.bare, J.base, J.hok, rv, q⟩
  cases fl with
  | ret u =>
    obtain ⟨v, σ', H', J, rv, q⟩ := hs
    exact fin J rv q
  | next =>
    obtain ⟨σ', H', J, q⟩ := hs
    exact fin (v := V.non) (u := Value.none) J rfl q
  | brk =>
    obtain ⟨_, _, _, q⟩ := hs
    exact False.elim q
  | cont =>
    obtain ⟨_, _, _, q⟩ := hs
    exact False.elim q
end L2
namespace L2
open PySem PySem.Spec PyProof.Rows
section
variable {X : Cx} {x : Str} {p pos : Pos} {e : Expr} {es : List Expr} {t : TA} {id T : String} {r : List V → Hp → VK → Prop}
def tCB (r : List V → Hp → VK → Prop) (t : TA) : TE := fun σ H Q => t σ H fun vs H1 => r vs H1 Q
theorem pe_callB (hc : CallR X (.builtin id) r) (hg : Gl X x) (hm : X.mg x = none) (hv : bootBuiltins x = some (.builtin id)) (ha : PA X (e :: es) t) (hn : x ≠ "__name__" := by decide) (hdb : (x == ("__debug__" : Str)) = false := by decide)
    (he : starEach (e :: es) X.env = (false, eval e X.env) :: starEach es X.env := by rfl) (hpl : (backTo pos (starEach es X.env)).any (·.1) = false := by rfl) : PE X (.Call (.Name x p) (e :: es) [] pos) (tCB r t) := by
  intro pins s σ H Q I h
  refine wpAny_Call_Name_kw (ld_blt I hg hm hv ?_ hn hdb)
  exact PyProof.Rows.callWith_builtin1 (thn (ha pos pins s σ H _ I h) fun us s1 ⟨vs, H1, I1, r1, q1⟩ => hc pins s1 σ H1 vs us Q I1 r1 q1) he hpl
theorem pe_callTy (hc : CallR X (.type T) r) (hg : Gl X x) (hm : X.mg x = none) (hv : bootBuiltins x = some (.type T)) (ha : PA X (e :: es) t) (hn : x ≠ "__name__" := by decide) (hdb : (x == ("__debug__" : Str)) = false := by decide)
    (he : starEach (e :: es) X.env = (false, eval e X.env) :: starEach es X.env := by rfl) (hpl : (backTo pos (starEach es X.env)).any (·.1) = false := by rfl) : PE X (.Call (.Name x p) (e :: es) [] pos) (tCB r t) := by
  intro pins s σ H Q I h
  refine wpAny_Call_Name_kw (ld_blt I hg hm hv ?_ hn hdb)
  exact PyProof.Rows.callWith_type1 (thn (ha pos pins s σ H _ I h) fun us s1 ⟨vs, H1, I1, r1, q1⟩ => hc pins s1 σ H1 vs us Q I1 r1 q1) he hpl
end
end L2
namespace HT
open PySem PyProof.Rows
section
open PySem.SeqAt
open PySem.AutoSeq1 (wpAny_loadPart')
open PySem.MeetsSeq PySem.MeetsSeq2 PySem.MeetsSeq3
end
section
variable {prog : Program} {w : World} {A : Around} {E : Value → Shared → Prop} {s : Shared}
theorem cat_tup {t b : Addr} {vs ws : List Value} {Q : Value → Shared → Prop} (ht : IsTup s.heap t vs.toArray) (hb : IsTup s.heap b ws.toArray) (hv : vs ≠ [])
    (h1 : ws = [] → Q (.ref t) s) (h2 : ws ≠ [] → Q (.ref s.heap.objs.size) { s with heap := s.heap.push { cls := .type "tuple", data := .seq (vs ++ ws).toArray } })
    (hsz : vs.length + ws.length ≤ sizeLine) : wpAny (model prog w) A (binaryOp .Add (.ref t) (.ref b)) Q E s := by
  obtain ⟨⟨cls, dd, data, sl⟩, ho, hc, n, hd⟩ := id ht
  obtain ⟨⟨cls2, dd2, data2, sl2⟩, ho2, hc2, n2, hd2⟩ := id hb
  simp only at hc hd hc2 hd2
  subst hc hd hc2 hd2
  have e : vs.toArray ++ ws.toArray = (vs ++ ws).toArray := by simp
  by_cases hw : ws = []
  · exact concat_meets ⟨_, ho, rfl⟩ ⟨_, ho2, rfl⟩ noFill_tuple_add seq_tuple_add PySem.F.slot_tuple_add PySem.F.entry_tuple_add (PySem.F.args_tuple_add_2 _ _)
      (tuple_addW1 t b vs.toArray ws.toArray n n2 dd dd2 sl sl2 (by simpa using hv) (by simp [hw])) ⟨ho, ho2, h1 hw⟩
  · refine concat_meets ⟨_, ho, rfl⟩ ⟨_, ho2, rfl⟩ noFill_tuple_add seq_tuple_add PySem.F.slot_tuple_add PySem.F.entry_tuple_add (PySem.F.args_tuple_add_2 _ _)
      (tuple_addW2 t b vs.toArray ws.toArray n n2 dd dd2 sl sl2 (by simpa using hv) (by simpa using hw) (by rw [List.size_toArray, List.size_toArray]; exact hsz)) ⟨ho, ho2, ?_⟩
    rw [e]
    exact h2 hw
def sIx (n d : Nat) : Option Int → Nat
  | none => d
  | some v => if v < 0 then (v + (n : Int)).toNat else min v.toNat n
theorem sIx_le (n d : Nat) (hd : d ≤ n) (o : Option Int) : sIx n d o ≤ n := by
  cases o with
  | none => exact hd
  | some v =>
    show (if v < 0 then (v + (n : Int)).toNat else min v.toNat n) ≤ n
    by_cases hv : v < 0
    · rw [if_pos hv]; omega
    · rw [if_neg hv]; exact Nat.min_le_right _ _
theorem clip_eq (v : Int) (n d : Nat) : (if v < 0 then max (v + (n : Int)) 0 else min v (n : Int)) = ((sIx n d (some v) : Nat) : Int) := by
  show (if v < 0 then max (v + (n : Int)) 0 else min v (n : Int)) = (((if v < 0 then (v + (n : Int)).toNat else min v.toNat n) : Nat) : Int)
  by_cases hv : v < 0
  · simp only [if_pos hv]; omega
  · simp only [if_neg hv]; omega
theorem adjust_gen (lo hi : Option Int) (n : Nat) : Builtin.Slice.sliceAdjust lo hi 1 (n : Int) = (((sIx n 0 lo : Nat) : Int), ((sIx n n hi : Nat) : Int)) := by
  have h1 : ¬ ((1 : Int) < 0) := by omega
  unfold Builtin.Slice.sliceAdjust
  simp only [h1, if_false]
  refine Prod.ext ?_ ?_
  · cases lo with
    | none => rfl
    | some v => exact clip_eq v n 0
  · cases hi with
    | none => rfl
    | some v => exact clip_eq v n n
theorem places_gen (i j : Nat) : Builtin.Slice.slicePlaces (i : Int) (j : Int) 1 = j - i := by
  unfold Builtin.Slice.slicePlaces
  have h1 : (1 : Int) > 0 := by omega
  simp only [h1, if_true, Int.ediv_one]
  split <;> omega
theorem slicePart_ {v : Value} {o : Option Int} {Q : Option Int → Shared → Prop} (p : IsPart v o) (h : Q o s) : wpAny (model prog w) A (Builtin.Slice.slicePartIndex v) Q E s := by
  cases p with
  | none => exact slicePart_none h
  | int i t => exact slicePart_int h
theorem sliceApplied_gen {sl : Addr} {vl vu : Value} {lo hi : Option Int} {n : Nat} {Q : Int × Int × Nat → Shared → Prop} (hs : s.heap.IsSliceOf sl vl vu .none) (pl : IsPart vl lo) (pu : IsPart vu hi)
    (h : Q (((sIx n 0 lo : Nat) : Int), 1, sIx n n hi - sIx n 0 lo) s) : wpAny (model prog w) A (Builtin.Slice.sliceApplied (.ref sl) (pure (n : Int))) Q E s := by
  obtain ⟨os, hos, hcs, hds⟩ := id hs
  unfold Builtin.Slice.sliceApplied Builtin.Slice.sliceFields
  refine wpAny_bind (wpAny_bind (wpAny_field hos hds (x := vl) rfl (wpAny_bind (wpAny_field hos hds (x := vu) rfl (wpAny_bind (wpAny_field hos hds (x := .none) rfl (wpAny_pure ?_)))))))
  refine wpAny_bind (slicePart_none ?_)
  show wpAny _ _ (if ((1 : Int) == 0) = true then _ else _) _ _ s
  rw [if_neg (by decide)]
  refine wpAny_bind (slicePart_ pl (wpAny_bind (slicePart_ pu (wpAny_bind (wpAny_pure ?_)))))
  show wpAny _ _ (match Builtin.Slice.sliceAdjust lo hi 1 (n : Int) with | (lo, hi) => pure (lo, (1 : Int), Builtin.Slice.slicePlaces lo hi 1)) _ _ s
  rw [adjust_gen lo hi n]
  show wpAny _ _ (pure (((sIx n 0 lo : Nat) : Int), (1 : Int), Builtin.Slice.slicePlaces ((sIx n 0 lo : Nat) : Int) ((sIx n n hi : Nat) : Int) 1)) _ _ s
  rw [places_gen]
  exact wpAny_pure h
theorem pick_gen (xs : Array Value) (i k : Nat) : ((List.range k).filterMap fun (m : Nat) => xs[((i : Int) + (m : Int) * 1).toNat]?).toArray = ((xs.toList.drop i).take k).toArray := by
  have e : (fun (m : Nat) => xs[((i : Int) + (m : Int) * 1).toNat]?) = fun m => xs[i + m]? := by
    funext m
    have : ((i : Int) + (m : Int) * 1).toNat = i + m := by omega
    rw [this]
  rw [e]
  have := pick_run xs i k
  rw [List.filterMap_map] at this
  have e2 : ((fun x => xs[x]?) ∘ fun x => i + x) = fun m => xs[i + m]? := rfl
  rw [e2] at this
  rw [this]
theorem getItem_tuple_cut {t sl : Addr} {items : Array Value} {vl vu : Value} {lo hi : Option Int} {Q : Value → Shared → Prop} (ht : IsTup s.heap t items) (hs : s.heap.IsSliceOf sl vl vu .none) (pl : IsPart vl lo) (pu : IsPart vu hi)
    (hw : ¬ (sIx items.size 0 lo = 0 ∧ sIx items.size items.size hi = items.size))
    (h : Q (.ref s.heap.objs.size) { s with heap := s.heap.push { cls := .type "tuple", data := .seq ((items.toList.drop (sIx items.size 0 lo)).take (sIx items.size items.size hi - sIx items.size 0 lo)).toArray } })
    (hsz : items.size ≤ sizeLine) : wpAny (model prog w) A (getItem (.ref t) (.ref sl)) Q E s := by
  have htake : sizeOk (.seq ((items.toList.drop (sIx items.size 0 lo)).take (sIx items.size items.size hi - sIx items.size 0 lo)).toArray) := by
    show ((items.toList.drop (sIx items.size 0 lo)).take (sIx items.size items.size hi - sIx items.size 0 lo)).toArray.size ≤ sizeLine
    rw [List.size_toArray, List.length_take, List.length_drop, Array.length_toList]
    omega
  have hj : sIx items.size items.size hi ≤ items.size := sIx_le _ _ (Nat.le_refl _) hi
  obtain ⟨os, hos, hcs, hds⟩ := id hs
  have hTs : s.TypeIs (.ref sl) "slice" := ⟨os, hos, hcs⟩
  unfold getItem
  try with_reducible refine wpAny_holding ?_
  first | refine wpAny_bind (wpAny_pure ?_) | skip
  refine wpAny_bind (wpAny_sequenceKey ht.typeIs (by decide) ?_)
  refine wpAny_bind (wpAny_callSpecial?_slot (name := Str.ofString "__getitem__") ht.typeIs PyProof.Rows.slot_tuple_getitem
    (wpAny_call_entry PyProof.Rows.slot_tuple_getitem ht.typeIs entry_tuple_getitem ?_ (args_tuple_getitem _ _)))
  show wpAny _ _ (Builtin.Tuple.tupleItemsOf (.ref t) >>= _) _ _ s
  refine wpAny_bind (tupleItemsOf_ ht ?_)
  refine wpAny_bind (wpAny_typeOf hTs ?_)
  rw [if_pos (by decide)]
  refine wpAny_bind (sliceApplied_gen hs pl pu ?_)
  have hno : ¬ ((((sIx items.size 0 lo : Nat) : Int) == 0 && (1 : Int) == 1 && (sIx items.size items.size hi - sIx items.size 0 lo) == items.size) = true) := by
    intro q
    rw [Bool.and_eq_true, Bool.and_eq_true] at q
    have q1 : ((sIx items.size 0 lo : Nat) : Int) = 0 := eq_of_beq q.1.1
    have q2 : sIx items.size items.size hi - sIx items.size 0 lo = items.size := eq_of_beq q.2
    exact hw ⟨by omega, by omega⟩
  show wpAny _ _ (if (((sIx items.size 0 lo : Nat) : Int) == 0 && (1 : Int) == 1 && (sIx items.size items.size hi - sIx items.size 0 lo) == items.size) = true then _ else _) _ _ s
  rw [if_neg hno, pick_gen]
  first
    | exact wpAny_bind (m := Builtin.Tuple.tupleExact _) (wpAny_newObj_type (wpAny_pure ⟨_, rfl, wpAny_pure h⟩) htake)
    | exact wpAny_bind (m := Builtin.Tuple.tupleExact _) (wpAny_newObj_type (wpAny_bind (wpAny_pure (wpAny_pure ⟨_, rfl, wpAny_pure h⟩))) htake)
    | exact wpAny_bind (wpAny_bind (m := Builtin.Tuple.tupleExact _) (wpAny_newObj_type (wpAny_pure (wpAny_pure ⟨_, rfl, wpAny_pure h⟩)) htake))
    | exact wpAny_bind (wpAny_bind (m := Builtin.Tuple.tupleExact _) (wpAny_newObj_type (wpAny_pure ⟨_, rfl, wpAny_pure h⟩) htake))
end
end HT
namespace L2
open PySem PySem.Spec PyProof.Rows
abbrev TO := St → Hp → (Option Int → Hp → Prop) → Prop
def PO (X : Cx) (e : Option Expr) (t : TO) : Prop :=
  ∀ (pins : List (Addr × Obj)) (s : Shared) (σ : St) (H : Hp) (Q : Option Int → Hp → Prop), Inv X pins σ H s → t σ H Q →
    wpAny (model X.prog X.w) X.A (evalPart e X.env) (fun u s' => ∃ o H', Inv X pins σ H' s' ∧ IsPart u o ∧ Q o H') X.xe s
def tNoPart : TO := fun _ H Q => Q none H
def tPart (t : TE) : TO := fun σ H Q => t σ H fun x H1 => ∃ i, x = .int i ∧ Q (some i) H1
section
variable {X : Cx} {e : Expr} {te : TE} {lo hi : Option Expr} {tl th : TO} {pos p2 : Pos}
theorem po_none : PO X none tNoPart := by
  intro pins s σ H Q I h
  rw [evalPart_none]
  exact wpAny_pure ⟨none, H, I, .none, h⟩
theorem po_some (h : PE X e te) : PO X (some e) (tPart te) := by
  intro pins s σ H Q I hw
  rw [evalPart_some]
  refine thn (h pins s σ H _ I hw) fun u s1 ⟨x, H1, I1, r1, q1⟩ => ?_
  obtain ⟨i, rfl, q⟩ := q1
  obtain ⟨t, rfl⟩ := r1
  exact ⟨some i, H1, I1, .int i t, q⟩
def SlR (X : Cx) (r : V → Option Int → Option Int → Hp → VK → Prop) : Prop :=
  ∀ (pins : List (Addr × Obj)) (s : Shared) (σ : St) (H : Hp) (x : V) (v vl vu : Value) (lo hi : Option Int) (sl : Addr) (Q : VK), Inv X pins σ H s → RelV x v → s.heap.IsSliceOf sl vl vu .none → IsPart vl lo → IsPart vu hi → r x lo hi H Q →
    ∃ T id, typeLookup (.type T) "__getitem__" = pure (some (.builtin id)) ∧ s.TypeIs v T ∧ wpAny (model X.prog X.w) X.A (getItem v (.ref sl)) (EP X pins σ Q) X.xe s
def tSl (r : V → Option Int → Option Int → Hp → VK → Prop) (te : TE) (tl th : TO) : TE := fun σ H Q => te σ H fun x H1 => tl σ H1 fun l H2 => th σ H2 fun u H3 => r x l u H3 Q
theorem pe_slice {r : V → Option Int → Option Int → Hp → VK → Prop} (hr : SlR X r) (he : PE X e te) (hl : PO X lo tl) (hu : PO X hi th) : PE X (.Subscript e (.Slice lo hi none p2) pos) (tSl r te tl th) := by
  intro pins s σ H Q I h
  refine Subscript_ (thn (he pins s σ H _ I h) fun v s1 ⟨x, H1, I1, r1, q1⟩ => ?_)
  refine wpAny_Slice (thn (hl pins s1 σ H1 _ I1 q1) fun vl s2 ⟨l, H2, I2, pl, q2⟩ => thn (hu pins s2 σ H2 _ I2 q2) fun vu s3 ⟨u, H3, I3, pu, q3⟩ => ?_)
  rw [evalPart_none]
  refine wpAny_pure ?_
  have I4 : Inv X pins σ H3 { s3 with heap := s3.heap.push { cls := .type "slice", data := .fields #[vl, vu, .none] } } := I3.kept (t' := s3.toks) fun b ob q => Heap.get?_push_of_some _ q
  obtain ⟨T, id, hT, ht, hg⟩ := hr pins { s3 with heap := s3.heap.push { cls := .type "slice", data := .fields #[vl, vu, .none] } } σ H3 x v vl vu l u s3.heap.objs.size Q I4 r1 (Heap.IsSliceOf.new ..) pl pu q3
  show wpAny (model X.prog X.w) X.A (subscriptTail e (.Slice lo hi none p2) v (.ref s3.heap.objs.size)) (EP X pins σ Q) X.xe { s3 with heap := s3.heap.push { cls := .type "slice", data := .fields #[vl, vu, .none] } }
  exact tail_any (ops := [.ref s3.heap.objs.size, v]) ht hT hg (by with_unfolding_all rfl)
def cutV (xs : List V) (lo hi : Option Int) : List V := (xs.drop (HT.sIx xs.length 0 lo)).take (HT.sIx xs.length xs.length hi - HT.sIx xs.length 0 lo)
theorem cutV_length (xs : List V) (lo hi : Option Int) : (cutV xs lo hi).length ≤ xs.length := by
  unfold cutV
  rw [List.length_take, List.length_drop]
  omega
def rSlT (K : PySem.W.Frag) : V → Option Int → Option Int → Hp → VK → Prop := fun x lo hi H Q => ∃ a xs, x = .ref a ∧ SqT K H a xs ∧
  ¬ (HT.sIx xs.length 0 lo = 0 ∧ HT.sIx xs.length xs.length hi = xs.length) ∧ ∀ p, H p = none → Q (.ref p) (upd H p (.tup (cutV xs lo hi)))
theorem sl_tup : SlR X (rSlT X.K) := by
  intro pins s σ H x v vl vu lo hi sl Q I rx hs pl pu h
  obtain ⟨a, xs, rfl, hx, hw, q⟩ := h
  cases rx
  obtain ⟨its, r, ht, hz⟩ := I.tuple hx
  have hlen : its.toArray.size = xs.length := by rw [List.size_toArray]; exact r.length.symm
  refine ⟨"tuple", _, PyProof.Rows.slot_tuple_getitem.lookup, ht.typeIs, ?_⟩
  refine HT.getItem_tuple_cut ht hs pl pu (by rw [hlen]; exact hw) ?_ (by rw [hlen]; exact hz)
  rw [hlen]
  refine ⟨.ref s.heap.objs.size, _, I.laid (t' := s.toks) (o := .tup (cutV xs lo hi)) (fun b ob q => Heap.get?_push_of_some _ q) (Nat.le_refl _) ?_, rfl, q _ (I.hok.fresh (Nat.le_refl _))⟩
  exact ⟨Nat.le_trans (cutV_length xs lo hi) hz, _, (r.drop (HT.sIx xs.length 0 lo)).take (HT.sIx xs.length xs.length hi - HT.sIx xs.length 0 lo), TupO.new _ _⟩
def rCatT (K : PySem.W.Frag) : R2 := fun x y H Q => ∃ a b xs ys, x = .ref a ∧ y = .ref b ∧ SqT K H a xs ∧ SqT K H b ys ∧ xs ≠ [] ∧ xs.length + ys.length ≤ sizeLine ∧
  (ys = [] → Q (.ref a) H) ∧ (ys ≠ [] → ∀ p, H p = none → Q (.ref p) (upd H p (.tup (xs ++ ys))))
theorem Vals.nil_iff {xs : List V} {us : List Value} (r : Vals xs us) : us = [] ↔ xs = [] := by
  cases r with
  | nil => simp
  | cons _ _ => simp
theorem op_catT : OpR X (binaryOp .Add) (rCatT X.K) := by
  intro pins s σ H x y v u Q I rx ry h
  obtain ⟨a, b, xs, ys, rfl, rfl, ha, hb, hx, hz, q1, q2⟩ := h
  cases rx
  cases ry
  obtain ⟨its, r1, p1, _⟩ := I.tuple ha
  obtain ⟨its2, r2, p2, _⟩ := I.tuple hb
  refine HT.cat_tup p1 p2 (fun z => hx (r1.nil_iff.mp z)) (fun z => ⟨.ref a, H, I, rfl, q1 (r2.nil_iff.mp z)⟩) (fun z => ?_) (by rw [← r1.length, ← r2.length]; exact hz)
  refine ⟨.ref s.heap.objs.size, _, I.laid (t' := s.toks) (o := .tup (xs ++ ys)) (fun b ob q => Heap.get?_push_of_some _ q) (Nat.le_refl _) ?_, rfl, q2 (fun w => z (r2.nil_iff.mpr w)) _ (I.hok.fresh (Nat.le_refl _))⟩
  exact ⟨by rw [List.length_append]; exact hz, _, r1.append r2, TupO.new _ _⟩
end
end L2
namespace L2
open PySem PySem.Spec PyProof.Rows
def ixN (n : Nat) (i : Int) : Option Nat := if 0 ≤ i then (if i < n then some i.toNat else none) else if -(n : Int) ≤ i then some (i + n).toNat else none
def atI {α : Type} (xs : List α) (i : Int) : Option α := (ixN xs.length i).bind fun j => xs[j]?
theorem ixN_seq {n : Nat} {i : Int} {j : Nat} (h : ixN n i = some j) : seqIndex? i n = some j ∧ j < n ∧ -(n : Int) ≤ i ∧ i < n := by
  unfold ixN at h
  by_cases h0 : 0 ≤ i
  · rw [if_pos h0] at h
    by_cases h1 : i < n
    · rw [if_pos h1] at h
      have e : i.toNat = j := Option.some.inj h
      exact ⟨by rw [seqIndex_of h0 h1, e], by omega, by omega, h1⟩
    · rw [if_neg h1] at h; cases h
  · rw [if_neg h0] at h
    by_cases h1 : -(n : Int) ≤ i
    · rw [if_pos h1] at h
      have e : (i + n).toNat = j := Option.some.inj h
      exact ⟨by rw [seqIndex_neg (by omega) h1, e], by omega, h1, by omega⟩
    · rw [if_neg h1] at h; cases h
theorem atI_get {α : Type} {xs : List α} {i : Int} {v : α} (h : atI xs i = some v) : ∃ j, seqIndex? i xs.length = some j ∧ xs[j]? = some v ∧ j < xs.length ∧ -(xs.length : Int) ≤ i ∧ i < xs.length := by
  unfold atI at h
  cases e : ixN xs.length i with
  | none => rw [e] at h; cases h
  | some j =>
    rw [e] at h
    obtain ⟨h1, h2, h3, h4⟩ := ixN_seq e
    exact ⟨j, h1, h, h2, h3, h4⟩
theorem atI_nat {α : Type} {xs : List α} {j : Nat} {v : α} (h : xs[j]? = some v) : atI xs (j : Int) = some v := by
  have hj : j < xs.length := (List.getElem?_eq_some_iff.mp h).1
  have e : ixN xs.length (j : Int) = some j := by
    unfold ixN
    rw [if_pos (by omega), if_pos (by omega)]; simp
  unfold atI; rw [e]; exact h
def PlainIx (b : Expr) : Prop := ∀ o i, subscripted b false o i = operate [o, i] (getItem o i)
def IxR (X : Cx) (r : R2) : Prop :=
  ∀ (value slice : Expr) (pins : List (Addr × Obj)) (s : Shared) (σ : St) (H : Hp) (x y : V) (v u : Value) (Q : VK), Inv X pins σ H s → RelV x v → RelV y u → r x y H Q →
    subscripted slice false v u = operate [v, u] (getItem v u) → wpAny (model X.prog X.w) X.A (subscriptTail value slice v u) (EP X pins σ Q) X.xe s
def MtR (X : Cx) (id : String) (r : V → List V → Hp → VK → Prop) : Prop :=
  ∀ (pins : List (Addr × Obj)) (s : Shared) (σ : St) (H : Hp) (x : V) (xs : List V) (v : Value) (us : List Value) (Q : VK), Inv X pins σ H s → RelV x v → Vals xs us → r x xs H Q →
    wpAny (model X.prog X.w) X.A (call (.builtin id) (v :: us)) (EP X pins σ Q) X.xe s
section
variable {X : Cx} {a b : Expr} {ta tb : TE} {pos : Pos}
theorem pe_ix {r : R2} (hr : IxR X r) (ha : PE X a ta) (hb : PE X b tb) (hs : PlainIx b) : PE X (.Subscript a b pos) (tOp r ta tb) := by
  intro pins s σ H Q I h
  exact Subscript_ (binT ha hb I h fun v u s2 x y H2 I2 rx ry q => hr a b pins s2 σ H2 x y v u Q I2 rx ry q (hs _ _))
def rIxL (K : PySem.W.Frag) : R2 := fun x y H Q => ∃ p xs i v, x = .ref p ∧ y = .int i ∧ SqL K H p xs ∧ atI xs i = some v ∧ Q v H
def rIxT (K : PySem.W.Frag) : R2 := fun x y H Q => ∃ p xs i v, x = .ref p ∧ y = .int i ∧ SqT K H p xs ∧ atI xs i = some v ∧ Q v H
def rIxS : R2 := fun x y H Q => ∃ z i c, x = .str z ∧ y = .int i ∧ z.length ≤ sizeLine ∧ atI z.cps.toList i = some c ∧ Q (.str ⟨#[c]⟩) H
theorem ix_list : IxR X (rIxL X.K) := by
  intro value slice pins s σ H x y v u Q I rx ry h hs
  obtain ⟨p, xs, i, z, rfl, rfl, hq, he, q⟩ := h
  cases rx
  obtain ⟨t, rfl⟩ := ry
  obtain ⟨its, r, pl, hz⟩ := I.list hq
  obtain ⟨j, h1, h2, h3, h4, h5⟩ := atI_get he
  obtain ⟨w, ew, rw'⟩ := r.get h2
  have hl := r.length
  have hn := line63
  have fin : EP X pins σ Q w s := ⟨z, H, I, rw', q⟩
  by_cases h0 : 0 ≤ i
  · have hj : i.toNat = j := by
      rw [seqIndex_of h0 h5] at h1
      exact Option.some.inj h1
    exact item_listR pl.isList h0 (by omega) (by rw [hj]; simpa using ew) fin hs
  · have hj : (i + (its.toArray.size : Int)).toNat = j := by
      rw [seqIndex_neg (by omega) h4] at h1
      rw [List.size_toArray, ← hl]
      exact Option.some.inj h1
    exact subscriptTail_builtinR (x := w) pl.isList.typeIs slot_list_getitem.lookup
      (wpAny_getItem_list_neg (Q := fun r s' => r = w ∧ EP X pins σ Q r s') pl.isList (by omega) (by rw [List.size_toArray] <;> omega) (by omega) (by rw [hj]; simpa using ew) ⟨rfl, fin⟩) hs
theorem ix_tup : IxR X (rIxT X.K) := by
  intro value slice pins s σ H x y v u Q I rx ry h hs
  obtain ⟨p, xs, i, z, rfl, rfl, hq, he, q⟩ := h
  cases rx
  obtain ⟨t, rfl⟩ := ry
  obtain ⟨its, r, pl, hz⟩ := I.tuple hq
  obtain ⟨j, h1, h2, h3, h4, h5⟩ := atI_get he
  obtain ⟨w, ew, rw'⟩ := r.get h2
  have hl := r.length
  have hn := line63
  have fin : EP X pins σ Q w s := ⟨z, H, I, rw', q⟩
  exact subscriptTail_builtinR (x := w) pl.typeIs slot_tuple_getitem.lookup
    (getItem_tuple (j := j) (Q := fun r s' => r = w ∧ EP X pins σ Q r s') pl (by omega) (by omega) (by rw [List.size_toArray, ← hl]; exact h1) (by simpa using ew) ⟨rfl, fin⟩) hs
theorem ix_str : IxR X rIxS := by
  intro value slice pins s σ H x y v u Q I rx ry h hs
  obtain ⟨z, i, c, rfl, rfl, hz, he, q⟩ := h
  obtain ⟨t, rfl⟩ := rx
  obtain ⟨t', rfl⟩ := ry
  obtain ⟨j, h1, h2, h3, h4, h5⟩ := atI_get he
  have hl : z.cps.toList.length = z.length := by simp [Str.length]
  rw [hl] at h1 h4 h5
  have hn := line63
  exact tail_any (typeIs_str s z t) slot_str_getitem.lookup (getItem_str (c := c) (by
    have e1 : decide (i < -(2 ^ 63 : Int)) = false := decide_eq_false (by omega)
    have e2 : decide (i ≥ 2 ^ 63) = false := decide_eq_false (by omega)
    rw [e1, e2, Bool.or_false]) (by rw [h1]; simpa using h2) ⟨.str ⟨#[c]⟩, H, I.tok _, ⟨_, rfl⟩, q⟩) hs
theorem slice_bounds (lo hi : Option Int) (n : Nat) : (sliceBounds lo hi none n).1 = ((HT.sIx n 0 lo : Nat) : Int) ∧ (sliceBounds lo hi none n).2.1 = ((HT.sIx n n hi : Nat) : Int) ∧ (sliceBounds lo hi none n).2.2 = 1 := by
  refine ⟨?_, ?_, rfl⟩
  · cases lo with
    | none => simp [sliceBounds, HT.sIx]
    | some i =>
      simp only [sliceBounds, HT.sIx, Option.getD_none, show (1 : Int) > 0 by decide, if_true]
      by_cases h : i < 0
      · simp only [h, if_true] <;> omega
      · simp only [h, if_false] <;> omega
  · cases hi with
    | none => simp [sliceBounds, HT.sIx]
    | some i =>
      simp only [sliceBounds, HT.sIx, Option.getD_none, show (1 : Int) > 0 by decide, if_true]
      by_cases h : i < 0
      · simp only [h, if_true] <;> omega
      · simp only [h, if_false] <;> omega
theorem slicePick_cut (its : List Value) (lo hi : Option Int) : slicePick its.toArray lo hi none = ((its.drop (HT.sIx its.length 0 lo)).take (HT.sIx its.length its.length hi - HT.sIx its.length 0 lo)).toArray := by
  obtain ⟨h1, h2, h3⟩ := slice_bounds lo hi its.toArray.size
  unfold slicePick
  rw [h1, h2, h3]
  simp only [sliceRange_one, pick_run, List.size_toArray] <;> rfl
def rSlL (K : PySem.W.Frag) : V → Option Int → Option Int → Hp → VK → Prop := fun x lo hi H Q => ∃ a xs, x = .ref a ∧ SqL K H a xs ∧ ∀ p, H p = none → Q (.ref p) (upd H p (.lst (cutV xs lo hi)))
theorem sl_list : SlR X (rSlL X.K) := by
  intro pins s σ H x v vl vu lo hi sl Q I rx hs pl pu h
  obtain ⟨a, xs, rfl, hx, q⟩ := h
  cases rx
  obtain ⟨its, r, ht, hz⟩ := I.list hx
  have hlen := r.length
  refine ⟨"list", _, slot_list_getitem.lookup, ht.isList.typeIs, ?_⟩
  refine wpAny_getItem_list_slice ht.isList hs pl pu .none (by simp) ?_ (by rw [List.size_toArray] <;> omega)
  rw [slicePick_cut, ← hlen]
  refine ⟨.ref s.heap.objs.size, _, I.laid (t' := s.toks) (o := .lst (cutV xs lo hi)) (fun b ob q => Heap.get?_push_of_some _ q) (Nat.le_refl _) ?_, rfl, q _ (I.hok.fresh (Nat.le_refl _))⟩
  exact ⟨Nat.le_trans (cutV_length xs lo hi) hz, _, 0, (r.drop (HT.sIx xs.length 0 lo)).take (HT.sIx xs.length xs.length hi - HT.sIx xs.length 0 lo), Heap.get?_push_size _ rfl⟩
theorem call_tuple_of : CallR X (.type "tuple") (fun xs H Q => ∃ p ys, xs = [.ref p] ∧ ((SqL X.K H p ys ∧ ∀ l, H l = none → Q (.ref l) (upd H l (.tup ys))) ∨ (SqT X.K H p ys ∧ Q (.ref p) H))) := by
  intro pins s σ H xs us Q I r h
  obtain ⟨p, ys, rfl, h⟩ := h
  obtain ⟨u, rfl, rx⟩ := vals1 r
  cases rx
  rcases h with ⟨hq, q⟩ | ⟨hq, q⟩
  · obtain ⟨its, r', pl, hz⟩ := I.list hq
    have hlen := r'.length
    refine call_tuple_list pl.isList (fun h' kp => ?_) (by simp only [List.size_toArray] <;> omega)
    have I1 : Inv X pins σ H { s with heap := h' } := I.kept (t' := s.toks) kp
    have I2 : Inv X pins σ (upd H h'.objs.size (.tup ys)) { s with heap := h'.push { cls := .type "tuple", data := .seq its.toArray } } :=
      I1.laid (t' := s.toks) (fun b o e => Heap.get?_push_of_some _ e) (Nat.le_refl _) (show ObjOk X.prog X.w _ _ _ (.tup ys) from ⟨hz, its, r', TupO.new _ _⟩)
    exact ⟨.ref h'.objs.size, _, I2, rfl, q _ (I1.hok.fresh (Nat.le_refl _))⟩
  · obtain ⟨its, r', pl, hz⟩ := I.tuple hq
    exact call_tuple_same pl ⟨.ref p, H, I, rfl, q⟩
def tyV (K : PySem.W.Frag) (T : String) (x : V) (H : Hp) : Prop := match x with
  | .str _ => T = "str"
  | .int _ => T = "int"
  | .ref p => (T = "list" ∧ ∃ xs, SqL K H p xs) ∨ (T = "tuple" ∧ ∃ o, K.lookup p = some o ∧ o.cls = .type "tuple" ∧ o.dict = none) ∨
      (T = "dict" ∧ ((∃ kvs, H p = some (.dK kvs)) ∨ ∃ kvs, H p = some (.dT kvs))) ∨ (T = "set" ∧ ∃ S n, H p = some (.set S n))
  | _ => False
theorem tyV_is {pins : List (Addr × Obj)} {σ : St} {H : Hp} {s : Shared} {T : String} {x : V} {v : Value} (I : Inv X pins σ H s) (r : RelV x v) (ty : tyV X.K T x H) :
    s.TypeIs v T ∧ ∀ a, v = .ref a → ∃ ob, s.heap.get? a = some ob ∧ ob.dict = none := by
  cases x with
  | str z =>
    obtain ⟨t, rfl⟩ := r
    cases (show T = "str" from ty)
    exact ⟨typeIs_str s z t, fun _ e => nomatch e⟩
  | int i =>
    obtain ⟨t, rfl⟩ := r
    cases (show T = "int" from ty)
    exact ⟨typeIs_int s i t, fun _ e => nomatch e⟩
  | ref p =>
    cases r
    rcases ty with ⟨rfl, xs, hq⟩ | ⟨rfl, o, hk, hc, hd⟩ | ⟨rfl, hk⟩ | ⟨rfl, S, n, hk⟩
    · obtain ⟨its, _, pl, _⟩ := I.list hq
      refine ⟨pl.isList.typeIs, fun a e => ?_⟩
      cases e
      obtain ⟨o, n, e, c, hd, _⟩ := pl
      exact ⟨o, e, hd⟩
    · refine ⟨⟨o, I.kIn p o hk, hc⟩, fun a e => ?_⟩
      cases e
      exact ⟨o, I.kIn _ o hk, hd⟩
    · have z : ∃ o, s.heap.get? p = some o ∧ o.ExactDict := by
        rcases hk with ⟨kvs, hk⟩ | ⟨kvs, hk⟩
        · obtain ⟨_, _, _, _, o, _, _, e, ex, _⟩ := I.hok p _ hk
          exact ⟨o, e, ex⟩
        · obtain ⟨_, _, _, _, o, _, _, e, ex, _⟩ := I.hok p _ hk
          exact ⟨o, e, ex⟩
      obtain ⟨o, e, ex⟩ := z
      refine ⟨⟨o, e, ex.1⟩, fun a e2 => ?_⟩
      cases e2
      exact ⟨o, e, ex.2.1⟩
    · obtain ⟨o, _, _, _, e, ex, _⟩ := I.hok p _ hk
      refine ⟨⟨o, e, ex.1⟩, fun a e2 => ?_⟩
      cases e2
      exact ⟨o, e, ex.2.1⟩
  | _ => exact False.elim ty
def tBM0 (K : PySem.W.Frag) (T : String) (r : V → List V → Hp → VK → Prop) (to : TE) : TE := fun σ H Q => to σ H fun x H1 => tyV K T x H1 ∧ r x [] H1 Q
def tBM (K : PySem.W.Frag) (T : String) (r : V → List V → Hp → VK → Prop) (to : TE) (t : TA) : TE := fun σ H Q => to σ H fun x H1 => tyV K T x H1 ∧ t σ H1 fun xs H2 => r x xs H2 Q
variable {o e : Expr} {es : List Expr} {to : TE} {t : TA} {name : Str} {apos cpos : Pos} {T id : String} {r : V → List V → Hp → VK → Prop}
theorem pe_bm0 (pa : PlainAttrs T) (slot : Slot T name id) (hty : typeOf (.builtin id) = pure (.type "method_descriptor")) (hm : MtR X id r) (ho : PE X o to)
    (hbase : attributeBase o name X.env (eval o X.env) = eval o X.env := by rfl) (hline : (apos.endLine == cpos.line) = true := by rfl) : PE X (.Call (.Attribute o name apos) [] [] cpos) (tBM0 X.K T r to) := by
  intro pins s σ H Q I h
  refine wpAny_Call_method0_late hbase hline (thn (ho pins s σ H _ I h) fun v s1 ⟨x, H1, I1, r1, ty, q1⟩ => ?_)
  obtain ⟨h1, h2⟩ := tyV_is I1 r1 ty
  exact ⟨T, id, pa, slot, hty, h1, h2, Calls.callWith_builtin rfl (PySem.evalArgs_none (hm pins s1 σ H1 x [] v [] Q I1 r1 .nil q1))⟩
theorem pe_bm (pa : PlainAttrs T) (slot : Slot T name id) (hty : typeOf (.builtin id) = pure (.type "method_descriptor")) (hm : MtR X id r) (ho : PE X o to) (ha : PA X (e :: es) t)
    (hbase : attributeBase o name X.env (eval o X.env) = eval o X.env := by rfl)
    (hfew : ((backTo cpos (starEach (e :: es) X.env)).all (fun x => !x.1) && (backToKw cpos (keywordEach [] X.env)).all (fun x => x.1.isSome)
      && decide ((e :: es).length + ([] : List Keyword).length + (if ([] : List Keyword).isEmpty then 0 else 1) < 30)) = true := by rfl)
    (hline : (apos.endLine == cpos.line) = true := by rfl) (hs : starEach (e :: es) X.env = (false, eval e X.env) :: starEach es X.env := by rfl) (hplain : (backTo cpos (starEach es X.env)).any (·.1) = false := by rfl) :
    PE X (.Call (.Attribute o name apos) (e :: es) [] cpos) (tBM X.K T r to t) := by
  intro pins s σ H Q I h
  refine wpAny_Call_method_late hbase hfew hline rfl (thn (ho pins s σ H _ I h) fun v s1 ⟨x, H1, I1, r1, ty, q1⟩ => ?_)
  obtain ⟨h1, h2⟩ := tyV_is I1 r1 ty
  refine ⟨T, id, pa, slot, hty, h1, h2, ?_⟩
  have hA := ha cpos pins s1 σ H1 _ I1 q1
  rw [hs] at hA ⊢
  refine Calls.callWith_builtin (by show (false || (backTo cpos (starEach es X.env)).any (·.1)) = false; rw [hplain] <;> rfl) (Calls.evalArgs_plain ?_)
  exact thn hA fun us s2 ⟨vs, H2, I2, r2, q2⟩ => hm pins s2 σ H2 x vs v us Q I2 r1 r2 q2
end
end L2
namespace L2
open PySem PySem.Spec PyProof.Rows
def MtM (X : Cx) (id : String) (r : V → List V → Hp → VK → Prop) : Prop :=
  ∀ (pins : List (Addr × Obj)) (s : Shared) (σ : St) (H : Hp) (x : V) (xs : List V) (v : Value) (us : List Value) (Q : VK), Inv X pins σ H s → RelV x v → Vals xs us → r x xs H Q →
    wpAny (model X.prog X.w) X.A (call (.builtin id) (v :: us)) (EP X pins σ Q) X.xe s
theorem Vals.one : ∀ {x : V} {us : List Value}, Vals [x] us → ∃ u, us = [u] ∧ RelV x u
  | _, _, .cons r .nil => ⟨_, rfl, r⟩
section
variable {X : Cx} {pins : List (Addr × Obj)} {σ : St} {H : Hp} {s : Shared} {l b : Addr} {xs ys zs : List V}
theorem Inv.lset {its its' : List Value} {n : Nat} {f : Array Value → Array Value} {t' : Nat} (I : Inv X pins σ H s) (hH : H l = some (.lst xs))
    (e : s.heap.get? l = some { cls := .type "list", data := .seq its.toArray n }) (hf : f its.toArray = its'.toArray) (hv : Vals ys its') (hz : ys.length ≤ sizeLine) :
    Inv X pins σ (upd H l (.lst ys)) { s with heap := s.heap.update l (Obj.mapSeq f), toks := t' } := by
  have q := PySem.IsL.update e f
  rw [hf] at q
  refine I.write (x := l) (e := l) (by rw [hH]; exact trivial) (.inl rfl) (fun b' u hb hu => (Heap.get?_update_other s.heap (Obj.mapSeq f) (Ne.symm hb)).trans hu) ⟨_, q⟩ ?_
  exact ⟨hz, its', _, hv, q⟩
theorem Inv.lnew {its : List Value} {t' : Nat} (I : Inv X pins σ H s) (hv : Vals ys its) (hz : ys.length ≤ sizeLine) :
    Inv X pins σ (upd H s.heap.objs.size (.lst ys)) { s with heap := s.heap.push { cls := .type "list", data := .seq its.toArray }, toks := t' } :=
  I.laid (fun _ _ q => Heap.get?_push_of_some _ q) (Nat.le_refl _) ⟨hz, its, 0, hv, Heap.get?_push_size _ rfl⟩
theorem Inv.fresh (I : Inv X pins σ H s) : H s.heap.objs.size = none := I.hok.fresh (Nat.le_refl _)
theorem Inv.lstM (I : Inv X pins σ H s) (hH : H l = some (.lst xs)) : xs.length ≤ sizeLine ∧ ∃ (its : List Value) (n : Nat), Vals xs its ∧ xs.length = its.length ∧ s.heap.get? l = some { cls := .type "list", data := .seq its.toArray n } := by
  obtain ⟨z, its, n, r, e⟩ := I.hok l _ hH
  exact ⟨z, its, n, r, r.length, e⟩
theorem notLongL {n : Nat} (h : n ≤ sizeLine) : Builtin.List.listTooLong n = false := by
  unfold Builtin.List.listTooLong
  exact decide_eq_false (by omega)
end
section
variable {X : Cx}
def rAppend : V → List V → Hp → VK → Prop := fun x vs H Q => ∃ l xs y, x = .ref l ∧ vs = [y] ∧ H l = some (.lst xs) ∧ xs.length < sizeLine ∧ Q .non (upd H l (.lst (xs ++ [y])))
theorem mt_append : MtM X "list.append" rAppend := by
  intro pins s σ H x vs v us Q I rx rv h
  obtain ⟨l, xs, y, rfl, rfl, hH, hz, q⟩ := h
  cases rx
  obtain ⟨u, rfl, ru⟩ := rv.one
  obtain ⟨z, its, n, r, hl, e⟩ := I.lstM hH
  refine call_meets F.slot_list_append ⟨_, e, rfl⟩ F.entry_list_append (F.args_list_append_2 _ _) (PySem.list_append l its.toArray n u (by rw [List.size_toArray]; omega)) ⟨e, ?_⟩
  refine ⟨.non, _, I.lset (its' := its ++ [u]) hH e (by simp) (r.append (.cons ru .nil)) ?_, rfl, q⟩
  rw [List.length_append, List.length_singleton]
  omega
def rExtend : V → List V → Hp → VK → Prop := fun x vs H Q => ∃ l b xs zs, x = .ref l ∧ vs = [.ref b] ∧ H l = some (.lst xs) ∧ H b = some (.lst zs) ∧ xs.length + zs.length ≤ sizeLine ∧ Q .non (upd H l (.lst (xs ++ zs)))
theorem mt_extend : MtM X "list.extend" rExtend := by
  intro pins s σ H x vs v us Q I rx rv h
  obtain ⟨l, b, xs, zs, rfl, rfl, hH, hB, hz, q⟩ := h
  cases rx
  obtain ⟨u, rfl, ru⟩ := rv.one
  cases ru
  obtain ⟨z, its, n, r, hl, e⟩ := I.lstM hH
  obtain ⟨z2, its2, n2, r2, hl2, e2⟩ := I.lstM hB
  have hsz : its.toArray.size + its2.toArray.size ≤ sizeLine := by rw [List.size_toArray, List.size_toArray]; omega
  have hlong : ¬ (!its.toArray.isEmpty && Builtin.List.listTooLong (its.toArray.size + its2.toArray.size)) = true := by
    rw [notLongL hsz, Bool.and_false]
    exact Bool.false_ne_true
  refine call_meets F.slot_list_extend ⟨_, e, rfl⟩ F.entry_list_extend (F.args_list_extend_2 _ _)
    (AutoSeq1.list_extend_list_list_0 l its.toArray n b its2.toArray n2 hlong (by rw [List.size_toArray]; omega) (by omega)) ⟨e, e2, ?_⟩
  refine ⟨.non, _, I.lset (its' := its ++ its2) hH e (by simp) (r.append r2) ?_, rfl, q⟩
  rw [List.length_append]
  omega
def rCat : R2 := fun x y H Q => ∃ l b xs zs, x = .ref l ∧ y = .ref b ∧ H l = some (.lst xs) ∧ H b = some (.lst zs) ∧ xs.length + zs.length ≤ sizeLine ∧ ∀ p, H p = none → Q (.ref p) (upd H p (.lst (xs ++ zs)))
theorem op_cat : OpR X (binaryOp .Add) rCat := by
  intro pins s σ H x y v u Q I rx ry h
  obtain ⟨l, b, xs, zs, rfl, rfl, hH, hB, hz, q⟩ := h
  cases rx
  cases ry
  obtain ⟨z, its, n, r, hl, e⟩ := I.lstM hH
  obtain ⟨z2, its2, n2, r2, hl2, e2⟩ := I.lstM hB
  refine PySem.P.add_list e e2 ?_ (by rw [List.size_toArray, List.size_toArray]; omega)
  have ea : its.toArray ++ its2.toArray = (its ++ its2).toArray := by simp
  rw [ea]
  exact ⟨.ref _, _, I.lnew (t' := s.toks) (r.append r2) (by rw [List.length_append]; omega), rfl, q _ I.fresh⟩
end
section
variable {prog : Program} {w : World} {A : Around} {E : Value → Shared → Prop} {s : Shared}
end
section
variable {X : Cx}
end
end L2
namespace L2
open PySem PySem.Spec PyProof.Rows
section
variable {κ : Type} [DecidableEq κ]
def valV (kvs : List (κ × V)) (k : κ) : Option V := (kvs.find? fun kv => decide (kv.1 = k)).map (·.2)
def putK (kvs : List (κ × V)) (k : κ) (v : V) : List (κ × V) :=
  if (kvs.any fun kv => decide (kv.1 = k)) = true then kvs.map (fun kv => if kv.1 = k then (kv.1, v) else kv) else kvs ++ [(k, v)]
theorem valV_pos {p : κ × V} {r : List (κ × V)} {k : κ} (e : p.1 = k) : valV (p :: r) k = some p.2 := by simp [valV, List.find?_cons, e]
theorem valV_neg {p : κ × V} {r : List (κ × V)} {k : κ} (e : ¬ p.1 = k) : valV (p :: r) k = valV r k := by simp [valV, List.find?_cons, e]
theorem valV_any (k : κ) : ∀ kvs : List (κ × V), (kvs.any fun kv => decide (kv.1 = k)) = (valV kvs k).isSome
  | [] => rfl
  | p :: r => by
    rw [List.any_cons]
    by_cases e : p.1 = k
    · simp only [valV_pos e, decide_eq_true e, Bool.true_or, Option.isSome_some]
    · rw [valV_neg e, decide_eq_false e, Bool.false_or]; exact valV_any k r
theorem valV_map (k j : κ) (y : V) : ∀ kvs : List (κ × V), valV (kvs.map fun kv => if kv.1 = k then (kv.1, y) else kv) j = (valV kvs j).map fun x => if j = k then y else x
  | [] => rfl
  | p :: r => by
    have ih := valV_map k j y r
    rw [List.map_cons]
    by_cases h : p.1 = k
    · rw [if_pos h]
      by_cases e : p.1 = j
      · rw [valV_pos (p := (p.1, y)) e, valV_pos e, Option.map_some, if_pos (e.symm.trans h)]
      · rw [valV_neg (p := (p.1, y)) e, valV_neg e, ih]
    · rw [if_neg h]
      by_cases e : p.1 = j
      · rw [valV_pos (p := p) e, valV_pos e, Option.map_some, if_neg (fun z => h (e.trans z))]
      · rw [valV_neg (p := p) e, valV_neg e, ih]
theorem valV_snoc (k j : κ) (y : V) : ∀ kvs : List (κ × V), valV kvs k = none → valV (kvs ++ [(k, y)]) j = if j = k then some y else valV kvs j
  | [], _ => by
    by_cases e : k = j
    · rw [if_pos e.symm]; exact valV_pos (p := (k, y)) e
    · rw [if_neg (fun z => e z.symm)]; exact valV_neg (p := (k, y)) e
  | p :: r, hn => by
    rw [List.cons_append]
    have hk : ¬ p.1 = k := fun z => by rw [valV_pos z] at hn; cases hn
    rw [valV_neg hk] at hn
    have ih := valV_snoc k j y r hn
    by_cases e : p.1 = j
    · rw [valV_pos e, valV_pos e, if_neg (fun z => hk (e.trans z))]
    · rw [valV_neg e, valV_neg e, ih]
theorem valV_put (kvs : List (κ × V)) (k j : κ) (y : V) : valV (putK kvs k y) j = if j = k then some y else valV kvs j := by
  unfold putK
  by_cases a : (kvs.any fun kv => decide (kv.1 = k)) = true
  · rw [if_pos a, valV_map]
    rw [valV_any] at a
    by_cases e : j = k
    · obtain ⟨x, hx⟩ := Option.isSome_iff_exists.mp a
      rw [if_pos e, e, hx, Option.map_some, if_pos rfl]
    · rw [if_neg e]
      cases valV kvs j with
      | none => rfl
      | some x => rw [Option.map_some, if_neg e]
  · rw [if_neg a]
    refine valV_snoc k j y kvs ?_
    rw [valV_any] at a
    cases q : valV kvs k with
    | none => rfl
    | some x => rw [q] at a; exact (a rfl).elim
theorem length_putK (kvs : List (κ × V)) (k : κ) (v : V) : (putK kvs k v).length ≤ kvs.length + 1 := by
  unfold putK
  split
  · rw [List.length_map]; omega
  · rw [List.length_append, List.length_cons, List.length_nil]; omega
theorem putK_new {kvs : List (κ × V)} {k : κ} (v : V) (h : valV kvs k = none) : putK kvs k v = kvs ++ [(k, v)] := by
  unfold putK
  rw [valV_any, h]
  exact if_neg (by decide)
theorem RelO.isSome_eq {o : Option V} {u : Option Value} (r : RelO o u) : o.isSome = u.isSome := by
  cases o with
  | none => cases u with
    | none => rfl
    | some _ => exact (show False from r).elim
  | some _ => cases u with
    | none => exact (show False from r).elim
    | some _ => rfl
theorem KV.val {kvs : List (κ × V)} {vs : List (κ × Value)} (r : KV kvs vs) (k : κ) : RelO (valV kvs k) (valueAt vs k) := by
  unfold KV at r
  induction r with
  | nil => exact True.intro
  | @cons p q ps qs h t ih =>
    obtain ⟨h1, h2⟩ := h
    by_cases e : p.1 = k
    · have e' : q.1 = k := h1.symm.trans e
      have b : valueAt (q :: qs) k = some q.2 := by simp [valueAt, List.find?_cons, e']
      rw [valV_pos e, b]; exact h2
    · have e' : ¬ q.1 = k := fun z => e (h1.trans z)
      have b : valueAt (q :: qs) k = valueAt qs k := by simp [valueAt, List.find?_cons, e']
      rw [valV_neg e, b]; exact ih
theorem KV.any {kvs : List (κ × V)} {vs : List (κ × Value)} (r : KV kvs vs) (k : κ) : (kvs.any fun kv => decide (kv.1 = k)) = vs.any fun kv => decide (kv.1 = k) := by
  unfold KV at r
  induction r with
  | nil => rfl
  | cons h t ih => rw [List.any_cons, List.any_cons, ih, h.1]
theorem KV.repl {kvs : List (κ × V)} {vs : List (κ × Value)} (r : KV kvs vs) (k : κ) {y : V} {u : Value} (ry : RelV y u) :
    KV (kvs.map fun kv => if kv.1 = k then (kv.1, y) else kv) (vs.map fun kv => if kv.1 = k then (kv.1, u) else kv) := by
  unfold KV at r ⊢
  induction r with
  | nil => exact .nil
  | @cons p q ps qs h t ih =>
    rw [List.map_cons, List.map_cons]
    refine .cons ?_ ih
    obtain ⟨h1, h2⟩ := h
    by_cases e : p.1 = k
    · rw [if_pos e, if_pos (h1.symm.trans e)]; exact ⟨h1, ry⟩
    · rw [if_neg e, if_neg (fun z => e (h1.trans z))]; exact ⟨h1, h2⟩
theorem KV.put {kvs : List (κ × V)} {vs : List (κ × Value)} (r : KV kvs vs) (k : κ) {y : V} {u : Value} (ry : RelV y u) : KV (putK kvs k y) (stored vs k u) := by
  unfold putK stored
  rw [r.any k]
  by_cases e : (vs.any fun kv => decide (kv.1 = k)) = true
  · rw [if_pos e, if_pos e]; exact r.repl k ry
  · rw [if_neg e, if_neg e]; exact Paired.snoc r ⟨rfl, ry⟩
theorem KV.length {kvs : List (κ × V)} {vs : List (κ × Value)} (r : KV kvs vs) : kvs.length = vs.length := Paired.length r
end
theorem kV_is {P : Program} {w : World} {k : Key} {u : Value} (r : RelV (kV k) u) : (mixKind P w).is k u = true := by
  cases k with
  | inl i => obtain ⟨t, e⟩ := (show ∃ t, u = Value.int i t from r); subst e; exact mixKind_int P w i t
  | inr x => obtain ⟨t, e⟩ := (show ∃ t, u = Value.str x t from r); subst e; exact mixKind_str P w x t
theorem items_are {P : Program} {w : World} : ∀ {ks : List Key} {us : List Value}, Vals (ks.map kV) us → ItemsAre (mixKind P w) ks us
  | [], _, r => by rw [List.map_nil] at r; cases r; exact .nil
  | k :: ks, _, r => by
    rw [List.map_cons] at r
    cases r with
    | cons h t => exact .cons (kV_is h) (items_are t)
abbrev KT (H : Hp) : List (List Key × V) → List (List Key × Addr × Value) → Prop := Paired fun p q => p.1 = q.1 ∧ H q.2.1 = some (.tup (p.1.map kV)) ∧ RelV p.2 q.2.2
theorem KT.val {H : Hp} {kvs : List (List Key × V)} {xs : List (List Key × Addr × Value)} (r : KT H kvs xs) (k : List Key) : RelO (valV kvs k) ((atKey xs k).map (·.2)) := by
  induction r with
  | nil => exact True.intro
  | @cons p q ps qs h t ih =>
    obtain ⟨h1, _, h2⟩ := h
    by_cases e : p.1 = k
    · have e' : q.1 = k := h1.symm.trans e
      have b : atKey (q :: qs) k = some q.2 := by simp [atKey, List.find?_cons, e']
      rw [valV_pos e, b]; exact h2
    · have e' : ¬ q.1 = k := fun z => e (h1.trans z)
      have b : atKey (q :: qs) k = atKey qs k := by simp [atKey, List.find?_cons, e']
      rw [valV_neg e, b]; exact ih
theorem KT.repl {H : Hp} {kvs : List (List Key × V)} {xs : List (List Key × Addr × Value)} (r : KT H kvs xs) (k : List Key) {y : V} {u : Value} (ry : RelV y u) :
    KT H (kvs.map fun kv => if kv.1 = k then (kv.1, y) else kv) (xs.map (putAt k u)) := by
  induction r with
  | nil => exact .nil
  | @cons p q ps qs h t ih =>
    rw [List.map_cons, List.map_cons]
    refine .cons ?_ ih
    obtain ⟨h1, h2, h3⟩ := h
    unfold putAt
    by_cases e : p.1 = k
    · rw [if_pos e, if_pos (h1.symm.trans e)]; exact ⟨h1, h2, ry⟩
    · rw [if_neg e, if_neg (fun z => e (h1.trans z))]; exact ⟨h1, h2, h3⟩
theorem KT.put {H : Hp} {kvs : List (List Key × V)} {xs : List (List Key × Addr × Value)} (r : KT H kvs xs) (k : List Key) {b : Addr} {y : V} {u : Value} (hb : H b = some (.tup (k.map kV))) (ry : RelV y u) :
    KT H (putK kvs k y) (storedH xs k b u) := by
  have e : (kvs.any fun kv => decide (kv.1 = k)) = (atKey xs k).isSome := by
    rw [valV_any, (r.val k).isSome_eq, Option.isSome_map]
  unfold putK storedH
  rw [e]
  by_cases q : (atKey xs k).isSome = true
  · rw [if_pos q, if_pos q]; exact r.repl k ry
  · rw [if_neg q, if_neg q]; exact Paired.snoc r ⟨rfl, hb, ry⟩
theorem KT.keeps {H H' : Hp} {kvs : List (List Key × V)} {xs : List (List Key × Addr × Value)} (r : KT H kvs xs) (ht : ∀ b ys, H b = some (.tup ys) → H' b = some (.tup ys)) : KT H' kvs xs :=
  Paired.mapP r fun _ _ z => ⟨z.1, ht _ _ z.2.1, z.2.2⟩
section
variable {P : Program} {w : World} {H : Hp} {h : Heap} {a : Addr}
theorem rd_of {u : HO} (ok : HOk P w H h) (e : Rd H a u) : ObjOk P w H h a u := e.ok ok
theorem dk_rd {kvs : List (Key × V)} (ok : HOk P w H h) (e : Rd H a (.dK kvs)) : kvs.length ≤ sizeLine ∧ (a == sysModules) = false ∧ ∃ vs, KV kvs vs ∧ h.DictOf (mixKind P w) a vs :=
  show ObjOk P w H h a (.dK kvs) from rd_of ok e
theorem dk_of {kvs : List (Key × V)} (ok : HOk P w H h) (e : H a = some (.dK kvs)) : kvs.length ≤ sizeLine ∧ (a == sysModules) = false ∧ ∃ vs, KV kvs vs ∧ h.DictOf (mixKind P w) a vs := dk_rd ok (.inl e)
theorem key_of {ks : List Key} (ok : HOk P w H h) (e : H a = some (.tup (ks.map kV))) : (tupleKind (mixKind P w)).is h ks a := by
  obtain ⟨_, its, r, p⟩ := (show ObjOk P w H h a (.tup (ks.map kV)) from ok a _ e)
  obtain ⟨o, h1, h2, n, h3⟩ := p.is
  exact ⟨o, its.toArray, n, h1, h2, h3, by simpa using items_are r⟩
theorem dt_rd {kvs : List (List Key × V)} (ok : HOk P w H h) (e : Rd H a (.dT kvs)) : kvs.length ≤ sizeLine ∧ (a == sysModules) = false ∧
    ∃ xs, KT H kvs xs ∧ h.DictOfH (tupleKind (mixKind P w)) a xs := by
  obtain ⟨z, y, xs, r, o, es, ep, h1, h2, h3, h4, h5⟩ := (show ObjOk P w H h a (.dT kvs) from rd_of ok e)
  refine ⟨z, y, xs, r, o, es, ep, h1, h2, h3, h4, fun x hx => ?_, h5⟩
  have all : ∀ {l : List (List Key × V)} {m : List (List Key × Addr × Value)}, KT H l m → ∀ x ∈ m, (tupleKind (mixKind P w)).is h x.1 x.2.1 := by
    intro l m q
    induction q with
    | nil => intro x hx; exact nomatch hx
    | @cons p q ps qs hq t ih =>
      intro x hx
      rcases List.mem_cons.mp hx with e | hx
      · subst e
        exact key_of ok (by rw [← hq.1]; exact hq.2.1)
      · exact ih x hx
  exact all r x hx
theorem dt_of {kvs : List (List Key × V)} (ok : HOk P w H h) (e : H a = some (.dT kvs)) : kvs.length ≤ sizeLine ∧ (a == sysModules) = false ∧
    ∃ xs, KT H kvs xs ∧ h.DictOfH (tupleKind (mixKind P w)) a xs := dt_rd ok (.inl e)
end
def DGet (H : Hp) (a : Addr) (y : V) (r : Option V) : Prop :=
  (∃ kvs k, Rd H a (.dK kvs) ∧ y = kV k ∧ r = valV kvs k) ∨ ∃ kvs k b, Rd H a (.dT kvs) ∧ y = .ref b ∧ H b = some (.tup (k.map kV)) ∧ r = valV kvs k
def DPut (H : Hp) (a : Addr) (y v : V) (H' : Hp) : Prop :=
  (∃ kvs k, H a = some (.dK kvs) ∧ y = kV k ∧ kvs.length < sizeLine ∧ H' = upd H a (.dK (putK kvs k v))) ∨
  ∃ kvs k b, H a = some (.dT kvs) ∧ y = .ref b ∧ H b = some (.tup (k.map kV)) ∧ kvs.length < sizeLine ∧ H' = upd H a (.dT (putK kvs k v))
theorem DGet.k {H : Hp} {a : Addr} {kvs : List (Key × V)} {k : Key} (e : H a = some (.dK kvs)) : DGet H a (kV k) (valV kvs k) := .inl ⟨kvs, k, .inl e, rfl, rfl⟩
theorem DPut.k {H : Hp} {a : Addr} {kvs : List (Key × V)} {k : Key} {v : V} (e : H a = some (.dK kvs)) (hl : kvs.length < sizeLine) : DPut H a (kV k) v (upd H a (.dK (putK kvs k v))) := .inl ⟨kvs, k, e, rfl, hl, rfl⟩
section
variable {X : Cx} {pins : List (Addr × Obj)} {σ : St} {H : Hp} {s : Shared} {a : Addr} {y v : V} {u r : Value} {o : Option V} {A : Around} {E : Value → Shared → Prop}
theorem Inv.big (I : Inv X pins σ H s) : sysModules < s.heap.objs.size := by
  have h : mainGlobals < s.heap.objs.size := (I.mod.glob.keeps I.bk).lt
  exact Nat.lt_trans (by decide) h
theorem d_getItem {Q : Value → Shared → Prop} (hu : A.units + 1 < cLine) (I : Inv X pins σ H s) (g : DGet H a y (some v)) (ry : RelV y u) (h : ∀ w' s', Inv X pins σ H s' → RelV v w' → Q w' s') :
    wpAny (model X.prog X.w) A (getItem (.ref a) u) Q E s := by
  rcases g with ⟨kvs, k, e, ey, l⟩ | ⟨kvs, k, b, e, ey, eb, l⟩
  · subst ey
    obtain ⟨z, hd, vs, rel, dd⟩ := dk_rd I.hok e
    obtain ⟨w', hw, rw'⟩ := RelO.some_of (v := v) (o := valueAt vs k) (by rw [l]; exact rel.val k)
    exact wpAny_getItem_of (kV_is ry) dd.mapOf hw (h w' _ (I.tok _) rw')
  · subst ey
    cases (show u = Value.ref b from ry)
    obtain ⟨z, hd, xs, rel, dd⟩ := dt_rd I.hok e
    obtain ⟨w', hw, rw'⟩ := RelO.some_of (v := v) (o := (atKey xs k).map (·.2)) (by rw [l]; exact rel.val k)
    obtain ⟨p, hp, hp2⟩ := Option.map_eq_some_iff.mp hw
    refine wpAny_getItem_heap (tupleKind_room_in1 hu) (key_of I.hok eb) dd hp ?_
    rw [hp2]
    exact h w' _ (I.tok _) rw'
theorem d_notIn {Q : Value → Shared → Prop} (hu : A.units + 1 < cLine) (I : Inv X pins σ H s) (g : DGet H a y o) (ry : RelV y u) (h : ∀ s', Inv X pins σ H s' → Q (.bool (!o.isSome)) s') :
    wpAny (model X.prog X.w) A (compareOp .NotIn u (.ref a)) Q E s := by
  rcases g with ⟨kvs, k, e, ey, l⟩ | ⟨kvs, k, b, e, ey, eb, l⟩
  · subst ey
    obtain ⟨z, hd, vs, rel, dd⟩ := dk_rd I.hok e
    refine wpAny_notIn_of (kV_is ry) hd dd.mapOf ?_
    rw [← (rel.val k).isSome_eq, ← l]
    exact h _ (I.tok _)
  · subst ey
    cases (show u = Value.ref b from ry)
    obtain ⟨z, hd, xs, rel, dd⟩ := dt_rd I.hok e
    refine wpAny_notIn_heap (tupleKind_room_in1 hu) (key_of I.hok eb) hd dd ?_
    have q := (rel.val k).isSome_eq
    rw [Option.isSome_map] at q
    rw [← q, ← l]
    exact h _ (I.tok _)
theorem d_write {h' : Heap} {t' : Nat} {ob : HO} (I : Inv X pins σ H s) (mu : Mut (H a)) (hs : Heap.SameBut a s.heap h') (he : ∃ q, h'.get? a = some q) (new : ObjOk X.prog X.w (upd H a ob) h' a ob) :
    Inv X pins σ (upd H a ob) { s with heap := h', toks := t' } :=
  I.write (x := a) (e := a) mu (.inl rfl) (fun b q hb z => (hs.2 b hb).trans z) he new
theorem dk_new {P : Program} {w : World} {H' : Hp} {h' : Heap} {kvs : List (Key × V)} {vs : List (Key × Value)} (z : kvs.length ≤ sizeLine) (hd : (a == sysModules) = false) (rel : KV kvs vs) (dd : h'.DictOf (mixKind P w) a vs) :
    ObjOk P w H' h' a (.dK kvs) := ⟨z, hd, vs, rel, dd⟩
theorem d_setItem {H' : Hp} {Q : Unit → Shared → Prop} (hu : A.units + 1 < cLine) (I : Inv X pins σ H s) (g : DPut H a y v H') (ry : RelV y u) (rv : RelV v r) (h : ∀ s', Inv X pins σ H' s' → Q () s') :
    wpAny (model X.prog X.w) A (setItem (.ref a) u r) Q E s := by
  rcases g with ⟨kvs, k, e, ey, l, eH⟩ | ⟨kvs, k, b, e, ey, eb, l, eH⟩
  · subst ey eH
    obtain ⟨z, hd, vs, rel, dd⟩ := dk_of I.hok e
    have hz : vs.length ≤ sizeLine := by rw [← rel.length]; exact z
    have hl : (putK kvs k v).length ≤ sizeLine := by have := length_putK kvs k v; omega
    refine wpAny_setItem_pairs (hsz := hz) (kV_is ry) dd fun h' dd' hs => h _ ?_
    have he : ∃ q, h'.get? a = some q := let ⟨q, _, _, hq, _⟩ := dd'; ⟨q, hq⟩
    exact d_write I (by rw [e]; exact True.intro) hs he (dk_new hl hd (rel.put k rv) dd')
  · subst ey eH
    cases (show u = Value.ref b from ry)
    obtain ⟨z, hd, xs, rel, dd⟩ := dt_of I.hok e
    have hz : xs.length ≤ sizeLine := by rw [← Paired.length rel]; exact z
    have hl : (putK kvs k v).length ≤ sizeLine := by have := length_putK kvs k v; omega
    refine wpAny_setItem_heap (hsz := hz) (tupleKind_room_in1 hu) (key_of I.hok eb) dd fun h' dd' hs => h _ ?_
    obtain ⟨q, es, ep, hq, h2, h3, h4, _, h5⟩ := dd'
    refine d_write I (by rw [e]; exact True.intro) hs ⟨q, hq⟩ ⟨hl, hd, _, (rel.put k eb rv).keeps fun c ys ec => ?_, q, es, ep, hq, h2, h3, h4, h5⟩
    rw [upd_ne (ne_of ec e (fun z => nomatch z))]
    exact ec
end
section
variable {X : Cx} {pins : List (Addr × Obj)} {σ : St} {H : Hp} {s : Shared} {a : Addr} {kvs : List (Key × V)} {k : Key} {u : Value} {A : Around} {E : Value → Shared → Prop}
end
def NoSl (i : Expr) : Prop := ∀ ov iv, subscripted i false ov iv = operate [ov, iv] (getItem ov iv)
theorem subD_of {prog : Program} {w : World} {A : Around} {E : Value → Shared → Prop} {s : Shared} {env : Env} {value slice : Expr} {pos : Pos} {T id : String} {Q : Value → Shared → Prop}
    (hl : typeLookup (.type T) "__getitem__" = pure (some (.builtin id))) (hs : NoSl slice)
    (h : wpAny (model prog w) A (eval value env) (fun o s₁ => wpAny (model prog w) A (eval slice env) (fun i s₂ => s₂.TypeIs o T ∧ wpAny (model prog w) A (getItem o i) Q E s₂) E s₁) E s) :
    wpAny (model prog w) A (eval (.Subscript value slice pos) env) Q E s := by
  refine Subscript_ (wpAny_mono h (fun o s₁ h₁ => wpAny_mono h₁ (fun i s₂ h₂ => ?_) fun _ _ x => x) fun _ _ x => x)
  obtain ⟨hT, h₂⟩ := h₂
  unfold subscriptTail
  refine wpAny_bind ?_
  rw [getitemInPython_of_ne hT.not_modules]
  refine wpAny_bind (wpAny_specialOf hT hl ?_)
  have fin : wpAny (model prog w) A (subscripted slice false o i) (fun r s₃ => wpAny (model prog w) A (letTemporaryGo value o r >>= fun _ => pure r) Q E s₃) E s₂ := by
    rw [hs o i]
    exact wpAny_operating (wpAny_mono h₂ (fun r s₃ h₃ => wpAny_bind (wpAny_letTemporaryGo (wpAny_pure h₃))) fun _ _ x => x)
  first
    | exact wpAny_pure (wpAny_bind fin)
    | exact wpAny_bind (wpAny_pure (wpAny_bind fin))
    | exact wpAny_bind fin
theorem dict_typeIs {X : Cx} {pins : List (Addr × Obj)} {σ : St} {H : Hp} {s : Shared} {a : Addr} {y : V} {o : Option V} (I : Inv X pins σ H s) (g : DGet H a y o) : s.TypeIs (.ref a) "dict" := by
  rcases g with ⟨kvs, k, e, _, _⟩ | ⟨kvs, k, b, e, _, _, _⟩
  · obtain ⟨_, _, vs, _, dd⟩ := dk_rd I.hok e
    exact dd.typeIs
  · obtain ⟨_, _, xs, _, dd⟩ := dt_rd I.hok e
    exact dd.typeIs
def tDGet (td ty : TE) : TE := fun σ H Q => td σ H fun x H1 => ty σ H1 fun y H2 => ∃ a v, x = .ref a ∧ DGet H2 a y (some v) ∧ Q v H2
def tDNotIn (ty td : TE) : TE := fun σ H Q => ty σ H fun y H1 => td σ H1 fun x H2 => ∃ a o, x = .ref a ∧ DGet H2 a y o ∧ Q (.bl (!o.isSome)) H2
def sDPut (td ty tv : TE) : TS := fun D σ H => tv σ H fun v H1 => td σ H1 fun x H2 => ty σ H2 fun y H3 => ∃ a H4, x = .ref a ∧ DPut H3 a y v H4 ∧ D.nx σ H4
section
variable {X : Cx} {o i e value : Expr} {pos pos' tpos : Pos} {td ty tv : TE}
theorem pe_dget (hu : X.A.units + 1 < cLine) (ho : PE X o td) (hi : PE X i ty) (hs : NoSl i) : PE X (.Subscript o i pos) (tDGet td ty) := by
  intro pins s σ H Q I h
  refine subD_of PySem.F.slot_dict_getitem.lookup hs (thn (ho pins s σ H _ I h) fun u s1 ⟨x, H1, I1, rx, q1⟩ => thn (hi pins s1 σ H1 _ I1 q1) fun iv s2 ⟨y, H2, I2, ry, a, v, ex, g, q2⟩ => ?_)
  subst ex
  obtain rfl : u = Value.ref a := rx
  exact ⟨dict_typeIs I2 g, d_getItem hu I2 g ry fun w' s3 I3 rw' => ⟨v, H2, I3, rw', q2⟩⟩
theorem pc_dnotin (hu : X.A.units + 1 < cLine) (hi : PE X i ty) (ho : PE X o td) : PC X .NotIn i o (tDNotIn ty td) := by
  intro pins s σ H Q I h
  refine thn (hi pins s σ H _ I h) fun iv s1 ⟨y, H1, I1, ry, q1⟩ => thn (ho pins s1 σ H1 _ I1 q1) fun u s2 ⟨x, H2, I2, rx, a, ov, ex, g, q2⟩ => ?_
  subst ex
  obtain rfl : u = Value.ref a := rx
  exact d_notIn hu I2 g ry fun s3 I3 => ⟨.bl (!ov.isSome), H2, I3, rfl, q2⟩
theorem ps_dput (hu : X.A.units + 1 < cLine) (ho : PE X o td) (hi : PE X i ty) (hv : PE X value tv) (hs : swapsWith value (some (.Subscript o i pos')) pos.line X.env = pure false) :
    PS X (.Assign [.Subscript o i pos'] value pos) (sDPut td ty tv) := by
  intro pins s σ H D I h
  refine wpAny_Assign_Subscript (thn (hv pins s σ H _ I h) fun r s1 ⟨v, H1, I1, rv, q1⟩ => thn (ho pins s1 σ H1 _ I1 q1) fun u s2 ⟨x, H2, I2, rx, q2⟩ => thn (hi pins s2 σ H2 _ I2 q2) fun iv s3 ⟨y, H3, I3, ry, a, H4, ex, g, q3⟩ => ?_) hs
  subst ex
  obtain rfl : u = Value.ref a := rx
  exact d_setItem hu I3 g ry rv fun s4 I4 => ⟨σ, H4, I4, q3⟩
end
theorem dk_empty {P : Program} {w : World} {H : Hp} (h : Heap) (hb : sysModules < h.objs.size) : ObjOk P w H (h.push { cls := .type "dict", data := .dict #[] }) h.objs.size (.dK []) :=
  ⟨Nat.zero_le _, beq_eq_false_iff_ne.mpr (Ne.symm (Nat.ne_of_lt hb)), [], .nil, Heap.DictOf.new h⟩
def tDNewK : TE := fun _ H Q => ∀ p, H p = none → Q (.ref p) (upd H p (.dK []))
section
variable {X : Cx} {pos : Pos}
theorem pe_dnewK : PE X (.Dict [] [] pos) tDNewK := fun pins s σ H Q I h =>
  wpAny_Dict_empty ⟨.ref s.heap.objs.size, _, I.laid (a := s.heap.objs.size) (o := .dK []) (t' := s.toks) (fun _ _ q => Heap.get?_push_of_some _ q) (Nat.le_refl _) (dk_empty s.heap I.big), rfl, h _ (I.hok.fresh (Nat.le_refl _))⟩
end
section
variable {X : Cx} {pins : List (Addr × Obj)} {σ : St} {H : Hp} {s : Shared} {a : Addr} {y d : V} {u r : Value} {o : Option V} {A : Around} {E : Value → Shared → Prop}
end
section
variable {X : Cx} {o e f : Expr} {apos cpos : Pos} {td ty tx : TE}
end
section
variable {X : Cx} {pins : List (Addr × Obj)} {σ : St} {H : Hp} {s : Shared} {a : Addr} {kvs : List (Key × V)} {A : Around} {E : Value → Shared → Prop}
end
section
variable {X : Cx} {pins : List (Addr × Obj)} {σ : St} {H : Hp} {s : Shared} {a : Addr} {y : V} {u : Value} {A : Around} {E : Value → Shared → Prop}
end
end L2
namespace Att
open PySem PySem.W PySem.Calls PyProof.Rows
theorem ints_of_wellAll {P : Params} {h : Heap} : ∀ (ns : List Int) (vs : List Value), WellAll P h vs (ns.map WData.int) → IntsAre vs ns := by
  intro ns
  induction ns with
  | nil =>
    intro vs w
    rw [List.map_nil] at w
    cases w
    exact .nil
  | cons n ns ih =>
    intro vs w
    rw [List.map_cons] at w
    cases w with
    | cons a b =>
      cases a
      exact .cons _ _ (ih _ b)
theorem script_of {l : OpenLaw} {n : Nat} (hn : l.most = some n) {P : Params} {h : Heap} {args : List WData} {vals : List Value}
    (hpre : l.row.toRowW.claim.pre args = true) (hwl : WellAll P h vals args) :
    ∃ a vs ns, vals = [Value.ref a] ∧ args = [WData.list (ns.map WData.int)] ∧ h.get? a = some { cls := .type "list", data := .seq vs.toArray } ∧ IntsAre vs ns ∧ ns.length ≤ n := by
  have hsh : WShape.hasAll [] args [.list .int] = true := (pre_splitW hpre).1
  have hc : l.pre.holds [] { args := args } = true := (pre_splitW hpre).2
  obtain ⟨d, r, rfl, h1, h2⟩ := hasAllW_cons hsh
  obtain rfl := hasAllW_nil h2
  obtain ⟨xs, rfl, h3⟩ := hasW_list h1
  obtain ⟨ns, rfl⟩ := items_int h3
  have hlen : ns.length ≤ n := by
    unfold OpenLaw.pre at hc
    have h4 : (WTm.not (.lt (.lit (.int (n : Int))) (.len (.arg 0)))).holds [] { args := [.list (ns.map .int)] } = true := by
      have h4 := (holds_andW hc).1
      rw [hn] at h4
      exact h4
    have h5 := condW_of h4 (w_not (w_lt w_lit (w_len_list (w_arg rfl))))
    rw [List.length_map] at h5
    refine Nat.le_of_not_lt fun q => ?_
    have q' : (n : Int) < ((ns.length : Nat) : Int) := by omega
    first
      | (rw [decide_eq_true q'] at h5; exact absurd h5 (by decide))
      | (simp at h5; omega)
  cases hwl with
  | cons w1 w2 =>
    cases w2
    cases w1 with
    | list ho hall => exact ⟨_, _, ns, rfl, rfl, ho, ints_of_wellAll ns _ hall, hlen⟩
theorem post_true (l : OpenLaw) (args : List WData) : l.row.toRowW.claim.post args (.bool true) args = true :=
  postW_of (r := l.row.toRowW) (X := (true == true))
    (show WShape.has [] (.bool true) .bool = true by first | rfl | decide | simp [WShape.has, WShape.arms, WShape.armsAll])
    (show (WTm.eq .res (.lit (.bool true))).value [] { args := args, res := some (.bool true), after := args } = some (.bool (true == true)) from w_eq_bool (w_res rfl) w_lit) rfl
theorem attach_call {l : OpenLaw} {n : Nat} {q : Program} {loose : List Str} {XP : (Str → Option Value) → Heap → Prop} {YP : World → Heap → Prop} {d : DefRec}
    (hn : l.most = some n) (hdf : d.params.defaults = [])
    (call : ∀ (w : World) (s₀ s₁ : Shared) (mg mb : Str → Option Value) (fa : Addr) (o : Obj) (pm cd doc : Value) (a : Addr) (vs : List Value) (ns : List Int),
      Ground q loose [] XP w s₀ mg mb s₁.heap → YP w s₁.heap →
      s₁.heap.get? fa = some o → o.data = .func (docDef d.name d.params d.body d.scope pm cd doc) → s₁.heap.CodeRec cd d.name → mg d.name = some (.ref fa) →
      s₁.heap.get? a = some { cls := .type "list", data := .seq vs.toArray } → IntsAre vs ns → ns.length ≤ n → s₁.gens = #[] →
      codeAny (model l.prog w) callerA (.call (.ref fa) ⟨[.ref a], []⟩) (fun r s' => r = .ok (.ret (.bool true)) ∧ OldK s₁.heap s'.heap ∧ s'.os = s₁.os ∧ AllBare s'.gens) s₁) :
    WalkO q loose XP YP l.row.toRowW d [] (fun f vs => PySem.call f vs) := by
  intro w s₀ s₁ mg mb G Y fa o pm cd doc dV kV ho hd hcd hD hmg hg args vals as hpre hlay hrd hwl hlo
  obtain rfl : dV = .none := Dflts.none hD hdf
  obtain rfl : kV = .none := Dflts.noKw hD
  obtain ⟨a, vs, ns, rfl, rfl, hobj, hints, hlen⟩ := script_of hn hpre hwl
  refine enter_call (codeAny_mono (call w s₀ s₁ mg mb fa o pm cd doc a vs ns G Y ho (fd_plain hd) hcd hmg hobj hints hlen hg) fun r s' hq => ?_)
  obtain ⟨rfl, h2, h3, h4⟩ := hq
  exact ⟨.inl ⟨.bool true, .bool true, [], rfl, fun _ => rfl, .bool true, post_true l _, fun _ => ⟨List.Pairwise.nil, fun _ hm => (nomatch hm)⟩⟩, h2, h3, h4⟩
section
variable {prog : Program} {w : World} {A : Around} {E : Value → Shared → Prop} {s : Shared} {K : Frag}
end
end Att
namespace L2
open PySem PySem.Spec PyProof.Rows
theorem vals_ints : ∀ {vs : List Value} {ns : List Int}, IntsAre vs ns → Vals (ns.map V.int) vs
  | _, _, .nil => .nil
  | _, _, .cons n t h => .cons ⟨t, rfl⟩ (vals_ints h)
def Only (H : Hp) : Prop := ∀ b, H b = none ∨ ∃ o xs, H b = some (.frz o (.lst xs))
theorem law_call {P : Program} {w : World} {K : PySem.W.Frag} {mg mb : Str → Option Value} {CX : CXT} {k : Nat} {fa a : Addr} {fd : FuncData} {x : Str} {sp : Sp} {s₁ : Shared} {vs : List Value} {ns : List Int}
    (KX : K.In s₁.heap) (hns : s₁.heap.Ns mainGlobals mg) (hb : s₁.heap.Ns builtinsNs mb) (hbb : ∀ x : Str, x ≠ "__name__" → mb x = bootBuiltins x) (hlim : s₁.heap.NoLimit) (hg : s₁.gens = #[])
    (ha : s₁.heap.get? a = some { cls := .type "list", data := .seq vs.toArray }) (hi : IntsAre vs ns) (hl : ns.length ≤ sizeLine) (hr : Room k callerA)
    (F : ∀ base : Heap, K.In base → base.Ns mainGlobals mg → FnOk P w K mg base CX k fa fd [x] sp) (hbind : ∀ (s : Shared) (u : Value), BindsTo s fd ⟨[u], []⟩ [(x, u)])
    (hsp : ∀ H : Hp, Only H → SqL K H a (ns.map V.int) → sp [.ref a] H (fun v _ => v = .bl true) fun _ _ _ => False)
    (hCX : ∀ H e s', CX [] H s₁ (fun _ _ _ => False) e s' → False) :
    codeAny (model P w) callerA (.call (.ref fa) ⟨[.ref a], []⟩) (fun r s' => r = .ok (.ret (.bool true)) ∧ OldK s₁.heap s'.heap ∧ s'.os = s₁.os ∧ AllBare s'.gens) s₁ := by
  have rv := vals_ints hi
  have lenV := hi.length
  have core : ∀ H : Hp, Only H → SqL K H a (ns.map V.int) → HOk P w H s₁.heap → (∀ b, H b ≠ none → b = a) → (H a ≠ none → K.lookup a = none) →
      codeAny (model P w) callerA (.call (.ref fa) ⟨[.ref a], []⟩) (fun r s' => r = .ok (.ret (.bool true)) ∧ OldK s₁.heap s'.heap ∧ s'.os = s₁.os ∧ AllBare s'.gens) s₁ := by
    intro H hO hS hok hA hK
    have base_of : ∀ {b : Addr} {o : Obj}, s₁.heap.get? b = some o → H b = none → (hidT s₁.heap H).get? b = some o := fun e n => hidT_get e n
    have noA : ∀ {b : Addr} {o : Obj} {es : Array DictEntry} {ep : Nat}, s₁.heap.get? b = some o → o.data = .dict es ep → H b = none := fun {b o es ep} e d => by
      cases q : H b with
      | none => rfl
      | some u =>
        have e' : b = a := hA b (by rw [q]; simp)
        subst e'
        rw [ha] at e; cases e
        have d' : Data.seq vs.toArray _ = Data.dict es ep := d
        cases d'
    have nsK : ∀ {b : Addr} {m : Str → Option Value}, s₁.heap.Ns b m → (hidT s₁.heap H).Ns b m := fun {b m} ⟨o, es, ep, e, d, r⟩ => ⟨o, es, ep, base_of e (noA e d), d, r⟩
    have hKb : K.In (hidT s₁.heap H) := fun b o e => base_of (KX b o e) (by
      cases q : H b with
      | none => rfl
      | some u =>
        have e' : b = a := hA b (by rw [q]; simp)
        subst e'
        rw [hK (by rw [q]; simp)] at e; cases e)
    have hM : Mod K mg (hidT s₁.heap H) := ⟨hKb, nsK hns, ⟨mb, nsK hb, hbb⟩, let ⟨mc, h1, h2⟩ := hlim; ⟨mc, nsK h1, h2⟩⟩
    have e0 : Env0 P w K mg (hidT s₁.heap H) callerA [] s₁ H := ⟨rfl, hM, fun b o e => of_hidT e, Nat.le_of_eq (hidT_size _ _), trivial, fun b hb => absurd (show b ∈ ([] : List Addr) from hb) (by simp), hok, .of_eq hg⟩
    refine codeAny_mono ((F _ hKb (nsK hns)).run callerA [] s₁ H ⟨[.ref a], []⟩ [.ref a] [.ref a] _ _ hr e0 (hbind s₁ (.ref a)) (.cons rfl .nil) (hsp H hO hS)) fun r s' h => ?_
    cases r with
    | error e => exact (hCX H e s' h).elim
    | ok fl =>
      cases fl with
      | next => exact False.elim h
      | brk => exact False.elim h
      | cont => exact False.elim h
      | ret u =>
        obtain ⟨v, H', os, bare, un, hok', r', q⟩ := h
        have q' : v = .bl true := q
        subst q'
        obtain rfl : u = Value.bool true := r'
        refine ⟨rfl, OldK.of_keep fun b o e => ?_, os, bare⟩
        cases q : H b with
        | none => exact un.keep b o e q (by intro z; exact absurd (show b ∈ ([] : List Addr) from z) (by simp)) (by simp)
        | some u =>
          rcases hO b with z | ⟨ob, xs, z⟩
          · rw [q] at z; cases z
          · have z2 := un.frzs b ob _ z
            obtain ⟨e1, _⟩ := hok b _ z
            obtain ⟨e2, _⟩ := hok' b _ z2
            rw [e] at e1; cases e1
            exact e2
  cases hk : K.lookup a with
  | some o =>
    have e := KX a o hk
    rw [ha] at e
    cases e
    refine core (fun _ => none) (fun _ => .inl rfl) (.inr ⟨_, vs.toArray, _, hk, rfl, rfl, rfl, by rw [List.size_toArray, lenV]; exact hl, by simpa using rv⟩) (fun b u z => by have z' : (none : Option HO) = some u := z; cases z') (fun b z => absurd rfl z) fun z => absurd rfl z
  | none =>
    refine core (fun b => if b = a then some (.frz { cls := .type "list", data := .seq vs.toArray } (.lst (ns.map V.int))) else none) (fun b => ?_) (.inl (.inr ⟨{ cls := .type "list", data := .seq vs.toArray }, if_pos rfl⟩)) (fun b u z => ?_) (fun b z => ?_) fun _ => hk
    · by_cases hb : b = a
      · exact .inr ⟨_, _, if_pos hb⟩
      · exact .inl (if_neg hb)
    · by_cases hb : b = a
      · have z' := (if_pos hb).symm.trans z
        cases z'
        subst hb
        exact ⟨ha, by rw [List.length_map]; exact hl, vs, _, rv, ha⟩
      · have z' := (if_neg hb).symm.trans z
        cases z'
    · by_cases hb : b = a
      · exact hb
      · exact absurd (if_neg hb) z
end L2
namespace L2
open PySem PySem.Spec PyProof.Rows
theorem walk_of {l : PySem.W.OpenLaw} {n k : Nat} {q : Program} {loose : List Str} {XP : (Str → Option Value) → Heap → Prop} {YP : World → Heap → Prop} {d : DefRec} {K : Params → PySem.W.Frag} {CX : World → CXT} {sp : World → Sp} {x : Str}
    (hn : l.most = some n) (hn2 : n ≤ sizeLine) (hdf : d.params.defaults = []) (hr : Room k callerA)
    (hY : ∀ (w : World) (h : Heap), YP w h → (K w.params).In h)
    (F : ∀ (w : World) (mg : Str → Option Value) (fa : Addr) (h : Heap), (K w.params).In h → h.Ns mainGlobals mg → mg d.name = some (.ref fa) →
      ∃ fd : FuncData, (∀ (s : Shared) (u : Value), BindsTo s fd ⟨[u], []⟩ [(x, u)]) ∧
        ∀ base : Heap, (K w.params).In base → base.Ns mainGlobals mg → FnOk l.prog w (K w.params) mg base (CX w) k fa fd [x] (sp w))
    (hsp : ∀ (w : World) (H : Hp) (a : Addr) (ns : List Int), ns.length ≤ n → Only H → SqL (K w.params) H a (ns.map V.int) → sp w [.ref a] H (fun v _ => v = .bl true) fun _ _ _ => False)
    (hCX : ∀ (w : World) (H : Hp) (s : Shared) (e : Value) (s' : Shared), CX w [] H s (fun _ _ _ => False) e s' → False) :
    PySem.W.WalkO q loose XP YP l.row.toRowW d [] (fun f vs => PySem.call f vs) := by
  refine Att.attach_call hn hdf fun w s₀ s₁ mg mb fa o pm cd doc a vs ns G Y ho hd hcd hmg hobj hints hlen hg => ?_
  have KX := hY w _ Y
  obtain ⟨fd, hb, hF⟩ := F w mg fa _ KX G.T.g hmg
  exact law_call KX G.T.g G.T.b G.T.builtins G.T.nolimit hg hobj hints (Nat.le_trans hlen hn2) hr hF hb (fun H hO hS => hsp w H a ns hlen hO hS) fun H e s' => hCX w H s₁ e s'
end L2
namespace L2
open PySem PySem.Spec PyProof.Rows
def defArgs (s : Stmt) : Arguments := match s with
  | .FunctionDef _ a _ _ _ _ _ _ _ _ => a
  | _ => { posonlyargs := [], args := [], vararg := none, kwonlyargs := [], kw_defaults := [], kwarg := none, defaults := [] }
def defBody (s : Stmt) : List Stmt := match s with
  | .FunctionDef _ _ b _ _ _ _ _ _ _ => b
  | _ => []
def defScope (s : Stmt) : Scope := match s with
  | .FunctionDef _ _ _ _ _ _ sc _ _ _ => sc
  | _ => { kind := .function, names := [], isGenerator := false, isCoroutine := false }
abbrev CX0 : CXT := fun _ _ _ _ _ _ => False
abbrev E0 : XK := fun _ _ _ => False
theorem pass0 {X : Cx} : Passes CX0 X E0 := fun _ _ _ _ _ _ _ h => h.elim
structure Fun (K : PySem.W.Frag) (x qual : Str) (st : Stmt) (f : Addr) (fd : FuncData) : Prop where
  ex : ∃ (oc : Value) (od : Option Addr) (kV doc pm : Value) (an : Option Addr) (cdv ct : Value) (osl : Array (Option Value)),
    fd = PySem.W.fnOf x qual (defArgs st) (defBody st) (defScope st) .none kV doc pm an cdv ct ∧ K.lookup f = some ⟨oc, od, .func fd, osl⟩ ∧ PySem.W.codeIn K cdv qual = true
  kp : PySem.W.keepIn K (.ref f) = true
section
variable {P : Program} {w : World} {K : PySem.W.Frag} {mg : Str → Option Value} {base : Heap}
theorem Fun.ok {x qual : Str} {st : Stmt} {f : Addr} {fd : FuncData} {N ps : List Str} {k : Nat} {sp : Sp} (F : Fun K x qual st f fd) (S : FnScope N ps (defScope st)) (len : ∀ vs H Q E, sp vs H Q E → vs.length = ps.length)
    (hbody : ∀ (cdv : Value) (A : Around) (outer : List Env) (s : Shared) (H : Hp) (vs : List V) (Q : VK) (E : XK), Room k (A.deeper (envOfC qual (defScope st) s.heap.objs.size f cdv)) → sp vs H Q E →
      ∃ t, PSs (cxOf CX0 P w K mg base N qual (defScope st) f cdv A outer s H E).nox (defBody st) t ∧ t { nx := fun _ H' => Q .non H', rt := Q } (start N vs) H) : FnOk P w K mg base CX0 (k + 1) f fd ps sp := by
  obtain ⟨oc, od, kV, doc, pm, an, cdv, ct, osl, rfl, lk, hcd⟩ := F.ex
  refine fn_of lk hcd S len fun A outer s H vs Q E hr hsp => ?_
  obtain ⟨t, h, q⟩ := hbody cdv A outer s H vs Q E hr hsp
  exact ⟨t, h.nox, q⟩
theorem Fun.binds {x qual : Str} {st : Stmt} {f : Addr} {fd : FuncData} {ps : List Str} (F : Fun K x qual st f fd)
    (h : ∀ (kV doc pm : Value) (an : Option Addr) (cdv ct : Value) (us : List Value), us.length = ps.length → bindArgs (PySem.W.fnOf x qual (defArgs st) (defBody st) (defScope st) .none kV doc pm an cdv ct) ⟨us, []⟩ = pure (ps.zip us)) : Binds K fd ps [] := by
  obtain ⟨oc, od, kV, doc, pm, an, cdv, ct, osl, rfl, lk, hcd⟩ := F.ex
  exact .all (h kV doc pm an cdv ct)
theorem fun_mk {x qual : Str} {st : Stmt} {f : Addr} {oc : Value} {od an : Option Addr} {osl : Array (Option Value)} {kV doc pm cdv ct : Value} (l : K.lookup f = some ⟨oc, od, .func (PySem.W.fnOf x qual (defArgs st) (defBody st) (defScope st) .none kV doc pm an cdv ct), osl⟩)
    (c : PySem.W.codeIn K cdv qual = true) (k : PySem.W.keepIn K (.ref f) = true) : Fun K x qual st f (PySem.W.fnOf x qual (defArgs st) (defBody st) (defScope st) .none kV doc pm an cdv ct) := ⟨⟨oc, od, kV, doc, pm, an, cdv, ct, osl, rfl, l, c⟩, k⟩
end
theorem hu_of {A : Around} {k : Nat} (hr : Room k A) : A.units + 1 < cLine := Nat.lt_of_le_of_lt (Nat.add_le_add_left (by decide : 1 ≤ 64) _) hr.units
theorem small1000 {n : Nat} (h : n ≤ 1000) : n < sizeLine := Nat.lt_of_le_of_lt h (by decide)
section
variable {X : Cx}
theorem pv (i : Nat) {x : Str} {pos : Pos} (hN : X.N[i]? = some x := by rfl) (hv : Vis X.env.scope x := by first | exact Or.inl rfl | exact Or.inr (Or.inl rfl) | exact Or.inr (Or.inr rfl)) (hd : (x == ("__debug__" : Str)) = false := by decide)
    (hcd : (x == ("__classdict__" : Str)) = false := by decide) : PE X (.Name x pos) (tVar i) := pe_var hN hv hd hcd
end
theorem iteF {A B : Prop} (h : B) : if false = true then A else B := by
  rw [if_neg Bool.false_ne_true]
  exact h
theorem iteT {A B : Prop} (h : A) : if true = true then A else B := by
  rw [if_pos rfl]
  exact h
theorem ite2 {c A B : Prop} [Decidable c] (h1 : c → A) (h2 : ¬ c → B) : if c then A else B := by
  by_cases h : c
  · rw [if_pos h]
    exact h1 h
  · rw [if_neg h]
    exact h2 h
def Same (H H' : Hp) : Prop := ∀ b o, H b = some o → H' b = some o
theorem Same.refl (H : Hp) : Same H H := fun _ _ h => h
theorem Same.trans {H H1 H2 : Hp} (a : Same H H1) (b : Same H1 H2) : Same H H2 := fun c o h => b c o (a c o h)
theorem Same.free {H H' : Hp} (e : Same H H') {l : Addr} (h : H' l = Option.none) : H l = Option.none := by
  cases q : H l with
  | none => rfl
  | some o =>
    rw [e l o q] at h
    cases h
section
variable {κ : Type} [DecidableEq κ]
end
end L2
namespace PySem
open Sem (wp)
namespace ZL
abbrev IsZipG (h : Heap) (z TI TO : Addr) (f0 f1 : Value) : Prop :=
  h.get? z = some { cls := .type "zip", dict := none, data := .fields #[f0, f1, .bool false, .ref TI, .ref TO], slots := #[] }
section
variable {prog : Program} {w : World} {A : Around} {E : Value → Shared → Prop} {s : Shared}
theorem zip_next_more {z TI TO i1 i2 l1 l2 T : Addr} {oT : Obj} {bb : Bool} {k1 k2 : Nat} {xs ys : Array Value} {x y : Value} {Q : Value → Shared → Prop} (D : ZipApart z TI TO i1 i2 l1 l2)
    (hz : IsZipG s.heap z TI TO (rawInt T) (.bool bb)) (hT : s.heap.get? T = some oT) (hTz : T ≠ z) (hTI : IsPair s.heap TI (.ref i1) (.ref i2))
    (h1 : s.heap.IsListIter i1 l1 k1) (h2 : s.heap.IsListIter i2 l2 k2) (hl1 : s.heap.IsList l1 xs) (hl2 : s.heap.IsList l2 ys) (hx : xs[k1]? = some x) (hy : ys[k2]? = some y)
    (hQ : ∀ h', IsZipG h' z TI TO (rawInt T) (.bool true) → h'.IsListIter i1 l1 (k1 + 1) → h'.IsListIter i2 l2 (k2 + 1) → IsPair h' s.heap.objs.size x y → h'.objs.size = s.heap.objs.size + 1 →
      (∀ c o, c ≠ z → c ≠ i1 → c ≠ i2 → s.heap.get? c = some o → h'.get? c = some o) → Q (.ref s.heap.objs.size) { s with heap := h' }) :
    wpAny (model prog w) A (Builtin.«zip.__next__» ⟨[.ref z], []⟩) (fun fin s' => ∃ v, fin = .done (.ret v) ∧ Q v s') E s := by
  show wpAny _ _ (field (.ref z) 2 >>= _) _ _ _
  refine wpAny_bind (wpAny_field hz rfl (x := .bool false) rfl ?_)
  show wpAny _ _ (field (.ref z) 3 >>= _) _ _ _
  refine wpAny_bind (wpAny_field hz rfl (x := .ref TI) rfl ?_)
  refine wpAny_bind (wpAny_seqItems hTI rfl ?_)
  show wpAny _ _ (Builtin.SmallTypes.ownedTupleIsFree (.ref z) >>= _) _ _ _
  have first : wpAny (model prog w) A (Builtin.SmallTypes.ownedTupleIsFree (.ref z)) (fun b s' => b = false ∧ ∃ h₁, s' = { s with heap := h₁ } ∧ IsZipG h₁ z TI TO (rawInt T) (.bool true) ∧ Heap.SameBut z s.heap h₁) E s := by
    unfold Builtin.SmallTypes.ownedTupleIsFree
    refine wpAny_bind (wpAny_field hz rfl (x := rawInt T) rfl ?_)
    show wpAny _ _ (loadIfAlive ((T : Int)).toNat >>= _) _ _ _
    have la : ∀ {R : Option Obj → Shared → Prop}, R (some oT) s → wpAny (model prog w) A (loadIfAlive ((T : Int)).toNat) R E s := fun {R} h => by
      intro Γ p _
      unfold loadIfAlive
      rw [Sem.wp_loadIfAlive, Int.toNat_natCast, hT]
      exact h
    refine wpAny_bind (la ?_)
    rw [if_neg (by simp)]
    refine wpAny_bind (wpAny_field hz rfl (x := .bool bb) rfl ?_)
    cases bb with
    | true => exact wpAny_pure ⟨rfl, s.heap, rfl, hz, .refl ..⟩
    | false =>
      show wpAny _ _ (setField (.ref z) 1 (.bool true) >>= _) _ _ _
      exact wpAny_bind (wpAny_setField_rec hz (by simp) fun h₁ hz₁ hs₁ => wpAny_pure ⟨rfl, h₁, rfl, hz₁, hs₁⟩)
  refine wpAny_bind (wpAny_mono first (fun b s' hb => ?_) fun _ _ e => e)
  obtain ⟨rfl, h₁, rfl, hz₁, hs₁⟩ := hb
  show wpAny _ _ (forIn _ _ _ >>= _) _ _ _
  refine wpAny_bind ?_
  rw [← Array.forIn_toList]
  simp only [List.forIn_cons, List.forIn_nil]
  refine wpAny_bind (wpAny_bind (wpAny_holding ?_))
  show wpAny _ _ (Builtin.SmallTypes.nextOf (.ref i1) >>= _) _ _ _
  refine wpAny_bind (wpAny_nextOf_list_item (h1.extBut hs₁.extBut D.i1z) (hl1.extBut hs₁.extBut D.l1z) hx fun h₂ h1₂ hs₂ => wpAny_pure (wpAny_pure ?_))
  refine wpAny_bind (wpAny_bind (wpAny_holding ?_))
  show wpAny _ _ (Builtin.SmallTypes.nextOf (.ref i2) >>= _) _ _ _
  refine wpAny_bind (wpAny_nextOf_list_item ((h2.extBut hs₁.extBut D.i2z).extBut hs₂.extBut D.i12.symm) ((hl2.extBut hs₁.extBut D.l2z).extBut hs₂.extBut D.l2i1) hy fun h₃ h2₃ hs₃ => wpAny_pure (wpAny_pure (wpAny_pure ?_)))
  show wpAny _ _ (newTuple [x, y] >>= fun r => ret r) _ _ _
  have hsz : h₃.objs.size = s.heap.objs.size := by rw [hs₃.1, hs₂.1, hs₁.1]
  refine wpAny_bind (wpAny_newObj_type (wpAny_pure ⟨_, rfl, ?_⟩) (by show 2 ≤ sizeLine; decide))
  show Q (.ref h₃.objs.size) _
  rw [hsz]
  have up : ∀ c o, c ≠ z → c ≠ i1 → c ≠ i2 → s.heap.get? c = some o → h₃.get? c = some o := fun c o c1 c2 c3 e => hs₃.extBut _ _ c3 (hs₂.extBut _ _ c2 (hs₁.extBut _ _ c1 e))
  refine hQ _ (Heap.get?_push_of_some _ (hs₃.extBut _ _ D.i2z.symm (hs₂.extBut _ _ D.i1z.symm hz₁))) ((h1₂.extBut hs₃.extBut D.i12).at fun o e => Heap.get?_push_of_some _ e) (h2₃.at fun o e => Heap.get?_push_of_some _ e) ?_ (by rw [Heap.size_push, hsz]) fun c o c1 c2 c3 e => Heap.get?_push_of_some _ (up c o c1 c2 c3 e)
  rw [← hsz]
  exact Heap.get?_push_size _ rfl
theorem owned_alive {z TI TO T : Addr} {oT : Obj} {bb : Bool} (hz : IsZipG s.heap z TI TO (rawInt T) (.bool bb)) (hT : s.heap.get? T = some oT) :
    wpAny (model prog w) A (Builtin.SmallTypes.ownedTupleIsFree (.ref z)) (fun b s' => b = false ∧ ∃ h₁, s' = { s with heap := h₁ } ∧ IsZipG h₁ z TI TO (rawInt T) (.bool true) ∧ Heap.SameBut z s.heap h₁) E s := by
  unfold Builtin.SmallTypes.ownedTupleIsFree
  refine wpAny_bind (wpAny_field hz rfl (x := rawInt T) rfl ?_)
  show wpAny _ _ (loadIfAlive ((T : Int)).toNat >>= _) _ _ _
  have la : ∀ {R : Option Obj → Shared → Prop}, R (some oT) s → wpAny (model prog w) A (loadIfAlive ((T : Int)).toNat) R E s := fun {R} h => by
    intro Γ p _
    unfold loadIfAlive
    rw [Sem.wp_loadIfAlive, Int.toNat_natCast, hT]
    exact h
  refine wpAny_bind (la ?_)
  rw [if_neg (by simp)]
  refine wpAny_bind (wpAny_field hz rfl (x := .bool bb) rfl ?_)
  cases bb with
  | true => exact wpAny_pure ⟨rfl, s.heap, rfl, hz, .refl ..⟩
  | false =>
    show wpAny _ _ (setField (.ref z) 1 (.bool true) >>= _) _ _ _
    exact wpAny_bind (wpAny_setField_rec hz (by simp) fun h₁ hz₁ hs₁ => wpAny_pure ⟨rfl, h₁, rfl, hz₁, hs₁⟩)
theorem zip_end_more {z TI TO i1 i2 l1 l2 T : Addr} {oT : Obj} {bb : Bool} {k1 k2 : Nat} {xs ys : Array Value} {Q : Fin → Shared → Prop} (hh : A.handled = none) (D : ZipApart z TI TO i1 i2 l1 l2)
    (hz : IsZipG s.heap z TI TO (rawInt T) (.bool bb)) (hT : s.heap.get? T = some oT) (hTI : IsPair s.heap TI (.ref i1) (.ref i2))
    (h1 : s.heap.IsListIter i1 l1 k1) (h2 : s.heap.IsListIter i2 l2 k2) (hl1 : s.heap.IsList l1 xs) (hl2 : s.heap.IsList l2 ys) (hend : xs[k1]? = none ∨ ys[k2]? = none)
    (hE : ∀ h' e, (∀ c o, c ≠ z → c ≠ i1 → c ≠ i2 → s.heap.get? c = some o → h'.get? c = some o) → (∃ o, h'.get? e = some o ∧ o.cls = .type "StopIteration") → E (.ref e) { s with heap := h' }) :
    wpAny (model prog w) A (Builtin.«zip.__next__» ⟨[.ref z], []⟩) Q E s := by
  show wpAny _ _ (field (.ref z) 2 >>= _) _ _ _
  refine wpAny_bind (wpAny_field hz rfl (x := .bool false) rfl ?_)
  show wpAny _ _ (field (.ref z) 3 >>= _) _ _ _
  refine wpAny_bind (wpAny_field hz rfl (x := .ref TI) rfl ?_)
  refine wpAny_bind (wpAny_seqItems hTI rfl ?_)
  show wpAny _ _ (Builtin.SmallTypes.ownedTupleIsFree (.ref z) >>= _) _ _ _
  refine wpAny_bind (wpAny_mono (owned_alive hz hT) (fun b s' hb => ?_) fun _ _ e => e)
  obtain ⟨rfl, h₁, rfl, hz₁, hs₁⟩ := hb
  show wpAny _ _ (forIn _ _ _ >>= _) _ _ _
  refine wpAny_bind ?_
  rw [← Array.forIn_toList]
  simp only [List.forIn_cons, List.forIn_nil]
  refine wpAny_bind (wpAny_bind (wpAny_holding ?_))
  show wpAny _ _ (Builtin.SmallTypes.nextOf (.ref i1) >>= _) _ _ _
  cases hx : xs[k1]? with
  | none =>
    refine wpAny_bind (wpAny_nextOf_list_end hh (h1.extBut hs₁.extBut D.i1z) (hl1.extBut hs₁.extBut D.l1z) hx fun h₂ e hs₂ he => ?_)
    exact hE h₂ e (fun c o c1 c2 _ x => hs₂ _ _ c2 (hs₁.extBut _ _ c1 x)) he
  | some x =>
    have hy : ys[k2]? = none := by rcases hend with h | h; rw [hx] at h; cases h; exact h
    refine wpAny_bind (wpAny_nextOf_list_item (h1.extBut hs₁.extBut D.i1z) (hl1.extBut hs₁.extBut D.l1z) hx fun h₂ h1₂ hs₂ => wpAny_pure (wpAny_pure ?_))
    refine wpAny_bind (wpAny_bind (wpAny_holding ?_))
    show wpAny _ _ (Builtin.SmallTypes.nextOf (.ref i2) >>= _) _ _ _
    refine wpAny_bind (wpAny_nextOf_list_end hh ((h2.extBut hs₁.extBut D.i2z).extBut hs₂.extBut D.i12.symm) ((hl2.extBut hs₁.extBut D.l2z).extBut hs₂.extBut D.l2i1) hy fun h₃ e hs₃ he => ?_)
    exact hE h₃ e (fun c o c1 c2 c3 x => hs₃ _ _ c3 (hs₂.extBut _ _ c2 (hs₁.extBut _ _ c1 x))) he
theorem pyNext_zip_more {z TI TO i1 i2 l1 l2 T : Addr} {oT : Obj} {bb : Bool} {k1 k2 : Nat} {xs ys : Array Value} {x y : Value} {Q : Option Value → Shared → Prop} (D : ZipApart z TI TO i1 i2 l1 l2)
    (hz : IsZipG s.heap z TI TO (rawInt T) (.bool bb)) (hT : s.heap.get? T = some oT) (hTz : T ≠ z) (hTI : IsPair s.heap TI (.ref i1) (.ref i2))
    (h1 : s.heap.IsListIter i1 l1 k1) (h2 : s.heap.IsListIter i2 l2 k2) (hl1 : s.heap.IsList l1 xs) (hl2 : s.heap.IsList l2 ys) (hx : xs[k1]? = some x) (hy : ys[k2]? = some y)
    (hQ : ∀ h', IsZipG h' z TI TO (rawInt T) (.bool true) → h'.IsListIter i1 l1 (k1 + 1) → h'.IsListIter i2 l2 (k2 + 1) → IsPair h' s.heap.objs.size x y → h'.objs.size = s.heap.objs.size + 1 →
      (∀ c o, c ≠ z → c ≠ i1 → c ≠ i2 → s.heap.get? c = some o → h'.get? c = some o) → Q (some (.ref s.heap.objs.size)) { s with heap := h' }) :
    wpAny (model prog w) A (pyNext (.ref z)) Q E s := by
  have hTy : s.TypeIs (.ref z) "zip" := ⟨_, hz, rfl⟩
  unfold pyNext
  exact wpAny_bind (wpAny_attempt (wpAny_callSpecial?_slot (name := Str.ofString "__next__") hTy F.slot_zip_next
    (wpAny_call_entry F.slot_zip_next hTy F.entry_zip_next
      (zip_next_more D hz hT hTz hTI h1 h2 hl1 hl2 hx hy fun h' a1 a2 a3 a4 a5 a6 => wpAny_pure (hQ h' a1 a2 a3 a4 a5 a6)) (F.args_zip_next_1 _))))
theorem pyNext_zip_end_more {z TI TO i1 i2 l1 l2 T : Addr} {oT : Obj} {bb : Bool} {k1 k2 : Nat} {xs ys : Array Value} {Q : Option Value → Shared → Prop} (hh : A.handled = none) (D : ZipApart z TI TO i1 i2 l1 l2)
    (hz : IsZipG s.heap z TI TO (rawInt T) (.bool bb)) (hT : s.heap.get? T = some oT) (hTI : IsPair s.heap TI (.ref i1) (.ref i2))
    (h1 : s.heap.IsListIter i1 l1 k1) (h2 : s.heap.IsListIter i2 l2 k2) (hl1 : s.heap.IsList l1 xs) (hl2 : s.heap.IsList l2 ys) (hend : xs[k1]? = none ∨ ys[k2]? = none)
    (hQ : ∀ h', (∀ c o, c ≠ z → c ≠ i1 → c ≠ i2 → s.heap.get? c = some o → h'.get? c = some o) → Q none { s with heap := h' }) : wpAny (model prog w) A (pyNext (.ref z)) Q E s := by
  have hTy : s.TypeIs (.ref z) "zip" := ⟨_, hz, rfl⟩
  unfold pyNext
  refine wpAny_bind (wpAny_attempt (wpAny_callSpecial?_slot (name := Str.ofString "__next__") hTy F.slot_zip_next
    (wpAny_call_entry F.slot_zip_next hTy F.entry_zip_next (zip_end_more hh D hz hT hTI h1 h2 hl1 hl2 hend fun h' e hk he => ?_) (F.args_zip_next_1 _))))
  obtain ⟨o, ho, hc⟩ := he
  refine wpAny_bind (wpAny_isInstance (T := "StopIteration") (b := true) ⟨o, ho, hc⟩ isSubtype_stop ?_)
  exact wpAny_pure (hQ _ hk)
structure ZS (z TI TO i1 i2 l1 l2 base : Addr) (xs ys : Array Value) (k : Nat) (h : Heap) : Prop where
  zip : (k = 0 ∧ IsZip h z TI TO .none) ∨ (0 < k ∧ ∃ bb, IsZipG h z TI TO (rawInt base) (.bool bb))
  ti : IsPair h TI (.ref i1) (.ref i2)
  to : ∃ a b, IsPair h TO a b
  it1 : h.IsListIter i1 l1 k
  it2 : h.IsListIter i2 l2 k
  ls1 : h.IsList l1 xs
  ls2 : h.IsList l2 ys
  sz : h.objs.size = base + k
  old : ∀ (j : Nat) x y, j < k → xs[j]? = some x → ys[j]? = some y → IsPair h (base + j) x y
structure ZLow (z TI TO i1 i2 l1 l2 base : Addr) : Prop where
  z : z < base
  to : TO < base
  i1 : i1 < base
  i2 : i2 < base
theorem ZS.upd {z TI TO i1 i2 l1 l2 base S : Addr} {xs ys : Array Value} {k : Nat} {h h' : Heap} (Z : ZS z TI TO i1 i2 l1 l2 base xs ys k h) (hk : ∀ b o, b ≠ S → h.get? b = some o → h'.get? b = some o) (hs : h'.objs.size = h.objs.size)
    (n1 : z ≠ S) (n2 : TI ≠ S) (n3 : TO ≠ S) (n4 : i1 ≠ S) (n5 : i2 ≠ S) (n6 : l1 ≠ S) (n7 : l2 ≠ S) (n8 : S < base) : ZS z TI TO i1 i2 l1 l2 base xs ys k h' where
  zip := by
    rcases Z.zip with ⟨e, q⟩ | ⟨e, bb, q⟩
    · exact .inl ⟨e, hk _ _ n1 q⟩
    · exact .inr ⟨e, bb, hk _ _ n1 q⟩
  ti := hk _ _ n2 Z.ti
  to := let ⟨a, b, q⟩ := Z.to; ⟨a, b, hk _ _ n3 q⟩
  it1 := Z.it1.at fun o e => hk _ o n4 e
  it2 := Z.it2.at fun o e => hk _ o n5 e
  ls1 := Z.ls1.at fun o e => hk _ o n6 e
  ls2 := Z.ls2.at fun o e => hk _ o n7 e
  sz := hs.trans Z.sz
  old := fun j x y hj hx hy => hk _ _ (Nat.ne_of_gt (Nat.lt_of_lt_of_le n8 (Nat.le_add_right _ _))) (Z.old j x y hj hx hy)
theorem zip_turn {z TI TO i1 i2 l1 l2 base : Addr} {xs ys : Array Value} {k : Nat} {x y : Value} {Q : Option Value → Shared → Prop} (D : ZipApart z TI TO i1 i2 l1 l2) (L : ZLow z TI TO i1 i2 l1 l2 base)
    (Z : ZS z TI TO i1 i2 l1 l2 base xs ys k s.heap) (hx : xs[k]? = some x) (hy : ys[k]? = some y)
    (hQ : ∀ h', ZS z TI TO i1 i2 l1 l2 base xs ys (k + 1) h' → (∀ c o, c ≠ z → c ≠ TO → c ≠ i1 → c ≠ i2 → s.heap.get? c = some o → h'.get? c = some o) → Q (some (.ref (base + k))) { s with heap := h' }) :
    wpAny (model prog w) A (pyNext (.ref z)) Q E s := by
  obtain ⟨a, b, hTO⟩ := Z.to
  have new : ∀ h', (∀ c o, c ≠ z → c ≠ TO → c ≠ i1 → c ≠ i2 → s.heap.get? c = some o → h'.get? c = some o) → IsPair h' s.heap.objs.size x y → ∀ (j : Nat) x' y', j < k + 1 → xs[j]? = some x' → ys[j]? = some y' → IsPair h' (base + j) x' y' := fun h' hk hp j x' y' hj e1 e2 => by
    by_cases hjk : j = k
    · subst hjk
      rw [hx] at e1; rw [hy] at e2; cases e1; cases e2
      rw [← Z.sz]
      exact hp
    · have lo : ∀ c, c < base → base + j ≠ c := fun c hc e => absurd (Nat.lt_of_lt_of_le hc (Nat.le_add_right base j)) (by rw [e]; exact Nat.lt_irrefl _)
      exact hk _ _ (lo _ L.z) (lo _ L.to) (lo _ L.i1) (lo _ L.i2) (Z.old j x' y' (by omega) e1 e2)
  rcases Z.zip with ⟨e, q⟩ | ⟨e, bb, q⟩
  · subst e
    refine wpAny_pyNext_zip_item D q Z.ti hTO Z.it1 Z.it2 Z.ls1 Z.ls2 hx hy fun h' a1 a2 a3 a4 a5 a6 hk => ?_
    have hb : s.heap.objs.size = base := Z.sz
    have r := hQ h' ⟨.inr ⟨Nat.succ_pos _, false, by rw [hb] at a1; exact a1⟩, hk _ _ D.TIz D.TITO D.TIi1 D.TIi2 Z.ti, ⟨_, _, a2⟩, a3, a4, Z.ls1.at fun o e => hk _ o D.l1z D.l1TO D.l1i1 D.l1i2 e, Z.ls2.at fun o e => hk _ o D.l2z D.l2TO D.l2i1 D.l2i2 e,
      by rw [a6, hb], new h' hk a5⟩ hk
    rw [hb]
    exact r
  · obtain ⟨x0, hx0⟩ : ∃ x0, xs[0]? = some x0 := ⟨xs[0]'(by have := (Array.getElem?_eq_some_iff.mp hx).1; omega), Array.getElem?_eq_getElem _⟩
    obtain ⟨y0, hy0⟩ : ∃ y0, ys[0]? = some y0 := ⟨ys[0]'(by have := (Array.getElem?_eq_some_iff.mp hy).1; omega), Array.getElem?_eq_getElem _⟩
    have hT := Z.old 0 x0 y0 e hx0 hy0
    rw [Nat.add_zero] at hT
    refine pyNext_zip_more D q hT (Nat.ne_of_gt L.z) Z.ti Z.it1 Z.it2 Z.ls1 Z.ls2 hx hy fun h' a1 a3 a4 a5 a6 hk => ?_
    have r := hQ h' ⟨.inr ⟨Nat.succ_pos _, true, a1⟩, hk _ _ D.TIz D.TIi1 D.TIi2 Z.ti, ⟨_, _, hk _ _ D.TOz D.TOi1 D.TOi2 hTO⟩, a3, a4, Z.ls1.at fun o e => hk _ o D.l1z D.l1i1 D.l1i2 e, Z.ls2.at fun o e => hk _ o D.l2z D.l2i1 D.l2i2 e,
      by rw [a6, Z.sz]; rfl, new h' (fun c o c1 _ c3 c4 e => hk c o c1 c3 c4 e) a5⟩ fun c o c1 _ c3 c4 e => hk c o c1 c3 c4 e
    rw [Z.sz]
    exact r
theorem zip_stop {z TI TO i1 i2 l1 l2 base : Addr} {xs ys : Array Value} {k : Nat} {Q : Option Value → Shared → Prop} (hh : A.handled = none) (D : ZipApart z TI TO i1 i2 l1 l2)
    (Z : ZS z TI TO i1 i2 l1 l2 base xs ys k s.heap) (hend : k = min xs.size ys.size)
    (hQ : ∀ h', (∀ c o, c ≠ z → c ≠ TO → c ≠ i1 → c ≠ i2 → s.heap.get? c = some o → h'.get? c = some o) → Q none { s with heap := h' }) : wpAny (model prog w) A (pyNext (.ref z)) Q E s := by
  obtain ⟨a, b, hTO⟩ := Z.to
  have he : xs[k]? = none ∨ ys[k]? = none := by
    subst hend
    rcases Nat.le_total xs.size ys.size with h | h
    · exact .inl (by rw [Nat.min_eq_left h]; exact Array.getElem?_eq_none (Nat.le_refl _))
    · exact .inr (by rw [Nat.min_eq_right h]; exact Array.getElem?_eq_none (Nat.le_refl _))
  rcases Z.zip with ⟨e, q⟩ | ⟨e, bb, q⟩
  · exact wpAny_pyNext_zip_end hh D q Z.ti hTO Z.it1 Z.it2 Z.ls1 Z.ls2 he hQ
  · have hx0 : 0 < xs.size := by omega
    have hy0 : 0 < ys.size := by omega
    have hT := Z.old 0 _ _ e (Array.getElem?_eq_getElem hx0) (Array.getElem?_eq_getElem hy0)
    rw [Nat.add_zero] at hT
    exact pyNext_zip_end_more hh D q hT Z.ti Z.it1 Z.it2 Z.ls1 Z.ls2 he fun h' hk => hQ h' fun c o c1 _ c3 c4 e => hk c o c1 c3 c4 e
def refsFrom (base k : Nat) : Array Value := ((List.range k).map fun j => Value.ref (base + j)).toArray
theorem refsFrom_succ (base k : Nat) : refsFrom base (k + 1) = (refsFrom base k).push (.ref (base + k)) := by
  unfold refsFrom
  rw [List.range_succ, List.map_append]
  simp
theorem refsFrom_size (base k : Nat) : (refsFrom base k).size = k := by simp [refsFrom]
end
namespace F
theorem zip_no_len : typeLookup (.type "zip") "__len__" = pure none := by rw [typeLookup_type, builtinLookup_eq_fast]; kernel_rfl
theorem zip_no_hint : typeLookup (.type "zip") "__length_hint__" = pure none := by rw [typeLookup_type, builtinLookup_eq_fast]; kernel_rfl
end F
section
variable {prog : Program} {w : World} {A : Around} {s : Shared} {R : Result → Shared → Prop} {z TI TO i1 i2 l1 l2 base S : Addr} {xs ys : Array Value}
structure ZOff (z TI TO i1 i2 l1 l2 base S : Addr) : Prop where
  n1 : z ≠ S
  n2 : TI ≠ S
  n3 : TO ≠ S
  n4 : i1 ≠ S
  n5 : i2 ≠ S
  n6 : l1 ≠ S
  n7 : l2 ≠ S
  n8 : S < base
theorem extend_zip_loop (hh : A.handled = none) (D : ZipApart z TI TO i1 i2 l1 l2) (L : ZLow z TI TO i1 i2 l1 l2 base) (O : ZOff z TI TO i1 i2 l1 l2 base S) (hn : min xs.size ys.size ≤ sizeLine) (res : Value) :
    ∀ (m k : Nat) (s : Shared) (c : Nat), min xs.size ys.size - k = m → k ≤ min xs.size ys.size → ZS z TI TO i1 i2 l1 l2 base xs ys k s.heap → s.heap.get? S = some { cls := .type "list", dict := none, data := .seq (refsFrom base k) c, slots := #[] } →
    (∀ h' c', (∀ (j : Nat) x y, xs[j]? = some x → ys[j]? = some y → IsPair h' (base + j) x y) → h'.get? S = some { cls := .type "list", dict := none, data := .seq (refsFrom base (min xs.size ys.size)) c', slots := #[] } →
      (∀ b o, b ≠ S → b ≠ z → b ≠ TO → b ≠ i1 → b ≠ i2 → s.heap.get? b = some o → h'.get? b = some o) → R (.ok (.ret res)) { s with heap := h' }) →
    codeAny (model prog w) A (.builtin "list.extend.loop" ⟨[.ref S, .ref z, res], []⟩) R s := by
  have lo : ∀ (c j : Nat), c < base → base + j ≠ c := fun c j hc e => absurd (Nat.lt_of_lt_of_le hc (Nat.le_add_right base j)) (by rw [e]; exact Nat.lt_irrefl _)
  intro m
  induction m with
  | zero =>
    intro k s c hm hk hZ hS hR
    have hkn : k = min xs.size ys.size := by omega
    refine codeAny_builtin PySem.F.entry_extend_loop ?_
    rw [Around.under_plainId PySem.F.plain_extend_loop _]
    show wpAny _ A.in1 (pyNext (.ref z) >>= _) _ _ s
    refine wpAny_bind (zip_stop (A := A.in1) hh D hZ hkn fun h' hkp => ?_)
    refine wpAny_pure (hR h' c (fun j x y e1 e2 => ?_) ?_ fun b o b0 b1 b2 b3 b4 e => hkp b o b1 b2 b3 b4 e)
    · have hj : j < k := by
        have j1 := (Array.getElem?_eq_some_iff.mp e1).1
        have j2 := (Array.getElem?_eq_some_iff.mp e2).1
        omega
      exact hkp _ _ (lo _ _ L.z) (lo _ _ L.to) (lo _ _ L.i1) (lo _ _ L.i2) (hZ.old j x y hj e1 e2)
    · rw [← hkn]
      exact hkp _ _ O.n1.symm O.n3.symm O.n4.symm O.n5.symm hS
  | succ m ih =>
    intro k s c hm hk hZ hS hR
    have hlt : k < min xs.size ys.size := by omega
    have hx : xs[k]? = some (xs[k]'(by omega)) := Array.getElem?_eq_getElem _
    have hy : ys[k]? = some (ys[k]'(by omega)) := Array.getElem?_eq_getElem _
    refine codeAny_builtin PySem.F.entry_extend_loop ?_
    rw [Around.under_plainId PySem.F.plain_extend_loop _]
    show wpAny _ A.in1 (pyNext (.ref z) >>= _) _ _ s
    refine wpAny_bind (zip_turn (A := A.in1) D L hZ hx hy fun h' hZ' hkp => ?_)
    have hS' := hkp _ _ O.n1.symm O.n3.symm O.n4.symm O.n5.symm hS
    show wpAny _ A.in1 (updateSeq S (·.push (.ref (base + k))) >>= _) _ _ _
    refine wpAny_bind ?_
    have oth : ∀ b o, b ≠ S → h'.get? b = some o → (h'.update S (Obj.mapSeq (·.push (.ref (base + k))))).get? b = some o := fun b o hb e => (Heap.get?_update_other _ _ (Ne.symm hb)).trans e
    have hS2 := Heap.get?_update_self (Obj.mapSeq (·.push (.ref (base + k)))) hS' rfl
    have hS3 : ∃ n', (h'.update S (Obj.mapSeq (·.push (.ref (base + k))))).get? S = some { cls := .type "list", dict := none, data := .seq ((refsFrom base k).push (.ref (base + k))) n', slots := #[] } := ⟨_, hS2⟩
    obtain ⟨n', hS3⟩ := hS3
    rw [← refsFrom_succ] at hS3
    refine wpAny_updateSeq hS' rfl (wpAny_pure ⟨plainId_quiet PySem.F.plain_extend_loop _, ih (k + 1) _ n' (by omega) hlt (hZ'.upd oth (Heap.size_update ..) O.n1 O.n2 O.n3 O.n4 O.n5 O.n6 O.n7 O.n8) hS3 fun h'' c' a1 a2 a3 => ?_⟩)
      (by rw [refsFrom_size]; omega) (by show ((refsFrom base k).push _).size ≤ sizeLine + 1; rw [Array.size_push, refsFrom_size]; omega)
    · exact hR h'' c' a1 a2 fun b o b0 b1 b2 b3 b4 e => a3 b o b0 b1 b2 b3 b4 (oth b o b0 (hkp b o b1 b2 b3 b4 e))
theorem extend_zip (hh : A.handled = none) (D : ZipApart z TI TO i1 i2 l1 l2) (L : ZLow z TI TO i1 i2 l1 l2 base) (O : ZOff z TI TO i1 i2 l1 l2 base S) (hn : min xs.size ys.size ≤ sizeLine) (res : Value) (c₀ : Nat)
    (hZ : ZS z TI TO i1 i2 l1 l2 base xs ys 0 s.heap) (hS : s.heap.get? S = some { cls := .type "list", data := .seq #[] c₀ })
    (hR : ∀ h' c', (∀ (j : Nat) x y, xs[j]? = some x → ys[j]? = some y → IsPair h' (base + j) x y) → h'.get? S = some { cls := .type "list", dict := none, data := .seq (refsFrom base (min xs.size ys.size)) c', slots := #[] } →
      (∀ b o, b ≠ S → b ≠ z → b ≠ TO → b ≠ i1 → b ≠ i2 → s.heap.get? b = some o → h'.get? b = some o) → R (.ok (.ret res)) { s with heap := h' }) :
    wpAny (model prog w) A.in1 (Builtin.List.listExtendWith (.ref S) (.ref z) res)
      (fun fin s' => match fin with | .done f => R (.ok f) s' | .again c' => c'.quiet = true ∧ codeAny (model prog w) A c' R s') (fun e s' => R (.error e) s') s := by
  have hz0 : IsZip s.heap z TI TO .none := by
    rcases hZ.zip with ⟨_, q⟩ | ⟨e, _⟩
    · exact q
    · exact absurd e (Nat.lt_irrefl _)
  have hT : s.TypeIs (.ref z) "zip" := ⟨_, hz0, rfl⟩
  unfold Builtin.List.listExtendWith
  refine wpAny_bind (wpAny_typeOf hT ?_)
  have h1 : Builtin.List.listSameRef (.ref S) (.ref z) = false := by simp [Builtin.List.listSameRef, O.n1.symm]
  have h2 : (Value.type "zip" == Value.type "list") = false := by decide
  have h3 : (Value.type "zip" == Value.type "tuple") = false := by decide
  simp only [h1, h2, h3, Bool.or_false, Bool.false_eq_true, if_false]
  refine wpAny_bind (wpAny_pyIter_zip hz0 ?_)
  refine wpAny_bind (wpAny_holding ?_)
  unfold Builtin.List.listLengthHint
  refine wpAny_bind (wpAny_specialOf hT F.zip_no_len ?_)
  show wpAny _ A.in1 (specialOf (Value.ref z) (Str.ofString "__length_hint__") >>= _) _ _ _
  refine wpAny_bind (wpAny_specialOf hT F.zip_no_hint ?_)
  refine wpAny_pure ?_
  show wpAny _ A.in1 (rule "list.extend.makes-room" >>= fun _ => Builtin.List.listTouch (.ref S) >>= fun _ =>
    again (.builtin "list.extend.loop" ⟨[.ref S, .ref z, res], []⟩)) _ _ _
  refine wpAny_bind (wpAny_rule ?_)
  refine wpAny_bind ?_
  show wpAny _ A.in1 (updateSeq S (·.push .none) >>= fun _ => updateSeq S (·.pop)) _ _ _
  refine wpAny_bind (wpAny_updateSeq hS rfl ?_)
  have hS₂ := Heap.get?_update_self (Obj.mapSeq (·.push Value.none)) hS rfl
  refine wpAny_updateSeq (hz := by seq_fits) hS₂ rfl ?_
  have hS₃ := Heap.get?_update_self (Obj.mapSeq (·.pop)) hS₂ rfl
  have oth : ∀ b o, b ≠ S → s.heap.get? b = some o → ((s.heap.update S (Obj.mapSeq (·.push Value.none))).update S (Obj.mapSeq (·.pop))).get? b = some o :=
    fun b o hb e => (Heap.get?_update_other _ _ (Ne.symm hb)).trans ((Heap.get?_update_other _ _ (Ne.symm hb)).trans e)
  refine wpAny_pure ⟨plainId_quiet PySem.F.plain_extend_loop _, extend_zip_loop hh D L O hn res _ 0 _ _ rfl (Nat.zero_le _) (hZ.upd oth (by rw [Heap.size_update, Heap.size_update]) O.n1 O.n2 O.n3 O.n4 O.n5 O.n6 O.n7 O.n8) hS₃ fun h' c' a1 a2 a3 => ?_⟩
  exact hR h' c' a1 a2 fun b o b0 b1 b2 b3 b4 e => a3 b o b0 b1 b2 b3 b4 (oth b o b0 e)
theorem list_init_zip (hh : A.handled = none) (D : ZipApart z TI TO i1 i2 l1 l2) (L : ZLow z TI TO i1 i2 l1 l2 base) (O : ZOff z TI TO i1 i2 l1 l2 base S) (hn : min xs.size ys.size ≤ sizeLine)
    (hZ : ZS z TI TO i1 i2 l1 l2 base xs ys 0 s.heap) (hS : s.heap.get? S = some { cls := .type "list", data := .seq #[] })
    (hR : ∀ h' c', (∀ (j : Nat) x y, xs[j]? = some x → ys[j]? = some y → IsPair h' (base + j) x y) → h'.get? S = some { cls := .type "list", dict := none, data := .seq (refsFrom base (min xs.size ys.size)) c', slots := #[] } →
      (∀ b o, b ≠ S → b ≠ z → b ≠ TO → b ≠ i1 → b ≠ i2 → s.heap.get? b = some o → h'.get? b = some o) → R (.ok (.ret .none)) { s with heap := h' }) :
    wpAny (model prog w) A.in1 (Builtin.«list.__init__» ⟨[.ref S, .ref z], []⟩)
      (fun fin s' => match fin with | .done f => R (.ok f) s' | .again c' => c'.quiet = true ∧ codeAny (model prog w) A c' R s') (fun e s' => R (.error e) s') s := by
  show wpAny _ A.in1 (do let old ← Builtin.List.listItems (.ref S); Builtin.List.listUpdate (.ref S) (fun _ => #[]); letGo old.toList.reverse; Builtin.List.listExtendWith (.ref S) (.ref z) .none) _ _ s
  refine wpAny_bind ?_
  unfold Builtin.List.listItems
  refine wpAny_bind (wpAny_seqItems hS rfl (wpAny_pure ?_))
  show wpAny _ A.in1 (updateSeq S (fun _ => #[]) >>= fun _ => letGo (#[] : Array Value).toList.reverse >>= fun _ => Builtin.List.listExtendWith (.ref S) (.ref z) .none) _ _ s
  refine wpAny_bind (wpAny_updateSeq hS rfl ?_)
  have hS₂ := Heap.get?_update_self (Obj.mapSeq (fun _ => (#[] : Array Value))) hS rfl
  have oth : ∀ b o, b ≠ S → s.heap.get? b = some o → (s.heap.update S (Obj.mapSeq (fun _ => (#[] : Array Value)))).get? b = some o :=
    fun b o hb e => (Heap.get?_update_other _ _ (Ne.symm hb)).trans e
  refine wpAny_bind (wpAny_letGo ?_)
  refine extend_zip hh D L O hn .none _ (hZ.upd oth (Heap.size_update ..) O.n1 O.n2 O.n3 O.n4 O.n5 O.n6 O.n7 O.n8) hS₂ fun h' c' a1 a2 a3 => ?_
  exact hR h' c' a1 a2 fun b o b0 b1 b2 b3 b4 e => a3 b o b0 b1 b2 b3 b4 (oth b o b0 e)
end
section
variable {prog : Program} {w : World} {A : Around} {E : Value → Shared → Prop} {s : Shared}
theorem list_zip {l1 l2 : Addr} {xs ys : Array Value} {Q : Value → Shared → Prop} (hh : A.handled = none) (hl1 : s.heap.IsList l1 xs) (hl2 : s.heap.IsList l2 ys) (hn : min xs.size ys.size ≤ sizeLine)
    (hQ : ∀ h' c', (∀ (j : Nat) x y, xs[j]? = some x → ys[j]? = some y → IsPair h' (s.heap.objs.size + 6 + j) x y) →
      h'.get? (s.heap.objs.size + 5) = some { cls := .type "list", dict := none, data := .seq (refsFrom (s.heap.objs.size + 6) (min xs.size ys.size)) c', slots := #[] } →
      (∀ b o, s.heap.get? b = some o → h'.get? b = some o) → Q (.ref (s.heap.objs.size + 5)) { s with heap := h' }) :
    wpAny (model prog w) A (call (.type "zip") [.ref l1, .ref l2]) (fun z s₁ => wpAny (model prog w) A (call (.type "list") [z]) Q E s₁) E s := by
  have lt1 : @LT.lt Nat _ l1 s.heap.objs.size := by obtain ⟨_, e, _⟩ := hl1; exact Heap.lt_size e
  have lt2 : @LT.lt Nat _ l2 s.heap.objs.size := by obtain ⟨_, e, _⟩ := hl2; exact Heap.lt_size e
  refine call_zip_2 hl1 hl2 fun h₁ hz hTI hTO hi1 hi2 hsz hk => ?_
  have D : ZipApart (s.heap.objs.size + 4) (s.heap.objs.size + 2) (s.heap.objs.size + 3) s.heap.objs.size (s.heap.objs.size + 1) l1 l2 := by
    constructor <;> first | (show (_ : Nat) < (_ : Nat); omega) | (intro e; have e' : @Eq Nat _ _ := e; omega)
  have L : ZLow (s.heap.objs.size + 4) (s.heap.objs.size + 2) (s.heap.objs.size + 3) s.heap.objs.size (s.heap.objs.size + 1) l1 l2 (s.heap.objs.size + 6) := by
    constructor <;> first | (show (_ : Nat) < (_ : Nat); omega) | (intro e; have e' : @Eq Nat _ _ := e; omega)
  have O : ZOff (s.heap.objs.size + 4) (s.heap.objs.size + 2) (s.heap.objs.size + 3) s.heap.objs.size (s.heap.objs.size + 1) l1 l2 (s.heap.objs.size + 6) (s.heap.objs.size + 5) := by
    constructor <;> first | (show (_ : Nat) < (_ : Nat); omega) | (intro e; have e' : @Eq Nat _ _ := e; omega)
  refine callType_codes (Q₁ := fun obj s₁ => obj = .ref (s.heap.objs.size + 5) ∧ s₁ = { s with heap := h₁.push { cls := .type "list", data := .seq #[] } }) PySem.F.called_list (PySem.F.typeCall_list_1 _) PySem.F.entry_list_init
    (code_list_new _ ⟨by show Value.ref h₁.objs.size = _; rw [hsz], rfl⟩) fun obj s₁ h₁' => ?_
  obtain ⟨rfl, rfl⟩ := h₁'
  have hS : (h₁.push { cls := .type "list", data := .seq #[] }).get? (s.heap.objs.size + 5) = some { cls := .type "list", data := .seq #[] } := by rw [← hsz]; exact Heap.get?_push_size _ rfl
  have hZ : ZS (s.heap.objs.size + 4) (s.heap.objs.size + 2) (s.heap.objs.size + 3) s.heap.objs.size (s.heap.objs.size + 1) l1 l2 (s.heap.objs.size + 6) xs ys 0 (h₁.push { cls := .type "list", data := .seq #[] }) :=
    ⟨.inl ⟨rfl, Heap.get?_push_of_some _ hz⟩, Heap.get?_push_of_some _ hTI, ⟨_, _, Heap.get?_push_of_some _ hTO⟩, hi1.at fun o e => Heap.get?_push_of_some _ e, hi2.at fun o e => Heap.get?_push_of_some _ e,
      hl1.at fun o e => Heap.get?_push_of_some _ (hk _ o e), hl2.at fun o e => Heap.get?_push_of_some _ (hk _ o e), by rw [Heap.size_push, hsz], fun j x y hj => absurd hj (Nat.not_lt_zero _)⟩
  refine ⟨⟨_, hS, rfl⟩, PySem.F.args_list_init_2 _ _, list_init_zip (A := A.in1) hh D L O hn hZ hS fun h' c' a1 a2 a3 => ⟨rfl, hQ h' c' a1 a2 fun b o e => ?_⟩⟩
  have hb : @LT.lt Nat _ b s.heap.objs.size := Heap.lt_size e
  have ne : ∀ j : Nat, b ≠ s.heap.objs.size + j := fun j z => by have z' : @Eq Nat b (s.heap.objs.size + j) := z; omega
  exact a3 b o (ne 5) (ne 4) (ne 3) (ne 0) (ne 1) (Heap.get?_push_of_some _ (hk b o e))
end
end ZL
end PySem
namespace L2
open PySem PySem.Spec PyProof.Rows
def freesOf : List (Str × NameKind) → List Str
  | [] => []
  | (n, k) :: r => if (k == NameKind.free) = true then n :: freesOf r else freesOf r
def clFrom (env : Env) : List (Str × NameKind) → List (Str × Addr) → List (Str × Addr)
  | [], acc => acc
  | (n, k) :: r, acc => if (k == NameKind.free) = true then clFrom env r ((n, (env.cells.lookup n).getD 0) :: acc) else clFrom env r acc
theorem closure_loop {env : Env} {f : (Str × NameKind) → List (Str × Addr) → Sem (ForInStep (List (Str × Addr)))}
    (h1 : ∀ n k cs c, (k == NameKind.free) = true → env.cells.lookup n = some c → f (n, k) cs = pure (.yield ((n, c) :: cs))) (h2 : ∀ n k cs, (k == NameKind.free) = false → f (n, k) cs = pure (.yield cs)) :
    ∀ (names : List (Str × NameKind)) (acc : List (Str × Addr)), (∀ n ∈ freesOf names, ∃ c, env.cells.lookup n = some c) → forIn names acc f = pure (clFrom env names acc)
  | [], acc, _ => by rw [List.forIn_nil]; rfl
  | (n, k) :: r, acc, h => by
    rw [List.forIn_cons]
    cases e : (k == NameKind.free) with
    | true =>
      have hf : freesOf ((n, k) :: r) = n :: freesOf r := by show (if (k == NameKind.free) = true then n :: freesOf r else freesOf r) = _; rw [if_pos e]
      obtain ⟨c, hc⟩ := h n (by rw [hf]; exact List.mem_cons_self)
      rw [h1 n k acc c e hc, pure_bind]
      show forIn r ((n, c) :: acc) f = _
      rw [closure_loop h1 h2 r _ fun m hm => h m (by rw [hf]; exact List.mem_cons_of_mem _ hm)]
      have hcl : clFrom env ((n, k) :: r) acc = clFrom env r ((n, (env.cells.lookup n).getD 0) :: acc) := by
        show (if (k == NameKind.free) = true then _ else _) = _
        rw [if_pos e]
      rw [hcl, hc]
      rfl
    | false =>
      have hf : freesOf ((n, k) :: r) = freesOf r := by show (if (k == NameKind.free) = true then n :: freesOf r else freesOf r) = _; rw [if_neg (by rw [e]; decide)]
      rw [h2 n k acc e, pure_bind]
      show forIn r acc f = _
      rw [closure_loop h1 h2 r _ fun m hm => h m (by rw [hf]; exact hm)]
      have hcl : clFrom env ((n, k) :: r) acc = clFrom env r acc := by
        show (if (k == NameKind.free) = true then _ else _) = _
        rw [if_neg (by rw [e]; decide)]
      rw [hcl]
theorem closure_is {scope : Scope} {env : Env} (h : ∀ n ∈ freesOf scope.names, ∃ c, env.cells.lookup n = some c) : closureFor scope env = pure (clFrom env scope.names []) := by
  unfold closureFor
  show (forIn scope.names [] _ >>= _) = _
  rw [closure_loop (env := env) (fun n k cs c hk hc => ?_) (fun n k cs hk => ?_) scope.names [] h]
  · exact pure_bind _ _
  · dsimp only
    rw [if_pos hk]
    unfold cellOf
    rw [hc]
    rfl
  · dsimp only
    rw [if_neg (by rw [hk]; decide)]
theorem clFrom_lookup {env : Env} {x : Str} : ∀ (names : List (Str × NameKind)) (acc : List (Str × Addr)), (∀ n ∈ freesOf names, ∃ c, env.cells.lookup n = some c) →
    (clFrom env names acc).lookup x = if x ∈ freesOf names then env.cells.lookup x else acc.lookup x
  | [], acc, _ => by simp [clFrom, freesOf]
  | (n, k) :: r, acc, h => by
    cases e : (k == NameKind.free) with
    | true =>
      have hf : freesOf ((n, k) :: r) = n :: freesOf r := by show (if (k == NameKind.free) = true then n :: freesOf r else freesOf r) = _; rw [if_pos e]
      obtain ⟨c, hc⟩ := h n (by rw [hf]; exact List.mem_cons_self)
      have hcl : clFrom env ((n, k) :: r) acc = clFrom env r ((n, (env.cells.lookup n).getD 0) :: acc) := by
        show (if (k == NameKind.free) = true then _ else _) = _
        rw [if_pos e]
      rw [hcl, hf, clFrom_lookup r _ fun m hm => h m (by rw [hf]; exact List.mem_cons_of_mem _ hm)]
      by_cases hr : x ∈ freesOf r
      · rw [if_pos hr, if_pos (List.mem_cons_of_mem _ hr)]
      · rw [if_neg hr]
        by_cases hx : x = n
        · subst hx
          rw [if_pos List.mem_cons_self, hc]
          simp
        · rw [if_neg (by intro z; rcases List.mem_cons.mp z with z | z; exact hx z; exact hr z)]
          have hb : (x == n) = false := by simpa using hx
          rw [List.lookup_cons, hb]
    | false =>
      have hf : freesOf ((n, k) :: r) = freesOf r := by show (if (k == NameKind.free) = true then n :: freesOf r else freesOf r) = _; rw [if_neg (by rw [e]; decide)]
      have hcl : clFrom env ((n, k) :: r) acc = clFrom env r acc := by
        show (if (k == NameKind.free) = true then _ else _) = _
        rw [if_neg (by rw [e]; decide)]
      rw [hcl, hf, clFrom_lookup r _ fun m hm => h m (by rw [hf]; exact hm)]
structure CScope (X : Cx) (scope : Scope) (frees : List Str) : Prop where
  kind : scope.kind = .function
  nocell : ∀ y ∈ scope.names, y.2 ≠ .cell
  locs : ∀ y ∈ scope.names, y.2 = .local → scope.names.lookup y.1 = some .local
  sub : ∀ n ∈ freesOf scope.names, n ∈ frees
  free : ∀ n ∈ frees, scope.names.lookup n = some .free
  kinds : (frees.all fun n => X.env.kindOf n == some .cell || X.env.kindOf n == some .free) = true
theorem CScope.frees {X : Cx} {scope : Scope} {fr : List Str} (S : CScope X scope fr) : ∀ n ∈ freesOf scope.names, X.env.kindOf n = some .cell ∨ X.env.kindOf n = some .free := fun n hn => by
  have h := List.all_eq_true.mp S.kinds n (S.sub n hn)
  rcases Bool.or_eq_true _ _ ▸ h with h | h
  · exact .inl (eq_of_beq h)
  · exact .inr (eq_of_beq h)
theorem mem_freesOf {x : Str} : ∀ {names : List (Str × NameKind)}, (x, NameKind.free) ∈ names → x ∈ freesOf names
  | (n, k) :: r, h => by
    unfold freesOf
    rcases List.mem_cons.mp h with e | e
    · injection e with e1 e2
      subst e1 e2
      rw [if_pos (by rfl)]
      exact List.mem_cons_self
    · split
      · exact List.mem_cons_of_mem _ (mem_freesOf e)
      · exact mem_freesOf e
theorem relabel_lookup {env : Env} {x : Str} : ∀ {names : List (Str × NameKind)} {k : NameKind}, (names.map fun (n, k) => if (k == NameKind.free && env.scope.kind == .function && env.kindOf n == some .cell) then (n, NameKind.cell) else (n, k)).lookup x = some k →
    ∃ k0, names.lookup x = some k0 ∧ (k = k0 ∨ (k0 = .free ∧ k = .cell))
  | [], k, h => by simp at h
  | (n, k1) :: r, k, h => by
    rw [List.map_cons] at h
    by_cases hx : (x == n) = true
    · by_cases hc : (k1 == NameKind.free && env.scope.kind == .function && env.kindOf n == some .cell) = true
      · dsimp only at h
        rw [if_pos hc, List.lookup_cons, hx] at h
        have e : k = .cell := by injection h with h; exact h.symm
        have e1 : k1 = .free := by
          have := (Bool.and_eq_true _ _ ▸ (Bool.and_eq_true _ _ ▸ hc).1).1
          exact eq_of_beq this
        exact ⟨k1, by rw [List.lookup_cons, hx], .inr ⟨e1, e⟩⟩
      · dsimp only at h
        rw [if_neg hc, List.lookup_cons, hx] at h
        injection h with h
        exact ⟨k1, by rw [List.lookup_cons, hx], .inl h.symm⟩
    · have hx' : (x == n) = false := by simpa using hx
      have h' : (List.map (fun (n, k) => if (k == NameKind.free && env.scope.kind == .function && env.kindOf n == some .cell) then (n, NameKind.cell) else (n, k)) r).lookup x = some k := by
        by_cases hc : (k1 == NameKind.free && env.scope.kind == .function && env.kindOf n == some .cell) = true
        · dsimp only at h; rw [if_pos hc, List.lookup_cons, hx'] at h; exact h
        · dsimp only at h; rw [if_neg hc, List.lookup_cons, hx'] at h; exact h
      obtain ⟨k0, e1, e2⟩ := relabel_lookup h'
      exact ⟨k0, by rw [List.lookup_cons, hx']; exact e1, e2⟩
theorem relabel_free {env : Env} {x : Str} : ∀ {names : List (Str × NameKind)}, names.lookup x = some .free →
    (names.map fun (n, k) => if (k == NameKind.free && env.scope.kind == .function && env.kindOf n == some .cell) then (n, NameKind.cell) else (n, k)).lookup x = some .cell ∨
    (names.map fun (n, k) => if (k == NameKind.free && env.scope.kind == .function && env.kindOf n == some .cell) then (n, NameKind.cell) else (n, k)).lookup x = some .free
  | [], h => by simp at h
  | (n, k1) :: r, h => by
    rw [List.map_cons]
    by_cases hx : (x == n) = true
    · rw [List.lookup_cons, hx] at h
      injection h with h
      subst h
      by_cases hc : (NameKind.free == NameKind.free && env.scope.kind == .function && env.kindOf n == some .cell) = true
      · left; dsimp only; rw [if_pos hc, List.lookup_cons, hx]
      · right; dsimp only; rw [if_neg hc, List.lookup_cons, hx]
    · have hx' : (x == n) = false := by simpa using hx
      rw [List.lookup_cons, hx'] at h
      have ih := relabel_free (env := env) h
      by_cases hc : (k1 == NameKind.free && env.scope.kind == .function && env.kindOf n == some .cell) = true
      · dsimp only; rw [if_pos hc, List.lookup_cons, hx']; exact ih
      · dsimp only; rw [if_neg hc, List.lookup_cons, hx']; exact ih
structure CP where
  C : Addr
  s : Shared
  H : Hp
  pins : List (Addr × Obj)
  fp : List Addr
def cxC (X : Cx) (NC : List Str) (scope : Scope) (c : CP) : Cx where
  prog := X.prog
  w := X.w
  K := X.K
  mg := X.mg
  base := X.base
  A := X.A
  N := NC
  s₀ := c.s
  H₀ := c.H
  env := compEnvC scope (clFrom X.env scope.names []) c.C X.env
  outer := X.stack
  stack := X.stack
  ex := c.fp
  fn := fun _ => false
  calm := true
  pn := X.pn ++ c.pins
  xe := fun _ _ => False
section
variable {X : Cx} {scope : Scope} {frees : List Str} {NC : List Str} {pins : List (Addr × Obj)} {σ σc : St} {H H' : Hp} {s s' : Shared} {fp : List Addr} {C : Addr}
theorem CScope.has (S : CScope X scope frees) (ok : X.Ok) : ∀ n ∈ freesOf scope.names, ∃ c, X.env.cells.lookup n = some c := fun n hn => ok.has n (S.frees n hn)
theorem CScope.cells (S : CScope X scope frees) (ok : X.Ok) {x : Str} {c : Addr} (h : (clFrom X.env scope.names []).lookup x = some c) : x ∈ freesOf scope.names ∧ X.env.cells.lookup x = some c := by
  rw [clFrom_lookup scope.names [] (S.has ok)] at h
  by_cases hx : x ∈ freesOf scope.names
  · rw [if_pos hx] at h; exact ⟨hx, h⟩
  · rw [if_neg hx] at h; simp at h
theorem cxC_ok (S : CScope X scope frees) (hc : X.calm = true) (I : Inv X pins σ H s) (hf : ∀ b ∈ fp, FpOk X pins H b ∧ b < s.heap.objs.size) (hC : C = s.heap.objs.size) : (cxC X NC scope ⟨C, s, H, pins, fp⟩).Ok where
  mod := I.ok.mod
  kind := S.kind
  glob := I.ok.glob
  blt := I.ok.blt
  above := by show s.heap.objs.size ≤ C; rw [hC]; exact Nat.le_refl _
  inj := fun x y c h1 h2 => I.ok.inj x y c (S.cells I.ok h1).2 (S.cells I.ok h2).2
  has := fun x hx => by
    have hx' : ∃ k, (relabel scope X.env).names.lookup x = some k ∧ (k = .cell ∨ k = .free) := by
      rcases hx with h | h
      · exact ⟨_, h, .inl rfl⟩
      · exact ⟨_, h, .inr rfl⟩
    obtain ⟨k, h, hk⟩ := hx'
    obtain ⟨k0, e0, e1⟩ := relabel_lookup h
    have hm := PySem.mem_of_lookup e0
    have k0f : k0 = .free := by
      rcases e1 with e1 | ⟨e1, _⟩
      · rcases hk with hk | hk
        · exact absurd (e1 ▸ hk : k0 = .cell) (S.nocell _ hm)
        · exact e1 ▸ hk
      · exact e1
    subst k0f
    have hx2 := mem_freesOf hm
    obtain ⟨c, hcc⟩ := S.has I.ok x hx2
    exact ⟨c, by show (clFrom X.env scope.names []).lookup x = some c; rw [clFrom_lookup scope.names [] (S.has I.ok), if_pos hx2]; exact hcc⟩
  cab := fun x c h => nomatch h
  hd := fun _ => I.ok.hd hc
  frames := I.ok.frames
  stk := .inl rfl
  exf := fun b hb => ⟨fun z => by have := (hf b hb).2; rw [z] at this; exact absurd (hC ▸ this) (Nat.lt_irrefl _), fun x c h => (hf b hb).1.2.2.2.2.1 x c (S.cells I.ok h).2⟩
  bs := I.bs
  bsz := Nat.le_trans I.ok.bsz I.sz
  noex := fun b o e hb => by
    rcases (hf b hb).1.2.2.2.1 with z | z
    · exact I.ok.noex b o e z
    · exact absurd (Nat.lt_of_lt_of_le (Heap.lt_size e) (Nat.le_trans I.ok.bsz z)) (Nat.lt_irrefl _)
  exfs := fun b hb z => by
    rcases List.mem_cons.mp (I.stkSub b z) with e | e
    · exact (hf b hb).1.2.1 e
    · exact (hf b hb).1.2.2.1 e
  funs := I.stack
  frf := I.stkFree
def stC (own : List Str) (ix : List Nat) (σ : St) : St := own.map (fun _ => none) ++ ix.map fun i => (σ[i]?).join
theorem stC_get {own frees : List Str} {ix : List Nat} {σ : St} {NX : List Str} (hN : ix.map (fun i => NX[i]?) = frees.map some) {j : Nat} {x : Str} {v : V} (h1 : (own ++ frees)[j]? = some x) (h2 : (stC own ix σ)[j]? = some (some v)) :
    x ∈ frees ∧ ∃ i : Nat, NX[i]? = some x ∧ σ[i]? = some (some v) := by
  have hl : ix.length = frees.length := by have := congrArg List.length hN; simpa using this
  unfold stC at h2
  by_cases hj : j < own.length
  · rw [List.getElem?_append_left (by simpa using hj), List.getElem?_map] at h2
    cases e : own[j]? with
    | none => rw [e] at h2; simp at h2
    | some o => rw [e] at h2; simp at h2
  · rw [List.getElem?_append_right (by simpa using hj), List.getElem?_map, List.length_map] at h2
    rw [List.getElem?_append_right (by omega)] at h1
    have hm : (ix.map (fun i => NX[i]?))[j - own.length]? = (frees.map some)[j - own.length]? := by rw [hN]
    rw [List.getElem?_map, List.getElem?_map, h1] at hm
    cases e : ix[j - own.length]? with
    | none => rw [e] at h2; simp at h2
    | some i =>
      rw [e] at h2 hm
      simp only [Option.map_some, Option.some.injEq] at h2 hm
      refine ⟨List.mem_of_getElem? h1, i, hm, ?_⟩
      cases q : σ[i]? with
      | none => rw [q] at h2; simp at h2
      | some o => rw [q] at h2; simp at h2; rw [h2]
theorem stC_len {own frees : List Str} {ix : List Nat} {σ : St} {NX : List Str} (hN : ix.map (fun i => NX[i]?) = frees.map some) : (stC own ix σ).length = (own ++ frees).length := by
  have hl : ix.length = frees.length := by have := congrArg List.length hN; simpa using this
  unfold stC
  simp [hl]
theorem cxC_inv {own : List Str} {ix : List Nat} {h₁ : Heap} {tk : Nat} (S : CScope X scope frees) (hc : X.calm = true) (I : Inv X pins σ H s) (hf : ∀ b ∈ fp, FpOk X pins H b ∧ b < s.heap.objs.size) (hC : C = s.heap.objs.size)
    (hN : ix.map (fun i => X.N[i]?) = frees.map some) (hns : ∃ m, h₁.Ns C m) (hk : ∀ b o, s.heap.get? b = some o → h₁.get? b = some o) :
    Inv (cxC X (own ++ frees) scope ⟨C, s, H, pins, fp⟩) [] (stC own ix σ) H { s with heap := h₁, toks := tk } := by
  obtain ⟨m, hm⟩ := hns
  refine ⟨cxC_ok S hc I hf hC, rfl, I.bare, Un.kept hk, ⟨m, hm, fun j x v h1 h2 h3 => ?_⟩, fun x c h => ?_, ?_, fun x c h => ?_, fun p hp => ?_, I.hok.kept hk, stC_len hN⟩
  · obtain ⟨hx, i, e1, e2⟩ := stC_get hN h1 h2
    have hfree := S.free x hx
    have hmf := mem_freesOf (PySem.mem_of_lookup hfree)
    have hkx := S.frees x hmf
    obtain ⟨m0, _, hl⟩ := I.loc
    have vis : Vis X.env.scope x := by rcases hkx with z | z; exact .inr (.inl z); exact .inr (.inr z)
    obtain ⟨u, r, l⟩ := hl i x v e1 e2 vis
    refine ⟨u, r, ?_⟩
    rcases l with ⟨kl, _⟩ | ⟨_, c, ec, ic⟩
    · rcases hkx with z | z
      · rw [kl] at z; cases z
      · rw [kl] at z; cases z
    · refine .inr ⟨relabel_free (env := X.env) hfree, c, ?_, ?_⟩
      · show (clFrom X.env scope.names []).lookup x = some c
        rw [clFrom_lookup scope.names [] (S.has I.ok), if_pos hmf]
        exact ec
      · obtain ⟨o, ho, hd⟩ := ic
        exact ⟨o, hk _ _ ho, hd⟩
  · obtain ⟨_, e⟩ := S.cells I.ok h
    obtain ⟨v, o, ho, hd⟩ := I.cell x c e
    exact ⟨v, o, hk _ _ ho, hd⟩
  · show H C = none
    rw [hC]
    exact I.hok.fresh (Nat.le_refl _)
  · exact I.freeC x c (S.cells I.ok h).2
  · have hp' : p ∈ X.pn ++ pins := by
      have : p ∈ (X.pn ++ pins) ++ [] := hp
      rwa [List.append_nil] at this
    obtain ⟨e, n, ne, nf, d⟩ := I.pin p hp'
    refine ⟨hk _ _ e, n, ?_, fun z => ?_, d⟩
    · show p.1 ≠ C
      rw [hC]
      exact Nat.ne_of_lt (Heap.lt_size e)
    · rcases List.mem_cons.mp (I.stkSub p.1 z) with q | q
      · exact ne q
      · exact nf q
theorem cxC_fp {NC : List Str} (S : CScope X scope frees) (I : Inv X pins σ H s) (hf : ∀ b ∈ fp, FpOk X pins H b ∧ b < s.heap.objs.size) (hC : C = s.heap.objs.size) {b : Addr} (hb : b ∈ fp) (hn : H' b = none) : FpOk (cxC X NC scope ⟨C, s, H, pins, fp⟩) [] H' b := by
  refine ⟨hn, ?_, fun z => ?_, .inl hb, fun x c h => (hf b hb).1.2.2.2.2.1 x c (S.cells I.ok h).2, fun p hp => (hf b hb).1.2.2.2.2.2 p ?_⟩
  · show b ≠ C
    rw [hC]
    exact Nat.ne_of_lt (hf b hb).2
  · rcases List.mem_cons.mp (I.stkSub b z) with q | q
    · exact (hf b hb).1.2.1 q
    · exact (hf b hb).1.2.2.1 q
  · have : p ∈ (X.pn ++ pins) ++ [] := hp
    rwa [List.append_nil] at this
theorem cxC_back {NC : List Str} (I : Inv X pins σ H s) (hf : ∀ b ∈ fp, FpOk X pins H b ∧ b < s.heap.objs.size) (J : Inv (cxC X NC scope ⟨C, s, H, pins, fp⟩) [] σc H' s') : Inv X pins σ H' s' :=
  I.call' J.os J.base J.hok J.bare fun b hb => ⟨(hf b hb).1.2.2.2.1, (hf b hb).1.2.1, (hf b hb).1.2.2.2.2.1, (hf b hb).1.2.2.2.2.2⟩
theorem cxC_gone {h' : Heap} (I : Inv X pins σ H s) (hn : H C = none) (h1 : C ≠ X.env.locals) (h2 : X.s₀.heap.objs.size ≤ C) (h3 : ∀ x c, X.env.cells.lookup x = some c → c ≠ C) (h4 : ∀ p ∈ X.pn ++ pins, p.1 ≠ C) (hs : Heap.SameBut C s.heap h') :
    Inv X pins σ H { s with heap := h' } := I.turned (t' := s.toks) (fun b o hb e => (hs.2 b hb).trans e) hn h1 (.inr h2) h3 h4
end
inductive KSt : St → St → Prop
  | nil : KSt [] []
  | own {o : Option V} {a b : St} : KSt a b → KSt (none :: a) (o :: b)
  | keep {o : Option V} {a b : St} : KSt a b → KSt (o :: a) (o :: b)
theorem KSt.len : ∀ {a b : St}, KSt a b → b.length = a.length
  | _, _, .nil => rfl
  | _, _, .own h => congrArg (· + 1) h.len
  | _, _, .keep h => congrArg (· + 1) h.len
theorem KSt.get : ∀ {a b : St}, KSt a b → ∀ (i : Nat) v, a[i]? = some (some v) → b[i]? = some (some v)
  | _, _, .nil, i, v, e => by simp at e
  | _, _, .own h, 0, v, e => by simp at e
  | _, _, .own h, i + 1, v, e => by
    rw [List.getElem?_cons_succ] at e ⊢
    exact h.get i v e
  | _, _, .keep h, 0, v, e => by simpa using e
  | _, _, .keep h, i + 1, v, e => by
    rw [List.getElem?_cons_succ] at e ⊢
    exact h.get i v e
inductive PIf (X : Cx) : List Expr → TT → Prop
  | nil : PIf X [] (fun _ H Q => Q true H)
  | one {c : Expr} {t : TT} : PT X c t → PIf X [c] t
theorem PIf.run {X : Cx} {ifs : List Expr} {t : TT} (h : PIf X ifs t) {pins : List (Addr × Obj)} {s : Shared} {σ : St} {H : Hp} {Q : Bool → Hp → Prop} (I : Inv X pins σ H s) (hw : t σ H Q) :
    wpAny (model X.prog X.w) X.A (forIn ifs true fun c r => if r = true then do let ok ← isTrue c X.env (eval c X.env); pure (ForInStep.yield ok) else pure (ForInStep.yield r)) (TP X pins σ Q) X.xe s := by
  cases h with
  | nil => exact wpAny_tests_nil ⟨H, I, hw⟩
  | one h => exact wpAny_tests_one (h pins s σ H Q I hw)
def cBody (σc : St) (acc : Addr) (g : TG) (tt : TT) (te : TE) (x : V) (ys : List V) (H : Hp) (N : List V → Hp → Prop) : Prop :=
  g x σc H fun σ2 H2 => KSt σc σ2 ∧ tt σ2 H2 fun b H3 => if b = true then te σ2 H3 fun y H4 => H4 acc = some (.lst ys) ∧ ys.length < sizeLine ∧ N (ys ++ [y]) (upd H4 acc (.lst (ys ++ [y]))) else N ys H3
def cLoop (J : It) (σc : St) (acc : Addr) (g : TG) (tt : TT) (te : TE) (H : Hp) (Q : VK) : Prop :=
  ∃ W : Nat → Nat → List V → Hp → Prop, (∃ m, W 0 m [] H) ∧ ∀ i m ys H, W i m ys H → H acc = some (.lst ys) ∧
    ((J.stop i H ∧ Q (.ref acc) H) ∨ (J.go i H ∧ ∃ N : List V → Hp → Prop, (∀ ys' H', N ys' H' → ∃ m', m' < m ∧ W (i + 1) m' ys' H') ∧ ∀ x H', J.yld i H x H' → cBody σc acc g tt te x ys H' N))
def tComp (own : List Str) (ix : List Nat) (wi : TI) (g : CP → TG) (tt : CP → TT) (te : CP → TE) : TE := fun σ H Q =>
  wi σ H fun J H1 => ∀ (c : CP) (acc : Addr), H1 acc = none → cLoop J (stC own ix σ) acc (g c) (tt c) (te c) (upd H1 acc (.lst [])) Q
section
variable {X : Cx} {scope : Scope} {own frees : List Str} {ix : List Nat} {tg elt iter : Expr} {ifs : List Expr} {pos : Pos} {wi : TI} {g : CP → TG} {tt : CP → TT} {te : CP → TE}
theorem comp_loop {J : It} {it acc : Addr} {fp : List Addr} {tn : Nat → Heap → Prop} {c : CP} {σ : St} {H : Hp} {s : Shared} {Q : VK} {R : Result → Shared → Prop}
    (hfp : c.fp = fp) (T : Turn X.prog X.w X.K tg J fp it tn) (hg : PG (cxC X (own ++ frees) scope c) tg (g c)) (ht : PIf (cxC X (own ++ frees) scope c) ifs (tt c)) (he : PE (cxC X (own ++ frees) scope c) elt (te c))
    (fpk : ∀ b ∈ fp, ∀ H' : Hp, H' b = none → FpOk (cxC X (own ++ frees) scope c) [] H' b)
    (I : Inv (cxC X (own ++ frees) scope c) [] (stC own ix σ) H s) (st : tn 0 s.heap) (fr : ∀ b ∈ fp, H b = none) (h : cLoop J (stC own ix σ) acc (g c) (tt c) (te c) H Q)
    (hR : ∀ s' H', Inv (cxC X (own ++ frees) scope c) [] (stC own ix σ) H' s' → Q (.ref acc) H' → R (.ok .next) s') :
    codeAny (model X.prog X.w) X.A (.compLoop (.ListComp elt [⟨tg, iter, ifs, 0⟩] scope pos) 0 (.ref it) (.ref acc) (cxC X (own ++ frees) scope c).env) R s := by
  obtain ⟨W, ⟨m0, w0⟩, turn⟩ := h
  refine codeAny_loop rfl (fun n s' => ∃ i ys H', Inv (cxC X (own ++ frees) scope c) [] (stC own ix σ) H' s' ∧ tn i s'.heap ∧ (∀ b ∈ fp, H' b = none) ∧ W i n ys H') (fun n s1 hI => ?_) m0 ⟨0, [], H, I, st, fr, w0⟩
  obtain ⟨i, ys, H1, I1, st1, fr1, w1⟩ := hI
  show wpAny _ X.A ((compTurn (.ListComp elt [⟨tg, iter, ifs, 0⟩] scope pos) 0 (.ref it) (.ref acc) (cxC X (own ++ frees) scope c).env).onRaise (fun x => do noteFrame x (cxC X (own ++ frees) scope c).env; theTreesLotGoes x)) _ _ s1
  have nv : ∀ {α : Type} {t : Sem α} {P : α → Shared → Prop} {s : Shared}, wpAny (model X.prog X.w) X.A t P (fun _ _ => False) s → wpAny (model X.prog X.w) X.A t P (notedBy (model X.prog X.w) X.A (cxC X (own ++ frees) scope c).env fun e s' => R (.error e) s') s :=
    fun h => wpAny_mono h (fun _ _ q => q) fun _ _ z => z.elim
  refine wpAny_noted ?_
  rw [compTurn_list]
  obtain ⟨ha, hw⟩ := turn i n ys H1 w1
  rcases hw with ⟨stop, q⟩ | ⟨go, N, hN, step⟩
  · refine wpAny_bind (wpAny_standAt (wpAny_bind (nv (thn (T.done (cxC X (own ++ frees) scope c) rfl rfl rfl rfl i [] s1 _ H1 (fun _ _ => False) I1 (fun b hb => fpk b hb H1 (fr1 b hb)) st1 stop) fun r s2 ⟨hr, I2⟩ => ?_))))
    subst hr
    exact wpAny_pure (hR s2 H1 I2 q)
  · refine wpAny_bind (wpAny_standAt (wpAny_bind (nv (thn (T.item (cxC X (own ++ frees) scope c) rfl rfl rfl rfl i [] s1 _ H1 (fun _ _ => False) I1 (fun b hb => fpk b hb H1 (fr1 b hb)) st1 go) fun r s2 ⟨u, hr, h2⟩ => ?_))))
    subst hr
    refine wpAny_bind (nv (thn h2 fun _ s3 ⟨x, H3, I3, r3, y3, st3, fr3⟩ => ?_))
    have I3' := I3.pinned (fun b hb => fpk b hb H3 (fr3 b hb)) (T.obj _ _ st3)
    refine wpAny_bind (nv (thn (hg _ s3 _ H3 x u _ I3' r3 (step x H3 y3)) fun _ s4 ⟨σ4, H4, I4, ks, q4⟩ => ?_))
    refine wpAny_bind (nv (thn (ht.run I4 q4) fun ok s5 ⟨H5, I5, q5⟩ => ?_))
    have keepT : ∀ {s6 : Shared} {σ6 : St} {H6 : Hp}, Inv (cxC X (own ++ frees) scope c) ([] ++ pinsAt fp s3.heap) σ6 H6 s6 → tn (i + 1) s6.heap ∧ ∀ b ∈ fp, H6 b = none := fun {s6 σ6 H6} I6 =>
      ⟨T.keep _ _ _ st3 fun b hb o e => (I6.pin (b, o) (List.mem_append_right _ (List.mem_append_right _ (mem_pinsAt hb e)))).1, fun b hb => by
        obtain ⟨o, e, d⟩ := T.obj _ _ st3 b hb
        exact (I6.pin (b, o) (List.mem_append_right _ (List.mem_append_right _ (mem_pinsAt hb e)))).2.1⟩
    cases ok with
    | false =>
      rw [if_neg (by decide)] at q5
      obtain ⟨m', hm, w5⟩ := hN _ _ q5
      obtain ⟨k1, k2⟩ := keepT I5
      exact wpAny_pure ⟨rfl, m', hm, i + 1, ys, H5, (I5.unpinned).weak ks.len.symm ks.get, k1, k2, w5⟩
    | true =>
      rw [if_pos rfl] at q5
      refine wpAny_bind (wpAny_bind (nv (thn (he _ s5 _ H5 _ I5 q5) fun y s6 ⟨yv, H6, I6, r6, a6, l6, q6⟩ => ?_)))
      obtain ⟨m', hm, w6⟩ := hN _ _ q6
      obtain ⟨k1, k2⟩ := keepT I6
      refine wpAny_bind (nv (thn (mt_append (X := cxC X (own ++ frees) scope c) _ s6 _ H6 (.ref acc) [yv] (.ref acc) [y] (fun _ H7 => H7 = upd H6 acc (.lst (ys ++ [yv]))) I6 rfl (.cons r6 .nil) ⟨acc, ys, yv, rfl, rfl, a6, l6, rfl⟩) fun _ s7 ⟨_, H7, I7, _, e7⟩ => ?_))
      subst e7
      obtain ⟨k1, k2⟩ := keepT I7
      exact wpAny_pure (wpAny_pure ⟨rfl, m', hm, i + 1, ys ++ [yv], _, (I7.unpinned).weak ks.len.symm ks.get, k1, k2, w6⟩)
structure CGone (X : Cx) (pins : List (Addr × Obj)) (C : Addr) (H : Hp) : Prop where
  no : H C = none
  loc : C ≠ X.env.locals
  old : X.s₀.heap.objs.size ≤ C
  cel : ∀ x c, X.env.cells.lookup x = some c → c ≠ C
  pin : ∀ p ∈ X.pn ++ pins, p.1 ≠ C
theorem CGone.inv {pins : List (Addr × Obj)} {σ : St} {H : Hp} {s : Shared} {C : Addr} {h' : Heap} (G : CGone X pins C H) (I : Inv X pins σ H s) (hs : Heap.SameBut C s.heap h') : Inv X pins σ H { s with heap := h' } :=
  cxC_gone I G.no G.loc G.old G.cel G.pin hs
theorem comp_block {pins : List (Addr × Obj)} {σ : St} {H : Hp} {s : Shared} {Q : VK} {RR : Value → Addr → Result → Shared → Prop} {E : Value → Shared → Prop} {J : It} {it : Addr} {fp : List Addr} {tn : Nat → Heap → Prop}
    (S : CScope X scope frees) (hc : X.calm = true) (hN : ix.map (fun i => X.N[i]?) = frees.map some)
    (hg : ∀ c, PG (cxC X (own ++ frees) scope c) tg (g c)) (ht : ∀ c, PIf (cxC X (own ++ frees) scope c) ifs (tt c)) (he : ∀ c, PE (cxC X (own ++ frees) scope c) elt (te c))
    (I : Inv X pins σ H s) (T : Turn X.prog X.w X.K tg J fp it tn) (st : tn 0 s.heap) (hf : ∀ b ∈ fp, FpOk X pins H b)
    (h : ∀ (c : CP) (acc : Addr), H acc = none → cLoop J (stC own ix σ) acc (g c) (tt c) (te c) (upd H acc (.lst [])) Q)
    (hRR : ∀ (acc C : Addr) s' H' m, Inv X pins σ H' s' → s'.heap.Ns C m → CGone X pins C H' → Q (.ref acc) H' → RR (.ref acc) C (.ok .next) s') :
    wpAny (model X.prog X.w) X.A (newList []) (fun acc s₃ => wpAny (model X.prog X.w) X.A (newFunctionEnv scope X.env.globals (clFrom X.env scope.names []) [] X.env.qual none .none (some X.env)) (fun cenv s₄ =>
      codeAny (model X.prog X.w) X.A (.compStart (.ListComp elt [⟨tg, iter, ifs, 0⟩] scope pos) 0 (.ref it) acc { cenv with scope := relabel scope X.env }) (RR acc cenv.locals) s₄) E s₃) E s := by
  refine wpAny_newObj_type (wpAny_newFunctionEnv S.nocell (by intro y hy; simp at hy) (fun h₁ hns hsb => ?_) S.kind)
  dsimp only at hns hsb ⊢
  have hn0 : H s.heap.objs.size = none := I.hok.fresh (Nat.le_refl _)
  have I3 : Inv X pins σ (upd H s.heap.objs.size (.lst [])) { s with heap := s.heap.push { cls := .type "list", data := .seq ([] : List Value).toArray } } := I.lnew (its := []) (t' := s.toks) .nil (Nat.zero_le _)
  generalize hs3 : ({ s with heap := s.heap.push { cls := .type "list", data := .seq ([] : List Value).toArray } } : Shared) = s3 at I3
  have e3 : s3.heap = s.heap.push { cls := .type "list", data := .seq ([] : List Value).toArray } := by rw [← hs3]
  have ob : ∀ b ∈ fp, b < s.heap.objs.size := fun b hb => by
    obtain ⟨o, e, _⟩ := T.obj _ _ st b hb
    exact Heap.lt_size e
  have sz : s3.heap.objs.size = s.heap.objs.size + 1 := by rw [e3, Heap.size_push]
  have hf3 : ∀ b ∈ fp, FpOk X pins (upd H s.heap.objs.size (.lst [])) b ∧ b < s3.heap.objs.size := fun b hb =>
    ⟨⟨by rw [upd_ne (Nat.ne_of_lt (ob b hb))]; exact (hf b hb).1, (hf b hb).2⟩, by rw [sz]; exact Nat.lt_succ_of_lt (ob b hb)⟩
  have kp : ∀ b o, s3.heap.get? b = some o → h₁.get? b = some o := fun b o e => by
    refine hsb.extBut b o ?_ (Heap.get?_push_of_some _ (e3 ▸ e))
    rw [← e3]
    exact Nat.ne_of_lt (Heap.lt_size e)
  have nsC : h₁.Ns s3.heap.objs.size (fun x => ([] : List (Str × Value)).reverse.lookup x) := by rw [e3]; exact hns
  have J0 : Inv (cxC X (own ++ frees) scope ⟨s3.heap.objs.size, s3, upd H s.heap.objs.size (.lst []), pins, fp⟩) [] (stC own ix σ) (upd H s.heap.objs.size (.lst [])) { s3 with heap := h₁, toks := s.toks + 0 } :=
    cxC_inv S hc I3 hf3 rfl hN ⟨_, nsC⟩ kp
  have fpk : ∀ b ∈ fp, ∀ H' : Hp, H' b = none → FpOk (cxC X (own ++ frees) scope ⟨s3.heap.objs.size, s3, upd H s.heap.objs.size (.lst []), pins, fp⟩) [] H' b := fun b hb H' hn => cxC_fp S I3 hf3 rfl hb hn
  have st1 : tn 0 h₁ := T.keep _ _ _ st fun b hb o e => kp b o (by rw [e3]; exact Heap.get?_push_of_some _ e)
  have loop : codeAny (model X.prog X.w) X.A (.compLoop (.ListComp elt [⟨tg, iter, ifs, 0⟩] scope pos) 0 (.ref it) (.ref s.heap.objs.size) (cxC X (own ++ frees) scope ⟨s3.heap.objs.size, s3, upd H s.heap.objs.size (.lst []), pins, fp⟩).env)
      (RR (.ref s.heap.objs.size) s3.heap.objs.size) { s3 with heap := h₁, toks := s.toks + 0 } := by
    refine comp_loop rfl T (hg _) (ht _) (he _) fpk J0 st1 (fun b hb => (hf3 b hb).1.1) (h _ _ hn0) fun s' H' I' q => ?_
    obtain ⟨m, hm, _⟩ := I'.loc
    refine hRR _ _ s' H' m (cxC_back I3 hf3 I') hm ⟨I'.free, Nat.ne_of_gt I3.lt, I3.sz, fun x c e z => ?_, fun p hp z => ?_⟩ q
    · obtain ⟨v, q⟩ := I3.cell x c e
      exact absurd (Nat.lt_of_lt_of_le q.lt (by rw [z]; exact Nat.le_refl _)) (Nat.lt_irrefl _)
    · exact absurd (Nat.lt_of_lt_of_le (Heap.lt_size (I3.pin p hp).1) (by rw [z]; exact Nat.le_refl _)) (Nat.lt_irrefl _)
  have loop' := loop
  rw [← hs3] at loop'
  exact codeAny_compStart_list loop' (T.self _ 0 _ _ _ st1 loop')
theorem pe_comp (hi : PI X tg iter wi)
    (hg : ∀ c, PG (cxC X (own ++ frees) scope c) tg (g c)) (ht : ∀ c, PIf (cxC X (own ++ frees) scope c) ifs (tt c)) (he : ∀ c, PE (cxC X (own ++ frees) scope c) elt (te c)) (S : CScope X scope frees := by exact ⟨rfl, by decide +kernel, by decide +kernel, by decide +kernel, by decide +kernel, rfl⟩) (hc : X.calm = true := by rfl) (hN : ix.map (fun i => X.N[i]?) = frees.map some := by rfl) (hs : ∀ x, foldedSetIterable iter X.env x = pure x := by intro _; rfl) :
    PE X (.ListComp elt [⟨tg, iter, ifs, 0⟩] scope pos) (tComp own ix wi g tt te) := by
  intro pins s σ H Q I h
  rw [eval_ListComp]
  refine wpAny_comprehension_free (use := none) rfl hs (closure_is (S.has I.ok)) S.kind S.locs (thn (hi pins s σ H _ I h) fun v s1 h1 => thn h1 fun itv s2 h2 => ?_)
  obtain ⟨it, fp, tn, J, H2, e, I2, T, st2, f2, hw⟩ := h2
  subst e
  refine comp_block S hc hN hg ht he I2 T st2 f2 hw fun acc C s' H' m I' hm G q => ?_
  exact ⟨m, hm, fun h' hs' => ⟨.ref acc, H', G.inv I' hs', rfl, q⟩⟩
theorem ps_comp {i : Nat} {x : Str} {pos' spos : Pos} (hNd : X.N.Nodup) (hi' : X.N[i]? = some x) (hx : Loc X.env.scope x) (hi : PI X tg iter wi)
    (hg : ∀ c, PG (cxC X (own ++ frees) scope c) tg (g c)) (ht : ∀ c, PIf (cxC X (own ++ frees) scope c) ifs (tt c)) (he : ∀ c, PE (cxC X (own ++ frees) scope c) elt (te c)) (S : CScope X scope frees := by exact ⟨rfl, by decide +kernel, by decide +kernel, by decide +kernel, by decide +kernel, rfl⟩) (hc : X.calm = true := by rfl) (hN : ix.map (fun i => X.N[i]?) = frees.map some := by rfl) (hs : ∀ x, foldedSetIterable iter X.env x = pure x := by intro _; rfl)
    (hsw : swapsWith (.ListComp elt [⟨tg, iter, ifs, 0⟩] scope pos) (some (.Name x pos')) spos.line X.env = pure true := by rfl) (hf : X.fn x = true ∨ X.env.scope.names.lookup x = some .local := by first | exact .inl rfl | exact .inr rfl | assumption) :
    PS X (.Assign [.Name x pos'] (.ListComp elt [⟨tg, iter, ifs, 0⟩] scope pos) spos) (tAsg (tComp own ix wi g tt te) (gName i)) := by
  intro pins s σ H D I h
  rw [exec_Assign_Name_used _ _ _ _ hsw]
  refine wpAny_bind (wpAny_standAt (wpAny_bind ?_))
  show wpAny _ X.A (do let _ ← comprehension (.ListComp elt [⟨tg, iter, ifs, 0⟩] scope pos) scope X.env _ (newList []) false (eval iter X.env) (some (assign (.Name x pos') X.env))) _ _ s
  refine wpAny_bind (wpAny_mono (wpAny_comprehension_free (use := some (assign (.Name x pos') X.env)) (Q := fun _ s' => SP X pins D .next s') rfl hs (closure_is (S.has I.ok)) S.kind S.locs
    (thn (hi pins s σ H _ I h) fun v s1 h1 => thn h1 fun itv s2 h2 => ?_)) (fun _ s' hq => wpAny_pure (wpAny_pure hq)) fun _ _ e => e)
  obtain ⟨it, fp, tn, J, H2, e, I2, T, st2, f2, hw⟩ := h2
  subst e
  refine comp_block S hc hN hg ht he I2 T st2 f2 hw fun acc C s' H' m I' hm G q => ?_
  show wpAny _ X.A (assign (.Name x pos') X.env (.ref acc)) _ _ _
  refine wpAny_assign_Name (store_ok2 I' hNd hi' hx (v := .ref acc) rfl (fun s2 I2' ch => ?_) hf)
  obtain ⟨a, sb, ha⟩ := ch
  have hne : C ≠ a := by
    rcases ha with e | e
    · rw [e]; exact G.loc
    · exact (G.cel _ _ e).symm
  exact ⟨m, hm.sameBut sb hne, fun h' hs' => ⟨_, H', G.inv I2' hs', q⟩⟩
end
section
variable {σc : St} {acc : Addr} {g : TG} {tt : TT} {te : TE} {H : Hp} {Q : VK}
theorem comp_by {J : It} {n : Nat} (Pv : Nat → List V → Hp → Prop) (h0 : Pv 0 [] H) (ha : ∀ i ys H, i ≤ n → Pv i ys H → H acc = some (.lst ys)) (hgo : ∀ i ys H, i < n → Pv i ys H → J.go i H) (hst : ∀ ys H, Pv n ys H → J.stop n H)
    (hs : ∀ i ys H x H', i < n → Pv i ys H → J.yld i H x H' → cBody σc acc g tt te x ys H' (Pv (i + 1))) (hd : ∀ ys H, Pv n ys H → Q (.ref acc) H) : cLoop J σc acc g tt te H Q := by
  refine ⟨fun i m ys H => m = n - i ∧ i ≤ n ∧ Pv i ys H, ⟨n, by simp, Nat.zero_le _, h0⟩, ?_⟩
  rintro i m ys H ⟨rfl, hi, p⟩
  refine ⟨ha i ys H hi p, ?_⟩
  by_cases hlt : i < n
  · exact .inr ⟨hgo i ys H hlt p, Pv (i + 1), fun ys' H' p' => ⟨n - (i + 1), by omega, rfl, hlt, p'⟩, fun x H' y => hs i ys H x H' hlt p y⟩
  · have e : i = n := by omega
    subst e
    exact .inl ⟨hst ys H p, hd ys H p⟩
theorem comp_range {lo : Int} {n : Nat} (Pv : Nat → List V → Hp → Prop) (h0 : Pv 0 [] H) (ha : ∀ i ys H, i ≤ n → Pv i ys H → H acc = some (.lst ys))
    (hs : ∀ i ys H, i < n → Pv i ys H → cBody σc acc g tt te (.int (lo + i)) ys H (Pv (i + 1))) (hd : ∀ ys H, Pv n ys H → Q (.ref acc) H) : cLoop (Itr lo n) σc acc g tt te H Q :=
  comp_by Pv h0 ha (fun i ys H hlt _ => hlt) (fun _ _ _ => Nat.le_refl _) (fun i ys H x H' hlt p y => by
    obtain ⟨e, y⟩ := y
    subst e y
    exact hs i ys _ hlt p) hd
theorem comp_list {K : PySem.W.Frag} {a : Addr} {xs : List V} (Pv : Nat → List V → Hp → Prop) (h0 : Pv 0 [] H) (ha : ∀ i ys H, i ≤ xs.length → Pv i ys H → H acc = some (.lst ys)) (hl : ∀ i ys H, i ≤ xs.length → Pv i ys H → SqL K H a xs)
    (hs : ∀ i ys H x, xs[i]? = some x → Pv i ys H → cBody σc acc g tt te x ys H (Pv (i + 1))) (hd : ∀ ys H, Pv xs.length ys H → Q (.ref acc) H) : cLoop (Itl K a) σc acc g tt te H Q :=
  comp_by Pv h0 ha (fun i ys H hlt p => ⟨xs, xs[i], hl i ys H (Nat.le_of_lt hlt) p, by simp [hlt]⟩) (fun ys H p => ⟨xs, hl _ ys H (Nat.le_refl _) p, Nat.le_refl _⟩) (fun i ys H x H' hlt p y => by
    obtain ⟨e, y⟩ := y
    subst e
    exact hs i ys _ x (y xs (hl i ys _ (Nat.le_of_lt hlt) p)) p) hd
theorem comp_tup {K : PySem.W.Frag} {a : Addr} {xs : List V} (Pv : Nat → List V → Hp → Prop) (h0 : Pv 0 [] H) (ha : ∀ i ys H, i ≤ xs.length → Pv i ys H → H acc = some (.lst ys)) (hl : ∀ i ys H, i ≤ xs.length → Pv i ys H → SqT K H a xs)
    (hs : ∀ i ys H x, xs[i]? = some x → Pv i ys H → cBody σc acc g tt te x ys H (Pv (i + 1))) (hd : ∀ ys H, Pv xs.length ys H → Q (.ref acc) H) : cLoop (Itt K a) σc acc g tt te H Q :=
  comp_by Pv h0 ha (fun i ys H hlt p => ⟨xs, xs[i], hl i ys H (Nat.le_of_lt hlt) p, by simp [hlt]⟩) (fun ys H p => ⟨xs, hl _ ys H (Nat.le_refl _) p, Nat.le_refl _⟩) (fun i ys H x H' hlt p y => by
    obtain ⟨e, y⟩ := y
    subst e
    exact hs i ys _ x (y xs (hl i ys _ (Nat.le_of_lt hlt) p)) p) hd
end
end L2
namespace L2
open PySem PySem.Spec PyProof.Rows
section
variable {X : Cx}
theorem bools_of : ∀ {bs : List Bool} {its : List Value}, Vals (bs.map V.bl) its → LSm.BoolsAre its bs
  | [], _, .nil => .nil
  | b :: r, _, .cons q t => by
    cases q
    exact .cons b (bools_of t)
theorem call_all (hc : X.calm = true) : CallR X (.builtin "all") (fun xs H Q => ∃ (p : Addr) (bs : List Bool), xs = [.ref p] ∧ SqL X.K H p (bs.map V.bl) ∧ Q (.bl (bs.all id)) H) := by
  intro pins s σ H xs us Q I r h
  obtain ⟨p, bs, rfl, hq, q⟩ := h
  obtain ⟨u, rfl, ru⟩ := vals1 r
  cases ru
  obtain ⟨vs, rv, pl, hz⟩ := I.list hq
  have hb := bools_of rv
  have hl := pl.isList
  have hlt : p < s.heap.objs.size := by obtain ⟨_, e, _⟩ := hl; exact Heap.lt_size e
  refine call_all_walk (wpAny_pyIter_list hl ?_)
  refine ⟨s.heap.objs.size, [s.heap.objs.size, p], [s.heap.objs.size], vs.toArray.size, _, _, fun i => (bs[i]?).getD true, rfl, Walks.list (A := X.A.in1) (I.ok.hd hc) _ p (Nat.ne_of_lt hlt) vs.toArray,
    ⟨⟨_, Heap.get?_push_size _ rfl, rfl, rfl⟩, hl.push _⟩, fun i v s' Q' E' hP hQ => ?_, fun h' tk hk => ?_⟩
  · obtain ⟨b, e, rfl⟩ := hb.get i v (by simpa using hP)
    simp only [e, Option.getD_some] at hQ
    exact wpAny_truthy_bool hQ
  · have e : ((List.range vs.toArray.size).all fun i => (bs[i]?).getD true) = bs.all id := by
      rw [List.size_toArray, hb.length]; exact LSm.range_all bs
    rw [e]
    exact ⟨.bl _, H, I.kept (h' := h') (t' := tk) (LSm.kept_iter hk), rfl, q⟩
theorem op_fdivL : OpR X (binaryOp .FloorDiv) (rI (fun _ j => 0 < j ∧ j.natAbs.log2 < 9000) fun i j => .int (i / j)) := opI fun i j _ _ _ _ _ hc q => by
  have h1 : (0 : Int) < j := hc.1
  exact floordiv_int (by omega) (by rw [Int.fdiv_eq_ediv_of_nonneg i (by omega)]; exact q) (.inl (PyProof.noPylong_of_log2 hc.2))
def Its (y : Str) : It := ⟨fun i _ => i < y.cps.size, fun i H x H' => H' = H ∧ ∃ c, y.cps[i]? = some c ∧ x = .str ⟨#[c]⟩, fun i _ => i = y.cps.size⟩
theorem turn_str {P : Program} {w : World} {K : PySem.W.Frag} {nm : Str} {px : Pos} {ty : String} {y : Str} {t : Tok} (it : Addr)
    (W : ∀ A : Around, A.handled = none → Walks P w A it [it] [it] y.cps.size (SignAt y) (fun i h => h.IsStrIter it ty y t i))
    (sf : ∀ (A : Around) (i : Nat) (s : Shared) (Q : Value → Shared → Prop) (E : Value → Shared → Prop), s.heap.IsStrIter it ty y t i → Q (.ref it) s → wpAny (model P w) A (pyIter (.ref it)) Q E s) : Turn P w K (.Name nm px) (Its y) [it] it (fun i h => h.IsStrIter it ty y t i) where
  mem := by simp
  obj := fun i h st b hb => by
    have e : b = it := by simpa using hb
    subst e
    obtain ⟨o, e, c, d⟩ := st
    exact ⟨o, e, fun v z => by rw [d] at z; cases z⟩
  keep := fun i h h' st k => let ⟨o, ho, r⟩ := st; ⟨o, k it (by simp) o ho, r⟩
  item := by
    intro X hP hw hK hc i pins s σ H E I hf st hg
    subst hP hw hK
    obtain ⟨f0, f1, f2, f3, f4, f5⟩ := hf it (by simp)
    refine (W X.A (I.ok.hd hc)).item i s _ _ hg st fun v h' tk hP st' hk => ?_
    obtain ⟨c, u, hcx, rfl⟩ := hP
    have I1 : Inv X pins σ H { s with heap := h', toks := tk } := I.turned (fun b o hb e => hk b o (by simpa using hb) e) f0 f1 f3 f4 f5
    exact ⟨_, rfl, wpAny_pure ⟨.str ⟨#[c]⟩, H, I1, ⟨u, rfl⟩, ⟨rfl, c, hcx, rfl⟩, st', fun b hb => (hf b hb).1⟩⟩
  done := by
    intro X hP hw hK hc i pins s σ H E I hf st hg
    subst hP hw hK
    obtain ⟨f0, f1, f2, f3, f4, f5⟩ := hf it (by simp)
    have hg' : i = y.cps.size := hg
    subst hg'
    exact (W X.A (I.ok.hd hc)).done s _ _ st fun h' tk hk => ⟨rfl, I.turned (fun b o hb e => hk b o (by simpa using hb) e) f0 f1 f3 f4 f5⟩
  self := fun A i s Q E st h => sf A i s Q E st h
def iStr (tl : TE) : TI := fun σ H R => tl σ H fun x H1 => ∃ y, x = .str y ∧ R (Its y) H1
theorem pi_str {l : Expr} {tl : TE} {nm : Str} {px : Pos} (hl : PE X l tl) : PI X (.Name nm px) l (iStr tl) := by
  intro pins s σ H R I h
  refine thn (hl pins s σ H _ I h) fun v s1 ⟨x, H1, I1, r1, q1⟩ => ?_
  obtain ⟨y, e, q⟩ := q1
  subst e
  obtain ⟨t, rfl⟩ := r1
  have fin : ∀ (ty : String) (o : Obj) (W : ∀ A : Around, A.handled = none → Walks X.prog X.w A s1.heap.objs.size [s1.heap.objs.size] [s1.heap.objs.size] y.cps.size (SignAt y) (fun i h => h.IsStrIter s1.heap.objs.size ty y t i))
      (sf : ∀ (A : Around) (i : Nat) (s : Shared) (Q : Value → Shared → Prop) (E : Value → Shared → Prop), s.heap.IsStrIter s1.heap.objs.size ty y t i → Q (.ref s1.heap.objs.size) s → wpAny (model X.prog X.w) A (pyIter (.ref s1.heap.objs.size)) Q E s),
      (s1.heap.push o).IsStrIter s1.heap.objs.size ty y t 0 → PIE X pins σ (.Name nm px) R (.ref s1.heap.objs.size) { s1 with heap := s1.heap.push o } := fun ty o W sf st => by
    refine ⟨s1.heap.objs.size, [s1.heap.objs.size], _, _, H1, rfl, I1.kept (t' := s1.toks) fun b o e => Heap.get?_push_of_some _ e, turn_str _ W sf, st, fun b hb => ?_, q⟩
    have e : b = s1.heap.objs.size := by simpa using hb
    subst e
    exact I1.fpOk (Nat.le_refl _) (I1.hok.fresh (Nat.le_refl _))
  cases ha : y.cps.all (· < 128)
  · exact wpAny_pyIter_wide ha (fin _ _ (fun A' hA => Walks.strWide hA _ y t) (fun _ _ _ _ _ st h => wpAny_pyIter_striter_wide st h) ⟨_, Heap.get?_push_size _ rfl, rfl, rfl⟩)
  · exact wpAny_pyIter_ascii ha (fin _ _ (fun A' hA => Walks.strAscii hA _ y t) (fun _ _ _ _ _ st h => wpAny_pyIter_striter_ascii st h) ⟨_, Heap.get?_push_size _ rfl, rfl, rfl⟩)
end
end L2
namespace L2
open PySem PySem.Spec PyProof.Rows
mutual
inductive Dp (K : PySem.W.Frag) (H : Hp) : V → PyData → Prop
  | non : Dp K H .non .none
  | bl (b : Bool) : Dp K H (.bl b) (.bool b)
  | int (i : Int) : Dp K H (.int i) (.int i)
  | str (x : Str) : Dp K H (.str x) (.str x)
  | lst {a : Addr} {xs : List V} {ds : List PyData} : SqL K H a xs → DpAll K H xs ds → Dp K H (.ref a) (.list ds)
  | tup {a : Addr} {xs : List V} {ds : List PyData} : SqT K H a xs → DpAll K H xs ds → Dp K H (.ref a) (.tuple ds)
inductive DpAll (K : PySem.W.Frag) (H : Hp) : List V → List PyData → Prop
  | nil : DpAll K H [] []
  | cons {v : V} {vs : List V} {d : PyData} {ds : List PyData} : Dp K H v d → DpAll K H vs ds → DpAll K H (v :: vs) (d :: ds)
end
section
variable {X : Cx} {pins : List (Addr × Obj)} {σ : St} {H H' : Hp} {s : Shared} {K : PySem.W.Frag}
mutual
theorem Dp.reads (I : Inv X pins σ H s) : ∀ (d : PyData) (v : V) (u : Value), Dp X.K H v d → RelV v u → ∃ as, Reads s.heap u d as
  | .none, _, _, h, r => by cases h; cases r; exact ⟨_, .none⟩
  | .bool b, _, _, h, r => by cases h; cases r; exact ⟨_, .bool b⟩
  | .int i, _, _, h, r => by cases h; obtain ⟨t, rfl⟩ := r; exact ⟨_, .int i t⟩
  | .str x, _, _, h, r => by cases h; obtain ⟨t, rfl⟩ := r; exact ⟨_, .str x t⟩
  | .list ds, _, _, h, r => by
    cases h with
    | lst hq hs =>
      cases r
      obtain ⟨its, rv, pl, hz⟩ := I.list hq
      obtain ⟨as, ra⟩ := DpAll.reads I ds _ _ hs rv
      obtain ⟨o, e, hc, n, hd⟩ := pl.isList
      exact ⟨_, .list e hc hd (by simpa using ra)⟩
  | .tuple ds, _, _, h, r => by
    cases h with
    | tup hq hs =>
      cases r
      obtain ⟨its, rv, pl, hz⟩ := I.tuple hq
      obtain ⟨as, ra⟩ := DpAll.reads I ds _ _ hs rv
      obtain ⟨o, e, hc, n, hd⟩ := pl
      exact ⟨_, .tuple e hc hd (by simpa using ra)⟩
  | .dict _, _, _, h, _ => nomatch h
theorem DpAll.reads (I : Inv X pins σ H s) : ∀ (ds : List PyData) (vs : List V) (us : List Value), DpAll X.K H vs ds → Vals vs us → ∃ as, ReadsAll s.heap us ds as
  | [], _, _, h, r => by cases h; cases r; exact ⟨_, .nil⟩
  | d :: ds, _, _, h, r => by
    cases h with
    | cons h1 h2 =>
      cases r with
      | cons r1 r2 =>
        obtain ⟨as, a1⟩ := Dp.reads I d _ _ h1 r1
        obtain ⟨bs, a2⟩ := DpAll.reads I ds _ _ h2 r2
        exact ⟨_, .cons a1 a2⟩
end
def rEqD (K : PySem.W.Frag) : R2 := fun x y H Q => ∃ d e, Dp K H x d ∧ Dp K H y e ∧ d.canLay0 = true ∧ e.canLay0 = true ∧ min d.depth e.depth ≤ 64 ∧ Q (.bl (PyData.eqv d e)) H
def rNeD (K : PySem.W.Frag) : R2 := fun x y H Q => ∃ d e, Dp K H x d ∧ Dp K H y e ∧ d.canLay0 = true ∧ e.canLay0 = true ∧ min d.depth e.depth ≤ 64 ∧ Q (.bl (!PyData.eqv d e)) H
theorem op_eqD (hu : X.A.units + 64 < cLine) : OpR X (compareOp .Eq) (rEqD X.K) := by
  intro pins s σ H x y v u Q I rx ry h
  obtain ⟨d, e, h1, h2, c1, c2, hd, q⟩ := h
  obtain ⟨as, ra⟩ := Dp.reads I d x v h1 rx
  obtain ⟨bs, rb⟩ := Dp.reads I e y u h2 ry
  exact SeqAt.compareEq_reads ra rb c1 c2 (by omega) ⟨.bl _, H, I, rfl, q⟩
theorem op_neD (hu : X.A.units + 64 < cLine) : OpR X (compareOp .NotEq) (rNeD X.K) := by
  intro pins s σ H x y v u Q I rx ry h
  obtain ⟨d, e, h1, h2, c1, c2, hd, q⟩ := h
  obtain ⟨as, ra⟩ := Dp.reads I d x v h1 rx
  obtain ⟨bs, rb⟩ := Dp.reads I e y u h2 ry
  exact SeqAt.compareNe_reads ra rb c1 c2 (by omega) ⟨.bl _, H, I, rfl, q⟩
def But (t : Addr) (H H' : Hp) : Prop := ∀ b o, b ≠ t → H b = some o → H' b = some o
theorem Same.new {p : Addr} (h : H p = none) (o : HO) : Same H (upd H p o) := fun b u q => by rw [upd_ne (ne_of_none q h)]; exact q
theorem Same.but {t : Addr} (a : Same H H') : But t H H' := fun b o _ h => a b o h
theorem But.refl {t : Addr} : But t H H := fun _ _ _ h => h
theorem But.trans {t : Addr} {H1 H2 H3 : Hp} (a : But t H1 H2) (b : But t H2 H3) : But t H1 H3 := fun c o hc h => b c o hc (a c o hc h)
theorem But.upd {t : Addr} {o : HO} : But t H (upd H t o) := fun b u hb h => by rw [upd_ne hb]; exact h
theorem Rd.same {a : Addr} {u : HO} (k : Same H H') (h : Rd H a u) : Rd H' a u := by
  rcases h with h | ⟨o, h⟩
  · exact .inl (k _ _ h)
  · exact .inr ⟨o, k _ _ h⟩
theorem Rd.but {t a : Addr} {u : HO} (k : But t H H') (ht : a ≠ t) (h : Rd H a u) : Rd H' a u := by
  rcases h with h | ⟨o, h⟩
  · exact .inl (k _ _ ht h)
  · exact .inr ⟨o, k _ _ ht h⟩
theorem SqL.same {a : Addr} {xs : List V} (k : Same H H') (h : SqL K H a xs) : SqL K H' a xs := by
  rcases h with h | h
  · exact .inl (h.same k)
  · exact .inr h
theorem SqT.same {a : Addr} {xs : List V} (k : Same H H') (h : SqT K H a xs) : SqT K H' a xs := by
  rcases h with h | h
  · exact .inl (h.same k)
  · exact .inr h
theorem SqL.but {t a : Addr} {xs : List V} (k : But t H H') (ht : a ≠ t) (h : SqL K H a xs) : SqL K H' a xs := by
  rcases h with h | h
  · exact .inl (h.but k ht)
  · exact .inr h
theorem SqT.but {t a : Addr} {xs ys : List V} (k : But t H H') (ht : H t = some (.lst ys)) (h : SqT K H a xs) : SqT K H' a xs := by
  rcases h with h | h
  · refine .inl (h.but k ?_)
    rcases h with h | ⟨o, h⟩
    · exact ne_of h ht (by intro z; cases z)
    · exact ne_of h ht (by intro z; cases z)
  · exact .inr h
mutual
theorem Dp.same (k : Same H H') : ∀ (d : PyData) (v : V), Dp K H v d → Dp K H' v d
  | .none, _, h => by cases h; exact .non
  | .bool b, _, h => by cases h; exact .bl b
  | .int i, _, h => by cases h; exact .int i
  | .str x, _, h => by cases h; exact .str x
  | .list ds, _, h => by
    cases h with
    | lst hq hs => exact .lst (hq.same k) (DpAll.same k ds _ hs)
  | .tuple ds, _, h => by
    cases h with
    | tup hq hs => exact .tup (hq.same k) (DpAll.same k ds _ hs)
  | .dict _, _, h => nomatch h
theorem DpAll.same (k : Same H H') : ∀ (ds : List PyData) (vs : List V), DpAll K H vs ds → DpAll K H' vs ds
  | [], _, h => by cases h; exact .nil
  | d :: ds, _, h => by
    cases h with
    | cons h1 h2 => exact .cons (Dp.same k d _ h1) (DpAll.same k ds _ h2)
end
mutual
def noL : PyData → Bool
  | .none | .bool _ | .int _ | .str _ => true
  | .list _ => false
  | .tuple ds => noLs ds
  | .dict _ => false
def noLs : List PyData → Bool
  | [] => true
  | d :: r => noL d && noLs r
end
mutual
theorem Dp.but {t : Addr} {ys : List V} (k : But t H H') (ht : H t = some (.lst ys)) : ∀ (d : PyData) (v : V), noL d = true → Dp K H v d → Dp K H' v d
  | .none, _, _, h => by cases h; exact .non
  | .bool b, _, _, h => by cases h; exact .bl b
  | .int i, _, _, h => by cases h; exact .int i
  | .str x, _, _, h => by cases h; exact .str x
  | .list ds, _, n, h => by simp [noL] at n
  | .tuple ds, _, n, h => by
    cases h with
    | tup hq hs => exact .tup (hq.but k ht) (DpAll.but k ht ds _ (by simpa [noL] using n) hs)
  | .dict _, _, _, h => nomatch h
theorem DpAll.but {t : Addr} {ys : List V} (k : But t H H') (ht : H t = some (.lst ys)) : ∀ (ds : List PyData) (vs : List V), noLs ds = true → DpAll K H vs ds → DpAll K H' vs ds
  | [], _, _, h => by cases h; exact .nil
  | d :: ds, _, n, h => by
    have n' : noL d = true ∧ noLs ds = true := by simpa [noLs] using n
    cases h with
    | cons h1 h2 => exact .cons (Dp.but k ht d _ n'.1 h1) (DpAll.but k ht ds _ n'.2 h2)
end
theorem DpAll.len : ∀ {vs : List V} {ds : List PyData}, DpAll K H vs ds → vs.length = ds.length
  | _, [], h => by cases h; rfl
  | _, _ :: _, h => by
    cases h with
    | cons _ h2 => simp [h2.len]
theorem DpAll.get : ∀ {vs : List V} {ds : List PyData} {i : Nat} {v : V}, DpAll K H vs ds → vs[i]? = some v → ∃ d, ds[i]? = some d ∧ Dp K H v d
  | _, [], i, v, h, e => by cases h; simp at e
  | _, d :: ds, i, v, h, e => by
    cases h with
    | cons h1 h2 =>
      cases i with
      | zero => simp at e; subst e; exact ⟨d, rfl, h1⟩
      | succ i => simpa using h2.get (by simpa using e)
theorem DpAll.get' : ∀ {vs : List V} {ds : List PyData} {i : Nat} {d : PyData}, DpAll K H vs ds → ds[i]? = some d → ∃ v, vs[i]? = some v ∧ Dp K H v d
  | _, [], i, v, h, e => by simp at e
  | _, d :: ds, i, v, h, e => by
    cases h with
    | cons h1 h2 =>
      cases i with
      | zero => simp at e; subst e; exact ⟨_, rfl, h1⟩
      | succ i => simpa using h2.get' (by simpa using e)
theorem DpAll.app : ∀ {vs ws : List V} {ds es : List PyData}, DpAll K H vs ds → DpAll K H ws es → DpAll K H (vs ++ ws) (ds ++ es)
  | _, _, [], _, h, q => by cases h; exact q
  | _, _, _ :: _, _, h, q => by
    cases h with
    | cons h1 h2 => exact .cons h1 (h2.app q)
theorem DpAll.strs : ∀ (xs : List Str), DpAll K H (xs.map V.str) (xs.map PyData.str)
  | [] => .nil
  | x :: r => .cons (.str x) (DpAll.strs r)
theorem DpAll.ints : ∀ (xs : List Int), DpAll K H (xs.map V.int) (xs.map PyData.int)
  | [] => .nil
  | x :: r => .cons (.int x) (DpAll.ints r)
theorem Dp.tupI {v : V} {ds : List PyData} (h : Dp K H v (.tuple ds)) : ∃ a xs, v = .ref a ∧ SqT K H a xs ∧ DpAll K H xs ds := by
  cases h with
  | tup hq hs => exact ⟨_, _, rfl, hq, hs⟩
theorem Dp.intI {v : V} {i : Int} (h : Dp K H v (.int i)) : v = .int i := by cases h; rfl
theorem Dp.strI {v : V} {x : Str} (h : Dp K H v (.str x)) : v = .str x := by cases h; rfl
theorem Dp.noneI {v : V} (h : Dp K H v .none) : v = .non := by cases h; rfl
theorem DpAll.consI {xs : List V} {d : PyData} {ds : List PyData} (h : DpAll K H xs (d :: ds)) : ∃ x r, xs = x :: r ∧ Dp K H x d ∧ DpAll K H r ds := by
  cases h with
  | cons h1 h2 => exact ⟨_, _, rfl, h1, h2⟩
theorem DpAll.nilI {xs : List V} (h : DpAll K H xs []) : xs = [] := by cases h; rfl
end
mutual
def noB : PyData → Bool
  | .none | .int _ | .str _ => true
  | .bool _ => false
  | .list ds => noBs ds
  | .tuple ds => noBs ds
  | .dict _ => false
def noBs : List PyData → Bool
  | [] => true
  | d :: r => noB d && noBs r
end
mutual
theorem eqv_iff : ∀ (d e : PyData), noB d = true → noB e = true → (PyData.eqv d e = true ↔ d = e)
  | .none, e, _, h => by cases e <;> simp [PyData.eqv, noB] at h ⊢
  | .bool b, e, h, _ => by simp [noB] at h
  | .int i, e, _, h => by cases e <;> simp [PyData.eqv, noB] at h ⊢
  | .str x, e, _, h => by cases e <;> simp [PyData.eqv, noB] at h ⊢
  | .list ds, e, h1, h2 => by
    cases e with
    | list es =>
      have := eqvs_iff ds es (by simpa [noB] using h1) (by simpa [noB] using h2)
      simpa [PyData.eqv] using this
    | _ => simp [PyData.eqv, noB] at h2 ⊢
  | .tuple ds, e, h1, h2 => by
    cases e with
    | tuple es =>
      have := eqvs_iff ds es (by simpa [noB] using h1) (by simpa [noB] using h2)
      simpa [PyData.eqv] using this
    | _ => simp [PyData.eqv, noB] at h2 ⊢
  | .dict _, _, h, _ => by simp [noB] at h
theorem eqvs_iff : ∀ (ds es : List PyData), noBs ds = true → noBs es = true → (PyData.eqvAll ds es = true ↔ ds = es)
  | [], [], _, _ => by simp [PyData.eqvAll]
  | [], _ :: _, _, _ => by simp [PyData.eqvAll]
  | _ :: _, [], _, _ => by simp [PyData.eqvAll]
  | d :: ds, e :: es, h1, h2 => by
    have n1 : noB d = true ∧ noBs ds = true := by simpa [noBs] using h1
    have n2 : noB e = true ∧ noBs es = true := by simpa [noBs] using h2
    have a := eqv_iff d e n1.1 n2.1
    have b := eqvs_iff ds es n1.2 n2.2
    simp only [PyData.eqvAll, Bool.and_eq_true, List.cons.injEq, a, b]
end
end L2
namespace L2
open PySem PySem.Spec PyProof.Rows
section
variable {P : Program} {w : World} {K : PySem.W.Frag} {mg : Str → Option Value} {base : Heap}
def TopD (K : PySem.W.Frag) (mg : Str → Option Value) (x : Str) (st : Stmt) (ps : List Str) : Prop := ∃ f fd, Fun K x x st f fd ∧ Binds K fd ps [] ∧ mg x = some (.ref f)
def Fn (P : Program) (w : World) (K : PySem.W.Frag) (mg : Str → Option Value) (base : Heap) (k : Nat) (x : Str) (ps : List Str) (sp : Sp) : Prop :=
  ∃ f fd, FnOk P w K mg base CX0 k f fd ps sp ∧ Binds K fd ps [] ∧ PySem.W.keepIn K (.ref f) = true ∧ mg x = some (.ref f)
theorem Fn.mono {j k : Nat} {x : Str} {ps : List Str} {sp : Sp} (F : Fn P w K mg base j x ps sp) (h : j ≤ k) : Fn P w K mg base k x ps sp := by
  obtain ⟨f, fd, F, r⟩ := F
  exact ⟨f, fd, F.mono h, r⟩
theorem Fn.imp {k : Nat} {x : Str} {ps : List Str} {sp sp' : Sp} (F : Fn P w K mg base k x ps sp) (h : ∀ vs H Q E, sp' vs H Q E → sp vs H Q E) : Fn P w K mg base k x ps sp' := by
  obtain ⟨f, fd, F, r⟩ := F
  exact ⟨f, fd, F.imp h, r⟩
theorem TopD.none {x : Str} {st : Stmt} {ps : List Str} {k : Nat} {sp : Sp} (T : TopD K mg x st ps) (no : ∀ vs H Q E, ¬ sp vs H Q E) : Fn P w K mg base k x ps sp := by
  obtain ⟨f, fd, F, b, m⟩ := T
  exact ⟨f, fd, ⟨fun vs H Q E h => absurd h (no vs H Q E), fun A outer s H args us vs Q E _ _ _ _ h => absurd h (no vs H Q E)⟩, b, F.kp, m⟩
theorem TopD.fn {x : Str} {st : Stmt} {N ps : List Str} {k : Nat} {sp : Sp} (T : TopD K mg x st ps) (S : FnScope N ps (defScope st)) (len : ∀ vs H Q E, sp vs H Q E → vs.length = ps.length)
    (hbody : ∀ (f : Addr) (cdv : Value) (A : Around) (outer : List Env) (s : Shared) (H : Hp) (vs : List V) (Q : VK) (E : XK), Room k (A.deeper (envOfC x (defScope st) s.heap.objs.size f cdv)) → sp vs H Q E →
      ∃ t, PSs (cxOf CX0 P w K mg base N x (defScope st) f cdv A outer s H E).nox (defBody st) t ∧ t { nx := fun _ H' => Q .non H', rt := Q } (start N vs) H) : Fn P w K mg base (k + 1) x ps sp := by
  obtain ⟨f, fd, F, b, m⟩ := T
  exact ⟨f, fd, F.ok S len (fun cdv A outer s H vs Q E hr h => hbody f cdv A outer s H vs Q E hr h), b, F.kp, m⟩
end
section
variable {X : Cx} {k : Nat} {x : Str} {ps : List Str} {sp : Sp} {e : Expr} {es : List Expr} {t : TA} {p pos : Pos}
theorem pe_callF (F : Fn X.prog X.w X.K X.mg X.base k x ps sp) (hr : Room k X.A) (ha : PA X (e :: es) t) (hg : Gl X x := by rfl) (hdb : (x == ("__debug__" : Str)) = false := by decide)
    (he : starEach (e :: es) X.env = (false, eval e X.env) :: starEach es X.env := by rfl) (hpl : (backTo pos (starEach es X.env)).any (·.1) = false := by rfl) :
    PE X (.Call (.Name x p) (e :: es) [] pos) (tCall sp [] E0 t) := by
  obtain ⟨f, fd, F, b, kp, m⟩ := F
  exact pe_call F hr hg m kp b .nil pass0 ha hdb he hpl
theorem op_le_str : OpR X (compareOp .LtE) (fun x y H Q => ∃ i j, x = .str i ∧ y = .str j ∧ Q (.bl (!decide (j.cps.toList < i.cps.toList))) H) := by
  intro pins s σ H x y v u Q I rx ry h
  obtain ⟨i, j, rfl, rfl, q⟩ := h
  obtain ⟨t, rfl⟩ := rx
  obtain ⟨t', rfl⟩ := ry
  exact PySem.P.le_str (fin_bl I q rfl)
end
theorem hu64 {A : Around} {k : Nat} (hr : Room k A) : A.units + 64 < cLine := hr.units
end L2
namespace L2
open PySem PySem.Spec PyProof.Rows
def Ite (K : PySem.W.Frag) (a : Addr) : It :=
  ⟨fun i H => ∃ xs x, SqL K H a xs ∧ xs[i]? = some x, fun i H x H' => ∃ p y, H p = none ∧ x = .ref p ∧ H' = upd H p (.tup [.int (i : Nat), y]) ∧ ∀ xs, SqL K H a xs → xs[i]? = some y, fun i H => ∃ xs, SqL K H a xs ∧ xs.length ≤ i⟩
theorem turn_enum {P : Program} {w : World} {K : PySem.W.Frag} {elts : List Expr} {k : Nat} {pos : Pos} (a e it : Addr) (hne : e ≠ it) :
    Turn P w K (.Tuple elts k pos) (Ite K a) [e, it] e (fun i h => (∃ old, IsEnum h e it i old) ∧ h.IsListIter it a i) where
  mem := by simp
  obj := fun i h st b hb => by
    have hb' : b = e ∨ b = it := by simpa using hb
    obtain ⟨⟨old, he⟩, o, e1, c, d⟩ := st
    rcases hb' with z | z
    · subst z
      exact ⟨_, he, fun v z => nomatch (show Data.fields _ = Data.cell v from z)⟩
    · subst z
      exact ⟨o, e1, fun v z => by rw [d] at z; cases z⟩
  keep := fun i h h' st kp => by
    obtain ⟨⟨old, he⟩, st⟩ := st
    exact ⟨⟨old, kp e (by simp) _ he⟩, st.at fun o q => kp it (by simp) o q⟩
  item := by
    intro X hP hw hK hc i pins s σ H E I hf st hg
    subst hP hw hK
    obtain ⟨xs, x, hq, hx⟩ := hg
    obtain ⟨its, rv, p, hz⟩ := I.list hq
    obtain ⟨u, hu, ru⟩ := rv.get hx
    obtain ⟨f0, f1, f2, f3, f4, f5⟩ := hf e (by simp)
    obtain ⟨g0, g1, g2, g3, g4, g5⟩ := hf it (by simp)
    obtain ⟨⟨old, he⟩, sti⟩ := st
    refine wpAny_pyNext_enum_item he sti p.isList (x := u) (by simpa using hu) hne fun h' ho hit' hT hsz hk => ?_
    refine ⟨_, rfl, wpAny_letOwnedTupleGo_enum ho fun h'' he'' hs'' => ?_⟩
    have hn : H s.heap.objs.size = none := I.hok.fresh (Nat.le_refl _)
    have elt : e < s.heap.objs.size := Heap.lt_size he
    have ilt : it < s.heap.objs.size := by obtain ⟨_, q, _⟩ := sti; exact Heap.lt_size q
    have kp : ∀ b o, b ≠ e → b ≠ it → s.heap.get? b = some o → h''.get? b = some o := fun b o n1 n2 q => (hs''.2 b n1).trans (hk b o n1 n2 q)
    have hT' : h''.get? s.heap.objs.size = some { cls := .type "tuple", data := .seq #[.int i s.toks, u] } := (hs''.2 _ (Nat.ne_of_gt elt)).trans hT
    have nb : ∀ b, b ∉ [e, it] → b ≠ e ∧ b ≠ it := fun b hb => ⟨fun z => hb (by simp [z]), fun z => hb (by simp [z])⟩
    have nT : ∀ b o, s.heap.get? b = some o → b ≠ s.heap.objs.size := fun b o q => Nat.ne_of_lt (Heap.lt_size q)
    have I1 : Inv X pins σ (upd H s.heap.objs.size (.tup [.int (i : Nat), x])) { s with heap := h'', toks := s.toks + 1 } := by
      refine I.step (g' := s.gens) (d' := s.drawn) (ch := [e, it]) (fun b hb => ?_) (fun b o _ _ hb q _ => kp b o (nb b hb).1 (nb b hb).2 q) (fun b o _ _ hb q _ => ⟨o.slots, kp b o (nb b hb).1 (nb b hb).2 q⟩)
        (fun b o hb q n => by rw [upd_ne (nT b o q)]; exact n) (fun b o hb q => ⟨o, kp b o (nb b hb).1 (nb b hb).2 q⟩) (fun b ys q => by rw [upd_ne (ne_of_none q hn)]; exact q) (fun b o v q => by rw [upd_ne (ne_of_none q hn)]; exact q)
        (fun b ps q => ⟨#[], by rw [upd_ne (ne_of_none q hn), q]; simp⟩) (fun m hm => ?_) (fun b v q => ?_) I.bare
      · have hb' : b = e ∨ b = it := by simpa using hb
        rcases hb' with z | z
        · subst z; exact ⟨f3, f1, f4, f5⟩
        · subst z; exact ⟨g3, g1, g4, g5⟩
      · obtain ⟨o, es, ep, q, r⟩ := hm
        exact ⟨o, es, ep, kp _ o (Ne.symm f1) (Ne.symm g1) q, r⟩
      · by_cases hb : b = s.heap.objs.size
        · subst hb
          rw [upd_same] at q
          cases q
          exact ⟨by show 2 ≤ sizeLine; decide, [.int i s.toks, u], .cons ⟨_, rfl⟩ (.cons ru .nil), _, hT'⟩
        · rw [upd_ne hb] at q
          have ne1 : ∀ c v', H c = some v' → c ≠ e ∧ c ≠ it := fun c v' q' => ⟨fun z => (by rw [z, f0] at q'; cases q'), fun z => (by rw [z, g0] at q'; cases q')⟩
          refine (I.hok b v q).stay (fun c w' hc' q' => kp c w' ?_ ?_ q') (fun c q' => by rw [upd_ne (ne_of_none q' hn)]; exact q') fun c ys q' => by rw [upd_ne (ne_of_none q' hn)]; exact q'
          · rcases hc' with z | z
            · rw [z]; exact (ne1 b v q).1
            · exact (ne1 c _ z).1
          · rcases hc' with z | z
            · rw [z]; exact (ne1 b v q).2
            · exact (ne1 c _ z).2
    refine ⟨.ref s.heap.objs.size, _, I1, rfl, ⟨s.heap.objs.size, x, hn, rfl, rfl, fun ys hy => by rw [I.list_inj hy hq]; exact hx⟩, ⟨⟨u, by simpa using he''⟩, hit'.at fun o q => (hs''.2 it hne.symm).trans q⟩, fun b hb => ?_⟩
    have hb' : b = e ∨ b = it := by simpa using hb
    rcases hb' with z | z
    · subst z; rw [upd_ne (Nat.ne_of_lt elt)]; exact f0
    · subst z; rw [upd_ne (Nat.ne_of_lt ilt)]; exact g0
  done := by
    intro X hP hw hK hc i pins s σ H E I hf st hg
    subst hP hw hK
    obtain ⟨xs, hq, hx⟩ := hg
    obtain ⟨its, rv, p, hz⟩ := I.list hq
    obtain ⟨g0, g1, g2, g3, g4, g5⟩ := hf it (by simp)
    obtain ⟨⟨old, he⟩, sti⟩ := st
    have hl := rv.length
    exact wpAny_pyNext_enum_end (I.ok.hd hc) he sti p.isList (by simp; omega) fun h' eb => ⟨rfl, I.turned (t' := s.toks) (fun b o hb e => eb b o hb e) g0 g1 g3 g4 g5⟩
  self := fun _ _ _ _ _ st h => by
    obtain ⟨⟨old, he⟩, _⟩ := st
    exact wpAny_pyIter_enum he h
section
variable {X : Cx}
def iEnum (K : PySem.W.Frag) (ta : TA) : TI := fun σ H R => ta σ H fun vs H1 => ∃ a xs, vs = [.ref a] ∧ SqL K H1 a xs ∧ R (Ite K a) H1
theorem pi_enum {l : Expr} {ta : TA} {elts : List Expr} {k : Nat} {tpos p pos : Pos} (hg : Gl X "enumerate") (hm : X.mg "enumerate" = none) (ha : PA X [l] ta) (hb : bootBuiltins "enumerate" = some (.type "enumerate")) (hs : starEach [l] X.env = [(false, eval l X.env)] := by rfl) :
    PI X (.Tuple elts k tpos) (.Call (.Name "enumerate" p) [l] [] pos) (iEnum X.K ta) := by
  intro pins s σ H R I h
  refine Call_ (ld_blt I hg hm hb (PyProof.Rows.callWith_type1 (thn (ha pos pins s σ H _ I h) fun us s1 ⟨vs, H1, I1, r1, q1⟩ => ?_) hs rfl))
  obtain ⟨a, xs, e, hq, q⟩ := q1
  subst e
  obtain ⟨u, rfl, ru⟩ := vals1 r1
  cases ru
  obtain ⟨its, rv, pl, hz⟩ := I1.list hq
  refine call_enumerate_list pl.isList fun h' he hit hsz hk => ?_
  have I2 : Inv X pins σ H1 { s1 with heap := h' } := I1.kept (t' := s1.toks) hk
  refine wpAny_pyIter_enum he ⟨_, [s1.heap.objs.size + 1, s1.heap.objs.size], _, _, H1, rfl, I2, turn_enum a _ _ (Nat.ne_of_gt (Nat.lt_succ_self _)), ⟨⟨_, he⟩, hit⟩, fun b hb => ?_, q⟩
  have hb' : b = s1.heap.objs.size + 1 ∨ b = s1.heap.objs.size := by simpa using hb
  rcases hb' with z | z
  · subst z
    exact I1.fpOk (Nat.le_succ _) (I1.hok.fresh (Nat.le_succ _))
  · subst z
    exact I1.fpOk (Nat.le_refl _) (I1.hok.fresh (Nat.le_refl _))
def tListZip (K : PySem.W.Frag) (ta : TA) : TE := fun σ H Q => ta σ H fun vs H1 => ∃ a b xs ys, vs = [.ref a, .ref b] ∧ SqL K H1 a xs ∧ SqL K H1 b ys ∧
  ∀ (l : Addr) (H' : Hp) (ps : List V), Same H1 H' → H1 l = none → H' l = some (.lst ps) → ps.length = min xs.length ys.length → (∀ (j : Nat) p, ps[j]? = some p → ∃ t x y, p = .ref t ∧ xs[j]? = some x ∧ ys[j]? = some y ∧ H' t = some (.tup [x, y])) → Q (.ref l) H'
theorem Inv.many {pins : List (Addr × Obj)} {σ : St} {H H' : Hp} {s : Shared} {h' : Heap} {t' : Nat} (I : Inv X pins σ H s) (kp : ∀ b o, s.heap.get? b = some o → h'.get? b = some o) (hs : Same H H')
    (hnew : ∀ b o, H' b = some o → H b = some o ∨ (s.heap.objs.size ≤ b ∧ ObjOk X.prog X.w H' h' b o)) : Inv X pins σ H' { s with heap := h', toks := t' } := by
  refine I.un (h' := h') (t' := t') ⟨fun b o q _ _ _ => kp b o q, fun b o q _ _ _ => ⟨o.slots, kp b o q⟩, fun b o q n _ => ?_, fun b o q _ => ⟨o, kp b o q⟩, fun b xs q => hs _ _ q, fun b o u q => hs _ _ q, fun b ps q => ⟨#[], by rw [hs _ _ q]; simp⟩⟩ fun b o q => ?_
  · cases e : H' b with
    | none => rfl
    | some u =>
      rcases hnew b u e with z | ⟨z, _⟩
      · rw [n] at z; cases z
      · exact absurd (Nat.lt_of_lt_of_le (Heap.lt_size q) z) (Nat.lt_irrefl _)
  · rcases hnew b o q with z | ⟨_, z⟩
    · exact (I.hok b o z).stay (fun c v _ r => kp c v r) (fun c r => hs _ _ r) fun c xs r => hs _ _ r
    · exact z
theorem pe_listzip {a b : Expr} {ta : TA} {p1 p2 pos1 pos2 : Pos} (hgl : Gl X "list") (hml : X.mg "list" = none) (hbl : bootBuiltins "list" = some (.type "list")) (hgz : Gl X "zip") (hmz : X.mg "zip" = none) (hbz : bootBuiltins "zip" = some (.type "zip")) (hc : X.calm = true) (ha : PA X [a, b] ta)
    (hs : starEach [a, b] X.env = [(false, eval a X.env), (false, eval b X.env)] := by rfl) (hs2 : starEach [b] X.env = [(false, eval b X.env)] := by rfl)
    (hz : starEach [.Call (.Name "zip" p2) [a, b] [] pos2] X.env = [(false, eval (.Call (.Name "zip" p2) [a, b] [] pos2) X.env)] := by rfl) :
    PE X (.Call (.Name "list" p1) [.Call (.Name "zip" p2) [a, b] [] pos2] [] pos1) (tListZip X.K ta) := by
  intro pins s σ H Q I h
  refine wpAny_Call_Name_kw (ld_blt I hgl hml hbl ?_)
  refine PyProof.Rows.callWith_type1 ?_ hz rfl
  rw [hz]
  refine Calls.spliced_cons (wpAny_Call_Name_kw (ld_blt I hgz hmz hbz (PyProof.Rows.callWith_type1 (thn (ha pos2 pins s σ H _ I h) fun us s1 ⟨vs, H1, I1, r1, q1⟩ => ?_) (by rw [hs, hs2]) (by rw [hs2]; rfl))))
  obtain ⟨pa, pb, xs, ys, e, hx, hy, q⟩ := q1
  subst e
  obtain ⟨u1, u2, rfl, ru1, ru2⟩ := vals2 r1
  cases ru1
  cases ru2
  obtain ⟨its1, rv1, pl1, hz1⟩ := I1.list hx
  obtain ⟨its2, rv2, pl2, hz2⟩ := I1.list hy
  have l1 := rv1.length
  have l2 := rv2.length
  refine thn (ZL.list_zip (E := X.xe) (Q := EP X pins σ Q) (I1.ok.hd hc) pl1.isList pl2.isList (by simp only [List.size_toArray]; omega) fun h' c' hp hS kp => ?_) fun z s2 hq => Calls.spliced_nil hq
  have em : min its1.toArray.size its2.toArray.size = min xs.length ys.length := by simp only [List.size_toArray]; omega
  rw [em] at hS
  have hn : ∀ j : Nat, H1 (s1.heap.objs.size + j) = none := fun j => I1.hok.fresh (Nat.le_add_right _ _)
  have pair : ∀ j : Nat, j < min xs.length ys.length → ∃ x y u v, xs[j]? = some x ∧ ys[j]? = some y ∧ RelV x u ∧ RelV y v ∧ IsPair h' (s1.heap.objs.size + 6 + j) u v := fun j hj => by
    have hjx : xs[j]? = some (xs[j]'(by omega)) := List.getElem?_eq_getElem _
    have hjy : ys[j]? = some (ys[j]'(by omega)) := List.getElem?_eq_getElem _
    obtain ⟨u, hu, ru⟩ := rv1.get hjx
    obtain ⟨v, hv, rvv⟩ := rv2.get hjy
    exact ⟨_, _, u, v, hjx, hjy, ru, rvv, hp j u v (by simpa using hu) (by simpa using hv)⟩
  let H' : Hp := fun b => if b = s1.heap.objs.size + 5 then some (.lst ((List.range (min xs.length ys.length)).map fun j => V.ref (s1.heap.objs.size + 6 + j))) else
    if s1.heap.objs.size + 6 ≤ b ∧ b - (s1.heap.objs.size + 6) < min xs.length ys.length then some (.tup [(xs[b - (s1.heap.objs.size + 6)]?).getD .non, (ys[b - (s1.heap.objs.size + 6)]?).getD .non]) else H1 b
  have hS' : H' (s1.heap.objs.size + 5) = some (.lst ((List.range (min xs.length ys.length)).map fun j => V.ref (s1.heap.objs.size + 6 + j))) := by
    show (if _ then _ else _) = _
    rw [if_pos rfl]
  have hT' : ∀ (j : Nat) x y, xs[j]? = some x → ys[j]? = some y → H' (s1.heap.objs.size + 6 + j) = some (.tup [x, y]) := fun j x y e1 e2 => by
    have j1 := (List.getElem?_eq_some_iff.mp e1).1
    have j2 := (List.getElem?_eq_some_iff.mp e2).1
    have ej : s1.heap.objs.size + 6 + j - (s1.heap.objs.size + 6) = j := Nat.add_sub_cancel_left _ _
    have hjm : j < min xs.length ys.length := Nat.lt_min.mpr ⟨j1, j2⟩
    show (if _ then _ else if _ then _ else _) = _
    rw [if_neg (fun z => by have z' : @Eq Nat (s1.heap.objs.size + 6 + j) (s1.heap.objs.size + 5) := z; omega), if_pos ⟨Nat.le_add_right _ _, by rw [ej]; exact hjm⟩, ej, e1, e2]
    rfl
  have hold : Same H1 H' := fun b o e => by
    have hb : @LT.lt Nat _ b s1.heap.objs.size := I1.hok.lt e
    show (if _ then _ else if _ then _ else _) = _
    rw [if_neg (fun z => by have z' : @Eq Nat b (s1.heap.objs.size + 5) := z; omega), if_neg (fun z => by have z' : @LE.le Nat _ (s1.heap.objs.size + 6) b := z.1; omega)]
    exact e
  have hnew : ∀ b o, H' b = some o → H1 b = some o ∨ (s1.heap.objs.size ≤ b ∧ ObjOk X.prog X.w H' h' b o) := fun b o e => by
    by_cases hb : b = s1.heap.objs.size + 5
    · subst hb
      rw [hS'] at e
      cases e
      refine .inr ⟨Nat.le_add_right _ _, by rw [List.length_map, List.length_range]; omega, (List.range (min xs.length ys.length)).map fun j => Value.ref (s1.heap.objs.size + 6 + j), c', ?_, hS⟩
      have : ∀ l : List Nat, Vals (l.map fun j => V.ref (s1.heap.objs.size + 6 + j)) (l.map fun j => Value.ref (s1.heap.objs.size + 6 + j)) := fun l => by
        induction l with
        | nil => exact .nil
        | cons j r ih => exact .cons rfl ih
      exact this _
    · by_cases hb2 : s1.heap.objs.size + 6 ≤ b ∧ b - (s1.heap.objs.size + 6) < min xs.length ys.length
      · obtain ⟨g1, g2⟩ := hb2
        have eb : b = s1.heap.objs.size + 6 + (b - (s1.heap.objs.size + 6)) := (Nat.add_sub_cancel' g1).symm
        obtain ⟨x, y, u, v, e1, e2, ru, rvv, pr⟩ := pair _ g2
        rw [eb, hT' _ x y e1 e2] at e
        cases e
        refine .inr ⟨Nat.le_trans (Nat.le_add_right _ 6) g1, by show 2 ≤ sizeLine; decide, [u, v], .cons ru (.cons rvv .nil), ?_⟩
        rw [eb]
        exact ⟨_, pr⟩
      · left
        have e' : (if b = s1.heap.objs.size + 5 then some (HO.lst ((List.range (min xs.length ys.length)).map fun j => V.ref (s1.heap.objs.size + 6 + j))) else
          if s1.heap.objs.size + 6 ≤ b ∧ b - (s1.heap.objs.size + 6) < min xs.length ys.length then some (.tup [(xs[b - (s1.heap.objs.size + 6)]?).getD .non, (ys[b - (s1.heap.objs.size + 6)]?).getD .non]) else H1 b) = some o := e
        rw [if_neg hb, if_neg hb2] at e'
        exact e'
  refine ⟨.ref (s1.heap.objs.size + 5), H', I1.many (h' := h') (t' := s1.toks) kp hold hnew, rfl, q _ H' _ hold (hn 5) hS' (by rw [List.length_map, List.length_range]) fun j p e => ?_⟩
  rw [List.getElem?_map] at e
  cases er : (List.range (min xs.length ys.length))[j]? with
  | none => rw [er] at e; cases e
  | some j' =>
    rw [er] at e
    obtain ⟨hj, ej⟩ := List.getElem?_eq_some_iff.mp er
    rw [List.getElem_range] at ej
    subst ej
    cases e
    have hj' : j < min xs.length ys.length := by simpa using hj
    obtain ⟨x, y, u, v, e1, e2, _⟩ := pair j hj'
    exact ⟨_, x, y, rfl, e1, e2, hT' j x y e1 e2⟩
end
inductive TyR (K : PySem.W.Frag) (H : Hp) : V → Value → Prop where
  | of {x : V} {t : Value} (h : TyOf K H x t) : TyR K H x t
  | tup {a : Addr} {xs : List V} (h : SqT K H a xs) : TyR K H (.ref a) (.type "tuple")
  | lst {a : Addr} {xs : List V} (h : SqL K H a xs) : TyR K H (.ref a) (.type "list")
theorem call_isI {X : Cx} : CallR X (.builtin "isinstance") (fun xs H Q => ∃ x c t b, xs = [x, .ty c] ∧ TyR X.K H x t ∧ PySem.W.kitOne X.K t (.type c) = some b ∧ Q (.bl b) H) := by
  intro pins s σ H xs us Q I r h
  obtain ⟨x, c, t, b, rfl, ty, e, q⟩ := h
  obtain ⟨u, w', rfl, ru, rw'⟩ := vals2 r
  cases rw'
  cases ty with
  | of ty => exact isinst_ok I ru ty e fun tk => ⟨.bl b, H, I.tok tk, rfl, q⟩
  | tup hq =>
    cases ru
    obtain ⟨its, rv, ⟨o, h1, h2, _⟩, _⟩ := I.tuple hq
    exact PySem.W.kia_one PySem.W.kitx_tuple I.kIn ⟨o, h1, h2⟩ e (fun z => nomatch z) fun tk => ⟨.bl b, H, I.tok tk, rfl, q⟩
  | lst hq =>
    cases ru
    obtain ⟨its, rv, pl, _⟩ := I.list hq
    obtain ⟨o, h1, h2, _⟩ := pl.isList
    exact PySem.W.kia_one PySem.W.kitx_list I.kIn ⟨o, h1, h2⟩ e (fun z => nomatch z) fun tk => ⟨.bl b, H, I.tok tk, rfl, q⟩
end L2
namespace MA
theorem gcd_step {a b : Int} (ha : 0 ≤ a) (hb : 0 < b) : Int.gcd b (a % b) = Int.gcd a b := by
  obtain ⟨m, rfl⟩ := Int.eq_ofNat_of_zero_le ha
  obtain ⟨n, rfl⟩ := Int.eq_ofNat_of_zero_le (Int.le_of_lt hb)
  rw [← Int.natCast_emod, Int.gcd_natCast_natCast, Int.gcd_natCast_natCast, Nat.gcd_comm n (m % n), ← Nat.gcd_rec, Nat.gcd_comm]
def rf (x : Rat) : Int × Int := (x.num, (x.den : Int))
theorem rf_pos (x : Rat) : 0 < (rf x).2 := by
  have := x.den_pos
  show (0 : Int) < (x.den : Int)
  omega
theorem rf_val (x : Rat) : ((rf x).1 : Rat) / ((rf x).2 : Rat) = x := by
  show (x.num : Rat) / ((x.den : Int) : Rat) = x
  rw [← Rat.divInt_eq_div, Rat.divInt_ofNat, Rat.mkRat_self]
theorem rf_inj {x y : Rat} (h : rf x = rf y) : x = y := by rw [← rf_val x, ← rf_val y, h]
theorem rf_red {a b : Int} (hb : 0 < b) : (a / (Int.gcd a b : Int), b / (Int.gcd a b : Int)) = rf ((a : Rat) / (b : Rat)) := by
  rw [← Rat.divInt_eq_div]
  unfold rf
  have h1 := Rat.num_divInt a b
  have h2 := Rat.den_divInt a b
  rw [h1, h2]
  have hs : b.sign = 1 := Int.sign_eq_one_of_pos hb
  rw [hs, if_neg (by omega), Int.one_mul, Int.gcd_comm b a]
  congr 1
  have : (b.natAbs : Int) = b := by omega
  rw [Int.natCast_ediv, this]
inductive Mob (N : Type) where
  | wt (n : N)
  | rod (l r : Int) (a b : Mob N)
namespace Mob
variable {N : Type}
def arms : Mob N → Prop
  | wt _ => True
  | rod l r a b => 1 ≤ l ∧ l ≤ 9 ∧ 1 ≤ r ∧ r ≤ 9 ∧ a.arms ∧ b.arms
def deep : Mob N → Nat
  | wt _ => 0
  | rod _ _ a b => max a.deep b.deep + 1
def names : Mob N → List N
  | wt n => [n]
  | rod _ _ a b => a.names ++ b.names
def sh : Mob N → Rat → List Rat
  | wt _, x => [x]
  | rod l r a b, x => a.sh (x * ((r : Rat) / ((l + r : Int) : Rat))) ++ b.sh (x * ((l : Rat) / ((l + r : Int) : Rat)))
theorem sh_len : ∀ (m : Mob N) (x : Rat), (m.sh x).length = m.names.length
  | wt _, _ => rfl
  | rod l r a b, x => by
    show List.length (_ ++ _) = List.length (_ ++ _)
    rw [List.length_append, List.length_append, sh_len a, sh_len b]
theorem names_le : ∀ (m : Mob N), m.names.length ≤ 2 ^ m.deep
  | wt _ => Nat.le_refl 1
  | rod _ _ a b => by
    have h1 := names_le a
    have h2 := names_le b
    have h3 : 2 ^ a.deep ≤ 2 ^ max a.deep b.deep := Nat.pow_le_pow_right (by decide) (Nat.le_max_left _ _)
    have h4 : 2 ^ b.deep ≤ 2 ^ max a.deep b.deep := Nat.pow_le_pow_right (by decide) (Nat.le_max_right _ _)
    show List.length (_ ++ _) ≤ 2 ^ (max a.deep b.deep + 1)
    rw [List.length_append, Nat.pow_succ]
    omega
theorem names_pos : ∀ (m : Mob N), 0 < m.names.length
  | wt _ => Nat.zero_lt_one
  | rod _ _ a b => by
    have h1 := names_pos a
    show 0 < List.length (_ ++ _)
    rw [List.length_append]
    omega
theorem sum_app : ∀ (xs ys : List Rat), (xs ++ ys).sum = xs.sum + ys.sum
  | [], ys => by simp; grind
  | x :: xs, ys => by
    rw [List.cons_append, List.sum_cons, List.sum_cons, sum_app xs ys]
    grind
theorem sh_sum : ∀ (m : Mob N) (x : Rat), m.arms → (m.sh x).sum = x
  | wt _, x, _ => by simp [sh]; grind
  | rod l r a b, x, h => by
    obtain ⟨h1, h2, h3, h4, h5, h6⟩ := h
    show List.sum (_ ++ _) = x
    rw [sum_app, sh_sum a _ h5, sh_sum b _ h6]
    have hne : ((l + r : Int) : Rat) ≠ 0 := by
      intro z
      have : (l + r : Int) = 0 := by exact_mod_cast z
      omega
    have hc : ((l + r : Int) : Rat) = (l : Rat) + (r : Rat) := Rat.intCast_add l r
    rw [hc] at hne ⊢
    grind
end Mob
end MA
namespace MA
theorem cast_ne {a : Int} (h : a ≠ 0) : (a : Rat) ≠ 0 := by
  intro z
  exact h (by exact_mod_cast z)
theorem rf_mul (t : Rat) (a b : Int) : rf ((((rf t).1 * a : Int) : Rat) / (((rf t).2 * b : Int) : Rat)) = rf (t * ((a : Rat) / (b : Rat))) := by
  have h1 := cast_ne (Int.ne_of_gt (rf_pos t))
  congr 1
  rw [Rat.intCast_mul, Rat.intCast_mul]
  have e1 := rf_val t
  by_cases hb : (b : Rat) = 0
  · rw [hb]; grind
  · grind
theorem den_le {a b : Int} (hb : 0 < b) : (rf ((a : Rat) / (b : Rat))).2 ≤ b := by
  rw [← rf_red hb]
  show b / (Int.gcd a b : Int) ≤ b
  exact Int.ediv_le_self _ (Int.le_of_lt hb)
theorem den_mul {t : Rat} {a b : Int} (hb : 0 < b) : (rf (t * ((a : Rat) / (b : Rat)))).2 ≤ (rf t).2 * b := by
  rw [← rf_mul]
  exact den_le (Int.mul_pos (rf_pos t) hb)
theorem num_pos {x : Rat} (h : 0 < x) : 0 < (rf x).1 := by
  have h1 : 0 ≤ (rf x).1 := Rat.num_nonneg.mpr (Rat.le_of_lt h)
  have h2 : (rf x).1 ≠ 0 := fun z => by
    have e := rf_val x
    rw [z] at e
    have e0 : x = 0 := by rw [← e, Rat.div_def]; grind
    rw [e0] at h
    exact absurd h (by decide)
  omega
namespace Mob
variable {N : Type}
theorem step_pos {l r : Int} {x : Rat} (hl : 1 ≤ l) (hr : 1 ≤ r) (h : 0 < x) : 0 < x * ((r : Rat) / ((l + r : Int) : Rat)) := by
  have h1 : (0 : Rat) < (r : Rat) := by exact_mod_cast (show (0 : Int) < r by omega)
  have h2 : (0 : Rat) < ((l + r : Int) : Rat) := by exact_mod_cast (show (0 : Int) < l + r by omega)
  exact Rat.mul_pos h (by rw [Rat.div_def]; exact Rat.mul_pos h1 (Rat.inv_pos.mpr h2))
theorem sh_bound : ∀ (m : Mob N) (x : Rat) (B : Int), m.arms → 0 < x → (rf x).2 ≤ B → ∀ s ∈ m.sh x, 0 < s ∧ (rf s).2 ≤ B * 18 ^ m.deep
  | wt _, x, B, _, h1, h2, s, hs => by
    have : s = x := by simpa [sh] using hs
    subst this
    exact ⟨h1, by simpa [deep] using h2⟩
  | rod l r a b, x, B, h, h1, h2, s, hs => by
    obtain ⟨g1, g2, g3, g4, g5, g6⟩ := h
    have hB : 0 < B := Int.lt_of_lt_of_le (rf_pos x) h2
    have d1 : (rf (x * ((r : Rat) / ((l + r : Int) : Rat)))).2 ≤ B * 18 := by
      refine Int.le_trans (den_mul (by omega)) ?_
      exact Int.mul_le_mul h2 (by omega) (by omega) (by omega)
    have d2 : (rf (x * ((l : Rat) / ((l + r : Int) : Rat)))).2 ≤ B * 18 := by
      refine Int.le_trans (den_mul (by omega)) ?_
      exact Int.mul_le_mul h2 (by omega) (by omega) (by omega)
    have p1 : 0 < x * ((r : Rat) / ((l + r : Int) : Rat)) := step_pos g1 g3 h1
    have p2 : 0 < x * ((l : Rat) / ((l + r : Int) : Rat)) := by
      have := step_pos (l := r) (r := l) g3 g1 h1
      rwa [Int.add_comm r l] at this
    have up : ∀ k : Nat, k ≤ max a.deep b.deep → B * 18 * 18 ^ k ≤ B * 18 ^ (max a.deep b.deep + 1) := fun k hk => by
      rw [Int.pow_succ, Int.mul_assoc, Int.mul_comm 18 (18 ^ k)]
      refine Int.mul_le_mul_of_nonneg_left ?_ (Int.le_of_lt hB)
      refine Int.mul_le_mul_of_nonneg_right ?_ (by decide)
      have : (18 : Nat) ^ k ≤ 18 ^ max a.deep b.deep := Nat.pow_le_pow_right (by decide) hk
      exact_mod_cast this
    have hs' : s ∈ a.sh (x * ((r : Rat) / ((l + r : Int) : Rat))) ∨ s ∈ b.sh (x * ((l : Rat) / ((l + r : Int) : Rat))) := List.mem_append.mp hs
    rcases hs' with hs | hs
    · obtain ⟨q1, q2⟩ := sh_bound a _ _ g5 p1 d1 s hs
      exact ⟨q1, Int.le_trans q2 (up _ (Nat.le_max_left _ _))⟩
    · obtain ⟨q1, q2⟩ := sh_bound b _ _ g6 p2 d2 s hs
      exact ⟨q1, Int.le_trans q2 (up _ (Nat.le_max_right _ _))⟩
end Mob
def barM {W N S : Type} [DecidableEq N] [DecidableEq S] (pre : List (W × N × S)) : List (W × N × S) → Option (W × W)
  | [] => none
  | (w, n, s) :: r => match pre.find? (fun p => decide (p.2.1 = n)) with
    | some p => if p.2.2 = s then barM (pre ++ [(w, n, s)]) r else some (p.1, w)
    | none => barM (pre ++ [(w, n, s)]) r
end MA
namespace L2
open PySem PySem.Spec PyProof.Rows
section
variable {P : Program} {w : World} {H H' : Hp} {h : Heap} {a : Addr} {o : HO}
theorem ObjOk.obj (x : ObjOk P w H h a o) : ∃ u, h.get? a = some u := by
  cases o with
  | lst xs => obtain ⟨_, _, _, _, e⟩ := x; exact ⟨_, e⟩
  | tup xs => obtain ⟨_, _, _, _, e⟩ := x; exact ⟨_, e⟩
  | dK kvs => obtain ⟨_, _, _, _, o, _, _, e, _⟩ := x; exact ⟨_, e⟩
  | dT kvs => obtain ⟨_, _, _, _, o, _, _, e, _⟩ := x; exact ⟨_, e⟩
  | set S n => obtain ⟨o, _, _, _, e, _⟩ := x; exact ⟨_, e⟩
  | ins C dx fs => obtain ⟨_, _, _, e, _⟩ := x; exact ⟨_, e⟩
  | own y => exact x
  | xd fs => obtain ⟨_, ⟨_, _, _, e, _⟩, _⟩ := x; exact ⟨_, e⟩
  | rng lo hi => obtain ⟨_, _, _, e⟩ := x; exact ⟨_, e⟩
  | frz ob u => obtain ⟨e, _⟩ := x; exact ⟨_, e⟩
  | tbl ps => exact ⟨_, (show h.get? a = some _ from x)⟩
  | met f y => exact ⟨_, (show h.get? a = some _ from x)⟩
  | ext φ => obtain ⟨_, e, _⟩ := x; exact e
end
structure Fly (P : Program) (w : World) (outer : List Env) (H H' : Hp) (s s' : Shared) (a : Addr) (C : Value) : Prop where
  os : s'.os = s.os
  bare : AllBare s'.gens
  slot : ∀ b o, s.heap.get? b = some o → b ∈ frs outer → ∃ sl, s'.heap.get? b = some { o with slots := sl }
  free : ∀ b o, s.heap.get? b = some o → H b = none → H' b = none
  tups : ∀ b xs, H b = some (.tup xs) → H' b = some (.tup xs)
  frzs : ∀ b o u, H b = some (.frz o u) → H' b = some (.frz o u)
  tbls : ∀ b ps, H b = some (.tbl ps) → ∃ more, H' b = some (.tbl (ps ++ more))
  fl : ∃ (B : Heap) (a0 : Value), (∀ b o, s.heap.get? b = some o → H b = none → b ∉ frs outer → B.get? b = some o) ∧ (∀ b o, s.heap.get? b = some o → b ∉ frs outer → ∃ o', B.get? b = some o') ∧ HOk P w H' B ∧ Heap.FlyingW B outer a C a0 s'.heap
section
variable {P : Program} {w : World} {outer : List Env} {H H' : Hp} {s s' : Shared} {a : Addr} {C : Value}
theorem Fly.un (F : Fly P w outer H H' s s' a C) : Un (frs outer) [] H H' s.heap s'.heap where
  keep := fun b o q n hb _ => by
    obtain ⟨B, a0, k, _, _, f⟩ := F.fl
    exact f.1 b o (k b o q n hb)
  slot := fun b o q n hb _ => F.slot b o q hb
  free := fun b o q n _ => F.free b o q n
  there := fun b o q _ => by
    by_cases hb : b ∈ frs outer
    · obtain ⟨sl, e⟩ := F.slot b o q hb
      exact ⟨_, e⟩
    · obtain ⟨B, a0, _, t, _, f⟩ := F.fl
      obtain ⟨o', e⟩ := t b o q hb
      exact ⟨o', f.1 b o' e⟩
  tups := F.tups
  frzs := F.frzs
  tbls := F.tbls
theorem Fly.hok (F : Fly P w outer H H' s s' a C) : HOk P w H' s'.heap := by
  obtain ⟨B, a0, _, _, h, f⟩ := F.fl
  exact h.kept f.1
theorem Fly.new (F : Fly P w outer H H' s s' a C) : H' a = none := by
  obtain ⟨B, a0, _, _, h, f⟩ := F.fl
  cases e : H' a with
  | none => rfl
  | some o =>
    obtain ⟨u, q⟩ := (h a o e).obj
    rw [f.2.1] at q
    cases q
end
def CX1 (P : Program) (w : World) : CXT := fun outer H s E e s' => ∃ (a : Addr) (C : Value) (H' : Hp), e = .ref a ∧ Fly P w outer H H' s s' a C ∧ E C none H'
section
variable {X : Cx} {pins : List (Addr × Obj)} {σ : St} {H H' : Hp} {s s' : Shared} {a : Addr} {C : Value}
theorem fly_out (I : Inv X pins σ H s) (hex : X.ex = []) (os : s'.os = s.os) (bare : AllBare s'.gens) (slot : ∀ b o, s.heap.get? b = some o → b ∈ frs X.outer → ∃ sl, s'.heap.get? b = some { o with slots := sl })
    (free : ∀ b o, s.heap.get? b = some o → H b = none → H' b = none) (tups : ∀ b xs, H b = some (.tup xs) → H' b = some (.tup xs)) (frzs : ∀ b o u, H b = some (.frz o u) → H' b = some (.frz o u))
    (tbls : ∀ b ps, H b = some (.tbl ps) → ∃ more, H' b = some (.tbl (ps ++ more)))
    (fl : ∃ (B : Heap) (a0 : Value), (∀ b o, s.heap.get? b = some o → H b = none → b ∉ frs X.stack → B.get? b = some o) ∧ (∀ b o, s.heap.get? b = some o → b ∉ frs X.stack → ∃ o', B.get? b = some o') ∧ HOk X.prog X.w H' B ∧ Heap.FlyingW B X.outer a C a0 s'.heap) :
    Fly X.prog X.w X.outer X.H₀ H' X.s₀ s' a C := by
  have nx : ∀ b : Addr, b ∉ X.ex := fun b => by rw [hex]; simp
  have nst : ∀ b o, X.s₀.heap.get? b = some o → b ∉ frs X.outer → b ∉ frs X.stack := fun b o q hb z => by
    rcases List.mem_cons.mp (I.stkSub b z) with e | e
    · exact absurd (Nat.lt_of_lt_of_le (Heap.lt_size q) I.ok.above) (by rw [e]; exact Nat.lt_irrefl _)
    · exact hb e
  refine ⟨os.trans I.os, bare, fun b o q hb => ?_, fun b o q n => ?_, fun b xs q => tups b xs (I.base.tups b xs q), fun b o u q => frzs b o u (I.base.frzs b o u q), fun b ps q => ?_, ?_⟩
  · obtain ⟨sl, e⟩ := I.base.slot b o q (I.ok.frf b hb) hb (nx b)
    obtain ⟨sl', e'⟩ := slot b _ e hb
    exact ⟨sl', e'⟩
  · obtain ⟨sl, e⟩ := I.base.any q n (nx b)
    exact free b _ e (I.base.free b o q n (nx b))
  · obtain ⟨m1, e1⟩ := I.base.tbls b ps q
    obtain ⟨m2, e2⟩ := tbls b _ e1
    exact ⟨m1 ++ m2, by rw [e2, Array.append_assoc]⟩
  · obtain ⟨B, a0, k, t, h, f⟩ := fl
    refine ⟨B, a0, fun b o q n hb => k b o (I.base.keep b o q n hb (nx b)) (I.base.free b o q n (nx b)) (nst b o q hb), fun b o q hb => ?_, h, f⟩
    obtain ⟨o', e⟩ := I.base.there b o q (nx b)
    exact t b o' e (nst b o q hb)
end
def Raises (X : Cx) (E : XK) : Prop := ∀ (pins : List (Addr × Obj)) (σ : St) (H : Hp) (s : Shared) (e : Addr) (h' : Heap) (C : Value) (args : List Value), Inv X pins σ H s → Heap.MadeExcOf s.heap h' e C args → E C none H → X.xe (.ref e) { s with heap := h' }
section
variable {P : Program} {w : World} {K : PySem.W.Frag} {mg : Str → Option Value} {base : Heap} {N : List Str} {qual : Str} {scope : Scope} {f : Addr} {cd : Value} {A : Around} {outer : List Env} {s : Shared} {H : Hp} {E : XK}
theorem frs_cons {env : Env} {l : List Env} {b : Addr} (h : b ∈ frs l) : b ∈ frs (env :: l) := by
  obtain ⟨e, he, hf⟩ := List.mem_filterMap.mp h
  exact List.mem_filterMap.mpr ⟨e, List.mem_cons_of_mem _ he, hf⟩
theorem raisesX : Raises (cxOf (CX1 P w) P w K mg base N qual scope f cd A outer s H E) E := by
  intro pins σ H1 s1 e h' C args I mx hE
  have stk := I.stack
  have nofr : ∀ b o, H1 b = some o → b ∉ frs (cxOf (CX1 P w) P w K mg base N qual scope f cd A outer s H E).stack := fun b o q z => by
    rw [I.stkFree b z] at q; cases q
  have hin : ∀ env' ∈ (cxOf (CX1 P w) P w K mg base N qual scope f cd A outer s H E).stack, ∀ b, env'.frame = some b → b ∈ frs (cxOf (CX1 P w) P w K mg base N qual scope f cd A outer s H E).stack := fun env' he b hb => List.mem_filterMap.mpr ⟨env', he, hb⟩
  show wpAny (model P w) _ (leaving _ (.ref e)) _ _ _
  refine wpAny_leaves_madeW (base := PySem.W.hideAll s1.heap (frs (cxOf (CX1 P w) P w K mg base N qual scope f cd A outer s H E).stack)) I.ok.frames rfl (fun b o q => PySem.W.of_hideAll _ q) (PySem.W.funFrames_hide stk hin) mx fun h'' t fl tup bt up => ?_
  refine ⟨e, C, H1, rfl, fly_out I rfl rfl I.bare (fun b o q hb => ?_) (fun _ _ _ n => n) (fun _ _ q => q) (fun _ _ _ q => q) (fun _ ps q => ⟨#[], by rw [q]; simp⟩) ⟨_, _, fun b o q n hb => PySem.W.hideAll_get _ q hb, fun b o q hb => ⟨o, PySem.W.hideAll_get _ q hb⟩, fun b o q => ?_, fl⟩, hE⟩
  · obtain ⟨_, o', ho', hd⟩ := stk.mem (frs_cons (env := envOfC qual scope s.heap.objs.size f cd) hb)
    rw [q] at ho'
    cases ho'
    exact up b o (mx.keeps b o q) hd
  · refine (I.hok b o q).stay (fun c u hc r => PySem.W.hideAll_get _ r ?_) (fun _ r => r) fun _ _ r => r
    rcases hc with z | z
    · rw [z]; exact nofr b o q
    · exact nofr c _ z
theorem passX : Passes (CX1 P w) (cxOf (CX1 P w) P w K mg base N qual scope f cd A outer s H E) E := by
  intro pins σ H1 s1 e s' I h
  obtain ⟨a, C, H', rfl, F, hE⟩ := h
  obtain ⟨B, a0, kb, th, hok, fl⟩ := F.fl
  show wpAny (model P w) _ (leaving _ (.ref a)) _ _ _
  refine wpAny_leaves_onW I.ok.frames rfl fl fun h'' fl' up => ⟨a, C, H', rfl, fly_out I rfl F.os F.bare (fun b o q hb => ?_) F.free F.tups F.frzs F.tbls ⟨B, a0, kb, th, hok, fl'⟩, hE⟩
  have hb' := frs_cons (env := envOfC qual scope s.heap.objs.size f cd) hb
  obtain ⟨sl, e⟩ := F.slot b o q hb'
  obtain ⟨_, o', ho', hd⟩ := fl.2.2.1.mem hb'
  rw [e] at ho'
  cases ho'
  obtain ⟨sl', e'⟩ := up b _ e hd
  exact ⟨sl', e'⟩
theorem ownX : PassesOwn (model P w) (cxOf (CX1 P w) P w K mg base N qual scope f cd A outer s H E).A (cxOf (CX1 P w) P w K mg base N qual scope f cd A outer s H E).env (cxOf (CX1 P w) P w K mg base N qual scope f cd A outer s H E).xe :=
  PassesOwn.leaving
end
abbrev vErr : List Value := [.type "ValueError", .type "Exception", .type "BaseException", .type "object"]
theorem exc_of_in {K : PySem.W.Frag} {h : Heap} {C : Addr} {bmB : List Value} {newId : String} (X : K.In h) (q : PySem.W.excIn K C bmB newId = true) : ∃ nm qn N bs bm hdct sn sub ab col dd k0 k1 k2 k3 k5, ∃ mN : Str → Option Value,
    h.get? C = some (excClassObj nm qn C N bs bm hdct sn sub ab col dd k0 k1 k2 k3 k5 newId) ∧ h.Ns N mN ∧ mN "__init__" = none ∧ OwnTail h bmB bm := by
  unfold PySem.W.excIn at q
  split at q
  · rename_i dd cd sl ho
    split at q
    · rename_i C' bm k0 k1 k2 k3 n k5 hm hs
      simp only [Bool.and_eq_true, beq_iff_eq, Bool.not_eq_true'] at q
      obtain ⟨⟨⟨⟨⟨rfl, rfl⟩, hdel⟩, ht⟩, hok⟩, hni⟩ := q
      obtain ⟨nm, bs, mro, ns, qn, hd, sn, sub, ab, col, del⟩ := cd
      dsimp only at hm hdel hok hni
      subst hm hdel
      have hsl : sl = #[k0, k1, k2, k3, some (.builtin n), k5] := by
        obtain ⟨l⟩ := sl
        simp only at hs
        rw [hs]
      subst hsl
      exact ⟨nm, qn, ns, bs, bm, hd, sn, sub, ab, col, dd, k0, k1, k2, k3, k5, _, X _ _ ho, .of_isNs (PySem.W.isNs_of_in X hok), PySem.W.nsMap_none_of_in X hok hni, PySem.W.tail_of_in X ht⟩
    · cases q
  · cases q
section
variable {X : Cx} {E : XK} {x : Str} {C : Addr} {e : Expr} {t : TA} {np cpos pos : Pos}
def tRaise (E : XK) (C : Addr) (t : TA) : TS := fun _ σ H => t σ H fun vs H1 => vs.length ≤ sizeLine ∧ E (.ref C) none H1
theorem ps_raise (hR : Raises X E) (hc : X.calm = true) (hm : X.mg x = some (.ref C)) (hC : PySem.W.excIn X.K C vErr "ValueError.__new__" = true) (ha : PA X [e] t) (hg : Gl X x := by rfl) (hdb : (x == ("__debug__" : Str)) = false := by decide)
    (he : starEach [e] X.env = [(false, eval e X.env)] := by rfl) : PS X (.Raise (some (.Call (.Name x np) [e] [] cpos)) none pos) (tRaise E C t) := by
  intro pins s σ H D I h
  obtain ⟨nm, qn, N, bs, bm, hdct, sn, sub, ab, col, dd, k0, k1, k2, k3, k5, mN, hCo, hN, hni, hT⟩ := exc_of_in I.mod.kin hC
  refine wpAny_Raise_call_subT (nm := nm) (q := qn) (C := C) (N := N) (bs := bs) (bm := bm) (hdct := hdct) (sn := sn) (sub := sub) (ab := ab) (col := col) (dd := dd) (k0 := k0) (k1 := k1) (k2 := k2) (k3 := k3) (k5 := k5) (mN := mN) PySem.F.excBase_ValueError (hT.hasType (by decide +kernel)) (I.ok.hd hc) (by rw [he]; rfl) hni (ld_glob I hg hm ⟨rfl, ?_⟩ hdb)
  have h' := ha cpos pins s σ H _ I h
  rw [he] at h' ⊢
  refine Calls.evalArgs_plain (thn h' fun us s1 ⟨vs, H1, I1, r1, q1⟩ => ?_)
  have hl := r1.length
  exact ⟨rfl, by show us.length ≤ sizeLine; rw [← hl]; exact q1.1, I1.bk _ _ hCo, hN.keeps I1.bk, hT.keeps I1.bk, fun h2 e2 mx => hR _ _ _ _ _ _ _ _ I1 mx q1.2⟩
end
end L2
namespace L2
open PySem PySem.Spec PyProof.Rows
def excAt (a : Addr) (C : Value) (h : Heap) : Prop := ∃ o, h.get? a = some o ∧ o.cls = C
structure ExcK (K : PySem.W.Frag) (C : Addr) : Prop where
  ga : PySem.W.findIn K (.ref C) "__getattribute__" = some (some (.builtin "BaseException.__getattribute__"))
  gh : PySem.W.findIn K (.ref C) "__getattr__" = some none
  fc : PySem.W.findIn K (.ref C) "__class__" = some (some (.builtin "object.__class__"))
  fg : PySem.W.specialIn K (.builtin "object.__class__") "__get__" = some (some (.builtin "getset_descriptor.__get__"))
  ft : PySem.W.takesIn K (.builtin "object.__class__") = some true
  mo : PySem.W.mroIn K C (.type "object") = some true
  mb : PySem.W.mroIn K C (.type "BaseException") = some true
  cl : (PySem.W.clsIn K C).isSome = true
section
variable {prog : Program} {w : World} {A : Around} {E : Value → Shared → Prop} {s : Shared} {K : PySem.W.Frag} {x C : Addr} {ox : Obj}
open PySem.W Builtin Builtin.ObjectAttr in
theorem find_data {M : Model} {h : Heap} {name : Str} {a g : Value} (X : K.In h) (h1 : PySem.W.findIn K (.ref C) name = some (some a)) (h2 : PySem.W.specialIn K a "__get__" = some (some g)) (h3 : PySem.W.takesIn K a = some true) :
    Looks M h (find (.ref x) (.ref C) name) (.bind g a) := by
  have L1 := looks_findIn (M := M) X h1
  have L2 : Looks M h (getOf (some a)) (some g) := looks_specialIn X h2
  have L3 := looks_takesIn (M := M) X h3
  exact L1.andThen (L2.andThen ((show Looks M h (dataDescriptor? (some a) (some g)) (some (g, a)) from L3.andThen .now).andThen (Looks.tag .now)))
open PySem.W Builtin Builtin.ObjectAttr Builtin.Getset_descriptor in
theorem exc_get {R : Result → Shared → Prop} {tp : Value} (X : K.In s.heap) (L0 : Looks (model prog w) s.heap (typeOf (.ref x)) (.ref C)) (hm : PySem.W.mroIn K C (.type "object") = some true)
    (h : R (.ok (.ret (.ref C))) s) : codeAny (model prog w) A (.call (.builtin "getset_descriptor.__get__") ⟨[.builtin "object.__class__", .ref x, tp], []⟩) R s := by
  obtain ⟨hh, g, dr, t, os⟩ := s
  have L1 := looks_mroIn (M := model prog w) X hm
  refine codeAny_call_builtin KF.slot_gs.plain KF.entry_gs (KF.slot_gs.check _ _ _ _ _ _ _ _ KF.type_class (KF.args_gs _ _ _) ?_)
  unfold Builtin.«getset_descriptor.__get__» descrGet
  rw [dga_obj]
  refine wpAny_bind (wpAny_pure ?_)
  unfold descrGetter descrCheckInstance descrNameAndClass isInstance
  simp only [KF.owner_class]
  repeat lk
  refine ⟨Code.quiet_builtin _ (by decide +kernel), codeAny_builtin KF.entry_class ?_⟩
  unfold Builtin.«object.__class__» shownTypeOf
  repeat lk
  exact h
open PySem.W in
theorem exc_class (Z : ExcK K C) {Q : Option Value → Shared → Prop} (X : K.In s.heap) (I : excAt x (.ref C) s.heap) (h : Q (some (.ref C)) { s with toks := s.toks + 1 }) : wpAny (model prog w) A (getAttr? (.ref x) "__class__") Q E s := by
  obtain ⟨hh, g, d, t, os⟩ := s
  obtain ⟨ox, ho, hc⟩ := I
  have L0 : Looks (model prog w) hh (typeOf (.ref x)) (.ref C) := hc ▸ (Looks.ld ho).andThen .now
  have L1 := looks_findIn (M := model prog w) X Z.ga
  have L2 := looks_findIn (M := model prog w) X Z.gh
  have L3 := find_data (x := x) (M := model prog w) X Z.fc Z.fg Z.ft
  have L4 := looks_mroIn (M := model prog w) X Z.mb
  have hk : builtinKind "BaseException.__getattribute__" = some .slot := by decide +kernel
  have hsplit : splitId "BaseException.__getattribute__" = some ("BaseException", "__getattribute__") := by decide +kernel
  have f3 := PySem.F.excAttr_ValueError.ga.bind (.ref x)
  have hx2 : (Value.builtin "BaseException.__getattribute__" == Value.builtin "object.__getattribute__") = false := by decide +kernel
  unfold getAttr? getAttrBy? getAttrBy
  refine wpAny_bind (wpAny_mkText (wpAny_bind (wpAny_attempt (wpAny_holding (wpAny_bind (L0.at (wpAny_bind (L1.at ?_))))))))
  have hx1 : (onTheHeap (Value.ref C) && Value.builtin "BaseException.__getattribute__" == Value.builtin "object.__getattribute__") = false := by rw [hx2]; rfl
  show wpAny _ _ (if (onTheHeap (Value.ref C) && Value.builtin "BaseException.__getattribute__" == Value.builtin "object.__getattribute__") = true then _ else _) _ _ _
  rw [hx1, if_neg (by decide)]
  unfold getAttrByItsOwn hookBefore
  refine wpAny_bind ?_
  show wpAny _ _ (typeLookup (.ref C) "__getattr__") _ _ _
  refine L2.at ?_
  refine wpAny_bind (wpAny_attempt (wpAny_holding ?_))
  unfold callGetattribute boundAndCalled
  rw [if_neg (by simp), f3]
  refine wpAny_bind (wpAny_pure ?_)
  show wpAny _ _ (call (.builtin "BaseException.__getattribute__") [.ref x, .str "__class__" t]) _ _ _
  have ha := PySem.F.args_bexc_ga (.ref x) (.str "__class__" t)
  refine wpAny_call (codeAny_call_builtin PySem.F.excAttr_ValueError.ga.plain PySem.F.entry_bexc_ga ?_)
  simp only [checkBuiltinCall, hk, hsplit]
  refine wpAny_bind ?_
  unfold isInstance
  refine wpAny_bind (L0.at (L4.at ?_))
  repeat (any_goals (first | assumption | (with_reducible refine L0.at ?_) | (with_reducible refine L3.at ?_) | wp_step))
  refine exc_get (s := { heap := hh, gens := g, drawn := d, toks := t + 1, os := os }) X L0 Z.mo ?_
  refine wpAny_pure ?_
  show wpAny _ _ (handedOut (.ref C)) _ _ _
  exact handed_on rfl (wpAny_pure h)
open PySem.W in
theorem kitx_exc (Z : ExcK K C) : KitX K (.ref x) (.ref C) (excAt x (.ref C)) where
  ty := fun _ h _ p => by
    obtain ⟨ox, ho, hc⟩ := p
    exact hc ▸ (Looks.ld ho).andThen .now
  it := fun _ _ X _ => by
    have z := Z.cl
    unfold clsIn at z
    split at z
    · rename_i c' d' cd' sl' ho
      intro A' Q' E' s' k q
      unfold isType loadHead
      exact wpAny_bind (wpAny_loadPart (k _ _ (X _ _ ho)) (wpAny_pure q))
    · cases z
  ne := fun h tp dd its n sl X htp => by
    refine Bool.eq_false_iff.mpr fun q => ?_
    have e : C = tp := Value.ref.inj (beq_iff_eq.mp q)
    subst e
    have z := Z.cl
    unfold clsIn at z
    split at z
    · rename_i c' d' cd' sl' ho
      have z := (X _ _ ho).symm.trans htp
      cases z
    · cases z
  ca := fun X p k => exc_class Z X p k
end
abbrev excO (a C : Addr) : HO := .ext (excAt a (.ref C))
section
variable {X : Cx}
theorem call_isE : CallR X (.builtin "isinstance") (fun xs H Q => ∃ (a : Addr) (y : V) (C : Addr) (c : Value) (b : Bool), xs = [.ref a, y] ∧ (∀ u, RelV y u → u = c) ∧ H a = some (excO a C) ∧ ExcK X.K C ∧ PySem.W.kitOne X.K (.ref C) c = some b ∧ Q (.bl b) H) := by
  intro pins s σ H xs us Q I r h
  obtain ⟨a, y, C, c, b, rfl, hy, ha, Z, e, q⟩ := h
  obtain ⟨u, w', rfl, ru, rw'⟩ := vals2 r
  cases ru
  cases hy _ rw'
  exact PySem.W.kia_one (kitx_exc Z) I.kIn (I.hok a _ ha).1 e (fun z => nomatch z) fun tk => ⟨.bl b, H, I.tok tk, rfl, q⟩
end
end L2
namespace L2
open PySem PySem.Spec PyProof.Rows
abbrev Cx.inExc (X : Cx) (e : Addr) : Cx := { X with A := X.A.mark (some (.ref e)), calm := false, xe := fun _ _ => False }
abbrev Cx.tried (X : Cx) (pn : List (Addr × Obj)) (E : Value → Shared → Prop) : Cx := { X with pn := pn, xe := E }
section
variable {X : Cx} {pins : List (Addr × Obj)} {σ : St} {H : Hp} {s : Shared}
theorem Inv.inExc (I : Inv X pins σ H s) (e : Addr) : Inv (X.inExc e) pins σ H s :=
  ⟨⟨I.ok.mod, I.ok.kind, I.ok.glob, I.ok.blt, I.ok.above, I.ok.inj, I.ok.has, I.ok.cab, (fun z => nomatch z), I.ok.frames, I.ok.stk, I.ok.exf, I.ok.bs, I.ok.bsz, I.ok.noex, I.ok.exfs, I.ok.funs, I.ok.frf⟩, I.os, I.bare, I.base, I.loc, I.cell, I.free, I.freeC, I.pin, I.hok, I.len⟩
theorem Inv.outExc {e : Addr} (ok : X.Ok) (I : Inv (X.inExc e) pins σ H s) : Inv X pins σ H s :=
  ⟨ok, I.os, I.bare, I.base, I.loc, I.cell, I.free, I.freeC, I.pin, I.hok, I.len⟩
theorem Inv.tried (I : Inv X pins σ H s) (E : Value → Shared → Prop) : Inv (X.tried (X.pn ++ pins) E) [] σ H s :=
  ⟨⟨I.ok.mod, I.ok.kind, I.ok.glob, I.ok.blt, I.ok.above, I.ok.inj, I.ok.has, I.ok.cab, I.ok.hd, I.ok.frames, I.ok.stk, I.ok.exf, I.ok.bs, I.ok.bsz, I.ok.noex, I.ok.exfs, I.ok.funs, I.ok.frf⟩, I.os, I.bare, I.base, I.loc, I.cell, I.free, I.freeC,
    fun p hp => I.pin p ((List.mem_append.mp hp).elim id fun z => absurd z (by simp)), I.hok, I.len⟩
theorem Inv.untried {E : Value → Shared → Prop} {pins' : List (Addr × Obj)} (ok : X.Ok) (I : Inv (X.tried (X.pn ++ pins) E) pins' σ H s) : Inv X pins σ H s :=
  ⟨ok, I.os, I.bare, I.base, I.loc, I.cell, I.free, I.freeC, fun p hp => I.pin p (List.mem_append_left _ hp), I.hok, I.len⟩
theorem SP.untried {E : Value → Shared → Prop} {pins' : List (Addr × Obj)} {D : Ends} {f : Flow} (ok : X.Ok) (h : SP (X.tried (X.pn ++ pins) E) pins' D f s) : SP X pins D f s := by
  cases f with
  | next => obtain ⟨σ', H', I, q⟩ := h; exact ⟨σ', H', I.untried ok, q⟩
  | brk => obtain ⟨σ', H', I, q⟩ := h; exact ⟨σ', H', I.untried ok, q⟩
  | cont => obtain ⟨σ', H', I, q⟩ := h; exact ⟨σ', H', I.untried ok, q⟩
  | ret u => obtain ⟨v, σ', H', I, r, q⟩ := h; exact ⟨v, σ', H', I.untried ok, r, q⟩
theorem Inv.track {a : Addr} {φ : Heap → Prop} (I : Inv X pins σ H s) (n0 : ∀ b o, X.s₀.heap.get? b = some o → X.H₀ b = none → b ≠ a) (nl : X.env.locals ≠ a) (nc : ∀ x c, X.env.cells.lookup x = some c → c ≠ a) (np : ∀ p ∈ X.pn ++ pins, p.1 ≠ a)
    (hn : H a = none) (hx : φ s.heap) (ho : ∃ o, s.heap.get? a = some o) (st : ∀ h1 h2 : Heap, φ h1 → (∀ o, h1.get? a = some o → h2.get? a = some o) → φ h2) : Inv X pins σ (upd H a (.ext φ)) s := by
  refine ⟨I.ok, I.os, I.bare, ⟨I.base.keep, I.base.slot, fun b o q n hx => ?_, I.base.there, fun b xs q => ?_, fun b o u q => ?_, fun b ps q => ?_⟩, I.loc, I.cell, ?_, fun x c e => ?_, fun p hp => ?_, fun b o q => ?_, I.len⟩
  · rw [upd_ne (n0 b o q n)]; exact I.base.free b o q n hx
  · have z := I.base.tups b xs q
    rw [upd_ne (ne_of_none z hn)]; exact z
  · have z := I.base.frzs b o u q
    rw [upd_ne (ne_of_none z hn)]; exact z
  · obtain ⟨m, z⟩ := I.base.tbls b ps q
    exact ⟨m, by rw [upd_ne (ne_of_none z hn)]; exact z⟩
  · rw [upd_ne nl]; exact I.free
  · rw [upd_ne (nc x c e)]; exact I.freeC x c e
  · obtain ⟨e, n, r⟩ := I.pin p hp
    exact ⟨e, by rw [upd_ne (np p hp)]; exact n, r⟩
  · by_cases hb : b = a
    · subst hb
      rw [upd_same] at q
      cases q
      exact ⟨hx, ho, st⟩
    · rw [upd_ne hb] at q
      exact (I.hok b o q).stay (fun _ _ _ r => r) (fun c r => by rw [upd_ne (ne_of_none r hn)]; exact r) fun c xs r => by rw [upd_ne (ne_of_none r hn)]; exact r
theorem Inv.blur {h' : Heap} {t' : Nat} {m' : Str → Option Value} (I : Inv X pins σ H s) (hs : Heap.SameBut X.env.locals s.heap h') (hn : h'.Ns X.env.locals m') : Inv X pins (List.replicate X.N.length none) H { s with heap := h', toks := t' } := by
  have cne := I.cne
  obtain ⟨m, hm, _⟩ := id I.loc
  obtain ⟨oL, _, _, hoL, _⟩ := id hm
  have up : ∀ b o, X.s₀.heap.get? b = some o → b ≠ X.env.locals := fun b o e => Nat.ne_of_lt (Nat.lt_of_lt_of_le (Heap.lt_size e) I.ok.above)
  refine ⟨I.ok, I.os, I.bare, ⟨fun b o e n hb hx => ?_, fun b o e n hb hx => ?_, I.base.free, fun b o e hx => ?_, I.base.tups, I.base.frzs, I.base.tbls⟩, ⟨_, hn, fun j y v' e1 e2 e3 => ?_⟩, fun y c e => ?_, I.free, I.freeC, fun p hp => ?_, fun b ob e => ?_, by simp⟩
  · exact (hs.2 b (up b o e)).trans (I.base.keep b o e n hb hx)
  · obtain ⟨sl, e1⟩ := I.base.slot b o e n hb hx
    exact ⟨sl, (hs.2 b (up b o e)).trans e1⟩
  · obtain ⟨o', e1⟩ := I.base.there b o e hx
    exact ⟨o', (hs.2 b (up b o e)).trans e1⟩
  · rw [List.getElem?_replicate] at e2
    split at e2 <;> cases e2
  · obtain ⟨w', z⟩ := I.cell y c e
    exact ⟨w', z.sameBut hs (cne y c e)⟩
  · obtain ⟨e, n, ne, nf, d⟩ := I.pin p hp
    exact ⟨(hs.2 p.1 ne).trans e, n, ne, nf, d⟩
  · refine (I.hok b ob e).stay (fun c w' hc q => (hs.2 c ?_).trans q) (fun _ q => q) fun _ _ q => q
    rintro rfl
    rcases hc with rfl | hc
    · rw [I.free] at e; cases e
    · rw [I.free] at hc; cases hc
end
section
variable {P : Program} {w : World} {outer : List Env} {H H' : Hp} {s s' : Shared} {a : Addr} {C a0 : Value} {B h'' : Heap}
theorem Fly.move (F : Fly P w outer H H' s s' a C) (kb : ∀ b o, s.heap.get? b = some o → H b = none → b ∉ frs outer → B.get? b = some o) (th : ∀ b o, s.heap.get? b = some o → b ∉ frs outer → ∃ o', B.get? b = some o') (hok : HOk P w H' B)
    (fl : Heap.FlyingW B outer a C a0 s'.heap) (fl' : Heap.FlyingW B outer a C a0 h'') (up : s'.heap.UpToSlots h'') : Fly P w outer H H' s { s' with heap := h'' } a C := by
  refine ⟨F.os, F.bare, fun b o q hb => ?_, F.free, F.tups, F.frzs, F.tbls, B, a0, kb, th, hok, fl'⟩
  obtain ⟨sl, e⟩ := F.slot b o q hb
  obtain ⟨_, o', ho', hd⟩ := fl.2.2.1.mem hb
  rw [e] at ho'
  cases ho'
  obtain ⟨sl', e'⟩ := up b _ e hd
  exact ⟨sl', e'⟩
theorem Fly.ne (F : Fly P w outer H H' s s' a C) {b : Addr} {o : Obj} (q : s.heap.get? b = some o) (n : H b = none) : b ≠ a := by
  rintro rfl
  obtain ⟨B, a0, kb, th, hok, fl⟩ := F.fl
  obtain ⟨oe, vs, he, _, hd, _⟩ := fl.first
  by_cases hb : b ∈ frs outer
  · obtain ⟨_, o', ho', hd'⟩ := fl.2.2.1.mem hb
    rw [he] at ho'
    cases ho'
    exact hd' _ hd
  · have z := kb b o q n hb
    rw [fl.2.1] at z
    cases z
end
def tTry (K : PySem.W.Frag) (len i : Nat) (D : Addr) (tb : List (Addr × Obj) → (Value → Shared → Prop) → XK → TS) (th : TS) : TS := fun Dn σ H =>
  ∀ (pn : List (Addr × Obj)) (E : Value → Shared → Prop), tb pn E (fun C _ H' => ∃ c : Addr, C = .ref c ∧ PySem.W.exmOne K (.ref c) (.ref D) = some true ∧ ∀ (a : Addr) (σ' : St), σ'.length = len → H' a = none → th { nx := fun _ _ => False, rt := Dn.rt } (σ'.set i (some (.ref a))) (upd H' a (excO a c))) Dn σ H
section
variable {X : Cx} {D : Addr} {i : Nat} {n cn : Str} {b₀ : Stmt} {suite body : List Stmt} {tb : List (Addr × Obj) → (Value → Shared → Prop) → XK → TS} {th : TS} {np hpos pos : Pos}
theorem ps_try (hex : X.ex = []) (hst : X.stack = X.env :: X.outer) (hfr : X.env.frame = some X.env.locals) (hN : X.N.Nodup) (hi : X.N[i]? = some n) (hl : X.env.scope.names.lookup n = some .local) (hm : X.mg cn = some (.ref D))
    (hb : ∀ (pn : List (Addr × Obj)) (E : Value → Shared → Prop) (Ex : XK), Passes (CX1 X.prog X.w) (X.tried pn E) Ex → PSs (X.tried pn E) body (tb pn E Ex)) (hh : ∀ e : Addr, PSs (X.inExc e) (b₀ :: suite) th)
    (hg : Gl X cn := by rfl) (hdb : (cn == ("__debug__" : Str)) = false := by decide) :
    PS X (.Try body [.ExceptHandler (some (.Name cn np)) (some n) (b₀ :: suite) hpos] [] [] pos) (tTry X.K X.N.length i D tb th) := by
  intro pins s σ H Dn I h
  refine wpAny_Try_except ?_
  refine wpAny_mono (hb (X.pn ++ pins) _ _ ?_ [] s σ H Dn (I.tried _) (h _ _)) (fun f s₁ q => ?_) fun e s₁ q => q
  · intro pins' σ' H1 s1 e s' I1 hx
    obtain ⟨a, C, H', rfl, F, c, rfl, hex1, hth⟩ := hx
    have J1 : Inv X pins σ' H1 s1 := I1.untried I.ok
    have F : Fly X.prog X.w X.stack H1 H' s1 s' a (.ref c) := F
    obtain ⟨B, a0, kb, tth, hok, fl⟩ := F.fl
    have fl0 := fl
    rw [hst] at fl
    refine wpAny_looks_onW (by rw [← hst]; exact I.ok.frames) hfr fl fun h₄ hheld₄ hsm₄ => ?_
    refine wpAny_landsW hheld₄ fun h₅ fl₅ hsm₅ => ?_
    have F5 : Fly X.prog X.w X.stack H1 H' s1 { s' with heap := h₅ } a (.ref c) := F.move kb tth hok fl0 (by rw [hst]; exact fl₅) (hsm₄.trans hsm₅)
    have J5 : Inv X pins σ' H' { s' with heap := h₅ } := J1.call' F5.os F5.un F5.hok F5.bare fun b z => absurd z (by simp)
    have LT : PySem.W.Looks (model X.prog X.w) h₅ (typeOf (.ref a)) (.ref c) := by
      obtain ⟨ob, hob, hc⟩ := fl₅.there
      exact hc ▸ (PySem.W.Looks.ld hob).andThen .now
    refine wpAny_handleBy_cons (codeAny_handlers_test (ld_glob (X := X.inExc a) (J5.inExc a) hg hm ((PySem.W.exm_one (J5.kIn) LT hex1).here ?_) hdb)) (by intro q; cases q)
    refine codeAny_handlers_suite_as ?_
    refine lands_againW fl₅ fun h₆ fl₆ hsm₆ => ?_
    have F6 : Fly X.prog X.w X.stack H1 H' s1 { s' with heap := h₆ } a (.ref c) := F5.move kb tth hok (by rw [hst]; exact fl₅) (by rw [hst]; exact fl₆) hsm₆
    have J6 : Inv X pins σ' H' { s' with heap := h₆ } := J1.call' F6.os F6.un F6.hok F6.bare fun b z => absurd z (by simp)
    obtain ⟨ob, hob, hobc⟩ := fl₆.there
    have J7 : Inv X pins σ' (upd H' a (excO a c)) { s' with heap := h₆ } := by
      refine J6.track (fun b o q n => ?_) ?_ (fun x c' e => ?_) (fun p hp => ?_) F6.new ⟨ob, hob, hobc⟩ ⟨ob, hob⟩ fun h1 h2 p k => ?_
      · obtain ⟨sl, e⟩ := J1.base.any q n (by rw [hex]; simp)
        exact F6.ne e (J1.base.free b o q n (by rw [hex]; simp))
      · obtain ⟨m, ⟨o, _, _, e, _⟩, _⟩ := id J1.loc
        exact F6.ne e J1.free
      · obtain ⟨v, o, e, _⟩ := J1.cell x c' e
        exact F6.ne e (J1.freeC x c' (by assumption))
      · obtain ⟨e, n, _⟩ := J1.pin p hp
        exact F6.ne e n
      · obtain ⟨o, e, ec⟩ := p
        exact ⟨o, k o e, ec⟩
    refine store_ok (X := X.inExc a) (J7.inExc a) hN hi (.inl hl) (v := .ref a) rfl (fun s₇ J8 => ?_) (.inr hl)
    refine wpAny_mono (hh a pins s₇ _ _ _ J8 (hth a σ' J1.len F.new)) (fun fl s₈ q => ?_) fun e s₈ z => False.elim z
    cases fl with
    | next => obtain ⟨_, _, _, z⟩ := q; exact False.elim z
    | brk => obtain ⟨_, _, _, z⟩ := q; exact False.elim z
    | cont => obtain ⟨_, _, _, z⟩ := q; exact False.elim z
    | ret u =>
      obtain ⟨v, σ2, H2, J9, rv, z⟩ := q
      have J9 : Inv X pins σ2 H2 s₈ := J9.outExc I.ok
      obtain ⟨m, hn, _⟩ := id J9.loc
      exact wpAny_nameGoes hl hn (by rw [I.ok.kind]; rfl) fun h' m' hn' hs => ⟨v, _, H2, J9.blur hs hn', rv, z⟩
  · cases f with
    | next => exact wpAny_execs_nil (SP.untried I.ok q)
    | brk => exact SP.untried I.ok q
    | cont => exact SP.untried I.ok q
    | ret u => exact SP.untried I.ok q
end
end L2
namespace L2
open PySem PySem.Spec PyProof.Rows
section
variable {P : Program} {w : World} {K : PySem.W.Frag} {mg : Str → Option Value} {base : Heap}
def FnX (P : Program) (w : World) (K : PySem.W.Frag) (mg : Str → Option Value) (base : Heap) (k : Nat) (x : Str) (ps : List Str) (sp : Sp) : Prop :=
  ∃ f fd, FnOk P w K mg base (CX1 P w) k f fd ps sp ∧ Binds K fd ps [] ∧ PySem.W.keepIn K (.ref f) = true ∧ mg x = some (.ref f)
theorem TopD.fnX {x : Str} {st : Stmt} {N ps : List Str} {k : Nat} {sp : Sp} (T : TopD K mg x st ps) (S : FnScope N ps (defScope st)) (len : ∀ vs H Q E, sp vs H Q E → vs.length = ps.length)
    (hbody : ∀ (f : Addr) (cdv : Value) (A : Around) (outer : List Env) (s : Shared) (H : Hp) (vs : List V) (Q : VK) (E : XK), Room k (A.deeper (envOfC x (defScope st) s.heap.objs.size f cdv)) → sp vs H Q E →
      ∃ t, PSs (cxOf (CX1 P w) P w K mg base N x (defScope st) f cdv A outer s H E) (defBody st) t ∧ t { nx := fun _ H' => Q .non H', rt := Q } (start N vs) H) : FnX P w K mg base (k + 1) x ps sp := by
  obtain ⟨f, fd, F, b, m⟩ := T
  have kp := F.kp
  obtain ⟨oc, od, kV, doc, pm, an, cdv, ct, osl, rfl, lk, hcd⟩ := F.ex
  exact ⟨f, _, fn_of lk hcd S len fun A outer s H vs Q E hr hsp => hbody f cdv A outer s H vs Q E hr hsp, b, kp, m⟩
structure RoomH (k : Nat) (A : Around) : Prop where
  dp : A.depth + 3 * k + 5 < recursionLimit
  un : A.units + 16 * k + 200 < cLine
theorem RoomH.of {k : Nat} {A : Around} {h : Option Value} (r : Room k A) : RoomH k (A.mark h) := ⟨r.dp, r.un⟩
def FnH (P : Program) (w : World) (K : PySem.W.Frag) (mg : Str → Option Value) (base : Heap) (k : Nat) (x : Str) (ps : List Str) (sp : Sp) : Prop :=
  ∃ f fd, (∀ vs H Q E, sp vs H Q E → vs.length = ps.length) ∧ (∀ (A : Around) (outer : List Env) (s : Shared) (H : Hp) (args : Args) (us : List Value) (vs : List V) (Q : VK) (E : XK), RoomH k A → Env0 P w K mg base A outer s H → BindsTo s fd args (ps.zip us) → Vals vs us → sp vs H Q E →
    codeAny (model P w) A (.call (.ref f) args) (CR CX0 outer P w H s Q E) s) ∧ Binds K fd ps [] ∧ PySem.W.keepIn K (.ref f) = true ∧ mg x = some (.ref f)
abbrev Cx.loud (X : Cx) (A : Around) : Cx := { X with A := A, calm := false, xe := fun _ _ => False }
theorem TopD.fnH {x : Str} {st : Stmt} {N ps : List Str} {k : Nat} {sp : Sp} (T : TopD K mg x st ps) (S : FnScope N ps (defScope st)) (len : ∀ vs H Q E, sp vs H Q E → vs.length = ps.length)
    (hbody : ∀ (f : Addr) (cdv : Value) (A : Around) (outer : List Env) (s : Shared) (H : Hp) (vs : List V) (Q : VK) (E : XK), RoomH k (A.deeper (envOfC x (defScope st) s.heap.objs.size f cdv)) → sp vs H Q E →
      ∃ t, PSs ((cxOf CX0 P w K mg base N x (defScope st) f cdv { A with handled := Option.none } outer s H E).loud (A.deeper (envOfC x (defScope st) s.heap.objs.size f cdv))) (defBody st) t ∧ t { nx := fun _ H' => Q .non H', rt := Q } (start N vs) H) : FnH P w K mg base (k + 1) x ps sp := by
  obtain ⟨f, fd, F, b, m⟩ := T
  have kp := F.kp
  obtain ⟨oc, od, kV, doc, pm, an, cdv, ct, osl, rfl, lk, hcd⟩ := F.ex
  refine ⟨f, _, len, fun A outer s H args us vs Q E hr e0 hb r hsp => ?_, b, kp, m⟩
  have hl := len _ _ _ _ hsp
  have KX : K.In s.heap := e0.mod.kin.keeps fun b o e => (e0.bs b o e).1
  have lim : s.heap.NoLimit := e0.mod.nolimit.keeps fun b o e => (e0.bs b o e).1
  have hkind : ∀ y ∈ ps.zip us, (defScope st).names.lookup y.1 = some .local ∨ ((defScope st).names.lookup y.1 = some .cell ∧ ((cellsFrom (s.heap.objs.size + 1) (defScope st).names []).lookup y.1).isSome = true) := fun ⟨n, v⟩ hy => by
    rcases S.par n (List.of_mem_zip hy).1 with q | q
    · exact .inl q
    · exact .inr ⟨q, PySem.W.cellsFrom_some _ _ _ (.inl q)⟩
  refine codeAny_call_function (by have := hr.dp; omega) (KX _ _ lk) rfl S.co S.gen rfl (PySem.W.codeRec_of KX hcd) (hb _ _ _ _ ?_)
  refine wpAny_newFunctionEnv_cells S.kind hkind fun env he s1 xx => ?_
  subst he
  refine ⟨lim.keeps xx.toInCall.keep, codeAny_func ?_⟩
  have hr' : RoomH k (A.deeper (envOfC x (defScope st) s.heap.objs.size f cdv)) := ⟨by have := hr.dp; show A.depth + 1 + 3 * k + 5 < _; omega, by have := hr.un; show A.units + 3 + 16 * k + 200 < _; omega⟩
  obtain ⟨t, ht, hq⟩ := hbody f cdv A outer s H vs Q E hr' hsp
  have e1 : Env0 P w K mg base { A with handled := Option.none } outer s H := ⟨e0.frames, e0.mod, e0.bs, e0.bsz, e0.funs, e0.frf, e0.hok, e0.bare⟩
  have I0 : Inv (cxOf CX0 P w K mg base N x (defScope st) f cdv { A with handled := Option.none } outer s H E) [] (start N vs) H s1 := inv_start S rfl e1 hl r xx
  have I : Inv ((cxOf CX0 P w K mg base N x (defScope st) f cdv { A with handled := Option.none } outer s H E).loud (A.deeper (envOfC x (defScope st) s.heap.objs.size f cdv))) [] (start N vs) H s1 :=
    ⟨⟨I0.ok.mod, I0.ok.kind, I0.ok.glob, I0.ok.blt, I0.ok.above, I0.ok.inj, I0.ok.has, I0.ok.cab, (fun z => nomatch z), Around.frames_deeper e0.frames, I0.ok.stk, I0.ok.exf, I0.ok.bs, I0.ok.bsz, I0.ok.noex, I0.ok.exfs, I0.ok.funs, I0.ok.frf⟩, I0.os, I0.bare, I0.base, I0.loc, I0.cell, I0.free, I0.freeC, I0.pin, I0.hok, I0.len⟩
  refine wpAny_mono (ht [] s1 (start N vs) H _ I hq) (fun fl s' hs => ?_) fun e s' hs => False.elim hs
  have fin : ∀ {σ' : St} {H' : Hp} {v : V} {u : Value}, Inv ((cxOf CX0 P w K mg base N x (defScope st) f cdv { A with handled := Option.none } outer s H E).loud (A.deeper (envOfC x (defScope st) s.heap.objs.size f cdv))) [] σ' H' s' → RelV v u → Q v H' → CE outer P w H s Q u s' :=
    fun {σ' H' v u} J rv q => ⟨v, H', J.os, J.bare, J.base, J.hok, rv, q⟩
  cases fl with
  | ret u =>
    obtain ⟨v, σ', H', J, rv, q⟩ := hs
    exact fin J rv q
  | next =>
    obtain ⟨σ', H', J, q⟩ := hs
    exact fin (v := V.non) (u := Value.none) J rfl q
  | brk =>
    obtain ⟨_, _, _, q⟩ := hs
    exact False.elim q
  | cont =>
    obtain ⟨_, _, _, q⟩ := hs
    exact False.elim q
end
section
variable {X : Cx} {k : Nat} {x : Str} {ps : List Str} {sp : Sp} {e fe : Expr} {es : List Expr} {t : TA} {tf : TE} {p pos : Pos} {E : XK}
theorem pe_callX (F : FnX X.prog X.w X.K X.mg X.base k x ps sp) (hr : Room k X.A) (hx : Passes (CX1 X.prog X.w) X E) (ha : PA X (e :: es) t) (hg : Gl X x := by rfl) (hdb : (x == ("__debug__" : Str)) = false := by decide)
    (he : starEach (e :: es) X.env = (false, eval e X.env) :: starEach es X.env := by rfl) (hpl : (backTo pos (starEach es X.env)).any (·.1) = false := by rfl) :
    PE X (.Call (.Name x p) (e :: es) [] pos) (tCall sp [] E t) := by
  obtain ⟨f, fd, F, b, kp, m⟩ := F
  exact pe_call F hr hg m kp b .nil hx ha hdb he hpl
theorem pe_callH (F : FnH X.prog X.w X.K X.mg X.base k x ps sp) (hr : RoomH k X.A) (ha : PA X (e :: es) t) (hg : Gl X x := by rfl) (hdb : (x == ("__debug__" : Str)) = false := by decide)
    (he : starEach (e :: es) X.env = (false, eval e X.env) :: starEach es X.env := by rfl) (hpl : (backTo pos (starEach es X.env)).any (·.1) = false := by rfl) :
    PE X (.Call (.Name x p) (e :: es) [] pos) (tCall sp [] E0 t) := by
  obtain ⟨f, fd, len, F, b, kp, m⟩ := F
  intro pins s σ H Q I h
  refine wpAny_Call_Name_kw (ld_glob I hg m ?_ hdb)
  refine PySem.W.callWith_K (h₀ := X.base) I.ok.mod.kin kp (thn (ha pos pins s σ H _ I h) fun us s1 ⟨vs, H1, I1, r, q⟩ => ⟨I1.kIn, ?_⟩) he hpl
  have r2 : Vals (vs ++ []) (us ++ []) := r.append .nil
  have hl : (us ++ []).length = ps.length := by rw [← r2.length]; exact len _ _ _ _ q
  refine wpAny_call (codeAny_mono (F X.A X.stack s1 H1 ⟨us, []⟩ (us ++ []) (vs ++ []) Q E0 hr I1.env0 (b s1 us I1.kIn hl) r2 q) fun r s' hq => ?_)
  cases r with
  | error e => exact False.elim hq
  | ok fl =>
    cases fl with
    | ret u => exact I1.after hq
    | next => exact False.elim hq
    | brk => exact False.elim hq
    | cont => exact False.elim hq
end
end L2
namespace SS
open PySem PySem.Spec PyProof.Rows
theorem orStandIn_led (t : SetTable) (n : Nat) : (t.orStandIn n).led = t.led := by
  unfold SetTable.orStandIn
  split <;> rfl
theorem orStandIn_plain (t : SetTable) (n : Nat) (h : t.plain = false) : (t.orStandIn n).plain = false := by
  unfold SetTable.orStandIn
  split
  · exact h
  · rfl
theorem layNew_led (t : SetTable) (es : Array (Int × Value)) (h : Int) (x : Value) : (layNew t es h x).2.1.led = t.led := by
  unfold layNew
  split
  · exact orStandIn_led _ _
  · rfl
theorem layNew_plain (t : SetTable) (es : Array (Int × Value)) (h : Int) (x : Value) (hp : t.plain = false) : (layNew t es h x).2.1.plain = false := by
  unfold layNew
  split
  · exact orStandIn_plain _ _ hp
  · rfl
theorem laid_led {mask finger moves : Nat} {led plain : Bool} {hs : Array Int} {t : SetTable} {o : Array Nat} (h : SetTable.laid mask finger moves led plain hs = some (t, o)) : t.led = led ∧ t.plain = plain := by
  unfold SetTable.laid at h
  obtain ⟨w, _, h⟩ := Option.bind_eq_some_iff.mp h
  cases h
  exact ⟨rfl, rfl⟩
theorem relayAll_led (t : SetTable) (es : Array (Int × Value)) (n : Nat) : (relayAll t es n).2.1.led = t.led := by
  unfold relayAll
  split
  · rename_i t' o e
    dsimp only
    split
    · exact (laid_led e).1
    · rfl
  · rfl
theorem relayAll_plain (t : SetTable) (es : Array (Int × Value)) (n : Nat) (hp : t.plain = false) : (relayAll t es n).2.1.plain = false := by
  unfold relayAll
  split
  · rename_i t' o e
    dsimp only
    split
    · exact (laid_led e).2.trans hp
    · rfl
  · rfl
def strOf (v : Value) : Str := match v with | .str x _ => x | _ => ⟨#[]⟩
def SetX (prog : Program) (w : World) (h : Heap) (a : Addr) (es : Array (Int × Value)) : Prop :=
  ∃ o ep t, h.get? a = some o ∧ o.ExactSet ∧ o.data = .set es ep t ∧ ElemsOf (PySem.strKind prog w) es.toList ∧ (es.toList.map fun e => strOf e.2).Nodup ∧ es.size < scanBound ∧ t.fits es.size = true ∧
    t.led = !w.params.followText "set-order" ∧ (es.size ≠ 0 → t.plain = false)
section
variable {prog : Program} {w : World} {A : Around} {E : Value → Shared → Prop} {s : Shared}
theorem elems_str {l : List (Int × Value)} (h : ElemsOf (PySem.strKind prog w) l) {e : Int × Value} (he : e ∈ l) : ∃ t, e.2 = .str (strOf e.2) t := by
  obtain ⟨⟨k, hk, _⟩, _⟩ := h e he
  obtain ⟨t, q⟩ := Value.isStrOf_shape hk
  exact ⟨t, by rw [q]; rfl⟩
theorem is_strOf {e : Int × Value} {x : Str} (h : ∃ t, e.2 = .str (strOf e.2) t) : (PySem.strKind prog w).is x e.2 = decide (strOf e.2 = x) := by
  obtain ⟨t, q⟩ := h
  rw [q]
  show Value.isStrOf x (.str (strOf e.2) t) = decide (strOf (.str (strOf e.2) t) = x)
  by_cases hx : strOf e.2 = x
  · rw [decide_eq_true (by rw [← hx]; rfl), hx]
    simp [Value.isStrOf]
  · rw [decide_eq_false (by exact hx)]
    simp only [Value.isStrOf]
    simpa [beq_iff_eq] using fun z => hx (by first | exact z.symm | exact z)
theorem add {a : Addr} {es : Array (Int × Value)} {x : Str} {tk : Tok} {Q : Bool → Shared → Prop} (hS : SetX prog w s.heap a es) (hroom : es.size + 1 < scanBound)
    (h : ∀ h' es' b, Heap.SameBut a s.heap h' → SetX prog w h' a es' → (x ∈ es.toList.map (fun e => strOf e.2) → es' = es) → (x ∉ es.toList.map (fun e => strOf e.2) → es'.toList.Perm (es.toList ++ [((PySem.strKind prog w).hash x, .str x tk)])) → Q b { s with heap := h' }) :
    wpAny (model prog w) A (setAddHashed a (.str x tk) ((PySem.strKind prog w).hash x)) Q E s := by
  obtain ⟨o, ep, t, ho, hex, hd, hel, hnd, hb, hf, hled, hpl⟩ := hS
  have hkey : (PySem.strKind prog w).is x (.str x tk) = true := by show Value.isStrOf x (.str x tk) = true; simp [Value.isStrOf]
  have hsc : (Value.str x tk).scannable = true := rfl
  unfold setAddHashed setAddHashedIn
  refine wpAny_holding (wpAny_bind (wpAny_setState_of ho hd hf ?_))
  dsimp only
  rw [byScan_of hsc hb hel]
  simp only [↓reduceIte]
  unfold setAddByScan
  refine wpAny_bind ?_
  refine wpAny_bind (wpAny_rule ?_)
  refine wpAny_bind (wpAny_setScan_of hkey ho hd hf hel ?_)
  cases hr : List.findIdx? (fun e => (PySem.strKind prog w).is x e.2) es.toList with
  | some j =>
    dsimp only
    obtain ⟨hj, hpj, _⟩ := List.findIdx?_eq_some_iff_getElem.mp hr
    have hin : x ∈ es.toList.map (fun e => strOf e.2) := by
      rw [is_strOf (elems_str hel (List.getElem_mem hj))] at hpj
      exact List.mem_map.mpr ⟨_, List.getElem_mem hj, of_decide_eq_true hpj⟩
    refine wpAny_pure (wpAny_pure ?_)
    have e : s = { s with heap := s.heap } := by cases s; rfl
    rw [e]
    exact h s.heap es _ (Heap.SameBut.refl a s.heap) ⟨o, ep, t, ho, hex, hd, hel, hnd, hb, hf, hled, hpl⟩ (fun _ => rfl) fun z => absurd hin z
  | none =>
    dsimp only
    have hnin : x ∉ es.toList.map (fun e => strOf e.2) := fun z => by
      obtain ⟨e, he, q⟩ := List.mem_map.mp z
      have := List.findIdx?_eq_none_iff.mp hr e he
      rw [is_strOf (elems_str hel he), decide_eq_true q] at this
      exact Bool.noConfusion this
    have hgw : ∀ (b : Bool) {s₁ : Shared} {Q' : Unit → Shared → Prop}, Q' () s₁ → wpAny (model prog w) A (match b with | true => rule "set.scan.the-table-gave-way" | false => pure ()) Q' E s₁ :=
      fun b s₁ Q' hq => by cases b <;> first | exact wpAny_pure hq | exact wpAny_rule hq
    have hperm := layNew_perm t es ((PySem.strKind prog w).hash x) (.str x tk)
    have hfits := layNew_fits t es ((PySem.strKind prog w).hash x) (.str x tk)
    have hl1 := layNew_led t es ((PySem.strKind prog w).hash x) (.str x tk)
    have hp1 := layNew_plain t es ((PySem.strKind prog w).hash x) (.str x tk)
    generalize hL : layNew t es ((PySem.strKind prog w).hash x) (.str x tk) = L at hperm hfits hl1 hp1 ⊢
    obtain ⟨es1, t1, wasDummy, gave⟩ := L
    dsimp only at hperm hfits hl1 hp1 ⊢
    rw [Array.toList_push] at hperm
    have hel1 : ElemsOf (PySem.strKind prog w) es1.toList := (hel.push hkey hsc).perm hperm
    have hnd0 : ((es.toList ++ [((PySem.strKind prog w).hash x, Value.str x tk)]).map fun e => strOf e.2).Nodup := by
      rw [List.map_append]
      refine List.nodup_append.mpr ⟨hnd, by simp, fun y hy z hz => ?_⟩
      have hz' : z = x := by simpa [strOf] using hz
      rw [hz']
      rintro rfl
      exact hnin hy
    have hnd1 : (es1.toList.map fun e => strOf e.2).Nodup := (hperm.map _).nodup_iff.mpr hnd0
    have hsz1 : es1.size = es.size + 1 := by rw [← Array.length_toList, hperm.length_eq, List.length_append, Array.length_toList]; rfl
    have hb1' : es1.size < scanBound := by rw [hsz1]; exact hroom
    refine wpAny_bind (hgw _ ?_)
    have fin : ∀ {g : Bool → Sem Unit} {R : Option Bool → Shared → Prop}, (∀ (b : Bool) (s₁ : Shared) (Q' : Unit → Shared → Prop), Q' () s₁ → wpAny (model prog w) A (g b) Q' E s₁) → (∀ h', Q true { s with heap := h' } → R (some true) { s with heap := h' }) →
        ∀ t2 : SetTable, t2.fits es1.size = true → t2.led = t.led → t2.plain = false →
        wpAny (model prog w) A (do
          storeSet a es1 t2
          if (!wasDummy && t2.tooFull) = true then do
              g (relayAll t2 es1 (SetTable.grown es1.size)).2.2
              storeSet a (relayAll t2 es1 (SetTable.grown es1.size)).1 (relayAll t2 es1 (SetTable.grown es1.size)).2.1
              pure (some true)
            else pure (some true)) R E s := fun {g R} hg hR t2 hf2 hl2 hp2 => by
      have go : ∀ h' es', Heap.SameBut a s.heap h' → SetX prog w h' a es' → es'.toList.Perm es1.toList → R (some true) { s with heap := h' } := fun h' es' q1 q2 q3 => hR h' (h h' es' true q1 q2 (fun z => absurd z hnin) fun _ => q3.trans hperm)
      refine wpAny_bind (wpAny_storeSet_of ho hd ?_ (fits_of_scanBound hb1'))
      have hg1 : (s.heap.update a (Obj.putSet es1 t2)).get? a = some { o with data := .set es1 (ep + 1) t2 } := by
        have := Heap.get?_update_self (Obj.putSet es1 t2) ho (by rw [putSet_of es1 t2 hd]; rfl)
        rw [putSet_of es1 t2 hd] at this; exact this
      have hsb1 := Heap.SameBut.update s.heap a (Obj.putSet es1 t2)
      split
      · have hp := relayAll_perm t2 es1 (SetTable.grown es1.size)
        have hfr := relayAll_fits t2 es1 (SetTable.grown es1.size)
        have hlr := relayAll_led t2 es1 (SetTable.grown es1.size)
        have hpr := relayAll_plain t2 es1 (SetTable.grown es1.size) hp2
        generalize hRl : relayAll t2 es1 (SetTable.grown es1.size) = Rl at hp hfr hlr hpr ⊢
        obtain ⟨es2, t3, gave2⟩ := Rl
        dsimp only at hp hfr hlr hpr ⊢
        have hsz : es2.size = es1.size := by rw [← Array.length_toList, hp.length_eq, Array.length_toList]
        have hb2 : es2.size < scanBound := by rw [hsz]; exact hb1'
        refine wpAny_bind (hg _ _ _ ?_)
        refine wpAny_bind (wpAny_storeSet_of hg1 rfl ?_ (fits_of_scanBound hb2))
        have hg2 : ((s.heap.update a (Obj.putSet es1 t2)).update a (Obj.putSet es2 t3)).get? a = some { o with data := .set es2 (ep + 1 + 1) t3 } := by
          have := Heap.get?_update_self (Obj.putSet es2 t3) hg1 (by rw [putSet_of (ep := ep + 1) (t := t2) es2 t3 rfl]; rfl)
          rw [putSet_of (ep := ep + 1) (t := t2) es2 t3 rfl] at this; exact this
        refine wpAny_pure (go _ es2 (hsb1.trans (Heap.SameBut.update _ a _)) ⟨_, _, _, hg2, hex, rfl, hel1.perm hp, (hp.map _).nodup_iff.mpr hnd1, hb2, hfr, ?_, fun _ => hpr⟩ hp)
        rw [hlr, hl2]; exact hled
      · exact wpAny_pure (go _ es1 hsb1 ⟨_, _, _, hg1, hex, rfl, hel1, hnd1, hb1', hf2, by rw [hl2]; exact hled, fun _ => hp2⟩ .rfl)
    split
    · refine wpAny_bind ?_
      rw [hashByValue_scannable 8 hsc]
      refine wpAny_pure ?_
      simp only [show plainKind (Value.str x tk) = false from rfl, Bool.false_eq_true, if_false]
      refine fin ?_ ?_ { t1 with plain := false } (SetTable.fits_plain_off hfits) hl1 rfl
      · intro b s₁ Q' hq; cases b <;> first | exact wpAny_pure hq | exact wpAny_rule hq
      · exact fun h' hq => wpAny_pure hq
    · rename_i hp
      refine wpAny_bind (wpAny_pure ?_)
      simp only [↓reduceIte]
      refine fin ?_ ?_ t1 hfits hl1 (by simpa using hp)
      · intro b s₁ Q' hq; cases b <;> first | exact wpAny_pure hq | exact wpAny_rule hq
      · exact fun h' hq => wpAny_pure hq
end
end SS
namespace SS
open PySem PySem.Spec PyProof.Rows
abbrev names (es : Array (Int × Value)) : List Str := es.toList.map fun e => strOf e.2
theorem SetX.keeps {prog : Program} {w : World} {h h' : Heap} {a : Addr} {es : Array (Int × Value)} (S : SetX prog w h a es) (k : ∀ o, h.get? a = some o → h'.get? a = some o) : SetX prog w h' a es := by
  obtain ⟨o, ep, t, ho, r⟩ := S
  exact ⟨o, ep, t, k o ho, r⟩
section
variable {prog : Program} {w : World} {A : Around} {R : Result → Shared → Prop} {I : Addr} {fp wr : List Addr} {G : Array GenState → Array GenState → Prop} {n : Nat} {P : Nat → Value → Prop} {St : Nat → Shared → Prop}
theorem loop (W : WalksS prog w A.in1 I fp wr G n P St) (S : Addr) (hSf : S ∉ fp) (val : Nat → Str) (hval : ∀ i v, P i v → ∃ t, v = .str (val i) t) (hb : n + 1 < scanBound) :
    ∀ (k i : Nat) (s : Shared) (es : Array (Int × Value)), n - i = k → i ≤ n → St i s → SetX prog w s.heap S es → es.size ≤ i → (∀ x, x ∈ names es ↔ ∃ j, j < i ∧ val j = x) →
      (∀ s' es', Moved (S :: wr) G s s' → SetX prog w s'.heap S es' → es'.size ≤ n → (∀ x, x ∈ names es' ↔ ∃ j, j < n ∧ val j = x) → R (.ok (.ret .none)) s') →
      codeAny (model prog w) A (.builtin "set.update.loop" ⟨[.ref S, .ref I], []⟩) R s := by
  have hSw : S ∉ wr := fun h => hSf (W.sub _ h)
  have hsub : ∀ b ∈ wr, b ∈ S :: wr := fun b hb => List.mem_cons_of_mem _ hb
  intro k
  induction k with
  | zero =>
    intro i s es hk hi hst hS hsz hmem hR
    have hin : i = n := by omega
    subst hin
    refine codeAny_builtin F.entry_set_update_loop ?_
    rw [Around.under_plainId F.plain_set_update_loop _]
    show wpAny _ A.in1 (pyNext (.ref I) >>= _) _ _ s
    refine wpAny_bind (W.done s _ _ hst fun s' hm => ?_)
    show wpAny _ A.in1 (ret Value.none) _ _ s'
    exact wpAny_pure (hR s' es (hm.mono hsub) (hS.keeps fun o ho => hm.heap S _ hSw ho) hsz hmem)
  | succ k ih =>
    intro i s es hk hi hst hS hsz hmem hR
    have hlt : i < n := by omega
    refine codeAny_builtin F.entry_set_update_loop ?_
    rw [Around.under_plainId F.plain_set_update_loop _]
    show wpAny _ A.in1 (pyNext (.ref I) >>= _) _ _ s
    refine wpAny_bind (W.item i s _ _ hlt hst fun v s' hP hst' hm => ?_)
    obtain ⟨t, rfl⟩ := hval i v hP
    have hS' : SetX prog w s'.heap S es := hS.keeps fun o ho => hm.heap S _ hSw ho
    show wpAny _ A.in1 (holding [Value.str (val i) t] (setAdd S (.str (val i) t)) >>= _) _ _ s'
    refine wpAny_bind (wpAny_holding ?_)
    unfold setAdd
    refine wpAny_holding ?_
    refine wpAny_bind ((PySem.strKind prog w).pyHash (k := val i) (by show Value.isStrOf (val i) (.str (val i) t) = true; simp [Value.isStrOf]) ?_)
    refine add (s := { s' with toks := s'.toks + 1 }) hS' (by omega) fun h' es' b hsb hS2 q1 q2 => ?_
    have hsz' : es'.size ≤ i + 1 := by
      by_cases hx : val i ∈ es.toList.map (fun e => strOf e.2)
      · rw [q1 hx]; omega
      · rw [← Array.length_toList, (q2 hx).length_eq, List.length_append, Array.length_toList]
        simp only [List.length_cons, List.length_nil]; omega
    have hmem' : ∀ x, x ∈ names es' ↔ ∃ j, j < i + 1 ∧ val j = x := fun x => by
      have e1 : x ∈ names es' ↔ x ∈ names es ∨ x = val i := by
        by_cases hx : val i ∈ es.toList.map (fun e => strOf e.2)
        · rw [q1 hx]
          exact ⟨.inl, fun z => z.elim id fun e => e ▸ hx⟩
        · have hp := ((q2 hx).map fun e => strOf e.2).mem_iff (a := x)
          rw [List.map_append, List.mem_append] at hp
          refine hp.trans ⟨fun z => z.imp id fun y => by simpa [strOf] using y, fun z => z.imp id fun y => by simpa [strOf] using y⟩
      rw [e1, hmem x]
      constructor
      · rintro (⟨j, hj, e⟩ | rfl)
        · exact ⟨j, by omega, e⟩
        · exact ⟨i, by omega, rfl⟩
      · rintro ⟨j, hj, e⟩
        by_cases hji : j = i
        · exact .inr (by rw [← e, hji])
        · exact .inl ⟨j, by omega, e⟩
    refine wpAny_pure ⟨plainId_quiet F.plain_set_update_loop _, ih (i + 1) _ es' (by omega) hlt (W.frame _ s' _ _ hst' (Nat.le_succ _) fun b hb o e => ?_) hS2 hsz' hmem' fun s'' es'' hm'' hS'' hz hm2 => ?_⟩
    · rw [hsb.2 b (fun h : b = S => hSf (by rw [← h]; exact hb))]; exact e
    · refine hR s'' es'' (Moved.trans W.gtrans ((hm.mono hsub).then_heap (Nat.le_succ _) fun b o hb e => ?_) hm'') hS'' hz hm2
      rw [hsb.2 b (fun h : b = S => hb (by rw [h]; exact List.mem_cons_self))]; exact e
end
section
variable {prog : Program} {w : World} {A : Around} {E : Value → Shared → Prop} {s : Shared}
abbrev ledOf (w : World) : Bool := !w.params.followText "set-order"
abbrev freshO (w : World) : Obj := { cls := .type "set", dict := none, data := .set #[] 0 (.fresh 0 0 (ledOf w)) }
theorem code_set_new (a : Value) {Q₁ : Value → Shared → Prop} (h : Q₁ (.ref s.heap.objs.size) { s with heap := s.heap.push (freshO w) }) :
    codeAny (model prog w) A (.call (.builtin "set.__new__") ⟨[.type "set", a], []⟩) (wants Q₁ E) s := by
  refine codeAny_of_tree ?_
  show wpAny _ A.in1 (do checkBuiltinCall "set.__new__" ⟨[.type "set", a], []⟩; again (.builtin "set.__new__" ⟨[.type "set", a], []⟩)) _ _ s
  refine wpAny_bind (wpAny_of_eq (PySem.F.newCall_set_1 a) (wpAny_pure ⟨plainId_quiet PySem.F.plain_set_new _, codeAny_builtin PySem.F.entry_set_new ?_⟩))
  rw [Around.under_plainId PySem.F.plain_set_new _]
  unfold Builtin.«set.__new__» Builtin.Frozenset.newClass
  have hsub := sub_set_self
  obtain ⟨hp, g, d, tk, os⟩ := s
  dsimp only
  wp_walk
  refine wpAny_askSetting (wpAny_pure ?_)
  dsimp only
  simp only [newObj]
  refine wpAny_bind (wpAny_alloc (wpAny_pure ?_))
  exact wpAny_pure h
theorem SetX.fresh {h : Heap} {a : Addr} (ho : h.get? a = some (freshO w)) : SetX prog w h a #[] :=
  ⟨_, _, _, ho, ⟨rfl, rfl, rfl⟩, rfl, fun e he => by simp at he, by simp, by decide, by rfl, rfl, fun z => absurd rfl z⟩
theorem call_set {l : Addr} {items : Array Value} {val : Nat → Str} {Q : Value → Shared → Prop}
    (hh : A.handled = none) (hl : s.heap.IsList l items) (hi : ∀ (i : Nat) (v : Value), items[i]? = some v → ∃ t : Tok, v = Value.str (val i) t) (hb : items.size + 1 < scanBound)
    (h : ∀ (h' : Heap) (tk : Nat) (es : Array (Int × Value)), SetX prog w h' s.heap.objs.size es → es.size ≤ items.size → (∀ x, x ∈ names es ↔ ∃ j, j < items.size ∧ val j = x) →
      (∀ b o, b < s.heap.objs.size → s.heap.get? b = some o → h'.get? b = some o) → Q (.ref s.heap.objs.size) { s with heap := h', toks := tk }) :
    wpAny (model prog w) A (call (.type "set") [.ref l]) Q E s := by
  obtain ⟨c, tl, hmro⟩ := PySem.F.called_set.mro
  have hmade := PySem.F.called_set.made
  have hsub := PySem.F.called_set.sub
  refine wpAny_call (codeAny_of_tree ?_)
  show wpAny _ _ (callAny (.type "set") _) _ _ _
  refine wpAny_pure ⟨Code.quiet_builtin _ (by decide +kernel), codeAny_builtin PySem.F.entry_type_call ?_⟩
  rw [Around.under_plain (weight_type_call_type "set" [.ref l] []) rfl]
  have h1 := PySem.F.called_set.notType
  have h2 := PySem.F.called_set.canCreate
  have hct := PySem.F.typeCall_set_1 (.ref l)
  repeat (any_goals (first | assumption | wp_step))
  refine codeAny_mono (code_set_new (.ref l) (E := E) (Q₁ := fun obj s₁ => obj = .ref s.heap.objs.size ∧ s₁ = { s with heap := s.heap.push (freshO w) }) ⟨rfl, rfl⟩) fun r s₁ hr => ?_
  cases r with
  | error e => exact hr
  | ok fl =>
    cases fl with
    | ret obj =>
      obtain ⟨rfl, rfl⟩ := hr
      have hS : (s.heap.push (freshO w)).get? s.heap.objs.size = some (freshO w) := Heap.get?_push_size _ rfl
      have hT : Shared.TypeIs { s with heap := s.heap.push (freshO w) } (.ref s.heap.objs.size) "set" := ⟨_, hS, rfl⟩
      have hli := PySem.F.called_set.init.lookup
      have hbi := PySem.F.called_set.init.bind (.ref s.heap.objs.size)
      repeat (any_goals (first | assumption | wp_step))
      refine codeAny_mono (codeAny_call_builtin (R := wants (fun r s₂ => r = .none ∧ ∃ h' tk es, s₂ = { s with heap := h', toks := tk } ∧
          SetX prog w h' s.heap.objs.size es ∧ es.size ≤ items.size ∧ (∀ x, x ∈ names es ↔ ∃ j, j < items.size ∧ val j = x) ∧
          (∀ b o, b < s.heap.objs.size → s.heap.get? b = some o → h'.get? b = some o)) E) PySem.F.called_set.init.plain PySem.F.entry_set_init (check_set_init_1 hT ?_)) fun r₂ s₂ hr₂ => ?_
      · obtain ⟨ol, hol, hcl, nl, hdl⟩ := hl
        obtain ⟨ocls, odict, odata, oslots⟩ := ol
        simp only at hcl hdl
        subst hcl; subst hdl
        have hol' : (s.heap.push (freshO w)).get? l = some { cls := .type "list", dict := odict, data := .seq items nl, slots := oslots } := Heap.get?_push_of_some _ hol
        have hsls := PySem.F.sub_list_set
        have hslf := PySem.F.sub_list_frozenset
        have hne : (Value.type "list" == Value.type "dict") = false := by decide
        have hl1 : (s.heap.push (freshO w)).IsList l items := ⟨_, hol', rfl, nl, rfl⟩
        unfold Builtin.«set.__init__» noKeywords Builtin.Frozenset.updateFrom
        generalize hPI : pyIter = PI
        wp_walk
        subst hPI
        refine wpAny_pyIter_list hl1 ?_
        refine wpAny_bind (wpAny_runValue ?_)
        have hlS : l < s.heap.objs.size := Heap.lt_size hol
        have hh3 : A.in1.in1.in1.handled = none := by simp [hh]
        have hneI : l ≠ (s.heap.push (freshO w)).objs.size := by
          rw [Heap.size_push]; exact Nat.ne_of_lt (Nat.lt_succ_of_lt hlS)
        have hSf : s.heap.objs.size ∉ [(s.heap.push (freshO w)).objs.size, l] := by
          rw [Heap.size_push]; simp only [List.mem_cons, List.mem_singleton, List.not_mem_nil, or_false, not_or]
          exact ⟨Nat.ne_of_lt (Nat.lt_succ_self _), Nat.ne_of_gt hlS⟩
        refine loop ((Walks.list hh3 _ l hneI items).toS) s.heap.objs.size hSf val (fun i v hv => hi i v hv) hb (items.size - 0) 0 _ #[] (by omega) (Nat.zero_le _)
          ⟨⟨_, Heap.get?_push_size _ rfl, rfl, rfl⟩, (hl1.push _)⟩ ?hS0 (Nat.le_refl _) (fun x => ⟨fun z => by simp [names] at z, fun ⟨j, hj, _⟩ => absurd hj (Nat.not_lt_zero _)⟩) ?hR
        case hS0 => exact SetX.fresh (Heap.get?_push_of_some _ hS)
        case hR =>
          intro s' es' hm hS' hz' hm'
          obtain ⟨h', g', d', tk', os'⟩ := s'
          have eg : g' = s.gens := hm.gens
          have ed : d' = s.drawn := hm.drawn
          have eo : os' = s.os := hm.os
          subst eg; subst ed; subst eo
          show wpAny _ _ _ _ _ _
          refine wpAny_pure ?_
          show wpAny _ _ (ret Value.none) _ _ _
          refine wpAny_pure ⟨rfl, h', tk', es', rfl, hS', hz', hm', fun b o hb e => ?_⟩
          have hb1 : b ≠ s.heap.objs.size := Nat.ne_of_lt hb
          have hb2 : b ≠ (s.heap.push (freshO w)).objs.size := by
            rw [Heap.size_push]; exact Nat.ne_of_lt (Nat.lt_succ_of_lt hb)
          exact hm.heap b o (by simp only [List.mem_cons, List.mem_singleton, List.not_mem_nil, or_false, not_or]; exact ⟨hb1, hb2⟩) (Heap.get?_push_of_some _ (Heap.get?_push_of_some _ e))
      · cases r₂ with
        | error e => exact hr₂
        | ok fl₂ =>
          cases fl₂ with
          | ret r =>
            obtain ⟨rfl, h', tk, es, rfl, hS', hz', hm', hk'⟩ := hr₂
            repeat (any_goals (first | assumption | wp_step))
            exact h _ _ es hS' hz' hm' hk'
          | _ => exact hr₂.elim
    | _ => exact hr.elim
end
end SS
namespace SS
open PySem PySem.Spec PyProof.Rows
theorem slot_iter : Slot "set" "__iter__" "set.__iter__" :=
  .of (owner := "set") (n := "__iter__") (by rw [typeLookup_type, builtinLookup_eq_fast]; kernel_rfl) (by decide +kernel) (by decide +kernel) (by decide +kernel)
    (by first | exact .inl (by decide +kernel) | exact .inr (by decide +kernel)) (by rw [isSubtype_type]; kernel_rfl)
theorem slot_next : Slot "set_iterator" "__next__" "set_iterator.__next__" :=
  .of (owner := "set_iterator") (n := "__next__") (by rw [typeLookup_type, builtinLookup_eq_fast]; kernel_rfl) (by decide +kernel) (by decide +kernel) (by decide +kernel)
    (by first | exact .inl (by decide +kernel) | exact .inr (by decide +kernel)) (by rw [isSubtype_type]; kernel_rfl)
theorem slot_iter2 : Slot "set_iterator" "__iter__" "set_iterator.__iter__" :=
  .of (owner := "set_iterator") (n := "__iter__") (by rw [typeLookup_type, builtinLookup_eq_fast]; kernel_rfl) (by decide +kernel) (by decide +kernel) (by decide +kernel)
    (by first | exact .inl (by decide +kernel) | exact .inr (by decide +kernel)) (by rw [isSubtype_type]; kernel_rfl)
theorem entry_iter : entryFor table "set.__iter__" = some Builtin.«frozenset.__iter__» :=
  entryFor_alias (id' := "frozenset.__iter__") (by kernel_rfl) (by first | rfl | decide +kernel) (by decide +kernel) (by kernel_rfl)
theorem entry_next : entryFor table "set_iterator.__next__" = some Builtin.«set_iterator.__next__» := entryFor_of_fast (by kernel_rfl)
theorem args_iter (a : Value) : argsOk "set.__iter__" ⟨[a], []⟩ := by unfold argsOk; kernel_rfl
theorem args_next (a : Value) : argsOk "set_iterator.__next__" ⟨[a], []⟩ := by unfold argsOk; kernel_rfl
theorem wpAny_choose {M : Model} {A : Around} {E : Value → Shared → Prop} {s : Shared} {src : Source} {n : Nat} {Q : Nat → Shared → Prop} (hn : n ≠ 0) (h : ∀ i d, i < n → Q i { s with drawn := d }) : wpAny M A (choose src n) Q E s := fun Γ p _ => by
  unfold choose
  rw [Sem.wp_choose]
  exact ⟨hn, h _ _ (Nat.mod_lt _ (Nat.pos_of_ne_zero hn))⟩
theorem perm_eraseIdx {α : Type} : ∀ (xs : List α) (i : Nat) (x : α), xs[i]? = some x → xs.Perm (x :: xs.eraseIdx i)
  | [], i, x, h => by simp at h
  | y :: r, 0, x, h => by
    simp at h
    subst h
    simp
  | y :: r, i + 1, x, h => by
    simp only [List.getElem?_cons_succ] at h
    have := perm_eraseIdx r i x h
    simp only [List.eraseIdx_cons_succ]
    exact (this.cons y).trans (List.Perm.swap x y _)
section
variable {M : Model} {A : Around} {E : Value → Shared → Prop} {s : Shared}
theorem drawOrder_ok {α : Type} : ∀ (n : Nat) (xs : List α) (s : Shared) (Q : List α → Shared → Prop), n = xs.length → (∀ ys d, ys.Perm xs → Q ys { s with drawn := d }) → wpAny M A (drawOrder n xs) Q E s
  | 0, xs, s, Q, hn, h => by
    cases xs with
    | nil => unfold drawOrder; exact wpAny_pure (h [] s.drawn .nil)
    | cons x r => simp at hn
  | n + 1, [], s, Q, hn, h => by simp at hn
  | n + 1, x :: r, s, Q, hn, h => by
    unfold drawOrder
    refine wpAny_bind (wpAny_choose (by simp) fun i d hi => ?_)
    have e : (x :: r)[i]? = some ((x :: r)[i]'hi) := List.getElem?_eq_getElem hi
    rw [e]
    dsimp only
    have hp := perm_eraseIdx (x :: r) i _ e
    refine wpAny_bind (drawOrder_ok n _ _ _ ?_ fun ys d' hy => wpAny_pure ?_)
    · have := hp.length_eq
      simp only [List.length_cons] at this hn ⊢
      omega
    · exact h _ d' ((hy.cons _).trans hp.symm)
end
theorem pick_ok {α : Type} (next : Nat → Nat) : ∀ (fuel k : Nat) (left : List α) (out : Array α), fuel = left.length → (pickOrder.go next fuel k left out).toList.Perm (out.toList ++ left)
  | 0, k, left, out, h => by
    cases left with
    | nil => unfold pickOrder.go; simp
    | cons x r => simp at h
  | fuel + 1, k, [], out, h => by simp at h
  | fuel + 1, k, x :: r, out, h => by
    unfold pickOrder.go
    have hi : next k % (x :: r).length < (x :: r).length := Nat.mod_lt _ (by simp)
    have e : (x :: r)[next k % (x :: r).length]? = some ((x :: r)[next k % (x :: r).length]'hi) := List.getElem?_eq_getElem hi
    rw [e]
    dsimp only
    have hp := perm_eraseIdx (x :: r) _ _ e
    refine (pick_ok next fuel (k + 1) _ _ ?_).trans ?_
    · have := hp.length_eq
      simp only [List.length_cons] at this h ⊢
      omega
    · rw [Array.toList_push, List.append_assoc]
      exact List.Perm.append_left _ hp.symm
theorem pickOrder_perm {α : Type} (next : Nat → Nat) (xs : Array α) : (pickOrder next xs).toList.Perm xs.toList := by
  unfold pickOrder
  exact (pick_ok next xs.size 0 xs.toList #[] (by simp)).trans (by simp)
def IsIt (h : Heap) (it a : Addr) (first : Value) (i n ep : Nat) : Prop := ∃ o, h.get? it = some o ∧ o.cls = .type "set_iterator" ∧ o.data = .fields #[first, .int i 0, .ref a, .int n 0, .int ep 0]
def SetAt (h : Heap) (a : Addr) (es : Array (Int × Value)) (ep : Nat) (t : SetTable) : Prop := ∃ o, h.get? a = some o ∧ o.data = .set es ep t ∧ t.fits es.size = true
section
variable {prog : Program} {w : World} {A : Around} {E : Value → Shared → Prop} {s : Shared} {it a : Addr} {es : Array (Int × Value)} {ep : Nat} {t : SetTable}
theorem IsIt.typeIs {first : Value} {i n : Nat} (h : IsIt s.heap it a first i n ep) : s.TypeIs (.ref it) "set_iterator" := by
  obtain ⟨o, h1, h2, _⟩ := h
  exact ⟨o, h1, h2⟩
theorem IsIt.put {first v : Value} {i n k : Nat} {h : Heap} (x : IsIt h it a first i n ep) (o : Obj) (ho : h.get? it = some o) : (h.update it (Obj.mapFields (·.setIfInBounds k v))).get? it = some (o.mapFields (·.setIfInBounds k v)) := by
  obtain ⟨o', h1, h2, h3⟩ := x
  rw [h1] at ho
  cases ho
  exact Heap.get?_update_self _ h1 (Obj.isFreed_of_fields (Obj.data_mapFields h3 _))
theorem next_slot {slot : Int} {i : Nat} {x : Value} {nx : Nat} {Q : Option Value → Shared → Prop} (hi : IsIt s.heap it a (.int slot 0) i es.size ep) (hs : SetAt s.heap a es ep t)
    (hn : ∀ (A : Around) (Q : Option (Value × Nat) → Shared → Prop) (E : Value → Shared → Prop), Q (some (x, nx)) s → wpAny (model prog w) A (setNext a slot.toNat i ep) Q E s)
    (hQ : ∀ h', IsIt h' it a (.int nx 0) (i + 1) es.size ep → Heap.SameBut it s.heap h' → Q (some x) { s with heap := h' }) : wpAny (model prog w) A (pyNext (.ref it)) Q E s := by
  obtain ⟨o, ho, hc, hd⟩ := id hi
  obtain ⟨os, hos, hds, hf⟩ := hs
  unfold pyNext
  refine wpAny_bind (wpAny_attempt (wpAny_callSpecial?_slot (name := Str.ofString "__next__") hi.typeIs slot_next (wpAny_call_entry slot_next hi.typeIs entry_next ?_ (args_next _))))
  show wpAny _ _ (fieldsOf (.ref it) >>= _) _ _ s
  refine wpAny_bind (wpAny_fieldsOf ho hd ?_)
  show wpAny _ _ (setEntries a >>= _) _ _ s
  refine wpAny_bind (wpAny_setEntries_of hos hds hf ?_)
  simp only [bne_self_eq_false, Bool.false_eq_true, if_false]
  refine wpAny_bind (hn _ _ _ ?_)
  dsimp only
  refine wpAny_bind (wpAny_setField ho hd (by simp) ?_)
  have ho2 := hi.put (k := 0) (v := rawInt nx) o ho
  refine wpAny_bind (wpAny_setField ho2 (Obj.data_mapFields hd _) (by simp) (wpAny_pure ⟨x, rfl, wpAny_pure (hQ _ ?_ ((Heap.SameBut.update ..).trans (Heap.SameBut.update ..)))⟩))
  refine ⟨_, Heap.get?_update_self _ ho2 (Obj.isFreed_of_fields (Obj.data_mapFields (Obj.data_mapFields hd _) _)), (Obj.cls_mapFields ..).trans ((Obj.cls_mapFields ..).trans hc), ?_⟩
  rw [Obj.data_mapFields (Obj.data_mapFields hd _)]
  simp [rawInt]
end
end SS
namespace SS
open PySem PySem.Spec PyProof.Rows
theorem entry_iter2 : entryFor table "set_iterator.__iter__" = some Builtin.«dict_keyiterator.__iter__» :=
  entryFor_alias (id' := "dict_keyiterator.__iter__") (by kernel_rfl) (by first | rfl | decide +kernel) (by decide +kernel) (by kernel_rfl)
theorem args_iter2 (a : Value) : argsOk "set_iterator.__iter__" ⟨[a], []⟩ := by unfold argsOk; kernel_rfl
section
variable {prog : Program} {w : World} {A : Around} {E : Value → Shared → Prop} {s : Shared} {it a : Addr} {es : Array (Int × Value)} {ep : Nat} {t : SetTable}
theorem iter_self {first : Value} {i n : Nat} {Q : Value → Shared → Prop} (hi : IsIt s.heap it a first i n ep) (h : Q (.ref it) s) : wpAny (model prog w) A (pyIter (.ref it)) Q E s := by
  refine wpAny_pyIter_slot hi.typeIs slot_iter2 (wpAny_call_entry slot_iter2 hi.typeIs entry_iter2 ?_ (args_iter2 _))
  show wpAny _ _ (ret (.ref it)) _ _ s
  exact wpAny_pure ⟨_, rfl, "set_iterator", _, hi.typeIs, slot_next.lookup, h⟩
theorem end_slot {slot : Int} {i : Nat} {Q : Option Value → Shared → Prop} (hh : A.handled = none) (hi : IsIt s.heap it a (.int slot 0) i es.size ep) (hs : SetAt s.heap a es ep t)
    (hn : ∀ (A : Around) (Q : Option (Value × Nat) → Shared → Prop) (E : Value → Shared → Prop), Q none s → wpAny (model prog w) A (setNext a slot.toNat i ep) Q E s)
    (hQ : ∀ h', Heap.ExtBut it s.heap h' → Q none { s with heap := h' }) : wpAny (model prog w) A (pyNext (.ref it)) Q E s := by
  obtain ⟨o, ho, hc, hd⟩ := id hi
  obtain ⟨os, hos, hds, hf⟩ := hs
  unfold pyNext
  refine wpAny_bind (wpAny_attempt (wpAny_callSpecial?_slot (name := Str.ofString "__next__") hi.typeIs slot_next (wpAny_call_entry slot_next hi.typeIs entry_next ?_ (args_next _))))
  show wpAny _ _ (fieldsOf (.ref it) >>= _) _ _ s
  refine wpAny_bind (wpAny_fieldsOf ho hd ?_)
  show wpAny _ _ (setEntries a >>= _) _ _ s
  refine wpAny_bind (wpAny_setEntries_of hos hds hf ?_)
  simp only [bne_self_eq_false, Bool.false_eq_true, if_false]
  refine wpAny_bind (hn _ _ _ ?_)
  dsimp only
  refine wpAny_bind (wpAny_setField ho hd (by simp) ?_)
  show wpAny _ _ (newExc (.type "StopIteration") [] >>= _) _ _ _
  refine wpAny_bind ?_
  simp only [newExc, newTuple]
  refine wpAny_bind (wpAny_newObj_type ?_ (by size_fits))
  refine wpAny_bind (m := firstArgMember _ _) (wpAny_of_eq (a := Value.none) (by first | rfl | (simp only [firstArgMember]; rfl)) ?_)
  refine wpAny_newObj_type ?_ (by size_fits)
  simp only [raiseNew]
  refine wpAny_bind (wpAny_handled ?_)
  rw [show A.in1.handled = none from hh]
  refine wpAny_bind (wpAny_pure (wpAny_throw ?_))
  refine wpAny_bind (wpAny_isInstance (T := "StopIteration") (b := true) ⟨_, Heap.get?_push_size _ rfl, rfl⟩ isSubtype_stop ?_)
  exact wpAny_pure (hQ _ (((Heap.SameBut.update ..).extBut.push _).push _))
theorem next_drawn {tp : Addr} {ps : List Nat} {i p : Nat} {h0 : Int} {x : Value} {Q : Option Value → Shared → Prop} (hi : IsIt s.heap it a (.ref tp) i es.size ep) (hs : SetAt s.heap a es ep t)
    (ht : ∃ o n, s.heap.get? tp = some o ∧ o.data = .seq ((ps.map fun (i : Nat) => rawInt i).toArray) n) (hp : ps[i]? = some p) (hx : es[p]? = some (h0, x))
    (hQ : ∀ h', IsIt h' it a (.ref tp) (i + 1) es.size ep → Heap.SameBut it s.heap h' → Q (some x) { s with heap := h' }) : wpAny (model prog w) A (pyNext (.ref it)) Q E s := by
  obtain ⟨o, ho, hc, hd⟩ := id hi
  obtain ⟨os, hos, hds, hf⟩ := hs
  obtain ⟨ot, nt, hot, hdt⟩ := ht
  unfold pyNext
  refine wpAny_bind (wpAny_attempt (wpAny_callSpecial?_slot (name := Str.ofString "__next__") hi.typeIs slot_next (wpAny_call_entry slot_next hi.typeIs entry_next ?_ (args_next _))))
  show wpAny _ _ (fieldsOf (.ref it) >>= _) _ _ s
  refine wpAny_bind (wpAny_fieldsOf ho hd ?_)
  show wpAny _ _ (setEntries a >>= _) _ _ s
  refine wpAny_bind (wpAny_setEntries_of hos hds hf ?_)
  simp only [bne_self_eq_false, Bool.false_eq_true, if_false]
  refine wpAny_bind (wpAny_seqItems hot hdt ?_)
  have e : ((ps.map fun (i : Nat) => rawInt i).toArray)[((i : Int)).toNat]? = some (Value.int (p : Int) 0) := by
    simp [hp, rawInt]
  dsimp only
  rw [e]
  dsimp only
  refine wpAny_bind ?_
  unfold setNextDrawn
  refine wpAny_bind (wpAny_setState_of hos hds hf ?_)
  dsimp only
  simp only [Int.toNat_natCast, bne_self_eq_false, Bool.false_eq_true, if_false]
  rw [hx]
  refine wpAny_pure ?_
  refine wpAny_bind (wpAny_setField ho hd (by simp) (wpAny_pure ⟨x, rfl, wpAny_pure (hQ _ ?_ (Heap.SameBut.update ..))⟩))
  refine ⟨_, Heap.get?_update_self _ ho (Obj.isFreed_of_fields (Obj.data_mapFields hd _)), (Obj.cls_mapFields ..).trans hc, ?_⟩
  rw [Obj.data_mapFields hd]
  simp [rawInt]
theorem end_drawn {tp : Addr} {ps : List Nat} {i : Nat} {Q : Option Value → Shared → Prop} (hh : A.handled = none) (hi : IsIt s.heap it a (.ref tp) i es.size ep) (hs : SetAt s.heap a es ep t)
    (ht : ∃ o n, s.heap.get? tp = some o ∧ o.data = .seq ((ps.map fun (i : Nat) => rawInt i).toArray) n) (hp : ps[i]? = none)
    (hQ : ∀ h', Heap.ExtBut it s.heap h' → Q none { s with heap := h' }) : wpAny (model prog w) A (pyNext (.ref it)) Q E s := by
  obtain ⟨o, ho, hc, hd⟩ := id hi
  obtain ⟨os, hos, hds, hf⟩ := hs
  obtain ⟨ot, nt, hot, hdt⟩ := ht
  unfold pyNext
  refine wpAny_bind (wpAny_attempt (wpAny_callSpecial?_slot (name := Str.ofString "__next__") hi.typeIs slot_next (wpAny_call_entry slot_next hi.typeIs entry_next ?_ (args_next _))))
  show wpAny _ _ (fieldsOf (.ref it) >>= _) _ _ s
  refine wpAny_bind (wpAny_fieldsOf ho hd ?_)
  show wpAny _ _ (setEntries a >>= _) _ _ s
  refine wpAny_bind (wpAny_setEntries_of hos hds hf ?_)
  simp only [bne_self_eq_false, Bool.false_eq_true, if_false]
  refine wpAny_bind (wpAny_seqItems hot hdt ?_)
  have e : ((ps.map fun (i : Nat) => rawInt i).toArray)[((i : Int)).toNat]? = none := by
    simp only [Int.toNat_natCast, List.getElem?_toArray, List.getElem?_map, hp, Option.map_none]
  dsimp only
  rw [e]
  dsimp only
  refine wpAny_bind (wpAny_setField ho hd (by simp) ?_)
  have ho2 := hi.put (k := 0) (v := rawInt 0) o ho
  refine wpAny_bind (wpAny_setField ho2 (Obj.data_mapFields hd _) (by simp) ?_)
  show wpAny _ _ (newExc (.type "StopIteration") [] >>= _) _ _ _
  refine wpAny_bind ?_
  simp only [newExc, newTuple]
  refine wpAny_bind (wpAny_newObj_type ?_ (by size_fits))
  refine wpAny_bind (m := firstArgMember _ _) (wpAny_of_eq (a := Value.none) (by first | rfl | (simp only [firstArgMember]; rfl)) ?_)
  refine wpAny_newObj_type ?_ (by size_fits)
  simp only [raiseNew]
  refine wpAny_bind (wpAny_handled ?_)
  rw [show A.in1.handled = none from hh]
  refine wpAny_bind (wpAny_pure (wpAny_throw ?_))
  refine wpAny_bind (wpAny_isInstance (T := "StopIteration") (b := true) ⟨_, Heap.get?_push_size _ rfl, rfl⟩ isSubtype_stop ?_)
  exact wpAny_pure (hQ _ ((((Heap.SameBut.update ..).trans (Heap.SameBut.update ..)).extBut.push _).push _))
end
end SS
namespace SS
open PySem PySem.Spec PyProof.Rows
section
variable {prog : Program} {w : World} {A : Around} {E : Value → Shared → Prop} {s : Shared} {it a : Addr} {es : Array (Int × Value)} {ep : Nat} {t : SetTable}
theorem byText_ok {Q : Bool → Shared → Prop} (h : Q (w.params.followText "set-order") s) : wpAny (model prog w) A setsByText Q E s := by
  unfold setsByText
  exact wpAny_bind (wpAny_askSetting (wpAny_pure h))
theorem SetAt.keep {h h' : Heap} (x : SetAt h a es ep t) (k : ∀ o, h.get? a = some o → h'.get? a = some o) : SetAt h' a es ep t := by
  obtain ⟨o, e, r⟩ := x
  exact ⟨o, k o e, r⟩
theorem IsIt.keep {h h' : Heap} {first : Value} {i n : Nat} (x : IsIt h it a first i n ep) (k : ∀ o, h.get? it = some o → h'.get? it = some o) : IsIt h' it a first i n ep := by
  obtain ⟨o, e, r⟩ := x
  exact ⟨o, k o e, r⟩
theorem nextT {slot i : Nat} {Q : Option (Value × Nat) → Shared → Prop} (hw : w.params.followText "set-order" = true) (hs : SetAt s.heap a es ep t)
    (h : Q (((pickOrder (w.params.setOrder a ep) es)[i]?).map fun e => (e.2, slot)) s) : wpAny (model prog w) A (setNext a slot i ep) Q E s := by
  obtain ⟨os, hos, hds, hf⟩ := hs
  unfold setNext
  refine wpAny_bind (wpAny_setState_of hos hds hf ?_)
  dsimp only
  refine wpAny_bind (byText_ok ?_)
  rw [hw, if_pos rfl]
  simp only [bne_self_eq_false, Bool.false_eq_true, if_false]
  refine wpAny_bind ?_
  unfold setWalk
  refine wpAny_bind (wpAny_setState_of hos hds hf ?_)
  dsimp only
  refine wpAny_bind (byText_ok ?_)
  rw [hw, if_pos rfl]
  exact wpAny_bind (wpAny_askSetting (wpAny_pure (wpAny_pure h)))
theorem walksT (hw : w.params.followText "set-order" = true) (hh : A.handled = none) (hne : a ≠ it) :
    Walks prog w A it [it, a] [it] ((pickOrder (w.params.setOrder a ep) es).toList.map (·.2)).length (fun i v => ((pickOrder (w.params.setOrder a ep) es).toList.map (·.2))[i]? = some v) (fun i h => IsIt h it a (.int 0 0) i es.size ep ∧ SetAt h a es ep t) where
  sub := fun b hb => by simp at hb; simp [hb]
  frame := fun _ _ _ st hk => ⟨st.1.keep fun o e => hk it (by simp) o e, st.2.keep fun o e => hk a (by simp) o e⟩
  item := fun i s Q E hi st hQ => by
    have hi' : i < (pickOrder (w.params.setOrder a ep) es).size := by simpa using hi
    have e1 : (pickOrder (w.params.setOrder a ep) es)[i]? = some ((pickOrder (w.params.setOrder a ep) es)[i]'hi') := Array.getElem?_eq_getElem hi'
    refine next_slot (slot := 0) (x := ((pickOrder (w.params.setOrder a ep) es)[i]'hi').2) (nx := 0) st.1 st.2 (fun A' Q' E' hq => nextT hw st.2 (by rw [e1]; exact hq)) fun h' hit' hs' => ?_
    refine hQ _ h' s.toks ?_ ⟨hit', st.2.keep fun o e => (hs'.2 a hne).trans e⟩ fun b o hb e => (hs'.2 b fun z => hb (by simp [z])).trans e
    rw [List.getElem?_map, Array.getElem?_toList, e1]; rfl
  done := fun s Q E st hQ => by
    have e1 : (pickOrder (w.params.setOrder a ep) es)[((pickOrder (w.params.setOrder a ep) es).toList.map (·.2)).length]? = none := by simp
    exact end_slot (slot := 0) hh st.1 st.2 (fun A' Q' E' hq => nextT hw st.2 (by rw [e1]; exact hq)) fun h' he' => hQ h' s.toks fun b o hb e => he' b o (fun z => hb (by simp [z])) e
  self := fun _ _ _ _ st hQ => iter_self st.1 hQ
theorem walksD {tp : Addr} {ps : List Nat} (hh : A.handled = none) (hne : a ≠ it) (hnt : tp ≠ it) (hps : ps.Perm (List.range es.size)) :
    Walks prog w A it [it, a, tp] [it] (ps.map fun p => ((es[p]?).getD (0, .none)).2).length (fun i v => (ps.map fun p => ((es[p]?).getD (0, .none)).2)[i]? = some v)
      (fun i h => IsIt h it a (.ref tp) i es.size ep ∧ SetAt h a es ep t ∧ ∃ o n, h.get? tp = some o ∧ o.data = .seq ((ps.map fun (i : Nat) => rawInt i).toArray) n) where
  sub := fun b hb => by simp at hb; simp [hb]
  frame := fun _ _ _ st hk => ⟨st.1.keep fun o e => hk it (by simp) o e, st.2.1.keep fun o e => hk a (by simp) o e, by obtain ⟨o, n, e, r⟩ := st.2.2; exact ⟨o, n, hk tp (by simp) o e, r⟩⟩
  item := fun i s Q E hi st hQ => by
    have hi' : i < ps.length := by simpa using hi
    have e1 : ps[i]? = some (ps[i]'hi') := List.getElem?_eq_getElem hi'
    have hlt : (ps[i]'hi') < es.size := List.mem_range.mp (hps.mem_iff.mp (List.getElem_mem hi'))
    have e2 : es[ps[i]'hi']? = some ((es[ps[i]'hi']'hlt).1, (es[ps[i]'hi']'hlt).2) := Array.getElem?_eq_getElem hlt
    refine next_drawn st.1 st.2.1 st.2.2 e1 e2 fun h' hit' hs' => ?_
    refine hQ _ h' s.toks ?_ ⟨hit', st.2.1.keep fun o e => (hs'.2 a hne).trans e, by obtain ⟨o, n, e, r⟩ := st.2.2; exact ⟨o, n, (hs'.2 tp hnt).trans e, r⟩⟩ fun b o hb e => (hs'.2 b fun z => hb (by simp [z])).trans e
    rw [List.getElem?_map, e1]
    simp only [Option.map_some, e2, Option.getD_some]
  done := fun s Q E st hQ => by
    exact end_drawn hh st.1 st.2.1 st.2.2 (by simp) fun h' he' => hQ h' s.toks fun b o hb e => he' b o (fun z => hb (by simp [z])) e
  self := fun _ _ _ _ st hQ => iter_self st.1 hQ
theorem nextS {slot i : Nat} {Q : Option (Value × Nat) → Shared → Prop} (hw : w.params.followText "set-order" = false) (hl : t.led = true) (hz : es.size ≤ 1) (hs : SetAt s.heap a es ep t)
    (h : Q (match es[SetTable.below t.place slot]?, t.place[SetTable.below t.place slot]? with | some (_, x), some j => some (x, j + 1) | _, _ => none) s) : wpAny (model prog w) A (setNext a slot i ep) Q E s := by
  obtain ⟨os, hos, hds, hf⟩ := hs
  unfold setNext
  refine wpAny_bind (wpAny_setState_of hos hds hf ?_)
  dsimp only
  refine wpAny_bind (byText_ok ?_)
  rw [hw, if_neg (by decide)]
  show wpAny _ _ (if (!t.plain && decide (es.size > 1)) = true then _ else _) _ _ _
  rw [if_neg (by rw [decide_eq_false (Nat.not_lt.mpr hz), Bool.and_false]; decide)]
  show wpAny _ _ ((if (!t.led && !es.isEmpty) = true then _ else _) >>= _) _ _ _
  rw [hl, if_neg (by simp)]
  exact wpAny_bind (wpAny_pure (wpAny_pure h))
theorem below_0 (xs : Array Nat) (h : xs.size ≤ 1) : SetTable.below xs 0 = 0 := by
  unfold SetTable.below
  have : xs.size = 0 ∨ xs.size = 1 := by omega
  rcases this with z | z
  · rw [z]; rfl
  · rw [z]
    unfold SetTable.below.go
    rw [if_pos (by decide)]
    dsimp only
    rw [if_neg (by omega)]
    rfl
theorem below_1 (xs : Array Nat) (j : Nat) (h : xs.size = 1) (hj : xs[0]? = some j) : SetTable.below xs (j + 1) = 1 := by
  unfold SetTable.below
  rw [h]
  unfold SetTable.below.go
  rw [if_pos (by decide)]
  dsimp only
  have e : xs.getD ((0 + 1) / 2) (j + 1) = j := by
    show xs.getD 0 (j + 1) = j
    rw [Array.getD_eq_getD_getElem?, hj]; rfl
  rw [e, if_pos (by omega)]
  rfl
theorem walksS (hw : w.params.followText "set-order" = false) (hl : t.led = true) (hz : es.size ≤ 1) (hf : t.fits es.size = true) (hh : A.handled = none) (hne : a ≠ it) :
    Walks prog w A it [it, a] [it] (es.toList.map (·.2)).length (fun i v => (es.toList.map (·.2))[i]? = some v) (fun i h => IsIt h it a (.int (if i = 0 then 0 else t.place.getD 0 0 + 1 : Nat) 0) i es.size ep ∧ SetAt h a es ep t) where
  sub := fun b hb => by simp at hb; simp [hb]
  frame := fun _ _ _ st hk => ⟨st.1.keep fun o e => hk it (by simp) o e, st.2.keep fun o e => hk a (by simp) o e⟩
  item := fun i s Q E hi st hQ => by
    have hi' : i < es.size := by simpa using hi
    have h0 : i = 0 := by omega
    subst h0
    have hp : t.place.size = es.size := by simp only [SetTable.fits, Bool.and_eq_true, beq_iff_eq] at hf; exact hf.1
    have e1 : es[0]? = some (es[0]'hi') := Array.getElem?_eq_getElem hi'
    have e2 : t.place[0]? = some (t.place[0]'(by omega)) := Array.getElem?_eq_getElem (by omega)
    have e3 : t.place.getD 0 0 = t.place[0]'(by omega) := by rw [Array.getD_eq_getD_getElem?, e2]; rfl
    refine next_slot (slot := ((if (0 : Nat) = 0 then 0 else t.place.getD 0 0 + 1 : Nat) : Int)) (x := (es[0]'hi').2) (nx := (t.place[0]'(by omega)) + 1) st.1 st.2 (fun A' Q' E' hq => ?_) fun h' hit' hs' => ?_
    · refine nextS hw hl hz st.2 ?_
      simp only [if_true, Int.toNat_natCast]
      rw [below_0 _ (by omega), e1, e2]
      exact hq
    · refine hQ _ h' s.toks ?_ ⟨?_, st.2.keep fun o e => (hs'.2 a hne).trans e⟩ fun b o hb e => (hs'.2 b fun z => hb (by simp [z])).trans e
      · rw [List.getElem?_map, Array.getElem?_toList, e1]; rfl
      · rw [if_neg (by omega), e3]; exact hit'
  done := fun s Q E st hQ => by
    have hp : t.place.size = es.size := by simp only [SetTable.fits, Bool.and_eq_true, beq_iff_eq] at hf; exact hf.1
    have hlen : (es.toList.map (·.2)).length = es.size := by simp
    rw [hlen] at st
    refine end_slot hh st.1 st.2 (fun A' Q' E' hq => nextS hw hl hz st.2 ?_) fun h' he' => hQ h' s.toks fun b o hb e => he' b o (fun z => hb (by simp [z])) e
    simp only [Int.toNat_natCast]
    by_cases hz0 : es.size = 0
    · rw [if_pos hz0, below_0 _ (by omega), Array.getElem?_eq_none (by omega)]
      exact hq
    · have e2 : t.place[0]? = some (t.place[0]'(by omega)) := Array.getElem?_eq_getElem (by omega)
      have e3 : t.place.getD 0 0 = t.place[0]'(by omega) := by rw [Array.getD_eq_getD_getElem?, e2]; rfl
      rw [if_neg hz0, e3, below_1 _ _ (by omega) e2, Array.getElem?_eq_none (by omega)]
      exact hq
  self := fun _ _ _ _ st hQ => iter_self st.1 hQ
end
end SS
namespace SS
open PySem PySem.Spec PyProof.Rows
section
variable {prog : Program} {w : World} {A : Around} {E : Value → Shared → Prop} {s : Shared} {it a : Addr} {es : Array (Int × Value)} {ep : Nat} {t : SetTable}
theorem perm_places {ps : List Nat} (hps : ps.Perm (List.range es.size)) : (ps.map fun p => ((es[p]?).getD (0, .none)).2).Perm (es.toList.map (·.2)) := by
  refine (hps.map _).trans ?_
  have : ((List.range es.size).map fun p => ((es[p]?).getD (0, .none)).2) = es.toList.map (·.2) := by
    apply List.ext_getElem?
    intro i
    simp only [List.getElem?_map, Array.getElem?_toList]
    by_cases hi : i < es.size
    · rw [List.getElem?_range hi, Array.getElem?_eq_getElem hi]
      simp [Array.getElem?_eq_getElem hi]
    · rw [List.getElem?_eq_none (by simpa using hi), Array.getElem?_eq_none (by omega)]; rfl
  rw [this]
theorem iter_set {Q : Value → Shared → Prop} (hS : SetX prog w s.heap a es)
    (h : ∀ (h' : Heap) (d : Drawn) (it : Addr) (zs : List Value) (fp : List Addr) (St : Nat → Heap → Prop), zs.Perm (es.toList.map (·.2)) → (∀ A' : Around, A'.handled = none → Walks prog w A' it fp [it] zs.length (fun i v => zs[i]? = some v) St) → St 0 h' →
      it ∈ fp → (∀ b ∈ fp, b = a ∨ s.heap.objs.size ≤ b) → (∀ b ∈ fp, b < h'.objs.size) → s.heap.objs.size ≤ it → (∀ b o, s.heap.get? b = some o → h'.get? b = some o) → Q (.ref it) { s with heap := h', drawn := d }) : wpAny (model prog w) A (pyIter (.ref a)) Q E s := by
  obtain ⟨o, ep, t, ho, hex, hd, hel, hnd, hb, hf, hled, hpl⟩ := hS
  have hT : s.TypeIs (.ref a) "set" := ⟨o, ho, hex.1⟩
  have alt : a < s.heap.objs.size := Heap.lt_size ho
  refine wpAny_pyIter_slot hT slot_iter (wpAny_call_entry slot_iter hT entry_iter ?_ (args_iter _))
  show wpAny _ _ (Builtin.Frozenset.sizeOf a >>= _) _ _ s
  unfold Builtin.Frozenset.sizeOf
  refine wpAny_bind (wpAny_bind (wpAny_setEntries_of ho hd hf (wpAny_pure ?_)))
  refine wpAny_bind ?_
  unfold setDrawn
  refine wpAny_bind (wpAny_setState_of ho hd hf ?_)
  dsimp only
  refine wpAny_bind (byText_ok (wpAny_pure ?_))
  show wpAny _ _ (if (!w.params.followText "set-order" && (!t.plain && decide (es.size > 1))) = true then _ else _) _ _ _
  by_cases hc : (!w.params.followText "set-order" && (!t.plain && decide (es.size > 1))) = true
  · rw [if_pos hc]
    refine wpAny_bind (drawOrder_ok _ _ _ _ (by simp) fun ys d hys => ?_)
    unfold newTuple
    have hsz : sizeOk (.seq ((ys.map fun (i : Nat) => rawInt i).toArray) 0) := by
      show ((ys.map fun (i : Nat) => rawInt i).toArray).size ≤ sizeLine
      rw [List.size_toArray, List.length_map, hys.length_eq, List.length_range]
      exact fits_of_scanBound hb
    refine wpAny_bind (wpAny_newObj_type ?_ hsz)
    have hk1 := fun b o (e : s.heap.get? b = some o) => Heap.get?_push_of_some { cls := .type "tuple", data := .seq ((ys.map fun (i : Nat) => rawInt i).toArray) } e
    have ho1 := hk1 a o ho
    refine wpAny_bind (wpAny_setEpoch_of ho1 hd hf ?_)
    refine wpAny_bind (wpAny_newObj_type (wpAny_pure ⟨_, rfl, "set_iterator", _, ⟨_, Heap.get?_push_size _ rfl, rfl⟩, slot_next.lookup, ?_⟩) (by size_fits))
    have ne1 : a ≠ (s.heap.push { cls := .type "tuple", data := .seq ((ys.map fun (i : Nat) => rawInt i).toArray) }).objs.size := by rw [Heap.size_push]; exact Nat.ne_of_lt (Nat.lt_succ_of_lt alt)
    have ne2 : s.heap.objs.size ≠ (s.heap.push { cls := .type "tuple", data := .seq ((ys.map fun (i : Nat) => rawInt i).toArray) }).objs.size := by rw [Heap.size_push]; exact Nat.ne_of_lt (Nat.lt_succ_self _)
    refine h _ d _ (ys.map fun p => ((es[p]?).getD (0, .none)).2) [_, a, s.heap.objs.size] _ (perm_places hys) (fun A' hh => walksD (t := t) (ep := ep) hh ne1 ne2 hys) ⟨⟨_, Heap.get?_push_size _ rfl, rfl, rfl⟩, ⟨o, Heap.get?_push_of_some _ ho1, hd, hf⟩, ⟨_, _, Heap.get?_push_of_some _ (Heap.get?_push_size _ rfl), rfl⟩⟩ (by simp) (fun b hb' => by
      simp only [List.mem_cons, List.not_mem_nil, or_false] at hb'
      rcases hb' with z | z | z
      · exact .inr (by rw [z, Heap.size_push]; exact Nat.le_succ _)
      · exact .inl z
      · exact .inr (by rw [z]; exact Nat.le_refl _)) (fun b hb' => ?_) (by rw [Heap.size_push]; exact Nat.le_succ _) fun b o e => Heap.get?_push_of_some _ (hk1 b o e)
    rw [Heap.size_push, Heap.size_push]
    simp only [List.mem_cons, List.not_mem_nil, or_false] at hb'
    rcases hb' with z | z | z
    · rw [z, Heap.size_push]; exact Nat.lt_succ_self _
    · rw [z]; exact Nat.lt_succ_of_lt (Nat.lt_succ_of_lt alt)
    · rw [z]; exact Nat.lt_succ_of_lt (Nat.lt_succ_self _)
  · rw [if_neg hc]
    refine wpAny_bind (wpAny_pure ?_)
    refine wpAny_bind (wpAny_setEpoch_of ho hd hf ?_)
    refine wpAny_bind (wpAny_newObj_type (wpAny_pure ⟨_, rfl, "set_iterator", _, ⟨_, Heap.get?_push_size _ rfl, rfl⟩, slot_next.lookup, ?_⟩) (by size_fits))
    have ne1 : a ≠ s.heap.objs.size := Nat.ne_of_lt alt
    have hfp : ∀ b ∈ [s.heap.objs.size, a], b < (s.heap.push { cls := .type "set_iterator", data := .fields [rawInt 0, rawInt 0, .ref a, rawInt (es.size : Nat), rawInt (ep : Nat)].toArray }).objs.size := fun b hb' => by
      rw [Heap.size_push]
      simp only [List.mem_cons, List.not_mem_nil, or_false] at hb'
      rcases hb' with z | z
      · rw [z]; exact Nat.lt_succ_self _
      · rw [z]; exact Nat.lt_succ_of_lt alt
    have hfq : ∀ b ∈ [s.heap.objs.size, a], b = a ∨ s.heap.objs.size ≤ b := fun b hb' => by
      simp only [List.mem_cons, List.not_mem_nil, or_false] at hb'
      rcases hb' with z | z
      · exact .inr (by rw [z]; exact Nat.le_refl _)
      · exact .inl z
    cases hw : w.params.followText "set-order" with
    | true =>
      exact h _ s.drawn _ ((pickOrder (w.params.setOrder a ep) es).toList.map (·.2)) [_, a] _ ((pickOrder_perm _ es).map _) (fun A' hh => walksT (t := t) hw hh ne1) ⟨⟨_, Heap.get?_push_size _ rfl, rfl, rfl⟩, ⟨o, Heap.get?_push_of_some _ ho, hd, hf⟩⟩ (by simp) hfq hfp (Nat.le_refl _) fun b o e => Heap.get?_push_of_some _ e
    | false =>
      have hz : es.size ≤ 1 := by
        rw [hw] at hc
        by_cases hz : es.size ≤ 1
        · exact hz
        · rw [hpl (by omega), decide_eq_true (by omega)] at hc
          exact absurd rfl hc
      have hl : t.led = true := by rw [hled, hw]; rfl
      exact h _ s.drawn _ (es.toList.map (·.2)) [_, a] _ (.refl _) (fun A' hh => walksS (t := t) (ep := ep) hw hl hz hf hh ne1) ⟨⟨_, Heap.get?_push_size _ rfl, rfl, rfl⟩, ⟨o, Heap.get?_push_of_some _ ho, hd, hf⟩⟩ (by simp) hfq hfp (Nat.le_refl _) fun b o e => Heap.get?_push_of_some _ e
end
end SS
namespace SS
open PySem PySem.Spec PyProof.Rows
section
variable {prog : Program} {w : World} {A : Around} {E : Value → Shared → Prop} {s : Shared} {a : Addr} {es : Array (Int × Value)}
theorem collect_set {Q : List Value → Shared → Prop} (hh : A.handled = none) (hS : SetX prog w s.heap a es)
    (hQ : ∀ (h' : Heap) (d : Drawn) (tk : Nat) (zs : List Value), zs.Perm (es.toList.map (·.2)) → s.heap.objs.size ≤ h'.objs.size → (∀ b o, s.heap.get? b = some o → h'.get? b = some o) → Q zs { s with heap := h', drawn := d, toks := tk }) :
    wpAny (model prog w) A (collect (.ref a)) Q E s := by
  have alt : a < s.heap.objs.size := by obtain ⟨o, _, _, ho, _⟩ := hS; exact Heap.lt_size ho
  have hz : es.size < scanBound := by obtain ⟨_, _, _, _, _, _, _, _, hb, _⟩ := hS; exact hb
  unfold collect
  refine wpAny_bind (wpAny_runValue (codeAny_builtin PySem.F.entry_proto_collect ?_))
  rw [Around.under_plainId PySem.F.plain_proto_collect _]
  show wpAny _ A.in1 (newList [] >>= fun l => again (.builtin "list.__iadd__" ⟨[l, .ref a], []⟩)) _ _ s
  refine wpAny_bind (wpAny_newObj_type ?_)
  refine wpAny_pure ⟨plainId_quiet PySem.F.plain_list_iadd _, codeAny_builtin PySem.F.entry_list_iadd ?_⟩
  rw [Around.under_plainId PySem.F.plain_list_iadd _]
  have hS1 : SetX prog w (s.heap.push { cls := .type "list", data := .seq ([] : List Value).toArray }) a es := hS.keeps fun o e => Heap.get?_push_of_some _ e
  have hT : ∀ {s' : Shared}, SetX prog w s'.heap a es → s'.TypeIs (.ref a) "set" := fun {s'} x => by obtain ⟨o, _, _, ho, hex, _⟩ := x; exact ⟨o, ho, hex.1⟩
  show wpAny _ A.in1 (Builtin.List.listExtendWith (.ref s.heap.objs.size) (.ref a) (.ref s.heap.objs.size)) _ _ _
  unfold Builtin.List.listExtendWith
  refine wpAny_bind (wpAny_typeOf (hT (s' := { s with heap := s.heap.push { cls := .type "list", data := .seq ([] : List Value).toArray } }) hS1) ?_)
  have h1 : Builtin.List.listSameRef (.ref s.heap.objs.size) (.ref a) = false := by simp [Builtin.List.listSameRef, Nat.ne_of_gt alt]
  have h2 : (Value.type "set" == Value.type "list") = false := by decide
  have h3 : (Value.type "set" == Value.type "tuple") = false := by decide
  simp only [h1, h2, h3, Bool.or_false, Bool.false_eq_true, if_false]
  refine wpAny_bind (iter_set (s := { s with heap := s.heap.push { cls := .type "list", data := .seq ([] : List Value).toArray } }) hS1 fun h2 d it zs fp St hz' W st0 hit hfq hfp hge k2 => ?_)
  have hS2 : SetX prog w h2 a es := hS1.keeps fun o e => k2 _ _ e
  refine wpAny_bind (wpAny_holding ?_)
  unfold Builtin.List.listLengthHint
  refine wpAny_bind (wpAny_specialOf (hT (s' := { s with heap := h2, drawn := d }) hS2) PySem.F.slot_set_len.lookup ?_)
  dsimp only
  have hsplit : splitId "set.__len__" = some ("set", "__len__") := by decide +kernel
  rw [hsplit]
  dsimp only
  refine wpAny_bind (wpAny_isInstance (hT (s' := { s with heap := h2, drawn := d }) hS2) sub_set_self ?_)
  simp only [Bool.not_true, Bool.false_eq_true, if_false]
  rw [if_pos (by decide +kernel)]
  refine wpAny_bind (wpAny_typeOf (hT (s' := { s with heap := h2, drawn := d }) hS2) ?_)
  refine wpAny_pure ?_
  rw [if_pos (by decide +kernel)]
  refine wpAny_bind (wpAny_rule ?_)
  have L0 : (s.heap.push { cls := .type "list", data := .seq ([] : List Value).toArray }).get? s.heap.objs.size = some { cls := .type "list", data := .seq ([] : List Value).toArray } := Heap.get?_push_size _ rfl
  have L1 := k2 _ _ L0
  have hSf : s.heap.objs.size ∉ fp := fun z => by
    rcases hfq _ z with e | e
    · exact absurd alt (by rw [← e]; exact Nat.lt_irrefl _)
    · rw [Heap.size_push] at e
      exact absurd e (Nat.not_succ_le_self _)
  have hge' : s.heap.objs.size < it := by rw [Heap.size_push] at hge; exact hge
  refine wpAny_bind ?_
  show wpAny _ A.in1 (updateSeq s.heap.objs.size (·.push .none) >>= fun _ => updateSeq s.heap.objs.size (·.pop)) _ _ _
  refine wpAny_bind (wpAny_updateSeq L1 rfl ?_)
  have L2 := Heap.get?_update_self (Obj.mapSeq (·.push Value.none)) L1 rfl
  refine wpAny_updateSeq L2 rfl ?_
  have L3 := Heap.get?_update_self (Obj.mapSeq (·.pop)) L2 rfl
  have oth : ∀ b o, b ≠ s.heap.objs.size → h2.get? b = some o → ((h2.update s.heap.objs.size (Obj.mapSeq (·.push Value.none))).update s.heap.objs.size (Obj.mapSeq (·.pop))).get? b = some o :=
    fun b o hb e => (Heap.get?_update_other _ _ (Ne.symm hb)).trans ((Heap.get?_update_other _ _ (Ne.symm hb)).trans e)
  have WS := (W A.in1 hh).toS
  have hn : zs.length ≤ sizeLine := by rw [hz'.length_eq, List.length_map, Array.length_toList]; exact fits_of_scanBound hz
  refine wpAny_pure ⟨plainId_quiet PySem.F.plain_extend_loop _, codeAny_extend_loopS WS hn _ hSf _ zs.length 0 _ _ _ rfl (Nat.zero_le _) ((W A.in1 hh).frame 0 _ _ st0 fun b hb o e => oth b o (fun z => hSf (z ▸ hb)) e) L3 (ItemsOf.nil _) fun s' acc' c' hm hS' hacc => ?_⟩
  show wpAny _ A (load s.heap.objs.size >>= _) _ _ s'
  refine wpAny_bind (wpAny_load hS' ?_)
  have eacc : acc'.toList = zs := by
    apply List.ext_getElem?
    intro j
    rw [Array.getElem?_toList]
    by_cases hj : j < acc'.size
    · have e1 : acc'[j]? = some (acc'[j]'hj) := Array.getElem?_eq_getElem hj
      rw [e1]
      exact (hacc.2 j _ e1).symm
    · rw [Array.getElem?_eq_none (by omega), List.getElem?_eq_none (by rw [← hacc.1]; omega)]
  obtain ⟨h', g', d', tk', os'⟩ := s'
  have eg : g' = s.gens := hm.gens
  have ed : d' = d := hm.drawn
  have eo : os' = s.os := hm.os
  subst eg; subst ed; subst eo
  refine wpAny_pure ?_
  show Q acc'.toList _
  rw [eacc]
  have kp : ∀ b o, s.heap.get? b = some o → h'.get? b = some o := fun b o e => by
    have hb : b < s.heap.objs.size := Heap.lt_size e
    refine hm.heap b o ?_ (oth b o (Nat.ne_of_lt hb) (k2 _ _ (Heap.get?_push_of_some _ e)))
    simp only [List.mem_cons, List.not_mem_nil, or_false, not_or]
    exact ⟨Nat.ne_of_lt hb, Nat.ne_of_lt (Nat.lt_trans hb hge')⟩
  exact hQ h' d' tk' zs hz' (Nat.le_of_lt (Heap.lt_size hS')) kp
theorem strs_of {l : List (Int × Value)} (h : ElemsOf (PySem.strKind prog w) l) : ∀ {zs : List Value}, zs.Perm (l.map (·.2)) → StrsAre zs (zs.map strOf) := fun {zs} hp => by
  have : ∀ v ∈ zs, ∃ t, v = Value.str (strOf v) t := fun v hv => by
    obtain ⟨e, he, rfl⟩ := List.mem_map.mp (hp.mem_iff.mp hv)
    exact elems_str h he
  clear hp
  induction zs with
  | nil => exact .nil
  | cons v r ih =>
    obtain ⟨t, e⟩ := this v (by simp)
    have r' := ih fun v' h' => this v' (by simp [h'])
    rw [List.map_cons]
    rw [e]
    exact .cons _ t r'
theorem sorted_set {Q : Value → Shared → Prop} (hh : A.handled = none) (hS : SetX prog w s.heap a es) (h64 : es.size < 64)
    (h : ∀ (h' : Heap) (d : Drawn) (tk : Nat) (l : Addr) (e : Nat) (out : List Value) (ss : List Str), s.heap.objs.size ≤ l → h'.get? l = some (seqObj "list" out.toArray e) → StrsAre out ss → ss.Perm (names es) → sortedS ss = true →
      (∀ b o, s.heap.get? b = some o → h'.get? b = some o) → Q (.ref l) { s with heap := h', drawn := d, toks := tk }) :
    wpAny (model prog w) A (call (.builtin "sorted") [.ref a]) Q E s := by
  have hel : ElemsOf (PySem.strKind prog w) es.toList := by obtain ⟨_, _, _, _, _, _, hel, _⟩ := hS; exact hel
  refine Calls.call_function_entry kind_sorted plain_sorted entry_sorted (args_sorted1 _) ?_
  unfold Builtin.«sorted»
  refine wpAny_bind (m := checkCount "sorted" 1 1 _) (wpAny_pure ?_)
  refine wpAny_bind (collect_set hh hS fun h1 d tk zs hz hsz k1 => ?_)
  have hst : StrsAre zs (zs.map strOf) := strs_of hel hz
  have hlen : zs.length < 64 := by rw [hz.length_eq, List.length_map, Array.length_toList]; exact h64
  refine wpAny_bind (wpAny_newList ?_)
  have hoL : (h1.push (seqObj "list" zs.toArray 0)).get? h1.objs.size = some (seqObj "list" zs.toArray 0) := Heap.get?_push_size _ rfl
  show wpAny _ _ _ _ _ { s with heap := h1.push (seqObj "list" zs.toArray 0), drawn := d, toks := tk }
  refine wpAny_bind (wpAny_holding (wpAny_call_entry slot_list_sort ⟨_, hoL, rfl⟩ entry_list_sort (list_sort_treeK strKind_oneLt hoL hst.keysOf (fun v₁ v₂ rest e => keyKind_strs (by rw [← e]; exact hst)) hlen fun st' a1 a2 => ⟨_, rfl, ?_⟩) (args_list_sort _)))
  obtain ⟨ss', q1, q2, q3⟩ := sorted_out_str hst a1 a2
  obtain ⟨e, he⟩ := sortedHeap_at (out := (arrOf st').map (·.2)) hoL
  refine wpAny_pure ⟨_, rfl, h _ d tk h1.objs.size e ((arrOf st').map (·.2)).toList ss' hsz (by rw [Array.toArray_toList]; exact he) q1 (q2.trans ?_) q3 fun b o q => ?_⟩
  · have := hz.map strOf
    rw [List.map_map] at this
    exact this
  · have hb := k1 b o q
    rw [sortedHeap_old (Nat.ne_of_lt (Heap.lt_size hb)) (by rw [size_push']; exact Nat.lt_succ_of_lt (Heap.lt_size hb))]
    exact Heap.get?_push_of_some _ hb
end
end SS
namespace L2
open PySem PySem.Spec PyProof.Rows
section
variable {X : Cx}
theorem strs_get {xs : List Str} {its : List Value} (r : Vals (xs.map V.str) its) : ∀ (i : Nat) (v : Value), its.toArray[i]? = some v → ∃ t : Tok, v = Value.str (xs.getD i ⟨#[]⟩) t := fun i v h => by
  have h' : its[i]? = some v := by simpa using h
  have hl := r.length
  have hi : i < its.length := (List.getElem?_eq_some_iff.mp h').1
  have hx : (xs.map V.str)[i]? = some (V.str (xs.getD i ⟨#[]⟩)) := by
    rw [List.getElem?_map, List.getD_eq_getElem?_getD]
    have : i < xs.length := by rw [← hl, List.length_map] at hi; exact hi
    rw [List.getElem?_eq_getElem this]; rfl
  obtain ⟨u, hu, ru⟩ := r.get hx
  rw [h'] at hu
  cases hu
  exact ru
def strLt (a b : Str) : Prop := a.cps.toList < b.cps.toList
theorem rising_pw : ∀ (p : Str) (l : List Str), risingS p l = true → (p :: l).Pairwise (fun a b => ¬ b.cps.toList < a.cps.toList)
  | p, [], _ => List.pairwise_singleton _ _
  | p, x :: r, h => by
    simp only [risingS, Bool.and_eq_true, Bool.not_eq_true', ltCps_eq, decide_eq_false_iff_not] at h
    have ih := rising_pw x r h.2
    refine List.pairwise_cons.mpr ⟨fun y hy => ?_, ih⟩
    rcases List.mem_cons.mp hy with e | e
    · rw [e]; exact h.1
    · have := (List.pairwise_cons.mp ih).1 y e
      exact fun z => (List.not_lt.mp this) |> fun q => absurd z (List.not_lt.mpr (List.le_trans (List.not_lt.mp h.1) q))
theorem sorted_pw {l : List Str} (h : sortedS l = true) : l.Pairwise (fun a b => ¬ b.cps.toList < a.cps.toList) := by
  cases l with
  | nil => exact .nil
  | cons x r => exact rising_pw x r h
theorem strictly {l : List Str} (h : l.Pairwise (fun a b => ¬ b.cps.toList < a.cps.toList)) (nd : l.Nodup) : l.Pairwise strLt := by
  refine (h.and nd).imp fun {a b} q => ?_
  by_cases z : a.cps.toList < b.cps.toList
  · exact z
  · have e : a.cps.toList = b.cps.toList := List.le_antisymm (List.not_lt.mp q.1) (List.not_lt.mp z)
    refine absurd ?_ q.2
    obtain ⟨⟨la⟩⟩ := a
    obtain ⟨⟨lb⟩⟩ := b
    have e' : la = lb := e
    rw [e']
def tSortSet (K : PySem.W.Frag) (ta : TA) : TE := fun σ H Q => ta σ H fun vs H1 => ∃ (a : Addr) (xs : List Str), vs = [.ref a] ∧ SqL K H1 a (xs.map V.str) ∧ xs.length < 64 ∧
  ∀ (l : Addr) (ys : List Str), H1 l = none → ys.Pairwise strLt → (∀ x, x ∈ ys ↔ x ∈ xs) → Q (.ref l) (upd H1 l (.lst (ys.map V.str)))
theorem vals_strs : ∀ {out : List Value} {ss : List Str}, StrsAre out ss → Vals (ss.map V.str) out
  | _, _, .nil => .nil
  | _, _, .cons x t h => .cons ⟨t, rfl⟩ (vals_strs h)
theorem pe_sortset {e : Expr} {ta : TA} {p1 p2 pos1 pos2 : Pos} (hms : X.mg "sorted" = none) (hmt : X.mg "set" = none) (hc : X.calm = true) (ha : PA X [e] ta) (hgs : Gl X "sorted" := by rfl) (hgt : Gl X "set" := by rfl)
    (hs : starEach [e] X.env = [(false, eval e X.env)] := by rfl) (hz : starEach [.Call (.Name "set" p2) [e] [] pos2] X.env = [(false, eval (.Call (.Name "set" p2) [e] [] pos2) X.env)] := by rfl) :
    PE X (.Call (.Name "sorted" p1) [.Call (.Name "set" p2) [e] [] pos2] [] pos1) (tSortSet X.K ta) := by
  intro pins s σ H Q I h
  refine wpAny_Call_Name_kw (ld_blt I hgs hms (show bootBuiltins "sorted" = some (.builtin "sorted") by with_unfolding_all rfl) ?_)
  refine PyProof.Rows.callWith_builtin1 ?_ hz rfl
  rw [hz]
  refine Calls.spliced_cons (wpAny_Call_Name_kw (ld_blt I hgt hmt (show bootBuiltins "set" = some (.type "set") by with_unfolding_all rfl) (PyProof.Rows.callWith_type1 (thn (ha pos2 pins s σ H _ I h) fun us s1 ⟨vs, H1, I1, r1, q1⟩ => ?_) hs rfl)))
  obtain ⟨a, xs, e, hq, h64, q⟩ := q1
  subst e
  obtain ⟨u, rfl, ru⟩ := vals1 r1
  cases ru
  obtain ⟨its, rv, pl, hzz⟩ := I1.list hq
  have hl := rv.length
  have hsz : its.toArray.size = xs.length := by rw [List.size_toArray, ← hl, List.length_map]
  refine SS.call_set (val := fun i => xs.getD i ⟨#[]⟩) (I1.ok.hd hc) pl.isList (fun i v hv => strs_get rv i v hv) (by rw [hsz, show scanBound = 4096 from rfl]; omega) fun h2 tk es hS hsz' hmem k2 => ?_
  have hszE : es.size < 64 := by omega
  have kp2 : ∀ b o, s1.heap.get? b = some o → h2.get? b = some o := fun b o e => k2 b o (Heap.lt_size e) e
  refine Calls.spliced_nil ?_
  refine SS.sorted_set (s := { s1 with heap := h2, toks := tk }) (I1.ok.hd hc) hS hszE fun h3 d tk3 l ep out ss hge hl3 hss hperm hsort k3 => ?_
  have alt : s1.heap.objs.size < h2.objs.size := by obtain ⟨o, _, _, ho, _⟩ := hS; exact Heap.lt_size ho
  have hn : H1 l = none := I1.hok.fresh (Nat.le_trans (Nat.le_of_lt alt) hge)
  have nd : ss.Nodup := hperm.nodup_iff.mpr (by obtain ⟨_, _, _, _, _, _, _, hnd, _⟩ := hS; exact hnd)
  have hmem2 : ∀ x, x ∈ ss ↔ x ∈ xs := fun x => by
    rw [hperm.mem_iff, hmem x, hsz]
    constructor
    · rintro ⟨j, hj, rfl⟩
      rw [List.getD_eq_getElem?_getD, List.getElem?_eq_getElem hj]
      exact List.getElem_mem hj
    · intro hx
      obtain ⟨j, hj, e⟩ := List.getElem_of_mem hx
      exact ⟨j, hj, by rw [List.getD_eq_getElem?_getD, List.getElem?_eq_getElem hj]; exact e⟩
  have hlen : ss.length = es.size := by rw [hperm.length_eq, List.length_map, Array.length_toList]
  have I2 : Inv X pins σ (upd H1 l (.lst (ss.map V.str))) { s1 with heap := h3, drawn := d, toks := tk3 } := by
    refine I1.call (ch := []) (g' := s1.gens) (d' := d) (t' := tk3) (h' := h3) (H' := upd H1 l (.lst (ss.map V.str))) ⟨fun b o q _ _ _ => k3 b o (kp2 b o q), fun b o q _ _ _ => ⟨o.slots, k3 b o (kp2 b o q)⟩, fun b o q n _ => ?_, fun b o q _ => ⟨o, k3 b o (kp2 b o q)⟩, fun b xs q => ?_, fun b o u q => ?_, fun b ps q => ⟨#[], ?_⟩⟩ ?_ I1.bare fun b z => absurd z (by simp)
    · rw [upd_ne (Nat.ne_of_lt (Nat.lt_of_lt_of_le (Heap.lt_size q) (Nat.le_trans (Nat.le_of_lt alt) hge)))]; exact n
    · rw [upd_ne (ne_of_none q hn)]; exact q
    · rw [upd_ne (ne_of_none q hn)]; exact q
    · rw [upd_ne (ne_of_none q hn), q]; simp
    · exact I1.hok.laid (fun b u q => k3 b u (kp2 b u q)) (Nat.le_trans (Nat.le_of_lt alt) hge) ⟨by rw [List.length_map, hlen]; exact Nat.le_of_lt (Nat.lt_of_lt_of_le hszE (by decide)), out, ep, vals_strs hss, hl3⟩
  exact ⟨.ref l, _, I2, rfl, q l ss hn (strictly (sorted_pw hsort) nd) hmem2⟩
end
end L2
namespace L2
open PySem PySem.Spec PyProof.Rows
theorem preSum_take (ns : List Int) : ∀ k, k ≤ ns.length → preSum (fun i => ns.getD i 0) k = (ns.take k).sum
  | 0, _ => by simp [preSum]
  | k + 1, h => by
    have e : preSum (fun i => ns.getD i 0) (k + 1) = preSum (fun i => ns.getD i 0) k + ns.getD k 0 := by
      first | rfl | (unfold preSum; simp [List.range_succ])
    rw [e, preSum_take ns k (by omega), List.take_add_one, List.getElem?_eq_getElem (by omega), List.sum_append, List.getD_eq_getElem?_getD, List.getElem?_eq_getElem (by omega)]
    simp
theorem sum_small : ∀ (ns : List Int) (b : Int), (∀ n ∈ ns, 0 ≤ n ∧ n ≤ b) → 0 ≤ ns.sum ∧ ns.sum ≤ b * ns.length
  | [], b, _ => by simp
  | x :: r, b, h => by
    obtain ⟨h1, h2⟩ := h x (by simp)
    obtain ⟨h3, h4⟩ := sum_small r b fun n hn => h n (by simp [hn])
    rw [List.sum_cons, List.length_cons]
    refine ⟨by omega, ?_⟩
    have : b * ((r.length + 1 : Nat) : Int) = b * (r.length : Int) + b := by rw [Int.natCast_add, Int.mul_add]; simp
    rw [this]; omega
section
variable {X : Cx}
theorem call_sum (hc : X.calm = true) : CallR X (.builtin "sum") (fun xs H Q => ∃ (p : Addr) (ns : List Int), xs = [.ref p] ∧ SqL X.K H p (ns.map V.int) ∧ (∀ n ∈ ns, 0 ≤ n ∧ n ≤ 2 ^ 40) ∧ ns.length ≤ 1000 ∧ Q (.int ns.sum) H) := by
  intro pins s σ H xs us Q I r h
  obtain ⟨p, ns, rfl, hq, hb, hl, q⟩ := h
  obtain ⟨u, rfl, ru⟩ := vals1 r
  cases ru
  obtain ⟨vs, rv, pl, hz⟩ := I.list hq
  have hlen : vs.length = ns.length := by rw [← rv.length, List.length_map]
  have hll := pl.isList
  have hlt : p < s.heap.objs.size := by obtain ⟨_, e, _⟩ := hll; exact Heap.lt_size e
  have small : ∀ k, k ≤ ns.length → InLong (preSum (fun i => ns.getD i 0) k) := fun k hk => by
    rw [preSum_take ns k hk]
    obtain ⟨h1, h2⟩ := sum_small (ns.take k) (2 ^ 40) fun n hn => hb n (List.mem_of_mem_take hn)
    have h3 : ((ns.take k).length : Int) ≤ 1000 := by rw [List.length_take]; omega
    have h4 : (2 ^ 40 : Int) * ((ns.take k).length : Int) ≤ 2 ^ 40 * 1000 := Int.mul_le_mul_of_nonneg_left h3 (by decide)
    unfold InLong
    first | (constructor <;> omega) | omega
  refine call_sum_walk (wpAny_pyIter_list hll ?_)
  refine ⟨s.heap.objs.size, [s.heap.objs.size, p], [s.heap.objs.size], vs.toArray.size, _, _, fun i => ns.getD i 0, rfl, Walks.list (A := X.A.in1) (I.ok.hd hc) _ p (Nat.ne_of_lt hlt) vs.toArray,
    ⟨⟨_, Heap.get?_push_size _ rfl, rfl, rfl⟩, hll.push _⟩, fun b hb' => ?_, fun i v hv => ?_, fun j hj => ⟨?_, small (j + 1) (by simp at hj; omega)⟩, fun h' tk t' hk => ?_⟩
  · rw [Heap.size_push]
    simp only [List.mem_cons, List.not_mem_nil, or_false] at hb'
    rcases hb' with z | z
    · rw [z]; exact Nat.lt_succ_self _
    · rw [z]; exact Nat.lt_succ_of_lt hlt
  · have h' : vs[i]? = some v := by simpa using hv
    have hi : i < ns.length := by rw [← hlen]; exact (List.getElem?_eq_some_iff.mp h').1
    have hx : (ns.map V.int)[i]? = some (V.int (ns.getD i 0)) := by
      rw [List.getElem?_map, List.getD_eq_getElem?_getD, List.getElem?_eq_getElem hi]; rfl
    obtain ⟨u, hu, ru⟩ := rv.get hx
    rw [h'] at hu
    cases hu
    exact ru
  · have hj' : j < ns.length := by simp at hj; omega
    obtain ⟨h1, h2⟩ := hb (ns.getD j 0) (by rw [List.getD_eq_getElem?_getD, List.getElem?_eq_getElem hj']; exact List.getElem_mem hj')
    show InLong (ns.getD j 0)
    unfold InLong
    first | (constructor <;> omega) | omega
  · have e : preSum (fun i => ns.getD i 0) vs.toArray.size = ns.sum := by
      rw [List.size_toArray, hlen, preSum_take ns _ (Nat.le_refl _), List.take_length]
    rw [e]
    exact ⟨.int _, H, I.kept (h' := h') (t' := tk) (LSm.kept_iter hk), ⟨_, rfl⟩, q⟩
end
end L2
namespace L2
open PySem PySem.Spec PyProof.Rows
section
variable {X : Cx}
theorem empty_app (x : Str) : Str.empty ++ x = x := by
  obtain ⟨c⟩ := x
  show Str.mk (#[] ++ c) = ⟨c⟩
  rw [Array.empty_append]
def tFmt (x : Str) (te : TE) : TE := fun σ H Q => te σ H fun v H1 => ∃ y, v = .str y ∧ x.length + y.length ≤ sizeLine ∧ Q (.str (x ++ y)) H1
theorem pe_fmt {e : Expr} {te : TE} {x : Str} {k : Nat} {p1 p2 pos : Pos} (he : PE X e te) (hx : x.length ≤ sizeLine := by decide) : PE X (.JoinedStr [.Constant (.str x) k p1, .FormattedValue e (-1) none p2] pos) (tFmt x te) := by
  intro pins s σ H Q I h
  refine wpAny_JoinedStr ?_
  show wpAny _ _ (eval (.Constant (.str x) k p1) X.env) _ _ _
  refine Calls.Constant_str ⟨x, _, rfl, ?_, ?_⟩
  · show (Str.empty ++ x).length ≤ sizeLine
    rw [empty_app]; exact hx
  show wpAny _ _ (eval (.FormattedValue e (-1) none p2) X.env) _ _ _
  refine wpAny_FormattedValue_plain (thn (he pins _ σ H _ (I.tok _) h) fun u s1 ⟨v, H1, I1, rv, y, e1, hl, q⟩ => ?_)
  subst e1
  obtain ⟨t, rfl⟩ := rv
  have e0 : Str.empty ++ x = x := empty_app x
  have hz : (x ++ y).length ≤ sizeLine := by
    have : (x ++ y).length = x.length + y.length := by show (x.cps ++ y.cps).size = x.cps.size + y.cps.size; exact Array.size_append
    rw [this]; exact hl
  refine wpAny_formatField_str ?_ ?_ (by omega)
  · refine ⟨y, t, rfl, ?_, ?_⟩
    · rw [e0]; exact hz
    · rw [e0]
      exact ⟨hz, .str (x ++ y), H1, I1.tok _, ⟨_, rfl⟩, q⟩
  · refine ⟨y, _, rfl, ?_, ?_⟩
    · rw [e0]; exact hz
    · rw [e0]
      exact ⟨hz, .str (x ++ y), H1, (I1.tok _).tok _, ⟨_, rfl⟩, q⟩
end
section
variable {prog : Program} {w : World} {A : Around} {E : Value → Shared → Prop} {s : Shared}
theorem tuple_addW0 (l b : Addr) (items items2 : Array Value) (n n2 : Nat) (dd dd2 : Option Addr) (sl sl2 : Array (Option Value)) (hc0 : items.isEmpty = true) :
    Meets (Builtin.«tuple.__add__» ⟨[.ref l, .ref b], []⟩) (fun _ R s => s.heap.get? l = some { cls := .type "tuple", dict := dd, data := .seq items n, slots := sl } ∧ s.heap.get? b = some { cls := .type "tuple", dict := dd2, data := .seq items2 n2, slots := sl2 } ∧ R (.ok (.ret (Value.ref b))) { s with heap := s.heap, toks := s.toks }) :=
  .of_wp fun prog w A R s h => by obtain ⟨hp, g, d, tk, os⟩ := s; obtain ⟨hl, hb, h⟩ := h; have f1 := AutoSeq1.idx_int; have f2 := AutoSeq1.sub_tuple_tuple; have f3 := AutoSeq1.sub_list_list; have f4 := AutoSeq1.sub_tuple_list; have f5 := AutoSeq1.sub_list_tuple; wp_walk using wpAny_loadPart' hl, wpAny_loadPart' hb; exact ⟨_, rfl, h⟩
end
section
variable {X : Cx}
def rCatT0 (K : PySem.W.Frag) : R2 := fun x y H Q => ∃ a b ys, x = .ref a ∧ y = .ref b ∧ SqT K H a [] ∧ SqT K H b ys ∧ Q (.ref b) H
theorem op_catT0 : OpR X (binaryOp .Add) (rCatT0 X.K) := by
  intro pins s σ H x y v u Q I rx ry h
  obtain ⟨a, b, ys, rfl, rfl, ha, hb, q⟩ := h
  cases rx
  cases ry
  obtain ⟨its, r1, p1, _⟩ := I.tuple ha
  obtain ⟨its2, r2, p2, _⟩ := I.tuple hb
  cases r1
  obtain ⟨⟨cls, dd, data, sl⟩, ho, hc, n, hd⟩ := id p1
  obtain ⟨⟨cls2, dd2, data2, sl2⟩, ho2, hc2, n2, hd2⟩ := id p2
  simp only at hc hd hc2 hd2
  subst hc hd hc2 hd2
  exact concat_meets ⟨_, ho, rfl⟩ ⟨_, ho2, rfl⟩ noFill_tuple_add seq_tuple_add PySem.F.slot_tuple_add PySem.F.entry_tuple_add (PySem.F.args_tuple_add_2 _ _)
      (tuple_addW0 a b #[] its2.toArray n n2 dd dd2 sl sl2 rfl) ⟨ho, ho2, ⟨.ref b, H, I, rfl, q⟩⟩
def rCatA (K : PySem.W.Frag) : R2 := fun x y H Q => ∃ a b xs ys, x = .ref a ∧ y = .ref b ∧ SqT K H a xs ∧ SqT K H b ys ∧ xs.length + ys.length ≤ sizeLine ∧
  (xs = [] → Q (.ref b) H) ∧ (xs ≠ [] → ys = [] → Q (.ref a) H) ∧ (xs ≠ [] → ys ≠ [] → ∀ p, H p = none → Q (.ref p) (upd H p (.tup (xs ++ ys))))
theorem op_catA : OpR X (binaryOp .Add) (rCatA X.K) := by
  intro pins s σ H x y v u Q I rx ry h
  obtain ⟨a, b, xs, ys, rfl, rfl, ha, hb, hz, q0, q1, q2⟩ := h
  by_cases hx : xs = []
  · subst hx
    exact op_catT0 pins s σ H _ _ v u Q I rx ry ⟨a, b, ys, rfl, rfl, ha, hb, q0 rfl⟩
  · exact op_catT pins s σ H _ _ v u Q I rx ry ⟨a, b, xs, ys, rfl, rfl, ha, hb, hx, hz, q1 hx, q2 hx⟩
end
end L2
namespace DP
open PySem PySem.Spec PyProof.Rows
theorem miss_list : typeLookup (.type "list") "keys" = pure none := by rw [typeLookup_type, builtinLookup_eq_fast]; kernel_rfl
theorem miss_tuple : typeLookup (.type "tuple") "keys" = pure none := by rw [typeLookup_type, builtinLookup_eq_fast]; kernel_rfl
section
variable {prog : Program} {w : World} {A : Around} {E : Value → Shared → Prop} {s : Shared}
theorem nokeys_list {a : Addr} {xs : Array Value} {k : Nat} {Q : Option Value → Shared → Prop} (hx : s.heap.get? a = some { cls := .type "list", data := .seq xs k }) (hA : A.handled = none)
    (h : ∀ h' tk, (∀ b o, s.heap.get? b = some o → h'.get? b = some o) → Q none { s with heap := h', toks := tk }) : wpAny (model prog w) A (getAttr? (.ref a) "keys") Q E s := by
  obtain ⟨hp, g, d, tk, os⟩ := s
  have hT : ∀ tk', (⟨hp, g, d, tk', os⟩ : Shared).TypeIs (.ref a) "list" := fun _ => ⟨_, hx, rfl⟩
  have f1 := sub_AttributeError
  have f3 := PySem.F.slot_list_getattribute.lookup
  have f4 := PySem.F.slot_list_getattribute.bind (.ref a)
  have f5 := am_list_getattr_none
  unfold getAttr? getAttrBy? getAttrBy
  repeat (any_goals (first | assumption | exact hT _ | ((with_reducible show wpAny _ _ (call (Value.builtin "list.__getattribute__") _ _) _ _ _); refine call_meets PySem.F.slot_list_getattribute (hT _) am_entry_list_getattribute (PySem.F.args_list_getattribute_2 _ _) (meets_getattribute_miss_list a xs k #[] "keys" _ miss_list (by decide) (by decide)) ⟨hx, hA, fun h' tk' e hx' => ?_⟩) | wp_step))
  obtain ⟨t', u', he⟩ := hx'.there
  show wpAny _ _ (getattributeRaised _ _ _ _ _ _ _) _ _ _
  unfold getattributeRaised
  repeat (any_goals (first | assumption | wp_step))
  exact h _ _ hx'.keeps
theorem nokeys_tuple {a : Addr} {xs : Array Value} {k : Nat} {Q : Option Value → Shared → Prop} (hx : s.heap.get? a = some { cls := .type "tuple", data := .seq xs k }) (hA : A.handled = none)
    (h : ∀ h' tk, (∀ b o, s.heap.get? b = some o → h'.get? b = some o) → Q none { s with heap := h', toks := tk }) : wpAny (model prog w) A (getAttr? (.ref a) "keys") Q E s := by
  obtain ⟨hp, g, d, tk, os⟩ := s
  have hT : ∀ tk', (⟨hp, g, d, tk', os⟩ : Shared).TypeIs (.ref a) "tuple" := fun _ => ⟨_, hx, rfl⟩
  have f1 := sub_AttributeError
  have f3 := PySem.F.slot_tuple_getattribute.lookup
  have f4 := PySem.F.slot_tuple_getattribute.bind (.ref a)
  have f5 := am_tuple_getattr_none
  unfold getAttr? getAttrBy? getAttrBy
  repeat (any_goals (first | assumption | exact hT _ | ((with_reducible show wpAny _ _ (call (Value.builtin "tuple.__getattribute__") _ _) _ _ _); refine call_meets PySem.F.slot_tuple_getattribute (hT _) am_entry_tuple_getattribute (PySem.F.args_tuple_getattribute_2 _ _) (meets_getattribute_miss_tuple a xs k #[] "keys" _ miss_tuple (by decide) (by decide)) ⟨hx, hA, fun h' tk' e hx' => ?_⟩) | wp_step))
  obtain ⟨t', u', he⟩ := hx'.there
  show wpAny _ _ (getattributeRaised _ _ _ _ _ _ _) _ _ _
  unfold getattributeRaised
  repeat (any_goals (first | assumption | wp_step))
  exact h _ _ hx'.keeps
end
theorem entry_loop : entryFor table "dict.update.loop" = some Builtin.«dict.update.loop» := entryFor_of_tree (by kernel_rfl)
theorem plain_loop : plainId "dict.update.loop" = true := by decide +kernel
section
variable {prog : Program} {w : World} {A : Around} {R : Result → Shared → Prop} {I : Addr} {fp wr : List Addr} {n : Nat} {P : Nat → Value → Prop} {St : Nat → Heap → Prop}
theorem loop (W : Walks prog w A.in1 I fp wr n P St) (D : Addr) (hDf : D ∉ fp) (h₀ : Heap) (key : Nat → L2.Key) (kv vv : Nat → Value)
    (hval : ∀ i v, i < n → P i v → ∃ t, v = .ref t ∧ t ≠ D ∧ t ∉ wr ∧ IsTup h₀ t #[kv i, vv i]) (hkey : ∀ i, i < n → (L2.mixKind prog w).is (key i) (kv i) = true) (hn : n ≤ sizeLine) :
    ∀ (k i : Nat) (s : Shared) (kvs : List (L2.Key × Value)), n - i = k → i ≤ n → St i s.heap → s.heap.DictOf (L2.mixKind prog w) D kvs → kvs.length ≤ i → (∀ b o, b ≠ D → b ∉ wr → h₀.get? b = some o → s.heap.get? b = some o) →
      (∀ h' tk, h'.DictOf (L2.mixKind prog w) D (((List.range n).drop i).foldl (fun acc j => stored acc (key j) (vv j)) kvs) → (∀ b o, b ≠ D → b ∉ wr → s.heap.get? b = some o → h'.get? b = some o) → R (.ok (.ret .none)) { s with heap := h', toks := tk }) →
      codeAny (model prog w) A (.builtin "dict.update.loop" ⟨[.ref D, .ref I, rawInt (i : Nat), .none], []⟩) R s := by
  have hDw : D ∉ wr := fun h => hDf (W.sub _ h)
  intro k
  induction k with
  | zero =>
    intro i s kvs hk hi hst hD hl hh hR
    have hin : i = n := by omega
    subst hin
    refine codeAny_builtin entry_loop ?_
    rw [Around.under_plainId plain_loop _]
    show wpAny _ A.in1 (pyNext (.ref I) >>= _) _ _ s
    refine wpAny_bind (W.done s _ _ hst fun h' tk hm => ?_)
    show wpAny _ A.in1 (Builtin.Dict.addKeywords D [] >>= _) _ _ _
    refine wpAny_bind (wpAny_pure (wpAny_pure (hR h' tk ?_ fun b o hb hb' e => hm b o hb' e)))
    rw [List.drop_eq_nil_of_le (by simp), List.foldl_nil]
    obtain ⟨o, es, ep, ho, r⟩ := hD
    exact ⟨o, es, ep, hm D o hDw ho, r⟩
  | succ k ih =>
    intro i s kvs hk hi hst hD hl hh hR
    have hlt : i < n := by omega
    refine codeAny_builtin entry_loop ?_
    rw [Around.under_plainId plain_loop _]
    show wpAny _ A.in1 (pyNext (.ref I) >>= _) _ _ s
    refine wpAny_bind (W.item i s _ _ hlt hst fun v h1 tk hP hst' hm => ?_)
    obtain ⟨t, rfl, tD, tw, ht⟩ := hval i v hlt hP
    obtain ⟨ot, hot, hct, nt, hdt⟩ := ht
    have hot1 : h1.get? t = some ot := hm t ot tw (hh t ot tD tw hot)
    refine wpAny_bind (wpAny_holding ?_)
    refine wpAny_bind (wpAny_tryCatch ?_)
    unfold Builtin.Dict.pairItems
    refine wpAny_bind (wpAny_typeOf (T := "tuple") ⟨ot, hot1, hct⟩ ?_)
    rw [if_pos (by decide)]
    refine wpAny_bind (wpAny_seqItems hot1 hdt (wpAny_pure ?_))
    show wpAny _ _ (holding [kv i, vv i] (dictSet D (kv i) (vv i))) _ _ _
    have hD1 : h1.DictOf (L2.mixKind prog w) D kvs := by
      obtain ⟨o, es, ep, ho, r⟩ := hD
      exact ⟨o, es, ep, hm D o hDw ho, r⟩
    refine wpAny_holding (wpAny_dictSet_pairs (s := { s with heap := h1, toks := tk }) (hkey i hlt) hD1 (fun h2 hD2 hs2 => ?_) (by omega))
    have st2 : St (i + 1) h2 := W.frame _ _ _ hst' fun b hb o e => (hs2.2 b fun z => hDf (z ▸ hb)).trans e
    have e1 : ((i : Nat) : Int) + 1 = ((i + 1 : Nat) : Int) := by omega
    refine wpAny_pure ⟨plainId_quiet plain_loop _, ?_⟩
    show codeAny _ _ (.builtin "dict.update.loop" ⟨[.ref D, .ref I, rawInt (((i : Nat) : Int) + 1), .none], []⟩) _ _
    rw [e1]
    refine ih (i + 1) _ _ (by omega) hlt st2 hD2 ?_ (fun b o hb hb' e => (hs2.2 b hb).trans (hm b o hb' (hh b o hb hb' e))) fun h' tk' hD' hk' => ?_
    · have := stored_length_le kvs (key i) (vv i)
      omega
    · refine hR h' tk' ?_ fun b o hb hb' e => hk' b o hb hb' ((hs2.2 b hb).trans (hm b o hb' e))
      have e2 : (List.range n).drop i = i :: (List.range n).drop (i + 1) := by
        rw [List.drop_eq_getElem_cons (by simpa using hlt)]
        simp
      rw [e2, List.foldl_cons]
      exact hD'
end
end DP
namespace L2
open PySem PySem.Spec PyProof.Rows
def putAll (ps : List (Key × V)) : List (Key × V) := ps.foldl (fun acc p => putK acc p.1 p.2) []
theorem putAll_len (ps acc : List (Key × V)) : (ps.foldl (fun acc p => putK acc p.1 p.2) acc).length ≤ acc.length + ps.length := by
  induction ps generalizing acc with
  | nil => simp
  | cons p r ih =>
    rw [List.foldl_cons, List.length_cons]
    refine Nat.le_trans (ih _) ?_
    have : (putK acc p.1 p.2).length ≤ acc.length + 1 := by
      unfold putK
      split
      · rw [List.length_map]; omega
      · rw [List.length_append]; simp
    omega
theorem kv_fold {ps : List (Key × V)} {n : Nat} {key : Nat → Key} {vv : Nat → Value} (hn : n = ps.length) (h : ∀ i p, ps[i]? = some p → key i = p.1 ∧ RelV p.2 (vv i)) : KV (putAll ps) ((List.range n).foldl (fun acc j => stored acc (key j) (vv j)) []) := by
  subst hn
  unfold putAll
  have gen : ∀ (m : Nat), m ≤ ps.length → KV ((ps.take m).foldl (fun acc p => putK acc p.1 p.2) []) ((List.range m).foldl (fun acc j => stored acc (key j) (vv j)) []) := fun m => by
    induction m with
    | zero => intro _; simp; exact .nil
    | succ m ih =>
      intro hm
      have e : ps[m]? = some (ps[m]'(by omega)) := List.getElem?_eq_getElem (by omega)
      obtain ⟨h1, h2⟩ := h m _ e
      rw [List.take_add_one, e, List.range_succ, List.foldl_append, List.foldl_append]
      simp only [Option.toList_some, List.foldl_cons, List.foldl_nil]
      rw [h1]
      exact KV.put (ih (by omega)) _ h2
  have := gen ps.length (Nat.le_refl _)
  rwa [List.take_length] at this
section
variable {X : Cx}
def Pairs (K : PySem.W.Frag) (H : Hp) (ts : List V) (ps : List (Key × V)) : Prop := ts.length = ps.length ∧ ∀ (i : Nat) (x : V) (p : Key × V), ts[i]? = some x → ps[i]? = some p → ∃ t, x = .ref t ∧ SqT K H t [kV p.1, p.2]
theorem call_dictP (hc : X.calm = true) : CallR X (.type "dict") (fun xs H Q => ∃ (p : Addr) (ts : List V) (ps : List (Key × V)), xs = [.ref p] ∧ (H p = some (.lst ts) ∨ H p = some (.tup ts)) ∧ Pairs X.K H ts ps ∧ ps.length ≤ 1000 ∧ ∀ d, H d = none → Q (.ref d) (upd H d (.dK (putAll ps)))) := by
  intro pins s σ H xs us Q I r h
  obtain ⟨p, ts, ps, rfl, hp, hP, hl, q⟩ := h
  obtain ⟨u, rfl, ru⟩ := vals1 r
  cases ru
  have hh := I.ok.hd hc
  obtain ⟨its, hv, hobj⟩ : ∃ its : List Value, Vals ts its ∧ ((∃ n, s.heap.get? p = some { cls := .type "list", data := .seq its.toArray n }) ∨ ∃ n, s.heap.get? p = some { cls := .type "tuple", data := .seq its.toArray n }) := by
    rcases hp with hp | hp
    · obtain ⟨_, its, n, rv, e⟩ := (show ObjOk X.prog X.w H s.heap p (.lst ts) from I.hok p _ hp)
      exact ⟨its, rv, .inl ⟨n, e⟩⟩
    · obtain ⟨its, n, rv, e, _⟩ := I.tupleO hp
      exact ⟨its, rv, .inr ⟨n, e⟩⟩
  have hlen : its.length = ps.length := by rw [← hv.length]; exact hP.1
  have plt : p < s.heap.objs.size := by rcases hobj with ⟨_, e⟩ | ⟨_, e⟩ <;> exact Heap.lt_size e
  have pair : ∀ i, i < ps.length → ∃ t k v, its[i]? = some (.ref t) ∧ IsTup s.heap t #[k, v] ∧ ∃ p, ps[i]? = some p ∧ RelV (kV p.1) k ∧ RelV p.2 v := fun i hi => by
    have e1 : ps[i]? = some (ps[i]'hi) := List.getElem?_eq_getElem hi
    have e2 : ts[i]? = some (ts[i]'(by rw [hP.1]; exact hi)) := List.getElem?_eq_getElem _
    obtain ⟨t, ex, hq⟩ := hP.2 i _ _ e2 e1
    obtain ⟨u, hu, ru⟩ := hv.get e2
    rw [ex] at ru
    cases ru
    obtain ⟨its2, r2, p2, _⟩ := I.tuple hq
    obtain ⟨k, v, rfl, rk, rv⟩ := vals2 r2
    exact ⟨t, k, v, hu, p2, _, e1, rk, rv⟩
  let kk : Nat → Value := fun i => match its[i]? with | some (.ref t) => (match s.heap.get? t with | some o => (match o.data with | .seq a _ => a.getD 0 .none | _ => .none) | none => .none) | _ => .none
  let vv : Nat → Value := fun i => match its[i]? with | some (.ref t) => (match s.heap.get? t with | some o => (match o.data with | .seq a _ => a.getD 1 .none | _ => .none) | none => .none) | _ => .none
  let key : Nat → Key := fun i => ((ps[i]?).map (·.1)).getD (.inl 0)
  have pair2 : ∀ i, i < ps.length → ∃ t p, its[i]? = some (.ref t) ∧ IsTup s.heap t #[kk i, vv i] ∧ ps[i]? = some p ∧ key i = p.1 ∧ RelV (kV p.1) (kk i) ∧ RelV p.2 (vv i) := fun i hi => by
    obtain ⟨t, k, v, e1, ht, pp, e2, rk, rv⟩ := pair i hi
    obtain ⟨o, ho, hcl, n, hd⟩ := id ht
    have ek : kk i = k := by simp only [kk, e1, ho, hd]; rfl
    have ev : vv i = v := by simp only [vv, e1, ho, hd]; rfl
    have ey : key i = pp.1 := by simp only [key, e2]; rfl
    rw [ek, ev, ey]
    exact ⟨t, pp, e1, ht, e2, rfl, rk, rv⟩
  have hsz : ps.length ≤ sizeLine := Nat.le_trans hl (by decide)
  refine callType_codes (Q₁ := fun obj s₁ => obj = .ref s.heap.objs.size ∧ s₁ = { s with heap := s.heap.push { cls := .type "dict", data := .dict #[] } }) PySem.F.kt_called_dict (PySem.F.kt_typeCall_dict_1 _) PySem.F.entry_dict_init (kt_code_dict_new _ ⟨rfl, rfl⟩) ?_
  rintro obj s₁ ⟨rfl, rfl⟩
  have hnew : (s.heap.push { cls := .type "dict", data := .dict #[] }).DictOf (mixKind X.prog X.w) s.heap.objs.size [] := Heap.DictOf.new s.heap
  refine ⟨hnew.typeIs, PySem.F.args_dict_init_2 _ _, ?_⟩
  unfold Builtin.«dict.__init__»
  refine wpAny_bind ?_
  unfold Builtin.Dict.selfAndRest
  refine wpAny_bind (wpAny_notOrdered_dict hnew.typeIs ?_)
  show wpAny _ _ (pure (s.heap.objs.size, [Value.ref p])) _ _ _
  refine wpAny_pure ?_
  show wpAny _ _ (Builtin.Dict.updateFrom "dict.__init__" s.heap.objs.size (.ref p) [] .none) _ _ _
  unfold Builtin.Dict.updateFrom
  have k0 : ∀ b o, s.heap.get? b = some o → (s.heap.push { cls := .type "dict", data := .dict #[] }).get? b = some o := fun b o e => Heap.get?_push_of_some _ e
  have pD : p ≠ s.heap.objs.size := Nat.ne_of_lt plt
  have go : ∀ (h1 : Heap) (tk : Nat) (I' : Addr) (fp : List Addr) (St : Nat → Heap → Prop), (∀ b o, (s.heap.push { cls := .type "dict", data := .dict #[] }).get? b = some o → h1.get? b = some o) → s.heap.objs.size < I' →
      Walks X.prog X.w X.A.in1.in1 I' fp [I'] its.length (fun i v => its.toArray[i]? = some v) St → St 0 h1 → s.heap.objs.size ∉ fp →
      codeAny (model X.prog X.w) X.A.in1 (.builtin "dict.update.loop" ⟨[.ref s.heap.objs.size, .ref I', rawInt 0, .none], []⟩) (wants (fun r s₂ => r = .none ∧ EP X pins σ Q (.ref s.heap.objs.size) s₂) X.xe) { s with heap := h1, toks := tk } := by
    intro h1 tk I' fp St k1 hI W st0 hDf
    have hD1 : h1.DictOf (mixKind X.prog X.w) s.heap.objs.size [] := by
      obtain ⟨o, es, ep, ho, r⟩ := hnew
      exact ⟨o, es, ep, k1 _ o ho, r⟩
    refine DP.loop W s.heap.objs.size hDf s.heap key kk vv (fun i v hi hv' => ?_) (fun i hi => ?_) (by rw [hlen]; exact hsz) its.length 0 _ [] rfl (Nat.zero_le _) st0 hD1 (Nat.zero_le _) (fun b o _ _ e => k1 b o (k0 b o e)) fun h2 tk2 hD2 k2 => ?_
    · obtain ⟨t, pp, e1, ht, _⟩ := pair2 i (by rw [← hlen]; exact hi)
      have e : its[i]? = some v := by simpa using hv'
      rw [e1] at e
      cases e
      have tlt : t < s.heap.objs.size := ht.lt
      exact ⟨t, rfl, Nat.ne_of_lt tlt, by simp only [List.mem_singleton]; exact Nat.ne_of_lt (Nat.lt_trans tlt hI), ht⟩
    · obtain ⟨t, pp, e1, ht, e2, ek, rk, rv⟩ := pair2 i (by rw [← hlen]; exact hi)
      rw [ek]
      exact kV_is rk
    · have hn : H s.heap.objs.size = none := I.hok.fresh (Nat.le_refl _)
      have kk2 : ∀ b o, s.heap.get? b = some o → h2.get? b = some o := fun b o e => by
        have hb : b < s.heap.objs.size := Heap.lt_size e
        exact k2 b o (Nat.ne_of_lt hb) (by simp only [List.mem_singleton]; exact Nat.ne_of_lt (Nat.lt_trans hb hI)) (k1 b o (k0 b o e))
      rw [List.drop_zero, hlen] at hD2
      have hkv : KV (putAll ps) ((List.range ps.length).foldl (fun acc j => stored acc (key j) (vv j)) []) := kv_fold rfl fun i pp e => by
        obtain ⟨t, pp', e1, ht, e2, ek, rk, rv⟩ := pair2 i (List.getElem?_eq_some_iff.mp e).1
        rw [e] at e2
        cases e2
        exact ⟨ek, rv⟩
      have hns : (s.heap.objs.size == sysModules) = false := beq_false_of_ne (Nat.ne_of_gt I.big)
      refine ⟨rfl, .ref s.heap.objs.size, _, I.laid (t' := tk2) (o := .dK (putAll ps)) kk2 (Nat.le_refl _) ⟨?_, hns, _, hkv, hD2⟩, rfl, q _ hn⟩
      have := putAll_len ps []
      unfold putAll
      simp only [List.length_nil, Nat.zero_add] at this
      omega
  rcases hobj with ⟨n, e⟩ | ⟨n, e⟩
  · have e' := k0 _ _ e
    refine wpAny_bind (wpAny_typeOf (T := "list") ⟨_, e', rfl⟩ ?_)
    rw [if_pos (by decide)]
    refine wpAny_bind (DP.nokeys_list (s := { s with heap := s.heap.push { cls := .type "dict", data := .dict #[] } }) e' hh fun h1 tk1 k1 => ?_)
    rw [if_pos (show (none : Option Value).isNone = true from rfl)]
    refine wpAny_bind (wpAny_rule ?_)
    have hl1 : h1.IsList p its.toArray := ⟨_, k1 _ _ e', rfl, n, rfl⟩
    have plt1 : p < h1.objs.size := Heap.lt_size (k1 _ _ e')
    have dlt1 : s.heap.objs.size < h1.objs.size := by obtain ⟨o, _, _, ho, _⟩ := hnew; exact Heap.lt_size (k1 _ _ ho)
    refine wpAny_bind (wpAny_pyIter_list (s := { s with heap := h1, toks := tk1 }) hl1 ?_)
    have W := Walks.list (prog := X.prog) (w := X.w) (A := X.A.in1.in1) hh h1.objs.size p (Nat.ne_of_lt plt1) its.toArray
    rw [List.size_toArray] at W
    refine wpAny_pure ⟨plainId_quiet DP.plain_loop _, go _ _ _ _ _ (fun b o q => Heap.get?_push_of_some _ (k1 b o q)) dlt1 W ⟨⟨_, Heap.get?_push_size _ rfl, rfl, rfl⟩, hl1.push _⟩ ?_⟩
    simp only [List.mem_cons, List.not_mem_nil, or_false, not_or]
    exact ⟨Nat.ne_of_lt dlt1, Ne.symm pD⟩
  · have e' := k0 _ _ e
    refine wpAny_bind (wpAny_typeOf (T := "tuple") ⟨_, e', rfl⟩ ?_)
    rw [if_pos (by decide)]
    refine wpAny_bind (DP.nokeys_tuple (s := { s with heap := s.heap.push { cls := .type "dict", data := .dict #[] } }) e' hh fun h1 tk1 k1 => ?_)
    rw [if_pos (show (none : Option Value).isNone = true from rfl)]
    refine wpAny_bind (wpAny_rule ?_)
    have hl1 : h1.IsTuple p its.toArray := ⟨_, k1 _ _ e', rfl, n, rfl⟩
    have plt1 : p < h1.objs.size := Heap.lt_size (k1 _ _ e')
    have dlt1 : s.heap.objs.size < h1.objs.size := by obtain ⟨o, _, _, ho, _⟩ := hnew; exact Heap.lt_size (k1 _ _ ho)
    refine wpAny_bind (wpAny_pyIter_tuple (s := { s with heap := h1, toks := tk1 }) hl1 ?_)
    have W := Walks.tuple (prog := X.prog) (w := X.w) (A := X.A.in1.in1) hh h1.objs.size p (Nat.ne_of_lt plt1) its.toArray
    rw [List.size_toArray] at W
    refine wpAny_pure ⟨plainId_quiet DP.plain_loop _, go _ _ _ _ _ (fun b o q => Heap.get?_push_of_some _ (k1 b o q)) dlt1 W ⟨⟨_, Heap.get?_push_size _ rfl, rfl, rfl⟩, hl1.push _⟩ ?_⟩
    simp only [List.mem_cons, List.not_mem_nil, or_false, not_or]
    exact ⟨Nat.ne_of_lt dlt1, Ne.symm pD⟩
end
end L2
namespace L2
open PySem PySem.Spec PyProof.Rows
theorem eq_gives_bool (a b : Bool) : PySem.MeetsSeq.EqGives (.bool a) (.bool b) (a == b) := by
  intro prog w A E s Q h
  exact PySem.SeqAt.EqAt.bool_bool a b prog w E Q h
theorem vals_bl : ∀ {bs : List Bool} {its : List Value}, Vals (bs.map V.bl) its → its = bs.map Value.bool
  | [], _, .nil => rfl
  | b :: r, _, .cons q t => by
    have := vals_bl t
    subst this
    cases q
    rfl
section
variable {X : Cx}
def rCount : V → List V → Hp → VK → Prop := fun x vs H Q => ∃ (l : Addr) (bs : List Bool) (b : Bool), x = .ref l ∧ vs = [.bl b] ∧ H l = some (.lst (bs.map V.bl)) ∧ Q (.int (bs.countP (· == b) : Nat)) H
theorem mt_count : MtM X "list.count" rCount := by
  intro pins s σ H x vs v us Q I rx rv h
  obtain ⟨l, bs, b, rfl, rfl, hH, q⟩ := h
  cases rx
  obtain ⟨u, rfl, ru⟩ := rv.one
  cases ru
  obtain ⟨z, its, n, r, hl, e⟩ := I.lstM hH
  have e2 := vals_bl r
  subst e2
  refine call_meets F.slot_list_count ⟨_, e, rfl⟩ F.entry_list_count (F.args_list_count_2 _ _) (PySem.MeetsSeq.list_count l (bs.map Value.bool).toArray n (.bool b) (fun y => match y with | .bool c => c == b | _ => false) (fun y hy => ?_)) ⟨e, ?_⟩
  · have hy' : y ∈ bs.map Value.bool := by simpa using hy
    obtain ⟨c, _, rfl⟩ := List.mem_map.mp hy'
    exact eq_gives_bool c b
  · have ec : ((bs.map Value.bool).toArray.toList.countP fun y => match y with | .bool c => c == b | _ => false) = bs.countP (· == b) := by
      show ((bs.map Value.bool).countP _) = _
      rw [List.countP_map]
      rfl
    rw [ec]
    exact ⟨.int _, H, I.tok _, ⟨_, rfl⟩, q⟩
def rIndex : V → List V → Hp → VK → Prop := fun x vs H Q => ∃ (l : Addr) (bs : List Bool) (b : Bool) (j : Nat), x = .ref l ∧ vs = [.bl b] ∧ H l = some (.lst (bs.map V.bl)) ∧ bs[j]? = some b ∧ (∀ m c, m < j → bs[m]? = some c → c ≠ b) ∧ Q (.int (j : Nat)) H
theorem mt_index : MtM X "list.index" rIndex := by
  intro pins s σ H x vs v us Q I rx rv h
  obtain ⟨l, bs, b, j, rfl, rfl, hH, hj, hno, q⟩ := h
  cases rx
  obtain ⟨u, rfl, ru⟩ := rv.one
  cases ru
  obtain ⟨z, its, n, r, hl, e⟩ := I.lstM hH
  have e2 := vals_bl r
  subst e2
  have hjl : j < bs.length := (List.getElem?_eq_some_iff.mp hj).1
  have hz : bs.length ≤ sizeLine := by simpa using z
  refine call_meets F.slot_list_index ⟨_, e, rfl⟩ F.entry_list_index (F.args_list_index_2 _ _) (PySem.MeetsSeq.list_index l (bs.map Value.bool).toArray n (.bool b) (fun y => match y with | .bool c => c == b | _ => false) (fun y hy => ?_) j (by simpa using hjl) ?_ ?_ fun m hm hmj => ?_) ⟨e, ?_⟩
  · have hy' : y ∈ bs.map Value.bool := by simpa using hy
    obtain ⟨c, _, rfl⟩ := List.mem_map.mp hy'
    exact eq_gives_bool c b
  · have : (sizeLine : Nat) < 2 ^ 63 - 1 := by decide
    omega
  · have := (List.getElem?_eq_some_iff.mp hj).2
    simp [this]
  · have hm' : m < bs.length := by simpa using hm
    have := hno m _ hmj (List.getElem?_eq_getElem hm')
    simpa using this
  · exact ⟨.int _, H, I.tok _, ⟨_, rfl⟩, q⟩
end
end L2
namespace PySem
open Sem (wp)
open AutoSeq1 (wpAny_loadPart')
namespace ZL
section
variable {prog : Program} {w : World} {A : Around} {E : Value → Shared → Prop} {s : Shared} {z TI TO i1 i2 l1 l2 : Addr} {xs ys : Array Value}
theorem collect_zip {R : List Value → Shared → Prop} (hh : A.handled = none) (D : ZipApart z TI TO i1 i2 l1 l2) (L : ZLow z TI TO i1 i2 l1 l2 (s.heap.objs.size + 1)) (O : ZOff z TI TO i1 i2 l1 l2 (s.heap.objs.size + 1) s.heap.objs.size) (hn : min xs.size ys.size ≤ sizeLine)
    (hZ : ZS z TI TO i1 i2 l1 l2 (s.heap.objs.size + 1) xs ys 0 (s.heap.push { cls := .type "list", data := .seq #[] }))
    (hR : ∀ h' : Heap, (∀ (j : Nat) x y, xs[j]? = some x → ys[j]? = some y → IsPair h' (s.heap.objs.size + 1 + j) x y) → s.heap.objs.size < h'.objs.size →
      (∀ b o, b ≠ z → b ≠ TO → b ≠ i1 → b ≠ i2 → s.heap.get? b = some o → h'.get? b = some o) → R (refsFrom (s.heap.objs.size + 1) (min xs.size ys.size)).toList { s with heap := h' }) :
    wpAny (model prog w) A (collect (.ref z)) R E s := by
  unfold collect
  refine wpAny_bind (wpAny_runValue (codeAny_builtin PySem.F.entry_proto_collect ?_))
  rw [Around.under_plainId PySem.F.plain_proto_collect _]
  show wpAny _ A.in1 (newList [] >>= fun l => again (.builtin "list.__iadd__" ⟨[l, .ref z], []⟩)) _ _ s
  refine wpAny_bind (wpAny_newObj_type ?_)
  refine wpAny_pure ⟨plainId_quiet PySem.F.plain_list_iadd _, codeAny_builtin PySem.F.entry_list_iadd ?_⟩
  rw [Around.under_plainId PySem.F.plain_list_iadd _]
  have hS₁ : (s.heap.push { cls := .type "list", data := .seq ([] : List Value).toArray }).get? s.heap.objs.size = some { cls := .type "list", data := .seq #[] } := Heap.get?_push_size _ rfl
  show wpAny _ A.in1 (Builtin.List.listExtendWith (.ref s.heap.objs.size) (.ref z) (.ref s.heap.objs.size)) _ _ _
  have key := extend_zip (prog := prog) (w := w) (A := A) (s := { s with heap := s.heap.push { cls := .type "list", data := .seq ([] : List Value).toArray } })
    (R := fun (q : Result) (s' : Shared) => ∃ (h' : Heap) (c' : Nat), q = .ok (.ret (.ref s.heap.objs.size)) ∧ s' = { s with heap := h' } ∧
      (∀ (j : Nat) x y, xs[j]? = some x → ys[j]? = some y → IsPair h' (s.heap.objs.size + 1 + j) x y) ∧ h'.get? s.heap.objs.size = some { cls := .type "list", dict := none, data := .seq (refsFrom (s.heap.objs.size + 1) (min xs.size ys.size)) c', slots := #[] } ∧
      ∀ b o, b ≠ z → b ≠ TO → b ≠ i1 → b ≠ i2 → s.heap.get? b = some o → h'.get? b = some o)
    hh D L O hn (.ref s.heap.objs.size) 0 hZ hS₁
    (fun h' c' a1 a2 a3 => ⟨h', c', rfl, rfl, a1, a2, fun b o b1 b2 b3 b4 e => a3 b o (Nat.ne_of_lt (Heap.lt_size e)) b1 b2 b3 b4 (Heap.get?_push_of_some _ e)⟩)
  refine wpAny_mono key (fun fin s' x => ?_) fun e s' x => ?_
  · cases fin with
    | done f =>
      obtain ⟨h', c', e, rfl, hp, hS', hk⟩ := x
      cases e
      show wpAny _ A (load s.heap.objs.size >>= _) _ _ _
      refine wpAny_bind (wpAny_load hS' ?_)
      exact wpAny_pure (hR h' hp (Heap.lt_size hS') hk)
    | again c₁ =>
      refine ⟨x.1, codeAny_mono x.2 fun q s₂ y => ?_⟩
      obtain ⟨h', c', rfl, rfl, hp, hS', hk⟩ := y
      show wpAny _ A (load s.heap.objs.size >>= _) _ _ _
      refine wpAny_bind (wpAny_load hS' ?_)
      exact wpAny_pure (hR h' hp (Heap.lt_size hS') hk)
  · obtain ⟨_, _, e', _⟩ := x
    cases e'
theorem code_tuple_new_zip {Q₁ : Value → Shared → Prop} (hh : A.handled = none) (hT : s.TypeIs (.ref z) "zip") (D : ZipApart z TI TO i1 i2 l1 l2) (L : ZLow z TI TO i1 i2 l1 l2 (s.heap.objs.size + 1)) (O : ZOff z TI TO i1 i2 l1 l2 (s.heap.objs.size + 1) s.heap.objs.size) (hn : min xs.size ys.size ≤ sizeLine)
    (hZ : ZS z TI TO i1 i2 l1 l2 (s.heap.objs.size + 1) xs ys 0 (s.heap.push { cls := .type "list", data := .seq #[] }))
    (h : ∀ h' : Heap, (∀ (j : Nat) x y, xs[j]? = some x → ys[j]? = some y → IsPair h' (s.heap.objs.size + 1 + j) x y) → s.heap.objs.size < h'.objs.size →
      (∀ b o, b ≠ z → b ≠ TO → b ≠ i1 → b ≠ i2 → s.heap.get? b = some o → h'.get? b = some o) → Q₁ (.ref h'.objs.size) { s with heap := h'.push { cls := .type "tuple", data := .seq (refsFrom (s.heap.objs.size + 1) (min xs.size ys.size)) } }) :
    codeAny (model prog w) A (.call (.builtin "tuple.__new__") ⟨[.type "tuple", .ref z], []⟩) (wants Q₁ E) s := by
  refine codeAny_of_tree ?_
  show wpAny _ A.in1 (do checkBuiltinCall "tuple.__new__" ⟨[.type "tuple", .ref z], []⟩; again (.builtin "tuple.__new__" ⟨[.type "tuple", .ref z], []⟩)) _ _ s
  refine wpAny_bind (wpAny_of_eq (PySem.F.newCall_tuple_1 _) (wpAny_pure ⟨plainId_quiet PySem.F.plain_tuple_new _, codeAny_builtin PySem.F.entry_tuple_new ?_⟩))
  rw [Around.under_plainId PySem.F.plain_tuple_new _]
  have hsub := sub_tuple_self
  have hinit := init_tuple_lookup
  have hmh := madeHere_tuple
  wp_walk using wpAny_typeOf hT, collect_zip (A := A.in1) hh D L O hn hZ
  intro h' hp hlt hk
  show wpAny _ _ (Builtin.Tuple.tupleExact (refsFrom (s.heap.objs.size + 1) (min xs.size ys.size)).toList.toArray >>= fun v => ret v) _ _ _
  unfold Builtin.Tuple.tupleExact
  refine wpAny_bind (wpAny_newObj_type ?_ (by show (refsFrom (s.heap.objs.size + 1) (min xs.size ys.size)).toList.toArray.size ≤ sizeLine; simp only [Array.toArray_toList]; rw [refsFrom_size]; exact hn))
  refine wpAny_pure ?_
  have e : (refsFrom (s.heap.objs.size + 1) (min xs.size ys.size)).toList.toArray = refsFrom (s.heap.objs.size + 1) (min xs.size ys.size) := by simp
  rw [e]
  exact h h' hp hlt hk
end
section
variable {prog : Program} {w : World} {A : Around} {E : Value → Shared → Prop} {s : Shared}
theorem tuple_zip {l1 l2 : Addr} {xs ys : Array Value} {Q : Value → Shared → Prop} (hh : A.handled = none) (hl1 : s.heap.IsList l1 xs) (hl2 : s.heap.IsList l2 ys) (hn : min xs.size ys.size ≤ sizeLine)
    (hQ : ∀ (h' : Heap) (T : Addr), (∀ (j : Nat) x y, xs[j]? = some x → ys[j]? = some y → IsPair h' (s.heap.objs.size + 6 + j) x y ∧ @LT.lt Nat _ (s.heap.objs.size + 6 + j) T) → @LT.lt Nat _ (s.heap.objs.size + 5) T →
      h'.get? T = some { cls := .type "tuple", data := .seq (refsFrom (s.heap.objs.size + 6) (min xs.size ys.size)) } →
      (∀ b o, s.heap.get? b = some o → h'.get? b = some o) → Q (.ref T) { s with heap := h' }) :
    wpAny (model prog w) A (call (.type "zip") [.ref l1, .ref l2]) (fun z s₁ => wpAny (model prog w) A (call (.type "tuple") [z]) Q E s₁) E s := by
  have lt1 : @LT.lt Nat _ l1 s.heap.objs.size := by obtain ⟨_, e, _⟩ := hl1; exact Heap.lt_size e
  have lt2 : @LT.lt Nat _ l2 s.heap.objs.size := by obtain ⟨_, e, _⟩ := hl2; exact Heap.lt_size e
  refine call_zip_2 hl1 hl2 fun h₁ hz hTI hTO hi1 hi2 hsz hk => ?_
  have hsz : @Eq Nat h₁.objs.size (s.heap.objs.size + 5) := hsz
  have D : ZipApart (s.heap.objs.size + 4) (s.heap.objs.size + 2) (s.heap.objs.size + 3) s.heap.objs.size (s.heap.objs.size + 1) l1 l2 := by
    constructor <;> first | (show (_ : Nat) < (_ : Nat); omega) | (intro e; have e' : @Eq Nat _ _ := e; omega)
  have L : ZLow (s.heap.objs.size + 4) (s.heap.objs.size + 2) (s.heap.objs.size + 3) s.heap.objs.size (s.heap.objs.size + 1) l1 l2 (h₁.objs.size + 1) := by
    rw [hsz]
    constructor <;> first | (show (_ : Nat) < (_ : Nat); omega) | (intro e; have e' : @Eq Nat _ _ := e; omega)
  have O : ZOff (s.heap.objs.size + 4) (s.heap.objs.size + 2) (s.heap.objs.size + 3) s.heap.objs.size (s.heap.objs.size + 1) l1 l2 (h₁.objs.size + 1) h₁.objs.size := by
    rw [hsz]
    constructor <;> first | (show (_ : Nat) < (_ : Nat); omega) | (intro e; have e' : @Eq Nat _ _ := e; omega)
  have hZ : ZS (s.heap.objs.size + 4) (s.heap.objs.size + 2) (s.heap.objs.size + 3) s.heap.objs.size (s.heap.objs.size + 1) l1 l2 (h₁.objs.size + 1) xs ys 0 (h₁.push { cls := .type "list", data := .seq #[] }) :=
    ⟨.inl ⟨rfl, Heap.get?_push_of_some _ hz⟩, Heap.get?_push_of_some _ hTI, ⟨_, _, Heap.get?_push_of_some _ hTO⟩, hi1.at fun o e => Heap.get?_push_of_some _ e, hi2.at fun o e => Heap.get?_push_of_some _ e,
      hl1.at fun o e => Heap.get?_push_of_some _ (hk _ o e), hl2.at fun o e => Heap.get?_push_of_some _ (hk _ o e), by rw [Heap.size_push], fun j x y hj => absurd hj (Nat.not_lt_zero _)⟩
  refine callType_codes (Q₁ := fun obj s₁ => s₁.TypeIs obj "tuple" ∧ Q obj s₁) PySem.F.called_tuple (PySem.F.typeCall_tuple_1 _) PySem.F.entry_object_init
    (code_tuple_new_zip (s := { s with heap := h₁ }) (xs := xs) (ys := ys) hh ⟨_, hz, rfl⟩ D L O hn hZ fun h' hp hlt hk' => ⟨⟨_, Heap.get?_push_size _ rfl, rfl⟩, ?_⟩) fun obj s₁ h₁' => ?_
  · have e6 : h₁.objs.size + 1 = s.heap.objs.size + 6 := by rw [hsz]
    have hQ' := hQ (h'.push { cls := .type "tuple", data := .seq (refsFrom (s.heap.objs.size + 6) (min xs.size ys.size)) }) h'.objs.size (fun j x y e1 e2 => ?_) (by rw [← hsz]; exact hlt) (Heap.get?_push_size _ rfl) fun b o e => ?_
    · show Q (.ref h'.objs.size) { s with heap := h'.push { cls := .type "tuple", data := .seq (refsFrom (h₁.objs.size + 1) (min xs.size ys.size)) } }
      rw [e6]
      exact hQ'
    · have pr := hp j x y e1 e2
      have pr : IsPair h' (h₁.objs.size + 1 + j) x y := pr
      rw [e6] at pr
      exact ⟨Heap.get?_push_of_some _ pr, Heap.lt_size pr⟩
    · have hb : @LT.lt Nat _ b s.heap.objs.size := Heap.lt_size e
      have ne : ∀ j : Nat, b ≠ s.heap.objs.size + j := fun j z => by have z' : @Eq Nat b (s.heap.objs.size + j) := z; omega
      exact Heap.get?_push_of_some _ (hk' b o (ne 4) (ne 3) (ne 0) (ne 1) (hk b o e))
  · exact ⟨h₁'.1, PySem.F.args_object_init_2 obj _, object_init_meets PySem.F.called_tuple.init.lookup PySem.F.called_tuple.made (by decide) prog w A.in1 _ s₁ ⟨h₁'.1, rfl, h₁'.2⟩⟩
end
end ZL
end PySem
namespace L2
open PySem PySem.Spec PyProof.Rows
section
variable {X : Cx}
theorem passNo {P : Program} {w : World} : Passes (CX1 P w) X (fun _ _ _ => False) := by
  intro pins σ H s e s' I h
  obtain ⟨_, _, _, _, _, z⟩ := h
  exact False.elim z
def tTupZip (K : PySem.W.Frag) (ta : TA) : TE := fun σ H Q => ta σ H fun vs H1 => ∃ a b xs ys, vs = [.ref a, .ref b] ∧ SqL K H1 a xs ∧ SqL K H1 b ys ∧
  ∀ (l : Addr) (H' : Hp) (ps : List V), Same H1 H' → H1 l = none → H' l = some (.tup ps) → ps.length = min xs.length ys.length → (∀ (j : Nat) p, ps[j]? = some p → ∃ t x y, p = .ref t ∧ xs[j]? = some x ∧ ys[j]? = some y ∧ H' t = some (.tup [x, y])) → Q (.ref l) H'
theorem pe_tuplezip {a b : Expr} {ta : TA} {p1 p2 pos1 pos2 : Pos} (hgl : Gl X "tuple") (hml : X.mg "tuple" = none) (hbl : bootBuiltins "tuple" = some (.type "tuple")) (hgz : Gl X "zip") (hmz : X.mg "zip" = none) (hbz : bootBuiltins "zip" = some (.type "zip")) (hc : X.calm = true) (ha : PA X [a, b] ta)
    (hs : starEach [a, b] X.env = [(false, eval a X.env), (false, eval b X.env)] := by rfl) (hs2 : starEach [b] X.env = [(false, eval b X.env)] := by rfl)
    (hz : starEach [.Call (.Name "zip" p2) [a, b] [] pos2] X.env = [(false, eval (.Call (.Name "zip" p2) [a, b] [] pos2) X.env)] := by rfl) :
    PE X (.Call (.Name "tuple" p1) [.Call (.Name "zip" p2) [a, b] [] pos2] [] pos1) (tTupZip X.K ta) := by
  intro pins s σ H Q I h
  refine wpAny_Call_Name_kw (ld_blt I hgl hml hbl ?_)
  refine PyProof.Rows.callWith_type1 ?_ hz rfl
  rw [hz]
  refine Calls.spliced_cons (wpAny_Call_Name_kw (ld_blt I hgz hmz hbz (PyProof.Rows.callWith_type1 (thn (ha pos2 pins s σ H _ I h) fun us s1 ⟨vs, H1, I1, r1, q1⟩ => ?_) (by rw [hs, hs2]) (by rw [hs2]; rfl))))
  obtain ⟨pa, pb, xs, ys, e, hx, hy, q⟩ := q1
  subst e
  obtain ⟨u1, u2, rfl, ru1, ru2⟩ := vals2 r1
  cases ru1
  cases ru2
  obtain ⟨its1, rv1, pl1, hz1⟩ := I1.list hx
  obtain ⟨its2, rv2, pl2, hz2⟩ := I1.list hy
  have l1 := rv1.length
  have l2 := rv2.length
  refine thn (ZL.tuple_zip (E := X.xe) (Q := EP X pins σ Q) (I1.ok.hd hc) pl1.isList pl2.isList (by simp only [List.size_toArray]; omega) fun h' T hp5 hT5 hS kp => ?_) fun z s2 hq => Calls.spliced_nil hq
  have em : min its1.toArray.size its2.toArray.size = min xs.length ys.length := by simp only [List.size_toArray]; omega
  rw [em] at hS
  have hn : ∀ j : Nat, H1 (s1.heap.objs.size + j) = none := fun j => I1.hok.fresh (Nat.le_add_right _ _)
  have hTj : ∀ j : Nat, j < min xs.length ys.length → @LT.lt Nat _ (s1.heap.objs.size + 6 + j) T := fun j hj => by
    have hjx : xs[j]? = some (xs[j]'(by omega)) := List.getElem?_eq_getElem _
    have hjy : ys[j]? = some (ys[j]'(by omega)) := List.getElem?_eq_getElem _
    obtain ⟨u, hu, _⟩ := rv1.get hjx
    obtain ⟨v, hv, _⟩ := rv2.get hjy
    exact (hp5 j u v (by simpa using hu) (by simpa using hv)).2
  have hTn : H1 T = none := I1.hok.fresh (by show @LE.le Nat _ s1.heap.objs.size T; have : @LT.lt Nat _ (s1.heap.objs.size + 5) T := hT5; omega)
  have pair : ∀ j : Nat, j < min xs.length ys.length → ∃ x y u v, xs[j]? = some x ∧ ys[j]? = some y ∧ RelV x u ∧ RelV y v ∧ IsPair h' (s1.heap.objs.size + 6 + j) u v := fun j hj => by
    have hjx : xs[j]? = some (xs[j]'(by omega)) := List.getElem?_eq_getElem _
    have hjy : ys[j]? = some (ys[j]'(by omega)) := List.getElem?_eq_getElem _
    obtain ⟨u, hu, ru⟩ := rv1.get hjx
    obtain ⟨v, hv, rvv⟩ := rv2.get hjy
    exact ⟨_, _, u, v, hjx, hjy, ru, rvv, (hp5 j u v (by simpa using hu) (by simpa using hv)).1⟩
  let H' : Hp := fun b => if b = T then some (.tup ((List.range (min xs.length ys.length)).map fun j => V.ref (s1.heap.objs.size + 6 + j))) else
    if s1.heap.objs.size + 6 ≤ b ∧ b - (s1.heap.objs.size + 6) < min xs.length ys.length then some (.tup [(xs[b - (s1.heap.objs.size + 6)]?).getD .non, (ys[b - (s1.heap.objs.size + 6)]?).getD .non]) else H1 b
  have hS' : H' (T) = some (.tup ((List.range (min xs.length ys.length)).map fun j => V.ref (s1.heap.objs.size + 6 + j))) := by
    show (if _ then _ else _) = _
    rw [if_pos rfl]
  have hT' : ∀ (j : Nat) x y, xs[j]? = some x → ys[j]? = some y → H' (s1.heap.objs.size + 6 + j) = some (.tup [x, y]) := fun j x y e1 e2 => by
    have j1 := (List.getElem?_eq_some_iff.mp e1).1
    have j2 := (List.getElem?_eq_some_iff.mp e2).1
    have ej : s1.heap.objs.size + 6 + j - (s1.heap.objs.size + 6) = j := Nat.add_sub_cancel_left _ _
    have hjm : j < min xs.length ys.length := Nat.lt_min.mpr ⟨j1, j2⟩
    show (if _ then _ else if _ then _ else _) = _
    rw [if_neg (fun z => by have z' : @Eq Nat (s1.heap.objs.size + 6 + j) (T) := z; have := hTj j hjm; omega), if_pos ⟨Nat.le_add_right _ _, by rw [ej]; exact hjm⟩, ej, e1, e2]
    rfl
  have hold : Same H1 H' := fun b o e => by
    have hb : @LT.lt Nat _ b s1.heap.objs.size := I1.hok.lt e
    show (if _ then _ else if _ then _ else _) = _
    rw [if_neg (fun z => by have z' : @Eq Nat b (T) := z; have : @LT.lt Nat _ (s1.heap.objs.size + 5) T := hT5; omega), if_neg (fun z => by have z' : @LE.le Nat _ (s1.heap.objs.size + 6) b := z.1; omega)]
    exact e
  have hnew : ∀ b o, H' b = some o → H1 b = some o ∨ (s1.heap.objs.size ≤ b ∧ ObjOk X.prog X.w H' h' b o) := fun b o e => by
    by_cases hb : b = T
    · subst hb
      rw [hS'] at e
      cases e
      refine .inr ⟨by show @LE.le Nat _ s1.heap.objs.size b; have : @LT.lt Nat _ (s1.heap.objs.size + 5) b := hT5; omega, by rw [List.length_map, List.length_range]; omega, (List.range (min xs.length ys.length)).map fun j => Value.ref (s1.heap.objs.size + 6 + j), ?_, ⟨_, hS⟩⟩
      have : ∀ l : List Nat, Vals (l.map fun j => V.ref (s1.heap.objs.size + 6 + j)) (l.map fun j => Value.ref (s1.heap.objs.size + 6 + j)) := fun l => by
        induction l with
        | nil => exact .nil
        | cons j r ih => exact .cons rfl ih
      exact this _
    · by_cases hb2 : s1.heap.objs.size + 6 ≤ b ∧ b - (s1.heap.objs.size + 6) < min xs.length ys.length
      · obtain ⟨g1, g2⟩ := hb2
        have eb : b = s1.heap.objs.size + 6 + (b - (s1.heap.objs.size + 6)) := (Nat.add_sub_cancel' g1).symm
        obtain ⟨x, y, u, v, e1, e2, ru, rvv, pr⟩ := pair _ g2
        rw [eb, hT' _ x y e1 e2] at e
        cases e
        refine .inr ⟨Nat.le_trans (Nat.le_add_right _ 6) g1, by show 2 ≤ sizeLine; decide, [u, v], .cons ru (.cons rvv .nil), ?_⟩
        rw [eb]
        exact ⟨_, pr⟩
      · left
        have e' : (if b = T then some (HO.tup ((List.range (min xs.length ys.length)).map fun j => V.ref (s1.heap.objs.size + 6 + j))) else
          if s1.heap.objs.size + 6 ≤ b ∧ b - (s1.heap.objs.size + 6) < min xs.length ys.length then some (.tup [(xs[b - (s1.heap.objs.size + 6)]?).getD .non, (ys[b - (s1.heap.objs.size + 6)]?).getD .non]) else H1 b) = some o := e
        rw [if_neg hb, if_neg hb2] at e'
        exact e'
  refine ⟨.ref (T), H', I1.many (h' := h') (t' := s1.toks) kp hold hnew, rfl, q _ H' _ hold hTn hS' (by rw [List.length_map, List.length_range]) fun j p e => ?_⟩
  rw [List.getElem?_map] at e
  cases er : (List.range (min xs.length ys.length))[j]? with
  | none => rw [er] at e; cases e
  | some j' =>
    rw [er] at e
    obtain ⟨hj, ej⟩ := List.getElem?_eq_some_iff.mp er
    rw [List.getElem_range] at ej
    subst ej
    cases e
    have hj' : j < min xs.length ys.length := by simpa using hj
    obtain ⟨x, y, u, v, e1, e2, _⟩ := pair j hj'
    exact ⟨_, x, y, rfl, e1, e2, hT' j x y e1 e2⟩
end
theorem strs_pt : ∀ {vs : List Value} {ss : List Str}, vs.length = ss.length → (∀ (i : Nat) v x, vs[i]? = some v → ss[i]? = some x → ∃ t, v = Value.str x t) → StrsAre vs ss
  | [], [], _, _ => .nil
  | v :: vs, x :: ss, hl, h => by
    obtain ⟨t, rfl⟩ := h 0 v x rfl rfl
    exact .cons x t (strs_pt (by simpa using hl) fun i v' x' e1 e2 => h (i + 1) v' x' (by simpa using e1) (by simpa using e2))
theorem KV.at {kvs : List (Key × V)} {vs : List (Key × Value)} (r : KV kvs vs) : ∀ {i : Nat} {q : Key × Value}, vs[i]? = some q → ∃ p, kvs[i]? = some p ∧ p.1 = q.1 ∧ RelV p.2 q.2 := by
  induction r with
  | nil => intro i q h; simp at h
  | cons h1 h2 ih =>
    intro i q h
    cases i with
    | zero => simp at h; subst h; exact ⟨_, rfl, h1⟩
    | succ i => exact ih (by simpa using h)
theorem KV.len {kvs : List (Key × V)} {vs : List (Key × Value)} (r : KV kvs vs) : kvs.length = vs.length := by
  induction r with
  | nil => rfl
  | cons h1 h2 ih => simp [ih]
section
variable {X : Cx}
theorem Inv.manyF {pins : List (Addr × Obj)} {σ : St} {H H' : Hp} {s : Shared} {h' : Heap} {t' : Nat} (I : Inv X pins σ H s) (kp : ∀ b o, s.heap.get? b = some o → h'.get? b = some o) (hs : Same H H')
    (hnew : ∀ b o, H' b = some o → H b = some o ∨ ((∀ u, s.heap.get? b ≠ some u) ∧ ObjOk X.prog X.w H' h' b o)) : Inv X pins σ H' { s with heap := h', toks := t' } := by
  refine I.un (h' := h') (t' := t') ⟨fun b o q _ _ _ => kp b o q, fun b o q _ _ _ => ⟨o.slots, kp b o q⟩, fun b o q n _ => ?_, fun b o q _ => ⟨o, kp b o q⟩, fun b xs q => hs _ _ q, fun b o u q => hs _ _ q, fun b ps q => ⟨#[], by rw [hs _ _ q]; simp⟩⟩ fun b o q => ?_
  · cases e : H' b with
    | none => rfl
    | some u =>
      rcases hnew b u e with z | ⟨z, _⟩
      · rw [n] at z; cases z
      · exact absurd q (z _)
  · rcases hnew b o q with z | ⟨_, z⟩
    · exact (I.hok b o z).stay (fun c v _ r => kp c v r) (fun c r => hs _ _ r) fun c xs r => hs _ _ r
    · exact z
theorem call_sortD (hc : X.calm = true) : CallR X (.builtin "sorted") (fun xs H Q => ∃ (d : Addr) (kvs : List (Key × V)) (ns : List Str), xs = [.ref d] ∧ H d = some (.dK kvs) ∧ kvs.map (·.1) = ns.map Sum.inr ∧ ns.Nodup ∧ ns.length < 64 ∧
    ∀ (l : Addr) (ys : List Str), H l = none → ys.Pairwise strLt → (∀ x, x ∈ ys ↔ x ∈ ns) → Q (.ref l) (upd H l (.lst (ys.map V.str)))) := by
  intro pins s σ H xs us Q I r h
  obtain ⟨d, kvs, ns, rfl, hd, hk, hnd, h64, q⟩ := h
  obtain ⟨u, rfl, ru⟩ := vals1 r
  cases ru
  obtain ⟨hz, hs, vs, rel, dd⟩ := (show ObjOk X.prog X.w H s.heap d (.dK kvs) from I.hok d _ hd)
  obtain ⟨ep, hat⟩ := dd.dictAt
  have hlen : kvs.length = ns.length := by
    have := congrArg List.length hk
    simpa using this
  have hlv : vs.length = ns.length := by rw [← rel.len, hlen]
  refine Calls.call_function_entry kind_sorted plain_sorted entry_sorted (args_sorted1 _) ?_
  unfold Builtin.«sorted»
  refine wpAny_bind (m := checkCount "sorted" 1 1 _) (wpAny_pure ?_)
  refine wpAny_bind (PySem.W.kdu_collect (A := X.A.in1) (PySem.W.kdl_dict (knd := mixKind X.prog X.w) (kvs := vs) (ep := ep) hs) (I.ok.hd hc) hat (by rw [hlv]; omega) fun h1 tk acc k1 hacc => ?_)
  have hst : StrsAre acc.toList ns := by
    refine strs_pt (by rw [Array.length_toList, hacc.1, hlv]) fun i v x e1 e2 => ?_
    rw [Array.getElem?_toList] at e1
    obtain ⟨k, y, e3, e4⟩ := hacc.2 i v e1
    obtain ⟨p, e5, e6, _⟩ := rel.at e3
    have e7 : (kvs.map (·.1))[i]? = some k := by rw [List.getElem?_map, e5]; exact congrArg some e6
    rw [hk, List.getElem?_map, e2] at e7
    have e8 : k = Sum.inr x := (Option.some.inj e7).symm
    rw [e8] at e4
    rcases keyIs_shape (show keyIs (Sum.inr x) v = true from e4) with ⟨_, _, z, _⟩ | ⟨x', t, z, z2⟩
    · cases z
    · cases z; exact ⟨t, z2⟩
  have hl2 : acc.toList.length < 64 := by rw [Array.length_toList, hacc.1, hlv]; exact h64
  refine wpAny_bind (wpAny_newList ?_)
  have hoL : (h1.push (seqObj "list" acc.toList.toArray 0)).get? h1.objs.size = some (seqObj "list" acc.toList.toArray 0) := Heap.get?_push_size _ rfl
  show wpAny _ _ _ _ _ { s with heap := h1.push (seqObj "list" acc.toList.toArray 0), toks := tk }
  refine wpAny_bind (wpAny_holding (wpAny_call_entry slot_list_sort ⟨_, hoL, rfl⟩ entry_list_sort (list_sort_treeK strKind_oneLt hoL hst.keysOf (fun v₁ v₂ rest e => keyKind_strs (by rw [← e]; exact hst)) hl2 fun st' a1 a2 => ⟨_, rfl, ?_⟩) (args_list_sort _)))
  obtain ⟨ss', q1, q2, q3⟩ := sorted_out_str hst a1 a2
  obtain ⟨e, he⟩ := sortedHeap_at (out := (arrOf st').map (·.2)) hoL
  have kp : ∀ b o, s.heap.get? b = some o → (sortedHeap (h1.push (seqObj "list" acc.toList.toArray 0)) h1.objs.size acc.toList ((arrOf st').map (·.2))).get? b = some o := fun b o q => by
    have hb := k1 b o q
    rw [sortedHeap_old (Nat.ne_of_lt (Heap.lt_size hb)) (by rw [size_push']; exact Nat.lt_succ_of_lt (Heap.lt_size hb))]
    exact Heap.get?_push_of_some _ hb
  have hfr : ∀ u, s.heap.get? h1.objs.size ≠ some u := fun u z => Nat.lt_irrefl _ (Heap.lt_size (k1 _ _ z))
  have hn : H h1.objs.size = none := by
    cases e0 : H h1.objs.size with
    | none => rfl
    | some o =>
      obtain ⟨u, z⟩ := (I.hok _ _ e0).obj
      exact absurd z (hfr u)
  refine wpAny_pure ⟨_, rfl, .ref h1.objs.size, upd H h1.objs.size (.lst (ss'.map V.str)), ?_, rfl, q _ ss' hn (strictly (sorted_pw q3) (q2.nodup_iff.mpr hnd)) fun x => q2.mem_iff⟩
  refine I.manyF (t' := tk) kp (Same.new hn _) fun b o eb => ?_
  by_cases hb : b = h1.objs.size
  · subst hb
    rw [upd_same] at eb
    cases eb
    refine .inr ⟨hfr, ?_⟩
    refine ⟨by rw [List.length_map, q2.length_eq]; exact Nat.le_of_lt (Nat.lt_of_lt_of_le h64 (by decide)), ((arrOf st').map (·.2)).toList, e, vals_strs q1, ?_⟩
    rw [Array.toArray_toList]
    exact he
  · rw [upd_ne hb] at eb
    exact .inl eb
end
end L2
namespace L2
open PySem PySem.Spec PyProof.Rows
abbrev valsO (v d : Addr) : HO := .ext (fun h => h.IsValuesView v d)
section
variable {X : Cx}
def rValues : V → List V → Hp → VK → Prop := fun x vs H Q => ∃ (d : Addr) (kvs : List (Key × V)), x = .ref d ∧ vs = [] ∧ H d = some (.dK kvs) ∧ ∀ v, H v = none → Q (.ref v) (upd H v (valsO v d))
theorem mt_values : MtM X "dict.values" rValues := by
  intro pins s σ H x vs v us Q I rx rv h
  obtain ⟨d, kvs, rfl, rfl, hd, q⟩ := h
  cases rx
  cases rv
  obtain ⟨hz, hs, ws, rel, dd⟩ := (show ObjOk X.prog X.w H s.heap d (.dK kvs) from I.hok d _ hd)
  have hn : H s.heap.objs.size = none := I.hok.fresh (Nat.le_refl _)
  refine call_meetsIn PySem.F.slot_dict_values dd.typeIs PySem.F.entry_dict_values (PySem.F.args_dict_values_1 _) (meets_dict_values (mixKind X.prog X.w) d hs) ⟨⟨ws, dd⟩, ?_⟩
  refine ⟨.ref s.heap.objs.size, upd H s.heap.objs.size (valsO s.heap.objs.size d), I.laid (t' := s.toks) (fun b u e => Heap.get?_push_of_some _ e) (Nat.le_refl _) ⟨⟨_, Heap.get?_push_size _ rfl, rfl, rfl⟩, ⟨_, Heap.get?_push_size _ rfl⟩, fun h1 h2 p k => ?_⟩, rfl, q _ hn⟩
  obtain ⟨o, e, r⟩ := p
  exact ⟨o, k o e, r⟩
theorem call_maxV (hc : X.calm = true) : CallR X (.builtin "max") (fun xs H Q => ∃ (v d : Addr) (kvs : List (Key × V)) (ns : List Int), xs = [.ref v] ∧ H v = some (valsO v d) ∧ H d = some (.dK kvs) ∧ kvs.map (·.2) = ns.map V.int ∧ ns ≠ [] ∧
    ∀ m ∈ ns, (∀ n ∈ ns, n ≤ m) → Q (.int m) H) := by
  intro pins s σ H xs us Q I r h
  obtain ⟨v, d, kvs, ns, rfl, hv, hd, hk, hne, q⟩ := h
  obtain ⟨u, rfl, ru⟩ := vals1 r
  cases ru
  obtain ⟨hz, hs, ws, rel, dd⟩ := (show ObjOk X.prog X.w H s.heap d (.dK kvs) from I.hok d _ hd)
  obtain ⟨ep, hat⟩ := dd.dictAt
  have view : s.heap.IsValuesView v d := (I.hok v _ hv).1
  have hlen : kvs.length = ns.length := by
    have := congrArg List.length hk
    simpa using this
  have hlv : ws.length = ns.length := by rw [← rel.len, hlen]
  have KS := PySem.W.kdl_values (prog := X.prog) (w := X.w) (knd := mixKind X.prog X.w) (r := v) (d := d) (kvs := ws) (ep := ep)
  have hok : s.heap.IsValuesView v d ∧ s.heap.DictAt (mixKind X.prog X.w) d ws ep := ⟨view, hat⟩
  have npos : 0 < ws.length := by rw [hlv]; exact List.length_pos_iff.mpr hne
  have hval : ∀ (i : Nat) (u : Value), (∃ k, ws[i]? = some (k, u)) → ∃ t : Tok, u = Value.int (ns.getD i 0) t := fun i u hu => by
    obtain ⟨k, e⟩ := hu
    obtain ⟨p, e1, _, e3⟩ := rel.at e
    have e4 : (kvs.map (·.2))[i]? = some p.2 := by rw [List.getElem?_map, e1]; rfl
    rw [hk, List.getElem?_map] at e4
    cases e5 : ns[i]? with
    | none => rw [e5] at e4; cases e4
    | some n =>
      rw [e5] at e4
      have e6 : V.int n = p.2 := Option.some.inj e4
      rw [← e6] at e3
      obtain ⟨t, e7⟩ := e3
      exact ⟨t, by rw [List.getD_eq_getElem?_getD, e5]; exact e7⟩
  refine call_max_walkS ?_
  obtain ⟨oI, St, hit, W, st⟩ := KS.iter X.A.in1 s (I.ok.hd hc) hok
  refine hit _ _ ⟨s.heap.objs.size, _, _, _, ws.length, _, _, _, rfl, W.toS, st, fun b hb => ?_, npos, CmpOf.ints_gt (fun i => ns.getD i 0) hval, fun u s' hP hm => ?_⟩
  · show b < (s.heap.push oI).objs.size
    rw [size_push']
    rcases List.mem_cons.mp hb with e | hb
    · rw [e]; exact Nat.lt_succ_self _
    · rw [List.mem_singleton.mp hb]; exact Nat.lt_succ_of_lt (KS.there _ hok).2
  · have hkp : ∀ b o, s.heap.get? b = some o → s'.heap.get? b = some o := fun b o e =>
      hm.heap b o (fun hI => absurd (Heap.lt_size e) (by rw [List.mem_singleton.mp hI]; exact Nat.lt_irrefl _)) (Heap.get?_push_of_some _ e)
    obtain ⟨t, rfl⟩ := hval _ u hP
    obtain ⟨b1, b2⟩ := argBest_gt (fun i => ns.getD i 0) (ws.length - 1)
    have hi : argBest (fun i j => decide (ns.getD i 0 > ns.getD j 0)) (ws.length - 1) < ns.length := by omega
    have hmem : ns.getD (argBest (fun i j => decide (ns.getD i 0 > ns.getD j 0)) (ws.length - 1)) 0 ∈ ns := by
      rw [List.getD_eq_getElem?_getD, List.getElem?_eq_getElem hi]
      exact List.getElem_mem hi
    have Q1 := q _ hmem fun n hn => by
      obtain ⟨j, hj, e⟩ := List.getElem_of_mem hn
      have := b2 j (by omega)
      rw [List.getD_eq_getElem?_getD, List.getElem?_eq_getElem hj] at this
      rw [← e]
      exact this
    rw [Moved.eq_with hm]
    exact ⟨.int _, H, I.kept (h' := s'.heap) (t' := s'.toks) hkp, ⟨_, rfl⟩, Q1⟩
end
end L2
namespace MA
namespace Mob
variable {N : Type}
def wgt (f : N → Rat) : Mob N → Rat
  | wt n => f n
  | rod _ _ a b => a.wgt f + b.wgt f
def still (f : N → Rat) : Mob N → Prop
  | wt _ => True
  | rod l r a b => (l : Rat) * a.wgt f = (r : Rat) * b.wgt f ∧ a.still f ∧ b.still f
theorem wgt_sum (f : N → Rat) : ∀ m : Mob N, (m.names.map f).sum = m.wgt f
  | wt n => by simp [names, wgt]; grind
  | rod _ _ a b => by
    show ((a.names ++ b.names).map f).sum = a.wgt f + b.wgt f
    rw [List.map_append, sum_app, wgt_sum f a, wgt_sum f b]
theorem app_inj {α : Type} {a b c d : List α} (h : a ++ b = c ++ d) (hl : a.length = c.length) : a = c ∧ b = d := List.append_inj h hl
theorem still_iff (f : N → Rat) : ∀ m : Mob N, m.arms → (m.still f ↔ m.names.map f = m.sh (m.wgt f))
  | wt n, _ => by simp [still, names, sh, wgt]
  | rod l r a b, h => by
    obtain ⟨h1, h2, h3, h4, h5, h6⟩ := h
    have hne : (l : Rat) + (r : Rat) ≠ 0 := by
      intro z
      have : (l + r : Int) = 0 := by exact_mod_cast (by rw [Rat.intCast_add]; exact z : ((l + r : Int) : Rat) = ((0 : Int) : Rat))
      omega
    have hc : ((l + r : Int) : Rat) = (l : Rat) + (r : Rat) := Rat.intCast_add l r
    have ia := still_iff f a h5
    have ib := still_iff f b h6
    have e1 : (rod l r a b).names.map f = a.names.map f ++ b.names.map f := List.map_append
    have e2 : (rod l r a b).sh ((rod l r a b).wgt f) = a.sh ((a.wgt f + b.wgt f) * ((r : Rat) / ((l + r : Int) : Rat))) ++ b.sh ((a.wgt f + b.wgt f) * ((l : Rat) / ((l + r : Int) : Rat))) := rfl
    rw [e1, e2]
    constructor
    · rintro ⟨q, qa, qb⟩
      have wa : (a.wgt f + b.wgt f) * ((r : Rat) / ((l + r : Int) : Rat)) = a.wgt f := by rw [hc]; grind
      have wb : (a.wgt f + b.wgt f) * ((l : Rat) / ((l + r : Int) : Rat)) = b.wgt f := by rw [hc]; grind
      rw [wa, wb, ia.mp qa, ib.mp qb]
    · intro q
      obtain ⟨qa, qb⟩ := app_inj q (by rw [List.length_map, sh_len])
      have wa : a.wgt f = (a.wgt f + b.wgt f) * ((r : Rat) / ((l + r : Int) : Rat)) := by
        have := congrArg List.sum qa
        rwa [wgt_sum, sh_sum _ _ h5] at this
      have wb : b.wgt f = (a.wgt f + b.wgt f) * ((l : Rat) / ((l + r : Int) : Rat)) := by
        have := congrArg List.sum qb
        rwa [wgt_sum, sh_sum _ _ h6] at this
      refine ⟨?_, ia.mpr ?_, ib.mpr ?_⟩
      · rw [hc] at wa wb
        grind
      · rw [← wa] at qa; exact qa
      · rw [← wb] at qb; exact qb
theorem sh_mul : ∀ (m : Mob N) (c x : Rat), m.sh (c * x) = (m.sh x).map (c * ·)
  | wt _, c, x => rfl
  | rod l r a b, c, x => by
    show a.sh _ ++ b.sh _ = (a.sh _ ++ b.sh _).map _
    rw [List.map_append, ← sh_mul a, ← sh_mul b]
    congr 1 <;> congr 1 <;> grind
theorem still_prop {f s : N → Rat} {m : Mob N} (h : m.arms) (hs : m.names.map s = m.sh 1) : m.still f ↔ ∃ c : Rat, ∀ x ∈ m.names, f x = c * s x := by
  rw [still_iff f m h]
  constructor
  · intro q
    refine ⟨m.wgt f, fun x hx => ?_⟩
    have e : m.sh (m.wgt f) = (m.names.map s).map (m.wgt f * ·) := by
      rw [hs, ← sh_mul]
      congr 1
      grind
    rw [e, List.map_map] at q
    obtain ⟨i, hi, rfl⟩ := List.getElem_of_mem hx
    have := congrArg (fun l => l[i]?) q
    simp only [List.getElem?_map, List.getElem?_eq_getElem hi, Option.map_some, Function.comp] at this
    exact Option.some.inj this
  · rintro ⟨c, hc⟩
    have e1 : m.names.map f = (m.names.map s).map (c * ·) := by
      rw [List.map_map]
      exact List.map_congr_left fun x hx => hc x hx
    have e2 : m.wgt f = c := by
      rw [← wgt_sum, e1, hs, ← sh_mul, sh_sum _ _ h]
      grind
    rw [e2, e1, hs, ← sh_mul]
    congr 1
    grind
theorem still_one {f : N → Rat} {m : Mob N} (h : m.arms) (hp : m.wgt f ≠ 0) (q : m.still f) : m.names.map (fun x => f x / m.wgt f) = m.sh 1 := by
  have e := (still_iff f m h).mp q
  have e2 : m.sh (m.wgt f) = (m.sh 1).map (m.wgt f * ·) := by
    rw [← sh_mul]
    congr 1
    grind
  rw [e2] at e
  have e3 : m.names.map (fun x => f x / m.wgt f) = (m.names.map f).map (· / m.wgt f) := by rw [List.map_map]; rfl
  rw [e3, e, List.map_map]
  have : ((fun x => x / m.wgt f) ∘ fun x => m.wgt f * x) = id := by
    funext x
    show m.wgt f * x / m.wgt f = x
    grind
  rw [this, List.map_id]
end Mob
end MA
namespace MA
theorem lcm_facts {b d : Int} (hb : 0 < b) (hd : 0 < d) : 0 < b * d / (Int.gcd b d : Int) ∧ b ∣ b * d / (Int.gcd b d : Int) ∧ d ∣ b * d / (Int.gcd b d : Int) ∧ b * d / (Int.gcd b d : Int) ≤ b * d := by
  have hg : 0 < (Int.gcd b d : Int) := by
    have : 0 < Int.gcd b d := Int.gcd_pos_of_ne_zero_right _ (by omega)
    omega
  obtain ⟨b', hb'⟩ := Int.gcd_dvd_left b d
  obtain ⟨d', hd'⟩ := Int.gcd_dvd_right b d
  have e1 : b * d / (Int.gcd b d : Int) = b' * d := by
    conv => lhs; lhs; lhs; rw [hb']
    rw [Int.mul_assoc, Int.mul_ediv_cancel_left _ (by omega)]
  have e2 : b * d / (Int.gcd b d : Int) = b * d' := by
    conv => lhs; lhs; rhs; rw [hd']
    rw [Int.mul_comm (Int.gcd b d : Int) d', ← Int.mul_assoc, Int.mul_ediv_cancel _ (by omega)]
  refine ⟨?_, ⟨d', e2⟩, ⟨b', by rw [e1, Int.mul_comm]⟩, Int.ediv_le_self _ (Int.le_of_lt (Int.mul_pos hb hd))⟩
  rw [e1]
  refine Int.mul_pos ?_ hd
  rcases Int.lt_or_le 0 b' with h | h
  · exact h
  · have : (Int.gcd b d : Int) * b' ≤ 0 := Int.mul_nonpos_of_nonneg_of_nonpos (Int.le_of_lt hg) h
    omega
def bot : List Rat → Int → Int
  | [], b => b
  | x :: r, b => bot r (b * (rf x).2 / (Int.gcd b (rf x).2 : Int))
theorem bot_spec : ∀ (xs : List Rat) (b : Int), 0 < b → 0 < bot xs b ∧ b ∣ bot xs b ∧ ∀ x ∈ xs, (rf x).2 ∣ bot xs b
  | [], b, h => ⟨h, Int.dvd_refl _, by simp⟩
  | x :: r, b, h => by
    obtain ⟨h1, h2, h3, _⟩ := lcm_facts h (rf_pos x)
    obtain ⟨g1, g2, g3⟩ := bot_spec r _ h1
    refine ⟨g1, Int.dvd_trans h2 g2, fun y hy => ?_⟩
    rcases List.mem_cons.mp hy with rfl | hy
    · exact Int.dvd_trans h3 g2
    · exact g3 y hy
theorem bot_le (D : Int) (hD : 1 ≤ D) : ∀ (xs : List Rat) (b : Int), 0 < b → (∀ x ∈ xs, (rf x).2 ≤ D) → bot xs b ≤ b * D ^ xs.length
  | [], b, _, _ => by simp [bot]
  | x :: r, b, h, hx => by
    obtain ⟨h1, h2, h3, h4⟩ := lcm_facts h (rf_pos x)
    have := bot_le D hD r _ h1 fun y hy => hx y (List.mem_cons_of_mem _ hy)
    refine Int.le_trans this ?_
    rw [List.length_cons, Int.pow_succ, Int.mul_comm (D ^ r.length) D, ← Int.mul_assoc]
    refine Int.mul_le_mul_of_nonneg_right ?_ (Int.pow_nonneg (by omega))
    exact Int.le_trans h4 (Int.mul_le_mul_of_nonneg_left (hx x (by simp)) (Int.le_of_lt h))
def gcds : List Int → Int → Int
  | [], d => d
  | n :: r, d => gcds r (Int.gcd d n : Int)
theorem gcds_spec : ∀ (ns : List Int) (d : Int), 0 ≤ d → 0 ≤ gcds ns d ∧ gcds ns d ∣ d ∧ (∀ n ∈ ns, gcds ns d ∣ n) ∧ ∀ k, k ∣ d → (∀ n ∈ ns, k ∣ n) → k ∣ gcds ns d
  | [], d, h => ⟨h, Int.dvd_refl _, by simp, fun k hk _ => hk⟩
  | n :: r, d, h => by
    obtain ⟨g1, g2, g3, g4⟩ := gcds_spec r (Int.gcd d n : Int) (by omega)
    refine ⟨g1, Int.dvd_trans g2 (Int.gcd_dvd_left d n), fun m hm => ?_, fun k hk hn => g4 k (Int.dvd_coe_gcd hk (hn n (by simp))) fun m hm => hn m (List.mem_cons_of_mem _ hm)⟩
    rcases List.mem_cons.mp hm with rfl | hm
    · exact Int.dvd_trans g2 (Int.gcd_dvd_right d m)
    · exact g3 m hm
theorem gcds_pos {ns : List Int} {d : Int} (h : 0 ≤ d) {n : Int} (hn : n ∈ ns) (hp : 0 < n) : 0 < gcds ns d ∧ gcds ns d ≤ n := by
  obtain ⟨g1, g2, g3, g4⟩ := gcds_spec ns d h
  have hd := g3 n hn
  have hle := Int.le_of_dvd hp hd
  refine ⟨?_, hle⟩
  rcases Int.lt_or_le 0 (gcds ns d) with z | z
  · exact z
  · have e : gcds ns d = 0 := by omega
    rw [e] at hd
    have := Int.zero_dvd.mp hd
    omega
def ups (xs : List Rat) : List Int := xs.map fun x => (rf x).1 * (bot xs 1 / (rf x).2)
def lw (xs : List Rat) : List Int := (ups xs).map (· / gcds (ups xs) 0)
theorem ups_val {xs : List Rat} {x : Rat} (hx : x ∈ xs) : (((rf x).1 * (bot xs 1 / (rf x).2) : Int) : Rat) = (bot xs 1 : Rat) * x := by
  obtain ⟨h1, _, h3⟩ := bot_spec xs 1 (by decide)
  obtain ⟨k, hk⟩ := h3 x hx
  have hne := cast_ne (Int.ne_of_gt (rf_pos x))
  rw [hk, Int.mul_ediv_cancel_left _ (Int.ne_of_gt (rf_pos x)), Rat.intCast_mul, Rat.intCast_mul]
  have e := rf_val x
  grind
theorem ups_pos {xs : List Rat} {x : Rat} (hx : x ∈ xs) (hp : 0 < x) : 0 < (rf x).1 * (bot xs 1 / (rf x).2) := by
  obtain ⟨h1, _, h3⟩ := bot_spec xs 1 (by decide)
  refine Int.mul_pos (num_pos hp) ?_
  exact Int.ediv_pos_of_pos_of_dvd h1 (Int.le_of_lt (rf_pos x)) (h3 x hx)
theorem lw_len (xs : List Rat) : (lw xs).length = xs.length := by simp [lw, ups]
theorem lw_prop {xs : List Rat} (hp : ∀ x ∈ xs, 0 < x) (hne : xs ≠ []) : ∃ c : Rat, 0 < c ∧ (lw xs).map (fun n : Int => (n : Rat)) = xs.map (c * ·) := by
  obtain ⟨x0, hx0⟩ : ∃ x, x ∈ xs := by
    cases xs with
    | nil => exact absurd rfl hne
    | cons x r => exact ⟨x, by simp⟩
  have m0 : (rf x0).1 * (bot xs 1 / (rf x0).2) ∈ ups xs := List.mem_map.mpr ⟨x0, hx0, rfl⟩
  obtain ⟨g0, _⟩ := gcds_pos (Int.le_refl 0) m0 (ups_pos hx0 (hp x0 hx0))
  obtain ⟨_, _, g3, _⟩ := gcds_spec (ups xs) 0 (Int.le_refl 0)
  have gne := cast_ne (Int.ne_of_gt g0)
  obtain ⟨b1, _, _⟩ := bot_spec xs 1 (by decide)
  refine ⟨(bot xs 1 : Rat) / (gcds (ups xs) 0 : Rat), ?_, ?_⟩
  · rw [Rat.div_def]
    exact Rat.mul_pos (by exact_mod_cast b1) (Rat.inv_pos.mpr (by exact_mod_cast g0))
  · unfold lw
    rw [List.map_map]
    conv => lhs; rw [show ups xs = xs.map (fun x => (rf x).1 * (bot xs 1 / (rf x).2)) from rfl]
    rw [List.map_map]
    refine List.map_congr_left fun x hx => ?_
    have mx : (rf x).1 * (bot xs 1 / (rf x).2) ∈ ups xs := List.mem_map.mpr ⟨x, hx, rfl⟩
    obtain ⟨k, hk⟩ := g3 _ mx
    have ev := ups_val hx
    show ((((rf x).1 * (bot xs 1 / (rf x).2)) / gcds (ups xs) 0 : Int) : Rat) = _
    rw [hk] at ev ⊢
    rw [Int.mul_ediv_cancel_left _ (Int.ne_of_gt g0)]
    rw [Rat.intCast_mul] at ev
    grind
theorem lw_pos {xs : List Rat} (hp : ∀ x ∈ xs, 0 < x) : ∀ n ∈ lw xs, 1 ≤ n := by
  intro n hn
  obtain ⟨u, hu, rfl⟩ := List.mem_map.mp hn
  obtain ⟨x, hx, rfl⟩ := List.mem_map.mp hu
  have hup := ups_pos hx (hp x hx)
  obtain ⟨g0, gl⟩ := gcds_pos (Int.le_refl 0) hu hup
  have := (Int.le_ediv_iff_mul_le g0).mpr (by rw [Int.one_mul]; exact gl : 1 * gcds (ups xs) 0 ≤ _)
  exact this
theorem lw_gcd {xs : List Rat} (hp : ∀ x ∈ xs, 0 < x) (hne : xs ≠ []) {k : Int} (hk : ∀ n ∈ lw xs, k ∣ n) : k ∣ 1 := by
  obtain ⟨x0, hx0⟩ : ∃ x, x ∈ xs := by
    cases xs with
    | nil => exact absurd rfl hne
    | cons x r => exact ⟨x, by simp⟩
  have m0 : (rf x0).1 * (bot xs 1 / (rf x0).2) ∈ ups xs := List.mem_map.mpr ⟨x0, hx0, rfl⟩
  obtain ⟨g0, _⟩ := gcds_pos (Int.le_refl 0) m0 (ups_pos hx0 (hp x0 hx0))
  obtain ⟨_, _, g3, g4⟩ := gcds_spec (ups xs) 0 (Int.le_refl 0)
  have h : gcds (ups xs) 0 * k ∣ gcds (ups xs) 0 := by
    refine g4 _ (Int.dvd_zero _) fun n hn => ?_
    obtain ⟨j, hj⟩ := g3 n hn
    have h1 : n / gcds (ups xs) 0 ∈ lw xs := List.mem_map.mpr ⟨n, hn, rfl⟩
    obtain ⟨i, hi⟩ := hk _ h1
    rw [hj, Int.mul_ediv_cancel_left _ (Int.ne_of_gt g0)] at hi
    exact ⟨i, by rw [hj, hi, Int.mul_assoc]⟩
  obtain ⟨i, hi⟩ := h
  refine ⟨i, ?_⟩
  have : gcds (ups xs) 0 * 1 = gcds (ups xs) 0 * (k * i) := by rw [Int.mul_one, ← Int.mul_assoc]; exact hi
  exact Int.eq_of_mul_eq_mul_left (Int.ne_of_gt g0) this
end MA
namespace My
open PySem PySem.Spec PyProof.Rows L2
def top (i : Nat) : Stmt := PySem.Challenge.pw_hangstill_k04_whole_least.main.body.getD i (.Pass ⟨0, 0, 0, 0⟩)
abbrev s_is_number : Stmt := top 15
abbrev p_is_number : List Str := ["thing", "first", "last"]
abbrev n_is_number : List Str := ["thing", "first", "last"]
theorem sc_is_number : FnScope n_is_number p_is_number (defScope s_is_number) := ⟨rfl, rfl, rfl, by decide +kernel, rfl, by decide +kernel, by decide +kernel⟩
abbrev s_is_name : Stmt := top 16
abbrev p_is_name : List Str := ["thing"]
abbrev n_is_name : List Str := ["thing"]
theorem sc_is_name : FnScope n_is_name p_is_name (defScope s_is_name) := ⟨rfl, rfl, rfl, by decide +kernel, rfl, by decide +kernel, by decide +kernel⟩
abbrev s_is_mobile_within : Stmt := top 17
abbrev p_is_mobile_within : List Str := ["thing", "rods"]
abbrev n_is_mobile_within : List Str := ["thing", "rods"]
theorem sc_is_mobile_within : FnScope n_is_mobile_within p_is_mobile_within (defScope s_is_mobile_within) := ⟨rfl, rfl, rfl, by decide +kernel, rfl, by decide +kernel, by decide +kernel⟩
abbrev s_is_mobile : Stmt := top 18
abbrev p_is_mobile : List Str := ["thing"]
abbrev n_is_mobile : List Str := ["thing"]
theorem sc_is_mobile : FnScope n_is_mobile p_is_mobile (defScope s_is_mobile) := ⟨rfl, rfl, rfl, by decide +kernel, rfl, by decide +kernel, by decide +kernel⟩
abbrev s_check_mobile : Stmt := top 19
abbrev p_check_mobile : List Str := ["thing"]
abbrev n_check_mobile : List Str := ["thing"]
theorem sc_check_mobile : FnScope n_check_mobile p_check_mobile (defScope s_check_mobile) := ⟨rfl, rfl, rfl, by decide +kernel, rfl, by decide +kernel, by decide +kernel⟩
abbrev s_is_named_number : Stmt := top 20
abbrev p_is_named_number : List Str := ["thing"]
abbrev n_is_named_number : List Str := ["thing"]
theorem sc_is_named_number : FnScope n_is_named_number p_is_named_number (defScope s_is_named_number) := ⟨rfl, rfl, rfl, by decide +kernel, rfl, by decide +kernel, by decide +kernel⟩
abbrev s_is_weights : Stmt := top 21
abbrev p_is_weights : List Str := ["thing"]
abbrev n_is_weights : List Str := ["thing", "names"]
theorem sc_is_weights : FnScope n_is_weights p_is_weights (defScope s_is_weights) := ⟨rfl, rfl, rfl, by decide +kernel, rfl, by decide +kernel, by decide +kernel⟩
abbrev s_check_are_weights : Stmt := top 22
abbrev p_check_are_weights : List Str := ["thing"]
abbrev n_check_are_weights : List Str := ["thing"]
theorem sc_check_are_weights : FnScope n_check_are_weights p_check_are_weights (defScope s_check_are_weights) := ⟨rfl, rfl, rfl, by decide +kernel, rfl, by decide +kernel, by decide +kernel⟩
abbrev s_check_weights : Stmt := top 23
abbrev p_check_weights : List Str := ["mobile", "weights"]
abbrev n_check_weights : List Str := ["mobile", "weights", "numbers", "way", "name"]
theorem sc_check_weights : FnScope n_check_weights p_check_weights (defScope s_check_weights) := ⟨rfl, rfl, rfl, by decide +kernel, rfl, by decide +kernel, by decide +kernel⟩
abbrev s_leaves_below : Stmt := top 24
abbrev p_leaves_below : List Str := ["mobile", "way"]
abbrev n_leaves_below : List Str := ["mobile", "way"]
theorem sc_leaves_below : FnScope n_leaves_below p_leaves_below (defScope s_leaves_below) := ⟨rfl, rfl, rfl, by decide +kernel, rfl, by decide +kernel, by decide +kernel⟩
abbrev s_load_below : Stmt := top 25
abbrev p_load_below : List Str := ["mobile", "numbers"]
abbrev n_load_below : List Str := ["mobile", "numbers"]
theorem sc_load_below : FnScope n_load_below p_load_below (defScope s_load_below) := ⟨rfl, rfl, rfl, by decide +kernel, rfl, by decide +kernel, by decide +kernel⟩
abbrev s_pulls : Stmt := top 26
abbrev p_pulls : List Str := ["rod", "numbers"]
abbrev n_pulls : List Str := ["rod", "numbers"]
theorem sc_pulls : FnScope n_pulls p_pulls (defScope s_pulls) := ⟨rfl, rfl, rfl, by decide +kernel, rfl, by decide +kernel, by decide +kernel⟩
abbrev s_tips_below : Stmt := top 27
abbrev p_tips_below : List Str := ["mobile", "way", "numbers"]
abbrev n_tips_below : List Str := ["mobile", "way", "numbers", "both", "told"]
theorem sc_tips_below : FnScope n_tips_below p_tips_below (defScope s_tips_below) := ⟨rfl, rfl, rfl, by decide +kernel, rfl, by decide +kernel, by decide +kernel⟩
abbrev s_tips : Stmt := top 28
abbrev p_tips : List Str := ["mobile", "weights"]
abbrev n_tips : List Str := ["mobile", "weights"]
theorem sc_tips : FnScope n_tips p_tips (defScope s_tips) := ⟨rfl, rfl, rfl, by decide +kernel, rfl, by decide +kernel, by decide +kernel⟩
abbrev s_is_still : Stmt := top 29
abbrev p_is_still : List Str := ["mobile", "weights"]
abbrev n_is_still : List Str := ["mobile", "weights"]
theorem sc_is_still : FnScope n_is_still p_is_still (defScope s_is_still) := ⟨rfl, rfl, rfl, by decide +kernel, rfl, by decide +kernel, by decide +kernel⟩
abbrev s_greatest_divisor : Stmt := top 31
abbrev p_greatest_divisor : List Str := ["one", "other"]
abbrev n_greatest_divisor : List Str := ["one", "other", "rest"]
theorem sc_greatest_divisor : FnScope n_greatest_divisor p_greatest_divisor (defScope s_greatest_divisor) := ⟨rfl, rfl, rfl, by decide +kernel, rfl, by decide +kernel, by decide +kernel⟩
abbrev s_reduced : Stmt := top 32
abbrev p_reduced : List Str := ["top", "bottom"]
abbrev n_reduced : List Str := ["top", "bottom", "divisor"]
theorem sc_reduced : FnScope n_reduced p_reduced (defScope s_reduced) := ⟨rfl, rfl, rfl, by decide +kernel, rfl, by decide +kernel, by decide +kernel⟩
abbrev s_product : Stmt := top 33
abbrev p_product : List Str := ["one", "other"]
abbrev n_product : List Str := ["one", "other"]
theorem sc_product : FnScope n_product p_product (defScope s_product) := ⟨rfl, rfl, rfl, by decide +kernel, rfl, by decide +kernel, by decide +kernel⟩
abbrev s_least_whole : Stmt := top 34
abbrev p_least_whole : List Str := ["fractions"]
abbrev n_least_whole : List Str := ["fractions", "bottom", "fraction", "numbers", "divisor", "number"]
theorem sc_least_whole : FnScope n_least_whole p_least_whole (defScope s_least_whole) := ⟨rfl, rfl, rfl, by decide +kernel, rfl, by decide +kernel, by decide +kernel⟩
abbrev s_shares_below : Stmt := top 36
abbrev p_shares_below : List Str := ["mobile", "way", "share"]
abbrev n_shares_below : List Str := ["mobile", "way", "share", "both", "left", "right"]
theorem sc_shares_below : FnScope n_shares_below p_shares_below (defScope s_shares_below) := ⟨rfl, rfl, rfl, by decide +kernel, rfl, by decide +kernel, by decide +kernel⟩
abbrev s_name_shares : Stmt := top 37
abbrev p_name_shares : List Str := ["mobile"]
abbrev n_name_shares : List Str := ["mobile"]
theorem sc_name_shares : FnScope n_name_shares p_name_shares (defScope s_name_shares) := ⟨rfl, rfl, rfl, by decide +kernel, rfl, by decide +kernel, by decide +kernel⟩
abbrev s_least_weights : Stmt := top 38
abbrev p_least_weights : List Str := ["fractions"]
abbrev n_least_weights : List Str := ["fractions", "names"]
theorem sc_least_weights : FnScope n_least_weights p_least_weights (defScope s_least_weights) := ⟨rfl, rfl, rfl, by decide +kernel, rfl, by decide +kernel, by decide +kernel⟩
abbrev s_shares : Stmt := top 39
abbrev p_shares : List Str := ["mobile"]
abbrev n_shares : List Str := ["mobile"]
theorem sc_shares : FnScope n_shares p_shares (defScope s_shares) := ⟨rfl, rfl, rfl, by decide +kernel, rfl, by decide +kernel, by decide +kernel⟩
abbrev s_bar : Stmt := top 40
abbrev p_bar : List Str := ["mobile"]
abbrev n_bar : List Str := ["mobile", "first", "way", "name", "share"]
theorem sc_bar : FnScope n_bar p_bar (defScope s_bar) := ⟨rfl, rfl, rfl, by decide +kernel, rfl, by decide +kernel, by decide +kernel⟩
abbrev s_least : Stmt := top 41
abbrev p_least : List Str := ["mobile"]
abbrev n_least : List Str := ["mobile"]
theorem sc_least : FnScope n_least p_least (defScope s_least) := ⟨rfl, rfl, rfl, by decide +kernel, rfl, by decide +kernel, by decide +kernel⟩
abbrev s__law_cell_at : Stmt := top 43
abbrev p__law_cell_at : List Str := ["_law_script", "_law_k"]
abbrev n__law_cell_at : List Str := ["_law_script", "_law_k"]
theorem sc__law_cell_at : FnScope n__law_cell_at p__law_cell_at (defScope s__law_cell_at) := ⟨rfl, rfl, rfl, by decide +kernel, rfl, by decide +kernel, by decide +kernel⟩
abbrev s__law_mixed : Stmt := top 44
abbrev p__law_mixed : List Str := ["_law_script", "_law_k", "_law_many"]
abbrev n__law_mixed : List Str := ["_law_script", "_law_k", "_law_many", "_law_drawn"]
theorem sc__law_mixed : FnScope n__law_mixed p__law_mixed (defScope s__law_mixed) := ⟨rfl, rfl, rfl, by decide +kernel, rfl, by decide +kernel, by decide +kernel⟩
abbrev s__law_draw : Stmt := top 45
abbrev p__law_draw : List Str := ["_law_script", "_law_town", "_law_many"]
abbrev n__law_draw : List Str := ["_law_script", "_law_town", "_law_many"]
theorem sc__law_draw : FnScope n__law_draw p__law_draw (defScope s__law_draw) := ⟨rfl, rfl, rfl, by decide +kernel, rfl, by decide +kernel, by decide +kernel⟩
abbrev s__law_pick : Stmt := top 46
abbrev p__law_pick : List Str := ["_law_script", "_law_town", "_law_some"]
abbrev n__law_pick : List Str := ["_law_script", "_law_town", "_law_some"]
theorem sc__law_pick : FnScope n__law_pick p__law_pick (defScope s__law_pick) := ⟨rfl, rfl, rfl, by decide +kernel, rfl, by decide +kernel, by decide +kernel⟩
abbrev s__law_mobile : Stmt := top 47
abbrev p__law_mobile : List Str := ["_law_script", "_law_town", "_law_names_here", "_law_deep"]
abbrev n__law_mobile : List Str := ["_law_script", "_law_town", "_law_names_here", "_law_deep", "_law_arms", "_law_parts"]
theorem sc__law_mobile : FnScope n__law_mobile p__law_mobile (defScope s__law_mobile) := ⟨rfl, rfl, rfl, by decide +kernel, rfl, by decide +kernel, by decide +kernel⟩
abbrev s__law_names : Stmt := top 48
abbrev p__law_names : List Str := ["_law_script", "_law_town", "_law_many"]
abbrev n__law_names : List Str := ["_law_script", "_law_town", "_law_many", "_law_made", "_law_k", "_law_name", "_law_turn"]
theorem sc__law_names : FnScope n__law_names p__law_names (defScope s__law_names) := ⟨rfl, rfl, rfl, by decide +kernel, rfl, by decide +kernel, by decide +kernel⟩
abbrev s__law_unlike : Stmt := top 49
abbrev p__law_unlike : List Str := ["_law_script", "_law_town", "_law_deep", "_law_count"]
abbrev n__law_unlike : List Str := ["_law_script", "_law_town", "_law_deep", "_law_count", "_law_arms", "_law_parts"]
theorem sc__law_unlike : FnScope n__law_unlike p__law_unlike (defScope s__law_unlike) := ⟨rfl, rfl, rfl, by decide +kernel, rfl, by decide +kernel, by decide +kernel⟩
abbrev s__law_leaves : Stmt := top 50
abbrev p__law_leaves : List Str := ["_law_mobile_here", "_law_way"]
abbrev n__law_leaves : List Str := ["_law_mobile_here", "_law_way"]
theorem sc__law_leaves : FnScope n__law_leaves p__law_leaves (defScope s__law_leaves) := ⟨rfl, rfl, rfl, by decide +kernel, rfl, by decide +kernel, by decide +kernel⟩
abbrev s__law_load : Stmt := top 51
abbrev p__law_load : List Str := ["_law_mobile_here", "_law_book"]
abbrev n__law_load : List Str := ["_law_mobile_here", "_law_book"]
theorem sc__law_load : FnScope n__law_load p__law_load (defScope s__law_load) := ⟨rfl, rfl, rfl, by decide +kernel, rfl, by decide +kernel, by decide +kernel⟩
abbrev s__law_tips : Stmt := top 52
abbrev p__law_tips : List Str := ["_law_mobile_here", "_law_book", "_law_way"]
abbrev n__law_tips : List Str := ["_law_mobile_here", "_law_book", "_law_way", "_law_one", "_law_other", "_law_here"]
theorem sc__law_tips : FnScope n__law_tips p__law_tips (defScope s__law_tips) := ⟨rfl, rfl, rfl, by decide +kernel, rfl, by decide +kernel, by decide +kernel⟩
abbrev s__law_least : Stmt := top 53
abbrev p__law_least : List Str := ["_law_up", "_law_down"]
abbrev n__law_least : List Str := ["_law_up", "_law_down", "_law_one", "_law_other"]
theorem sc__law_least : FnScope n__law_least p__law_least (defScope s__law_least) := ⟨rfl, rfl, rfl, by decide +kernel, rfl, by decide +kernel, by decide +kernel⟩
abbrev s__law_shares : Stmt := top 54
abbrev p__law_shares : List Str := ["_law_mobile_here", "_law_up", "_law_down"]
abbrev n__law_shares : List Str := ["_law_mobile_here", "_law_up", "_law_down", "_law_both", "_law_one"]
theorem sc__law_shares : FnScope n__law_shares p__law_shares (defScope s__law_shares) := ⟨rfl, rfl, rfl, by decide +kernel, rfl, by decide +kernel, by decide +kernel⟩
abbrev s__law_bar : Stmt := top 55
abbrev p__law_bar : List Str := ["_law_mobile_here"]
abbrev n__law_bar : List Str := ["_law_mobile_here", "_law_rows", "_law_at", "_law_way", "_law_name", "_law_part", "_law_some"]
theorem sc__law_bar : FnScope n__law_bar p__law_bar (defScope s__law_bar) := ⟨rfl, rfl, rfl, by decide +kernel, rfl, by decide +kernel, by decide +kernel⟩
abbrev s__law_which : Stmt := top 56
abbrev p__law_which : List Str := ["_law_e"]
abbrev n__law_which : List Str := ["_law_e", "_law_own"]
theorem sc__law_which : FnScope n__law_which p__law_which (defScope s__law_which) := ⟨rfl, rfl, rfl, by decide +kernel, rfl, by decide +kernel, by decide +kernel⟩
abbrev s__law_ask : Stmt := top 57
abbrev p__law_ask : List Str := ["_law_mobile_here"]
abbrev n__law_ask : List Str := ["_law_mobile_here", "_law_e"]
theorem sc__law_ask : FnScope n__law_ask p__law_ask (defScope s__law_ask) := ⟨rfl, rfl, rfl, by decide +kernel, rfl, by decide +kernel, by decide +kernel⟩
abbrev s_law : Stmt := top 58
abbrev p_law : List Str := ["_law_script"]
abbrev n_law : List Str := ["_law_script", "_law_town", "_law_mobile_here", "_law_names_here", "_law_drawn", "_law_found", "_law_book", "_law_most", "_law_name", "_law_one", "_law_other", "_law_often", "_law_great", "_law_mine", "_law_first", "_law_still", "_law_ones"]
theorem sc_law : FnScope n_law p_law (defScope s_law) := ⟨rfl, rfl, rfl, by decide +kernel, rfl, by decide +kernel, by decide +kernel⟩
end My
namespace My
open PySem PySem.Spec PyProof.Rows L2
theorem atI_ints {ns : List Int} {k : Int} (h0 : 0 ≤ k) (h : k < (ns.length : Int)) : ∃ v : Int, atI (ns.map V.int) k = some (.int v) := by
  have hk : k.toNat < ns.length := by omega
  have ek : k = ((k.toNat : Nat) : Int) := by omega
  have q : atI (ns.map V.int) ((k.toNat : Nat) : Int) = some (.int ns[k.toNat]) := atI_nat (by rw [List.getElem?_map, List.getElem?_eq_getElem hk] <;> rfl)
  rw [← ek] at q
  exact ⟨_, q⟩
theorem atI_some {xs : List V} {k : Int} (h0 : 0 ≤ k) (h : k < (xs.length : Int)) : ∃ v, atI xs k = some v ∧ v ∈ xs := by
  have hk : k.toNat < xs.length := by omega
  have ek : k = ((k.toNat : Nat) : Int) := by omega
  have q : atI xs ((k.toNat : Nat) : Int) = some xs[k.toNat] := atI_nat (by rw [List.getElem?_eq_getElem hk])
  rw [← ek] at q
  exact ⟨_, q, List.getElem_mem hk⟩
theorem lay_ints : ∀ ns : List Int, PyData.canLayAll0 (ns.map PyData.int) = true
  | [] => by simp [PyData.canLayAll0]
  | n :: r => by simp [PyData.canLayAll0, PyData.canLay0, lay_ints r]
def NE (K : PySem.W.Frag) (a t : Addr) (xs : List V) : Prop := a ≠ t ∨ ∀ H : Hp, SqL K H a xs
theorem NE.of {K : PySem.W.Frag} {H : Hp} {a t : Addr} {xs : List V} (h : SqL K H a xs) (ht : H t = none) : NE K a t xs := by
  rcases h with h | h
  · left
    rcases h with h | ⟨o, h⟩
    · exact ne_of_none h ht
    · exact ne_of_none h ht
  · exact .inr fun _ => .inr h
theorem _root_.L2.SqL.butN {K : PySem.W.Frag} {H H' : Hp} {t a : Addr} {xs : List V} (h : SqL K H a xs) (k : But t H H') (n : NE K a t xs) : SqL K H' a xs := by
  rcases n with n | n
  · exact h.but k n
  · exact n H'
theorem sz0 : 0 ≤ sizeLine := Nat.zero_le _
section
variable {P : Program} {w : World} {K : PySem.W.Frag} {mg : Str → Option Value} {base : Heap}
def spCell (K : PySem.W.Frag) : Sp := fun vs H Q _ => ∃ (a : Addr) (ns : List Int) (k : Int), vs = [.ref a, .int k] ∧ SqL K H a (ns.map V.int) ∧ 0 ≤ k ∧ ∀ (i : Int) H', Same H H' → Q (.int i) H'
theorem f_cell_at (T : TopD K mg "_law_cell_at" s__law_cell_at p__law_cell_at) (b_len : mg "len" = none) : Fn P w K mg base 1 "_law_cell_at" p__law_cell_at (spCell K) := by
  refine T.fn sc__law_cell_at (fun vs H Q E h => ?_) (fun f cdv A outer s H vs Q E hr h => ?_)
  · obtain ⟨a, ns, k, rfl, _⟩ := h
    rfl
  obtain ⟨a, ns, k, rfl, hS, hk, q⟩ := h
  refine ⟨_, (pss_cons (ps_if (pt_cmpR op_lt (pv 1) (pe_callB call_len rfl b_len PySem.boot_len (pa_cons (pv 0) pa_nil)) (nomark _)) (pss_one (ps_ret (pe_ix ix_list (pv 0) (pv 1) (fun _ _ => rfl)))) pss_nil)
    (pss_cons (ps_if (pt_cmpR (op_eqD (hu64 hr)) (pv 0) (pe_lst pa_nil) (nomark _)) (pss_one (ps_ret pe_int)) pss_nil)
    (pss_one (ps_ret (pe_op op_add (pe_op op_mul (pe_ix ix_list (pv 0) (pe_op op_mod (pv 1) (pe_callB call_len rfl b_len PySem.boot_len (pa_cons (pv 0) pa_nil))) (fun _ _ => rfl)) pe_int) (pv 1)))))), ?_⟩
  have hl : (ns.map V.int).length = ns.length := List.length_map _
  refine ⟨_, rfl, _, rfl, _, _, rfl, .inl ⟨_, hS, rfl⟩, _, _, rfl, rfl, _, rfl, ?_⟩
  refine ite2 (fun c => ?_) (fun c => ?_)
  · have c' : k < (((ns.map V.int).length : Nat) : Int) := of_decide_eq_true c
    rw [hl] at c'
    obtain ⟨v, hv⟩ := atI_ints hk c'
    exact ⟨_, rfl, _, rfl, a, _, _, _, rfl, rfl, hS, hv, q _ _ (Same.refl _)⟩
  · have c' : ¬ k < (((ns.map V.int).length : Nat) : Int) := of_decide_eq_false (Bool.eq_false_iff.mpr c)
    rw [hl] at c'
    refine ⟨_, rfl, sz0, fun p hp => ?_⟩
    have g1 : Same H (upd H p (.lst [])) := Same.new hp _
    refine ⟨.list (ns.map PyData.int), .list [], .lst (hS.same g1) (DpAll.ints ns), .lst (SqL.of upd_same) .nil, by simpa [PyData.canLay0] using lay_ints ns, by simp [PyData.canLay0, PyData.canLayAll0], by simp [PyData.depth, PyData.depthAll], _, rfl, ?_⟩
    refine ite2 (fun c2 => ?_) (fun c2 => ?_)
    · exact q _ _ g1
    · have hne : 0 < ns.length := by
        cases ns with
        | nil => exact absurd (by simp [PyData.eqv, PyData.eqvAll]) c2
        | cons n r => simp
      have m0 : 0 ≤ k % (ns.length : Int) := Int.emod_nonneg _ (by omega)
      have m1 : k % (ns.length : Int) < (ns.length : Int) := Int.emod_lt_of_pos _ (by omega)
      obtain ⟨v, hv⟩ := atI_ints m0 m1
      refine ⟨_, rfl, _, rfl, _, rfl, _, _, rfl, .inl ⟨_, hS.same g1, rfl⟩, _, _, rfl, rfl, (by rw [hl]; omega), a, _, _, _, rfl, rfl, hS.same g1, (by rw [hl]; exact hv), _, _, rfl, rfl, .inr ⟨by decide, by decide⟩, _, rfl, _, _, rfl, rfl, ?_⟩
      exact q _ _ g1
def spMixed (K : PySem.W.Frag) : Sp := fun vs H Q _ => ∃ (a : Addr) (ns : List Int) (k many : Int), vs = [.ref a, .int k, .int many] ∧ SqL K H a (ns.map V.int) ∧ 0 ≤ k ∧ 0 < many ∧ ∀ (i : Int) H', 0 ≤ i → i < many → Same H H' → Q (.int i) H'
theorem f_mixed (T : TopD K mg "_law_mixed" s__law_mixed p__law_mixed) (F__law_cell_at : Fn P w K mg base 1 "_law_cell_at" p__law_cell_at (spCell K)) : Fn P w K mg base 2 "_law_mixed" p__law_mixed (spMixed K) := by
  refine T.fn sc__law_mixed (fun vs H Q E h => ?_) (fun f cdv A outer s H vs Q E hr h => ?_)
  · obtain ⟨a, ns, k, many, rfl, _⟩ := h
    rfl
  obtain ⟨a, ns, k, many, rfl, hS, hk, hm, q⟩ := h
  have nd := sc__law_mixed.nd
  refine ⟨_, (pss_cons (ps_set (i := 3) nd rfl (by first | exact Or.inl rfl | exact Or.inr rfl) (pe_op op_mod (pe_op op_mul (pe_op op_add (pe_op op_add (pe_callF F__law_cell_at (hr.mono (by omega)) (pa_cons (pv 0) (pa_cons (pv 1) pa_nil))) (pe_op op_mul pe_int (pv 1))) pe_int) pe_int) pe_int))
    (pss_one (ps_ret (pe_op op_mod (pe_op op_mod (pe_op op_add (pe_op op_add (pe_op op_mul (pv 3) (pv 3)) (pe_op op_mul pe_int (pv 3))) (pv 1)) pe_int) (pv 2))))), ?_⟩
  refine ⟨_, rfl, _, rfl, a, ns, k, rfl, hS, hk, fun i H' g1 => ?_⟩
  refine ⟨_, rfl, _, _, rfl, rfl, .inl ⟨by decide, by decide⟩, _, _, rfl, rfl, _, _, rfl, rfl, _, _, rfl, rfl, .inr ⟨by decide, by decide⟩, _, _, rfl, rfl, (by show (0 : Int) < 2147483647; decide), ?_⟩
  have b0 := Int.emod_nonneg ((i + 7919 * k + 1) * 48271) (show (2147483647 : Int) ≠ 0 by decide)
  have b1 := Int.emod_lt_of_pos ((i + 7919 * k + 1) * 48271) (show (0 : Int) < 2147483647 by decide)
  generalize (i + 7919 * k + 1) * 48271 % 2147483647 = d at b0 b1
  refine ⟨_, rfl, _, rfl, _, _, rfl, rfl, .inl ⟨by omega, by omega⟩, _, rfl, _, _, rfl, rfl, .inl ⟨by decide, by decide⟩, _, _, rfl, rfl, _, rfl, _, _, rfl, rfl, _, _, rfl, rfl, (by show (0 : Int) < 2147483629; decide), _, rfl, _, _, rfl, rfl, hm, ?_⟩
  exact q _ _ (Int.emod_nonneg _ (by omega)) (Int.emod_lt_of_pos _ hm) g1
def Tw (H : Hp) (t : Addr) (n : Nat) : Prop := ∃ xs, H t = some (.lst xs) ∧ xs.length ≤ n
def spDraw (K : PySem.W.Frag) : Sp := fun vs H Q _ => ∃ (a t : Addr) (ns : List Int) (n : Nat) (many : Int), vs = [.ref a, .ref t, .int many] ∧ SqL K H a (ns.map V.int) ∧ NE K a t (ns.map V.int) ∧ Tw H t n ∧ n < 1000000 ∧ 0 < many ∧
  ∀ (i : Int) H', 0 ≤ i → i < many → But t H H' → Tw H' t (n + 1) → Q (.int i) H'
theorem f_draw (T : TopD K mg "_law_draw" s__law_draw p__law_draw) (b_len : mg "len" = none) (F__law_mixed : Fn P w K mg base 2 "_law_mixed" p__law_mixed (spMixed K)) : Fn P w K mg base 3 "_law_draw" p__law_draw (spDraw K) := by
  refine T.fn sc__law_draw (fun vs H Q E h => ?_) (fun f cdv A outer s H vs Q E hr h => ?_)
  · obtain ⟨a, t, ns, n, many, rfl, _⟩ := h
    rfl
  obtain ⟨a, t, ns, n, many, rfl, hS, hat, ⟨xs, hx, hn⟩, hlim, hm, q⟩ := h
  refine ⟨_, (pss_cons (ps_expr (pe_bm PySem.F.plainAttrs_list PySem.F.slot_list_append PySem.F.type_list_append mt_append (pv 1) (pa_cons pe_int pa_nil)))
    (pss_one (ps_ret (pe_callF F__law_mixed (hr.mono (by omega)) (pa_cons (pv 0) (pa_cons (pe_callB call_len rfl b_len PySem.boot_len (pa_cons (pv 1) pa_nil)) (pa_cons (pv 2) pa_nil))))))), ?_⟩
  refine ⟨_, rfl, .inl ⟨rfl, _, SqL.of hx⟩, t, xs, _, rfl, rfl, hx, Nat.lt_of_le_of_lt (Nat.le_trans hn (Nat.le_of_lt hlim)) (by decide), ?_⟩
  have hx' : upd H t (.lst (xs ++ [.int 0])) t = some (.lst (xs ++ [.int 0])) := upd_same
  refine ⟨_, rfl, _, rfl, _, _, rfl, .inl ⟨_, SqL.of hx', rfl⟩, _, rfl, a, ns, _, many, rfl, hS.butN But.upd hat, Int.natCast_nonneg _, hm, fun i H' h0 h1 g => ?_⟩
  exact q i H' h0 h1 (But.upd.trans g.but) ⟨_, g _ _ hx', by rw [List.length_append, List.length_singleton]; omega⟩
def spPick (K : PySem.W.Frag) : Sp := fun vs H Q _ => ∃ (a t l : Addr) (ns : List Int) (xs : List V) (n : Nat), vs = [.ref a, .ref t, .ref l] ∧ SqL K H a (ns.map V.int) ∧ NE K a t (ns.map V.int) ∧ l ≠ t ∧ SqL K H l xs ∧ 0 < xs.length ∧ Tw H t n ∧ n < 1000000 ∧
  ∀ (x : V) H', x ∈ xs → But t H H' → Tw H' t (n + 1) → Q x H'
theorem f_pick (T : TopD K mg "_law_pick" s__law_pick p__law_pick) (b_len : mg "len" = none) (F__law_draw : Fn P w K mg base 3 "_law_draw" p__law_draw (spDraw K)) : Fn P w K mg base 4 "_law_pick" p__law_pick (spPick K) := by
  refine T.fn sc__law_pick (fun vs H Q E h => ?_) (fun f cdv A outer s H vs Q E hr h => ?_)
  · obtain ⟨a, t, l, ns, xs, n, rfl, _⟩ := h
    rfl
  obtain ⟨a, t, l, ns, xs, n, rfl, hS, hat, hlt, hL, hp, hT, hlim, q⟩ := h
  refine ⟨_, (pss_one (ps_ret (pe_ix ix_list (pv 2) (pe_callF F__law_draw (hr.mono (by omega)) (pa_cons (pv 0) (pa_cons (pv 1) (pa_cons (pe_callB call_len rfl b_len PySem.boot_len (pa_cons (pv 2) pa_nil)) pa_nil)))) (fun _ _ => rfl)))), ?_⟩
  refine ⟨_, rfl, _, rfl, _, rfl, _, rfl, _, _, rfl, .inl ⟨_, hL, rfl⟩, a, t, ns, n, _, rfl, hS, hat, hT, hlim, by omega, fun i H' h0 h1 g hT' => ?_⟩
  obtain ⟨v, hv, hm⟩ := atI_some (xs := xs) h0 h1
  exact ⟨l, xs, i, v, rfl, rfl, hL.but g hlt, hv, q v H' hm g hT'⟩
end
end My
namespace My
open PySem PySem.Spec PyProof.Rows L2 MA
abbrev M := Mob Str
def wS : Str := "weight"
def rS : Str := "rod"
def mD : M → PyData
  | .wt n => .tuple [.str wS, .str n]
  | .rod l r a b => .tuple [.str rS, .int l, .int r, mD a, mD b]
theorem mD_noL : ∀ m : M, noL (mD m) = true
  | .wt n => by simp [mD, noL, noLs]
  | .rod l r a b => by simp [mD, noL, noLs, mD_noL a, mD_noL b]
theorem mDs_noL : ∀ ms : List M, noLs (ms.map mD) = true
  | [] => by simp [noLs]
  | m :: r => by simp [noLs, mD_noL m, mDs_noL r]
theorem Tw.mono {H : Hp} {t : Addr} {n m : Nat} (h : Tw H t n) (k : n ≤ m) : Tw H t m := by
  obtain ⟨xs, e, l⟩ := h
  exact ⟨xs, e, Nat.le_trans l k⟩
section
variable {P : Program} {w : World} {K : PySem.W.Frag} {mg : Str → Option Value} {base : Heap}
def tm (n : Nat) : Nat := 6 * 2 ^ n - 5
theorem tm_succ (n : Nat) : tm (n + 1) = 2 * tm n + 5 := by unfold tm; rw [Nat.pow_succ]; have := Nat.one_le_two_pow (n := n); omega
theorem tm_pos (n : Nat) : 1 ≤ tm n := by unfold tm; have := Nat.one_le_two_pow (n := n); omega
structure MOk (n : Nat) (xs : List Str) (m : M) : Prop where
  deep : m.deep ≤ n
  arms : m.arms
  names : ∀ x ∈ m.names, x ∈ xs
def spMobile (K : PySem.W.Frag) (n : Nat) : Sp := fun vs H Q _ => ∃ (a t l : Addr) (ns : List Int) (xs : List Str) (n0 : Nat), vs = [.ref a, .ref t, .ref l, .int n] ∧ SqL K H a (ns.map V.int) ∧ NE K a t (ns.map V.int) ∧ l ≠ t ∧ SqL K H l (xs.map V.str) ∧ 0 < xs.length ∧ Tw H t n0 ∧ n0 + tm n ≤ 900000 ∧
  ∀ (v : V) (m : M) H', Dp K H' v (mD m) → MOk n xs m → But t H H' → Tw H' t (n0 + tm n) → Q v H'
theorem f_mobile_step (n : Nat) (T : TopD K mg "_law_mobile" s__law_mobile p__law_mobile) (b_range : mg "range" = none) (F__law_draw : Fn P w K mg base 3 "_law_draw" p__law_draw (spDraw K)) (F__law_pick : Fn P w K mg base 4 "_law_pick" p__law_pick (spPick K))
    (F__law_mobile : Fn P w K mg base (4 + n) "_law_mobile" p__law_mobile (fun vs H Q E => ∃ k, n = k + 1 ∧ spMobile K k vs H Q E)) : Fn P w K mg base (5 + n) "_law_mobile" p__law_mobile (spMobile K n) := by
  rw [show 5 + n = (4 + n) + 1 by omega]
  refine T.fn sc__law_mobile (fun vs H Q E h => ?_) (fun f cdv A outer s H vs Q E hr h => ?_)
  · obtain ⟨a, t, l, ns, xs, n0, rfl, _⟩ := h
    rfl
  obtain ⟨a, t, l, ns, xs, n0, rfl, hS, hat, hlt, hL, hp, hT, hlim, q⟩ := h
  have nd := sc__law_mobile.nd
  have ndc2 : ((["_law_k"] : List Str) ++ (["_law_script", "_law_town"] : List Str)).Nodup := by decide +kernel
  have ndc1 : ((["_law_k"] : List Str) ++ (["_law_script", "_law_town", "_law_names_here", "_law_deep"] : List Str)).Nodup := by decide +kernel
  refine ⟨_, (pss_cons (ps_if (PW.pt (pw_or (pt_cmpR op_eq (pv 3) pe_int (nomark _)) (pw_or1 (pt_cmpR op_eq (pe_callF F__law_draw (hr.mono (by omega)) (pa_cons (pv 0) (pa_cons (pv 1) (pa_cons pe_int pa_nil)))) pe_int (nomark _))))) (pss_one (ps_ret (pe_tup (pa_cons pe_str (pa_cons (pe_callF F__law_pick (hr.mono (by omega)) (pa_cons (pv 0) (pa_cons (pv 1) (pa_cons (pv 2) pa_nil)))) pa_nil))))) pss_nil)
    (pss_cons (ps_comp (i := 4) nd rfl (by first | exact Or.inl rfl | exact Or.inr rfl) (own := ["_law_k"]) (frees := ["_law_script", "_law_town"]) (ix := [0, 1]) (pi_range1 rfl b_range (pa_cons pe_int pa_nil)) (fun c => (pg_name (i := 0) ndc2 rfl (by first | exact Or.inl rfl | exact Or.inr rfl))) (fun c => PIf.nil) (fun c => (pe_op op_add pe_int (pe_callF F__law_draw (hr.mono (by omega)) (pa_cons (pv 1) (pa_cons (pv 2) (pa_cons (pe_callF F__law_pick (hr.mono (by omega)) (pa_cons (pv 1) (pa_cons (pv 2) (pa_cons (pe_lst (pa_cons pe_int (pa_cons pe_int (pa_cons pe_int pa_nil)))) pa_nil)))) pa_nil)))))))
    (pss_cons (ps_comp (i := 5) nd rfl (by first | exact Or.inl rfl | exact Or.inr rfl) (own := ["_law_k"]) (frees := ["_law_script", "_law_town", "_law_names_here", "_law_deep"]) (ix := [0, 1, 2, 3]) (pi_range1 rfl b_range (pa_cons pe_int pa_nil)) (fun c => (pg_name (i := 0) ndc1 rfl (by first | exact Or.inl rfl | exact Or.inr rfl))) (fun c => PIf.nil) (fun c => (pe_callF F__law_mobile (hr.mono (by omega)) (pa_cons (pv 1) (pa_cons (pv 2) (pa_cons (pv 3) (pa_cons (pe_op op_sub (pv 4) pe_int) pa_nil)))))))
    (pss_one (ps_ret (pe_tup (pa_cons pe_str (pa_cons (pe_ix ix_list (pv 4) pe_int (fun _ _ => rfl)) (pa_cons (pe_ix ix_list (pv 4) pe_int (fun _ _ => rfl)) (pa_cons (pe_ix ix_list (pv 5) pe_int (fun _ _ => rfl)) (pa_cons (pe_ix ix_list (pv 5) pe_int (fun _ _ => rfl)) pa_nil))))))))))), ?_⟩
  have tp := tm_pos n
  have leaf : ∀ {x : V} {H1 : Hp}, x ∈ xs.map V.str → But t H H1 → Tw H1 t (n0 + tm n) → ∀ p, H1 p = none → Q (.ref p) (upd H1 p (.tup [.str wS, x])) := fun {x H1} hx g hT1 p hp => by
    obtain ⟨y, hy, rfl⟩ := List.mem_map.mp hx
    refine q (.ref p) (.wt y) _ (.tup (SqT.of upd_same) (.cons (.str _) (.cons (.str _) .nil))) ⟨Nat.zero_le _, trivial, fun z hz => ?_⟩ (g.trans (Same.new hp _).but) ?_
    · have : z = y := by simpa [Mob.names] using hz
      rw [this]; exact hy
    · obtain ⟨ys, e, hl⟩ := hT1
      exact ⟨ys, Same.new hp _ _ _ e, hl⟩
  refine ⟨_, rfl, rfl, _, rfl, ?_⟩
  refine ite2 (fun c => ?_) (fun c => ?_)
  · refine iteT ?_
    refine ⟨_, rfl, _, rfl, _, rfl, a, t, l, ns, xs.map V.str, n0, rfl, hS, hat, hlt, hL, (by rw [List.length_map]; exact hp), hT, (by omega), fun x H1 hx g hT1 => ?_⟩
    exact ⟨(by show 2 ≤ sizeLine; decide), fun p hp => leaf hx g (hT1.mono (by omega)) p hp⟩
  · have hn0 : n ≠ 0 := fun z => c (decide_eq_true (by rw [z]; rfl))
    obtain ⟨k, rfl⟩ : ∃ k, n = k + 1 := ⟨n - 1, by omega⟩
    have tk := tm_succ k
    have tkp := tm_pos k
    refine ⟨_, rfl, _, rfl, a, t, ns, n0, 4, rfl, hS, hat, hT, (by omega), by decide, fun d H1 d0 d1 g1 hT1 => ?_⟩
    refine ⟨rfl, _, rfl, ?_⟩
    refine ite2 (fun c2 => ?_) (fun c2 => ?_)
    · refine ⟨_, rfl, _, rfl, _, rfl, a, t, l, ns, xs.map V.str, n0 + 1, rfl, hS.butN g1 hat, hat, hlt, hL.but g1 hlt, (by rw [List.length_map]; exact hp), hT1, (by omega), fun x H2 hx g2 hT2 => ?_⟩
      exact ⟨(by show 2 ≤ sizeLine; decide), fun p hp => leaf hx (g1.trans g2) (hT2.mono (by omega)) p hp⟩
    · refine ⟨2, rfl, by decide, by decide, fun cp acc hacc => ?_⟩
      have hta : t ≠ acc := by
        obtain ⟨ys, e, _⟩ := hT1
        exact ne_of_none e hacc
      refine comp_range (lo := 0) (n := 2) (fun i ys H2 => ∃ as : List Int, ys = as.map V.int ∧ as.length = i ∧ (∀ x ∈ as, 1 ≤ x ∧ x ≤ 9) ∧ H2 acc = some (.lst ys) ∧ But t H1 H2 ∧ Tw H2 t (n0 + 1 + 2 * i)) ?_ ?_ ?_ ?_
      · exact ⟨[], rfl, rfl, by simp, upd_same, (Same.new hacc _).but, by
          obtain ⟨ys, e, hl⟩ := hT1
          exact ⟨ys, Same.new hacc _ _ _ e, hl⟩⟩
      · rintro i ys H2 _ ⟨as, _, _, _, h, _⟩
        exact h
      · rintro i ys H2 hi ⟨as, rfl, hal, hab, hacc2, g2, hT2⟩
        refine ⟨.own (.keep (.keep .nil)), iteT ?_⟩
        refine ⟨_, rfl, _, rfl, _, rfl, _, rfl, (by show 3 ≤ sizeLine; decide), fun p hp3 => ?_⟩
        have gp : Same H2 (upd H2 p (.lst [.int 2, .int 3, .int 9])) := Same.new hp3 _
        have htp : p ≠ t := by
          obtain ⟨zs, e, _⟩ := hT2
          exact (ne_of_none e hp3).symm
        have hTp : Tw (upd H2 p (.lst [.int 2, .int 3, .int 9])) t (n0 + 1 + 2 * i) := by
          obtain ⟨zs, e, hl⟩ := hT2
          exact ⟨zs, gp _ _ e, hl⟩
        refine ⟨a, t, p, ns, _, n0 + 1 + 2 * i, rfl, ((hS.butN g1 hat).butN g2 hat).same gp, hat, htp, SqL.of upd_same, by decide, hTp, (by omega), fun x H3 hx g3 hT3 => ?_⟩
        have hx' : ∃ mx : Int, x = .int mx ∧ 0 < mx ∧ mx ≤ 9 := by
          simp only [List.mem_cons, List.not_mem_nil, or_false] at hx
          rcases hx with rfl | rfl | rfl
          · exact ⟨2, rfl, by decide, by decide⟩
          · exact ⟨3, rfl, by decide, by decide⟩
          · exact ⟨9, rfl, by decide, by decide⟩
        obtain ⟨mx, rfl, m0, m9⟩ := hx'
        refine ⟨a, t, ns, n0 + 1 + 2 * i + 1, mx, rfl, (((hS.butN g1 hat).butN g2 hat).same gp).butN g3 hat, hat, hT3, (by omega), m0, fun y H4 y0 y1 g4 hT4 => ?_⟩
        have gg : But t H2 H4 := (gp.but (t := t)).trans (g3.trans g4)
        have hacc4 : H4 acc = some (.lst (as.map V.int)) := gg _ _ hta.symm hacc2
        refine ⟨_, _, rfl, rfl, hacc4, (by rw [List.length_map, hal]; exact Nat.lt_of_lt_of_le hi (by decide)), as ++ [1 + y], by simp, by simp [hal], fun z hz => ?_, upd_same, fun b o hb e => ?_, ?_⟩
        · rcases List.mem_append.mp hz with h | h
          · exact hab z h
          · have : z = 1 + y := by simpa using h
            omega
        · rw [upd_ne (ne_of_none e hacc)]
          exact gg b o hb (g2 b o hb e)
        · obtain ⟨zs, e, hl⟩ := hT4
          exact ⟨zs, by rw [upd_ne hta]; exact e, by omega⟩
      · rintro ys H2 ⟨as, rfl, hal, hab, hacc2, g2, hT2⟩
        obtain ⟨a0, a1, rfl⟩ : ∃ a0 a1, as = [a0, a1] := by
          match as, hal with
          | [x, y], _ => exact ⟨x, y, rfl⟩
        have ha0 := hab a0 (by simp)
        have ha1 := hab a1 (by simp)
        refine ⟨2, rfl, by decide, by decide, fun cp2 acc2 hacc2' => ?_⟩
        have hta2 : t ≠ acc2 := by
          obtain ⟨zs, e, _⟩ := hT2
          exact ne_of_none e hacc2'
        refine comp_range (lo := 0) (n := 2) (fun i ys H3 => ∃ ms : List M, DpAll K H3 ys (ms.map mD) ∧ ms.length = i ∧ (∀ m ∈ ms, MOk k xs m) ∧ H3 acc2 = some (.lst ys) ∧ But t H2 H3 ∧ Tw H3 t (n0 + 5 + i * tm k)) ?_ ?_ ?_ ?_
        · exact ⟨[], .nil, rfl, by simp, upd_same, (Same.new hacc2' _).but, by
            obtain ⟨zs, e, hl⟩ := hT2
            exact ⟨zs, Same.new hacc2' _ _ _ e, by omega⟩⟩
        · rintro i ys H3 _ ⟨ms, _, _, _, h, _⟩
          exact h
        · rintro i ys H3 hi ⟨ms, hms, hml, hok, hacc3, g3, hT3⟩
          refine ⟨.own (.keep (.keep (.keep (.keep .nil)))), iteT ?_⟩
          have hit : i * tm k ≤ 1 * tm k := Nat.mul_le_mul_right _ (by omega)
          refine ⟨_, rfl, _, rfl, _, rfl, _, rfl, _, _, rfl, rfl, k, rfl, a, t, l, ns, xs, n0 + 5 + i * tm k, ?_, ((hS.butN g1 hat).butN g2 hat).butN g3 hat, hat, hlt, ((hL.but g1 hlt).but g2 hlt).but g3 hlt, hp, hT3, (by omega), fun v m H4 hD hM g4 hT4 => ?_⟩
          · show [V.ref a, V.ref t, V.ref l, V.int (((k + 1 : Nat) : Int) - 1)] = _
            rw [show (((k + 1 : Nat) : Int) - 1) = (k : Int) by omega]
          obtain ⟨zs, et, hz⟩ := hT3
          have hacc4 : H4 acc2 = some (.lst ys) := g4 _ _ hta2.symm hacc3
          have hl4 := hms.len
          rw [List.length_map] at hl4
          refine ⟨hacc4, Nat.lt_of_lt_of_le (show ys.length < 2 by omega) (by decide), ms ++ [m], ?_, by simp [hml], fun z hz => ?_, upd_same, fun b o hb e => ?_, ?_⟩
          · rw [List.map_append]
            have d1 : DpAll K H4 (ys ++ [v]) (ms.map mD ++ [m].map mD) := (DpAll.but g4 et _ _ (mDs_noL ms) hms).app (.cons hD .nil)
            rw [← List.map_append] at d1 ⊢
            exact DpAll.but But.upd hacc4 _ _ (mDs_noL _) d1
          · rcases List.mem_append.mp hz with h | h
            · exact hok z h
            · have : z = m := by simpa using h
              rw [this]; exact hM
          · rw [upd_ne (ne_of_none e hacc2')]
            exact g4 b o hb (g3 b o hb e)
          · obtain ⟨us, e, hl⟩ := hT4
            refine ⟨us, by rw [upd_ne hta2]; exact e, ?_⟩
            rw [Nat.add_mul, Nat.one_mul]
            omega
        · rintro ys H3 ⟨ms, hms, hml, hok, hacc3, g3, hT3⟩
          obtain ⟨m0, m1, rfl⟩ : ∃ m0 m1, ms = [m0, m1] := by
            match ms, hml with
            | [x, y], _ => exact ⟨x, y, rfl⟩
          obtain ⟨v0, r0, rfl, hv0, hr0⟩ := hms.consI
          obtain ⟨v1, r1, rfl, hv1, hr1⟩ := hr0.consI
          have e1 := hr1.nilI
          subst e1
          have hac : H3 acc = some (.lst ([a0, a1].map V.int)) := g3 _ _ hta.symm hacc2
          refine ⟨_, rfl, acc, _, _, _, rfl, rfl, SqL.of hac, atI_nat (j := 0) rfl, _, rfl, acc, _, _, _, rfl, rfl, SqL.of hac, atI_nat (j := 1) rfl, _, rfl, acc2, _, _, _, rfl, rfl, SqL.of hacc3, atI_nat (j := 0) rfl, _, rfl, acc2, _, _, _, rfl, rfl, SqL.of hacc3, atI_nat (j := 1) rfl,
            (by show 5 ≤ sizeLine; decide), fun p hp => ?_⟩
          have gp := Same.new hp (.tup [.str rS, .int a0, .int a1, v0, v1])
          have o0 := hok m0 (by simp)
          have o1 := hok m1 (by simp)
          refine q (.ref p) (.rod a0 a1 m0 m1) _ (.tup (SqT.of upd_same) (.cons (.str _) (.cons (.int _) (.cons (.int _) (.cons (Dp.same gp _ _ hv0) (.cons (Dp.same gp _ _ hv1) .nil)))))) ⟨?_, ?_, ?_⟩ (g1.trans (g2.trans (g3.trans gp.but))) ?_
          · show max m0.deep m1.deep + 1 ≤ k + 1
            have := o0.deep
            have := o1.deep
            omega
          · exact ⟨ha0.1, ha0.2, ha1.1, ha1.2, o0.arms, o1.arms⟩
          · intro z hz
            rcases List.mem_append.mp (show z ∈ m0.names ++ m1.names from hz) with h | h
            · exact o0.names z h
            · exact o1.names z h
          · obtain ⟨us, e, hl⟩ := hT3
            exact ⟨us, gp _ _ e, by omega⟩
theorem f_mobile (T : TopD K mg "_law_mobile" s__law_mobile p__law_mobile) (b_range : mg "range" = none) (Fd : Fn P w K mg base 3 "_law_draw" p__law_draw (spDraw K)) (Fp : Fn P w K mg base 4 "_law_pick" p__law_pick (spPick K)) :
    ∀ n : Nat, Fn P w K mg base (5 + n) "_law_mobile" p__law_mobile (spMobile K n)
  | 0 => f_mobile_step 0 T b_range Fd Fp (T.none fun vs H Q E h => by obtain ⟨k, e, _⟩ := h; omega)
  | n + 1 => f_mobile_step (n + 1) T b_range Fd Fp (((f_mobile T b_range Fd Fp n).mono (by omega)).imp fun vs H Q E h => by
      obtain ⟨k, e, h⟩ := h
      have : k = n := by omega
      subst this
      exact h)
end
end My
namespace My
open PySem PySem.Spec PyProof.Rows L2 MA
structure NameOk (x : Str) : Prop where
  lo : 1 ≤ x.length
  hi : x.length ≤ 3
  az : ∀ c ∈ x.cps.toList, 97 ≤ c ∧ c ≤ 122
def abc : Str := "abcdefghijklmnopqrstuvwxyz"
theorem abc_size : abc.cps.toList.length = 26 := by decide +kernel
theorem abc_all : abc.cps.toList.all (fun c => decide (97 ≤ c ∧ c ≤ 122)) = true := by decide +kernel
theorem abc_len : abc.length ≤ sizeLine := by
  have : abc.length = 26 := by decide +kernel
  rw [this]; decide
theorem abc_at {i : Int} (h0 : 0 ≤ i) (h : i < 26) : ∃ c, atI abc.cps.toList i = some c ∧ 97 ≤ c ∧ c ≤ 122 := by
  have hk : i.toNat < abc.cps.toList.length := by rw [abc_size]; omega
  have ek : i = ((i.toNat : Nat) : Int) := by omega
  have q : atI abc.cps.toList ((i.toNat : Nat) : Int) = some (abc.cps.toList[i.toNat]) := atI_nat (by rw [List.getElem?_eq_getElem hk])
  rw [← ek] at q
  exact ⟨_, q, of_decide_eq_true (List.all_eq_true.mp abc_all _ (List.getElem_mem hk))⟩
theorem app_len (x y : Str) : (x ++ y).length = x.length + y.length := by
  show (x.cps ++ y.cps).size = x.cps.size + y.cps.size
  simp
theorem app_cps (x y : Str) : (x ++ y).cps.toList = x.cps.toList ++ y.cps.toList := by
  show (x.cps ++ y.cps).toList = _
  simp
theorem az_app {x : Str} {c : Nat} (h : ∀ c ∈ x.cps.toList, 97 ≤ c ∧ c ≤ 122) (hc : 97 ≤ c ∧ c ≤ 122) : ∀ d ∈ (x ++ (⟨#[c]⟩ : Str)).cps.toList, 97 ≤ d ∧ d ≤ 122 := fun d hd => by
  rw [app_cps] at hd
  rcases List.mem_append.mp hd with h1 | h1
  · exact h d h1
  · have : d = c := by simpa using h1
    omega
theorem empty_az : ∀ c ∈ ("" : Str).cps.toList, 97 ≤ c ∧ c ≤ 122 := by
  have e : ("" : Str).cps.toList = [] := by decide +kernel
  rw [e]
  intro c hc
  cases hc
theorem letters_ok : ([ ("a" : Str), "b", "c", "d", "e", "f"]).all (fun x => decide (x.length = 1) && x.cps.toList.all (fun c => decide (97 ≤ c ∧ c ≤ 122))) = true := by decide +kernel
section
variable {P : Program} {w : World} {K : PySem.W.Frag} {mg : Str → Option Value} {base : Heap}
def spNames (K : PySem.W.Frag) : Sp := fun vs H Q _ => ∃ (a t : Addr) (ns : List Int) (n0 many : Nat), vs = [.ref a, .ref t, .int many] ∧ SqL K H a (ns.map V.int) ∧ NE K a t (ns.map V.int) ∧ Tw H t n0 ∧ n0 + 6 * many ≤ 900000 ∧ many ≤ 1000 ∧
  ∀ (l : Addr) (xs : List Str) H', H l = none → H' l = some (.lst (xs.map V.str)) → xs.length = many → (∀ x ∈ xs, NameOk x) → But t H H' → Tw H' t (n0 + 6 * many) → Q (.ref l) H'
theorem f_names (T : TopD K mg "_law_names" s__law_names p__law_names) (b_range : mg "range" = none) (F__law_draw : Fn P w K mg base 3 "_law_draw" p__law_draw (spDraw K)) (F__law_pick : Fn P w K mg base 4 "_law_pick" p__law_pick (spPick K)) :
    Fn P w K mg base 5 "_law_names" p__law_names (spNames K) := by
  refine T.fn sc__law_names (fun vs H Q E h => ?_) (fun f cdv A outer s H vs Q E hr h => ?_)
  · obtain ⟨a, t, ns, n0, many, rfl, _⟩ := h
    rfl
  obtain ⟨a, t, ns, n0, many, rfl, hS, hat, hT, hlim, hmany, q⟩ := h
  have nd := sc__law_names.nd
  refine ⟨_, (pss_cons (ps_set (i := 3) nd rfl (by first | exact Or.inl rfl | exact Or.inr rfl) (pe_lst pa_nil))
    (pss_cons (ps_for PassesOwn.never rfl (pi_range1 rfl b_range (pa_cons (pv 2) pa_nil)) (pg_name (i := 4) nd rfl (by first | exact Or.inl rfl | exact Or.inr rfl)) (pss_cons (ps_set (i := 5) nd rfl (by first | exact Or.inl rfl | exact Or.inr rfl) (pe_callF F__law_pick (hr.mono (by omega)) (pa_cons (pv 0) (pa_cons (pv 1) (pa_cons (pe_lst (pa_cons pe_str (pa_cons pe_str (pa_cons pe_str (pa_cons pe_str (pa_cons pe_str (pa_cons pe_str pa_nil))))))) pa_nil)))))
    (pss_cons (ps_if (pt_cmpR op_eq (pe_callF F__law_draw (hr.mono (by omega)) (pa_cons (pv 0) (pa_cons (pv 1) (pa_cons pe_int pa_nil)))) pe_int (nomark _)) (pss_cons (ps_set (i := 5) nd rfl (by first | exact Or.inl rfl | exact Or.inr rfl) pe_str)
    (pss_one (ps_for PassesOwn.never rfl (pi_range1 rfl b_range (pa_cons (pe_op op_add pe_int (pe_callF F__law_draw (hr.mono (by omega)) (pa_cons (pv 0) (pa_cons (pv 1) (pa_cons pe_int pa_nil))))) pa_nil)) (pg_name (i := 6) nd rfl (by first | exact Or.inl rfl | exact Or.inr rfl)) (pss_one (ps_set (i := 5) nd rfl (by first | exact Or.inl rfl | exact Or.inr rfl) (pe_op op_add_str (pv 5) (pe_ix ix_str pe_str (pe_callF F__law_draw (hr.mono (by omega)) (pa_cons (pv 0) (pa_cons (pv 1) (pa_cons pe_int pa_nil)))) (fun _ _ => rfl)))))))) pss_nil)
    (pss_one (ps_expr (pe_bm PySem.F.plainAttrs_list PySem.F.slot_list_append PySem.F.type_list_append mt_append (pv 3) (pa_cons (pv 5) pa_nil)))))))
    (pss_one (ps_ret (pv 3))))), ?_⟩
  refine ⟨sz0, fun l hl => ?_⟩
  have htl : t ≠ l := by
    obtain ⟨ys, e, _⟩ := hT
    exact ne_of_none e hl
  refine ⟨_, rfl, many, rfl, by omega, by omega, ?_⟩
  rw [show ((many : Int)).toNat = many from Int.toNat_natCast many]
  refine for_range (lo := 0) (n := many) (fun i σ H1 => ∃ (xs : List Str) (o4 o5 o6 : Option V), σ = [some (.ref a), some (.ref t), some (.int many), some (.ref l), o4, o5, o6] ∧ H1 l = some (.lst (xs.map V.str)) ∧ xs.length = i ∧ (∀ x ∈ xs, NameOk x) ∧ But t H H1 ∧ Tw H1 t (n0 + 6 * i)) ?_ ?_ ?_
  · exact ⟨[], none, none, none, rfl, upd_same, rfl, by simp, (Same.new hl _).but, by
      obtain ⟨ys, e, h⟩ := hT
      exact ⟨ys, Same.new hl _ _ _ e, by omega⟩⟩
  · rintro i σ H1 hi ⟨xs, o4, o5, o6, rfl, hx, hxl, hok, g1, hT1⟩
    have xlen : (xs.map V.str).length < sizeLine := by
      rw [List.length_map, hxl]
      exact small1000 (by omega)
    have kl : ∀ {H2 : Hp}, But t H1 H2 → H2 l = some (.lst (xs.map V.str)) := fun g => g _ _ htl.symm hx
    have fin : ∀ {y : Str} {o4 o6 : Option V} {H2 : Hp}, NameOk y → But t H1 H2 → Tw H2 t (n0 + 6 * i + 6) → ∃ (xs' : List Str) (p4 p5 p6 : Option V), [some (V.ref a), some (V.ref t), some (V.int many), some (V.ref l), o4, some (V.str y), o6] = [some (.ref a), some (.ref t), some (.int many), some (.ref l), p4, p5, p6] ∧
        upd H2 l (.lst (xs.map V.str ++ [.str y])) l = some (.lst (xs'.map V.str)) ∧ xs'.length = i + 1 ∧ (∀ x ∈ xs', NameOk x) ∧ But t H (upd H2 l (.lst (xs.map V.str ++ [.str y]))) ∧ Tw (upd H2 l (.lst (xs.map V.str ++ [.str y]))) t (n0 + 6 * (i + 1)) := fun {y o4 o6 H2} hy g2 hT2 => by
      refine ⟨xs ++ [y], _, _, _, rfl, by rw [upd_same]; simp, by simp [hxl], fun z hz => ?_, fun b o hb e => ?_, ?_⟩
      · rcases List.mem_append.mp hz with h | h
        · exact hok z h
        · have : z = y := by simpa using h
          rw [this]; exact hy
      · rw [upd_ne (ne_of_none e hl)]
        exact g2 b o hb (g1 b o hb e)
      · obtain ⟨ys, e, h⟩ := hT2
        exact ⟨ys, by rw [upd_ne htl]; exact e, by omega⟩
    refine ⟨_, rfl, _, rfl, (by show 6 ≤ sizeLine; decide), fun p hp => ?_⟩
    have gp := Same.new hp (.lst [.str "a", .str "b", .str "c", .str "d", .str "e", .str "f"])
    have htp : p ≠ t := by
      obtain ⟨ys, e, _⟩ := hT1
      exact (ne_of_none e hp).symm
    have hTp : Tw (upd H1 p (.lst [.str "a", .str "b", .str "c", .str "d", .str "e", .str "f"])) t (n0 + 6 * i) := by
      obtain ⟨ys, e, h⟩ := hT1
      exact ⟨ys, gp _ _ e, h⟩
    refine ⟨a, t, p, ns, _, n0 + 6 * i, rfl, (hS.butN g1 hat).same gp, hat, htp, SqL.of upd_same, by decide, hTp, (by omega), fun x H2 hx2 g2 hT2 => ?_⟩
    have hx2' : ∃ y : Str, x = .str y ∧ NameOk y := by
      have hm : ∃ y ∈ ([("a" : Str), "b", "c", "d", "e", "f"]), x = .str y := by
        simp only [List.mem_cons, List.not_mem_nil, or_false] at hx2 ⊢
        rcases hx2 with h | h | h | h | h | h
        · exact ⟨_, .inl rfl, h⟩
        · exact ⟨_, .inr (.inl rfl), h⟩
        · exact ⟨_, .inr (.inr (.inl rfl)), h⟩
        · exact ⟨_, .inr (.inr (.inr (.inl rfl))), h⟩
        · exact ⟨_, .inr (.inr (.inr (.inr (.inl rfl)))), h⟩
        · exact ⟨_, .inr (.inr (.inr (.inr (.inr rfl)))), h⟩
      obtain ⟨y, hy, e⟩ := hm
      have := List.all_eq_true.mp letters_ok y hy
      rw [Bool.and_eq_true] at this
      have l1 := of_decide_eq_true this.1
      exact ⟨y, e, by omega, by omega, fun c hc => of_decide_eq_true (List.all_eq_true.mp this.2 c hc)⟩
    obtain ⟨y, rfl, hy⟩ := hx2'
    have gg2 : But t H1 H2 := gp.but.trans g2
    refine ⟨_, rfl, _, rfl, a, t, ns, n0 + 6 * i + 1, 4, rfl, (hS.butN g1 hat).butN gg2 hat, hat, hT2, (by omega), by decide, fun d H3 d0 d1 g3 hT3 => ?_⟩
    have gg3 : But t H1 H3 := gg2.trans g3
    refine ⟨rfl, _, rfl, ?_⟩
    refine ite2 (fun c => ?_) (fun c => ?_)
    · -- letter by letter
      refine ⟨_, rfl, _, rfl, a, t, ns, n0 + 6 * i + 2, 3, rfl, (hS.butN g1 hat).butN gg3 hat, hat, hT3, (by omega), by decide, fun e H4 e0 e1 g4 hT4 => ?_⟩
      have gg4 : But t H1 H4 := gg3.trans g4
      refine ⟨_, _, rfl, rfl, 1 + e, rfl, by omega, by omega, ?_⟩
      obtain ⟨m, hm⟩ : ∃ m : Nat, (1 + e).toNat = m := ⟨_, rfl⟩
      rw [hm]
      refine for_range (lo := 0) (n := m) (fun j σ H5 => ∃ (y : Str) (o6 : Option V), σ = [some (.ref a), some (.ref t), some (.int many), some (.ref l), some (.int (0 + (i : Int))), some (.str y), o6] ∧ y.length = j ∧ (∀ c ∈ y.cps.toList, 97 ≤ c ∧ c ≤ 122) ∧ But t H1 H5 ∧ Tw H5 t (n0 + 6 * i + 3 + j)) ?_ ?_ ?_
      · exact ⟨"", o6, rfl, by decide +kernel, empty_az, gg4, hT4⟩
      · rintro j σ H5 hj ⟨z, o6, rfl, hzl, haz, g5, hT5⟩
        refine ⟨_, rfl, _, rfl, _, rfl, a, t, ns, n0 + 6 * i + 3 + j, 26, rfl, (hS.butN g1 hat).butN g5 hat, hat, hT5, (by omega), by decide, fun r H6 r0 r1 g6 hT6 => ?_⟩
        obtain ⟨ch, hch, hc1⟩ := abc_at r0 r1
        refine ⟨abc, r, ch, rfl, rfl, abc_len, hch, _, _, rfl, rfl, ?_, ?_⟩
        · show z.length + 1 ≤ sizeLine
          rw [hzl]
          exact Nat.le_of_lt (small1000 (by omega))
        · exact ⟨_, _, rfl, by rw [app_len, hzl]; rfl, az_app haz hc1, g5.trans g6, hT6⟩
      · rintro σ H5 ⟨z, o6, rfl, hzl, haz, g5, hT5⟩
        refine ⟨_, rfl, .inl ⟨rfl, _, SqL.of (kl g5)⟩, _, rfl, l, _, _, rfl, rfl, kl g5, xlen, ?_⟩
        exact fin ⟨by omega, by omega, haz⟩ g5 (hT5.mono (by omega))
    · refine ⟨_, rfl, .inl ⟨rfl, _, SqL.of (kl gg3)⟩, _, rfl, l, _, _, rfl, rfl, kl gg3, xlen, ?_⟩
      exact fin hy gg3 (hT3.mono (by omega))
  · rintro σ H1 ⟨xs, o4, o5, o6, rfl, hx, hxl, hok, g1, hT1⟩
    exact ⟨_, rfl, q l xs H1 hl hx hxl hok g1 hT1⟩
end
end My
namespace My
open PySem PySem.Spec PyProof.Rows L2 MA
def But2 (t c : Addr) (H H' : Hp) : Prop := ∀ b o, b ≠ t → b ≠ c → H b = some o → H' b = some o
theorem But2.refl {t c : Addr} {H : Hp} : But2 t c H H := fun _ _ _ _ h => h
theorem But2.trans {t c : Addr} {H1 H2 H3 : Hp} (a : But2 t c H1 H2) (b : But2 t c H2 H3) : But2 t c H1 H3 := fun x o h1 h2 h => b x o h1 h2 (a x o h1 h2 h)
theorem But2.of1 {t c : Addr} {H H' : Hp} (g : But t H H') : But2 t c H H' := fun b o h1 _ h => g b o h1 h
theorem But2.of2 {t c : Addr} {H H' : Hp} (g : But c H H') : But2 t c H H' := fun b o _ h2 h => g b o h2 h
theorem SqL.but2 {K : PySem.W.Frag} {H H' : Hp} {t c a : Addr} {xs : List V} (k : But2 t c H H') (h1 : a ≠ t) (h2 : a ≠ c) (h : SqL K H a xs) : SqL K H' a xs := by
  rcases h with h | h
  · rcases h with h | ⟨o, h⟩
    · exact .inl (.inl (k _ _ h1 h2 h))
    · exact .inl (.inr ⟨o, k _ _ h1 h2 h⟩)
  · exact .inr h
theorem SqL.but2N {K : PySem.W.Frag} {H H' : Hp} {t c a : Addr} {xs : List V} (k : But2 t c H H') (h1 : NE K a t xs) (h2 : NE K a c xs) (h : SqL K H a xs) : SqL K H' a xs := by
  rcases h1 with h1 | h1
  · rcases h2 with h2 | h2
    · exact SqL.but2 k h1 h2 h
    · exact h2 H'
  · exact h1 H'
theorem DpAll.but2 {K : PySem.W.Frag} {H H' : Hp} {t c : Addr} {ys zs : List V} (k : But2 t c H H') (htc : t ≠ c) (ht : H t = some (.lst ys)) (hc : H c = some (.lst zs)) (ds : List PyData) (vs : List V) (n : noLs ds = true) (h : DpAll K H vs ds) : DpAll K H' vs ds := by
  have g1 : But t H (fun b => if b = c then H c else H' b) := fun b o hb e => by
    show (if b = c then H c else H' b) = some o
    by_cases z : b = c
    · rw [if_pos z, ← z]; exact e
    · rw [if_neg z]; exact k b o hb z e
  have g2 : But c (fun b => if b = c then H c else H' b) H' := fun b o hb e => by
    have e' : (if b = c then H c else H' b) = some o := e
    rw [if_neg hb] at e'
    exact e'
  exact DpAll.but g2 (show (if c = c then H c else H' c) = _ by rw [if_pos rfl]; exact hc) ds vs n (DpAll.but g1 ht ds vs n h)
def xyz : Str := "xyz"
theorem xyz_size : xyz.cps.toList.length = 3 := by decide +kernel
theorem xyz_all : xyz.cps.toList.all (fun c => decide (97 ≤ c ∧ c ≤ 122)) = true := by decide +kernel
theorem xyz_len : xyz.length ≤ sizeLine := by
  have : xyz.length = 3 := by decide +kernel
  rw [this]; decide
theorem xyz_at {i : Int} (h0 : 0 ≤ i) (h : i < 3) : ∃ c, atI xyz.cps.toList i = some c ∧ 97 ≤ c ∧ c ≤ 122 := by
  have hk : i.toNat < xyz.cps.toList.length := by rw [xyz_size]; omega
  have ek : i = ((i.toNat : Nat) : Int) := by omega
  have q : atI xyz.cps.toList ((i.toNat : Nat) : Int) = some (xyz.cps.toList[i.toNat]) := atI_nat (by rw [List.getElem?_eq_getElem hk])
  rw [← ek] at q
  exact ⟨_, q, of_decide_eq_true (List.all_eq_true.mp xyz_all _ (List.getElem_mem hk))⟩
structure UOk (n : Nat) (m : M) : Prop where
  deep : m.deep ≤ n
  arms : m.arms
  names : ∀ x ∈ m.names, NameOk x
section
variable {P : Program} {w : World} {K : PySem.W.Frag} {mg : Str → Option Value} {base : Heap}
def spUnlike (K : PySem.W.Frag) (n : Nat) : Sp := fun vs H Q _ => ∃ (a t c : Addr) (ns : List Int) (n0 c0 : Nat), vs = [.ref a, .ref t, .int n, .ref c] ∧ SqL K H a (ns.map V.int) ∧ NE K a t (ns.map V.int) ∧ NE K a c (ns.map V.int) ∧ t ≠ c ∧ Tw H t n0 ∧ n0 + tm n ≤ 900000 ∧ Tw H c c0 ∧ c0 + 2 ^ n ≤ 77 ∧
  ∀ (v : V) (m : M) H', Dp K H' v (mD m) → UOk n m → But2 t c H H' → Tw H' t (n0 + tm n) → Tw H' c (c0 + 2 ^ n) → Q v H'
theorem f_unlike_step (n : Nat) (T : TopD K mg "_law_unlike" s__law_unlike p__law_unlike) (b_range : mg "range" = none) (b_len : mg "len" = none) (F__law_draw : Fn P w K mg base 3 "_law_draw" p__law_draw (spDraw K)) (F__law_pick : Fn P w K mg base 4 "_law_pick" p__law_pick (spPick K))
    (F__law_unlike : Fn P w K mg base (4 + n) "_law_unlike" p__law_unlike (fun vs H Q E => ∃ k, n = k + 1 ∧ spUnlike K k vs H Q E)) : Fn P w K mg base (5 + n) "_law_unlike" p__law_unlike (spUnlike K n) := by
  rw [show 5 + n = (4 + n) + 1 by omega]
  refine T.fn sc__law_unlike (fun vs H Q E h => ?_) (fun f cdv A outer s H vs Q E hr h => ?_)
  · obtain ⟨a, t, c, ns, n0, c0, rfl, _⟩ := h
    rfl
  obtain ⟨a, t, c, ns, n0, c0, rfl, hS, hat, hac, htc, hT, hlim, hC, hclim, q⟩ := h
  have nd := sc__law_unlike.nd
  have ndc2 : ((["_law_k"] : List Str) ++ (["_law_script", "_law_town"] : List Str)).Nodup := by decide +kernel
  have ndc1 : ((["_law_k"] : List Str) ++ (["_law_script", "_law_town", "_law_count", "_law_deep"] : List Str)).Nodup := by decide +kernel
  refine ⟨_, (pss_cons (ps_if (PW.pt (pw_or (pt_cmpR op_eq (pv 2) pe_int (nomark _)) (pw_or1 (pt_cmpR op_eq (pe_callF F__law_draw (hr.mono (by omega)) (pa_cons (pv 0) (pa_cons (pv 1) (pa_cons pe_int pa_nil)))) pe_int (nomark _))))) (pss_cons (ps_expr (pe_bm PySem.F.plainAttrs_list PySem.F.slot_list_append PySem.F.type_list_append mt_append (pv 3) (pa_cons pe_int pa_nil)))
    (pss_one (ps_ret (pe_tup (pa_cons pe_str (pa_cons (pe_op op_add_str (pe_ix ix_str pe_str (pe_op op_mod (pe_callB call_len rfl b_len PySem.boot_len (pa_cons (pv 3) pa_nil)) pe_int) (fun _ _ => rfl)) (pe_ix ix_str pe_str (pe_op op_fdivL (pe_callB call_len rfl b_len PySem.boot_len (pa_cons (pv 3) pa_nil)) pe_int) (fun _ _ => rfl))) pa_nil)))))) pss_nil)
    (pss_cons (ps_comp (i := 4) nd rfl (by first | exact Or.inl rfl | exact Or.inr rfl) (own := ["_law_k"]) (frees := ["_law_script", "_law_town"]) (ix := [0, 1]) (pi_range1 rfl b_range (pa_cons pe_int pa_nil)) (fun c => (pg_name (i := 0) ndc2 rfl (by first | exact Or.inl rfl | exact Or.inr rfl))) (fun c => PIf.nil) (fun c => (pe_op op_add pe_int (pe_callF F__law_draw (hr.mono (by omega)) (pa_cons (pv 1) (pa_cons (pv 2) (pa_cons (pe_callF F__law_pick (hr.mono (by omega)) (pa_cons (pv 1) (pa_cons (pv 2) (pa_cons (pe_lst (pa_cons pe_int (pa_cons pe_int (pa_cons pe_int pa_nil)))) pa_nil)))) pa_nil)))))))
    (pss_cons (ps_comp (i := 5) nd rfl (by first | exact Or.inl rfl | exact Or.inr rfl) (own := ["_law_k"]) (frees := ["_law_script", "_law_town", "_law_count", "_law_deep"]) (ix := [0, 1, 3, 2]) (pi_range1 rfl b_range (pa_cons pe_int pa_nil)) (fun c => (pg_name (i := 0) ndc1 rfl (by first | exact Or.inl rfl | exact Or.inr rfl))) (fun c => PIf.nil) (fun c => (pe_callF F__law_unlike (hr.mono (by omega)) (pa_cons (pv 1) (pa_cons (pv 2) (pa_cons (pe_op op_sub (pv 4) pe_int) (pa_cons (pv 3) pa_nil)))))))
    (pss_one (ps_ret (pe_tup (pa_cons pe_str (pa_cons (pe_ix ix_list (pv 4) pe_int (fun _ _ => rfl)) (pa_cons (pe_ix ix_list (pv 4) pe_int (fun _ _ => rfl)) (pa_cons (pe_ix ix_list (pv 5) pe_int (fun _ _ => rfl)) (pa_cons (pe_ix ix_list (pv 5) pe_int (fun _ _ => rfl)) pa_nil))))))))))), ?_⟩
  have tp := tm_pos n
  have p2 := Nat.one_le_two_pow (n := n)
  have leaf : ∀ {H1 : Hp}, But2 t c H H1 → Tw H1 t (n0 + tm n) → (∃ xs, H1 c = some (.lst xs) ∧ xs.length ≤ c0) → ∃ xs, H1 c = some (.lst xs) ∧ xs.length ≤ 76 ∧ ∀ (c1 c2 : Nat), 97 ≤ c1 ∧ c1 ≤ 122 → 97 ≤ c2 ∧ c2 ≤ 122 → ∀ p, upd H1 c (.lst (xs ++ [.int 1])) p = none →
      Q (.ref p) (upd (upd H1 c (.lst (xs ++ [.int 1]))) p (.tup [.str wS, .str ((⟨#[c1]⟩ : Str) ++ (⟨#[c2]⟩ : Str))])) := fun {H1} g hT1 hc1 => by
    obtain ⟨xs, ex, hxl⟩ := hc1
    refine ⟨xs, ex, by omega, fun c1 c2 b1 b2 p hp => ?_⟩
    have gp := Same.new hp (.tup [.str wS, .str ((⟨#[c1]⟩ : Str) ++ (⟨#[c2]⟩ : Str))])
    refine q (.ref p) (.wt ((⟨#[c1]⟩ : Str) ++ (⟨#[c2]⟩ : Str))) _ (.tup (SqT.of upd_same) (.cons (.str _) (.cons (.str _) .nil))) ⟨Nat.zero_le _, trivial, fun z hz => ?_⟩ (g.trans ((But2.of2 But.upd).trans (But2.of1 gp.but))) ?_ ?_
    · have : z = (⟨#[c1]⟩ : Str) ++ (⟨#[c2]⟩ : Str) := by simpa [Mob.names] using hz
      rw [this]
      refine ⟨by rw [app_len]; show 1 ≤ 1 + 1; decide, by rw [app_len]; show 1 + 1 ≤ 3; decide, az_app (fun d hd => ?_) b2⟩
      have : d = c1 := by simpa using hd
      rw [this]; exact b1
    · obtain ⟨ys, e, hl⟩ := hT1
      exact ⟨ys, gp _ _ (by rw [upd_ne htc]; exact e), hl⟩
    · exact ⟨_, gp _ _ upd_same, by rw [List.length_append, List.length_singleton]; omega⟩
  refine ⟨_, rfl, rfl, _, rfl, ?_⟩
  refine ite2 (fun cc => ?_) (fun cc => ?_)
  · refine iteT ?_
    obtain ⟨xs, ex, hxl, lf⟩ := leaf But2.refl (hT.mono (by omega)) hC
    obtain ⟨ch, hch, hc1⟩ := abc_at (i := (((xs ++ [V.int 1]).length : Nat) : Int) % 26) (Int.emod_nonneg _ (by decide)) (Int.emod_lt_of_pos _ (by decide))
    have xl : (xs ++ [V.int 1]).length = xs.length + 1 := by rw [List.length_append, List.length_singleton]
    obtain ⟨ch2, hch2, hc2⟩ := xyz_at (i := (((xs ++ [V.int 1]).length : Nat) : Int) / 26) (Int.ediv_nonneg (Int.natCast_nonneg _) (by decide)) (by rw [xl]; omega)
    refine ⟨_, rfl, .inl ⟨rfl, _, SqL.of ex⟩, c, xs, _, rfl, rfl, ex, small1000 (by omega), ?_⟩
    exact ⟨_, rfl, _, _, rfl, .inl ⟨_, SqL.of upd_same, rfl⟩, _, _, rfl, rfl, (by show (0 : Int) < 26; decide), abc, _, ch, rfl, rfl, abc_len, hch, _, rfl, _, _, rfl, .inl ⟨_, SqL.of upd_same, rfl⟩, _, _, rfl, rfl, ⟨by decide, by decide +kernel⟩, xyz, _, ch2, rfl, rfl, xyz_len, hch2, _, _, rfl, rfl,
      (by show 1 + 1 ≤ sizeLine; decide), (by show 2 ≤ sizeLine; decide), fun p hp => lf ch ch2 hc1 hc2 p hp⟩
  · have hn0 : n ≠ 0 := fun z => cc (decide_eq_true (by rw [z]; rfl))
    obtain ⟨k, rfl⟩ : ∃ k, n = k + 1 := ⟨n - 1, by omega⟩
    have tk := tm_succ k
    have tkp := tm_pos k
    have p2k : 2 ^ (k + 1) = 2 ^ k * 2 := Nat.pow_succ 2 k
    have p2p := Nat.one_le_two_pow (n := k)
    refine ⟨_, rfl, _, rfl, a, t, ns, n0, 3, rfl, hS, hat, hT, (by omega), by decide, fun d H1 d0 d1 g1 hT1 => ?_⟩
    have hC1 : Tw H1 c c0 := by
      obtain ⟨ys, e, h⟩ := hC
      exact ⟨ys, g1 _ _ htc.symm e, h⟩
    refine ⟨rfl, _, rfl, ?_⟩
    refine ite2 (fun c2 => ?_) (fun c2 => ?_)
    · obtain ⟨xs, ex, hxl, lf⟩ := leaf (But2.of1 g1) (hT1.mono (by omega)) hC1
      obtain ⟨ch, hch, hc1⟩ := abc_at (i := (((xs ++ [V.int 1]).length : Nat) : Int) % 26) (Int.emod_nonneg _ (by decide)) (Int.emod_lt_of_pos _ (by decide))
      have xl : (xs ++ [V.int 1]).length = xs.length + 1 := by rw [List.length_append, List.length_singleton]
      obtain ⟨ch2, hch2, hc2⟩ := xyz_at (i := (((xs ++ [V.int 1]).length : Nat) : Int) / 26) (Int.ediv_nonneg (Int.natCast_nonneg _) (by decide)) (by rw [xl]; omega)
      refine ⟨_, rfl, .inl ⟨rfl, _, SqL.of ex⟩, c, xs, _, rfl, rfl, ex, small1000 (by omega), ?_⟩
      exact ⟨_, rfl, _, _, rfl, .inl ⟨_, SqL.of upd_same, rfl⟩, _, _, rfl, rfl, (by show (0 : Int) < 26; decide), abc, _, ch, rfl, rfl, abc_len, hch, _, rfl, _, _, rfl, .inl ⟨_, SqL.of upd_same, rfl⟩, _, _, rfl, rfl, ⟨by decide, by decide +kernel⟩, xyz, _, ch2, rfl, rfl, xyz_len, hch2, _, _, rfl, rfl,
        (by show 1 + 1 ≤ sizeLine; decide), (by show 2 ≤ sizeLine; decide), fun p hp => lf ch ch2 hc1 hc2 p hp⟩
    · refine ⟨2, rfl, by decide, by decide, fun cp acc hacc => ?_⟩
      have hta : t ≠ acc := by
        obtain ⟨ys, e, _⟩ := hT1
        exact ne_of_none e hacc
      have hca : c ≠ acc := by
        obtain ⟨ys, e, _⟩ := hC1
        exact ne_of_none e hacc
      refine comp_range (lo := 0) (n := 2) (fun i ys H2 => ∃ as : List Int, ys = as.map V.int ∧ as.length = i ∧ (∀ x ∈ as, 1 ≤ x ∧ x ≤ 9) ∧ H2 acc = some (.lst ys) ∧ But t H1 H2 ∧ Tw H2 t (n0 + 1 + 2 * i)) ?_ ?_ ?_ ?_
      · exact ⟨[], rfl, rfl, by simp, upd_same, (Same.new hacc _).but, by
          obtain ⟨ys, e, hl⟩ := hT1
          exact ⟨ys, Same.new hacc _ _ _ e, hl⟩⟩
      · rintro i ys H2 _ ⟨as, _, _, _, h, _⟩
        exact h
      · rintro i ys H2 hi ⟨as, rfl, hal, hab, hacc2, g2, hT2⟩
        refine ⟨.own (.keep (.keep .nil)), iteT ?_⟩
        refine ⟨_, rfl, _, rfl, _, rfl, _, rfl, (by show 3 ≤ sizeLine; decide), fun p hp3 => ?_⟩
        have gp : Same H2 (upd H2 p (.lst [.int 2, .int 3, .int 9])) := Same.new hp3 _
        have htp : p ≠ t := by
          obtain ⟨zs, e, _⟩ := hT2
          exact (ne_of_none e hp3).symm
        have hTp : Tw (upd H2 p (.lst [.int 2, .int 3, .int 9])) t (n0 + 1 + 2 * i) := by
          obtain ⟨zs, e, hl⟩ := hT2
          exact ⟨zs, gp _ _ e, hl⟩
        refine ⟨a, t, p, ns, _, n0 + 1 + 2 * i, rfl, ((hS.butN g1 hat).butN g2 hat).same gp, hat, htp, SqL.of upd_same, by decide, hTp, (by omega), fun x H3 hx g3 hT3 => ?_⟩
        have hx' : ∃ mx : Int, x = .int mx ∧ 0 < mx ∧ mx ≤ 9 := by
          simp only [List.mem_cons, List.not_mem_nil, or_false] at hx
          rcases hx with rfl | rfl | rfl
          · exact ⟨2, rfl, by decide, by decide⟩
          · exact ⟨3, rfl, by decide, by decide⟩
          · exact ⟨9, rfl, by decide, by decide⟩
        obtain ⟨mx, rfl, m0, m9⟩ := hx'
        refine ⟨a, t, ns, n0 + 1 + 2 * i + 1, mx, rfl, (((hS.butN g1 hat).butN g2 hat).same gp).butN g3 hat, hat, hT3, (by omega), m0, fun y H4 y0 y1 g4 hT4 => ?_⟩
        have gg : But t H2 H4 := (gp.but (t := t)).trans (g3.trans g4)
        have hacc4 : H4 acc = some (.lst (as.map V.int)) := gg _ _ hta.symm hacc2
        refine ⟨_, _, rfl, rfl, hacc4, (by rw [List.length_map, hal]; exact Nat.lt_of_lt_of_le hi (by decide)), as ++ [1 + y], by simp, by simp [hal], fun z hz => ?_, upd_same, fun b o hb e => ?_, ?_⟩
        · rcases List.mem_append.mp hz with h | h
          · exact hab z h
          · have : z = 1 + y := by simpa using h
            omega
        · rw [upd_ne (ne_of_none e hacc)]
          exact gg b o hb (g2 b o hb e)
        · obtain ⟨zs, e, hl⟩ := hT4
          exact ⟨zs, by rw [upd_ne hta]; exact e, by omega⟩
      · rintro ys H2 ⟨as, rfl, hal, hab, hacc2, g2, hT2⟩
        obtain ⟨a0, a1, rfl⟩ : ∃ a0 a1, as = [a0, a1] := by
          match as, hal with
          | [x, y], _ => exact ⟨x, y, rfl⟩
        have ha0 := hab a0 (by simp)
        have ha1 := hab a1 (by simp)
        have hC2 : Tw H2 c c0 := by
          obtain ⟨zs, e, h⟩ := hC1
          exact ⟨zs, g2 _ _ htc.symm e, h⟩
        refine ⟨2, rfl, by decide, by decide, fun cp2 acc2 hacc2' => ?_⟩
        have hta2 : t ≠ acc2 := by
          obtain ⟨zs, e, _⟩ := hT2
          exact ne_of_none e hacc2'
        have hca2 : c ≠ acc2 := by
          obtain ⟨zs, e, _⟩ := hC2
          exact ne_of_none e hacc2'
        refine comp_range (lo := 0) (n := 2) (fun i ys H3 => ∃ ms : List M, DpAll K H3 ys (ms.map mD) ∧ ms.length = i ∧ (∀ m ∈ ms, UOk k m) ∧ H3 acc2 = some (.lst ys) ∧ But2 t c H2 H3 ∧ Tw H3 t (n0 + 5 + i * tm k) ∧ Tw H3 c (c0 + i * 2 ^ k)) ?_ ?_ ?_ ?_
        · refine ⟨[], .nil, rfl, by simp, upd_same, But2.of1 (Same.new hacc2' _).but, ?_, ?_⟩
          · obtain ⟨zs, e, hl⟩ := hT2
            exact ⟨zs, Same.new hacc2' _ _ _ e, by omega⟩
          · obtain ⟨zs, e, hl⟩ := hC2
            exact ⟨zs, Same.new hacc2' _ _ _ e, by omega⟩
        · rintro i ys H3 _ ⟨ms, _, _, _, h, _⟩
          exact h
        · rintro i ys H3 hi ⟨ms, hms, hml, hok, hacc3, g3, hT3, hC3⟩
          refine ⟨.own (.keep (.keep (.keep (.keep .nil)))), iteT ?_⟩
          have hit : i * tm k ≤ 1 * tm k := Nat.mul_le_mul_right _ (by omega)
          have hic : i * 2 ^ k ≤ 1 * 2 ^ k := Nat.mul_le_mul_right _ (by omega)
          refine ⟨_, rfl, _, rfl, _, rfl, _, _, rfl, rfl, _, rfl, k, rfl, a, t, c, ns, n0 + 5 + i * tm k, c0 + i * 2 ^ k, ?_, SqL.but2N g3 hat hac ((hS.butN g1 hat).butN g2 hat), hat, hac, htc, hT3, (by omega), hC3, (by omega), fun v m H4 hD hM g4 hT4 hC4 => ?_⟩
          · show [V.ref a, V.ref t, V.int (((k + 1 : Nat) : Int) - 1), V.ref c] = _
            rw [show (((k + 1 : Nat) : Int) - 1) = (k : Int) by omega]
          obtain ⟨zs, et, hz⟩ := hT3
          obtain ⟨us, ec, hu⟩ := hC3
          have hacc4 : H4 acc2 = some (.lst ys) := g4 _ _ hta2.symm hca2.symm hacc3
          have hl4 := hms.len
          rw [List.length_map] at hl4
          refine ⟨hacc4, Nat.lt_of_lt_of_le (show ys.length < 2 by omega) (by decide), ms ++ [m], ?_, by simp [hml], fun z hz => ?_, upd_same, fun b o hb hb2 e => ?_, ?_, ?_⟩
          · rw [List.map_append]
            have d1 : DpAll K H4 (ys ++ [v]) (ms.map mD ++ [m].map mD) := (DpAll.but2 g4 htc et ec _ _ (mDs_noL ms) hms).app (.cons hD .nil)
            rw [← List.map_append] at d1 ⊢
            exact DpAll.but But.upd hacc4 _ _ (mDs_noL _) d1
          · rcases List.mem_append.mp hz with h | h
            · exact hok z h
            · have : z = m := by simpa using h
              rw [this]; exact hM
          · rw [upd_ne (ne_of_none e hacc2')]
            exact g4 b o hb hb2 (g3 b o hb hb2 e)
          · obtain ⟨us, e, hl⟩ := hT4
            refine ⟨us, by rw [upd_ne hta2]; exact e, ?_⟩
            rw [Nat.add_mul, Nat.one_mul]
            omega
          · obtain ⟨us, e, hl⟩ := hC4
            refine ⟨us, by rw [upd_ne hca2]; exact e, ?_⟩
            rw [Nat.add_mul, Nat.one_mul]
            omega
        · rintro ys H3 ⟨ms, hms, hml, hok, hacc3, g3, hT3, hC3⟩
          obtain ⟨m0, m1, rfl⟩ : ∃ m0 m1, ms = [m0, m1] := by
            match ms, hml with
            | [x, y], _ => exact ⟨x, y, rfl⟩
          obtain ⟨v0, r0, rfl, hv0, hr0⟩ := hms.consI
          obtain ⟨v1, r1, rfl, hv1, hr1⟩ := hr0.consI
          have e1 := hr1.nilI
          subst e1
          have hac3 : H3 acc = some (.lst ([a0, a1].map V.int)) := g3 _ _ hta.symm hca.symm hacc2
          refine ⟨_, rfl, acc, _, _, _, rfl, rfl, SqL.of hac3, atI_nat (j := 0) rfl, _, rfl, acc, _, _, _, rfl, rfl, SqL.of hac3, atI_nat (j := 1) rfl, _, rfl, acc2, _, _, _, rfl, rfl, SqL.of hacc3, atI_nat (j := 0) rfl, _, rfl, acc2, _, _, _, rfl, rfl, SqL.of hacc3, atI_nat (j := 1) rfl,
            (by show 5 ≤ sizeLine; decide), fun p hp => ?_⟩
          have gp := Same.new hp (.tup [.str rS, .int a0, .int a1, v0, v1])
          have o0 := hok m0 (by simp)
          have o1 := hok m1 (by simp)
          refine q (.ref p) (.rod a0 a1 m0 m1) _ (.tup (SqT.of upd_same) (.cons (.str _) (.cons (.int _) (.cons (.int _) (.cons (Dp.same gp _ _ hv0) (.cons (Dp.same gp _ _ hv1) .nil)))))) ⟨?_, ?_, ?_⟩ ((But2.of1 (g1.trans g2)).trans (g3.trans (But2.of1 gp.but))) ?_ ?_
          · show max m0.deep m1.deep + 1 ≤ k + 1
            have := o0.deep
            have := o1.deep
            omega
          · exact ⟨ha0.1, ha0.2, ha1.1, ha1.2, o0.arms, o1.arms⟩
          · intro z hz
            rcases List.mem_append.mp (show z ∈ m0.names ++ m1.names from hz) with h | h
            · exact o0.names z h
            · exact o1.names z h
          · obtain ⟨us, e, hl⟩ := hT3
            exact ⟨us, gp _ _ e, by omega⟩
          · obtain ⟨us, e, hl⟩ := hC3
            exact ⟨us, gp _ _ e, by omega⟩
theorem f_unlike (T : TopD K mg "_law_unlike" s__law_unlike p__law_unlike) (b_range : mg "range" = none) (b_len : mg "len" = none) (Fd : Fn P w K mg base 3 "_law_draw" p__law_draw (spDraw K)) (Fp : Fn P w K mg base 4 "_law_pick" p__law_pick (spPick K)) :
    ∀ n : Nat, Fn P w K mg base (5 + n) "_law_unlike" p__law_unlike (spUnlike K n)
  | 0 => f_unlike_step 0 T b_range b_len Fd Fp (T.none fun vs H Q E h => by obtain ⟨k, e, _⟩ := h; omega)
  | n + 1 => f_unlike_step (n + 1) T b_range b_len Fd Fp (((f_unlike T b_range b_len Fd Fp n).mono (by omega)).imp fun vs H Q E h => by
      obtain ⟨k, e, h⟩ := h
      have : k = n := by omega
      subst this
      exact h)
end
end My
namespace My
open PySem PySem.Spec PyProof.Rows L2 MA
section
variable {K : PySem.W.Frag} {H : Hp} {v : V}
theorem mob_wt {n : Str} (h : Dp K H v (mD (.wt n))) : ∃ a, v = .ref a ∧ SqT K H a [.str wS, .str n] := by
  obtain ⟨a, xs, rfl, hq, hs⟩ := Dp.tupI (show Dp K H v (.tuple [.str wS, .str n]) from h)
  obtain ⟨x0, r0, rfl, h0, hs⟩ := hs.consI
  obtain ⟨x1, r1, rfl, h1, hs⟩ := hs.consI
  have e := hs.nilI
  subst e
  have e0 := h0.strI
  have e1 := h1.strI
  subst e0 e1
  exact ⟨a, rfl, hq⟩
theorem mob_rod {l r : Int} {a b : M} (h : Dp K H v (mD (.rod l r a b))) : ∃ p va vb, v = .ref p ∧ SqT K H p [.str rS, .int l, .int r, va, vb] ∧ Dp K H va (mD a) ∧ Dp K H vb (mD b) := by
  obtain ⟨p, xs, rfl, hq, hs⟩ := Dp.tupI (show Dp K H v (.tuple [.str rS, .int l, .int r, mD a, mD b]) from h)
  obtain ⟨x0, r0, rfl, h0, hs⟩ := hs.consI
  obtain ⟨x1, r1, rfl, h1, hs⟩ := hs.consI
  obtain ⟨x2, r2, rfl, h2, hs⟩ := hs.consI
  obtain ⟨x3, r3, rfl, h3, hs⟩ := hs.consI
  obtain ⟨x4, r4, rfl, h4, hs⟩ := hs.consI
  have e := hs.nilI
  subst e
  have e0 := h0.strI
  have e1 := h1.intI
  have e2 := h2.intI
  subst e0 e1 e2
  exact ⟨p, x3, x4, rfl, hq, h3, h4⟩
end
theorem wr_ne : ¬ (V.str rS = V.str wS) := by decide +kernel
def lv : M → Str → List (Str × Str)
  | .wt n, w => [(w, n)]
  | .rod _ _ a b, w => lv a (w ++ ("l" : Str)) ++ lv b (w ++ ("r" : Str))
def leafD (p : Str × Str) : PyData := .tuple [.str p.1, .str p.2]
theorem lv_len : ∀ (m : M) (w : Str), (lv m w).length = m.names.length
  | .wt _, _ => rfl
  | .rod _ _ a b, w => by
    show List.length (_ ++ _) = List.length (_ ++ _)
    rw [List.length_append, List.length_append, lv_len a, lv_len b]
theorem lv_small {m : M} (w : Str) (h : m.deep ≤ 5) : (lv m w).length ≤ 32 := by
  rw [lv_len]
  exact Nat.le_trans (Mob.names_le m) (Nat.pow_le_pow_right (by decide) h : 2 ^ m.deep ≤ 2 ^ 5)
def fD (x : Rat) : PyData := .tuple [.int (rf x).1, .int (rf x).2]
section
variable {P : Program} {w : World} {K : PySem.W.Frag} {mg : Str → Option Value} {base : Heap}
def spLeaves (K : PySem.W.Frag) (n : Nat) : Sp := fun vs H Q _ => ∃ (v : V) (m : M) (way : Str), vs = [v, .str way] ∧ Dp K H v (mD m) ∧ m.deep < n ∧ m.deep ≤ 5 ∧ way.length + m.deep ≤ 1000 ∧
  ∀ (l : Addr) (ys : List V) H', Same H H' → H l = none → H' l = some (.lst ys) → DpAll K H' ys ((lv m way).map leafD) → Q (.ref l) H'
theorem f_leaves_step (n : Nat) (T : TopD K mg "_law_leaves" s__law_leaves p__law_leaves) (F__law_leaves : Fn P w K mg base n "_law_leaves" p__law_leaves (spLeaves K n)) : Fn P w K mg base (n + 1) "_law_leaves" p__law_leaves (spLeaves K (n + 1)) := by
  refine T.fn sc__law_leaves (fun vs H Q E h => ?_) (fun f cdv A outer s H vs Q E hr h => ?_)
  · obtain ⟨v, m, way, rfl, _⟩ := h
    rfl
  obtain ⟨v, m, way, rfl, hD, hn, h5, hw, q⟩ := h
  refine ⟨_, (pss_cons (ps_if (pt_cmpR op_eq (pe_ix ix_tup (pv 0) pe_int (fun _ _ => rfl)) pe_str (nomark _)) (pss_one (ps_ret (pe_lst (pa_cons (pe_tup (pa_cons (pv 1) (pa_cons (pe_ix ix_tup (pv 0) pe_int (fun _ _ => rfl)) pa_nil))) pa_nil)))) pss_nil)
    (pss_one (ps_ret (pe_op op_cat (pe_callF F__law_leaves (hr.mono (by omega)) (pa_cons (pe_ix ix_tup (pv 0) pe_int (fun _ _ => rfl)) (pa_cons (pe_op op_add_str (pv 1) pe_str) pa_nil))) (pe_callF F__law_leaves (hr.mono (by omega)) (pa_cons (pe_ix ix_tup (pv 0) pe_int (fun _ _ => rfl)) (pa_cons (pe_op op_add_str (pv 1) pe_str) pa_nil))))))), ?_⟩
  cases m with
  | wt nm =>
    obtain ⟨a, rfl, ha⟩ := mob_wt hD
    refine ⟨_, rfl, a, _, _, _, rfl, rfl, ha, atI_nat (j := 0) rfl, rfl, _, rfl, ?_⟩
    refine (if_pos (decide_eq_true rfl)).mpr ?_
    refine ⟨_, rfl, _, rfl, a, _, _, _, rfl, rfl, ha, atI_nat (j := 1) rfl, (by show 2 ≤ sizeLine; decide), fun p hp => ⟨(by show 1 ≤ sizeLine; decide), fun l hl => ?_⟩⟩
    have g1 := Same.new hp (.tup [.str way, .str nm])
    have g2 := Same.new hl (.lst [.ref p])
    exact q l _ _ (g1.trans g2) (g1.free hl) upd_same (.cons (.tup (SqT.of (g2 _ _ upd_same)) (.cons (.str _) (.cons (.str _) .nil))) .nil)
  | rod L R ma mb =>
    obtain ⟨p, va, vb, rfl, hp, hva, hvb⟩ := mob_rod hD
    refine ⟨_, rfl, p, _, _, _, rfl, rfl, hp, atI_nat (j := 0) rfl, rfl, _, rfl, ?_⟩
    refine (if_neg (fun z => wr_ne (of_decide_eq_true z))).mpr ?_
    have hd : max ma.deep mb.deep + 1 < n + 1 := hn
    have hd5 : max ma.deep mb.deep + 1 ≤ 5 := h5
    have hdw : way.length + (max ma.deep mb.deep + 1) ≤ 1000 := hw
    refine ⟨_, rfl, p, _, _, _, rfl, rfl, hp, atI_nat (j := 3) rfl, _, rfl, _, _, rfl, rfl, ?_, va, ma, _, rfl, hva, by omega, by omega, by rw [app_len]; show way.length + 1 + _ ≤ _; omega, fun l1 ys1 H1 g1 n1 e1 d1 => ?_⟩
    · show way.length + 1 ≤ sizeLine
      exact Nat.le_of_lt (small1000 (by omega))
    refine ⟨_, rfl, p, _, _, _, rfl, rfl, hp.same g1, atI_nat (j := 4) rfl, _, rfl, _, _, rfl, rfl, ?_, vb, mb, _, rfl, Dp.same g1 _ _ hvb, by omega, by omega, by rw [app_len]; show way.length + 1 + _ ≤ _; omega, fun l2 ys2 H2 g2 n2 e2 d2 => ?_⟩
    · show way.length + 1 ≤ sizeLine
      exact Nat.le_of_lt (small1000 (by omega))
    have z1 : ys1.length ≤ 32 := by
      rw [d1.len, List.length_map]
      exact lv_small _ (by omega)
    have z2 : ys2.length ≤ 32 := by
      rw [d2.len, List.length_map]
      exact lv_small _ (by omega)
    refine ⟨l1, l2, ys1, ys2, rfl, rfl, g2 _ _ e1, e2, Nat.le_of_lt (small1000 (by omega)), fun l hl => ?_⟩
    have g3 := Same.new hl (.lst (ys1 ++ ys2))
    refine q l _ _ (g1.trans (g2.trans g3)) ((g1.trans g2).free hl) upd_same ?_
    show DpAll K _ _ ((lv ma _ ++ lv mb _).map leafD)
    rw [List.map_append]
    exact (DpAll.same (g2.trans g3) _ _ d1).app (DpAll.same g3 _ _ d2)
theorem f_leaves (T : TopD K mg "_law_leaves" s__law_leaves p__law_leaves) : ∀ n : Nat, Fn P w K mg base n "_law_leaves" p__law_leaves (spLeaves K n)
  | 0 => T.none fun vs H Q E h => by obtain ⟨v, m, way, _, _, hn, _⟩ := h; omega
  | n + 1 => f_leaves_step n T (f_leaves T n)
end
end My
namespace My
open PySem PySem.Spec PyProof.Rows L2 MA
section
variable {P : Program} {w : World} {K : PySem.W.Frag} {mg : Str → Option Value} {base : Heap}
theorem log_small {n : Nat} (h : n < 2 ^ 2000) : n.log2 < 9000 := by
  by_cases h0 : n = 0
  · rw [h0]; decide +kernel
  · exact (Nat.log2_lt h0).mpr (Nat.lt_of_lt_of_le h (Nat.pow_le_pow_right (by decide) (by decide)))
def spGcd (K : PySem.W.Frag) : Sp := fun vs H Q _ => ∃ (a b : Int), vs = [.int a, .int b] ∧ 0 ≤ a ∧ 0 ≤ b ∧ Q (.int (Int.gcd a b : Int)) H
theorem gcd_zero {x : Int} (h : 0 ≤ x) : (Int.gcd x 0 : Int) = x := by
  rw [Int.gcd_zero_right]
  omega
theorem f_gcd (T : TopD K mg "greatest_divisor" s_greatest_divisor p_greatest_divisor) : Fn P w K mg base 1 "greatest_divisor" p_greatest_divisor (spGcd K) := by
  refine T.fn sc_greatest_divisor (fun vs H Q E h => ?_) (fun f cdv A outer s H vs Q E hr h => ?_)
  · obtain ⟨a, b, rfl, _⟩ := h
    rfl
  obtain ⟨a, b, rfl, ha, hb, q⟩ := h
  have nd := sc_greatest_divisor.nd
  refine ⟨_, (pss_cons (ps_while PassesOwn.never (pt_cmpR op_gt (pv 1) pe_int (nomark _)) (pss_cons (ps_set (i := 2) nd rfl (by first | exact Or.inl rfl | exact Or.inr rfl) (pe_op op_mod (pv 0) (pv 1)))
    (pss_cons (ps_set (i := 0) nd rfl (by first | exact Or.inl rfl | exact Or.inr rfl) (pv 1))
    (pss_one (ps_set (i := 1) nd rfl (by first | exact Or.inl rfl | exact Or.inr rfl) (pv 2))))))
    (pss_one (ps_ret (pv 0)))), ?_⟩
  refine while_by (fun σ H1 => ∃ (x y : Int) (o : Option V), σ = [some (.int x), some (.int y), o] ∧ H1 = H ∧ 0 ≤ x ∧ 0 ≤ y ∧ Int.gcd x y = Int.gcd a b) (fun σ _ => match σ with | _ :: some (.int y) :: _ => y.toNat | _ => 0) ⟨a, b, none, rfl, rfl, ha, hb, rfl⟩ ?_ ?_
  · rintro σ H1 ⟨x, y, o, rfl, rfl, hx, hy, hg⟩
    refine ⟨_, rfl, _, _, rfl, rfl, _, rfl, ?_⟩
    refine ite2 (fun c => ?_) (fun c => ?_)
    · have c' : 0 < y := of_decide_eq_true c
      refine ⟨_, rfl, _, rfl, _, _, rfl, rfl, c', _, rfl, _, rfl, ⟨y, x % y, _, rfl, rfl, hy, Int.emod_nonneg _ (by omega), ?_⟩, ?_⟩
      · rw [gcd_step hx c', hg]
      · show (x % y).toNat < y.toNat
        have := Int.emod_lt_of_pos x c'
        have := Int.emod_nonneg x (show y ≠ 0 by omega)
        omega
    · have c' : ¬ 0 < y := fun z => c (decide_eq_true z)
      have : y = 0 := by omega
      subst this
      refine ⟨_, rfl, ?_⟩
      rw [← hg, gcd_zero hx] at q
      exact q
  · rintro σ H1 Q1 Q2 hq ⟨v, e, i, j, e1, e2, cc, ec, qq⟩
    exact ⟨v, e, i, j, e1, e2, cc, ec, hq _ _ qq⟩
def spReduced (K : PySem.W.Frag) : Sp := fun vs H Q _ => ∃ (a b : Int), vs = [.int a, .int b] ∧ 0 ≤ a ∧ 0 < b ∧ b.natAbs < 2 ^ 2000 ∧
  ∀ (t : Addr), H t = none → Q (.ref t) (upd H t (.tup [.int (rf ((a : Rat) / (b : Rat))).1, .int (rf ((a : Rat) / (b : Rat))).2]))
theorem gcd_bounds {a b : Int} (hb : 0 < b) : 0 < (Int.gcd a b : Int) ∧ (Int.gcd a b : Int).natAbs ≤ b.natAbs := by
  have h1 : 0 < Int.gcd a b := Int.gcd_pos_of_ne_zero_right _ (by omega)
  have h2 : Int.gcd a b ≤ b.natAbs := Nat.le_of_dvd (by omega) (Nat.gcd_dvd_right _ _)
  omega
theorem f_reduced (T : TopD K mg "reduced" s_reduced p_reduced) (F_greatest_divisor : Fn P w K mg base 1 "greatest_divisor" p_greatest_divisor (spGcd K)) : Fn P w K mg base 2 "reduced" p_reduced (spReduced K) := by
  refine T.fn sc_reduced (fun vs H Q E h => ?_) (fun f cdv A outer s H vs Q E hr h => ?_)
  · obtain ⟨a, b, rfl, _⟩ := h
    rfl
  obtain ⟨a, b, rfl, ha, hb, hs, q⟩ := h
  have nd := sc_reduced.nd
  obtain ⟨b1, b2⟩ := gcd_bounds (a := a) hb
  have hc : 0 < (Int.gcd a b : Int) ∧ (Int.gcd a b : Int).natAbs.log2 < 9000 := ⟨b1, log_small (Nat.lt_of_le_of_lt b2 hs)⟩
  refine ⟨_, (pss_cons (ps_set (i := 2) nd rfl (by first | exact Or.inl rfl | exact Or.inr rfl) (pe_callF F_greatest_divisor (hr.mono (by omega)) (pa_cons (pv 0) (pa_cons (pv 1) pa_nil))))
    (pss_one (ps_ret (pe_tup (pa_cons (pe_op op_fdivL (pv 0) (pv 2)) (pa_cons (pe_op op_fdivL (pv 1) (pv 2)) pa_nil)))))), ?_⟩
  refine ⟨_, rfl, _, rfl, a, b, rfl, ha, by omega, ?_⟩
  refine ⟨_, rfl, _, rfl, _, _, rfl, rfl, hc, _, rfl, _, rfl, _, _, rfl, rfl, hc, (by show 2 ≤ sizeLine; decide), fun t ht => ?_⟩
  have e := rf_red (a := a) hb
  have := q t ht
  rw [← e] at this
  exact this
theorem f_least (T : TopD K mg "_law_least" s__law_least p__law_least) : Fn P w K mg base 1 "_law_least" p__law_least (spReduced K) := by
  refine T.fn sc__law_least (fun vs H Q E h => ?_) (fun f cdv A outer s H vs Q E hr h => ?_)
  · obtain ⟨a, b, rfl, _⟩ := h
    rfl
  obtain ⟨a, b, rfl, ha, hb, hs, q⟩ := h
  have nd := sc__law_least.nd
  obtain ⟨b1, b2⟩ := gcd_bounds (a := a) hb
  have hc : 0 < (Int.gcd a b : Int) ∧ (Int.gcd a b : Int).natAbs.log2 < 9000 := ⟨b1, log_small (Nat.lt_of_le_of_lt b2 hs)⟩
  refine ⟨_, (pss_cons (ps_par (i := 2) (j := 3) rfl nd rfl rfl (by decide) rfl rfl (pa_cons (pv 0) (pa_cons (pv 1) pa_nil)) rfl)
    (pss_cons (ps_while PassesOwn.never (pt_cmpR op_gt (pv 3) pe_int (nomark _)) (pss_one (ps_par (i := 2) (j := 3) rfl nd rfl rfl (by decide) rfl rfl (pa_cons (pv 3) (pa_cons (pe_op op_mod (pv 2) (pv 3)) pa_nil)) rfl)))
    (pss_one (ps_ret (pe_tup (pa_cons (pe_op op_fdivL (pv 0) (pv 2)) (pa_cons (pe_op op_fdivL (pv 1) (pv 2)) pa_nil))))))), ?_⟩
  refine ⟨_, rfl, _, rfl, _, _, rfl, ?_⟩
  refine while_by (fun σ H1 => ∃ (x y : Int), σ = [some (.int a), some (.int b), some (.int x), some (.int y)] ∧ H1 = H ∧ 0 ≤ x ∧ 0 ≤ y ∧ Int.gcd x y = Int.gcd a b) (fun σ _ => match σ with | _ :: _ :: _ :: some (.int y) :: _ => y.toNat | _ => 0) ⟨a, b, rfl, rfl, ha, by omega, rfl⟩ ?_ ?_
  · rintro σ H1 ⟨x, y, rfl, rfl, hx, hy, hg⟩
    refine ⟨_, rfl, _, _, rfl, rfl, _, rfl, ?_⟩
    refine ite2 (fun c => ?_) (fun c => ?_)
    · have c' : 0 < y := of_decide_eq_true c
      refine ⟨_, rfl, _, rfl, _, rfl, _, _, rfl, rfl, c', _, _, rfl, ⟨y, x % y, rfl, rfl, hy, Int.emod_nonneg _ (by omega), ?_⟩, ?_⟩
      · rw [gcd_step hx c', hg]
      · show (x % y).toNat < y.toNat
        have := Int.emod_lt_of_pos x c'
        have := Int.emod_nonneg x (show y ≠ 0 by omega)
        omega
    · have c' : ¬ 0 < y := fun z => c (decide_eq_true z)
      have : y = 0 := by omega
      subst this
      have gx : (x : Int) = (Int.gcd a b : Int) := by rw [← hg, gcd_zero hx]
      subst gx
      refine ⟨_, rfl, _, rfl, _, _, rfl, rfl, hc, _, rfl, _, rfl, _, _, rfl, rfl, hc, (by show 2 ≤ sizeLine; decide), fun t ht => ?_⟩
      have e := rf_red (a := a) hb
      have := q t ht
      rw [← e] at this
      exact this
  · rintro σ H1 Q1 Q2 hq ⟨v, e, i, j, e1, e2, cc, ec, qq⟩
    exact ⟨v, e, i, j, e1, e2, cc, ec, hq _ _ qq⟩
end
end My
namespace My
open PySem PySem.Spec PyProof.Rows L2 MA
theorem small2000 {b : Int} (h : b ≤ 1000000000000) (h0 : 0 < b) : b.natAbs < 2 ^ 2000 :=
  Nat.lt_of_lt_of_le (show b.natAbs < 2 ^ 64 by omega) (Nat.pow_le_pow_right (by decide) (by decide))
section
variable {K : PySem.W.Frag} {H : Hp} {v : V}
theorem pairI {a b : Int} (h : Dp K H v (.tuple [.int a, .int b])) : ∃ p, v = .ref p ∧ SqT K H p [.int a, .int b] := by
  obtain ⟨p, xs, rfl, hq, hs⟩ := h.tupI
  obtain ⟨x0, r0, rfl, h0, hs⟩ := hs.consI
  obtain ⟨x1, r1, rfl, h1, hs⟩ := hs.consI
  have e := hs.nilI
  subst e
  have e0 := h0.intI
  have e1 := h1.intI
  subst e0 e1
  exact ⟨p, rfl, hq⟩
theorem fDI {x : Rat} (h : Dp K H v (fD x)) : ∃ p, v = .ref p ∧ SqT K H p [.int (rf x).1, .int (rf x).2] := pairI h
theorem Dp.pair {p : Addr} {a b : Int} (h : H p = some (.tup [.int a, .int b])) : Dp K H (.ref p) (.tuple [.int a, .int b]) := .tup (SqT.of h) (.cons (.int _) (.cons (.int _) .nil))
end
def sh3 : M → Str → Rat → List (Str × Str × Rat)
  | .wt n, w, x => [(w, n, x)]
  | .rod l r a b, w, x => sh3 a (w ++ ("l" : Str)) (x * ((r : Rat) / ((l + r : Int) : Rat))) ++ sh3 b (w ++ ("r" : Str)) (x * ((l : Rat) / ((l + r : Int) : Rat)))
def rowD (p : Str × Str × Rat) : PyData := .tuple [.str p.1, .str p.2.1, fD p.2.2]
theorem sh3_len : ∀ (m : M) (w : Str) (x : Rat), (sh3 m w x).length = m.names.length
  | .wt _, _, _ => rfl
  | .rod _ _ a b, w, x => by
    show List.length (_ ++ _) = List.length (_ ++ _)
    rw [List.length_append, List.length_append, sh3_len a, sh3_len b]
theorem names_small {m : M} (h : m.deep ≤ 5) : m.names.length ≤ 32 :=
  Nat.le_trans (Mob.names_le m) (Nat.pow_le_pow_right (by decide) h : 2 ^ m.deep ≤ 2 ^ 5)
theorem step_both {up down l r : Int} (hd : 0 < down) (hb : 0 < l + r) : (((up * r : Int) : Rat) / ((down * (l + r) : Int) : Rat)) = ((up : Rat) / (down : Rat)) * ((r : Rat) / ((l + r : Int) : Rat)) := by
  have h1 := cast_ne (Int.ne_of_gt hd)
  have h2 := cast_ne (Int.ne_of_gt hb)
  rw [Rat.intCast_mul, Rat.intCast_mul]
  grind
section
variable {P : Program} {w : World} {K : PySem.W.Frag} {mg : Str → Option Value} {base : Heap}
def spProduct (K : PySem.W.Frag) : Sp := fun vs H Q _ => ∃ (v1 v2 : V) (x : Rat) (a b : Int), vs = [v1, v2] ∧ Dp K H v1 (fD x) ∧ Dp K H v2 (.tuple [.int a, .int b]) ∧ 0 < x ∧ (rf x).2 ≤ 1000000000 ∧ 1 ≤ a ∧ a ≤ 18 ∧ 1 ≤ b ∧ b ≤ 18 ∧
  ∀ (t : Addr), H t = none → Q (.ref t) (upd H t (.tup [.int (rf (x * ((a : Rat) / (b : Rat)))).1, .int (rf (x * ((a : Rat) / (b : Rat)))).2]))
theorem f_product (T : TopD K mg "product" s_product p_product) (F_reduced : Fn P w K mg base 2 "reduced" p_reduced (spReduced K)) : Fn P w K mg base 3 "product" p_product (spProduct K) := by
  refine T.fn sc_product (fun vs H Q E h => ?_) (fun f cdv A outer s H vs Q E hr h => ?_)
  · obtain ⟨v1, v2, x, a, b, rfl, _⟩ := h
    rfl
  obtain ⟨v1, v2, x, a, b, rfl, h1, h2, hx, hden, a1, a2, b1, b2, q⟩ := h
  obtain ⟨p1, rfl, e1⟩ := fDI h1
  obtain ⟨p2, rfl, e2⟩ := pairI h2
  refine ⟨_, (pss_one (ps_ret (pe_callF F_reduced (hr.mono (by omega)) (pa_cons (pe_op op_mul (pe_ix ix_tup (pv 0) pe_int (fun _ _ => rfl)) (pe_ix ix_tup (pv 1) pe_int (fun _ _ => rfl))) (pa_cons (pe_op op_mul (pe_ix ix_tup (pv 0) pe_int (fun _ _ => rfl)) (pe_ix ix_tup (pv 1) pe_int (fun _ _ => rfl))) pa_nil))))), ?_⟩
  have np := num_pos hx
  have dp := rf_pos x
  have m0 : 0 ≤ (rf x).1 * a := Int.mul_nonneg (by omega) (by omega)
  have m1 : 0 < (rf x).2 * b := Int.mul_pos dp (by omega)
  have m2 : (rf x).2 * b ≤ 1000000000 * 18 := Int.mul_le_mul hden b2 (by omega) (by omega)
  refine ⟨_, rfl, p1, _, _, _, rfl, rfl, e1, atI_nat (j := 0) rfl, _, rfl, p2, _, _, _, rfl, rfl, e2, atI_nat (j := 0) rfl, _, _, rfl, rfl, .inr ⟨by omega, by omega⟩,
    _, rfl, p1, _, _, _, rfl, rfl, e1, atI_nat (j := 1) rfl, _, rfl, p2, _, _, _, rfl, rfl, e2, atI_nat (j := 1) rfl, _, _, rfl, rfl, .inr ⟨by omega, by omega⟩,
    _, _, rfl, m0, m1, small2000 (by omega) m1, fun t ht => ?_⟩
  rw [rf_mul]
  exact q t ht
def spShB (K : PySem.W.Frag) (n : Nat) : Sp := fun vs H Q _ => ∃ (v sv : V) (m : M) (way : Str) (x : Rat), vs = [v, .str way, sv] ∧ Dp K H v (mD m) ∧ Dp K H sv (fD x) ∧ m.deep < n ∧ m.deep ≤ 5 ∧ m.arms ∧ way.length + m.deep ≤ 1000 ∧ 0 < x ∧ (rf x).2 * 18 ^ m.deep ≤ 1000000000 ∧
  ∀ (l : Addr) (ys : List V) H', Same H H' → H l = none → H' l = some (.lst ys) → DpAll K H' ys ((sh3 m way x).map rowD) → Q (.ref l) H'
theorem pow_le18 {j k : Nat} (h : j ≤ k) : (18 : Int) ^ j ≤ 18 ^ k := by
  have : (18 : Nat) ^ j ≤ 18 ^ k := Nat.pow_le_pow_right (by decide) h
  exact_mod_cast this
theorem pow_pos18 (k : Nat) : (1 : Int) ≤ 18 ^ k := by
  have : 1 ≤ (18 : Nat) ^ k := Nat.one_le_pow _ _ (by decide)
  exact_mod_cast this
theorem den_down {D D' : Int} {j k : Nat} (h : D * 18 ^ (max j k + 1) ≤ 1000000000) (hd : D' ≤ D * 18) (hD : 0 < D) : D' * 18 ^ j ≤ 1000000000 ∧ D' * 18 ^ k ≤ 1000000000 ∧ D ≤ 1000000000 := by
  have e : D * 18 ^ (max j k + 1) = D * 18 * 18 ^ max j k := by rw [Int.pow_succ, Int.mul_comm (18 ^ max j k) 18, ← Int.mul_assoc]
  rw [e] at h
  have p1 := pow_le18 (Nat.le_max_left j k)
  have p2 := pow_le18 (Nat.le_max_right j k)
  have p0 := pow_pos18 (max j k)
  have pj := pow_pos18 j
  have pk := pow_pos18 k
  refine ⟨Int.le_trans (Int.mul_le_mul hd p1 (by omega) (by omega)) h, Int.le_trans (Int.mul_le_mul hd p2 (by omega) (by omega)) h, ?_⟩
  have : D * 1 ≤ D * 18 * 18 ^ max j k := Int.mul_le_mul (by omega) p0 (by omega) (by omega)
  omega
theorem f_shB_step (n : Nat) (T : TopD K mg "shares_below" s_shares_below p_shares_below) (F_product : Fn P w K mg base 3 "product" p_product (spProduct K)) (F_shares_below : Fn P w K mg base (3 + n) "shares_below" p_shares_below (spShB K n)) :
    Fn P w K mg base (3 + n + 1) "shares_below" p_shares_below (spShB K (n + 1)) := by
  refine T.fn sc_shares_below (fun vs H Q E h => ?_) (fun f cdv A outer s H vs Q E hr h => ?_)
  · obtain ⟨v, sv, m, way, x, rfl, _⟩ := h
    rfl
  obtain ⟨v, sv, m, way, x, rfl, hD, hF, hn, h5, harm, hw, hx, hden, q⟩ := h
  have nd := sc_shares_below.nd
  refine ⟨_, (pss_cons (ps_if (pt_cmpR op_eq (pe_ix ix_tup (pv 0) pe_int (fun _ _ => rfl)) pe_str (nomark _)) (pss_one (ps_ret (pe_lst (pa_cons (pe_tup (pa_cons (pv 1) (pa_cons (pe_ix ix_tup (pv 0) pe_int (fun _ _ => rfl)) (pa_cons (pv 2) pa_nil)))) pa_nil)))) pss_nil)
    (pss_cons (ps_set (i := 3) nd rfl (by first | exact Or.inl rfl | exact Or.inr rfl) (pe_op op_add (pe_ix ix_tup (pv 0) pe_int (fun _ _ => rfl)) (pe_ix ix_tup (pv 0) pe_int (fun _ _ => rfl))))
    (pss_cons (ps_set (i := 4) nd rfl (by first | exact Or.inl rfl | exact Or.inr rfl) (pe_callF F_product (hr.mono (by omega)) (pa_cons (pv 2) (pa_cons (pe_tup (pa_cons (pe_ix ix_tup (pv 0) pe_int (fun _ _ => rfl)) (pa_cons (pv 3) pa_nil))) pa_nil))))
    (pss_cons (ps_set (i := 5) nd rfl (by first | exact Or.inl rfl | exact Or.inr rfl) (pe_callF F_product (hr.mono (by omega)) (pa_cons (pv 2) (pa_cons (pe_tup (pa_cons (pe_ix ix_tup (pv 0) pe_int (fun _ _ => rfl)) (pa_cons (pv 3) pa_nil))) pa_nil))))
    (pss_one (ps_ret (pe_op op_cat (pe_callF F_shares_below (hr.mono (by omega)) (pa_cons (pe_ix ix_tup (pv 0) pe_int (fun _ _ => rfl)) (pa_cons (pe_op op_add_str (pv 1) pe_str) (pa_cons (pv 4) pa_nil)))) (pe_callF F_shares_below (hr.mono (by omega)) (pa_cons (pe_ix ix_tup (pv 0) pe_int (fun _ _ => rfl)) (pa_cons (pe_op op_add_str (pv 1) pe_str) (pa_cons (pv 5) pa_nil))))))))))), ?_⟩
  cases m with
  | wt nm =>
    obtain ⟨a, rfl, ha⟩ := mob_wt hD
    refine ⟨_, rfl, a, _, _, _, rfl, rfl, ha, atI_nat (j := 0) rfl, rfl, _, rfl, ?_⟩
    refine (if_pos (decide_eq_true rfl)).mpr ?_
    refine ⟨_, rfl, _, rfl, a, _, _, _, rfl, rfl, ha, atI_nat (j := 1) rfl, _, rfl, (by show 3 ≤ sizeLine; decide), fun p hp => ⟨(by show 1 ≤ sizeLine; decide), fun l hl => ?_⟩⟩
    have g1 := Same.new hp (.tup [.str way, .str nm, sv])
    have g2 := Same.new hl (.lst [.ref p])
    exact q l _ _ (g1.trans g2) (g1.free hl) upd_same (.cons (.tup (SqT.of (g2 _ _ upd_same)) (.cons (.str _) (.cons (.str _) (.cons (Dp.same (g1.trans g2) _ _ hF) .nil)))) .nil)
  | rod L R ma mb =>
    obtain ⟨p, va, vb, rfl, hp, hva, hvb⟩ := mob_rod hD
    obtain ⟨r1, r2, r3, r4, harA, harB⟩ := harm
    refine ⟨_, rfl, p, _, _, _, rfl, rfl, hp, atI_nat (j := 0) rfl, rfl, _, rfl, ?_⟩
    refine (if_neg (fun z => wr_ne (of_decide_eq_true z))).mpr ?_
    have hd : max ma.deep mb.deep + 1 < n + 1 := hn
    have hd5 : max ma.deep mb.deep + 1 ≤ 5 := h5
    have hdw : way.length + (max ma.deep mb.deep + 1) ≤ 1000 := hw
    have dp := rf_pos x
    have dl := den_mul (t := x) (a := R) (b := L + R) (by omega)
    have dr := den_mul (t := x) (a := L) (b := L + R) (by omega)
    have dl' : (rf (x * ((R : Rat) / ((L + R : Int) : Rat)))).2 ≤ (rf x).2 * 18 := Int.le_trans dl (Int.mul_le_mul_of_nonneg_left (by omega) (by omega))
    have dr' : (rf (x * ((L : Rat) / ((L + R : Int) : Rat)))).2 ≤ (rf x).2 * 18 := Int.le_trans dr (Int.mul_le_mul_of_nonneg_left (by omega) (by omega))
    obtain ⟨k1, _, k0⟩ := den_down (show (rf x).2 * 18 ^ (max ma.deep mb.deep + 1) ≤ 1000000000 from hden) dl' dp
    obtain ⟨_, k2, _⟩ := den_down (show (rf x).2 * 18 ^ (max ma.deep mb.deep + 1) ≤ 1000000000 from hden) dr' dp
    have px1 : 0 < x * ((R : Rat) / ((L + R : Int) : Rat)) := Mob.step_pos r1 r3 hx
    have px2 : 0 < x * ((L : Rat) / ((L + R : Int) : Rat)) := by
      have := Mob.step_pos (l := R) (r := L) r3 r1 hx
      rwa [Int.add_comm R L] at this
    refine ⟨_, rfl, p, _, _, _, rfl, rfl, hp, atI_nat (j := 1) rfl, _, rfl, p, _, _, _, rfl, rfl, hp, atI_nat (j := 2) rfl, _, _, rfl, rfl, ?_⟩
    refine ⟨_, rfl, _, rfl, p, _, _, _, rfl, rfl, hp, atI_nat (j := 2) rfl, _, rfl, (by show 2 ≤ sizeLine; decide), fun t1 ht1 => ?_⟩
    have g1 := Same.new ht1 (.tup [.int R, .int (L + R)])
    refine ⟨sv, .ref t1, x, R, L + R, rfl, Dp.same g1 _ _ hF, Dp.pair upd_same, hx, k0, by omega, by omega, by omega, by omega, fun t2 ht2 => ?_⟩
    have g2 := g1.trans (Same.new ht2 (.tup [.int (rf (x * ((R : Rat) / ((L + R : Int) : Rat)))).1, .int (rf (x * ((R : Rat) / ((L + R : Int) : Rat)))).2]))
    refine ⟨_, rfl, _, rfl, p, _, _, _, rfl, rfl, hp.same g2, atI_nat (j := 1) rfl, _, rfl, (by show 2 ≤ sizeLine; decide), fun t3 ht3 => ?_⟩
    have s3 := Same.new ht3 (.tup [.int L, .int (L + R)])
    have g3 := g2.trans s3
    refine ⟨sv, .ref t3, x, L, L + R, rfl, Dp.same g3 _ _ hF, Dp.pair upd_same, hx, k0, by omega, by omega, by omega, by omega, fun t4 ht4 => ?_⟩
    have s4 := Same.new ht4 (.tup [.int (rf (x * ((L : Rat) / ((L + R : Int) : Rat)))).1, .int (rf (x * ((L : Rat) / ((L + R : Int) : Rat)))).2])
    have g4 := g3.trans s4
    refine ⟨_, rfl, p, _, _, _, rfl, rfl, hp.same g4, atI_nat (j := 3) rfl, _, rfl, _, _, rfl, rfl, ?_, _, rfl, va, .ref t2, ma, _, x * ((R : Rat) / ((L + R : Int) : Rat)), rfl, Dp.same g4 _ _ hva, Dp.same (s3.trans s4) _ _ (Dp.pair upd_same), by omega, by omega, harA, by rw [app_len]; show way.length + 1 + _ ≤ _; omega, px1, k1, fun l1 ys1 H1 h1 n1 e1 d1 => ?_⟩
    · show way.length + 1 ≤ sizeLine
      exact Nat.le_of_lt (small1000 (by omega))
    refine ⟨_, rfl, p, _, _, _, rfl, rfl, hp.same (g4.trans h1), atI_nat (j := 4) rfl, _, rfl, _, _, rfl, rfl, ?_, _, rfl, vb, .ref t4, mb, _, x * ((L : Rat) / ((L + R : Int) : Rat)), rfl, Dp.same (g4.trans h1) _ _ hvb, Dp.same h1 _ _ (Dp.pair upd_same), by omega, by omega, harB, by rw [app_len]; show way.length + 1 + _ ≤ _; omega, px2, k2, fun l2 ys2 H2 h2 n2 e2 d2 => ?_⟩
    · show way.length + 1 ≤ sizeLine
      exact Nat.le_of_lt (small1000 (by omega))
    have z1 : ys1.length ≤ 32 := by
      rw [d1.len, List.length_map, sh3_len]
      exact names_small (by omega)
    have z2 : ys2.length ≤ 32 := by
      rw [d2.len, List.length_map, sh3_len]
      exact names_small (by omega)
    refine ⟨l1, l2, ys1, ys2, rfl, rfl, h2 _ _ e1, e2, Nat.le_of_lt (small1000 (by omega)), fun l hl => ?_⟩
    have g5 := Same.new hl (.lst (ys1 ++ ys2))
    refine q l _ _ (g4.trans (h1.trans (h2.trans g5))) ((g4.trans (h1.trans h2)).free hl) upd_same ?_
    show DpAll K _ _ ((sh3 ma _ _ ++ sh3 mb _ _).map rowD)
    rw [List.map_append]
    exact (DpAll.same (h2.trans g5) _ _ d1).app (DpAll.same g5 _ _ d2)
theorem f_shB (T : TopD K mg "shares_below" s_shares_below p_shares_below) (Fp : Fn P w K mg base 3 "product" p_product (spProduct K)) : ∀ n : Nat, Fn P w K mg base (3 + n) "shares_below" p_shares_below (spShB K n)
  | 0 => T.none fun vs H Q E h => by obtain ⟨v, sv, m, way, x, _, _, _, hn, _⟩ := h; omega
  | n + 1 => f_shB_step n T Fp (f_shB T Fp n)
def spLSh (K : PySem.W.Frag) (n : Nat) : Sp := fun vs H Q _ => ∃ (v : V) (m : M) (up down : Int), vs = [v, .int up, .int down] ∧ Dp K H v (mD m) ∧ m.deep < n ∧ m.deep ≤ 5 ∧ m.arms ∧ 0 < up ∧ 0 < down ∧ down * 18 ^ m.deep ≤ 1000000000 ∧
  ∀ (l : Addr) (ys : List V) H', Same H H' → H l = none → H' l = some (.lst ys) → DpAll K H' ys ((m.sh ((up : Rat) / (down : Rat))).map fD) → Q (.ref l) H'
theorem f_lsh_step (n : Nat) (T : TopD K mg "_law_shares" s__law_shares p__law_shares) (F__law_least : Fn P w K mg base 1 "_law_least" p__law_least (spReduced K)) (F__law_shares : Fn P w K mg base (1 + n) "_law_shares" p__law_shares (spLSh K n)) :
    Fn P w K mg base (1 + n + 1) "_law_shares" p__law_shares (spLSh K (n + 1)) := by
  refine T.fn sc__law_shares (fun vs H Q E h => ?_) (fun f cdv A outer s H vs Q E hr h => ?_)
  · obtain ⟨v, m, up, down, rfl, _⟩ := h
    rfl
  obtain ⟨v, m, up, down, rfl, hD, hn, h5, harm, hu, hdn, hden, q⟩ := h
  have nd := sc__law_shares.nd
  refine ⟨_, (pss_cons (ps_if (pt_cmpR op_eq (pe_ix ix_tup (pv 0) pe_int (fun _ _ => rfl)) pe_str (nomark _)) (pss_one (ps_ret (pe_lst (pa_cons (pe_callF F__law_least (hr.mono (by omega)) (pa_cons (pv 1) (pa_cons (pv 2) pa_nil))) pa_nil)))) pss_nil)
    (pss_cons (ps_set (i := 3) nd rfl (by first | exact Or.inl rfl | exact Or.inr rfl) (pe_op op_add (pe_ix ix_tup (pv 0) pe_int (fun _ _ => rfl)) (pe_ix ix_tup (pv 0) pe_int (fun _ _ => rfl))))
    (pss_cons (ps_set (i := 4) nd rfl (by first | exact Or.inl rfl | exact Or.inr rfl) (pe_callF F__law_shares (hr.mono (by omega)) (pa_cons (pe_ix ix_tup (pv 0) pe_int (fun _ _ => rfl)) (pa_cons (pe_op op_mul (pv 1) (pe_ix ix_tup (pv 0) pe_int (fun _ _ => rfl))) (pa_cons (pe_op op_mul (pv 2) (pv 3)) pa_nil)))))
    (pss_one (ps_ret (pe_op op_cat (pv 4) (pe_callF F__law_shares (hr.mono (by omega)) (pa_cons (pe_ix ix_tup (pv 0) pe_int (fun _ _ => rfl)) (pa_cons (pe_op op_mul (pv 1) (pe_ix ix_tup (pv 0) pe_int (fun _ _ => rfl))) (pa_cons (pe_op op_mul (pv 2) (pv 3)) pa_nil)))))))))), ?_⟩
  cases m with
  | wt nm =>
    obtain ⟨a, rfl, ha⟩ := mob_wt hD
    have hb : down ≤ 1000000000 := by simpa [Mob.deep] using hden
    refine ⟨_, rfl, a, _, _, _, rfl, rfl, ha, atI_nat (j := 0) rfl, rfl, _, rfl, ?_⟩
    refine (if_pos (decide_eq_true rfl)).mpr ?_
    refine ⟨_, rfl, _, rfl, up, down, rfl, by omega, hdn, small2000 (by omega) hdn, fun t ht => ⟨(by show 1 ≤ sizeLine; decide), fun l hl => ?_⟩⟩
    have g1 := Same.new ht (.tup [.int (rf ((up : Rat) / (down : Rat))).1, .int (rf ((up : Rat) / (down : Rat))).2])
    have g2 := Same.new hl (.lst [.ref t])
    exact q l _ _ (g1.trans g2) (g1.free hl) upd_same (.cons (Dp.same g2 _ _ (Dp.pair upd_same)) .nil)
  | rod L R ma mb =>
    obtain ⟨p, va, vb, rfl, hp, hva, hvb⟩ := mob_rod hD
    obtain ⟨r1, r2, r3, r4, harA, harB⟩ := harm
    refine ⟨_, rfl, p, _, _, _, rfl, rfl, hp, atI_nat (j := 0) rfl, rfl, _, rfl, ?_⟩
    refine (if_neg (fun z => wr_ne (of_decide_eq_true z))).mpr ?_
    have hd : max ma.deep mb.deep + 1 < n + 1 := hn
    have hd5 : max ma.deep mb.deep + 1 ≤ 5 := h5
    have db : down * (L + R) ≤ down * 18 := Int.mul_le_mul_of_nonneg_left (by omega) (by omega)
    have db0 : 0 < down * (L + R) := Int.mul_pos hdn (by omega)
    obtain ⟨k1, k2, k0⟩ := den_down (show down * 18 ^ (max ma.deep mb.deep + 1) ≤ 1000000000 from hden) db hdn
    refine ⟨_, rfl, p, _, _, _, rfl, rfl, hp, atI_nat (j := 1) rfl, _, rfl, p, _, _, _, rfl, rfl, hp, atI_nat (j := 2) rfl, _, _, rfl, rfl, ?_⟩
    refine ⟨_, rfl, p, _, _, _, rfl, rfl, hp, atI_nat (j := 3) rfl, _, rfl, _, rfl, p, _, _, _, rfl, rfl, hp, atI_nat (j := 2) rfl, _, _, rfl, rfl, .inr ⟨by omega, by omega⟩, _, rfl, _, rfl, _, _, rfl, rfl, .inr ⟨by omega, by omega⟩,
      va, ma, up * R, down * (L + R), rfl, hva, by omega, by omega, harA, Int.mul_pos hu (by omega), db0, k1, fun l1 ys1 H1 h1 n1 e1 d1 => ?_⟩
    refine ⟨_, rfl, _, rfl, p, _, _, _, rfl, rfl, hp.same h1, atI_nat (j := 4) rfl, _, rfl, _, rfl, p, _, _, _, rfl, rfl, hp.same h1, atI_nat (j := 1) rfl, _, _, rfl, rfl, .inr ⟨by omega, by omega⟩, _, rfl, _, rfl, _, _, rfl, rfl, .inr ⟨by omega, by omega⟩,
      vb, mb, up * L, down * (L + R), rfl, Dp.same h1 _ _ hvb, by omega, by omega, harB, Int.mul_pos hu (by omega), db0, k2, fun l2 ys2 H2 h2 n2 e2 d2 => ?_⟩
    have z1 : ys1.length ≤ 32 := by
      rw [d1.len, List.length_map, Mob.sh_len]
      exact names_small (by omega)
    have z2 : ys2.length ≤ 32 := by
      rw [d2.len, List.length_map, Mob.sh_len]
      exact names_small (by omega)
    refine ⟨l1, l2, ys1, ys2, rfl, rfl, h2 _ _ e1, e2, Nat.le_of_lt (small1000 (by omega)), fun l hl => ?_⟩
    have g5 := Same.new hl (.lst (ys1 ++ ys2))
    refine q l _ _ (h1.trans (h2.trans g5)) ((h1.trans h2).free hl) upd_same ?_
    have eb : (((up * L : Int) : Rat) / ((down * (L + R) : Int) : Rat)) = ((up : Rat) / (down : Rat)) * ((L : Rat) / ((L + R : Int) : Rat)) := by
      have := step_both (up := up) (l := R) (r := L) hdn (by omega)
      rwa [Int.add_comm R L] at this
    rw [step_both hdn (by omega)] at d1
    rw [eb] at d2
    show DpAll K _ _ ((ma.sh _ ++ mb.sh _).map fD)
    rw [List.map_append]
    exact (DpAll.same (h2.trans g5) _ _ d1).app (DpAll.same g5 _ _ d2)
theorem f_lsh (T : TopD K mg "_law_shares" s__law_shares p__law_shares) (Fl : Fn P w K mg base 1 "_law_least" p__law_least (spReduced K)) : ∀ n : Nat, Fn P w K mg base (1 + n) "_law_shares" p__law_shares (spLSh K n)
  | 0 => T.none fun vs H Q E h => by obtain ⟨v, m, up, down, _, _, hn, _⟩ := h; omega
  | n + 1 => f_lsh_step n T Fl (f_lsh T Fl n)
end
end My
namespace My
open PySem PySem.Spec PyProof.Rows L2 MA
section
variable {P : Program} {w : World} {K : PySem.W.Frag} {mg : Str → Option Value} {base : Heap}
theorem kit_int_bool : PySem.W.kitOne K (.type "int") (.type "bool") = some false := by rfl
theorem kit_int_int : PySem.W.kitOne K (.type "int") (.type "int") = some true := by rfl
theorem kit_str_str : PySem.W.kitOne K (.type "str") (.type "str") = some true := by rfl
theorem kit_tuple_tuple : PySem.W.kitOne K (.type "tuple") (.type "tuple") = some true := by rfl
def spNum (K : PySem.W.Frag) : Sp := fun vs H Q _ => ∃ (i f l : Int), vs = [.int i, .int f, .int l] ∧ f ≤ i ∧ i ≤ l ∧ Q (.bl true) H
theorem f_is_number (T : TopD K mg "is_number" s_is_number p_is_number) (b_isinstance : mg "isinstance" = none) (b_bool : mg "bool" = none) (b_int : mg "int" = none) : Fn P w K mg base 1 "is_number" p_is_number (spNum K) := by
  refine T.fn sc_is_number (fun vs H Q E h => ?_) (fun f cdv A outer s H vs Q E hr h => ?_)
  · obtain ⟨i, f, l, rfl, _⟩ := h
    rfl
  obtain ⟨i, f, l, rfl, h1, h2, q⟩ := h
  refine ⟨_, (pss_cons (ps_if (PW.pt (pw_or (pt_val (pe_callB call_isI rfl b_isinstance boot_isinstance (pa_cons (pv 0) (pa_cons (pe_bltn (v := .ty "bool") rfl b_bool boot_bool rfl) pa_nil)))) (pw_or1 (pt_not (pt_val (pe_callB call_isI rfl b_isinstance boot_isinstance (pa_cons (pv 0) (pa_cons (pe_bltn (v := .ty "int") rfl b_int boot_int rfl) pa_nil)))))))) (pss_one (ps_ret pe_bl)) pss_nil)
    (pss_one (ps_ret (pe_chain op_le op_le (pv 1) (pv 0) (pv 2))))), ?_⟩
  refine ⟨_, rfl, _, _, _, _, rfl, .of (.int i), kit_int_bool, _, rfl, iteF ?_⟩
  refine ⟨_, rfl, _, _, _, _, rfl, .of (.int i), kit_int_int, _, rfl, iteF ?_⟩
  refine ⟨_, rfl, _, rfl, _, _, rfl, rfl, _, rfl, (if_pos (decide_eq_true h1)).mpr ⟨_, rfl, _, _, rfl, rfl, ?_⟩⟩
  show Q (.bl (decide (i ≤ l))) H
  rw [decide_eq_true h2]
  exact q
def spName (K : PySem.W.Frag) : Sp := fun vs H Q _ => ∃ (x : Str), vs = [.str x] ∧ NameOk x ∧ ∀ H', Same H H' → Q (.bl true) H'
theorem lt_one {a b : Nat} : ([a] < [b]) ↔ a < b := by
  constructor
  · intro h
    cases h with
    | rel h => exact h
    | cons h => cases h
  · intro h
    exact .rel h
theorem a_cps : ("a" : Str).cps.toList = [97] := by decide +kernel
theorem z_cps : ("z" : Str).cps.toList = [122] := by decide +kernel
theorem f_is_name (T : TopD K mg "is_name" s_is_name p_is_name) (b_isinstance : mg "isinstance" = none) (b_str : mg "str" = none) (b_len : mg "len" = none) (b_all : mg "all" = none) {tk : Tok} (m_LONGEST_NAME : mg "LONGEST_NAME" = some (.int 3 tk)) : Fn P w K mg base 1 "is_name" p_is_name (spName K) := by
  refine T.fn sc_is_name (fun vs H Q E h => ?_) (fun f cdv A outer s H vs Q E hr h => ?_)
  · obtain ⟨x, rfl, _⟩ := h
    rfl
  obtain ⟨x, rfl, hx, q⟩ := h
  have ndc1 : ((["letter"] : List Str) ++ ([] : List Str)).Nodup := by decide +kernel
  refine ⟨_, (pss_cons (ps_if (PW.pt (pw_or (pt_not (pt_val (pe_callB call_isI rfl b_isinstance boot_isinstance (pa_cons (pv 0) (pa_cons (pe_bltn (v := .ty "str") rfl b_str boot_str rfl) pa_nil))))) (pw_or1 (pt_not (pt_chain op_le op_le pe_int (pe_callB call_len rfl b_len PySem.boot_len (pa_cons (pv 0) pa_nil)) (pe_glob (v := .int 3) rfl m_LONGEST_NAME ⟨_, rfl⟩)))))) (pss_one (ps_ret pe_bl)) pss_nil)
    (pss_one (ps_ret (pe_callB (call_all rfl) rfl b_all boot_all (pa_cons (pe_comp (own := ["letter"]) (frees := []) (ix := []) (pi_str (pv 0)) (fun c => (pg_name (i := 0) ndc1 rfl (by first | exact Or.inl rfl | exact Or.inr rfl))) (fun c => PIf.nil) (fun c => (pe_chain op_le_str op_le_str pe_str (pv 0) pe_str))) pa_nil))))), ?_⟩
  have x1 : (1 : Int) ≤ ((x.length : Nat) : Int) := by have := hx.lo; omega
  have x3 : ((x.length : Nat) : Int) ≤ 3 := by have := hx.hi; omega
  have xs : x.length ≤ sizeLine := Nat.le_of_lt (small1000 (by have := hx.hi; omega))
  refine ⟨_, rfl, _, _, _, _, rfl, .of (.str x), kit_str_str, _, rfl, iteF ?_⟩
  refine ⟨_, rfl, _, _, rfl, ⟨xs, rfl⟩, _, _, rfl, rfl, _, rfl, (if_pos (decide_eq_true x1)).mpr ⟨_, _, rfl, rfl, _, rfl, ?_⟩⟩
  rw [decide_eq_true x3]
  refine iteF ?_
  refine ⟨_, rfl, x, rfl, fun c acc hacc => ?_⟩
  refine comp_by (n := x.cps.size) (fun i ys H1 => ys = (List.replicate i true).map V.bl ∧ H1 acc = some (.lst ys) ∧ Same H H1) ?_ ?_ ?_ ?_ ?_ ?_
  · exact ⟨rfl, upd_same, Same.new hacc _⟩
  · rintro i ys H1 _ ⟨_, h, _⟩
    exact h
  · rintro i ys H1 hi _
    exact hi
  · rintro ys H1 _
    rfl
  · rintro i ys H1 v H2 hi ⟨hy, ha, g⟩ ⟨rfl, ch, hch, rfl⟩
    have hm : ch ∈ x.cps.toList := by
      have := Array.mem_of_getElem? hch
      exact Array.mem_toList_iff.mpr this
    obtain ⟨c1, c2⟩ := hx.az ch hm
    refine ⟨.own .nil, iteT ?_⟩
    have n1 : ¬ ((⟨#[ch]⟩ : Str).cps.toList < ("a" : Str).cps.toList) := by
      rw [a_cps]
      exact fun z => absurd (lt_one.mp z) (by omega)
    have n2 : ¬ (("z" : Str).cps.toList < (⟨#[ch]⟩ : Str).cps.toList) := by
      rw [z_cps]
      exact fun z => absurd (lt_one.mp z) (by omega)
    refine ⟨_, rfl, _, _, rfl, rfl, _, rfl, ?_⟩
    rw [decide_eq_false n1]
    refine iteT ⟨_, _, rfl, rfl, ?_⟩
    rw [decide_eq_false n2]
    refine ⟨ha, by rw [hy, List.length_map, List.length_replicate]; exact small1000 (by have := hx.hi; have : x.cps.size ≤ 3 := this; omega), by rw [hy, List.replicate_succ', List.map_append]; rfl, upd_same, fun b o e => ?_⟩
    rw [upd_ne (ne_of_none e hacc)]
    exact g b o e
  · rintro ys H1 ⟨rfl, ha, g⟩
    refine ⟨acc, List.replicate x.cps.size true, rfl, SqL.of ha, ?_⟩
    have : (List.replicate x.cps.size true).all id = true := by simp
    rw [this]
    exact q _ g
structure Good (n : Nat) (m : M) : Prop where
  deep : m.deep ≤ n
  arms : m.arms
  names : ∀ x ∈ m.names, NameOk x
def spIMW (K : PySem.W.Frag) (n : Nat) : Sp := fun vs H Q _ => ∃ (v : V) (m : M) (k : Nat), vs = [v, .int k] ∧ Dp K H v (mD m) ∧ Good k m ∧ m.deep < n ∧ ∀ H', Same H H' → Q (.bl true) H'
theorem f_imw_step (n : Nat) (T : TopD K mg "is_mobile_within" s_is_mobile_within p_is_mobile_within) (b_isinstance : mg "isinstance" = none) (b_str : mg "str" = none) (b_tuple : mg "tuple" = none) (b_len : mg "len" = none) {tk : Tok} (m_LONGEST_ARM : mg "LONGEST_ARM" = some (.int 9 tk))
    (F_is_name : Fn P w K mg base 1 "is_name" p_is_name (spName K)) (F_is_number : Fn P w K mg base 1 "is_number" p_is_number (spNum K)) (F_is_mobile_within : Fn P w K mg base (1 + n) "is_mobile_within" p_is_mobile_within (spIMW K n)) :
    Fn P w K mg base (1 + n + 1) "is_mobile_within" p_is_mobile_within (spIMW K (n + 1)) := by
  refine T.fn sc_is_mobile_within (fun vs H Q E h => ?_) (fun f cdv A outer s H vs Q E hr h => ?_)
  · obtain ⟨v, m, k, rfl, _⟩ := h
    rfl
  obtain ⟨v, m, k, rfl, hD, hg, hn, q⟩ := h
  refine ⟨_, (pss_cons (ps_if (PW.pt (pw_or (pt_not (pt_val (pe_callB call_isI rfl b_isinstance boot_isinstance (pa_cons (pv 0) (pa_cons (pe_bltn (v := .ty "tuple") rfl b_tuple boot_tuple rfl) pa_nil))))) (pw_or (pt_cmpR op_eq (pe_callB call_len rfl b_len PySem.boot_len (pa_cons (pv 0) pa_nil)) pe_int (nomark _)) (pw_or1 (pt_not (pt_val (pe_callB call_isI rfl b_isinstance boot_isinstance (pa_cons (pe_ix ix_tup (pv 0) pe_int (fun _ _ => rfl)) (pa_cons (pe_bltn (v := .ty "str") rfl b_str boot_str rfl) pa_nil))))))))) (pss_one (ps_ret pe_bl)) pss_nil)
    (pss_cons (ps_if (pt_cmpR op_eq (pe_ix ix_tup (pv 0) pe_int (fun _ _ => rfl)) pe_str (nomark _)) (pss_one (ps_ret (pe_and (pe_cmpR op_eq (pe_callB call_len rfl b_len PySem.boot_len (pa_cons (pv 0) pa_nil)) pe_int (nomark _)) (pe_one (pe_callF F_is_name (hr.mono (by omega)) (pa_cons (pe_ix ix_tup (pv 0) pe_int (fun _ _ => rfl)) pa_nil)))))) pss_nil)
    (pss_cons (ps_if (PW.pt (pw_or (pt_cmpR op_ne (pe_ix ix_tup (pv 0) pe_int (fun _ _ => rfl)) pe_str (nomark _)) (pw_or (pt_cmpR op_ne (pe_callB call_len rfl b_len PySem.boot_len (pa_cons (pv 0) pa_nil)) pe_int (nomark _)) (pw_or1 (pt_cmpR op_eq (pv 1) pe_int (nomark _)))))) (pss_one (ps_ret pe_bl)) pss_nil)
    (pss_cons (ps_if (PW.pt (pw_or (pt_not (pt_val (pe_callF F_is_number (hr.mono (by omega)) (pa_cons (pe_ix ix_tup (pv 0) pe_int (fun _ _ => rfl)) (pa_cons pe_int (pa_cons (pe_glob (v := .int 9) rfl m_LONGEST_ARM ⟨_, rfl⟩) pa_nil)))))) (pw_or1 (pt_not (pt_val (pe_callF F_is_number (hr.mono (by omega)) (pa_cons (pe_ix ix_tup (pv 0) pe_int (fun _ _ => rfl)) (pa_cons pe_int (pa_cons (pe_glob (v := .int 9) rfl m_LONGEST_ARM ⟨_, rfl⟩) pa_nil))))))))) (pss_one (ps_ret pe_bl)) pss_nil)
    (pss_one (ps_ret (pe_and (pe_callF F_is_mobile_within (hr.mono (by omega)) (pa_cons (pe_ix ix_tup (pv 0) pe_int (fun _ _ => rfl)) (pa_cons (pe_op op_sub (pv 1) pe_int) pa_nil))) (pe_one (pe_callF F_is_mobile_within (hr.mono (by omega)) (pa_cons (pe_ix ix_tup (pv 0) pe_int (fun _ _ => rfl)) (pa_cons (pe_op op_sub (pv 1) pe_int) pa_nil))))))))))), ?_⟩
  cases m with
  | wt nm =>
    obtain ⟨a, rfl, ha⟩ := mob_wt hD
    refine ⟨_, rfl, _, _, _, _, rfl, .tup ha, kit_tuple_tuple, _, rfl, iteF ?_⟩
    refine ⟨_, rfl, _, _, rfl, .inr ⟨_, ha, rfl⟩, rfl, _, rfl, iteF ?_⟩
    refine ⟨_, rfl, a, _, _, _, rfl, rfl, ha, atI_nat (j := 0) rfl, _, _, _, _, rfl, .of (.str _), kit_str_str, _, rfl, iteF ?_⟩
    refine ⟨_, rfl, a, _, _, _, rfl, rfl, ha, atI_nat (j := 0) rfl, rfl, _, rfl, ?_⟩
    refine (if_pos (decide_eq_true rfl)).mpr ?_
    refine ⟨_, rfl, _, _, rfl, .inr ⟨_, ha, rfl⟩, rfl, _, rfl, iteT ?_⟩
    exact ⟨_, rfl, a, _, _, _, rfl, rfl, ha, atI_nat (j := 1) rfl, nm, rfl, hg.names nm (by simp [Mob.names]), q⟩
  | rod L R ma mb =>
    obtain ⟨p, va, vb, rfl, hp, hva, hvb⟩ := mob_rod hD
    obtain ⟨r1, r2, r3, r4, harA, harB⟩ := hg.arms
    have hdk : max ma.deep mb.deep + 1 ≤ k := hg.deep
    have hd : max ma.deep mb.deep + 1 < n + 1 := hn
    refine ⟨_, rfl, _, _, _, _, rfl, .tup hp, kit_tuple_tuple, _, rfl, iteF ?_⟩
    refine ⟨_, rfl, _, _, rfl, .inr ⟨_, hp, rfl⟩, rfl, _, rfl, iteF ?_⟩
    refine ⟨_, rfl, p, _, _, _, rfl, rfl, hp, atI_nat (j := 0) rfl, _, _, _, _, rfl, .of (.str _), kit_str_str, _, rfl, iteF ?_⟩
    refine ⟨_, rfl, p, _, _, _, rfl, rfl, hp, atI_nat (j := 0) rfl, rfl, _, rfl, ?_⟩
    refine (if_neg (fun z => wr_ne (of_decide_eq_true z))).mpr ?_
    refine ⟨_, rfl, p, _, _, _, rfl, rfl, hp, atI_nat (j := 0) rfl, rfl, _, rfl, ?_⟩
    refine (if_neg (by decide +kernel)).mpr ?_
    refine ⟨_, rfl, _, _, rfl, .inr ⟨_, hp, rfl⟩, rfl, _, rfl, iteF ?_⟩
    refine ⟨_, rfl, rfl, _, rfl, ?_⟩
    refine (if_neg (fun z => ?_)).mpr ?_
    · have z' : V.int (k : Int) = V.int 0 := of_decide_eq_true z
      injection z' with z'
      omega
    refine ⟨_, rfl, p, _, _, _, rfl, rfl, hp, atI_nat (j := 1) rfl, L, 1, 9, rfl, r1, r2, _, rfl, iteF ?_⟩
    refine ⟨_, rfl, p, _, _, _, rfl, rfl, hp, atI_nat (j := 2) rfl, R, 1, 9, rfl, r3, r4, _, rfl, iteF ?_⟩
    have ek : ((k : Int) - 1) = ((k - 1 : Nat) : Int) := by omega
    refine ⟨_, rfl, p, _, _, _, rfl, rfl, hp, atI_nat (j := 3) rfl, _, rfl, _, _, rfl, rfl, va, ma, k - 1, by show [va, V.int ((k : Int) - 1)] = _; rw [ek], hva, ⟨by omega, harA, fun x hx => hg.names x (List.mem_append_left _ hx)⟩, by omega, fun H1 g1 => ⟨_, rfl, iteT ?_⟩⟩
    exact ⟨_, rfl, p, _, _, _, rfl, rfl, hp.same g1, atI_nat (j := 4) rfl, _, rfl, _, _, rfl, rfl, vb, mb, k - 1, by show [vb, V.int ((k : Int) - 1)] = _; rw [ek], Dp.same g1 _ _ hvb, ⟨by omega, harB, fun x hx => hg.names x (List.mem_append_right _ hx)⟩, by omega, fun H2 g2 => q _ (g1.trans g2)⟩
theorem f_imw (T : TopD K mg "is_mobile_within" s_is_mobile_within p_is_mobile_within) (b_isinstance : mg "isinstance" = none) (b_str : mg "str" = none) (b_tuple : mg "tuple" = none) (b_len : mg "len" = none) {tk : Tok} (m_LONGEST_ARM : mg "LONGEST_ARM" = some (.int 9 tk))
    (F1 : Fn P w K mg base 1 "is_name" p_is_name (spName K)) (F2 : Fn P w K mg base 1 "is_number" p_is_number (spNum K)) : ∀ n : Nat, Fn P w K mg base (1 + n) "is_mobile_within" p_is_mobile_within (spIMW K n)
  | 0 => T.none fun vs H Q E h => by obtain ⟨v, m, k, _, _, _, hn, _⟩ := h; omega
  | n + 1 => f_imw_step n T b_isinstance b_str b_tuple b_len m_LONGEST_ARM F1 F2 (f_imw T b_isinstance b_str b_tuple b_len m_LONGEST_ARM F1 F2 n)
def spIM (K : PySem.W.Frag) (u : V) : Sp := fun vs H Q _ => ∃ (v : V) (m : M), vs = [v] ∧ Dp K H v (mD m) ∧ Good 5 m ∧ ∀ H', Same H H' → Q u H'
theorem f_is_mobile (T : TopD K mg "is_mobile" s_is_mobile p_is_mobile) {tk : Tok} (m_MOST_RODS : mg "MOST_RODS" = some (.int 5 tk)) (F_is_mobile_within : Fn P w K mg base 7 "is_mobile_within" p_is_mobile_within (spIMW K 6)) : Fn P w K mg base 8 "is_mobile" p_is_mobile (spIM K (.bl true)) := by
  refine T.fn sc_is_mobile (fun vs H Q E h => ?_) (fun f cdv A outer s H vs Q E hr h => ?_)
  · obtain ⟨v, m, rfl, _⟩ := h
    rfl
  obtain ⟨v, m, rfl, hD, hg, q⟩ := h
  refine ⟨_, (pss_one (ps_ret (pe_callF F_is_mobile_within (hr.mono (by omega)) (pa_cons (pv 0) (pa_cons (pe_glob (v := .int 5) rfl m_MOST_RODS ⟨_, rfl⟩) pa_nil))))), ?_⟩
  exact ⟨_, rfl, v, m, 5, rfl, hD, hg, Nat.lt_succ_of_le hg.deep, q⟩
theorem f_check_mobile (T : TopD K mg "check_mobile" s_check_mobile p_check_mobile) (F_is_mobile : Fn P w K mg base 8 "is_mobile" p_is_mobile (spIM K (.bl true))) : Fn P w K mg base 9 "check_mobile" p_check_mobile (spIM K .non) := by
  refine T.fn sc_check_mobile (fun vs H Q E h => ?_) (fun f cdv A outer s H vs Q E hr h => ?_)
  · obtain ⟨v, m, rfl, _⟩ := h
    rfl
  obtain ⟨v, m, rfl, hD, hg, q⟩ := h
  refine ⟨_, (pss_one (ps_if (pt_not (pt_val (pe_callF F_is_mobile (hr.mono (by omega)) (pa_cons (pv 0) pa_nil)))) (pss_one ps_never) pss_nil)), ?_⟩
  exact ⟨_, rfl, v, m, rfl, hD, hg, fun H1 g1 => ⟨_, rfl, iteF (q _ g1)⟩⟩
end
end My
namespace My
open PySem PySem.Spec PyProof.Rows L2 MA
section
variable {P : Program} {w : World} {K : PySem.W.Frag} {mg : Str → Option Value} {base : Heap}
def spShares (K : PySem.W.Frag) : Sp := fun vs H Q _ => ∃ (v : V) (m : M), vs = [v] ∧ Dp K H v (mD m) ∧ Good 5 m ∧
  ∀ (l : Addr) (ys : List V) H', Same H H' → H l = none → H' l = some (.lst ys) → DpAll K H' ys ((sh3 m "" 1).map rowD) → Q (.ref l) H'
theorem pow18_5 {k : Nat} (h : k ≤ 5) : (rf 1).2 * 18 ^ k ≤ 1000000000 := by
  have := pow_le18 h
  have e : (rf 1).2 = 1 := rfl
  rw [e, Int.one_mul]
  exact Int.le_trans this (by decide)
theorem f_shares (T : TopD K mg "shares" s_shares p_shares) (F_check_mobile : Fn P w K mg base 9 "check_mobile" p_check_mobile (spIM K .non)) (F_shares_below : Fn P w K mg base 9 "shares_below" p_shares_below (spShB K 6)) : Fn P w K mg base 10 "shares" p_shares (spShares K) := by
  refine T.fn sc_shares (fun vs H Q E h => ?_) (fun f cdv A outer s H vs Q E hr h => ?_)
  · obtain ⟨v, m, rfl, _⟩ := h
    rfl
  obtain ⟨v, m, rfl, hD, hg, q⟩ := h
  refine ⟨_, (pss_cons (ps_expr (pe_callF F_check_mobile (hr.mono (by omega)) (pa_cons (pv 0) pa_nil)))
    (pss_one (ps_ret (pe_callF F_shares_below (hr.mono (by omega)) (pa_cons (pv 0) (pa_cons pe_str (pa_cons (pe_tup (pa_cons pe_int (pa_cons pe_int pa_nil))) pa_nil))))))), ?_⟩
  refine ⟨_, rfl, v, m, rfl, hD, hg, fun H1 g1 => ?_⟩
  refine ⟨_, rfl, (by show 2 ≤ sizeLine; decide), fun t ht => ?_⟩
  have g2 := Same.new ht (.tup [.int 1, .int 1])
  refine ⟨v, .ref t, m, "", 1, rfl, Dp.same (g1.trans g2) _ _ hD, Dp.pair upd_same, Nat.lt_succ_of_le hg.deep, hg.deep, hg.arms, ?_, by decide, pow18_5 hg.deep, fun l ys H2 g3 hl e d => ?_⟩
  · have : ("" : Str).length = 0 := by decide +kernel
    rw [this]
    have := hg.deep
    omega
  · exact q l ys H2 (g1.trans (g2.trans g3)) ((g1.trans g2).free hl) e d
end
end My
namespace My
open PySem PySem.Spec PyProof.Rows L2 MA
section
variable {P : Program} {w : World} {K : PySem.W.Frag} {mg : Str → Option Value} {base : Heap}
def tyName : PyData → String
  | .none => "NoneType" | .bool _ => "bool" | .int _ => "int" | .str _ => "str" | .list _ => "list" | .tuple _ => "tuple" | .dict _ => "dict"
theorem tyD {H : Hp} {v : V} {d : PyData} (h : Dp K H v d) : TyR K H v (.type (tyName d)) := by
  cases h with
  | non => exact .of .non
  | bl b => exact .of (.bl b)
  | int i => exact .of (.int i)
  | str x => exact .of (.str x)
  | lst hq _ => exact .lst hq
  | tup hq _ => exact .tup hq
def numB (d : PyData) (f l : Int) : Bool := match d with | .int i => decide (f ≤ i) && decide (i ≤ l) | _ => false
def spNumG (K : PySem.W.Frag) : Sp := fun vs H Q _ => ∃ (v : V) (d : PyData) (f l : Int), vs = [v, .int f, .int l] ∧ Dp K H v d ∧ Q (.bl (numB d f l)) H
theorem kitB (d : PyData) : PySem.W.kitOne K (.type (tyName d)) (.type "bool") = some (match d with | .bool _ => true | _ => false) := by cases d <;> rfl
theorem kitI (d : PyData) : PySem.W.kitOne K (.type (tyName d)) (.type "int") = some (match d with | .bool _ => true | .int _ => true | _ => false) := by cases d <;> rfl
theorem kitS (d : PyData) : PySem.W.kitOne K (.type (tyName d)) (.type "str") = some (match d with | .str _ => true | _ => false) := by cases d <;> rfl
theorem kitT (d : PyData) : PySem.W.kitOne K (.type (tyName d)) (.type "tuple") = some (match d with | .tuple _ => true | _ => false) := by cases d <;> rfl
theorem f_numG (T : TopD K mg "is_number" s_is_number p_is_number) (b_isinstance : mg "isinstance" = none) (b_bool : mg "bool" = none) (b_int : mg "int" = none) : Fn P w K mg base 1 "is_number" p_is_number (spNumG K) := by
  refine T.fn sc_is_number (fun vs H Q E h => ?_) (fun f cdv A outer s H vs Q E hr h => ?_)
  · obtain ⟨v, d, f, l, rfl, _⟩ := h
    rfl
  obtain ⟨v, d, f, l, rfl, hD, q⟩ := h
  refine ⟨_, (pss_cons (ps_if (PW.pt (pw_or (pt_val (pe_callB call_isI rfl b_isinstance boot_isinstance (pa_cons (pv 0) (pa_cons (pe_bltn (v := .ty "bool") rfl b_bool boot_bool rfl) pa_nil)))) (pw_or1 (pt_not (pt_val (pe_callB call_isI rfl b_isinstance boot_isinstance (pa_cons (pv 0) (pa_cons (pe_bltn (v := .ty "int") rfl b_int boot_int rfl) pa_nil)))))))) (pss_one (ps_ret pe_bl)) pss_nil)
    (pss_one (ps_ret (pe_chain op_le op_le (pv 1) (pv 0) (pv 2))))), ?_⟩
  refine ⟨_, rfl, _, _, _, _, rfl, tyD hD, kitB d, _, rfl, ?_⟩
  cases hD with
  | bl b => exact iteT q
  | int i =>
    refine iteF ⟨_, rfl, _, _, _, _, rfl, .of (.int i), kit_int_int, _, rfl, iteF ?_⟩
    refine ⟨_, rfl, _, rfl, _, _, rfl, rfl, _, rfl, ?_⟩
    by_cases h1 : f ≤ i
    · refine (if_pos (decide_eq_true h1)).mpr ⟨_, rfl, _, _, rfl, rfl, ?_⟩
      show Q (.bl (decide (i ≤ l))) H
      have : numB (.int i) f l = decide (i ≤ l) := by simp [numB, h1]
      rw [← this]; exact q
    · refine (if_neg (by simpa using h1)).mpr ?_
      have : numB (.int i) f l = false := by simp [numB, h1]
      show Q (.bl false) H
      rw [← this]; exact q
  | non => exact iteF ⟨_, rfl, _, _, _, _, rfl, .of .non, (kitI .none), _, rfl, iteT q⟩
  | str x => exact iteF ⟨_, rfl, _, _, _, _, rfl, .of (.str x), (kitI (.str x)), _, rfl, iteT q⟩
  | lst hq hs => exact iteF ⟨_, rfl, _, _, _, _, rfl, .lst hq, (kitI (.list [])), _, rfl, iteT q⟩
  | tup hq hs => exact iteF ⟨_, rfl, _, _, _, _, rfl, .tup hq, (kitI (.tuple [])), _, rfl, iteT q⟩
def azB (c : Nat) : Bool := decide (97 ≤ c) && decide (c ≤ 122)
def nameB (d : PyData) : Bool := match d with | .str x => decide (1 ≤ x.length) && decide (x.length ≤ 3) && x.cps.toList.all azB | _ => false
theorem nameB_ok {x : Str} : nameB (.str x) = true ↔ NameOk x := by
  simp only [nameB, Bool.and_eq_true, decide_eq_true_eq, List.all_eq_true, azB]
  exact ⟨fun h => ⟨h.1.1, h.1.2, h.2⟩, fun h => ⟨⟨h.lo, h.hi⟩, h.az⟩⟩
def smS (d : PyData) : Prop := ∀ x, d = .str x → x.length ≤ 1000
def spNameG (K : PySem.W.Frag) : Sp := fun vs H Q _ => ∃ (v : V) (d : PyData), vs = [v] ∧ Dp K H v d ∧ smS d ∧ ∀ H', Same H H' → Q (.bl (nameB d)) H'
theorem f_nameG (T : TopD K mg "is_name" s_is_name p_is_name) (b_isinstance : mg "isinstance" = none) (b_str : mg "str" = none) (b_len : mg "len" = none) (b_all : mg "all" = none) {tk : Tok} (m_LONGEST_NAME : mg "LONGEST_NAME" = some (.int 3 tk)) : Fn P w K mg base 1 "is_name" p_is_name (spNameG K) := by
  refine T.fn sc_is_name (fun vs H Q E h => ?_) (fun f cdv A outer s H vs Q E hr h => ?_)
  · obtain ⟨v, d, rfl, _⟩ := h
    rfl
  obtain ⟨v, d, rfl, hD, hsm, q⟩ := h
  have ndc1 : ((["letter"] : List Str) ++ ([] : List Str)).Nodup := by decide +kernel
  refine ⟨_, (pss_cons (ps_if (PW.pt (pw_or (pt_not (pt_val (pe_callB call_isI rfl b_isinstance boot_isinstance (pa_cons (pv 0) (pa_cons (pe_bltn (v := .ty "str") rfl b_str boot_str rfl) pa_nil))))) (pw_or1 (pt_not (pt_chain op_le op_le pe_int (pe_callB call_len rfl b_len PySem.boot_len (pa_cons (pv 0) pa_nil)) (pe_glob (v := .int 3) rfl m_LONGEST_NAME ⟨_, rfl⟩)))))) (pss_one (ps_ret pe_bl)) pss_nil)
    (pss_one (ps_ret (pe_callB (call_all rfl) rfl b_all boot_all (pa_cons (pe_comp (own := ["letter"]) (frees := []) (ix := []) (pi_str (pv 0)) (fun c => (pg_name (i := 0) ndc1 rfl (by first | exact Or.inl rfl | exact Or.inr rfl))) (fun c => PIf.nil) (fun c => (pe_chain op_le_str op_le_str pe_str (pv 0) pe_str))) pa_nil))))), ?_⟩
  refine ⟨_, rfl, _, _, _, _, rfl, tyD hD, kitS d, _, rfl, ?_⟩
  cases hD with
  | non => exact iteT (q _ (Same.refl _))
  | bl b => exact iteT (q _ (Same.refl _))
  | int i => exact iteT (q _ (Same.refl _))
  | lst hq hs => exact iteT (q _ (Same.refl _))
  | tup hq hs => exact iteT (q _ (Same.refl _))
  | str x =>
    have xs : x.length ≤ sizeLine := Nat.le_of_lt (small1000 (hsm x rfl))
    refine iteF ?_
    refine ⟨_, rfl, _, _, rfl, ⟨xs, rfl⟩, _, _, rfl, rfl, _, rfl, ?_⟩
    by_cases x1 : (1 : Int) ≤ ((x.length : Nat) : Int)
    · refine (if_pos (decide_eq_true x1)).mpr ⟨_, _, rfl, rfl, _, rfl, ?_⟩
      by_cases x3 : ((x.length : Nat) : Int) ≤ 3
      · rw [decide_eq_true x3]
        refine iteF ?_
        refine ⟨_, rfl, x, rfl, fun c acc hacc => ?_⟩
        refine comp_by (n := x.cps.size) (fun i ys H1 => ys = ((x.cps.toList.take i).map azB).map V.bl ∧ H1 acc = some (.lst ys) ∧ Same H H1) ?_ ?_ ?_ ?_ ?_ ?_
        · exact ⟨by simp, upd_same, Same.new hacc _⟩
        · rintro i ys H1 _ ⟨_, h, _⟩
          exact h
        · rintro i ys H1 hi _
          exact hi
        · rintro ys H1 _
          rfl
        · rintro i ys H1 v H2 hi ⟨hy, ha, g⟩ ⟨rfl, ch, hch, rfl⟩
          refine ⟨.own .nil, iteT ?_⟩
          have hlen : ys.length < sizeLine := by
            rw [hy, List.length_map, List.length_map, List.length_take]
            have h3 : x.length ≤ 3 := by omega
            have h3' : x.cps.size ≤ 3 := h3
            exact small1000 (by omega)
          have fin : ∀ b : Bool, b = azB ch → H2 acc = some (.lst ys) ∧ ys.length < sizeLine ∧ (ys ++ [V.bl b] = ((x.cps.toList.take (i + 1)).map azB).map V.bl ∧ upd H2 acc (.lst (ys ++ [V.bl b])) acc = some (.lst (ys ++ [V.bl b])) ∧ Same H (upd H2 acc (.lst (ys ++ [V.bl b])))) := fun b hb => by
            refine ⟨ha, hlen, ?_, upd_same, fun b' o e => ?_⟩
            · rw [hy, hb, List.take_add_one, show x.cps.toList[i]? = some ch by simpa using hch]
              simp
            · rw [upd_ne (ne_of_none e hacc)]
              exact g b' o e
          refine ⟨_, rfl, _, _, rfl, rfl, _, rfl, ?_⟩
          by_cases c1 : (⟨#[ch]⟩ : Str).cps.toList < ("a" : Str).cps.toList
          · rw [decide_eq_true c1]
            refine iteF (fin false ?_)
            rw [a_cps] at c1
            have := lt_one.mp c1
            simp [azB]; omega
          · rw [decide_eq_false c1]
            refine iteT ⟨_, _, rfl, rfl, ?_⟩
            refine fin _ ?_
            rw [a_cps] at c1
            have c1' : 97 ≤ ch := Nat.le_of_not_lt fun z => c1 (lt_one.mpr z)
            rw [z_cps]
            have : decide ([122] < (⟨#[ch]⟩ : Str).cps.toList) = decide (122 < ch) := by
              by_cases z : 122 < ch
              · rw [decide_eq_true z, decide_eq_true (lt_one.mpr z)]
              · rw [decide_eq_false z, decide_eq_false (fun y => z (lt_one.mp y))]
            rw [this]
            simp only [azB, decide_eq_true c1', Bool.true_and]
            by_cases z : 122 < ch
            · rw [decide_eq_true z, decide_eq_false (by omega)]; rfl
            · rw [decide_eq_false z, decide_eq_true (by omega)]; rfl
        · rintro ys H1 ⟨rfl, ha, g⟩
          refine ⟨acc, (x.cps.toList.take x.cps.size).map azB, rfl, SqL.of ha, ?_⟩
          have : ((x.cps.toList.take x.cps.size).map azB).all id = nameB (.str x) := by
            have e : x.cps.toList.take x.cps.size = x.cps.toList := List.take_of_length_le (by simp)
            rw [e, List.all_map]
            have h1 : 1 ≤ x.length := by omega
            have h3 : x.length ≤ 3 := by omega
            simp [nameB, h1, h3]
          rw [this]
          exact q _ g
      · rw [decide_eq_false x3]
        refine iteT ?_
        have : nameB (.str x) = false := by simp [nameB]; intro _ h; omega
        rw [← this]; exact q _ (Same.refl _)
    · refine (if_neg (by simpa using x1)).mpr ⟨_, rfl, iteT ?_⟩
      have : nameB (.str x) = false := by simp [nameB]; intro h; omega
      rw [← this]; exact q _ (Same.refl _)
end
end My
namespace My
open PySem PySem.Spec PyProof.Rows L2 MA
section
variable {P : Program} {w : World} {K : PySem.W.Frag} {mg : Str → Option Value} {base : Heap}
def pairB (d : PyData) : Bool := match d with | .tuple [a, b] => nameB a && numB b 1 999999 | _ => false
def pSm (d : PyData) : Prop := ∀ a b, d = .tuple [a, b] → smS a
def spPairG (K : PySem.W.Frag) : Sp := fun vs H Q _ => ∃ (v : V) (d : PyData), vs = [v] ∧ Dp K H v d ∧ pSm d ∧ (∀ ds, d = .tuple ds → ds.length ≤ 1000) ∧ ∀ H', Same H H' → Q (.bl (pairB d)) H'
theorem f_pairG (T : TopD K mg "is_named_number" s_is_named_number p_is_named_number) (b_isinstance : mg "isinstance" = none) (b_tuple : mg "tuple" = none) (b_len : mg "len" = none) {tk : Tok} (m_HEAVIEST : mg "HEAVIEST" = some (.int 999999 tk))
    (F_is_name : Fn P w K mg base 1 "is_name" p_is_name (spNameG K)) (F_is_number : Fn P w K mg base 1 "is_number" p_is_number (spNumG K)) : Fn P w K mg base 2 "is_named_number" p_is_named_number (spPairG K) := by
  refine T.fn sc_is_named_number (fun vs H Q E h => ?_) (fun f cdv A outer s H vs Q E hr h => ?_)
  · obtain ⟨v, d, rfl, _⟩ := h
    rfl
  obtain ⟨v, d, rfl, hD, hsm, hlen, q⟩ := h
  refine ⟨_, (pss_cons (ps_if (PW.pt (pw_or (pt_not (pt_val (pe_callB call_isI rfl b_isinstance boot_isinstance (pa_cons (pv 0) (pa_cons (pe_bltn (v := .ty "tuple") rfl b_tuple boot_tuple rfl) pa_nil))))) (pw_or1 (pt_cmpR op_ne (pe_callB call_len rfl b_len PySem.boot_len (pa_cons (pv 0) pa_nil)) pe_int (nomark _))))) (pss_one (ps_ret pe_bl)) pss_nil)
    (pss_one (ps_ret (pe_and (pe_callF F_is_name (hr.mono (by omega)) (pa_cons (pe_ix ix_tup (pv 0) pe_int (fun _ _ => rfl)) pa_nil)) (pe_one (pe_callF F_is_number (hr.mono (by omega)) (pa_cons (pe_ix ix_tup (pv 0) pe_int (fun _ _ => rfl)) (pa_cons pe_int (pa_cons (pe_glob (v := .int 999999) rfl m_HEAVIEST ⟨_, rfl⟩) pa_nil))))))))), ?_⟩
  refine ⟨_, rfl, _, _, _, _, rfl, tyD hD, kitT d, _, rfl, ?_⟩
  cases hD with
  | non => exact iteT (q _ (Same.refl _))
  | bl b => exact iteT (q _ (Same.refl _))
  | int i => exact iteT (q _ (Same.refl _))
  | str x => exact iteT (q _ (Same.refl _))
  | lst hq hs => exact iteT (q _ (Same.refl _))
  | @tup a xs ds hq hs =>
    have hl := hs.len
    refine iteF ?_
    refine ⟨_, rfl, _, _, rfl, .inr ⟨_, hq, rfl⟩, rfl, _, rfl, ?_⟩
    by_cases h2 : ds.length = 2
    · obtain ⟨d1, d2, rfl⟩ : ∃ d1 d2, ds = [d1, d2] := by
        match ds, h2 with
        | [d1, d2], _ => exact ⟨d1, d2, rfl⟩
      cases hs with
      | cons h1 hs =>
        cases hs with
        | cons hh2 hs =>
          cases hs
          refine iteF ?_
          refine ⟨_, rfl, a, _, _, _, rfl, rfl, hq, atI_nat (j := 0) rfl, _, d1, rfl, h1, hsm d1 d2 rfl, fun H1 g1 => ⟨_, rfl, ?_⟩⟩
          by_cases hn : nameB d1 = true
          · rw [hn]
            refine iteT ⟨_, rfl, a, _, _, _, rfl, rfl, hq.same g1, atI_nat (j := 1) rfl, _, d2, 1, 999999, rfl, Dp.same g1 _ _ hh2, ?_⟩
            have : pairB (.tuple [d1, d2]) = numB d2 1 999999 := by simp [pairB, hn]
            rw [← this]
            exact q _ g1
          · have hn' : nameB d1 = false := by simpa using hn
            rw [hn']
            have : pairB (.tuple [d1, d2]) = false := by simp [pairB, hn']
            refine iteF ?_
            show Q (.bl false) H1
            rw [← this]
            exact q _ g1
    · have hb : pairB (.tuple ds) = false := by
        match ds, h2 with
        | [], _ => rfl
        | [_], _ => rfl
        | [_, _], z => exact absurd rfl z
        | _ :: _ :: _ :: _, _ => rfl
      have hne : ¬ (V.int (xs.length : Nat) = V.int 2) := fun z => by
        injection z with z
        omega
      refine (if_pos ?_).mpr ?_
      · simpa using hne
      · show Q (.bl false) H
        rw [← hb]
        exact q _ (Same.refl _)
end
end My
namespace My
open PySem PySem.Spec PyProof.Rows L2 MA
instance : DecidableRel strLt := fun a b => inferInstanceAs (Decidable (a.cps.toList < b.cps.toList))
theorem strLt_irrefl (a : Str) : ¬ strLt a a := fun h => List.lt_irrefl _ h
theorem strLt_trans {a b c : Str} (h1 : strLt a b) (h2 : strLt b c) : strLt a c := List.lt_trans h1 h2
theorem rise_eq : ∀ {xs ys : List Str}, xs.Pairwise strLt → ys.Pairwise strLt → (∀ x, x ∈ ys ↔ x ∈ xs) → xs = ys
  | [], [], _, _, _ => rfl
  | [], y :: r, _, _, h => absurd ((h y).mp (by simp)) (by simp)
  | x :: r, [], _, _, h => absurd ((h x).mpr (by simp)) (by simp)
  | x :: r, y :: q, h1, h2, h => by
    obtain ⟨p1, p2⟩ := List.pairwise_cons.mp h1
    obtain ⟨q1, q2⟩ := List.pairwise_cons.mp h2
    have e : x = y := by
      rcases List.mem_cons.mp ((h x).mpr (by simp)) with z | z
      · exact z
      · rcases List.mem_cons.mp ((h y).mp (by simp)) with z' | z'
        · exact z'.symm
        · exact absurd (strLt_trans (q1 x z) (p1 y z')) (strLt_irrefl _)
    subst e
    refine congrArg _ (rise_eq p2 q2 fun z => ?_)
    have hz := h z
    constructor
    · intro hm
      rcases List.mem_cons.mp (hz.mp (List.mem_cons_of_mem _ hm)) with w | w
      · subst w; exact absurd (q1 _ hm) (strLt_irrefl _)
      · exact w
    · intro hm
      rcases List.mem_cons.mp (hz.mpr (List.mem_cons_of_mem _ hm)) with w | w
      · subst w; exact absurd (p1 _ hm) (strLt_irrefl _)
      · exact w
def nameOf (d : PyData) : Str := match d with | .tuple (.str x :: _) => x | _ => ⟨#[]⟩
def wB (d : PyData) : Bool := match d with | .tuple ps => ps.all pairB && decide ((ps.map nameOf).Pairwise strLt) | _ => false
def wSm (d : PyData) : Prop := ∀ ps, d = .tuple ps → ps.length < 64 ∧ ∀ p ∈ ps, pSm p ∧ ∀ ds, p = .tuple ds → ds.length ≤ 1000
theorem pairB_I {d : PyData} (h : pairB d = true) : ∃ x i, d = .tuple [.str x, .int i] ∧ NameOk x ∧ 1 ≤ i ∧ i ≤ 999999 := by
  unfold pairB at h
  split at h
  · rename_i a b
    rw [Bool.and_eq_true] at h
    obtain ⟨h1, h2⟩ := h
    cases a with
    | str x =>
      cases b with
      | int i =>
        simp only [numB, Bool.and_eq_true, decide_eq_true_eq] at h2
        exact ⟨x, i, rfl, nameB_ok.mp h1, h2.1, h2.2⟩
      | _ => simp [numB] at h2
    | _ => simp [nameB] at h1
  · cases h
theorem pair2I {K : PySem.W.Frag} {H : Hp} {v : V} {x : Str} {i : Int} (h : Dp K H v (.tuple [.str x, .int i])) : ∃ a, v = .ref a ∧ SqT K H a [.str x, .int i] := by
  obtain ⟨a, xs, rfl, hq, hs⟩ := Dp.tupI h
  obtain ⟨v1, r1, rfl, h1, hs⟩ := hs.consI
  obtain ⟨v2, r2, rfl, h2, hs⟩ := hs.consI
  obtain rfl := hs.nilI
  obtain rfl := h1.strI
  obtain rfl := h2.intI
  exact ⟨a, rfl, hq⟩
theorem name_strOk {x : Str} (h : NameOk x) : PyData.strOk x = true := by
  show x.cps.all (· < 0x110000) = true
  rw [Array.all_eq_true_iff_forall_mem]
  intro c hc
  have := h.az c (Array.mem_toList_iff.mpr hc)
  exact decide_eq_true (by omega)
theorem strs_lay : ∀ xs : List Str, (∀ x ∈ xs, NameOk x) → PyData.canLayAll0 (xs.map PyData.str) = true
  | [], _ => by simp [PyData.canLayAll0]
  | x :: r, h => by
    rw [List.map_cons]
    simp [PyData.canLayAll0, PyData.canLay0, name_strOk (h x (by simp)), strs_lay r fun y hy => h y (by simp [hy])]
theorem strs_noB : ∀ xs : List Str, noBs (xs.map PyData.str) = true
  | [] => rfl
  | x :: r => by simp [noBs, noB, strs_noB r]
theorem lst_noB (xs : List Str) : noB (.list (xs.map PyData.str)) = true := by
  have := strs_noB xs
  unfold noB
  exact this
theorem strs_depth : ∀ xs : List Str, PyData.depthAll (xs.map PyData.str) = 0
  | [] => by simp [PyData.depthAll]
  | x :: r => by simp [PyData.depthAll, PyData.depth, strs_depth r]
theorem strs_inj : ∀ {xs ys : List Str}, xs.map PyData.str = ys.map PyData.str → xs = ys
  | [], [], _ => rfl
  | [], _ :: _, h => by simp at h
  | _ :: _, [], h => by simp at h
  | x :: r, y :: q, h => by
    rw [List.map_cons, List.map_cons] at h
    injection h with h1 h2
    injection h1 with h1
    rw [h1, strs_inj h2]
section
variable {P : Program} {w : World} {K : PySem.W.Frag} {mg : Str → Option Value} {base : Heap}
def spWeights (K : PySem.W.Frag) : Sp := fun vs H Q _ => ∃ (v : V) (d : PyData), vs = [v] ∧ Dp K H v d ∧ wSm d ∧ ∀ H', Same H H' → Q (.bl (wB d)) H'
theorem f_weights (T : TopD K mg "is_weights" s_is_weights p_is_weights) (b_isinstance : mg "isinstance" = none) (b_tuple : mg "tuple" = none) (b_all : mg "all" = none) (b_sorted : mg "sorted" = none) (b_set : mg "set" = none)
    (F_is_named_number : Fn P w K mg base 2 "is_named_number" p_is_named_number (spPairG K)) : Fn P w K mg base 3 "is_weights" p_is_weights (spWeights K) := by
  refine T.fn sc_is_weights (fun vs H Q E h => ?_) (fun f cdv A outer s H vs Q E hr h => ?_)
  · obtain ⟨v, d, rfl, _⟩ := h
    rfl
  obtain ⟨v, d, rfl, hD, hsm, q⟩ := h
  have nd := sc_is_weights.nd
  have ndc1 : ((["pair"] : List Str) ++ ([] : List Str)).Nodup := by decide +kernel
  have ndc2 : ((["pair"] : List Str) ++ ([] : List Str)).Nodup := by decide +kernel
  refine ⟨_, (pss_cons (ps_if (PW.pt (pw_or (pt_not (pt_val (pe_callB call_isI rfl b_isinstance boot_isinstance (pa_cons (pv 0) (pa_cons (pe_bltn (v := .ty "tuple") rfl b_tuple boot_tuple rfl) pa_nil))))) (pw_or1 (pt_not (pt_val (pe_callB (call_all rfl) rfl b_all boot_all (pa_cons (pe_comp (own := ["pair"]) (frees := []) (ix := []) (pi_tup (pv 0)) (fun c => (pg_name (i := 0) ndc2 rfl (by first | exact Or.inl rfl | exact Or.inr rfl))) (fun c => PIf.nil) (fun c => (pe_callF F_is_named_number (hr.mono (by omega)) (pa_cons (pv 0) pa_nil)))) pa_nil))))))) (pss_one (ps_ret pe_bl)) pss_nil)
    (pss_cons (ps_comp (i := 1) nd rfl (by first | exact Or.inl rfl | exact Or.inr rfl) (own := ["pair"]) (frees := []) (ix := []) (pi_tup (pv 0)) (fun c => (pg_name (i := 0) ndc1 rfl (by first | exact Or.inl rfl | exact Or.inr rfl))) (fun c => PIf.nil) (fun c => (pe_ix ix_tup (pv 0) pe_int (fun _ _ => rfl))))
    (pss_one (ps_ret (pe_cmpR (op_eqD (hu64 hr)) (pv 1) (pe_sortset b_sorted b_set rfl (pa_cons (pv 1) pa_nil)) (nomark _)))))), ?_⟩
  refine ⟨_, rfl, _, _, _, _, rfl, tyD hD, kitT d, _, rfl, ?_⟩
  cases hD with
  | non => exact iteT (q _ (Same.refl _))
  | bl b => exact iteT (q _ (Same.refl _))
  | int i => exact iteT (q _ (Same.refl _))
  | str x => exact iteT (q _ (Same.refl _))
  | lst hq hs => exact iteT (q _ (Same.refl _))
  | @tup a xs ds hq hs =>
    have hl : xs.length = ds.length := hs.len
    obtain ⟨h64, hps⟩ := hsm ds rfl
    refine iteF ?_
    refine ⟨_, rfl, a, rfl, ⟨_, hq⟩, fun c acc hacc => ?_⟩
    refine comp_tup (xs := xs) (fun i ys H1 => ys = ((ds.take i).map pairB).map V.bl ∧ H1 acc = some (.lst ys) ∧ Same H H1) ?_ ?_ ?_ ?_ ?_
    · exact ⟨by simp, upd_same, Same.new hacc _⟩
    · rintro i ys H1 _ ⟨_, h, _⟩
      exact h
    · rintro i ys H1 _ ⟨_, _, g⟩
      exact hq.same g
    · rintro i ys H1 x hx ⟨hy, ha, g⟩
      obtain ⟨d, hd, hxd⟩ := L2.DpAll.get hs hx
      have hmem : d ∈ ds := List.mem_of_getElem? hd
      refine ⟨.own .nil, iteT ?_⟩
      refine ⟨_, rfl, x, d, rfl, Dp.same g _ _ hxd, (hps d hmem).1, (hps d hmem).2, fun H2 g2 => ?_⟩
      refine ⟨g2 _ _ ha, by rw [hy, List.length_map, List.length_map, List.length_take]; exact small1000 (by omega), ?_, upd_same, fun b o e => ?_⟩
      · rw [hy, List.take_add_one, hd]
        simp
      · rw [upd_ne (ne_of_none e hacc)]
        exact g2 _ _ (g b o e)
    · rintro ys H1 ⟨rfl, ha, g⟩
      refine ⟨acc, (ds.take xs.length).map pairB, rfl, SqL.of ha, ?_⟩
      rw [List.take_of_length_le (by omega), List.all_map]
      by_cases hall : ds.all pairB = true
      · have e1 : ds.all (id ∘ pairB) = true := hall
        refine ⟨_, rfl, ?_⟩
        rw [e1]
        refine iteF ?_
        have hp : ∀ d ∈ ds, ∃ x i, d = .tuple [.str x, .int i] ∧ NameOk x ∧ 1 ≤ i ∧ i ≤ 999999 := fun d hd => pairB_I (List.all_eq_true.mp hall d hd)
        have hnm : ∀ x ∈ ds.map nameOf, NameOk x := fun x hx => by
          obtain ⟨d, hd, rfl⟩ := List.mem_map.mp hx
          obtain ⟨y, i, rfl, hy, _⟩ := hp d hd
          exact hy
        refine ⟨_, rfl, a, rfl, ⟨_, hq.same g⟩, fun c2 acc2 hacc2 => ?_⟩
        refine comp_tup (xs := xs) (fun i ys H2 => ys = ((ds.take i).map nameOf).map V.str ∧ H2 acc2 = some (.lst ys) ∧ Same H1 H2) ?_ ?_ ?_ ?_ ?_
        · exact ⟨by simp, upd_same, Same.new hacc2 _⟩
        · rintro i ys H2 _ ⟨_, h, _⟩
          exact h
        · rintro i ys H2 _ ⟨_, _, g2⟩
          exact (hq.same g).same g2
        · rintro i ys H2 x hx ⟨hy, ha2, g2⟩
          obtain ⟨d, hd, hxd⟩ := L2.DpAll.get hs hx
          obtain ⟨nm, k, rfl, hnmk, _⟩ := hp d (List.mem_of_getElem? hd)
          obtain ⟨pa, rfl, hpa⟩ := pair2I hxd
          refine ⟨.own .nil, iteT ?_⟩
          refine ⟨_, rfl, pa, _, _, _, rfl, rfl, (hpa.same g).same g2, atI_nat (j := 0) rfl, ?_⟩
          refine ⟨ha2, by rw [hy, List.length_map, List.length_map, List.length_take]; exact small1000 (by omega), ?_, upd_same, fun b o e => ?_⟩
          · rw [hy, List.take_add_one, hd]
            simp [nameOf]
          · rw [upd_ne (ne_of_none e hacc2)]
            exact g2 b o e
        · rintro ys H2 ⟨rfl, ha2, g2⟩
          rw [List.take_of_length_le (by omega)] at ha2
          refine ⟨_, rfl, _, rfl, acc2, ds.map nameOf, rfl, SqL.of ha2, by rw [List.length_map]; exact h64, fun l ys hl0 hpw hmem => ?_⟩
          have g3 : Same H2 (upd H2 l (.lst (ys.map V.str))) := Same.new hl0 _
          have hys : ∀ x ∈ ys, NameOk x := fun x hx => hnm x ((hmem x).mp hx)
          refine ⟨.list ((ds.map nameOf).map PyData.str), .list (ys.map PyData.str), .lst ((SqL.of ha2).same g3) (L2.DpAll.strs _), .lst (SqL.of upd_same) (L2.DpAll.strs _), by simpa [PyData.canLay0] using strs_lay _ hnm, by simpa [PyData.canLay0] using strs_lay _ hys, by simp [PyData.depth, strs_depth], ?_⟩
          have e : PyData.eqv (.list ((ds.map nameOf).map PyData.str)) (.list (ys.map PyData.str)) = wB (.tuple ds) := by
            have e2 : wB (.tuple ds) = decide ((ds.map nameOf).Pairwise strLt) := by simp [wB, hall]
            rw [e2, Bool.eq_iff_iff, eqv_iff _ _ (lst_noB _) (lst_noB _), decide_eq_true_eq]
            constructor
            · intro z
              injection z with z
              rw [strs_inj z]
              exact hpw
            · intro z
              rw [rise_eq z hpw hmem]
          rw [e]
          exact q _ ((g.trans g2).trans g3)
      · have hf : ds.all pairB = false := by simpa using hall
        have e1 : ds.all (id ∘ pairB) = false := hf
        refine ⟨_, rfl, ?_⟩
        rw [e1]
        refine iteT ?_
        have : wB (.tuple ds) = false := by simp [wB, hf]
        show Q (.bl false) H1
        rw [← this]
        exact q _ g
end
end My
namespace My
open PySem PySem.Spec PyProof.Rows L2 MA
section
variable {P : Program} {w : World} {K : PySem.W.Frag} {mg : Str → Option Value} {base : Heap}
theorem f_lb_step (n : Nat) (T : TopD K mg "leaves_below" s_leaves_below p_leaves_below) (F_leaves_below : Fn P w K mg base n "leaves_below" p_leaves_below (spLeaves K n)) : Fn P w K mg base (n + 1) "leaves_below" p_leaves_below (spLeaves K (n + 1)) := by
  refine T.fn sc_leaves_below (fun vs H Q E h => ?_) (fun f cdv A outer s H vs Q E hr h => ?_)
  · obtain ⟨v, m, way, rfl, _⟩ := h
    rfl
  obtain ⟨v, m, way, rfl, hD, hn, h5, hw, q⟩ := h
  refine ⟨_, (pss_cons (ps_if (pt_cmpR op_eq (pe_ix ix_tup (pv 0) pe_int (fun _ _ => rfl)) pe_str (nomark _)) (pss_one (ps_ret (pe_lst (pa_cons (pe_tup (pa_cons (pv 1) (pa_cons (pe_ix ix_tup (pv 0) pe_int (fun _ _ => rfl)) pa_nil))) pa_nil)))) pss_nil)
    (pss_one (ps_ret (pe_op op_cat (pe_callF F_leaves_below (hr.mono (by omega)) (pa_cons (pe_ix ix_tup (pv 0) pe_int (fun _ _ => rfl)) (pa_cons (pe_op op_add_str (pv 1) pe_str) pa_nil))) (pe_callF F_leaves_below (hr.mono (by omega)) (pa_cons (pe_ix ix_tup (pv 0) pe_int (fun _ _ => rfl)) (pa_cons (pe_op op_add_str (pv 1) pe_str) pa_nil))))))), ?_⟩
  cases m with
  | wt nm =>
    obtain ⟨a, rfl, ha⟩ := mob_wt hD
    refine ⟨_, rfl, a, _, _, _, rfl, rfl, ha, atI_nat (j := 0) rfl, rfl, _, rfl, ?_⟩
    refine (if_pos (decide_eq_true rfl)).mpr ?_
    refine ⟨_, rfl, _, rfl, a, _, _, _, rfl, rfl, ha, atI_nat (j := 1) rfl, (by show 2 ≤ sizeLine; decide), fun p hp => ⟨(by show 1 ≤ sizeLine; decide), fun l hl => ?_⟩⟩
    have g1 := Same.new hp (.tup [.str way, .str nm])
    have g2 := Same.new hl (.lst [.ref p])
    exact q l _ _ (g1.trans g2) (g1.free hl) upd_same (.cons (.tup (SqT.of (g2 _ _ upd_same)) (.cons (.str _) (.cons (.str _) .nil))) .nil)
  | rod L R ma mb =>
    obtain ⟨p, va, vb, rfl, hp, hva, hvb⟩ := mob_rod hD
    refine ⟨_, rfl, p, _, _, _, rfl, rfl, hp, atI_nat (j := 0) rfl, rfl, _, rfl, ?_⟩
    refine (if_neg (fun z => wr_ne (of_decide_eq_true z))).mpr ?_
    have hd : max ma.deep mb.deep + 1 < n + 1 := hn
    have hd5 : max ma.deep mb.deep + 1 ≤ 5 := h5
    have hdw : way.length + (max ma.deep mb.deep + 1) ≤ 1000 := hw
    refine ⟨_, rfl, p, _, _, _, rfl, rfl, hp, atI_nat (j := 3) rfl, _, rfl, _, _, rfl, rfl, ?_, va, ma, _, rfl, hva, by omega, by omega, by rw [app_len]; show way.length + 1 + _ ≤ _; omega, fun l1 ys1 H1 g1 n1 e1 d1 => ?_⟩
    · show way.length + 1 ≤ sizeLine
      exact Nat.le_of_lt (small1000 (by omega))
    refine ⟨_, rfl, p, _, _, _, rfl, rfl, hp.same g1, atI_nat (j := 4) rfl, _, rfl, _, _, rfl, rfl, ?_, vb, mb, _, rfl, Dp.same g1 _ _ hvb, by omega, by omega, by rw [app_len]; show way.length + 1 + _ ≤ _; omega, fun l2 ys2 H2 g2 n2 e2 d2 => ?_⟩
    · show way.length + 1 ≤ sizeLine
      exact Nat.le_of_lt (small1000 (by omega))
    have z1 : ys1.length ≤ 32 := by
      rw [d1.len, List.length_map]
      exact lv_small _ (by omega)
    have z2 : ys2.length ≤ 32 := by
      rw [d2.len, List.length_map]
      exact lv_small _ (by omega)
    refine ⟨l1, l2, ys1, ys2, rfl, rfl, g2 _ _ e1, e2, Nat.le_of_lt (small1000 (by omega)), fun l hl => ?_⟩
    have g3 := Same.new hl (.lst (ys1 ++ ys2))
    refine q l _ _ (g1.trans (g2.trans g3)) ((g1.trans g2).free hl) upd_same ?_
    show DpAll K _ _ ((lv ma _ ++ lv mb _).map leafD)
    rw [List.map_append]
    exact (DpAll.same (g2.trans g3) _ _ d1).app (DpAll.same g3 _ _ d2)
theorem f_lb (T : TopD K mg "leaves_below" s_leaves_below p_leaves_below) : ∀ n : Nat, Fn P w K mg base n "leaves_below" p_leaves_below (spLeaves K n)
  | 0 => T.none fun vs H Q E h => by obtain ⟨v, m, way, _, _, hn, _⟩ := h; omega
  | n + 1 => f_lb_step n T (f_lb T n)
theorem lv_names : ∀ (m : M) (w : Str), (lv m w).map (·.2) = m.names
  | .wt _, _ => rfl
  | .rod _ _ a b, w => by
    show ((lv a _ ++ lv b _).map (·.2)) = a.names ++ b.names
    rw [List.map_append, lv_names a, lv_names b]
def ld (f : Str → Int) : M → Int
  | .wt n => f n
  | .rod _ _ a b => ld f a + ld f b
theorem ld_sum (f : Str → Int) : ∀ m : M, (m.names.map f).sum = ld f m
  | .wt n => by simp [Mob.names, ld]
  | .rod _ _ a b => by
    show ((a.names ++ b.names).map f).sum = ld f a + ld f b
    rw [List.map_append, List.sum_append, ld_sum f a, ld_sum f b]
def Bk (H : Hp) (b : Addr) (f : Str → Int) (ns : List Str) : Prop := ∃ kvs : List (Key × V), H b = some (.dK kvs) ∧ ∀ x ∈ ns, valV kvs (Sum.inr x) = some (.int (f x)) ∧ 1 ≤ f x ∧ f x ≤ 999999
theorem Bk.same {H H' : Hp} {b : Addr} {f : Str → Int} {ns : List Str} (h : Bk H b f ns) (g : Same H H') : Bk H' b f ns := by
  obtain ⟨kvs, e, r⟩ := h
  exact ⟨kvs, g _ _ e, r⟩
theorem Bk.left {H : Hp} {b : Addr} {f : Str → Int} {ns ms : List Str} (h : Bk H b f (ns ++ ms)) : Bk H b f ns := by
  obtain ⟨kvs, e, r⟩ := h
  exact ⟨kvs, e, fun x hx => r x (List.mem_append_left _ hx)⟩
theorem Bk.right {H : Hp} {b : Addr} {f : Str → Int} {ns ms : List Str} (h : Bk H b f (ns ++ ms)) : Bk H b f ms := by
  obtain ⟨kvs, e, r⟩ := h
  exact ⟨kvs, e, fun x hx => r x (List.mem_append_right _ hx)⟩
theorem Bk.dget {H : Hp} {b : Addr} {f : Str → Int} {ns : List Str} (h : Bk H b f ns) {x : Str} (hx : x ∈ ns) : ∃ kvs : List (Key × V), H b = some (.dK kvs) ∧ valV kvs (Sum.inr x) = some (.int (f x)) := by
  obtain ⟨kvs, e, r⟩ := h
  exact ⟨kvs, e, (r x hx).1⟩
theorem Bk.bound {H : Hp} {b : Addr} {f : Str → Int} {ns : List Str} (h : Bk H b f ns) : ∀ x ∈ ns, 1 ≤ f x ∧ f x ≤ 999999 := by
  obtain ⟨kvs, e, r⟩ := h
  exact fun x hx => (r x hx).2
theorem leafI {H : Hp} {v : V} {p : Str × Str} (h : Dp K H v (leafD p)) : ∃ a, v = .ref a ∧ SqT K H a [.str p.1, .str p.2] := by
  obtain ⟨a, xs, rfl, hq, hs⟩ := Dp.tupI (show Dp K H v (.tuple [.str p.1, .str p.2]) from h)
  obtain ⟨v1, r1, rfl, h1, hs⟩ := hs.consI
  obtain ⟨v2, r2, rfl, h2, hs⟩ := hs.consI
  obtain rfl := hs.nilI
  obtain rfl := h1.strI
  obtain rfl := h2.strI
  exact ⟨a, rfl, hq⟩
def spLoadB (K : PySem.W.Frag) : Sp := fun vs H Q _ => ∃ (v : V) (m : M) (b : Addr) (f : Str → Int), vs = [v, .ref b] ∧ Dp K H v (mD m) ∧ m.deep ≤ 5 ∧ Bk H b f m.names ∧ ∀ H', Same H H' → Q (.int (ld f m)) H'
theorem f_load_below (T : TopD K mg "load_below" s_load_below p_load_below) (b_sum : mg "sum" = none) (F_leaves_below : Fn P w K mg base 6 "leaves_below" p_leaves_below (spLeaves K 6)) : Fn P w K mg base 7 "load_below" p_load_below (spLoadB K) := by
  refine T.fn sc_load_below (fun vs H Q E h => ?_) (fun fa cdv A outer s H vs Q E hr h => ?_)
  · obtain ⟨v, m, b, f, rfl, _⟩ := h
    rfl
  obtain ⟨v, m, b, f, rfl, hD, h5, hB, q⟩ := h
  have ndc1 : ((["way", "name"] : List Str) ++ (["numbers"] : List Str)).Nodup := by decide +kernel
  refine ⟨_, (pss_one (ps_ret (pe_callB (call_sum rfl) rfl b_sum boot_sum (pa_cons (pe_comp (own := ["way", "name"]) (frees := ["numbers"]) (ix := [1]) (pi_list (pe_callF F_leaves_below (hr.mono (by omega)) (pa_cons (pv 0) (pa_cons pe_str pa_nil)))) (fun c => (pg_tup rfl (pgs_cons (pg_name (i := 0) ndc1 rfl (by first | exact Or.inl rfl | exact Or.inr rfl)) (pgs_cons (pg_name (i := 1) ndc1 rfl (by first | exact Or.inl rfl | exact Or.inr rfl)) pgs_nil)))) (fun c => PIf.nil) (fun c => (pe_dget (hu_of hr) (pv 2) (pv 1) (fun _ _ => rfl)))) pa_nil)))), ?_⟩
  refine ⟨_, rfl, v, m, ("" : Str), rfl, hD, by omega, h5, by show 0 + m.deep ≤ 1000; omega, fun l ys H1 g1 n1 e1 d1 => ?_⟩
  refine ⟨l, rfl, ⟨_, SqL.of e1⟩, fun c acc hacc => ?_⟩
  have hlen : ys.length = (lv m ("" : Str)).length := by rw [d1.len, List.length_map]
  refine comp_list (xs := ys) (fun i zs H2 => zs = (((lv m ("" : Str)).take i).map fun p => f p.2).map V.int ∧ H2 acc = some (.lst zs) ∧ Same H1 H2) ?_ ?_ ?_ ?_ ?_
  · exact ⟨by simp, upd_same, Same.new hacc _⟩
  · rintro i zs H2 _ ⟨_, h, _⟩
    exact h
  · rintro i zs H2 _ ⟨_, _, g2⟩
    exact (SqL.of e1).same g2
  · rintro i zs H2 x hx ⟨hz, ha, g2⟩
    obtain ⟨d, hd, hxd⟩ := L2.DpAll.get d1 hx
    rw [List.getElem?_map] at hd
    cases hp : (lv m ("" : Str))[i]? with
    | none => rw [hp] at hd; cases hd
    | some p =>
      rw [hp] at hd
      cases hd
      obtain ⟨pa, rfl, hpa⟩ := leafI hxd
      have hmem : p.2 ∈ m.names := by rw [← lv_names m ""]; exact List.mem_map.mpr ⟨p, List.mem_of_getElem? hp, rfl⟩
      obtain ⟨kvs, eb, hv⟩ := ((hB.same g1).same g2).dget hmem
      have hget : DGet H2 b (.str p.2) (some (.int (f p.2))) := by
        have := DGet.k (k := Sum.inr p.2) eb
        rw [hv] at this
        exact this
      refine ⟨pa, _, rfl, hpa.same g2, rfl, _, _, rfl, _, _, rfl, rfl, ?_⟩
      refine ⟨.own (.own (.keep .nil)), iteT ?_⟩
      refine ⟨_, rfl, _, rfl, b, _, rfl, hget, ?_⟩
      refine ⟨ha, by rw [hz, List.length_map, List.length_map, List.length_take]; have := lv_small (m := m) ("" : Str) h5; exact small1000 (by omega), ?_, upd_same, fun b' o e => ?_⟩
      · rw [hz, List.take_add_one, hp]
        simp
      · rw [upd_ne (ne_of_none e hacc)]
        exact g2 b' o e
  · rintro zs H2 ⟨rfl, ha, g2⟩
    rw [List.take_of_length_le (by omega)] at ha
    have e2 : (lv m ("" : Str)).map (fun p => f p.2) = m.names.map f := by
      rw [← lv_names m "", List.map_map]; rfl
    rw [e2] at ha
    refine ⟨acc, m.names.map f, rfl, SqL.of ha, fun n hn => ?_, ?_, ?_⟩
    · obtain ⟨x, hx, rfl⟩ := List.mem_map.mp hn
      have := hB.bound x hx
      constructor
      · omega
      · have : (999999 : Int) ≤ 2 ^ 40 := by decide
        omega
    · rw [List.length_map]
      have := Nat.le_trans (Mob.names_le m) (Nat.pow_le_pow_right (by decide) h5 : 2 ^ m.deep ≤ 2 ^ 5)
      omega
    · rw [ld_sum]
      exact q _ (g1.trans g2)
end
end My
namespace My
open PySem PySem.Spec PyProof.Rows L2 MA
def lS : Str := "left"
def rgS : Str := "right"
def here (w : Str) (x y : Int) : List (Str × Str) := if y < x then [(w, lS)] else if x < y then [(w, rgS)] else []
def tp (f : Str → Int) : M → Str → List (Str × Str)
  | .wt _, _ => []
  | .rod l r a b, w => here w (l * ld f a) (r * ld f b) ++ tp f a (w ++ ("l" : Str)) ++ tp f b (w ++ ("r" : Str))
theorem here_len (w : Str) (x y : Int) : (here w x y).length ≤ 1 := by
  unfold here
  split
  · simp
  · split <;> simp
theorem tp_len (f : Str → Int) : ∀ (m : M) (w : Str), (tp f m w).length + 1 ≤ 2 ^ m.deep
  | .wt _, _ => by simp [tp, Mob.deep]
  | .rod l r a b, w => by
    show ((here w _ _ ++ tp f a _ ++ tp f b _).length + 1 ≤ 2 ^ (max a.deep b.deep + 1))
    rw [List.length_append, List.length_append, Nat.pow_succ]
    have h1 := here_len w (l * ld f a) (r * ld f b)
    have h2 := tp_len f a (w ++ ("l" : Str))
    have h3 := tp_len f b (w ++ ("r" : Str))
    have h4 : 2 ^ a.deep ≤ 2 ^ max a.deep b.deep := Nat.pow_le_pow_right (by decide) (Nat.le_max_left _ _)
    have h5 : 2 ^ b.deep ≤ 2 ^ max a.deep b.deep := Nat.pow_le_pow_right (by decide) (Nat.le_max_right _ _)
    omega
theorem tp_small {f : Str → Int} {m : M} (w : Str) (h : m.deep ≤ 5) : (tp f m w).length ≤ 31 := by
  have h1 := tp_len f m w
  have h2 : 2 ^ m.deep ≤ 2 ^ 5 := Nat.pow_le_pow_right (by decide) h
  omega
section
variable {P : Program} {w : World} {K : PySem.W.Frag} {mg : Str → Option Value} {base : Heap}
def spPulls (K : PySem.W.Frag) : Sp := fun vs H Q _ => ∃ (v : V) (L R : Int) (ma mb : M) (b : Addr) (f : Str → Int), vs = [v, .ref b] ∧ Dp K H v (mD (.rod L R ma mb)) ∧ (1 ≤ L ∧ L ≤ 9 ∧ 1 ≤ R ∧ R ≤ 9) ∧ ma.deep ≤ 5 ∧ mb.deep ≤ 5 ∧ Bk H b f ma.names ∧ Bk H b f mb.names ∧
  ∀ (t : Addr) H', Same H H' → H t = none → H' t = some (.tup [.int (L * ld f ma), .int (R * ld f mb)]) → Q (.ref t) H'
theorem f_pulls (T : TopD K mg "pulls" s_pulls p_pulls) (F_load_below : Fn P w K mg base 7 "load_below" p_load_below (spLoadB K)) : Fn P w K mg base 8 "pulls" p_pulls (spPulls K) := by
  refine T.fn sc_pulls (fun vs H Q E h => ?_) (fun fa cdv A outer s H vs Q E hr h => ?_)
  · obtain ⟨v, L, R, ma, mb, b, f, rfl, _⟩ := h
    rfl
  obtain ⟨v, L, R, ma, mb, b, f, rfl, hD, ⟨r1, r2, r3, r4⟩, hA, hB, hBa, hBb, q⟩ := h
  have nd := sc_pulls.nd
  refine ⟨_, (pss_one (ps_ret (pe_tup (pa_cons (pe_op op_mul (pe_ix ix_tup (pv 0) pe_int (fun _ _ => rfl)) (pe_callF F_load_below (hr.mono (by omega)) (pa_cons (pe_ix ix_tup (pv 0) pe_int (fun _ _ => rfl)) (pa_cons (pv 1) pa_nil)))) (pa_cons (pe_op op_mul (pe_ix ix_tup (pv 0) pe_int (fun _ _ => rfl)) (pe_callF F_load_below (hr.mono (by omega)) (pa_cons (pe_ix ix_tup (pv 0) pe_int (fun _ _ => rfl)) (pa_cons (pv 1) pa_nil)))) pa_nil))))), ?_⟩
  obtain ⟨p, va, vb, rfl, hp, hva, hvb⟩ := mob_rod hD
  refine ⟨_, rfl, p, _, _, _, rfl, rfl, hp, atI_nat (j := 1) rfl, _, rfl, p, _, _, _, rfl, rfl, hp, atI_nat (j := 3) rfl, _, rfl, va, ma, b, f, rfl, hva, hA, hBa, fun H1 g1 => ⟨_, _, rfl, rfl, .inl ⟨by omega, by omega⟩, ?_⟩⟩
  refine ⟨_, rfl, p, _, _, _, rfl, rfl, hp.same g1, atI_nat (j := 2) rfl, _, rfl, p, _, _, _, rfl, rfl, hp.same g1, atI_nat (j := 4) rfl, _, rfl, vb, mb, b, f, rfl, Dp.same g1 _ _ hvb, hB, hBb.same g1, fun H2 g2 => ⟨_, _, rfl, rfl, .inl ⟨by omega, by omega⟩, ?_⟩⟩
  refine ⟨(by show 2 ≤ sizeLine; decide), fun t ht => ?_⟩
  have g3 := Same.new ht (.tup [.int (L * ld f ma), .int (R * ld f mb)])
  exact q t _ ((g1.trans g2).trans g3) ((g1.trans g2).free ht) upd_same
def spTB (K : PySem.W.Frag) (n : Nat) : Sp := fun vs H Q _ => ∃ (v : V) (m : M) (way : Str) (b : Addr) (f : Str → Int), vs = [v, .str way, .ref b] ∧ Dp K H v (mD m) ∧ m.arms ∧ m.deep < n ∧ m.deep ≤ 5 ∧ way.length + m.deep ≤ 1000 ∧ Bk H b f m.names ∧
  ∀ (l : Addr) (ys : List V) H', Same H H' → H l = none → H' l = some (.lst ys) → DpAll K H' ys ((tp f m way).map leafD) → Q (.ref l) H'
theorem f_tb_step (n : Nat) (T : TopD K mg "tips_below" s_tips_below p_tips_below) (F_pulls : Fn P w K mg base 8 "pulls" p_pulls (spPulls K)) (F_tips_below : Fn P w K mg base (8 + n) "tips_below" p_tips_below (spTB K n)) : Fn P w K mg base (8 + n + 1) "tips_below" p_tips_below (spTB K (n + 1)) := by
  refine T.fn sc_tips_below (fun vs H Q E h => ?_) (fun fa cdv A outer s H vs Q E hr h => ?_)
  · obtain ⟨v, m, way, b, f, rfl, _⟩ := h
    rfl
  obtain ⟨v, m, way, b, f, rfl, hD, har, hn, h5, hw, hB, q⟩ := h
  have nd := sc_tips_below.nd
  refine ⟨_, (pss_cons (ps_if (pt_cmpR op_eq (pe_ix ix_tup (pv 0) pe_int (fun _ _ => rfl)) pe_str (nomark _)) (pss_one (ps_ret (pe_lst pa_nil))) pss_nil)
    (pss_cons (ps_set (i := 3) nd rfl (by first | exact Or.inl rfl | exact Or.inr rfl) (pe_callF F_pulls (hr.mono (by omega)) (pa_cons (pv 0) (pa_cons (pv 2) pa_nil))))
    (pss_cons (ps_set (i := 4) nd rfl (by first | exact Or.inl rfl | exact Or.inr rfl) (pe_lst pa_nil))
    (pss_cons (ps_if (pt_cmpR op_gt (pe_ix ix_tup (pv 3) pe_int (fun _ _ => rfl)) (pe_ix ix_tup (pv 3) pe_int (fun _ _ => rfl)) (nomark _)) (pss_one (ps_expr (pe_bm PySem.F.plainAttrs_list PySem.F.slot_list_append PySem.F.type_list_append mt_append (pv 4) (pa_cons (pe_tup (pa_cons (pv 1) (pa_cons pe_str pa_nil))) pa_nil)))) pss_nil)
    (pss_cons (ps_if (pt_cmpR op_lt (pe_ix ix_tup (pv 3) pe_int (fun _ _ => rfl)) (pe_ix ix_tup (pv 3) pe_int (fun _ _ => rfl)) (nomark _)) (pss_one (ps_expr (pe_bm PySem.F.plainAttrs_list PySem.F.slot_list_append PySem.F.type_list_append mt_append (pv 4) (pa_cons (pe_tup (pa_cons (pv 1) (pa_cons pe_str pa_nil))) pa_nil)))) pss_nil)
    (pss_one (ps_ret (pe_op op_cat (pe_op op_cat (pv 4) (pe_callF F_tips_below (hr.mono (by omega)) (pa_cons (pe_ix ix_tup (pv 0) pe_int (fun _ _ => rfl)) (pa_cons (pe_op op_add_str (pv 1) pe_str) (pa_cons (pv 2) pa_nil))))) (pe_callF F_tips_below (hr.mono (by omega)) (pa_cons (pe_ix ix_tup (pv 0) pe_int (fun _ _ => rfl)) (pa_cons (pe_op op_add_str (pv 1) pe_str) (pa_cons (pv 2) pa_nil)))))))))))), ?_⟩
  cases m with
  | wt nm =>
    obtain ⟨a, rfl, ha⟩ := mob_wt hD
    refine ⟨_, rfl, a, _, _, _, rfl, rfl, ha, atI_nat (j := 0) rfl, rfl, _, rfl, ?_⟩
    refine (if_pos (decide_eq_true rfl)).mpr ?_
    refine ⟨sz0, fun l hl => ?_⟩
    exact q l _ _ (Same.new hl _) hl upd_same .nil
  | rod L R ma mb =>
    obtain ⟨p, va, vb, rfl, hp, hva, hvb⟩ := mob_rod hD
    obtain ⟨r1, r2, r3, r4, harA, harB⟩ := har
    have hd : max ma.deep mb.deep + 1 < n + 1 := hn
    have hd5 : max ma.deep mb.deep + 1 ≤ 5 := h5
    have hdw : way.length + (max ma.deep mb.deep + 1) ≤ 1000 := hw
    have hBa : Bk H b f ma.names := Bk.left (ms := mb.names) hB
    have hBb : Bk H b f mb.names := Bk.right (ns := ma.names) hB
    refine ⟨_, rfl, p, _, _, _, rfl, rfl, hp, atI_nat (j := 0) rfl, rfl, _, rfl, ?_⟩
    refine (if_neg (fun z => wr_ne (of_decide_eq_true z))).mpr ?_
    refine ⟨_, rfl, _, rfl, .ref p, L, R, ma, mb, b, f, rfl, hD, ⟨by omega, by omega, by omega, by omega⟩, by omega, by omega, hBa, hBb, fun tt H2 gg ntt ett => ?_⟩
    refine ⟨sz0, fun t0 ht0 => ?_⟩
    have g3 := Same.new ht0 (.lst [])
    have g123 := gg.trans g3
    have hn0 : H t0 = none := gg.free ht0
    have hne0 : tt ≠ t0 := ne_of_none ett ht0
    by_cases c1 : R * ld f mb < L * ld f ma
    · have eh : here way (L * ld f ma) (R * ld f mb) = [(way, lS)] := by unfold here; rw [if_pos c1]
      refine ⟨_, rfl, tt, _, _, _, rfl, rfl, ((SqT.of ett).same g3), atI_nat (j := 0) rfl, _, rfl, tt, _, _, _, rfl, rfl, ((SqT.of ett).same g3), atI_nat (j := 1) rfl, _, _, rfl, rfl, _, rfl, (if_pos (decide_eq_true c1)).mpr ?_⟩
      refine ⟨_, rfl, .inl ⟨rfl, _, SqL.of upd_same⟩, _, rfl, (by show 2 ≤ sizeLine; decide), fun t1 ht1 => ?_⟩
      have g4 := Same.new ht1 (.tup [.str way, .str ("left" : Str)])
      refine ⟨t0, [], _, rfl, rfl, g4 _ _ upd_same, (by decide), ?_⟩
      refine ⟨_, rfl, tt, _, _, _, rfl, rfl, (SqT.of (by rw [upd_ne hne0]; exact g4 _ _ (g3 _ _ ett))), atI_nat (j := 0) rfl, _, rfl, tt, _, _, _, rfl, rfl, (SqT.of (by rw [upd_ne hne0]; exact g4 _ _ (g3 _ _ ett))), atI_nat (j := 1) rfl, _, _, rfl, rfl, _, rfl, (if_neg (by simpa using Int.le_of_lt c1)).mpr ?_⟩
      obtain ⟨zs, H4, G, et, dz, eq1⟩ : ∃ (zs : List V) (H4 : Hp), Same H H4 ∧ H4 t0 = some (.lst zs) ∧ DpAll K H4 zs ((here way (L * ld f ma) (R * ld f mb)).map leafD) ∧ H4 = upd (upd (upd H2 t0 (.lst [])) t1 (.tup [.str way, .str ("left" : Str)])) t0 (.lst ([] ++ [.ref t1])) := by
        refine ⟨[.ref t1], _, ?_, upd_same, ?_, rfl⟩
        · intro x o e
          have hx0 : x ≠ t0 := ne_of_none e hn0
          rw [upd_ne hx0]
          exact (g123.trans g4) _ _ e
        · rw [eh]
          have hne : t1 ≠ t0 := fun z => by subst z; rw [upd_same] at ht1; cases ht1
          exact .cons (.tup (SqT.of (by rw [upd_ne hne]; exact upd_same)) (.cons (.str _) (.cons (.str _) .nil))) .nil
      rw [← eq1]
      have z0 : zs.length ≤ 1 := by
        rw [dz.len, List.length_map]
        exact here_len _ _ _
      refine ⟨_, rfl, _, rfl, p, _, _, _, rfl, rfl, hp.same G, atI_nat (j := 3) rfl, _, rfl, _, _, rfl, rfl, ?_, _, rfl, va, ma, _, b, f, rfl, Dp.same G _ _ hva, harA, by omega, by omega, by rw [app_len]; show way.length + 1 + _ ≤ _; omega, hBa.same G, fun l1 ys1 H5 g5 n5 e5 d5 => ?_⟩
      · show way.length + 1 ≤ sizeLine
        exact Nat.le_of_lt (small1000 (by omega))
      have z1 : ys1.length ≤ 31 := by
        rw [d5.len, List.length_map]
        exact tp_small _ (by omega)
      refine ⟨t0, l1, zs, ys1, rfl, rfl, g5 _ _ et, e5, Nat.le_of_lt (small1000 (by omega)), fun c1 hc1 => ?_⟩
      have g6 := Same.new hc1 (.lst (zs ++ ys1))
      have G6 := (G.trans g5).trans g6
      refine ⟨_, rfl, p, _, _, _, rfl, rfl, hp.same G6, atI_nat (j := 4) rfl, _, rfl, _, _, rfl, rfl, ?_, _, rfl, vb, mb, _, b, f, rfl, Dp.same G6 _ _ hvb, harB, by omega, by omega, by rw [app_len]; show way.length + 1 + _ ≤ _; omega, hBb.same G6, fun l2 ys2 H7 g7 n7 e7 d7 => ?_⟩
      · show way.length + 1 ≤ sizeLine
        exact Nat.le_of_lt (small1000 (by omega))
      have z2 : ys2.length ≤ 31 := by
        rw [d7.len, List.length_map]
        exact tp_small _ (by omega)
      refine ⟨c1, l2, zs ++ ys1, ys2, rfl, rfl, g7 _ _ upd_same, e7, Nat.le_of_lt (small1000 (by rw [List.length_append]; omega)), fun l hl => ?_⟩
      have g8 := Same.new hl (.lst (zs ++ ys1 ++ ys2))
      refine q l _ _ ((G6.trans g7).trans g8) ((G6.trans g7).free hl) upd_same ?_
      show DpAll K _ _ ((here way _ _ ++ tp f ma _ ++ tp f mb _).map leafD)
      rw [List.map_append, List.map_append]
      exact ((DpAll.same ((g5.trans g6).trans (g7.trans g8)) _ _ dz).app (DpAll.same (g6.trans (g7.trans g8)) _ _ d5)).app (DpAll.same g8 _ _ d7)
    · by_cases c2 : L * ld f ma < R * ld f mb
      · have eh : here way (L * ld f ma) (R * ld f mb) = [(way, rgS)] := by unfold here; rw [if_neg c1, if_pos c2]
        refine ⟨_, rfl, tt, _, _, _, rfl, rfl, ((SqT.of ett).same g3), atI_nat (j := 0) rfl, _, rfl, tt, _, _, _, rfl, rfl, ((SqT.of ett).same g3), atI_nat (j := 1) rfl, _, _, rfl, rfl, _, rfl, (if_neg (by simpa using Int.not_lt.mp c1)).mpr ?_⟩
        refine ⟨_, rfl, tt, _, _, _, rfl, rfl, ((SqT.of ett).same g3), atI_nat (j := 0) rfl, _, rfl, tt, _, _, _, rfl, rfl, ((SqT.of ett).same g3), atI_nat (j := 1) rfl, _, _, rfl, rfl, _, rfl, (if_pos (decide_eq_true c2)).mpr ?_⟩
        refine ⟨_, rfl, .inl ⟨rfl, _, SqL.of upd_same⟩, _, rfl, (by show 2 ≤ sizeLine; decide), fun t1 ht1 => ?_⟩
        have g4 := Same.new ht1 (.tup [.str way, .str ("right" : Str)])
        refine ⟨t0, [], _, rfl, rfl, g4 _ _ upd_same, (by decide), ?_⟩
        obtain ⟨zs, H4, G, et, dz, eq1⟩ : ∃ (zs : List V) (H4 : Hp), Same H H4 ∧ H4 t0 = some (.lst zs) ∧ DpAll K H4 zs ((here way (L * ld f ma) (R * ld f mb)).map leafD) ∧ H4 = upd (upd (upd H2 t0 (.lst [])) t1 (.tup [.str way, .str ("right" : Str)])) t0 (.lst ([] ++ [.ref t1])) := by
          refine ⟨[.ref t1], _, ?_, upd_same, ?_, rfl⟩
          · intro x o e
            have hx0 : x ≠ t0 := ne_of_none e hn0
            rw [upd_ne hx0]
            exact (g123.trans g4) _ _ e
          · rw [eh]
            have hne : t1 ≠ t0 := fun z => by subst z; rw [upd_same] at ht1; cases ht1
            exact .cons (.tup (SqT.of (by rw [upd_ne hne]; exact upd_same)) (.cons (.str _) (.cons (.str _) .nil))) .nil
        rw [← eq1]
        have z0 : zs.length ≤ 1 := by
          rw [dz.len, List.length_map]
          exact here_len _ _ _
        refine ⟨_, rfl, _, rfl, p, _, _, _, rfl, rfl, hp.same G, atI_nat (j := 3) rfl, _, rfl, _, _, rfl, rfl, ?_, _, rfl, va, ma, _, b, f, rfl, Dp.same G _ _ hva, harA, by omega, by omega, by rw [app_len]; show way.length + 1 + _ ≤ _; omega, hBa.same G, fun l1 ys1 H5 g5 n5 e5 d5 => ?_⟩
        · show way.length + 1 ≤ sizeLine
          exact Nat.le_of_lt (small1000 (by omega))
        have z1 : ys1.length ≤ 31 := by
          rw [d5.len, List.length_map]
          exact tp_small _ (by omega)
        refine ⟨t0, l1, zs, ys1, rfl, rfl, g5 _ _ et, e5, Nat.le_of_lt (small1000 (by omega)), fun c1 hc1 => ?_⟩
        have g6 := Same.new hc1 (.lst (zs ++ ys1))
        have G6 := (G.trans g5).trans g6
        refine ⟨_, rfl, p, _, _, _, rfl, rfl, hp.same G6, atI_nat (j := 4) rfl, _, rfl, _, _, rfl, rfl, ?_, _, rfl, vb, mb, _, b, f, rfl, Dp.same G6 _ _ hvb, harB, by omega, by omega, by rw [app_len]; show way.length + 1 + _ ≤ _; omega, hBb.same G6, fun l2 ys2 H7 g7 n7 e7 d7 => ?_⟩
        · show way.length + 1 ≤ sizeLine
          exact Nat.le_of_lt (small1000 (by omega))
        have z2 : ys2.length ≤ 31 := by
          rw [d7.len, List.length_map]
          exact tp_small _ (by omega)
        refine ⟨c1, l2, zs ++ ys1, ys2, rfl, rfl, g7 _ _ upd_same, e7, Nat.le_of_lt (small1000 (by rw [List.length_append]; omega)), fun l hl => ?_⟩
        have g8 := Same.new hl (.lst (zs ++ ys1 ++ ys2))
        refine q l _ _ ((G6.trans g7).trans g8) ((G6.trans g7).free hl) upd_same ?_
        show DpAll K _ _ ((here way _ _ ++ tp f ma _ ++ tp f mb _).map leafD)
        rw [List.map_append, List.map_append]
        exact ((DpAll.same ((g5.trans g6).trans (g7.trans g8)) _ _ dz).app (DpAll.same (g6.trans (g7.trans g8)) _ _ d5)).app (DpAll.same g8 _ _ d7)
      · have eh : here way (L * ld f ma) (R * ld f mb) = [] := by unfold here; rw [if_neg c1, if_neg c2]
        refine ⟨_, rfl, tt, _, _, _, rfl, rfl, ((SqT.of ett).same g3), atI_nat (j := 0) rfl, _, rfl, tt, _, _, _, rfl, rfl, ((SqT.of ett).same g3), atI_nat (j := 1) rfl, _, _, rfl, rfl, _, rfl, (if_neg (by simpa using Int.not_lt.mp c1)).mpr ?_⟩
        refine ⟨_, rfl, tt, _, _, _, rfl, rfl, ((SqT.of ett).same g3), atI_nat (j := 0) rfl, _, rfl, tt, _, _, _, rfl, rfl, ((SqT.of ett).same g3), atI_nat (j := 1) rfl, _, _, rfl, rfl, _, rfl, (if_neg (by simpa using Int.not_lt.mp c2)).mpr ?_⟩
        obtain ⟨zs, H4, G, et, dz, eq1⟩ : ∃ (zs : List V) (H4 : Hp), Same H H4 ∧ H4 t0 = some (.lst zs) ∧ DpAll K H4 zs ((here way (L * ld f ma) (R * ld f mb)).map leafD) ∧ H4 = upd H2 t0 (.lst []) := ⟨[], _, g123, upd_same, by rw [eh]; exact .nil, rfl⟩
        rw [← eq1]
        have z0 : zs.length ≤ 1 := by
          rw [dz.len, List.length_map]
          exact here_len _ _ _
        refine ⟨_, rfl, _, rfl, p, _, _, _, rfl, rfl, hp.same G, atI_nat (j := 3) rfl, _, rfl, _, _, rfl, rfl, ?_, _, rfl, va, ma, _, b, f, rfl, Dp.same G _ _ hva, harA, by omega, by omega, by rw [app_len]; show way.length + 1 + _ ≤ _; omega, hBa.same G, fun l1 ys1 H5 g5 n5 e5 d5 => ?_⟩
        · show way.length + 1 ≤ sizeLine
          exact Nat.le_of_lt (small1000 (by omega))
        have z1 : ys1.length ≤ 31 := by
          rw [d5.len, List.length_map]
          exact tp_small _ (by omega)
        refine ⟨t0, l1, zs, ys1, rfl, rfl, g5 _ _ et, e5, Nat.le_of_lt (small1000 (by omega)), fun c1 hc1 => ?_⟩
        have g6 := Same.new hc1 (.lst (zs ++ ys1))
        have G6 := (G.trans g5).trans g6
        refine ⟨_, rfl, p, _, _, _, rfl, rfl, hp.same G6, atI_nat (j := 4) rfl, _, rfl, _, _, rfl, rfl, ?_, _, rfl, vb, mb, _, b, f, rfl, Dp.same G6 _ _ hvb, harB, by omega, by omega, by rw [app_len]; show way.length + 1 + _ ≤ _; omega, hBb.same G6, fun l2 ys2 H7 g7 n7 e7 d7 => ?_⟩
        · show way.length + 1 ≤ sizeLine
          exact Nat.le_of_lt (small1000 (by omega))
        have z2 : ys2.length ≤ 31 := by
          rw [d7.len, List.length_map]
          exact tp_small _ (by omega)
        refine ⟨c1, l2, zs ++ ys1, ys2, rfl, rfl, g7 _ _ upd_same, e7, Nat.le_of_lt (small1000 (by rw [List.length_append]; omega)), fun l hl => ?_⟩
        have g8 := Same.new hl (.lst (zs ++ ys1 ++ ys2))
        refine q l _ _ ((G6.trans g7).trans g8) ((G6.trans g7).free hl) upd_same ?_
        show DpAll K _ _ ((here way _ _ ++ tp f ma _ ++ tp f mb _).map leafD)
        rw [List.map_append, List.map_append]
        exact ((DpAll.same ((g5.trans g6).trans (g7.trans g8)) _ _ dz).app (DpAll.same (g6.trans (g7.trans g8)) _ _ d5)).app (DpAll.same g8 _ _ d7)
end
end My
namespace My
open PySem PySem.Spec PyProof.Rows L2 MA
section
variable {P : Program} {w : World} {K : PySem.W.Frag} {mg : Str → Option Value} {base : Heap}
theorem f_tb (T : TopD K mg "tips_below" s_tips_below p_tips_below) (Fl : Fn P w K mg base 8 "pulls" p_pulls (spPulls K)) : ∀ n : Nat, Fn P w K mg base (8 + n) "tips_below" p_tips_below (spTB K n)
  | 0 => T.none fun vs H Q E h => by obtain ⟨v, m, way, b, f, _, _, _, hn, _⟩ := h; omega
  | n + 1 => f_tb_step n T Fl (f_tb T Fl n)
def Bq (H : Hp) (b : Addr) (f : Str → Int) (ns : List Str) : Prop := ∃ kvs : List (Key × V), H b = some (.dK kvs) ∧ ∀ x ∈ ns, valV kvs (Sum.inr x) = some (.int (f x))
theorem Bq.same {H H' : Hp} {b : Addr} {f : Str → Int} {ns : List Str} (h : Bq H b f ns) (g : Same H H') : Bq H' b f ns := by
  obtain ⟨kvs, e, r⟩ := h
  exact ⟨kvs, g _ _ e, r⟩
theorem Bq.left {H : Hp} {b : Addr} {f : Str → Int} {ns ms : List Str} (h : Bq H b f (ns ++ ms)) : Bq H b f ns := by
  obtain ⟨kvs, e, r⟩ := h
  exact ⟨kvs, e, fun x hx => r x (List.mem_append_left _ hx)⟩
theorem Bq.right {H : Hp} {b : Addr} {f : Str → Int} {ns ms : List Str} (h : Bq H b f (ns ++ ms)) : Bq H b f ms := by
  obtain ⟨kvs, e, r⟩ := h
  exact ⟨kvs, e, fun x hx => r x (List.mem_append_right _ hx)⟩
theorem Bq.dget {H : Hp} {b : Addr} {f : Str → Int} {ns : List Str} (h : Bq H b f ns) {x : Str} (hx : x ∈ ns) : ∃ kvs : List (Key × V), H b = some (.dK kvs) ∧ valV kvs (Sum.inr x) = some (.int (f x)) := by
  obtain ⟨kvs, e, r⟩ := h
  exact ⟨kvs, e, r x hx⟩
def spLL (K : PySem.W.Frag) (n : Nat) : Sp := fun vs H Q _ => ∃ (v : V) (m : M) (b : Addr) (f : Str → Int), vs = [v, .ref b] ∧ Dp K H v (mD m) ∧ m.deep < n ∧ m.deep ≤ 5 ∧ Bq H b f m.names ∧ Q (.int (ld f m)) H
theorem f_ll_step (n : Nat) (T : TopD K mg "_law_load" s__law_load p__law_load) (F__law_load : Fn P w K mg base n "_law_load" p__law_load (spLL K n)) : Fn P w K mg base (n + 1) "_law_load" p__law_load (spLL K (n + 1)) := by
  refine T.fn sc__law_load (fun vs H Q E h => ?_) (fun fa cdv A outer s H vs Q E hr h => ?_)
  · obtain ⟨v, m, b, f, rfl, _⟩ := h
    rfl
  obtain ⟨v, m, b, f, rfl, hD, hn, h5, hB, q⟩ := h
  refine ⟨_, (pss_cons (ps_if (pt_cmpR op_eq (pe_ix ix_tup (pv 0) pe_int (fun _ _ => rfl)) pe_str (nomark _)) (pss_one (ps_ret (pe_dget (hu_of hr) (pv 1) (pe_ix ix_tup (pv 0) pe_int (fun _ _ => rfl)) (fun _ _ => rfl)))) pss_nil)
    (pss_one (ps_ret (pe_op op_add (pe_callF F__law_load (hr.mono (by omega)) (pa_cons (pe_ix ix_tup (pv 0) pe_int (fun _ _ => rfl)) (pa_cons (pv 1) pa_nil))) (pe_callF F__law_load (hr.mono (by omega)) (pa_cons (pe_ix ix_tup (pv 0) pe_int (fun _ _ => rfl)) (pa_cons (pv 1) pa_nil))))))), ?_⟩
  cases m with
  | wt nm =>
    obtain ⟨a, rfl, ha⟩ := mob_wt hD
    refine ⟨_, rfl, a, _, _, _, rfl, rfl, ha, atI_nat (j := 0) rfl, rfl, _, rfl, ?_⟩
    refine (if_pos (decide_eq_true rfl)).mpr ?_
    obtain ⟨kvs, eb, hv⟩ := hB.dget (x := nm) (by simp [Mob.names])
    have hget : DGet H b (.str nm) (some (.int (f nm))) := by
      have := DGet.k (k := Sum.inr nm) eb
      rw [hv] at this
      exact this
    exact ⟨_, rfl, _, rfl, a, _, _, _, rfl, rfl, ha, atI_nat (j := 1) rfl, b, _, rfl, hget, q⟩
  | rod L R ma mb =>
    obtain ⟨p, va, vb, rfl, hp, hva, hvb⟩ := mob_rod hD
    have hd : max ma.deep mb.deep + 1 < n + 1 := hn
    have hd5 : max ma.deep mb.deep + 1 ≤ 5 := h5
    have hBa : Bq H b f ma.names := Bq.left (ms := mb.names) hB
    have hBb : Bq H b f mb.names := Bq.right (ns := ma.names) hB
    refine ⟨_, rfl, p, _, _, _, rfl, rfl, hp, atI_nat (j := 0) rfl, rfl, _, rfl, ?_⟩
    refine (if_neg (fun z => wr_ne (of_decide_eq_true z))).mpr ?_
    refine ⟨_, rfl, p, _, _, _, rfl, rfl, hp, atI_nat (j := 3) rfl, _, rfl, va, ma, b, f, rfl, hva, by omega, by omega, hBa, ?_⟩
    exact ⟨_, rfl, p, _, _, _, rfl, rfl, hp, atI_nat (j := 4) rfl, _, rfl, vb, mb, b, f, rfl, hvb, by omega, by omega, hBb, _, _, rfl, rfl, q⟩
theorem f_ll (T : TopD K mg "_law_load" s__law_load p__law_load) : ∀ n : Nat, Fn P w K mg base n "_law_load" p__law_load (spLL K n)
  | 0 => T.none fun vs H Q E h => by obtain ⟨v, m, b, f, _, _, hn, _⟩ := h; omega
  | n + 1 => f_ll_step n T (f_ll T n)
def spLT (K : PySem.W.Frag) (n : Nat) : Sp := fun vs H Q _ => ∃ (v : V) (m : M) (way : Str) (b : Addr) (f : Str → Int), vs = [v, .ref b, .str way] ∧ Dp K H v (mD m) ∧ m.arms ∧ m.deep < n ∧ m.deep ≤ 5 ∧ way.length + m.deep ≤ 1000 ∧ Bq H b f m.names ∧
  ∀ (l : Addr) (ys : List V) H', Same H H' → H l = none → H' l = some (.lst ys) → DpAll K H' ys ((tp f m way).map leafD) → Q (.ref l) H'
theorem f_lt_step (n : Nat) (T : TopD K mg "_law_tips" s__law_tips p__law_tips) (F__law_load : Fn P w K mg base 6 "_law_load" p__law_load (spLL K 6)) (F__law_tips : Fn P w K mg base (6 + n) "_law_tips" p__law_tips (spLT K n)) : Fn P w K mg base (6 + n + 1) "_law_tips" p__law_tips (spLT K (n + 1)) := by
  refine T.fn sc__law_tips (fun vs H Q E h => ?_) (fun fa cdv A outer s H vs Q E hr h => ?_)
  · obtain ⟨v, m, way, b, f, rfl, _⟩ := h
    rfl
  obtain ⟨v, m, way, b, f, rfl, hD, har, hn, h5, hw, hB, q⟩ := h
  have nd := sc__law_tips.nd
  refine ⟨_, (pss_cons (ps_if (pt_cmpR op_eq (pe_ix ix_tup (pv 0) pe_int (fun _ _ => rfl)) pe_str (nomark _)) (pss_one (ps_ret (pe_lst pa_nil))) pss_nil)
    (pss_cons (ps_set (i := 3) nd rfl (by first | exact Or.inl rfl | exact Or.inr rfl) (pe_op op_mul (pe_ix ix_tup (pv 0) pe_int (fun _ _ => rfl)) (pe_callF F__law_load (hr.mono (by omega)) (pa_cons (pe_ix ix_tup (pv 0) pe_int (fun _ _ => rfl)) (pa_cons (pv 1) pa_nil)))))
    (pss_cons (ps_set (i := 4) nd rfl (by first | exact Or.inl rfl | exact Or.inr rfl) (pe_op op_mul (pe_ix ix_tup (pv 0) pe_int (fun _ _ => rfl)) (pe_callF F__law_load (hr.mono (by omega)) (pa_cons (pe_ix ix_tup (pv 0) pe_int (fun _ _ => rfl)) (pa_cons (pv 1) pa_nil)))))
    (pss_cons (ps_set (i := 5) nd rfl (by first | exact Or.inl rfl | exact Or.inr rfl) (pe_lst pa_nil))
    (pss_cons (ps_if (pt_cmpR op_gt (pv 3) (pv 4) (nomark _)) (pss_one (ps_set (i := 5) nd rfl (by first | exact Or.inl rfl | exact Or.inr rfl) (pe_lst (pa_cons (pe_tup (pa_cons (pv 2) (pa_cons pe_str pa_nil))) pa_nil)))) pss_nil)
    (pss_cons (ps_if (pt_cmpR op_lt (pv 3) (pv 4) (nomark _)) (pss_one (ps_set (i := 5) nd rfl (by first | exact Or.inl rfl | exact Or.inr rfl) (pe_lst (pa_cons (pe_tup (pa_cons (pv 2) (pa_cons pe_str pa_nil))) pa_nil)))) pss_nil)
    (pss_one (ps_ret (pe_op op_cat (pe_op op_cat (pv 5) (pe_callF F__law_tips (hr.mono (by omega)) (pa_cons (pe_ix ix_tup (pv 0) pe_int (fun _ _ => rfl)) (pa_cons (pv 1) (pa_cons (pe_op op_add_str (pv 2) pe_str) pa_nil))))) (pe_callF F__law_tips (hr.mono (by omega)) (pa_cons (pe_ix ix_tup (pv 0) pe_int (fun _ _ => rfl)) (pa_cons (pv 1) (pa_cons (pe_op op_add_str (pv 2) pe_str) pa_nil))))))))))))), ?_⟩
  cases m with
  | wt nm =>
    obtain ⟨a, rfl, ha⟩ := mob_wt hD
    refine ⟨_, rfl, a, _, _, _, rfl, rfl, ha, atI_nat (j := 0) rfl, rfl, _, rfl, ?_⟩
    refine (if_pos (decide_eq_true rfl)).mpr ?_
    refine ⟨sz0, fun l hl => ?_⟩
    exact q l _ _ (Same.new hl _) hl upd_same .nil
  | rod L R ma mb =>
    obtain ⟨p, va, vb, rfl, hp, hva, hvb⟩ := mob_rod hD
    obtain ⟨r1, r2, r3, r4, harA, harB⟩ := har
    have hd : max ma.deep mb.deep + 1 < n + 1 := hn
    have hd5 : max ma.deep mb.deep + 1 ≤ 5 := h5
    have hdw : way.length + (max ma.deep mb.deep + 1) ≤ 1000 := hw
    have hBa : Bq H b f ma.names := Bq.left (ms := mb.names) hB
    have hBb : Bq H b f mb.names := Bq.right (ns := ma.names) hB
    refine ⟨_, rfl, p, _, _, _, rfl, rfl, hp, atI_nat (j := 0) rfl, rfl, _, rfl, ?_⟩
    refine (if_neg (fun z => wr_ne (of_decide_eq_true z))).mpr ?_
    refine ⟨_, rfl, p, _, _, _, rfl, rfl, hp, atI_nat (j := 1) rfl, _, rfl, p, _, _, _, rfl, rfl, hp, atI_nat (j := 3) rfl, _, rfl, va, ma, b, f, rfl, hva, by omega, by omega, hBa, ⟨_, _, rfl, rfl, .inl ⟨by omega, by omega⟩, ?_⟩⟩
    refine ⟨_, rfl, p, _, _, _, rfl, rfl, hp, atI_nat (j := 2) rfl, _, rfl, p, _, _, _, rfl, rfl, hp, atI_nat (j := 4) rfl, _, rfl, vb, mb, b, f, rfl, hvb, by omega, by omega, hBb, ⟨_, _, rfl, rfl, .inl ⟨by omega, by omega⟩, ?_⟩⟩
    refine ⟨sz0, fun t0 ht0 => ?_⟩
    have g3 := Same.new ht0 (.lst [])
    have g123 := g3
    have hn0 : H t0 = none := ht0
    by_cases c1 : R * ld f mb < L * ld f ma
    · have eh : here way (L * ld f ma) (R * ld f mb) = [(way, lS)] := by unfold here; rw [if_pos c1]
      refine ⟨_, rfl, _, rfl, _, _, rfl, rfl, _, rfl, (if_pos (decide_eq_true c1)).mpr ?_⟩
      refine ⟨_, rfl, (by show 2 ≤ sizeLine; decide), fun t1 ht1 => ⟨(by show 1 ≤ sizeLine; decide), fun t2 ht2 => ?_⟩⟩
      have g4 := Same.new ht1 (.tup [.str way, .str ("left" : Str)])
      have g4b := Same.new ht2 (.lst [.ref t1])
      refine ⟨_, rfl, _, rfl, _, _, rfl, rfl, _, rfl, (if_neg (by simpa using Int.le_of_lt c1)).mpr ?_⟩
      obtain ⟨zs, H4, G, et, dz, eq1⟩ : ∃ (zs : List V) (H4 : Hp), Same H H4 ∧ H4 t2 = some (.lst zs) ∧ DpAll K H4 zs ((here way (L * ld f ma) (R * ld f mb)).map leafD) ∧ H4 = upd (upd (upd H t0 (.lst [])) t1 (.tup [.str way, .str ("left" : Str)])) t2 (.lst [.ref t1]) := by
        refine ⟨[.ref t1], _, (g123.trans g4).trans g4b, upd_same, ?_, rfl⟩
        rw [eh]
        exact .cons (.tup (SqT.of (g4b _ _ upd_same)) (.cons (.str _) (.cons (.str _) .nil))) .nil
      rw [← eq1]
      have z0 : zs.length ≤ 1 := by
        rw [dz.len, List.length_map]
        exact here_len _ _ _
      refine ⟨_, rfl, _, rfl, p, _, _, _, rfl, rfl, hp.same G, atI_nat (j := 3) rfl, _, rfl, _, rfl, _, _, rfl, rfl, ?_, va, ma, _, b, f, rfl, Dp.same G _ _ hva, harA, by omega, by omega, by rw [app_len]; show way.length + 1 + _ ≤ _; omega, hBa.same G, fun l1 ys1 H5 g5 n5 e5 d5 => ?_⟩
      · show way.length + 1 ≤ sizeLine
        exact Nat.le_of_lt (small1000 (by omega))
      have z1 : ys1.length ≤ 31 := by
        rw [d5.len, List.length_map]
        exact tp_small _ (by omega)
      refine ⟨t2, l1, zs, ys1, rfl, rfl, g5 _ _ et, e5, Nat.le_of_lt (small1000 (by omega)), fun c1 hc1 => ?_⟩
      have g6 := Same.new hc1 (.lst (zs ++ ys1))
      have G6 := (G.trans g5).trans g6
      refine ⟨_, rfl, p, _, _, _, rfl, rfl, hp.same G6, atI_nat (j := 4) rfl, _, rfl, _, rfl, _, _, rfl, rfl, ?_, vb, mb, _, b, f, rfl, Dp.same G6 _ _ hvb, harB, by omega, by omega, by rw [app_len]; show way.length + 1 + _ ≤ _; omega, hBb.same G6, fun l2 ys2 H7 g7 n7 e7 d7 => ?_⟩
      · show way.length + 1 ≤ sizeLine
        exact Nat.le_of_lt (small1000 (by omega))
      have z2 : ys2.length ≤ 31 := by
        rw [d7.len, List.length_map]
        exact tp_small _ (by omega)
      refine ⟨c1, l2, zs ++ ys1, ys2, rfl, rfl, g7 _ _ upd_same, e7, Nat.le_of_lt (small1000 (by rw [List.length_append]; omega)), fun l hl => ?_⟩
      have g8 := Same.new hl (.lst (zs ++ ys1 ++ ys2))
      refine q l _ _ ((G6.trans g7).trans g8) ((G6.trans g7).free hl) upd_same ?_
      show DpAll K _ _ ((here way _ _ ++ tp f ma _ ++ tp f mb _).map leafD)
      rw [List.map_append, List.map_append]
      exact ((DpAll.same ((g5.trans g6).trans (g7.trans g8)) _ _ dz).app (DpAll.same (g6.trans (g7.trans g8)) _ _ d5)).app (DpAll.same g8 _ _ d7)
    · by_cases c2 : L * ld f ma < R * ld f mb
      · have eh : here way (L * ld f ma) (R * ld f mb) = [(way, rgS)] := by unfold here; rw [if_neg c1, if_pos c2]
        refine ⟨_, rfl, _, rfl, _, _, rfl, rfl, _, rfl, (if_neg (by simpa using Int.not_lt.mp c1)).mpr ?_⟩
        refine ⟨_, rfl, _, rfl, _, _, rfl, rfl, _, rfl, (if_pos (decide_eq_true c2)).mpr ?_⟩
        refine ⟨_, rfl, (by show 2 ≤ sizeLine; decide), fun t1 ht1 => ⟨(by show 1 ≤ sizeLine; decide), fun t2 ht2 => ?_⟩⟩
        have g4 := Same.new ht1 (.tup [.str way, .str ("right" : Str)])
        have g4b := Same.new ht2 (.lst [.ref t1])
        obtain ⟨zs, H4, G, et, dz, eq1⟩ : ∃ (zs : List V) (H4 : Hp), Same H H4 ∧ H4 t2 = some (.lst zs) ∧ DpAll K H4 zs ((here way (L * ld f ma) (R * ld f mb)).map leafD) ∧ H4 = upd (upd (upd H t0 (.lst [])) t1 (.tup [.str way, .str ("right" : Str)])) t2 (.lst [.ref t1]) := by
          refine ⟨[.ref t1], _, (g123.trans g4).trans g4b, upd_same, ?_, rfl⟩
          rw [eh]
          exact .cons (.tup (SqT.of (g4b _ _ upd_same)) (.cons (.str _) (.cons (.str _) .nil))) .nil
        rw [← eq1]
        have z0 : zs.length ≤ 1 := by
          rw [dz.len, List.length_map]
          exact here_len _ _ _
        refine ⟨_, rfl, _, rfl, p, _, _, _, rfl, rfl, hp.same G, atI_nat (j := 3) rfl, _, rfl, _, rfl, _, _, rfl, rfl, ?_, va, ma, _, b, f, rfl, Dp.same G _ _ hva, harA, by omega, by omega, by rw [app_len]; show way.length + 1 + _ ≤ _; omega, hBa.same G, fun l1 ys1 H5 g5 n5 e5 d5 => ?_⟩
        · show way.length + 1 ≤ sizeLine
          exact Nat.le_of_lt (small1000 (by omega))
        have z1 : ys1.length ≤ 31 := by
          rw [d5.len, List.length_map]
          exact tp_small _ (by omega)
        refine ⟨t2, l1, zs, ys1, rfl, rfl, g5 _ _ et, e5, Nat.le_of_lt (small1000 (by omega)), fun c1 hc1 => ?_⟩
        have g6 := Same.new hc1 (.lst (zs ++ ys1))
        have G6 := (G.trans g5).trans g6
        refine ⟨_, rfl, p, _, _, _, rfl, rfl, hp.same G6, atI_nat (j := 4) rfl, _, rfl, _, rfl, _, _, rfl, rfl, ?_, vb, mb, _, b, f, rfl, Dp.same G6 _ _ hvb, harB, by omega, by omega, by rw [app_len]; show way.length + 1 + _ ≤ _; omega, hBb.same G6, fun l2 ys2 H7 g7 n7 e7 d7 => ?_⟩
        · show way.length + 1 ≤ sizeLine
          exact Nat.le_of_lt (small1000 (by omega))
        have z2 : ys2.length ≤ 31 := by
          rw [d7.len, List.length_map]
          exact tp_small _ (by omega)
        refine ⟨c1, l2, zs ++ ys1, ys2, rfl, rfl, g7 _ _ upd_same, e7, Nat.le_of_lt (small1000 (by rw [List.length_append]; omega)), fun l hl => ?_⟩
        have g8 := Same.new hl (.lst (zs ++ ys1 ++ ys2))
        refine q l _ _ ((G6.trans g7).trans g8) ((G6.trans g7).free hl) upd_same ?_
        show DpAll K _ _ ((here way _ _ ++ tp f ma _ ++ tp f mb _).map leafD)
        rw [List.map_append, List.map_append]
        exact ((DpAll.same ((g5.trans g6).trans (g7.trans g8)) _ _ dz).app (DpAll.same (g6.trans (g7.trans g8)) _ _ d5)).app (DpAll.same g8 _ _ d7)
      · have eh : here way (L * ld f ma) (R * ld f mb) = [] := by unfold here; rw [if_neg c1, if_neg c2]
        refine ⟨_, rfl, _, rfl, _, _, rfl, rfl, _, rfl, (if_neg (by simpa using Int.not_lt.mp c1)).mpr ?_⟩
        refine ⟨_, rfl, _, rfl, _, _, rfl, rfl, _, rfl, (if_neg (by simpa using Int.not_lt.mp c2)).mpr ?_⟩
        obtain ⟨zs, H4, G, et, dz, eq1⟩ : ∃ (zs : List V) (H4 : Hp), Same H H4 ∧ H4 t0 = some (.lst zs) ∧ DpAll K H4 zs ((here way (L * ld f ma) (R * ld f mb)).map leafD) ∧ H4 = upd H t0 (.lst []) := ⟨[], _, g123, upd_same, by rw [eh]; exact .nil, rfl⟩
        rw [← eq1]
        have z0 : zs.length ≤ 1 := by
          rw [dz.len, List.length_map]
          exact here_len _ _ _
        refine ⟨_, rfl, _, rfl, p, _, _, _, rfl, rfl, hp.same G, atI_nat (j := 3) rfl, _, rfl, _, rfl, _, _, rfl, rfl, ?_, va, ma, _, b, f, rfl, Dp.same G _ _ hva, harA, by omega, by omega, by rw [app_len]; show way.length + 1 + _ ≤ _; omega, hBa.same G, fun l1 ys1 H5 g5 n5 e5 d5 => ?_⟩
        · show way.length + 1 ≤ sizeLine
          exact Nat.le_of_lt (small1000 (by omega))
        have z1 : ys1.length ≤ 31 := by
          rw [d5.len, List.length_map]
          exact tp_small _ (by omega)
        refine ⟨t0, l1, zs, ys1, rfl, rfl, g5 _ _ et, e5, Nat.le_of_lt (small1000 (by omega)), fun c1 hc1 => ?_⟩
        have g6 := Same.new hc1 (.lst (zs ++ ys1))
        have G6 := (G.trans g5).trans g6
        refine ⟨_, rfl, p, _, _, _, rfl, rfl, hp.same G6, atI_nat (j := 4) rfl, _, rfl, _, rfl, _, _, rfl, rfl, ?_, vb, mb, _, b, f, rfl, Dp.same G6 _ _ hvb, harB, by omega, by omega, by rw [app_len]; show way.length + 1 + _ ≤ _; omega, hBb.same G6, fun l2 ys2 H7 g7 n7 e7 d7 => ?_⟩
        · show way.length + 1 ≤ sizeLine
          exact Nat.le_of_lt (small1000 (by omega))
        have z2 : ys2.length ≤ 31 := by
          rw [d7.len, List.length_map]
          exact tp_small _ (by omega)
        refine ⟨c1, l2, zs ++ ys1, ys2, rfl, rfl, g7 _ _ upd_same, e7, Nat.le_of_lt (small1000 (by rw [List.length_append]; omega)), fun l hl => ?_⟩
        have g8 := Same.new hl (.lst (zs ++ ys1 ++ ys2))
        refine q l _ _ ((G6.trans g7).trans g8) ((G6.trans g7).free hl) upd_same ?_
        show DpAll K _ _ ((here way _ _ ++ tp f ma _ ++ tp f mb _).map leafD)
        rw [List.map_append, List.map_append]
        exact ((DpAll.same ((g5.trans g6).trans (g7.trans g8)) _ _ dz).app (DpAll.same (g6.trans (g7.trans g8)) _ _ d5)).app (DpAll.same g8 _ _ d7)
theorem f_lt (T : TopD K mg "_law_tips" s__law_tips p__law_tips) (Fl : Fn P w K mg base 6 "_law_load" p__law_load (spLL K 6)) : ∀ n : Nat, Fn P w K mg base (6 + n) "_law_tips" p__law_tips (spLT K n)
  | 0 => T.none fun vs H Q E h => by obtain ⟨v, m, way, b, f, _, _, _, hn, _⟩ := h; omega
  | n + 1 => f_lt_step n T Fl (f_lt T Fl n)
end
end My
namespace My
open PySem PySem.Spec PyProof.Rows L2 MA
def numOf (d : PyData) : Int := match d with | .tuple [_, .int i] => i | _ => 0
def pairOf (d : PyData) : Key × V := (Sum.inr (nameOf d), .int (numOf d))
def bkOf (ds : List PyData) : List (Key × V) := L2.putAll (ds.map pairOf)
def fB (ds : List PyData) (x : Str) : Int := match valV (bkOf ds) (Sum.inr x) with | some (.int i) => i | _ => 0
def dsOf (d : PyData) : List PyData := match d with | .tuple ds => ds | _ => []
def okW (d : PyData) (m : M) : Bool := wB d && m.names.all (fun x => decide (x ∈ (dsOf d).map nameOf))
theorem fold_out (ps : List (Key × V)) : ∀ (acc : List (Key × V)) (k : Key), k ∉ ps.map (·.1) → valV (ps.foldl (fun acc p => putK acc p.1 p.2) acc) k = valV acc k := by
  induction ps with
  | nil => intro acc k _; rfl
  | cons p r ih =>
    intro acc k hk
    rw [List.map_cons, List.mem_cons, not_or] at hk
    rw [List.foldl_cons, ih _ _ hk.2, valV_put, if_neg hk.1]
theorem fold_in (ps : List (Key × V)) : ∀ (acc : List (Key × V)) (k : Key), k ∈ ps.map (·.1) → ∃ v, (k, v) ∈ ps ∧ valV (ps.foldl (fun acc p => putK acc p.1 p.2) acc) k = some v := by
  induction ps with
  | nil => intro acc k h; simp at h
  | cons p r ih =>
    intro acc k hk
    rw [List.foldl_cons]
    by_cases hr : k ∈ r.map (·.1)
    · obtain ⟨v, h1, h2⟩ := ih (putK acc p.1 p.2) k hr
      exact ⟨v, List.mem_cons_of_mem _ h1, h2⟩
    · have hp : k = p.1 := by
        rcases List.mem_cons.mp (by simpa using hk : k ∈ p.1 :: r.map (·.1)) with h | h
        · exact h
        · exact absurd h hr
      refine ⟨p.2, by rw [hp]; simp, ?_⟩
      rw [fold_out r _ _ hr, valV_put, if_pos hp]
theorem pairOf_fst (ds : List PyData) (x : Str) : (Sum.inr x : Key) ∈ (ds.map pairOf).map (·.1) ↔ x ∈ ds.map nameOf := by
  simp only [List.map_map, List.mem_map, Function.comp]
  constructor
  · rintro ⟨d, hd, e⟩
    exact ⟨d, hd, Sum.inr.inj e⟩
  · rintro ⟨d, hd, e⟩
    exact ⟨d, hd, by rw [← e]; rfl⟩
theorem book_no {ds : List PyData} {x : Str} (h : x ∉ ds.map nameOf) : valV (bkOf ds) (Sum.inr x) = none := by
  unfold bkOf L2.putAll
  rw [fold_out _ _ _ fun z => h ((pairOf_fst ds x).mp z)]
  rfl
theorem book_ok {ds : List PyData} {x : Str} (hall : ∀ d ∈ ds, pairB d = true) (h : x ∈ ds.map nameOf) : valV (bkOf ds) (Sum.inr x) = some (.int (fB ds x)) ∧ 1 ≤ fB ds x ∧ fB ds x ≤ 999999 := by
  obtain ⟨v, h1, h2⟩ := fold_in (ds.map pairOf) [] (Sum.inr x) ((pairOf_fst ds x).mpr h)
  have h2 : valV (bkOf ds) (Sum.inr x) = some v := h2
  obtain ⟨d, hd, e⟩ := List.mem_map.mp h1
  obtain ⟨y, i, rfl, _, h3, h4⟩ := pairB_I (hall d hd)
  have ev : v = .int i := (congrArg Prod.snd e).symm
  subst ev
  have ef : fB ds x = i := by unfold fB; rw [h2]
  rw [ef]
  exact ⟨h2, h3, h4⟩
section
variable {K : PySem.W.Frag} {H H' : Hp}
theorem pairs_of {ts : List V} {ds : List PyData} (hall : ∀ d ∈ ds, pairB d = true) (h : DpAll K H ts ds) : Pairs K H ts (ds.map pairOf) := by
  refine ⟨by rw [h.len, List.length_map], fun i x p hx hp => ?_⟩
  obtain ⟨d, hd, hxd⟩ := L2.DpAll.get h hx
  rw [List.getElem?_map, hd] at hp
  cases hp
  obtain ⟨y, k, rfl, _⟩ := pairB_I (hall d (List.mem_of_getElem? hd))
  obtain ⟨t, rfl, ht⟩ := pair2I hxd
  exact ⟨t, rfl, ht⟩
structure Wt (K : PySem.W.Frag) (H : Hp) (u : V) (d : PyData) : Prop where
  dp : Dp K H u d
  sm : wSm d
  tk : ∀ ds, d = .tuple ds → ∃ a xs, u = .ref a ∧ H a = some (.tup xs) ∧ DpAll K H xs ds
theorem Wt.same {u : V} {d : PyData} (h : Wt K H u d) (g : Same H H') : Wt K H' u d :=
  ⟨Dp.same g _ _ h.dp, h.sm, fun ds e => by
    obtain ⟨a, xs, e1, e2, e3⟩ := h.tk ds e
    exact ⟨a, xs, e1, g _ _ e2, DpAll.same g _ _ e3⟩⟩
end
theorem wB_tup {d : PyData} (h : wB d = true) : ∃ ds, d = .tuple ds ∧ ∀ p ∈ ds, pairB p = true := by
  cases d with
  | tuple ds =>
    refine ⟨ds, rfl, ?_⟩
    have h' := h
    simp only [wB, Bool.and_eq_true] at h'
    exact List.all_eq_true.mp h'.1
  | _ => simp [wB] at h
section
variable {P : Program} {w : World} {K : PySem.W.Frag} {mg : Str → Option Value} {base : Heap}
theorem e23 : ("there is no weight for " : Str).length = 23 := by decide +kernel
def spCAW (K : PySem.W.Frag) (e : Addr) : Sp := fun vs H Q E => ∃ (u : V) (d : PyData), vs = [u] ∧ Dp K H u d ∧ wSm d ∧ ∀ H', Same H H' → if wB d = true then Q .non H' else E (.ref e) none H'
theorem f_caw {e_NoWeights : Addr} (T : TopD K mg "check_are_weights" s_check_are_weights p_check_are_weights) (m_NoWeights : mg "NoWeights" = some (.ref e_NoWeights)) (x_NoWeights : PySem.W.excIn K e_NoWeights vErr "ValueError.__new__" = true)
    (F_is_weights : Fn P w K mg base 3 "is_weights" p_is_weights (spWeights K)) : FnX P w K mg base 4 "check_are_weights" p_check_are_weights (spCAW K e_NoWeights) := by
  refine T.fnX sc_check_are_weights (fun vs H Q E h => ?_) (fun f cdv A outer s H vs Q E hr h => ?_)
  · obtain ⟨u, d, rfl, _⟩ := h
    rfl
  obtain ⟨u, d, rfl, hD, hs, q⟩ := h
  have nd := sc_check_are_weights.nd
  refine ⟨_, (pss_one (ps_if (pt_not (pt_val (pe_callF F_is_weights (hr.mono (by omega)) (pa_cons (pv 0) pa_nil)))) (pss_one (ps_raise raisesX rfl m_NoWeights x_NoWeights (pa_cons pe_str pa_nil))) pss_nil)), ?_⟩
  refine ⟨_, rfl, u, d, rfl, hD, hs, fun H1 g1 => ⟨_, rfl, ?_⟩⟩
  by_cases hw : wB d = true
  · rw [hw]
    refine iteF ?_
    have := q H1 g1
    rwa [if_pos hw] at this
  · have hw' : wB d = false := by simpa using hw
    rw [hw']
    refine iteT ?_
    refine ⟨(by show 1 ≤ sizeLine; decide), ?_⟩
    have := q H1 g1
    rwa [if_neg hw] at this
def spCW (K : PySem.W.Frag) (e : Addr) : Sp := fun vs H Q E => ∃ (v : V) (m : M) (u : V) (d : PyData), vs = [v, u] ∧ Dp K H v (mD m) ∧ Good 5 m ∧ Wt K H u d ∧ ∀ H', Same H H' → if okW d m = true then Q .non H' else E (.ref e) none H'
theorem f_cw {e_NoWeights : Addr} (T : TopD K mg "check_weights" s_check_weights p_check_weights) (b_dict : mg "dict" = none) (m_NoWeights : mg "NoWeights" = some (.ref e_NoWeights)) (x_NoWeights : PySem.W.excIn K e_NoWeights vErr "ValueError.__new__" = true)
    (F_check_are_weights : FnX P w K mg base 4 "check_are_weights" p_check_are_weights (spCAW K e_NoWeights)) (F_leaves_below : Fn P w K mg base 6 "leaves_below" p_leaves_below (spLeaves K 6)) : FnX P w K mg base 7 "check_weights" p_check_weights (spCW K e_NoWeights) := by
  refine T.fnX sc_check_weights (fun vs H Q E h => ?_) (fun f cdv A outer s H vs Q E hr h => ?_)
  · obtain ⟨v, m, u, d, rfl, _⟩ := h
    rfl
  obtain ⟨v, m, u, d, rfl, hD, hg, hW, q⟩ := h
  have nd := sc_check_weights.nd
  have h5 := hg.deep
  refine ⟨_, (pss_cons (ps_expr (pe_callX F_check_are_weights (hr.mono (by omega)) passX (pa_cons (pv 1) pa_nil)))
    (pss_cons (ps_set (i := 2) nd rfl (by first | exact Or.inl rfl | exact Or.inr rfl) (pe_callTy (call_dictP rfl) rfl b_dict boot_dict (pa_cons (pv 1) pa_nil)))
    (pss_one (ps_for ownX rfl (pi_list (pe_callF F_leaves_below (hr.mono (by omega)) (pa_cons (pv 0) (pa_cons pe_str pa_nil)))) (pg_tup rfl (pgs_cons (pg_name (i := 3) nd rfl (by first | exact Or.inl rfl | exact Or.inr rfl)) (pgs_cons (pg_name (i := 4) nd rfl (by first | exact Or.inl rfl | exact Or.inr rfl)) pgs_nil))) (pss_one (ps_if (pt_cmp (pc_dnotin (hu_of hr) (pv 4) (pv 2))) (pss_one (ps_raise raisesX rfl m_NoWeights x_NoWeights (pa_cons (pe_fmt (pv 4)) pa_nil))) pss_nil)))))), ?_⟩
  refine ⟨_, rfl, u, d, rfl, hW.dp, hW.sm, fun H1 g1 => ?_⟩
  by_cases hw : wB d = true
  · rw [if_pos hw]
    obtain ⟨ds, rfl, hall⟩ := wB_tup hw
    obtain ⟨p, xs, rfl, hp, hxs⟩ := hW.tk ds rfl
    have h64 := (hW.sm ds rfl).1
    refine ⟨_, rfl, p, xs, ds.map pairOf, rfl, .inr (g1 _ _ hp), pairs_of hall (DpAll.same g1 _ _ hxs), by rw [List.length_map]; omega, fun dd hdd => ?_⟩
    have g2 := Same.new hdd (.dK (bkOf ds))
    refine ⟨_, rfl, v, m, ("" : Str), rfl, Dp.same (g1.trans g2) _ _ hD, by omega, h5, by show 0 + m.deep ≤ 1000; omega, fun l ys H3 g3 n3 e3 d3 => ?_⟩
    have hylen : ys.length = (lv m ("" : Str)).length := by rw [d3.len, List.length_map]
    refine ⟨l, rfl, ⟨ys, SqL.of e3⟩, ?_⟩
    refine for_list (xs := ys) (fun i σ H4 => ∃ (o3 o4 : Option V), σ = [some v, some (.ref p), some (.ref dd), o3, o4] ∧ Same H3 H4 ∧ ∀ r ∈ (lv m ("" : Str)).take i, r.2 ∈ ds.map nameOf) ?_ ?_ ?_ ?_
    · exact ⟨none, none, rfl, Same.refl _, by simp⟩
    · rintro i σ H4 _ ⟨o3, o4, rfl, g4, _⟩
      exact (SqL.of e3).same g4
    · rintro i x σ H4 hx ⟨o3, o4, rfl, g4, hin⟩
      obtain ⟨dx, hdx, hDx⟩ := d3.get hx
      rw [List.getElem?_map] at hdx
      obtain ⟨row, hrow, rfl⟩ : ∃ row, (lv m ("" : Str))[i]? = some row ∧ dx = leafD row := by
        cases e : (lv m ("" : Str))[i]? with
        | none => rw [e] at hdx; cases hdx
        | some r => rw [e] at hdx; cases hdx; exact ⟨r, rfl, rfl⟩
      obtain ⟨pa, rfl, hpa⟩ := leafI hDx
      obtain ⟨rw0, rn0⟩ := row
      have hmem : rn0 ∈ m.names := by rw [← lv_names m ""]; exact List.mem_map.mpr ⟨(rw0, rn0), List.mem_of_getElem? hrow, rfl⟩
      have hb4 : H4 dd = some (.dK (bkOf ds)) := g4 _ _ (g3 _ _ upd_same)
      refine ⟨pa, _, rfl, hpa.same g4, rfl, _, _, rfl, _, _, rfl, rfl, ?_⟩
      refine ⟨_, rfl, _, rfl, dd, _, rfl, DGet.k (k := Sum.inr rn0) hb4, _, rfl, ?_⟩
      by_cases hn : rn0 ∈ ds.map nameOf
      · rw [(book_ok hall hn).1]
        refine iteF ?_
        refine ⟨_, _, rfl, g4, fun r hr => ?_⟩
        rw [List.take_add_one, hrow] at hr
        rcases List.mem_append.mp hr with hr | hr
        · exact hin r hr
        · have : r = (rw0, rn0) := by simpa using hr
          rw [this]
          exact hn
      · rw [book_no hn]
        refine iteT ?_
        refine ⟨_, rfl, _, rfl, ?_, (by show 1 ≤ sizeLine; decide), ?_⟩
        · show ("there is no weight for " : Str).length + rn0.length ≤ sizeLine
          rw [e23]
          have := (hg.names rn0 hmem).hi
          exact Nat.le_of_lt (small1000 (by omega))
        · have := q H4 ((g1.trans g2).trans (g3.trans g4))
          rwa [if_neg (by
            intro z
            have z := (Bool.and_eq_true _ _ ▸ z : wB _ = true ∧ _).2
            exact hn (of_decide_eq_true (List.all_eq_true.mp z rn0 hmem)))] at this
    · rintro σ H4 ⟨o3, o4, rfl, g4, hin⟩
      have := q H4 ((g1.trans g2).trans (g3.trans g4))
      rwa [if_pos (by
        show (wB (.tuple ds) && _) = true
        rw [hw, Bool.true_and, List.all_eq_true]
        intro x hx
        rw [← lv_names m ""] at hx
        obtain ⟨r, hr, rfl⟩ := List.mem_map.mp hx
        rw [List.take_of_length_le (by omega)] at hin
        exact decide_eq_true (hin r hr))] at this
  · rw [if_neg hw]
    have hw : wB d = false := by simpa using hw
    have := q H1 g1
    rwa [if_neg (by simp [okW, hw])] at this
end
end My
namespace My
open PySem PySem.Spec PyProof.Rows L2 MA
theorem str_app {x y : Str} (hx : PyData.strOk x = true) (hy : PyData.strOk y = true) : PyData.strOk (x ++ y) = true := by
  show (x.cps ++ y.cps).all (· < 0x110000) = true
  rw [Array.all_append, Bool.and_eq_true]
  exact ⟨hx, hy⟩
theorem here_ok {w : Str} {x y : Int} (hw : PyData.strOk w = true) : ∀ p ∈ here w x y, PyData.strOk p.1 = true ∧ PyData.strOk p.2 = true := by
  unfold here
  intro p hp
  split at hp
  · have : p = (w, lS) := by simpa using hp
    subst this
    exact ⟨hw, show PyData.strOk lS = true by decide +kernel⟩
  · split at hp
    · have : p = (w, rgS) := by simpa using hp
      subst this
      exact ⟨hw, show PyData.strOk rgS = true by decide +kernel⟩
    · simp at hp
theorem tp_ok (f : Str → Int) : ∀ (m : M) (w : Str), PyData.strOk w = true → ∀ p ∈ tp f m w, PyData.strOk p.1 = true ∧ PyData.strOk p.2 = true
  | .wt n, w, hw, p, hp => by simp [tp] at hp
  | .rod L R a b, w, hw, p, hp => by
    have hp : p ∈ here w (L * ld f a) (R * ld f b) ++ tp f a _ ++ tp f b _ := hp
    rcases List.mem_append.mp hp with h | h
    · rcases List.mem_append.mp h with h | h
      · exact here_ok hw p h
      · exact tp_ok f a _ (str_app hw (by decide +kernel)) p h
    · exact tp_ok f b _ (str_app hw (by decide +kernel)) p h
theorem leafs_lay : ∀ ps : List (Str × Str), (∀ p ∈ ps, PyData.strOk p.1 = true ∧ PyData.strOk p.2 = true) → PyData.canLayAll0 (ps.map leafD) = true
  | [], _ => by simp [PyData.canLayAll0]
  | p :: r, h => by
    obtain ⟨h1, h1'⟩ := h p (by simp)
    have h2 := leafs_lay r fun q hq => h q (List.mem_cons_of_mem _ hq)
    have h3 : (leafD p).canLay0 = true := by simp [leafD, PyData.canLay0, PyData.canLayAll0, h1, h1']
    simp only [List.map_cons, PyData.canLayAll0, h2, h3]
    rfl
theorem leafs_depth : ∀ ps : List (Str × Str), PyData.depthAll (ps.map leafD) ≤ 1
  | [] => by simp [PyData.depthAll]
  | p :: r => by
    have h := leafs_depth r
    have h1 : (leafD p).depth = 1 := by simp [leafD, PyData.depth, PyData.depthAll]
    simp only [List.map_cons, PyData.depthAll, h1]
    omega
theorem leafs_noB : ∀ ps : List (Str × Str), noBs (ps.map leafD) = true
  | [] => by simp [noBs]
  | p :: r => by simp [noBs, leafs_noB r, leafD, noB]
def tpD (f : Str → Int) (m : M) : PyData := .list ((tp f m "").map leafD)
theorem tpD_lay (f : Str → Int) (m : M) : (tpD f m).canLay0 = true := by
  simpa [tpD, PyData.canLay0] using leafs_lay _ (tp_ok f m "" (by decide +kernel))
theorem tpD_depth (f : Str → Int) (m : M) : (tpD f m).depth ≤ 2 := by
  have := leafs_depth (tp f m "")
  simp only [tpD, PyData.depth]
  omega
theorem tpD_noB (f : Str → Int) (m : M) : noB (tpD f m) = true := by simpa [tpD, noB] using leafs_noB _
theorem tpD_nil (f : Str → Int) (m : M) : PyData.eqv (tpD f m) (.list []) = decide (tp f m "" = []) := by
  rw [Bool.eq_iff_iff, eqv_iff _ _ (tpD_noB f m) (by simp [noB, noBs]), decide_eq_true_eq]
  constructor
  · intro h
    have : (tp f m "").map leafD = [] := by
      have h : PyData.list ((tp f m "").map leafD) = .list [] := h
      injection h
    simpa using this
  · intro h
    simp [tpD, h]
section
variable {P : Program} {w : World} {K : PySem.W.Frag} {mg : Str → Option Value} {base : Heap}
theorem bk_of {H : Hp} {dd : Addr} {ds : List PyData} {m : M} (e : H dd = some (.dK (bkOf ds))) (hok : okW (.tuple ds) m = true) (hall : ∀ p ∈ ds, pairB p = true) : Bk H dd (fB ds) m.names := by
  refine ⟨_, e, fun x hx => book_ok hall ?_⟩
  have z := (Bool.and_eq_true _ _ ▸ hok : wB _ = true ∧ _).2
  exact of_decide_eq_true (List.all_eq_true.mp z x hx)
theorem okW_w {d : PyData} {m : M} (h : okW d m = true) : wB d = true := (Bool.and_eq_true _ _ ▸ h : wB _ = true ∧ _).1
def spTips (K : PySem.W.Frag) (e : Addr) : Sp := fun vs H Q E => ∃ (v : V) (m : M) (u : V) (d : PyData), vs = [v, u] ∧ Dp K H v (mD m) ∧ Good 5 m ∧ Wt K H u d ∧ ∀ H', Same H H' →
  if okW d m = true then ∀ (l : Addr) (ys : List V), H l = none → H' l = some (.lst ys) → DpAll K H' ys ((tp (fB (dsOf d)) m "").map leafD) → Q (.ref l) H' else E (.ref e) none H'
theorem f_tips {e : Addr} (T : TopD K mg "tips" s_tips p_tips) (b_dict : mg "dict" = none) (F_check_mobile : Fn P w K mg base 9 "check_mobile" p_check_mobile (spIM K .non)) (F_check_weights : FnX P w K mg base 7 "check_weights" p_check_weights (spCW K e))
    (F_tips_below : Fn P w K mg base 14 "tips_below" p_tips_below (spTB K 6)) : FnX P w K mg base 15 "tips" p_tips (spTips K e) := by
  refine T.fnX sc_tips (fun vs H Q E h => ?_) (fun f cdv A outer s H vs Q E hr h => ?_)
  · obtain ⟨v, m, u, d, rfl, _⟩ := h
    rfl
  obtain ⟨v, m, u, d, rfl, hD, hg, hW, q⟩ := h
  have nd := sc_tips.nd
  have h5 := hg.deep
  refine ⟨_, (pss_cons (ps_expr (pe_callF F_check_mobile (hr.mono (by omega)) (pa_cons (pv 0) pa_nil)))
    (pss_cons (ps_expr (pe_callX F_check_weights (hr.mono (by omega)) passX (pa_cons (pv 0) (pa_cons (pv 1) pa_nil))))
    (pss_one (ps_ret (pe_callF F_tips_below (hr.mono (by omega)) (pa_cons (pv 0) (pa_cons pe_str (pa_cons (pe_callTy (call_dictP rfl) rfl b_dict boot_dict (pa_cons (pv 1) pa_nil)) pa_nil)))))))), ?_⟩
  refine ⟨_, rfl, v, m, rfl, hD, hg, fun H1 g1 => ?_⟩
  refine ⟨_, rfl, _, rfl, v, m, u, d, rfl, Dp.same g1 _ _ hD, hg, hW.same g1, fun H2 g2 => ?_⟩
  by_cases ok : okW d m = true
  · rw [if_pos ok]
    have g12 := g1.trans g2
    obtain ⟨ds, rfl, hall⟩ := wB_tup (okW_w ok)
    obtain ⟨p, xs, rfl, hp, hxs⟩ := hW.tk ds rfl
    have h64 := (hW.sm ds rfl).1
    refine ⟨_, rfl, _, rfl, p, xs, ds.map pairOf, rfl, .inr (g12 _ _ hp), pairs_of hall (DpAll.same g12 _ _ hxs), by rw [List.length_map]; omega, fun dd hdd => ?_⟩
    have g3 := Same.new hdd (.dK (bkOf ds))
    refine ⟨v, m, ("" : Str), dd, fB ds, rfl, Dp.same (g12.trans g3) _ _ hD, hg.arms, by omega, h5, by show 0 + m.deep ≤ 1000; omega, bk_of upd_same ok hall, fun l ys H4 g4 n4 e4 d4 => ?_⟩
    have := q H4 ((g12.trans g3).trans g4)
    rw [if_pos ok] at this
    exact this l ys ((g12.trans g3).free n4) e4 d4
  · rw [if_neg ok]
    have := q H2 (g1.trans g2)
    rwa [if_neg ok] at this
def spStill (K : PySem.W.Frag) (e : Addr) : Sp := fun vs H Q E => ∃ (v : V) (m : M) (u : V) (d : PyData), vs = [v, u] ∧ Dp K H v (mD m) ∧ Good 5 m ∧ Wt K H u d ∧ ∀ H', Same H H' →
  if okW d m = true then Q (.bl (decide (tp (fB (dsOf d)) m "" = []))) H' else E (.ref e) none H'
theorem f_still {e : Addr} (T : TopD K mg "is_still" s_is_still p_is_still) (F_tips : FnX P w K mg base 15 "tips" p_tips (spTips K e)) : FnX P w K mg base 16 "is_still" p_is_still (spStill K e) := by
  refine T.fnX sc_is_still (fun vs H Q E h => ?_) (fun f cdv A outer s H vs Q E hr h => ?_)
  · obtain ⟨v, m, u, d, rfl, _⟩ := h
    rfl
  obtain ⟨v, m, u, d, rfl, hD, hg, hW, q⟩ := h
  have nd := sc_is_still.nd
  refine ⟨_, (pss_one (ps_ret (pe_cmpR (op_eqD (hu64 hr)) (pe_callX F_tips (hr.mono (by omega)) passX (pa_cons (pv 0) (pa_cons (pv 1) pa_nil))) (pe_lst pa_nil) (nomark _)))), ?_⟩
  refine ⟨_, rfl, _, rfl, v, m, u, d, rfl, hD, hg, hW, fun H1 g1 => ?_⟩
  by_cases ok : okW d m = true
  · rw [if_pos ok]
    intro l ys n1 e1 d1
    refine ⟨sz0, fun l2 hl2 => ?_⟩
    have g2 := Same.new hl2 (.lst [])
    refine ⟨tpD (fB (dsOf d)) m, .list [], .lst ((SqL.of e1).same g2) (DpAll.same g2 _ _ d1), .lst (SqL.of upd_same) .nil, tpD_lay _ _, by simp [PyData.canLay0, PyData.canLayAll0], by have := tpD_depth (fB (dsOf d)) m; omega, ?_⟩
    rw [tpD_nil]
    have := q _ (g1.trans g2)
    rwa [if_pos ok] at this
  · rw [if_neg ok]
    have := q H1 g1
    rwa [if_neg ok] at this
end
end My
namespace L2
open PySem PySem.Spec PyProof.Rows
section
variable {H H' : Hp} {K : PySem.W.Frag}
def NotT : HO → Prop
  | .tup _ => False
  | .frz _ _ => False
  | _ => True
theorem SqT.butO {t a : Addr} {o : HO} {xs : List V} (k : But t H H') (ht : H t = some o) (hn : NotT o) (h : SqT K H a xs) : SqT K H' a xs := by
  rcases h with h | h
  · refine .inl (h.but k ?_)
    rcases h with h | ⟨ob, h⟩
    · exact ne_of h ht (by intro z; subst z; exact hn)
    · exact ne_of h ht (by intro z; subst z; exact hn)
  · exact .inr h
mutual
theorem Dp.butO {t : Addr} {o : HO} (k : But t H H') (ht : H t = some o) (hn : NotT o) : ∀ (d : PyData) (v : V), noL d = true → Dp K H v d → Dp K H' v d
  | .none, _, _, h => by cases h; exact .non
  | .bool b, _, _, h => by cases h; exact .bl b
  | .int i, _, _, h => by cases h; exact .int i
  | .str x, _, _, h => by cases h; exact .str x
  | .list ds, _, n, h => by simp [noL] at n
  | .tuple ds, _, n, h => by
    cases h with
    | tup hq hs => exact .tup (hq.butO k ht hn) (DpAll.butO k ht hn ds _ (by simpa [noL] using n) hs)
  | .dict _, _, _, h => nomatch h
theorem DpAll.butO {t : Addr} {o : HO} (k : But t H H') (ht : H t = some o) (hn : NotT o) : ∀ (ds : List PyData) (vs : List V), noLs ds = true → DpAll K H vs ds → DpAll K H' vs ds
  | [], _, _, h => by cases h; exact .nil
  | d :: ds, _, n, h => by
    have n' : noL d = true ∧ noLs ds = true := by simpa [noLs] using n
    cases h with
    | cons h1 h2 => exact .cons (Dp.butO k ht hn d _ n'.1 h1) (DpAll.butO k ht hn ds _ n'.2 h2)
end
end
end L2
namespace My
open PySem PySem.Spec PyProof.Rows L2 MA
theorem fD_noL (x : Rat) : noL (fD x) = true := by simp [fD, noL, noLs]
theorem rowD_noL (p : Str × Str × Rat) : noL (rowD p) = true := by simp [rowD, noL, noLs, fD_noL]
theorem fD_noB (x : Rat) : noB (fD x) = true := by simp [fD, noB, noBs]
theorem fD_lay (x : Rat) : (fD x).canLay0 = true := by simp [fD, PyData.canLay0, PyData.canLayAll0]
theorem fD_depth (x : Rat) : (fD x).depth = 1 := by simp [fD, PyData.depth, PyData.depthAll]
theorem fD_inj {x y : Rat} (h : fD x = fD y) : x = y := by
  unfold fD at h
  injection h with h
  injection h with h1 h2
  injection h1 with h1
  injection h2 with h2 _
  injection h2 with h2
  exact rf_inj (Prod.ext h1 h2)
theorem fD_eqv (x y : Rat) : PyData.eqv (fD x) (fD y) = decide (x = y) := by
  by_cases h : x = y
  · subst h
    rw [decide_eq_true rfl]
    exact (eqv_iff _ _ (fD_noB x) (fD_noB x)).mpr rfl
  · rw [decide_eq_false h]
    cases e : PyData.eqv (fD x) (fD y) with
    | false => rfl
    | true => exact absurd (fD_inj ((eqv_iff _ _ (fD_noB x) (fD_noB y)).mp e)) h
def barD : Option (Str × Str) → PyData
  | none => .none
  | some p => .tuple [.str p.1, .str p.2]
section
variable {K : PySem.W.Frag} {H : Hp} {v : V}
theorem rowI {p : Str × Str × Rat} (h : Dp K H v (rowD p)) : ∃ a sv, v = .ref a ∧ SqT K H a [.str p.1, .str p.2.1, sv] ∧ Dp K H sv (fD p.2.2) := by
  obtain ⟨a, xs, rfl, hq, hs⟩ := Dp.tupI (show Dp K H v (.tuple [.str p.1, .str p.2.1, fD p.2.2]) from h)
  obtain ⟨x0, r0, rfl, h0, hs⟩ := hs.consI
  obtain ⟨x1, r1, rfl, h1, hs⟩ := hs.consI
  obtain ⟨x2, r2, rfl, h2, hs⟩ := hs.consI
  have e := hs.nilI
  subst e
  have e0 := h0.strI
  have e1 := h1.strI
  subst e0 e1
  exact ⟨a, x2, rfl, hq, h2⟩
end
def DInv (K : PySem.W.Frag) (H : Hp) (kvs : List (Key × V)) (pre : List (Str × Str × Rat)) : Prop :=
  ∀ nm : Str, match pre.find? (fun p => decide (p.2.1 = nm)) with
    | none => valV kvs (Sum.inr nm) = none
    | some p => ∃ t sv, valV kvs (Sum.inr nm) = some (.ref t) ∧ SqT K H t [.str p.1, sv] ∧ Dp K H sv (fD p.2.2)
theorem DInv.none {K : PySem.W.Frag} {H : Hp} {kvs : List (Key × V)} {pre : List (Str × Str × Rat)} (h : DInv K H kvs pre) {nm : Str} (e : pre.find? (fun p => decide (p.2.1 = nm)) = Option.none) : valV kvs (Sum.inr nm) = Option.none := by
  have := h nm
  rw [e] at this
  exact this
theorem DInv.some {K : PySem.W.Frag} {H : Hp} {kvs : List (Key × V)} {pre : List (Str × Str × Rat)} (h : DInv K H kvs pre) {nm : Str} {p : Str × Str × Rat} (e : pre.find? (fun p => decide (p.2.1 = nm)) = Option.some p) :
    ∃ t sv, valV kvs (Sum.inr nm) = Option.some (.ref t) ∧ SqT K H t [.str p.1, sv] ∧ Dp K H sv (fD p.2.2) := by
  have := h nm
  rw [e] at this
  exact this
section
variable {P : Program} {w : World} {K : PySem.W.Frag} {mg : Str → Option Value} {base : Heap}
def spBar (K : PySem.W.Frag) : Sp := fun vs H Q _ => ∃ (v : V) (m : M), vs = [v] ∧ Dp K H v (mD m) ∧ Good 5 m ∧ ∀ (r : V) H', Same H H' → Dp K H' r (barD (barM [] (sh3 m "" 1))) → Q r H'
theorem f_bar (T : TopD K mg "bar" s_bar p_bar) (F_shares : Fn P w K mg base 10 "shares" p_shares (spShares K)) : Fn P w K mg base 11 "bar" p_bar (spBar K) := by
  refine T.fn sc_bar (fun vs H Q E h => ?_) (fun f cdv A outer s H vs Q E hr h => ?_)
  · obtain ⟨v, m, rfl, _⟩ := h
    rfl
  obtain ⟨v, m, rfl, hD, hg, q⟩ := h
  have nd := sc_bar.nd
  refine ⟨_, (pss_cons (ps_set (i := 1) nd rfl (by first | exact Or.inl rfl | exact Or.inr rfl) pe_dnewK)
    (pss_cons (ps_for PassesOwn.never rfl (pi_list (pe_callF F_shares (hr.mono (by omega)) (pa_cons (pv 0) pa_nil))) (pg_tup rfl (pgs_cons (pg_name (i := 2) nd rfl (by first | exact Or.inl rfl | exact Or.inr rfl)) (pgs_cons (pg_name (i := 3) nd rfl (by first | exact Or.inl rfl | exact Or.inr rfl)) (pgs_cons (pg_name (i := 4) nd rfl (by first | exact Or.inl rfl | exact Or.inr rfl)) pgs_nil)))) (pss_one (ps_if (pt_cmp (pc_dnotin (hu_of hr) (pv 3) (pv 1))) (pss_one (ps_dput (hu_of hr) (pv 1) (pv 3) (pe_tup (pa_cons (pv 2) (pa_cons (pv 4) pa_nil))) rfl)) (pss_one (ps_if (pt_cmpR (op_neD (hu64 hr)) (pe_ix ix_tup (pe_dget (hu_of hr) (pv 1) (pv 3) (fun _ _ => rfl)) pe_int (fun _ _ => rfl)) (pv 4) (nomark _)) (pss_one (ps_ret (pe_tup (pa_cons (pe_ix ix_tup (pe_dget (hu_of hr) (pv 1) (pv 3) (fun _ _ => rfl)) pe_int (fun _ _ => rfl)) (pa_cons (pv 2) pa_nil))))) pss_nil)))))
    (pss_one (ps_ret pe_non)))), ?_⟩
  refine fun d hd => ?_
  have g1 := Same.new hd (.dK [])
  refine ⟨_, rfl, v, m, rfl, Dp.same g1 _ _ hD, hg, fun l ys H2 g2 hl el dl => ?_⟩
  have hd2 : H2 d = some (.dK []) := g2 _ _ upd_same
  have hld : l ≠ d := fun z => by rw [z, upd_same] at hl; cases hl
  have hylen : ys.length = (sh3 m "" 1).length := by rw [dl.len, List.length_map]
  have hy32 : ys.length ≤ 32 := by rw [hylen, sh3_len]; exact names_small hg.deep
  refine ⟨l, rfl, ⟨ys, SqL.of el⟩, ?_⟩
  refine for_list (xs := ys) (fun i σ H3 => ∃ (o2 o3 o4 : Option V) (kvs : List (Key × V)), σ = [some v, some (.ref d), o2, o3, o4] ∧ H3 d = some (.dK kvs) ∧ kvs.length ≤ i ∧ But d H2 H3 ∧ DInv K H3 kvs ((sh3 m "" 1).take i) ∧ barM ((sh3 m "" 1).take i) ((sh3 m "" 1).drop i) = barM [] (sh3 m "" 1)) ?_ ?_ ?_ ?_
  · exact ⟨none, none, none, [], rfl, hd2, Nat.le_refl _, But.refl, fun nm => rfl, rfl⟩
  · rintro i σ H3 _ ⟨o2, o3, o4, kvs, rfl, e3, hk, g3, _⟩
    exact SqL.of (g3 _ _ hld el)
  · rintro i x σ H3 hx ⟨o2, o3, o4, kvs, rfl, e3, hk, g3, hdi, hbm⟩
    obtain ⟨dx, hdx, hDx⟩ := dl.get hx
    rw [List.getElem?_map] at hdx
    obtain ⟨row, hrow, rfl⟩ : ∃ row, (sh3 m "" 1)[i]? = some row ∧ dx = rowD row := by
      cases e : (sh3 m "" 1)[i]? with
      | none => rw [e] at hdx; cases hdx
      | some r => rw [e] at hdx; cases hdx; exact ⟨r, rfl, rfl⟩
    obtain ⟨a, sv, rfl, ha, hsv⟩ := rowI (Dp.butO g3 hd2 trivial _ _ (rowD_noL row) hDx)
    obtain ⟨rw0, rn0, rs0⟩ := row
    have hi : i < (sh3 m "" 1).length := (List.getElem?_eq_some_iff.mp hrow).1
    have hdrop : (sh3 m "" 1).drop i = (rw0, rn0, rs0) :: (sh3 m "" 1).drop (i + 1) := by
      rw [List.drop_eq_getElem_cons hi]
      congr 1
      have := (List.getElem?_eq_some_iff.mp hrow).2
      exact this
    have htake : (sh3 m "" 1).take (i + 1) = (sh3 m "" 1).take i ++ [(rw0, rn0, rs0)] := by
      rw [List.take_succ, hrow]
      rfl
    refine ⟨a, _, rfl, ha, rfl, _, _, rfl, _, _, rfl, _, _, rfl, rfl, ?_⟩
    refine ⟨_, rfl, _, rfl, d, _, rfl, DGet.k (k := Sum.inr rn0) e3, _, rfl, ?_⟩
    cases hf : ((sh3 m "" 1).take i).find? (fun p => decide (p.2.1 = rn0)) with
    | none =>
      have hv := hdi.none hf
      rw [hv]
      refine iteT ?_
      refine ⟨_, rfl, _, rfl, (by show 2 ≤ sizeLine; decide), fun t ht => ?_⟩
      have s4 := Same.new ht (.tup [.str rw0, sv])
      have e4 := s4 _ _ e3
      have htd : t ≠ d := (ne_of_none e3 ht).symm
      refine ⟨_, rfl, _, rfl, d, _, rfl, DPut.k (k := Sum.inr rn0) e4 (small1000 (by omega)), ?_⟩
      have g5 : But d H3 (upd (upd H3 t (.tup [.str rw0, sv])) d (.dK (putK kvs (Sum.inr rn0) (.ref t)))) := s4.but.trans But.upd
      refine ⟨_, _, _, _, rfl, upd_same, Nat.le_trans (length_putK _ _ _) (by omega), g3.trans g5, fun nm => ?_, ?_⟩
      · rw [htake, List.find?_append, valV_put]
        by_cases hnm : nm = rn0
        · subst hnm
          rw [hf, if_pos rfl]
          show match (Option.none.or (List.find? _ [(rw0, nm, rs0)])) with | none => _ | some p => _
          rw [Option.none_or, List.find?_cons_of_pos (by exact decide_eq_true rfl)]
          exact ⟨t, sv, rfl, SqT.of (by rw [upd_ne htd]; exact upd_same), Dp.butO But.upd e4 trivial _ _ (fD_noL _) (Dp.same s4 _ _ hsv)⟩
        · rw [if_neg (fun z => hnm (Sum.inr.inj z)), List.find?_cons_of_neg (by simpa using fun z => hnm z.symm), List.find?_nil, Option.or_none]
          cases hq : ((sh3 m "" 1).take i).find? (fun p => decide (p.2.1 = nm)) with
          | none => exact hdi.none hq
          | some pp =>
            obtain ⟨t', sv', h1, h2, h3⟩ := hdi.some hq
            exact ⟨t', sv', h1, h2.butO g5 e3 trivial, Dp.butO g5 e3 trivial _ _ (fD_noL _) h3⟩
      · rw [htake, ← hbm, hdrop]
        conv => rhs; unfold barM
        rw [hf]
    | some p =>
      obtain ⟨t, sv0, hv, ht, hs0⟩ := hdi.some hf
      have hget : DGet H3 d (.str rn0) (some (.ref t)) := by
        have := DGet.k (k := Sum.inr rn0) e3
        rw [hv] at this
        exact this
      rw [hv]
      refine iteF ?_
      refine ⟨_, rfl, _, rfl, d, _, rfl, hget, t, _, _, _, rfl, rfl, ht, atI_nat (j := 1) rfl, _, rfl, fD p.2.2, fD rs0, hs0, hsv, fD_lay _, fD_lay _, by rw [fD_depth, fD_depth]; decide, _, rfl, ?_⟩
      rw [fD_eqv]
      by_cases hps : p.2.2 = rs0
      · rw [decide_eq_true hps]
        refine iteF ?_
        refine ⟨_, _, _, _, rfl, e3, by omega, g3, fun nm => ?_, ?_⟩
        · rw [htake, List.find?_append]
          cases hq : ((sh3 m "" 1).take i).find? (fun p => decide (p.2.1 = nm)) with
          | none =>
            by_cases hnm : nm = rn0
            · rw [hnm, hf] at hq
              cases hq
            · rw [Option.none_or, List.find?_cons_of_neg (by simpa using fun z => hnm z.symm), List.find?_nil]
              exact hdi.none hq
          | some pp =>
            rw [Option.some_or]
            exact hdi.some hq
        · rw [htake, ← hbm, hdrop]
          conv => rhs; unfold barM
          rw [hf]
          show _ = if p.2.2 = rs0 then _ else _
          rw [if_pos hps]
      · rw [decide_eq_false hps]
        refine iteT ?_
        refine ⟨_, rfl, _, rfl, d, _, rfl, hget, t, _, _, _, rfl, rfl, ht, atI_nat (j := 0) rfl, _, rfl, (by show 2 ≤ sizeLine; decide), fun r hr' => ?_⟩
        have s5 := Same.new hr' (.tup [.str p.1, .str rw0])
        refine q (.ref r) _ (fun b o e => s5 _ _ (g3 b o (ne_of_none e hd) (g2 _ _ (g1 _ _ e)))) ?_
        have hb : barM [] (sh3 m "" 1) = some (p.1, rw0) := by
          rw [← hbm, hdrop]
          conv => lhs; unfold barM
          rw [hf]
          show (if p.2.2 = rs0 then _ else _) = _
          rw [if_neg hps]
        rw [hb]
        exact .tup (SqT.of upd_same) (.cons (.str _) (.cons (.str _) .nil))
  · rintro σ H3 ⟨o2, o3, o4, kvs, rfl, e3, hk, g3, hdi, hbm⟩
    refine q .non H3 (fun b o e => g3 b o ?_ (g2 _ _ (g1 _ _ e))) ?_
    · exact ne_of_none e hd
    · rw [← hbm, hylen, List.drop_length]
      exact .non
end
end My
namespace L2
open PySem PySem.Spec PyProof.Rows
theorem for_enum {K : PySem.W.Frag} {a : Addr} {xs : List V} {g : TG} {tb : TS} {D : Ends} {σ : L2.St} {H : Hp} (Pv : Nat → L2.St → Hp → Prop) (h0 : Pv 0 σ H) (hl : ∀ i σ H, i ≤ xs.length → Pv i σ H → SqL K H a xs)
    (hs : ∀ i y σ H p, xs[i]? = some y → Pv i σ H → H p = none → g (.ref p) σ (upd H p (.tup [.int (i : Nat), y])) fun σ2 H2 => tb { D with nx := Pv (i + 1), ct := Pv (i + 1), bk := D.nx } σ2 H2) (hd : ∀ σ H, Pv xs.length σ H → D.nx σ H) :
    ∃ W : Nat → Nat → L2.St → Hp → Prop, (∃ m, W 0 m σ H) ∧ ∀ i m σ H, W i m σ H →
      ((Ite K a).stop i H ∧ D.nx σ H) ∨ ((Ite K a).go i H ∧ ∃ N : L2.St → Hp → Prop, (∀ σ' H', N σ' H' → ∃ m', m' < m ∧ W (i + 1) m' σ' H') ∧ ∀ x H', (Ite K a).yld i H x H' → g x σ H' fun σ2 H2 => tb { D with nx := N, ct := N, bk := D.nx } σ2 H2) := by
  refine ⟨fun i m σ H => m = xs.length - i ∧ i ≤ xs.length ∧ Pv i σ H, ⟨xs.length, by simp, Nat.zero_le _, h0⟩, ?_⟩
  rintro i m σ H ⟨rfl, hi, p⟩
  have q := hl i σ H hi p
  by_cases hlt : i < xs.length
  · refine .inr ⟨⟨xs, xs[i], q, by simp [hlt]⟩, Pv (i + 1), fun σ' H' p' => ⟨xs.length - (i + 1), by omega, rfl, hlt, p'⟩, fun x H' y => ?_⟩
    obtain ⟨ad, v, hn, rfl, rfl, hv⟩ := y
    exact hs i v σ H ad (hv xs q) p hn
  · have e : i = xs.length := by omega
    subst e
    exact .inl ⟨⟨xs, q, Nat.le_refl _⟩, hd σ H p⟩
theorem DpAll.of_get {K : PySem.W.Frag} {H : Hp} : ∀ {vs : List V} {ds : List PyData}, vs.length = ds.length → (∀ (j : Nat) v d, vs[j]? = some v → ds[j]? = some d → Dp K H v d) → DpAll K H vs ds
  | [], [], _, _ => .nil
  | [], _ :: _, e, _ => by simp at e
  | _ :: _, [], e, _ => by simp at e
  | v :: vs, d :: ds, e, h => .cons (h 0 v d rfl rfl) (DpAll.of_get (by simpa using e) fun j v' d' h1 h2 => h (j + 1) v' d' (by simpa using h1) (by simpa using h2))
theorem cutV_take {xs : List V} {i : Nat} (h : i ≤ xs.length) : cutV xs none (some (i : Int)) = xs.take i := by
  unfold cutV HT.sIx
  simp only [Int.toNat_natCast]
  rw [if_neg (by omega), List.drop_zero, Nat.sub_zero, Nat.min_eq_left h]
end L2
namespace My
open PySem PySem.Spec PyProof.Rows L2 MA
abbrev Row2 := (Str × Str) × Rat
def rows2 (m : M) : List Row2 := (lv m "").zip (m.sh 1)
def row2D (p : Row2) : PyData := .tuple [leafD p.1, fD p.2]
def flat (p : Row2) : Str × Str × Rat := (p.1.1, p.1.2, p.2)
theorem sh3_zip : ∀ (m : M) (w : Str) (x : Rat), sh3 m w x = ((lv m w).zip (m.sh x)).map flat
  | .wt _, _, _ => rfl
  | .rod l r a b, w, x => by
    show sh3 a _ _ ++ sh3 b _ _ = ((lv a _ ++ lv b _).zip (a.sh _ ++ b.sh _)).map flat
    rw [List.zip_append (by rw [lv_len, Mob.sh_len]), List.map_append, ← sh3_zip a, ← sh3_zip b]
theorem rows2_flat (m : M) : (rows2 m).map flat = sh3 m "" 1 := (sh3_zip m "" 1).symm
theorem rows2_len (m : M) : (rows2 m).length = m.names.length := by
  have := congrArg List.length (rows2_flat m)
  rw [List.length_map, sh3_len] at this
  exact this
theorem lv_ok : ∀ (m : M) (w : Str), PyData.strOk w = true → (∀ x ∈ m.names, NameOk x) → ∀ p ∈ lv m w, PyData.strOk p.1 = true ∧ PyData.strOk p.2 = true
  | .wt n, w, hw, hn, p, hp => by
    have : p = (w, n) := by simpa [lv] using hp
    subst this
    refine ⟨hw, ?_⟩
    have := (hn n (by simp [Mob.names])).az
    show n.cps.all (· < 0x110000) = true
    rw [Array.all_eq_true_iff_forall_mem]
    intro c hc
    have := this c (Array.mem_toList_iff.mpr hc)
    exact decide_eq_true (by omega)
  | .rod _ _ a b, w, hw, hn, p, hp => by
    have app : ∀ y : Str, PyData.strOk y = true → PyData.strOk (w ++ y) = true := fun y hy => by
      show (w.cps ++ y.cps).all (· < 0x110000) = true
      rw [Array.all_append]
      rw [Bool.and_eq_true]
      exact ⟨hw, hy⟩
    rcases List.mem_append.mp (show p ∈ lv a _ ++ lv b _ from hp) with h | h
    · exact lv_ok a _ (app _ (by decide +kernel)) (fun x hx => hn x (List.mem_append_left _ hx)) p h
    · exact lv_ok b _ (app _ (by decide +kernel)) (fun x hx => hn x (List.mem_append_right _ hx)) p h
theorem rows2_ok {m : M} (h : ∀ x ∈ m.names, NameOk x) : ∀ p ∈ rows2 m, PyData.strOk p.1.1 = true ∧ PyData.strOk p.1.2 = true := fun p hp =>
  lv_ok m "" (by decide +kernel) h p.1 (List.of_mem_zip hp).1
section
variable {K : PySem.W.Frag} {H : Hp} {v : V}
theorem row2I {p : Row2} (h : Dp K H v (row2D p)) : ∃ a b sv, v = .ref a ∧ SqT K H a [.ref b, sv] ∧ SqT K H b [.str p.1.1, .str p.1.2] ∧ Dp K H sv (fD p.2) := by
  obtain ⟨a, xs, rfl, hq, hs⟩ := Dp.tupI (show Dp K H v (.tuple [leafD p.1, fD p.2]) from h)
  obtain ⟨x0, r0, rfl, h0, hs⟩ := hs.consI
  obtain ⟨x1, r1, rfl, h1, hs⟩ := hs.consI
  have e := hs.nilI
  subst e
  obtain ⟨b, rfl, hb⟩ := leafI h0
  exact ⟨a, b, x1, rfl, hq, hb, h1⟩
end
theorem one_one : (((1 : Int) : Rat) / ((1 : Int) : Rat)) = 1 := by decide +kernel
theorem rows_zip {K : PySem.W.Frag} {H1 H2 H3 : Hp} {m : M} {ys1 ys2 ps : List V} (g2 : Same H1 H2) (g3 : Same H2 H3) (d1 : DpAll K H1 ys1 ((lv m "").map leafD)) (d2 : DpAll K H2 ys2 ((m.sh 1).map fD)) (hlen : ps.length = min ys1.length ys2.length)
    (hps : ∀ (j : Nat) p, ps[j]? = some p → ∃ t x y, p = .ref t ∧ ys1[j]? = some x ∧ ys2[j]? = some y ∧ H3 t = some (.tup [x, y])) : DpAll K H3 ps ((rows2 m).map row2D) := by
  have l1 := d1.len
  have l2 := d2.len
  rw [List.length_map, lv_len] at l1
  rw [List.length_map, Mob.sh_len] at l2
  refine DpAll.of_get (by rw [hlen, List.length_map, rows2_len, l1, l2, Nat.min_self]) fun j p d hp hd => ?_
  obtain ⟨t, x, y, rfl, hx, hy, ht⟩ := hps j p hp
  rw [List.getElem?_map] at hd
  cases e : (rows2 m)[j]? with
  | none => rw [e] at hd; cases hd
  | some row =>
    rw [e] at hd
    cases hd
    have ez := List.getElem?_zip_eq_some.mp e
    obtain ⟨dx, hdx, hX⟩ := d1.get hx
    obtain ⟨dy, hdy, hY⟩ := d2.get hy
    rw [List.getElem?_map, ez.1] at hdx
    rw [List.getElem?_map, ez.2] at hdy
    cases hdx
    cases hdy
    exact .tup (SqT.of ht) (.cons (Dp.same (g2.trans g3) _ _ hX) (.cons (Dp.same g3 _ _ hY) .nil))
end My
namespace My
open PySem PySem.Spec PyProof.Rows L2 MA
def selD (p : Row2) : PyData := .tuple [.str p.1.1, fD p.2]
theorem selD_noL (p : Row2) : noL (selD p) = true := by simp [selD, noL, noLs, fD_noL]
theorem selDs_noL : ∀ ps : List Row2, noLs (ps.map selD) = true
  | [] => by simp [noLs]
  | p :: r => by simp [noLs, selD_noL p, selDs_noL r]
theorem selDs_lay : ∀ ps : List Row2, (∀ p ∈ ps, PyData.strOk p.1.1 = true) → PyData.canLayAll0 (ps.map selD) = true
  | [], _ => by simp [PyData.canLayAll0]
  | p :: r, h => by
    have h1 := h p (by simp)
    have h2 := selDs_lay r fun q hq => h q (List.mem_cons_of_mem _ hq)
    have h3 : (selD p).canLay0 = true := by simp [selD, PyData.canLay0, PyData.canLayAll0, h1, fD_lay]
    simp [PyData.canLayAll0, h2, h3]
theorem selI {K : PySem.W.Frag} {H : Hp} {v : V} {p : Row2} (h : Dp K H v (selD p)) : ∃ a sv, v = .ref a ∧ SqT K H a [.str p.1.1, sv] ∧ Dp K H sv (fD p.2) := by
  obtain ⟨a, xs, rfl, hq, hs⟩ := Dp.tupI (show Dp K H v (.tuple [.str p.1.1, fD p.2]) from h)
  obtain ⟨x0, r0, rfl, h0, hs⟩ := hs.consI
  obtain ⟨x1, r1, rfl, h1, hs⟩ := hs.consI
  have e := hs.nilI
  subst e
  have e0 := h0.strI
  subst e0
  exact ⟨a, x1, rfl, hq, h1⟩
section
variable {W N S : Type} [DecidableEq N] [DecidableEq S] {pre r : List (W × N × S)} {w0 : W} {n : N} {s : S} {p : W × N × S}
theorem barM_none (h : pre.find? (fun p => decide (p.2.1 = n)) = none) : barM pre ((w0, n, s) :: r) = barM (pre ++ [(w0, n, s)]) r := by
  conv => lhs; unfold barM
  rw [h]
theorem barM_same (h : pre.find? (fun p => decide (p.2.1 = n)) = some p) (e : p.2.2 = s) : barM pre ((w0, n, s) :: r) = barM (pre ++ [(w0, n, s)]) r := by
  conv => lhs; unfold barM
  rw [h]
  exact if_pos e
theorem barM_diff (h : pre.find? (fun p => decide (p.2.1 = n)) = some p) (e : ¬ p.2.2 = s) : barM pre ((w0, n, s) :: r) = some (p.1, w0) := by
  conv => lhs; unfold barM
  rw [h]
  exact if_neg e
end
theorem find_flat (ps : List Row2) (nm : Str) : (ps.map flat).find? (fun p => decide (p.2.1 = nm)) = ((ps.filter fun p => decide (p.1.2 = nm)).head?).map flat := by
  rw [List.head?_filter, List.find?_map]
  rfl
section
variable {P : Program} {w : World} {K : PySem.W.Frag} {mg : Str → Option Value} {base : Heap}
theorem f_lbar (T : TopD K mg "_law_bar" s__law_bar p__law_bar) (b_list : mg "list" = none) (b_zip : mg "zip" = none) (b_enumerate : mg "enumerate" = none) (F__law_leaves : Fn P w K mg base 6 "_law_leaves" p__law_leaves (spLeaves K 6)) (F__law_shares : Fn P w K mg base 7 "_law_shares" p__law_shares (spLSh K 6)) :
    Fn P w K mg base 8 "_law_bar" p__law_bar (spBar K) := by
  refine T.fn sc__law_bar (fun vs H Q E h => ?_) (fun f cdv A outer s H vs Q E hr h => ?_)
  · obtain ⟨v, m, rfl, _⟩ := h
    rfl
  obtain ⟨v, m, rfl, hD, hg, q⟩ := h
  have nd := sc__law_bar.nd
  have ndc1 : ((["_law_more", "_law_other", "_law_label"] : List Str) ++ (["_law_name"] : List Str)).Nodup := by decide +kernel
  refine ⟨_, (pss_cons (ps_set (i := 1) nd rfl (by first | exact Or.inl rfl | exact Or.inr rfl) (pe_listzip rfl b_list boot_list rfl b_zip boot_zip rfl (pa_cons (pe_callF F__law_leaves (hr.mono (by omega)) (pa_cons (pv 0) (pa_cons pe_str pa_nil))) (pa_cons (pe_callF F__law_shares (hr.mono (by omega)) (pa_cons (pv 0) (pa_cons pe_int (pa_cons pe_int pa_nil)))) pa_nil))))
    (pss_cons (ps_for PassesOwn.never rfl (pi_enum rfl b_enumerate (pa_cons (pv 1) pa_nil) boot_enumerate) (pg_tup rfl (pgs_cons (pg_name (i := 2) nd rfl (by first | exact Or.inl rfl | exact Or.inr rfl)) (pgs_cons (pg_tup rfl (pgs_cons (pg_tup rfl (pgs_cons (pg_name (i := 3) nd rfl (by first | exact Or.inl rfl | exact Or.inr rfl)) (pgs_cons (pg_name (i := 4) nd rfl (by first | exact Or.inl rfl | exact Or.inr rfl)) pgs_nil))) (pgs_cons (pg_name (i := 5) nd rfl (by first | exact Or.inl rfl | exact Or.inr rfl)) pgs_nil))) pgs_nil))) (pss_cons (ps_comp (i := 6) nd rfl (by first | exact Or.inl rfl | exact Or.inr rfl) (own := ["_law_more", "_law_other", "_law_label"]) (frees := ["_law_name"]) (ix := [4]) (pi_list (pe_slice sl_list (pv 1) po_none (po_some (pv 2)))) (fun c => (pg_tup rfl (pgs_cons (pg_tup rfl (pgs_cons (pg_name (i := 1) ndc1 rfl (by first | exact Or.inl rfl | exact Or.inr rfl)) (pgs_cons (pg_name (i := 2) ndc1 rfl (by first | exact Or.inl rfl | exact Or.inr rfl)) pgs_nil))) (pgs_cons (pg_name (i := 0) ndc1 rfl (by first | exact Or.inl rfl | exact Or.inr rfl)) pgs_nil)))) (fun c => (PIf.one (pt_cmpR op_eq (pv 2) (pv 3) (nomark _)))) (fun c => (pe_tup (pa_cons (pv 1) (pa_cons (pv 0) pa_nil)))))
    (pss_one (ps_if (PW.pt (pw_and (pt_cmpR (op_neD (hu64 hr)) (pv 6) (pe_lst pa_nil) (nomark _)) (pw_and1 (pt_cmpR (op_neD (hu64 hr)) (pe_ix ix_tup (pe_ix ix_list (pv 6) pe_int (fun _ _ => rfl)) pe_int (fun _ _ => rfl)) (pv 5) (nomark _))))) (pss_one (ps_ret (pe_tup (pa_cons (pe_ix ix_tup (pe_ix ix_list (pv 6) pe_int (fun _ _ => rfl)) pe_int (fun _ _ => rfl)) (pa_cons (pv 3) pa_nil))))) pss_nil))))
    (pss_one (ps_ret pe_non)))), ?_⟩
  have e0 : ("" : Str).length = 0 := by decide +kernel
  refine ⟨_, rfl, v, m, "", rfl, hD, Nat.lt_succ_of_le hg.deep, hg.deep, by rw [e0]; have := hg.deep; omega, fun l1 ys1 H1 g1 n1 e1 d1 => ?_⟩
  refine ⟨_, rfl, v, m, 1, 1, rfl, Dp.same g1 _ _ hD, Nat.lt_succ_of_le hg.deep, hg.deep, hg.arms, by decide, by decide, pow18_5 hg.deep, fun l2 ys2 H2 g2 n2 e2 d2 => ?_⟩
  rw [one_one] at d2
  refine ⟨l1, l2, ys1, ys2, rfl, SqL.of (g2 _ _ e1), SqL.of e2, fun l H3 ps g3 hl el hlen hps => ?_⟩
  have dp := rows_zip g2 g3 d1 d2 hlen hps
  have gH : Same H H3 := g1.trans (g2.trans g3)
  have hpl : ps.length = (rows2 m).length := by rw [dp.len, List.length_map]
  have hp32 : ps.length ≤ 32 := by rw [hpl, rows2_len]; exact names_small hg.deep
  refine ⟨_, rfl, l, ps, rfl, SqL.of el, ?_⟩
  refine for_enum (xs := ps) (fun i σ H4 => ∃ (o2 o3 o4 o5 o6 : Option V), σ = [some v, some (.ref l), o2, o3, o4, o5, o6] ∧ Same H3 H4 ∧ barM (((rows2 m).take i).map flat) (((rows2 m).drop i).map flat) = barM [] (sh3 m "" 1)) ?_ ?_ ?_ ?_
  · exact ⟨none, none, none, none, none, rfl, Same.refl _, by rw [List.take_zero, List.drop_zero, rows2_flat]; rfl⟩
  · rintro i σ H4 _ ⟨o2, o3, o4, o5, o6, rfl, g4, _⟩
    exact SqL.of (g4 _ _ el)
  · rintro i y σ H4 p hy ⟨o2, o3, o4, o5, o6, rfl, g4, hbm⟩ hp
    have s5 := Same.new hp (.tup [.int (i : Nat), y])
    have g5 := g4.trans s5
    obtain ⟨dy, hdy, hDy⟩ := dp.get hy
    rw [List.getElem?_map] at hdy
    obtain ⟨row, hrow, rfl⟩ : ∃ row, (rows2 m)[i]? = some row ∧ dy = row2D row := by
      cases e : (rows2 m)[i]? with
      | none => rw [e] at hdy; cases hdy
      | some r => rw [e] at hdy; cases hdy; exact ⟨r, rfl, rfl⟩
    obtain ⟨a, b, sv, rfl, ha, hb, hsv⟩ := row2I (Dp.same g5 _ _ hDy)
    obtain ⟨⟨rw0, rn0⟩, rs0⟩ := row
    have hi : i < (rows2 m).length := (List.getElem?_eq_some_iff.mp hrow).1
    have hdrop : (rows2 m).drop i = ((rw0, rn0), rs0) :: (rows2 m).drop (i + 1) := by
      rw [List.drop_eq_getElem_cons hi]
      congr 1
      exact (List.getElem?_eq_some_iff.mp hrow).2
    have htake : (rows2 m).take (i + 1) = (rows2 m).take i ++ [((rw0, rn0), rs0)] := by
      rw [List.take_succ, hrow]
      rfl
    refine ⟨p, _, rfl, SqT.of upd_same, rfl, _, _, rfl, _, _, rfl, ⟨a, _, rfl, ha, rfl, _, _, rfl, ⟨b, _, rfl, hb, rfl, _, _, rfl, _, _, rfl, rfl, ?_⟩⟩⟩
    refine ⟨_, _, rfl, rfl, rfl, ?_⟩
    refine ⟨_, rfl, _, rfl, _, rfl, l, ps, rfl, SqL.of (g5 _ _ el), fun sl hsl => ?_⟩
    rw [cutV_take (by omega)]
    have s6 := Same.new hsl (.lst (ps.take i))
    have g6 := g5.trans s6
    refine ⟨sl, rfl, ⟨_, SqL.of upd_same⟩, fun cp acc hacc => ?_⟩
    have htl : (ps.take i).length = i := by rw [List.length_take]; omega
    refine comp_list (xs := ps.take i) (fun j ys H7 => DpAll K H7 ys ((((rows2 m).take j).filter fun p => decide (p.1.2 = rn0)).map selD) ∧ H7 acc = some (.lst ys) ∧ ys.length ≤ j ∧ Same (upd (upd H4 p (.tup [.int (i : Nat), .ref a])) sl (.lst (ps.take i))) H7) ?_ ?_ ?_ ?_ ?_
    · exact ⟨.nil, upd_same, Nat.le_refl _, Same.new hacc _⟩
    · rintro j ys H7 _ ⟨_, h, _⟩
      exact h
    · rintro j ys H7 _ ⟨_, _, _, g7⟩
      exact SqL.of (g7 _ _ upd_same)
    · rintro j ys H7 x hx ⟨d7, ha7, hy7, g7⟩
      have hji : j < i := by
        have := (List.getElem?_eq_some_iff.mp hx).1
        omega
      rw [List.getElem?_take_of_lt hji] at hx
      obtain ⟨dx, hdx, hDx⟩ := dp.get hx
      rw [List.getElem?_map] at hdx
      obtain ⟨rj, hrj, rfl⟩ : ∃ rj, (rows2 m)[j]? = some rj ∧ dx = row2D rj := by
        cases e : (rows2 m)[j]? with
        | none => rw [e] at hdx; cases hdx
        | some r => rw [e] at hdx; cases hdx; exact ⟨r, rfl, rfl⟩
      obtain ⟨a', b', sv', rfl, ha', hb', hsv'⟩ := row2I (Dp.same (g6.trans g7) _ _ hDx)
      obtain ⟨⟨rwj, rnj⟩, rsj⟩ := rj
      have htj : (rows2 m).take (j + 1) = (rows2 m).take j ++ [((rwj, rnj), rsj)] := by
        rw [List.take_succ, hrj]
        rfl
      refine ⟨a', _, rfl, ha', rfl, _, _, rfl, ⟨b', _, rfl, hb', rfl, _, _, rfl, _, _, rfl, rfl, ?_⟩⟩
      refine ⟨_, _, rfl, rfl, .own (.own (.own (.keep .nil))), ?_⟩
      refine ⟨_, rfl, _, rfl, rfl, _, rfl, ?_⟩
      by_cases hnm : rnj = rn0
      · refine (if_pos (decide_eq_true (by rw [hnm]))).mpr ?_
        refine ⟨_, rfl, _, rfl, (by show 2 ≤ sizeLine; decide), fun t ht => ?_⟩
        have s8 := Same.new ht (.tup [.str rwj, sv'])
        have ha8 := s8 _ _ ha7
        refine ⟨ha8, small1000 (by omega), ?_, upd_same, by rw [List.length_append, List.length_singleton]; omega, fun b o e => ?_⟩
        · rw [htj, List.filter_append, List.map_append]
          have ef : ([((rwj, rnj), rsj)] : List Row2).filter (fun p => decide (p.1.2 = rn0)) = [((rwj, rnj), rsj)] := by
            rw [List.filter_cons, if_pos (by simpa using hnm)]
            rfl
          rw [ef]
          have d8 : DpAll K (upd H7 t (.tup [.str rwj, sv'])) (ys ++ [.ref t]) ((((rows2 m).take j).filter fun p => decide (p.1.2 = rn0)).map selD ++ ([((rwj, rnj), rsj)] : List Row2).map selD) :=
            (DpAll.same s8 _ _ d7).app (.cons (.tup (SqT.of upd_same) (.cons (.str _) (.cons (Dp.same s8 _ _ hsv') .nil))) .nil)
          rw [← List.map_append] at d8 ⊢
          exact DpAll.but But.upd ha8 _ _ (selDs_noL _) d8
        · rw [upd_ne (ne_of_none e hacc)]
          exact s8 _ _ (g7 b o e)
      · refine (if_neg (fun z => hnm ?_)).mpr ?_
        · have z' : V.str rnj = V.str rn0 := of_decide_eq_true z
          injection z'
        · refine ⟨?_, ha7, by omega, g7⟩
          rw [htj, List.filter_append]
          have ef : ([((rwj, rnj), rsj)] : List Row2).filter (fun p => decide (p.1.2 = rn0)) = [] := by
            rw [List.filter_cons, if_neg (by simpa using hnm)]
            rfl
          rw [ef, List.append_nil]
          exact d7
    · rintro ys H7 ⟨d7, ha7, hy7, g7⟩
      rw [htl] at d7 hy7
      have g8 := g6.trans g7
      have hsv7 := Dp.same (s6.trans g7) _ _ hsv
      have hfind := find_flat ((rows2 m).take i) rn0
      refine ⟨_, rfl, sz0, fun e8 he8 => ?_⟩
      have s9 := Same.new he8 (.lst [])
      have hok : ∀ p ∈ ((rows2 m).take i).filter (fun p => decide (p.1.2 = rn0)), PyData.strOk p.1.1 = true := fun p hp => (rows2_ok hg.names p (List.mem_of_mem_take (List.mem_filter.mp hp).1)).1
      refine ⟨.list _, .list [], .lst (SqL.of (s9 _ _ ha7)) (DpAll.same s9 _ _ d7), .lst (SqL.of upd_same) .nil, by simpa [PyData.canLay0] using selDs_lay _ hok, by simp [PyData.canLay0, PyData.canLayAll0], by simp [PyData.depth, PyData.depthAll], _, rfl, ?_⟩
      cases hfl : ((rows2 m).take i).filter (fun p => decide (p.1.2 = rn0)) with
      | nil =>
        rw [hfl] at hfind
        refine (if_neg (by simp [PyData.eqv, PyData.eqvAll])).mpr ?_
        refine iteF ?_
        refine ⟨_, _, _, _, _, rfl, g8.trans s9, ?_⟩
        have hfn : (((rows2 m).take i).map flat).find? (fun p => decide (p.2.1 = rn0)) = none := hfind
        rw [htake, ← hbm, hdrop, List.map_append]
        exact (barM_none hfn).symm
      | cons r0 rr =>
        rw [hfl] at hfind d7
        have hfn : (((rows2 m).take i).map flat).find? (fun p => decide (p.2.1 = rn0)) = some (flat r0) := hfind
        obtain ⟨v0, rv, rfl, hv0, _⟩ := DpAll.consI (show DpAll K H7 ys (selD r0 :: rr.map selD) from d7)
        obtain ⟨t0, sv0, rfl, ht0, hs0⟩ := selI (Dp.same s9 _ _ hv0)
        refine (if_pos (by simp [PyData.eqv, PyData.eqvAll])).mpr ?_
        refine ⟨_, rfl, acc, _, _, _, rfl, rfl, SqL.of (s9 _ _ ha7), atI_nat (j := 0) rfl, t0, _, _, _, rfl, rfl, ht0, atI_nat (j := 1) rfl, _, rfl, fD r0.2, fD rs0, hs0, Dp.same s9 _ _ hsv7, fD_lay _, fD_lay _, by rw [fD_depth, fD_depth]; decide, _, rfl, ?_⟩
        rw [fD_eqv]
        by_cases hps : r0.2 = rs0
        · rw [decide_eq_true hps]
          refine iteF ?_
          refine ⟨_, _, _, _, _, rfl, g8.trans s9, ?_⟩
          rw [htake, ← hbm, hdrop, List.map_append]
          exact (barM_same hfn hps).symm
        · rw [decide_eq_false hps]
          refine iteT ?_
          refine ⟨_, rfl, acc, _, _, _, rfl, rfl, SqL.of (s9 _ _ ha7), atI_nat (j := 0) rfl, t0, _, _, _, rfl, rfl, ht0, atI_nat (j := 0) rfl, _, rfl, (by show 2 ≤ sizeLine; decide), fun r hr' => ?_⟩
          have s10 := Same.new hr' (.tup [.str r0.1.1, .str rw0])
          refine q (.ref r) _ (gH.trans (g8.trans (s9.trans s10))) ?_
          have hb : barM [] (sh3 m "" 1) = some (r0.1.1, rw0) := by
            rw [← hbm, hdrop]
            exact barM_diff hfn hps
          rw [hb]
          exact .tup (SqT.of upd_same) (.cons (.str _) (.cons (.str _) .nil))
  · rintro σ H4 ⟨o2, o3, o4, o5, o6, rfl, g4, hbm⟩
    refine q .non H4 (gH.trans g4) ?_
    rw [← hbm, hpl, List.drop_length]
    exact .non
end
end My
namespace My
open PySem PySem.Spec PyProof.Rows L2 MA
theorem eqv_self {d : PyData} (h : noB d = true) : PyData.eqv d d = true := (eqv_iff d d h h).mpr rfl
end My
namespace My
open PySem PySem.Spec PyProof.Rows L2 MA
theorem bot_snoc : ∀ (xs : List Rat) (x : Rat) (b : Int), bot (xs ++ [x]) b = bot xs b * (rf x).2 / (Int.gcd (bot xs b) (rf x).2 : Int)
  | [], x, b => rfl
  | y :: r, x, b => by
    show bot (r ++ [x]) _ = _
    rw [bot_snoc r x]
    rfl
theorem gcds_snoc : ∀ (ns : List Int) (n d : Int), gcds (ns ++ [n]) d = (Int.gcd (gcds ns d) n : Int)
  | [], n, d => rfl
  | m :: r, n, d => by
    show gcds (r ++ [n]) _ = _
    rw [gcds_snoc r n]
    rfl
structure FOk (x : Rat) : Prop where
  pos : 0 < x
  num : (rf x).1 ≤ 2000000
  den : (rf x).2 ≤ 2000000
theorem pow_monoN {c a b : Nat} (hc : 0 < c) (h : a ≤ b) : (c : Int) ^ a ≤ (c : Int) ^ b := by
  rw [← Int.natCast_pow, ← Int.natCast_pow]
  exact Int.ofNat_le.mpr (Nat.pow_le_pow_right hc h)
theorem pow_mono {a b : Nat} (h : a ≤ b) : (2000000 : Int) ^ a ≤ 2000000 ^ b := pow_monoN (c := 2000000) (by decide) h
theorem nat_leN {n : Int} {c k : Nat} (h0 : 0 < n) (h : n ≤ (c : Int) ^ k) : n.natAbs ≤ c ^ k := by
  have : (n.natAbs : Int) ≤ (c : Int) ^ k := by omega
  rw [← Int.natCast_pow] at this
  exact Int.ofNat_le.mp this
theorem nat_le {n : Int} {k : Nat} (h0 : 0 < n) (h : n ≤ 2000000 ^ k) : n.natAbs ≤ 2000000 ^ k := nat_leN (c := 2000000) h0 h
theorem bot_small {xs : List Rat} (h : ∀ x ∈ xs, FOk x) (hl : xs.length ≤ 32) : bot xs 1 ≤ 2000000 ^ 32 := by
  have := bot_le 2000000 (by decide) xs 1 (by decide) fun x hx => (h x hx).den
  rw [Int.one_mul] at this
  exact Int.le_trans this (pow_mono hl)
theorem up_small {xs : List Rat} (h : ∀ x ∈ xs, FOk x) (hl : xs.length ≤ 32) {n : Int} (hn : n ∈ ups xs) : 0 < n ∧ n ≤ 2000000 ^ 33 := by
  obtain ⟨x, hx, rfl⟩ := List.mem_map.mp hn
  have f := h x hx
  refine ⟨ups_pos hx f.pos, ?_⟩
  have hb := bot_small h hl
  obtain ⟨b1, _, _⟩ := bot_spec xs 1 (by decide)
  have h1 : bot xs 1 / (rf x).2 ≤ bot xs 1 := Int.ediv_le_self _ (Int.le_of_lt b1)
  have h0 : 0 ≤ bot xs 1 / (rf x).2 := Int.ediv_nonneg (Int.le_of_lt b1) (Int.le_of_lt (rf_pos x))
  have n0 := num_pos f.pos
  rw [show (33 : Nat) = 32 + 1 from rfl, Int.pow_succ, Int.mul_comm _ (2000000 : Int)]
  exact Int.mul_le_mul f.num (Int.le_trans h1 hb) h0 (by decide)
theorem log_big {n : Int} (h0 : 0 < n) (h : n ≤ 2000000 ^ 33) : n.natAbs.log2 < 9000 :=
  log_small (Nat.lt_of_le_of_lt (nat_le h0 h) (by decide +kernel))
theorem small_big {n : Int} (h : n ≤ 2000000) : n ≤ 2000000 ^ 33 := Int.le_trans h (by decide +kernel)
section
variable {P : Program} {w : World} {K : PySem.W.Frag} {mg : Str → Option Value} {base : Heap}
def spLW (K : PySem.W.Frag) : Sp := fun vs H Q _ => ∃ (l : Addr) (vx : List V) (xs : List Rat), vs = [.ref l] ∧ SqL K H l vx ∧ DpAll K H vx (xs.map fD) ∧ xs.length ≤ 32 ∧ (∀ x ∈ xs, FOk x) ∧ xs ≠ [] ∧
  ∀ (l' : Addr) H', Same H H' → H l' = none → H' l' = some (.lst ((lw xs).map V.int)) → Q (.ref l') H'
theorem f_lw (T : TopD K mg "least_whole" s_least_whole p_least_whole) (F_greatest_divisor : Fn P w K mg base 1 "greatest_divisor" p_greatest_divisor (spGcd K)) : Fn P w K mg base 2 "least_whole" p_least_whole (spLW K) := by
  refine T.fn sc_least_whole (fun vs H Q E h => ?_) (fun f cdv A outer s H vs Q E hr h => ?_)
  · obtain ⟨l, vx, xs, rfl, _⟩ := h
    rfl
  obtain ⟨l, vx, xs, rfl, hq, hD, hl, hok, hne, q⟩ := h
  have nd := sc_least_whole.nd
  have ndc1 : ((["number"] : List Str) ++ (["divisor"] : List Str)).Nodup := by decide +kernel
  have ndc2 : ((["fraction"] : List Str) ++ (["bottom"] : List Str)).Nodup := by decide +kernel
  have hvl : vx.length = xs.length := by rw [hD.len, List.length_map]
  obtain ⟨b0, _, b3⟩ := bot_spec xs 1 (by decide)
  have item : ∀ {i : Nat} {v : V}, vx[i]? = some v → ∃ (x : Rat) (p : Addr), xs[i]? = some x ∧ v = .ref p ∧ SqT K H p [.int (rf x).1, .int (rf x).2] ∧ FOk x := fun {i v} hv => by
    obtain ⟨d, hd, hvd⟩ := L2.DpAll.get hD hv
    rw [List.getElem?_map] at hd
    cases e : xs[i]? with
    | none => rw [e] at hd; cases hd
    | some x =>
      rw [e] at hd
      cases hd
      obtain ⟨p, rfl, hp⟩ := fDI hvd
      exact ⟨x, p, rfl, rfl, hp, hok x (List.mem_of_getElem? e)⟩
  refine ⟨_, (pss_cons (ps_set (i := 1) nd rfl (by first | exact Or.inl rfl | exact Or.inr rfl) pe_int)
    (pss_cons (ps_for PassesOwn.never rfl (pi_list (pv 0)) (pg_name (i := 2) nd rfl (by first | exact Or.inl rfl | exact Or.inr rfl)) (pss_one (ps_set (i := 1) nd rfl (by first | exact Or.inl rfl | exact Or.inr rfl) (pe_op op_fdivL (pe_op op_mul (pv 1) (pe_ix ix_tup (pv 2) pe_int (fun _ _ => rfl))) (pe_callF F_greatest_divisor (hr.mono (by omega)) (pa_cons (pv 1) (pa_cons (pe_ix ix_tup (pv 2) pe_int (fun _ _ => rfl)) pa_nil)))))))
    (pss_cons (ps_comp (i := 3) nd rfl (by first | exact Or.inl rfl | exact Or.inr rfl) (own := ["fraction"]) (frees := ["bottom"]) (ix := [1]) (pi_list (pv 0)) (fun c => (pg_name (i := 0) ndc2 rfl (by first | exact Or.inl rfl | exact Or.inr rfl))) (fun c => PIf.nil) (fun c => (pe_op op_mul (pe_ix ix_tup (pv 0) pe_int (fun _ _ => rfl)) (pe_op op_fdivL (pv 1) (pe_ix ix_tup (pv 0) pe_int (fun _ _ => rfl))))))
    (pss_cons (ps_set (i := 4) nd rfl (by first | exact Or.inl rfl | exact Or.inr rfl) pe_int)
    (pss_cons (ps_for PassesOwn.never rfl (pi_list (pv 3)) (pg_name (i := 5) nd rfl (by first | exact Or.inl rfl | exact Or.inr rfl)) (pss_one (ps_set (i := 4) nd rfl (by first | exact Or.inl rfl | exact Or.inr rfl) (pe_callF F_greatest_divisor (hr.mono (by omega)) (pa_cons (pv 4) (pa_cons (pv 5) pa_nil))))))
    (pss_one (ps_ret (pe_comp (own := ["number"]) (frees := ["divisor"]) (ix := [4]) (pi_list (pv 3)) (fun c => (pg_name (i := 0) ndc1 rfl (by first | exact Or.inl rfl | exact Or.inr rfl))) (fun c => PIf.nil) (fun c => (pe_op op_fdivL (pv 0) (pv 1))))))))))), ?_⟩
  refine ⟨_, rfl, l, rfl, ⟨vx, hq⟩, ?_⟩
  refine for_list (xs := vx) (fun i σ H1 => ∃ (o2 : Option V), σ = [some (.ref l), some (.int (bot (xs.take i) 1)), o2, none, none, none] ∧ H1 = H) ?_ ?_ ?_ ?_
  · exact ⟨none, rfl, rfl⟩
  · rintro i σ H1 _ ⟨o2, rfl, rfl⟩
    exact hq
  · rintro i v σ H1 hv ⟨o2, rfl, rfl⟩
    obtain ⟨x, p, hx, rfl, hp, fo⟩ := item hv
    have x1 := num_pos fo.pos
    have x2 := rf_pos x
    have x3 := fo.den
    obtain ⟨c0, _, _⟩ := bot_spec (xs.take i) 1 (by decide)
    obtain ⟨g1, g2⟩ := gcd_bounds (a := bot (xs.take i) 1) x2
    refine ⟨_, rfl, _, rfl, p, _, _, _, rfl, rfl, hp, atI_nat (j := 1) rfl, _, _, rfl, rfl, .inr ⟨by omega, by omega⟩, ?_⟩
    refine ⟨_, rfl, _, rfl, p, _, _, _, rfl, rfl, hp, atI_nat (j := 1) rfl, _, _, rfl, Int.le_of_lt c0, Int.le_of_lt x2, _, _, rfl, rfl, ⟨g1, log_big g1 (small_big (by omega))⟩, ?_⟩
    refine ⟨some (.ref p), ?_, rfl⟩
    rw [List.take_add_one, hx]
    show _ = ([some (.ref l), some (.int (bot (xs.take i ++ [x]) 1)), _, _, _, _] : List (Option V))
    rw [bot_snoc]
    rfl
  rintro σ H1 ⟨o2, rfl, rfl⟩
  rw [hvl, List.take_length]
  refine ⟨_, rfl, l, rfl, ⟨vx, hq⟩, fun c acc hacc => ?_⟩
  refine comp_list (xs := vx) (fun i ys H2 => ys = ((xs.take i).map (fun x => (rf x).1 * (bot xs 1 / (rf x).2))).map V.int ∧ H2 acc = some (.lst ys) ∧ Same H1 H2) ?_ ?_ ?_ ?_ ?_
  · exact ⟨by simp, upd_same, Same.new hacc _⟩
  · rintro i ys H2 _ ⟨_, h, _⟩
    exact h
  · rintro i ys H2 _ ⟨_, _, g⟩
    exact hq.same g
  · rintro i ys H2 v hv ⟨hy, ha, g⟩
    obtain ⟨x, p, hx, rfl, hp, fo⟩ := item hv
    have x1 := num_pos fo.pos
    have x2 := rf_pos x
    have x3 := fo.den
    have x4 := fo.num
    have hp2 := hp.same g
    refine ⟨.own (.keep .nil), iteT ?_⟩
    refine ⟨_, rfl, p, _, _, _, rfl, rfl, hp2, atI_nat (j := 0) rfl, _, rfl, _, rfl, p, _, _, _, rfl, rfl, hp2, atI_nat (j := 1) rfl, _, _, rfl, rfl, ⟨x2, log_big x2 (small_big x3)⟩, _, _, rfl, rfl, .inl ⟨by omega, by omega⟩, ?_⟩
    refine ⟨ha, by rw [hy, List.length_map, List.length_map, List.length_take]; exact small1000 (by omega), ?_, upd_same, fun b o e => ?_⟩
    · rw [hy, List.take_add_one, hx]
      simp
    · rw [upd_ne (ne_of_none e hacc)]
      exact g b o e
  rintro ys H2 ⟨rfl, ha, g2⟩
  rw [hvl, List.take_length] at ha
  have ha : H2 acc = some (.lst ((ups xs).map V.int)) := ha
  have hul : (ups xs).length = xs.length := by simp [ups]
  refine ⟨_, rfl, acc, rfl, ⟨_, SqL.of ha⟩, ?_⟩
  refine for_list (xs := (ups xs).map V.int) (fun i σ H3 => ∃ (o5 : Option V), σ = [some (.ref l), some (.int (bot xs 1)), o2, some (.ref acc), some (.int (gcds ((ups xs).take i) 0)), o5] ∧ H3 = H2) ?_ ?_ ?_ ?_
  · exact ⟨none, rfl, rfl⟩
  · rintro i σ H3 _ ⟨o5, rfl, rfl⟩
    exact SqL.of ha
  · rintro i v σ H3 hv ⟨o5, rfl, rfl⟩
    rw [List.getElem?_map] at hv
    cases e : (ups xs)[i]? with
    | none => rw [e] at hv; cases hv
    | some n =>
      rw [e] at hv
      cases hv
      obtain ⟨u0, _⟩ := up_small hok hl (List.mem_of_getElem? e)
      obtain ⟨c0, _⟩ := gcds_spec ((ups xs).take i) 0 (Int.le_refl 0)
      refine ⟨_, rfl, _, rfl, _, _, rfl, c0, Int.le_of_lt u0, ?_⟩
      refine ⟨some (.int n), ?_, rfl⟩
      rw [List.take_add_one, e]
      show _ = ([_, _, _, _, some (.int (gcds ((ups xs).take i ++ [n]) 0)), _] : List (Option V))
      rw [gcds_snoc]
      rfl
  rintro σ H3 ⟨o5, rfl, rfl⟩
  rw [List.length_map, List.take_length]
  obtain ⟨n0, hn0⟩ : ∃ n, n ∈ ups xs := by
    cases e : ups xs with
    | nil =>
      rw [e] at hul
      exact absurd (List.length_eq_zero_iff.mp hul.symm) hne
    | cons n r => exact ⟨n, by simp⟩
  obtain ⟨u0, u1⟩ := up_small hok hl hn0
  obtain ⟨g0, g1⟩ := gcds_pos (Int.le_refl 0) hn0 u0
  refine ⟨_, rfl, acc, rfl, ⟨_, SqL.of ha⟩, fun c2 acc2 hacc2 => ?_⟩
  refine comp_list (xs := (ups xs).map V.int) (fun i ys H4 => ys = (((ups xs).take i).map (· / gcds (ups xs) 0)).map V.int ∧ H4 acc2 = some (.lst ys) ∧ Same H3 H4) ?_ ?_ ?_ ?_ ?_
  · exact ⟨by simp, upd_same, Same.new hacc2 _⟩
  · rintro i ys H4 _ ⟨_, h, _⟩
    exact h
  · rintro i ys H4 _ ⟨_, _, g⟩
    exact (SqL.of ha).same g
  · rintro i ys H4 v hv ⟨hy, ha4, g⟩
    rw [List.getElem?_map] at hv
    cases e : (ups xs)[i]? with
    | none => rw [e] at hv; cases hv
    | some n =>
      rw [e] at hv
      cases hv
      refine ⟨.own (.keep .nil), iteT ?_⟩
      refine ⟨_, rfl, _, rfl, _, _, rfl, rfl, ⟨g0, log_big g0 (Int.le_trans g1 u1)⟩, ?_⟩
      refine ⟨ha4, by rw [hy, List.length_map, List.length_map, List.length_take]; exact small1000 (by omega), ?_, upd_same, fun b o e => ?_⟩
      · rw [hy, List.take_add_one, e]
        simp
      · rw [upd_ne (ne_of_none e hacc2)]
        exact g b o e
  rintro ys H4 ⟨rfl, ha4, g4⟩
  rw [List.length_map, List.take_length] at ha4
  exact q acc2 H4 (g2.trans g4) (g2.free hacc2) ha4
end
end My
namespace My
open PySem PySem.Spec PyProof.Rows L2 MA
section
variable {K : PySem.W.Frag} {H H' H2 : Hp} {T : List Addr}
def pD (r : Str × Int) : PyData := .tuple [.str r.1, .int r.2]
structure ROk (r : Str × Int) : Prop where
  nm : NameOk r.1
  lo : 1 ≤ r.2
  hi : r.2 ≤ 999999
theorem pD_noL (r : Str × Int) : noL (pD r) = true := by simp [pD, noL, noLs]
theorem pDs_noL : ∀ rs : List (Str × Int), noLs (rs.map pD) = true
  | [] => by simp [noLs]
  | r :: rs => by simp [noLs, pD_noL r, pDs_noL rs]
def sm1 (p : PyData) : Prop := pSm p ∧ ∀ es, p = .tuple es → es.length ≤ 1000
theorem wSm_of {ds : List PyData} (h : ds.length < 64) (hp : ∀ p ∈ ds, sm1 p) : wSm (.tuple ds) := by
  intro ps e
  cases e
  exact ⟨h, hp⟩
theorem sm1_pD {r : Str × Int} (h : ROk r) : sm1 (pD r) := by
  refine ⟨fun a b e => ?_, fun es e => ?_⟩
  · unfold pD at e
    injection e with e
    injection e with e1 e2
    subst e1
    intro x ex
    injection ex with ex
    subst ex
    have := h.nm.hi
    omega
  · unfold pD at e
    injection e with e
    subst e
    simp
theorem pairB_pD {r : Str × Int} (h : ROk r) : pairB (pD r) = true := by
  have h1 : nameB (.str r.1) = true := nameB_ok.mpr h.nm
  have h2 : numB (.int r.2) 1 999999 = true := by simp [numB, h.lo, h.hi]
  simp [pairB, pD, h1, h2]
theorem nameOf_pD (rs : List (Str × Int)) : (rs.map pD).map nameOf = rs.map (·.1) := by
  rw [List.map_map]
  rfl
theorem wB_rows {rs : List (Str × Int)} (h : ∀ r ∈ rs, ROk r) (hp : (rs.map (·.1)).Pairwise strLt) : wB (.tuple (rs.map pD)) = true := by
  show ((rs.map pD).all pairB && decide (((rs.map pD).map nameOf).Pairwise strLt)) = true
  rw [nameOf_pD, Bool.and_eq_true]
  refine ⟨List.all_eq_true.mpr fun d hd => ?_, decide_eq_true hp⟩
  obtain ⟨r, hr, rfl⟩ := List.mem_map.mp hd
  exact pairB_pD (h r hr)
theorem ok_rows {rs : List (Str × Int)} {m : M} (h : ∀ r ∈ rs, ROk r) (hp : (rs.map (·.1)).Pairwise strLt) (hm : ∀ x ∈ m.names, x ∈ rs.map (·.1)) : okW (.tuple (rs.map pD)) m = true := by
  show (wB (.tuple (rs.map pD)) && _) = true
  rw [wB_rows h hp, Bool.true_and, List.all_eq_true]
  intro x hx
  show decide (x ∈ (rs.map pD).map nameOf) = true
  rw [nameOf_pD]
  exact decide_eq_true (hm x hx)
theorem DpAll.takeD {vs : List V} {ds : List PyData} (h : DpAll K H vs ds) : ∀ k, DpAll K H (vs.take k) (ds.take k) := by
  intro k
  induction k generalizing vs ds with
  | zero => simpa using DpAll.nil
  | succ k ih =>
    cases ds with
    | nil => cases h; simpa using DpAll.nil
    | cons d ds =>
      cases h with
      | cons h1 h2 => exact .cons h1 (ih h2)
theorem catA_use {a b : Addr} {xs ys : List V} {Q : VK} (ha : H a = some (.tup xs)) (hb : H b = some (.tup ys)) (hz : xs.length + ys.length ≤ sizeLine) (q : ∀ p H', Same H H' → H' p = some (.tup (xs ++ ys)) → Q (.ref p) H') : rCatA K (.ref a) (.ref b) H Q :=
  ⟨a, b, xs, ys, rfl, rfl, SqT.of ha, SqT.of hb, hz, fun e => q b H (Same.refl _) (by rw [e]; exact hb), fun _ e => q a H (Same.refl _) (by rw [e, List.append_nil]; exact ha), fun _ _ p hp => q p _ (Same.new hp _) upd_same⟩
end
theorem rise_nodup {xs : List Str} (h : xs.Pairwise strLt) : xs.Nodup := h.imp fun z e => by subst e; exact strLt_irrefl _ z
end My
namespace My
open PySem PySem.Spec PyProof.Rows L2 MA
def Cons {W N S : Type} (l : List (W × N × S)) : Prop := ∀ a ∈ l, ∀ b ∈ l, a.2.1 = b.2.1 → a.2.2 = b.2.2
theorem found {W N S : Type} [DecidableEq N] {l : List (W × N × S)} {n : N} {p : W × N × S} (h : l.find? (fun p => decide (p.2.1 = n)) = some p) : p.2.1 = n := by
  have := List.find?_some h
  simpa using this
theorem bar_cons {W N S : Type} [DecidableEq N] [DecidableEq S] : ∀ (r pre : List (W × N × S)), barM pre r = none → Cons pre → Cons (pre ++ r)
  | [], pre, _, h => by rw [List.append_nil]; exact h
  | (w0, n, s) :: r, pre, hb, h => by
    have e : pre ++ (w0, n, s) :: r = (pre ++ [(w0, n, s)]) ++ r := by simp
    rw [e]
    cases hf : pre.find? (fun p => decide (p.2.1 = n)) with
    | none =>
      have hb2 : barM (pre ++ [(w0, n, s)]) r = none := by
        have := hb
        unfold barM at this
        rw [hf] at this
        exact this
      refine bar_cons r _ hb2 fun a ha b hbm en => ?_
      have no : ∀ c ∈ pre, c.2.1 ≠ n := fun c hc z => by
        have := List.find?_eq_none.mp hf c hc
        exact this (decide_eq_true z)
      rcases List.mem_append.mp ha with ha | ha <;> rcases List.mem_append.mp hbm with hbm | hbm
      · exact h a ha b hbm en
      · rw [List.mem_singleton.mp hbm] at en
        exact absurd en (no a ha)
      · rw [List.mem_singleton.mp ha] at en
        exact absurd en.symm (no b hbm)
      · rw [List.mem_singleton.mp ha, List.mem_singleton.mp hbm]
    | some p =>
      have hb1 := hb
      unfold barM at hb1
      rw [hf] at hb1
      by_cases es : p.2.2 = s
      · have hb2 : barM (pre ++ [(w0, n, s)]) r = none := by
          have : (if p.2.2 = s then barM (pre ++ [(w0, n, s)]) r else some (p.1, w0)) = none := hb1
          rwa [if_pos es] at this
        have hp := List.mem_of_find?_eq_some hf
        have hpn : p.2.1 = n := found hf
        refine bar_cons r _ hb2 fun a ha b hbm en => ?_
        have to : ∀ c ∈ pre, c.2.1 = n → c.2.2 = s := fun c hc z => by rw [h c hc p hp (by rw [z, hpn]), es]
        rcases List.mem_append.mp ha with ha | ha <;> rcases List.mem_append.mp hbm with hbm | hbm
        · exact h a ha b hbm en
        · rw [List.mem_singleton.mp hbm] at en ⊢
          exact to a ha en
        · rw [List.mem_singleton.mp ha] at en ⊢
          exact (to b hbm en.symm).symm
        · rw [List.mem_singleton.mp ha, List.mem_singleton.mp hbm]
      · have : (if p.2.2 = s then barM (pre ++ [(w0, n, s)]) r else some (p.1, w0)) = none := hb1
        rw [if_neg es] at this
        cases this
theorem cons_bar {W N S : Type} [DecidableEq N] [DecidableEq S] : ∀ (r pre : List (W × N × S)), Cons (pre ++ r) → barM pre r = none
  | [], pre, _ => by unfold barM; rfl
  | (w0, n, s) :: r, pre, h => by
    have e : pre ++ (w0, n, s) :: r = (pre ++ [(w0, n, s)]) ++ r := by simp
    have ih := cons_bar r (pre ++ [(w0, n, s)]) (by rw [← e]; exact h)
    unfold barM
    cases hf : pre.find? (fun p => decide (p.2.1 = n)) with
    | none => exact ih
    | some p =>
      have hp := List.mem_of_find?_eq_some hf
      have hpn : p.2.1 = n := found hf
      have es : p.2.2 = s := h p (List.mem_append_left _ hp) (w0, n, s) (by simp) hpn
      show (if p.2.2 = s then _ else _) = none
      rw [if_pos es]
      exact ih
theorem sh3_names : ∀ (m : M) (w : Str) (x : Rat), (sh3 m w x).map (·.2.1) = m.names
  | .wt _, _, _ => rfl
  | .rod _ _ a b, w, x => by
    show ((sh3 a _ _ ++ sh3 b _ _).map (·.2.1)) = a.names ++ b.names
    rw [List.map_append, sh3_names a, sh3_names b]
theorem sh3_shares : ∀ (m : M) (w : Str) (x : Rat), (sh3 m w x).map (·.2.2) = m.sh x
  | .wt _, _, _ => rfl
  | .rod _ _ a b, w, x => by
    show ((sh3 a _ _ ++ sh3 b _ _).map (·.2.2)) = a.sh _ ++ b.sh _
    rw [List.map_append, sh3_shares a, sh3_shares b]
def one (m : M) : Prop := ∃ s : Str → Rat, m.names.map s = m.sh 1
theorem one_bar {m : M} : one m ↔ barM [] (sh3 m "" 1) = none := by
  constructor
  · rintro ⟨s, hs⟩
    refine cons_bar _ [] fun a ha b hb en => ?_
    rw [List.nil_append] at ha hb
    have key : ∀ a ∈ sh3 m "" 1, a.2.2 = s a.2.1 := fun a ha => by
      obtain ⟨i, hi, rfl⟩ := List.getElem_of_mem ha
      have e1 : (m.names.map s)[i]? = some (s (sh3 m "" 1)[i].2.1) := by
        rw [← sh3_names m "" 1, List.map_map, List.getElem?_map, List.getElem?_eq_getElem hi]; rfl
      have e2 : (m.sh 1)[i]? = some (sh3 m "" 1)[i].2.2 := by
        rw [← sh3_shares m "" 1, List.getElem?_map, List.getElem?_eq_getElem hi]; rfl
      rw [hs, e2] at e1
      exact Option.some.inj e1
    rw [key a ha, key b hb, en]
  · intro h
    have hc := bar_cons (sh3 m "" 1) [] h (by intro a ha; simp at ha)
    rw [List.nil_append] at hc
    refine ⟨fun x => match (sh3 m "" 1).find? (fun p => decide (p.2.1 = x)) with | some p => p.2.2 | none => 0, ?_⟩
    rw [← sh3_names m "" 1, ← sh3_shares m "" 1, List.map_map]
    refine List.map_congr_left fun a ha => ?_
    show (match (sh3 m "" 1).find? (fun p => decide (p.2.1 = a.2.1)) with | some p => p.2.2 | none => 0) = a.2.2
    cases hf : (sh3 m "" 1).find? (fun p => decide (p.2.1 = a.2.1)) with
    | none => exact absurd (decide_eq_true rfl) (List.find?_eq_none.mp hf a ha)
    | some p => exact hc p (List.mem_of_find?_eq_some hf) a ha (found hf)
noncomputable def shr (m : M) : Str → Rat := fun x => match (sh3 m "" 1).find? (fun p => decide (p.2.1 = x)) with | some p => p.2.2 | none => 0
theorem shr_ok {m : M} (h : barM [] (sh3 m "" 1) = none) : (∀ a ∈ sh3 m "" 1, a.2.2 = shr m a.2.1) ∧ m.names.map (shr m) = m.sh 1 := by
  have hc := bar_cons (sh3 m "" 1) [] h (by intro a ha; simp at ha)
  rw [List.nil_append] at hc
  have key : ∀ a ∈ sh3 m "" 1, a.2.2 = shr m a.2.1 := fun a ha => by
    show _ = (match (sh3 m "" 1).find? (fun p => decide (p.2.1 = a.2.1)) with | some p => p.2.2 | none => 0)
    cases hf : (sh3 m "" 1).find? (fun p => decide (p.2.1 = a.2.1)) with
    | none => exact absurd (decide_eq_true rfl) (List.find?_eq_none.mp hf a ha)
    | some p => exact (hc p (List.mem_of_find?_eq_some hf) a ha (found hf)).symm
  refine ⟨key, ?_⟩
  rw [← sh3_names m "" 1, ← sh3_shares m "" 1, List.map_map]
  exact List.map_congr_left fun a ha => (key a ha).symm
theorem putK_keys {κ : Type} [DecidableEq κ] (kvs : List (κ × V)) (k : κ) (v : V) : (putK kvs k v).map (·.1) = if k ∈ kvs.map (·.1) then kvs.map (·.1) else kvs.map (·.1) ++ [k] := by
  unfold putK
  have e : (kvs.any fun kv => decide (kv.1 = k)) = decide (k ∈ kvs.map (·.1)) := by
    rw [Bool.eq_iff_iff, List.any_eq_true, decide_eq_true_eq, List.mem_map]
    constructor
    · rintro ⟨p, hp, e⟩
      exact ⟨p, hp, of_decide_eq_true e⟩
    · rintro ⟨p, hp, e⟩
      exact ⟨p, hp, decide_eq_true e⟩
  by_cases hk : k ∈ kvs.map (·.1)
  · rw [if_pos hk, if_pos (by rw [e]; exact decide_eq_true hk), List.map_map]
    refine List.map_congr_left fun p _ => ?_
    show (if p.1 = k then (p.1, v) else p).1 = p.1
    by_cases h : p.1 = k
    · rw [if_pos h]
    · rw [if_neg h]
  · rw [if_neg hk, if_neg (by rw [e]; simpa using hk), List.map_append]
    rfl
theorem fold_keys : ∀ (ps acc : List (Key × V)) (ns : List Str), acc.map (·.1) = ns.map Sum.inr → ns.Nodup → (∀ p ∈ ps, ∃ x, p.1 = Sum.inr x) →
    ∃ ns' : List Str, (ps.foldl (fun acc p => putK acc p.1 p.2) acc).map (·.1) = ns'.map Sum.inr ∧ ns'.Nodup ∧ ∀ x, x ∈ ns' ↔ x ∈ ns ∨ (Sum.inr x : Key) ∈ ps.map (·.1)
  | [], acc, ns, h, hn, _ => ⟨ns, h, hn, fun x => by simp⟩
  | p :: r, acc, ns, h, hn, hp => by
    obtain ⟨x, ex⟩ := hp p (by simp)
    rw [List.foldl_cons]
    have hk := putK_keys acc p.1 p.2
    have hx : p.1 ∈ acc.map (·.1) ↔ x ∈ ns := by
      rw [h, ex, List.mem_map]
      constructor
      · rintro ⟨y, hy, e⟩
        rw [← Sum.inr.inj e]; exact hy
      · intro hx
        exact ⟨x, hx, rfl⟩
    by_cases hin : x ∈ ns
    · rw [if_pos (hx.mpr hin), h] at hk
      obtain ⟨ns', a1, a2, a3⟩ := fold_keys r _ ns hk hn fun q hq => hp q (List.mem_cons_of_mem _ hq)
      refine ⟨ns', a1, a2, fun y => ?_⟩
      rw [a3 y, List.map_cons, List.mem_cons, ex]
      constructor
      · rintro (z | z)
        · exact .inl z
        · exact .inr (.inr z)
      · rintro (z | z | z)
        · exact .inl z
        · rw [Sum.inr.inj z]; exact .inl hin
        · exact .inr z
    · rw [if_neg (fun z => hin (hx.mp z)), h] at hk
      have hk2 : (putK acc p.1 p.2).map (·.1) = (ns ++ [x]).map Sum.inr := by rw [hk, List.map_append, ex]; rfl
      obtain ⟨ns', a1, a2, a3⟩ := fold_keys r _ (ns ++ [x]) hk2 (by
        rw [List.nodup_append]
        refine ⟨hn, by simp, fun a ha b hb => ?_⟩
        rw [List.mem_singleton.mp hb]
        exact fun z => hin (by rw [← z]; exact ha)) fun q hq => hp q (List.mem_cons_of_mem _ hq)
      refine ⟨ns', a1, a2, fun y => ?_⟩
      rw [a3 y, List.map_cons, List.mem_cons, ex, List.mem_append, List.mem_singleton]
      constructor
      · rintro ((z | z) | z)
        · exact .inl z
        · exact .inr (.inl (by rw [z]))
        · exact .inr (.inr z)
      · rintro (z | z | z)
        · exact .inl (.inl z)
        · exact .inl (.inr (Sum.inr.inj z))
        · exact .inr z
end My
namespace My
open PySem PySem.Spec PyProof.Rows L2 MA
theorem num_mul {t : Rat} {a b : Int} (hb : 0 < b) (ht : 0 ≤ (rf t).1 * a) : (rf (t * ((a : Rat) / (b : Rat)))).1 ≤ (rf t).1 * a := by
  rw [← rf_mul, ← rf_red (Int.mul_pos (rf_pos t) hb)]
  exact Int.ediv_le_self _ ht
theorem sh_num : ∀ (m : M) (x : Rat) (B : Int), m.arms → 0 < x → (rf x).1 ≤ B → ∀ s ∈ m.sh x, (rf s).1 ≤ B * 18 ^ m.deep
  | .wt _, x, B, _, h1, h2, s, hs => by
    have : s = x := by simpa [Mob.sh] using hs
    subst this
    simpa [Mob.deep] using h2
  | .rod l r a b, x, B, h, h1, h2, s, hs => by
    obtain ⟨g1, g2, g3, g4, g5, g6⟩ := h
    have hB : 0 < B := Int.lt_of_lt_of_le (num_pos h1) h2
    have np := num_pos h1
    have d1 : (rf (x * ((r : Rat) / ((l + r : Int) : Rat)))).1 ≤ B * 18 := by
      refine Int.le_trans (num_mul (by omega) (Int.mul_nonneg (by omega) (by omega))) ?_
      exact Int.mul_le_mul h2 (by omega) (by omega) (by omega)
    have d2 : (rf (x * ((l : Rat) / ((l + r : Int) : Rat)))).1 ≤ B * 18 := by
      refine Int.le_trans (num_mul (by omega) (Int.mul_nonneg (by omega) (by omega))) ?_
      exact Int.mul_le_mul h2 (by omega) (by omega) (by omega)
    have p1 : 0 < x * ((r : Rat) / ((l + r : Int) : Rat)) := Mob.step_pos g1 g3 h1
    have p2 : 0 < x * ((l : Rat) / ((l + r : Int) : Rat)) := by
      have := Mob.step_pos (l := r) (r := l) g3 g1 h1
      rwa [Int.add_comm r l] at this
    have up : ∀ k : Nat, k ≤ max a.deep b.deep → B * 18 * 18 ^ k ≤ B * 18 ^ (max a.deep b.deep + 1) := fun k hk => by
      rw [Int.pow_succ, Int.mul_assoc, Int.mul_comm 18 (18 ^ k)]
      refine Int.mul_le_mul_of_nonneg_left ?_ (Int.le_of_lt hB)
      exact Int.mul_le_mul_of_nonneg_right (pow_le18 hk) (by decide)
    rcases List.mem_append.mp (show s ∈ a.sh _ ++ b.sh _ from hs) with hs | hs
    · exact Int.le_trans (sh_num a _ _ g5 p1 d1 s hs) (up _ (Nat.le_max_left _ _))
    · exact Int.le_trans (sh_num b _ _ g6 p2 d2 s hs) (up _ (Nat.le_max_right _ _))
theorem sh_one {m : M} (hg : Good 5 m) : ∀ s ∈ m.sh 1, 0 < s ∧ (rf s).1 ≤ 1889568 ∧ (rf s).2 ≤ 1889568 := fun s hs => by
  obtain ⟨b1, b2⟩ := Mob.sh_bound m 1 1 hg.arms (by decide) (by decide) s hs
  have b3 := sh_num m 1 1 hg.arms (by decide) (by decide) s hs
  have p := pow_le18 hg.deep
  have e : (18 : Int) ^ 5 = 1889568 := by decide
  rw [e] at p
  rw [Int.one_mul] at b2 b3
  exact ⟨b1, Int.le_trans b3 p, Int.le_trans b2 p⟩
theorem shr_fok {m : M} (hg : Good 5 m) (h : barM [] (sh3 m "" 1) = none) {x : Str} (hx : x ∈ m.names) : FOk (shr m x) := by
  have : shr m x ∈ m.sh 1 := by
    rw [← (shr_ok h).2]
    exact List.mem_map.mpr ⟨x, hx, rfl⟩
  obtain ⟨h1, h2, h3⟩ := sh_one hg _ this
  exact ⟨h1, by omega, by omega⟩
section
variable {P : Program} {w : World} {K : PySem.W.Frag} {mg : Str → Option Value} {base : Heap}
def NSp (K : PySem.W.Frag) (H : Hp) (m : M) (ps : List (Key × V)) : Prop := ps.length = (sh3 m "" 1).length ∧ ∀ (i : Nat) (row : Str × Str × Rat), (sh3 m "" 1)[i]? = some row → ∃ sv, ps[i]? = some (Sum.inr row.2.1, sv) ∧ Dp K H sv (fD row.2.2)
theorem rows_vals {H : Hp} : ∀ {ys : List V} {rows : List (Str × Str × Rat)}, DpAll K H ys (rows.map rowD) → ∃ ps : List (Key × V), ps.length = rows.length ∧ ∀ (i : Nat) (row : Str × Str × Rat), rows[i]? = some row → ∃ sv a, ps[i]? = some (Sum.inr row.2.1, sv) ∧ ys[i]? = some (.ref a) ∧ SqT K H a [.str row.1, .str row.2.1, sv] ∧ Dp K H sv (fD row.2.2)
  | _, [], _ => ⟨[], rfl, fun i row h => by simp at h⟩
  | _, row :: rows, h => by
    cases h with
    | cons h1 h2 =>
      obtain ⟨ps, e, hp⟩ := rows_vals h2
      obtain ⟨a, sv, rfl, ha, hs⟩ := rowI h1
      refine ⟨(Sum.inr row.2.1, sv) :: ps, by simp [e], fun i r hr => ?_⟩
      cases i with
      | zero => simp at hr; subst hr; exact ⟨sv, a, rfl, rfl, ha, hs⟩
      | succ i => simpa using hp i r (by simpa using hr)
def spNS (K : PySem.W.Frag) : Sp := fun vs H Q _ => ∃ (v : V) (m : M), vs = [v] ∧ Dp K H v (mD m) ∧ Good 5 m ∧ ∀ (d : Addr) (ps : List (Key × V)) H', Same H H' → H d = none → H' d = some (.dK (L2.putAll ps)) → NSp K H' m ps → Q (.ref d) H'
theorem f_ns (T : TopD K mg "name_shares" s_name_shares p_name_shares) (b_dict : mg "dict" = none) (F_shares : Fn P w K mg base 10 "shares" p_shares (spShares K)) : Fn P w K mg base 11 "name_shares" p_name_shares (spNS K) := by
  refine T.fn sc_name_shares (fun vs H Q E h => ?_) (fun f cdv A outer s H vs Q E hr h => ?_)
  · obtain ⟨v, m, rfl, _⟩ := h
    rfl
  obtain ⟨v, m, rfl, hD, hg, q⟩ := h
  have ndc1 : ((["way", "name", "share"] : List Str) ++ ([] : List Str)).Nodup := by decide +kernel
  refine ⟨_, (pss_one (ps_ret (pe_callTy (call_dictP rfl) rfl b_dict boot_dict (pa_cons (pe_comp (own := ["way", "name", "share"]) (frees := []) (ix := []) (pi_list (pe_callF F_shares (hr.mono (by omega)) (pa_cons (pv 0) pa_nil))) (fun c => (pg_tup rfl (pgs_cons (pg_name (i := 0) ndc1 rfl (by first | exact Or.inl rfl | exact Or.inr rfl)) (pgs_cons (pg_name (i := 1) ndc1 rfl (by first | exact Or.inl rfl | exact Or.inr rfl)) (pgs_cons (pg_name (i := 2) ndc1 rfl (by first | exact Or.inl rfl | exact Or.inr rfl)) pgs_nil))))) (fun c => PIf.nil) (fun c => (pe_tup (pa_cons (pv 1) (pa_cons (pv 2) pa_nil))))) pa_nil)))), ?_⟩
  refine ⟨_, rfl, v, m, rfl, hD, hg, fun l ys H1 g1 hl el dl => ?_⟩
  obtain ⟨ps, hpl, hps⟩ := rows_vals dl
  have hyl : ys.length = (sh3 m "" 1).length := by rw [dl.len, List.length_map]
  have h32 : (sh3 m "" 1).length ≤ 32 := by rw [sh3_len]; exact names_small hg.deep
  refine ⟨l, rfl, ⟨ys, SqL.of el⟩, fun c acc hacc => ?_⟩
  refine comp_list (xs := ys) (fun i zs H2 => zs.length = i ∧ (∀ (j : Nat) z, zs[j]? = some z → ∃ t p, z = .ref t ∧ ps[j]? = some p ∧ H2 t = some (.tup [kV p.1, p.2])) ∧ H2 acc = some (.lst zs) ∧ Same H1 H2) ?_ ?_ ?_ ?_ ?_
  · exact ⟨rfl, fun j z h => by simp at h, upd_same, Same.new hacc _⟩
  · rintro i zs H2 _ ⟨_, _, h, _⟩
    exact h
  · rintro i zs H2 _ ⟨_, _, _, g⟩
    exact (SqL.of el).same g
  · rintro i zs H2 x hx ⟨hzl, hz, ha, g⟩
    have hi : i < ys.length := (List.getElem?_eq_some_iff.mp hx).1
    obtain ⟨row, hrow⟩ : ∃ row, (sh3 m "" 1)[i]? = some row := ⟨_, List.getElem?_eq_getElem (by omega)⟩
    obtain ⟨sv, a, hp, hy, hsq, hsv⟩ := hps i row hrow
    rw [hx] at hy
    cases hy
    obtain ⟨rw0, rn0, rs0⟩ := row
    refine ⟨a, _, rfl, hsq.same g, rfl, _, _, rfl, _, _, rfl, _, _, rfl, rfl, ?_⟩
    refine ⟨.own (.own (.own .nil)), iteT ?_⟩
    refine ⟨_, rfl, _, rfl, (by show 2 ≤ sizeLine; decide), fun t ht => ?_⟩
    have s3 := Same.new ht (.tup [.str rn0, sv])
    have ha3 := s3 _ _ ha
    refine ⟨ha3, small1000 (by omega), by rw [List.length_append, hzl]; rfl, fun j z hj => ?_, upd_same, fun b o e => ?_⟩
    · have keep : ∀ {b : Addr} {xs : List V}, upd H2 t (.tup [.str rn0, sv]) b = some (.tup xs) → upd (upd H2 t (.tup [.str rn0, sv])) acc (.lst (zs ++ [.ref t])) b = some (.tup xs) := fun {b xs} e => by
        rw [upd_ne (fun z => by rw [z, ha3] at e; cases e)]
        exact e
      by_cases hjl : j < zs.length
      · rw [List.getElem?_append_left hjl] at hj
        obtain ⟨t', p, e1, e2, e3⟩ := hz j z hj
        exact ⟨t', p, e1, e2, keep (s3 _ _ e3)⟩
      · have hjz : j = i := by
          have := (List.getElem?_eq_some_iff.mp hj).1
          rw [List.length_append, List.length_singleton] at this
          omega
        subst hjz
        rw [← hzl, List.getElem?_concat_length] at hj
        cases hj
        exact ⟨t, _, rfl, hp, keep upd_same⟩
    · rw [upd_ne (ne_of_none e hacc)]
      exact s3 _ _ (g b o e)
  · rintro zs H2 ⟨hzl, hz, ha, g⟩
    refine ⟨acc, zs, ps, rfl, .inl ha, ⟨by omega, fun i x p hx hp => ?_⟩, by omega, fun d hd => ?_⟩
    · obtain ⟨t, p', e1, e2, e3⟩ := hz i x hx
      rw [hp] at e2
      cases e2
      exact ⟨t, e1, SqT.of e3⟩
    · have s3 := Same.new hd (.dK (L2.putAll ps))
      have gA := g1.trans (g.trans s3)
      refine q d ps _ gA ((g1.trans g).free hd) upd_same ⟨hpl, fun i row hrow => ?_⟩
      obtain ⟨sv, a, hp, _, _, hsv⟩ := hps i row hrow
      exact ⟨sv, hp, Dp.same (g.trans s3) _ _ hsv⟩
def spLWt (K : PySem.W.Frag) : Sp := fun vs H Q _ => ∃ (d : Addr) (kvs : List (Key × V)) (ns : List Str) (s : Str → Rat), vs = [.ref d] ∧ H d = some (.dK kvs) ∧ kvs.map (·.1) = ns.map Sum.inr ∧ ns.Nodup ∧ ns.length ≤ 32 ∧ ns ≠ [] ∧
  (∀ x ∈ ns, ∃ v, valV kvs (Sum.inr x) = some v ∧ Dp K H v (fD (s x)) ∧ FOk (s x)) ∧
  ∀ (l : Addr) (ts : List V) (ys : List Str) H', Same H H' → H l = none → H' l = some (.tup ts) → ys.Pairwise strLt → (∀ x, x ∈ ys ↔ x ∈ ns) → DpAll K H' ts ((ys.zip (lw (ys.map s))).map pD) → Q (.ref l) H'
theorem fDs_noL (s : Str → Rat) : ∀ ys : List Str, noLs (ys.map (fun x => fD (s x))) = true
  | [] => by simp [noLs]
  | y :: r => by simp [noLs, fD_noL, fDs_noL s r]
theorem nodup_le {xs ys : List Str} (nd : xs.Nodup) (hm : ∀ x, x ∈ xs → x ∈ ys) : xs.length ≤ ys.length := by
  induction xs generalizing ys with
  | nil => simp
  | cons x r ih =>
    have hx := hm x (by simp)
    obtain ⟨hn, nd⟩ := List.nodup_cons.mp nd
    have := ih (ys := ys.erase x) nd (fun y hy => (List.mem_erase_of_ne (fun z => hn (by rw [← z]; exact hy))).mpr (hm y (List.mem_cons_of_mem _ hy)))
    rw [List.length_erase_of_mem hx] at this
    have h1 : 0 < ys.length := List.length_pos_of_mem hx
    rw [List.length_cons]
    omega
theorem f_lwt (T : TopD K mg "least_weights" s_least_weights p_least_weights) (b_sorted : mg "sorted" = none) (b_tuple : mg "tuple" = none) (b_zip : mg "zip" = none) (F_least_whole : Fn P w K mg base 2 "least_whole" p_least_whole (spLW K)) : Fn P w K mg base 3 "least_weights" p_least_weights (spLWt K) := by
  refine T.fn sc_least_weights (fun vs H Q E h => ?_) (fun f cdv A outer s0 H vs Q E hr h => ?_)
  · obtain ⟨d, kvs, ns, s, rfl, _⟩ := h
    rfl
  obtain ⟨d, kvs, ns, s, rfl, hd, hk, hnd, h32, hne, hv, q⟩ := h
  have nd := sc_least_weights.nd
  have ndc1 : ((["name"] : List Str) ++ (["fractions"] : List Str)).Nodup := by decide +kernel
  refine ⟨_, (pss_cons (ps_set (i := 1) nd rfl (by first | exact Or.inl rfl | exact Or.inr rfl) (pe_callB (call_sortD rfl) rfl b_sorted boot_sorted (pa_cons (pv 0) pa_nil)))
    (pss_one (ps_ret (pe_tuplezip rfl b_tuple boot_tuple rfl b_zip boot_zip rfl (pa_cons (pv 1) (pa_cons (pe_callF F_least_whole (hr.mono (by omega)) (pa_cons (pe_comp (own := ["name"]) (frees := ["fractions"]) (ix := [0]) (pi_list (pv 1)) (fun c => (pg_name (i := 0) ndc1 rfl (by first | exact Or.inl rfl | exact Or.inr rfl))) (fun c => PIf.nil) (fun c => (pe_dget (hu_of hr) (pv 1) (pv 0) (fun _ _ => rfl)))) pa_nil)) pa_nil)))))), ?_⟩
  refine ⟨_, rfl, d, kvs, ns, rfl, hd, hk, hnd, by omega, fun l ys hl hpw hmem => ?_⟩
  have g1 := Same.new hl (.lst (ys.map V.str))
  have hyl : ys.length ≤ 32 := Nat.le_trans (nodup_le (rise_nodup hpw) fun x hx => (hmem x).mp hx) h32
  refine ⟨_, rfl, _, rfl, l, rfl, ⟨_, SqL.of upd_same⟩, fun c acc hacc => ?_⟩
  refine comp_list (xs := ys.map V.str) (fun i zs H2 => DpAll K H2 zs ((ys.take i).map (fun x => fD (s x))) ∧ zs.length = i ∧ H2 acc = some (.lst zs) ∧ Same (upd H l (.lst (ys.map V.str))) H2) ?_ ?_ ?_ ?_ ?_
  · exact ⟨.nil, rfl, upd_same, Same.new hacc _⟩
  · rintro i zs H2 _ ⟨_, _, h, _⟩
    exact h
  · rintro i zs H2 _ ⟨_, _, _, g⟩
    exact SqL.of (g _ _ upd_same)
  · rintro i zs H2 x hx ⟨dz, hzl, ha, g⟩
    rw [List.getElem?_map] at hx
    obtain ⟨nm, hnm, rfl⟩ : ∃ nm, ys[i]? = some nm ∧ x = .str nm := by
      cases e : ys[i]? with
      | none => rw [e] at hx; cases hx
      | some r => rw [e] at hx; cases hx; exact ⟨r, rfl, rfl⟩
    have hi : i < ys.length := (List.getElem?_eq_some_iff.mp hnm).1
    obtain ⟨sv, hsv, dsv, _⟩ := hv nm ((hmem nm).mp (List.mem_of_getElem? hnm))
    have hget : DGet H2 d (.str nm) (some sv) := by
      have := DGet.k (k := Sum.inr nm) (g _ _ (g1 _ _ hd))
      rw [hsv] at this
      exact this
    refine ⟨.own (.keep .nil), iteT ?_⟩
    refine ⟨_, rfl, _, rfl, d, _, rfl, hget, ?_⟩
    have d2 : DpAll K H2 (zs ++ [sv]) ((ys.take (i + 1)).map (fun x => fD (s x))) := by
      rw [List.take_add_one, hnm, List.map_append]
      exact dz.app (.cons (Dp.same (g1.trans g) _ _ dsv) .nil)
    refine ⟨ha, small1000 (by omega), DpAll.but But.upd ha _ _ (fDs_noL s _) d2, by rw [List.length_append, hzl]; rfl, upd_same, fun b o e => ?_⟩
    rw [upd_ne (ne_of_none e hacc)]
    exact g b o e
  · rintro zs H2 ⟨dz, hzl, ha, g⟩
    rw [List.length_map, List.take_length] at dz
    have e1 : ys.map (fun x => fD (s x)) = (ys.map s).map fD := by rw [List.map_map]; rfl
    rw [e1] at dz
    refine ⟨acc, zs, ys.map s, rfl, SqL.of ha, dz, by rw [List.length_map]; exact hyl, fun x hx => ?_, fun z => ?_, fun l2 H3 g3 n3 e3 => ?_⟩
    · obtain ⟨y, hy, rfl⟩ := List.mem_map.mp hx
      obtain ⟨_, _, _, fo⟩ := hv y ((hmem y).mp hy)
      exact fo
    · have hy0 : ys = [] := by simpa using z
      cases ns with
      | nil => exact hne rfl
      | cons n r =>
        have := (hmem n).mpr (by simp)
        rw [hy0] at this
        simp at this
    · refine ⟨l, l2, ys.map V.str, (lw (ys.map s)).map V.int, rfl, SqL.of (g3 _ _ (g _ _ upd_same)), SqL.of e3, fun lt H4 ps g4 nlt elt hlen hps => ?_⟩
      have G := g1.trans (g.trans (g3.trans g4))
      have hll : (lw (ys.map s)).length = ys.length := by rw [lw_len, List.length_map]
      refine q lt ps ys H4 G ((g1.trans (g.trans g3)).free nlt) elt hpw hmem (DpAll.of_get ?_ fun j p dd hj hdj => ?_)
      · rw [hlen, List.length_map, List.length_map, List.length_map, List.length_zip]
      · obtain ⟨t, x, y, rfl, hx, hy, ht⟩ := hps j p hj
        rw [List.getElem?_map] at hx hy hdj
        cases ex : ys[j]? with
        | none => rw [ex] at hx; cases hx
        | some nm =>
          cases ey : (lw (ys.map s))[j]? with
          | none => rw [ey] at hy; cases hy
          | some k =>
            rw [ex] at hx
            rw [ey] at hy
            cases hx
            cases hy
            have ez : (ys.zip (lw (ys.map s)))[j]? = some (nm, k) := List.getElem?_zip_eq_some.mpr ⟨ex, ey⟩
            rw [ez] at hdj
            cases hdj
            exact .tup (SqT.of ht) (.cons (.str _) (.cons (.int _) .nil))
def spLeast (K : PySem.W.Frag) (e : Addr) : Sp := fun vs H Q E => ∃ (v : V) (m : M), vs = [v] ∧ Dp K H v (mD m) ∧ Good 5 m ∧ ∀ H', Same H H' →
  (barM [] (sh3 m "" 1) ≠ none → E (.ref e) none H') ∧
  (barM [] (sh3 m "" 1) = none → ∀ (l : Addr) (ts : List V) (ys : List Str), H l = none → H' l = some (.tup ts) → ys.Pairwise strLt → (∀ x, x ∈ ys ↔ x ∈ m.names) → DpAll K H' ts ((ys.zip (lw (ys.map (shr m)))).map pD) → Q (.ref l) H')
theorem f_leastP {e_Never : Addr} (T : TopD K mg "least" s_least p_least) (m_Never : mg "Never" = some (.ref e_Never)) (x_Never : PySem.W.excIn K e_Never vErr "ValueError.__new__" = true) (F_bar : Fn P w K mg base 11 "bar" p_bar (spBar K)) (F_name_shares : Fn P w K mg base 11 "name_shares" p_name_shares (spNS K))
    (F_least_weights : Fn P w K mg base 3 "least_weights" p_least_weights (spLWt K)) : FnX P w K mg base 12 "least" p_least (spLeast K e_Never) := by
  refine T.fnX sc_least (fun vs H Q E h => ?_) (fun f cdv A outer s0 H vs Q E hr h => ?_)
  · obtain ⟨v, m, rfl, _⟩ := h
    rfl
  obtain ⟨v, m, rfl, hD, hg, q⟩ := h
  have nd := sc_least.nd
  refine ⟨_, (pss_cons (ps_if (pt_cmpR op_notN (pe_callF F_bar (hr.mono (by omega)) (pa_cons (pv 0) pa_nil)) pe_non (nomark _)) (pss_one (ps_raise raisesX rfl m_Never x_Never (pa_cons pe_str pa_nil))) pss_nil)
    (pss_one (ps_ret (pe_callF F_least_weights (hr.mono (by omega)) (pa_cons (pe_callF F_name_shares (hr.mono (by omega)) (pa_cons (pv 0) pa_nil)) pa_nil))))), ?_⟩
  refine ⟨_, rfl, v, m, rfl, hD, hg, fun r H1 g1 dr => ⟨rfl, _, rfl, ?_⟩⟩
  cases hb : barM [] (sh3 m "" 1) with
  | some p =>
    rw [hb] at dr
    obtain ⟨a, xs, rfl, _⟩ := Dp.tupI (show Dp K H1 r (.tuple [.str p.1, .str p.2]) from dr)
    refine iteT ?_
    refine ⟨(by show 1 ≤ sizeLine; decide), (q H1 g1).1 (by rw [hb]; simp)⟩
  | none =>
    rw [hb] at dr
    obtain rfl := Dp.noneI (show Dp K H1 r .none from dr)
    refine iteF ?_
    refine ⟨_, rfl, v, m, rfl, Dp.same g1 _ _ hD, hg, fun d ps H2 g2 nd2 ed hps => ?_⟩
    obtain ⟨hpl, hpr⟩ := hps
    have h32 : (sh3 m "" 1).length ≤ 32 := by rw [sh3_len]; exact names_small hg.deep
    have hkeys : ∀ p ∈ ps, ∃ x, p.1 = Sum.inr x := fun p hp => by
      obtain ⟨i, hi, rfl⟩ := List.getElem_of_mem hp
      obtain ⟨sv, e, _⟩ := hpr i _ (List.getElem?_eq_getElem (by omega))
      rw [List.getElem?_eq_getElem hi] at e
      exact ⟨_, congrArg Prod.fst (Option.some.inj e)⟩
    have hin : ∀ x : Str, (Sum.inr x : Key) ∈ ps.map (·.1) ↔ x ∈ m.names := fun x => by
      rw [← sh3_names m "" 1]
      constructor
      · intro h
        obtain ⟨p, hp, e⟩ := List.mem_map.mp h
        obtain ⟨i, hi, rfl⟩ := List.getElem_of_mem hp
        obtain ⟨sv, e2, _⟩ := hpr i _ (List.getElem?_eq_getElem (by omega))
        rw [List.getElem?_eq_getElem hi] at e2
        have e3 := congrArg Prod.fst (Option.some.inj e2)
        rw [e3] at e
        rw [← Sum.inr.inj e]
        exact List.mem_map.mpr ⟨_, List.getElem_mem _, rfl⟩
      · intro h
        obtain ⟨row, hr, rfl⟩ := List.mem_map.mp h
        obtain ⟨i, hi, rfl⟩ := List.getElem_of_mem hr
        obtain ⟨sv, e2, _⟩ := hpr i _ (List.getElem?_eq_getElem hi)
        exact List.mem_map.mpr ⟨_, List.mem_of_getElem? e2, rfl⟩
    obtain ⟨ns, k1, k2, k3⟩ := fold_keys ps [] [] rfl (by simp) hkeys
    have hns : ∀ x, x ∈ ns ↔ x ∈ m.names := fun x => by rw [k3 x, ← hin x]; simp
    refine ⟨d, L2.putAll ps, ns, shr m, rfl, ed, k1, k2, ?_, fun z => ?_, fun x hx => ?_, fun l ts ys H3 g3 nl el hpw hmem dts => ?_⟩
    · exact Nat.le_trans (nodup_le k2 fun x hx => (hns x).mp hx) (names_small hg.deep)
    · have hp := Mob.names_pos m
      cases e : m.names with
      | nil => rw [e] at hp; simp at hp
      | cons n r =>
        have := (hns n).mpr (by rw [e]; simp)
        rw [z] at this
        simp at this
    · obtain ⟨sv, h1, h2⟩ := fold_in ps [] (Sum.inr x) ((hin x).mpr ((hns x).mp hx))
      refine ⟨sv, h2, ?_, shr_fok hg hb ((hns x).mp hx)⟩
      obtain ⟨i, hi, e⟩ := List.getElem_of_mem h1
      obtain ⟨sv', e2, dsv⟩ := hpr i _ (List.getElem?_eq_getElem (by omega))
      rw [List.getElem?_eq_getElem hi, e] at e2
      have e3 := Option.some.inj e2
      have e4 : x = (sh3 m "" 1)[i].2.1 := Sum.inr.inj (congrArg Prod.fst e3)
      have e5 : sv = sv' := congrArg Prod.snd e3
      rw [e5, e4, ← (shr_ok hb).1 _ (List.getElem_mem (by omega))]
      exact dsv
    · exact (q H3 ((g1.trans g2).trans g3)).2 hb l ts ys ((g1.trans g2).free nl) el hpw (fun x => (hmem x).trans (hns x)) dts
end
end My
namespace My
open PySem PySem.Spec PyProof.Rows L2 MA
theorem boot_ValueError : bootBuiltins "ValueError" = some (.type "ValueError") := by decide +kernel
structure ClsK (K : PySem.W.Frag) (mg : Str → Option Value) (e_HangError e_NoMobile e_NoHall e_NoWeights e_NoWay e_NoNumber e_Never e_TooLong e_TooDeep : Addr) : Prop where
  mH : mg "HangError" = some (.ref e_HangError)
  mM : mg "NoMobile" = some (.ref e_NoMobile)
  mHa : mg "NoHall" = some (.ref e_NoHall)
  mW : mg "NoWeights" = some (.ref e_NoWeights)
  mWay : mg "NoWay" = some (.ref e_NoWay)
  mN : mg "NoNumber" = some (.ref e_NoNumber)
  mNv : mg "Never" = some (.ref e_Never)
  mL : mg "TooLong" = some (.ref e_TooLong)
  mD : mg "TooDeep" = some (.ref e_TooDeep)
  x : PySem.W.excIn K e_Never vErr "ValueError.__new__" = true
  xw : PySem.W.excIn K e_NoWeights vErr "ValueError.__new__" = true
  k : ExcK K e_Never
  em : PySem.W.exmOne K (.ref e_Never) (.ref e_HangError) = some true
  k1 : PySem.W.kitOne K (.ref e_Never) (.ref e_NoMobile) = some false
  k2 : PySem.W.kitOne K (.ref e_Never) (.ref e_NoHall) = some false
  k3 : PySem.W.kitOne K (.ref e_Never) (.ref e_NoWeights) = some false
  k4 : PySem.W.kitOne K (.ref e_Never) (.ref e_NoWay) = some false
  k5 : PySem.W.kitOne K (.ref e_Never) (.ref e_NoNumber) = some false
  k6 : PySem.W.kitOne K (.ref e_Never) (.ref e_Never) = some true
  k7 : PySem.W.kitOne K (.ref e_Never) (.ref e_TooLong) = some false
  k8 : PySem.W.kitOne K (.ref e_Never) (.ref e_TooDeep) = some false
  kv : PySem.W.kitOne K (.ref e_Never) (.type "ValueError") = some true
section
variable {P : Program} {w : World} {K : PySem.W.Frag} {mg : Str → Option Value} {base : Heap} {e_HangError e_NoMobile e_NoHall e_NoWeights e_NoWay e_NoNumber e_Never e_TooLong e_TooDeep : Addr}
def spWhich (e : Addr) : Sp := fun vs H Q _ => ∃ (a : Addr), vs = [.ref a] ∧ H a = some (excO a e) ∧ ∀ (p : Addr) H', Same H H' → H' p = some (.tup [.str "refused", .int 5]) → Q (.ref p) H'
theorem f_which (T : TopD K mg "_law_which" s__law_which p__law_which) (b_isinstance : mg "isinstance" = none) (b_ValueError : mg "ValueError" = none) (Z : ClsK K mg e_HangError e_NoMobile e_NoHall e_NoWeights e_NoWay e_NoNumber e_Never e_TooLong e_TooDeep) : FnH P w K mg base 1 "_law_which" p__law_which (spWhich e_Never) := by
  refine T.fnH sc__law_which (fun vs H Q E h => ?_) (fun f cdv A outer s H vs Q E hr h => ?_)
  · obtain ⟨a, rfl, _⟩ := h
    rfl
  obtain ⟨a, rfl, ha, q⟩ := h
  have nd := sc__law_which.nd
  obtain ⟨m_HangError, m_NoMobile, m_NoHall, m_NoWeights, m_NoWay, m_NoNumber, m_Never, m_TooLong, m_TooDeep, x, xw, Zk, em, k1, k2, k3, k4, k5, k6, k7, k8, kv⟩ := Z
  refine ⟨_, (pss_cons (ps_set (i := 1) nd rfl (by first | exact Or.inl rfl | exact Or.inr rfl) (pe_lst (pa_cons (pe_callB call_isE rfl b_isinstance boot_isinstance (pa_cons (pv 0) (pa_cons (pe_glob (v := .ref e_NoMobile) rfl m_NoMobile rfl) pa_nil))) (pa_cons (pe_callB call_isE rfl b_isinstance boot_isinstance (pa_cons (pv 0) (pa_cons (pe_glob (v := .ref e_NoHall) rfl m_NoHall rfl) pa_nil))) (pa_cons (pe_callB call_isE rfl b_isinstance boot_isinstance (pa_cons (pv 0) (pa_cons (pe_glob (v := .ref e_NoWeights) rfl m_NoWeights rfl) pa_nil))) (pa_cons (pe_callB call_isE rfl b_isinstance boot_isinstance (pa_cons (pv 0) (pa_cons (pe_glob (v := .ref e_NoWay) rfl m_NoWay rfl) pa_nil))) pa_nil))))))
    (pss_cons (ps_expr (pe_bm PySem.F.plainAttrs_list PySem.F.slot_list_extend PySem.F.type_list_extend mt_extend (pv 1) (pa_cons (pe_lst (pa_cons (pe_callB call_isE rfl b_isinstance boot_isinstance (pa_cons (pv 0) (pa_cons (pe_glob (v := .ref e_NoNumber) rfl m_NoNumber rfl) pa_nil))) (pa_cons (pe_callB call_isE rfl b_isinstance boot_isinstance (pa_cons (pv 0) (pa_cons (pe_glob (v := .ref e_Never) rfl m_Never rfl) pa_nil))) (pa_cons (pe_callB call_isE rfl b_isinstance boot_isinstance (pa_cons (pv 0) (pa_cons (pe_glob (v := .ref e_TooLong) rfl m_TooLong rfl) pa_nil))) (pa_cons (pe_callB call_isE rfl b_isinstance boot_isinstance (pa_cons (pv 0) (pa_cons (pe_glob (v := .ref e_TooDeep) rfl m_TooDeep rfl) pa_nil))) pa_nil))))) pa_nil)))
    (pss_cons (ps_if (PW.pt (pw_or (pt_cmpR op_ne (pe_bm PySem.F.plainAttrs_list PySem.F.slot_list_count PySem.F.type_list_count mt_count (pv 1) (pa_cons pe_bl pa_nil)) pe_int (nomark _)) (pw_or1 (pt_not (pt_val (pe_callB call_isE rfl b_isinstance boot_isinstance (pa_cons (pv 0) (pa_cons (pe_bltn (v := .ty "ValueError") rfl b_ValueError boot_ValueError rfl) pa_nil)))))))) (pss_one (ps_ret (pe_tup (pa_cons pe_str (pa_cons (pe_un un_neg pe_int) pa_nil))))) pss_nil)
    (pss_one (ps_ret (pe_tup (pa_cons pe_str (pa_cons (pe_bm PySem.F.plainAttrs_list PySem.F.slot_list_index PySem.F.type_list_index mt_index (pv 1) (pa_cons pe_bl pa_nil)) pa_nil)))))))), ?_⟩
  refine ⟨_, rfl, a, .ref e_NoMobile, e_Never, .ref e_NoMobile, _, rfl, fun _ r => r, ha, Zk, k1, ?_⟩
  refine ⟨_, rfl, a, .ref e_NoHall, e_Never, .ref e_NoHall, _, rfl, fun _ r => r, ha, Zk, k2, ?_⟩
  refine ⟨_, rfl, a, .ref e_NoWeights, e_Never, .ref e_NoWeights, _, rfl, fun _ r => r, ha, Zk, k3, ?_⟩
  refine ⟨_, rfl, a, .ref e_NoWay, e_Never, .ref e_NoWay, _, rfl, fun _ r => r, ha, Zk, k4, ?_⟩
  refine ⟨(by show 4 ≤ sizeLine; decide), fun l1 hl1 => ?_⟩
  have g1 := Same.new hl1 (.lst [.bl false, .bl false, .bl false, .bl false])
  have ha1 := g1 _ _ ha
  refine ⟨_, rfl, .inl ⟨rfl, _, SqL.of upd_same⟩, ?_⟩
  refine ⟨_, rfl, a, .ref e_NoNumber, e_Never, .ref e_NoNumber, _, rfl, fun _ r => r, ha1, Zk, k5, ?_⟩
  refine ⟨_, rfl, a, .ref e_Never, e_Never, .ref e_Never, _, rfl, fun _ r => r, ha1, Zk, k6, ?_⟩
  refine ⟨_, rfl, a, .ref e_TooLong, e_Never, .ref e_TooLong, _, rfl, fun _ r => r, ha1, Zk, k7, ?_⟩
  refine ⟨_, rfl, a, .ref e_TooDeep, e_Never, .ref e_TooDeep, _, rfl, fun _ r => r, ha1, Zk, k8, ?_⟩
  refine ⟨(by show 4 ≤ sizeLine; decide), fun l2 hl2 => ?_⟩
  have g2 := Same.new hl2 (.lst [.bl false, .bl true, .bl false, .bl false])
  refine ⟨l1, l2, [.bl false, .bl false, .bl false, .bl false], [.bl false, .bl true, .bl false, .bl false], rfl, rfl, g2 _ _ upd_same, upd_same, (by show 8 ≤ sizeLine; decide), ?_⟩
  have e3 : ([.bl false, .bl false, .bl false, .bl false] ++ [.bl false, .bl true, .bl false, .bl false] : List V) = ([false, false, false, false, false, true, false, false] : List Bool).map V.bl := rfl
  rw [e3]
  have g3 : Same H (upd (upd (upd H l1 (.lst [.bl false, .bl false, .bl false, .bl false])) l2 (.lst [.bl false, .bl true, .bl false, .bl false])) l1 (.lst (([false, false, false, false, false, true, false, false] : List Bool).map V.bl))) := fun b o e => by
    rw [upd_ne (ne_of_none e hl1)]
    exact g2 _ _ (g1 _ _ e)
  have ha3 := g3 _ _ ha
  refine ⟨_, rfl, .inl ⟨rfl, _, SqL.of upd_same⟩, l1, [false, false, false, false, false, true, false, false], true, rfl, rfl, upd_same, rfl, _, rfl, ?_⟩
  refine (if_neg (by decide)).mpr ?_
  refine ⟨_, rfl, a, .ty "ValueError", e_Never, .type "ValueError", _, rfl, fun _ r => r, ha3, Zk, kv, _, rfl, iteF ?_⟩
  refine ⟨_, rfl, .inl ⟨rfl, _, SqL.of upd_same⟩, l1, [false, false, false, false, false, true, false, false], true, 5, rfl, rfl, upd_same, rfl, fun j c hj hc => ?_, (by show 2 ≤ sizeLine; decide), fun p hp => ?_⟩
  · rcases j with _ | _ | _ | _ | _ | j
    · simp at hc; subst hc; decide
    · simp at hc; subst hc; decide
    · simp at hc; subst hc; decide
    · simp at hc; subst hc; decide
    · simp at hc; subst hc; decide
    · omega
  · exact q p _ (g3.trans (Same.new hp _)) upd_same
def refD : PyData := .tuple [.str "refused", .int 5]
def spAsk (K : PySem.W.Frag) : Sp := fun vs H Q _ => ∃ (v : V) (m : M), vs = [v] ∧ Dp K H v (mD m) ∧ Good 5 m ∧
  (barM [] (sh3 m "" 1) ≠ none → ∀ (r : V) H', Same H H' → Dp K H' r refD → Q r H') ∧
  (barM [] (sh3 m "" 1) = none → ∀ (l : Addr) (ts : List V) (ys : List Str) H', Same H H' → H l = none → H' l = some (.tup ts) → ys.Pairwise strLt → (∀ x, x ∈ ys ↔ x ∈ m.names) → DpAll K H' ts ((ys.zip (lw (ys.map (shr m)))).map pD) → Q (.ref l) H')
theorem f_ask (T : TopD K mg "_law_ask" s__law_ask p__law_ask) (Z : ClsK K mg e_HangError e_NoMobile e_NoHall e_NoWeights e_NoWay e_NoNumber e_Never e_TooLong e_TooDeep) (F_least : FnX P w K mg base 12 "least" p_least (spLeast K e_Never))
    (F__law_which : FnH P w K mg base 1 "_law_which" p__law_which (spWhich e_Never)) : Fn P w K mg base 13 "_law_ask" p__law_ask (spAsk K) := by
  have m_HangError := Z.mH
  refine T.fn sc__law_ask (fun vs H Q E h => ?_) (fun f cdv A outer s H vs Q E hr h => ?_)
  · obtain ⟨v, m, rfl, _⟩ := h
    rfl
  obtain ⟨v, m, rfl, hD, hg, q1, q2⟩ := h
  have nd := sc__law_ask.nd
  refine ⟨_, (pss_one (ps_try (i := 1) rfl rfl rfl nd rfl rfl m_HangError (fun pn E Ex hx => (pss_one (ps_ret (pe_callX F_least (hr.mono (by omega)) hx (pa_cons (pv 0) pa_nil))))) (fun e => (pss_one (ps_ret (pe_callH F__law_which (RoomH.of (hr.mono (by omega))) (pa_cons (pv 1) pa_nil))))))), ?_⟩
  intro pn E'
  refine ⟨_, rfl, v, m, rfl, hD, hg, fun H' g => ⟨fun no => ?_, fun yes l ts ys nl el hpw hmem dts => q2 yes l ts ys H' g nl el hpw hmem dts⟩⟩
  refine ⟨e_Never, rfl, Z.em, fun a σ' hσ ha => ?_⟩
  refine ⟨.ref a, by rw [List.getElem?_set_self (by rw [hσ]; show 1 < 2; decide)], a, rfl, upd_same, fun p H'' g3 ep => ?_⟩
  exact q1 no _ _ (g.trans ((Same.new ha _).trans g3)) (.tup (SqT.of ep) (.cons (.str _) (.cons (.int _) .nil)))
end
end My
namespace My
open PySem PySem.Spec PyProof.Rows L2 MA
theorem ld_wgt (f : Str → Int) : ∀ m : M, ((ld f m : Int) : Rat) = m.wgt (fun x => (f x : Rat))
  | .wt n => rfl
  | .rod _ _ a b => by
    show ((ld f a + ld f b : Int) : Rat) = _
    rw [Rat.intCast_add, ld_wgt f a, ld_wgt f b]
    rfl
theorem here_nil {w : Str} {x y : Int} : here w x y = [] ↔ x = y := by
  unfold here
  constructor
  · intro h
    by_cases h1 : y < x
    · rw [if_pos h1] at h; cases h
    · rw [if_neg h1] at h
      by_cases h2 : x < y
      · rw [if_pos h2] at h; cases h
      · omega
  · rintro rfl
    rw [if_neg (Int.lt_irrefl _), if_neg (Int.lt_irrefl _)]
theorem tp_still (f : Str → Int) : ∀ (m : M) (w : Str), tp f m w = [] ↔ m.still (fun x => (f x : Rat))
  | .wt n, w => by simp [tp, Mob.still]
  | .rod l r a b, w => by
    show (here w (l * ld f a) (r * ld f b) ++ tp f a _ ++ tp f b _ = []) ↔ ((l : Rat) * a.wgt _ = (r : Rat) * b.wgt _ ∧ a.still _ ∧ b.still _)
    rw [List.append_eq_nil_iff, List.append_eq_nil_iff, here_nil, tp_still f a, tp_still f b, ← ld_wgt, ← ld_wgt, ← Rat.intCast_mul, ← Rat.intCast_mul, and_assoc]
    constructor
    · rintro ⟨h1, h2⟩
      exact ⟨by rw [h1], h2⟩
    · rintro ⟨h1, h2⟩
      exact ⟨by exact_mod_cast h1, h2⟩
theorem tp_prop {f : Str → Int} {s : Str → Rat} {m : M} (ha : m.arms) (hs : m.names.map s = m.sh 1) : tp f m "" = [] ↔ ∃ c : Rat, ∀ x ∈ m.names, (f x : Rat) = c * s x := by
  rw [tp_still]
  exact Mob.still_prop ha hs
theorem tp_bar {f : Str → Int} {m : M} (ha : m.arms) (hb : barM [] (sh3 m "" 1) ≠ none) (hp : ∀ x ∈ m.names, 1 ≤ f x) (h5 : m.deep ≤ 5) : tp f m "" ≠ [] := by
  intro h
  have hst := (tp_still f m "").mp h
  have hw : m.wgt (fun x => (f x : Rat)) ≠ 0 := by
    rw [← ld_wgt]
    intro z
    have z' : ld f m = 0 := by exact_mod_cast z
    have e := ld_sum f m
    rw [z'] at e
    have pos : ∀ (xs : List Str), xs ≠ [] → (∀ x ∈ xs, 1 ≤ f x) → 0 < (xs.map f).sum := by
      intro xs
      induction xs with
      | nil => intro h _; exact absurd rfl h
      | cons x r ih =>
        intro _ hx
        rw [List.map_cons, List.sum_cons]
        have h1 := hx x (by simp)
        by_cases hr : r = []
        · subst hr; simp; omega
        · have := ih hr fun y hy => hx y (List.mem_cons_of_mem _ hy)
          omega
    have hne : m.names ≠ [] := fun z => by
      have := Mob.names_pos m
      rw [z] at this
      simp at this
    have := pos m.names hne hp
    omega
  exact hb (one_bar.mp ⟨_, Mob.still_one ha hw hst⟩)
theorem prop_dvd {ns : List Str} {B D : Str → Int} {f : Str} (hf : f ∈ ns) (hB : ∀ x ∈ ns, 1 ≤ B x) (hg : ∀ k : Int, (∀ x ∈ ns, k ∣ B x) → k ∣ 1) (h : ∀ x ∈ ns, D x * B f = B x * D f) : B f ∣ D f := by
  have hb := hB f hf
  have g0 : 0 < (Int.gcd (B f) (D f) : Int) := by
    have : 0 < Int.gcd (B f) (D f) := Int.gcd_pos_of_ne_zero_left _ (by omega)
    omega
  obtain ⟨b', eb⟩ := Int.gcd_dvd_left (B f) (D f)
  obtain ⟨d', ed⟩ := Int.gcd_dvd_right (B f) (D f)
  have cop : Int.gcd b' d' = 1 := by
    have e : Int.gcd ((Int.gcd (B f) (D f) : Int) * b') ((Int.gcd (B f) (D f) : Int) * d') = Int.gcd (B f) (D f) * Int.gcd b' d' := by
      rw [Int.gcd_mul_left]; simp
    rw [← eb, ← ed] at e
    have g1 : 0 < Int.gcd (B f) (D f) := by omega
    exact (Nat.eq_of_mul_eq_mul_left g1 (by rw [Nat.mul_one]; exact e)).symm
  have hd : ∀ x ∈ ns, b' ∣ B x := fun x hx => by
    have e := h x hx
    have e2 : (Int.gcd (B f) (D f) : Int) * (D x * b') = (Int.gcd (B f) (D f) : Int) * (B x * d') := by
      have e3 : D x * ((Int.gcd (B f) (D f) : Int) * b') = B x * ((Int.gcd (B f) (D f) : Int) * d') := by rw [← eb, ← ed]; exact e
      rw [Int.mul_left_comm, e3, Int.mul_left_comm]
    have e4 : D x * b' = B x * d' := Int.eq_of_mul_eq_mul_left (by omega) e2
    have h1 : b' ∣ B x * d' := ⟨D x, by rw [← e4, Int.mul_comm]⟩
    have h2 : b'.natAbs ∣ (B x).natAbs * d'.natAbs := by rw [← Int.natAbs_mul]; exact Int.natAbs_dvd_natAbs.mpr h1
    have cop' : Nat.Coprime b'.natAbs d'.natAbs := cop
    exact Int.natAbs_dvd_natAbs.mp (cop'.dvd_of_dvd_mul_right h2)
  obtain ⟨u, hu⟩ := hg b' hd
  refine ⟨u * d', ?_⟩
  generalize (Int.gcd (B f) (D f) : Int) = g at *
  have e1 : B f * (u * d') = g * d' * (b' * u) := by rw [eb]; grind
  rw [e1, ← hu, Int.mul_one]
  exact ed
structure Lst (m : M) (s : Str → Rat) (B : Str → Int) : Prop where
  pos : ∀ x ∈ m.names, 1 ≤ B x
  gcd : ∀ k : Int, (∀ x ∈ m.names, k ∣ B x) → k ∣ 1
  prop : ∃ c : Rat, 0 < c ∧ ∀ x ∈ m.names, (B x : Rat) = c * s x
section
variable {m : M} {s : Str → Rat} {B : Str → Int}
theorem Lst.still (L : Lst m s B) (ha : m.arms) (hs : m.names.map s = m.sh 1) : tp B m "" = [] := by
  obtain ⟨c, _, h⟩ := L.prop
  exact (tp_prop ha hs).mpr ⟨c, h⟩
theorem Lst.times (L : Lst m s B) (ha : m.arms) (hs : m.names.map s = m.sh 1) {G : Str → Int} {n : Int} (hG : ∀ x ∈ m.names, G x = n * B x) : tp G m "" = [] := by
  obtain ⟨c, _, h⟩ := L.prop
  refine (tp_prop ha hs).mpr ⟨(n : Rat) * c, fun x hx => ?_⟩
  rw [hG x hx, Rat.intCast_mul, h x hx]
  grind
theorem Lst.iff (L : Lst m s B) (ha : m.arms) (hs : m.names.map s = m.sh 1) {D : Str → Int} {f : Str} (hf : f ∈ m.names) : tp D m "" = [] ↔ (D f % B f = 0 ∧ ∀ x ∈ m.names, D x * B f = B x * D f) := by
  obtain ⟨c, hc, hB⟩ := L.prop
  rw [tp_prop ha hs]
  constructor
  · rintro ⟨c', hD⟩
    have key : ∀ x ∈ m.names, D x * B f = B x * D f := fun x hx => by
      have : ((D x * B f : Int) : Rat) = ((B x * D f : Int) : Rat) := by
        rw [Rat.intCast_mul, Rat.intCast_mul, hD x hx, hB f hf, hB x hx, hD f hf]
        grind
      exact_mod_cast this
    exact ⟨Int.emod_eq_zero_of_dvd (prop_dvd hf L.pos L.gcd key), key⟩
  · rintro ⟨_, key⟩
    have hbf : (B f : Rat) ≠ 0 := cast_ne (by have := L.pos f hf; omega)
    refine ⟨(D f : Rat) * c / (B f : Rat), fun x hx => ?_⟩
    have e : ((D x : Int) : Rat) * (B f : Rat) = (B x : Rat) * (D f : Rat) := by
      rw [← Rat.intCast_mul, ← Rat.intCast_mul, key x hx]
    rw [hB x hx] at e
    grind
theorem Lst.other (L : Lst m s B) (ha : m.arms) (hs : m.names.map s = m.sh 1) {O : Str → Int} {n : Int} {l : Str} (hl : l ∈ m.names) (hO : ∀ x ∈ m.names, x ≠ l → O x = n * B x) (hOl : O l = n * B l + 1) :
    tp O m "" = [] ↔ ∀ x ∈ m.names, x = l := by
  obtain ⟨c, hc, hB⟩ := L.prop
  have spos : ∀ x ∈ m.names, s x ≠ 0 := fun x hx z => by
    have := hB x hx
    rw [z] at this
    have e0 : (B x : Rat) = 0 := by rw [this]; grind
    have : B x = 0 := by exact_mod_cast e0
    have := L.pos x hx
    omega
  rw [tp_prop ha hs]
  constructor
  · rintro ⟨c', h⟩ x hx
    by_cases e : x = l
    · exact e
    · exfalso
      have h1 := h x hx
      have h2 := h l hl
      rw [hO x hx e, Rat.intCast_mul, hB x hx] at h1
      rw [hOl, Rat.intCast_add, Rat.intCast_mul, hB l hl] at h2
      have sx := spos x hx
      have e1 : c' = (n : Rat) * c := by grind
      rw [e1] at h2
      have : ((1 : Int) : Rat) = 0 := by grind
      exact absurd this (by decide)
  · intro h
    refine ⟨(O l : Rat) / s l, fun x hx => ?_⟩
    rw [h x hx]
    have := spos l hl
    grind
end
theorem put_new_all : ∀ (ps acc : List (Key × V)), ((acc ++ ps).map (·.1)).Nodup → ps.foldl (fun acc p => putK acc p.1 p.2) acc = acc ++ ps
  | [], acc, _ => by simp
  | p :: r, acc, h => by
    have hn : valV acc p.1 = none := by
      have hp : p.1 ∉ acc.map (·.1) := fun z => by
        rw [List.map_append, List.nodup_append] at h
        exact h.2.2 _ z _ (by simp) rfl
      unfold valV
      cases e : acc.find? fun kv => decide (kv.1 = p.1) with
      | none => rfl
      | some q =>
        have h1 := List.mem_of_find?_eq_some e
        have h2 := List.find?_some e
        exact absurd (List.mem_map.mpr ⟨q, h1, by simpa using h2⟩) hp
    rw [List.foldl_cons, putK_new p.2 hn, put_new_all r (acc ++ [(p.1, p.2)]) (by simpa using h)]
    simp
theorem bk_rows {rs : List (Str × Int)} (h : (rs.map (·.1)).Nodup) : bkOf (rs.map pD) = rs.map (fun r => ((Sum.inr r.1 : Key), V.int r.2)) := by
  have e : (rs.map pD).map pairOf = rs.map (fun r => ((Sum.inr r.1 : Key), V.int r.2)) := by rw [List.map_map]; rfl
  unfold bkOf L2.putAll
  rw [e, put_new_all _ [] (by
    rw [List.nil_append, List.map_map]
    have : (rs.map ((fun x => x.1) ∘ fun r => ((Sum.inr r.1 : Key), V.int r.2))) = (rs.map (·.1)).map Sum.inr := by rw [List.map_map]; rfl
    rw [this]
    exact h.map _ (fun a b hab z => hab (Sum.inr.inj z)))]
  simp
theorem fB_row {rs : List (Str × Int)} (h : (rs.map (·.1)).Nodup) {r : Str × Int} (hr : r ∈ rs) : valV (bkOf (rs.map pD)) (Sum.inr r.1) = some (.int r.2) ∧ fB (rs.map pD) r.1 = r.2 := by
  have key : valV (bkOf (rs.map pD)) (Sum.inr r.1) = some (.int r.2) := by
    rw [bk_rows h]
    induction rs with
    | nil => simp at hr
    | cons q t ih =>
      rw [List.map_cons, List.nodup_cons] at h
      rcases List.mem_cons.mp hr with e | e
      · subst e
        rw [List.map_cons]
        exact valV_pos rfl
      · rw [List.map_cons, valV_neg (fun z => h.1 (by rw [Sum.inr.inj z]; exact List.mem_map.mpr ⟨r, e, rfl⟩))]
        exact ih h.2 e
  refine ⟨key, ?_⟩
  unfold fB
  rw [key]
section
variable {K : PySem.W.Frag} {H : Hp}
theorem pairs_rows {ts : List V} {rs : List (Str × Int)} (h : DpAll K H ts (rs.map pD)) : Pairs K H ts ((rs.map pD).map pairOf) := by
  refine ⟨by rw [h.len, List.length_map, List.length_map, List.length_map], fun i x p hx hp => ?_⟩
  obtain ⟨d, hd, hxd⟩ := L2.DpAll.get h hx
  rw [List.getElem?_map, hd] at hp
  cases hp
  rw [List.getElem?_map] at hd
  cases e : rs[i]? with
  | none => rw [e] at hd; cases hd
  | some r =>
    rw [e] at hd
    cases hd
    obtain ⟨t, rfl, ht⟩ := pair2I (show Dp K H x (.tuple [.str r.1, .int r.2]) from hxd)
    exact ⟨t, rfl, ht⟩
theorem wt_rows {a : Addr} {ts : List V} {rs : List (Str × Int)} (e : H a = some (.tup ts)) (d : DpAll K H ts (rs.map pD)) (hl : rs.length ≤ 40) (hok : ∀ r ∈ rs, ROk r) : Wt K H (.ref a) (.tuple (rs.map pD)) := by
  refine ⟨.tup (SqT.of e) d, wSm_of (by rw [List.length_map]; omega) fun p hp => ?_, fun ds z => ?_⟩
  · obtain ⟨r, hr, rfl⟩ := List.mem_map.mp hp
    exact sm1_pD (hok r hr)
  · cases z
    exact ⟨a, ts, rfl, e, d⟩
end
theorem zip_fst {ys : List Str} {ks : List Int} (h : ks.length = ys.length) : (ys.zip ks).map (·.1) = ys := by
  rw [show (fun x : Str × Int => x.1) = Prod.fst from rfl, List.map_fst_zip (by omega)]
theorem zip_snd {ys : List Str} {ks : List Int} (h : ks.length = ys.length) : (ys.zip ks).map (·.2) = ks := by
  rw [show (fun x : Str × Int => x.2) = Prod.snd from rfl, List.map_snd_zip (by omega)]
theorem lst_of {m : M} (hg : Good 5 m) (hb : barM [] (sh3 m "" 1) = none) {ys : List Str} (hpw : ys.Pairwise strLt) (hmem : ∀ x, x ∈ ys ↔ x ∈ m.names) : Lst m (shr m) (fB ((ys.zip (lw (ys.map (shr m)))).map pD)) := by
  have hl : (lw (ys.map (shr m))).length = ys.length := by rw [lw_len, List.length_map]
  have hnd : ((ys.zip (lw (ys.map (shr m)))).map (·.1)).Nodup := by rw [zip_fst hl]; exact rise_nodup hpw
  have hp : ∀ x ∈ ys.map (shr m), 0 < x := fun x hx => by
    obtain ⟨y, hy, rfl⟩ := List.mem_map.mp hx
    exact (shr_fok hg hb ((hmem y).mp hy)).pos
  have hne : ys.map (shr m) ≠ [] := fun z => by
    have z' : ys = [] := by simpa using z
    have hpos := Mob.names_pos m
    cases e : m.names with
    | nil => rw [e] at hpos; simp at hpos
    | cons n r =>
      have := (hmem n).mpr (by rw [e]; simp)
      rw [z'] at this
      simp at this
  have row : ∀ x ∈ m.names, ∃ i, ∃ k, ys[i]? = some x ∧ (lw (ys.map (shr m)))[i]? = some k ∧ fB ((ys.zip (lw (ys.map (shr m)))).map pD) x = k := fun x hx => by
    obtain ⟨i, hi, e⟩ := List.getElem_of_mem ((hmem x).mpr hx)
    have e1 : ys[i]? = some x := by rw [List.getElem?_eq_getElem hi, e]
    have e2 : (lw (ys.map (shr m)))[i]? = some ((lw (ys.map (shr m)))[i]'(by omega)) := List.getElem?_eq_getElem _
    have ez : (ys.zip (lw (ys.map (shr m))))[i]? = some (x, (lw (ys.map (shr m)))[i]'(by omega)) := List.getElem?_zip_eq_some.mpr ⟨e1, e2⟩
    exact ⟨i, _, e1, e2, (fB_row hnd (List.mem_of_getElem? ez)).2⟩
  refine ⟨fun x hx => ?_, fun k hk => ?_, ?_⟩
  · obtain ⟨i, k, _, e2, e3⟩ := row x hx
    rw [e3]
    exact lw_pos hp k (List.mem_of_getElem? e2)
  · refine lw_gcd hp hne fun n hn => ?_
    obtain ⟨i, hi, e⟩ := List.getElem_of_mem hn
    have hx : ys[i]? = some (ys[i]'(by omega)) := List.getElem?_eq_getElem _
    have ez : (ys.zip (lw (ys.map (shr m))))[i]? = some (ys[i]'(by omega), n) := List.getElem?_zip_eq_some.mpr ⟨hx, by rw [List.getElem?_eq_getElem hi, e]⟩
    have := hk _ ((hmem _).mp (List.mem_of_getElem? hx))
    rw [(fB_row hnd (List.mem_of_getElem? ez)).2] at this
    exact this
  · obtain ⟨c, hc, e⟩ := lw_prop hp hne
    refine ⟨c, hc, fun x hx => ?_⟩
    obtain ⟨i, k, e1, e2, e3⟩ := row x hx
    rw [e3]
    have z := congrArg (fun l => l[i]?) e
    simp only [List.getElem?_map, e2, e1, Option.map_some] at z
    exact Option.some.inj z
end My
namespace My
open PySem PySem.Spec PyProof.Rows L2 MA
theorem atI_last {α : Type} {xs : List α} {v : α} (h : xs[xs.length - 1]? = some v) : atI xs (-1) = some v := by
  have hj : xs.length - 1 < xs.length := (List.getElem?_eq_some_iff.mp h).1
  unfold atI
  have e : ixN xs.length (-1) = some (xs.length - 1) := by
    unfold ixN
    rw [if_neg (by omega), if_pos (by omega)]
    congr 1
    omega
  rw [e]
  exact h
theorem cutV_init {xs : List V} (h : 0 < xs.length) : cutV xs none (some (-1)) = xs.take (xs.length - 1) := by
  have e : ((-1 : Int) + (xs.length : Int)).toNat = xs.length - 1 := by omega
  unfold cutV HT.sIx
  simp only
  rw [if_pos (by decide), e, List.drop_zero, Nat.sub_zero]
abbrev lawX (P : Program) (w : World) (K : PySem.W.Frag) (mg : Str → Option Value) (base : Heap) (f : Addr) (cdv : Value) (A : Around) (outer : List Env) (s : Shared) (H : Hp) (E : XK) : Cx := (cxOf CX0 P w K mg base n_law "law" (defScope s_law) f cdv A outer s H E).nox
structure Rw (K : PySem.W.Frag) (H : Hp) (ys : List Str) (p : Addr) (ts : List V) (rs : List (Str × Int)) : Prop where
  lies : H p = some (.tup ts)
  dp : DpAll K H ts (rs.map pD)
  nm : rs.map (·.1) = ys
  ok : ∀ r ∈ rs, ROk r
theorem Rw.same {K : PySem.W.Frag} {H H' : Hp} {ys : List Str} {p : Addr} {ts : List V} {rs : List (Str × Int)} (h : Rw K H ys p ts rs) (g : Same H H') : Rw K H' ys p ts rs := ⟨g _ _ h.lies, DpAll.same g _ _ h.dp, h.nm, h.ok⟩
structure Nms (H : Hp) (m : M) (nh : Addr) (ys : List Str) : Prop where
  lies : H nh = some (.lst (ys.map V.str))
  rise : ys.Pairwise strLt
  mem : ∀ x, x ∈ ys ↔ x ∈ m.names
  len : ys.length ≤ 32
theorem Nms.same {H H' : Hp} {m : M} {nh : Addr} {ys : List Str} (h : Nms H m nh ys) (g : Same H H') : Nms H' m nh ys := ⟨g _ _ h.lies, h.rise, h.mem, h.len⟩
theorem Nms.ne {H : Hp} {m : M} {nh : Addr} {ys : List Str} (h : Nms H m nh ys) : ys ≠ [] := fun z => by
  have hp := Mob.names_pos m
  cases e : m.names with
  | nil => rw [e] at hp; simp at hp
  | cons n r =>
    have := (h.mem n).mpr (by rw [e]; simp)
    rw [z] at this
    simp at this
section
variable {K : PySem.W.Frag} {H : Hp} {m : M} {nh p : Addr} {ys : List Str} {ts : List V} {rs : List (Str × Int)}
theorem Rw.len (R : Rw K H ys p ts rs) : rs.length = ys.length := by
  have := congrArg List.length R.nm
  rwa [List.length_map] at this
theorem Rw.ok1 (R : Rw K H ys p ts rs) (N : Nms H m nh ys) : okW (.tuple (rs.map pD)) m = true := ok_rows R.ok (by rw [R.nm]; exact N.rise) fun x hx => by rw [R.nm]; exact (N.mem x).mpr hx
theorem Rw.wt (R : Rw K H ys p ts rs) (N : Nms H m nh ys) : Wt K H (.ref p) (.tuple (rs.map pD)) := wt_rows R.lies R.dp (by rw [R.len]; have := N.len; omega) R.ok
theorem Rw.nd (R : Rw K H ys p ts rs) (N : Nms H m nh ys) : (rs.map (·.1)).Nodup := by rw [R.nm]; exact rise_nodup N.rise
end
section
variable {P : Program} {w : World} {K : PySem.W.Frag} {mg : Str → Option Value} {base : Heap} {e_NoWeights : Addr}
theorem tailE (b_len : mg "len" = none) (F_is_still : FnX P w K mg base 16 "is_still" p_is_still (spStill K e_NoWeights))
    (f : Addr) (cdv : Value) (A : Around) (outer : List Env) (s : Shared) (H0 : Hp) (E : XK) (hr : Room 16 (A.deeper (envOfC "law" (defScope s_law) s.heap.objs.size f cdv))) :
    ∃ tt, PSs (lawX P w K mg base f cdv A outer s H0 E) ((defBody s_law).drop 20) tt ∧ ∀ (Dn : Ends) (v : V) (m : M) (nh dp gp : Addr) (ys : List Str) (td tg : List V) (rd rg : List (Str × Int)) (B : Str → Int) (n : Int) (b : Bool) (o0 o1 o5 o6 o7 o8 o9 o10 o11 o13 o14 o16 : Option V) (H : Hp), Dp K H v (mD m) → Good 5 m → Nms H m nh ys → Rw K H ys dp td rd → Rw K H ys gp tg rg →
      barM [] (sh3 m "" 1) = none → Lst m (shr m) B → (∀ r ∈ rg, r.2 = n * B r.1 ∧ r.2 + 1 ≤ 999999) → b = decide (tp (fB (rd.map pD)) m "" = []) → (∀ H', Dn.rt (.bl true) H') →
      tt Dn [o0, o1, some v, some (.ref nh), some (.ref dp), o5, o6, o7, o8, o9, o10, o11, some (.ref gp), o13, o14, some (.bl b), o16] H := by
  have nd := sc_law.nd
  refine ⟨_, (pss_cons (ps_if (pt_cmpR op_ne (pe_callX F_is_still (hr.mono (by omega)) passNo (pa_cons (pv 2) (pa_cons (pv 4) pa_nil))) (pv 15) (nomark _)) (pss_one (ps_ret pe_bl)) pss_nil)
    (pss_cons (ps_set (i := 10) nd rfl (by first | exact Or.inl rfl | exact Or.inr rfl) (pe_op op_catA (pe_slice sl_tup (pv 12) po_none (po_some (pe_un un_neg pe_int))) (pe_tup (pa_cons (pe_tup (pa_cons (pe_ix ix_list (pv 3) (pe_un un_neg pe_int) (fun _ _ => rfl)) (pa_cons (pe_op op_add (pe_ix ix_tup (pe_ix ix_tup (pv 12) (pe_un un_neg pe_int) (fun _ _ => rfl)) pe_int (fun _ _ => rfl)) pe_int) pa_nil))) pa_nil))))
    (pss_one (ps_ret (pe_cmpR op_eq (pe_callX F_is_still (hr.mono (by omega)) passNo (pa_cons (pv 2) (pa_cons (pv 10) pa_nil))) (pe_cmpR op_eq (pe_callB call_len rfl b_len PySem.boot_len (pa_cons (pv 3) pa_nil)) pe_int (nomark _)) (nomark _)))))), fun Dn v m nh dp gp ys td tg rd rg B n b o0 o1 o5 o6 o7 o8 o9 o10 o11 o13 o14 o16 H hD hg N RD RG hb L hrg hbb q => ?_⟩
  have hs := (shr_ok hb).2
  refine ⟨_, rfl, _, rfl, v, m, .ref dp, .tuple (rd.map pD), rfl, hD, hg, RD.wt N, fun H1 g1 => ?_⟩
  rw [if_pos (RD.ok1 N)]
  refine ⟨_, rfl, rfl, _, rfl, ?_⟩
  rw [show decide (tp (fB (dsOf (.tuple (rd.map pD)))) m "" = []) = b from hbb.symm]
  refine (if_neg (by simp)).mpr ?_
  have N1 := N.same g1
  have RG1 := RG.same g1
  have hlen : rg.length = ys.length := RG.len
  have htl : tg.length = rg.length := by rw [RG.dp.len, List.length_map]
  have hpos : 0 < ys.length := List.length_pos_iff.mpr N.ne
  have hy32 := N.len
  obtain ⟨ln, hln⟩ : ∃ x, ys[ys.length - 1]? = some x := ⟨_, List.getElem?_eq_getElem (by omega)⟩
  obtain ⟨lr, hlr⟩ : ∃ x, rg[ys.length - 1]? = some x := ⟨_, List.getElem?_eq_getElem (by omega)⟩
  have hlr1 : lr.1 = ln := by
    have e : (rg.map (·.1))[ys.length - 1]? = some lr.1 := by rw [List.getElem?_map, hlr]; rfl
    rw [RG.nm, hln] at e
    exact (Option.some.inj e).symm
  obtain ⟨xg, hxg, dxg⟩ := L2.DpAll.get' RG1.dp (i := ys.length - 1) (d := pD lr) (by rw [List.getElem?_map, hlr]; rfl)
  obtain ⟨pg, rfl, hpg⟩ := pair2I (show Dp K H1 xg (.tuple [.str lr.1, .int lr.2]) from dxg)
  refine ⟨_, rfl, _, rfl, _, rfl, gp, tg, rfl, SqT.of RG1.lies, ?_, fun pa hpa => ?_⟩
  · rintro ⟨_, z⟩
    have z' : ((-1 : Int) + (tg.length : Int)).toNat = tg.length := z
    omega
  rw [show (-(1 : Int)) = -1 from rfl, cutV_init (by omega)]
  have s2 := Same.new hpa (.tup (tg.take (tg.length - 1)))
  refine ⟨_, rfl, _, rfl, nh, _, _, .str ln, rfl, rfl, SqL.of (s2 _ _ N1.lies), atI_last (by rw [List.length_map, List.getElem?_map, hln]; rfl), ?_⟩
  refine ⟨_, rfl, _, rfl, gp, tg, _, .ref pg, rfl, rfl, SqT.of (s2 _ _ RG1.lies), atI_last (by rw [htl, hlen]; exact hxg), pg, _, _, _, rfl, rfl, hpg.same s2, atI_nat (j := 1) rfl, _, _, rfl, rfl, (by show 2 ≤ sizeLine; decide), fun q1 hq1 => ⟨(by show 1 ≤ sizeLine; decide), fun w1 hw1 => ?_⟩⟩
  have s3 := Same.new hq1 (.tup [.str ln, .int (lr.2 + 1)])
  have s4 := Same.new hw1 (.tup [.ref q1])
  refine catA_use ((s3.trans s4) _ _ upd_same) upd_same (by rw [List.length_take, List.length_singleton]; exact Nat.le_of_lt (small1000 (by omega))) fun po H5 g5 e5 => ?_
  have G := s2.trans ((s3.trans s4).trans g5)
  have N5 := N1.same G
  have eq1 : H5 q1 = some (.tup [.str ln, .int (lr.2 + 1)]) := (s4.trans g5) _ _ upd_same
  have hrglr := hrg lr (List.mem_of_getElem? hlr)
  have hlrok := RG.ok lr (List.mem_of_getElem? hlr)
  have hy : ys.take (ys.length - 1) ++ [ln] = ys := by
    have e : ys.take (ys.length - 1 + 1) = ys.take (ys.length - 1) ++ [ln] := by rw [List.take_add_one, hln]; rfl
    rw [← e, Nat.sub_add_cancel (by omega), List.take_length]
  have RO : Rw K H5 ys po (tg.take (tg.length - 1) ++ [.ref q1]) (rg.take (ys.length - 1) ++ [(ln, lr.2 + 1)]) := by
    refine ⟨e5, ?_, ?_, fun r hr => ?_⟩
    · rw [List.map_append, List.map_take, htl, hlen]
      exact (DpAll.takeD (DpAll.same G _ _ RG1.dp) _).app (.cons (.tup (SqT.of eq1) (.cons (.str _) (.cons (.int _) .nil))) .nil)
    · rw [List.map_append, List.map_take, RG.nm]
      exact hy
    · rcases List.mem_append.mp hr with h | h
      · exact RG.ok r (List.mem_of_mem_take h)
      · rw [List.mem_singleton.mp h]
        exact ⟨by rw [← hlr1]; exact hlrok.nm, by show 1 ≤ lr.2 + 1; have := hlrok.lo; omega, hrglr.2⟩
  refine ⟨_, rfl, _, rfl, v, m, .ref po, .tuple ((rg.take (ys.length - 1) ++ [(ln, lr.2 + 1)]).map pD), rfl, Dp.same (g1.trans G) _ _ hD, hg, RO.wt N5, fun H6 g6 => ?_⟩
  rw [if_pos (RO.ok1 N5)]
  refine ⟨_, rfl, _, _, rfl, .inl ⟨_, SqL.of (g6 _ _ N5.lies), rfl⟩, rfl, rfl, ?_⟩
  have hlm : ln ∈ m.names := (N.mem ln).mp (List.mem_of_getElem? hln)
  have rowsO := RO.nd N5
  have key := L.other hg.arms hs (O := fB ((rg.take (ys.length - 1) ++ [(ln, lr.2 + 1)]).map pD)) (n := n) hlm (fun x hx hne => by
    have hxy := (N.mem x).mpr hx
    rw [← hy] at hxy
    rcases List.mem_append.mp hxy with h | h
    · have h : x ∈ (rg.take (ys.length - 1)).map (·.1) := by rw [List.map_take, RG.nm]; exact h
      obtain ⟨r, hr, rfl⟩ := List.mem_map.mp h
      rw [(fB_row rowsO (List.mem_append_left _ hr)).2]
      exact (hrg r (List.mem_of_mem_take hr)).1
    · exact absurd (List.mem_singleton.mp h) hne) (by
    have := (fB_row rowsO (r := (ln, lr.2 + 1)) (List.mem_append_right _ (by simp))).2
    rw [this]
    have := hrglr.1
    rw [hlr1] at this
    show lr.2 + 1 = n * B ln + 1
    rw [this])
  have one : (∀ x ∈ m.names, x = ln) ↔ ys.length = 1 := by
    constructor
    · intro h
      rcases Nat.lt_or_ge 1 ys.length with z | z
      · exfalso
        have e0 : ys[0]? = some ys[0] := List.getElem?_eq_getElem (by omega)
        have h0 := h _ ((N.mem _).mp (List.getElem_mem (show 0 < ys.length by omega)))
        have nd1 := rise_nodup N.rise
        have e1 : ys[ys.length - 1]'(by omega) = ln := (List.getElem?_eq_some_iff.mp hln).2
        have := (List.getElem_inj (xs := ys) (i := 0) (j := ys.length - 1) (h₀ := by omega) (h₁ := by omega) nd1).mp (by rw [h0, e1])
        omega
      · omega
    · intro h x hx
      have hxy := (N.mem x).mpr hx
      match ys, h, hxy, hln with
      | [y], _, hxy, hln =>
        have e1 : x = y := by simpa using hxy
        have e2 : y = ln := by simpa using hln
        rw [e1, e2]
  have fin : decide (V.bl (decide (tp (fB (dsOf (.tuple ((rg.take (ys.length - 1) ++ [(ln, lr.2 + 1)]).map pD)))) m "" = [])) = V.bl (decide (V.int ((ys.map V.str).length : Int) = V.int 1))) = true := by
    rw [decide_eq_true_eq]
    congr 1
    rw [Bool.eq_iff_iff, decide_eq_true_eq, decide_eq_true_eq, V.int.injEq, List.length_map]
    show tp (fB ((rg.take (ys.length - 1) ++ [(ln, lr.2 + 1)]).map pD)) m "" = [] ↔ _
    rw [key, one]
    omega
  rw [fin]
  exact q _
end
end My
namespace My
open PySem PySem.Spec PyProof.Rows L2 MA
theorem ints_lay : ∀ ns : List Int, PyData.canLayAll0 (ns.map PyData.int) = true
  | [] => by simp [PyData.canLayAll0]
  | n :: r => by
    have := ints_lay r
    simp [PyData.canLayAll0, PyData.canLay0, this]
theorem ints_lay0 (ns : List Int) : (PyData.list (ns.map PyData.int)).canLay0 = true := by simpa [PyData.canLay0] using ints_lay ns
theorem ints_noB : ∀ ns : List Int, noBs (ns.map PyData.int) = true
  | [] => by simp [noBs]
  | n :: r => by simp [noBs, noB, ints_noB r]
theorem ints_depth : ∀ ns : List Int, PyData.depthAll (ns.map PyData.int) = 0
  | [] => by simp [PyData.depthAll]
  | n :: r => by simp [PyData.depthAll, PyData.depth, ints_depth r]
theorem ints_eqv (xs ys : List Int) : PyData.eqv (.list (xs.map PyData.int)) (.list (ys.map PyData.int)) = decide (xs = ys) := by
  rw [Bool.eq_iff_iff, eqv_iff _ _ (by simpa [noB] using ints_noB xs) (by simpa [noB] using ints_noB ys), decide_eq_true_eq]
  constructor
  · intro h
    injection h with h
    exact (List.map_inj_right (fun a b e => by injection e)).mp h
  · rintro rfl
    rfl
theorem ints_dp {K : PySem.W.Frag} {H : Hp} (ns : List Int) : DpAll K H (ns.map V.int) (ns.map PyData.int) := DpAll.ints ns
section
variable {P : Program} {w : World} {K : PySem.W.Frag} {mg : Str → Option Value} {base : Heap} {e_NoWeights : Addr}
theorem row_get {H : Hp} {d : Addr} {rs : List (Str × Int)} {x : Str} (e : H d = some (.dK (bkOf (rs.map pD)))) (hn : (rs.map (·.1)).Nodup) (hx : x ∈ rs.map (·.1)) : DGet H d (.str x) (some (.int (fB (rs.map pD) x))) := by
  obtain ⟨r, hr, rfl⟩ := List.mem_map.mp hx
  have := DGet.k (k := Sum.inr r.1) e
  rw [(fB_row hn hr).1] at this
  rw [(fB_row hn hr).2]
  exact this
theorem tailD (b_len : mg "len" = none) (b_dict : mg "dict" = none) (F_is_still : FnX P w K mg base 16 "is_still" p_is_still (spStill K e_NoWeights))
    (f : Addr) (cdv : Value) (A : Around) (outer : List Env) (s : Shared) (H0 : Hp) (E : XK) (hr : Room 16 (A.deeper (envOfC "law" (defScope s_law) s.heap.objs.size f cdv))) :
    ∃ tt, PSs (lawX P w K mg base f cdv A outer s H0 E) ((defBody s_law).drop 15) tt ∧ ∀ (Dn : Ends) (v : V) (m : M) (nh dp gp bk : Addr) (ys : List Str) (td tg : List V) (rd rg rb : List (Str × Int)) (n : Int) (o0 o1 o5 o7 o8 o9 o10 o11 : Option V) (H : Hp), Dp K H v (mD m) → Good 5 m → Nms H m nh ys → Rw K H ys dp td rd → Rw K H ys gp tg rg →
      H bk = some (.dK (bkOf (rb.map pD))) → rb.map (·.1) = ys → barM [] (sh3 m "" 1) = none → Lst m (shr m) (fB (rb.map pD)) → (∀ r ∈ rg, r.2 = n * fB (rb.map pD) r.1 ∧ r.2 + 1 ≤ 999999) → (∀ H', Dn.rt (.bl true) H') →
      tt Dn [o0, o1, some v, some (.ref nh), some (.ref dp), o5, some (.ref bk), o7, o8, o9, o10, o11, some (.ref gp), none, none, none, none] H := by
  obtain ⟨te, hE, rE⟩ := tailE b_len F_is_still f cdv A outer s H0 E hr
  have nd := sc_law.nd
  have ndc1 : ((["_law_name"] : List Str) ++ (["_law_book", "_law_mine", "_law_first"] : List Str)).Nodup := by decide +kernel
  have ndc2 : ((["_law_name"] : List Str) ++ (["_law_mine", "_law_book", "_law_first"] : List Str)).Nodup := by decide +kernel
  refine ⟨_, (pss_cons (ps_set (i := 13) nd rfl (by first | exact Or.inl rfl | exact Or.inr rfl) (pe_callTy (call_dictP rfl) rfl b_dict boot_dict (pa_cons (pv 4) pa_nil)))
    (pss_cons (ps_set (i := 14) nd rfl (by first | exact Or.inl rfl | exact Or.inr rfl) (pe_ix ix_list (pv 3) pe_int (fun _ _ => rfl)))
    (pss_cons (ps_set (i := 15) nd rfl (by first | exact Or.inl rfl | exact Or.inr rfl) (pe_cmpR op_eq (pe_op op_mod (pe_dget (hu_of hr) (pv 13) (pv 14) (fun _ _ => rfl)) (pe_dget (hu_of hr) (pv 6) (pv 14) (fun _ _ => rfl))) pe_int (nomark _)))
    (pss_cons (ps_comp (i := 16) nd rfl (by first | exact Or.inl rfl | exact Or.inr rfl) (own := ["_law_name"]) (frees := ["_law_mine", "_law_book", "_law_first"]) (ix := [13, 6, 14]) (pi_list (pv 3)) (fun c => (pg_name (i := 0) ndc2 rfl (by first | exact Or.inl rfl | exact Or.inr rfl))) (fun c => PIf.nil) (fun c => (pe_op op_mul (pe_dget (hu_of hr) (pv 1) (pv 0) (fun _ _ => rfl)) (pe_dget (hu_of hr) (pv 2) (pv 3) (fun _ _ => rfl)))))
    (pss_cons (ps_set (i := 15) nd rfl (by first | exact Or.inl rfl | exact Or.inr rfl) (pe_and (pv 15) (pe_one (pe_cmpR (op_eqD (hu64 hr)) (pv 16) (pe_comp (own := ["_law_name"]) (frees := ["_law_book", "_law_mine", "_law_first"]) (ix := [6, 13, 14]) (pi_list (pv 3)) (fun c => (pg_name (i := 0) ndc1 rfl (by first | exact Or.inl rfl | exact Or.inr rfl))) (fun c => PIf.nil) (fun c => (pe_op op_mul (pe_dget (hu_of hr) (pv 1) (pv 0) (fun _ _ => rfl)) (pe_dget (hu_of hr) (pv 2) (pv 3) (fun _ _ => rfl))))) (nomark _)))))
    hE))))), fun Dn v m nh dp gp bk ys td tg rd rg rb n o0 o1 o5 o7 o8 o9 o10 o11 H hD hg N RD RG hbk hrb hb L hrg q => ?_⟩
  have hs := (shr_ok hb).2
  have hpos : 0 < ys.length := List.length_pos_iff.mpr N.ne
  have hy32 := N.len
  have hnb : (rb.map (·.1)).Nodup := by rw [hrb]; exact rise_nodup N.rise
  have hnD := RD.nd N
  refine ⟨_, rfl, dp, td, (rd.map pD).map pairOf, rfl, .inr RD.lies, pairs_rows RD.dp, by rw [List.length_map, List.length_map, RD.len]; omega, fun mk hmk => ?_⟩
  have g1 := Same.new hmk (.dK (bkOf (rd.map pD)))
  obtain ⟨f0, hf0⟩ : ∃ x, ys[0]? = some x := ⟨_, List.getElem?_eq_getElem hpos⟩
  have hf0m : f0 ∈ ys := List.mem_of_getElem? hf0
  have hfm := (N.mem f0).mp hf0m
  refine ⟨_, rfl, nh, _, _, .str f0, rfl, rfl, SqL.of (g1 _ _ N.lies), atI_nat (j := 0) (by rw [List.getElem?_map, hf0]; rfl), ?_⟩
  have Dg : ∀ {H' : Hp}, Same (upd H mk (.dK (bkOf (rd.map pD)))) H' → ∀ {x : Str}, x ∈ ys → DGet H' mk (.str x) (some (.int (fB (rd.map pD) x))) := fun {H'} g {x} hx => row_get (g _ _ upd_same) hnD (by rw [RD.nm]; exact hx)
  have Bg : ∀ {H' : Hp}, Same (upd H mk (.dK (bkOf (rd.map pD)))) H' → ∀ {x : Str}, x ∈ ys → DGet H' bk (.str x) (some (.int (fB (rb.map pD) x))) := fun {H'} g {x} hx => row_get (g _ _ (g1 _ _ hbk)) hnb (by rw [hrb]; exact hx)
  have Dsm : ∀ x ∈ ys, 1 ≤ fB (rd.map pD) x ∧ fB (rd.map pD) x ≤ 999999 := fun x hx => by
    rw [← RD.nm] at hx
    obtain ⟨r, hr, rfl⟩ := List.mem_map.mp hx
    rw [(fB_row hnD hr).2]
    exact ⟨(RD.ok r hr).lo, (RD.ok r hr).hi⟩
  have Bp : ∀ x ∈ ys, 1 ≤ fB (rb.map pD) x := fun x hx => L.pos x ((N.mem x).mp hx)
  have bf := Bp f0 hf0m
  refine ⟨_, rfl, _, rfl, mk, _, rfl, Dg (Same.refl _) hf0m, _, rfl, _, rfl, bk, _, rfl, Bg (Same.refl _) hf0m, _, _, rfl, rfl, by omega, rfl, ?_⟩
  refine ⟨_, rfl, nh, rfl, ⟨_, SqL.of (g1 _ _ N.lies)⟩, fun c acc hacc => ?_⟩
  refine comp_list (xs := ys.map V.str) (fun i zs H2 => zs = ((ys.take i).map (fun x => fB (rd.map pD) x * fB (rb.map pD) f0)).map V.int ∧ H2 acc = some (.lst zs) ∧ Same (upd H mk (.dK (bkOf (rd.map pD)))) H2) ?_ ?_ ?_ ?_ ?_
  · exact ⟨by simp, upd_same, Same.new hacc _⟩
  · rintro i zs H2 _ ⟨_, h, _⟩
    exact h
  · rintro i zs H2 _ ⟨_, _, g⟩
    exact SqL.of (g _ _ (g1 _ _ N.lies))
  · rintro i zs H2 x hx ⟨hz, ha, g⟩
    rw [List.getElem?_map] at hx
    obtain ⟨nm, hnm, rfl⟩ : ∃ nm, ys[i]? = some nm ∧ x = .str nm := by
      cases e : ys[i]? with
      | none => rw [e] at hx; cases hx
      | some r => rw [e] at hx; cases hx; exact ⟨r, rfl, rfl⟩
    have hnmm := List.mem_of_getElem? hnm
    have hi : i < ys.length := (List.getElem?_eq_some_iff.mp hnm).1
    have d1 := Dsm nm hnmm
    refine ⟨.own (.keep (.keep (.keep .nil))), iteT ?_⟩
    refine ⟨_, rfl, _, rfl, mk, _, rfl, Dg g hnmm, _, rfl, _, rfl, bk, _, rfl, Bg g hf0m, _, _, rfl, rfl, .inl ⟨by omega, by omega⟩, ?_⟩
    refine ⟨ha, by rw [hz, List.length_map, List.length_map, List.length_take]; exact small1000 (by omega), ?_, upd_same, fun b o e => ?_⟩
    · rw [hz, List.take_add_one, hnm]
      simp
    · rw [upd_ne (ne_of_none e hacc)]
      exact g b o e
  rintro zs H2 ⟨rfl, ha, g2⟩
  rw [List.length_map, List.take_length] at ha
  have G2 := g1.trans g2
  have iff := L.iff hg.arms hs (D := fB (rd.map pD)) hfm
  have rest : ∀ (b : Bool) (H3 : Hp), Same H2 H3 → (b = true ↔ tp (fB (rd.map pD)) m "" = []) →
      te Dn [o0, o1, some v, some (.ref nh), some (.ref dp), o5, some (.ref bk), o7, o8, o9, o10, o11, some (.ref gp), some (.ref mk), some (.str f0), some (.bl b), some (.ref acc)] H3 := fun b H3 g3 hb3 => by
    have G := G2.trans g3
    refine rE Dn v m nh dp gp ys td tg rd rg (fB (rb.map pD)) n b _ _ _ _ _ _ _ _ _ _ _ _ H3 (Dp.same G _ _ hD) hg (N.same G) (RD.same G) (RG.same G) hb L hrg ?_ q
    rw [Bool.eq_iff_iff, hb3, decide_eq_true_eq]
  refine ⟨_, rfl, _, rfl, ?_⟩
  by_cases hm : fB (rd.map pD) f0 % fB (rb.map pD) f0 = 0
  · rw [show decide (V.int (fB (rd.map pD) f0 % fB (rb.map pD) f0) = V.int 0) = true from decide_eq_true (by rw [hm])]
    refine iteT ?_
    refine ⟨_, rfl, _, rfl, nh, rfl, ⟨_, SqL.of (G2 _ _ N.lies)⟩, fun c2 acc2 hacc2 => ?_⟩
    refine comp_list (xs := ys.map V.str) (fun i zs H3 => zs = ((ys.take i).map (fun x => fB (rb.map pD) x * fB (rd.map pD) f0)).map V.int ∧ H3 acc2 = some (.lst zs) ∧ Same H2 H3) ?_ ?_ ?_ ?_ ?_
    · exact ⟨by simp, upd_same, Same.new hacc2 _⟩
    · rintro i zs H3 _ ⟨_, h, _⟩
      exact h
    · rintro i zs H3 _ ⟨_, _, g⟩
      exact SqL.of (g _ _ (G2 _ _ N.lies))
    · rintro i zs H3 x hx ⟨hz, ha3, g⟩
      rw [List.getElem?_map] at hx
      obtain ⟨nm, hnm, rfl⟩ : ∃ nm, ys[i]? = some nm ∧ x = .str nm := by
        cases e : ys[i]? with
        | none => rw [e] at hx; cases hx
        | some r => rw [e] at hx; cases hx; exact ⟨r, rfl, rfl⟩
      have hnmm := List.mem_of_getElem? hnm
      have hi : i < ys.length := (List.getElem?_eq_some_iff.mp hnm).1
      have d1 := Dsm f0 hf0m
      refine ⟨.own (.keep (.keep (.keep .nil))), iteT ?_⟩
      refine ⟨_, rfl, _, rfl, bk, _, rfl, Bg (g2.trans g) hnmm, _, rfl, _, rfl, mk, _, rfl, Dg (g2.trans g) hf0m, _, _, rfl, rfl, .inr ⟨by omega, by omega⟩, ?_⟩
      refine ⟨ha3, by rw [hz, List.length_map, List.length_map, List.length_take]; exact small1000 (by omega), ?_, upd_same, fun b o e => ?_⟩
      · rw [hz, List.take_add_one, hnm]
        simp
      · rw [upd_ne (ne_of_none e hacc2)]
        exact g b o e
    · rintro zs H3 ⟨rfl, ha3, g3⟩
      rw [List.length_map, List.take_length] at ha3
      refine ⟨.list ((ys.map (fun x => fB (rd.map pD) x * fB (rb.map pD) f0)).map PyData.int), .list ((ys.map (fun x => fB (rb.map pD) x * fB (rd.map pD) f0)).map PyData.int), .lst (SqL.of (g3 _ _ ha)) (ints_dp _), .lst (SqL.of ha3) (ints_dp _),
        ints_lay0 _, ints_lay0 _, by simp only [PyData.depth, ints_depth]; omega, ?_⟩
      rw [ints_eqv]
      refine rest _ _ g3 ?_
      rw [decide_eq_true_eq, iff]
      constructor
      · intro h
        refine ⟨hm, fun x hx => ?_⟩
        obtain ⟨i, hi, e⟩ := List.getElem_of_mem ((N.mem x).mpr hx)
        have z := congrArg (fun l => l[i]?) h
        simp only [List.getElem?_map, List.getElem?_eq_getElem hi, e, Option.map_some] at z
        exact Option.some.inj z
      · rintro ⟨_, h⟩
        exact List.map_congr_left fun x hx => h x ((N.mem x).mp hx)
  · rw [show decide (V.int (fB (rd.map pD) f0 % fB (rb.map pD) f0) = V.int 0) = false from decide_eq_false (fun z => hm (by injection z))]
    refine iteF ?_
    refine rest false _ (Same.refl _) ?_
    rw [iff]
    constructor
    · intro z; cases z
    · rintro ⟨z, _⟩; exact absurd z hm
end
end My
namespace My
open PySem PySem.Spec PyProof.Rows L2 MA
theorem Tw.same {H H' : Hp} {t : Addr} {n : Nat} (h : Tw H t n) (g : Same H H') : Tw H' t n := by
  obtain ⟨xs, e, l⟩ := h
  exact ⟨xs, g _ _ e, l⟩
theorem Tw.upd {H : Hp} {t l : Addr} {n : Nat} {o : HO} (h : Tw H t n) (g : l ≠ t) : Tw (upd H l o) t n := by
  obtain ⟨xs, e, k⟩ := h
  exact ⟨xs, by rw [upd_ne g.symm]; exact e, k⟩
theorem gcds_one {ns : List Int} (h : ∀ k : Int, (∀ n ∈ ns, k ∣ n) → k ∣ 1) : gcds ns 0 = 1 := by
  obtain ⟨h0, _, h2, _⟩ := gcds_spec ns 0 (Int.le_refl 0)
  exact Int.eq_one_of_dvd_one h0 (h _ h2)
section
variable {P : Program} {w : World} {K : PySem.W.Frag} {mg : Str → Option Value} {base : Heap} {e_NoWeights : Addr}
theorem tailG (b_len : mg "len" = none) (b_dict : mg "dict" = none) (b_tuple : mg "tuple" = none) (b_max : mg "max" = none) (F__law_draw : Fn P w K mg base 3 "_law_draw" p__law_draw (spDraw K)) (F__law_tips : Fn P w K mg base 12 "_law_tips" p__law_tips (spLT K 6)) (F_is_still : FnX P w K mg base 16 "is_still" p_is_still (spStill K e_NoWeights))
    (f : Addr) (cdv : Value) (A : Around) (outer : List Env) (s : Shared) (H0 : Hp) (E : XK) (hr : Room 16 (A.deeper (envOfC "law" (defScope s_law) s.heap.objs.size f cdv))) :
    ∃ tt, PSs (lawX P w K mg base f cdv A outer s H0 E) ((defBody s_law).drop 7) tt ∧ ∀ (Dn : Ends) (a t nh dp fp : Addr) (ns : List Int) (n0 : Nat) (v : V) (m : M) (ys : List Str) (td tf : List V) (rd : List (Str × Int)) (H : Hp), SqL K H a (ns.map V.int) → NE K a t (ns.map V.int) → Tw H t n0 → n0 ≤ 800000 → nh ≠ t → Dp K H v (mD m) → Good 5 m → Nms H m nh ys → Rw K H ys dp td rd →
      H fp = some (.tup tf) → DpAll K H tf ((ys.zip (lw (ys.map (shr m)))).map pD) → barM [] (sh3 m "" 1) = none → (∀ H', Dn.rt (.bl true) H') →
      tt Dn [some (.ref a), some (.ref t), some v, some (.ref nh), some (.ref dp), some (.ref fp), none, none, none, none, none, none, none, none, none, none, none] H := by
  obtain ⟨td', hDt, rD⟩ := tailD b_len b_dict F_is_still f cdv A outer s H0 E hr
  have nd := sc_law.nd
  have ndc1 : ((["_law_name", "_law_number"] : List Str) ++ (["_law_often"] : List Str)).Nodup := by decide +kernel
  have ndc2 : ((["_law_name", "_law_number"] : List Str) ++ ([] : List Str)).Nodup := by decide +kernel
  refine ⟨_, (pss_cons (ps_set (i := 6) nd rfl (by first | exact Or.inl rfl | exact Or.inr rfl) (pe_callTy (call_dictP rfl) rfl b_dict boot_dict (pa_cons (pv 5) pa_nil)))
    (pss_cons (ps_set (i := 7) nd rfl (by first | exact Or.inl rfl | exact Or.inr rfl) pe_int)
    (pss_cons (ps_for PassesOwn.never rfl (pi_list (pv 3)) (pg_name (i := 8) nd rfl (by first | exact Or.inl rfl | exact Or.inr rfl)) (pss_cons (ps_par (i := 9) (j := 10) rfl nd rfl rfl (by decide) rfl rfl (pa_cons (pv 7) (pa_cons (pe_dget (hu_of hr) (pv 6) (pv 8) (fun _ _ => rfl)) pa_nil)) rfl)
    (pss_cons (ps_while PassesOwn.never (pt_cmpR op_gt (pv 10) pe_int (nomark _)) (pss_one (ps_par (i := 9) (j := 10) rfl nd rfl rfl (by decide) rfl rfl (pa_cons (pv 10) (pa_cons (pe_op op_mod (pv 9) (pv 10)) pa_nil)) rfl)))
    (pss_one (ps_set (i := 7) nd rfl (by first | exact Or.inl rfl | exact Or.inr rfl) (pv 9))))))
    (pss_cons (ps_if (PW.pt (pw_or (pt_cmpR (op_neD (hu64 hr)) (pe_comp (own := ["_law_name", "_law_number"]) (frees := []) (ix := []) (pi_tup (pv 5)) (fun c => (pg_tup rfl (pgs_cons (pg_name (i := 0) ndc2 rfl (by first | exact Or.inl rfl | exact Or.inr rfl)) (pgs_cons (pg_name (i := 1) ndc2 rfl (by first | exact Or.inl rfl | exact Or.inr rfl)) pgs_nil)))) (fun c => PIf.nil) (fun c => (pv 0))) (pv 3) (nomark _)) (pw_or (pt_cmpR op_ne (pv 7) pe_int (nomark _)) (pw_or1 (pt_cmpR (op_neD (hu64 hr)) (pe_callF F__law_tips (hr.mono (by omega)) (pa_cons (pv 2) (pa_cons (pv 6) (pa_cons pe_str pa_nil)))) (pe_lst pa_nil) (nomark _)))))) (pss_one (ps_ret pe_bl)) pss_nil)
    (pss_cons (ps_set (i := 11) nd rfl (by first | exact Or.inl rfl | exact Or.inr rfl) (pe_op op_add pe_int (pe_callF F__law_draw (hr.mono (by omega)) (pa_cons (pv 0) (pa_cons (pv 1) (pa_cons pe_int pa_nil))))))
    (pss_cons (ps_set (i := 12) nd rfl (by first | exact Or.inl rfl | exact Or.inr rfl) (pe_callTy call_tuple_of rfl b_tuple boot_tuple (pa_cons (pe_comp (own := ["_law_name", "_law_number"]) (frees := ["_law_often"]) (ix := [11]) (pi_tup (pv 5)) (fun c => (pg_tup rfl (pgs_cons (pg_name (i := 0) ndc1 rfl (by first | exact Or.inl rfl | exact Or.inr rfl)) (pgs_cons (pg_name (i := 1) ndc1 rfl (by first | exact Or.inl rfl | exact Or.inr rfl)) pgs_nil)))) (fun c => PIf.nil) (fun c => (pe_tup (pa_cons (pv 0) (pa_cons (pe_op op_mul (pv 2) (pv 1)) pa_nil))))) pa_nil)))
    (pss_cons (ps_if (pt_cmpR op_gt (pe_op op_mul (pe_callB (call_maxV rfl) rfl b_max boot_max (pa_cons (pe_bm0 PySem.F.plainAttrs_dict PySem.F.slot_dict_values PySem.F.type_dict_values mt_values (pv 6)) pa_nil)) pe_int) pe_int (nomark _)) (pss_one (ps_ret pe_bl)) pss_nil)
    (pss_cons (ps_if (pt_not (pt_val (pe_callX F_is_still (hr.mono (by omega)) passNo (pa_cons (pv 2) (pa_cons (pv 12) pa_nil))))) (pss_one (ps_ret pe_bl)) pss_nil)
    hDt)))))))), fun Dn a t nh dp fp ns n0 v m ys td tf rd H hS hat hT hn0 hnt hD hg N RD hfp dtf hb q => ?_⟩
  have hs := (shr_ok hb).2
  have h5 := hg.deep
  have hy32 := N.len
  have L := lst_of hg hb N.rise N.mem
  have hll : (lw (ys.map (shr m))).length = ys.length := by rw [lw_len, List.length_map]
  generalize hks : lw (ys.map (shr m)) = ks at dtf L hll
  have hfst : (ys.zip ks).map (·.1) = ys := zip_fst hll
  have hsnd : (ys.zip ks).map (·.2) = ks := zip_snd hll
  generalize hrb : ys.zip ks = rb at dtf L hfst hsnd
  have hrl : rb.length = ys.length := by
    have := congrArg List.length hfst
    rwa [List.length_map] at this
  have hnb : (rb.map (·.1)).Nodup := by rw [hfst]; exact rise_nodup N.rise
  have htl : tf.length = rb.length := by rw [dtf.len, List.length_map]
  obtain ⟨zs0, ht0, _⟩ := id hT
  refine ⟨_, rfl, fp, tf, (rb.map pD).map pairOf, rfl, .inr hfp, pairs_rows dtf, by rw [List.length_map, List.length_map]; omega, fun bk hbk => ?_⟩
  have g1 := Same.new hbk (.dK (bkOf (rb.map pD)))
  obtain ⟨H1, e1, g1, hbk1⟩ : ∃ H1, H1 = upd H bk (.dK (bkOf (rb.map pD))) ∧ Same H H1 ∧ H1 bk = some (.dK (bkOf (rb.map pD))) := ⟨_, rfl, g1, upd_same⟩
  rw [show upd H bk (.dK (L2.putAll ((rb.map pD).map pairOf))) = H1 from e1.symm]
  have N1 := N.same g1
  have rowAt : ∀ {i : Nat} {x : Str}, ys[i]? = some x → ∃ k, ks[i]? = some k ∧ (x, k) ∈ rb ∧ fB (rb.map pD) x = k := fun {i x} hx => by
    have hi : i < ys.length := (List.getElem?_eq_some_iff.mp hx).1
    obtain ⟨k, ek⟩ : ∃ k, ks[i]? = some k := ⟨_, List.getElem?_eq_getElem (by omega)⟩
    have hm : (x, k) ∈ rb := by rw [← hrb]; exact List.mem_of_getElem? (List.getElem?_zip_eq_some.mpr ⟨hx, ek⟩)
    exact ⟨k, ek, hm, (fB_row hnb hm).2⟩
  have kpos : ∀ k ∈ ks, 1 ≤ k := fun k hk => by
    rw [← hsnd] at hk
    obtain ⟨r, hr, rfl⟩ := List.mem_map.mp hk
    have hx : r.1 ∈ ys := by rw [← hfst]; exact List.mem_map.mpr ⟨r, hr, rfl⟩
    have := L.pos r.1 ((N.mem r.1).mp hx)
    rwa [(fB_row hnb hr).2] at this
  refine ⟨_, rfl, nh, rfl, ⟨_, SqL.of N1.lies⟩, ?_⟩
  refine for_list (xs := ys.map V.str) (fun i σ H2 => ∃ (o8 o9 o10 : Option V), σ = [some (.ref a), some (.ref t), some v, some (.ref nh), some (.ref dp), some (.ref fp), some (.ref bk), some (.int (gcds (ks.take i) 0)), o8, o9, o10, none, none, none, none, none, none] ∧ H2 = H1) ?_ ?_ ?_ ?_
  · exact ⟨none, none, none, rfl, rfl⟩
  · rintro i σ H2 _ ⟨o8, o9, o10, rfl, rfl⟩
    exact SqL.of N1.lies
  · rintro i x σ H2 hx ⟨o8, o9, o10, rfl, rfl⟩
    rw [List.getElem?_map] at hx
    obtain ⟨nm, hnm, rfl⟩ : ∃ nm, ys[i]? = some nm ∧ x = .str nm := by
      cases e : ys[i]? with
      | none => rw [e] at hx; cases hx
      | some r => rw [e] at hx; cases hx; exact ⟨r, rfl, rfl⟩
    obtain ⟨k, hk, hmem, hfk⟩ := rowAt hnm
    have hget : DGet H2 bk (.str nm) (some (.int k)) := by
      have := row_get hbk1 hnb (x := nm) (by rw [hfst]; exact List.mem_of_getElem? hnm)
      rwa [hfk] at this
    have k1 := kpos k (List.mem_of_getElem? hk)
    obtain ⟨c0, _⟩ := gcds_spec (ks.take i) 0 (Int.le_refl 0)
    refine ⟨_, rfl, _, rfl, _, rfl, bk, _, rfl, hget, _, _, rfl, ?_⟩
    refine while_by (fun σ H3 => ∃ (x y : Int), σ = [some (.ref a), some (.ref t), some v, some (.ref nh), some (.ref dp), some (.ref fp), some (.ref bk), some (.int (gcds (ks.take i) 0)), some (.str nm), some (.int x), some (.int y), none, none, none, none, none, none] ∧ H3 = H2 ∧ 0 ≤ x ∧ 0 ≤ y ∧ Int.gcd x y = Int.gcd (gcds (ks.take i) 0) k)
      (fun σ _ => match (σ : List (Option V))[10]? with | some (some (V.int y)) => y.toNat | _ => 0) ⟨_, _, rfl, rfl, c0, by omega, rfl⟩ ?_ ?_
    · rintro σ H3 ⟨x, y, rfl, rfl, hx, hy, hgd⟩
      refine ⟨_, rfl, _, _, rfl, rfl, _, rfl, ?_⟩
      refine ite2 (fun c => ?_) (fun c => ?_)
      · have c' : 0 < y := of_decide_eq_true c
        refine ⟨_, rfl, _, rfl, _, rfl, _, _, rfl, rfl, c', _, _, rfl, ⟨y, x % y, rfl, rfl, hy, Int.emod_nonneg _ (by omega), ?_⟩, ?_⟩
        · rw [gcd_step hx c', hgd]
        · show (x % y).toNat < y.toNat
          have := Int.emod_lt_of_pos x c'
          have := Int.emod_nonneg x (show y ≠ 0 by omega)
          omega
      · have c' : ¬ 0 < y := fun z => c (decide_eq_true z)
        have : y = 0 := by omega
        subst this
        have gx : (x : Int) = (Int.gcd (gcds (ks.take i) 0) k : Int) := by rw [← hgd, gcd_zero hx]
        refine ⟨_, rfl, some (.str nm), some (.int x), some (.int 0), ?_, rfl⟩
        rw [List.take_add_one, hk]
        show _ = ([_, _, _, _, _, _, _, some (.int (gcds (ks.take i ++ [k]) 0)), _, _, _, _, _, _, _, _, _] : List (Option V))
        rw [gcds_snoc, ← gx]
        rfl
    · rintro σ H3 Q1 Q2 hq ⟨v, e, i, j, e1, e2, cc, ec, qq⟩
      exact ⟨v, e, i, j, e1, e2, cc, ec, hq _ _ qq⟩
  rintro σ H2 ⟨o8, o9, o10, rfl, rfl⟩
  rw [List.length_map, show ys.length = ks.length from hll.symm, List.take_length]
  have g1one : gcds ks 0 = 1 := gcds_one fun k hk => L.gcd k fun x hx => by
    obtain ⟨i, hi, e⟩ := List.getElem_of_mem ((N.mem x).mpr hx)
    obtain ⟨k', hk', _, e3⟩ := rowAt (i := i) (x := x) (by rw [List.getElem?_eq_getElem hi, e])
    rw [e3]
    exact hk k' (List.mem_of_getElem? hk')
  rw [g1one]
  have hfp1 := g1 _ _ hfp
  have dtf1 := DpAll.same g1 _ _ dtf
  have pairAt : ∀ {H' : Hp}, Same H2 H' → ∀ {i : Nat} {x : V}, tf[i]? = some x → ∃ r pa, rb[i]? = some r ∧ x = .ref pa ∧ SqT K H' pa [.str r.1, .int r.2] := fun {H'} g {i x} hx => by
    obtain ⟨d, hd, hxd⟩ := L2.DpAll.get dtf1 hx
    rw [List.getElem?_map] at hd
    cases e : rb[i]? with
    | none => rw [e] at hd; cases hd
    | some r =>
      rw [e] at hd
      cases hd
      obtain ⟨pa, rfl, hpa⟩ := pair2I (show Dp K H2 x (.tuple [.str r.1, .int r.2]) from hxd)
      exact ⟨r, pa, rfl, rfl, hpa.same g⟩
  refine ⟨_, rfl, fp, rfl, ⟨_, SqT.of hfp1⟩, fun c acc hacc => ?_⟩
  refine comp_tup (xs := tf) (fun i zs H3 => zs = ((rb.take i).map (·.1)).map V.str ∧ H3 acc = some (.lst zs) ∧ Same H2 H3) ?_ ?_ ?_ ?_ ?_
  · exact ⟨by simp, upd_same, Same.new hacc _⟩
  · rintro i zs H3 _ ⟨_, h, _⟩
    exact h
  · rintro i zs H3 _ ⟨_, _, g⟩
    exact SqT.of (g _ _ hfp1)
  · rintro i zs H3 x hx ⟨hz, ha, g⟩
    have hi : i < tf.length := (List.getElem?_eq_some_iff.mp hx).1
    obtain ⟨r, pa, hr, rfl, hpa⟩ := pairAt g hx
    refine ⟨pa, _, rfl, hpa, rfl, _, _, rfl, _, _, rfl, rfl, ?_⟩
    refine ⟨.own (.own .nil), iteT ?_⟩
    refine ⟨_, rfl, ha, by rw [hz, List.length_map, List.length_map, List.length_take]; exact small1000 (by omega), ?_, upd_same, fun b o e => ?_⟩
    · rw [hz, List.take_add_one, hr]
      simp
    · rw [upd_ne (ne_of_none e hacc)]
      exact g b o e
  rintro zs H3 ⟨rfl, ha, g3⟩
  rw [htl, List.take_length, hfst] at ha
  have hok : ∀ x ∈ ys, NameOk x := fun x hx => hg.names x ((N.mem x).mp hx)
  have lay : (PyData.list (ys.map PyData.str)).canLay0 = true := by simpa [PyData.canLay0] using strs_lay _ hok
  refine ⟨_, rfl, .list (ys.map PyData.str), .list (ys.map PyData.str), .lst (SqL.of ha) (L2.DpAll.strs _), .lst (SqL.of (g3 _ _ N1.lies)) (L2.DpAll.strs _), lay, lay, by simp only [PyData.depth, strs_depth]; omega, _, rfl, ?_⟩
  rw [eqv_self (lst_noB _)]
  refine iteF ?_
  refine ⟨_, rfl, rfl, _, rfl, ?_⟩
  refine (if_neg (by decide)).mpr ?_
  have G3 := g1.trans g3
  have Bq3 : Bq H3 bk (fB (rb.map pD)) m.names := ⟨_, g3 _ _ hbk1, fun x hx => by
    obtain ⟨i, hi, e⟩ := List.getElem_of_mem ((N.mem x).mpr hx)
    obtain ⟨k, _, hmem, e3⟩ := rowAt (i := i) (x := x) (by rw [List.getElem?_eq_getElem hi, e])
    rw [e3]
    exact (fB_row hnb hmem).1⟩
  refine ⟨_, rfl, _, rfl, v, m, ("" : Str), bk, fB (rb.map pD), rfl, Dp.same G3 _ _ hD, hg.arms, by omega, h5, by show 0 + m.deep ≤ 1000; omega, Bq3, fun l4 y4 H4 g4 n4 e4 d4 => ?_⟩
  refine ⟨sz0, fun l5 hl5 => ?_⟩
  have s5 := Same.new hl5 (.lst [])
  refine ⟨tpD (fB (rb.map pD)) m, .list [], .lst (SqL.of (s5 _ _ e4)) (DpAll.same s5 _ _ d4), .lst (SqL.of upd_same) .nil, tpD_lay _ _, by simp [PyData.canLay0, PyData.canLayAll0], by have := tpD_depth (fB (rb.map pD)) m; omega, _, rfl, ?_⟩
  rw [tpD_nil, decide_eq_true (L.still hg.arms hs)]
  refine iteF ?_
  have G5 := G3.trans (g4.trans s5)
  obtain ⟨H5, e5, G5, hbk5⟩ : ∃ H5, H5 = upd H4 l5 (.lst []) ∧ Same H H5 ∧ H5 bk = some (.dK (bkOf (rb.map pD))) := ⟨_, rfl, G5, (g3.trans (g4.trans s5)) _ _ hbk1⟩
  rw [← e5]
  refine ⟨_, rfl, _, rfl, a, t, ns, n0, 9, rfl, hS.same G5, hat, hT.same G5, by omega, by decide, fun i H6 i0 i1 g6 hT6 => ⟨_, _, rfl, rfl, ?_⟩⟩
  have ht5 := G5 _ _ ht0
  have dpt : dp ≠ t := fun z => by have := RD.lies; rw [z, ht0] at this; cases this
  have fpt : fp ≠ t := fun z => by rw [z, ht0] at hfp; cases hfp
  have bkt : bk ≠ t := fun z => by rw [z, ht5] at hbk5; cases hbk5
  have hD6 := Dp.but g6 ht5 _ _ (mD_noL m) (Dp.same G5 _ _ hD)
  have N6 : Nms H6 m nh ys := ⟨g6 _ _ hnt (G5 _ _ N.lies), N.rise, N.mem, N.len⟩
  have RD6 : Rw K H6 ys dp td rd := ⟨g6 _ _ dpt (G5 _ _ RD.lies), DpAll.but g6 ht5 _ _ (pDs_noL _) (DpAll.same G5 _ _ RD.dp), RD.nm, RD.ok⟩
  have hfp6 := g6 _ _ fpt (G5 _ _ hfp)
  have dtf6 := DpAll.but g6 ht5 _ _ (pDs_noL _) (DpAll.same G5 _ _ dtf)
  have hbk6 := g6 _ _ bkt hbk5
  refine ⟨_, rfl, fp, rfl, ⟨_, SqT.of hfp6⟩, fun c7 acc7 hacc7 => ?_⟩
  refine comp_tup (xs := tf) (fun j zs H7 => DpAll K H7 zs (((rb.map (fun r => (r.1, (1 + i) * r.2))).take j).map pD) ∧ zs.length = j ∧ H7 acc7 = some (.lst zs) ∧ Same H6 H7) ?_ ?_ ?_ ?_ ?_
  · exact ⟨.nil, rfl, upd_same, Same.new hacc7 _⟩
  · rintro j zs H7 _ ⟨_, _, h, _⟩
    exact h
  · rintro j zs H7 _ ⟨_, _, _, g⟩
    exact SqT.of (g _ _ hfp6)
  · rintro j zs H7 x hx ⟨dz, hzl, ha7, g⟩
    have hj : j < tf.length := (List.getElem?_eq_some_iff.mp hx).1
    obtain ⟨d, hd, hxd⟩ := L2.DpAll.get dtf6 hx
    rw [List.getElem?_map] at hd
    obtain ⟨r, hr, rfl⟩ : ∃ r, rb[j]? = some r ∧ d = pD r := by
      cases e : rb[j]? with
      | none => rw [e] at hd; cases hd
      | some r => rw [e] at hd; cases hd; exact ⟨r, rfl, rfl⟩
    obtain ⟨pa, rfl, hpa⟩ := pair2I (show Dp K H6 x (.tuple [.str r.1, .int r.2]) from hxd)
    refine ⟨pa, _, rfl, hpa.same g, rfl, _, _, rfl, _, _, rfl, rfl, ?_⟩
    refine ⟨.own (.own (.keep .nil)), iteT ?_⟩
    refine ⟨_, rfl, _, rfl, _, rfl, _, _, rfl, rfl, .inl ⟨by omega, by omega⟩, (by show 2 ≤ sizeLine; decide), fun p hp => ?_⟩
    have s8 := Same.new hp (.tup [.str r.1, .int ((1 + i) * r.2)])
    have ha8 := s8 _ _ ha7
    have d8 : DpAll K (upd H7 p (.tup [.str r.1, .int ((1 + i) * r.2)])) (zs ++ [.ref p]) (((rb.map (fun r => (r.1, (1 + i) * r.2))).take (j + 1)).map pD) := by
      rw [List.take_add_one, List.getElem?_map, hr, List.map_append]
      exact (DpAll.same s8 _ _ dz).app (.cons (.tup (SqT.of upd_same) (.cons (.str _) (.cons (.int _) .nil))) .nil)
    refine ⟨ha8, small1000 (by omega), DpAll.but But.upd ha8 _ _ (pDs_noL _) d8, by rw [List.length_append, hzl]; rfl, upd_same, fun b o e => ?_⟩
    rw [upd_ne (ne_of_none e hacc7)]
    exact s8 _ _ (g b o e)
  rintro tg H7 ⟨dz, hzl, ha7, g7⟩
  rw [htl, List.take_of_length_le (by rw [List.length_map]; omega)] at dz
  refine ⟨acc7, tg, rfl, .inl ⟨SqL.of ha7, fun gp hgp => ?_⟩⟩
  have s8 := Same.new hgp (.tup tg)
  have hbk8 := s8 _ _ (g7 _ _ hbk6)
  refine ⟨_, rfl, .inr (.inr (.inl ⟨rfl, .inl ⟨_, hbk8⟩⟩)), bk, _, rfl, rfl, hbk8, fun vw hvw => ?_⟩
  have s9 := Same.new hvw (valsO vw bk)
  have hkne : ks ≠ [] := fun z => by
    rw [z] at hll
    exact N.ne (List.length_eq_zero_iff.mp hll.symm)
  refine ⟨vw, bk, bkOf (rb.map pD), ks, rfl, upd_same, s9 _ _ hbk8, ?_, hkne, fun mx hmx hle => ?_⟩
  · rw [bk_rows hnb, List.map_map, ← hsnd, List.map_map]
    rfl
  refine ⟨_, _, rfl, rfl, .inr ⟨by decide, by decide⟩, _, _, rfl, rfl, _, rfl, ?_⟩
  refine ite2 (fun c => q _) (fun c => ?_)
  have c' : ¬ 999999 < mx * 10 := fun z => c (decide_eq_true z)
  have G9 := g7.trans (s8.trans s9)
  have small : ∀ k ∈ ks, 1 ≤ (1 + i) * k ∧ (1 + i) * k + 1 ≤ 999999 := fun k hk => by
    have k1 := kpos k hk
    have k2 := hle k hk
    have h1 : (1 + i) * k ≤ 9 * k := Int.mul_le_mul_of_nonneg_right (by omega) (by omega)
    have h2 : 1 * k ≤ (1 + i) * k := Int.mul_le_mul_of_nonneg_right (by omega) (by omega)
    omega
  have hkr : ∀ r ∈ rb, r.2 ∈ ks := fun r hr => by rw [← hsnd]; exact List.mem_map.mpr ⟨r, hr, rfl⟩
  have RG9 : Rw K (upd (upd H7 gp (.tup tg)) vw (valsO vw bk)) ys gp tg (rb.map (fun r => (r.1, (1 + i) * r.2))) := by
    refine ⟨s9 _ _ upd_same, DpAll.same (s8.trans s9) _ _ dz, by rw [List.map_map, ← hfst]; rfl, fun r hr => ?_⟩
    obtain ⟨r', hr', rfl⟩ := List.mem_map.mp hr
    have := small r'.2 (hkr r' hr')
    exact ⟨hok r'.1 (by rw [← hfst]; exact List.mem_map.mpr ⟨r', hr', rfl⟩), this.1, by show (1 + i) * r'.2 ≤ 999999; omega⟩
  have N9 := N6.same G9
  have hrg : ∀ r ∈ rb.map (fun r => (r.1, (1 + i) * r.2)), r.2 = (1 + i) * fB (rb.map pD) r.1 ∧ r.2 + 1 ≤ 999999 := fun r hr => by
    obtain ⟨r', hr', rfl⟩ := List.mem_map.mp hr
    refine ⟨?_, (small r'.2 (hkr r' hr')).2⟩
    show (1 + i) * r'.2 = (1 + i) * fB (rb.map pD) r'.1
    rw [(fB_row hnb hr').2]
  refine ⟨_, rfl, _, rfl, v, m, .ref gp, .tuple ((rb.map (fun r => (r.1, (1 + i) * r.2))).map pD), rfl, Dp.same G9 _ _ hD6, hg, RG9.wt N9, fun H10 g10 => ?_⟩
  rw [if_pos (RG9.ok1 N9)]
  refine ⟨_, rfl, ?_⟩
  have hst : tp (fB ((rb.map (fun r => (r.1, (1 + i) * r.2))).map pD)) m "" = [] := L.times hg.arms hs (n := 1 + i) fun x hx => by
    have hxy := (N.mem x).mpr hx
    rw [← RG9.nm] at hxy
    obtain ⟨r, hr, rfl⟩ := List.mem_map.mp hxy
    rw [(fB_row (RG9.nd N9) hr).2]
    exact (hrg r hr).1
  rw [show decide (tp (fB (dsOf (.tuple ((rb.map (fun r => (r.1, (1 + i) * r.2))).map pD)))) m "" = []) = true from decide_eq_true hst]
  refine iteF ?_
  exact rD Dn v m nh dp gp bk ys td tg rd _ rb (1 + i) _ _ _ _ _ _ _ _ H10 (Dp.same (G9.trans g10) _ _ hD6) hg (N9.same g10) ((RD6.same G9).same g10) (RG9.same g10) (g10 _ _ (s9 _ _ hbk8)) hfst hb L hrg q
end
end My
namespace My
open PySem PySem.Spec PyProof.Rows L2 MA
theorem names_len {m : M} (h : m.deep ≤ 5) : m.names.length ≤ 32 := by
  rw [← lv_len m ""]
  exact lv_small _ h
theorem refD_lay : refD.canLay0 = true := by decide +kernel
theorem refD_noB : noB refD = true := by decide +kernel
theorem refD_depth : refD.depth ≤ 64 := by decide +kernel
section
variable {P : Program} {w : World} {K : PySem.W.Frag} {mg : Str → Option Value} {base : Heap} {e_NoWeights : Addr}
theorem tailH (b_len : mg "len" = none) (b_dict : mg "dict" = none) (b_tuple : mg "tuple" = none) (b_max : mg "max" = none) (b_sorted : mg "sorted" = none) (b_set : mg "set" = none) (F__law_draw : Fn P w K mg base 3 "_law_draw" p__law_draw (spDraw K)) (F__law_pick : Fn P w K mg base 4 "_law_pick" p__law_pick (spPick K))
    (F__law_leaves : Fn P w K mg base 6 "_law_leaves" p__law_leaves (spLeaves K 6)) (F__law_ask : Fn P w K mg base 13 "_law_ask" p__law_ask (spAsk K)) (F__law_bar : Fn P w K mg base 8 "_law_bar" p__law_bar (spBar K)) (F_bar : Fn P w K mg base 11 "bar" p_bar (spBar K))
    (F__law_tips : Fn P w K mg base 12 "_law_tips" p__law_tips (spLT K 6)) (F_is_still : FnX P w K mg base 16 "is_still" p_is_still (spStill K e_NoWeights))
    (f : Addr) (cdv : Value) (A : Around) (outer : List Env) (s : Shared) (H0 : Hp) (E : XK) (hr : Room 16 (A.deeper (envOfC "law" (defScope s_law) s.heap.objs.size f cdv))) :
    ∃ tt, PSs (lawX P w K mg base f cdv A outer s H0 E) ((defBody s_law).drop 3) tt ∧ ∀ (Dn : Ends) (a t : Addr) (ns : List Int) (n0 : Nat) (v : V) (m : M) (H : Hp), SqL K H a (ns.map V.int) → NE K a t (ns.map V.int) → Tw H t n0 → n0 ≤ 700000 → Dp K H v (mD m) → Good 5 m → (∀ H', Dn.rt (.bl true) H') →
      tt Dn [some (.ref a), some (.ref t), some v, none, none, none, none, none, none, none, none, none, none, none, none, none, none] H := by
  obtain ⟨tg, hG, rG⟩ := tailG b_len b_dict b_tuple b_max F__law_draw F__law_tips F_is_still f cdv A outer s H0 E hr
  have nd := sc_law.nd
  have ndc1 : ((["_law_name"] : List Str) ++ (["_law_script", "_law_town"] : List Str)).Nodup := by decide +kernel
  have ndc2 : ((["_law_way", "_law_name"] : List Str) ++ ([] : List Str)).Nodup := by decide +kernel
  refine ⟨_, (pss_cons (ps_set (i := 3) nd rfl (by first | exact Or.inl rfl | exact Or.inr rfl) (pe_sortset b_sorted b_set rfl (pa_cons (pe_comp (own := ["_law_way", "_law_name"]) (frees := []) (ix := []) (pi_list (pe_callF F__law_leaves (hr.mono (by omega)) (pa_cons (pv 2) (pa_cons pe_str pa_nil)))) (fun c => (pg_tup rfl (pgs_cons (pg_name (i := 0) ndc2 rfl (by first | exact Or.inl rfl | exact Or.inr rfl)) (pgs_cons (pg_name (i := 1) ndc2 rfl (by first | exact Or.inl rfl | exact Or.inr rfl)) pgs_nil)))) (fun c => PIf.nil) (fun c => (pv 1))) pa_nil)))
    (pss_cons (ps_set (i := 4) nd rfl (by first | exact Or.inl rfl | exact Or.inr rfl) (pe_callTy call_tuple_of rfl b_tuple boot_tuple (pa_cons (pe_comp (own := ["_law_name"]) (frees := ["_law_script", "_law_town"]) (ix := [0, 1]) (pi_list (pv 3)) (fun c => (pg_name (i := 0) ndc1 rfl (by first | exact Or.inl rfl | exact Or.inr rfl))) (fun c => PIf.nil) (fun c => (pe_tup (pa_cons (pv 0) (pa_cons (pe_op op_add pe_int (pe_callF F__law_draw (hr.mono (by omega)) (pa_cons (pv 1) (pa_cons (pv 2) (pa_cons (pe_callF F__law_pick (hr.mono (by omega)) (pa_cons (pv 1) (pa_cons (pv 2) (pa_cons (pe_lst (pa_cons pe_int (pa_cons pe_int (pa_cons pe_int pa_nil)))) pa_nil)))) pa_nil))))) pa_nil))))) pa_nil)))
    (pss_cons (ps_set (i := 5) nd rfl (by first | exact Or.inl rfl | exact Or.inr rfl) (pe_callF F__law_ask (hr.mono (by omega)) (pa_cons (pv 2) pa_nil)))
    (pss_cons (ps_if (pt_cmpR op_notN (pe_callF F__law_bar (hr.mono (by omega)) (pa_cons (pv 2) pa_nil)) pe_non (nomark _)) (pss_one (ps_ret (pe_and (pe_cmpR (op_eqD (hu64 hr)) (pv 5) (pe_tup (pa_cons pe_str (pa_cons pe_int pa_nil))) (nomark _)) (pe_and (pe_cmpR op_notN (pe_callF F_bar (hr.mono (by omega)) (pa_cons (pv 2) pa_nil)) pe_non (nomark _)) (pe_one (pe_not (pe_callX F_is_still (hr.mono (by omega)) passNo (pa_cons (pv 2) (pa_cons (pv 4) pa_nil))))))))) pss_nil)
    hG)))), fun Dn a t ns n0 v m H4 hS4 hat hT4 hn0 hD hg q => ?_⟩
  have h5 := hg.deep
  have n32 := names_len h5
  refine ⟨_, rfl, v, m, ("" : Str), rfl, hD, by omega, h5, by show 0 + m.deep ≤ 1000; omega, fun l1 ys1 H5 g5 n5 e5 d5 => ?_⟩
  refine ⟨l1, rfl, ⟨_, SqL.of e5⟩, fun c acc hacc => ?_⟩
  have hlen : ys1.length = (lv m ("" : Str)).length := by rw [d5.len, List.length_map]
  refine comp_list (xs := ys1) (fun i zs H6 => zs = (((lv m ("" : Str)).take i).map (·.2)).map V.str ∧ H6 acc = some (.lst zs) ∧ Same H5 H6) ?_ ?_ ?_ ?_ ?_
  · exact ⟨by simp, upd_same, Same.new hacc _⟩
  · rintro i zs H6 _ ⟨_, h, _⟩
    exact h
  · rintro i zs H6 _ ⟨_, _, g6⟩
    exact (SqL.of e5).same g6
  · rintro i zs H6 x hx ⟨hz, ha6, g6⟩
    obtain ⟨d, hd, hxd⟩ := L2.DpAll.get d5 hx
    rw [List.getElem?_map] at hd
    obtain ⟨p, hp, rfl⟩ : ∃ p, (lv m ("" : Str))[i]? = some p ∧ d = leafD p := by
      cases e : (lv m ("" : Str))[i]? with
      | none => rw [e] at hd; cases hd
      | some r => rw [e] at hd; cases hd; exact ⟨r, rfl, rfl⟩
    obtain ⟨pa, rfl, hpa⟩ := leafI hxd
    refine ⟨pa, _, rfl, hpa.same g6, rfl, _, _, rfl, _, _, rfl, rfl, ?_⟩
    refine ⟨.own (.own .nil), iteT ?_⟩
    refine ⟨_, rfl, ha6, by rw [hz, List.length_map, List.length_map, List.length_take]; have := lv_small (m := m) ("" : Str) h5; exact small1000 (by omega), ?_, upd_same, fun b o e => ?_⟩
    · rw [hz, List.take_add_one, hp]
      simp
    · rw [upd_ne (ne_of_none e hacc)]
      exact g6 b o e
  rintro zs H6 ⟨rfl, ha6, g6⟩
  rw [List.take_of_length_le (by omega), lv_names] at ha6
  refine ⟨acc, m.names, rfl, SqL.of ha6, by omega, fun nh ys hnh hpw hmem => ?_⟩
  have hys32 : ys.length ≤ 32 := Nat.le_trans (nodup_le (rise_nodup hpw) fun x hx => (hmem x).mp hx) n32
  have s7 := Same.new hnh (.lst (ys.map V.str))
  obtain ⟨H8, e8, G8, enh8⟩ : ∃ H8, H8 = upd H6 nh (.lst (ys.map V.str)) ∧ Same H4 H8 ∧ H8 nh = some (.lst (ys.map V.str)) := ⟨_, rfl, (g5.trans g6).trans s7, upd_same⟩
  rw [← e8]
  have hnt : nh ≠ t := by
    obtain ⟨zs, e, _⟩ := hT4
    exact fun z => by rw [z, (g5.trans g6) _ _ e] at hnh; cases hnh
  have hT8 := hT4.same G8
  have hS8 := hS4.same G8
  have hD8 := Dp.same G8 _ _ hD
  refine ⟨_, rfl, nh, rfl, ⟨_, SqL.of enh8⟩, fun c2 rl hrl => ?_⟩
  have hrt : rl ≠ t := by
    obtain ⟨zs, e, _⟩ := hT8
    exact fun z => by rw [z, e] at hrl; cases hrl
  refine comp_list (xs := ys.map V.str) (fun i zs H9 => ∃ rs : List (Str × Int), DpAll K H9 zs (rs.map pD) ∧ rs.map (·.1) = ys.take i ∧ (∀ r ∈ rs, ROk r) ∧ H9 rl = some (.lst zs) ∧ But t H8 H9 ∧ Tw H9 t (n0 + 2 * i)) ?_ ?_ ?_ ?_ ?_
  · exact ⟨[], .nil, by simp, by simp, upd_same, (Same.new hrl _).but, hT8.same (Same.new hrl _)⟩
  · rintro i zs H9 _ ⟨_, _, _, _, h, _⟩
    exact h
  · rintro i zs H9 _ ⟨_, _, _, _, _, g9, _⟩
    exact SqL.of (g9 _ _ hnt enh8)
  · rintro i zs H9 x hx ⟨rs, dzs, hrs, hro, hrl9, g9, hT9⟩
    rw [List.getElem?_map] at hx
    obtain ⟨nm, hnm, rfl⟩ : ∃ nm, ys[i]? = some nm ∧ x = .str nm := by
      cases e : ys[i]? with
      | none => rw [e] at hx; cases hx
      | some r => rw [e] at hx; cases hx; exact ⟨r, rfl, rfl⟩
    have hi : i < ys.length := (List.getElem?_eq_some_iff.mp hnm).1
    have hnO : NameOk nm := hg.names nm ((hmem nm).mp (List.mem_of_getElem? hnm))
    have hzl : zs.length ≤ 32 := by
      rw [dzs.len, List.length_map]
      have := congrArg List.length hrs
      rw [List.length_map, List.length_take] at this
      omega
    have hS9 := hS8.butN g9 hat
    obtain ⟨zt9, et9, _⟩ := id hT9
    refine ⟨.own (.keep (.keep .nil)), iteT ?_⟩
    refine ⟨_, rfl, _, rfl, _, rfl, _, rfl, _, rfl, (by show 3 ≤ sizeLine; decide), fun l1 hl1 => ?_⟩
    have u := Same.new hl1 (.lst [.int 2, .int 4, .int 99])
    have hl1t : l1 ≠ t := fun z => by rw [z, et9] at hl1; cases hl1
    refine ⟨a, t, l1, ns, _, _, rfl, hS9.same u, hat, hl1t, SqL.of upd_same, (by show 0 < 3; decide), hT9.same u, by omega, fun y H15 hy g15 hT15 => ?_⟩
    obtain ⟨wd, rfl, hw1, hw2⟩ : ∃ wd : Int, y = .int wd ∧ 1 ≤ wd ∧ wd ≤ 99 := by
      simp only [List.mem_cons, List.not_mem_nil, or_false] at hy
      rcases hy with rfl | rfl | rfl <;> exact ⟨_, rfl, by decide, by decide⟩
    have hS15 := (hS9.same u).butN g15 hat
    have dzs15 := DpAll.but g15 (u _ _ et9) _ _ (pDs_noL rs) (DpAll.same u _ _ dzs)
    have hrl15 := g15 _ _ hrt (u _ _ hrl9)
    obtain ⟨zt15, et15, _⟩ := id hT15
    refine ⟨a, t, ns, _, wd, rfl, hS15, hat, hT15, by omega, by omega, fun i2 H16 i0 i1 g16 hT16 => ⟨_, _, rfl, rfl, (by show 2 ≤ sizeLine; decide), fun p hp => ?_⟩⟩
    have dzs16 := DpAll.but g16 et15 _ _ (pDs_noL rs) dzs15
    have hrl16 := g16 _ _ hrt hrl15
    have s17 := Same.new hp (.tup [.str nm, .int (1 + i2)])
    have hrl17 := s17 _ _ hrl16
    have d17 : DpAll K (upd H16 p (.tup [.str nm, .int (1 + i2)])) (zs ++ [.ref p]) ((rs ++ [(nm, 1 + i2)]).map pD) := by
      rw [List.map_append]
      exact (DpAll.same s17 _ _ dzs16).app (.cons (.tup (SqT.of upd_same) (.cons (.str _) (.cons (.int _) .nil))) .nil)
    refine ⟨hrl17, small1000 (by omega), rs ++ [(nm, 1 + i2)], DpAll.but But.upd hrl17 _ _ (pDs_noL _) d17, ?_, fun r hr => ?_, upd_same, fun b o hb e => ?_, ?_⟩
    · rw [List.map_append, hrs, List.take_add_one, hnm]
      rfl
    · rcases List.mem_append.mp hr with h | h
      · exact hro r h
      · rw [List.mem_singleton.mp h]
        exact ⟨hnO, by show 1 ≤ 1 + i2; omega, by show 1 + i2 ≤ 999999; omega⟩
    · rw [upd_ne (ne_of_none e hrl)]
      exact s17 _ _ (g16 _ _ hb (g15 _ _ hb (u _ _ (g9 _ _ hb e))))
    · exact ((hT16.mono (by omega)).same s17).upd hrt
  rintro td H9 ⟨rd, dtd, hrd, hro, hrl9, g9, hT9⟩
  rw [List.length_map, List.take_length] at hrd
  have hT9 : Tw H9 t (n0 + 64) := hT9.mono (by rw [List.length_map]; omega)
  obtain ⟨zt8, et8, _⟩ := id hT8
  refine ⟨rl, td, rfl, .inl ⟨SqL.of hrl9, fun dp hdp => ?_⟩⟩
  have s10 := Same.new hdp (.tup td)
  obtain ⟨H10, e10, g10, edp⟩ : ∃ H10, H10 = upd H9 dp (.tup td) ∧ Same H9 H10 ∧ H10 dp = some (.tup td) := ⟨_, rfl, s10, upd_same⟩
  rw [← e10]
  have hS10 := (hS8.butN g9 hat).same g10
  have hD10 := Dp.same g10 _ _ (Dp.but g9 et8 _ _ (mD_noL m) hD8)
  have N10 : Nms H10 m nh ys := ⟨g10 _ _ (g9 _ _ hnt enh8), hpw, hmem, hys32⟩
  have RD10 : Rw K H10 ys dp td rd := ⟨edp, DpAll.same g10 _ _ dtd, hrd, hro⟩
  have hT10 := hT9.same g10
  refine ⟨_, rfl, v, m, rfl, hD10, hg, fun no r11 H11 g11 d11 => ?_, fun yes fp tf ys' H11 g11 nfp efp hpw' hmem' dtf => ?_⟩
  · obtain ⟨pb, hpb⟩ : ∃ pb, barM [] (sh3 m "" 1) = some pb := by
      cases e : barM [] (sh3 m "" 1) with
      | none => exact absurd e no
      | some pb => exact ⟨pb, rfl⟩
    refine ⟨_, rfl, v, m, rfl, Dp.same g11 _ _ hD10, hg, fun r12 H12 g12 d12 => ⟨rfl, _, rfl, ?_⟩⟩
    rw [hpb] at d12
    obtain ⟨a12, xs12, rfl, _⟩ := Dp.tupI (show Dp K H12 r12 (.tuple [.str pb.1, .str pb.2]) from d12)
    refine iteT ?_
    refine ⟨_, rfl, (by show 2 ≤ sizeLine; decide), fun p13 hp13 => ?_⟩
    have s13 := Same.new hp13 (.tup [.str ("refused" : Str), .int 5])
    refine ⟨refD, refD, Dp.same (g12.trans s13) _ _ d11, .tup (SqT.of upd_same) (.cons (.str _) (.cons (.int _) .nil)), refD_lay, refD_lay, by have := refD_depth; omega, _, rfl, ?_⟩
    rw [eqv_self refD_noB]
    refine iteT ?_
    have G13 := g11.trans (g12.trans s13)
    refine ⟨_, rfl, v, m, rfl, Dp.same G13 _ _ hD10, hg, fun r14 H14 g14 d14 => ⟨rfl, _, rfl, ?_⟩⟩
    rw [hpb] at d14
    obtain ⟨a14, xs14, rfl, _⟩ := Dp.tupI (show Dp K H14 r14 (.tuple [.str pb.1, .str pb.2]) from d14)
    refine iteT ?_
    have G14 := G13.trans g14
    have N14 := N10.same G14
    have RD14 := RD10.same G14
    refine ⟨_, rfl, _, rfl, v, m, .ref dp, .tuple (rd.map pD), rfl, Dp.same G14 _ _ hD10, hg, RD14.wt N14, fun H15 g15 => ?_⟩
    rw [if_pos (RD14.ok1 N14)]
    refine ⟨_, rfl, ?_⟩
    have hne : tp (fB (rd.map pD)) m "" ≠ [] := tp_bar hg.arms no (fun x hx => by
      have hxy := (hmem x).mpr hx
      rw [← hrd] at hxy
      obtain ⟨r, hr, rfl⟩ := List.mem_map.mp hxy
      rw [(fB_row (RD14.nd N14) hr).2]
      exact (hro r hr).lo) h5
    rw [show decide (tp (fB (dsOf (.tuple (rd.map pD)))) m "" = []) = false from decide_eq_false hne]
    exact q _
  · have hyy : ys' = ys := (rise_eq hpw hpw' fun x => (hmem' x).trans (hmem x).symm).symm
    subst hyy
    refine ⟨_, rfl, v, m, rfl, Dp.same g11 _ _ hD10, hg, fun r12 H12 g12 d12 => ⟨rfl, _, rfl, ?_⟩⟩
    rw [yes] at d12
    obtain rfl := Dp.noneI (show Dp K H12 r12 .none from d12)
    refine iteF ?_
    have G12 := g11.trans g12
    exact rG Dn a t nh dp fp ns (n0 + 64) v m ys' td tf rd H12 (hS10.same G12) hat (hT10.same G12) (by omega) hnt (Dp.same G12 _ _ hD10) hg (N10.same G12) (RD10.same G12) (g12 _ _ efp) (DpAll.same g12 _ _ dtf) yes q
def spLaw (K : PySem.W.Frag) : Sp := fun vs H Q _ => ∃ (a : Addr) (ns : List Int), vs = [.ref a] ∧ SqL K H a (ns.map V.int) ∧ ∀ H', Q (.bl true) H'
theorem f_law {f : Addr} {fd : FuncData} (T : Fun K "law" "law" s_law f fd) (b_len : mg "len" = none) (b_dict : mg "dict" = none) (b_tuple : mg "tuple" = none) (b_max : mg "max" = none) (b_sorted : mg "sorted" = none) (b_set : mg "set" = none) (F__law_draw : Fn P w K mg base 3 "_law_draw" p__law_draw (spDraw K)) (F__law_pick : Fn P w K mg base 4 "_law_pick" p__law_pick (spPick K))
    (F__law_names : Fn P w K mg base 5 "_law_names" p__law_names (spNames K)) (F__law_mobile : Fn P w K mg base 9 "_law_mobile" p__law_mobile (spMobile K 4)) (F__law_unlike : Fn P w K mg base 9 "_law_unlike" p__law_unlike (spUnlike K 4))
    (F__law_leaves : Fn P w K mg base 6 "_law_leaves" p__law_leaves (spLeaves K 6)) (F__law_ask : Fn P w K mg base 13 "_law_ask" p__law_ask (spAsk K)) (F__law_bar : Fn P w K mg base 8 "_law_bar" p__law_bar (spBar K)) (F_bar : Fn P w K mg base 11 "bar" p_bar (spBar K))
    (F__law_tips : Fn P w K mg base 12 "_law_tips" p__law_tips (spLT K 6)) (F_is_still : FnX P w K mg base 16 "is_still" p_is_still (spStill K e_NoWeights)) : FnOk P w K mg base CX0 17 f fd p_law (spLaw K) := by
  refine T.ok sc_law (fun vs H Q E h => ?_) (fun cdv A outer s H vs Q E hr h => ?_)
  · obtain ⟨a, ns, rfl, _⟩ := h
    rfl
  obtain ⟨a, ns, rfl, hS, q⟩ := h
  have nd := sc_law.nd
  obtain ⟨th, hTail, rH⟩ := tailH b_len b_dict b_tuple b_max b_sorted b_set F__law_draw F__law_pick F__law_leaves F__law_ask F__law_bar F_bar F__law_tips F_is_still f cdv A outer s H E hr
  refine ⟨_, (pss_cons (ps_set (i := 1) nd rfl (by first | exact Or.inl rfl | exact Or.inr rfl) (pe_lst pa_nil))
    (pss_cons (ps_set (i := 2) nd rfl (by first | exact Or.inl rfl | exact Or.inr rfl) (pe_callF F__law_mobile (hr.mono (by omega)) (pa_cons (pv 0) (pa_cons (pv 1) (pa_cons (pe_callF F__law_names (hr.mono (by omega)) (pa_cons (pv 0) (pa_cons (pv 1) (pa_cons (pe_op op_add pe_int (pe_callF F__law_draw (hr.mono (by omega)) (pa_cons (pv 0) (pa_cons (pv 1) (pa_cons pe_int pa_nil))))) pa_nil)))) (pa_cons pe_int pa_nil))))))
    (pss_cons (ps_if (pt_cmpR op_eq (pe_callF F__law_draw (hr.mono (by omega)) (pa_cons (pv 0) (pa_cons (pv 1) (pa_cons pe_int pa_nil)))) pe_int (nomark _)) (pss_one (ps_set (i := 2) nd rfl (by first | exact Or.inl rfl | exact Or.inr rfl) (pe_callF F__law_unlike (hr.mono (by omega)) (pa_cons (pv 0) (pa_cons (pv 1) (pa_cons pe_int (pa_cons (pe_lst pa_nil) pa_nil))))))) pss_nil)
    hTail))), ?_⟩
  refine ⟨sz0, fun t ht => ?_⟩
  have s1 := Same.new ht (.lst [])
  have hat := NE.of hS ht
  have hT1 : Tw (upd H t (.lst [])) t 0 := ⟨[], upd_same, Nat.le_refl _⟩
  have hS1 := hS.same s1
  have e91 : tm 4 = 91 := rfl
  refine ⟨_, rfl, _, rfl, _, rfl, _, rfl, _, rfl, _, rfl, a, t, ns, 0, 6, rfl, hS1, hat, hT1, by decide, by decide, fun d H2 d0 d1 g2 hT2 => ?_⟩
  refine ⟨_, _, rfl, rfl, a, t, ns, 1, (1 + d).toNat, ?_, hS1.butN g2 hat, hat, hT2, by omega, by omega, fun l xs H3 nl el hxl hok g3 hT3 => ?_⟩
  · show [V.ref a, V.ref t, V.int (1 + d)] = _
    rw [show (((1 + d).toNat : Nat) : Int) = 1 + d by omega]
  have hlt : l ≠ t := by
    obtain ⟨zs, e, _⟩ := hT2
    exact (ne_of_none e nl).symm
  refine ⟨a, t, l, ns, xs, 1 + 6 * (1 + d).toNat, rfl, (hS1.butN g2 hat).butN g3 hat, hat, hlt, SqL.of el, by omega, hT3, by omega, fun v m H4 hD hM g4 hT4 => ?_⟩
  have hg : Good 5 m := ⟨Nat.le_succ_of_le hM.deep, hM.arms, fun x hx => hok x (hM.names x hx)⟩
  have hS4 := ((hS1.butN g2 hat).butN g3 hat).butN g4 hat
  refine ⟨_, rfl, _, rfl, a, t, ns, _, 2, rfl, hS4, hat, hT4, by omega, by decide, fun e H5 e0 e1 g5 hT5 => ?_⟩
  have hS5 := hS4.butN g5 hat
  refine ⟨rfl, _, rfl, ?_⟩
  refine ite2 (fun c => ?_) (fun c => ?_)
  · refine ⟨_, rfl, _, rfl, sz0, fun cn hcn => ?_⟩
    have s6 := Same.new hcn (.lst [])
    have htc : t ≠ cn := by
      obtain ⟨zs, e, _⟩ := hT5
      exact ne_of_none e hcn
    refine ⟨a, t, cn, ns, 1 + 6 * (1 + d).toNat + tm 4 + 1, 0, rfl, hS5.same s6, hat, NE.of hS5 hcn, htc, ?_, by omega, ⟨[], upd_same, Nat.le_refl _⟩, by decide, fun v' m' H6 hD' hM' g6 hT6 hC6 => ?_⟩
    · obtain ⟨zs, e, hl⟩ := hT5
      exact ⟨zs, s6 _ _ e, hl⟩
    exact rH _ a t ns _ v' m' H6 (SqL.but2N g6 hat (NE.of hS5 hcn) (hS5.same s6)) hat hT6 (by omega) hD' ⟨Nat.le_succ_of_le hM'.deep, hM'.arms, hM'.names⟩ q
  · obtain ⟨zs, ez, _⟩ := hT4
    exact rH _ a t ns _ v m H5 hS5 hat hT5 (by omega) (Dp.but g5 ez _ _ (mD_noL m) hD) hg q
end
end My
namespace L2
open PySem PySem.Spec PyProof.Rows
theorem topD_mk {K : PySem.W.Frag} {h : Heap} {mg : Str → Option Value} {x : Str} {st : Stmt} {ps : List Str} {f : Addr} {oc : Value} {od an : Option Addr} {osl : Array (Option Value)} {kV doc pm cdv ct : Value} (X : K.In h) (G : h.Ns mainGlobals mg)
    (a : PySem.W.nsIn K mainGlobals x = some (some (.ref f))) (l : K.lookup f = some ⟨oc, od, .func (PySem.W.fnOf x x (defArgs st) (defBody st) (defScope st) .none kV doc pm an cdv ct), osl⟩) (c : PySem.W.codeIn K cdv x = true) (k : PySem.W.keepIn K (.ref f) = true)
    (hb : ∀ (kV doc pm : Value) (an : Option Addr) (cdv ct : Value) (us : List Value), us.length = ps.length → bindArgs (PySem.W.fnOf x x (defArgs st) (defBody st) (defScope st) .none kV doc pm an cdv ct) ⟨us, []⟩ = pure (ps.zip us)) : TopD K mg x st ps :=
  ⟨f, _, fun_mk l c k, (fun_mk l c k).binds hb, PySem.W.mg_of X G a⟩
theorem topD_go {C : Prop} {K : PySem.W.Frag} {h : Heap} {mg : Str → Option Value} {x : Str} {st : Stmt} {ps : List Str} {f : Addr} {oc : Value} {od an : Option Addr} {osl : Array (Option Value)} {kV doc pm cdv ct : Value} (X : K.In h) (G : h.Ns mainGlobals mg)
    (a : PySem.W.nsIn K mainGlobals x = some (some (.ref f))) (l : K.lookup f = some ⟨oc, od, .func (PySem.W.fnOf x x (defArgs st) (defBody st) (defScope st) .none kV doc pm an cdv ct), osl⟩) (c : PySem.W.codeIn K cdv x = true) (k : PySem.W.keepIn K (.ref f) = true)
    (hb : ∀ (kV doc pm : Value) (an : Option Addr) (cdv ct : Value) (us : List Value), us.length = ps.length → bindArgs (PySem.W.fnOf x x (defArgs st) (defBody st) (defScope st) .none kV doc pm an cdv ct) ⟨us, []⟩ = pure (ps.zip us)) (go : TopD K mg x st ps → C) : C :=
  go (topD_mk X G a l c k hb)
theorem cls_some {K : PySem.W.Frag} {C : Addr} {bmB : List Value} {newId : String} (q : PySem.W.excIn K C bmB newId = true) : (PySem.W.clsIn K C).isSome = true := by
  unfold PySem.W.excIn at q
  split at q
  · rename_i ho
    unfold PySem.W.clsIn
    rw [ho]
    rfl
  · cases q
end L2
namespace My
open PySem PySem.Spec PyProof.Rows L2 MA
theorem all {P : Program} {w : World} {K : PySem.W.Frag} {mg : Str → Option Value} {base : Heap} {f : Addr} {fd : FuncData} {e_HangError e_NoMobile e_NoHall e_NoWeights e_NoWay e_NoNumber e_Never e_TooLong e_TooDeep : Addr} (T_is_number : TopD K mg "is_number" s_is_number p_is_number) (T_is_name : TopD K mg "is_name" s_is_name p_is_name) (T_is_mobile_within : TopD K mg "is_mobile_within" s_is_mobile_within p_is_mobile_within) (T_is_mobile : TopD K mg "is_mobile" s_is_mobile p_is_mobile) (T_check_mobile : TopD K mg "check_mobile" s_check_mobile p_check_mobile) (T_is_named_number : TopD K mg "is_named_number" s_is_named_number p_is_named_number) (T_is_weights : TopD K mg "is_weights" s_is_weights p_is_weights) (T_check_are_weights : TopD K mg "check_are_weights" s_check_are_weights p_check_are_weights) (T_check_weights : TopD K mg "check_weights" s_check_weights p_check_weights) (T_leaves_below : TopD K mg "leaves_below" s_leaves_below p_leaves_below) (T_load_below : TopD K mg "load_below" s_load_below p_load_below) (T_pulls : TopD K mg "pulls" s_pulls p_pulls) (T_tips_below : TopD K mg "tips_below" s_tips_below p_tips_below) (T_tips : TopD K mg "tips" s_tips p_tips) (T_is_still : TopD K mg "is_still" s_is_still p_is_still) (T_greatest_divisor : TopD K mg "greatest_divisor" s_greatest_divisor p_greatest_divisor) (T_reduced : TopD K mg "reduced" s_reduced p_reduced) (T_product : TopD K mg "product" s_product p_product) (T_least_whole : TopD K mg "least_whole" s_least_whole p_least_whole) (T_shares_below : TopD K mg "shares_below" s_shares_below p_shares_below) (T_name_shares : TopD K mg "name_shares" s_name_shares p_name_shares) (T_least_weights : TopD K mg "least_weights" s_least_weights p_least_weights) (T_shares : TopD K mg "shares" s_shares p_shares) (T_bar : TopD K mg "bar" s_bar p_bar) (T_least : TopD K mg "least" s_least p_least) (T__law_cell_at : TopD K mg "_law_cell_at" s__law_cell_at p__law_cell_at) (T__law_mixed : TopD K mg "_law_mixed" s__law_mixed p__law_mixed) (T__law_draw : TopD K mg "_law_draw" s__law_draw p__law_draw) (T__law_pick : TopD K mg "_law_pick" s__law_pick p__law_pick) (T__law_mobile : TopD K mg "_law_mobile" s__law_mobile p__law_mobile) (T__law_names : TopD K mg "_law_names" s__law_names p__law_names) (T__law_unlike : TopD K mg "_law_unlike" s__law_unlike p__law_unlike) (T__law_leaves : TopD K mg "_law_leaves" s__law_leaves p__law_leaves) (T__law_load : TopD K mg "_law_load" s__law_load p__law_load) (T__law_tips : TopD K mg "_law_tips" s__law_tips p__law_tips) (T__law_least : TopD K mg "_law_least" s__law_least p__law_least) (T__law_shares : TopD K mg "_law_shares" s__law_shares p__law_shares) (T__law_bar : TopD K mg "_law_bar" s__law_bar p__law_bar) (T__law_which : TopD K mg "_law_which" s__law_which p__law_which) (T__law_ask : TopD K mg "_law_ask" s__law_ask p__law_ask) (b_len : mg "len" = none) (b_range : mg "range" = none) (b_isinstance : mg "isinstance" = none) (b_bool : mg "bool" = none) (b_int : mg "int" = none) (b_str : mg "str" = none) (b_tuple : mg "tuple" = none) (b_all : mg "all" = none) (b_sorted : mg "sorted" = none) (b_set : mg "set" = none) (b_dict : mg "dict" = none) (b_sum : mg "sum" = none) (b_ValueError : mg "ValueError" = none) (b_list : mg "list" = none) (b_zip : mg "zip" = none) (b_enumerate : mg "enumerate" = none) (b_max : mg "max" = none) {t1 t2 t3 t4 : Tok}
    (m1 : mg "LONGEST_NAME" = some (.int 3 t1)) (m2 : mg "LONGEST_ARM" = some (.int 9 t2)) (m3 : mg "MOST_RODS" = some (.int 5 t3)) (m4 : mg "HEAVIEST" = some (.int 999999 t4)) (Z : ClsK K mg e_HangError e_NoMobile e_NoHall e_NoWeights e_NoWay e_NoNumber e_Never e_TooLong e_TooDeep) (T : Fun K "law" "law" s_law f fd) : FnOk P w K mg base CX0 17 f fd p_law (spLaw K) := by
  have Fcell := f_cell_at (P := P) (w := w) (base := base) T__law_cell_at b_len
  have Fmix := f_mixed T__law_mixed Fcell
  have Fdraw := f_draw T__law_draw b_len Fmix
  have Fpick := f_pick T__law_pick b_len Fdraw
  have Fmob := f_mobile T__law_mobile b_range Fdraw Fpick 4
  have Fnames := f_names T__law_names b_range Fdraw Fpick
  have Funl := f_unlike T__law_unlike b_range b_len Fdraw Fpick 4
  have Flv := f_leaves (P := P) (w := w) (base := base) T__law_leaves 6
  have Fleast := f_least (P := P) (w := w) (base := base) T__law_least
  have Flsh := f_lsh T__law_shares Fleast 6
  have Fgcd := f_gcd (P := P) (w := w) (base := base) T_greatest_divisor
  have Fred := f_reduced T_reduced Fgcd
  have Fprod := f_product T_product Fred
  have FshB := f_shB T_shares_below Fprod 6
  have FnumG := f_numG (P := P) (w := w) (base := base) T_is_number b_isinstance b_bool b_int
  have FnameG := f_nameG (P := P) (w := w) (base := base) T_is_name b_isinstance b_str b_len b_all m1
  have Fnum := f_is_number (P := P) (w := w) (base := base) T_is_number b_isinstance b_bool b_int
  have Fname := f_is_name (P := P) (w := w) (base := base) T_is_name b_isinstance b_str b_len b_all m1
  have Fimw := f_imw T_is_mobile_within b_isinstance b_str b_tuple b_len m2 Fname Fnum 6
  have Fim := f_is_mobile T_is_mobile m3 Fimw
  have Fchk := f_check_mobile T_check_mobile Fim
  have Fsh := f_shares T_shares Fchk FshB
  have Fbar := f_bar T_bar Fsh
  have Flbar := f_lbar T__law_bar b_list b_zip b_enumerate Flv Flsh
  have Fpair := f_pairG T_is_named_number b_isinstance b_tuple b_len m4 FnameG FnumG
  have Fw := f_weights T_is_weights b_isinstance b_tuple b_all b_sorted b_set Fpair
  have Flb := f_lb (P := P) (w := w) (base := base) T_leaves_below 6
  have Fload := f_load_below T_load_below b_sum Flb
  have Fpl := f_pulls T_pulls Fload
  have Ftb := f_tb T_tips_below Fpl 6
  have Fcaw := f_caw T_check_are_weights Z.mW Z.xw Fw
  have Fcw := f_cw T_check_weights b_dict Z.mW Z.xw Fcaw Flb
  have Ft := f_tips T_tips b_dict Fchk Fcw Ftb
  have Fs := f_still T_is_still Ft
  have Fll := f_ll (P := P) (w := w) (base := base) T__law_load 6
  have Flt := f_lt T__law_tips Fll 6
  have Flw := f_lw T_least_whole Fgcd
  have Fns := f_ns T_name_shares b_dict Fsh
  have Flwt := f_lwt T_least_weights b_sorted b_tuple b_zip Flw
  have FlP := f_leastP T_least Z.mNv Z.x Fbar Fns Flwt
  have Fwh := f_which (P := P) (w := w) (base := base) T__law_which b_isinstance b_ValueError Z
  have Fask := f_ask T__law_ask Z FlP Fwh
  exact f_law T b_len b_dict b_tuple b_max b_sorted b_set Fdraw Fpick Fnames Fmob Funl Flv Fask Flbar Fbar Flt Fs
theorem walk {l : PySem.W.OpenLaw} {q : Program} {loose : List Str} {XP : (Str → Option Value) → Heap → Prop} {YP : World → Heap → Prop} {d : DefRec} {K : Params → PySem.W.Frag} (hn : l.most = some 63) (hdf : d.params.defaults = [])
    (hY : ∀ (w : World) (h : Heap), YP w h → (K w.params).In h)
    (F : ∀ (w : World) (mg : Str → Option Value) (fa : Addr) (h : Heap), (K w.params).In h → h.Ns mainGlobals mg → mg d.name = some (.ref fa) →
      ∃ fd : FuncData, (∀ (s : Shared) (u : Value), BindsTo s fd ⟨[u], []⟩ [("_law_script", u)]) ∧ ∀ base : Heap, (K w.params).In base → base.Ns mainGlobals mg → FnOk l.prog w (K w.params) mg base CX0 17 fa fd ["_law_script"] (spLaw (K w.params))) :
    PySem.W.WalkO q loose XP YP l.row.toRowW d [] (fun f vs => PySem.call f vs) :=
  L2.walk_of (n := 63) (k := 17) (x := "_law_script") (CX := fun _ => CX0) (sp := fun w => spLaw (K w.params)) hn (by decide) hdf ⟨rfl, by decide, by decide⟩ hY F (fun _ _ a ns hl _ hS => ⟨a, ns, rfl, hS, fun _ => rfl⟩) fun _ _ _ _ _ z => z
theorem law_mk {l : PySem.W.OpenLaw} {w : World} {K : PySem.W.Frag} {h : Heap} {mg : Str → Option Value} {fa f3 : Addr} {od3 an3 : Option Addr} {sl3 : Array (Option Value)} {oc3 kV3 dc3 pm3 cd3 ct3 : Value} (X : K.In h) (G : h.Ns mainGlobals mg) (hfa : mg "law" = some (.ref fa))
    (a3 : PySem.W.nsIn K mainGlobals "law" = some (some (.ref f3))) (l3 : K.lookup f3 = some ⟨oc3, od3, .func (PySem.W.fnOf "law" "law" (defArgs s_law) (defBody s_law) (defScope s_law) .none kV3 dc3 pm3 an3 cd3 ct3), sl3⟩) (c3 : PySem.W.codeIn K cd3 "law" = true) (k3 : PySem.W.keepIn K (.ref f3) = true)
    (go : ∀ (base : Heap) {f : Addr} {fd : FuncData}, Fun K "law" "law" s_law f fd → FnOk l.prog w K mg base CX0 17 f fd p_law (spLaw K)) :
    ∃ fd : FuncData, (∀ (s : Shared) (v : Value), BindsTo s fd ⟨[v], []⟩ [("_law_script", v)]) ∧ ∀ base : Heap, K.In base → base.Ns mainGlobals mg → FnOk l.prog w K mg base CX0 17 fa fd ["_law_script"] (spLaw K) := by
  have e := hfa.symm.trans (PySem.W.mg_of X G a3)
  cases e
  exact ⟨PySem.W.fnOf "law" "law" (defArgs s_law) (defBody s_law) (defScope s_law) .none kV3 dc3 pm3 an3 cd3 ct3, fun s v => .of_eq rfl, fun base _ _ => go base (fun_mk l3 c3 k3)⟩
theorem cls_go {C : Prop} {K : PySem.W.Frag} {h : Heap} {mg : Str → Option Value} {e_HangError e_NoMobile e_NoHall e_NoWeights e_NoWay e_NoNumber e_Never e_TooLong e_TooDeep : Addr} (X : K.In h) (G : h.Ns mainGlobals mg)
    (a0 : PySem.W.nsIn K mainGlobals "HangError" = some (some (.ref e_HangError))) (a1 : PySem.W.nsIn K mainGlobals "NoMobile" = some (some (.ref e_NoMobile))) (a2 : PySem.W.nsIn K mainGlobals "NoHall" = some (some (.ref e_NoHall))) (a3 : PySem.W.nsIn K mainGlobals "NoWeights" = some (some (.ref e_NoWeights))) (a4 : PySem.W.nsIn K mainGlobals "NoWay" = some (some (.ref e_NoWay))) (a5 : PySem.W.nsIn K mainGlobals "NoNumber" = some (some (.ref e_NoNumber))) (a6 : PySem.W.nsIn K mainGlobals "Never" = some (some (.ref e_Never))) (a7 : PySem.W.nsIn K mainGlobals "TooLong" = some (some (.ref e_TooLong))) (a8 : PySem.W.nsIn K mainGlobals "TooDeep" = some (some (.ref e_TooDeep)))
    (x : PySem.W.excIn K e_Never vErr "ValueError.__new__" = true) (xw : PySem.W.excIn K e_NoWeights vErr "ValueError.__new__" = true)
    (h1 : PySem.W.findIn K (.ref e_Never) "__getattribute__" = some (some (.builtin "BaseException.__getattribute__"))) (h2 : PySem.W.findIn K (.ref e_Never) "__getattr__" = some none)
    (h3 : PySem.W.findIn K (.ref e_Never) "__class__" = some (some (.builtin "object.__class__"))) (h4 : PySem.W.specialIn K (.builtin "object.__class__") "__get__" = some (some (.builtin "getset_descriptor.__get__"))) (h5 : PySem.W.takesIn K (.builtin "object.__class__") = some true)
    (h6 : PySem.W.mroIn K e_Never (.type "object") = some true) (h7 : PySem.W.mroIn K e_Never (.type "BaseException") = some true)
    (em : PySem.W.exmOne K (.ref e_Never) (.ref e_HangError) = some true)
    (k1 : PySem.W.kitOne K (.ref e_Never) (.ref e_NoMobile) = some false) (k2 : PySem.W.kitOne K (.ref e_Never) (.ref e_NoHall) = some false) (k3 : PySem.W.kitOne K (.ref e_Never) (.ref e_NoWeights) = some false) (k4 : PySem.W.kitOne K (.ref e_Never) (.ref e_NoWay) = some false) (k5 : PySem.W.kitOne K (.ref e_Never) (.ref e_NoNumber) = some false) (k6 : PySem.W.kitOne K (.ref e_Never) (.ref e_Never) = some true) (k7 : PySem.W.kitOne K (.ref e_Never) (.ref e_TooLong) = some false) (k8 : PySem.W.kitOne K (.ref e_Never) (.ref e_TooDeep) = some false)
    (kv : PySem.W.kitOne K (.ref e_Never) (.type "ValueError") = some true)
    (go : ClsK K mg e_HangError e_NoMobile e_NoHall e_NoWeights e_NoWay e_NoNumber e_Never e_TooLong e_TooDeep → C) : C :=
  go ⟨PySem.W.mg_of X G a0, PySem.W.mg_of X G a1, PySem.W.mg_of X G a2, PySem.W.mg_of X G a3, PySem.W.mg_of X G a4, PySem.W.mg_of X G a5, PySem.W.mg_of X G a6, PySem.W.mg_of X G a7, PySem.W.mg_of X G a8, x, xw, ⟨h1, h2, h3, h4, h5, h6, h7, cls_some x⟩, em, k1, k2, k3, k4, k5, k6, k7, k8, kv⟩
end My
open PySem PySem.W PyProof.Rows
set_option maxHeartbeats 0
def PySem.W.Fast.tw16864618592142003386 := ()
def PySem.W.Fast.tw14904681115217272601 := ()
def PySem.W.Fast.tw11898673842065290130 := ()
def PySem.W.Fast.tw4684226298888400098 := ()
def PySem.W.Fast.tw15235614512728720 := ()
def PySem.W.Fast.tw4077048163395320219 := ()
def PySem.W.Fast.tw15163409612377130007 := ()
def PySem.W.Fast.tw13913613514976480042 := ()
def PySem.W.Fast.tw16053306600634468012 := ()
def PySem.W.Fast.tw8060666987683057360 := ()
def PySem.W.Fast.tw561727478393794602 := ()
def PySem.W.Fast.tw4683681711962371626 := ()
def PySem.W.Fast.tw16822532161544500889 := ()
def PySem.W.Fast.tw2187251505897268136 := ()
def PySem.W.Fast.tw11024694936033576346 := ()
def PySem.W.Fast.tw13462424878891718212 := ()
def PySem.W.Fast.tw13861969467909019144 := ()
def PySem.W.Fast.tw855453113358079251 := ()
def PySem.W.Fast.tw15528221797031607849 := ()
def PySem.W.Fast.tw6953138203311097117 := ()
def PySem.W.Fast.tw6148498323302512570 := ()
def PySem.W.Fast.tw11738243743197964597 := ()
def PySem.W.Fast.tw8739830900816887780 := ()
def PySem.W.Fast.tw4734895289157585001 := ()
def PySem.W.Fast.tw3308634892276815127 := ()
def PySem.W.Fast.tw4323258101793500111 := ()
def PySem.W.Fast.tw14689541978594310382 := ()
def PySem.W.Fast.tw2358075552688931204 := ()
def PySem.W.Fast.tw10741264400317747893 := ()
def PySem.W.Fast.tw2399617604181995578 := ()
def PySem.W.Fast.tw17744993626210230056 := ()
def PySem.W.Fast.tw11401859456886640639 := ()
def PySem.W.Fast.tw2474200967059427378 := ()
def PySem.W.Fast.tw10294118229990073760 := ()
def PySem.W.Fast.tw18101783494082082527 := ()
def PySem.W.Fast.tw866717566613908145 := ()
def PySem.W.Fast.tw15240619367488684849 := ()
def PySem.W.Fast.tw15621415185263527259 := ()
def PySem.W.Fast.tw14219159868682941630 := ()
def PySem.W.Fast.tw13034982811429478159 := ()
def PySem.W.Fast.tw3919386906821981792 := ()
def PySem.W.Fast.tw7217548393331319763 := ()
def PySem.W.Fast.tw16636501806038632012 := ()
def PySem.W.Fast.tw15254633091992210921 := ()
def PySem.W.Fast.tw8047209995159408440 := ()
def PySem.W.Fast.tw6557801498797044033 := ()
def PySem.W.Fast.tw11564986514327137767 := ()
def PySem.W.Fast.tw11962351593759143498 := ()
def PySem.W.Fast.tw13769103115541136327 := ()
def PySem.W.Fast.tw17214186515701724070 := ()
def PySem.W.Fast.tw9592521066531166775 := ()
def PySem.W.Fast.tw9461873434466728008 := ()
def PySem.W.Fast.tw6056707288978253535 := ()
def PySem.W.Fast.tw16756451883985382160 := ()
def PySem.W.Fast.tw6522051377940421278 := ()
def PySem.W.Fast.tw2827255003249426055 := ()
def PySem.W.Fast.tw11692469974320434101 := ()
def PySem.W.Fast.tw8374155422468719031 := ()
def PySem.W.Fast.tw4562827626845409882 := ()
def PySem.W.Fast.tw9582823730064241283 := ()
def PySem.W.Fast.tw2135409205425526673 := ()
def PySem.W.Fast.tw10042083083395451092 := ()
def PySem.W.Fast.tw16902440903046159558 := ()
def PySem.W.Fast.tw1342123614928995077 := ()
def PySem.W.Fast.tw4075453323654395381 := ()
def PySem.W.Fast.tw4371606664457316919 := ()
def PySem.W.Fast.tw2295934692909999376 := ()
def PySem.W.Fast.tw9689729476882780088 := ()
def PySem.W.Fast.tw7476452910721959123 := ()
def PySem.W.Fast.tw3985964047577975286 := ()
def PySem.W.Fast.tw8002303944043701648 := ()
def PySem.W.Fast.tw12954591660760965231 := ()
def PySem.W.Fast.tw14261769069557060686 := ()
def PySem.W.Fast.tw11384182702204212275 := ()
def PySem.W.Fast.tw705470853714331063 := ()
def PySem.W.Fast.tw6154823086004874393 := ()
def PySem.W.Fast.tw7853616162499752749 := ()
def PySem.W.Fast.tw13946496683202179788 := ()
def PySem.W.Fast.tw15042883488752021643 := ()
def PySem.W.Fast.tw12459912946257978736 := ()
def PySem.W.Fast.tw6128145076113358165 := ()
def PySem.W.Fast.tw10258873121960336067 := ()
def PySem.W.Fast.tw10510056951384868246 := ()
def PySem.W.Fast.tw1950803216711332702 := ()
def PySem.W.Fast.tw1532491051758110099 := ()
def PySem.W.Fast.tw3300257896294614128 := ()
def PySem.W.Fast.tw1825952489489211193 := ()
def PySem.W.Fast.tw1207101557538958131 := ()
def PySem.W.Fast.tw17338325484393633139 := ()
def PySem.W.Fast.tw5832305185047221409 := ()
def PySem.W.Fast.tw13444670453868202053 := ()
def PySem.W.Fast.tw5890639436620234070 := ()
def PySem.W.Fast.tw11907897558876765624 := ()
def PySem.W.Fast.tw10341888390210383824 := ()
def PySem.W.Fast.tw13812277999558781770 := ()
def PySem.W.Fast.tw3215387988796971590 := ()
def PySem.W.Fast.tw8219003486749837733 := ()
def PySem.W.Fast.tw13469501207593853456 := ()
def PySem.W.Fast.tw8171798328758944481 := ()
def PySem.W.Fast.tw13421457143807847188 := ()
def PySem.W.Fast.tw2107523057676978006 := ()
def PySem.W.Fast.tw3235425350174046738 := ()
def PySem.W.Fast.tw6162269159774324313 := ()
def PySem.W.Fast.tw14424681132571578402 := ()
def PySem.W.Fast.tw17170472223608059050 := ()
def PySem.W.Fast.tw2741014181512449073 := ()
def PySem.W.Fast.tw896878414759379649 := ()
def PySem.W.Fast.tw16203965252921439515 := ()
def PySem.W.Fast.tw2483420100392427323 := ()
def PySem.W.Fast.tw14243238205550065757 := ()
def PySem.W.Fast.tw384561282630992784 := ()
def PySem.W.Fast.tw14935467056822913822 := ()
def PySem.W.Fast.tw6822071536725586909 := ()
def PySem.W.Fast.tw16409965706819354750 := ()
def PySem.W.Fast.tw8733291241859026926 := ()
def PySem.W.Fast.tw10016166984437732892 := ()
def PySem.W.Fast.tw16723463757517087524 := ()
def PySem.W.Fast.tw14782755387869428366 := ()
def PySem.W.Fast.tw17435391645217708394 := ()
def PySem.W.Fast.tw4635989785427082552 := ()
def PySem.W.Fast.tw16955839230299176341 := ()
def PySem.W.Fast.tw11823594873375168262 := ()
def PySem.W.Fast.tw16279288168775177219 := ()
def PySem.W.Fast.tw1915925776726481438 := ()
def PySem.W.Fast.tw1979317910248211280 := ()
def PySem.W.Fast.tw9784134513789038367 := ()
def PySem.W.Fast.tw17187875760726034783 := ()
def PySem.W.Fast.tw12297992134047619483 := ()
def PySem.W.Fast.tw446995266069924076 := ()
def PySem.W.Fast.tw14022695629967993375 := ()
def PySem.W.Fast.tw8535803893964050539 := ()
def PySem.W.Fast.tw2400638427578300857 := ()
def PySem.W.Fast.tw13114645530532618160 := ()
def PySem.W.Fast.tw6798380500665416597 := ()
def PySem.W.Fast.tw13135312941875745310 := ()
def PySem.W.Fast.tw2144661209622563809 := ()
def PySem.W.Fast.tw1864683662541468164 := ()
def PySem.W.Fast.tw11690183672603900073 := ()
def PySem.W.Fast.tw447263597446747957 := ()
def PySem.W.Fast.tw1478030337931831861 := ()
def PySem.W.Fast.tw2244103112122482387 := ()
def PySem.W.Fast.tw17464319187374939960 := ()
def PySem.W.Fast.tw2080317491765294665 := ()
def PySem.W.Fast.tw7086961617601330827 := ()
def PySem.W.Fast.tw14391293386007564604 := ()
def PySem.W.Fast.tw861502493610598483 := ()
def PySem.W.Fast.tw5000232492035539693 := ()
def PySem.W.Fast.tw17062427158221528723 := ()
def PySem.W.Fast.tw140236481695663071 := ()
def PySem.W.Fast.tw9402243437249704421 := ()
def PySem.W.Fast.tw13757698761724263525 := ()
def PySem.W.Fast.tw7867829370405329436 := ()
def PySem.W.Fast.tw9536688357841153863 := ()
def PySem.W.Fast.tw18437792190763421558 := ()
def PySem.W.Fast.tw2314633323536394700 := ()
def PySem.W.Fast.tw5459702643516471331 := ()
def PySem.W.Fast.tw17318462890700432884 := ()
def PySem.W.Fast.tw14387916025512776202 := ()
def PySem.W.Fast.tw1717767836212652739 := ()
def PySem.W.Fast.tw8159993647027272844 := ()
def PySem.W.Fast.tw2786648768249225349 := ()
def PySem.W.Fast.tw896239598344801917 := ()
def PySem.W.Fast.tw10698057553749749337 := ()
def PySem.W.Fast.tw2261719852989239553 := ()
def PySem.W.Fast.tw258204147387103276 := ()
def PySem.W.Fast.tw3042748168174471775 := ()
def PySem.W.Fast.tw5344687154915797982 := ()
def PySem.W.Fast.tw140001813534094272 := ()
def PySem.W.Fast.tw14226173905949225808 := ()
def PySem.W.Fast.tw12652081859355081885 := ()
def PySem.W.Fast.tw13622603851894308203 := ()
def PySem.W.Fast.tw17604482065379873290 := ()
def PySem.W.Fast.tw6170744672141170255 := ()
def PySem.W.Fast.tw5498123283257192965 := ()
def PySem.W.Fast.tw15861351967447197489 := ()
def PySem.W.Fast.tw2950685276103557050 := ()
def PySem.W.Fast.tw10374632558016547081 := ()
def PySem.W.Fast.tw17351735930882485243 := ()
def PySem.W.Fast.tw8157277791214410489 := ()
def PySem.W.Fast.tw1599053048872161195 := ()
def PySem.W.Fast.tw4480162626587320490 := ()
def PySem.W.Fast.tw12670982853097334264 := ()
def PySem.W.Fast.tw11066385474520676512 := ()
def PySem.W.Fast.tw5323657890516693427 := ()
def PySem.W.Fast.tw17292613610259460706 := ()
def PySem.W.Fast.tw1383625962624193546 := ()
def PySem.W.Fast.tw6427576097997697322 := ()
def PySem.W.Fast.tw6105849179199505303 := ()
def PySem.W.Fast.tw14664691819916384248 := ()
def PySem.W.Fast.tw12408111787983249662 := ()
def PySem.W.Fast.tw14520296925931582552 := ()
def PySem.W.Fast.tw8080008513338510535 := ()
def PySem.W.Fast.tw15925456577456769635 := ()
def PySem.W.Fast.tw4548300405975405348 := ()
def PySem.W.Fast.tw5217270863462422736 := ()
def PySem.W.Fast.tw17653592248189364939 := ()
def PySem.W.Fast.tw15805137534098808535 := ()
def PySem.W.Fast.tw3300454383303005205 := ()
def PySem.W.Fast.tw11421057715548341654 := ()
def PySem.W.Fast.tw6420159726195949164 := ()
def PySem.W.Fast.tw7485256538410118956 := ()
def PySem.W.Fast.tw6469784823511061222 := ()
def PySem.W.Fast.tw14564479935002850509 := ()
def PySem.W.Fast.tw4859391219904099992 := ()
def PySem.W.Fast.tw14404928986312190071 := ()
def PySem.W.Fast.tw3543459598558145280 := ()
def PySem.W.Fast.tw13855379610559885079 := ()
def PySem.W.Fast.tw17518593693041627797 := ()
def PySem.W.Fast.tw6858818405166986180 := ()
def PySem.W.Fast.tw17613222154834848340 := ()
def PySem.W.Fast.tw2931988195819169919 := ()
def PySem.W.Fast.tw16654469307462801742 := ()
def PySem.W.Fast.tw3641951560692057861 := ()
def PySem.W.Fast.tw1956775160557780875 := ()
def PySem.W.Fast.tw5622701340561072331 := ()
def PySem.W.Fast.tw2941924889016668590 := ()
def PySem.W.Fast.tw28018229315631829 := ()
def PySem.W.Fast.tw9796564346219866840 := ()
def PySem.W.Fast.tw18157406047293677543 := ()
def PySem.W.Fast.tw13956191218907399338 := ()
def PySem.W.Fast.tw10910644110388302437 := ()
def PySem.W.Fast.tw15685335758407661847 := ()
def PySem.W.Fast.tw5101696844757716304 := ()
def PySem.W.Fast.tw13810262117814702294 := ()
def PySem.W.Fast.tw9947508896943372755 := ()
def PySem.W.Fast.tw12099505692703838030 := ()
def PySem.W.Fast.tw10842938092177581297 := ()
def PySem.W.Fast.tw2789304352393801511 := ()
def PySem.W.Fast.tw11766667032028208565 := ()
def PySem.W.Fast.tw9331231397406362311 := ()
def PySem.W.Fast.tw1725486776273817318 := ()
def PySem.W.Fast.tw17724038513149304489 := ()
def PySem.W.Fast.tw3721919958574915784 := ()
def PySem.W.Fast.tw9848817304349107530 := ()
def PySem.W.Fast.tw18328257000508772394 := ()
def PySem.W.Fast.tw9404705873571188630 := ()
def PySem.W.Fast.tw5994696166404524948 := ()
def PySem.W.Fast.tw87601786513091389 := ()
def PySem.W.Fast.tw9116068151291705539 := ()
def PySem.W.Fast.tw771822569319705768 := ()
def PySem.W.Fast.tw14842496431369740429 := ()
def PySem.W.Fast.tw6548459193220583526 := ()
def PySem.W.Fast.tw6472337539984862722 := ()
def PySem.W.Fast.tw615563214671542189 := ()
def PySem.W.Fast.tw2228412568605170491 := ()
def PySem.W.Fast.tw3049343062529576306 := ()
def PySem.W.Fast.tw15401437161963490237 := ()
def PySem.W.Fast.tw3475869608268796686 := ()
def PySem.W.Fast.tw17483705464198625004 := ()
def PySem.W.Fast.tw4804111812005502284 := ()
def PySem.W.Fast.tw1205274952441263945 := ()
def PySem.W.Fast.tw16682895059504647277 := ()
def PySem.W.Fast.tw12727641955093265886 := ()
def PySem.W.Fast.tw13953587524928339648 := ()
def PySem.W.Fast.tw1495895850433845275 := ()
def PySem.W.Fast.tw8899516883271353254 := ()
def PySem.W.Fast.tw2353497105660221152 := ()
def PySem.W.Fast.tw991626836265849350 := ()
def PySem.W.Fast.tw9950792792127014553 := ()
def PySem.W.Fast.tw10159399881129095643 := ()
def PySem.W.Fast.tw17760279517084355780 := ()
def PySem.W.Fast.tw15590096980072825465 := ()
def PySem.W.Fast.tw1972164579936704799 := ()
def PySem.W.Fast.tw14611616552423853409 := ()
def PySem.W.Fast.tw18293242582946804979 := ()
def PySem.W.Fast.tw3953844824629472508 := ()
def PySem.W.Fast.tw9919008367099125623 := ()
def PySem.W.Fast.tw17029562028150658980 := ()
def PySem.W.Fast.tw2646887283097553488 := ()
def PySem.W.Fast.tw11853640710764476214 := ()
def PySem.W.Fast.tw13519031799517361783 := ()
def PySem.W.Fast.tw14172470266813156586 := ()
def PySem.W.Fast.tw13437419889732721216 := ()
def PySem.W.Fast.tw9464783005390448368 := ()
def PySem.W.Fast.tw9879335643197240621 := ()
def PySem.W.Fast.tw15173544498738437827 := ()
def PySem.W.Fast.tw16120054744476736488 := ()
def PySem.W.Fast.tw6968137755033780318 := ()
def PySem.W.Fast.tw12382822922155266910 := ()
def PySem.W.Fast.tw4906484309439969231 := ()
def PySem.W.Fast.tw977512076041815475 := ()
def PySem.W.Fast.tw3419001889969749887 := ()
def PySem.W.Fast.tw4699756791338806529 := ()
def PySem.W.Fast.tw643336161829623379 := ()
def PySem.W.Fast.tw4436474186459923750 := ()
def PySem.W.Fast.tw4171853373547519906 := ()
def PySem.W.Fast.tw4953865588907285216 := ()
def PySem.W.Fast.tw3374319085511977134 := ()
def PySem.W.Fast.tw5702276774652866934 := ()
def PySem.W.Fast.tw2259672571474061568 := ()
def PySem.W.Fast.tw10519837036962490867 := ()
def PySem.W.Fast.tw15251899222009183613 := ()
def PySem.W.Fast.tw3382625519597670723 := ()
def PySem.W.Fast.tw8912161614967838395 := ()
def PySem.W.Fast.tw7046044490832178742 := ()
def PySem.W.Fast.tw938635154573522699 := ()
def PySem.W.Fast.tw4493901809537577575 := ()
def PySem.W.Fast.tw9495317472360511255 := ()
def PySem.W.Fast.tw17013487888433625170 := ()
def PySem.W.Fast.tw10624116801336726872 := ()
def PySem.W.Fast.tw7774113678449685934 := ()
def PySem.W.Fast.tw8285278889055680438 := ()
def PySem.W.Fast.tw10879749546641988924 := ()
def PySem.W.Fast.tw18418582437962087742 := ()
def PySem.W.Fast.tw8422229294311615681 := ()
def PySem.W.Fast.tw16615150188913437886 := ()
def PySem.W.Fast.tw10551173667578312727 := ()
def PySem.W.Fast.tw12960429369202013873 := ()
def PySem.W.Fast.tw6229817132586351632 := ()
def PySem.W.Fast.tw12903330217458380548 := ()
def PySem.W.Fast.tw15752536640612570366 := ()
def PySem.W.Fast.tw2455152089536381482 := ()
def PySem.W.Fast.tw12431713363859531893 := ()
def PySem.W.Fast.tw1467881925912835984 := ()
def PySem.W.Fast.tw13547939009206843870 := ()
def PySem.W.Fast.tw14760874974797668852 := ()
def PySem.W.Fast.tw7480016910919988345 := ()
def PySem.W.Fast.tw5002640475654186023 := ()
def PySem.W.Fast.tw1070438729232803039 := ()
def PySem.W.Fast.tw15127105006835628225 := ()
def PySem.W.Fast.tw3778530596728393105 := ()
def PySem.W.Fast.tw11266997524610791606 := ()
def PySem.W.Fast.tw16766683885213920930 := ()
def PySem.W.Fast.tw12768989823518198380 := ()
def PySem.W.Fast.tw6356304189028158447 := ()
def PySem.W.Fast.tw8737599933303070863 := ()
def PySem.W.Fast.tw9977182230042388008 := ()
def PySem.W.Fast.tw13160504802963445071 := ()
def PySem.W.Fast.tw2694234056635809718 := ()
def PySem.W.Fast.tw5438652380644606353 := ()
def PySem.W.Fast.tw4015202173357781934 := ()
def PySem.W.Fast.tw11373181179767321252 := ()
def PySem.W.Fast.tw5449601097390414333 := ()
def PySem.W.Fast.tw6278996535519779258 := ()
def PySem.W.Fast.tw8431482922422412695 := ()
def PySem.W.Fast.tw14727194681476072466 := ()
def PySem.W.Fast.tw12147665669636231765 := ()
def PySem.W.Fast.tw15779231459743154856 := ()
def PySem.W.Fast.tw15402603294489630176 := ()
def PySem.W.Fast.tw10826640976665885199 := ()
def PySem.W.Fast.tw772564365185477556 := ()
def PySem.W.Fast.tw14537775516033599862 := ()
def PySem.W.Fast.tw10295913840692754127 := ()
def PySem.W.Fast.tw14827714588952709054 := ()
def PySem.W.Fast.tw539538531456391632 := ()
def PySem.W.Fast.tw4849480874435393781 := ()
def PySem.W.Fast.tw14903569129155370506 := ()
def PySem.W.Fast.tw11662115353561507501 := ()
def PySem.W.Fast.tw13055953723892786844 := ()
def PySem.W.Fast.tw18146532975450069615 := ()
def PySem.W.Fast.tw9456574344343218679 := ()
def PySem.W.Fast.tw7424060955962978353 := ()
def PySem.W.Fast.tw15227483606004533461 := ()
def PySem.W.Fast.tw2692750590507578028 := ()
def PySem.W.Fast.tw12488014758255163090 := ()
def PySem.W.Fast.tw8949853181751564097 := ()
def PySem.W.Fast.tw209982475168477708 := ()
def PySem.W.Fast.tw10792498714594961201 := ()
def PySem.W.Fast.tw8972062959192195235 := ()
def PySem.W.Fast.tw14963028359598502718 := ()
def PySem.W.Fast.tw9615563845995560447 := ()
def PySem.W.Fast.tw740290905518256060 := ()
def PySem.W.Fast.tw11502921971960690029 := ()
def PySem.W.Fast.tw4547051000311932777 := ()
def PySem.W.Fast.tw13053770412826190925 := ()
def PySem.W.Fast.tw16670775579421159206 := ()
def PySem.W.Fast.tw12269216009862288129 := ()
def PySem.W.Fast.tw13674586047789940208 := ()
def PySem.W.Fast.tw14958820412457663293 := ()
def PySem.W.Fast.tw12770481643036789091 := ()
def PySem.W.Fast.tw6512149657230936976 := ()
def PySem.W.Fast.tw6549852094080907030 := ()
def PySem.W.Fast.tw3239113980409921550 := ()
def PySem.W.Fast.tw11429584451438056573 := ()
def PySem.W.Fast.tw9860861378791804195 := ()
def PySem.W.Fast.tw5667099127317398114 := ()
def PySem.W.Fast.tw9757595895972200118 := ()
def PySem.W.Fast.tw8997383693586321770 := ()
def PySem.W.Fast.tw12772213712371865176 := ()
def PySem.W.Fast.tw8186657734068701312 := ()
def PySem.W.Fast.tw17678831435119133177 := ()
open_top hd for PySem.Challenge.rw_hangstill_k04_whole_least
theorem PySem.Challenge.cw_hangstill_k04_whole_least_holds : PySem.Challenge.rw_hangstill_k04_whole_least.Holds := by
  refine hd ?_
  k_fill
  refine My.walk (l := PySem.Challenge.rw_hangstill_k04_whole_least) rfl rfl (fun w h Y => PySem.W.kIn_of Y) ?F
  case F =>
    intro w mg fa h KX G hmg
    refine' L2.topD_go (x := "is_number") (st := My.s_is_number) (ps := My.p_is_number) KX G ?a1 ?l1 ?c1 ?k1 (fun _ _ _ _ _ _ us hl => match us, hl with | [_, _, _], _ => rfl) ?go1
    (case a1 => k_is); (case l1 => k_is); (case c1 => k_is); (case k1 => k_is)
    intro T_is_number
    refine' L2.topD_go (x := "is_name") (st := My.s_is_name) (ps := My.p_is_name) KX G ?a2 ?l2 ?c2 ?k2 (fun _ _ _ _ _ _ us hl => match us, hl with | [_], _ => rfl) ?go2
    (case a2 => k_is); (case l2 => k_is); (case c2 => k_is); (case k2 => k_is)
    intro T_is_name
    refine' L2.topD_go (x := "is_mobile_within") (st := My.s_is_mobile_within) (ps := My.p_is_mobile_within) KX G ?a3 ?l3 ?c3 ?k3 (fun _ _ _ _ _ _ us hl => match us, hl with | [_, _], _ => rfl) ?go3
    (case a3 => k_is); (case l3 => k_is); (case c3 => k_is); (case k3 => k_is)
    intro T_is_mobile_within
    refine' L2.topD_go (x := "is_mobile") (st := My.s_is_mobile) (ps := My.p_is_mobile) KX G ?a4 ?l4 ?c4 ?k4 (fun _ _ _ _ _ _ us hl => match us, hl with | [_], _ => rfl) ?go4
    (case a4 => k_is); (case l4 => k_is); (case c4 => k_is); (case k4 => k_is)
    intro T_is_mobile
    refine' L2.topD_go (x := "check_mobile") (st := My.s_check_mobile) (ps := My.p_check_mobile) KX G ?a5 ?l5 ?c5 ?k5 (fun _ _ _ _ _ _ us hl => match us, hl with | [_], _ => rfl) ?go5
    (case a5 => k_is); (case l5 => k_is); (case c5 => k_is); (case k5 => k_is)
    intro T_check_mobile
    refine' L2.topD_go (x := "is_named_number") (st := My.s_is_named_number) (ps := My.p_is_named_number) KX G ?a6 ?l6 ?c6 ?k6 (fun _ _ _ _ _ _ us hl => match us, hl with | [_], _ => rfl) ?go6
    (case a6 => k_is); (case l6 => k_is); (case c6 => k_is); (case k6 => k_is)
    intro T_is_named_number
    refine' L2.topD_go (x := "is_weights") (st := My.s_is_weights) (ps := My.p_is_weights) KX G ?a7 ?l7 ?c7 ?k7 (fun _ _ _ _ _ _ us hl => match us, hl with | [_], _ => rfl) ?go7
    (case a7 => k_is); (case l7 => k_is); (case c7 => k_is); (case k7 => k_is)
    intro T_is_weights
    refine' L2.topD_go (x := "check_are_weights") (st := My.s_check_are_weights) (ps := My.p_check_are_weights) KX G ?a8 ?l8 ?c8 ?k8 (fun _ _ _ _ _ _ us hl => match us, hl with | [_], _ => rfl) ?go8
    (case a8 => k_is); (case l8 => k_is); (case c8 => k_is); (case k8 => k_is)
    intro T_check_are_weights
    refine' L2.topD_go (x := "check_weights") (st := My.s_check_weights) (ps := My.p_check_weights) KX G ?a9 ?l9 ?c9 ?k9 (fun _ _ _ _ _ _ us hl => match us, hl with | [_, _], _ => rfl) ?go9
    (case a9 => k_is); (case l9 => k_is); (case c9 => k_is); (case k9 => k_is)
    intro T_check_weights
    refine' L2.topD_go (x := "leaves_below") (st := My.s_leaves_below) (ps := My.p_leaves_below) KX G ?a10 ?l10 ?c10 ?k10 (fun _ _ _ _ _ _ us hl => match us, hl with | [_, _], _ => rfl) ?go10
    (case a10 => k_is); (case l10 => k_is); (case c10 => k_is); (case k10 => k_is)
    intro T_leaves_below
    refine' L2.topD_go (x := "load_below") (st := My.s_load_below) (ps := My.p_load_below) KX G ?a11 ?l11 ?c11 ?k11 (fun _ _ _ _ _ _ us hl => match us, hl with | [_, _], _ => rfl) ?go11
    (case a11 => k_is); (case l11 => k_is); (case c11 => k_is); (case k11 => k_is)
    intro T_load_below
    refine' L2.topD_go (x := "pulls") (st := My.s_pulls) (ps := My.p_pulls) KX G ?a12 ?l12 ?c12 ?k12 (fun _ _ _ _ _ _ us hl => match us, hl with | [_, _], _ => rfl) ?go12
    (case a12 => k_is); (case l12 => k_is); (case c12 => k_is); (case k12 => k_is)
    intro T_pulls
    refine' L2.topD_go (x := "tips_below") (st := My.s_tips_below) (ps := My.p_tips_below) KX G ?a13 ?l13 ?c13 ?k13 (fun _ _ _ _ _ _ us hl => match us, hl with | [_, _, _], _ => rfl) ?go13
    (case a13 => k_is); (case l13 => k_is); (case c13 => k_is); (case k13 => k_is)
    intro T_tips_below
    refine' L2.topD_go (x := "tips") (st := My.s_tips) (ps := My.p_tips) KX G ?a14 ?l14 ?c14 ?k14 (fun _ _ _ _ _ _ us hl => match us, hl with | [_, _], _ => rfl) ?go14
    (case a14 => k_is); (case l14 => k_is); (case c14 => k_is); (case k14 => k_is)
    intro T_tips
    refine' L2.topD_go (x := "is_still") (st := My.s_is_still) (ps := My.p_is_still) KX G ?a15 ?l15 ?c15 ?k15 (fun _ _ _ _ _ _ us hl => match us, hl with | [_, _], _ => rfl) ?go15
    (case a15 => k_is); (case l15 => k_is); (case c15 => k_is); (case k15 => k_is)
    intro T_is_still
    refine' L2.topD_go (x := "greatest_divisor") (st := My.s_greatest_divisor) (ps := My.p_greatest_divisor) KX G ?a16 ?l16 ?c16 ?k16 (fun _ _ _ _ _ _ us hl => match us, hl with | [_, _], _ => rfl) ?go16
    (case a16 => k_is); (case l16 => k_is); (case c16 => k_is); (case k16 => k_is)
    intro T_greatest_divisor
    refine' L2.topD_go (x := "reduced") (st := My.s_reduced) (ps := My.p_reduced) KX G ?a17 ?l17 ?c17 ?k17 (fun _ _ _ _ _ _ us hl => match us, hl with | [_, _], _ => rfl) ?go17
    (case a17 => k_is); (case l17 => k_is); (case c17 => k_is); (case k17 => k_is)
    intro T_reduced
    refine' L2.topD_go (x := "product") (st := My.s_product) (ps := My.p_product) KX G ?a18 ?l18 ?c18 ?k18 (fun _ _ _ _ _ _ us hl => match us, hl with | [_, _], _ => rfl) ?go18
    (case a18 => k_is); (case l18 => k_is); (case c18 => k_is); (case k18 => k_is)
    intro T_product
    refine' L2.topD_go (x := "least_whole") (st := My.s_least_whole) (ps := My.p_least_whole) KX G ?a19 ?l19 ?c19 ?k19 (fun _ _ _ _ _ _ us hl => match us, hl with | [_], _ => rfl) ?go19
    (case a19 => k_is); (case l19 => k_is); (case c19 => k_is); (case k19 => k_is)
    intro T_least_whole
    refine' L2.topD_go (x := "shares_below") (st := My.s_shares_below) (ps := My.p_shares_below) KX G ?a20 ?l20 ?c20 ?k20 (fun _ _ _ _ _ _ us hl => match us, hl with | [_, _, _], _ => rfl) ?go20
    (case a20 => k_is); (case l20 => k_is); (case c20 => k_is); (case k20 => k_is)
    intro T_shares_below
    refine' L2.topD_go (x := "name_shares") (st := My.s_name_shares) (ps := My.p_name_shares) KX G ?a21 ?l21 ?c21 ?k21 (fun _ _ _ _ _ _ us hl => match us, hl with | [_], _ => rfl) ?go21
    (case a21 => k_is); (case l21 => k_is); (case c21 => k_is); (case k21 => k_is)
    intro T_name_shares
    refine' L2.topD_go (x := "least_weights") (st := My.s_least_weights) (ps := My.p_least_weights) KX G ?a22 ?l22 ?c22 ?k22 (fun _ _ _ _ _ _ us hl => match us, hl with | [_], _ => rfl) ?go22
    (case a22 => k_is); (case l22 => k_is); (case c22 => k_is); (case k22 => k_is)
    intro T_least_weights
    refine' L2.topD_go (x := "shares") (st := My.s_shares) (ps := My.p_shares) KX G ?a23 ?l23 ?c23 ?k23 (fun _ _ _ _ _ _ us hl => match us, hl with | [_], _ => rfl) ?go23
    (case a23 => k_is); (case l23 => k_is); (case c23 => k_is); (case k23 => k_is)
    intro T_shares
    refine' L2.topD_go (x := "bar") (st := My.s_bar) (ps := My.p_bar) KX G ?a24 ?l24 ?c24 ?k24 (fun _ _ _ _ _ _ us hl => match us, hl with | [_], _ => rfl) ?go24
    (case a24 => k_is); (case l24 => k_is); (case c24 => k_is); (case k24 => k_is)
    intro T_bar
    refine' L2.topD_go (x := "least") (st := My.s_least) (ps := My.p_least) KX G ?a25 ?l25 ?c25 ?k25 (fun _ _ _ _ _ _ us hl => match us, hl with | [_], _ => rfl) ?go25
    (case a25 => k_is); (case l25 => k_is); (case c25 => k_is); (case k25 => k_is)
    intro T_least
    refine' L2.topD_go (x := "_law_cell_at") (st := My.s__law_cell_at) (ps := My.p__law_cell_at) KX G ?a26 ?l26 ?c26 ?k26 (fun _ _ _ _ _ _ us hl => match us, hl with | [_, _], _ => rfl) ?go26
    (case a26 => k_is); (case l26 => k_is); (case c26 => k_is); (case k26 => k_is)
    intro T__law_cell_at
    refine' L2.topD_go (x := "_law_mixed") (st := My.s__law_mixed) (ps := My.p__law_mixed) KX G ?a27 ?l27 ?c27 ?k27 (fun _ _ _ _ _ _ us hl => match us, hl with | [_, _, _], _ => rfl) ?go27
    (case a27 => k_is); (case l27 => k_is); (case c27 => k_is); (case k27 => k_is)
    intro T__law_mixed
    refine' L2.topD_go (x := "_law_draw") (st := My.s__law_draw) (ps := My.p__law_draw) KX G ?a28 ?l28 ?c28 ?k28 (fun _ _ _ _ _ _ us hl => match us, hl with | [_, _, _], _ => rfl) ?go28
    (case a28 => k_is); (case l28 => k_is); (case c28 => k_is); (case k28 => k_is)
    intro T__law_draw
    refine' L2.topD_go (x := "_law_pick") (st := My.s__law_pick) (ps := My.p__law_pick) KX G ?a29 ?l29 ?c29 ?k29 (fun _ _ _ _ _ _ us hl => match us, hl with | [_, _, _], _ => rfl) ?go29
    (case a29 => k_is); (case l29 => k_is); (case c29 => k_is); (case k29 => k_is)
    intro T__law_pick
    refine' L2.topD_go (x := "_law_mobile") (st := My.s__law_mobile) (ps := My.p__law_mobile) KX G ?a30 ?l30 ?c30 ?k30 (fun _ _ _ _ _ _ us hl => match us, hl with | [_, _, _, _], _ => rfl) ?go30
    (case a30 => k_is); (case l30 => k_is); (case c30 => k_is); (case k30 => k_is)
    intro T__law_mobile
    refine' L2.topD_go (x := "_law_names") (st := My.s__law_names) (ps := My.p__law_names) KX G ?a31 ?l31 ?c31 ?k31 (fun _ _ _ _ _ _ us hl => match us, hl with | [_, _, _], _ => rfl) ?go31
    (case a31 => k_is); (case l31 => k_is); (case c31 => k_is); (case k31 => k_is)
    intro T__law_names
    refine' L2.topD_go (x := "_law_unlike") (st := My.s__law_unlike) (ps := My.p__law_unlike) KX G ?a32 ?l32 ?c32 ?k32 (fun _ _ _ _ _ _ us hl => match us, hl with | [_, _, _, _], _ => rfl) ?go32
    (case a32 => k_is); (case l32 => k_is); (case c32 => k_is); (case k32 => k_is)
    intro T__law_unlike
    refine' L2.topD_go (x := "_law_leaves") (st := My.s__law_leaves) (ps := My.p__law_leaves) KX G ?a33 ?l33 ?c33 ?k33 (fun _ _ _ _ _ _ us hl => match us, hl with | [_, _], _ => rfl) ?go33
    (case a33 => k_is); (case l33 => k_is); (case c33 => k_is); (case k33 => k_is)
    intro T__law_leaves
    refine' L2.topD_go (x := "_law_load") (st := My.s__law_load) (ps := My.p__law_load) KX G ?a34 ?l34 ?c34 ?k34 (fun _ _ _ _ _ _ us hl => match us, hl with | [_, _], _ => rfl) ?go34
    (case a34 => k_is); (case l34 => k_is); (case c34 => k_is); (case k34 => k_is)
    intro T__law_load
    refine' L2.topD_go (x := "_law_tips") (st := My.s__law_tips) (ps := My.p__law_tips) KX G ?a35 ?l35 ?c35 ?k35 (fun _ _ _ _ _ _ us hl => match us, hl with | [_, _, _], _ => rfl) ?go35
    (case a35 => k_is); (case l35 => k_is); (case c35 => k_is); (case k35 => k_is)
    intro T__law_tips
    refine' L2.topD_go (x := "_law_least") (st := My.s__law_least) (ps := My.p__law_least) KX G ?a36 ?l36 ?c36 ?k36 (fun _ _ _ _ _ _ us hl => match us, hl with | [_, _], _ => rfl) ?go36
    (case a36 => k_is); (case l36 => k_is); (case c36 => k_is); (case k36 => k_is)
    intro T__law_least
    refine' L2.topD_go (x := "_law_shares") (st := My.s__law_shares) (ps := My.p__law_shares) KX G ?a37 ?l37 ?c37 ?k37 (fun _ _ _ _ _ _ us hl => match us, hl with | [_, _, _], _ => rfl) ?go37
    (case a37 => k_is); (case l37 => k_is); (case c37 => k_is); (case k37 => k_is)
    intro T__law_shares
    refine' L2.topD_go (x := "_law_bar") (st := My.s__law_bar) (ps := My.p__law_bar) KX G ?a38 ?l38 ?c38 ?k38 (fun _ _ _ _ _ _ us hl => match us, hl with | [_], _ => rfl) ?go38
    (case a38 => k_is); (case l38 => k_is); (case c38 => k_is); (case k38 => k_is)
    intro T__law_bar
    refine' L2.topD_go (x := "_law_which") (st := My.s__law_which) (ps := My.p__law_which) KX G ?a39 ?l39 ?c39 ?k39 (fun _ _ _ _ _ _ us hl => match us, hl with | [_], _ => rfl) ?go39
    (case a39 => k_is); (case l39 => k_is); (case c39 => k_is); (case k39 => k_is)
    intro T__law_which
    refine' L2.topD_go (x := "_law_ask") (st := My.s__law_ask) (ps := My.p__law_ask) KX G ?a40 ?l40 ?c40 ?k40 (fun _ _ _ _ _ _ us hl => match us, hl with | [_], _ => rfl) ?go40
    (case a40 => k_is); (case l40 => k_is); (case c40 => k_is); (case k40 => k_is)
    intro T__law_ask
    have b_len : mg "len" = none := PySem.W.mg_none_of KX G (by k_is)
    have b_range : mg "range" = none := PySem.W.mg_none_of KX G (by k_is)
    have b_isinstance : mg "isinstance" = none := PySem.W.mg_none_of KX G (by k_is)
    have b_bool : mg "bool" = none := PySem.W.mg_none_of KX G (by k_is)
    have b_int : mg "int" = none := PySem.W.mg_none_of KX G (by k_is)
    have b_str : mg "str" = none := PySem.W.mg_none_of KX G (by k_is)
    have b_tuple : mg "tuple" = none := PySem.W.mg_none_of KX G (by k_is)
    have b_all : mg "all" = none := PySem.W.mg_none_of KX G (by k_is)
    have b_sorted : mg "sorted" = none := PySem.W.mg_none_of KX G (by k_is)
    have b_set : mg "set" = none := PySem.W.mg_none_of KX G (by k_is)
    have b_dict : mg "dict" = none := PySem.W.mg_none_of KX G (by k_is)
    have b_sum : mg "sum" = none := PySem.W.mg_none_of KX G (by k_is)
    have b_ValueError : mg "ValueError" = none := PySem.W.mg_none_of KX G (by k_is)
    have b_list : mg "list" = none := PySem.W.mg_none_of KX G (by k_is)
    have b_zip : mg "zip" = none := PySem.W.mg_none_of KX G (by k_is)
    have b_enumerate : mg "enumerate" = none := PySem.W.mg_none_of KX G (by k_is)
    have b_max : mg "max" = none := PySem.W.mg_none_of KX G (by k_is)
    refine' My.cls_go KX G ?e0 ?e1 ?e2 ?e3 ?e4 ?e5 ?e6 ?e7 ?e8 ?x ?xw ?h1 ?h2 ?h3 ?h4 ?h5 ?h6 ?h7 ?em ?q1 ?q2 ?q3 ?q4 ?q5 ?q6 ?q7 ?q8 ?kv ?goC
    (case e0 => k_is); (case e1 => k_is); (case e2 => k_is); (case e3 => k_is); (case e4 => k_is); (case e5 => k_is); (case e6 => k_is); (case e7 => k_is); (case e8 => k_is)
    (case x => k_exc); (case xw => k_exc)
    (case h1 => k_is); (case h2 => k_is); (case h3 => k_is); (case h4 => k_is); (case h5 => k_is); (case h6 => k_is); (case h7 => k_is)
    (case em => kts_exm)
    (case q1 => kit_is); (case q2 => kit_is); (case q3 => kit_is); (case q4 => kit_is); (case q5 => kit_is); (case q6 => kit_is); (case q7 => kit_is); (case q8 => kit_is)
    (case kv => kit_is)
    intro Z
    refine' My.law_mk KX G hmg ?aL ?lL ?cL ?kL ?goL
    (case aL => k_is); (case lL => k_is); (case cL => k_is); (case kL => k_is)
    case goL =>
      intro base f fd T
      refine' My.all T_is_number T_is_name T_is_mobile_within T_is_mobile T_check_mobile T_is_named_number T_is_weights T_check_are_weights T_check_weights T_leaves_below T_load_below T_pulls T_tips_below T_tips T_is_still T_greatest_divisor T_reduced T_product T_least_whole T_shares_below T_name_shares T_least_weights T_shares T_bar T_least T__law_cell_at T__law_mixed T__law_draw T__law_pick T__law_mobile T__law_names T__law_unlike T__law_leaves T__law_load T__law_tips T__law_least T__law_shares T__law_bar T__law_which T__law_ask b_len b_range b_isinstance b_bool b_int b_str b_tuple b_all b_sorted b_set b_dict b_sum b_ValueError b_list b_zip b_enumerate b_max (PySem.W.mg_of KX G ?m1) (PySem.W.mg_of KX G ?m2) (PySem.W.mg_of KX G ?m3) (PySem.W.mg_of KX G ?m4) Z T
      (case m1 => k_is); (case m2 => k_is); (case m3 => k_is); (case m4 => k_is)
