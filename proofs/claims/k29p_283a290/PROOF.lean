import PyProof.Rows.All
import Wide.All
import OpenK.AllK
import Wide.FinOn
import Lean
import PyProof.EqAt
import PyProof.EqKinds
import PyProof.NeKinds
import PyProof.TupleCall
import PyProof.ZipIter
import PyProof.ListNew
import PyProof.P3Eq
import PyProof.NeData
import PyProof.EnumFor
import PyProof.EnumMake
import PyProof.ExcBaseAll.ValueError
import PyProof.Rows.SetFrom
import PyProof.CollectWalk
import PyProof.SumWalk
import PyProof.FString
import KE.KDictOf
import PyProof.AttrMissHeap
import PyProof.TupleOfGen
import KE.KDictSum
import PyProof.ConsumeS
import PyProof.P3In
import PyProof.Rows.RuleN_abs
import PyProof.Rows.FactsN_abs
import PyProof.StrBlockI
import PyProof.SliceStr2
import PyProof.Rows.StrClose
import PyProof.FactsAll.tuple_2
import PyProof.MinMaxWalk
import PyProof.WalksMore
import PyProof.Rows.RowHeap
import PyProof.DictWalks
import KE.KSortTup
import PyProof.Rows.ListMul
import PyProof.ListRange
import PyProof.TupleOfStr
import KE.KRevSl
import KE.KDictList
import KE.KIntText
import PyProof.ReprStr
import PySem.Challenge.RW_hangstill_k29_whole_no_other_texts
import KE.RegKIsAll
import KE.RegKTryMore
set_option Elab.async false
set_option linter.all false
set_option maxRecDepth 100000
set_option maxHeartbeats 4000000
namespace L2
open PySem PySem.Spec PyProof.Rows
abbrev Key := Sum Int Str
def keyIs : Key → Value → Bool
  | .inl k, v => Value.isInt k v
  | .inr x, v => Value.isStrOf x v
def keyH (w : World) : Key → Int
  | .inl k => hashInt k
  | .inr x => hashStr w x
theorem keyIs_shape : ∀ {k : Key} {v : Value}, keyIs k v = true → (∃ i t, k = Sum.inl i ∧ v = Value.int i t) ∨ (∃ x t, k = Sum.inr x ∧ v = Value.str x t)
  | .inl i, v, h => by
    obtain ⟨t, e⟩ := Value.isInt_shape (k := i) (v := v) h
    exact .inl ⟨i, t, rfl, e⟩
  | .inr x, v, h => by
    obtain ⟨t, e⟩ := Value.isStrOf_shape (x := x) (v := v) h
    exact .inr ⟨x, t, rfl, e⟩
theorem keyIs_int (i : Int) (t : Tok) : keyIs (.inl i) (.int i t) = true := by simp [keyIs, Value.isInt]
theorem keyIs_str (x : Str) (t : Tok) : keyIs (.inr x) (.str x t) = true := by simp [keyIs, Value.isStrOf]
theorem key_ll (a b : Int) : decide ((Sum.inl a : Key) = Sum.inl b) = (a == b) := by
  by_cases e : a = b
  · subst e; simp
  · have h : ¬ (Sum.inl a : Key) = Sum.inl b := fun q => e (Sum.inl.inj q)
    rw [decide_eq_false h]
    exact (beq_eq_false_iff_ne.mpr e).symm
theorem key_rr (a b : Str) : decide ((Sum.inr a : Key) = Sum.inr b) = decide (a = b) := by
  by_cases e : a = b
  · subst e; simp
  · have h : ¬ (Sum.inr a : Key) = Sum.inr b := fun q => e (Sum.inr.inj q)
    rw [decide_eq_false h, decide_eq_false e]
theorem key_lr (a : Int) (b : Str) : decide ((Sum.inl a : Key) = Sum.inr b) = false := decide_eq_false (fun q => nomatch q)
theorem key_rl (a : Str) (b : Int) : decide ((Sum.inr a : Key) = Sum.inl b) = false := decide_eq_false (fun q => nomatch q)
def mixKind (prog : Program) (w : World) : PySem.KeyKind prog w Key where
  is := keyIs
  hash := keyH w
  inj := fun v a b ha hb => by
    rcases keyIs_shape ha with ⟨i, t, rfl, rfl⟩ | ⟨x, t, rfl, rfl⟩
    · rcases keyIs_shape hb with ⟨j, u, rfl, e⟩ | ⟨y, u, rfl, e⟩
      · injection e with e1 _; rw [e1]
      · exact nomatch e
    · rcases keyIs_shape hb with ⟨j, u, rfl, e⟩ | ⟨y, u, rfl, e⟩
      · exact nomatch e
      · injection e with e1 _; rw [e1]
  byValue := fun k v h => by
    rcases keyIs_shape h with ⟨i, t, rfl, rfl⟩ | ⟨x, t, rfl, rfl⟩ <;> rfl
  pyHash := fun hv h => by
    rcases keyIs_shape hv with ⟨i, t, rfl, rfl⟩ | ⟨x, t, rfl, rfl⟩
    · exact wpAny_pyHash_int h
    · exact wpAny_pyHash_str h
  eqBool := fun hu hv h => by
    rcases keyIs_shape hu with ⟨i, t, rfl, rfl⟩ | ⟨x, t, rfl, rfl⟩
    · rcases keyIs_shape hv with ⟨j, u, rfl, rfl⟩ | ⟨y, u, rfl, rfl⟩
      · rw [key_ll] at h; exact wpAny_eqBool_int h
      · rw [key_lr] at h; exact SeqAt.EqAt.int_str i t y u _ _ _ _ h
    · rcases keyIs_shape hv with ⟨j, u, rfl, rfl⟩ | ⟨y, u, rfl, rfl⟩
      · rw [key_rl] at h; exact SeqAt.EqAt.str_int x t j u _ _ _ _ h
      · rw [key_rr] at h; exact wpAny_eqBool_str h
  «strs» := fun k x t v h => by
    rcases keyIs_shape h with ⟨i, u, rfl, e⟩ | ⟨y, u, rfl, e⟩
    · exact nomatch e
    · injection e with e1 _
      subst e1
      cases v <;> rfl
theorem mixKind_int (prog : Program) (w : World) (i : Int) (t : Tok) : (mixKind prog w).is (.inl i) (.int i t) = true := keyIs_int i t
theorem mixKind_str (prog : Program) (w : World) (x : Str) (t : Tok) : (mixKind prog w).is (.inr x) (.str x t) = true := keyIs_str x t
end L2
namespace L2
open PySem PySem.Spec PyProof.Rows
inductive V where
  | non | bl (b : Bool) | int (i : Int) | str (x : Str) | byt (b : Array UInt8) | flt (b : UInt64) | ref (a : Addr) | ty (n : String)
  deriving DecidableEq
def RelV : V → Value → Prop
  | .non, u => u = Value.none
  | .bl b, u => u = Value.bool b
  | .int i, u => ∃ t, u = Value.int i t
  | .str x, u => ∃ t, u = Value.str x t
  | .byt b, u => ∃ t, u = Value.bytes b t
  | .flt b, u => ∃ t, u = Value.float b t
  | .ref a, u => u = Value.ref a
  | .ty n, u => u = Value.type n
abbrev Vals : List V → List Value → Prop := Paired RelV
theorem Vals.length {xs : List V} {us : List Value} (r : Vals xs us) : xs.length = us.length := Paired.length r
theorem Vals.get : ∀ {xs : List V} {us : List Value} {i : Nat} {x : V}, Vals xs us → xs[i]? = some x → ∃ u, us[i]? = some u ∧ RelV x u
  | _, _, _, _, .nil, e => by simp at e
  | _, _, 0, _, .cons r _, e => by simp at e; subst e; exact ⟨_, rfl, r⟩
  | _, _, i + 1, x, .cons _ t, e => by
    obtain ⟨u, h1, h2⟩ := Vals.get (i := i) (x := x) t (by simpa using e)
    exact ⟨u, by simpa using h1, h2⟩
theorem Vals.append : ∀ {xs ys : List V} {us ws : List Value}, Vals xs us → Vals ys ws → Vals (xs ++ ys) (us ++ ws)
  | _, _, _, _, .nil, s => s
  | _, _, _, _, .cons r t, s => .cons r (Vals.append t s)
theorem Vals.take : ∀ {xs : List V} {us : List Value} (n : Nat), Vals xs us → Vals (xs.take n) (us.take n)
  | _, _, 0, _ => .nil
  | _, _, _ + 1, .nil => .nil
  | _, _, n + 1, .cons r t => .cons r (Vals.take n t)
theorem Vals.drop : ∀ {xs : List V} {us : List Value} (n : Nat), Vals xs us → Vals (xs.drop n) (us.drop n)
  | _, _, 0, r => r
  | _, _, _ + 1, .nil => .nil
  | _, _, n + 1, .cons _ t => Vals.drop n t
def RelO : Option V → Option Value → Prop
  | some v, some u => RelV v u
  | none, none => True
  | _, _ => False
def KV {κ : Type} : List (κ × V) → List (κ × Value) → Prop := Paired fun (p : κ × V) (q : κ × Value) => p.1 = q.1 ∧ RelV p.2 q.2
def kV : Key → V
  | .inl i => .int i
  | .inr x => .str x
def TupO (h : Heap) (a : Addr) (items : Array Value) : Prop := ∃ n, h.get? a = some { cls := .type "tuple", data := .seq items n }
theorem TupO.is {h : Heap} {a : Addr} {items : Array Value} (x : TupO h a items) : IsTup h a items := let ⟨n, e⟩ := x; ⟨_, e, rfl, n, rfl⟩
theorem TupO.new (h : Heap) (items : Array Value) : TupO (h.push { cls := .type "tuple", data := .seq items }) h.objs.size items := ⟨0, Heap.get?_push_size _ rfl⟩
inductive HO where
  /-- a list -/
  | lst (xs : List V)
  /-- a tuple (never changes) -/
  | tup (xs : List V)
  /-- a dict whose keys are ints and texts; one whose keys are tuples of ints and texts (the empty one is both) -/
  | dK (kvs : List (Key × V)) | dT (kvs : List (List Key × V))
  /-- a set of ints: its members, its size -/
  | set (S : Int → Bool) (n : Nat)
  /-- an instance of the class at C, its dict at dx, its attributes -/
  | ins (C dx : Addr) (fs : List (Str × V))
  /-- the dict of the instance at x -/
  | own (x : Addr)
  /-- the dict of an exception -/
  | xd (fs : List (Str × V))
  /-- a bound method, f of x -/
  | met (f x : Addr)
  /-- a range object lo, lo + 1, .. below hi -/
  | rng (lo hi : Int)
  /-- a thing that is known to the object (the script; a dict while a loop walks it): read, never written while it is so -/
  | frz (o : Obj) (u : HO)
  /-- a code object's table -/
  | tbl (ps : Array Value)
  /-- any other thing, by what is true of its one object (a def of one's own: SetO a S n := HO.ext fun h => ..) -/
  | ext (φ : Heap → Prop)
abbrev Hp := Addr → Option HO
def upd (H : Hp) (a : Addr) (o : HO) : Hp := fun b => if b = a then some o else H b
theorem upd_same {H : Hp} {a : Addr} {o : HO} : upd H a o a = some o := by unfold upd; rw [if_pos rfl]
theorem upd_ne {H : Hp} {a b : Addr} {o : HO} (h : b ≠ a) : upd H a o b = H b := by unfold upd; rw [if_neg h]
theorem ne_of_none {H : Hp} {a b : Addr} {o : HO} (h : H a = some o) (h' : H b = none) : a ≠ b := by
  intro e; subst e; rw [h] at h'; cases h'
section
variable (P : Program) (w : World)
def ObjOk (H : Hp) (h : Heap) (a : Addr) : HO → Prop
  | .lst xs => xs.length ≤ sizeLine ∧ ∃ (its : List Value) (n : Nat), Vals xs its ∧ h.get? a = some { cls := .type "list", data := .seq its.toArray n }
  | .tup xs => xs.length ≤ sizeLine ∧ ∃ its : List Value, Vals xs its ∧ TupO h a its.toArray
  | .dK kvs => kvs.length ≤ sizeLine ∧ (a == sysModules) = false ∧ ∃ vs, KV kvs vs ∧ h.DictOf (mixKind P w) a vs
  | .dT kvs => kvs.length ≤ sizeLine ∧ (a == sysModules) = false ∧ ∃ xs : List (List Key × Addr × Value),
      Paired (fun (p : List Key × V) (q : List Key × Addr × Value) => p.1 = q.1 ∧ H q.2.1 = some (.tup (p.1.map kV)) ∧ RelV p.2 q.2.2) kvs xs ∧
      ∃ o es ep, h.get? a = some o ∧ o.ExactDict ∧ o.data = .dict es ep ∧ es.toList = xs.map (entryOfKey (tupleKind (mixKind P w))) ∧ (xs.map (·.1)).Nodup
  | .set S n => h.SetOf (intKind P w) a S n
  | .ins C dx fs => H dx = some (.own a) ∧ fs.length ≤ 1000 ∧ dx ≠ a ∧ h.get? a = some (PySem.W.instObj C dx) ∧
      ∃ mA, h.Ns1 dx mA ∧ (∀ f, RelO (fs.lookup f) (mA f)) ∧ PySem.Within mA (fs.map (·.1))
  | .own _ => ∃ o, h.get? a = some o
  | .xd fs => ∃ mA, h.Ns1 a mA ∧ ∀ f, RelO (fs.lookup f) (mA f)
  | .rng lo hi => ∃ t u v, h.get? a = some { cls := .type "range", data := .fields #[.int lo t, .int hi u, .int 1 v] }
  | .frz o u => h.get? a = some o ∧ ObjOk H h a u
  | .tbl ps => h.get? a = some { cls := .none, data := .fields ps }
  | .met f x => h.get? a = some (PySem.W.methodObj (.ref f) (.ref x))
  | .ext φ => φ h ∧ (∃ o, h.get? a = some o) ∧ ∀ h1 h2 : Heap, φ h1 → (∀ o, h1.get? a = some o → h2.get? a = some o) → φ h2
def HOk (H : Hp) (h : Heap) : Prop := ∀ a o, H a = some o → ObjOk P w H h a o
end
section
variable {P : Program} {w : World} {H H' : Hp} {h h' : Heap} {a : Addr} {o : HO}
theorem ObjOk.lt (x : ObjOk P w H h a o) : a < h.objs.size := by
  cases o with
  | lst xs => obtain ⟨_, _, _, _, e⟩ := x; exact Heap.lt_size e
  | tup xs => obtain ⟨_, _, _, p⟩ := x; exact p.is.lt
  | dK kvs => obtain ⟨_, _, _, _, o, _, _, e, _⟩ := x; exact Heap.lt_size e
  | dT kvs => obtain ⟨_, _, _, _, o, _, _, e, _⟩ := x; exact Heap.lt_size e
  | set S n => obtain ⟨o, _, _, _, e, _⟩ := x; exact Heap.lt_size e
  | ins C dx fs => obtain ⟨_, _, _, e, _⟩ := x; exact Heap.lt_size e
  | own y => obtain ⟨_, e⟩ := x; exact Heap.lt_size e
  | xd fs => obtain ⟨_, ⟨_, _, _, e, _⟩, _⟩ := x; exact Heap.lt_size e
  | rng lo hi => obtain ⟨_, _, _, e⟩ := x; exact Heap.lt_size e
  | frz ob u => obtain ⟨e, _⟩ := x; exact Heap.lt_size e
  | tbl ps => exact Heap.lt_size (show h.get? a = some _ from x)
  | met f y => exact Heap.lt_size (show h.get? a = some _ from x)
  | ext φ => obtain ⟨_, ⟨_, e⟩, _⟩ := x; exact Heap.lt_size e
theorem Paired.mapP {α β : Type} {F G : α → β → Prop} : ∀ {l₁ : List α} {l₂ : List β}, Paired F l₁ l₂ → (∀ a b, F a b → G a b) → Paired G l₁ l₂
  | _, _, .nil, _ => .nil
  | _, _, .cons r t, f => .cons (f _ _ r) (Paired.mapP t f)
theorem ObjOk.stay (x : ObjOk P w H h a o) (k : ∀ b u, (b = a ∨ H b = some (.own a)) → h.get? b = some u → h'.get? b = some u)
    (ho : ∀ b, H b = some (.own a) → H' b = some (.own a)) (ht : ∀ b xs, H b = some (.tup xs) → H' b = some (.tup xs)) : ObjOk P w H' h' a o := by
  induction o with
  | lst xs => obtain ⟨z, its, n, r, e⟩ := x; exact ⟨z, its, n, r, k _ _ (.inl rfl) e⟩
  | tup xs => obtain ⟨z, its, r, n, e⟩ := x; exact ⟨z, its, r, n, k _ _ (.inl rfl) e⟩
  | dK kvs => obtain ⟨z, y, vs, r, ob, es, ep, e, c⟩ := x; exact ⟨z, y, vs, r, ob, es, ep, k _ _ (.inl rfl) e, c⟩
  | dT kvs =>
    obtain ⟨z, y, xs, r, ob, es, ep, e, c⟩ := x
    exact ⟨z, y, xs, Paired.mapP r fun p q z => ⟨z.1, ht _ _ z.2.1, z.2.2⟩, ob, es, ep, k _ _ (.inl rfl) e, c⟩
  | set S n => obtain ⟨ob, es, ep, t, e, c⟩ := x; exact ⟨ob, es, ep, t, k _ _ (.inl rfl) e, c⟩
  | ins C dx fs =>
    obtain ⟨d, z, ne, e, mA, ⟨od, es, ep, e2, c⟩, r⟩ := x
    exact ⟨ho _ d, z, ne, k _ _ (.inl rfl) e, mA, ⟨od, es, ep, k _ _ (.inr d) e2, c⟩, r⟩
  | own y => obtain ⟨ob, e⟩ := x; exact ⟨ob, k _ _ (.inl rfl) e⟩
  | xd fs => obtain ⟨mA, ⟨od, es, ep, e, c⟩, r⟩ := x; exact ⟨mA, ⟨od, es, ep, k _ _ (.inl rfl) e, c⟩, r⟩
  | rng lo hi => obtain ⟨t, u, v, e⟩ := x; exact ⟨t, u, v, k _ _ (.inl rfl) e⟩
  | frz ob u ih => obtain ⟨e, q⟩ := x; exact ⟨k _ _ (.inl rfl) e, ih q⟩
  | tbl ps =>
    have e : h.get? a = some { cls := .none, data := .fields ps } := x
    show h'.get? a = some { cls := .none, data := .fields ps }
    exact k a _ (.inl rfl) e
  | met f y =>
    have e : h.get? a = some (PySem.W.methodObj (.ref f) (.ref y)) := x
    show h'.get? a = some (PySem.W.methodObj (.ref f) (.ref y))
    exact k a _ (.inl rfl) e
  | ext φ => obtain ⟨p, ⟨o, e⟩, st⟩ := x; exact ⟨st _ _ p fun o q => k _ _ (.inl rfl) q, ⟨o, k _ _ (.inl rfl) e⟩, st⟩
theorem HOk.lt (x : HOk P w H h) (e : H a = some o) : a < h.objs.size := (x a o e).lt
theorem HOk.fresh (x : HOk P w H h) (e : h.objs.size ≤ a) : H a = none := by
  cases q : H a with
  | none => rfl
  | some u => exact absurd (Nat.lt_of_lt_of_le (x.lt q) e) (Nat.lt_irrefl _)
theorem HOk.kept (x : HOk P w H h) (k : ∀ b u, h.get? b = some u → h'.get? b = some u) : HOk P w H h' := fun a o e =>
  (x a o e).stay (fun b u _ q => k b u q) (fun _ q => q) fun _ _ q => q
theorem HOk.laid (x : HOk P w H h) (k : ∀ b u, h.get? b = some u → h'.get? b = some u) (hp : h.objs.size ≤ a) (new : ObjOk P w (upd H a o) h' a o) : HOk P w (upd H a o) h' := fun b u e => by
  have hn := x.fresh hp
  by_cases hb : b = a
  · subst hb; rw [upd_same] at e; cases e; exact new
  · rw [upd_ne hb] at e
    exact (x b u e).stay (fun c v _ q => k c v q) (fun c q => by rw [upd_ne (ne_of_none q hn)]; exact q) fun c xs q => by rw [upd_ne (ne_of_none q hn)]; exact q
end
def Rd (H : Hp) (a : Addr) (u : HO) : Prop := H a = some u ∨ ∃ o, H a = some (.frz o u)
theorem Rd.ok {P : Program} {w : World} {H : Hp} {h : Heap} {a : Addr} {u : HO} (r : Rd H a u) (x : HOk P w H h) : ObjOk P w H h a u := by
  rcases r with r | ⟨o, r⟩
  · exact x a u r
  · obtain ⟨_, q⟩ := x a _ r
    exact q
def Mut : Option HO → Prop
  | some (.lst _) => True
  | some (.dK _) => True
  | some (.dT _) => True
  | some (.set _ _) => True
  | some (.ins _ _ _) => True
  | some (.ext _) => True
  | _ => False
section
variable {P : Program} {w : World} {H : Hp} {h h' : Heap} {x e : Addr} {o' : HO}
theorem HOk.write (ok : HOk P w H h) (mu : Mut (H x)) (he : e = x ∨ H e = some (.own x)) (k : ∀ b u, b ≠ e → h.get? b = some u → h'.get? b = some u) (heo : ∃ u, h'.get? e = some u)
    (new : ObjOk P w (upd H x o') h' x o') : HOk P w (upd H x o') h' := fun b u q => by
  have nown : ∀ c y, H c = some (.own y) → c ≠ x := fun c y r z => by subst z; rw [r] at mu; exact mu
  have ntup : ∀ c xs, H c = some (.tup xs) → c ≠ x := fun c xs r z => by subst z; rw [r] at mu; exact mu
  by_cases hb : b = x
  · subst hb; rw [upd_same] at q; cases q; exact new
  · rw [upd_ne hb] at q
    by_cases hbe : b = e
    · have q' : H b = some (.own x) := by
        rcases he with z | z
        · exact absurd (hbe.trans z) hb
        · rw [hbe]; exact z
      rw [q] at q'; cases q'
      obtain ⟨v, hv⟩ := heo
      exact ⟨v, by rw [hbe]; exact hv⟩
    · refine (ok b u q).stay (fun c v hc r => k c v ?_ r) (fun c r => by rw [upd_ne (nown c b r)]; exact r) fun c xs r => by rw [upd_ne (ntup c xs r)]; exact r
      rcases hc with rfl | hc
      · exact hbe
      · rintro rfl
        rcases he with z | z
        · exact nown c b hc z
        · rw [hc] at z; cases z; exact hb rfl
end
structure Un (fs ex : List Addr) (H H' : Hp) (h h' : Heap) : Prop where
  keep : ∀ b o, h.get? b = some o → H b = none → b ∉ fs → b ∉ ex → h'.get? b = some o
  slot : ∀ b o, h.get? b = some o → H b = none → b ∈ fs → b ∉ ex → ∃ sl, h'.get? b = some { o with slots := sl }
  free : ∀ b o, h.get? b = some o → H b = none → b ∉ ex → H' b = none
  there : ∀ b o, h.get? b = some o → b ∉ ex → ∃ o', h'.get? b = some o'
  tups : ∀ b xs, H b = some (.tup xs) → H' b = some (.tup xs)
  frzs : ∀ b o u, H b = some (.frz o u) → H' b = some (.frz o u)
  tbls : ∀ b ps, H b = some (.tbl ps) → ∃ more, H' b = some (.tbl (ps ++ more))
section
variable {fs fs' ex ex' : List Addr} {H H1 H2 : Hp} {h h1 h2 h' : Heap} {a x e : Addr} {o : HO}
theorem Un.any (u : Un fs ex H H1 h h1) {b : Addr} {ob : Obj} (q : h.get? b = some ob) (n : H b = none) (hx : b ∉ ex) : ∃ sl, h1.get? b = some { ob with slots := sl } := by
  by_cases hb : b ∈ fs
  · exact u.slot b ob q n hb hx
  · exact ⟨ob.slots, u.keep b ob q n hb hx⟩
theorem Un.kept (k : ∀ b u, h.get? b = some u → h'.get? b = some u) : Un fs ex H H h h' :=
  ⟨fun b ob q _ _ _ => k b ob q, fun b ob q _ _ _ => ⟨ob.slots, k b ob q⟩, fun _ _ _ n _ => n, fun b ob q _ => ⟨ob, k b ob q⟩, fun _ _ q => q, fun _ _ _ q => q, fun _ ps q => ⟨#[], by rw [q]; simp⟩⟩
theorem Un.refl : Un fs ex H H h h := Un.kept fun _ _ q => q
theorem Un.laid (k : ∀ b u, h.get? b = some u → h'.get? b = some u) (hp : h.objs.size ≤ a) (hn : H a = none) : Un fs ex H (upd H a o) h h' where
  keep := fun b u q _ _ _ => k b u q
  slot := fun b u q _ _ _ => ⟨u.slots, k b u q⟩
  free := fun b u q n _ => by rw [upd_ne (Nat.ne_of_lt (Nat.lt_of_lt_of_le (Heap.lt_size q) hp))]; exact n
  there := fun b u q _ => ⟨u, k b u q⟩
  tups := fun b xs q => by rw [upd_ne (ne_of_none q hn)]; exact q
  frzs := fun b u xs q => by rw [upd_ne (ne_of_none q hn)]; exact q
  tbls := fun b ps q => ⟨#[], by rw [upd_ne (ne_of_none q hn), q]; simp⟩
theorem Un.write (mu : Mut (H x)) (he : e = x ∨ H e = some (.own x)) (k : ∀ b u, b ≠ e → h.get? b = some u → h'.get? b = some u) (heo : ∃ u, h'.get? e = some u) : Un fs ex H (upd H x o) h h' := by
  have hx : ∀ b, H b = none → b ≠ x := fun b n z => by subst z; rw [n] at mu; exact mu
  have hb : ∀ b, H b = none → b ≠ e := fun b n z => by
    subst z
    rcases he with r | r
    · exact hx b n r
    · rw [n] at r; cases r
  have hm : ∀ b u, H b = some u → ¬ Mut (some u) → b ≠ x := fun b u q nm z => by subst z; rw [q] at mu; exact nm mu
  refine ⟨fun b u q n _ _ => k b u (hb b n) q, fun b u q n _ _ => ⟨u.slots, k b u (hb b n) q⟩, fun b u q n _ => by rw [upd_ne (hx b n)]; exact n, fun b u q _ => ?_,
    fun b xs q => by rw [upd_ne (hm b _ q fun z => z)]; exact q, fun b u xs q => by rw [upd_ne (hm b _ q fun z => z)]; exact q, fun b ps q => ⟨#[], by rw [upd_ne (hm b _ q fun z => z), q]; simp⟩⟩
  by_cases hbe : b = e
  · subst hbe; exact heo
  · exact ⟨u, k b u hbe q⟩
end
def trk (h : Heap) (H : Hp) : List Addr := (List.range h.objs.size).filter fun a => (H a).isSome
def hidT (h : Heap) (H : Hp) : Heap := PySem.W.hideAll h (trk h H)
theorem hidT_size (h : Heap) (H : Hp) : (hidT h H).objs.size = h.objs.size := PySem.W.hideAll_size _ _
theorem hidT_get {h : Heap} {H : Hp} {b : Addr} {o : Obj} (e : h.get? b = some o) (n : H b = none) : (hidT h H).get? b = some o :=
  PySem.W.hideAll_get _ e fun hm => by
    have q : (H b).isSome = true := (List.mem_filter.mp hm).2
    rw [n] at q; simp at q
theorem of_hidT {h : Heap} {H : Hp} {b : Addr} {o : Obj} (e : (hidT h H).get? b = some o) : h.get? b = some o ∧ H b = none := by
  have e' : h.get? b = some o := PySem.W.of_hideAll (trk h H) e
  refine ⟨e', ?_⟩
  cases q : H b with
  | none => rfl
  | some x =>
    have hm : b ∈ trk h H := List.mem_filter.mpr ⟨List.mem_range.mpr (Heap.lt_size e'), by simp [q]⟩
    have z : (hidT h H).get? b = none := PySem.W.hideAll_none (trk h H) hm
    rw [z] at e; cases e
end L2
namespace L2
open PySem PySem.Spec PyProof.Rows
structure Mod (K : PySem.W.Frag) (mg : Str → Option Value) (base : Heap) : Prop where
  kin : K.In base
  glob : base.Ns mainGlobals mg
  blt : ∃ mb, base.Ns builtinsNs mb ∧ ∀ x : Str, x ≠ "__name__" → mb x = bootBuiltins x
  nolimit : base.NoLimit
structure Cx where
  prog : Program
  w : World
  K : PySem.W.Frag
  mg : Str → Option Value
  base : Heap
  A : Around
  N : List Str
  s₀ : Shared
  H₀ : Hp
  env : Env
  outer : List Env
  stack : List Env
  ex : List Addr
  fn : Str → Bool
  calm : Bool
  pn : List (Addr × Obj)
  xe : Value → Shared → Prop
def frs (l : List Env) : List Addr := l.filterMap (·.frame)
abbrev Cx.fs (X : Cx) : List Addr := frs X.outer
def Vis (sc : Scope) (x : Str) : Prop := sc.names.lookup x = some .local ∨ sc.names.lookup x = some .cell ∨ sc.names.lookup x = some .free
def Loc (sc : Scope) (x : Str) : Prop := sc.names.lookup x = some .local ∨ sc.names.lookup x = some .cell
def Look (env : Env) (h : Heap) (m : Str → Option Value) (x : Str) (u : Value) : Prop :=
  (env.kindOf x = some .local ∧ m x = some u) ∨ ((env.kindOf x = some .cell ∨ env.kindOf x = some .free) ∧ ∃ c, env.cells.lookup x = some c ∧ h.IsCell c (some u))
structure Cx.Ok (X : Cx) : Prop where
  mod : Mod X.K X.mg X.base
  kind : X.env.scope.kind = .function
  glob : X.env.globals = mainGlobals
  blt : X.env.builtins = builtinsNs
  above : X.s₀.heap.objs.size ≤ X.env.locals
  inj : ∀ x y c, X.env.cells.lookup x = some c → X.env.cells.lookup y = some c → x = y
  has : ∀ x, (X.env.kindOf x = some .cell ∨ X.env.kindOf x = some .free) → ∃ c, X.env.cells.lookup x = some c
  cab : ∀ x c, X.fn x = true → X.env.cells.lookup x = some c → X.s₀.heap.objs.size ≤ c
  hd : X.calm = true → X.A.handled = none
  frames : X.A.frames = some X.stack
  stk : X.stack = X.outer ∨ (X.stack = X.env :: X.outer ∧ X.env.frame = some X.env.locals)
  exf : ∀ b ∈ X.ex, b ≠ X.env.locals ∧ ∀ x c, X.env.cells.lookup x = some c → c ≠ b
  bs : ∀ b o, X.base.get? b = some o → X.s₀.heap.get? b = some o ∧ X.H₀ b = none
  bsz : X.base.objs.size ≤ X.s₀.heap.objs.size
  noex : ∀ b o, X.base.get? b = some o → b ∉ X.ex
  exfs : ∀ b ∈ X.ex, b ∉ X.fs
  funs : X.s₀.heap.FunFrames X.base X.outer
  frf : ∀ b ∈ X.fs, X.H₀ b = none
structure Inv (X : Cx) (pins : List (Addr × Obj)) (σ : List (Option V)) (H : Hp) (s : Shared) : Prop where
  ok : X.Ok
  os : s.os = X.s₀.os
  bare : AllBare s.gens
  base : Un X.fs X.ex X.H₀ H X.s₀.heap s.heap
  loc : ∃ m, s.heap.Ns X.env.locals m ∧ ∀ (i : Nat) (x : Str) (v : V), X.N[i]? = some x → σ[i]? = some (some v) → Vis X.env.scope x → ∃ u, RelV v u ∧ Look X.env s.heap m x u
  cell : ∀ x c, X.env.cells.lookup x = some c → ∃ v, s.heap.IsCell c v
  free : H X.env.locals = none
  freeC : ∀ x c, X.env.cells.lookup x = some c → H c = none
  pin : ∀ p ∈ X.pn ++ pins, s.heap.get? p.1 = some p.2 ∧ H p.1 = none ∧ p.1 ≠ X.env.locals ∧ p.1 ∉ X.fs ∧ ∀ v, p.2.data ≠ .cell v
  hok : HOk X.prog X.w H s.heap
  len : σ.length = X.N.length
section
variable {X : Cx} {pins : List (Addr × Obj)} {σ : List (Option V)} {H H' : Hp} {s : Shared} {h' : Heap}
theorem Cx.Ok.nofr (ok : X.Ok) {b : Addr} {o : Obj} (e : X.base.get? b = some o) : b ∉ X.fs := fun hb => by
  have := (ok.funs.mem hb).1
  rw [e] at this; cases this
theorem Inv.bs (I : Inv X pins σ H s) : ∀ b o, X.base.get? b = some o → s.heap.get? b = some o ∧ H b = none := fun b o e =>
  ⟨I.base.keep b o (I.ok.bs b o e).1 (I.ok.bs b o e).2 (I.ok.nofr e) (I.ok.noex b o e), I.base.free b o (I.ok.bs b o e).1 (I.ok.bs b o e).2 (I.ok.noex b o e)⟩
theorem Inv.bk (I : Inv X pins σ H s) : ∀ b o, X.base.get? b = some o → s.heap.get? b = some o := fun b o e => (I.bs b o e).1
theorem Inv.mod (I : Inv X pins σ H s) : Mod X.K X.mg X.base := I.ok.mod
theorem Inv.kIn (I : Inv X pins σ H s) : X.K.In s.heap := I.ok.mod.kin.keeps I.bk
theorem Inv.lt (I : Inv X pins σ H s) : X.env.locals < s.heap.objs.size := let ⟨_, hn, _⟩ := I.loc; hn.lt
theorem Inv.sz (I : Inv X pins σ H s) : X.s₀.heap.objs.size ≤ s.heap.objs.size := Nat.le_trans I.ok.above (Nat.le_of_lt I.lt)
theorem Inv.nofs (I : Inv X pins σ H s) {a : Addr} (h : s.heap.objs.size ≤ a) : a ∉ X.fs := fun hb => by
  obtain ⟨_, o, ho, _⟩ := I.ok.funs.mem hb
  exact absurd (Nat.lt_of_lt_of_le (Heap.lt_size ho) (Nat.le_trans I.sz h)) (Nat.lt_irrefl _)
theorem Inv.cne (I : Inv X pins σ H s) : ∀ x c, X.env.cells.lookup x = some c → c ≠ X.env.locals := fun x c e z => by
  obtain ⟨v, o, ho, hd⟩ := I.cell x c e
  obtain ⟨m, ⟨o', es, ep, ho', hd', _⟩, _⟩ := I.loc
  rw [z, ho'] at ho; cases ho; rw [hd'] at hd; cases hd
theorem Inv.funs (I : Inv X pins σ H s) : s.heap.FunFrames X.base X.outer := by
  have all : ∀ (l : List Env), (∀ b ∈ frs l, b ∈ X.fs) → X.s₀.heap.FunFrames X.base l → s.heap.FunFrames X.base l := by
    intro l
    induction l with
    | nil => intro _ _; trivial
    | cons env r ih =>
      intro hs hl
      obtain ⟨hk, ⟨L, o, hf, hn, ho, hd⟩, hr⟩ := hl
      have hL : L ∈ X.fs := hs L (by unfold frs; rw [List.filterMap_cons, hf]; exact List.mem_cons_self)
      obtain ⟨sl, e⟩ := I.base.slot L o ho (I.ok.frf L hL) hL fun z => I.ok.exfs L z hL
      exact ⟨hk, ⟨L, _, hf, hn, e, hd⟩, ih (fun b hb => hs b (by unfold frs; rw [List.filterMap_cons, hf]; exact List.mem_cons_of_mem _ hb)) hr⟩
  exact all X.outer (fun _ hb => hb) I.ok.funs
theorem Inv.stack (I : Inv X pins σ H s) : s.heap.FunFrames X.base X.stack := by
  rcases I.ok.stk with e | ⟨e, hf⟩
  · rw [e]; exact I.funs
  · rw [e]
    obtain ⟨m, hn, _⟩ := I.loc
    refine .cons (by rw [I.ok.kind]; decide) hf hn ?_ I.funs
    exact Heap.get?_none_of_le (Nat.le_trans I.ok.bsz I.ok.above)
theorem Inv.stkSub (I : Inv X pins σ H s) : ∀ b ∈ frs X.stack, b ∈ X.env.locals :: X.fs := fun b hb => by
  rcases I.ok.stk with e | ⟨e, hf⟩
  · rw [e] at hb; exact List.mem_cons_of_mem _ hb
  · rw [e] at hb
    unfold frs at hb
    rw [List.filterMap_cons, hf] at hb
    exact hb
theorem Inv.stkFree (I : Inv X pins σ H s) : ∀ b ∈ frs X.stack, H b = none := fun b hb => by
  rcases List.mem_cons.mp (I.stkSub b hb) with e | hb
  · rw [e]; exact I.free
  · obtain ⟨_, o, ho, _⟩ := I.ok.funs.mem hb
    exact I.base.free b o ho (I.ok.frf b hb) fun z => I.ok.exfs b z hb
theorem Inv.step {g' : Array GenState} {t' : Nat} {d' : Drawn} {ch : List Addr} (I : Inv X pins σ H s)
    (hch : ∀ b ∈ ch, (b ∈ X.ex ∨ X.s₀.heap.objs.size ≤ b) ∧ b ≠ X.env.locals ∧ (∀ x c, X.env.cells.lookup x = some c → c ≠ b) ∧ ∀ p ∈ X.pn ++ pins, p.1 ≠ b)
    (keep : ∀ b o, b ≠ X.env.locals → b ∉ X.fs → b ∉ ch → s.heap.get? b = some o → H b = none → h'.get? b = some o)
    (slot : ∀ b o, b ≠ X.env.locals → b ∈ X.fs → b ∉ ch → s.heap.get? b = some o → H b = none → ∃ sl, h'.get? b = some { o with slots := sl }) (free : ∀ b o, b ∉ ch → s.heap.get? b = some o → H b = none → H' b = none)
    (there : ∀ b o, b ∉ ch → s.heap.get? b = some o → ∃ o', h'.get? b = some o')
    (tups : ∀ b xs, H b = some (.tup xs) → H' b = some (.tup xs)) (frzs : ∀ b o u, H b = some (.frz o u) → H' b = some (.frz o u)) (tbls : ∀ b ps, H b = some (.tbl ps) → ∃ more, H' b = some (.tbl (ps ++ more)))
    (ns : ∀ m, s.heap.Ns X.env.locals m → h'.Ns X.env.locals m) (hok : HOk X.prog X.w H' h') (hg : AllBare g') :
    Inv X pins σ H' { s with heap := h', gens := g', drawn := d', toks := t' } := by
  have neL : ∀ b o, X.s₀.heap.get? b = some o → b ≠ X.env.locals := fun b o e => Nat.ne_of_lt (Nat.lt_of_lt_of_le (Heap.lt_size e) I.ok.above)
  have neC : ∀ b o, X.s₀.heap.get? b = some o → b ∉ X.ex → b ∉ ch := fun b o e hx hb => by
    rcases (hch b hb).1 with z | z
    · exact hx z
    · exact absurd (Nat.lt_of_lt_of_le (Heap.lt_size e) z) (Nat.lt_irrefl _)
  have cellK : ∀ x c, X.env.cells.lookup x = some c → ∀ v, s.heap.IsCell c v → h'.IsCell c v := fun x c e v ⟨o, ho, hd⟩ => by
    have nch : c ∉ ch := fun z => (hch c z).2.2.1 x c e rfl
    by_cases hc : c ∈ X.fs
    · obtain ⟨sl, q⟩ := slot c o (I.cne x c e) hc nch ho (I.freeC x c e)
      exact ⟨_, q, hd⟩
    · exact ⟨o, keep c o (I.cne x c e) hc nch ho (I.freeC x c e), hd⟩
  refine ⟨I.ok, I.os, hg, ⟨fun b o e n hb hx => ?_, fun b o e n hb hx => ?_, fun b o e n hx => ?_, fun b o e hx => ?_, fun b xs e => tups b xs (I.base.tups b xs e), fun b o xs e => frzs b o xs (I.base.frzs b o xs e), fun b ps e => ?_⟩, ?_, fun x c e => ?_, ?_, fun x c e => ?_, fun p hp => ?_, hok, I.len⟩
  · exact keep b o (neL b o e) hb (neC b o e hx) (I.base.keep b o e n hb hx) (I.base.free b o e n hx)
  · obtain ⟨sl, e1⟩ := I.base.slot b o e n hb hx
    obtain ⟨sl', e2⟩ := slot b _ (neL b o e) hb (neC b o e hx) e1 (I.base.free b o e n hx)
    exact ⟨sl', e2⟩
  · obtain ⟨o', e1⟩ := I.base.there b o e hx
    exact free b o' (neC b o e hx) e1 (I.base.free b o e n hx)
  · obtain ⟨o', e1⟩ := I.base.there b o e hx
    exact there b o' (neC b o e hx) e1
  · obtain ⟨m1, e1⟩ := I.base.tbls b ps e
    obtain ⟨m2, e2⟩ := tbls b _ e1
    exact ⟨m1 ++ m2, by rw [e2, Array.append_assoc]⟩
  · obtain ⟨m, hn, hl⟩ := I.loc
    refine ⟨m, ns m hn, fun i x v e1 e2 e3 => ?_⟩
    obtain ⟨u, r, l⟩ := hl i x v e1 e2 e3
    refine ⟨u, r, ?_⟩
    rcases l with l | ⟨k, c, e, z⟩
    · exact .inl l
    · exact .inr ⟨k, c, e, cellK x c e _ z⟩
  · obtain ⟨v, z⟩ := I.cell x c e
    exact ⟨v, cellK x c e v z⟩
  · obtain ⟨m, ⟨o, _, _, ho, _⟩, _⟩ := I.loc
    exact free _ o (fun z => (hch _ z).2.1 rfl) ho I.free
  · obtain ⟨v, o, ho, hd⟩ := I.cell x c e
    exact free c o (fun z => (hch c z).2.2.1 x c e rfl) ho (I.freeC x c e)
  · obtain ⟨e, n, ne, nf, d⟩ := I.pin p hp
    have nch : p.1 ∉ ch := fun z => (hch p.1 z).2.2.2 p hp rfl
    exact ⟨keep p.1 p.2 ne nf nch e n, free p.1 p.2 nch e n, ne, nf, d⟩
theorem Inv.un {t' : Nat} (I : Inv X pins σ H s) (u : Un X.fs [] H H' s.heap h') (hok : HOk X.prog X.w H' h') : Inv X pins σ H' { s with heap := h', toks := t' } := by
  obtain ⟨m, ⟨o, es, ep, ho, r⟩, _⟩ := id I.loc
  obtain ⟨sl, hL⟩ := u.any ho I.free (by simp)
  exact I.step (g' := s.gens) (d' := s.drawn) (ch := []) (fun _ z => nomatch z) (fun b o _ hb _ e n => u.keep b o e n hb (by simp)) (fun b o _ hb _ e n => u.slot b o e n hb (by simp)) (fun b o _ e n => u.free b o e n (by simp)) (fun b o _ e => u.there b o e (by simp)) u.tups u.frzs u.tbls (fun m' hm => by
    obtain ⟨o', es', ep', ho', r'⟩ := hm
    rw [ho] at ho'; cases ho'
    exact ⟨_, es', ep', hL, r'⟩) hok I.bare
theorem Inv.call {g' : Array GenState} {t' : Nat} {d' : Drawn} {ch : List Addr} (I : Inv X pins σ H s) (u : Un (frs X.stack) ch H H' s.heap h') (hok : HOk X.prog X.w H' h') (hg : AllBare g')
    (hch : ∀ b ∈ ch, (b ∈ X.ex ∨ X.s₀.heap.objs.size ≤ b) ∧ b ≠ X.env.locals ∧ (∀ x c, X.env.cells.lookup x = some c → c ≠ b) ∧ ∀ p ∈ X.pn ++ pins, p.1 ≠ b) :
    Inv X pins σ H' { s with heap := h', gens := g', drawn := d', toks := t' } := by
  obtain ⟨m, ⟨o, es, ep, ho, r⟩, _⟩ := id I.loc
  obtain ⟨sl, hL⟩ := u.any ho I.free fun z => (hch _ z).2.1 rfl
  exact I.step (ch := ch) hch (fun b o hL hb hc e n => u.keep b o e n (fun z => (List.mem_cons.mp (I.stkSub b z)).elim hL hb) hc) (fun b o _ _ hc e n => u.any e n hc) (fun b o hc e n => u.free b o e n hc) (fun b o hc e => u.there b o e hc) u.tups u.frzs u.tbls (fun m' hm => by
    obtain ⟨o', es', ep', ho', r'⟩ := hm
    rw [ho] at ho'; cases ho'
    exact ⟨_, es', ep', hL, r'⟩) hok hg
theorem Inv.turned {t' : Nat} {it : Addr} (I : Inv X pins σ H s) (k : ∀ b o, b ≠ it → s.heap.get? b = some o → h'.get? b = some o) (hn : H it = none) (hL : it ≠ X.env.locals)
    (h1 : it ∈ X.ex ∨ X.s₀.heap.objs.size ≤ it) (h2 : ∀ x c, X.env.cells.lookup x = some c → c ≠ it) (h3 : ∀ p ∈ X.pn ++ pins, p.1 ≠ it) : Inv X pins σ H { s with heap := h', toks := t' } := by
  have nit : ∀ b u, H b = some u → b ≠ it := fun b u e z => by rw [z, hn] at e; cases e
  refine I.step (g' := s.gens) (d' := s.drawn) (ch := [it]) (fun b hb => ?_) (fun b o _ _ hc e _ => k b o (fun z => hc (by simp [z])) e) (fun b o _ _ hc e _ => ⟨o.slots, k b o (fun z => hc (by simp [z])) e⟩) (fun _ _ _ _ n => n)
    (fun b o hc e => ⟨o, k b o (fun z => hc (by simp [z])) e⟩) (fun _ _ e => e) (fun _ _ _ e => e) (fun b ps e => ⟨#[], by rw [e]; simp⟩) (fun m hm => ?_) (fun b u e => ?_) I.bare
  · have e : b = it := by simpa using hb
    subst e
    exact ⟨h1, hL, h2, h3⟩
  · obtain ⟨o, es, ep, ho, r⟩ := hm
    exact ⟨o, es, ep, k _ o (Ne.symm hL) ho, r⟩
  · refine (I.hok b u e).stay (fun c v hc q => k c v ?_ q) (fun _ q => q) fun _ _ q => q
    rcases hc with z | z
    · rw [z]; exact nit b u e
    · exact nit c _ z
theorem Inv.tok (I : Inv X pins σ H s) (t : Nat) : Inv X pins σ H { s with toks := t } := I.un (h' := s.heap) (t' := t) Un.refl I.hok
theorem Inv.kept {t' : Nat} (I : Inv X pins σ H s) (k : ∀ b u, s.heap.get? b = some u → h'.get? b = some u) : Inv X pins σ H { s with heap := h', toks := t' } := I.un (Un.kept k) (I.hok.kept k)
theorem Inv.laid {a : Addr} {o : HO} {t' : Nat} (I : Inv X pins σ H s) (k : ∀ b u, s.heap.get? b = some u → h'.get? b = some u) (hp : s.heap.objs.size ≤ a) (new : ObjOk X.prog X.w (upd H a o) h' a o) :
    Inv X pins σ (upd H a o) { s with heap := h', toks := t' } := I.un (Un.laid k hp (I.hok.fresh hp)) (I.hok.laid k hp new)
theorem Inv.write {x e : Addr} {o : HO} {t' : Nat} (I : Inv X pins σ H s) (mu : Mut (H x)) (he : e = x ∨ H e = some (.own x)) (k : ∀ b u, b ≠ e → s.heap.get? b = some u → h'.get? b = some u) (heo : ∃ u, h'.get? e = some u)
    (new : ObjOk X.prog X.w (upd H x o) h' x o) : Inv X pins σ (upd H x o) { s with heap := h', toks := t' } := I.un (Un.write mu he k heo) (I.hok.write mu he k heo new)
theorem Inv.weak {σ' : List (Option V)} (I : Inv X pins σ H s) (hl : σ'.length = σ.length) (w : ∀ (i : Nat) v, σ'[i]? = some (some v) → σ[i]? = some (some v)) : Inv X pins σ' H s :=
  ⟨I.ok, I.os, I.bare, I.base, let ⟨m, hn, hl'⟩ := I.loc; ⟨m, hn, fun i x v e1 e2 e3 => hl' i x v e1 (w i v e2) e3⟩, I.cell, I.free, I.freeC, I.pin, I.hok, hl.trans I.len⟩
theorem Inv.pins_of {pins' : List (Addr × Obj)} (I : Inv X pins σ H s) (h : ∀ p ∈ pins', s.heap.get? p.1 = some p.2 ∧ H p.1 = none ∧ p.1 ≠ X.env.locals ∧ p.1 ∉ X.fs ∧ ∀ v, p.2.data ≠ .cell v) : Inv X pins' σ H s :=
  ⟨I.ok, I.os, I.bare, I.base, I.loc, I.cell, I.free, I.freeC, fun p hp => (List.mem_append.mp hp).elim (fun z => I.pin p (List.mem_append_left _ z)) (h p), I.hok, I.len⟩
theorem nodup_ix {N : List Str} (hN : N.Nodup) {i j : Nat} {x : Str} (a : N[i]? = some x) (b : N[j]? = some x) : i = j := by
  obtain ⟨h1, e1⟩ := List.getElem?_eq_some_iff.mp a
  obtain ⟨h2, e2⟩ := List.getElem?_eq_some_iff.mp b
  exact (List.getElem_inj hN).mp (e1.trans e2.symm)
theorem store_ok2 {M : Model} {A : Around} {E : Value → Shared → Prop} {i : Nat} {x : Str} {v : V} {u : Value} {Q : Unit → Shared → Prop} (I : Inv X pins σ H s) (hN : X.N.Nodup) (hi : X.N[i]? = some x) (hx : Loc X.env.scope x) (r : RelV v u)
    (h : ∀ s', Inv X pins (σ.set i (some v)) H s' → (∃ a, Heap.SameBut a s.heap s'.heap ∧ (a = X.env.locals ∨ X.env.cells.lookup x = some a)) → Q () s') (hf : X.fn x = true ∨ X.env.scope.names.lookup x = some .local := by first | exact .inl rfl | exact .inr rfl | assumption) : wpAny M A (storeName X.env x u) Q E s := by
  obtain ⟨m, hn, hl⟩ := id I.loc
  have hcls : (X.env.scope.kind == .class || (X.env.scope.kind == .module && X.env.locals != X.env.globals)) = false := by rw [I.ok.kind]; rfl
  have hiσ : i < σ.length := by rw [I.len]; exact (List.getElem?_eq_some_iff.mp hi).1
  have cne := I.cne
  have tracked : ∀ {a : Addr} {h' : Heap}, (∃ o, s.heap.get? a = some o ∧ H a = none) → Heap.SameBut a s.heap h' → HOk X.prog X.w H h' := fun {a h'} ha hs b ob e => by
    obtain ⟨_, _, hfree⟩ := ha
    refine (I.hok b ob e).stay (fun c w' hc q => (hs.2 c ?_).trans q) (fun _ q => q) fun _ _ q => q
    rintro rfl
    rcases hc with rfl | hc
    · rw [hfree] at e; cases e
    · rw [hfree] at hc; cases hc
  rcases hx with hk | hk
  · refine wpAny_storeName_local hk hn (fun h' hn' hs => ?_) hcls
    obtain ⟨oL, _, _, hoL, _⟩ := id hn
    refine h _ ⟨I.ok, I.os, I.bare, ⟨fun b o e n hb hx => ?_, fun b o e n hb hx => ?_, I.base.free, fun b o e hx => ?_, I.base.tups, I.base.frzs, I.base.tbls⟩, ⟨_, hn', fun j y v' e1 e2 e3 => ?_⟩, fun y c e => ?_, I.free, I.freeC, fun p hp => ?_, tracked ⟨oL, hoL, I.free⟩ hs, by simpa using I.len⟩ ⟨_, hs, .inl rfl⟩
    · exact (hs.2 b (Nat.ne_of_lt (Nat.lt_of_lt_of_le (Heap.lt_size e) I.ok.above))).trans (I.base.keep b o e n hb hx)
    · obtain ⟨sl, e1⟩ := I.base.slot b o e n hb hx
      exact ⟨sl, (hs.2 b (Nat.ne_of_lt (Nat.lt_of_lt_of_le (Heap.lt_size e) I.ok.above))).trans e1⟩
    · obtain ⟨o', e1⟩ := I.base.there b o e hx
      exact ⟨o', (hs.2 b (Nat.ne_of_lt (Nat.lt_of_lt_of_le (Heap.lt_size e) I.ok.above))).trans e1⟩
    · by_cases hj : j = i
      · subst hj
        rw [hi] at e1; cases e1
        rw [List.getElem?_set_self hiσ] at e2
        cases e2
        exact ⟨u, r, .inl ⟨hk, by simp⟩⟩
      · rw [List.getElem?_set_ne (Ne.symm hj)] at e2
        obtain ⟨u', r', q⟩ := hl j y v' e1 e2 e3
        refine ⟨u', r', ?_⟩
        rcases q with ⟨k, e⟩ | ⟨k, c, e, z⟩
        · refine .inl ⟨k, ?_⟩
          have : y ≠ x := fun e => hj (nodup_ix hN e1 (e ▸ hi))
          simp [this, e]
        · exact .inr ⟨k, c, e, z.sameBut hs (cne y c e)⟩
    · obtain ⟨w', z⟩ := I.cell y c e
      exact ⟨w', z.sameBut hs (cne y c e)⟩
    · obtain ⟨e, n, ne, nf, d⟩ := I.pin p hp
      exact ⟨(hs.2 p.1 ne).trans e, n, ne, nf, d⟩
  · have hfn : X.fn x = true := by
      rcases hf with z | z
      · exact z
      · rw [z] at hk; cases hk
    obtain ⟨c, hc⟩ := I.ok.has x (.inl hk)
    obtain ⟨w', z⟩ := I.cell x c hc
    refine wpAny_storeName_cell I.ok.kind hk hc z (fun h' hc' hs => ?_)
    obtain ⟨oc, hoc, hocd⟩ := id z
    refine h { s with heap := h' } ⟨I.ok, I.os, I.bare, ⟨fun b o e n hb hx => ?_, fun b o e n hb hx => ?_, I.base.free, fun b o e hx => ?_, I.base.tups, I.base.frzs, I.base.tbls⟩, ⟨m, hn.sameBut hs (Ne.symm (cne x c hc)), fun j y v' e1 e2 e3 => ?_⟩, fun y c' e => ?_, I.free, I.freeC, fun p hp => ?_, tracked ⟨oc, hoc, I.freeC x c hc⟩ hs, by simpa using I.len⟩ ⟨c, hs, .inr hc⟩
    · exact (hs.2 b (Nat.ne_of_lt (Nat.lt_of_lt_of_le (Heap.lt_size e) (I.ok.cab x c hfn hc)))).trans (I.base.keep b o e n hb hx)
    · obtain ⟨sl, e1⟩ := I.base.slot b o e n hb hx
      exact ⟨sl, (hs.2 b (Nat.ne_of_lt (Nat.lt_of_lt_of_le (Heap.lt_size e) (I.ok.cab x c hfn hc)))).trans e1⟩
    · obtain ⟨o', e1⟩ := I.base.there b o e hx
      exact ⟨o', (hs.2 b (Nat.ne_of_lt (Nat.lt_of_lt_of_le (Heap.lt_size e) (I.ok.cab x c hfn hc)))).trans e1⟩
    · by_cases hj : j = i
      · subst hj
        rw [hi] at e1; cases e1
        rw [List.getElem?_set_self hiσ] at e2
        cases e2
        exact ⟨u, r, .inr ⟨.inl hk, c, hc, hc'⟩⟩
      · rw [List.getElem?_set_ne (Ne.symm hj)] at e2
        obtain ⟨u', r', q⟩ := hl j y v' e1 e2 e3
        refine ⟨u', r', ?_⟩
        rcases q with q | ⟨k, c', e, z'⟩
        · exact .inl q
        · refine .inr ⟨k, c', e, z'.sameBut hs ?_⟩
          rintro rfl
          exact hj (nodup_ix hN e1 (I.ok.inj _ _ _ e hc ▸ hi))
    · by_cases hcc : c' = c
      · subst hcc; exact ⟨_, hc'⟩
      · obtain ⟨w2, z2⟩ := I.cell y c' e
        exact ⟨w2, z2.sameBut hs hcc⟩
    · obtain ⟨e, n, ne, nf, d⟩ := I.pin p hp
      refine ⟨(hs.2 p.1 ?_).trans e, n, ne, nf, d⟩
      intro q
      rw [q, hoc] at e
      have q' : oc = p.2 := Option.some.inj e
      exact d w' (by rw [← q']; exact hocd)
theorem store_ok {M : Model} {A : Around} {E : Value → Shared → Prop} {i : Nat} {x : Str} {v : V} {u : Value} {Q : Unit → Shared → Prop} (I : Inv X pins σ H s) (hN : X.N.Nodup) (hi : X.N[i]? = some x) (hx : Loc X.env.scope x) (r : RelV v u)
    (h : ∀ s', Inv X pins (σ.set i (some v)) H s' → Q () s') (hf : X.fn x = true ∨ X.env.scope.names.lookup x = some .local := by first | exact .inl rfl | exact .inr rfl | assumption) : wpAny M A (storeName X.env x u) Q E s :=
  store_ok2 I hN hi hx r (fun s' I' _ => h s' I') hf
theorem Inv.call' {s' : Shared} {ch : List Addr} (I : Inv X pins σ H s) (ho : s'.os = s.os) (u : Un (frs X.stack) ch H H' s.heap s'.heap) (hok : HOk X.prog X.w H' s'.heap) (hg : AllBare s'.gens)
    (hch : ∀ b ∈ ch, (b ∈ X.ex ∨ X.s₀.heap.objs.size ≤ b) ∧ b ≠ X.env.locals ∧ (∀ x c, X.env.cells.lookup x = some c → c ≠ b) ∧ ∀ p ∈ X.pn ++ pins, p.1 ≠ b) : Inv X pins σ H' s' := by
  obtain ⟨h', g', d', t', o'⟩ := s'
  have e : o' = s.os := ho
  subst e
  exact I.call (g' := g') (t' := t') (d' := d') u hok hg hch
end
abbrev XK := Value → Option Addr → Hp → Prop
abbrev St := List (Option V)
abbrev VK := V → Hp → Prop
abbrev TE := St → Hp → VK → Prop
abbrev TT := St → Hp → (Bool → Hp → Prop) → Prop
abbrev TA := St → Hp → (List V → Hp → Prop) → Prop
structure Ends where
  nx : St → Hp → Prop
  rt : VK
  bk : St → Hp → Prop := fun _ _ => False
  ct : St → Hp → Prop := fun _ _ => False
abbrev TS := Ends → St → Hp → Prop
def EP (X : Cx) (pins : List (Addr × Obj)) (σ : St) (Q : VK) (u : Value) (s' : Shared) : Prop := ∃ v H', Inv X pins σ H' s' ∧ RelV v u ∧ Q v H'
def TP (X : Cx) (pins : List (Addr × Obj)) (σ : St) (Q : Bool → Hp → Prop) (b : Bool) (s' : Shared) : Prop := ∃ H', Inv X pins σ H' s' ∧ Q b H'
def AP (X : Cx) (pins : List (Addr × Obj)) (σ : St) (Q : List V → Hp → Prop) (us : List Value) (s' : Shared) : Prop := ∃ vs H', Inv X pins σ H' s' ∧ Vals vs us ∧ Q vs H'
def SP (X : Cx) (pins : List (Addr × Obj)) (D : Ends) (f : Flow) (s' : Shared) : Prop :=
  match f with
  | .next => ∃ σ' H', Inv X pins σ' H' s' ∧ D.nx σ' H'
  | .brk => ∃ σ' H', Inv X pins σ' H' s' ∧ D.bk σ' H'
  | .cont => ∃ σ' H', Inv X pins σ' H' s' ∧ D.ct σ' H'
  | .ret u => ∃ v σ' H', Inv X pins σ' H' s' ∧ RelV v u ∧ D.rt v H'
def PE (X : Cx) (e : Expr) (t : TE) : Prop :=
  ∀ (pins : List (Addr × Obj)) (s : Shared) (σ : St) (H : Hp) (Q : VK), Inv X pins σ H s → t σ H Q → wpAny (model X.prog X.w) X.A (eval e X.env) (EP X pins σ Q) X.xe s
def PT (X : Cx) (e : Expr) (t : TT) : Prop :=
  ∀ (pins : List (Addr × Obj)) (s : Shared) (σ : St) (H : Hp) (Q : Bool → Hp → Prop), Inv X pins σ H s → t σ H Q → wpAny (model X.prog X.w) X.A (isTrue e X.env (eval e X.env)) (TP X pins σ Q) X.xe s
def PW (X : Cx) (e : Expr) (t : TT) : Prop :=
  ∀ (whole : Sem Value) (pins : List (Addr × Obj)) (s : Shared) (σ : St) (H : Hp) (Q : Bool → Hp → Prop), Inv X pins σ H s → t σ H Q → wpAny (model X.prog X.w) X.A (isTrue e X.env whole) (TP X pins σ Q) X.xe s
theorem PW.pt {X : Cx} {e : Expr} {t : TT} (h : PW X e t) : PT X e t := h _
def PA (X : Cx) (es : List Expr) (t : TA) : Prop :=
  ∀ (pos : Pos) (pins : List (Addr × Obj)) (s : Shared) (σ : St) (H : Hp) (Q : List V → Hp → Prop), Inv X pins σ H s → t σ H Q → wpAny (model X.prog X.w) X.A (spliced (backTo pos (starEach es X.env))) (AP X pins σ Q) X.xe s
def PS (X : Cx) (st : Stmt) (t : TS) : Prop :=
  ∀ (pins : List (Addr × Obj)) (s : Shared) (σ : St) (H : Hp) (D : Ends), Inv X pins σ H s → t D σ H → wpAny (model X.prog X.w) X.A (exec st X.env) (SP X pins D) X.xe s
def PSs (X : Cx) (st : List Stmt) (t : TS) : Prop :=
  ∀ (pins : List (Addr × Obj)) (s : Shared) (σ : St) (H : Hp) (D : Ends), Inv X pins σ H s → t D σ H → wpAny (model X.prog X.w) X.A (execs st X.env) (SP X pins D) X.xe s
theorem thn {α : Type} {t : Sem α} {Q Q' : α → Shared → Prop} {M : Model} {A : Around} {E : Value → Shared → Prop} {s : Shared} (h : wpAny M A t Q E s) (hQ : ∀ a s, Q a s → Q' a s) : wpAny M A t Q' E s := wpAny_mono h hQ fun _ _ x => x
end L2
namespace L2
open PySem PySem.Spec PyProof.Rows
section
variable {X : Cx}
def tVar (i : Nat) : TE := fun σ H Q => ∃ v, σ[i]? = some (some v) ∧ Q v H
def tC (v : V) : TE := fun _ H Q => Q v H
theorem pe_var {i : Nat} {x : Str} {pos : Pos} (hN : X.N[i]? = some x) (hv : Vis X.env.scope x) (hd : (x == ("__debug__" : Str)) = false := by decide) (hcd : (x == ("__classdict__" : Str)) = false := by decide) : PE X (.Name x pos) (tVar i) := by
  intro pins s σ H Q I h
  obtain ⟨v, e, h⟩ := h
  obtain ⟨m, hn, hl⟩ := I.loc
  obtain ⟨u, r, l⟩ := hl i x v hN e hv
  have fin : EP X pins σ Q u s := ⟨v, H, I, r, h⟩
  rcases l with ⟨hk, hm⟩ | ⟨hk, c, hc, hcell⟩
  · exact wpAny_Name (wpAny_loadName_local I.ok.kind hk hn hm fin) hd
  · rcases hk with hk | hk
    · exact wpAny_Name (wpAny_loadName_cell I.ok.kind hk hc hcell fin) hd
    · exact wpAny_Name (wpAny_loadName_free I.ok.kind hk hc hcell fin hcd) hd
theorem pe_int {i j pos} : PE X (.Constant (.int i) j pos) (tC (.int i)) := fun _ _ _ H _ I h => wpAny_Constant_int ⟨.int i, H, I.tok _, ⟨_, rfl⟩, h⟩
theorem pe_bl {b j pos} : PE X (.Constant (.bool b) j pos) (tC (.bl b)) := fun _ _ _ H _ I h => Constant_bool ⟨.bl b, H, I, rfl, h⟩
theorem pe_non {j pos} : PE X (.Constant .none j pos) (tC .non) := fun _ _ _ H _ I h => Constant_none ⟨.non, H, I, rfl, h⟩
theorem pe_str {x j pos} : PE X (.Constant (.str x) j pos) (tC (.str x)) := fun _ _ _ H _ I h => Calls.Constant_str ⟨.str x, H, I.tok _, ⟨_, rfl⟩, h⟩
def Gl (X : Cx) (x : Str) : Prop := X.env.kindOf x = some .globalImplicit
theorem ld_glob {E : Value → Shared → Prop} {pins : List (Addr × Obj)} {s : Shared} {σ : St} {H : Hp} {x : Str} {u : Value} {pos : Pos} {Q : Value → Shared → Prop} (I : Inv X pins σ H s) (hg : Gl X x) (hm : X.mg x = some u) (h : Q u s)
    (hd : (x == ("__debug__" : Str)) = false := by decide) : wpAny (model X.prog X.w) X.A (eval (.Name x pos) X.env) Q E s :=
  Calls.Name_function_global I.ok.kind hg (Calls.loadGlobal_global (by rw [I.ok.glob]; exact I.mod.glob.keeps I.bk) hm h) hd
theorem ld_blt {E : Value → Shared → Prop} {pins : List (Addr × Obj)} {s : Shared} {σ : St} {H : Hp} {x : Str} {u : Value} {pos : Pos} {Q : Value → Shared → Prop} (I : Inv X pins σ H s) (hg : Gl X x) (hm : X.mg x = none) (hv : bootBuiltins x = some u) (h : Q u s)
    (hn : x ≠ "__name__" := by decide) (hd : (x == ("__debug__" : Str)) = false := by decide) : wpAny (model X.prog X.w) X.A (eval (.Name x pos) X.env) Q E s := by
  obtain ⟨mb, h1, h2⟩ := I.mod.blt
  exact Calls.Name_function_global I.ok.kind hg (Calls.loadGlobal_builtin (by rw [I.ok.glob]; exact I.mod.glob.keeps I.bk) hm (by rw [I.ok.blt]; exact h1.keeps I.bk) ((h2 x hn).trans hv) h) hd
theorem pe_glob {x : Str} {v : V} {u : Value} {pos : Pos} (hg : Gl X x) (hm : X.mg x = some u) (r : RelV v u) (hd : (x == ("__debug__" : Str)) = false := by decide) : PE X (.Name x pos) (tC v) :=
  fun _ _ _ H _ I h => ld_glob I hg hm ⟨v, H, I, r, h⟩ hd
theorem pe_bltn {x : Str} {v : V} {u : Value} {pos : Pos} (hg : Gl X x) (hm : X.mg x = none) (hv : bootBuiltins x = some u) (r : RelV v u) (hn : x ≠ "__name__" := by decide) (hd : (x == ("__debug__" : Str)) = false := by decide) : PE X (.Name x pos) (tC v) :=
  fun _ _ _ H _ I h => ld_blt I hg hm hv ⟨v, H, I, r, h⟩ hn hd
variable {a b : Expr} {ta tb : TE} {pos : Pos}
def tB (t : TE) : TT := fun σ H Q => t σ H fun x H1 => ∃ c, x = .bl c ∧ Q c H1
theorem pt_val {e : Expr} {t : TE} (h : PE X e t) (he : ∀ whole, isTrue e X.env whole = (do let v ← whole; standAt e.pos; holding [v] (truthy v)) := by intro _; rfl) : PT X e (tB t) := by
  intro pins s σ H Q I hw
  refine isTrue_plain (thn (h pins s σ H _ I hw) fun v s1 ⟨x, H1, I1, r1, q1⟩ => ?_) (he _)
  obtain ⟨d, rfl, q⟩ := q1
  cases r1
  exact wpAny_truthy_bool ⟨H1, I1, q⟩
variable {tA tB' : TT} {rest : List Expr}
def tAnd (t u : TT) : TT := fun σ H Q => t σ H fun c H1 => if c = true then u σ H1 Q else Q false H1
def tOr (t u : TT) : TT := fun σ H Q => t σ H fun c H1 => if c = true then Q true H1 else u σ H1 Q
def tNot (t : TT) : TT := fun σ H Q => t σ H fun c H1 => Q (!c) H1
theorem pw_and1 (ha : PT X a tA) : PW X (.BoolOp .And [a] pos) tA := by
  intro wh pins s σ H Q I h
  refine isTrue_and (thn (ha pins s σ H Q I h) fun c s1 e => ?_)
  cases c with
  | true => exact isTrue_and_nil e
  | false => exact e
theorem pw_or1 (ha : PT X a tA) : PW X (.BoolOp .Or [a] pos) tA := by
  intro wh pins s σ H Q I h
  refine isTrue_or (thn (ha pins s σ H Q I h) fun c s1 e => ?_)
  cases c with
  | false => exact isTrue_or_nil e
  | true => exact e
theorem pw_and (ha : PT X a tA) (hb : PW X (.BoolOp .And (b :: rest) pos) tB') : PW X (.BoolOp .And (a :: b :: rest) pos) (tAnd tA tB') := by
  intro wh pins s σ H Q I h
  refine isTrue_and (thn (ha pins s σ H _ I h) fun c s1 ⟨H1, I1, q1⟩ => ?_)
  cases c with
  | true => exact hb wh pins s1 σ H1 Q I1 q1
  | false => exact ⟨H1, I1, q1⟩
theorem pw_or (ha : PT X a tA) (hb : PW X (.BoolOp .Or (b :: rest) pos) tB') : PW X (.BoolOp .Or (a :: b :: rest) pos) (tOr tA tB') := by
  intro wh pins s σ H Q I h
  refine isTrue_or (thn (ha pins s σ H _ I h) fun c s1 ⟨H1, I1, q1⟩ => ?_)
  cases c with
  | true => exact ⟨H1, I1, q1⟩
  | false => exact hb wh pins s1 σ H1 Q I1 q1
theorem pt_not (ha : PT X a tA) : PT X (.UnaryOp .Not a pos) (tNot tA) := by
  intro pins s σ H Q I h
  exact isTrue_not (ha pins s σ H (fun c H1 => Q (!c) H1) I h)
def tAndV (ta tb : TE) : TE := fun σ H Q => ta σ H fun x H1 => ∃ c, x = .bl c ∧ if c = true then tb σ H1 Q else Q (.bl false) H1
theorem pe_one {op} {t : TE} (h : PE X a t) : PE X (.BoolOp op [a] pos) t := fun pins s σ H Q I hw => BoolOp_one (h pins s σ H Q I hw)
theorem pe_and (ha : PE X a ta) (hb : PE X (.BoolOp .And (b :: rest) pos) tb) : PE X (.BoolOp .And (a :: b :: rest) pos) (tAndV ta tb) := by
  intro pins s σ H Q I h
  refine BoolOp_and (thn (ha pins s σ H _ I h) fun v s1 ⟨x, H1, I1, r1, q1⟩ => ?_)
  obtain ⟨c, rfl, q1⟩ := q1
  cases r1
  refine wpAny_truthy_bool ?_
  cases c with
  | true => exact hb pins s1 σ H1 Q I1 q1
  | false => exact ⟨.bl false, H1, I1, rfl, q1⟩
def tIf (t : TT) (ta tb : TE) : TE := fun σ H Q => t σ H fun c H1 => if c = true then ta σ H1 Q else tb σ H1 Q
theorem pe_ifExp {c : Expr} (hc : PT X c tA) (ha : PE X a ta) (hb : PE X b tb) : PE X (.IfExp c a b pos) (tIf tA ta tb) := by
  intro pins s σ H Q I h
  refine wpAny_IfExp (thn (hc pins s σ H _ I h) fun d s1 ⟨H1, I1, q1⟩ => ?_)
  cases d with
  | true => exact ha pins s1 σ H1 Q I1 q1
  | false => exact hb pins s1 σ H1 Q I1 q1
end
end L2
namespace L2
open PySem PySem.Spec PyProof.Rows
def SqL (K : PySem.W.Frag) (H : Hp) (a : Addr) (xs : List V) : Prop :=
  Rd H a (.lst xs) ∨
    ∃ (o : Obj) (its : Array Value) (n : Nat), K.lookup a = some o ∧ o.cls = .type "list" ∧ o.dict = none ∧ o.data = .seq its n ∧ its.size ≤ sizeLine ∧ Vals xs its.toList
def SqT (K : PySem.W.Frag) (H : Hp) (a : Addr) (xs : List V) : Prop :=
  Rd H a (.tup xs) ∨
    ∃ (o : Obj) (its : Array Value) (n : Nat), K.lookup a = some o ∧ o.cls = .type "tuple" ∧ o.data = .seq its n ∧ its.size ≤ sizeLine ∧ Vals xs its.toList
section
variable {X : Cx} {pins : List (Addr × Obj)} {σ : St} {H : Hp} {s : Shared} {a : Addr} {xs ys : List V}
theorem SqL.of {K : PySem.W.Frag} (h : H a = some (.lst xs)) : SqL K H a xs := .inl (.inl h)
theorem SqT.of {K : PySem.W.Frag} (h : H a = some (.tup xs)) : SqT K H a xs := .inl (.inl h)
theorem Inv.list (I : Inv X pins σ H s) (h : SqL X.K H a xs) : ∃ its : List Value, Vals xs its ∧ PlainL s.heap a its.toArray ∧ xs.length ≤ sizeLine := by
  rcases h with h | ⟨o, its, n, hk, hc, hd, hs, hz, r⟩
  · obtain ⟨z, its, n, r, e⟩ := h.ok I.hok
    exact ⟨its, r, ⟨_, n, e, rfl, rfl, rfl⟩, z⟩
  · refine ⟨its.toList, r, ⟨o, n, I.kIn a o hk, hc, hd, by simpa using hs⟩, ?_⟩
    have e := r.length
    simp only [Array.length_toList] at e
    omega
theorem Inv.tuple (I : Inv X pins σ H s) (h : SqT X.K H a xs) : ∃ its : List Value, Vals xs its ∧ IsTup s.heap a its.toArray ∧ xs.length ≤ sizeLine := by
  rcases h with h | ⟨o, its, n, hk, hc, hs, hz, r⟩
  · obtain ⟨z, its, r, p⟩ := h.ok I.hok
    exact ⟨its, r, p.is, z⟩
  · refine ⟨its.toList, r, ⟨o, I.kIn a o hk, hc, n, by simpa using hs⟩, ?_⟩
    have e := r.length
    simp only [Array.length_toList] at e
    omega
end
section
variable {X : Cx} {pins : List (Addr × Obj)} {σ : St} {H : Hp} {s : Shared} {E : Value → Shared → Prop}
end
section
variable {X : Cx} {st : Stmt} {rest : List Stmt} {t u : TS} {e : Expr} {te : TE} {pos : Pos}
def tNext : TS := fun D σ H => D.nx σ H
def tSeq (t u : TS) : TS := fun D σ H => t { D with nx := u D } σ H
theorem pss_nil : PSs X [] tNext := fun _ _ σ H _ I h => wpAny_execs_nil ⟨σ, H, I, h⟩
theorem pss_cons (h1 : PS X st t) (h2 : PSs X rest u) : PSs X (st :: rest) (tSeq t u) := by
  intro pins s σ H D I h
  refine wpAny_execs_cons (thn (h1 pins s σ H { D with nx := u D } I h) fun f s1 q => ?_)
  cases f with
  | next =>
    obtain ⟨σ', H', I', q⟩ := q
    exact h2 pins s1 σ' H' D I' q
  | ret v => exact q
  | brk => exact q
  | cont => exact q
theorem pss_one (h1 : PS X st t) : PSs X [st] t := by
  intro pins s σ H D I h
  refine wpAny_execs_cons (thn (h1 pins s σ H D I h) fun f s1 q => ?_)
  cases f with
  | next => exact wpAny_execs_nil q
  | ret v => exact q
  | brk => exact q
  | cont => exact q
theorem Inv.quiet {pins : List (Addr × Obj)} {σ : St} {H : Hp} {s : Shared} (I : Inv X pins σ H s) : interactive X.env = false := by simp [interactive, I.ok.kind]
def tDrop (te : TE) : TS := fun D σ H => te σ H fun _ H1 => D.nx σ H1
theorem ps_expr (he : PE X e te) (hs : swapsWith e none pos.line X.env = pure false := by rfl) : PS X (.Expr e pos) (tDrop te) := by
  intro pins s σ H D I h
  exact wpAny_Expr_any (thn (he pins s σ H _ I h) fun v s1 ⟨x, H1, I1, r1, q1⟩ => ⟨σ, H1, I1, q1⟩) I.quiet hs
def tRet (te : TE) : TS := fun D σ H => te σ H D.rt
theorem ps_ret (he : PE X e te) : PS X (.Return (some e) pos) (tRet te) := by
  intro pins s σ H D I h
  exact wpAny_Return_some (thn (he pins s σ H _ I h) fun v s1 ⟨x, H1, I1, r1, q1⟩ => ⟨x, σ, H1, I1, r1, q1⟩)
def tIfS (c : TT) (t u : TS) : TS := fun D σ H => c σ H fun b H1 => if b = true then t D σ H1 else u D σ H1
theorem ps_if {c : Expr} {a b : List Stmt} {tc : TT} (hc : PT X c tc) (ha : PSs X a t) (hb : PSs X b u) : PS X (.If c a b pos) (tIfS tc t u) := by
  intro pins s σ H D I h
  refine wpAny_If (thn (hc pins s σ H _ I h) fun d s1 ⟨H1, I1, q1⟩ => ?_)
  cases d with
  | true => exact ha pins s1 σ H1 D I1 q1
  | false => exact hb pins s1 σ H1 D I1 q1
end
abbrev TG := V → St → Hp → (St → Hp → Prop) → Prop
abbrev TGs := List V → St → Hp → (St → Hp → Prop) → Prop
def PG (X : Cx) (target : Expr) (t : TG) : Prop :=
  ∀ (pins : List (Addr × Obj)) (s : Shared) (σ : St) (H : Hp) (v : V) (u : Value) (Q : St → Hp → Prop), Inv X pins σ H s → RelV v u → t v σ H Q →
    wpAny (model X.prog X.w) X.A (assign target X.env u) (fun _ s' => ∃ σ' H', Inv X pins σ' H' s' ∧ Q σ' H') X.xe s
abbrev TIp := V → V → Hp → VK → Prop
def PIp (X : Cx) (op : Operator) (t : TIp) : Prop :=
  ∀ (pins : List (Addr × Obj)) (s : Shared) (σ : St) (H : Hp) (x y : V) (v u : Value) (Q : VK), Inv X pins σ H s → RelV x v → RelV y u → t x y H Q →
    wpAny (model X.prog X.w) X.A (inplaceOp op v u) (EP X pins σ Q) X.xe s
section
variable {X : Cx} {pos : Pos}
def gName (i : Nat) : TG := fun v σ H Q => Q (σ.set i (some v)) H
theorem pg_name {i : Nat} {x : Str} (hN : X.N.Nodup) (hi : X.N[i]? = some x) (hx : Loc X.env.scope x) (hf : X.fn x = true ∨ X.env.scope.names.lookup x = some .local := by first | exact .inl rfl | exact .inr rfl | assumption) : PG X (.Name x pos) (gName i) := by
  intro pins s σ H v u Q I r h
  exact wpAny_assign_Name (store_ok I hN hi hx r (fun s' I' => ⟨_, H, I', h⟩) hf)
def gNil : TGs := fun vs σ H Q => vs = [] ∧ Q σ H
def gCons (t : TG) (u : TGs) : TGs := fun vs σ H Q => ∃ v r, vs = v :: r ∧ t v σ H fun σ' H' => u r σ' H' Q
def gTup (K : PySem.W.Frag) (n : Nat) (t : TGs) : TG := fun v σ H Q => ∃ a xs, v = .ref a ∧ SqT K H a xs ∧ xs.length = n ∧ t xs σ H Q
def tAsg (te : TE) (g : TG) : TS := fun D σ H => te σ H fun x H1 => g x σ H1 D.nx
theorem ps_set {i : Nat} {x : Str} {e : Expr} {te : TE} {pos' : Pos} (hN : X.N.Nodup) (hi : X.N[i]? = some x) (hx : Loc X.env.scope x) (he : PE X e te) (hs : swapsWith e (some (.Name x pos')) pos.line X.env = pure false := by rfl) (hf : X.fn x = true ∨ X.env.scope.names.lookup x = some .local := by first | exact .inl rfl | exact .inr rfl | assumption) :
    PS X (.Assign [.Name x pos'] e pos) (tAsg te (gName i)) := by
  intro pins s σ H D I h
  refine wpAny_Assign_Name (thn (he pins s σ H _ I h) fun v s1 ⟨y, H1, I1, r1, q1⟩ => ?_) hs
  exact store_ok I1 hN hi hx r1 (fun s2 I2 => ⟨_, H1, I2, q1⟩) hf
def tPar (i j : Nat) (ta : TA) : TS := fun D σ H => ta σ H fun vs H1 => ∃ v w, vs = [v, w] ∧ D.nx ((σ.set i (some v)).set j (some w)) H1
theorem ps_par {i j : Nat} {x y : Str} {a b : Expr} {ta : TA} {px py pt : Pos} {kt k2 pt2} (hc : X.calm = true) (hN : X.N.Nodup) (hi : X.N[i]? = some x) (hj : X.N[j]? = some y) (hij : i ≠ j)
    (hx : X.env.scope.names.lookup x = some .local) (hy : X.env.scope.names.lookup y = some .local) (ha : PA X [a, b] ta)
    (hw : swappedStores [.Tuple [.Name x px, .Name y py] kt pt] (.Tuple [a, b] k2 pt2) X.env = pure (some [x, y]))
    (hs : swapsWithSole [.Tuple [.Name x px, .Name y py] kt pt] (.Tuple [a, b] k2 pt2) pos.line X.env = pure false := by rfl) :
    PS X (.Assign [.Tuple [.Name x px, .Name y py] kt pt] (.Tuple [a, b] k2 pt2) pos) (tPar i j ta) := by
  intro pins s σ H D I h
  rw [exec_Assign_arm]
  refine wpAny_bind (wpAny_standAt ?_)
  rw [hs]
  refine wpAny_bind (wpAny_pure ?_)
  rw [if_neg (by decide)]
  refine wpAny_bind (Tuple_ (thn (ha _ pins s σ H _ I h) fun us s1 ⟨vs, H1, I1, r1, q1⟩ => ?_))
  obtain ⟨v, w, e1, q1⟩ := q1
  subst e1
  obtain ⟨u1, u2, rfl, rv, rw'⟩ : ∃ u1 u2, us = [u1, u2] ∧ RelV v u1 ∧ RelV w u2 := by
    cases r1 with
    | cons p q =>
      cases q with
      | cons p' q' =>
        cases q'
        exact ⟨_, _, rfl, p, p'⟩
  refine wpAny_newObj_type ?_ (by show 2 ≤ sizeLine; decide)
  have I2 : Inv X pins σ H1 { s1 with heap := s1.heap.push { cls := .type "tuple", data := .seq [u1, u2].toArray } } := I1.kept (t' := s1.toks) fun b o e => Heap.get?_push_of_some _ e
  rw [hw]
  refine wpAny_bind (wpAny_pure ?_)
  show wpAny (model X.prog X.w) X.A (do rule "assign.swapped-stores"; let items ← unpackItems (.ref s1.heap.objs.size) 2 none; assignInOrder [fun v => bindName X.env y v, fun v => bindName X.env x v] items.reverse; pure Flow.next) _ _ _
  refine wpAny_bind (wpAny_rule (wpAny_bind (unpackItems_tuple (items := #[u1, u2]) (I.ok.hd hc) (IsTup.new s1.heap _) fun h' hx' => ?_)))
  have I3 := I2.kept (h' := h') (t' := s1.toks) fun b o e => hx' b o (Nat.ne_of_lt (Heap.lt_size e)) e
  show wpAny _ _ (assignInOrder [fun v => bindName X.env y v, fun v => bindName X.env x v] [u2, u1] >>= fun _ => pure Flow.next) _ _ _
  refine wpAny_bind (assignInOrder_cons (wpAny_bindName (store_ok I3 hN hj (.inl hy) rw' (fun s2 I4 => ?_) (.inr hy))))
  refine assignInOrder_cons (wpAny_bindName (store_ok I4 hN hi (.inl hx) rv (fun s3 I5 => assignInOrder_nil (wpAny_pure ?_)) (.inr hx)))
  rw [List.set_comm _ _ (Ne.symm hij)] at I5
  exact ⟨_, H1, I5, q1⟩
def tAug (i : Nat) (te : TE) (ti : TIp) : TS := fun D σ H => ∃ x, σ[i]? = some (some x) ∧ te σ H fun y H1 => ti x y H1 fun z H2 => D.nx (σ.set i (some z)) H2
theorem ps_aug {i : Nat} {x : Str} {e : Expr} {te : TE} {op : Operator} {ti : TIp} {pos' : Pos} (hN : X.N.Nodup) (hi : X.N[i]? = some x) (hx : Loc X.env.scope x) (he : PE X e te) (ho : PIp X op ti) (hf : X.fn x = true ∨ X.env.scope.names.lookup x = some .local := by first | exact .inl rfl | exact .inr rfl | assumption) :
    PS X (.AugAssign (.Name x pos') op e pos) (tAug i te ti) := by
  intro pins s σ H D I h
  obtain ⟨v, e1, h⟩ := h
  obtain ⟨m, hn, hl⟩ := I.loc
  have vis : Vis X.env.scope x := by rcases hx with k | k; exact .inl k; exact .inr (.inl k)
  obtain ⟨u, r, l⟩ := hl i x v hi e1 vis
  refine wpAny_AugAssign_Name ?_
  have go : wpAny (model X.prog X.w) X.A (eval e X.env) (fun w s₂ => wpAny (model X.prog X.w) X.A (inplaceOp op u w) (fun r s₃ => wpAny (model X.prog X.w) X.A (storeName X.env x r) (fun _ => SP X pins D .next) X.xe s₃) X.xe s₂) X.xe s := by
    refine thn (he pins s σ H _ I h) fun w s1 ⟨y, H1, I1, r1, q1⟩ => ?_
    refine thn (ho pins s1 σ H1 v y u w _ I1 r r1 q1) fun z s2 ⟨zv, H2, I2, r2, q2⟩ => ?_
    exact store_ok I2 hN hi hx r2 (fun s3 I3 => ⟨_, H2, I3, q2⟩) hf
  rcases l with ⟨hk, hm⟩ | ⟨hk, c, hc, hcell⟩
  · exact wpAny_loadName_local I.ok.kind hk hn hm go
  · rcases hk with hk | hk
    · exact wpAny_loadName_cell I.ok.kind hk hc hcell go
    · rcases hx with k | k
      · have : X.env.scope.names.lookup x = some .free := hk
        rw [k] at this; cases this
      · have : X.env.scope.names.lookup x = some .free := hk
        rw [k] at this; cases this
def ipI (f : Int → Int → Int) : TIp := fun x y H Q => ∃ i j, x = .int i ∧ y = .int j ∧ Q (.int (f i j)) H
theorem ip_add : PIp X .Add (ipI fun i j => i + j) := by
  intro pins s σ H x y v u Q I r1 r2 h
  obtain ⟨i, j, e1, e2, q⟩ := h
  subst e1; subst e2
  obtain ⟨t, rfl⟩ := r1
  obtain ⟨t', rfl⟩ := r2
  exact iadd_int ⟨.int _, H, I.tok _, ⟨_, rfl⟩, q⟩
end
section
variable {X : Cx} {pos : Pos}
def tWhile (c : TT) (tb : TS) : TS := fun D σ H => ∃ W : Nat → St → Hp → Prop, (∃ m, W m σ H) ∧ ∀ m σ H, W m σ H →
  c σ H fun b H1 => if b = true then ∃ N : St → Hp → Prop, (∀ σ' H', N σ' H' → ∃ m', m' < m ∧ W m' σ' H') ∧ tb { D with nx := N, ct := N, bk := D.nx } σ H1 else D.nx σ H1
theorem ps_while {c : Expr} {body : List Stmt} {tc : TT} {tb : TS} (hp : PassesOwn (model X.prog X.w) X.A X.env X.xe) (hc : PT X c tc) (hb : PSs X body tb) : PS X (.While c body [] pos) (tWhile tc tb) := by
  intro pins s σ H D I h
  obtain ⟨W, ⟨m0, w0⟩, turn⟩ := h
  refine wpAny_While (codeAny_whileLoop (fun n s' => ∃ σ' H', Inv X pins σ' H' s' ∧ W n σ' H') ?_ m0 ⟨σ, H, I, w0⟩)
  rintro n s1 ⟨σ1, H1, I1, w1⟩
  refine wpAny_passesOwn hp (thn (hc pins s1 σ1 H1 _ I1 (turn n σ1 H1 w1)) fun b s2 ⟨H2, I2, q2⟩ => ?_)
  cases b with
  | true =>
    obtain ⟨N, hN, q2⟩ := q2
    rw [if_pos rfl]
    refine wpAny_passesOwn hp (thn (hb pins s2 σ1 H2 _ I2 q2) fun f s3 q3 => ?_)
    cases f with
    | next =>
      obtain ⟨σ3, H3, I3, n3⟩ := q3
      obtain ⟨m', hm, w3⟩ := hN σ3 H3 n3
      exact ⟨m', hm, σ3, H3, I3, w3⟩
    | cont =>
      obtain ⟨σ3, H3, I3, n3⟩ := q3
      obtain ⟨m', hm, w3⟩ := hN σ3 H3 n3
      exact ⟨m', hm, σ3, H3, I3, w3⟩
    | brk => exact q3
    | ret v => exact q3
  | false =>
    rw [if_neg Bool.false_ne_true]
    exact wpAny_execs_nil ⟨σ1, H2, I2, q2⟩
end
structure It where
  go : Nat → Hp → Prop
  yld : Nat → Hp → V → Hp → Prop
  stop : Nat → Hp → Prop
def FpOk (X : Cx) (pins : List (Addr × Obj)) (H : Hp) (b : Addr) : Prop :=
  H b = none ∧ b ≠ X.env.locals ∧ b ∉ X.fs ∧ (b ∈ X.ex ∨ X.s₀.heap.objs.size ≤ b) ∧ (∀ x c, X.env.cells.lookup x = some c → c ≠ b) ∧ ∀ p ∈ X.pn ++ pins, p.1 ≠ b
theorem Inv.fpOk {X : Cx} {pins : List (Addr × Obj)} {σ : St} {H H' : Hp} {s : Shared} {b : Addr} (I : Inv X pins σ H s) (hb : s.heap.objs.size ≤ b) (hn : H' b = none) : FpOk X pins H' b := by
  refine ⟨hn, Nat.ne_of_gt (Nat.lt_of_lt_of_le I.lt hb), I.nofs hb, .inr (Nat.le_trans I.sz hb), fun x c e z => ?_, fun p hp z => ?_⟩
  · obtain ⟨v, q⟩ := I.cell x c e
    exact absurd (Nat.lt_of_lt_of_le q.lt (by rw [z]; exact hb)) (Nat.lt_irrefl _)
  · exact absurd (Nat.lt_of_lt_of_le (Heap.lt_size (I.pin p hp).1) (by rw [z]; exact hb)) (Nat.lt_irrefl _)
structure Turn (P : Program) (w : World) (K : PySem.W.Frag) (tg : Expr) (J : It) (fp : List Addr) (it : Addr) (tn : Nat → Heap → Prop) : Prop where
  mem : it ∈ fp
  obj : ∀ i h, tn i h → ∀ b ∈ fp, ∃ o, h.get? b = some o ∧ ∀ v, o.data ≠ .cell v
  keep : ∀ i h h', tn i h → (∀ b ∈ fp, ∀ o, h.get? b = some o → h'.get? b = some o) → tn i h'
  item : ∀ (X : Cx), X.prog = P → X.w = w → X.K = K → X.calm = true → ∀ (i : Nat) (pins : List (Addr × Obj)) (s : Shared) (σ : St) (H : Hp) (E : Value → Shared → Prop), Inv X pins σ H s → (∀ b ∈ fp, FpOk X pins H b) → tn i s.heap → J.go i H →
    wpAny (model P w) X.A (pyNext (.ref it)) (fun r s1 => ∃ u, r = some u ∧
      wpAny (model P w) X.A (letOwnedTupleGo tg (.ref it) u) (fun _ s2 => ∃ x H', Inv X pins σ H' s2 ∧ RelV x u ∧ J.yld i H x H' ∧ tn (i + 1) s2.heap ∧ ∀ b ∈ fp, H' b = none) E s1) E s
  done : ∀ (X : Cx), X.prog = P → X.w = w → X.K = K → X.calm = true → ∀ (i : Nat) (pins : List (Addr × Obj)) (s : Shared) (σ : St) (H : Hp) (E : Value → Shared → Prop), Inv X pins σ H s → (∀ b ∈ fp, FpOk X pins H b) → tn i s.heap → J.stop i H →
    wpAny (model P w) X.A (pyNext (.ref it)) (fun r s1 => r = none ∧ Inv X pins σ H s1) E s
  self : ∀ (A : Around) (i : Nat) (s : Shared) (Q : Value → Shared → Prop) (E : Value → Shared → Prop), tn i s.heap → Q (.ref it) s → wpAny (model P w) A (pyIter (.ref it)) Q E s
abbrev TI := St → Hp → (It → Hp → Prop) → Prop
def PIE (X : Cx) (pins : List (Addr × Obj)) (σ : St) (tg : Expr) (R : It → Hp → Prop) (itv : Value) (s2 : Shared) : Prop :=
  ∃ (it : Addr) (fp : List Addr) (tn : Nat → Heap → Prop) (J : It) (H' : Hp), itv = .ref it ∧ Inv X pins σ H' s2 ∧ Turn X.prog X.w X.K tg J fp it tn ∧ tn 0 s2.heap ∧ (∀ b ∈ fp, FpOk X pins H' b) ∧ R J H'
def PI (X : Cx) (tg iter : Expr) (wi : TI) : Prop :=
  ∀ (pins : List (Addr × Obj)) (s : Shared) (σ : St) (H : Hp) (R : It → Hp → Prop), Inv X pins σ H s → wi σ H R →
    wpAny (model X.prog X.w) X.A (eval iter X.env) (fun v s1 => wpAny (model X.prog X.w) X.A (pyIter v) (PIE X pins σ tg R) X.xe s1) X.xe s
theorem go_of {M : Model} {A : Around} {E : Value → Shared → Prop} {s : Shared} {tg : Expr} {it : Addr} {u : Value} {o : Obj} {n : String} {vs : Array Value} {Q : Unit → Shared → Prop} (ho : s.heap.get? it = some o) (hc : o.cls = .type n) (hd : o.data = .fields vs)
    (hn : ["enumerate", "zip", "dict_itemiterator", "dict_reverseitemiterator", "odict_iterator", "itertools.zip_longest", "itertools.pairwise"].contains n = false) (hQ : Q () s) : wpAny M A (letOwnedTupleGo tg (.ref it) u) Q E s := by
  unfold letOwnedTupleGo
  cases tg <;> first
    | exact wpAny_pure hQ
    | (cases u <;> first
        | exact wpAny_pure hQ
        | (refine wpAny_bind (wpAny_load ho ?_)
           rw [hc, hd]
           show wpAny M A (if (["enumerate", "zip", "dict_itemiterator", "dict_reverseitemiterator", "odict_iterator", "itertools.zip_longest", "itertools.pairwise"].contains n && vs[0]? == some (rawInt _)) = true then _ else _) Q E s
           rw [if_neg (by intro h; rw [hn, Bool.false_and] at h; cases h)]
           exact wpAny_pure hQ))
def Itr (lo : Int) (n : Nat) : It := ⟨fun i _ => i < n, fun i H x H' => H' = H ∧ x = .int (lo + i), fun i _ => n ≤ i⟩
theorem turn_range {P : Program} {w : World} {K : PySem.W.Frag} {tg : Expr} (it : Addr) (lo : Int) (n : Nat) : Turn P w K tg (Itr lo n) [it] it (fun i h => IsRangeIter h it (lo + (i : Nat) * 1) ((n : Int) - (i : Nat)) 1) where
  mem := by simp
  obj := fun i h st b hb => by
    have e : b = it := by simpa using hb
    subst e
    exact ⟨_, st, fun v z => by
      have z' : Data.fields _ = Data.cell v := z
      cases z'⟩
  keep := fun i h h' st k => k it (by simp) _ st
  item := by
    intro X hP hw hK hc i pins s σ H E I hf st hg
    subst hP hw hK
    obtain ⟨f0, f1, f2, f3, f4, f5⟩ := hf it (by simp)
    have W := Walks.range (prog := X.prog) (w := X.w) (I.ok.hd hc) it lo 1 n
    refine W.item i s _ _ hg st fun v h' tk hv st' kk => ?_
    obtain ⟨t, rfl⟩ := hv
    have I1 : Inv X pins σ H { s with heap := h', toks := tk } := I.turned (fun b o hb e => kk b o (by simpa using hb) e) f0 f1 f3 f4 f5
    refine ⟨_, rfl, go_of (s := { s with heap := h', toks := tk }) (n := "range_iterator") st' rfl rfl (by decide) ⟨.int (lo + i), H, I1, ⟨t, ?_⟩, ⟨rfl, rfl⟩, st', fun b hb => (hf b hb).1⟩⟩
    rw [Int.mul_one]
  done := by
    intro X hP hw hK hc i pins s σ H E I hf st hg
    subst hP hw hK
    obtain ⟨f0, f1, f2, f3, f4, f5⟩ := hf it (by simp)
    exact wpAny_pyNext_range_end (I.ok.hd hc) st (by have : n ≤ i := hg; omega) fun h' eb => ⟨rfl, I.turned (t' := s.toks) (fun b o hb e => eb b o hb e) f0 f1 f3 f4 f5⟩
  self := fun _ _ _ _ _ st h => wpAny_pyIter_rangeiter st h
end L2
namespace L2
open PySem PySem.Spec PyProof.Rows
section
variable {X : Cx} {tg : Expr}
theorem range_it {pins : List (Addr × Obj)} {σ : St} {H : Hp} {s : Shared} {R : It → Hp → Prop} {E : Value → Shared → Prop} {lo hi : Int} {t u v : Tok} {tk : Nat} (I : Inv X pins σ H s) (h1 : -(2 ^ 62) ≤ lo) (h2 : lo < 2 ^ 62) (h3 : -(2 ^ 62) ≤ hi) (h4 : hi < 2 ^ 62)
    (q : R (Itr lo (hi - lo).toNat) H) : wpAny (model X.prog X.w) X.A (pyIter (.ref s.heap.objs.size)) (PIE X pins σ tg R) E { s with heap := s.heap.push { cls := .type "range", data := .fields #[.int lo t, .int hi u, .int 1 v] }, toks := tk } := by
  refine wpAny_pyIter_range (IsRange.new ..) (small_one h1 h2 h3 h4) ?_
  have I1 : Inv X pins σ H { s with heap := s.heap.push { cls := .type "range", data := .fields #[.int lo t, .int hi u, .int 1 v] }, toks := tk } := I.kept fun b o e => Heap.get?_push_of_some _ e
  refine ⟨(s.heap.push { cls := .type "range", data := .fields #[.int lo t, .int hi u, .int 1 v] }).objs.size, [(s.heap.push { cls := .type "range", data := .fields #[.int lo t, .int hi u, .int 1 v] }).objs.size], _, _, H, rfl,
    I1.kept (t' := tk) fun b o e => Heap.get?_push_of_some _ e, turn_range _ lo (hi - lo).toNat, ?_, fun b hb => ?_, q⟩
  · have e1 : lo + ((0 : Nat) : Int) * 1 = lo := by simp
    have e2 : (((hi - lo).toNat : Nat) : Int) - ((0 : Nat) : Int) = Builtin.Range.rangeSize lo hi 1 := by rw [rangeSize_one]; split <;> omega
    show IsRangeIter _ _ (lo + ((0 : Nat) : Int) * 1) ((((hi - lo).toNat : Nat) : Int) - ((0 : Nat) : Int)) 1
    rw [e1, e2]
    exact Heap.get?_push_size _ rfl
  · have e : b = (s.heap.push { cls := .type "range", data := .fields #[.int lo t, .int hi u, .int 1 v] }).objs.size := by simpa using hb
    subst e
    exact I1.fpOk (Nat.le_refl _) (I1.hok.fresh (Nat.le_refl _))
def iRng1 (ta : TA) : TI := fun σ H R => ta σ H fun vs H1 => ∃ j : Int, vs = [.int j] ∧ -(2 ^ 62) ≤ j ∧ j < 2 ^ 62 ∧ R (Itr 0 j.toNat) H1
theorem pi_range1 {a : Expr} {ta : TA} {p pos : Pos} (hg : Gl X "range") (hm : X.mg "range" = none) (ha : PA X [a] ta) (hs : starEach [a] X.env = [(false, eval a X.env)] := by rfl) : PI X tg (.Call (.Name "range" p) [a] [] pos) (iRng1 ta) := by
  intro pins s σ H R I h
  refine Call_ (ld_blt I hg hm boot_range (PyProof.Rows.callWith_type1 (thn (ha pos pins s σ H _ I h) fun us s1 ⟨vs, H1, I1, r1, q1⟩ => ?_) hs rfl))
  obtain ⟨j, e, q1, q2, q⟩ := q1
  subst e
  cases r1 with
  | cons r rr =>
    cases rr
    obtain ⟨t, rfl⟩ := r
    exact call_range_1 (range_it I1 (by omega) (by omega) q1 q2 (by simpa using q))
def tFor (wi : TI) (g : TG) (tb : TS) : TS := fun D σ H => wi σ H fun J H1 => ∃ W : Nat → Nat → St → Hp → Prop, (∃ m, W 0 m σ H1) ∧ ∀ i m σ H, W i m σ H →
  (J.stop i H ∧ D.nx σ H) ∨ (J.go i H ∧ ∃ N : St → Hp → Prop, (∀ σ' H', N σ' H' → ∃ m', m' < m ∧ W (i + 1) m' σ' H') ∧ ∀ x H', J.yld i H x H' → g x σ H' fun σ2 H2 => tb { D with nx := N, ct := N, bk := D.nx } σ2 H2)
def pinsAt (fp : List Addr) (h : Heap) : List (Addr × Obj) := fp.filterMap fun b => (h.get? b).map fun o => (b, o)
theorem mem_pinsAt {fp : List Addr} {h : Heap} {b : Addr} {o : Obj} (hb : b ∈ fp) (e : h.get? b = some o) : (b, o) ∈ pinsAt fp h := List.mem_filterMap.mpr ⟨b, hb, by rw [e]; rfl⟩
theorem of_pinsAt {fp : List Addr} {h : Heap} {p : Addr × Obj} (hp : p ∈ pinsAt fp h) : p.1 ∈ fp ∧ h.get? p.1 = some p.2 := by
  obtain ⟨b, hb, e⟩ := List.mem_filterMap.mp hp
  cases q : h.get? b with
  | none => rw [q] at e; cases e
  | some o =>
    rw [q] at e
    have e' : (b, o) = p := Option.some.inj e
    subst e'
    exact ⟨hb, q⟩
theorem Inv.pinned {pins : List (Addr × Obj)} {σ : St} {H : Hp} {s : Shared} {fp : List Addr} (I : Inv X pins σ H s) (hf : ∀ b ∈ fp, FpOk X pins H b) (ho : ∀ b ∈ fp, ∃ o, s.heap.get? b = some o ∧ ∀ v, o.data ≠ .cell v) : Inv X (pins ++ pinsAt fp s.heap) σ H s :=
  I.pins_of fun p hp => (List.mem_append.mp hp).elim (fun z => I.pin p (List.mem_append_right _ z)) fun z => by
    obtain ⟨hb, e⟩ := of_pinsAt z
    obtain ⟨f0, f1, f2, _⟩ := hf p.1 hb
    obtain ⟨o, e', d⟩ := ho p.1 hb
    rw [e] at e'; cases e'
    exact ⟨e, f0, f1, f2, d⟩
theorem Inv.unpinned {pins pl : List (Addr × Obj)} {σ : St} {H : Hp} {s : Shared} (I : Inv X (pins ++ pl) σ H s) : Inv X pins σ H s := I.pins_of fun p hp => I.pin p (List.mem_append_right _ (List.mem_append_left _ hp))
theorem ps_for {iter : Expr} {body : List Stmt} {wi : TI} {g : TG} {tb : TS} {pos : Pos} (hp : PassesOwn (model X.prog X.w) X.A X.env X.xe) (hc : X.calm = true) (hi : PI X tg iter wi) (hg : PG X tg g) (hb : PSs X body tb)
    (hs : ∀ x, foldedSetIterable iter X.env x = pure x := by intro _; rfl) : PS X (.For tg iter body [] pos) (tFor wi g tb) := by
  intro pins s σ H D I h
  refine wpAny_For (thn (hi pins s σ H _ I h) fun v s1 h1 => thn h1 fun itv s2 h2 => ?_) hs
  obtain ⟨it, fp, tn, J, H2, e, I2, T, st2, f2, W, ⟨m0, w0⟩, turn⟩ := h2
  subst e
  have stat : ∀ {H' : Hp}, (∀ b ∈ fp, H' b = none) → ∀ b ∈ fp, FpOk X pins H' b := fun hn b hb => ⟨hn b hb, (f2 b hb).2⟩
  refine codeAny_forLoop_any (fun n s' => ∃ i σ' H', Inv X pins σ' H' s' ∧ tn i s'.heap ∧ (∀ b ∈ fp, H' b = none) ∧ W i n σ' H') ?_ m0 ⟨0, σ, H2, I2, st2, fun b hb => (f2 b hb).1, w0⟩
  rintro n s3 ⟨i, σ3, H3, I3, st3, fr3, w3⟩
  rcases turn i n σ3 H3 w3 with ⟨stop, qn⟩ | ⟨go, N, hN, step⟩
  · refine wpAny_passesOwn hp (thn (T.done X rfl rfl rfl hc i pins s3 σ3 H3 X.xe I3 (stat fr3) st3 stop) fun r s4 ⟨hr, I4⟩ => ?_)
    subst hr
    exact wpAny_execs_nil ⟨σ3, H3, I4, qn⟩
  · refine wpAny_passesOwn hp (thn (T.item X rfl rfl rfl hc i pins s3 σ3 H3 X.xe I3 (stat fr3) st3 go) fun r s4 ⟨u, hr, h4⟩ => ?_)
    subst hr
    refine wpAny_passesOwn hp (thn h4 fun _ s5 ⟨x, H5, I5, r5, y5, st5, fr5⟩ => ?_)
    have I5' := I5.pinned (stat fr5) (T.obj _ _ st5)
    refine wpAny_passesOwn hp (thn (hg _ s5 σ3 H5 x u _ I5' r5 (step x H5 y5)) fun _ s6 ⟨σ6, H6, I6, q6⟩ => ?_)
    refine wpAny_passesOwn hp (thn (hb _ s6 σ6 H6 _ I6 q6) fun f s7 q7 => ?_)
    have again : ∀ {σ7 : St} {H7 : Hp}, Inv X (pins ++ pinsAt fp s5.heap) σ7 H7 s7 → N σ7 H7 → ∃ m, m < n ∧ ∃ i σ' H', Inv X pins σ' H' s7 ∧ tn i s7.heap ∧ (∀ b ∈ fp, H' b = none) ∧ W i m σ' H' := fun {σ7 H7} I7 n7 => by
      obtain ⟨m', hm, w7⟩ := hN σ7 H7 n7
      refine ⟨m', hm, i + 1, σ7, H7, I7.unpinned, T.keep _ _ _ st5 fun b hb o e => (I7.pin (b, o) (List.mem_append_right _ (List.mem_append_right _ (mem_pinsAt hb e)))).1, fun b hb => ?_, w7⟩
      obtain ⟨o, e, d⟩ := T.obj _ _ st5 b hb
      exact (I7.pin (b, o) (List.mem_append_right _ (List.mem_append_right _ (mem_pinsAt hb e)))).2.1
    cases f with
    | next => obtain ⟨σ7, H7, I7, n7⟩ := q7; exact again I7 n7
    | cont => obtain ⟨σ7, H7, I7, n7⟩ := q7; exact again I7 n7
    | brk => obtain ⟨σ7, H7, I7, q7⟩ := q7; exact ⟨σ7, H7, I7.unpinned, q7⟩
    | ret v => obtain ⟨x7, σ7, H7, I7, r7, q7⟩ := q7; exact ⟨x7, σ7, H7, I7.unpinned, r7, q7⟩
end
end L2
namespace L2
open PySem PySem.Spec PyProof.Rows
abbrev R2 := V → V → Hp → VK → Prop
def OpR (X : Cx) (f : Value → Value → Sem Value) (r : R2) : Prop :=
  ∀ (pins : List (Addr × Obj)) (s : Shared) (σ : St) (H : Hp) (x y : V) (v u : Value) (Q : VK), Inv X pins σ H s → RelV x v → RelV y u → r x y H Q →
    wpAny (model X.prog X.w) X.A (f v u) (EP X pins σ Q) X.xe s
def UnR (X : Cx) (f : Value → Sem Value) (r : V → Hp → VK → Prop) : Prop :=
  ∀ (pins : List (Addr × Obj)) (s : Shared) (σ : St) (H : Hp) (x : V) (v : Value) (Q : VK), Inv X pins σ H s → RelV x v → r x H Q →
    wpAny (model X.prog X.w) X.A (f v) (EP X pins σ Q) X.xe s
def CallR (X : Cx) (f : Value) (r : List V → Hp → VK → Prop) : Prop :=
  ∀ (pins : List (Addr × Obj)) (s : Shared) (σ : St) (H : Hp) (xs : List V) (us : List Value) (Q : VK), Inv X pins σ H s → Vals xs us → r xs H Q →
    wpAny (model X.prog X.w) X.A (call f us) (EP X pins σ Q) X.xe s
def tOp (r : R2) (ta tb : TE) : TE := fun σ H Q => ta σ H fun x H1 => tb σ H1 fun y H2 => r x y H2 Q
def tUn (r : V → Hp → VK → Prop) (ta : TE) : TE := fun σ H Q => ta σ H fun x H1 => r x H1 Q
def rI (C : Int → Int → Prop) (g : Int → Int → V) : R2 := fun x y H Q => ∃ i j, x = .int i ∧ y = .int j ∧ C i j ∧ Q (g i j) H
def rI0 (g : Int → Int → V) : R2 := fun x y H Q => ∃ i j, x = .int i ∧ y = .int j ∧ Q (g i j) H
def rU (g : Int → V) : V → Hp → VK → Prop := fun x H Q => ∃ i, x = .int i ∧ Q (g i) H
section
variable {X : Cx} {a b c : Expr} {ta tb tc : TE} {pos : Pos}
theorem binT (ha : PE X a ta) (hb : PE X b tb) {pins : List (Addr × Obj)} {s : Shared} {σ : St} {H : Hp} {R : V → V → Hp → Prop} (I : Inv X pins σ H s)
    (h : ta σ H fun x H1 => tb σ H1 fun y H2 => R x y H2) {Q : Value → Shared → Prop} {f : Value → Value → Sem Value}
    (hf : ∀ v u s2 x y H2, Inv X pins σ H2 s2 → RelV x v → RelV y u → R x y H2 → wpAny (model X.prog X.w) X.A (f v u) Q X.xe s2) :
    wpAny (model X.prog X.w) X.A (eval a X.env) (fun v s₁ => wpAny (model X.prog X.w) X.A (eval b X.env) (fun u s₂ => wpAny (model X.prog X.w) X.A (f v u) Q X.xe s₂) X.xe s₁) X.xe s := by
  refine thn (ha pins s σ H _ I h) fun v s1 ⟨x, H1, I1, r1, q1⟩ => ?_
  refine thn (hb pins s1 σ H1 _ I1 q1) fun u s2 ⟨y, H2, I2, r2, q2⟩ => ?_
  exact hf v u s2 x y H2 I2 r1 r2 q2
theorem pe_op {op : Operator} {r : R2} (ho : OpR X (binaryOp op) r) (ha : PE X a ta) (hb : PE X b tb) : PE X (.BinOp a op b pos) (tOp r ta tb) := by
  intro pins s σ H Q I h
  exact wpAny_BinOp (binT ha hb I h fun v u s2 x y H2 I2 rx ry q => ho pins s2 σ H2 x y v u Q I2 rx ry q)
theorem pe_un {op : UnaryOp} {r : V → Hp → VK → Prop} (ho : UnR X (unaryOp op) r) (ha : PE X a ta) : PE X (.UnaryOp op a pos) (tUn r ta) := by
  intro pins s σ H Q I h
  exact UnaryOp_ (thn (ha pins s σ H _ I h) fun v s1 ⟨x, H1, I1, r1, q1⟩ => ho pins s1 σ H1 x v Q I1 r1 q1)
theorem opI {f : Value → Value → Sem Value} {C : Int → Int → Prop} {g : Int → Int → Int}
    (rule : ∀ (i j : Int) (t u : Tok) (s : Shared) (Q : Value → Shared → Prop) (E : Value → Shared → Prop), C i j → Q (.int (g i j) s.toks) { s with toks := s.toks + 1 } → wpAny (model X.prog X.w) X.A (f (.int i t) (.int j u)) Q E s) :
    OpR X f (rI C fun i j => .int (g i j)) := by
  intro pins s σ H x y v u Q I rx ry h
  obtain ⟨i, j, rfl, rfl, hc, q⟩ := h
  obtain ⟨t, rfl⟩ := rx
  obtain ⟨t', rfl⟩ := ry
  exact rule i j t t' s _ _ hc ⟨.int (g i j), H, I.tok _, ⟨_, rfl⟩, q⟩
theorem opI0 {f : Value → Value → Sem Value} {g : Int → Int → Int}
    (rule : ∀ (i j : Int) (t u : Tok) (s : Shared) (Q : Value → Shared → Prop) (E : Value → Shared → Prop), Q (.int (g i j) s.toks) { s with toks := s.toks + 1 } → wpAny (model X.prog X.w) X.A (f (.int i t) (.int j u)) Q E s) :
    OpR X f (rI0 fun i j => .int (g i j)) := by
  intro pins s σ H x y v u Q I rx ry h
  obtain ⟨i, j, rfl, rfl, q⟩ := h
  obtain ⟨t, rfl⟩ := rx
  obtain ⟨t', rfl⟩ := ry
  exact rule i j t t' s _ _ ⟨.int (g i j), H, I.tok _, ⟨_, rfl⟩, q⟩
theorem opB0 {f : Value → Value → Sem Value} {g : Int → Int → Bool}
    (rule : ∀ (i j : Int) (t u : Tok) (s : Shared) (Q : Value → Shared → Prop) (E : Value → Shared → Prop), Q (.bool (g i j)) s → wpAny (model X.prog X.w) X.A (f (.int i t) (.int j u)) Q E s) :
    OpR X f (rI0 fun i j => .bl (g i j)) := by
  intro pins s σ H x y v u Q I rx ry h
  obtain ⟨i, j, rfl, rfl, q⟩ := h
  obtain ⟨t, rfl⟩ := rx
  obtain ⟨t', rfl⟩ := ry
  exact rule i j t t' s _ _ ⟨.bl (g i j), H, I, rfl, q⟩
def CPow (i j : Int) : Prop := 0 ≤ j ∧ j ≤ 1000000 ∧ i.natAbs < 2 ^ 64
def CMul (i j : Int) : Prop := (-(2 ^ 64) < i ∧ i < 2 ^ 64) ∨ (-(2 ^ 64) < j ∧ j < 2 ^ 64)
theorem CMul.ok {i j : Int} (h : CMul i j) : IntMulOk i j := by
  rcases h with ⟨h1, h2⟩ | ⟨h1, h2⟩
  · exact .of_left (intBits_le_64 h1 h2)
  · exact .of_right (intBits_le_64 h1 h2)
theorem op_add : OpR X (binaryOp .Add) (rI0 fun i j => .int (i + j)) := opI0 fun _ _ _ _ _ _ _ q => add_int q
theorem op_sub : OpR X (binaryOp .Sub) (rI0 fun i j => .int (i - j)) := opI0 fun _ _ _ _ _ _ _ q => sub_int q
theorem op_mul : OpR X (binaryOp .Mult) (rI CMul fun i j => .int (i * j)) := opI fun _ _ _ _ _ _ _ hc q => mul_int q hc.ok
theorem op_mod : OpR X (binaryOp .Mod) (rI (fun _ j => 0 < j) fun i j => .int (i % j)) := opI fun i j _ _ _ _ _ hc q => by
  have h1 : (0 : Int) < j := hc
  exact mod_int' (by omega) (by rw [Int.fmod_eq_emod_of_nonneg i (by omega)]; exact q)
theorem op_pow : OpR X (binaryOp .Pow) (rI CPow fun i j => .int (i ^ j.toNat)) := opI fun _ _ _ _ _ _ _ hc q => pow_int_small hc.1 hc.2.1 hc.2.2 q
theorem unI {f : Value → Sem Value} {g : Int → Int}
    (rule : ∀ (i : Int) (t : Tok) (s : Shared) (Q : Value → Shared → Prop) (E : Value → Shared → Prop), Q (.int (g i) s.toks) { s with toks := s.toks + 1 } → wpAny (model X.prog X.w) X.A (f (.int i t)) Q E s) :
    UnR X f (rU fun i => .int (g i)) := by
  intro pins s σ H x v Q I rx h
  obtain ⟨i, rfl, q⟩ := h
  obtain ⟨t, rfl⟩ := rx
  exact rule i t s _ _ ⟨.int (g i), H, I.tok _, ⟨_, rfl⟩, q⟩
theorem un_neg : UnR X (unaryOp .USub) (rU fun i => .int (-i)) := unI fun _ _ _ _ _ q => neg_int q
end
def scal : V → V → Bool
  | .non, .non => true | .non, .int _ => true | .int _, .non => true | .non, .bl _ => true | .bl _, .non => true | .non, .str _ => true | .str _, .non => true
  | .int _, .int _ => true | .bl _, .bl _ => true | .str _, .str _ => true | .byt _, .byt _ => true
  | .int _, .str _ => true | .str _, .int _ => true | .bl _, .str _ => true | .str _, .bl _ => true
  | _, _ => false
def rEq : R2 := fun x y H Q => scal x y = true ∧ Q (.bl (decide (x = y))) H
def rNe : R2 := fun x y H Q => scal x y = true ∧ Q (.bl (!decide (x = y))) H
theorem dec_int {i j : Int} : decide (V.int i = V.int j) = (i == j) := by
  rw [Bool.eq_iff_iff]
  simp
theorem dec_bl {i j : Bool} : decide (V.bl i = V.bl j) = (i == j) := by
  rw [Bool.eq_iff_iff]
  simp
theorem dec_str {i j : Str} : decide (V.str i = V.str j) = (i == j) := by
  rw [Bool.eq_iff_iff]
  simp
theorem dec_byt {i j : Array UInt8} : decide (V.byt i = V.byt j) = (i.toList == j.toList) := by
  rw [Bool.eq_iff_iff]
  cases i
  cases j
  simp
section
variable {X : Cx} {a b c : Expr} {ta tb tc : TE} {pos : Pos}
theorem fin_bl {pins : List (Addr × Obj)} {σ : St} {H : Hp} {s : Shared} {Q : VK} {k k' : Bool} (I : Inv X pins σ H s) (q : Q (.bl k) H) (e : k = k') : EP X pins σ Q (.bool k') s := by
  subst e
  exact ⟨.bl k, H, I, rfl, q⟩
theorem op_eq : OpR X (compareOp .Eq) rEq := by
  intro pins s σ H x y v u Q I rx ry h
  obtain ⟨hs, q⟩ := h
  cases x with
  | non =>
    cases rx
    cases y with
    | non => cases ry; exact PySem.EqNone.eq_none_none (fin_bl I q (by simp))
    | bl j => cases ry; exact PySem.EqNone.eq_none_bool (fin_bl I q (by simp))
    | int j => obtain ⟨t', rfl⟩ := ry; exact PySem.EqNone.eq_none_int (fin_bl I q (by simp))
    | str j => obtain ⟨t', rfl⟩ := ry; exact PySem.EqNone.eq_none_str (fin_bl I q (by simp))
    | _ => exact absurd (show false = true from hs) Bool.false_ne_true
  | bl i =>
    cases rx
    cases y with
    | non => cases ry; exact PySem.EqNone.eq_bool_none (fin_bl I q (by simp))
    | bl j => cases ry; exact eq_bool (fin_bl I q dec_bl)
    | str j => obtain ⟨t', rfl⟩ := ry; exact PySem.EqMixed.eq_bool_str (fin_bl I q (by simp))
    | _ => exact absurd (show false = true from hs) Bool.false_ne_true
  | int i =>
    obtain ⟨t, rfl⟩ := rx
    cases y with
    | non => cases ry; exact PySem.EqNone.eq_int_none (fin_bl I q (by simp))
    | int j => obtain ⟨t', rfl⟩ := ry; exact eq_int (fin_bl I q dec_int)
    | str j => obtain ⟨t', rfl⟩ := ry; exact PySem.EqMixed.eq_int_str (fin_bl I q (by simp))
    | _ => exact absurd (show false = true from hs) Bool.false_ne_true
  | str i =>
    obtain ⟨t, rfl⟩ := rx
    cases y with
    | non => cases ry; exact PySem.EqNone.eq_str_none (fin_bl I q (by simp))
    | bl j => cases ry; exact PySem.EqMixed.eq_str_bool (fin_bl I q (by simp))
    | int j => obtain ⟨t', rfl⟩ := ry; exact PySem.EqMixed.eq_str_int (fin_bl I q (by simp))
    | str j => obtain ⟨t', rfl⟩ := ry; exact eq_str (fin_bl I q dec_str)
    | _ => exact absurd (show false = true from hs) Bool.false_ne_true
  | byt i =>
    obtain ⟨t, rfl⟩ := rx
    cases y with
    | byt j => obtain ⟨t', rfl⟩ := ry; exact PySem.W.eq_bytes (fin_bl I q dec_byt)
    | _ => exact absurd (show false = true from hs) Bool.false_ne_true
  | _ => cases y <;> exact absurd (show false = true from hs) Bool.false_ne_true
theorem op_ne : OpR X (compareOp .NotEq) rNe := by
  intro pins s σ H x y v u Q I rx ry h
  obtain ⟨hs, q⟩ := h
  cases x with
  | non =>
    cases rx
    cases y with
    | non => cases ry; exact PySem.EqNone.ne_none_none (fin_bl I q (by simp))
    | bl j => cases ry; exact PySem.EqNone.ne_none_bool (fin_bl I q (by simp))
    | int j => obtain ⟨t', rfl⟩ := ry; exact PySem.EqNone.ne_none_int (fin_bl I q (by simp))
    | str j => obtain ⟨t', rfl⟩ := ry; exact PySem.EqNone.ne_none_str (fin_bl I q (by simp))
    | _ => exact absurd (show false = true from hs) Bool.false_ne_true
  | bl i =>
    cases rx
    cases y with
    | non => cases ry; exact PySem.EqNone.ne_bool_none (fin_bl I q (by simp))
    | bl j => cases ry; exact ne_bool (fin_bl I q (congrArg not dec_bl))
    | str j => obtain ⟨t', rfl⟩ := ry; exact PySem.EqMixed.ne_bool_str (fin_bl I q (by simp))
    | _ => exact absurd (show false = true from hs) Bool.false_ne_true
  | int i =>
    obtain ⟨t, rfl⟩ := rx
    cases y with
    | non => cases ry; exact PySem.EqNone.ne_int_none (fin_bl I q (by simp))
    | int j => obtain ⟨t', rfl⟩ := ry; exact ne_int (fin_bl I q (congrArg not dec_int))
    | str j => obtain ⟨t', rfl⟩ := ry; exact PySem.EqMixed.ne_int_str (fin_bl I q (by simp))
    | _ => exact absurd (show false = true from hs) Bool.false_ne_true
  | str i =>
    obtain ⟨t, rfl⟩ := rx
    cases y with
    | non => cases ry; exact PySem.EqNone.ne_str_none (fin_bl I q (by simp))
    | bl j => cases ry; exact PySem.EqMixed.ne_str_bool (fin_bl I q (by simp))
    | int j => obtain ⟨t', rfl⟩ := ry; exact PySem.EqMixed.ne_str_int (fin_bl I q (by simp))
    | str j => obtain ⟨t', rfl⟩ := ry; exact ne_str (fin_bl I q (congrArg not dec_str))
    | _ => exact absurd (show false = true from hs) Bool.false_ne_true
  | byt i =>
    obtain ⟨t, rfl⟩ := rx
    cases y with
    | byt j => obtain ⟨t', rfl⟩ := ry; exact PySem.W.ne_bytes (fin_bl I q (congrArg not dec_byt))
    | _ => exact absurd (show false = true from hs) Bool.false_ne_true
  | _ => cases y <;> exact absurd (show false = true from hs) Bool.false_ne_true
theorem op_lt : OpR X (compareOp .Lt) (rI0 fun i j => .bl (decide (i < j))) := opB0 fun _ _ _ _ _ _ _ q => lt_int q
theorem op_le : OpR X (compareOp .LtE) (rI0 fun i j => .bl (decide (i ≤ j))) := opB0 fun _ _ _ _ _ _ _ q => le_int q
theorem op_lt_str : OpR X (compareOp .Lt) (fun x y H Q => ∃ i j, x = .str i ∧ y = .str j ∧ Q (.bl (decide (i.cps.toList < j.cps.toList))) H) := by
  intro pins s σ H x y v u Q I rx ry h
  obtain ⟨i, j, rfl, rfl, q⟩ := h
  obtain ⟨t, rfl⟩ := rx
  obtain ⟨t', rfl⟩ := ry
  exact lt_str (fin_bl I q rfl)
theorem op_isN : OpR X (compareOp .Is) (fun x y H Q => y = .non ∧ Q (.bl (decide (x = .non))) H) := by
  intro pins s σ H x y v u Q I rx ry h
  obtain ⟨rfl, q⟩ := h
  cases ry
  refine is_none_gen (fin_bl I q ?_)
  cases x <;> first
    | (cases rx; rfl)
    | (obtain ⟨t, rfl⟩ := rx; rfl)
theorem op_notN : OpR X (compareOp .IsNot) (fun x y H Q => y = .non ∧ Q (.bl (!decide (x = .non))) H) := by
  intro pins s σ H x y v u Q I rx ry h
  obtain ⟨rfl, q⟩ := h
  cases ry
  refine isnot_none_gen (fin_bl I q ?_)
  cases x <;> first
    | (cases rx; rfl)
    | (obtain ⟨t, rfl⟩ := rx; rfl)
theorem OpR.or {f : Value → Value → Sem Value} {r r' : R2} (h : OpR X f r) (h' : OpR X f r') : OpR X f (fun x y H Q => r x y H Q ∨ r' x y H Q) := by
  intro pins s σ H x y v u Q I rx ry q
  rcases q with q | q
  · exact h pins s σ H x y v u Q I rx ry q
  · exact h' pins s σ H x y v u Q I rx ry q
theorem nomark (b : Expr) {op : CmpOp} (h : op ≠ .In := by decide) (h2 : op ≠ .NotIn := by decide) : behindInMarks op b = false := by
  have e1 : (op == CmpOp.In) = false := by cases op <;> first | rfl | exact absurd rfl h
  have e2 : (op == CmpOp.NotIn) = false := by cases op <;> first | rfl | exact absurd rfl h2
  cases b <;> simp [behindInMarks, e1, e2]
theorem pe_cmpR {op : CmpOp} {r : R2} (ho : OpR X (compareOp op) r) (ha : PE X a ta) (hb : PE X b tb) (hm : behindInMarks op b = false) : PE X (.Compare a [op] [b] pos) (tOp r ta tb) := by
  intro pins s σ H Q I h
  exact wpAny_Compare1 (binT ha hb I h fun v u s2 x y H2 I2 rx ry q => ho pins s2 σ H2 x y v u Q I2 rx ry q) hm
def tTest (t : TE) : TT := fun σ H Q => t σ H fun x H' => ∃ k, x = .bl k ∧ Q k H'
theorem pt_cmpR {op : CmpOp} {r : R2} (ho : OpR X (compareOp op) r) (ha : PE X a ta) (hb : PE X b tb) (hm : behindInMarks op b = false) : PT X (.Compare a [op] [b] pos) (tTest (tOp r ta tb)) := by
  intro pins s σ H Q I h
  refine wpAny_isTrue_Compare1 (thn (ha pins s σ H _ I h) fun v s1 ⟨x, H1, I1, r1, q1⟩ => thn (hb pins s1 σ H1 _ I1 q1) fun u s2 ⟨y, H2, I2, r2, q2⟩ =>
    thn (ho pins s2 σ H2 x y v u _ I2 r1 r2 q2) fun c s3 ⟨z, H3, I3, r3, k, e, q3⟩ => ?_) hm
  subst e
  cases r3
  exact wpAny_truthy_bool ⟨H3, I3, q3⟩
def tChain (r r' : R2) (ta tb tc : TE) : TE := fun σ H Q => ta σ H fun x H1 => tb σ H1 fun y H2 => r x y H2 fun z H3 => ∃ k, z = .bl k ∧
  (if k = true then tc σ H3 fun w' H4 => r' y w' H4 Q else Q (.bl false) H3)
theorem pe_chain {op op' : CmpOp} {r r' : R2} (ho : OpR X (compareOp op) r) (ho' : OpR X (compareOp op') r') (ha : PE X a ta) (hb : PE X b tb) (hc : PE X c tc)
    (hm : lastMarks [op, op'] [b, c] = false := by with_unfolding_all rfl) : PE X (.Compare a [op, op'] [b, c] pos) (tChain r r' ta tb tc) := by
  intro pins s σ H Q I h
  refine Compare_chain (thn (ha pins s σ H _ I h) fun v s1 ⟨x, H1, I1, r1, q1⟩ => chain_link (thn (hb pins s1 σ H1 _ I1 q1) fun u s2 ⟨y, H2, I2, r2, q2⟩ =>
    thn (ho pins s2 σ H2 x y v u _ I2 r1 r2 q2) fun d s3 ⟨z, H3, I3, r3, k, e, q3⟩ => ?_)) hm
  subst e
  cases r3
  refine wpAny_truthy_bool ?_
  cases k with
  | false => exact ite_ff ⟨.bl false, H3, I3, rfl, q3⟩
  | true => exact ite_tt (chain_last (thn (hc pins s3 σ H3 _ I3 q3) fun w' s4 ⟨z', H4, I4, r4, q4⟩ => ho' pins s4 σ H4 y z' u w' Q I4 r2 r4 q4))
theorem pt_chain {op op' : CmpOp} {r r' : R2} (ho : OpR X (compareOp op) r) (ho' : OpR X (compareOp op') r') (ha : PE X a ta) (hb : PE X b tb) (hc : PE X c tc)
    (hm : lastMarks [op, op'] [b, c] = false := by with_unfolding_all rfl) : PT X (.Compare a [op, op'] [b, c] pos) (tTest (tChain r r' ta tb tc)) := by
  intro pins s σ H Q I h
  refine isTrue_chain (thn (ha pins s σ H _ I h) fun v s1 ⟨x, H1, I1, r1, q1⟩ => test_link (thn (hb pins s1 σ H1 _ I1 q1) fun u s2 ⟨y, H2, I2, r2, q2⟩ =>
    thn (ho pins s2 σ H2 x y v u _ I2 r1 r2 q2) fun d s3 ⟨z, H3, I3, r3, k, e, q3⟩ => ?_)) hm
  subst e
  cases r3
  refine wpAny_truthy_bool ?_
  cases k with
  | false =>
    obtain ⟨k', e', q'⟩ := q3
    cases e'
    exact ite_ff ⟨H3, I3, q'⟩
  | true =>
    refine ite_tt (test_last (thn (hc pins s3 σ H3 _ I3 q3) fun w' s4 ⟨z', H4, I4, r4, q4⟩ => thn (ho' pins s4 σ H4 y z' u w' _ I4 r2 r4 q4) fun d' s5 ⟨z2, H5, I5, r5, k2, e2, q5⟩ => ?_))
    subst e2
    cases r5
    exact wpAny_truthy_bool ⟨H5, I5, q5⟩
theorem isEmpty_kv {κ : Type} {kvs : List (κ × V)} {vs : List (κ × Value)} (r : KV kvs vs) : (!vs.isEmpty) = !kvs.isEmpty := by
  cases r <;> rfl
theorem isEmpty_of {xs : List V} {its : List Value} (r : Vals xs its) : (!its.toArray.isEmpty) = !xs.isEmpty := by
  cases r <;> simp
theorem line63 : (sizeLine : Nat) < 2 ^ 63 := by rw [sizeLine_eq]; decide
theorem op_add_str : OpR X (binaryOp .Add) (fun x y H Q => ∃ i j, x = .str i ∧ y = .str j ∧ i.length + j.length ≤ sizeLine ∧ Q (.str (i ++ j)) H) := by
  intro pins s σ H x y v u Q I rx ry h
  obtain ⟨i, j, rfl, rfl, hz, q⟩ := h
  obtain ⟨t, rfl⟩ := rx
  obtain ⟨t', rfl⟩ := ry
  exact add_str (fun t' tk => ⟨.str (i ++ j), H, I.tok _, ⟨_, rfl⟩, q⟩) hz
theorem vals1 {x : V} {us : List Value} (r : Vals [x] us) : ∃ u, us = [u] ∧ RelV x u := by
  cases r with
  | cons r1 r2 => cases r2; exact ⟨_, rfl, r1⟩
theorem vals2 {x y : V} {us : List Value} (r : Vals [x, y] us) : ∃ u w', us = [u, w'] ∧ RelV x u ∧ RelV y w' := by
  cases r with
  | cons r1 r2 =>
    cases r2 with
    | cons r3 r4 => cases r4; exact ⟨_, _, rfl, r1, r3⟩
theorem call_int1 : CallR X (.type "int") (fun xs H Q => (∃ i, xs = [.int i] ∧ Q (.int i) H) ∨ ∃ k, xs = [.bl k] ∧ Q (.int (if k then 1 else 0)) H) := by
  intro pins s σ H xs us Q I r h
  rcases h with ⟨i, rfl, q⟩ | ⟨k, rfl, q⟩
  · obtain ⟨u, rfl, t, rfl⟩ := vals1 r
    exact call_int_int ⟨.int i, H, I, ⟨_, rfl⟩, q⟩
  · obtain ⟨u, rfl, r1⟩ := vals1 r
    cases r1
    exact call_int_bool ⟨.int (if k then 1 else 0), H, I.tok _, ⟨_, rfl⟩, q⟩
end
end L2
namespace L2
open PySem PySem.Spec PyProof.Rows
structure ObjM (h : Heap) (x dx C : Addr) (mA : Str → Option Value) : Prop where
  obj : h.get? x = some (PySem.W.instObj C dx)
  ns : h.Ns1 dx mA
  ne : dx ≠ x
theorem lookIn_ns {h : Heap} {dx : Addr} {mA : Str → Option Value} (n : h.Ns1 dx mA) : ∃ od, h.get? dx = some od ∧ ∀ name, PySem.W.lookIn name od = some (mA name) := by
  obtain ⟨o, es, ep, ho, hd, hk, _, hm⟩ := n
  refine ⟨o, ho, fun name => ?_⟩
  have e := hm name
  unfold nsFind findBy at e
  rw [← Array.find?_toList] at e
  unfold PySem.W.lookIn
  rw [hd]
  dsimp only
  split
  · rename_i y q
    rw [q] at e
    exact congrArg some e
  · rename_i q
    rw [q] at e
    have a : es.toList.any (·.refKey) = false := by
      rw [List.any_eq_false]
      intro y hy
      obtain ⟨z, t, hkey⟩ := hk y (Array.mem_toList_iff.mp hy)
      simp [DictEntry.refKey, hkey]
    have a' : ¬ es.toList.any (·.refKey) = true := by rw [a]; exact Bool.false_ne_true
    rw [if_neg a']
    exact congrArg some e
theorem ObjM.look {h : Heap} {x dx C : Addr} {mA : Str → Option Value} (I : ObjM h x dx C mA) : ∃ od, PySem.W.InstAt h x (PySem.W.instObj C dx) C (some od) ∧ ∀ name, PySem.W.lookIn name od = some (mA name) :=
  let ⟨od, ho, hl⟩ := lookIn_ns I.ns
  ⟨od, ⟨I.obj, rfl, rfl, ho⟩, hl⟩
section
variable {prog : Program} {w : World} {A : Around} {E : Value → Shared → Prop} {s : Shared} {K : PySem.W.Frag} {x dx C f : Addr} {mA : Str → Option Value} {name : Str} {v : Value}
end
theorem RelO.some_of {v : V} {o : Option Value} (r : RelO (some v) o) : ∃ u, o = some u ∧ RelV v u := by
  cases o with
  | none => exact (show False from r).elim
  | some u => exact ⟨u, rfl, r⟩
section
variable {P : Program} {w : World} {H H' : Hp} {h h' : Heap} {a C dx : Addr} {fs fs' : List (Str × V)}
theorem ins_get (hok : HOk P w H h) (e : H a = some (.ins C dx fs)) : ∃ mA, ObjM h a dx C mA ∧ (∀ f, RelO (fs.lookup f) (mA f)) ∧ PySem.Within mA (fs.map (·.1)) ∧ fs.length ≤ 1000 ∧ H dx = some (.own a) := by
  obtain ⟨d, z, ne, ob, mA, n, r, q⟩ := (show ObjOk P w H h a (.ins C dx fs) from hok a _ e)
  exact ⟨mA, ⟨ob, n, ne⟩, r, q, z, d⟩
end
structure Cls (K : PySem.W.Frag) (C : Addr) : Prop where
  pg : PySem.W.plainGet K C Str.empty = true
  hd : PySem.W.hasDictIn K C = true
  po : PySem.W.plainOver K C = true
  sa : PySem.W.findIn K (.ref C) "__setattr__" = some (some (.builtin "object.__setattr__"))
theorem Cls.get {K : PySem.W.Frag} {C : Addr} (c : Cls K C) (f : Str) : PySem.W.plainGet K C f = true := c.pg
section
variable {X : Cx} {pins : List (Addr × Obj)} {σ : St} {H : Hp} {s : Shared} {a C dx : Addr} {fs : List (Str × V)} {f : Str} {v : V} {A : Around} {E : Value → Shared → Prop}
end
section
variable {X : Cx} {o e value : Expr} {f : Str} {pos pos' tpos : Pos} {ta tv : TE}
end
section
variable {X : Cx} {pins : List (Addr × Obj)} {σ : St} {H : Hp} {s : Shared} {A : Around} {E : Value → Shared → Prop} {Q : Value → Shared → Prop} {c : Value} {b : Bool}
inductive TyOf (K : PySem.W.Frag) (H : Hp) : V → Value → Prop where
  | non : TyOf K H .non (.type "NoneType")
  | bl (x : Bool) : TyOf K H (.bl x) (.type "bool")
  | int (i : Int) : TyOf K H (.int i) (.type "int")
  | str (x : Str) : TyOf K H (.str x) (.type "str")
  | flt (x : UInt64) : TyOf K H (.flt x) (.type "float")
  | lst {a : Addr} {xs : List V} (e : H a = some (.lst xs)) : TyOf K H (.ref a) (.type "list")
  | frz {a : Addr} {o : Obj} {xs : List V} (e : H a = some (.frz o (.lst xs))) : TyOf K H (.ref a) (.type "list")
  | tup {a : Addr} {xs : List V} (e : H a = some (.tup xs)) : TyOf K H (.ref a) (.type "tuple")
  | dK {a : Addr} {kvs : List (Key × V)} (e : H a = some (.dK kvs)) : TyOf K H (.ref a) (.type "dict")
  | dT {a : Addr} {kvs : List (List Key × V)} (e : H a = some (.dT kvs)) : TyOf K H (.ref a) (.type "dict")
  | ins {a C dx : Addr} {fs : List (Str × V)} (e : H a = some (.ins C dx fs)) (cl : Cls K C) (ha : PySem.W.findIn K (.ref C) "__class__" = some (some (.builtin "object.__class__")))
      (hn : PySem.W.specialIn K (.builtin "object.__class__") "__get__" = some (some (.builtin "getset_descriptor.__get__"))) (htk : PySem.W.takesIn K (.builtin "object.__class__") = some true)
      (hm : PySem.W.mroIn K C (.type "object") = some true) : TyOf K H (.ref a) (.ref C)
theorem isinst_ok {x : V} {u t : Value} (I : Inv X pins σ H s) (rx : RelV x u) (ty : TyOf X.K H x t) (e : PySem.W.kitOne X.K t c = some b) (h : ∀ tk, Q (.bool b) { s with toks := tk }) :
    wpAny (model X.prog X.w) A (call (.builtin "isinstance") [u, c]) Q E s := by
  cases ty with
  | non => cases (show u = Value.none from rx); exact PySem.W.kia_one PySem.W.kitx_none I.kIn True.intro e (fun z => nomatch z) h
  | bl y => cases (show u = Value.bool y from rx); exact PySem.W.kia_one PySem.W.kitx_bool I.kIn True.intro e (fun z => nomatch z) h
  | int i => obtain ⟨t, q⟩ := (show ∃ t, u = Value.int i t from rx); cases q; exact PySem.W.kia_one PySem.W.kitx_int I.kIn True.intro e (fun z => nomatch z) h
  | str y => obtain ⟨t, q⟩ := (show ∃ t, u = Value.str y t from rx); cases q; exact PySem.W.kia_one PySem.W.kitx_str I.kIn True.intro e (fun z => nomatch z) h
  | flt y => obtain ⟨t, q⟩ := (show ∃ t, u = Value.float y t from rx); cases q; exact PySem.W.kia_one PySem.W.kitx_float I.kIn True.intro e (fun z => nomatch z) h
  | @lst a xs ea =>
    cases (show u = Value.ref a from rx)
    obtain ⟨_, _, n, _, h1⟩ := (show ObjOk X.prog X.w H s.heap a (.lst xs) from I.hok a _ ea)
    exact PySem.W.kia_one PySem.W.kitx_list I.kIn ⟨_, h1, rfl⟩ e (fun z => nomatch z) h
  | @frz a ob xs ea =>
    cases (show u = Value.ref a from rx)
    obtain ⟨_, _, _, n, _, h1⟩ := (show ObjOk X.prog X.w H s.heap a (.frz ob (.lst xs)) from I.hok a _ ea)
    exact PySem.W.kia_one PySem.W.kitx_list I.kIn ⟨_, h1, rfl⟩ e (fun z => nomatch z) h
  | @tup a xs ea =>
    cases (show u = Value.ref a from rx)
    obtain ⟨_, _, _, p⟩ := (show ObjOk X.prog X.w H s.heap a (.tup xs) from I.hok a _ ea)
    obtain ⟨o, h1, h2, _⟩ := p.is
    exact PySem.W.kia_one PySem.W.kitx_tuple I.kIn ⟨o, h1, h2⟩ e (fun z => nomatch z) h
  | @dK a kvs ea =>
    cases (show u = Value.ref a from rx)
    obtain ⟨_, _, vs, _, p⟩ := (show ObjOk X.prog X.w H s.heap a (.dK kvs) from I.hok a _ ea)
    obtain ⟨o, es, ep, h1, h2, _⟩ := p
    exact PySem.W.kia_one PySem.W.kitx_dict I.kIn ⟨o, h1, h2.1⟩ e (fun z => nomatch z) h
  | @dT a kvs ea =>
    cases (show u = Value.ref a from rx)
    obtain ⟨_, _, xs, _, o, es, ep, h1, h2, _⟩ := (show ObjOk X.prog X.w H s.heap a (.dT kvs) from I.hok a _ ea)
    exact PySem.W.kia_one PySem.W.kitx_dict I.kIn ⟨o, h1, h2.1⟩ e (fun z => nomatch z) h
  | @ins a C dx fs ea cl ha hn htk hm =>
    cases (show u = Value.ref a from rx)
    obtain ⟨mA, O, _⟩ := ins_get I.hok ea
    obtain ⟨od, J, _⟩ := O.look
    exact PySem.W.kia_one (PySem.W.kitx_own (cl.get _) cl.hd ha hn htk hm) I.kIn J e (fun z => nomatch z) h
end
end L2
namespace L2
open PySem PySem.Spec PyProof.Rows
structure Room (k : Nat) (A : Around) : Prop where
  hd : A.handled = none
  dp : A.depth + 3 * k + 5 < recursionLimit
  un : A.units + 16 * k + 200 < cLine
theorem Room.mono {j k : Nat} {A : Around} (r : Room k A) (h : j ≤ k) : Room j A := ⟨r.hd, by have := r.dp; omega, by have := r.un; omega⟩
theorem Room.deeper {k : Nat} {A : Around} (r : Room (k + 1) A) (env : Env) : Room k (A.deeper env) :=
  ⟨r.hd, by have := r.dp; show A.depth + 1 + 3 * k + 5 < _; omega, by have := r.un; show A.units + 3 + 16 * k + 200 < _; omega⟩
theorem Room.depth {k : Nat} {A : Around} (r : Room k A) : A.depth < recursionLimit := by have := r.dp; omega
theorem Room.units {k : Nat} {A : Around} (r : Room k A) : A.units + 64 < cLine := by have := r.un; omega
def tNil : TA := fun _ H Q => Q [] H
def tCons (ta : TE) (tr : TA) : TA := fun σ H Q => ta σ H fun x H1 => tr σ H1 fun xs H2 => Q (x :: xs) H2
section
variable {X : Cx} {e : Expr} {es : List Expr} {te : TE} {t : TA} {pos : Pos}
theorem pa_nil : PA X [] tNil := fun _ _ _ _ H Q I h => Calls.spliced_nil ⟨[], H, I, .nil, h⟩
theorem pa_cons (ha : PE X e te) (hr : PA X es t) (hs : starEach (e :: es) X.env = (false, eval e X.env) :: starEach es X.env := by rfl) : PA X (e :: es) (tCons te t) := by
  intro pos pins s σ H Q I h
  rw [hs]
  show wpAny _ _ (spliced ((false, eval e X.env) :: backTo pos (starEach es X.env))) _ _ s
  refine Calls.spliced_cons (thn (ha pins s σ H _ I h) fun u s1 ⟨x, H1, I1, r1, q1⟩ => ?_)
  exact thn (hr pos pins s1 σ H1 _ I1 q1) fun us s2 ⟨xs, H2, I2, r2, q2⟩ => ⟨x :: xs, H2, I2, .cons r1 r2, q2⟩
def tTup (t : TA) : TE := fun σ H Q => t σ H fun xs H1 => xs.length ≤ sizeLine ∧ ∀ p, H1 p = none → Q (.ref p) (upd H1 p (.tup xs))
def tLst (t : TA) : TE := fun σ H Q => t σ H fun xs H1 => xs.length ≤ sizeLine ∧ ∀ p, H1 p = none → Q (.ref p) (upd H1 p (.lst xs))
theorem pe_tup {x1} (h : PA X es t) : PE X (.Tuple es x1 pos) (tTup t) := by
  intro pins s σ H Q I hq
  refine wpAny_Tuple_spliced (thn (h pos pins s σ H _ I hq) fun us s1 ⟨xs, H1, I1, r, z, q⟩ => ⟨by rw [← r.length]; exact z, ?_⟩)
  have hf : H1 s1.heap.objs.size = none := I1.hok.fresh (Nat.le_refl _)
  refine ⟨.ref s1.heap.objs.size, upd H1 s1.heap.objs.size (.tup xs), I1.laid (t' := s1.toks) (fun b u e => Heap.get?_push_of_some _ e) (Nat.le_refl _) ?_, rfl, q _ hf⟩
  exact ⟨z, us, r, ⟨_, Heap.get?_push_size _ rfl⟩⟩
theorem pe_lst (h : PA X es t) : PE X (.List es pos) (tLst t) := by
  intro pins s σ H Q I hq
  refine wpAny_List_spliced (thn (h pos pins s σ H _ I hq) fun us s1 ⟨xs, H1, I1, r, z, q⟩ => ⟨by rw [← r.length]; exact z, ?_⟩)
  have hf : H1 s1.heap.objs.size = none := I1.hok.fresh (Nat.le_refl _)
  refine ⟨.ref s1.heap.objs.size, upd H1 s1.heap.objs.size (.lst xs), I1.laid (t' := s1.toks) (fun b u e => Heap.get?_push_of_some _ e) (Nat.le_refl _) ?_, rfl, q _ hf⟩
  exact ⟨z, us, 0, r, Heap.get?_push_size _ rfl⟩
end
abbrev Sp := List V → Hp → VK → XK → Prop
abbrev CXT := List Env → Hp → Shared → XK → Value → Shared → Prop
structure Env0 (P : Program) (w : World) (K : PySem.W.Frag) (mg : Str → Option Value) (base : Heap) (A : Around) (outer : List Env) (s : Shared) (H : Hp) : Prop where
  frames : A.frames = some outer
  mod : Mod K mg base
  bs : ∀ b o, base.get? b = some o → s.heap.get? b = some o ∧ H b = none
  bsz : base.objs.size ≤ s.heap.objs.size
  funs : s.heap.FunFrames base outer
  frf : ∀ b ∈ frs outer, H b = none
  hok : HOk P w H s.heap
  bare : AllBare s.gens
def CE (outer : List Env) (P : Program) (w : World) (H : Hp) (s : Shared) (Q : VK) (u : Value) (s' : Shared) : Prop :=
  ∃ v H', s'.os = s.os ∧ AllBare s'.gens ∧ Un (frs outer) [] H H' s.heap s'.heap ∧ HOk P w H' s'.heap ∧ RelV v u ∧ Q v H'
def CR (CX : CXT) (outer : List Env) (P : Program) (w : World) (H : Hp) (s : Shared) (Q : VK) (E : XK) (r : Result) (s' : Shared) : Prop :=
  match r with
  | .ok (.ret u) => CE outer P w H s Q u s'
  | .ok _ => False
  | .error e => CX outer H s E e s'
structure FnOk (P : Program) (w : World) (K : PySem.W.Frag) (mg : Str → Option Value) (base : Heap) (CX : CXT) (k : Nat) (f : Addr) (fd : FuncData) (ps : List Str) (sp : Sp) : Prop where
  len : ∀ vs H Q E, sp vs H Q E → vs.length = ps.length
  run : ∀ (A : Around) (outer : List Env) (s : Shared) (H : Hp) (args : Args) (us : List Value) (vs : List V) (Q : VK) (E : XK), Room k A → Env0 P w K mg base A outer s H → BindsTo s fd args (ps.zip us) → Vals vs us → sp vs H Q E →
    codeAny (model P w) A (.call (.ref f) args) (CR CX outer P w H s Q E) s
theorem FnOk.mono {P : Program} {w : World} {K : PySem.W.Frag} {mg : Str → Option Value} {base : Heap} {CX : CXT} {j k : Nat} {f : Addr} {fd : FuncData} {ps : List Str} {sp : Sp} (F : FnOk P w K mg base CX j f fd ps sp) (h : j ≤ k) :
    FnOk P w K mg base CX k f fd ps sp := ⟨F.len, fun A outer s H args us vs Q E hr => F.run A outer s H args us vs Q E (hr.mono h)⟩
theorem FnOk.imp {P : Program} {w : World} {K : PySem.W.Frag} {mg : Str → Option Value} {base : Heap} {CX : CXT} {k : Nat} {f : Addr} {fd : FuncData} {ps : List Str} {sp sp' : Sp} (F : FnOk P w K mg base CX k f fd ps sp)
    (h : ∀ vs H Q E, sp' vs H Q E → sp vs H Q E) : FnOk P w K mg base CX k f fd ps sp' :=
  ⟨fun vs H Q E q => F.len vs H Q E (h _ _ _ _ q), fun A outer s H args us vs Q E hr he hb hv hs => F.run A outer s H args us vs Q E hr he hb hv (h _ _ _ _ hs)⟩
section
variable {X : Cx} {pins : List (Addr × Obj)} {σ : St} {H : Hp} {s s' : Shared}
theorem Inv.env0 (I : Inv X pins σ H s) : Env0 X.prog X.w X.K X.mg X.base X.A X.stack s H :=
  ⟨I.ok.frames, I.ok.mod, I.bs, Nat.le_trans I.ok.bsz I.sz, I.stack, I.stkFree, I.hok, I.bare⟩
theorem Inv.after {Q : VK} {u : Value} (I : Inv X pins σ H s) (h : CE X.stack X.prog X.w H s Q u s') : EP X pins σ Q u s' := by
  obtain ⟨v, H', os, bare, un, hok, r, q⟩ := h
  obtain ⟨hh, g, d, t, os'⟩ := s'
  obtain rfl : os' = s.os := os
  exact ⟨v, H', I.call (h' := hh) (g' := g) (d' := d) (t' := t) (ch := []) un hok bare (fun b z => absurd z (by simp)), r, q⟩
end
def tCall (sp : Sp) (dvs : List V) (E : XK) (t : TA) : TE := fun σ H Q => t σ H fun vs H1 => sp (vs ++ dvs) H1 Q E
def Binds (K : PySem.W.Frag) (fd : FuncData) (ps : List Str) (ds : List Value) : Prop :=
  ∀ (s : Shared) (us : List Value), K.In s.heap → (us ++ ds).length = ps.length → BindsTo s fd ⟨us, []⟩ (ps.zip (us ++ ds))
theorem Binds.all {K : PySem.W.Frag} {fd : FuncData} {ps : List Str} (h : ∀ us : List Value, us.length = ps.length → bindArgs fd ⟨us, []⟩ = pure (ps.zip us)) : Binds K fd ps [] := fun s us _ hl => by
  rw [List.append_nil] at hl ⊢
  exact .of_eq (h us hl)
def Passes (CX : CXT) (X : Cx) (E : XK) : Prop := ∀ (pins : List (Addr × Obj)) (σ : St) (H : Hp) (s : Shared) (e : Value) (s' : Shared), Inv X pins σ H s → CX X.stack H s E e s' → X.xe e s'
section
variable {X : Cx} {CX : CXT} {k : Nat} {f C : Addr} {fd : FuncData} {ps : List Str} {sp : Sp} {dvs : List V} {ds : List Value} {E : XK} {x m : Str} {p pos apos : Pos} {e o : Expr} {es : List Expr} {ta : TE} {t : TA}
theorem run_fn {pins : List (Addr × Obj)} {σ : St} {H : Hp} {s : Shared} {Q : VK} {us : List Value} {vs : List V} (F : FnOk X.prog X.w X.K X.mg X.base CX k f fd ps sp) (hr : Room k X.A) (hb : Binds X.K fd ps ds) (hd : Vals dvs ds) (hx : Passes CX X E)
    (I : Inv X pins σ H s) (r : Vals vs us) (h : sp (vs ++ dvs) H Q E) : wpAny (model X.prog X.w) X.A (call (.ref f) us) (EP X pins σ Q) X.xe s := by
  have r2 : Vals (vs ++ dvs) (us ++ ds) := r.append hd
  have hl : (us ++ ds).length = ps.length := by rw [← r2.length]; exact F.len _ _ _ _ h
  refine wpAny_call (codeAny_mono (F.run X.A X.stack s H ⟨us, []⟩ (us ++ ds) (vs ++ dvs) Q E hr I.env0 (hb s us I.kIn hl) r2 h) fun r s' hq => ?_)
  cases r with
  | error e => exact hx pins σ H s e s' I hq
  | ok fl =>
    cases fl with
    | ret u => exact I.after hq
    | next => exact False.elim hq
    | brk => exact False.elim hq
    | cont => exact False.elim hq
theorem pe_call (F : FnOk X.prog X.w X.K X.mg X.base CX k f fd ps sp) (hr : Room k X.A) (hg : Gl X x) (hm : X.mg x = some (.ref f)) (hk : PySem.W.keepIn X.K (.ref f) = true) (hb : Binds X.K fd ps ds) (hd : Vals dvs ds) (hx : Passes CX X E)
    (ha : PA X (e :: es) t) (hdb : (x == ("__debug__" : Str)) = false := by decide) (he : starEach (e :: es) X.env = (false, eval e X.env) :: starEach es X.env := by rfl) (hpl : (backTo pos (starEach es X.env)).any (·.1) = false := by rfl) :
    PE X (.Call (.Name x p) (e :: es) [] pos) (tCall sp dvs E t) := by
  intro pins s σ H Q I h
  refine wpAny_Call_Name_kw (ld_glob I hg hm ?_ hdb)
  refine PySem.W.callWith_K (h₀ := X.base) I.ok.mod.kin hk (thn (ha pos pins s σ H _ I h) fun us s1 ⟨vs, H1, I1, r, q⟩ => ⟨I1.kIn, ?_⟩) he hpl
  exact run_fn F hr hb hd hx I1 r q
end
section
variable {X : Cx} {CX : CXT} {k : Nat} {f C : Addr} {fd : FuncData} {ps ks : List Str} {sp : Sp} {E : XK} {x m : Str} {p pos apos kpos : Pos} {e o : Expr} {es : List Expr} {kws : List Keyword} {te ta : TE} {t tk : TA} {nm : Option Str}
variable {g : List Value → List Value → List Value} {gV : List V → List V → List V}
end
structure FnScope (N P : List Str) (sc : Scope) : Prop where
  kind : sc.kind = .function
  co : sc.isCoroutine = false
  gen : sc.isGenerator = false
  nd : N.Nodup
  pre : N.take P.length = P
  par : ∀ x ∈ P, sc.names.lookup x = some .local ∨ sc.names.lookup x = some .cell
  nofree : ∀ y ∈ sc.names, y.2 ≠ .free
theorem bindL_out {kindOf : Str → Option NameKind} {x : Str} : ∀ {binds : List (Str × Value)} {m : Str → Option Value}, (∀ v, (x, v) ∉ binds) → bindL kindOf binds m x = m x
  | [], _, _ => rfl
  | (n, v) :: r, m, h => by
    unfold bindL
    rw [bindL_out fun w hw => h w (List.mem_cons_of_mem _ hw)]
    split
    · have : x ≠ n := by rintro rfl; exact h v List.mem_cons_self
      simp [this]
    · rfl
theorem bindC_out {kindOf : Str → Option NameKind} {x : Str} : ∀ {binds : List (Str × Value)} {m : Str → Option Value}, (∀ v, (x, v) ∉ binds) → bindC kindOf binds m x = m x
  | [], _, _ => rfl
  | (n, v) :: r, m, h => by
    unfold bindC
    rw [bindC_out fun w hw => h w (List.mem_cons_of_mem _ hw)]
    split
    · rfl
    · have : x ≠ n := by rintro rfl; exact h v List.mem_cons_self
      simp [this]
theorem bindL_get {kindOf : Str → Option NameKind} {x : Str} {v : Value} : ∀ {P : List Str} {vs : List Value} {i : Nat} {m : Str → Option Value}, P.Nodup → P[i]? = some x → vs[i]? = some v → kindOf x = some .local →
    bindL kindOf (P.zip vs) m x = some v
  | [], _, _, _, _, h, _, _ => by simp at h
  | _ :: _, [], _, _, _, _, h, _ => by simp at h
  | p :: P, w :: vs, 0, m, nd, h1, h2, hk => by
    simp at h1 h2; subst h1; subst h2
    show bindL kindOf ((p, w) :: P.zip vs) m p = _
    unfold bindL
    rw [bindL_out fun v hv => (List.nodup_cons.mp nd).1 (List.of_mem_zip hv).1, if_pos hk]
    simp
  | p :: P, w :: vs, i + 1, m, nd, h1, h2, hk => by
    show bindL kindOf ((p, w) :: P.zip vs) m x = _
    unfold bindL
    exact bindL_get (i := i) (List.nodup_cons.mp nd).2 (by simpa using h1) (by simpa using h2) hk
theorem bindC_get {kindOf : Str → Option NameKind} {x : Str} {v : Value} : ∀ {P : List Str} {vs : List Value} {i : Nat} {m : Str → Option Value}, P.Nodup → P[i]? = some x → vs[i]? = some v → kindOf x ≠ some .local →
    bindC kindOf (P.zip vs) m x = some v
  | [], _, _, _, _, h, _, _ => by simp at h
  | _ :: _, [], _, _, _, _, h, _ => by simp at h
  | p :: P, w :: vs, 0, m, nd, h1, h2, hk => by
    simp at h1 h2; subst h1; subst h2
    show bindC kindOf ((p, w) :: P.zip vs) m p = _
    unfold bindC
    rw [bindC_out fun v hv => (List.nodup_cons.mp nd).1 (List.of_mem_zip hv).1, if_neg hk]
    simp
  | p :: P, w :: vs, i + 1, m, nd, h1, h2, hk => by
    show bindC kindOf ((p, w) :: P.zip vs) m x = _
    unfold bindC
    exact bindC_get (i := i) (List.nodup_cons.mp nd).2 (by simpa using h1) (by simpa using h2) hk
def start (N : List Str) (vs : List V) : St := vs.map some ++ List.replicate (N.length - vs.length) none
def cxOf (CX : CXT) (P : Program) (w : World) (K : PySem.W.Frag) (mg : Str → Option Value) (base : Heap) (N : List Str) (qual : Str) (scope : Scope) (f : Addr) (cd : Value) (A : Around) (outer : List Env) (s : Shared) (H : Hp) (E : XK) : Cx where
  prog := P
  w := w
  K := K
  mg := mg
  base := base
  A := A.deeper (envOfC qual scope s.heap.objs.size f cd)
  N := N
  s₀ := s
  H₀ := H
  env := envOfC qual scope s.heap.objs.size f cd
  outer := outer
  stack := envOfC qual scope s.heap.objs.size f cd :: outer
  ex := []
  calm := true
  fn := fun _ => true
  pn := []
  xe := fun e s' => wpAny (model P w) (A.deeper (envOfC qual scope s.heap.objs.size f cd)) (leaving (envOfC qual scope s.heap.objs.size f cd) e) (fun _ s'' => CX outer H s E e s'') (fun e' s'' => CX outer H s E e' s'') s'
theorem cell_has {sc : Scope} {n : Nat} {x : Str} (h : sc.names.lookup x = some .cell) : ∃ c, (cellsFrom n sc.names []).lookup x = some c := by
  have q := PySem.W.cellsFrom_some sc.names n [] (.inl h)
  exact Option.isSome_iff_exists.mp q
theorem inv_start {CX : CXT} {P : Program} {w : World} {K : PySem.W.Frag} {mg : Str → Option Value} {base : Heap} {N ps : List Str} {qual : Str} {scope : Scope} {f : Addr} {cd : Value} {A : Around} {outer : List Env} {s s1 : Shared} {H : Hp} {E : XK} {us : List Value} {vs : List V}
    (S : FnScope N ps scope) (hd : A.handled = none) (e0 : Env0 P w K mg base A outer s H) (hl : vs.length = ps.length) (r : Vals vs us)
    (x : InCallC s s.heap.objs.size (bindL (envOfC qual scope s.heap.objs.size f cd).kindOf (ps.zip us) fun _ => none) (cellsFrom (s.heap.objs.size + 1) scope.names []) (bindC (envOfC qual scope s.heap.objs.size f cd).kindOf (ps.zip us) fun _ => none) s1) :
    Inv (cxOf CX P w K mg base N qual scope f cd A outer s H E) [] (start N vs) H s1 := by
  have hpl : ps.length ≤ N.length := by have := congrArg List.length S.pre; rw [List.length_take] at this; omega
  obtain ⟨h1, tk, rfl, hk⟩ := x.done
  have noA : ∀ b : Addr, b ∉ (cxOf CX P w K mg base N qual scope f cd A outer s H E).ex := fun b z => absurd (show b ∈ ([] : List Addr) from z) (by simp)
  refine ⟨⟨e0.mod, S.kind, rfl, rfl, Nat.le_refl _, fun y z c h1 h2 => ?_, fun y hy => ?_, fun y c _ h => ?_, fun _ => hd, Around.frames_deeper e0.frames, .inr ⟨rfl, rfl⟩, fun b z => absurd z (noA b), e0.bs, e0.bsz, fun b _ _ => noA b, fun b z => absurd z (noA b), e0.funs, e0.frf⟩,
    rfl, e0.bare, Un.kept hk, ⟨_, x.toInCall.ns, fun i y v h1 h2 h3 => ?_⟩, fun y c h => ⟨_, x.cell y c h⟩, e0.hok.fresh (Nat.le_refl _), fun y c h => ?_, fun p hp => absurd (show p ∈ ([] : List (Addr × Obj)) from hp) (by simp), e0.hok.kept hk, ?_⟩
  · exact name_of_addr x.apart (PySem.mem_of_lookup h1) (PySem.mem_of_lookup h2)
  · have hy : scope.names.lookup y = some .cell ∨ scope.names.lookup y = some .free := hy
    rcases hy with hy | hy
    · exact cell_has hy
    · exact absurd rfl (S.nofree _ (PySem.mem_of_lookup hy))
  · exact Nat.le_of_lt (x.above y c (PySem.mem_of_lookup h))
  · have hi : i < vs.length := by
      unfold start at h2
      by_cases hi : i < vs.length
      · exact hi
      · rw [List.getElem?_append_right (by simpa using hi)] at h2
        rw [List.getElem?_replicate] at h2
        split at h2 <;> cases h2
    have ha : vs[i]? = some v := by
      unfold start at h2
      rw [List.getElem?_append_left (by simpa using hi), List.getElem?_map] at h2
      cases e : vs[i]? with
      | none => rw [e] at h2; cases h2
      | some a => rw [e] at h2; cases h2; rfl
    obtain ⟨u, hu, rv⟩ := r.get ha
    have hp : ps[i]? = some y := by
      rw [← S.pre, List.getElem?_take_of_lt (by omega)]; exact h1
    have ndP : ps.Nodup := by rw [← S.pre]; exact S.nd.sublist (List.take_sublist _ _)
    refine ⟨u, rv, ?_⟩
    rcases S.par y (List.mem_of_getElem? hp) with k | k
    · exact .inl ⟨k, bindL_get ndP hp hu k⟩
    · obtain ⟨c, e⟩ := cell_has (n := s.heap.objs.size + 1) k
      refine .inr ⟨.inl k, c, e, ?_⟩
      have q := x.cell y c e
      rw [bindC_get ndP hp hu (by show scope.names.lookup y ≠ _; rw [k]; decide)] at q
      exact q
  · exact e0.hok.fresh (Nat.le_of_lt (x.above y c (PySem.mem_of_lookup h)))
  · unfold start
    show _ = N.length
    rw [List.length_append, List.length_map, List.length_replicate]
    omega
theorem fn_of {CX : CXT} {P : Program} {w : World} {K : PySem.W.Frag} {mg : Str → Option Value} {base : Heap} {k : Nat} {f : Addr} {name qual : Str} {params : Arguments} {body : List Stmt} {scope : Scope} {dV kV doc pm cdv ct oc : Value} {an od : Option Addr}
    {osl : Array (Option Value)} {N ps : List Str} {sp : Sp} (lk : K.lookup f = some ⟨oc, od, .func (PySem.W.fnOf name qual params body scope dV kV doc pm an cdv ct), osl⟩) (hcd : PySem.W.codeIn K cdv qual = true) (S : FnScope N ps scope)
    (len : ∀ vs H Q E, sp vs H Q E → vs.length = ps.length)
    (hbody : ∀ (A : Around) (outer : List Env) (s : Shared) (H : Hp) (vs : List V) (Q : VK) (E : XK), Room k (A.deeper (envOfC qual scope s.heap.objs.size f cdv)) → sp vs H Q E →
      ∃ t, PSs (cxOf CX P w K mg base N qual scope f cdv A outer s H E) body t ∧ t { nx := fun _ H' => Q .non H', rt := Q } (start N vs) H) :
    FnOk P w K mg base CX (k + 1) f (PySem.W.fnOf name qual params body scope dV kV doc pm an cdv ct) ps sp := by
  refine ⟨len, fun A outer s H args us vs Q E hr e0 hb r hsp => ?_⟩
  have hl := len _ _ _ _ hsp
  have KX : K.In s.heap := e0.mod.kin.keeps fun b o e => (e0.bs b o e).1
  have lim : s.heap.NoLimit := e0.mod.nolimit.keeps fun b o e => (e0.bs b o e).1
  have hkind : ∀ y ∈ ps.zip us, scope.names.lookup y.1 = some .local ∨ (scope.names.lookup y.1 = some .cell ∧ ((cellsFrom (s.heap.objs.size + 1) scope.names []).lookup y.1).isSome = true) := fun ⟨n, v⟩ hy => by
    rcases S.par n (List.of_mem_zip hy).1 with q | q
    · exact .inl q
    · exact .inr ⟨q, PySem.W.cellsFrom_some _ _ _ (.inl q)⟩
  refine codeAny_call_function hr.depth (KX _ _ lk) rfl S.co S.gen rfl (PySem.W.codeRec_of KX hcd) (hb _ _ _ _ ?_)
  refine wpAny_newFunctionEnv_cells S.kind hkind fun env he s1 x => ?_
  subst he
  refine ⟨lim.keeps x.toInCall.keep, codeAny_func ?_⟩
  obtain ⟨t, ht, hq⟩ := hbody A outer s H vs Q E (hr.deeper _) hsp
  have I : Inv (cxOf CX P w K mg base N qual scope f cdv A outer s H E) [] (start N vs) H s1 := inv_start S hr.hd e0 hl r x
  refine wpAny_mono (ht [] s1 (start N vs) H _ I hq) (fun fl s' hs => ?_) fun e s' hs => hs
  have fin : ∀ {σ' : St} {H' : Hp} {v : V} {u : Value}, Inv (cxOf CX P w K mg base N qual scope f cdv A outer s H E) [] σ' H' s' → RelV v u → Q v H' → CE outer P w H s Q u s' :=
    fun {σ' H' v u} J rv q => ⟨v, H', J.os, J.bare, J.base, J.hok, rv, q⟩
  cases fl with
  | ret u =>
    obtain ⟨v, σ', H', J, rv, q⟩ := hs
    exact fin J rv q
  | next =>
    obtain ⟨σ', H', J, q⟩ := hs
    exact fin (v := V.non) (u := Value.none) J rfl q
  | brk =>
    obtain ⟨_, _, _, q⟩ := hs
    exact False.elim q
  | cont =>
    obtain ⟨_, _, _, q⟩ := hs
    exact False.elim q
end L2
namespace L2
open PySem PySem.Spec PyProof.Rows
section
variable {X : Cx} {x : Str} {p pos : Pos} {e : Expr} {es : List Expr} {t : TA} {id T : String} {r : List V → Hp → VK → Prop}
def tCB (r : List V → Hp → VK → Prop) (t : TA) : TE := fun σ H Q => t σ H fun vs H1 => r vs H1 Q
theorem pe_callB (hc : CallR X (.builtin id) r) (hg : Gl X x) (hm : X.mg x = none) (hv : bootBuiltins x = some (.builtin id)) (ha : PA X (e :: es) t) (hn : x ≠ "__name__" := by decide) (hdb : (x == ("__debug__" : Str)) = false := by decide)
    (he : starEach (e :: es) X.env = (false, eval e X.env) :: starEach es X.env := by rfl) (hpl : (backTo pos (starEach es X.env)).any (·.1) = false := by rfl) : PE X (.Call (.Name x p) (e :: es) [] pos) (tCB r t) := by
  intro pins s σ H Q I h
  refine wpAny_Call_Name_kw (ld_blt I hg hm hv ?_ hn hdb)
  exact PyProof.Rows.callWith_builtin1 (thn (ha pos pins s σ H _ I h) fun us s1 ⟨vs, H1, I1, r1, q1⟩ => hc pins s1 σ H1 vs us Q I1 r1 q1) he hpl
theorem pe_callTy (hc : CallR X (.type T) r) (hg : Gl X x) (hm : X.mg x = none) (hv : bootBuiltins x = some (.type T)) (ha : PA X (e :: es) t) (hn : x ≠ "__name__" := by decide) (hdb : (x == ("__debug__" : Str)) = false := by decide)
    (he : starEach (e :: es) X.env = (false, eval e X.env) :: starEach es X.env := by rfl) (hpl : (backTo pos (starEach es X.env)).any (·.1) = false := by rfl) : PE X (.Call (.Name x p) (e :: es) [] pos) (tCB r t) := by
  intro pins s σ H Q I h
  refine wpAny_Call_Name_kw (ld_blt I hg hm hv ?_ hn hdb)
  exact PyProof.Rows.callWith_type1 (thn (ha pos pins s σ H _ I h) fun us s1 ⟨vs, H1, I1, r1, q1⟩ => hc pins s1 σ H1 vs us Q I1 r1 q1) he hpl
end
end L2
namespace HT
open PySem PyProof.Rows
section
open PySem.SeqAt
open PySem.AutoSeq1 (wpAny_loadPart')
open PySem.MeetsSeq PySem.MeetsSeq2 PySem.MeetsSeq3
end
section
variable {prog : Program} {w : World} {A : Around} {E : Value → Shared → Prop} {s : Shared}
theorem cat_tup {t b : Addr} {vs ws : List Value} {Q : Value → Shared → Prop} (ht : IsTup s.heap t vs.toArray) (hb : IsTup s.heap b ws.toArray) (hv : vs ≠ [])
    (h1 : ws = [] → Q (.ref t) s) (h2 : ws ≠ [] → Q (.ref s.heap.objs.size) { s with heap := s.heap.push { cls := .type "tuple", data := .seq (vs ++ ws).toArray } })
    (hsz : vs.length + ws.length ≤ sizeLine) : wpAny (model prog w) A (binaryOp .Add (.ref t) (.ref b)) Q E s := by
  obtain ⟨⟨cls, dd, data, sl⟩, ho, hc, n, hd⟩ := id ht
  obtain ⟨⟨cls2, dd2, data2, sl2⟩, ho2, hc2, n2, hd2⟩ := id hb
  simp only at hc hd hc2 hd2
  subst hc hd hc2 hd2
  have e : vs.toArray ++ ws.toArray = (vs ++ ws).toArray := by simp
  by_cases hw : ws = []
  · exact concat_meets ⟨_, ho, rfl⟩ ⟨_, ho2, rfl⟩ noFill_tuple_add seq_tuple_add PySem.F.slot_tuple_add PySem.F.entry_tuple_add (PySem.F.args_tuple_add_2 _ _)
      (tuple_addW1 t b vs.toArray ws.toArray n n2 dd dd2 sl sl2 (by simpa using hv) (by simp [hw])) ⟨ho, ho2, h1 hw⟩
  · refine concat_meets ⟨_, ho, rfl⟩ ⟨_, ho2, rfl⟩ noFill_tuple_add seq_tuple_add PySem.F.slot_tuple_add PySem.F.entry_tuple_add (PySem.F.args_tuple_add_2 _ _)
      (tuple_addW2 t b vs.toArray ws.toArray n n2 dd dd2 sl sl2 (by simpa using hv) (by simpa using hw) (by rw [List.size_toArray, List.size_toArray]; exact hsz)) ⟨ho, ho2, ?_⟩
    rw [e]
    exact h2 hw
def sIx (n d : Nat) : Option Int → Nat
  | none => d
  | some v => if v < 0 then (v + (n : Int)).toNat else min v.toNat n
theorem sIx_le (n d : Nat) (hd : d ≤ n) (o : Option Int) : sIx n d o ≤ n := by
  cases o with
  | none => exact hd
  | some v =>
    show (if v < 0 then (v + (n : Int)).toNat else min v.toNat n) ≤ n
    by_cases hv : v < 0
    · rw [if_pos hv]; omega
    · rw [if_neg hv]; exact Nat.min_le_right _ _
theorem clip_eq (v : Int) (n d : Nat) : (if v < 0 then max (v + (n : Int)) 0 else min v (n : Int)) = ((sIx n d (some v) : Nat) : Int) := by
  show (if v < 0 then max (v + (n : Int)) 0 else min v (n : Int)) = (((if v < 0 then (v + (n : Int)).toNat else min v.toNat n) : Nat) : Int)
  by_cases hv : v < 0
  · simp only [if_pos hv]; omega
  · simp only [if_neg hv]; omega
theorem adjust_gen (lo hi : Option Int) (n : Nat) : Builtin.Slice.sliceAdjust lo hi 1 (n : Int) = (((sIx n 0 lo : Nat) : Int), ((sIx n n hi : Nat) : Int)) := by
  have h1 : ¬ ((1 : Int) < 0) := by omega
  unfold Builtin.Slice.sliceAdjust
  simp only [h1, if_false]
  refine Prod.ext ?_ ?_
  · cases lo with
    | none => rfl
    | some v => exact clip_eq v n 0
  · cases hi with
    | none => rfl
    | some v => exact clip_eq v n n
theorem places_gen (i j : Nat) : Builtin.Slice.slicePlaces (i : Int) (j : Int) 1 = j - i := by
  unfold Builtin.Slice.slicePlaces
  have h1 : (1 : Int) > 0 := by omega
  simp only [h1, if_true, Int.ediv_one]
  split <;> omega
theorem slicePart_ {v : Value} {o : Option Int} {Q : Option Int → Shared → Prop} (p : IsPart v o) (h : Q o s) : wpAny (model prog w) A (Builtin.Slice.slicePartIndex v) Q E s := by
  cases p with
  | none => exact slicePart_none h
  | int i t => exact slicePart_int h
theorem sliceApplied_gen {sl : Addr} {vl vu : Value} {lo hi : Option Int} {n : Nat} {Q : Int × Int × Nat → Shared → Prop} (hs : s.heap.IsSliceOf sl vl vu .none) (pl : IsPart vl lo) (pu : IsPart vu hi)
    (h : Q (((sIx n 0 lo : Nat) : Int), 1, sIx n n hi - sIx n 0 lo) s) : wpAny (model prog w) A (Builtin.Slice.sliceApplied (.ref sl) (pure (n : Int))) Q E s := by
  obtain ⟨os, hos, hcs, hds⟩ := id hs
  unfold Builtin.Slice.sliceApplied Builtin.Slice.sliceFields
  refine wpAny_bind (wpAny_bind (wpAny_field hos hds (x := vl) rfl (wpAny_bind (wpAny_field hos hds (x := vu) rfl (wpAny_bind (wpAny_field hos hds (x := .none) rfl (wpAny_pure ?_)))))))
  refine wpAny_bind (slicePart_none ?_)
  show wpAny _ _ (if ((1 : Int) == 0) = true then _ else _) _ _ s
  rw [if_neg (by decide)]
  refine wpAny_bind (slicePart_ pl (wpAny_bind (slicePart_ pu (wpAny_bind (wpAny_pure ?_)))))
  show wpAny _ _ (match Builtin.Slice.sliceAdjust lo hi 1 (n : Int) with | (lo, hi) => pure (lo, (1 : Int), Builtin.Slice.slicePlaces lo hi 1)) _ _ s
  rw [adjust_gen lo hi n]
  show wpAny _ _ (pure (((sIx n 0 lo : Nat) : Int), (1 : Int), Builtin.Slice.slicePlaces ((sIx n 0 lo : Nat) : Int) ((sIx n n hi : Nat) : Int) 1)) _ _ s
  rw [places_gen]
  exact wpAny_pure h
theorem pick_gen (xs : Array Value) (i k : Nat) : ((List.range k).filterMap fun (m : Nat) => xs[((i : Int) + (m : Int) * 1).toNat]?).toArray = ((xs.toList.drop i).take k).toArray := by
  have e : (fun (m : Nat) => xs[((i : Int) + (m : Int) * 1).toNat]?) = fun m => xs[i + m]? := by
    funext m
    have : ((i : Int) + (m : Int) * 1).toNat = i + m := by omega
    rw [this]
  rw [e]
  have := pick_run xs i k
  rw [List.filterMap_map] at this
  have e2 : ((fun x => xs[x]?) ∘ fun x => i + x) = fun m => xs[i + m]? := rfl
  rw [e2] at this
  rw [this]
theorem getItem_tuple_cut {t sl : Addr} {items : Array Value} {vl vu : Value} {lo hi : Option Int} {Q : Value → Shared → Prop} (ht : IsTup s.heap t items) (hs : s.heap.IsSliceOf sl vl vu .none) (pl : IsPart vl lo) (pu : IsPart vu hi)
    (hw : ¬ (sIx items.size 0 lo = 0 ∧ sIx items.size items.size hi = items.size))
    (h : Q (.ref s.heap.objs.size) { s with heap := s.heap.push { cls := .type "tuple", data := .seq ((items.toList.drop (sIx items.size 0 lo)).take (sIx items.size items.size hi - sIx items.size 0 lo)).toArray } })
    (hsz : items.size ≤ sizeLine) : wpAny (model prog w) A (getItem (.ref t) (.ref sl)) Q E s := by
  have htake : sizeOk (.seq ((items.toList.drop (sIx items.size 0 lo)).take (sIx items.size items.size hi - sIx items.size 0 lo)).toArray) := by
    show ((items.toList.drop (sIx items.size 0 lo)).take (sIx items.size items.size hi - sIx items.size 0 lo)).toArray.size ≤ sizeLine
    rw [List.size_toArray, List.length_take, List.length_drop, Array.length_toList]
    omega
  have hj : sIx items.size items.size hi ≤ items.size := sIx_le _ _ (Nat.le_refl _) hi
  obtain ⟨os, hos, hcs, hds⟩ := id hs
  have hTs : s.TypeIs (.ref sl) "slice" := ⟨os, hos, hcs⟩
  unfold getItem
  try with_reducible refine wpAny_holding ?_
  first | refine wpAny_bind (wpAny_pure ?_) | skip
  refine wpAny_bind (wpAny_sequenceKey ht.typeIs (by decide) ?_)
  refine wpAny_bind (wpAny_callSpecial?_slot (name := Str.ofString "__getitem__") ht.typeIs PyProof.Rows.slot_tuple_getitem
    (wpAny_call_entry PyProof.Rows.slot_tuple_getitem ht.typeIs entry_tuple_getitem ?_ (args_tuple_getitem _ _)))
  show wpAny _ _ (Builtin.Tuple.tupleItemsOf (.ref t) >>= _) _ _ s
  refine wpAny_bind (tupleItemsOf_ ht ?_)
  refine wpAny_bind (wpAny_typeOf hTs ?_)
  rw [if_pos (by decide)]
  refine wpAny_bind (sliceApplied_gen hs pl pu ?_)
  have hno : ¬ ((((sIx items.size 0 lo : Nat) : Int) == 0 && (1 : Int) == 1 && (sIx items.size items.size hi - sIx items.size 0 lo) == items.size) = true) := by
    intro q
    rw [Bool.and_eq_true, Bool.and_eq_true] at q
    have q1 : ((sIx items.size 0 lo : Nat) : Int) = 0 := eq_of_beq q.1.1
    have q2 : sIx items.size items.size hi - sIx items.size 0 lo = items.size := eq_of_beq q.2
    exact hw ⟨by omega, by omega⟩
  show wpAny _ _ (if (((sIx items.size 0 lo : Nat) : Int) == 0 && (1 : Int) == 1 && (sIx items.size items.size hi - sIx items.size 0 lo) == items.size) = true then _ else _) _ _ s
  rw [if_neg hno, pick_gen]
  first
    | exact wpAny_bind (m := Builtin.Tuple.tupleExact _) (wpAny_newObj_type (wpAny_pure ⟨_, rfl, wpAny_pure h⟩) htake)
    | exact wpAny_bind (m := Builtin.Tuple.tupleExact _) (wpAny_newObj_type (wpAny_bind (wpAny_pure (wpAny_pure ⟨_, rfl, wpAny_pure h⟩))) htake)
    | exact wpAny_bind (wpAny_bind (m := Builtin.Tuple.tupleExact _) (wpAny_newObj_type (wpAny_pure (wpAny_pure ⟨_, rfl, wpAny_pure h⟩)) htake))
    | exact wpAny_bind (wpAny_bind (m := Builtin.Tuple.tupleExact _) (wpAny_newObj_type (wpAny_pure ⟨_, rfl, wpAny_pure h⟩) htake))
end
end HT
namespace L2
open PySem PySem.Spec PyProof.Rows
abbrev TO := St → Hp → (Option Int → Hp → Prop) → Prop
def PO (X : Cx) (e : Option Expr) (t : TO) : Prop :=
  ∀ (pins : List (Addr × Obj)) (s : Shared) (σ : St) (H : Hp) (Q : Option Int → Hp → Prop), Inv X pins σ H s → t σ H Q →
    wpAny (model X.prog X.w) X.A (evalPart e X.env) (fun u s' => ∃ o H', Inv X pins σ H' s' ∧ IsPart u o ∧ Q o H') X.xe s
def tNoPart : TO := fun _ H Q => Q none H
def tPart (t : TE) : TO := fun σ H Q => t σ H fun x H1 => ∃ i, x = .int i ∧ Q (some i) H1
section
variable {X : Cx} {e : Expr} {te : TE} {lo hi : Option Expr} {tl th : TO} {pos p2 : Pos}
theorem po_none : PO X none tNoPart := by
  intro pins s σ H Q I h
  rw [evalPart_none]
  exact wpAny_pure ⟨none, H, I, .none, h⟩
theorem po_some (h : PE X e te) : PO X (some e) (tPart te) := by
  intro pins s σ H Q I hw
  rw [evalPart_some]
  refine thn (h pins s σ H _ I hw) fun u s1 ⟨x, H1, I1, r1, q1⟩ => ?_
  obtain ⟨i, rfl, q⟩ := q1
  obtain ⟨t, rfl⟩ := r1
  exact ⟨some i, H1, I1, .int i t, q⟩
def SlR (X : Cx) (r : V → Option Int → Option Int → Hp → VK → Prop) : Prop :=
  ∀ (pins : List (Addr × Obj)) (s : Shared) (σ : St) (H : Hp) (x : V) (v vl vu : Value) (lo hi : Option Int) (sl : Addr) (Q : VK), Inv X pins σ H s → RelV x v → s.heap.IsSliceOf sl vl vu .none → IsPart vl lo → IsPart vu hi → r x lo hi H Q →
    ∃ T id, typeLookup (.type T) "__getitem__" = pure (some (.builtin id)) ∧ s.TypeIs v T ∧ wpAny (model X.prog X.w) X.A (getItem v (.ref sl)) (EP X pins σ Q) X.xe s
theorem SlR.or {r r' : V → Option Int → Option Int → Hp → VK → Prop} (h : SlR X r) (h' : SlR X r') : SlR X (fun x lo hi H Q => r x lo hi H Q ∨ r' x lo hi H Q) := by
  intro pins s σ H x v vl vu lo hi sl Q I rx hs pl pu q
  rcases q with q | q
  · exact h pins s σ H x v vl vu lo hi sl Q I rx hs pl pu q
  · exact h' pins s σ H x v vl vu lo hi sl Q I rx hs pl pu q
def tSl (r : V → Option Int → Option Int → Hp → VK → Prop) (te : TE) (tl th : TO) : TE := fun σ H Q => te σ H fun x H1 => tl σ H1 fun l H2 => th σ H2 fun u H3 => r x l u H3 Q
theorem pe_slice {r : V → Option Int → Option Int → Hp → VK → Prop} (hr : SlR X r) (he : PE X e te) (hl : PO X lo tl) (hu : PO X hi th) : PE X (.Subscript e (.Slice lo hi none p2) pos) (tSl r te tl th) := by
  intro pins s σ H Q I h
  refine Subscript_ (thn (he pins s σ H _ I h) fun v s1 ⟨x, H1, I1, r1, q1⟩ => ?_)
  refine wpAny_Slice (thn (hl pins s1 σ H1 _ I1 q1) fun vl s2 ⟨l, H2, I2, pl, q2⟩ => thn (hu pins s2 σ H2 _ I2 q2) fun vu s3 ⟨u, H3, I3, pu, q3⟩ => ?_)
  rw [evalPart_none]
  refine wpAny_pure ?_
  have I4 : Inv X pins σ H3 { s3 with heap := s3.heap.push { cls := .type "slice", data := .fields #[vl, vu, .none] } } := I3.kept (t' := s3.toks) fun b ob q => Heap.get?_push_of_some _ q
  obtain ⟨T, id, hT, ht, hg⟩ := hr pins { s3 with heap := s3.heap.push { cls := .type "slice", data := .fields #[vl, vu, .none] } } σ H3 x v vl vu l u s3.heap.objs.size Q I4 r1 (Heap.IsSliceOf.new ..) pl pu q3
  show wpAny (model X.prog X.w) X.A (subscriptTail e (.Slice lo hi none p2) v (.ref s3.heap.objs.size)) (EP X pins σ Q) X.xe { s3 with heap := s3.heap.push { cls := .type "slice", data := .fields #[vl, vu, .none] } }
  exact tail_any (ops := [.ref s3.heap.objs.size, v]) ht hT hg (by with_unfolding_all rfl)
def cutV (xs : List V) (lo hi : Option Int) : List V := (xs.drop (HT.sIx xs.length 0 lo)).take (HT.sIx xs.length xs.length hi - HT.sIx xs.length 0 lo)
theorem cutV_length (xs : List V) (lo hi : Option Int) : (cutV xs lo hi).length ≤ xs.length := by
  unfold cutV
  rw [List.length_take, List.length_drop]
  omega
def rSlT (K : PySem.W.Frag) : V → Option Int → Option Int → Hp → VK → Prop := fun x lo hi H Q => ∃ a xs, x = .ref a ∧ SqT K H a xs ∧
  ¬ (HT.sIx xs.length 0 lo = 0 ∧ HT.sIx xs.length xs.length hi = xs.length) ∧ ∀ p, H p = none → Q (.ref p) (upd H p (.tup (cutV xs lo hi)))
theorem sl_tup : SlR X (rSlT X.K) := by
  intro pins s σ H x v vl vu lo hi sl Q I rx hs pl pu h
  obtain ⟨a, xs, rfl, hx, hw, q⟩ := h
  cases rx
  obtain ⟨its, r, ht, hz⟩ := I.tuple hx
  have hlen : its.toArray.size = xs.length := by rw [List.size_toArray]; exact r.length.symm
  refine ⟨"tuple", _, PyProof.Rows.slot_tuple_getitem.lookup, ht.typeIs, ?_⟩
  refine HT.getItem_tuple_cut ht hs pl pu (by rw [hlen]; exact hw) ?_ (by rw [hlen]; exact hz)
  rw [hlen]
  refine ⟨.ref s.heap.objs.size, _, I.laid (t' := s.toks) (o := .tup (cutV xs lo hi)) (fun b ob q => Heap.get?_push_of_some _ q) (Nat.le_refl _) ?_, rfl, q _ (I.hok.fresh (Nat.le_refl _))⟩
  exact ⟨Nat.le_trans (cutV_length xs lo hi) hz, _, (r.drop (HT.sIx xs.length 0 lo)).take (HT.sIx xs.length xs.length hi - HT.sIx xs.length 0 lo), TupO.new _ _⟩
def rCatT (K : PySem.W.Frag) : R2 := fun x y H Q => ∃ a b xs ys, x = .ref a ∧ y = .ref b ∧ SqT K H a xs ∧ SqT K H b ys ∧ xs ≠ [] ∧ xs.length + ys.length ≤ sizeLine ∧
  (ys = [] → Q (.ref a) H) ∧ (ys ≠ [] → ∀ p, H p = none → Q (.ref p) (upd H p (.tup (xs ++ ys))))
theorem Vals.nil_iff {xs : List V} {us : List Value} (r : Vals xs us) : us = [] ↔ xs = [] := by
  cases r with
  | nil => simp
  | cons _ _ => simp
theorem op_catT : OpR X (binaryOp .Add) (rCatT X.K) := by
  intro pins s σ H x y v u Q I rx ry h
  obtain ⟨a, b, xs, ys, rfl, rfl, ha, hb, hx, hz, q1, q2⟩ := h
  cases rx
  cases ry
  obtain ⟨its, r1, p1, _⟩ := I.tuple ha
  obtain ⟨its2, r2, p2, _⟩ := I.tuple hb
  refine HT.cat_tup p1 p2 (fun z => hx (r1.nil_iff.mp z)) (fun z => ⟨.ref a, H, I, rfl, q1 (r2.nil_iff.mp z)⟩) (fun z => ?_) (by rw [← r1.length, ← r2.length]; exact hz)
  refine ⟨.ref s.heap.objs.size, _, I.laid (t' := s.toks) (o := .tup (xs ++ ys)) (fun b ob q => Heap.get?_push_of_some _ q) (Nat.le_refl _) ?_, rfl, q2 (fun w => z (r2.nil_iff.mpr w)) _ (I.hok.fresh (Nat.le_refl _))⟩
  exact ⟨by rw [List.length_append]; exact hz, _, r1.append r2, TupO.new _ _⟩
end
end L2
namespace L2
open PySem PySem.Spec PyProof.Rows
def ixN (n : Nat) (i : Int) : Option Nat := if 0 ≤ i then (if i < n then some i.toNat else none) else if -(n : Int) ≤ i then some (i + n).toNat else none
def atI {α : Type} (xs : List α) (i : Int) : Option α := (ixN xs.length i).bind fun j => xs[j]?
theorem ixN_seq {n : Nat} {i : Int} {j : Nat} (h : ixN n i = some j) : seqIndex? i n = some j ∧ j < n ∧ -(n : Int) ≤ i ∧ i < n := by
  unfold ixN at h
  by_cases h0 : 0 ≤ i
  · rw [if_pos h0] at h
    by_cases h1 : i < n
    · rw [if_pos h1] at h
      have e : i.toNat = j := Option.some.inj h
      exact ⟨by rw [seqIndex_of h0 h1, e], by omega, by omega, h1⟩
    · rw [if_neg h1] at h; cases h
  · rw [if_neg h0] at h
    by_cases h1 : -(n : Int) ≤ i
    · rw [if_pos h1] at h
      have e : (i + n).toNat = j := Option.some.inj h
      exact ⟨by rw [seqIndex_neg (by omega) h1, e], by omega, h1, by omega⟩
    · rw [if_neg h1] at h; cases h
theorem atI_get {α : Type} {xs : List α} {i : Int} {v : α} (h : atI xs i = some v) : ∃ j, seqIndex? i xs.length = some j ∧ xs[j]? = some v ∧ j < xs.length ∧ -(xs.length : Int) ≤ i ∧ i < xs.length := by
  unfold atI at h
  cases e : ixN xs.length i with
  | none => rw [e] at h; cases h
  | some j =>
    rw [e] at h
    obtain ⟨h1, h2, h3, h4⟩ := ixN_seq e
    exact ⟨j, h1, h, h2, h3, h4⟩
theorem atI_nat {α : Type} {xs : List α} {j : Nat} {v : α} (h : xs[j]? = some v) : atI xs (j : Int) = some v := by
  have hj : j < xs.length := (List.getElem?_eq_some_iff.mp h).1
  have e : ixN xs.length (j : Int) = some j := by
    unfold ixN
    rw [if_pos (by omega), if_pos (by omega)]; simp
  unfold atI; rw [e]; exact h
theorem atI_last {α : Type} (xs : List α) (v : α) : atI (xs ++ [v]) (-1) = some v := by
  have hl : (xs ++ [v]).length = xs.length + 1 := by simp
  have e : ixN (xs ++ [v]).length (-1) = some xs.length := by
    unfold ixN
    rw [hl, if_neg (by decide), if_pos (by omega)]
    congr 1
    omega
  unfold atI
  rw [e]
  show (xs ++ [v])[xs.length]? = some v
  simp
def PlainIx (b : Expr) : Prop := ∀ o i, subscripted b false o i = operate [o, i] (getItem o i)
def IxR (X : Cx) (r : R2) : Prop :=
  ∀ (value slice : Expr) (pins : List (Addr × Obj)) (s : Shared) (σ : St) (H : Hp) (x y : V) (v u : Value) (Q : VK), Inv X pins σ H s → RelV x v → RelV y u → r x y H Q →
    subscripted slice false v u = operate [v, u] (getItem v u) → wpAny (model X.prog X.w) X.A (subscriptTail value slice v u) (EP X pins σ Q) X.xe s
def MtR (X : Cx) (id : String) (r : V → List V → Hp → VK → Prop) : Prop :=
  ∀ (pins : List (Addr × Obj)) (s : Shared) (σ : St) (H : Hp) (x : V) (xs : List V) (v : Value) (us : List Value) (Q : VK), Inv X pins σ H s → RelV x v → Vals xs us → r x xs H Q →
    wpAny (model X.prog X.w) X.A (call (.builtin id) (v :: us)) (EP X pins σ Q) X.xe s
section
variable {X : Cx} {a b : Expr} {ta tb : TE} {pos : Pos}
theorem IxR.or {r r' : R2} (h : IxR X r) (h' : IxR X r') : IxR X (fun x y H Q => r x y H Q ∨ r' x y H Q) := by
  intro value slice pins s σ H x y v u Q I rx ry q hs
  rcases q with q | q
  · exact h value slice pins s σ H x y v u Q I rx ry q hs
  · exact h' value slice pins s σ H x y v u Q I rx ry q hs
theorem pe_ix {r : R2} (hr : IxR X r) (ha : PE X a ta) (hb : PE X b tb) (hs : PlainIx b) : PE X (.Subscript a b pos) (tOp r ta tb) := by
  intro pins s σ H Q I h
  exact Subscript_ (binT ha hb I h fun v u s2 x y H2 I2 rx ry q => hr a b pins s2 σ H2 x y v u Q I2 rx ry q (hs _ _))
def rIxL (K : PySem.W.Frag) : R2 := fun x y H Q => ∃ p xs i v, x = .ref p ∧ y = .int i ∧ SqL K H p xs ∧ atI xs i = some v ∧ Q v H
def rIxT (K : PySem.W.Frag) : R2 := fun x y H Q => ∃ p xs i v, x = .ref p ∧ y = .int i ∧ SqT K H p xs ∧ atI xs i = some v ∧ Q v H
def rIxS : R2 := fun x y H Q => ∃ z i c, x = .str z ∧ y = .int i ∧ z.length ≤ sizeLine ∧ atI z.cps.toList i = some c ∧ Q (.str ⟨#[c]⟩) H
theorem ix_list : IxR X (rIxL X.K) := by
  intro value slice pins s σ H x y v u Q I rx ry h hs
  obtain ⟨p, xs, i, z, rfl, rfl, hq, he, q⟩ := h
  cases rx
  obtain ⟨t, rfl⟩ := ry
  obtain ⟨its, r, pl, hz⟩ := I.list hq
  obtain ⟨j, h1, h2, h3, h4, h5⟩ := atI_get he
  obtain ⟨w, ew, rw'⟩ := r.get h2
  have hl := r.length
  have hn := line63
  have fin : EP X pins σ Q w s := ⟨z, H, I, rw', q⟩
  by_cases h0 : 0 ≤ i
  · have hj : i.toNat = j := by
      rw [seqIndex_of h0 h5] at h1
      exact Option.some.inj h1
    exact item_listR pl.isList h0 (by omega) (by rw [hj]; simpa using ew) fin hs
  · have hj : (i + (its.toArray.size : Int)).toNat = j := by
      rw [seqIndex_neg (by omega) h4] at h1
      rw [List.size_toArray, ← hl]
      exact Option.some.inj h1
    exact subscriptTail_builtinR (x := w) pl.isList.typeIs slot_list_getitem.lookup
      (wpAny_getItem_list_neg (Q := fun r s' => r = w ∧ EP X pins σ Q r s') pl.isList (by omega) (by rw [List.size_toArray] <;> omega) (by omega) (by rw [hj]; simpa using ew) ⟨rfl, fin⟩) hs
theorem ix_tup : IxR X (rIxT X.K) := by
  intro value slice pins s σ H x y v u Q I rx ry h hs
  obtain ⟨p, xs, i, z, rfl, rfl, hq, he, q⟩ := h
  cases rx
  obtain ⟨t, rfl⟩ := ry
  obtain ⟨its, r, pl, hz⟩ := I.tuple hq
  obtain ⟨j, h1, h2, h3, h4, h5⟩ := atI_get he
  obtain ⟨w, ew, rw'⟩ := r.get h2
  have hl := r.length
  have hn := line63
  have fin : EP X pins σ Q w s := ⟨z, H, I, rw', q⟩
  exact subscriptTail_builtinR (x := w) pl.typeIs slot_tuple_getitem.lookup
    (getItem_tuple (j := j) (Q := fun r s' => r = w ∧ EP X pins σ Q r s') pl (by omega) (by omega) (by rw [List.size_toArray, ← hl]; exact h1) (by simpa using ew) ⟨rfl, fin⟩) hs
theorem ix_str : IxR X rIxS := by
  intro value slice pins s σ H x y v u Q I rx ry h hs
  obtain ⟨z, i, c, rfl, rfl, hz, he, q⟩ := h
  obtain ⟨t, rfl⟩ := rx
  obtain ⟨t', rfl⟩ := ry
  obtain ⟨j, h1, h2, h3, h4, h5⟩ := atI_get he
  have hl : z.cps.toList.length = z.length := by simp [Str.length]
  rw [hl] at h1 h4 h5
  have hn := line63
  exact tail_any (typeIs_str s z t) slot_str_getitem.lookup (getItem_str (c := c) (by
    have e1 : decide (i < -(2 ^ 63 : Int)) = false := decide_eq_false (by omega)
    have e2 : decide (i ≥ 2 ^ 63) = false := decide_eq_false (by omega)
    rw [e1, e2, Bool.or_false]) (by rw [h1]; simpa using h2) ⟨.str ⟨#[c]⟩, H, I.tok _, ⟨_, rfl⟩, q⟩) hs
def rIx (K : PySem.W.Frag) : R2 := fun x y H Q => rIxL K x y H Q ∨ rIxT K x y H Q ∨ rIxS x y H Q
theorem ix_seq : IxR X (rIx X.K) := ix_list.or (ix_tup.or ix_str)
theorem slice_bounds (lo hi : Option Int) (n : Nat) : (sliceBounds lo hi none n).1 = ((HT.sIx n 0 lo : Nat) : Int) ∧ (sliceBounds lo hi none n).2.1 = ((HT.sIx n n hi : Nat) : Int) ∧ (sliceBounds lo hi none n).2.2 = 1 := by
  refine ⟨?_, ?_, rfl⟩
  · cases lo with
    | none => simp [sliceBounds, HT.sIx]
    | some i =>
      simp only [sliceBounds, HT.sIx, Option.getD_none, show (1 : Int) > 0 by decide, if_true]
      by_cases h : i < 0
      · simp only [h, if_true] <;> omega
      · simp only [h, if_false] <;> omega
  · cases hi with
    | none => simp [sliceBounds, HT.sIx]
    | some i =>
      simp only [sliceBounds, HT.sIx, Option.getD_none, show (1 : Int) > 0 by decide, if_true]
      by_cases h : i < 0
      · simp only [h, if_true] <;> omega
      · simp only [h, if_false] <;> omega
theorem slicePick_cut (its : List Value) (lo hi : Option Int) : slicePick its.toArray lo hi none = ((its.drop (HT.sIx its.length 0 lo)).take (HT.sIx its.length its.length hi - HT.sIx its.length 0 lo)).toArray := by
  obtain ⟨h1, h2, h3⟩ := slice_bounds lo hi its.toArray.size
  unfold slicePick
  rw [h1, h2, h3]
  simp only [sliceRange_one, pick_run, List.size_toArray] <;> rfl
def rSlL (K : PySem.W.Frag) : V → Option Int → Option Int → Hp → VK → Prop := fun x lo hi H Q => ∃ a xs, x = .ref a ∧ SqL K H a xs ∧ ∀ p, H p = none → Q (.ref p) (upd H p (.lst (cutV xs lo hi)))
theorem sl_list : SlR X (rSlL X.K) := by
  intro pins s σ H x v vl vu lo hi sl Q I rx hs pl pu h
  obtain ⟨a, xs, rfl, hx, q⟩ := h
  cases rx
  obtain ⟨its, r, ht, hz⟩ := I.list hx
  have hlen := r.length
  refine ⟨"list", _, slot_list_getitem.lookup, ht.isList.typeIs, ?_⟩
  refine wpAny_getItem_list_slice ht.isList hs pl pu .none (by simp) ?_ (by rw [List.size_toArray] <;> omega)
  rw [slicePick_cut, ← hlen]
  refine ⟨.ref s.heap.objs.size, _, I.laid (t' := s.toks) (o := .lst (cutV xs lo hi)) (fun b ob q => Heap.get?_push_of_some _ q) (Nat.le_refl _) ?_, rfl, q _ (I.hok.fresh (Nat.le_refl _))⟩
  exact ⟨Nat.le_trans (cutV_length xs lo hi) hz, _, 0, (r.drop (HT.sIx xs.length 0 lo)).take (HT.sIx xs.length xs.length hi - HT.sIx xs.length 0 lo), Heap.get?_push_size _ rfl⟩
theorem call_len_seq : CallR X (.builtin "len") (fun xs H Q => ∃ p ys, xs = [.ref p] ∧ (SqL X.K H p ys ∨ SqT X.K H p ys) ∧ Q (.int ys.length) H) := by
  intro pins s σ H xs us Q I r h
  obtain ⟨p, ys, rfl, hq, q⟩ := h
  obtain ⟨u, rfl, rx⟩ := vals1 r
  cases rx
  have hn := line63
  rcases hq with hq | hq
  · obtain ⟨its, r', pl, hz⟩ := I.list hq
    have hlen := r'.length
    exact Calls.call_len_list pl.isList (by simp only [List.size_toArray] <;> omega) ⟨.int ys.length, H, I.tok _, ⟨s.toks + 1, by rw [List.size_toArray, hlen]⟩, q⟩
  · obtain ⟨its, r', pl, hz⟩ := I.tuple hq
    have hlen := r'.length
    exact len_tuple pl (by simp only [List.size_toArray] <;> omega) ⟨.int ys.length, H, I.tok _, ⟨s.toks + 1, by rw [List.size_toArray, hlen]⟩, q⟩
theorem call_len_str : CallR X (.builtin "len") (fun xs H Q => ∃ z, xs = [.str z] ∧ z.length ≤ sizeLine ∧ Q (.int z.length) H) := by
  intro pins s σ H xs us Q I r h
  obtain ⟨z, rfl, hz, q⟩ := h
  obtain ⟨u, rfl, t, rfl⟩ := vals1 r
  have hn := line63
  exact len_str (by omega) ⟨.int z.length, H, I.tok _, ⟨_, rfl⟩, q⟩
theorem CallR.or {f : Value} {r r' : List V → Hp → VK → Prop} (h : CallR X f r) (h' : CallR X f r') : CallR X f (fun xs H Q => r xs H Q ∨ r' xs H Q) := by
  intro pins s σ H xs us Q I rs q
  rcases q with q | q
  · exact h pins s σ H xs us Q I rs q
  · exact h' pins s σ H xs us Q I rs q
def tyV (K : PySem.W.Frag) (T : String) (x : V) (H : Hp) : Prop := match x with
  | .str _ => T = "str"
  | .int _ => T = "int"
  | .ref p => (T = "list" ∧ ∃ xs, SqL K H p xs) ∨ (T = "tuple" ∧ ∃ o, K.lookup p = some o ∧ o.cls = .type "tuple" ∧ o.dict = none) ∨
      (T = "dict" ∧ ((∃ kvs, H p = some (.dK kvs)) ∨ ∃ kvs, H p = some (.dT kvs))) ∨ (T = "set" ∧ ∃ S n, H p = some (.set S n))
  | _ => False
theorem tyV_is {pins : List (Addr × Obj)} {σ : St} {H : Hp} {s : Shared} {T : String} {x : V} {v : Value} (I : Inv X pins σ H s) (r : RelV x v) (ty : tyV X.K T x H) :
    s.TypeIs v T ∧ ∀ a, v = .ref a → ∃ ob, s.heap.get? a = some ob ∧ ob.dict = none := by
  cases x with
  | str z =>
    obtain ⟨t, rfl⟩ := r
    cases (show T = "str" from ty)
    exact ⟨typeIs_str s z t, fun _ e => nomatch e⟩
  | int i =>
    obtain ⟨t, rfl⟩ := r
    cases (show T = "int" from ty)
    exact ⟨typeIs_int s i t, fun _ e => nomatch e⟩
  | ref p =>
    cases r
    rcases ty with ⟨rfl, xs, hq⟩ | ⟨rfl, o, hk, hc, hd⟩ | ⟨rfl, hk⟩ | ⟨rfl, S, n, hk⟩
    · obtain ⟨its, _, pl, _⟩ := I.list hq
      refine ⟨pl.isList.typeIs, fun a e => ?_⟩
      cases e
      obtain ⟨o, n, e, c, hd, _⟩ := pl
      exact ⟨o, e, hd⟩
    · refine ⟨⟨o, I.kIn p o hk, hc⟩, fun a e => ?_⟩
      cases e
      exact ⟨o, I.kIn _ o hk, hd⟩
    · have z : ∃ o, s.heap.get? p = some o ∧ o.ExactDict := by
        rcases hk with ⟨kvs, hk⟩ | ⟨kvs, hk⟩
        · obtain ⟨_, _, _, _, o, _, _, e, ex, _⟩ := I.hok p _ hk
          exact ⟨o, e, ex⟩
        · obtain ⟨_, _, _, _, o, _, _, e, ex, _⟩ := I.hok p _ hk
          exact ⟨o, e, ex⟩
      obtain ⟨o, e, ex⟩ := z
      refine ⟨⟨o, e, ex.1⟩, fun a e2 => ?_⟩
      cases e2
      exact ⟨o, e, ex.2.1⟩
    · obtain ⟨o, _, _, _, e, ex, _⟩ := I.hok p _ hk
      refine ⟨⟨o, e, ex.1⟩, fun a e2 => ?_⟩
      cases e2
      exact ⟨o, e, ex.2.1⟩
  | _ => exact False.elim ty
def tBM (K : PySem.W.Frag) (T : String) (r : V → List V → Hp → VK → Prop) (to : TE) (t : TA) : TE := fun σ H Q => to σ H fun x H1 => tyV K T x H1 ∧ t σ H1 fun xs H2 => r x xs H2 Q
variable {o e : Expr} {es : List Expr} {to : TE} {t : TA} {name : Str} {apos cpos : Pos} {T id : String} {r : V → List V → Hp → VK → Prop}
theorem pe_bm (pa : PlainAttrs T) (slot : Slot T name id) (hty : typeOf (.builtin id) = pure (.type "method_descriptor")) (hm : MtR X id r) (ho : PE X o to) (ha : PA X (e :: es) t)
    (hbase : attributeBase o name X.env (eval o X.env) = eval o X.env := by rfl)
    (hfew : ((backTo cpos (starEach (e :: es) X.env)).all (fun x => !x.1) && (backToKw cpos (keywordEach [] X.env)).all (fun x => x.1.isSome)
      && decide ((e :: es).length + ([] : List Keyword).length + (if ([] : List Keyword).isEmpty then 0 else 1) < 30)) = true := by rfl)
    (hline : (apos.endLine == cpos.line) = true := by rfl) (hs : starEach (e :: es) X.env = (false, eval e X.env) :: starEach es X.env := by rfl) (hplain : (backTo cpos (starEach es X.env)).any (·.1) = false := by rfl) :
    PE X (.Call (.Attribute o name apos) (e :: es) [] cpos) (tBM X.K T r to t) := by
  intro pins s σ H Q I h
  refine wpAny_Call_method_late hbase hfew hline rfl (thn (ho pins s σ H _ I h) fun v s1 ⟨x, H1, I1, r1, ty, q1⟩ => ?_)
  obtain ⟨h1, h2⟩ := tyV_is I1 r1 ty
  refine ⟨T, id, pa, slot, hty, h1, h2, ?_⟩
  have hA := ha cpos pins s1 σ H1 _ I1 q1
  rw [hs] at hA ⊢
  refine Calls.callWith_builtin (by show (false || (backTo cpos (starEach es X.env)).any (·.1)) = false; rw [hplain] <;> rfl) (Calls.evalArgs_plain ?_)
  exact thn hA fun us s2 ⟨vs, H2, I2, r2, q2⟩ => hm pins s2 σ H2 x vs v us Q I2 r1 r2 q2
end
end L2
namespace L2
open PySem PySem.Spec PyProof.Rows
def MtM (X : Cx) (id : String) (r : V → List V → Hp → VK → Prop) : Prop :=
  ∀ (pins : List (Addr × Obj)) (s : Shared) (σ : St) (H : Hp) (x : V) (xs : List V) (v : Value) (us : List Value) (Q : VK), Inv X pins σ H s → RelV x v → Vals xs us → r x xs H Q →
    wpAny (model X.prog X.w) X.A (call (.builtin id) (v :: us)) (EP X pins σ Q) X.xe s
theorem Vals.one : ∀ {x : V} {us : List Value}, Vals [x] us → ∃ u, us = [u] ∧ RelV x u
  | _, _, .cons r .nil => ⟨_, rfl, r⟩
theorem Vals.rep {xs : List V} {us : List Value} (h : Vals xs us) : ∀ k : Nat, Vals (List.replicate k xs).flatten (List.replicate k us).flatten
  | 0 => .nil
  | k + 1 => by
    rw [List.replicate_succ, List.replicate_succ, List.flatten_cons, List.flatten_cons]
    exact Vals.append h (Vals.rep h k)
theorem foldl_rep (its : List Value) : ∀ (k : Nat) (acc : List Value),
    List.foldl (fun x1 x2 => x1 ++ x2) acc.toArray (List.replicate k its.toArray) = (acc ++ (List.replicate k its).flatten).toArray
  | 0, acc => by simp
  | k + 1, acc => by
    have e : acc.toArray ++ its.toArray = (acc ++ its).toArray := by simp
    have e2 : (acc ++ its) ++ (List.replicate k its).flatten = acc ++ (List.replicate (k + 1) its).flatten := by
      rw [List.replicate_succ, List.flatten_cons, List.append_assoc]
    rw [← e2, ← foldl_rep its k (acc ++ its), ← e, List.replicate_succ, List.foldl_cons]
section
variable {X : Cx} {pins : List (Addr × Obj)} {σ : St} {H : Hp} {s : Shared} {l b : Addr} {xs ys zs : List V}
theorem Inv.lset {its its' : List Value} {n : Nat} {f : Array Value → Array Value} {t' : Nat} (I : Inv X pins σ H s) (hH : H l = some (.lst xs))
    (e : s.heap.get? l = some { cls := .type "list", data := .seq its.toArray n }) (hf : f its.toArray = its'.toArray) (hv : Vals ys its') (hz : ys.length ≤ sizeLine) :
    Inv X pins σ (upd H l (.lst ys)) { s with heap := s.heap.update l (Obj.mapSeq f), toks := t' } := by
  have q := PySem.IsL.update e f
  rw [hf] at q
  refine I.write (x := l) (e := l) (by rw [hH]; exact trivial) (.inl rfl) (fun b' u hb hu => (Heap.get?_update_other s.heap (Obj.mapSeq f) (Ne.symm hb)).trans hu) ⟨_, q⟩ ?_
  exact ⟨hz, its', _, hv, q⟩
theorem Inv.lnew {its : List Value} {t' : Nat} (I : Inv X pins σ H s) (hv : Vals ys its) (hz : ys.length ≤ sizeLine) :
    Inv X pins σ (upd H s.heap.objs.size (.lst ys)) { s with heap := s.heap.push { cls := .type "list", data := .seq its.toArray }, toks := t' } :=
  I.laid (fun _ _ q => Heap.get?_push_of_some _ q) (Nat.le_refl _) ⟨hz, its, 0, hv, Heap.get?_push_size _ rfl⟩
theorem Inv.fresh (I : Inv X pins σ H s) : H s.heap.objs.size = none := I.hok.fresh (Nat.le_refl _)
theorem Inv.lstM (I : Inv X pins σ H s) (hH : H l = some (.lst xs)) : xs.length ≤ sizeLine ∧ ∃ (its : List Value) (n : Nat), Vals xs its ∧ xs.length = its.length ∧ s.heap.get? l = some { cls := .type "list", data := .seq its.toArray n } := by
  obtain ⟨z, its, n, r, e⟩ := I.hok l _ hH
  exact ⟨z, its, n, r, r.length, e⟩
theorem notLongL {n : Nat} (h : n ≤ sizeLine) : Builtin.List.listTooLong n = false := by
  unfold Builtin.List.listTooLong
  exact decide_eq_false (by omega)
end
section
variable {X : Cx}
def rAppend : V → List V → Hp → VK → Prop := fun x vs H Q => ∃ l xs y, x = .ref l ∧ vs = [y] ∧ H l = some (.lst xs) ∧ xs.length < sizeLine ∧ Q .non (upd H l (.lst (xs ++ [y])))
theorem mt_append : MtM X "list.append" rAppend := by
  intro pins s σ H x vs v us Q I rx rv h
  obtain ⟨l, xs, y, rfl, rfl, hH, hz, q⟩ := h
  cases rx
  obtain ⟨u, rfl, ru⟩ := rv.one
  obtain ⟨z, its, n, r, hl, e⟩ := I.lstM hH
  refine call_meets F.slot_list_append ⟨_, e, rfl⟩ F.entry_list_append (F.args_list_append_2 _ _) (PySem.list_append l its.toArray n u (by rw [List.size_toArray]; omega)) ⟨e, ?_⟩
  refine ⟨.non, _, I.lset (its' := its ++ [u]) hH e (by simp) (r.append (.cons ru .nil)) ?_, rfl, q⟩
  rw [List.length_append, List.length_singleton]
  omega
def rExtend : V → List V → Hp → VK → Prop := fun x vs H Q => ∃ l b xs zs, x = .ref l ∧ vs = [.ref b] ∧ H l = some (.lst xs) ∧ H b = some (.lst zs) ∧ xs.length + zs.length ≤ sizeLine ∧ Q .non (upd H l (.lst (xs ++ zs)))
theorem mt_extend : MtM X "list.extend" rExtend := by
  intro pins s σ H x vs v us Q I rx rv h
  obtain ⟨l, b, xs, zs, rfl, rfl, hH, hB, hz, q⟩ := h
  cases rx
  obtain ⟨u, rfl, ru⟩ := rv.one
  cases ru
  obtain ⟨z, its, n, r, hl, e⟩ := I.lstM hH
  obtain ⟨z2, its2, n2, r2, hl2, e2⟩ := I.lstM hB
  have hsz : its.toArray.size + its2.toArray.size ≤ sizeLine := by rw [List.size_toArray, List.size_toArray]; omega
  have hlong : ¬ (!its.toArray.isEmpty && Builtin.List.listTooLong (its.toArray.size + its2.toArray.size)) = true := by
    rw [notLongL hsz, Bool.and_false]
    exact Bool.false_ne_true
  refine call_meets F.slot_list_extend ⟨_, e, rfl⟩ F.entry_list_extend (F.args_list_extend_2 _ _)
    (AutoSeq1.list_extend_list_list_0 l its.toArray n b its2.toArray n2 hlong (by rw [List.size_toArray]; omega) (by omega)) ⟨e, e2, ?_⟩
  refine ⟨.non, _, I.lset (its' := its ++ its2) hH e (by simp) (r.append r2) ?_, rfl, q⟩
  rw [List.length_append]
  omega
def rCat : R2 := fun x y H Q => ∃ l b xs zs, x = .ref l ∧ y = .ref b ∧ H l = some (.lst xs) ∧ H b = some (.lst zs) ∧ xs.length + zs.length ≤ sizeLine ∧ ∀ p, H p = none → Q (.ref p) (upd H p (.lst (xs ++ zs)))
theorem op_cat : OpR X (binaryOp .Add) rCat := by
  intro pins s σ H x y v u Q I rx ry h
  obtain ⟨l, b, xs, zs, rfl, rfl, hH, hB, hz, q⟩ := h
  cases rx
  cases ry
  obtain ⟨z, its, n, r, hl, e⟩ := I.lstM hH
  obtain ⟨z2, its2, n2, r2, hl2, e2⟩ := I.lstM hB
  refine PySem.P.add_list e e2 ?_ (by rw [List.size_toArray, List.size_toArray]; omega)
  have ea : its.toArray ++ its2.toArray = (its ++ its2).toArray := by simp
  rw [ea]
  exact ⟨.ref _, _, I.lnew (t' := s.toks) (r.append r2) (by rw [List.length_append]; omega), rfl, q _ I.fresh⟩
theorem len_rep {α : Type} (xs : List α) (k : Nat) : (List.replicate k xs).flatten.length = k * xs.length := by
  induction k with
  | zero => simp
  | succ k ih => rw [List.replicate_succ, List.flatten_cons, List.length_append, ih, Nat.succ_mul, Nat.add_comm]
end
section
variable {prog : Program} {w : World} {A : Around} {E : Value → Shared → Prop} {s : Shared}
end
section
variable {X : Cx}
end
end L2
namespace L2
open PySem PySem.Spec PyProof.Rows
section
variable {κ : Type} [DecidableEq κ]
def valV (kvs : List (κ × V)) (k : κ) : Option V := (kvs.find? fun kv => decide (kv.1 = k)).map (·.2)
theorem valV_pos {p : κ × V} {r : List (κ × V)} {k : κ} (e : p.1 = k) : valV (p :: r) k = some p.2 := by simp [valV, List.find?_cons, e]
theorem valV_neg {p : κ × V} {r : List (κ × V)} {k : κ} (e : ¬ p.1 = k) : valV (p :: r) k = valV r k := by simp [valV, List.find?_cons, e]
theorem KV.val {kvs : List (κ × V)} {vs : List (κ × Value)} (r : KV kvs vs) (k : κ) : RelO (valV kvs k) (valueAt vs k) := by
  unfold KV at r
  induction r with
  | nil => exact True.intro
  | @cons p q ps qs h t ih =>
    obtain ⟨h1, h2⟩ := h
    by_cases e : p.1 = k
    · have e' : q.1 = k := h1.symm.trans e
      have b : valueAt (q :: qs) k = some q.2 := by simp [valueAt, List.find?_cons, e']
      rw [valV_pos e, b]; exact h2
    · have e' : ¬ q.1 = k := fun z => e (h1.trans z)
      have b : valueAt (q :: qs) k = valueAt qs k := by simp [valueAt, List.find?_cons, e']
      rw [valV_neg e, b]; exact ih
theorem KV.length {kvs : List (κ × V)} {vs : List (κ × Value)} (r : KV kvs vs) : kvs.length = vs.length := Paired.length r
end
theorem kV_is {P : Program} {w : World} {k : Key} {u : Value} (r : RelV (kV k) u) : (mixKind P w).is k u = true := by
  cases k with
  | inl i => obtain ⟨t, e⟩ := (show ∃ t, u = Value.int i t from r); subst e; exact mixKind_int P w i t
  | inr x => obtain ⟨t, e⟩ := (show ∃ t, u = Value.str x t from r); subst e; exact mixKind_str P w x t
theorem items_are {P : Program} {w : World} : ∀ {ks : List Key} {us : List Value}, Vals (ks.map kV) us → ItemsAre (mixKind P w) ks us
  | [], _, r => by rw [List.map_nil] at r; cases r; exact .nil
  | k :: ks, _, r => by
    rw [List.map_cons] at r
    cases r with
    | cons h t => exact .cons (kV_is h) (items_are t)
abbrev KT (H : Hp) : List (List Key × V) → List (List Key × Addr × Value) → Prop := Paired fun p q => p.1 = q.1 ∧ H q.2.1 = some (.tup (p.1.map kV)) ∧ RelV p.2 q.2.2
theorem KT.val {H : Hp} {kvs : List (List Key × V)} {xs : List (List Key × Addr × Value)} (r : KT H kvs xs) (k : List Key) : RelO (valV kvs k) ((atKey xs k).map (·.2)) := by
  induction r with
  | nil => exact True.intro
  | @cons p q ps qs h t ih =>
    obtain ⟨h1, _, h2⟩ := h
    by_cases e : p.1 = k
    · have e' : q.1 = k := h1.symm.trans e
      have b : atKey (q :: qs) k = some q.2 := by simp [atKey, List.find?_cons, e']
      rw [valV_pos e, b]; exact h2
    · have e' : ¬ q.1 = k := fun z => e (h1.trans z)
      have b : atKey (q :: qs) k = atKey qs k := by simp [atKey, List.find?_cons, e']
      rw [valV_neg e, b]; exact ih
section
variable {P : Program} {w : World} {H : Hp} {h : Heap} {a : Addr}
theorem rd_of {u : HO} (ok : HOk P w H h) (e : Rd H a u) : ObjOk P w H h a u := e.ok ok
theorem dk_rd {kvs : List (Key × V)} (ok : HOk P w H h) (e : Rd H a (.dK kvs)) : kvs.length ≤ sizeLine ∧ (a == sysModules) = false ∧ ∃ vs, KV kvs vs ∧ h.DictOf (mixKind P w) a vs :=
  show ObjOk P w H h a (.dK kvs) from rd_of ok e
theorem key_of {ks : List Key} (ok : HOk P w H h) (e : H a = some (.tup (ks.map kV))) : (tupleKind (mixKind P w)).is h ks a := by
  obtain ⟨_, its, r, p⟩ := (show ObjOk P w H h a (.tup (ks.map kV)) from ok a _ e)
  obtain ⟨o, h1, h2, n, h3⟩ := p.is
  exact ⟨o, its.toArray, n, h1, h2, h3, by simpa using items_are r⟩
theorem dt_rd {kvs : List (List Key × V)} (ok : HOk P w H h) (e : Rd H a (.dT kvs)) : kvs.length ≤ sizeLine ∧ (a == sysModules) = false ∧
    ∃ xs, KT H kvs xs ∧ h.DictOfH (tupleKind (mixKind P w)) a xs := by
  obtain ⟨z, y, xs, r, o, es, ep, h1, h2, h3, h4, h5⟩ := (show ObjOk P w H h a (.dT kvs) from rd_of ok e)
  refine ⟨z, y, xs, r, o, es, ep, h1, h2, h3, h4, fun x hx => ?_, h5⟩
  have all : ∀ {l : List (List Key × V)} {m : List (List Key × Addr × Value)}, KT H l m → ∀ x ∈ m, (tupleKind (mixKind P w)).is h x.1 x.2.1 := by
    intro l m q
    induction q with
    | nil => intro x hx; exact nomatch hx
    | @cons p q ps qs hq t ih =>
      intro x hx
      rcases List.mem_cons.mp hx with e | hx
      · subst e
        exact key_of ok (by rw [← hq.1]; exact hq.2.1)
      · exact ih x hx
  exact all r x hx
end
def DGet (H : Hp) (a : Addr) (y : V) (r : Option V) : Prop :=
  (∃ kvs k, Rd H a (.dK kvs) ∧ y = kV k ∧ r = valV kvs k) ∨ ∃ kvs k b, Rd H a (.dT kvs) ∧ y = .ref b ∧ H b = some (.tup (k.map kV)) ∧ r = valV kvs k
section
variable {X : Cx} {pins : List (Addr × Obj)} {σ : St} {H : Hp} {s : Shared} {a : Addr} {y v : V} {u r : Value} {o : Option V} {A : Around} {E : Value → Shared → Prop}
theorem d_getItem {Q : Value → Shared → Prop} (hu : A.units + 1 < cLine) (I : Inv X pins σ H s) (g : DGet H a y (some v)) (ry : RelV y u) (h : ∀ w' s', Inv X pins σ H s' → RelV v w' → Q w' s') :
    wpAny (model X.prog X.w) A (getItem (.ref a) u) Q E s := by
  rcases g with ⟨kvs, k, e, ey, l⟩ | ⟨kvs, k, b, e, ey, eb, l⟩
  · subst ey
    obtain ⟨z, hd, vs, rel, dd⟩ := dk_rd I.hok e
    obtain ⟨w', hw, rw'⟩ := RelO.some_of (v := v) (o := valueAt vs k) (by rw [l]; exact rel.val k)
    exact wpAny_getItem_of (kV_is ry) dd.mapOf hw (h w' _ (I.tok _) rw')
  · subst ey
    cases (show u = Value.ref b from ry)
    obtain ⟨z, hd, xs, rel, dd⟩ := dt_rd I.hok e
    obtain ⟨w', hw, rw'⟩ := RelO.some_of (v := v) (o := (atKey xs k).map (·.2)) (by rw [l]; exact rel.val k)
    obtain ⟨p, hp, hp2⟩ := Option.map_eq_some_iff.mp hw
    refine wpAny_getItem_heap (tupleKind_room_in1 hu) (key_of I.hok eb) dd hp ?_
    rw [hp2]
    exact h w' _ (I.tok _) rw'
end
section
variable {X : Cx} {pins : List (Addr × Obj)} {σ : St} {H : Hp} {s : Shared} {a : Addr} {kvs : List (Key × V)} {k : Key} {u : Value} {A : Around} {E : Value → Shared → Prop}
theorem d_len {Q : Value → Shared → Prop} (I : Inv X pins σ H s) (e : Rd H a (.dK kvs)) (h : ∀ t s', Inv X pins σ H s' → Q (.int kvs.length t) s') : wpAny (model X.prog X.w) A (call (.builtin "len") [.ref a]) Q E s := by
  obtain ⟨z, hd, vs, rel, dd⟩ := dk_rd I.hok e
  refine call_len_dict hd dd (by rw [← rel.length]; rw [sizeLine_eq] at z; omega) ?_
  rw [← rel.length]
  exact h _ _ (I.tok _)
end
theorem dict_typeIs {X : Cx} {pins : List (Addr × Obj)} {σ : St} {H : Hp} {s : Shared} {a : Addr} {y : V} {o : Option V} (I : Inv X pins σ H s) (g : DGet H a y o) : s.TypeIs (.ref a) "dict" := by
  rcases g with ⟨kvs, k, e, _, _⟩ | ⟨kvs, k, b, e, _, _, _⟩
  · obtain ⟨_, _, vs, _, dd⟩ := dk_rd I.hok e
    exact dd.typeIs
  · obtain ⟨_, _, xs, _, dd⟩ := dt_rd I.hok e
    exact dd.typeIs
section
variable {X : Cx} {o i e value : Expr} {pos pos' tpos : Pos} {td ty tv : TE}
end
section
variable {X : Cx} {pos : Pos}
end
section
variable {X : Cx} {pins : List (Addr × Obj)} {σ : St} {H : Hp} {s : Shared} {a : Addr} {y d : V} {u r : Value} {o : Option V} {A : Around} {E : Value → Shared → Prop}
end
section
variable {X : Cx} {o e f : Expr} {apos cpos : Pos} {td ty tx : TE}
end
section
variable {X : Cx} {pins : List (Addr × Obj)} {σ : St} {H : Hp} {s : Shared} {a : Addr} {kvs : List (Key × V)} {A : Around} {E : Value → Shared → Prop}
end
section
variable {X : Cx} {pins : List (Addr × Obj)} {σ : St} {H : Hp} {s : Shared} {a : Addr} {y : V} {u : Value} {A : Around} {E : Value → Shared → Prop}
end
end L2
namespace Att
open PySem PySem.W PySem.Calls PyProof.Rows
theorem ints_of_wellAll {P : Params} {h : Heap} : ∀ (ns : List Int) (vs : List Value), WellAll P h vs (ns.map WData.int) → IntsAre vs ns := by
  intro ns
  induction ns with
  | nil =>
    intro vs w
    rw [List.map_nil] at w
    cases w
    exact .nil
  | cons n ns ih =>
    intro vs w
    rw [List.map_cons] at w
    cases w with
    | cons a b =>
      cases a
      exact .cons _ _ (ih _ b)
theorem script_of {l : OpenLaw} {n : Nat} (hn : l.most = some n) {P : Params} {h : Heap} {args : List WData} {vals : List Value}
    (hpre : l.row.toRowW.claim.pre args = true) (hwl : WellAll P h vals args) :
    ∃ a vs ns, vals = [Value.ref a] ∧ args = [WData.list (ns.map WData.int)] ∧ h.get? a = some { cls := .type "list", data := .seq vs.toArray } ∧ IntsAre vs ns ∧ ns.length ≤ n := by
  have hsh : WShape.hasAll [] args [.list .int] = true := (pre_splitW hpre).1
  have hc : l.pre.holds [] { args := args } = true := (pre_splitW hpre).2
  obtain ⟨d, r, rfl, h1, h2⟩ := hasAllW_cons hsh
  obtain rfl := hasAllW_nil h2
  obtain ⟨xs, rfl, h3⟩ := hasW_list h1
  obtain ⟨ns, rfl⟩ := items_int h3
  have hlen : ns.length ≤ n := by
    unfold OpenLaw.pre at hc
    have h4 : (WTm.not (.lt (.lit (.int (n : Int))) (.len (.arg 0)))).holds [] { args := [.list (ns.map .int)] } = true := by
      have h4 := (holds_andW hc).1
      rw [hn] at h4
      exact h4
    have h5 := condW_of h4 (w_not (w_lt w_lit (w_len_list (w_arg rfl))))
    rw [List.length_map] at h5
    refine Nat.le_of_not_lt fun q => ?_
    have q' : (n : Int) < ((ns.length : Nat) : Int) := by omega
    first
      | (rw [decide_eq_true q'] at h5; exact absurd h5 (by decide))
      | (simp at h5; omega)
  cases hwl with
  | cons w1 w2 =>
    cases w2
    cases w1 with
    | list ho hall => exact ⟨_, _, ns, rfl, rfl, ho, ints_of_wellAll ns _ hall, hlen⟩
theorem post_true (l : OpenLaw) (args : List WData) : l.row.toRowW.claim.post args (.bool true) args = true :=
  postW_of (r := l.row.toRowW) (X := (true == true))
    (show WShape.has [] (.bool true) .bool = true by first | rfl | decide | simp [WShape.has, WShape.arms, WShape.armsAll])
    (show (WTm.eq .res (.lit (.bool true))).value [] { args := args, res := some (.bool true), after := args } = some (.bool (true == true)) from w_eq_bool (w_res rfl) w_lit) rfl
theorem attach_call {l : OpenLaw} {n : Nat} {q : Program} {loose : List Str} {XP : (Str → Option Value) → Heap → Prop} {YP : World → Heap → Prop} {d : DefRec}
    (hn : l.most = some n) (hdf : d.params.defaults = [])
    (call : ∀ (w : World) (s₀ s₁ : Shared) (mg mb : Str → Option Value) (fa : Addr) (o : Obj) (pm cd doc : Value) (a : Addr) (vs : List Value) (ns : List Int),
      Ground q loose [] XP w s₀ mg mb s₁.heap → YP w s₁.heap →
      s₁.heap.get? fa = some o → o.data = .func (docDef d.name d.params d.body d.scope pm cd doc) → s₁.heap.CodeRec cd d.name → mg d.name = some (.ref fa) →
      s₁.heap.get? a = some { cls := .type "list", data := .seq vs.toArray } → IntsAre vs ns → ns.length ≤ n → s₁.gens = #[] →
      codeAny (model l.prog w) callerA (.call (.ref fa) ⟨[.ref a], []⟩) (fun r s' => r = .ok (.ret (.bool true)) ∧ OldK s₁.heap s'.heap ∧ s'.os = s₁.os ∧ AllBare s'.gens) s₁) :
    WalkO q loose XP YP l.row.toRowW d [] (fun f vs => PySem.call f vs) := by
  intro w s₀ s₁ mg mb G Y fa o pm cd doc dV kV ho hd hcd hD hmg hg args vals as hpre hlay hrd hwl hlo
  obtain rfl : dV = .none := Dflts.none hD hdf
  obtain rfl : kV = .none := Dflts.noKw hD
  obtain ⟨a, vs, ns, rfl, rfl, hobj, hints, hlen⟩ := script_of hn hpre hwl
  refine enter_call (codeAny_mono (call w s₀ s₁ mg mb fa o pm cd doc a vs ns G Y ho (fd_plain hd) hcd hmg hobj hints hlen hg) fun r s' hq => ?_)
  obtain ⟨rfl, h2, h3, h4⟩ := hq
  exact ⟨.inl ⟨.bool true, .bool true, [], rfl, fun _ => rfl, .bool true, post_true l _, fun _ => ⟨List.Pairwise.nil, fun _ hm => (nomatch hm)⟩⟩, h2, h3, h4⟩
section
variable {prog : Program} {w : World} {A : Around} {E : Value → Shared → Prop} {s : Shared} {K : Frag}
end
end Att
namespace L2
open PySem PySem.Spec PyProof.Rows
theorem vals_ints : ∀ {vs : List Value} {ns : List Int}, IntsAre vs ns → Vals (ns.map V.int) vs
  | _, _, .nil => .nil
  | _, _, .cons n t h => .cons ⟨t, rfl⟩ (vals_ints h)
def Only (H : Hp) : Prop := ∀ b, H b = none ∨ ∃ o xs, H b = some (.frz o (.lst xs))
theorem law_call {P : Program} {w : World} {K : PySem.W.Frag} {mg mb : Str → Option Value} {CX : CXT} {k : Nat} {fa a : Addr} {fd : FuncData} {x : Str} {sp : Sp} {s₁ : Shared} {vs : List Value} {ns : List Int}
    (KX : K.In s₁.heap) (hns : s₁.heap.Ns mainGlobals mg) (hb : s₁.heap.Ns builtinsNs mb) (hbb : ∀ x : Str, x ≠ "__name__" → mb x = bootBuiltins x) (hlim : s₁.heap.NoLimit) (hg : s₁.gens = #[])
    (ha : s₁.heap.get? a = some { cls := .type "list", data := .seq vs.toArray }) (hi : IntsAre vs ns) (hl : ns.length ≤ sizeLine) (hr : Room k callerA)
    (F : ∀ base : Heap, K.In base → base.Ns mainGlobals mg → FnOk P w K mg base CX k fa fd [x] sp) (hbind : ∀ (s : Shared) (u : Value), BindsTo s fd ⟨[u], []⟩ [(x, u)])
    (hsp : ∀ H : Hp, Only H → SqL K H a (ns.map V.int) → sp [.ref a] H (fun v _ => v = .bl true) fun _ _ _ => False)
    (hCX : ∀ H e s', CX [] H s₁ (fun _ _ _ => False) e s' → False) :
    codeAny (model P w) callerA (.call (.ref fa) ⟨[.ref a], []⟩) (fun r s' => r = .ok (.ret (.bool true)) ∧ OldK s₁.heap s'.heap ∧ s'.os = s₁.os ∧ AllBare s'.gens) s₁ := by
  have rv := vals_ints hi
  have lenV := hi.length
  have core : ∀ H : Hp, Only H → SqL K H a (ns.map V.int) → HOk P w H s₁.heap → (∀ b, H b ≠ none → b = a) → (H a ≠ none → K.lookup a = none) →
      codeAny (model P w) callerA (.call (.ref fa) ⟨[.ref a], []⟩) (fun r s' => r = .ok (.ret (.bool true)) ∧ OldK s₁.heap s'.heap ∧ s'.os = s₁.os ∧ AllBare s'.gens) s₁ := by
    intro H hO hS hok hA hK
    have base_of : ∀ {b : Addr} {o : Obj}, s₁.heap.get? b = some o → H b = none → (hidT s₁.heap H).get? b = some o := fun e n => hidT_get e n
    have noA : ∀ {b : Addr} {o : Obj} {es : Array DictEntry} {ep : Nat}, s₁.heap.get? b = some o → o.data = .dict es ep → H b = none := fun {b o es ep} e d => by
      cases q : H b with
      | none => rfl
      | some u =>
        have e' : b = a := hA b (by rw [q]; simp)
        subst e'
        rw [ha] at e; cases e
        have d' : Data.seq vs.toArray _ = Data.dict es ep := d
        cases d'
    have nsK : ∀ {b : Addr} {m : Str → Option Value}, s₁.heap.Ns b m → (hidT s₁.heap H).Ns b m := fun {b m} ⟨o, es, ep, e, d, r⟩ => ⟨o, es, ep, base_of e (noA e d), d, r⟩
    have hKb : K.In (hidT s₁.heap H) := fun b o e => base_of (KX b o e) (by
      cases q : H b with
      | none => rfl
      | some u =>
        have e' : b = a := hA b (by rw [q]; simp)
        subst e'
        rw [hK (by rw [q]; simp)] at e; cases e)
    have hM : Mod K mg (hidT s₁.heap H) := ⟨hKb, nsK hns, ⟨mb, nsK hb, hbb⟩, let ⟨mc, h1, h2⟩ := hlim; ⟨mc, nsK h1, h2⟩⟩
    have e0 : Env0 P w K mg (hidT s₁.heap H) callerA [] s₁ H := ⟨rfl, hM, fun b o e => of_hidT e, Nat.le_of_eq (hidT_size _ _), trivial, fun b hb => absurd (show b ∈ ([] : List Addr) from hb) (by simp), hok, .of_eq hg⟩
    refine codeAny_mono ((F _ hKb (nsK hns)).run callerA [] s₁ H ⟨[.ref a], []⟩ [.ref a] [.ref a] _ _ hr e0 (hbind s₁ (.ref a)) (.cons rfl .nil) (hsp H hO hS)) fun r s' h => ?_
    cases r with
    | error e => exact (hCX H e s' h).elim
    | ok fl =>
      cases fl with
      | next => exact False.elim h
      | brk => exact False.elim h
      | cont => exact False.elim h
      | ret u =>
        obtain ⟨v, H', os, bare, un, hok', r', q⟩ := h
        have q' : v = .bl true := q
        subst q'
        obtain rfl : u = Value.bool true := r'
        refine ⟨rfl, OldK.of_keep fun b o e => ?_, os, bare⟩
        cases q : H b with
        | none => exact un.keep b o e q (by intro z; exact absurd (show b ∈ ([] : List Addr) from z) (by simp)) (by simp)
        | some u =>
          rcases hO b with z | ⟨ob, xs, z⟩
          · rw [q] at z; cases z
          · have z2 := un.frzs b ob _ z
            obtain ⟨e1, _⟩ := hok b _ z
            obtain ⟨e2, _⟩ := hok' b _ z2
            rw [e] at e1; cases e1
            exact e2
  cases hk : K.lookup a with
  | some o =>
    have e := KX a o hk
    rw [ha] at e
    cases e
    refine core (fun _ => none) (fun _ => .inl rfl) (.inr ⟨_, vs.toArray, _, hk, rfl, rfl, rfl, by rw [List.size_toArray, lenV]; exact hl, by simpa using rv⟩) (fun b u z => by have z' : (none : Option HO) = some u := z; cases z') (fun b z => absurd rfl z) fun z => absurd rfl z
  | none =>
    refine core (fun b => if b = a then some (.frz { cls := .type "list", data := .seq vs.toArray } (.lst (ns.map V.int))) else none) (fun b => ?_) (.inl (.inr ⟨{ cls := .type "list", data := .seq vs.toArray }, if_pos rfl⟩)) (fun b u z => ?_) (fun b z => ?_) fun _ => hk
    · by_cases hb : b = a
      · exact .inr ⟨_, _, if_pos hb⟩
      · exact .inl (if_neg hb)
    · by_cases hb : b = a
      · have z' := (if_pos hb).symm.trans z
        cases z'
        subst hb
        exact ⟨ha, by rw [List.length_map]; exact hl, vs, _, rv, ha⟩
      · have z' := (if_neg hb).symm.trans z
        cases z'
    · by_cases hb : b = a
      · exact hb
      · exact absurd (if_neg hb) z
end L2
namespace L2
open PySem PySem.Spec PyProof.Rows
theorem walk_of {l : PySem.W.OpenLaw} {n k : Nat} {q : Program} {loose : List Str} {XP : (Str → Option Value) → Heap → Prop} {YP : World → Heap → Prop} {d : DefRec} {K : Params → PySem.W.Frag} {CX : World → CXT} {sp : World → Sp} {x : Str}
    (hn : l.most = some n) (hn2 : n ≤ sizeLine) (hdf : d.params.defaults = []) (hr : Room k callerA)
    (hY : ∀ (w : World) (h : Heap), YP w h → (K w.params).In h)
    (F : ∀ (w : World) (mg : Str → Option Value) (fa : Addr) (h : Heap), (K w.params).In h → h.Ns mainGlobals mg → mg d.name = some (.ref fa) →
      ∃ fd : FuncData, (∀ (s : Shared) (u : Value), BindsTo s fd ⟨[u], []⟩ [(x, u)]) ∧
        ∀ base : Heap, (K w.params).In base → base.Ns mainGlobals mg → FnOk l.prog w (K w.params) mg base (CX w) k fa fd [x] (sp w))
    (hsp : ∀ (w : World) (H : Hp) (a : Addr) (ns : List Int), ns.length ≤ n → Only H → SqL (K w.params) H a (ns.map V.int) → sp w [.ref a] H (fun v _ => v = .bl true) fun _ _ _ => False)
    (hCX : ∀ (w : World) (H : Hp) (s : Shared) (e : Value) (s' : Shared), CX w [] H s (fun _ _ _ => False) e s' → False) :
    PySem.W.WalkO q loose XP YP l.row.toRowW d [] (fun f vs => PySem.call f vs) := by
  refine Att.attach_call hn hdf fun w s₀ s₁ mg mb fa o pm cd doc a vs ns G Y ho hd hcd hmg hobj hints hlen hg => ?_
  have KX := hY w _ Y
  obtain ⟨fd, hb, hF⟩ := F w mg fa _ KX G.T.g hmg
  exact law_call KX G.T.g G.T.b G.T.builtins G.T.nolimit hg hobj hints (Nat.le_trans hlen hn2) hr hF hb (fun H hO hS => hsp w H a ns hlen hO hS) fun H e s' => hCX w H s₁ e s'
end L2
namespace L2
open PySem PySem.Spec PyProof.Rows
def defArgs (s : Stmt) : Arguments := match s with
  | .FunctionDef _ a _ _ _ _ _ _ _ _ => a
  | _ => { posonlyargs := [], args := [], vararg := none, kwonlyargs := [], kw_defaults := [], kwarg := none, defaults := [] }
def defBody (s : Stmt) : List Stmt := match s with
  | .FunctionDef _ _ b _ _ _ _ _ _ _ => b
  | _ => []
def defScope (s : Stmt) : Scope := match s with
  | .FunctionDef _ _ _ _ _ _ sc _ _ _ => sc
  | _ => { kind := .function, names := [], isGenerator := false, isCoroutine := false }
abbrev CX0 : CXT := fun _ _ _ _ _ _ => False
abbrev E0 : XK := fun _ _ _ => False
structure Fun (K : PySem.W.Frag) (x qual : Str) (st : Stmt) (f : Addr) (fd : FuncData) : Prop where
  ex : ∃ (oc : Value) (od : Option Addr) (kV doc pm : Value) (an : Option Addr) (cdv ct : Value) (osl : Array (Option Value)),
    fd = PySem.W.fnOf x qual (defArgs st) (defBody st) (defScope st) .none kV doc pm an cdv ct ∧ K.lookup f = some ⟨oc, od, .func fd, osl⟩ ∧ PySem.W.codeIn K cdv qual = true
  kp : PySem.W.keepIn K (.ref f) = true
section
variable {P : Program} {w : World} {K : PySem.W.Frag} {mg : Str → Option Value} {base : Heap}
theorem Fun.binds {x qual : Str} {st : Stmt} {f : Addr} {fd : FuncData} {ps : List Str} (F : Fun K x qual st f fd)
    (h : ∀ (kV doc pm : Value) (an : Option Addr) (cdv ct : Value) (us : List Value), us.length = ps.length → bindArgs (PySem.W.fnOf x qual (defArgs st) (defBody st) (defScope st) .none kV doc pm an cdv ct) ⟨us, []⟩ = pure (ps.zip us)) : Binds K fd ps [] := by
  obtain ⟨oc, od, kV, doc, pm, an, cdv, ct, osl, rfl, lk, hcd⟩ := F.ex
  exact .all (h kV doc pm an cdv ct)
theorem fun_mk {x qual : Str} {st : Stmt} {f : Addr} {oc : Value} {od an : Option Addr} {osl : Array (Option Value)} {kV doc pm cdv ct : Value} (l : K.lookup f = some ⟨oc, od, .func (PySem.W.fnOf x qual (defArgs st) (defBody st) (defScope st) .none kV doc pm an cdv ct), osl⟩)
    (c : PySem.W.codeIn K cdv qual = true) (k : PySem.W.keepIn K (.ref f) = true) : Fun K x qual st f (PySem.W.fnOf x qual (defArgs st) (defBody st) (defScope st) .none kV doc pm an cdv ct) := ⟨⟨oc, od, kV, doc, pm, an, cdv, ct, osl, rfl, l, c⟩, k⟩
end
section
variable {X : Cx}
theorem call_lenD : CallR X (.builtin "len") (fun xs H Q => ∃ a kvs, xs = [V.ref a] ∧ H a = some (.dK kvs) ∧ Q (.int kvs.length) H) := by
  intro pins s σ H xs us Q I r h
  obtain ⟨a, kvs, rfl, ha, q⟩ := h
  obtain ⟨u, rfl, ru⟩ := vals1 r
  cases ru
  exact d_len I (.inl ha) fun t s' I' => ⟨.int kvs.length, H, I', ⟨t, rfl⟩, q⟩
end
theorem iteF {A B : Prop} (h : B) : if false = true then A else B := by
  rw [if_neg Bool.false_ne_true]
  exact h
theorem iteT {A B : Prop} (h : A) : if true = true then A else B := by
  rw [if_pos rfl]
  exact h
section
variable {κ : Type} [DecidableEq κ]
end
end L2
namespace PySem
open Sem (wp)
namespace ZL
section
variable {prog : Program} {w : World} {A : Around} {E : Value → Shared → Prop} {s : Shared}
end
namespace F
end F
section
variable {prog : Program} {w : World} {A : Around} {s : Shared} {R : Result → Shared → Prop} {z TI TO i1 i2 l1 l2 base S : Addr} {xs ys : Array Value}
end
section
variable {prog : Program} {w : World} {A : Around} {E : Value → Shared → Prop} {s : Shared}
end
end ZL
end PySem
namespace L2
open PySem PySem.Spec PyProof.Rows
def freesOf : List (Str × NameKind) → List Str
  | [] => []
  | (n, k) :: r => if (k == NameKind.free) = true then n :: freesOf r else freesOf r
def clFrom (env : Env) : List (Str × NameKind) → List (Str × Addr) → List (Str × Addr)
  | [], acc => acc
  | (n, k) :: r, acc => if (k == NameKind.free) = true then clFrom env r ((n, (env.cells.lookup n).getD 0) :: acc) else clFrom env r acc
theorem closure_loop {env : Env} {f : (Str × NameKind) → List (Str × Addr) → Sem (ForInStep (List (Str × Addr)))}
    (h1 : ∀ n k cs c, (k == NameKind.free) = true → env.cells.lookup n = some c → f (n, k) cs = pure (.yield ((n, c) :: cs))) (h2 : ∀ n k cs, (k == NameKind.free) = false → f (n, k) cs = pure (.yield cs)) :
    ∀ (names : List (Str × NameKind)) (acc : List (Str × Addr)), (∀ n ∈ freesOf names, ∃ c, env.cells.lookup n = some c) → forIn names acc f = pure (clFrom env names acc)
  | [], acc, _ => by rw [List.forIn_nil]; rfl
  | (n, k) :: r, acc, h => by
    rw [List.forIn_cons]
    cases e : (k == NameKind.free) with
    | true =>
      have hf : freesOf ((n, k) :: r) = n :: freesOf r := by show (if (k == NameKind.free) = true then n :: freesOf r else freesOf r) = _; rw [if_pos e]
      obtain ⟨c, hc⟩ := h n (by rw [hf]; exact List.mem_cons_self)
      rw [h1 n k acc c e hc, pure_bind]
      show forIn r ((n, c) :: acc) f = _
      rw [closure_loop h1 h2 r _ fun m hm => h m (by rw [hf]; exact List.mem_cons_of_mem _ hm)]
      have hcl : clFrom env ((n, k) :: r) acc = clFrom env r ((n, (env.cells.lookup n).getD 0) :: acc) := by
        show (if (k == NameKind.free) = true then _ else _) = _
        rw [if_pos e]
      rw [hcl, hc]
      rfl
    | false =>
      have hf : freesOf ((n, k) :: r) = freesOf r := by show (if (k == NameKind.free) = true then n :: freesOf r else freesOf r) = _; rw [if_neg (by rw [e]; decide)]
      rw [h2 n k acc e, pure_bind]
      show forIn r acc f = _
      rw [closure_loop h1 h2 r _ fun m hm => h m (by rw [hf]; exact hm)]
      have hcl : clFrom env ((n, k) :: r) acc = clFrom env r acc := by
        show (if (k == NameKind.free) = true then _ else _) = _
        rw [if_neg (by rw [e]; decide)]
      rw [hcl]
theorem closure_is {scope : Scope} {env : Env} (h : ∀ n ∈ freesOf scope.names, ∃ c, env.cells.lookup n = some c) : closureFor scope env = pure (clFrom env scope.names []) := by
  unfold closureFor
  show (forIn scope.names [] _ >>= _) = _
  rw [closure_loop (env := env) (fun n k cs c hk hc => ?_) (fun n k cs hk => ?_) scope.names [] h]
  · exact pure_bind _ _
  · dsimp only
    rw [if_pos hk]
    unfold cellOf
    rw [hc]
    rfl
  · dsimp only
    rw [if_neg (by rw [hk]; decide)]
theorem clFrom_lookup {env : Env} {x : Str} : ∀ (names : List (Str × NameKind)) (acc : List (Str × Addr)), (∀ n ∈ freesOf names, ∃ c, env.cells.lookup n = some c) →
    (clFrom env names acc).lookup x = if x ∈ freesOf names then env.cells.lookup x else acc.lookup x
  | [], acc, _ => by simp [clFrom, freesOf]
  | (n, k) :: r, acc, h => by
    cases e : (k == NameKind.free) with
    | true =>
      have hf : freesOf ((n, k) :: r) = n :: freesOf r := by show (if (k == NameKind.free) = true then n :: freesOf r else freesOf r) = _; rw [if_pos e]
      obtain ⟨c, hc⟩ := h n (by rw [hf]; exact List.mem_cons_self)
      have hcl : clFrom env ((n, k) :: r) acc = clFrom env r ((n, (env.cells.lookup n).getD 0) :: acc) := by
        show (if (k == NameKind.free) = true then _ else _) = _
        rw [if_pos e]
      rw [hcl, hf, clFrom_lookup r _ fun m hm => h m (by rw [hf]; exact List.mem_cons_of_mem _ hm)]
      by_cases hr : x ∈ freesOf r
      · rw [if_pos hr, if_pos (List.mem_cons_of_mem _ hr)]
      · rw [if_neg hr]
        by_cases hx : x = n
        · subst hx
          rw [if_pos List.mem_cons_self, hc]
          simp
        · rw [if_neg (by intro z; rcases List.mem_cons.mp z with z | z; exact hx z; exact hr z)]
          have hb : (x == n) = false := by simpa using hx
          rw [List.lookup_cons, hb]
    | false =>
      have hf : freesOf ((n, k) :: r) = freesOf r := by show (if (k == NameKind.free) = true then n :: freesOf r else freesOf r) = _; rw [if_neg (by rw [e]; decide)]
      have hcl : clFrom env ((n, k) :: r) acc = clFrom env r acc := by
        show (if (k == NameKind.free) = true then _ else _) = _
        rw [if_neg (by rw [e]; decide)]
      rw [hcl, hf, clFrom_lookup r _ fun m hm => h m (by rw [hf]; exact hm)]
structure CScope (X : Cx) (scope : Scope) (frees : List Str) : Prop where
  kind : scope.kind = .function
  nocell : ∀ y ∈ scope.names, y.2 ≠ .cell
  locs : ∀ y ∈ scope.names, y.2 = .local → scope.names.lookup y.1 = some .local
  sub : ∀ n ∈ freesOf scope.names, n ∈ frees
  free : ∀ n ∈ frees, scope.names.lookup n = some .free
  kinds : (frees.all fun n => X.env.kindOf n == some .cell || X.env.kindOf n == some .free) = true
theorem CScope.frees {X : Cx} {scope : Scope} {fr : List Str} (S : CScope X scope fr) : ∀ n ∈ freesOf scope.names, X.env.kindOf n = some .cell ∨ X.env.kindOf n = some .free := fun n hn => by
  have h := List.all_eq_true.mp S.kinds n (S.sub n hn)
  rcases Bool.or_eq_true _ _ ▸ h with h | h
  · exact .inl (eq_of_beq h)
  · exact .inr (eq_of_beq h)
theorem mem_freesOf {x : Str} : ∀ {names : List (Str × NameKind)}, (x, NameKind.free) ∈ names → x ∈ freesOf names
  | (n, k) :: r, h => by
    unfold freesOf
    rcases List.mem_cons.mp h with e | e
    · injection e with e1 e2
      subst e1 e2
      rw [if_pos (by rfl)]
      exact List.mem_cons_self
    · split
      · exact List.mem_cons_of_mem _ (mem_freesOf e)
      · exact mem_freesOf e
theorem relabel_lookup {env : Env} {x : Str} : ∀ {names : List (Str × NameKind)} {k : NameKind}, (names.map fun (n, k) => if (k == NameKind.free && env.scope.kind == .function && env.kindOf n == some .cell) then (n, NameKind.cell) else (n, k)).lookup x = some k →
    ∃ k0, names.lookup x = some k0 ∧ (k = k0 ∨ (k0 = .free ∧ k = .cell))
  | [], k, h => by simp at h
  | (n, k1) :: r, k, h => by
    rw [List.map_cons] at h
    by_cases hx : (x == n) = true
    · by_cases hc : (k1 == NameKind.free && env.scope.kind == .function && env.kindOf n == some .cell) = true
      · dsimp only at h
        rw [if_pos hc, List.lookup_cons, hx] at h
        have e : k = .cell := by injection h with h; exact h.symm
        have e1 : k1 = .free := by
          have := (Bool.and_eq_true _ _ ▸ (Bool.and_eq_true _ _ ▸ hc).1).1
          exact eq_of_beq this
        exact ⟨k1, by rw [List.lookup_cons, hx], .inr ⟨e1, e⟩⟩
      · dsimp only at h
        rw [if_neg hc, List.lookup_cons, hx] at h
        injection h with h
        exact ⟨k1, by rw [List.lookup_cons, hx], .inl h.symm⟩
    · have hx' : (x == n) = false := by simpa using hx
      have h' : (List.map (fun (n, k) => if (k == NameKind.free && env.scope.kind == .function && env.kindOf n == some .cell) then (n, NameKind.cell) else (n, k)) r).lookup x = some k := by
        by_cases hc : (k1 == NameKind.free && env.scope.kind == .function && env.kindOf n == some .cell) = true
        · dsimp only at h; rw [if_pos hc, List.lookup_cons, hx'] at h; exact h
        · dsimp only at h; rw [if_neg hc, List.lookup_cons, hx'] at h; exact h
      obtain ⟨k0, e1, e2⟩ := relabel_lookup h'
      exact ⟨k0, by rw [List.lookup_cons, hx']; exact e1, e2⟩
theorem relabel_free {env : Env} {x : Str} : ∀ {names : List (Str × NameKind)}, names.lookup x = some .free →
    (names.map fun (n, k) => if (k == NameKind.free && env.scope.kind == .function && env.kindOf n == some .cell) then (n, NameKind.cell) else (n, k)).lookup x = some .cell ∨
    (names.map fun (n, k) => if (k == NameKind.free && env.scope.kind == .function && env.kindOf n == some .cell) then (n, NameKind.cell) else (n, k)).lookup x = some .free
  | [], h => by simp at h
  | (n, k1) :: r, h => by
    rw [List.map_cons]
    by_cases hx : (x == n) = true
    · rw [List.lookup_cons, hx] at h
      injection h with h
      subst h
      by_cases hc : (NameKind.free == NameKind.free && env.scope.kind == .function && env.kindOf n == some .cell) = true
      · left; dsimp only; rw [if_pos hc, List.lookup_cons, hx]
      · right; dsimp only; rw [if_neg hc, List.lookup_cons, hx]
    · have hx' : (x == n) = false := by simpa using hx
      rw [List.lookup_cons, hx'] at h
      have ih := relabel_free (env := env) h
      by_cases hc : (k1 == NameKind.free && env.scope.kind == .function && env.kindOf n == some .cell) = true
      · dsimp only; rw [if_pos hc, List.lookup_cons, hx']; exact ih
      · dsimp only; rw [if_neg hc, List.lookup_cons, hx']; exact ih
structure CP where
  C : Addr
  s : Shared
  H : Hp
  pins : List (Addr × Obj)
  fp : List Addr
def cxC (X : Cx) (NC : List Str) (scope : Scope) (c : CP) : Cx where
  prog := X.prog
  w := X.w
  K := X.K
  mg := X.mg
  base := X.base
  A := X.A
  N := NC
  s₀ := c.s
  H₀ := c.H
  env := compEnvC scope (clFrom X.env scope.names []) c.C X.env
  outer := X.stack
  stack := X.stack
  ex := c.fp
  fn := fun _ => false
  calm := true
  pn := X.pn ++ c.pins
  xe := fun _ _ => False
section
variable {X : Cx} {scope : Scope} {frees : List Str} {NC : List Str} {pins : List (Addr × Obj)} {σ σc : St} {H H' : Hp} {s s' : Shared} {fp : List Addr} {C : Addr}
theorem CScope.has (S : CScope X scope frees) (ok : X.Ok) : ∀ n ∈ freesOf scope.names, ∃ c, X.env.cells.lookup n = some c := fun n hn => ok.has n (S.frees n hn)
theorem CScope.cells (S : CScope X scope frees) (ok : X.Ok) {x : Str} {c : Addr} (h : (clFrom X.env scope.names []).lookup x = some c) : x ∈ freesOf scope.names ∧ X.env.cells.lookup x = some c := by
  rw [clFrom_lookup scope.names [] (S.has ok)] at h
  by_cases hx : x ∈ freesOf scope.names
  · rw [if_pos hx] at h; exact ⟨hx, h⟩
  · rw [if_neg hx] at h; simp at h
theorem cxC_ok (S : CScope X scope frees) (hc : X.calm = true) (I : Inv X pins σ H s) (hf : ∀ b ∈ fp, FpOk X pins H b ∧ b < s.heap.objs.size) (hC : C = s.heap.objs.size) : (cxC X NC scope ⟨C, s, H, pins, fp⟩).Ok where
  mod := I.ok.mod
  kind := S.kind
  glob := I.ok.glob
  blt := I.ok.blt
  above := by show s.heap.objs.size ≤ C; rw [hC]; exact Nat.le_refl _
  inj := fun x y c h1 h2 => I.ok.inj x y c (S.cells I.ok h1).2 (S.cells I.ok h2).2
  has := fun x hx => by
    have hx' : ∃ k, (relabel scope X.env).names.lookup x = some k ∧ (k = .cell ∨ k = .free) := by
      rcases hx with h | h
      · exact ⟨_, h, .inl rfl⟩
      · exact ⟨_, h, .inr rfl⟩
    obtain ⟨k, h, hk⟩ := hx'
    obtain ⟨k0, e0, e1⟩ := relabel_lookup h
    have hm := PySem.mem_of_lookup e0
    have k0f : k0 = .free := by
      rcases e1 with e1 | ⟨e1, _⟩
      · rcases hk with hk | hk
        · exact absurd (e1 ▸ hk : k0 = .cell) (S.nocell _ hm)
        · exact e1 ▸ hk
      · exact e1
    subst k0f
    have hx2 := mem_freesOf hm
    obtain ⟨c, hcc⟩ := S.has I.ok x hx2
    exact ⟨c, by show (clFrom X.env scope.names []).lookup x = some c; rw [clFrom_lookup scope.names [] (S.has I.ok), if_pos hx2]; exact hcc⟩
  cab := fun x c h => nomatch h
  hd := fun _ => I.ok.hd hc
  frames := I.ok.frames
  stk := .inl rfl
  exf := fun b hb => ⟨fun z => by have := (hf b hb).2; rw [z] at this; exact absurd (hC ▸ this) (Nat.lt_irrefl _), fun x c h => (hf b hb).1.2.2.2.2.1 x c (S.cells I.ok h).2⟩
  bs := I.bs
  bsz := Nat.le_trans I.ok.bsz I.sz
  noex := fun b o e hb => by
    rcases (hf b hb).1.2.2.2.1 with z | z
    · exact I.ok.noex b o e z
    · exact absurd (Nat.lt_of_lt_of_le (Heap.lt_size e) (Nat.le_trans I.ok.bsz z)) (Nat.lt_irrefl _)
  exfs := fun b hb z => by
    rcases List.mem_cons.mp (I.stkSub b z) with e | e
    · exact (hf b hb).1.2.1 e
    · exact (hf b hb).1.2.2.1 e
  funs := I.stack
  frf := I.stkFree
def stC (own : List Str) (ix : List Nat) (σ : St) : St := own.map (fun _ => none) ++ ix.map fun i => (σ[i]?).join
theorem stC_get {own frees : List Str} {ix : List Nat} {σ : St} {NX : List Str} (hN : ix.map (fun i => NX[i]?) = frees.map some) {j : Nat} {x : Str} {v : V} (h1 : (own ++ frees)[j]? = some x) (h2 : (stC own ix σ)[j]? = some (some v)) :
    x ∈ frees ∧ ∃ i : Nat, NX[i]? = some x ∧ σ[i]? = some (some v) := by
  have hl : ix.length = frees.length := by have := congrArg List.length hN; simpa using this
  unfold stC at h2
  by_cases hj : j < own.length
  · rw [List.getElem?_append_left (by simpa using hj), List.getElem?_map] at h2
    cases e : own[j]? with
    | none => rw [e] at h2; simp at h2
    | some o => rw [e] at h2; simp at h2
  · rw [List.getElem?_append_right (by simpa using hj), List.getElem?_map, List.length_map] at h2
    rw [List.getElem?_append_right (by omega)] at h1
    have hm : (ix.map (fun i => NX[i]?))[j - own.length]? = (frees.map some)[j - own.length]? := by rw [hN]
    rw [List.getElem?_map, List.getElem?_map, h1] at hm
    cases e : ix[j - own.length]? with
    | none => rw [e] at h2; simp at h2
    | some i =>
      rw [e] at h2 hm
      simp only [Option.map_some, Option.some.injEq] at h2 hm
      refine ⟨List.mem_of_getElem? h1, i, hm, ?_⟩
      cases q : σ[i]? with
      | none => rw [q] at h2; simp at h2
      | some o => rw [q] at h2; simp at h2; rw [h2]
theorem stC_len {own frees : List Str} {ix : List Nat} {σ : St} {NX : List Str} (hN : ix.map (fun i => NX[i]?) = frees.map some) : (stC own ix σ).length = (own ++ frees).length := by
  have hl : ix.length = frees.length := by have := congrArg List.length hN; simpa using this
  unfold stC
  simp [hl]
theorem cxC_inv {own : List Str} {ix : List Nat} {h₁ : Heap} {tk : Nat} (S : CScope X scope frees) (hc : X.calm = true) (I : Inv X pins σ H s) (hf : ∀ b ∈ fp, FpOk X pins H b ∧ b < s.heap.objs.size) (hC : C = s.heap.objs.size)
    (hN : ix.map (fun i => X.N[i]?) = frees.map some) (hns : ∃ m, h₁.Ns C m) (hk : ∀ b o, s.heap.get? b = some o → h₁.get? b = some o) :
    Inv (cxC X (own ++ frees) scope ⟨C, s, H, pins, fp⟩) [] (stC own ix σ) H { s with heap := h₁, toks := tk } := by
  obtain ⟨m, hm⟩ := hns
  refine ⟨cxC_ok S hc I hf hC, rfl, I.bare, Un.kept hk, ⟨m, hm, fun j x v h1 h2 h3 => ?_⟩, fun x c h => ?_, ?_, fun x c h => ?_, fun p hp => ?_, I.hok.kept hk, stC_len hN⟩
  · obtain ⟨hx, i, e1, e2⟩ := stC_get hN h1 h2
    have hfree := S.free x hx
    have hmf := mem_freesOf (PySem.mem_of_lookup hfree)
    have hkx := S.frees x hmf
    obtain ⟨m0, _, hl⟩ := I.loc
    have vis : Vis X.env.scope x := by rcases hkx with z | z; exact .inr (.inl z); exact .inr (.inr z)
    obtain ⟨u, r, l⟩ := hl i x v e1 e2 vis
    refine ⟨u, r, ?_⟩
    rcases l with ⟨kl, _⟩ | ⟨_, c, ec, ic⟩
    · rcases hkx with z | z
      · rw [kl] at z; cases z
      · rw [kl] at z; cases z
    · refine .inr ⟨relabel_free (env := X.env) hfree, c, ?_, ?_⟩
      · show (clFrom X.env scope.names []).lookup x = some c
        rw [clFrom_lookup scope.names [] (S.has I.ok), if_pos hmf]
        exact ec
      · obtain ⟨o, ho, hd⟩ := ic
        exact ⟨o, hk _ _ ho, hd⟩
  · obtain ⟨_, e⟩ := S.cells I.ok h
    obtain ⟨v, o, ho, hd⟩ := I.cell x c e
    exact ⟨v, o, hk _ _ ho, hd⟩
  · show H C = none
    rw [hC]
    exact I.hok.fresh (Nat.le_refl _)
  · exact I.freeC x c (S.cells I.ok h).2
  · have hp' : p ∈ X.pn ++ pins := by
      have : p ∈ (X.pn ++ pins) ++ [] := hp
      rwa [List.append_nil] at this
    obtain ⟨e, n, ne, nf, d⟩ := I.pin p hp'
    refine ⟨hk _ _ e, n, ?_, fun z => ?_, d⟩
    · show p.1 ≠ C
      rw [hC]
      exact Nat.ne_of_lt (Heap.lt_size e)
    · rcases List.mem_cons.mp (I.stkSub p.1 z) with q | q
      · exact ne q
      · exact nf q
theorem cxC_fp {NC : List Str} (S : CScope X scope frees) (I : Inv X pins σ H s) (hf : ∀ b ∈ fp, FpOk X pins H b ∧ b < s.heap.objs.size) (hC : C = s.heap.objs.size) {b : Addr} (hb : b ∈ fp) (hn : H' b = none) : FpOk (cxC X NC scope ⟨C, s, H, pins, fp⟩) [] H' b := by
  refine ⟨hn, ?_, fun z => ?_, .inl hb, fun x c h => (hf b hb).1.2.2.2.2.1 x c (S.cells I.ok h).2, fun p hp => (hf b hb).1.2.2.2.2.2 p ?_⟩
  · show b ≠ C
    rw [hC]
    exact Nat.ne_of_lt (hf b hb).2
  · rcases List.mem_cons.mp (I.stkSub b z) with q | q
    · exact (hf b hb).1.2.1 q
    · exact (hf b hb).1.2.2.1 q
  · have : p ∈ (X.pn ++ pins) ++ [] := hp
    rwa [List.append_nil] at this
theorem cxC_back {NC : List Str} (I : Inv X pins σ H s) (hf : ∀ b ∈ fp, FpOk X pins H b ∧ b < s.heap.objs.size) (J : Inv (cxC X NC scope ⟨C, s, H, pins, fp⟩) [] σc H' s') : Inv X pins σ H' s' :=
  I.call' J.os J.base J.hok J.bare fun b hb => ⟨(hf b hb).1.2.2.2.1, (hf b hb).1.2.1, (hf b hb).1.2.2.2.2.1, (hf b hb).1.2.2.2.2.2⟩
theorem cxC_gone {h' : Heap} (I : Inv X pins σ H s) (hn : H C = none) (h1 : C ≠ X.env.locals) (h2 : X.s₀.heap.objs.size ≤ C) (h3 : ∀ x c, X.env.cells.lookup x = some c → c ≠ C) (h4 : ∀ p ∈ X.pn ++ pins, p.1 ≠ C) (hs : Heap.SameBut C s.heap h') :
    Inv X pins σ H { s with heap := h' } := I.turned (t' := s.toks) (fun b o hb e => (hs.2 b hb).trans e) hn h1 (.inr h2) h3 h4
end
inductive KSt : St → St → Prop
  | nil : KSt [] []
  | own {o : Option V} {a b : St} : KSt a b → KSt (none :: a) (o :: b)
  | keep {o : Option V} {a b : St} : KSt a b → KSt (o :: a) (o :: b)
theorem KSt.len : ∀ {a b : St}, KSt a b → b.length = a.length
  | _, _, .nil => rfl
  | _, _, .own h => congrArg (· + 1) h.len
  | _, _, .keep h => congrArg (· + 1) h.len
theorem KSt.get : ∀ {a b : St}, KSt a b → ∀ (i : Nat) v, a[i]? = some (some v) → b[i]? = some (some v)
  | _, _, .nil, i, v, e => by simp at e
  | _, _, .own h, 0, v, e => by simp at e
  | _, _, .own h, i + 1, v, e => by
    rw [List.getElem?_cons_succ] at e ⊢
    exact h.get i v e
  | _, _, .keep h, 0, v, e => by simpa using e
  | _, _, .keep h, i + 1, v, e => by
    rw [List.getElem?_cons_succ] at e ⊢
    exact h.get i v e
theorem KSt.refl : ∀ a : St, KSt a a
  | [] => .nil
  | _ :: r => .keep (KSt.refl r)
inductive PIf (X : Cx) : List Expr → TT → Prop
  | nil : PIf X [] (fun _ H Q => Q true H)
  | one {c : Expr} {t : TT} : PT X c t → PIf X [c] t
theorem PIf.run {X : Cx} {ifs : List Expr} {t : TT} (h : PIf X ifs t) {pins : List (Addr × Obj)} {s : Shared} {σ : St} {H : Hp} {Q : Bool → Hp → Prop} (I : Inv X pins σ H s) (hw : t σ H Q) :
    wpAny (model X.prog X.w) X.A (forIn ifs true fun c r => if r = true then do let ok ← isTrue c X.env (eval c X.env); pure (ForInStep.yield ok) else pure (ForInStep.yield r)) (TP X pins σ Q) X.xe s := by
  cases h with
  | nil => exact wpAny_tests_nil ⟨H, I, hw⟩
  | one h => exact wpAny_tests_one (h pins s σ H Q I hw)
def cBody (σc : St) (acc : Addr) (g : TG) (tt : TT) (te : TE) (x : V) (ys : List V) (H : Hp) (N : List V → Hp → Prop) : Prop :=
  g x σc H fun σ2 H2 => KSt σc σ2 ∧ tt σ2 H2 fun b H3 => if b = true then te σ2 H3 fun y H4 => H4 acc = some (.lst ys) ∧ ys.length < sizeLine ∧ N (ys ++ [y]) (upd H4 acc (.lst (ys ++ [y]))) else N ys H3
def cLoop (J : It) (σc : St) (acc : Addr) (g : TG) (tt : TT) (te : TE) (H : Hp) (Q : VK) : Prop :=
  ∃ W : Nat → Nat → List V → Hp → Prop, (∃ m, W 0 m [] H) ∧ ∀ i m ys H, W i m ys H → H acc = some (.lst ys) ∧
    ((J.stop i H ∧ Q (.ref acc) H) ∨ (J.go i H ∧ ∃ N : List V → Hp → Prop, (∀ ys' H', N ys' H' → ∃ m', m' < m ∧ W (i + 1) m' ys' H') ∧ ∀ x H', J.yld i H x H' → cBody σc acc g tt te x ys H' N))
def tComp (own : List Str) (ix : List Nat) (wi : TI) (g : CP → TG) (tt : CP → TT) (te : CP → TE) : TE := fun σ H Q =>
  wi σ H fun J H1 => ∀ (c : CP) (acc : Addr), H1 acc = none → cLoop J (stC own ix σ) acc (g c) (tt c) (te c) (upd H1 acc (.lst [])) Q
section
variable {X : Cx} {scope : Scope} {own frees : List Str} {ix : List Nat} {tg elt iter : Expr} {ifs : List Expr} {pos : Pos} {wi : TI} {g : CP → TG} {tt : CP → TT} {te : CP → TE}
theorem comp_loop {J : It} {it acc : Addr} {fp : List Addr} {tn : Nat → Heap → Prop} {c : CP} {σ : St} {H : Hp} {s : Shared} {Q : VK} {R : Result → Shared → Prop}
    (hfp : c.fp = fp) (T : Turn X.prog X.w X.K tg J fp it tn) (hg : PG (cxC X (own ++ frees) scope c) tg (g c)) (ht : PIf (cxC X (own ++ frees) scope c) ifs (tt c)) (he : PE (cxC X (own ++ frees) scope c) elt (te c))
    (fpk : ∀ b ∈ fp, ∀ H' : Hp, H' b = none → FpOk (cxC X (own ++ frees) scope c) [] H' b)
    (I : Inv (cxC X (own ++ frees) scope c) [] (stC own ix σ) H s) (st : tn 0 s.heap) (fr : ∀ b ∈ fp, H b = none) (h : cLoop J (stC own ix σ) acc (g c) (tt c) (te c) H Q)
    (hR : ∀ s' H', Inv (cxC X (own ++ frees) scope c) [] (stC own ix σ) H' s' → Q (.ref acc) H' → R (.ok .next) s') :
    codeAny (model X.prog X.w) X.A (.compLoop (.ListComp elt [⟨tg, iter, ifs, 0⟩] scope pos) 0 (.ref it) (.ref acc) (cxC X (own ++ frees) scope c).env) R s := by
  obtain ⟨W, ⟨m0, w0⟩, turn⟩ := h
  refine codeAny_loop rfl (fun n s' => ∃ i ys H', Inv (cxC X (own ++ frees) scope c) [] (stC own ix σ) H' s' ∧ tn i s'.heap ∧ (∀ b ∈ fp, H' b = none) ∧ W i n ys H') (fun n s1 hI => ?_) m0 ⟨0, [], H, I, st, fr, w0⟩
  obtain ⟨i, ys, H1, I1, st1, fr1, w1⟩ := hI
  show wpAny _ X.A ((compTurn (.ListComp elt [⟨tg, iter, ifs, 0⟩] scope pos) 0 (.ref it) (.ref acc) (cxC X (own ++ frees) scope c).env).onRaise (fun x => do noteFrame x (cxC X (own ++ frees) scope c).env; theTreesLotGoes x)) _ _ s1
  have nv : ∀ {α : Type} {t : Sem α} {P : α → Shared → Prop} {s : Shared}, wpAny (model X.prog X.w) X.A t P (fun _ _ => False) s → wpAny (model X.prog X.w) X.A t P (notedBy (model X.prog X.w) X.A (cxC X (own ++ frees) scope c).env fun e s' => R (.error e) s') s :=
    fun h => wpAny_mono h (fun _ _ q => q) fun _ _ z => z.elim
  refine wpAny_noted ?_
  rw [compTurn_list]
  obtain ⟨ha, hw⟩ := turn i n ys H1 w1
  rcases hw with ⟨stop, q⟩ | ⟨go, N, hN, step⟩
  · refine wpAny_bind (wpAny_standAt (wpAny_bind (nv (thn (T.done (cxC X (own ++ frees) scope c) rfl rfl rfl rfl i [] s1 _ H1 (fun _ _ => False) I1 (fun b hb => fpk b hb H1 (fr1 b hb)) st1 stop) fun r s2 ⟨hr, I2⟩ => ?_))))
    subst hr
    exact wpAny_pure (hR s2 H1 I2 q)
  · refine wpAny_bind (wpAny_standAt (wpAny_bind (nv (thn (T.item (cxC X (own ++ frees) scope c) rfl rfl rfl rfl i [] s1 _ H1 (fun _ _ => False) I1 (fun b hb => fpk b hb H1 (fr1 b hb)) st1 go) fun r s2 ⟨u, hr, h2⟩ => ?_))))
    subst hr
    refine wpAny_bind (nv (thn h2 fun _ s3 ⟨x, H3, I3, r3, y3, st3, fr3⟩ => ?_))
    have I3' := I3.pinned (fun b hb => fpk b hb H3 (fr3 b hb)) (T.obj _ _ st3)
    refine wpAny_bind (nv (thn (hg _ s3 _ H3 x u _ I3' r3 (step x H3 y3)) fun _ s4 ⟨σ4, H4, I4, ks, q4⟩ => ?_))
    refine wpAny_bind (nv (thn (ht.run I4 q4) fun ok s5 ⟨H5, I5, q5⟩ => ?_))
    have keepT : ∀ {s6 : Shared} {σ6 : St} {H6 : Hp}, Inv (cxC X (own ++ frees) scope c) ([] ++ pinsAt fp s3.heap) σ6 H6 s6 → tn (i + 1) s6.heap ∧ ∀ b ∈ fp, H6 b = none := fun {s6 σ6 H6} I6 =>
      ⟨T.keep _ _ _ st3 fun b hb o e => (I6.pin (b, o) (List.mem_append_right _ (List.mem_append_right _ (mem_pinsAt hb e)))).1, fun b hb => by
        obtain ⟨o, e, d⟩ := T.obj _ _ st3 b hb
        exact (I6.pin (b, o) (List.mem_append_right _ (List.mem_append_right _ (mem_pinsAt hb e)))).2.1⟩
    cases ok with
    | false =>
      rw [if_neg (by decide)] at q5
      obtain ⟨m', hm, w5⟩ := hN _ _ q5
      obtain ⟨k1, k2⟩ := keepT I5
      exact wpAny_pure ⟨rfl, m', hm, i + 1, ys, H5, (I5.unpinned).weak ks.len.symm ks.get, k1, k2, w5⟩
    | true =>
      rw [if_pos rfl] at q5
      refine wpAny_bind (wpAny_bind (nv (thn (he _ s5 _ H5 _ I5 q5) fun y s6 ⟨yv, H6, I6, r6, a6, l6, q6⟩ => ?_)))
      obtain ⟨m', hm, w6⟩ := hN _ _ q6
      obtain ⟨k1, k2⟩ := keepT I6
      refine wpAny_bind (nv (thn (mt_append (X := cxC X (own ++ frees) scope c) _ s6 _ H6 (.ref acc) [yv] (.ref acc) [y] (fun _ H7 => H7 = upd H6 acc (.lst (ys ++ [yv]))) I6 rfl (.cons r6 .nil) ⟨acc, ys, yv, rfl, rfl, a6, l6, rfl⟩) fun _ s7 ⟨_, H7, I7, _, e7⟩ => ?_))
      subst e7
      obtain ⟨k1, k2⟩ := keepT I7
      exact wpAny_pure (wpAny_pure ⟨rfl, m', hm, i + 1, ys ++ [yv], _, (I7.unpinned).weak ks.len.symm ks.get, k1, k2, w6⟩)
structure CGone (X : Cx) (pins : List (Addr × Obj)) (C : Addr) (H : Hp) : Prop where
  no : H C = none
  loc : C ≠ X.env.locals
  old : X.s₀.heap.objs.size ≤ C
  cel : ∀ x c, X.env.cells.lookup x = some c → c ≠ C
  pin : ∀ p ∈ X.pn ++ pins, p.1 ≠ C
theorem CGone.inv {pins : List (Addr × Obj)} {σ : St} {H : Hp} {s : Shared} {C : Addr} {h' : Heap} (G : CGone X pins C H) (I : Inv X pins σ H s) (hs : Heap.SameBut C s.heap h') : Inv X pins σ H { s with heap := h' } :=
  cxC_gone I G.no G.loc G.old G.cel G.pin hs
theorem comp_block {pins : List (Addr × Obj)} {σ : St} {H : Hp} {s : Shared} {Q : VK} {RR : Value → Addr → Result → Shared → Prop} {E : Value → Shared → Prop} {J : It} {it : Addr} {fp : List Addr} {tn : Nat → Heap → Prop}
    (S : CScope X scope frees) (hc : X.calm = true) (hN : ix.map (fun i => X.N[i]?) = frees.map some)
    (hg : ∀ c, PG (cxC X (own ++ frees) scope c) tg (g c)) (ht : ∀ c, PIf (cxC X (own ++ frees) scope c) ifs (tt c)) (he : ∀ c, PE (cxC X (own ++ frees) scope c) elt (te c))
    (I : Inv X pins σ H s) (T : Turn X.prog X.w X.K tg J fp it tn) (st : tn 0 s.heap) (hf : ∀ b ∈ fp, FpOk X pins H b)
    (h : ∀ (c : CP) (acc : Addr), H acc = none → cLoop J (stC own ix σ) acc (g c) (tt c) (te c) (upd H acc (.lst [])) Q)
    (hRR : ∀ (acc C : Addr) s' H' m, Inv X pins σ H' s' → s'.heap.Ns C m → CGone X pins C H' → Q (.ref acc) H' → RR (.ref acc) C (.ok .next) s') :
    wpAny (model X.prog X.w) X.A (newList []) (fun acc s₃ => wpAny (model X.prog X.w) X.A (newFunctionEnv scope X.env.globals (clFrom X.env scope.names []) [] X.env.qual none .none (some X.env)) (fun cenv s₄ =>
      codeAny (model X.prog X.w) X.A (.compStart (.ListComp elt [⟨tg, iter, ifs, 0⟩] scope pos) 0 (.ref it) acc { cenv with scope := relabel scope X.env }) (RR acc cenv.locals) s₄) E s₃) E s := by
  refine wpAny_newObj_type (wpAny_newFunctionEnv S.nocell (by intro y hy; simp at hy) (fun h₁ hns hsb => ?_) S.kind)
  dsimp only at hns hsb ⊢
  have hn0 : H s.heap.objs.size = none := I.hok.fresh (Nat.le_refl _)
  have I3 : Inv X pins σ (upd H s.heap.objs.size (.lst [])) { s with heap := s.heap.push { cls := .type "list", data := .seq ([] : List Value).toArray } } := I.lnew (its := []) (t' := s.toks) .nil (Nat.zero_le _)
  generalize hs3 : ({ s with heap := s.heap.push { cls := .type "list", data := .seq ([] : List Value).toArray } } : Shared) = s3 at I3
  have e3 : s3.heap = s.heap.push { cls := .type "list", data := .seq ([] : List Value).toArray } := by rw [← hs3]
  have ob : ∀ b ∈ fp, b < s.heap.objs.size := fun b hb => by
    obtain ⟨o, e, _⟩ := T.obj _ _ st b hb
    exact Heap.lt_size e
  have sz : s3.heap.objs.size = s.heap.objs.size + 1 := by rw [e3, Heap.size_push]
  have hf3 : ∀ b ∈ fp, FpOk X pins (upd H s.heap.objs.size (.lst [])) b ∧ b < s3.heap.objs.size := fun b hb =>
    ⟨⟨by rw [upd_ne (Nat.ne_of_lt (ob b hb))]; exact (hf b hb).1, (hf b hb).2⟩, by rw [sz]; exact Nat.lt_succ_of_lt (ob b hb)⟩
  have kp : ∀ b o, s3.heap.get? b = some o → h₁.get? b = some o := fun b o e => by
    refine hsb.extBut b o ?_ (Heap.get?_push_of_some _ (e3 ▸ e))
    rw [← e3]
    exact Nat.ne_of_lt (Heap.lt_size e)
  have nsC : h₁.Ns s3.heap.objs.size (fun x => ([] : List (Str × Value)).reverse.lookup x) := by rw [e3]; exact hns
  have J0 : Inv (cxC X (own ++ frees) scope ⟨s3.heap.objs.size, s3, upd H s.heap.objs.size (.lst []), pins, fp⟩) [] (stC own ix σ) (upd H s.heap.objs.size (.lst [])) { s3 with heap := h₁, toks := s.toks + 0 } :=
    cxC_inv S hc I3 hf3 rfl hN ⟨_, nsC⟩ kp
  have fpk : ∀ b ∈ fp, ∀ H' : Hp, H' b = none → FpOk (cxC X (own ++ frees) scope ⟨s3.heap.objs.size, s3, upd H s.heap.objs.size (.lst []), pins, fp⟩) [] H' b := fun b hb H' hn => cxC_fp S I3 hf3 rfl hb hn
  have st1 : tn 0 h₁ := T.keep _ _ _ st fun b hb o e => kp b o (by rw [e3]; exact Heap.get?_push_of_some _ e)
  have loop : codeAny (model X.prog X.w) X.A (.compLoop (.ListComp elt [⟨tg, iter, ifs, 0⟩] scope pos) 0 (.ref it) (.ref s.heap.objs.size) (cxC X (own ++ frees) scope ⟨s3.heap.objs.size, s3, upd H s.heap.objs.size (.lst []), pins, fp⟩).env)
      (RR (.ref s.heap.objs.size) s3.heap.objs.size) { s3 with heap := h₁, toks := s.toks + 0 } := by
    refine comp_loop rfl T (hg _) (ht _) (he _) fpk J0 st1 (fun b hb => (hf3 b hb).1.1) (h _ _ hn0) fun s' H' I' q => ?_
    obtain ⟨m, hm, _⟩ := I'.loc
    refine hRR _ _ s' H' m (cxC_back I3 hf3 I') hm ⟨I'.free, Nat.ne_of_gt I3.lt, I3.sz, fun x c e z => ?_, fun p hp z => ?_⟩ q
    · obtain ⟨v, q⟩ := I3.cell x c e
      exact absurd (Nat.lt_of_lt_of_le q.lt (by rw [z]; exact Nat.le_refl _)) (Nat.lt_irrefl _)
    · exact absurd (Nat.lt_of_lt_of_le (Heap.lt_size (I3.pin p hp).1) (by rw [z]; exact Nat.le_refl _)) (Nat.lt_irrefl _)
  have loop' := loop
  rw [← hs3] at loop'
  exact codeAny_compStart_list loop' (T.self _ 0 _ _ _ st1 loop')
theorem pe_comp (hi : PI X tg iter wi)
    (hg : ∀ c, PG (cxC X (own ++ frees) scope c) tg (g c)) (ht : ∀ c, PIf (cxC X (own ++ frees) scope c) ifs (tt c)) (he : ∀ c, PE (cxC X (own ++ frees) scope c) elt (te c)) (S : CScope X scope frees := by exact ⟨rfl, by decide +kernel, by decide +kernel, by decide +kernel, by decide +kernel, rfl⟩) (hc : X.calm = true := by rfl) (hN : ix.map (fun i => X.N[i]?) = frees.map some := by rfl) (hs : ∀ x, foldedSetIterable iter X.env x = pure x := by intro _; rfl) :
    PE X (.ListComp elt [⟨tg, iter, ifs, 0⟩] scope pos) (tComp own ix wi g tt te) := by
  intro pins s σ H Q I h
  rw [eval_ListComp]
  refine wpAny_comprehension_free (use := none) rfl hs (closure_is (S.has I.ok)) S.kind S.locs (thn (hi pins s σ H _ I h) fun v s1 h1 => thn h1 fun itv s2 h2 => ?_)
  obtain ⟨it, fp, tn, J, H2, e, I2, T, st2, f2, hw⟩ := h2
  subst e
  refine comp_block S hc hN hg ht he I2 T st2 f2 hw fun acc C s' H' m I' hm G q => ?_
  exact ⟨m, hm, fun h' hs' => ⟨.ref acc, H', G.inv I' hs', rfl, q⟩⟩
end
section
variable {σc : St} {acc : Addr} {g : TG} {tt : TT} {te : TE} {H : Hp} {Q : VK}
end
end L2
namespace L2
open PySem PySem.Spec PyProof.Rows
section
variable {X : Cx}
theorem bools_of : ∀ {bs : List Bool} {its : List Value}, Vals (bs.map V.bl) its → LSm.BoolsAre its bs
  | [], _, .nil => .nil
  | b :: r, _, .cons q t => by
    cases q
    exact .cons b (bools_of t)
theorem call_all (hc : X.calm = true) : CallR X (.builtin "all") (fun xs H Q => ∃ (p : Addr) (bs : List Bool), xs = [.ref p] ∧ SqL X.K H p (bs.map V.bl) ∧ Q (.bl (bs.all id)) H) := by
  intro pins s σ H xs us Q I r h
  obtain ⟨p, bs, rfl, hq, q⟩ := h
  obtain ⟨u, rfl, ru⟩ := vals1 r
  cases ru
  obtain ⟨vs, rv, pl, hz⟩ := I.list hq
  have hb := bools_of rv
  have hl := pl.isList
  have hlt : p < s.heap.objs.size := by obtain ⟨_, e, _⟩ := hl; exact Heap.lt_size e
  refine call_all_walk (wpAny_pyIter_list hl ?_)
  refine ⟨s.heap.objs.size, [s.heap.objs.size, p], [s.heap.objs.size], vs.toArray.size, _, _, fun i => (bs[i]?).getD true, rfl, Walks.list (A := X.A.in1) (I.ok.hd hc) _ p (Nat.ne_of_lt hlt) vs.toArray,
    ⟨⟨_, Heap.get?_push_size _ rfl, rfl, rfl⟩, hl.push _⟩, fun i v s' Q' E' hP hQ => ?_, fun h' tk hk => ?_⟩
  · obtain ⟨b, e, rfl⟩ := hb.get i v (by simpa using hP)
    simp only [e, Option.getD_some] at hQ
    exact wpAny_truthy_bool hQ
  · have e : ((List.range vs.toArray.size).all fun i => (bs[i]?).getD true) = bs.all id := by
      rw [List.size_toArray, hb.length]; exact LSm.range_all bs
    rw [e]
    exact ⟨.bl _, H, I.kept (h' := h') (t' := tk) (LSm.kept_iter hk), rfl, q⟩
def Its (y : Str) : It := ⟨fun i _ => i < y.cps.size, fun i H x H' => H' = H ∧ ∃ c, y.cps[i]? = some c ∧ x = .str ⟨#[c]⟩, fun i _ => i = y.cps.size⟩
theorem turn_str {P : Program} {w : World} {K : PySem.W.Frag} {nm : Str} {px : Pos} {ty : String} {y : Str} {t : Tok} (it : Addr)
    (W : ∀ A : Around, A.handled = none → Walks P w A it [it] [it] y.cps.size (SignAt y) (fun i h => h.IsStrIter it ty y t i))
    (sf : ∀ (A : Around) (i : Nat) (s : Shared) (Q : Value → Shared → Prop) (E : Value → Shared → Prop), s.heap.IsStrIter it ty y t i → Q (.ref it) s → wpAny (model P w) A (pyIter (.ref it)) Q E s) : Turn P w K (.Name nm px) (Its y) [it] it (fun i h => h.IsStrIter it ty y t i) where
  mem := by simp
  obj := fun i h st b hb => by
    have e : b = it := by simpa using hb
    subst e
    obtain ⟨o, e, c, d⟩ := st
    exact ⟨o, e, fun v z => by rw [d] at z; cases z⟩
  keep := fun i h h' st k => let ⟨o, ho, r⟩ := st; ⟨o, k it (by simp) o ho, r⟩
  item := by
    intro X hP hw hK hc i pins s σ H E I hf st hg
    subst hP hw hK
    obtain ⟨f0, f1, f2, f3, f4, f5⟩ := hf it (by simp)
    refine (W X.A (I.ok.hd hc)).item i s _ _ hg st fun v h' tk hP st' hk => ?_
    obtain ⟨c, u, hcx, rfl⟩ := hP
    have I1 : Inv X pins σ H { s with heap := h', toks := tk } := I.turned (fun b o hb e => hk b o (by simpa using hb) e) f0 f1 f3 f4 f5
    exact ⟨_, rfl, wpAny_pure ⟨.str ⟨#[c]⟩, H, I1, ⟨u, rfl⟩, ⟨rfl, c, hcx, rfl⟩, st', fun b hb => (hf b hb).1⟩⟩
  done := by
    intro X hP hw hK hc i pins s σ H E I hf st hg
    subst hP hw hK
    obtain ⟨f0, f1, f2, f3, f4, f5⟩ := hf it (by simp)
    have hg' : i = y.cps.size := hg
    subst hg'
    exact (W X.A (I.ok.hd hc)).done s _ _ st fun h' tk hk => ⟨rfl, I.turned (fun b o hb e => hk b o (by simpa using hb) e) f0 f1 f3 f4 f5⟩
  self := fun A i s Q E st h => sf A i s Q E st h
def iStr (tl : TE) : TI := fun σ H R => tl σ H fun x H1 => ∃ y, x = .str y ∧ R (Its y) H1
theorem pi_str {l : Expr} {tl : TE} {nm : Str} {px : Pos} (hl : PE X l tl) : PI X (.Name nm px) l (iStr tl) := by
  intro pins s σ H R I h
  refine thn (hl pins s σ H _ I h) fun v s1 ⟨x, H1, I1, r1, q1⟩ => ?_
  obtain ⟨y, e, q⟩ := q1
  subst e
  obtain ⟨t, rfl⟩ := r1
  have fin : ∀ (ty : String) (o : Obj) (W : ∀ A : Around, A.handled = none → Walks X.prog X.w A s1.heap.objs.size [s1.heap.objs.size] [s1.heap.objs.size] y.cps.size (SignAt y) (fun i h => h.IsStrIter s1.heap.objs.size ty y t i))
      (sf : ∀ (A : Around) (i : Nat) (s : Shared) (Q : Value → Shared → Prop) (E : Value → Shared → Prop), s.heap.IsStrIter s1.heap.objs.size ty y t i → Q (.ref s1.heap.objs.size) s → wpAny (model X.prog X.w) A (pyIter (.ref s1.heap.objs.size)) Q E s),
      (s1.heap.push o).IsStrIter s1.heap.objs.size ty y t 0 → PIE X pins σ (.Name nm px) R (.ref s1.heap.objs.size) { s1 with heap := s1.heap.push o } := fun ty o W sf st => by
    refine ⟨s1.heap.objs.size, [s1.heap.objs.size], _, _, H1, rfl, I1.kept (t' := s1.toks) fun b o e => Heap.get?_push_of_some _ e, turn_str _ W sf, st, fun b hb => ?_, q⟩
    have e : b = s1.heap.objs.size := by simpa using hb
    subst e
    exact I1.fpOk (Nat.le_refl _) (I1.hok.fresh (Nat.le_refl _))
  cases ha : y.cps.all (· < 128)
  · exact wpAny_pyIter_wide ha (fin _ _ (fun A' hA => Walks.strWide hA _ y t) (fun _ _ _ _ _ st h => wpAny_pyIter_striter_wide st h) ⟨_, Heap.get?_push_size _ rfl, rfl, rfl⟩)
  · exact wpAny_pyIter_ascii ha (fin _ _ (fun A' hA => Walks.strAscii hA _ y t) (fun _ _ _ _ _ st h => wpAny_pyIter_striter_ascii st h) ⟨_, Heap.get?_push_size _ rfl, rfl, rfl⟩)
end
end L2
namespace L2
open PySem PySem.Spec PyProof.Rows
mutual
inductive Dp (K : PySem.W.Frag) (H : Hp) : V → PyData → Prop
  | non : Dp K H .non .none
  | bl (b : Bool) : Dp K H (.bl b) (.bool b)
  | int (i : Int) : Dp K H (.int i) (.int i)
  | str (x : Str) : Dp K H (.str x) (.str x)
  | lst {a : Addr} {xs : List V} {ds : List PyData} : SqL K H a xs → DpAll K H xs ds → Dp K H (.ref a) (.list ds)
  | tup {a : Addr} {xs : List V} {ds : List PyData} : SqT K H a xs → DpAll K H xs ds → Dp K H (.ref a) (.tuple ds)
inductive DpAll (K : PySem.W.Frag) (H : Hp) : List V → List PyData → Prop
  | nil : DpAll K H [] []
  | cons {v : V} {vs : List V} {d : PyData} {ds : List PyData} : Dp K H v d → DpAll K H vs ds → DpAll K H (v :: vs) (d :: ds)
end
section
variable {X : Cx} {pins : List (Addr × Obj)} {σ : St} {H H' : Hp} {s : Shared} {K : PySem.W.Frag}
mutual
theorem Dp.reads (I : Inv X pins σ H s) : ∀ (d : PyData) (v : V) (u : Value), Dp X.K H v d → RelV v u → ∃ as, Reads s.heap u d as
  | .none, _, _, h, r => by cases h; cases r; exact ⟨_, .none⟩
  | .bool b, _, _, h, r => by cases h; cases r; exact ⟨_, .bool b⟩
  | .int i, _, _, h, r => by cases h; obtain ⟨t, rfl⟩ := r; exact ⟨_, .int i t⟩
  | .str x, _, _, h, r => by cases h; obtain ⟨t, rfl⟩ := r; exact ⟨_, .str x t⟩
  | .list ds, _, _, h, r => by
    cases h with
    | lst hq hs =>
      cases r
      obtain ⟨its, rv, pl, hz⟩ := I.list hq
      obtain ⟨as, ra⟩ := DpAll.reads I ds _ _ hs rv
      obtain ⟨o, e, hc, n, hd⟩ := pl.isList
      exact ⟨_, .list e hc hd (by simpa using ra)⟩
  | .tuple ds, _, _, h, r => by
    cases h with
    | tup hq hs =>
      cases r
      obtain ⟨its, rv, pl, hz⟩ := I.tuple hq
      obtain ⟨as, ra⟩ := DpAll.reads I ds _ _ hs rv
      obtain ⟨o, e, hc, n, hd⟩ := pl
      exact ⟨_, .tuple e hc hd (by simpa using ra)⟩
  | .dict _, _, _, h, _ => nomatch h
theorem DpAll.reads (I : Inv X pins σ H s) : ∀ (ds : List PyData) (vs : List V) (us : List Value), DpAll X.K H vs ds → Vals vs us → ∃ as, ReadsAll s.heap us ds as
  | [], _, _, h, r => by cases h; cases r; exact ⟨_, .nil⟩
  | d :: ds, _, _, h, r => by
    cases h with
    | cons h1 h2 =>
      cases r with
      | cons r1 r2 =>
        obtain ⟨as, a1⟩ := Dp.reads I d _ _ h1 r1
        obtain ⟨bs, a2⟩ := DpAll.reads I ds _ _ h2 r2
        exact ⟨_, .cons a1 a2⟩
end
def rEqD (K : PySem.W.Frag) : R2 := fun x y H Q => ∃ d e, Dp K H x d ∧ Dp K H y e ∧ d.canLay0 = true ∧ e.canLay0 = true ∧ min d.depth e.depth ≤ 64 ∧ Q (.bl (PyData.eqv d e)) H
def rNeD (K : PySem.W.Frag) : R2 := fun x y H Q => ∃ d e, Dp K H x d ∧ Dp K H y e ∧ d.canLay0 = true ∧ e.canLay0 = true ∧ min d.depth e.depth ≤ 64 ∧ Q (.bl (!PyData.eqv d e)) H
theorem op_eqD (hu : X.A.units + 64 < cLine) : OpR X (compareOp .Eq) (rEqD X.K) := by
  intro pins s σ H x y v u Q I rx ry h
  obtain ⟨d, e, h1, h2, c1, c2, hd, q⟩ := h
  obtain ⟨as, ra⟩ := Dp.reads I d x v h1 rx
  obtain ⟨bs, rb⟩ := Dp.reads I e y u h2 ry
  exact SeqAt.compareEq_reads ra rb c1 c2 (by omega) ⟨.bl _, H, I, rfl, q⟩
theorem op_neD (hu : X.A.units + 64 < cLine) : OpR X (compareOp .NotEq) (rNeD X.K) := by
  intro pins s σ H x y v u Q I rx ry h
  obtain ⟨d, e, h1, h2, c1, c2, hd, q⟩ := h
  obtain ⟨as, ra⟩ := Dp.reads I d x v h1 rx
  obtain ⟨bs, rb⟩ := Dp.reads I e y u h2 ry
  exact SeqAt.compareNe_reads ra rb c1 c2 (by omega) ⟨.bl _, H, I, rfl, q⟩
theorem DpAll.ints : ∀ (xs : List Int), DpAll K H (xs.map V.int) (xs.map PyData.int)
  | [] => .nil
  | x :: r => .cons (.int x) (DpAll.ints r)
end
mutual
def noB : PyData → Bool
  | .none | .int _ | .str _ => true
  | .bool _ => false
  | .list ds => noBs ds
  | .tuple ds => noBs ds
  | .dict _ => false
def noBs : List PyData → Bool
  | [] => true
  | d :: r => noB d && noBs r
end
mutual
theorem eqv_iff : ∀ (d e : PyData), noB d = true → noB e = true → (PyData.eqv d e = true ↔ d = e)
  | .none, e, _, h => by cases e <;> simp [PyData.eqv, noB] at h ⊢
  | .bool b, e, h, _ => by simp [noB] at h
  | .int i, e, _, h => by cases e <;> simp [PyData.eqv, noB] at h ⊢
  | .str x, e, _, h => by cases e <;> simp [PyData.eqv, noB] at h ⊢
  | .list ds, e, h1, h2 => by
    cases e with
    | list es =>
      have := eqvs_iff ds es (by simpa [noB] using h1) (by simpa [noB] using h2)
      simpa [PyData.eqv] using this
    | _ => simp [PyData.eqv, noB] at h2 ⊢
  | .tuple ds, e, h1, h2 => by
    cases e with
    | tuple es =>
      have := eqvs_iff ds es (by simpa [noB] using h1) (by simpa [noB] using h2)
      simpa [PyData.eqv] using this
    | _ => simp [PyData.eqv, noB] at h2 ⊢
  | .dict _, _, h, _ => by simp [noB] at h
theorem eqvs_iff : ∀ (ds es : List PyData), noBs ds = true → noBs es = true → (PyData.eqvAll ds es = true ↔ ds = es)
  | [], [], _, _ => by simp [PyData.eqvAll]
  | [], _ :: _, _, _ => by simp [PyData.eqvAll]
  | _ :: _, [], _, _ => by simp [PyData.eqvAll]
  | d :: ds, e :: es, h1, h2 => by
    have n1 : noB d = true ∧ noBs ds = true := by simpa [noBs] using h1
    have n2 : noB e = true ∧ noBs es = true := by simpa [noBs] using h2
    have a := eqv_iff d e n1.1 n2.1
    have b := eqvs_iff ds es n1.2 n2.2
    simp only [PyData.eqvAll, Bool.and_eq_true, List.cons.injEq, a, b]
end
end L2
namespace L2
open PySem PySem.Spec PyProof.Rows
section
variable {P : Program} {w : World} {K : PySem.W.Frag} {mg : Str → Option Value} {base : Heap}
def TopD (K : PySem.W.Frag) (mg : Str → Option Value) (x : Str) (st : Stmt) (ps : List Str) : Prop := ∃ f fd, Fun K x x st f fd ∧ Binds K fd ps [] ∧ mg x = some (.ref f)
end
section
variable {X : Cx} {k : Nat} {x : Str} {ps : List Str} {sp : Sp} {e : Expr} {es : List Expr} {t : TA} {p pos : Pos}
theorem op_le_str : OpR X (compareOp .LtE) (fun x y H Q => ∃ i j, x = .str i ∧ y = .str j ∧ Q (.bl (!decide (j.cps.toList < i.cps.toList))) H) := by
  intro pins s σ H x y v u Q I rx ry h
  obtain ⟨i, j, rfl, rfl, q⟩ := h
  obtain ⟨t, rfl⟩ := rx
  obtain ⟨t', rfl⟩ := ry
  exact PySem.P.le_str (fin_bl I q rfl)
end
end L2
namespace L2
open PySem PySem.Spec PyProof.Rows
section
variable {X : Cx}
end
inductive TyR (K : PySem.W.Frag) (H : Hp) : V → Value → Prop where
  | of {x : V} {t : Value} (h : TyOf K H x t) : TyR K H x t
  | tup {a : Addr} {xs : List V} (h : SqT K H a xs) : TyR K H (.ref a) (.type "tuple")
  | lst {a : Addr} {xs : List V} (h : SqL K H a xs) : TyR K H (.ref a) (.type "list")
theorem call_isI {X : Cx} : CallR X (.builtin "isinstance") (fun xs H Q => ∃ x c t b, xs = [x, .ty c] ∧ TyR X.K H x t ∧ PySem.W.kitOne X.K t (.type c) = some b ∧ Q (.bl b) H) := by
  intro pins s σ H xs us Q I r h
  obtain ⟨x, c, t, b, rfl, ty, e, q⟩ := h
  obtain ⟨u, w', rfl, ru, rw'⟩ := vals2 r
  cases rw'
  cases ty with
  | of ty => exact isinst_ok I ru ty e fun tk => ⟨.bl b, H, I.tok tk, rfl, q⟩
  | tup hq =>
    cases ru
    obtain ⟨its, rv, ⟨o, h1, h2, _⟩, _⟩ := I.tuple hq
    exact PySem.W.kia_one PySem.W.kitx_tuple I.kIn ⟨o, h1, h2⟩ e (fun z => nomatch z) fun tk => ⟨.bl b, H, I.tok tk, rfl, q⟩
  | lst hq =>
    cases ru
    obtain ⟨its, rv, pl, _⟩ := I.list hq
    obtain ⟨o, h1, h2, _⟩ := pl.isList
    exact PySem.W.kia_one PySem.W.kitx_list I.kIn ⟨o, h1, h2⟩ e (fun z => nomatch z) fun tk => ⟨.bl b, H, I.tok tk, rfl, q⟩
end L2
namespace MA
inductive Mob (N : Type) where
  | wt (n : N)
  | rod (l r : Int) (a b : Mob N)
namespace Mob
variable {N : Type}
def arms : Mob N → Prop
  | wt _ => True
  | rod l r a b => 1 ≤ l ∧ l ≤ 9 ∧ 1 ≤ r ∧ r ≤ 9 ∧ a.arms ∧ b.arms
def deep : Mob N → Nat
  | wt _ => 0
  | rod _ _ a b => max a.deep b.deep + 1
def names : Mob N → List N
  | wt n => [n]
  | rod _ _ a b => a.names ++ b.names
end Mob
end MA
namespace MA
namespace Mob
variable {N : Type}
end Mob
end MA
namespace L2
open PySem PySem.Spec PyProof.Rows
section
variable {P : Program} {w : World} {H H' : Hp} {h : Heap} {a : Addr} {o : HO}
theorem ObjOk.obj (x : ObjOk P w H h a o) : ∃ u, h.get? a = some u := by
  cases o with
  | lst xs => obtain ⟨_, _, _, _, e⟩ := x; exact ⟨_, e⟩
  | tup xs => obtain ⟨_, _, _, _, e⟩ := x; exact ⟨_, e⟩
  | dK kvs => obtain ⟨_, _, _, _, o, _, _, e, _⟩ := x; exact ⟨_, e⟩
  | dT kvs => obtain ⟨_, _, _, _, o, _, _, e, _⟩ := x; exact ⟨_, e⟩
  | set S n => obtain ⟨o, _, _, _, e, _⟩ := x; exact ⟨_, e⟩
  | ins C dx fs => obtain ⟨_, _, _, e, _⟩ := x; exact ⟨_, e⟩
  | own y => exact x
  | xd fs => obtain ⟨_, ⟨_, _, _, e, _⟩, _⟩ := x; exact ⟨_, e⟩
  | rng lo hi => obtain ⟨_, _, _, e⟩ := x; exact ⟨_, e⟩
  | frz ob u => obtain ⟨e, _⟩ := x; exact ⟨_, e⟩
  | tbl ps => exact ⟨_, (show h.get? a = some _ from x)⟩
  | met f y => exact ⟨_, (show h.get? a = some _ from x)⟩
  | ext φ => obtain ⟨_, e, _⟩ := x; exact e
end
structure Fly (P : Program) (w : World) (outer : List Env) (H H' : Hp) (s s' : Shared) (a : Addr) (C : Value) : Prop where
  os : s'.os = s.os
  bare : AllBare s'.gens
  slot : ∀ b o, s.heap.get? b = some o → b ∈ frs outer → ∃ sl, s'.heap.get? b = some { o with slots := sl }
  free : ∀ b o, s.heap.get? b = some o → H b = none → H' b = none
  tups : ∀ b xs, H b = some (.tup xs) → H' b = some (.tup xs)
  frzs : ∀ b o u, H b = some (.frz o u) → H' b = some (.frz o u)
  tbls : ∀ b ps, H b = some (.tbl ps) → ∃ more, H' b = some (.tbl (ps ++ more))
  fl : ∃ (B : Heap) (a0 : Value), (∀ b o, s.heap.get? b = some o → H b = none → b ∉ frs outer → B.get? b = some o) ∧ (∀ b o, s.heap.get? b = some o → b ∉ frs outer → ∃ o', B.get? b = some o') ∧ HOk P w H' B ∧ Heap.FlyingW B outer a C a0 s'.heap
section
variable {P : Program} {w : World} {outer : List Env} {H H' : Hp} {s s' : Shared} {a : Addr} {C : Value}
theorem Fly.un (F : Fly P w outer H H' s s' a C) : Un (frs outer) [] H H' s.heap s'.heap where
  keep := fun b o q n hb _ => by
    obtain ⟨B, a0, k, _, _, f⟩ := F.fl
    exact f.1 b o (k b o q n hb)
  slot := fun b o q n hb _ => F.slot b o q hb
  free := fun b o q n _ => F.free b o q n
  there := fun b o q _ => by
    by_cases hb : b ∈ frs outer
    · obtain ⟨sl, e⟩ := F.slot b o q hb
      exact ⟨_, e⟩
    · obtain ⟨B, a0, _, t, _, f⟩ := F.fl
      obtain ⟨o', e⟩ := t b o q hb
      exact ⟨o', f.1 b o' e⟩
  tups := F.tups
  frzs := F.frzs
  tbls := F.tbls
theorem Fly.hok (F : Fly P w outer H H' s s' a C) : HOk P w H' s'.heap := by
  obtain ⟨B, a0, _, _, h, f⟩ := F.fl
  exact h.kept f.1
theorem Fly.new (F : Fly P w outer H H' s s' a C) : H' a = none := by
  obtain ⟨B, a0, _, _, h, f⟩ := F.fl
  cases e : H' a with
  | none => rfl
  | some o =>
    obtain ⟨u, q⟩ := (h a o e).obj
    rw [f.2.1] at q
    cases q
end
def CX1 (P : Program) (w : World) : CXT := fun outer H s E e s' => ∃ (a : Addr) (C : Value) (H' : Hp), e = .ref a ∧ Fly P w outer H H' s s' a C ∧ E C none H'
section
variable {X : Cx} {pins : List (Addr × Obj)} {σ : St} {H H' : Hp} {s s' : Shared} {a : Addr} {C : Value}
theorem fly_out (I : Inv X pins σ H s) (hex : X.ex = []) (os : s'.os = s.os) (bare : AllBare s'.gens) (slot : ∀ b o, s.heap.get? b = some o → b ∈ frs X.outer → ∃ sl, s'.heap.get? b = some { o with slots := sl })
    (free : ∀ b o, s.heap.get? b = some o → H b = none → H' b = none) (tups : ∀ b xs, H b = some (.tup xs) → H' b = some (.tup xs)) (frzs : ∀ b o u, H b = some (.frz o u) → H' b = some (.frz o u))
    (tbls : ∀ b ps, H b = some (.tbl ps) → ∃ more, H' b = some (.tbl (ps ++ more)))
    (fl : ∃ (B : Heap) (a0 : Value), (∀ b o, s.heap.get? b = some o → H b = none → b ∉ frs X.stack → B.get? b = some o) ∧ (∀ b o, s.heap.get? b = some o → b ∉ frs X.stack → ∃ o', B.get? b = some o') ∧ HOk X.prog X.w H' B ∧ Heap.FlyingW B X.outer a C a0 s'.heap) :
    Fly X.prog X.w X.outer X.H₀ H' X.s₀ s' a C := by
  have nx : ∀ b : Addr, b ∉ X.ex := fun b => by rw [hex]; simp
  have nst : ∀ b o, X.s₀.heap.get? b = some o → b ∉ frs X.outer → b ∉ frs X.stack := fun b o q hb z => by
    rcases List.mem_cons.mp (I.stkSub b z) with e | e
    · exact absurd (Nat.lt_of_lt_of_le (Heap.lt_size q) I.ok.above) (by rw [e]; exact Nat.lt_irrefl _)
    · exact hb e
  refine ⟨os.trans I.os, bare, fun b o q hb => ?_, fun b o q n => ?_, fun b xs q => tups b xs (I.base.tups b xs q), fun b o u q => frzs b o u (I.base.frzs b o u q), fun b ps q => ?_, ?_⟩
  · obtain ⟨sl, e⟩ := I.base.slot b o q (I.ok.frf b hb) hb (nx b)
    obtain ⟨sl', e'⟩ := slot b _ e hb
    exact ⟨sl', e'⟩
  · obtain ⟨sl, e⟩ := I.base.any q n (nx b)
    exact free b _ e (I.base.free b o q n (nx b))
  · obtain ⟨m1, e1⟩ := I.base.tbls b ps q
    obtain ⟨m2, e2⟩ := tbls b _ e1
    exact ⟨m1 ++ m2, by rw [e2, Array.append_assoc]⟩
  · obtain ⟨B, a0, k, t, h, f⟩ := fl
    refine ⟨B, a0, fun b o q n hb => k b o (I.base.keep b o q n hb (nx b)) (I.base.free b o q n (nx b)) (nst b o q hb), fun b o q hb => ?_, h, f⟩
    obtain ⟨o', e⟩ := I.base.there b o q (nx b)
    exact t b o' e (nst b o q hb)
end
def Raises (X : Cx) (E : XK) : Prop := ∀ (pins : List (Addr × Obj)) (σ : St) (H : Hp) (s : Shared) (e : Addr) (h' : Heap) (C : Value) (args : List Value), Inv X pins σ H s → Heap.MadeExcOf s.heap h' e C args → E C none H → X.xe (.ref e) { s with heap := h' }
section
variable {P : Program} {w : World} {K : PySem.W.Frag} {mg : Str → Option Value} {base : Heap} {N : List Str} {qual : Str} {scope : Scope} {f : Addr} {cd : Value} {A : Around} {outer : List Env} {s : Shared} {H : Hp} {E : XK}
theorem frs_cons {env : Env} {l : List Env} {b : Addr} (h : b ∈ frs l) : b ∈ frs (env :: l) := by
  obtain ⟨e, he, hf⟩ := List.mem_filterMap.mp h
  exact List.mem_filterMap.mpr ⟨e, List.mem_cons_of_mem _ he, hf⟩
theorem raisesX : Raises (cxOf (CX1 P w) P w K mg base N qual scope f cd A outer s H E) E := by
  intro pins σ H1 s1 e h' C args I mx hE
  have stk := I.stack
  have nofr : ∀ b o, H1 b = some o → b ∉ frs (cxOf (CX1 P w) P w K mg base N qual scope f cd A outer s H E).stack := fun b o q z => by
    rw [I.stkFree b z] at q; cases q
  have hin : ∀ env' ∈ (cxOf (CX1 P w) P w K mg base N qual scope f cd A outer s H E).stack, ∀ b, env'.frame = some b → b ∈ frs (cxOf (CX1 P w) P w K mg base N qual scope f cd A outer s H E).stack := fun env' he b hb => List.mem_filterMap.mpr ⟨env', he, hb⟩
  show wpAny (model P w) _ (leaving _ (.ref e)) _ _ _
  refine wpAny_leaves_madeW (base := PySem.W.hideAll s1.heap (frs (cxOf (CX1 P w) P w K mg base N qual scope f cd A outer s H E).stack)) I.ok.frames rfl (fun b o q => PySem.W.of_hideAll _ q) (PySem.W.funFrames_hide stk hin) mx fun h'' t fl tup bt up => ?_
  refine ⟨e, C, H1, rfl, fly_out I rfl rfl I.bare (fun b o q hb => ?_) (fun _ _ _ n => n) (fun _ _ q => q) (fun _ _ _ q => q) (fun _ ps q => ⟨#[], by rw [q]; simp⟩) ⟨_, _, fun b o q n hb => PySem.W.hideAll_get _ q hb, fun b o q hb => ⟨o, PySem.W.hideAll_get _ q hb⟩, fun b o q => ?_, fl⟩, hE⟩
  · obtain ⟨_, o', ho', hd⟩ := stk.mem (frs_cons (env := envOfC qual scope s.heap.objs.size f cd) hb)
    rw [q] at ho'
    cases ho'
    exact up b o (mx.keeps b o q) hd
  · refine (I.hok b o q).stay (fun c u hc r => PySem.W.hideAll_get _ r ?_) (fun _ r => r) fun _ _ r => r
    rcases hc with z | z
    · rw [z]; exact nofr b o q
    · exact nofr c _ z
theorem passX : Passes (CX1 P w) (cxOf (CX1 P w) P w K mg base N qual scope f cd A outer s H E) E := by
  intro pins σ H1 s1 e s' I h
  obtain ⟨a, C, H', rfl, F, hE⟩ := h
  obtain ⟨B, a0, kb, th, hok, fl⟩ := F.fl
  show wpAny (model P w) _ (leaving _ (.ref a)) _ _ _
  refine wpAny_leaves_onW I.ok.frames rfl fl fun h'' fl' up => ⟨a, C, H', rfl, fly_out I rfl F.os F.bare (fun b o q hb => ?_) F.free F.tups F.frzs F.tbls ⟨B, a0, kb, th, hok, fl'⟩, hE⟩
  have hb' := frs_cons (env := envOfC qual scope s.heap.objs.size f cd) hb
  obtain ⟨sl, e⟩ := F.slot b o q hb'
  obtain ⟨_, o', ho', hd⟩ := fl.2.2.1.mem hb'
  rw [e] at ho'
  cases ho'
  obtain ⟨sl', e'⟩ := up b _ e hd
  exact ⟨sl', e'⟩
theorem ownX : PassesOwn (model P w) (cxOf (CX1 P w) P w K mg base N qual scope f cd A outer s H E).A (cxOf (CX1 P w) P w K mg base N qual scope f cd A outer s H E).env (cxOf (CX1 P w) P w K mg base N qual scope f cd A outer s H E).xe :=
  PassesOwn.leaving
end
abbrev vErr : List Value := [.type "ValueError", .type "Exception", .type "BaseException", .type "object"]
theorem exc_of_in {K : PySem.W.Frag} {h : Heap} {C : Addr} {bmB : List Value} {newId : String} (X : K.In h) (q : PySem.W.excIn K C bmB newId = true) : ∃ nm qn N bs bm hdct sn sub ab col dd k0 k1 k2 k3 k5, ∃ mN : Str → Option Value,
    h.get? C = some (excClassObj nm qn C N bs bm hdct sn sub ab col dd k0 k1 k2 k3 k5 newId) ∧ h.Ns N mN ∧ mN "__init__" = none ∧ OwnTail h bmB bm := by
  unfold PySem.W.excIn at q
  split at q
  · rename_i dd cd sl ho
    split at q
    · rename_i C' bm k0 k1 k2 k3 n k5 hm hs
      simp only [Bool.and_eq_true, beq_iff_eq, Bool.not_eq_true'] at q
      obtain ⟨⟨⟨⟨⟨rfl, rfl⟩, hdel⟩, ht⟩, hok⟩, hni⟩ := q
      obtain ⟨nm, bs, mro, ns, qn, hd, sn, sub, ab, col, del⟩ := cd
      dsimp only at hm hdel hok hni
      subst hm hdel
      have hsl : sl = #[k0, k1, k2, k3, some (.builtin n), k5] := by
        obtain ⟨l⟩ := sl
        simp only at hs
        rw [hs]
      subst hsl
      exact ⟨nm, qn, ns, bs, bm, hd, sn, sub, ab, col, dd, k0, k1, k2, k3, k5, _, X _ _ ho, .of_isNs (PySem.W.isNs_of_in X hok), PySem.W.nsMap_none_of_in X hok hni, PySem.W.tail_of_in X ht⟩
    · cases q
  · cases q
section
variable {X : Cx} {E : XK} {x : Str} {C : Addr} {e : Expr} {t : TA} {np cpos pos : Pos}
def tRaise (E : XK) (C : Addr) (t : TA) : TS := fun _ σ H => t σ H fun vs H1 => vs.length ≤ sizeLine ∧ E (.ref C) none H1
theorem ps_raise (hR : Raises X E) (hc : X.calm = true) (hm : X.mg x = some (.ref C)) (hC : PySem.W.excIn X.K C vErr "ValueError.__new__" = true) (ha : PA X [e] t) (hg : Gl X x := by rfl) (hdb : (x == ("__debug__" : Str)) = false := by decide)
    (he : starEach [e] X.env = [(false, eval e X.env)] := by rfl) : PS X (.Raise (some (.Call (.Name x np) [e] [] cpos)) none pos) (tRaise E C t) := by
  intro pins s σ H D I h
  obtain ⟨nm, qn, N, bs, bm, hdct, sn, sub, ab, col, dd, k0, k1, k2, k3, k5, mN, hCo, hN, hni, hT⟩ := exc_of_in I.mod.kin hC
  refine wpAny_Raise_call_subT (nm := nm) (q := qn) (C := C) (N := N) (bs := bs) (bm := bm) (hdct := hdct) (sn := sn) (sub := sub) (ab := ab) (col := col) (dd := dd) (k0 := k0) (k1 := k1) (k2 := k2) (k3 := k3) (k5 := k5) (mN := mN) PySem.F.excBase_ValueError (hT.hasType (by decide +kernel)) (I.ok.hd hc) (by rw [he]; rfl) hni (ld_glob I hg hm ⟨rfl, ?_⟩ hdb)
  have h' := ha cpos pins s σ H _ I h
  rw [he] at h' ⊢
  refine Calls.evalArgs_plain (thn h' fun us s1 ⟨vs, H1, I1, r1, q1⟩ => ?_)
  have hl := r1.length
  exact ⟨rfl, by show us.length ≤ sizeLine; rw [← hl]; exact q1.1, I1.bk _ _ hCo, hN.keeps I1.bk, hT.keeps I1.bk, fun h2 e2 mx => hR _ _ _ _ _ _ _ _ I1 mx q1.2⟩
end
end L2
namespace L2
open PySem PySem.Spec PyProof.Rows
def excAt (a : Addr) (C : Value) (h : Heap) : Prop := ∃ o, h.get? a = some o ∧ o.cls = C
structure ExcK (K : PySem.W.Frag) (C : Addr) : Prop where
  ga : PySem.W.findIn K (.ref C) "__getattribute__" = some (some (.builtin "BaseException.__getattribute__"))
  gh : PySem.W.findIn K (.ref C) "__getattr__" = some none
  fc : PySem.W.findIn K (.ref C) "__class__" = some (some (.builtin "object.__class__"))
  fg : PySem.W.specialIn K (.builtin "object.__class__") "__get__" = some (some (.builtin "getset_descriptor.__get__"))
  ft : PySem.W.takesIn K (.builtin "object.__class__") = some true
  mo : PySem.W.mroIn K C (.type "object") = some true
  mb : PySem.W.mroIn K C (.type "BaseException") = some true
  cl : (PySem.W.clsIn K C).isSome = true
section
variable {prog : Program} {w : World} {A : Around} {E : Value → Shared → Prop} {s : Shared} {K : PySem.W.Frag} {x C : Addr} {ox : Obj}
open PySem.W Builtin Builtin.ObjectAttr in
theorem find_data {M : Model} {h : Heap} {name : Str} {a g : Value} (X : K.In h) (h1 : PySem.W.findIn K (.ref C) name = some (some a)) (h2 : PySem.W.specialIn K a "__get__" = some (some g)) (h3 : PySem.W.takesIn K a = some true) :
    Looks M h (find (.ref x) (.ref C) name) (.bind g a) := by
  have L1 := looks_findIn (M := M) X h1
  have L2 : Looks M h (getOf (some a)) (some g) := looks_specialIn X h2
  have L3 := looks_takesIn (M := M) X h3
  exact L1.andThen (L2.andThen ((show Looks M h (dataDescriptor? (some a) (some g)) (some (g, a)) from L3.andThen .now).andThen (Looks.tag .now)))
open PySem.W Builtin Builtin.ObjectAttr Builtin.Getset_descriptor in
theorem exc_get {R : Result → Shared → Prop} {tp : Value} (X : K.In s.heap) (L0 : Looks (model prog w) s.heap (typeOf (.ref x)) (.ref C)) (hm : PySem.W.mroIn K C (.type "object") = some true)
    (h : R (.ok (.ret (.ref C))) s) : codeAny (model prog w) A (.call (.builtin "getset_descriptor.__get__") ⟨[.builtin "object.__class__", .ref x, tp], []⟩) R s := by
  obtain ⟨hh, g, dr, t, os⟩ := s
  have L1 := looks_mroIn (M := model prog w) X hm
  refine codeAny_call_builtin KF.slot_gs.plain KF.entry_gs (KF.slot_gs.check _ _ _ _ _ _ _ _ KF.type_class (KF.args_gs _ _ _) ?_)
  unfold Builtin.«getset_descriptor.__get__» descrGet
  rw [dga_obj]
  refine wpAny_bind (wpAny_pure ?_)
  unfold descrGetter descrCheckInstance descrNameAndClass isInstance
  simp only [KF.owner_class]
  repeat lk
  refine ⟨Code.quiet_builtin _ (by decide +kernel), codeAny_builtin KF.entry_class ?_⟩
  unfold Builtin.«object.__class__» shownTypeOf
  repeat lk
  exact h
open PySem.W in
theorem exc_class (Z : ExcK K C) {Q : Option Value → Shared → Prop} (X : K.In s.heap) (I : excAt x (.ref C) s.heap) (h : Q (some (.ref C)) { s with toks := s.toks + 1 }) : wpAny (model prog w) A (getAttr? (.ref x) "__class__") Q E s := by
  obtain ⟨hh, g, d, t, os⟩ := s
  obtain ⟨ox, ho, hc⟩ := I
  have L0 : Looks (model prog w) hh (typeOf (.ref x)) (.ref C) := hc ▸ (Looks.ld ho).andThen .now
  have L1 := looks_findIn (M := model prog w) X Z.ga
  have L2 := looks_findIn (M := model prog w) X Z.gh
  have L3 := find_data (x := x) (M := model prog w) X Z.fc Z.fg Z.ft
  have L4 := looks_mroIn (M := model prog w) X Z.mb
  have hk : builtinKind "BaseException.__getattribute__" = some .slot := by decide +kernel
  have hsplit : splitId "BaseException.__getattribute__" = some ("BaseException", "__getattribute__") := by decide +kernel
  have f3 := PySem.F.excAttr_ValueError.ga.bind (.ref x)
  have hx2 : (Value.builtin "BaseException.__getattribute__" == Value.builtin "object.__getattribute__") = false := by decide +kernel
  unfold getAttr? getAttrBy? getAttrBy
  refine wpAny_bind (wpAny_mkText (wpAny_bind (wpAny_attempt (wpAny_holding (wpAny_bind (L0.at (wpAny_bind (L1.at ?_))))))))
  have hx1 : (onTheHeap (Value.ref C) && Value.builtin "BaseException.__getattribute__" == Value.builtin "object.__getattribute__") = false := by rw [hx2]; rfl
  show wpAny _ _ (if (onTheHeap (Value.ref C) && Value.builtin "BaseException.__getattribute__" == Value.builtin "object.__getattribute__") = true then _ else _) _ _ _
  rw [hx1, if_neg (by decide)]
  unfold getAttrByItsOwn hookBefore
  refine wpAny_bind ?_
  show wpAny _ _ (typeLookup (.ref C) "__getattr__") _ _ _
  refine L2.at ?_
  refine wpAny_bind (wpAny_attempt (wpAny_holding ?_))
  unfold callGetattribute boundAndCalled
  rw [if_neg (by simp), f3]
  refine wpAny_bind (wpAny_pure ?_)
  show wpAny _ _ (call (.builtin "BaseException.__getattribute__") [.ref x, .str "__class__" t]) _ _ _
  have ha := PySem.F.args_bexc_ga (.ref x) (.str "__class__" t)
  refine wpAny_call (codeAny_call_builtin PySem.F.excAttr_ValueError.ga.plain PySem.F.entry_bexc_ga ?_)
  simp only [checkBuiltinCall, hk, hsplit]
  refine wpAny_bind ?_
  unfold isInstance
  refine wpAny_bind (L0.at (L4.at ?_))
  repeat (any_goals (first | assumption | (with_reducible refine L0.at ?_) | (with_reducible refine L3.at ?_) | wp_step))
  refine exc_get (s := { heap := hh, gens := g, drawn := d, toks := t + 1, os := os }) X L0 Z.mo ?_
  refine wpAny_pure ?_
  show wpAny _ _ (handedOut (.ref C)) _ _ _
  exact handed_on rfl (wpAny_pure h)
open PySem.W in
theorem kitx_exc (Z : ExcK K C) : KitX K (.ref x) (.ref C) (excAt x (.ref C)) where
  ty := fun _ h _ p => by
    obtain ⟨ox, ho, hc⟩ := p
    exact hc ▸ (Looks.ld ho).andThen .now
  it := fun _ _ X _ => by
    have z := Z.cl
    unfold clsIn at z
    split at z
    · rename_i c' d' cd' sl' ho
      intro A' Q' E' s' k q
      unfold isType loadHead
      exact wpAny_bind (wpAny_loadPart (k _ _ (X _ _ ho)) (wpAny_pure q))
    · cases z
  ne := fun h tp dd its n sl X htp => by
    refine Bool.eq_false_iff.mpr fun q => ?_
    have e : C = tp := Value.ref.inj (beq_iff_eq.mp q)
    subst e
    have z := Z.cl
    unfold clsIn at z
    split at z
    · rename_i c' d' cd' sl' ho
      have z := (X _ _ ho).symm.trans htp
      cases z
    · cases z
  ca := fun X p k => exc_class Z X p k
end
abbrev excO (a C : Addr) : HO := .ext (excAt a (.ref C))
section
variable {X : Cx}
theorem call_isE : CallR X (.builtin "isinstance") (fun xs H Q => ∃ (a : Addr) (y : V) (C : Addr) (c : Value) (b : Bool), xs = [.ref a, y] ∧ (∀ u, RelV y u → u = c) ∧ H a = some (excO a C) ∧ ExcK X.K C ∧ PySem.W.kitOne X.K (.ref C) c = some b ∧ Q (.bl b) H) := by
  intro pins s σ H xs us Q I r h
  obtain ⟨a, y, C, c, b, rfl, hy, ha, Z, e, q⟩ := h
  obtain ⟨u, w', rfl, ru, rw'⟩ := vals2 r
  cases ru
  cases hy _ rw'
  exact PySem.W.kia_one (kitx_exc Z) I.kIn (I.hok a _ ha).1 e (fun z => nomatch z) fun tk => ⟨.bl b, H, I.tok tk, rfl, q⟩
end
end L2
namespace L2
open PySem PySem.Spec PyProof.Rows
abbrev Cx.inExc (X : Cx) (e : Addr) : Cx := { X with A := X.A.mark (some (.ref e)), calm := false, xe := fun _ _ => False }
abbrev Cx.tried (X : Cx) (pn : List (Addr × Obj)) (E : Value → Shared → Prop) : Cx := { X with pn := pn, xe := E }
section
variable {X : Cx} {pins : List (Addr × Obj)} {σ : St} {H : Hp} {s : Shared}
theorem Inv.inExc (I : Inv X pins σ H s) (e : Addr) : Inv (X.inExc e) pins σ H s :=
  ⟨⟨I.ok.mod, I.ok.kind, I.ok.glob, I.ok.blt, I.ok.above, I.ok.inj, I.ok.has, I.ok.cab, (fun z => nomatch z), I.ok.frames, I.ok.stk, I.ok.exf, I.ok.bs, I.ok.bsz, I.ok.noex, I.ok.exfs, I.ok.funs, I.ok.frf⟩, I.os, I.bare, I.base, I.loc, I.cell, I.free, I.freeC, I.pin, I.hok, I.len⟩
theorem Inv.outExc {e : Addr} (ok : X.Ok) (I : Inv (X.inExc e) pins σ H s) : Inv X pins σ H s :=
  ⟨ok, I.os, I.bare, I.base, I.loc, I.cell, I.free, I.freeC, I.pin, I.hok, I.len⟩
theorem Inv.tried (I : Inv X pins σ H s) (E : Value → Shared → Prop) : Inv (X.tried (X.pn ++ pins) E) [] σ H s :=
  ⟨⟨I.ok.mod, I.ok.kind, I.ok.glob, I.ok.blt, I.ok.above, I.ok.inj, I.ok.has, I.ok.cab, I.ok.hd, I.ok.frames, I.ok.stk, I.ok.exf, I.ok.bs, I.ok.bsz, I.ok.noex, I.ok.exfs, I.ok.funs, I.ok.frf⟩, I.os, I.bare, I.base, I.loc, I.cell, I.free, I.freeC,
    fun p hp => I.pin p ((List.mem_append.mp hp).elim id fun z => absurd z (by simp)), I.hok, I.len⟩
theorem Inv.untried {E : Value → Shared → Prop} {pins' : List (Addr × Obj)} (ok : X.Ok) (I : Inv (X.tried (X.pn ++ pins) E) pins' σ H s) : Inv X pins σ H s :=
  ⟨ok, I.os, I.bare, I.base, I.loc, I.cell, I.free, I.freeC, fun p hp => I.pin p (List.mem_append_left _ hp), I.hok, I.len⟩
theorem SP.untried {E : Value → Shared → Prop} {pins' : List (Addr × Obj)} {D : Ends} {f : Flow} (ok : X.Ok) (h : SP (X.tried (X.pn ++ pins) E) pins' D f s) : SP X pins D f s := by
  cases f with
  | next => obtain ⟨σ', H', I, q⟩ := h; exact ⟨σ', H', I.untried ok, q⟩
  | brk => obtain ⟨σ', H', I, q⟩ := h; exact ⟨σ', H', I.untried ok, q⟩
  | cont => obtain ⟨σ', H', I, q⟩ := h; exact ⟨σ', H', I.untried ok, q⟩
  | ret u => obtain ⟨v, σ', H', I, r, q⟩ := h; exact ⟨v, σ', H', I.untried ok, r, q⟩
theorem Inv.track {a : Addr} {φ : Heap → Prop} (I : Inv X pins σ H s) (n0 : ∀ b o, X.s₀.heap.get? b = some o → X.H₀ b = none → b ≠ a) (nl : X.env.locals ≠ a) (nc : ∀ x c, X.env.cells.lookup x = some c → c ≠ a) (np : ∀ p ∈ X.pn ++ pins, p.1 ≠ a)
    (hn : H a = none) (hx : φ s.heap) (ho : ∃ o, s.heap.get? a = some o) (st : ∀ h1 h2 : Heap, φ h1 → (∀ o, h1.get? a = some o → h2.get? a = some o) → φ h2) : Inv X pins σ (upd H a (.ext φ)) s := by
  refine ⟨I.ok, I.os, I.bare, ⟨I.base.keep, I.base.slot, fun b o q n hx => ?_, I.base.there, fun b xs q => ?_, fun b o u q => ?_, fun b ps q => ?_⟩, I.loc, I.cell, ?_, fun x c e => ?_, fun p hp => ?_, fun b o q => ?_, I.len⟩
  · rw [upd_ne (n0 b o q n)]; exact I.base.free b o q n hx
  · have z := I.base.tups b xs q
    rw [upd_ne (ne_of_none z hn)]; exact z
  · have z := I.base.frzs b o u q
    rw [upd_ne (ne_of_none z hn)]; exact z
  · obtain ⟨m, z⟩ := I.base.tbls b ps q
    exact ⟨m, by rw [upd_ne (ne_of_none z hn)]; exact z⟩
  · rw [upd_ne nl]; exact I.free
  · rw [upd_ne (nc x c e)]; exact I.freeC x c e
  · obtain ⟨e, n, r⟩ := I.pin p hp
    exact ⟨e, by rw [upd_ne (np p hp)]; exact n, r⟩
  · by_cases hb : b = a
    · subst hb
      rw [upd_same] at q
      cases q
      exact ⟨hx, ho, st⟩
    · rw [upd_ne hb] at q
      exact (I.hok b o q).stay (fun _ _ _ r => r) (fun c r => by rw [upd_ne (ne_of_none r hn)]; exact r) fun c xs r => by rw [upd_ne (ne_of_none r hn)]; exact r
theorem Inv.blur {h' : Heap} {t' : Nat} {m' : Str → Option Value} (I : Inv X pins σ H s) (hs : Heap.SameBut X.env.locals s.heap h') (hn : h'.Ns X.env.locals m') : Inv X pins (List.replicate X.N.length none) H { s with heap := h', toks := t' } := by
  have cne := I.cne
  obtain ⟨m, hm, _⟩ := id I.loc
  obtain ⟨oL, _, _, hoL, _⟩ := id hm
  have up : ∀ b o, X.s₀.heap.get? b = some o → b ≠ X.env.locals := fun b o e => Nat.ne_of_lt (Nat.lt_of_lt_of_le (Heap.lt_size e) I.ok.above)
  refine ⟨I.ok, I.os, I.bare, ⟨fun b o e n hb hx => ?_, fun b o e n hb hx => ?_, I.base.free, fun b o e hx => ?_, I.base.tups, I.base.frzs, I.base.tbls⟩, ⟨_, hn, fun j y v' e1 e2 e3 => ?_⟩, fun y c e => ?_, I.free, I.freeC, fun p hp => ?_, fun b ob e => ?_, by simp⟩
  · exact (hs.2 b (up b o e)).trans (I.base.keep b o e n hb hx)
  · obtain ⟨sl, e1⟩ := I.base.slot b o e n hb hx
    exact ⟨sl, (hs.2 b (up b o e)).trans e1⟩
  · obtain ⟨o', e1⟩ := I.base.there b o e hx
    exact ⟨o', (hs.2 b (up b o e)).trans e1⟩
  · rw [List.getElem?_replicate] at e2
    split at e2 <;> cases e2
  · obtain ⟨w', z⟩ := I.cell y c e
    exact ⟨w', z.sameBut hs (cne y c e)⟩
  · obtain ⟨e, n, ne, nf, d⟩ := I.pin p hp
    exact ⟨(hs.2 p.1 ne).trans e, n, ne, nf, d⟩
  · refine (I.hok b ob e).stay (fun c w' hc q => (hs.2 c ?_).trans q) (fun _ q => q) fun _ _ q => q
    rintro rfl
    rcases hc with rfl | hc
    · rw [I.free] at e; cases e
    · rw [I.free] at hc; cases hc
end
section
variable {P : Program} {w : World} {outer : List Env} {H H' : Hp} {s s' : Shared} {a : Addr} {C a0 : Value} {B h'' : Heap}
theorem Fly.move (F : Fly P w outer H H' s s' a C) (kb : ∀ b o, s.heap.get? b = some o → H b = none → b ∉ frs outer → B.get? b = some o) (th : ∀ b o, s.heap.get? b = some o → b ∉ frs outer → ∃ o', B.get? b = some o') (hok : HOk P w H' B)
    (fl : Heap.FlyingW B outer a C a0 s'.heap) (fl' : Heap.FlyingW B outer a C a0 h'') (up : s'.heap.UpToSlots h'') : Fly P w outer H H' s { s' with heap := h'' } a C := by
  refine ⟨F.os, F.bare, fun b o q hb => ?_, F.free, F.tups, F.frzs, F.tbls, B, a0, kb, th, hok, fl'⟩
  obtain ⟨sl, e⟩ := F.slot b o q hb
  obtain ⟨_, o', ho', hd⟩ := fl.2.2.1.mem hb
  rw [e] at ho'
  cases ho'
  obtain ⟨sl', e'⟩ := up b _ e hd
  exact ⟨sl', e'⟩
theorem Fly.ne (F : Fly P w outer H H' s s' a C) {b : Addr} {o : Obj} (q : s.heap.get? b = some o) (n : H b = none) : b ≠ a := by
  rintro rfl
  obtain ⟨B, a0, kb, th, hok, fl⟩ := F.fl
  obtain ⟨oe, vs, he, _, hd, _⟩ := fl.first
  by_cases hb : b ∈ frs outer
  · obtain ⟨_, o', ho', hd'⟩ := fl.2.2.1.mem hb
    rw [he] at ho'
    cases ho'
    exact hd' _ hd
  · have z := kb b o q n hb
    rw [fl.2.1] at z
    cases z
end
def tTry (K : PySem.W.Frag) (len i : Nat) (D : Addr) (tb : List (Addr × Obj) → (Value → Shared → Prop) → XK → TS) (th : TS) : TS := fun Dn σ H =>
  ∀ (pn : List (Addr × Obj)) (E : Value → Shared → Prop), tb pn E (fun C _ H' => ∃ c : Addr, C = .ref c ∧ PySem.W.exmOne K (.ref c) (.ref D) = some true ∧ ∀ (a : Addr) (σ' : St), σ'.length = len → H' a = none → th { nx := fun _ _ => False, rt := Dn.rt } (σ'.set i (some (.ref a))) (upd H' a (excO a c))) Dn σ H
section
variable {X : Cx} {D : Addr} {i : Nat} {n cn : Str} {b₀ : Stmt} {suite body : List Stmt} {tb : List (Addr × Obj) → (Value → Shared → Prop) → XK → TS} {th : TS} {np hpos pos : Pos}
theorem ps_try (hex : X.ex = []) (hst : X.stack = X.env :: X.outer) (hfr : X.env.frame = some X.env.locals) (hN : X.N.Nodup) (hi : X.N[i]? = some n) (hl : X.env.scope.names.lookup n = some .local) (hm : X.mg cn = some (.ref D))
    (hb : ∀ (pn : List (Addr × Obj)) (E : Value → Shared → Prop) (Ex : XK), Passes (CX1 X.prog X.w) (X.tried pn E) Ex → PSs (X.tried pn E) body (tb pn E Ex)) (hh : ∀ e : Addr, PSs (X.inExc e) (b₀ :: suite) th)
    (hg : Gl X cn := by rfl) (hdb : (cn == ("__debug__" : Str)) = false := by decide) :
    PS X (.Try body [.ExceptHandler (some (.Name cn np)) (some n) (b₀ :: suite) hpos] [] [] pos) (tTry X.K X.N.length i D tb th) := by
  intro pins s σ H Dn I h
  refine wpAny_Try_except ?_
  refine wpAny_mono (hb (X.pn ++ pins) _ _ ?_ [] s σ H Dn (I.tried _) (h _ _)) (fun f s₁ q => ?_) fun e s₁ q => q
  · intro pins' σ' H1 s1 e s' I1 hx
    obtain ⟨a, C, H', rfl, F, c, rfl, hex1, hth⟩ := hx
    have J1 : Inv X pins σ' H1 s1 := I1.untried I.ok
    have F : Fly X.prog X.w X.stack H1 H' s1 s' a (.ref c) := F
    obtain ⟨B, a0, kb, tth, hok, fl⟩ := F.fl
    have fl0 := fl
    rw [hst] at fl
    refine wpAny_looks_onW (by rw [← hst]; exact I.ok.frames) hfr fl fun h₄ hheld₄ hsm₄ => ?_
    refine wpAny_landsW hheld₄ fun h₅ fl₅ hsm₅ => ?_
    have F5 : Fly X.prog X.w X.stack H1 H' s1 { s' with heap := h₅ } a (.ref c) := F.move kb tth hok fl0 (by rw [hst]; exact fl₅) (hsm₄.trans hsm₅)
    have J5 : Inv X pins σ' H' { s' with heap := h₅ } := J1.call' F5.os F5.un F5.hok F5.bare fun b z => absurd z (by simp)
    have LT : PySem.W.Looks (model X.prog X.w) h₅ (typeOf (.ref a)) (.ref c) := by
      obtain ⟨ob, hob, hc⟩ := fl₅.there
      exact hc ▸ (PySem.W.Looks.ld hob).andThen .now
    refine wpAny_handleBy_cons (codeAny_handlers_test (ld_glob (X := X.inExc a) (J5.inExc a) hg hm ((PySem.W.exm_one (J5.kIn) LT hex1).here ?_) hdb)) (by intro q; cases q)
    refine codeAny_handlers_suite_as ?_
    refine lands_againW fl₅ fun h₆ fl₆ hsm₆ => ?_
    have F6 : Fly X.prog X.w X.stack H1 H' s1 { s' with heap := h₆ } a (.ref c) := F5.move kb tth hok (by rw [hst]; exact fl₅) (by rw [hst]; exact fl₆) hsm₆
    have J6 : Inv X pins σ' H' { s' with heap := h₆ } := J1.call' F6.os F6.un F6.hok F6.bare fun b z => absurd z (by simp)
    obtain ⟨ob, hob, hobc⟩ := fl₆.there
    have J7 : Inv X pins σ' (upd H' a (excO a c)) { s' with heap := h₆ } := by
      refine J6.track (fun b o q n => ?_) ?_ (fun x c' e => ?_) (fun p hp => ?_) F6.new ⟨ob, hob, hobc⟩ ⟨ob, hob⟩ fun h1 h2 p k => ?_
      · obtain ⟨sl, e⟩ := J1.base.any q n (by rw [hex]; simp)
        exact F6.ne e (J1.base.free b o q n (by rw [hex]; simp))
      · obtain ⟨m, ⟨o, _, _, e, _⟩, _⟩ := id J1.loc
        exact F6.ne e J1.free
      · obtain ⟨v, o, e, _⟩ := J1.cell x c' e
        exact F6.ne e (J1.freeC x c' (by assumption))
      · obtain ⟨e, n, _⟩ := J1.pin p hp
        exact F6.ne e n
      · obtain ⟨o, e, ec⟩ := p
        exact ⟨o, k o e, ec⟩
    refine store_ok (X := X.inExc a) (J7.inExc a) hN hi (.inl hl) (v := .ref a) rfl (fun s₇ J8 => ?_) (.inr hl)
    refine wpAny_mono (hh a pins s₇ _ _ _ J8 (hth a σ' J1.len F.new)) (fun fl s₈ q => ?_) fun e s₈ z => False.elim z
    cases fl with
    | next => obtain ⟨_, _, _, z⟩ := q; exact False.elim z
    | brk => obtain ⟨_, _, _, z⟩ := q; exact False.elim z
    | cont => obtain ⟨_, _, _, z⟩ := q; exact False.elim z
    | ret u =>
      obtain ⟨v, σ2, H2, J9, rv, z⟩ := q
      have J9 : Inv X pins σ2 H2 s₈ := J9.outExc I.ok
      obtain ⟨m, hn, _⟩ := id J9.loc
      exact wpAny_nameGoes hl hn (by rw [I.ok.kind]; rfl) fun h' m' hn' hs => ⟨v, _, H2, J9.blur hs hn', rv, z⟩
  · cases f with
    | next => exact wpAny_execs_nil (SP.untried I.ok q)
    | brk => exact SP.untried I.ok q
    | cont => exact SP.untried I.ok q
    | ret u => exact SP.untried I.ok q
end
end L2
namespace L2
open PySem PySem.Spec PyProof.Rows
section
variable {P : Program} {w : World} {K : PySem.W.Frag} {mg : Str → Option Value} {base : Heap}
def FnX (P : Program) (w : World) (K : PySem.W.Frag) (mg : Str → Option Value) (base : Heap) (k : Nat) (x : Str) (ps : List Str) (sp : Sp) : Prop :=
  ∃ f fd, FnOk P w K mg base (CX1 P w) k f fd ps sp ∧ Binds K fd ps [] ∧ PySem.W.keepIn K (.ref f) = true ∧ mg x = some (.ref f)
theorem FnX.mono {j k : Nat} {x : Str} {ps : List Str} {sp : Sp} (F : FnX P w K mg base j x ps sp) (h : j ≤ k) : FnX P w K mg base k x ps sp := by
  obtain ⟨f, fd, F, r⟩ := F
  exact ⟨f, fd, F.mono h, r⟩
theorem TopD.fnX {x : Str} {st : Stmt} {N ps : List Str} {k : Nat} {sp : Sp} (T : TopD K mg x st ps) (S : FnScope N ps (defScope st)) (len : ∀ vs H Q E, sp vs H Q E → vs.length = ps.length)
    (hbody : ∀ (f : Addr) (cdv : Value) (A : Around) (outer : List Env) (s : Shared) (H : Hp) (vs : List V) (Q : VK) (E : XK), Room k (A.deeper (envOfC x (defScope st) s.heap.objs.size f cdv)) → sp vs H Q E →
      ∃ t, PSs (cxOf (CX1 P w) P w K mg base N x (defScope st) f cdv A outer s H E) (defBody st) t ∧ t { nx := fun _ H' => Q .non H', rt := Q } (start N vs) H) : FnX P w K mg base (k + 1) x ps sp := by
  obtain ⟨f, fd, F, b, m⟩ := T
  have kp := F.kp
  obtain ⟨oc, od, kV, doc, pm, an, cdv, ct, osl, rfl, lk, hcd⟩ := F.ex
  exact ⟨f, _, fn_of lk hcd S len fun A outer s H vs Q E hr hsp => hbody f cdv A outer s H vs Q E hr hsp, b, kp, m⟩
structure RoomH (k : Nat) (A : Around) : Prop where
  dp : A.depth + 3 * k + 5 < recursionLimit
  un : A.units + 16 * k + 200 < cLine
theorem RoomH.of {k : Nat} {A : Around} {h : Option Value} (r : Room k A) : RoomH k (A.mark h) := ⟨r.dp, r.un⟩
def FnH (P : Program) (w : World) (K : PySem.W.Frag) (mg : Str → Option Value) (base : Heap) (k : Nat) (x : Str) (ps : List Str) (sp : Sp) : Prop :=
  ∃ f fd, (∀ vs H Q E, sp vs H Q E → vs.length = ps.length) ∧ (∀ (A : Around) (outer : List Env) (s : Shared) (H : Hp) (args : Args) (us : List Value) (vs : List V) (Q : VK) (E : XK), RoomH k A → Env0 P w K mg base A outer s H → BindsTo s fd args (ps.zip us) → Vals vs us → sp vs H Q E →
    codeAny (model P w) A (.call (.ref f) args) (CR CX0 outer P w H s Q E) s) ∧ Binds K fd ps [] ∧ PySem.W.keepIn K (.ref f) = true ∧ mg x = some (.ref f)
abbrev Cx.loud (X : Cx) (A : Around) : Cx := { X with A := A, calm := false, xe := fun _ _ => False }
theorem TopD.fnH {x : Str} {st : Stmt} {N ps : List Str} {k : Nat} {sp : Sp} (T : TopD K mg x st ps) (S : FnScope N ps (defScope st)) (len : ∀ vs H Q E, sp vs H Q E → vs.length = ps.length)
    (hbody : ∀ (f : Addr) (cdv : Value) (A : Around) (outer : List Env) (s : Shared) (H : Hp) (vs : List V) (Q : VK) (E : XK), RoomH k (A.deeper (envOfC x (defScope st) s.heap.objs.size f cdv)) → sp vs H Q E →
      ∃ t, PSs ((cxOf CX0 P w K mg base N x (defScope st) f cdv { A with handled := Option.none } outer s H E).loud (A.deeper (envOfC x (defScope st) s.heap.objs.size f cdv))) (defBody st) t ∧ t { nx := fun _ H' => Q .non H', rt := Q } (start N vs) H) : FnH P w K mg base (k + 1) x ps sp := by
  obtain ⟨f, fd, F, b, m⟩ := T
  have kp := F.kp
  obtain ⟨oc, od, kV, doc, pm, an, cdv, ct, osl, rfl, lk, hcd⟩ := F.ex
  refine ⟨f, _, len, fun A outer s H args us vs Q E hr e0 hb r hsp => ?_, b, kp, m⟩
  have hl := len _ _ _ _ hsp
  have KX : K.In s.heap := e0.mod.kin.keeps fun b o e => (e0.bs b o e).1
  have lim : s.heap.NoLimit := e0.mod.nolimit.keeps fun b o e => (e0.bs b o e).1
  have hkind : ∀ y ∈ ps.zip us, (defScope st).names.lookup y.1 = some .local ∨ ((defScope st).names.lookup y.1 = some .cell ∧ ((cellsFrom (s.heap.objs.size + 1) (defScope st).names []).lookup y.1).isSome = true) := fun ⟨n, v⟩ hy => by
    rcases S.par n (List.of_mem_zip hy).1 with q | q
    · exact .inl q
    · exact .inr ⟨q, PySem.W.cellsFrom_some _ _ _ (.inl q)⟩
  refine codeAny_call_function (by have := hr.dp; omega) (KX _ _ lk) rfl S.co S.gen rfl (PySem.W.codeRec_of KX hcd) (hb _ _ _ _ ?_)
  refine wpAny_newFunctionEnv_cells S.kind hkind fun env he s1 xx => ?_
  subst he
  refine ⟨lim.keeps xx.toInCall.keep, codeAny_func ?_⟩
  have hr' : RoomH k (A.deeper (envOfC x (defScope st) s.heap.objs.size f cdv)) := ⟨by have := hr.dp; show A.depth + 1 + 3 * k + 5 < _; omega, by have := hr.un; show A.units + 3 + 16 * k + 200 < _; omega⟩
  obtain ⟨t, ht, hq⟩ := hbody f cdv A outer s H vs Q E hr' hsp
  have e1 : Env0 P w K mg base { A with handled := Option.none } outer s H := ⟨e0.frames, e0.mod, e0.bs, e0.bsz, e0.funs, e0.frf, e0.hok, e0.bare⟩
  have I0 : Inv (cxOf CX0 P w K mg base N x (defScope st) f cdv { A with handled := Option.none } outer s H E) [] (start N vs) H s1 := inv_start S rfl e1 hl r xx
  have I : Inv ((cxOf CX0 P w K mg base N x (defScope st) f cdv { A with handled := Option.none } outer s H E).loud (A.deeper (envOfC x (defScope st) s.heap.objs.size f cdv))) [] (start N vs) H s1 :=
    ⟨⟨I0.ok.mod, I0.ok.kind, I0.ok.glob, I0.ok.blt, I0.ok.above, I0.ok.inj, I0.ok.has, I0.ok.cab, (fun z => nomatch z), Around.frames_deeper e0.frames, I0.ok.stk, I0.ok.exf, I0.ok.bs, I0.ok.bsz, I0.ok.noex, I0.ok.exfs, I0.ok.funs, I0.ok.frf⟩, I0.os, I0.bare, I0.base, I0.loc, I0.cell, I0.free, I0.freeC, I0.pin, I0.hok, I0.len⟩
  refine wpAny_mono (ht [] s1 (start N vs) H _ I hq) (fun fl s' hs => ?_) fun e s' hs => False.elim hs
  have fin : ∀ {σ' : St} {H' : Hp} {v : V} {u : Value}, Inv ((cxOf CX0 P w K mg base N x (defScope st) f cdv { A with handled := Option.none } outer s H E).loud (A.deeper (envOfC x (defScope st) s.heap.objs.size f cdv))) [] σ' H' s' → RelV v u → Q v H' → CE outer P w H s Q u s' :=
    fun {σ' H' v u} J rv q => ⟨v, H', J.os, J.bare, J.base, J.hok, rv, q⟩
  cases fl with
  | ret u =>
    obtain ⟨v, σ', H', J, rv, q⟩ := hs
    exact fin J rv q
  | next =>
    obtain ⟨σ', H', J, q⟩ := hs
    exact fin (v := V.non) (u := Value.none) J rfl q
  | brk =>
    obtain ⟨_, _, _, q⟩ := hs
    exact False.elim q
  | cont =>
    obtain ⟨_, _, _, q⟩ := hs
    exact False.elim q
end
section
variable {X : Cx} {k : Nat} {x : Str} {ps : List Str} {sp : Sp} {e fe : Expr} {es : List Expr} {t : TA} {tf : TE} {p pos : Pos} {E : XK}
theorem pe_callX (F : FnX X.prog X.w X.K X.mg X.base k x ps sp) (hr : Room k X.A) (hx : Passes (CX1 X.prog X.w) X E) (ha : PA X (e :: es) t) (hg : Gl X x := by rfl) (hdb : (x == ("__debug__" : Str)) = false := by decide)
    (he : starEach (e :: es) X.env = (false, eval e X.env) :: starEach es X.env := by rfl) (hpl : (backTo pos (starEach es X.env)).any (·.1) = false := by rfl) :
    PE X (.Call (.Name x p) (e :: es) [] pos) (tCall sp [] E t) := by
  obtain ⟨f, fd, F, b, kp, m⟩ := F
  exact pe_call F hr hg m kp b .nil hx ha hdb he hpl
theorem pe_callH (F : FnH X.prog X.w X.K X.mg X.base k x ps sp) (hr : RoomH k X.A) (ha : PA X (e :: es) t) (hg : Gl X x := by rfl) (hdb : (x == ("__debug__" : Str)) = false := by decide)
    (he : starEach (e :: es) X.env = (false, eval e X.env) :: starEach es X.env := by rfl) (hpl : (backTo pos (starEach es X.env)).any (·.1) = false := by rfl) :
    PE X (.Call (.Name x p) (e :: es) [] pos) (tCall sp [] E0 t) := by
  obtain ⟨f, fd, len, F, b, kp, m⟩ := F
  intro pins s σ H Q I h
  refine wpAny_Call_Name_kw (ld_glob I hg m ?_ hdb)
  refine PySem.W.callWith_K (h₀ := X.base) I.ok.mod.kin kp (thn (ha pos pins s σ H _ I h) fun us s1 ⟨vs, H1, I1, r, q⟩ => ⟨I1.kIn, ?_⟩) he hpl
  have r2 : Vals (vs ++ []) (us ++ []) := r.append .nil
  have hl : (us ++ []).length = ps.length := by rw [← r2.length]; exact len _ _ _ _ q
  refine wpAny_call (codeAny_mono (F X.A X.stack s1 H1 ⟨us, []⟩ (us ++ []) (vs ++ []) Q E0 hr I1.env0 (b s1 us I1.kIn hl) r2 q) fun r s' hq => ?_)
  cases r with
  | error e => exact False.elim hq
  | ok fl =>
    cases fl with
    | ret u => exact I1.after hq
    | next => exact False.elim hq
    | brk => exact False.elim hq
    | cont => exact False.elim hq
end
end L2
namespace SS
open PySem PySem.Spec PyProof.Rows
section
variable {prog : Program} {w : World} {A : Around} {E : Value → Shared → Prop} {s : Shared}
end
end SS
namespace SS
open PySem PySem.Spec PyProof.Rows
section
variable {prog : Program} {w : World} {A : Around} {R : Result → Shared → Prop} {I : Addr} {fp wr : List Addr} {G : Array GenState → Array GenState → Prop} {n : Nat} {P : Nat → Value → Prop} {St : Nat → Shared → Prop}
end
section
variable {prog : Program} {w : World} {A : Around} {E : Value → Shared → Prop} {s : Shared}
end
end SS
namespace SS
open PySem PySem.Spec PyProof.Rows
section
variable {M : Model} {A : Around} {E : Value → Shared → Prop} {s : Shared}
end
section
variable {prog : Program} {w : World} {A : Around} {E : Value → Shared → Prop} {s : Shared} {it a : Addr} {es : Array (Int × Value)} {ep : Nat} {t : SetTable}
end
end SS
namespace SS
open PySem PySem.Spec PyProof.Rows
section
variable {prog : Program} {w : World} {A : Around} {E : Value → Shared → Prop} {s : Shared} {it a : Addr} {es : Array (Int × Value)} {ep : Nat} {t : SetTable}
end
end SS
namespace SS
open PySem PySem.Spec PyProof.Rows
section
variable {prog : Program} {w : World} {A : Around} {E : Value → Shared → Prop} {s : Shared} {it a : Addr} {es : Array (Int × Value)} {ep : Nat} {t : SetTable}
end
end SS
namespace SS
open PySem PySem.Spec PyProof.Rows
section
variable {prog : Program} {w : World} {A : Around} {E : Value → Shared → Prop} {s : Shared} {it a : Addr} {es : Array (Int × Value)} {ep : Nat} {t : SetTable}
end
end SS
namespace SS
open PySem PySem.Spec PyProof.Rows
section
variable {prog : Program} {w : World} {A : Around} {E : Value → Shared → Prop} {s : Shared} {a : Addr} {es : Array (Int × Value)}
end
end SS
namespace L2
open PySem PySem.Spec PyProof.Rows
section
variable {X : Cx}
def strLt (a b : Str) : Prop := a.cps.toList < b.cps.toList
end
end L2
namespace L2
open PySem PySem.Spec PyProof.Rows
section
variable {X : Cx}
end
end L2
namespace L2
open PySem PySem.Spec PyProof.Rows
section
variable {X : Cx}
end
section
variable {prog : Program} {w : World} {A : Around} {E : Value → Shared → Prop} {s : Shared}
theorem tuple_addW0 (l b : Addr) (items items2 : Array Value) (n n2 : Nat) (dd dd2 : Option Addr) (sl sl2 : Array (Option Value)) (hc0 : items.isEmpty = true) :
    Meets (Builtin.«tuple.__add__» ⟨[.ref l, .ref b], []⟩) (fun _ R s => s.heap.get? l = some { cls := .type "tuple", dict := dd, data := .seq items n, slots := sl } ∧ s.heap.get? b = some { cls := .type "tuple", dict := dd2, data := .seq items2 n2, slots := sl2 } ∧ R (.ok (.ret (Value.ref b))) { s with heap := s.heap, toks := s.toks }) :=
  .of_wp fun prog w A R s h => by obtain ⟨hp, g, d, tk, os⟩ := s; obtain ⟨hl, hb, h⟩ := h; have f1 := AutoSeq1.idx_int; have f2 := AutoSeq1.sub_tuple_tuple; have f3 := AutoSeq1.sub_list_list; have f4 := AutoSeq1.sub_tuple_list; have f5 := AutoSeq1.sub_list_tuple; wp_walk using wpAny_loadPart' hl, wpAny_loadPart' hb; exact ⟨_, rfl, h⟩
end
section
variable {X : Cx}
def rCatT0 (K : PySem.W.Frag) : R2 := fun x y H Q => ∃ a b ys, x = .ref a ∧ y = .ref b ∧ SqT K H a [] ∧ SqT K H b ys ∧ Q (.ref b) H
theorem op_catT0 : OpR X (binaryOp .Add) (rCatT0 X.K) := by
  intro pins s σ H x y v u Q I rx ry h
  obtain ⟨a, b, ys, rfl, rfl, ha, hb, q⟩ := h
  cases rx
  cases ry
  obtain ⟨its, r1, p1, _⟩ := I.tuple ha
  obtain ⟨its2, r2, p2, _⟩ := I.tuple hb
  cases r1
  obtain ⟨⟨cls, dd, data, sl⟩, ho, hc, n, hd⟩ := id p1
  obtain ⟨⟨cls2, dd2, data2, sl2⟩, ho2, hc2, n2, hd2⟩ := id p2
  simp only at hc hd hc2 hd2
  subst hc hd hc2 hd2
  exact concat_meets ⟨_, ho, rfl⟩ ⟨_, ho2, rfl⟩ noFill_tuple_add seq_tuple_add PySem.F.slot_tuple_add PySem.F.entry_tuple_add (PySem.F.args_tuple_add_2 _ _)
      (tuple_addW0 a b #[] its2.toArray n n2 dd dd2 sl sl2 rfl) ⟨ho, ho2, ⟨.ref b, H, I, rfl, q⟩⟩
def rCatA (K : PySem.W.Frag) : R2 := fun x y H Q => ∃ a b xs ys, x = .ref a ∧ y = .ref b ∧ SqT K H a xs ∧ SqT K H b ys ∧ xs.length + ys.length ≤ sizeLine ∧
  (xs = [] → Q (.ref b) H) ∧ (xs ≠ [] → ys = [] → Q (.ref a) H) ∧ (xs ≠ [] → ys ≠ [] → ∀ p, H p = none → Q (.ref p) (upd H p (.tup (xs ++ ys))))
theorem op_catA : OpR X (binaryOp .Add) (rCatA X.K) := by
  intro pins s σ H x y v u Q I rx ry h
  obtain ⟨a, b, xs, ys, rfl, rfl, ha, hb, hz, q0, q1, q2⟩ := h
  by_cases hx : xs = []
  · subst hx
    exact op_catT0 pins s σ H _ _ v u Q I rx ry ⟨a, b, ys, rfl, rfl, ha, hb, q0 rfl⟩
  · exact op_catT pins s σ H _ _ v u Q I rx ry ⟨a, b, xs, ys, rfl, rfl, ha, hb, hx, hz, q1 hx, q2 hx⟩
end
end L2
namespace DP
open PySem PySem.Spec PyProof.Rows
section
variable {prog : Program} {w : World} {A : Around} {E : Value → Shared → Prop} {s : Shared}
end
section
variable {prog : Program} {w : World} {A : Around} {R : Result → Shared → Prop} {I : Addr} {fp wr : List Addr} {n : Nat} {P : Nat → Value → Prop} {St : Nat → Heap → Prop}
end
end DP
namespace L2
open PySem PySem.Spec PyProof.Rows
section
variable {X : Cx}
end
end L2
namespace L2
open PySem PySem.Spec PyProof.Rows
theorem eq_gives_bool (a b : Bool) : PySem.MeetsSeq.EqGives (.bool a) (.bool b) (a == b) := by
  intro prog w A E s Q h
  exact PySem.SeqAt.EqAt.bool_bool a b prog w E Q h
theorem vals_bl : ∀ {bs : List Bool} {its : List Value}, Vals (bs.map V.bl) its → its = bs.map Value.bool
  | [], _, .nil => rfl
  | b :: r, _, .cons q t => by
    have := vals_bl t
    subst this
    cases q
    rfl
section
variable {X : Cx}
def rCount : V → List V → Hp → VK → Prop := fun x vs H Q => ∃ (l : Addr) (bs : List Bool) (b : Bool), x = .ref l ∧ vs = [.bl b] ∧ H l = some (.lst (bs.map V.bl)) ∧ Q (.int (bs.countP (· == b) : Nat)) H
theorem mt_count : MtM X "list.count" rCount := by
  intro pins s σ H x vs v us Q I rx rv h
  obtain ⟨l, bs, b, rfl, rfl, hH, q⟩ := h
  cases rx
  obtain ⟨u, rfl, ru⟩ := rv.one
  cases ru
  obtain ⟨z, its, n, r, hl, e⟩ := I.lstM hH
  have e2 := vals_bl r
  subst e2
  refine call_meets F.slot_list_count ⟨_, e, rfl⟩ F.entry_list_count (F.args_list_count_2 _ _) (PySem.MeetsSeq.list_count l (bs.map Value.bool).toArray n (.bool b) (fun y => match y with | .bool c => c == b | _ => false) (fun y hy => ?_)) ⟨e, ?_⟩
  · have hy' : y ∈ bs.map Value.bool := by simpa using hy
    obtain ⟨c, _, rfl⟩ := List.mem_map.mp hy'
    exact eq_gives_bool c b
  · have ec : ((bs.map Value.bool).toArray.toList.countP fun y => match y with | .bool c => c == b | _ => false) = bs.countP (· == b) := by
      show ((bs.map Value.bool).countP _) = _
      rw [List.countP_map]
      rfl
    rw [ec]
    exact ⟨.int _, H, I.tok _, ⟨_, rfl⟩, q⟩
def rIndex : V → List V → Hp → VK → Prop := fun x vs H Q => ∃ (l : Addr) (bs : List Bool) (b : Bool) (j : Nat), x = .ref l ∧ vs = [.bl b] ∧ H l = some (.lst (bs.map V.bl)) ∧ bs[j]? = some b ∧ (∀ m c, m < j → bs[m]? = some c → c ≠ b) ∧ Q (.int (j : Nat)) H
theorem mt_index : MtM X "list.index" rIndex := by
  intro pins s σ H x vs v us Q I rx rv h
  obtain ⟨l, bs, b, j, rfl, rfl, hH, hj, hno, q⟩ := h
  cases rx
  obtain ⟨u, rfl, ru⟩ := rv.one
  cases ru
  obtain ⟨z, its, n, r, hl, e⟩ := I.lstM hH
  have e2 := vals_bl r
  subst e2
  have hjl : j < bs.length := (List.getElem?_eq_some_iff.mp hj).1
  have hz : bs.length ≤ sizeLine := by simpa using z
  refine call_meets F.slot_list_index ⟨_, e, rfl⟩ F.entry_list_index (F.args_list_index_2 _ _) (PySem.MeetsSeq.list_index l (bs.map Value.bool).toArray n (.bool b) (fun y => match y with | .bool c => c == b | _ => false) (fun y hy => ?_) j (by simpa using hjl) ?_ ?_ fun m hm hmj => ?_) ⟨e, ?_⟩
  · have hy' : y ∈ bs.map Value.bool := by simpa using hy
    obtain ⟨c, _, rfl⟩ := List.mem_map.mp hy'
    exact eq_gives_bool c b
  · have : (sizeLine : Nat) < 2 ^ 63 - 1 := by decide
    omega
  · have := (List.getElem?_eq_some_iff.mp hj).2
    simp [this]
  · have hm' : m < bs.length := by simpa using hm
    have := hno m _ hmj (List.getElem?_eq_getElem hm')
    simpa using this
  · exact ⟨.int _, H, I.tok _, ⟨_, rfl⟩, q⟩
end
end L2
namespace PySem
open Sem (wp)
open AutoSeq1 (wpAny_loadPart')
namespace ZL
section
variable {prog : Program} {w : World} {A : Around} {E : Value → Shared → Prop} {s : Shared} {z TI TO i1 i2 l1 l2 : Addr} {xs ys : Array Value}
end
section
variable {prog : Program} {w : World} {A : Around} {E : Value → Shared → Prop} {s : Shared}
end
end ZL
end PySem
namespace L2
open PySem PySem.Spec PyProof.Rows
section
variable {X : Cx}
end
section
variable {X : Cx}
end
end L2
namespace L2
open PySem PySem.Spec PyProof.Rows
section
variable {X : Cx}
end
end L2
namespace MA
namespace Mob
variable {N : Type}
end Mob
end MA
namespace MA
end MA
namespace DP
open PySem PySem.Spec PyProof.Rows L2
inductive D where
  | non | bl (b : Bool) | int (i : Int) | str (x : Str) | tup (xs : List D) | ref (r : Nat) | fl (xs : List Int) | exc (c : Str)
inductive C where
  | lst (xs : List D) | dct (kvs : List (Key × D)) | fdc (o : Obj) (kvs : List (Key × D)) | ins (cl : Str) (fs : List (Str × D))
abbrev Ar := List C
abbrev Io := Nat → Addr
section
variable (mg : Str → Option Value)
mutual
def RV (ι : Io) (n : Nat) (H : Hp) : D → V → Prop
  | .non, v => v = .non
  | .bl b, v => v = .bl b
  | .int i, v => v = .int i
  | .str x, v => v = .str x
  | .tup ds, v => ∃ a xs, v = .ref a ∧ H a = some (.tup xs) ∧ RVs ι n H ds xs
  | .ref r, v => r < n ∧ v = .ref (ι r)
  | .fl ns, v => ∃ a o, v = .ref a ∧ H a = some (.frz o (.lst (ns.map V.int)))
  | .exc c, v => ∃ a C, v = .ref a ∧ mg c = some (.ref C) ∧ H a = some (excO a C)
def RVs (ι : Io) (n : Nat) (H : Hp) : List D → List V → Prop
  | [], xs => xs = []
  | d :: ds, xs => ∃ x r, xs = x :: r ∧ RV ι n H d x ∧ RVs ι n H ds r
end
def RK (ι : Io) (n : Nat) (H : Hp) : List (Key × D) → List (Key × V) → Prop
  | [], xs => xs = []
  | p :: ds, xs => ∃ x r, xs = (p.1, x) :: r ∧ RV mg ι n H p.2 x ∧ RK ι n H ds r
def RF (ι : Io) (n : Nat) (H : Hp) : List (Str × D) → List (Str × V) → Prop
  | [], xs => xs = []
  | p :: ds, xs => ∃ x r, xs = (p.1, x) :: r ∧ RV mg ι n H p.2 x ∧ RF ι n H ds r
def CO (ι : Io) (n : Nat) (H : Hp) (a : Addr) : C → Prop
  | .lst ds => ∃ xs, H a = some (.lst xs) ∧ RVs mg ι n H ds xs
  | .dct kvs => ∃ xs, H a = some (.dK xs) ∧ RK mg ι n H kvs xs
  | .fdc o kvs => ∃ xs, H a = some (.frz o (.dK xs)) ∧ RK mg ι n H kvs xs
  | .ins cl fs => ∃ Cc dx xs, mg cl = some (.ref Cc) ∧ H a = some (.ins Cc dx xs) ∧ RF mg ι n H fs xs
structure RA (ι : Io) (H : Hp) (A : Ar) : Prop where
  cel : ∀ r c, A[r]? = some c → CO mg ι A.length H (ι r) c
  inj : ∀ r q, r < A.length → q < A.length → ι r = ι q → r = q
end
def mutO : HO → Bool
  | .lst _ | .dK _ | .frz _ (.dK _) | .ins _ _ _ => true
  | _ => false
structure Ext (A : Ar) (ι : Io) (H : Hp) (A' : Ar) (ι' : Io) (H' : Hp) : Prop where
  len : A.length ≤ A'.length
  ag : ∀ r, r < A.length → ι' r = ι r
  im : ∀ r, r < A.length → ∃ o, H (ι r) = some o ∧ mutO o = true
  mo : ∀ b o, H b = some o → (∀ r, r < A.length → ι r ≠ b) → H' b = some o
  nw : ∀ r, A.length ≤ r → r < A'.length → H (ι' r) = none
  al : ∀ b o, H b = some o → ∃ o', H' b = some o'
theorem Ext.fix {A A' : Ar} {ι ι' : Io} {H H' : Hp} (e : Ext A ι H A' ι' H') {b : Addr} {o : HO} (hm : mutO o = false) (h : H b = some o) : H' b = some o := e.mo b o h fun r hr z => by
  obtain ⟨u, h1, h2⟩ := e.im r hr
  rw [z, h] at h1; cases h1; rw [hm] at h2; cases h2
theorem Ext.trans {A A1 A2 : Ar} {ι ι1 ι2 : Io} {H H1 H2 : Hp} (a : Ext A ι H A1 ι1 H1) (b : Ext A1 ι1 H1 A2 ι2 H2) : Ext A ι H A2 ι2 H2 where
  len := Nat.le_trans a.len b.len
  ag := fun r h => (b.ag r (Nat.lt_of_lt_of_le h a.len)).trans (a.ag r h)
  im := a.im
  mo := fun c o h hn => b.mo c o (a.mo c o h hn) fun r hr z => by
    by_cases hl : r < A.length
    · rw [a.ag r hl] at z; exact hn r hl z
    · have := a.nw r (by omega) hr
      rw [z, h] at this; cases this
  nw := fun r h1 h2 => by
    by_cases hl : r < A1.length
    · rw [b.ag r hl]; exact a.nw r h1 hl
    · have n1 := b.nw r (by omega) h2
      cases q : H (ι2 r) with
      | none => rfl
      | some o =>
        obtain ⟨o', h'⟩ := a.al _ o q
        rw [h'] at n1; cases n1
  al := fun c o h => by
    obtain ⟨o1, h1⟩ := a.al c o h
    exact b.al c o1 h1
section
variable {mg : Str → Option Value} {A A' : Ar} {ι ι' : Io} {H H' : Hp}
section
variable {n n' : Nat}
mutual
theorem RV.ag (hn : n ≤ n') (hι : ∀ r, r < n → ι' r = ι r) (hf : ∀ b o, mutO o = false → H b = some o → H' b = some o) : ∀ (d : D) (v : V), RV mg ι n H d v → RV mg ι' n' H' d v
  | .non, _, h => h
  | .bl _, _, h => h
  | .int _, _, h => h
  | .str _, _, h => h
  | .tup ds, v, h => by
    obtain ⟨a, xs, e1, e2, e3⟩ := h
    exact ⟨a, xs, e1, hf _ _ rfl e2, RVs.ag hn hι hf ds xs e3⟩
  | .ref r, v, h => ⟨Nat.lt_of_lt_of_le h.1 hn, by rw [hι r h.1]; exact h.2⟩
  | .fl ns, v, h => by
    obtain ⟨a, o, e1, e2⟩ := h
    exact ⟨a, o, e1, hf _ _ rfl e2⟩
  | .exc c, v, h => by
    obtain ⟨a, C, e1, e2, e3⟩ := h
    exact ⟨a, C, e1, e2, hf _ _ rfl e3⟩
theorem RVs.ag (hn : n ≤ n') (hι : ∀ r, r < n → ι' r = ι r) (hf : ∀ b o, mutO o = false → H b = some o → H' b = some o) : ∀ (ds : List D) (vs : List V), RVs mg ι n H ds vs → RVs mg ι' n' H' ds vs
  | [], _, h => h
  | d :: ds, vs, h => by
    obtain ⟨x, r, e1, e2, e3⟩ := h
    exact ⟨x, r, e1, RV.ag hn hι hf d x e2, RVs.ag hn hι hf ds r e3⟩
end
theorem RK.ag (hn : n ≤ n') (hι : ∀ r, r < n → ι' r = ι r) (hf : ∀ b o, mutO o = false → H b = some o → H' b = some o) : ∀ (ds : List (Key × D)) (vs : List (Key × V)), RK mg ι n H ds vs → RK mg ι' n' H' ds vs
  | [], _, h => h
  | d :: ds, vs, h => by
    obtain ⟨x, r, e1, e2, e3⟩ := h
    exact ⟨x, r, e1, RV.ag hn hι hf _ x e2, RK.ag hn hι hf ds r e3⟩
theorem RF.ag (hn : n ≤ n') (hι : ∀ r, r < n → ι' r = ι r) (hf : ∀ b o, mutO o = false → H b = some o → H' b = some o) : ∀ (ds : List (Str × D)) (vs : List (Str × V)), RF mg ι n H ds vs → RF mg ι' n' H' ds vs
  | [], _, h => h
  | d :: ds, vs, h => by
    obtain ⟨x, r, e1, e2, e3⟩ := h
    exact ⟨x, r, e1, RV.ag hn hι hf _ x e2, RF.ag hn hι hf ds r e3⟩
theorem CO.ag {a : Addr} (hn : n ≤ n') (hι : ∀ r, r < n → ι' r = ι r) (hf : ∀ b o, mutO o = false → H b = some o → H' b = some o) (ha : ∀ o, H a = some o → H' a = some o) : ∀ (c : C), CO mg ι n H a c → CO mg ι' n' H' a c
  | .lst ds, h => by
    obtain ⟨xs, e1, e2⟩ := h
    exact ⟨xs, ha _ e1, RVs.ag hn hι hf ds xs e2⟩
  | .dct ds, h => by
    obtain ⟨xs, e1, e2⟩ := h
    exact ⟨xs, ha _ e1, RK.ag hn hι hf ds xs e2⟩
  | .fdc o ds, h => by
    obtain ⟨xs, e1, e2⟩ := h
    exact ⟨xs, ha _ e1, RK.ag hn hι hf ds xs e2⟩
  | .ins cl ds, h => by
    obtain ⟨Cc, dx, xs, e0, e1, e2⟩ := h
    exact ⟨Cc, dx, xs, e0, ha _ e1, RF.ag hn hι hf ds xs e2⟩
end
theorem RV.ext (e : Ext A ι H A' ι' H') (d : D) (v : V) (h : RV mg ι A.length H d v) : RV mg ι' A'.length H' d v := RV.ag e.len e.ag (fun _ _ m h => e.fix m h) d v h
theorem RVs.ext (e : Ext A ι H A' ι' H') (d : List D) (v : List V) (h : RVs mg ι A.length H d v) : RVs mg ι' A'.length H' d v := RVs.ag e.len e.ag (fun _ _ m h => e.fix m h) d v h
theorem CO.ext {a : Addr} (e : Ext A ι H A' ι' H') (ha : ∀ o, H a = some o → H' a = some o) (c : C) (h : CO mg ι A.length H a c) : CO mg ι' A'.length H' a c := CO.ag (a := a) (H := H) (H' := H') e.len e.ag (fun _ _ m h => e.fix m h) ha c h
theorem RVs.length : ∀ {ds : List D} {vs : List V} {n : Nat}, RVs mg ι n H ds vs → ds.length = vs.length
  | [], vs, _, h => by have h' : vs = [] := h; rw [h']; rfl
  | d :: ds, vs, n, h => by
    obtain ⟨x, r, rfl, _, e3⟩ := h
    simp [RVs.length e3]
theorem RVs.get : ∀ {ds : List D} {vs : List V} {n i : Nat} {d : D}, RVs mg ι n H ds vs → ds[i]? = some d → ∃ v, vs[i]? = some v ∧ RV mg ι n H d v
  | [], _, _, _, _, _, e => by simp at e
  | d :: ds, vs, n, 0, d', h, e => by
    obtain ⟨x, r, rfl, e2, _⟩ := h
    simp at e; subst e
    exact ⟨x, rfl, e2⟩
  | d :: ds, vs, n, i + 1, d', h, e => by
    obtain ⟨x, r, rfl, _, e3⟩ := h
    obtain ⟨v, h1, h2⟩ := RVs.get (i := i) e3 (by simpa using e)
    exact ⟨v, by simpa using h1, h2⟩
theorem RVs.app : ∀ {ds es : List D} {vs ws : List V} {n : Nat}, RVs mg ι n H ds vs → RVs mg ι n H es ws → RVs mg ι n H (ds ++ es) (vs ++ ws)
  | [], _, vs, _, _, h, q => by have h' : vs = [] := h; rw [h']; exact q
  | d :: ds, es, vs, ws, n, h, q => by
    obtain ⟨x, r, rfl, e2, e3⟩ := h
    exact ⟨x, r ++ ws, rfl, e2, RVs.app e3 q⟩
theorem RVs.take : ∀ {ds : List D} {vs : List V} {n : Nat} (k : Nat), RVs mg ι n H ds vs → RVs mg ι n H (ds.take k) (vs.take k)
  | ds, vs, n, 0, h => by simp [RVs]
  | [], vs, n, k + 1, h => by have h' : vs = [] := h; rw [h']; simp [RVs]
  | d :: ds, vs, n, k + 1, h => by
    obtain ⟨x, r, rfl, e2, e3⟩ := h
    exact ⟨x, r.take k, rfl, e2, RVs.take k e3⟩
theorem RVs.drop : ∀ {ds : List D} {vs : List V} {n : Nat} (k : Nat), RVs mg ι n H ds vs → RVs mg ι n H (ds.drop k) (vs.drop k)
  | ds, vs, n, 0, h => by simpa using h
  | [], vs, n, k + 1, h => by have h' : vs = [] := h; rw [h']; simp [RVs]
  | d :: ds, vs, n, k + 1, h => by
    obtain ⟨x, r, rfl, e2, e3⟩ := h
    exact RVs.drop k e3
theorem RA.im (R : RA mg ι H A) : ∀ r, r < A.length → ∃ o, H (ι r) = some o ∧ mutO o = true := fun r h => by
  obtain ⟨c', hc'⟩ : ∃ c', A[r]? = some c' := ⟨A[r], by rw [List.getElem?_eq_getElem h]⟩
  have := R.cel r c' hc'
  cases c' with
  | lst ds => obtain ⟨xs, e1, _⟩ := this; exact ⟨_, e1, rfl⟩
  | dct ds => obtain ⟨xs, e1, _⟩ := this; exact ⟨_, e1, rfl⟩
  | fdc o ds => obtain ⟨xs, e1, _⟩ := this; exact ⟨_, e1, rfl⟩
  | ins cl ds => obtain ⟨Cc, dx, xs, _, e1, _⟩ := this; exact ⟨_, e1, rfl⟩
theorem RA.refl (R : RA mg ι H A) : Ext A ι H A ι H := ⟨Nat.le_refl _, fun _ _ => rfl, R.im, fun _ _ h _ => h, fun r h1 h2 => absurd h2 (by omega), fun _ o h => ⟨o, h⟩⟩
theorem RA.ext_fix (R : RA mg ι H A) {p : Addr} {o : HO} (hp : H p = none) : Ext A ι H A ι (upd H p o) :=
  ⟨Nat.le_refl _, fun _ _ => rfl, R.im, fun b u h _ => by rw [upd_ne (ne_of_none h hp)]; exact h, fun r h1 h2 => absurd h2 (by omega), fun b u h => ⟨u, by rw [upd_ne (ne_of_none h hp)]; exact h⟩⟩
theorem RA.ext_push (R : RA mg ι H A) {p : Addr} {o : HO} {c : C} (hp : H p = none) : Ext A ι H (A ++ [c]) (fun r => if r = A.length then p else ι r) (upd H p o) :=
  ⟨by simp, fun r h => by
    show (if r = A.length then p else ι r) = ι r
    rw [if_neg (by omega)], R.im, fun b u h _ => by rw [upd_ne (ne_of_none h hp)]; exact h, fun r h1 h2 => by
    have e : r = A.length := by simp at h2; omega
    show H (if r = A.length then p else ι r) = none
    rw [if_pos e]; exact hp, fun b u h => ⟨u, by rw [upd_ne (ne_of_none h hp)]; exact h⟩⟩
theorem RA.ext_put (R : RA mg ι H A) {r : Nat} {o : HO} {c : C} (hr : r < A.length) : Ext A ι H (A.set r c) ι (upd H (ι r) o) :=
  ⟨by simp, fun _ _ => rfl, R.im, fun b u h hn => by rw [upd_ne (fun e => hn r hr e.symm)]; exact h, fun q h1 h2 => absurd h2 (by simp; omega), fun b u h => by
    by_cases hb : b = ι r
    · subst hb; exact ⟨o, upd_same⟩
    · exact ⟨u, by rw [upd_ne hb]; exact h⟩⟩
theorem RA.fix (R : RA mg ι H A) (e : Ext A ι H A ι H') (k : ∀ b o, H b = some o → H' b = some o) : RA mg ι H' A := ⟨fun r c h => CO.ext e (fun o q => k _ o q) c (R.cel r c h), R.inj⟩
theorem RA.push {p : Addr} {o : HO} {c : C} (R : RA mg ι H A) (hp : H p = none) (hc : CO mg (fun r => if r = A.length then p else ι r) (A.length + 1) (upd H p o) p c) :
    RA mg (fun r => if r = A.length then p else ι r) (upd H p o) (A ++ [c]) ∧ Ext A ι H (A ++ [c]) (fun r => if r = A.length then p else ι r) (upd H p o) := by
  have E : Ext A ι H (A ++ [c]) (fun r => if r = A.length then p else ι r) (upd H p o) := R.ext_push hp
  have tr : ∀ r, r < A.length → ∃ u, H (ι r) = some u := fun r h => by
    obtain ⟨c', hc'⟩ : ∃ c', A[r]? = some c' := ⟨A[r], by rw [List.getElem?_eq_getElem h]⟩
    have := R.cel r c' hc'
    cases c' with
    | lst ds => obtain ⟨xs, e1, _⟩ := this; exact ⟨_, e1⟩
    | dct ds => obtain ⟨xs, e1, _⟩ := this; exact ⟨_, e1⟩
    | fdc o ds => obtain ⟨xs, e1, _⟩ := this; exact ⟨_, e1⟩
    | ins cl ds => obtain ⟨Cc, dx, xs, _, e1, _⟩ := this; exact ⟨_, e1⟩
  refine ⟨⟨fun r c' h => ?_, fun r q hr hq h => ?_⟩, E⟩
  · by_cases hr : r < A.length
    · rw [List.getElem?_append_left hr] at h
      have := CO.ext E (a := ι r) (fun o' q => by rw [upd_ne (ne_of_none q hp)]; exact q) c' (R.cel r c' h)
      show CO mg _ _ _ (if r = A.length then p else ι r) c'
      rw [if_neg (by omega)]
      exact this
    · have hl : r = A.length := by
        have := (List.getElem?_eq_some_iff.mp h).1
        simp at this; omega
      subst hl
      simp at h; subst h
      show CO mg _ _ _ (if A.length = A.length then p else ι A.length) c
      rw [if_pos rfl]
      simpa using hc
  · simp at hr hq
    have h' : (if r = A.length then p else ι r) = (if q = A.length then p else ι q) := h
    by_cases h1 : r = A.length
    · by_cases h2 : q = A.length
      · rw [h1, h2]
      · rw [if_pos h1, if_neg h2] at h'
        obtain ⟨u, hu⟩ := tr q (by omega)
        rw [← h', hp] at hu; cases hu
    · by_cases h2 : q = A.length
      · rw [if_neg h1, if_pos h2] at h'
        obtain ⟨u, hu⟩ := tr r (by omega)
        rw [h', hp] at hu; cases hu
      · rw [if_neg h1, if_neg h2] at h'
        exact R.inj r q (by omega) (by omega) h'
theorem RA.put {r : Nat} {u o : HO} {c c' : C} (R : RA mg ι H A) (hr : A[r]? = some c) (hu : H (ι r) = some u) (hm : mutO u = true) (hc : CO mg ι A.length (upd H (ι r) o) (ι r) c') :
    RA mg ι (upd H (ι r) o) (A.set r c') ∧ Ext A ι H (A.set r c') ι (upd H (ι r) o) := by
  have lr := (List.getElem?_eq_some_iff.mp hr).1
  have E : Ext A ι H (A.set r c') ι (upd H (ι r) o) := R.ext_put lr
  refine ⟨⟨fun q d h => ?_, fun a b ha hb => R.inj a b (by simpa using ha) (by simpa using hb)⟩, E⟩
  by_cases hq : q = r
  · subst hq
    rw [List.getElem?_set_self lr] at h
    cases h
    simpa using hc
  · rw [List.getElem?_set_ne (Ne.symm hq)] at h
    have lq := (List.getElem?_eq_some_iff.mp h).1
    have := CO.ext E (a := ι q) (fun o' z => by rw [upd_ne (fun e => hq (R.inj q r lq lr e))]; exact z) d (R.cel q d h)
    simpa using this
end
end DP
namespace DP
open PySem PySem.Spec PyProof.Rows L2
abbrev DSt := List (Option D)
def lk : DSt → Nat → Option D
  | [], _ => none
  | x :: _, 0 => x
  | _ :: r, i + 1 => lk r i
theorem lk_get : ∀ (τ : DSt) (i : Nat), lk τ i = (τ[i]?).join
  | [], i => by simp [lk]
  | x :: r, 0 => by simp [lk]
  | x :: r, i + 1 => by simp [lk, lk_get r i]
structure En where
  A : Ar
  ι : Io
  H : Hp
structure RS (mg : Str → Option Value) (ι : Io) (n : Nat) (H : Hp) (τ : DSt) (σ : L2.St) : Prop where
  len : τ.length = σ.length
  at' : ∀ i d, lk τ i = some d → ∃ v, σ[i]? = some (some v) ∧ RV mg ι n H d v
structure Sim (mg : Str → Option Value) (N : En) (A : Ar) (ι : Io) (τ : DSt) (σ : L2.St) (H : Hp) : Prop where
  ra : RA mg ι H A
  rs : RS mg ι A.length H τ σ
  ex : Ext N.A N.ι N.H A ι H
abbrev DK := D → Ar → Prop
abbrev DTE := DSt → Ar → DK → Prop
abbrev DTT := DSt → Ar → (Bool → Ar → Prop) → Prop
abbrev DTA := DSt → Ar → (List D → Ar → Prop) → Prop
def Kt (mg : Str → Option Value) (A : Ar) (ι : Io) (H : Hp) (R : DK) (Q : VK) : Prop := ∀ v A' ι' H' u, R v A' → Ext A ι H A' ι' H' → RA mg ι' H' A' → RV mg ι' A'.length H' v u → Q u H'
def KtB (mg : Str → Option Value) (A : Ar) (ι : Io) (H : Hp) (R : Bool → Ar → Prop) (Q : Bool → Hp → Prop) : Prop := ∀ v A' ι' H', R v A' → Ext A ι H A' ι' H' → RA mg ι' H' A' → Q v H'
def KtA (mg : Str → Option Value) (A : Ar) (ι : Io) (H : Hp) (R : List D → Ar → Prop) (Q : List V → Hp → Prop) : Prop := ∀ v A' ι' H' u, R v A' → Ext A ι H A' ι' H' → RA mg ι' H' A' → RVs mg ι' A'.length H' v u → Q u H'
def up (mg : Str → Option Value) (N : En) (m : DTE) : TE := fun σ H Q => ∃ A ι τ R, Sim mg N A ι τ σ H ∧ m τ A R ∧ Kt mg A ι H R Q
def upT (mg : Str → Option Value) (N : En) (m : DTT) : TT := fun σ H Q => ∃ A ι τ R, Sim mg N A ι τ σ H ∧ m τ A R ∧ KtB mg A ι H R Q
def upA (mg : Str → Option Value) (N : En) (m : DTA) : TA := fun σ H Q => ∃ A ι τ R, Sim mg N A ι τ σ H ∧ m τ A R ∧ KtA mg A ι H R Q
section
variable {mg : Str → Option Value} {N : En} {A A' : Ar} {ι ι' : Io} {τ : DSt} {σ : L2.St} {H H' : Hp}
theorem RS.ext (e : Ext A ι H A' ι' H') (r : RS mg ι A.length H τ σ) : RS mg ι' A'.length H' τ σ := ⟨r.len, fun i d h => by
  obtain ⟨v, h1, h2⟩ := r.at' i d h
  exact ⟨v, h1, RV.ext e d v h2⟩⟩
theorem Sim.next (S : Sim mg N A ι τ σ H) (e : Ext A ι H A' ι' H') (r : RA mg ι' H' A') : Sim mg N A' ι' τ σ H' := ⟨r, S.rs.ext e, S.ex.trans e⟩
theorem Kt.from {R : DK} {Q : VK} (k : Kt mg A ι H R Q) (e : Ext A ι H A' ι' H') : Kt mg A' ι' H' R Q := fun v A2 ι2 H2 u q e2 => k v A2 ι2 H2 u q (e.trans e2)
theorem KtB.from {R : Bool → Ar → Prop} {Q : Bool → Hp → Prop} (k : KtB mg A ι H R Q) (e : Ext A ι H A' ι' H') : KtB mg A' ι' H' R Q := fun v A2 ι2 H2 q e2 => k v A2 ι2 H2 q (e.trans e2)
theorem Kt.here {R : DK} {Q : VK} {d : D} {v : V} (k : Kt mg A ι H R Q) (r : RA mg ι H A) (q : R d A) (h : RV mg ι A.length H d v) : Q v H := k d A ι H v q r.refl r h
theorem KtB.here {R : Bool → Ar → Prop} {Q : Bool → Hp → Prop} {b : Bool} (k : KtB mg A ι H R Q) (r : RA mg ι H A) (q : R b A) : Q b H := k b A ι H q r.refl r
end
section
variable {X : Cx} {e : Expr}
theorem de_w {t t' : TE} (h : PE X e t) (w : ∀ σ H Q, t' σ H Q → t σ H Q) : PE X e t' := fun pins s σ H Q I q => h pins s σ H Q I (w σ H Q q)
theorem dt_w {t t' : TT} (h : PT X e t) (w : ∀ σ H Q, t' σ H Q → t σ H Q) : PT X e t' := fun pins s σ H Q I q => h pins s σ H Q I (w σ H Q q)
theorem dw_w {t t' : TT} (h : PW X e t) (w : ∀ σ H Q, t' σ H Q → t σ H Q) : PW X e t' := fun whole pins s σ H Q I q => h whole pins s σ H Q I (w σ H Q q)
theorem da_w {es : List Expr} {t t' : TA} (h : PA X es t) (w : ∀ σ H Q, t' σ H Q → t σ H Q) : PA X es t' := fun pos pins s σ H Q I q => h pos pins s σ H Q I (w σ H Q q)
theorem ds_w {st : Stmt} {t t' : TS} (h : PS X st t) (w : ∀ D σ H, t' D σ H → t D σ H) : PS X st t' := fun pins s σ H D I q => h pins s σ H D I (w D σ H q)
theorem dss_w {st : List Stmt} {t t' : TS} (h : PSs X st t) (w : ∀ D σ H, t' D σ H → t D σ H) : PSs X st t' := fun pins s σ H D I q => h pins s σ H D I (w D σ H q)
end
def dVar (i : Nat) : DTE := fun τ A R => match lk τ i with
  | some v => R v A
  | none => False
def dC (d : D) : DTE := fun _ A R => R d A
section
variable {X : Cx} {N : En} {pos : Pos}
theorem de_var {i : Nat} {x : Str} (hN : X.N[i]? = some x) (hv : Vis X.env.scope x) (hd : (x == ("__debug__" : Str)) = false := by decide) (hcd : (x == ("__classdict__" : Str)) = false := by decide) : PE X (.Name x pos) (up X.mg N (dVar i)) :=
  de_w (pe_var hN hv hd hcd) fun σ H Q h => by
    obtain ⟨A, ι, τ, R, S, h, k⟩ := h
    unfold dVar at h
    split at h
    · rename_i v e
      obtain ⟨u, h1, h2⟩ := S.rs.at' i v e
      exact ⟨u, h1, k.here S.ra h h2⟩
    · exact h.elim
theorem de_const {e : Expr} {d : D} {v : V} (h : PE X e (tC v)) (r : ∀ ι n H, RV X.mg ι n H d v) : PE X e (up X.mg N (dC d)) :=
  de_w h fun σ H Q h => by
    obtain ⟨A, ι, τ, R, S, h, k⟩ := h
    exact k.here S.ra h (r _ _ _)
theorem de_int {i j} : PE X (.Constant (.int i) j pos) (up X.mg N (dC (.int i))) := de_const pe_int fun _ _ _ => rfl
theorem de_bl {b j} : PE X (.Constant (.bool b) j pos) (up X.mg N (dC (.bl b))) := de_const pe_bl fun _ _ _ => rfl
theorem de_non {j} : PE X (.Constant .none j pos) (up X.mg N (dC .non)) := de_const pe_non fun _ _ _ => rfl
theorem de_str {x j} : PE X (.Constant (.str x) j pos) (up X.mg N (dC (.str x))) := de_const pe_str fun _ _ _ => rfl
theorem de_num {x : Str} {i : Int} {t : Tok} (hm : X.mg x = some (.int i t)) (hg : Gl X x := by rfl) (hd : (x == ("__debug__" : Str)) = false := by decide) : PE X (.Name x pos) (up X.mg N (dC (.int i))) :=
  de_const (pe_glob (v := .int i) hg hm ⟨_, rfl⟩ hd) fun _ _ _ => rfl
end
abbrev DOp := D → D → Ar → DK → Prop
def OpD (mg : Str → Option Value) (r : R2) (f : DOp) : Prop := ∀ x y A ι H u v R Q, RA mg ι H A → RV mg ι A.length H x u → RV mg ι A.length H y v → f x y A R → Kt mg A ι H R Q → r u v H Q
def dOp (f : DOp) (ma mb : DTE) : DTE := fun τ A R => ma τ A fun x A1 => mb τ A1 fun y A2 => f x y A2 R
section
variable {X : Cx} {N : En} {pos : Pos} {a b c : Expr} {ma mb mc : DTE} {f f' : DOp} {r r' : R2}
theorem up_op (h : OpD X.mg r f) {σ : L2.St} {H : Hp} {Q : VK} (q : up X.mg N (dOp f ma mb) σ H Q) : tOp r (up X.mg N ma) (up X.mg N mb) σ H Q := by
  obtain ⟨A, ι, τ, R, S, q, k⟩ := q
  have q : ma τ A (fun x A1 => mb τ A1 fun y A2 => f x y A2 R) := q
  refine ⟨A, ι, τ, _, S, q, fun x A1 ι1 H1 u q1 e1 r1 v1 => ?_⟩
  refine ⟨A1, ι1, τ, _, S.next e1 r1, q1, fun y A2 ι2 H2 v q2 e2 r2 v2 => ?_⟩
  exact h x y A2 ι2 H2 u v R Q r2 (RV.ext e2 x u v1) v2 q2 (k.from (e1.trans e2))
theorem de_op {op : Operator} (ho : OpR X (binaryOp op) r) (hd : OpD X.mg r f) (ha : PE X a (up X.mg N ma)) (hb : PE X b (up X.mg N mb)) : PE X (.BinOp a op b pos) (up X.mg N (dOp f ma mb)) :=
  de_w (pe_op ho ha hb) fun _ _ _ h => up_op hd h
theorem de_cmp {op : CmpOp} (ho : OpR X (compareOp op) r) (hd : OpD X.mg r f) (ha : PE X a (up X.mg N ma)) (hb : PE X b (up X.mg N mb)) (hm : behindInMarks op b = false) : PE X (.Compare a [op] [b] pos) (up X.mg N (dOp f ma mb)) :=
  de_w (pe_cmpR ho ha hb hm) fun _ _ _ h => up_op hd h
def dTest (m : DTE) : DTT := fun τ A R => m τ A fun x A1 => match x with
  | .bl k => R k A1
  | _ => False
theorem up_test {t : TE} {m : DTE} (ht : ∀ σ H Q, up X.mg N m σ H Q → t σ H Q) {σ : L2.St} {H : Hp} {Q : Bool → Hp → Prop} (q : upT X.mg N (dTest m) σ H Q) : tTest t σ H Q := by
  obtain ⟨A, ι, τ, R, S, q, k⟩ := q
  refine ht _ _ _ ⟨A, ι, τ, _, S, q, fun x A1 ι1 H1 u q1 e1 r1 v1 => ?_⟩
  cases x with
  | bl b => exact ⟨b, v1, k b A1 ι1 H1 q1 e1 r1⟩
  | _ => exact q1.elim
theorem dt_cmp {op : CmpOp} (ho : OpR X (compareOp op) r) (hd : OpD X.mg r f) (ha : PE X a (up X.mg N ma)) (hb : PE X b (up X.mg N mb)) (hm : behindInMarks op b = false) : PT X (.Compare a [op] [b] pos) (upT X.mg N (dTest (dOp f ma mb))) :=
  dt_w (pt_cmpR ho ha hb hm) fun _ _ _ h => up_test (fun _ _ _ h => up_op hd h) h
def dChain (f f' : DOp) (ma mb mc : DTE) : DTE := fun τ A R => ma τ A fun x A1 => mb τ A1 fun y A2 => f x y A2 fun z A3 => match z with
  | .bl k => cond k (mc τ A3 fun w A4 => f' y w A4 R) (R (.bl false) A3)
  | _ => False
theorem up_chain (h : OpD X.mg r f) (h' : OpD X.mg r' f') {σ : L2.St} {H : Hp} {Q : VK} (q : up X.mg N (dChain f f' ma mb mc) σ H Q) : tChain r r' (up X.mg N ma) (up X.mg N mb) (up X.mg N mc) σ H Q := by
  obtain ⟨A, ι, τ, R, S, q, k⟩ := q
  refine ⟨A, ι, τ, _, S, q, fun x A1 ι1 H1 u q1 e1 r1 v1 => ?_⟩
  refine ⟨A1, ι1, τ, _, S.next e1 r1, q1, fun y A2 ι2 H2 v q2 e2 r2 v2 => ?_⟩
  refine h x y A2 ι2 H2 u v _ _ r2 (RV.ext e2 x u v1) v2 q2 fun z A3 ι3 H3 w q3 e3 r3 v3 => ?_
  cases z with
  | bl b =>
    refine ⟨b, v3, ?_⟩
    cases b with
    | true =>
      rw [if_pos rfl]
      refine ⟨A3, ι3, τ, _, ((S.next e1 r1).next e2 r2).next e3 r3, q3, fun z A4 ι4 H4 w q4 e4 r4 v4 => ?_⟩
      exact h' y z A4 ι4 H4 v w R Q r4 (RV.ext (e3.trans e4) y v v2) v4 q4 (k.from (((e1.trans e2).trans e3).trans e4))
    | false =>
      rw [if_neg Bool.false_ne_true]
      exact (k.from ((e1.trans e2).trans e3)).here r3 q3 rfl
  | _ => exact q3.elim
theorem de_chain {op op' : CmpOp} (ho : OpR X (compareOp op) r) (ho' : OpR X (compareOp op') r') (hd : OpD X.mg r f) (hd' : OpD X.mg r' f') (ha : PE X a (up X.mg N ma)) (hb : PE X b (up X.mg N mb)) (hc : PE X c (up X.mg N mc))
    (hm : lastMarks [op, op'] [b, c] = false := by with_unfolding_all rfl) : PE X (.Compare a [op, op'] [b, c] pos) (up X.mg N (dChain f f' ma mb mc)) :=
  de_w (pe_chain ho ho' ha hb hc hm) fun _ _ _ h => up_chain hd hd' h
theorem dt_chain {op op' : CmpOp} (ho : OpR X (compareOp op) r) (ho' : OpR X (compareOp op') r') (hd : OpD X.mg r f) (hd' : OpD X.mg r' f') (ha : PE X a (up X.mg N ma)) (hb : PE X b (up X.mg N mb)) (hc : PE X c (up X.mg N mc))
    (hm : lastMarks [op, op'] [b, c] = false := by with_unfolding_all rfl) : PT X (.Compare a [op, op'] [b, c] pos) (upT X.mg N (dTest (dChain f f' ma mb mc))) :=
  dt_w (pt_chain ho ho' ha hb hc hm) fun _ _ _ h => up_test (fun _ _ _ h => up_chain hd hd' h) h
theorem dt_val {m : DTE} (h : PE X a (up X.mg N m)) (he : ∀ whole, isTrue a X.env whole = (do let v ← whole; standAt a.pos; holding [v] (truthy v)) := by intro _; rfl) : PT X a (upT X.mg N (dTest m)) :=
  dt_w (pt_val h he) fun _ _ _ q => up_test (fun _ _ _ h => h) q
def dAnd (t u : DTT) : DTT := fun τ A R => t τ A fun c A1 => cond c (u τ A1 R) (R false A1)
def dOr (t u : DTT) : DTT := fun τ A R => t τ A fun c A1 => cond c (R true A1) (u τ A1 R)
def dNot (t : DTT) : DTT := fun τ A R => t τ A fun c A1 => R (!c) A1
variable {tA tB : DTT} {rest : List Expr}
theorem dw_and1 (ha : PT X a (upT X.mg N tA)) : PW X (.BoolOp .And [a] pos) (upT X.mg N tA) := pw_and1 ha
theorem dw_or1 (ha : PT X a (upT X.mg N tA)) : PW X (.BoolOp .Or [a] pos) (upT X.mg N tA) := pw_or1 ha
theorem dw_and (ha : PT X a (upT X.mg N tA)) (hb : PW X (.BoolOp .And (b :: rest) pos) (upT X.mg N tB)) : PW X (.BoolOp .And (a :: b :: rest) pos) (upT X.mg N (dAnd tA tB)) :=
  dw_w (pw_and ha hb) fun σ H Q q => by
    obtain ⟨A, ι, τ, R, S, q, k⟩ := q
    refine ⟨A, ι, τ, _, S, q, fun x A1 ι1 H1 q1 e1 r1 => ?_⟩
    cases x with
    | true => rw [if_pos rfl]; exact ⟨A1, ι1, τ, _, S.next e1 r1, q1, k.from e1⟩
    | false => rw [if_neg Bool.false_ne_true]; exact (k.from e1).here r1 q1
theorem dw_or (ha : PT X a (upT X.mg N tA)) (hb : PW X (.BoolOp .Or (b :: rest) pos) (upT X.mg N tB)) : PW X (.BoolOp .Or (a :: b :: rest) pos) (upT X.mg N (dOr tA tB)) :=
  dw_w (pw_or ha hb) fun σ H Q q => by
    obtain ⟨A, ι, τ, R, S, q, k⟩ := q
    refine ⟨A, ι, τ, _, S, q, fun x A1 ι1 H1 q1 e1 r1 => ?_⟩
    cases x with
    | true => rw [if_pos rfl]; exact (k.from e1).here r1 q1
    | false => rw [if_neg Bool.false_ne_true]; exact ⟨A1, ι1, τ, _, S.next e1 r1, q1, k.from e1⟩
theorem dt_not (ha : PT X a (upT X.mg N tA)) : PT X (.UnaryOp .Not a pos) (upT X.mg N (dNot tA)) :=
  dt_w (pt_not ha) fun σ H Q q => by
    obtain ⟨A, ι, τ, R, S, q, k⟩ := q
    exact ⟨A, ι, τ, _, S, q, fun x A1 ι1 H1 q1 e1 r1 => (k.from e1).here r1 q1⟩
def dAndV (ma mb : DTE) : DTE := fun τ A R => ma τ A fun x A1 => match x with
  | .bl c => cond c (mb τ A1 R) (R (.bl false) A1)
  | _ => False
theorem de_one {op} (h : PE X a (up X.mg N ma)) : PE X (.BoolOp op [a] pos) (up X.mg N ma) := pe_one h
theorem de_and (ha : PE X a (up X.mg N ma)) (hb : PE X (.BoolOp .And (b :: rest) pos) (up X.mg N mb)) : PE X (.BoolOp .And (a :: b :: rest) pos) (up X.mg N (dAndV ma mb)) :=
  de_w (pe_and ha hb) fun σ H Q q => by
    obtain ⟨A, ι, τ, R, S, q, k⟩ := q
    refine ⟨A, ι, τ, _, S, q, fun x A1 ι1 H1 u q1 e1 r1 v1 => ?_⟩
    cases x with
    | bl c =>
      refine ⟨c, v1, ?_⟩
      cases c with
      | true => rw [if_pos rfl]; exact ⟨A1, ι1, τ, _, S.next e1 r1, q1, k.from e1⟩
      | false => rw [if_neg Bool.false_ne_true]; exact (k.from e1).here r1 q1 rfl
    | _ => exact q1.elim
def dIte (t : DTT) (ma mb : DTE) : DTE := fun τ A R => t τ A fun c A1 => cond c (ma τ A1 R) (mb τ A1 R)
theorem de_ite (hc : PT X c (upT X.mg N tA)) (ha : PE X a (up X.mg N ma)) (hb : PE X b (up X.mg N mb)) : PE X (.IfExp c a b pos) (up X.mg N (dIte tA ma mb)) :=
  de_w (pe_ifExp hc ha hb) fun σ H Q q => by
    obtain ⟨A, ι, τ, R, S, q, k⟩ := q
    refine ⟨A, ι, τ, _, S, q, fun x A1 ι1 H1 q1 e1 r1 => ?_⟩
    cases x with
    | true => rw [if_pos rfl]; exact ⟨A1, ι1, τ, _, S.next e1 r1, q1, k.from e1⟩
    | false => rw [if_neg Bool.false_ne_true]; exact ⟨A1, ι1, τ, _, S.next e1 r1, q1, k.from e1⟩
end
def dNil : DTA := fun _ A R => R [] A
def dCons (m : DTE) (n : DTA) : DTA := fun τ A R => m τ A fun x A1 => n τ A1 fun xs A2 => R (x :: xs) A2
def dTup (n : DTA) : DTE := fun τ A R => n τ A fun xs A1 => xs.length ≤ sizeLine ∧ R (.tup xs) A1
def dLst (n : DTA) : DTE := fun τ A R => n τ A fun xs A1 => xs.length ≤ sizeLine ∧ R (.ref A1.length) (A1 ++ [.lst xs])
section
variable {X : Cx} {N : En} {pos : Pos} {e : Expr} {es : List Expr} {m : DTE} {n : DTA}
theorem da_nil : PA X [] (upA X.mg N dNil) := da_w pa_nil fun σ H Q q => by
  obtain ⟨A, ι, τ, R, S, q, k⟩ := q
  exact k [] A ι H [] q S.ra.refl S.ra rfl
theorem da_cons (ha : PE X e (up X.mg N m)) (hr : PA X es (upA X.mg N n)) (hs : starEach (e :: es) X.env = (false, eval e X.env) :: starEach es X.env := by rfl) : PA X (e :: es) (upA X.mg N (dCons m n)) :=
  da_w (pa_cons ha hr hs) fun σ H Q q => by
    obtain ⟨A, ι, τ, R, S, q, k⟩ := q
    refine ⟨A, ι, τ, _, S, q, fun x A1 ι1 H1 u q1 e1 r1 v1 => ?_⟩
    refine ⟨A1, ι1, τ, _, S.next e1 r1, q1, fun y A2 ι2 H2 v q2 e2 r2 v2 => ?_⟩
    exact k _ A2 ι2 H2 _ q2 (e1.trans e2) r2 ⟨u, v, rfl, RV.ext e2 x u v1, v2⟩
theorem new_tup {mg : Str → Option Value} {A : Ar} {ι : Io} {H : Hp} {R : DK} {Q : VK} {ds : List D} {xs : List V} {p : Addr} (k : Kt mg A ι H R Q) (r : RA mg ι H A) (h : RVs mg ι A.length H ds xs) (q : R (.tup ds) A) (hp : H p = none) : Q (.ref p) (upd H p (.tup xs)) := by
  have E : Ext A ι H A ι (upd H p (.tup xs)) := r.ext_fix hp
  exact k _ A ι _ _ q E (r.fix E fun b o z => by rw [upd_ne (ne_of_none z hp)]; exact z) ⟨p, xs, rfl, upd_same, RVs.ext E ds xs h⟩
theorem new_lst {mg : Str → Option Value} {A : Ar} {ι : Io} {H : Hp} {R : DK} {Q : VK} {ds : List D} {xs : List V} {p : Addr} (k : Kt mg A ι H R Q) (r : RA mg ι H A) (h : RVs mg ι A.length H ds xs) (q : R (.ref A.length) (A ++ [.lst ds])) (hp : H p = none) : Q (.ref p) (upd H p (.lst xs)) := by
  have E : Ext A ι H (A ++ [.lst ds]) (fun r => if r = A.length then p else ι r) (upd H p (.lst xs)) := r.ext_push hp
  obtain ⟨r1, e1⟩ := r.push (c := .lst ds) (o := .lst xs) hp ⟨xs, upd_same, by simpa using RVs.ext E ds xs h⟩
  refine k _ _ _ _ _ q e1 r1 ⟨by simp, ?_⟩
  show V.ref p = V.ref (if A.length = A.length then p else ι A.length)
  rw [if_pos rfl]
theorem de_tup {x1} (h : PA X es (upA X.mg N n)) : PE X (.Tuple es x1 pos) (up X.mg N (dTup n)) := de_w (pe_tup h) fun σ H Q q => by
  obtain ⟨A, ι, τ, R, S, q, k⟩ := q
  refine ⟨A, ι, τ, _, S, q, fun x A1 ι1 H1 u q1 e1 r1 v1 => ?_⟩
  exact ⟨by rw [← RVs.length v1]; exact q1.1, fun p hp => new_tup (k.from e1) r1 v1 q1.2 hp⟩
theorem de_lst (h : PA X es (upA X.mg N n)) : PE X (.List es pos) (up X.mg N (dLst n)) := de_w (pe_lst h) fun σ H Q q => by
  obtain ⟨A, ι, τ, R, S, q, k⟩ := q
  refine ⟨A, ι, τ, _, S, q, fun x A1 ι1 H1 u q1 e1 r1 v1 => ?_⟩
  exact ⟨by rw [← RVs.length v1]; exact q1.1, fun p hp => new_lst (k.from e1) r1 v1 q1.2 hp⟩
end
end DP
namespace DP
open PySem PySem.Spec PyProof.Rows L2
section
variable {mg : Str → Option Value} {K : PySem.W.Frag} {A : Ar} {ι : Io} {H : Hp}
theorem RA.lst (r : RA mg ι H A) {q : Nat} {ds : List D} (h : A[q]? = some (.lst ds)) : ∃ xs, H (ι q) = some (.lst xs) ∧ RVs mg ι A.length H ds xs := r.cel q _ h
theorem RA.dct (r : RA mg ι H A) {q : Nat} {ds : List (Key × D)} (h : A[q]? = some (.dct ds)) : ∃ xs, H (ι q) = some (.dK xs) ∧ RK mg ι A.length H ds xs := r.cel q _ h
theorem RA.fdc (r : RA mg ι H A) {q : Nat} {o : Obj} {ds : List (Key × D)} (h : A[q]? = some (.fdc o ds)) : ∃ xs, H (ι q) = some (.frz o (.dK xs)) ∧ RK mg ι A.length H ds xs := r.cel q _ h
theorem RVs.nilI {n : Nat} {ds : List D} (h : RVs mg ι n H ds []) : ds = [] := by
  cases ds with
  | nil => rfl
  | cons d r => obtain ⟨x, r, e, _⟩ := h; cases e
end
abbrev rAdd4 (K : PySem.W.Frag) : R2 := fun x y H Q => rI0 (fun i j => .int (i + j)) x y H Q ∨ (∃ i j, x = .str i ∧ y = .str j ∧ i.length + j.length ≤ sizeLine ∧ Q (.str (i ++ j)) H) ∨ rCatA K x y H Q ∨ rCat x y H Q
theorem o_add {X : Cx} : OpR X (binaryOp .Add) (rAdd4 X.K) := op_add.or (op_add_str.or (op_catA.or op_cat))
@[irreducible] def catR (r q : Nat) (A : Ar) (R : DK) : Prop := match A[r]?, A[q]? with
  | some (.lst xs), some (.lst ys) => xs.length + ys.length ≤ sizeLine ∧ R (.ref A.length) (A ++ [.lst (xs ++ ys)])
  | _, _ => False
def addD : DOp := fun x y A R => match x, y with
  | .int i, .int j => R (.int (i + j)) A
  | .str a, .str b => a.length + b.length ≤ sizeLine ∧ R (.str (a ++ b)) A
  | .tup xs, .tup ys => xs.length + ys.length ≤ sizeLine ∧ R (.tup (xs ++ ys)) A
  | .ref r, .ref q => catR r q A R
  | _, _ => False
theorem d_add {mg : Str → Option Value} {K : PySem.W.Frag} : OpD mg (rAdd4 K) addD := by
  intro x y A ι H u v R Q ra rx ry h k
  unfold addD at h
  split at h
  · cases rx; cases ry
    exact .inl ⟨_, _, rfl, rfl, k.here ra h rfl⟩
  · cases rx; cases ry
    exact .inr (.inl ⟨_, _, rfl, rfl, h.1, k.here ra h.2 rfl⟩)
  · obtain ⟨a, xs, rfl, e1, r1⟩ := rx
    obtain ⟨b, ys, rfl, e2, r2⟩ := ry
    refine .inr (.inr (.inl ⟨a, b, xs, ys, rfl, rfl, SqT.of e1, SqT.of e2, by rw [← RVs.length r1, ← RVs.length r2]; exact h.1, fun z => ?_, fun _ z => ?_, fun _ _ p hp => new_tup k ra (r1.app r2) h.2 hp⟩))
    · subst z
      obtain rfl := RVs.nilI r1
      exact k.here ra h.2 ⟨b, ys, rfl, e2, r2⟩
    · subst z
      obtain rfl := RVs.nilI r2
      exact k.here ra h.2 ⟨a, xs, rfl, e1, by rw [List.append_nil]; exact r1⟩
  · rename_i r q
    unfold catR at h
    split at h
    · rename_i xs ys e1 e2
      obtain ⟨us, h1, r1⟩ := ra.lst e1
      obtain ⟨vs, h2, r2⟩ := ra.lst e2
      obtain ⟨_, rfl⟩ := rx
      obtain ⟨_, rfl⟩ := ry
      exact .inr (.inr (.inr ⟨_, _, us, vs, rfl, rfl, h1, h2, by rw [← RVs.length r1, ← RVs.length r2]; exact h.1, fun p hp => new_lst k ra (r1.app r2) h.2 hp⟩))
    · exact h.elim
  · exact h.elim
def intD (C : Int → Int → Prop) (g : Int → Int → D) : DOp := fun x y A R => match x, y with
  | .int i, .int j => C i j ∧ R (g i j) A
  | _, _ => False
def intD0 (g : Int → Int → D) : DOp := fun x y A R => match x, y with
  | .int i, .int j => R (g i j) A
  | _, _ => False
theorem d_int {mg : Str → Option Value} {C : Int → Int → Prop} {g : Int → Int → V} {g' : Int → Int → D} (hg : ∀ i j ι n H, RV mg ι n H (g' i j) (g i j)) : OpD mg (rI C g) (intD C g') := by
  intro x y A ι H u v R Q ra rx ry h k
  unfold intD at h
  split at h
  · cases rx; cases ry
    exact ⟨_, _, rfl, rfl, h.1, k.here ra h.2 (hg _ _ _ _ _)⟩
  · exact h.elim
theorem d_int0 {mg : Str → Option Value} {g : Int → Int → V} {g' : Int → Int → D} (hg : ∀ i j ι n H, RV mg ι n H (g' i j) (g i j)) : OpD mg (rI0 g) (intD0 g') := by
  intro x y A ι H u v R Q ra rx ry h k
  unfold intD0 at h
  split at h
  · cases rx; cases ry
    exact ⟨_, _, rfl, rfl, k.here ra h (hg _ _ _ _ _)⟩
  · exact h.elim
abbrev subD : DOp := intD0 fun i j => .int (i - j)
abbrev mulD : DOp := intD CMul fun i j => .int (i * j)
abbrev modD : DOp := intD (fun _ j => 0 < j) fun i j => .int (i % j)
abbrev powD : DOp := intD CPow fun i j => .int (i ^ j.toNat)
section
variable {X : Cx} {N : En} {pos : Pos} {a b c : Expr} {ma mb mc : DTE}
theorem de_add (ha : PE X a (up X.mg N ma)) (hb : PE X b (up X.mg N mb)) : PE X (.BinOp a .Add b pos) (up X.mg N (dOp addD ma mb)) := de_op o_add d_add ha hb
theorem de_sub (ha : PE X a (up X.mg N ma)) (hb : PE X b (up X.mg N mb)) : PE X (.BinOp a .Sub b pos) (up X.mg N (dOp subD ma mb)) := de_op op_sub (d_int0 fun _ _ _ _ _ => rfl) ha hb
theorem de_mul (ha : PE X a (up X.mg N ma)) (hb : PE X b (up X.mg N mb)) : PE X (.BinOp a .Mult b pos) (up X.mg N (dOp mulD ma mb)) := de_op op_mul (d_int fun _ _ _ _ _ => rfl) ha hb
theorem de_mod (ha : PE X a (up X.mg N ma)) (hb : PE X b (up X.mg N mb)) : PE X (.BinOp a .Mod b pos) (up X.mg N (dOp modD ma mb)) := de_op op_mod (d_int fun _ _ _ _ _ => rfl) ha hb
theorem de_pow (ha : PE X a (up X.mg N ma)) (hb : PE X b (up X.mg N mb)) : PE X (.BinOp a .Pow b pos) (up X.mg N (dOp powD ma mb)) := de_op op_pow (d_int fun _ _ _ _ _ => rfl) ha hb
def dNeg (m : DTE) : DTE := fun τ A R => m τ A fun x A1 => match x with
  | .int i => R (.int (-i)) A1
  | _ => False
theorem de_neg (ha : PE X a (up X.mg N ma)) : PE X (.UnaryOp .USub a pos) (up X.mg N (dNeg ma)) := de_w (pe_un un_neg ha) fun σ H Q q => by
  obtain ⟨A, ι, τ, R, S, q, k⟩ := q
  refine ⟨A, ι, τ, _, S, q, fun x A1 ι1 H1 u q1 e1 r1 v1 => ?_⟩
  cases x with
  | int i => cases v1; exact ⟨i, rfl, (k.from e1).here r1 q1 rfl⟩
  | _ => exact q1.elim
end
abbrev rLt2 : R2 := fun x y H Q => rI0 (fun i j => .bl (decide (i < j))) x y H Q ∨ ∃ i j, x = .str i ∧ y = .str j ∧ Q (.bl (decide (i.cps.toList < j.cps.toList))) H
abbrev rLe2 : R2 := fun x y H Q => rI0 (fun i j => .bl (decide (i ≤ j))) x y H Q ∨ ∃ i j, x = .str i ∧ y = .str j ∧ Q (.bl (!decide (j.cps.toList < i.cps.toList))) H
theorem o_lt {X : Cx} : OpR X (compareOp .Lt) rLt2 := op_lt.or op_lt_str
theorem o_le {X : Cx} : OpR X (compareOp .LtE) rLe2 := op_le.or op_le_str
def ltD : DOp := fun x y A R => match x, y with
  | .int i, .int j => R (.bl (decide (i < j))) A
  | .str a, .str b => R (.bl (decide (a.cps.toList < b.cps.toList))) A
  | _, _ => False
def leD : DOp := fun x y A R => match x, y with
  | .int i, .int j => R (.bl (decide (i ≤ j))) A
  | .str a, .str b => R (.bl (!decide (b.cps.toList < a.cps.toList))) A
  | _, _ => False
theorem d_lt {mg : Str → Option Value} : OpD mg rLt2 ltD := by
  intro x y A ι H u v R Q ra rx ry h k
  unfold ltD at h
  split at h
  · cases rx; cases ry; exact .inl ⟨_, _, rfl, rfl, k.here ra h rfl⟩
  · cases rx; cases ry; exact .inr ⟨_, _, rfl, rfl, k.here ra h rfl⟩
  · exact h.elim
theorem d_le {mg : Str → Option Value} : OpD mg rLe2 leD := by
  intro x y A ι H u v R Q ra rx ry h k
  unfold leD at h
  split at h
  · cases rx; cases ry; exact .inl ⟨_, _, rfl, rfl, k.here ra h rfl⟩
  · cases rx; cases ry; exact .inr ⟨_, _, rfl, rfl, k.here ra h rfl⟩
  · exact h.elim
def isNo : D → Bool
  | .non => true
  | _ => false
def isND : DOp := fun x y A R => match y with
  | .non => R (.bl (isNo x)) A
  | _ => False
def notND : DOp := fun x y A R => match y with
  | .non => R (.bl (!isNo x)) A
  | _ => False
theorem RV.non_iff {mg : Str → Option Value} {ι : Io} {n : Nat} {H : Hp} {x : D} {u : V} (r : RV mg ι n H x u) : decide (u = .non) = isNo x := by
  cases x with
  | non => cases r; rfl
  | bl b => cases r; rfl
  | int b => cases r; rfl
  | str b => cases r; rfl
  | tup ds => obtain ⟨a, xs, rfl, _⟩ := r; rfl
  | ref q => obtain ⟨_, rfl⟩ := r; rfl
  | fl ns => obtain ⟨a, o, rfl, _⟩ := r; rfl
  | exc c => obtain ⟨a, C, rfl, _⟩ := r; rfl
theorem d_isN {mg : Str → Option Value} : OpD mg (fun x y H Q => y = .non ∧ Q (.bl (decide (x = .non))) H) isND := by
  intro x y A ι H u v R Q ra rx ry h k
  unfold isND at h
  split at h
  · cases ry
    refine ⟨rfl, ?_⟩
    rw [rx.non_iff]
    exact k.here ra h rfl
  · exact h.elim
theorem d_notN {mg : Str → Option Value} : OpD mg (fun x y H Q => y = .non ∧ Q (.bl (!decide (x = .non))) H) notND := by
  intro x y A ι H u v R Q ra rx ry h k
  unfold notND at h
  split at h
  · cases ry
    refine ⟨rfl, ?_⟩
    rw [rx.non_iff]
    exact k.here ra h rfl
  · exact h.elim
mutual
def toQ : D → PyData
  | .non => .none
  | .bl b => .bool b
  | .int i => .int i
  | .str x => .str x
  | .tup xs => .tuple (toQs xs)
  | .ref _ => .none
  | .fl ns => .list (ns.map .int)
  | .exc _ => .none
def toQs : List D → List PyData
  | [] => []
  | d :: r => toQ d :: toQs r
end
mutual
def pur : D → Bool
  | .tup xs => purs xs
  | .ref _ => false
  | .exc _ => false
  | _ => true
def purs : List D → Bool
  | [] => true
  | d :: r => pur d && purs r
end
def toP (A : Ar) : D → PyData
  | .ref r => match A[r]? with
    | some (.lst xs) => .list (toQs xs)
    | _ => .none
  | d => toQ d
def okP (A : Ar) : D → Bool
  | .ref r => match A[r]? with
    | some (.lst xs) => purs xs
    | _ => false
  | d => pur d
section
variable {mg : Str → Option Value} {K : PySem.W.Frag} {A : Ar} {ι : Io} {H : Hp}
theorem dp_ints : ∀ ns : List Int, DpAll K H (ns.map V.int) (ns.map PyData.int) := DpAll.ints
mutual
theorem RV.dp {n : Nat} : ∀ (d : D) (v : V), pur d = true → RV mg ι n H d v → Dp K H v (toQ d)
  | .non, _, _, h => by cases h; exact .non
  | .bl b, _, _, h => by cases h; exact .bl b
  | .int i, _, _, h => by cases h; exact .int i
  | .str x, _, _, h => by cases h; exact .str x
  | .tup ds, v, p, h => by
    obtain ⟨a, xs, rfl, e, r⟩ := h
    exact .tup (SqT.of e) (RVs.dp ds xs (by simpa [pur] using p) r)
  | .ref _, _, p, _ => by simp [pur] at p
  | .fl ns, v, _, h => by
    obtain ⟨a, o, rfl, e⟩ := h
    exact .lst (.inl (.inr ⟨o, e⟩)) (dp_ints ns)
  | .exc _, _, p, _ => by simp [pur] at p
theorem RVs.dp {n : Nat} : ∀ (ds : List D) (vs : List V), purs ds = true → RVs mg ι n H ds vs → DpAll K H vs (toQs ds)
  | [], vs, _, h => by cases (show vs = [] from h); exact .nil
  | d :: ds, vs, p, h => by
    obtain ⟨x, r, rfl, h1, h2⟩ := h
    have p' : pur d = true ∧ purs ds = true := by simpa [purs] using p
    exact .cons (RV.dp d x p'.1 h1) (RVs.dp ds r p'.2 h2)
end
theorem RA.dp (ra : RA mg ι H A) {d : D} {v : V} (p : okP A d = true) (h : RV mg ι A.length H d v) : Dp K H v (toP A d) := by
  cases d with
  | ref r =>
    obtain ⟨_, rfl⟩ := h
    unfold okP at p
    unfold toP
    simp only at p ⊢
    split at p
    · rename_i xs e
      obtain ⟨us, h1, r1⟩ := ra.lst e
      exact .lst (SqL.of h1) (RVs.dp xs us p r1)
    · cases p
  | _ => exact RV.dp _ v p h
end
@[irreducible] def dataEq (neg : Bool) (x y : D) (A : Ar) (R : DK) : Prop := okP A x = true ∧ okP A y = true ∧ (toP A x).canLay0 = true ∧ (toP A y).canLay0 = true ∧ min (toP A x).depth (toP A y).depth ≤ 64 ∧ R (.bl (if neg then !PyData.eqv (toP A x) (toP A y) else PyData.eqv (toP A x) (toP A y))) A
def eqD : DOp := fun x y A R => match x, y with
  | .int i, .int j => R (.bl (decide (i = j))) A
  | .str a, .str b => R (.bl (decide (a = b))) A
  | .bl a, .bl b => R (.bl (decide (a = b))) A
  | x, y => dataEq false x y A R
def neD : DOp := fun x y A R => match x, y with
  | .int i, .int j => R (.bl (!decide (i = j))) A
  | .str a, .str b => R (.bl (!decide (a = b))) A
  | .bl a, .bl b => R (.bl (!decide (a = b))) A
  | x, y => dataEq true x y A R
theorem o_eq {X : Cx} (hu : X.A.units + 64 < cLine) : OpR X (compareOp .Eq) (fun x y H Q => rEq x y H Q ∨ rEqD X.K x y H Q) := op_eq.or (op_eqD hu)
theorem o_ne {X : Cx} (hu : X.A.units + 64 < cLine) : OpR X (compareOp .NotEq) (fun x y H Q => rNe x y H Q ∨ rNeD X.K x y H Q) := op_ne.or (op_neD hu)
theorem d_eq {mg : Str → Option Value} {K : PySem.W.Frag} : OpD mg (fun x y H Q => rEq x y H Q ∨ rEqD K x y H Q) eqD := by
  intro x y A ι H u v R Q ra rx ry h k
  unfold eqD at h
  split at h
  · cases rx; cases ry
    rename_i i j
    refine .inl ⟨rfl, ?_⟩
    have e : decide (V.int i = V.int j) = decide (i = j) := by simp
    rw [e]
    exact k.here ra h rfl
  · cases rx; cases ry
    rename_i i j
    refine .inl ⟨rfl, ?_⟩
    have e : decide (V.str i = V.str j) = decide (i = j) := by simp
    rw [e]
    exact k.here ra h rfl
  · cases rx; cases ry
    rename_i i j
    refine .inl ⟨rfl, ?_⟩
    have e : decide (V.bl i = V.bl j) = decide (i = j) := by simp
    rw [e]
    exact k.here ra h rfl
  · unfold dataEq at h
    obtain ⟨p1, p2, c1, c2, hd, q⟩ := h
    exact .inr ⟨_, _, ra.dp p1 rx, ra.dp p2 ry, c1, c2, hd, k.here ra q rfl⟩
theorem d_ne {mg : Str → Option Value} {K : PySem.W.Frag} : OpD mg (fun x y H Q => rNe x y H Q ∨ rNeD K x y H Q) neD := by
  intro x y A ι H u v R Q ra rx ry h k
  unfold neD at h
  split at h
  · cases rx; cases ry
    rename_i i j
    refine .inl ⟨rfl, ?_⟩
    have e : decide (V.int i = V.int j) = decide (i = j) := by simp
    rw [e]
    exact k.here ra h rfl
  · cases rx; cases ry
    rename_i i j
    refine .inl ⟨rfl, ?_⟩
    have e : decide (V.str i = V.str j) = decide (i = j) := by simp
    rw [e]
    exact k.here ra h rfl
  · cases rx; cases ry
    rename_i i j
    refine .inl ⟨rfl, ?_⟩
    have e : decide (V.bl i = V.bl j) = decide (i = j) := by simp
    rw [e]
    exact k.here ra h rfl
  · unfold dataEq at h
    obtain ⟨p1, p2, c1, c2, hd, q⟩ := h
    exact .inr ⟨_, _, ra.dp p1 rx, ra.dp p2 ry, c1, c2, hd, k.here ra q rfl⟩
def keyD : D → Option Key
  | .int i => some (.inl i)
  | .str x => some (.inr x)
  | _ => none
def getK : List (Key × D) → Key → Option D
  | [], _ => none
  | p :: r, k => if p.1 = k then some p.2 else getK r k
@[irreducible] def ixR (r : Nat) (y : D) (A : Ar) (R : DK) : Prop := match A[r]? with
  | some (.lst xs) => (match y with
    | .int i => (match atI xs i with
      | some v => R v A
      | none => False)
    | _ => False)
  | some (.dct kvs) => (match keyD y with
    | some k => (match getK kvs k with
      | some v => R v A
      | none => False)
    | none => False)
  | some (.fdc _ kvs) => (match keyD y with
    | some k => (match getK kvs k with
      | some v => R v A
      | none => False)
    | none => False)
  | _ => False
def ixD : DOp := fun x y A R => match x, y with
  | .tup xs, .int i => match atI xs i with
    | some v => R v A
    | none => False
  | .str z, .int i => match atI z.cps.toList i with
    | some c => z.length ≤ sizeLine ∧ R (.str ⟨#[c]⟩) A
    | none => False
  | .fl ns, .int i => match atI ns i with
    | some c => R (.int c) A
    | none => False
  | .ref r, y => ixR r y A R
  | _, _ => False
section
variable {mg : Str → Option Value} {K : PySem.W.Frag} {A : Ar} {ι : Io} {H : Hp}
theorem RVs.atI {n : Nat} {ds : List D} {vs : List V} {i : Int} {d : D} (r : RVs mg ι n H ds vs) (h : L2.atI ds i = some d) : ∃ v, L2.atI vs i = some v ∧ RV mg ι n H d v := by
  unfold L2.atI at h ⊢
  rw [← RVs.length r]
  cases q : ixN ds.length i with
  | none => rw [q] at h; cases h
  | some j =>
    rw [q] at h
    exact RVs.get r h
theorem atI_map {α β : Type} (f : α → β) (xs : List α) (i : Int) : L2.atI (xs.map f) i = (L2.atI xs i).map f := by
  unfold L2.atI
  rw [List.length_map]
  cases ixN xs.length i with
  | none => rfl
  | some j => simp
theorem RK.get {n : Nat} : ∀ {kvs : List (Key × D)} {xs : List (Key × V)} {k : Key}, RK mg ι n H kvs xs → (∀ d, getK kvs k = some d → ∃ v, valV xs k = some v ∧ RV mg ι n H d v) ∧ (getK kvs k = none → valV xs k = none)
  | [], xs, k, h => by
    cases (show xs = [] from h)
    exact ⟨fun d e => by simp [getK] at e, fun _ => rfl⟩
  | p :: r, xs, k, h => by
    obtain ⟨x, r', rfl, h1, h2⟩ := h
    obtain ⟨g1, g2⟩ := RK.get (k := k) h2
    unfold getK
    by_cases hk : p.1 = k
    · rw [if_pos hk]
      have e : valV ((p.1, x) :: r') k = some x := by simp [valV, hk]
      rw [e]
      exact ⟨fun d z => by cases z; exact ⟨x, rfl, h1⟩, fun z => by cases z⟩
    · rw [if_neg hk]
      have e : valV ((p.1, x) :: r') k = valV r' k := by simp [valV, List.find?_cons, hk]
      rw [e]
      exact ⟨g1, g2⟩
theorem keyD_kV {n : Nat} {y : D} {v : V} {k : Key} (h : keyD y = some k) (r : RV mg ι n H y v) : v = kV k := by
  cases y with
  | int i => cases h; exact r
  | str x => cases h; exact r
  | _ => cases h
end
def rIxD : R2 := fun x y H Q => ∃ a v, x = .ref a ∧ DGet H a y (some v) ∧ Q v H
theorem ix_dct {X : Cx} (hu : X.A.units + 64 < cLine) : IxR X rIxD := by
  intro value slice pins s σ H x y v u Q I rx ry h hs
  obtain ⟨a, z, rfl, g, q⟩ := h
  cases rx
  exact tail_any (dict_typeIs I g) PySem.F.slot_dict_getitem.lookup (d_getItem (by omega) I g ry fun w' s3 I3 rw' => ⟨z, H, I3, rw', q⟩) hs
abbrev rIx4 (K : PySem.W.Frag) : R2 := fun x y H Q => rIx K x y H Q ∨ rIxD x y H Q
theorem i_x {X : Cx} (hu : X.A.units + 64 < cLine) : IxR X (rIx4 X.K) := ix_seq.or (ix_dct hu)
theorem d_ix {mg : Str → Option Value} {K : PySem.W.Frag} : OpD mg (rIx4 K) ixD := by
  intro x y A ι H u v R Q ra rx ry h k
  unfold ixD at h
  split at h
  · obtain ⟨a, xs, rfl, e1, r1⟩ := rx
    cases ry
    split at h
    · rename_i d e
      obtain ⟨z, hz, rz⟩ := r1.atI e
      exact .inl (.inr (.inl ⟨a, xs, _, z, rfl, rfl, SqT.of e1, hz, k.here ra h rz⟩))
    · exact h.elim
  · cases rx; cases ry
    split at h
    · rename_i d e
      exact .inl (.inr (.inr ⟨_, _, _, rfl, rfl, h.1, e, k.here ra h.2 rfl⟩))
    · exact h.elim
  · obtain ⟨a, o, rfl, e1⟩ := rx
    cases ry
    split at h
    · rename_i d e
      exact .inl (.inl ⟨a, _, _, _, rfl, rfl, .inl (.inr ⟨o, e1⟩), by rw [atI_map, e]; rfl, k.here ra h rfl⟩)
    · exact h.elim
  · obtain ⟨_, rfl⟩ := rx
    unfold ixR at h
    split at h
    · rename_i xs e
      obtain ⟨us, h1, r1⟩ := ra.lst e
      split at h
      · cases ry
        split at h
        · rename_i d e
          obtain ⟨z, hz, rz⟩ := r1.atI e
          exact .inl (.inl ⟨_, us, _, z, rfl, rfl, SqL.of h1, hz, k.here ra h rz⟩)
        · exact h.elim
      · exact h.elim
    · rename_i kvs e
      obtain ⟨us, h1, r1⟩ := ra.dct e
      split at h
      · rename_i ky ek
        cases keyD_kV ek ry
        split at h
        · rename_i d ed
          obtain ⟨z, hz, rz⟩ := (RK.get r1).1 d ed
          exact .inr ⟨_, z, rfl, .inl ⟨us, ky, .inl h1, rfl, hz.symm⟩, k.here ra h rz⟩
        · exact h.elim
      · exact h.elim
    · rename_i o kvs e
      obtain ⟨us, h1, r1⟩ := ra.fdc e
      split at h
      · rename_i ky ek
        cases keyD_kV ek ry
        split at h
        · rename_i d ed
          obtain ⟨z, hz, rz⟩ := (RK.get r1).1 d ed
          exact .inr ⟨_, z, rfl, .inl ⟨us, ky, .inr ⟨o, h1⟩, rfl, hz.symm⟩, k.here ra h rz⟩
        · exact h.elim
      · exact h.elim
    · exact h.elim
  · exact h.elim
theorem de_ix {X : Cx} {N : En} {pos : Pos} {a b : Expr} {ma mb : DTE} (hu : X.A.units + 64 < cLine) (ha : PE X a (up X.mg N ma)) (hb : PE X b (up X.mg N mb)) (hs : PlainIx b) : PE X (.Subscript a b pos) (up X.mg N (dOp ixD ma mb)) :=
  de_w (pe_ix (i_x hu) ha hb hs) fun _ _ _ h => up_op d_ix h
end DP
namespace DP
open PySem PySem.Spec PyProof.Rows L2
structure DEnds where
  nx : DSt → Ar → Prop
  rt : DK
  bk : DSt → Ar → Prop := fun _ _ => False
  ct : DSt → Ar → Prop := fun _ _ => False
abbrev DTS := DEnds → DSt → Ar → Prop
def KtN (mg : Str → Option Value) (A : Ar) (ι : Io) (H : Hp) (R : DSt → Ar → Prop) (Q : L2.St → Hp → Prop) : Prop := ∀ τ A' ι' σ H', R τ A' → Ext A ι H A' ι' H' → RA mg ι' H' A' → RS mg ι' A'.length H' τ σ → Q σ H'
structure KtS (mg : Str → Option Value) (A : Ar) (ι : Io) (H : Hp) (R : DEnds) (Q : Ends) : Prop where
  nx : KtN mg A ι H R.nx Q.nx
  rt : Kt mg A ι H R.rt Q.rt
  bk : KtN mg A ι H R.bk Q.bk
  ct : KtN mg A ι H R.ct Q.ct
def upS (mg : Str → Option Value) (N : En) (m : DTS) : TS := fun Q σ H => ∃ A ι τ R, Sim mg N A ι τ σ H ∧ m R τ A ∧ KtS mg A ι H R Q
section
variable {mg : Str → Option Value} {N : En} {A A' : Ar} {ι ι' : Io} {τ τ' : DSt} {σ σ' : L2.St} {H H' : Hp}
theorem KtN.from {R : DSt → Ar → Prop} {Q : L2.St → Hp → Prop} (k : KtN mg A ι H R Q) (e : Ext A ι H A' ι' H') : KtN mg A' ι' H' R Q := fun τ A2 ι2 σ H2 q e2 => k τ A2 ι2 σ H2 q (e.trans e2)
theorem KtS.from {R : DEnds} {Q : Ends} (k : KtS mg A ι H R Q) (e : Ext A ι H A' ι' H') : KtS mg A' ι' H' R Q := ⟨k.nx.from e, k.rt.from e, k.bk.from e, k.ct.from e⟩
theorem KtN.here {R : DSt → Ar → Prop} {Q : L2.St → Hp → Prop} (k : KtN mg A ι H R Q) (S : Sim mg N A ι τ σ H) (q : R τ A) : Q σ H := k τ A ι σ H q S.ra.refl S.ra S.rs
theorem Sim.to (S : Sim mg N A ι τ σ H) (e : Ext A ι H A' ι' H') (r : RA mg ι' H' A') (s : RS mg ι' A'.length H' τ' σ') : Sim mg N A' ι' τ' σ' H' := ⟨r, s, S.ex.trans e⟩
theorem lk_set_self : ∀ (τ : DSt) (i : Nat) (d : D), i < τ.length → lk (τ.set i (some d)) i = some d
  | [], i, d, h => by simp at h
  | x :: r, 0, d, _ => rfl
  | x :: r, i + 1, d, h => lk_set_self r i d (by simpa using h)
theorem lk_set_ne : ∀ (τ : DSt) (i j : Nat) (d : Option D), j ≠ i → lk (τ.set i d) j = lk τ j
  | [], i, j, d, _ => rfl
  | x :: r, 0, 0, d, h => absurd rfl h
  | x :: r, 0, j + 1, d, _ => rfl
  | x :: r, i + 1, 0, d, _ => rfl
  | x :: r, i + 1, j + 1, d, h => lk_set_ne r i j d (by omega)
theorem RS.set {n : Nat} {i : Nat} {d : D} {v : V} (r : RS mg ι n H τ σ) (h : RV mg ι n H d v) : RS mg ι n H (τ.set i (some d)) (σ.set i (some v)) := ⟨by simp [r.len], fun j e q => by
  by_cases hj : j = i
  · subst hj
    by_cases hl : j < τ.length
    · rw [lk_set_self _ _ _ hl] at q
      cases q
      refine ⟨v, ?_, h⟩
      rw [List.getElem?_set_self (by rw [← r.len]; exact hl)]
    · rw [List.set_eq_of_length_le (by omega)] at q
      rw [lk_get, List.getElem?_eq_none (by omega)] at q
      cases q
  · rw [lk_set_ne _ _ _ _ hj] at q
    obtain ⟨w, h1, h2⟩ := r.at' j e q
    exact ⟨w, by rw [List.getElem?_set_ne (Ne.symm hj)]; exact h1, h2⟩⟩
theorem Sim.set {i : Nat} {d : D} {v : V} (S : Sim mg N A ι τ σ H) (h : RV mg ι A.length H d v) : Sim mg N A ι (τ.set i (some d)) (σ.set i (some v)) H := ⟨S.ra, S.rs.set h, S.ex⟩
end
def sNext : DTS := fun R τ A => R.nx τ A
def sSeq (t u : DTS) : DTS := fun R τ A => t { R with nx := u R } τ A
def sExpr (m : DTE) : DTS := fun R τ A => m τ A fun _ A1 => R.nx τ A1
def sRet (m : DTE) : DTS := fun R τ A => m τ A R.rt
def sIf (c : DTT) (t u : DTS) : DTS := fun R τ A => c τ A fun b A1 => cond b (t R τ A1) (u R τ A1)
section
variable {X : Cx} {N : En} {pos : Pos} {st : Stmt} {rest : List Stmt} {t u : DTS} {e : Expr} {m : DTE}
theorem dss_nil : PSs X [] (upS X.mg N sNext) := dss_w pss_nil fun Q σ H q => by
  obtain ⟨A, ι, τ, R, S, q, k⟩ := q
  exact k.nx.here S q
theorem dss_cons (h1 : PS X st (upS X.mg N t)) (h2 : PSs X rest (upS X.mg N u)) : PSs X (st :: rest) (upS X.mg N (sSeq t u)) := dss_w (pss_cons h1 h2) fun Q σ H q => by
  obtain ⟨A, ι, τ, R, S, q, k⟩ := q
  exact ⟨A, ι, τ, _, S, q, ⟨fun τ1 A1 ι1 σ1 H1 q1 e1 r1 s1 => ⟨A1, ι1, τ1, R, S.to e1 r1 s1, q1, k.from e1⟩, k.rt, k.bk, k.ct⟩⟩
theorem dss_one (h1 : PS X st (upS X.mg N t)) : PSs X [st] (upS X.mg N t) := pss_one h1
theorem ds_expr (he : PE X e (up X.mg N m)) (hs : swapsWith e none pos.line X.env = pure false := by rfl) : PS X (.Expr e pos) (upS X.mg N (sExpr m)) := ds_w (ps_expr he hs) fun Q σ H q => by
  obtain ⟨A, ι, τ, R, S, q, k⟩ := q
  exact ⟨A, ι, τ, _, S, q, fun v A1 ι1 H1 u q1 e1 r1 v1 => (k.nx.from e1).here (S.next e1 r1) q1⟩
theorem ds_ret (he : PE X e (up X.mg N m)) : PS X (.Return (some e) pos) (upS X.mg N (sRet m)) := ds_w (ps_ret he) fun Q σ H q => by
  obtain ⟨A, ι, τ, R, S, q, k⟩ := q
  exact ⟨A, ι, τ, _, S, q, k.rt⟩
theorem ds_if {c : Expr} {a b : List Stmt} {tc : DTT} (hc : PT X c (upT X.mg N tc)) (ha : PSs X a (upS X.mg N t)) (hb : PSs X b (upS X.mg N u)) : PS X (.If c a b pos) (upS X.mg N (sIf tc t u)) := ds_w (ps_if hc ha hb) fun Q σ H q => by
  obtain ⟨A, ι, τ, R, S, q, k⟩ := q
  refine ⟨A, ι, τ, _, S, q, fun x A1 ι1 H1 q1 e1 r1 => ?_⟩
  cases x with
  | true => rw [if_pos rfl]; exact ⟨A1, ι1, τ, R, S.next e1 r1, q1, k.from e1⟩
  | false => rw [if_neg Bool.false_ne_true]; exact ⟨A1, ι1, τ, R, S.next e1 r1, q1, k.from e1⟩
end
abbrev DTG := D → DSt → Ar → (DSt → Ar → Prop) → Prop
def upG (mg : Str → Option Value) (N : En) (g : DTG) : TG := fun v σ H Q => ∃ A ι τ d R, Sim mg N A ι τ σ H ∧ RV mg ι A.length H d v ∧ g d τ A R ∧ KtN mg A ι H R Q
def gN (i : Nat) : DTG := fun d τ A R => R (τ.set i (some d)) A
section
variable {X : Cx} {N : En} {pos : Pos} {e tg : Expr} {es : List Expr} {m : DTE} {g : DTG} {gs : DTGs}
theorem dg_w {t t' : TG} (h : PG X tg t) (w : ∀ v σ H Q, t' v σ H Q → t v σ H Q) : PG X tg t' := fun pins s σ H v u Q I r q => h pins s σ H v u Q I r (w v σ H Q q)
theorem dg_name {i : Nat} {x : Str} (hN : X.N.Nodup) (hi : X.N[i]? = some x) (hx : Loc X.env.scope x) (hf : X.fn x = true ∨ X.env.scope.names.lookup x = some .local := by first | exact .inl rfl | exact .inr rfl | assumption) : PG X (.Name x pos) (upG X.mg N (gN i)) :=
  dg_w (pg_name hN hi hx hf) fun v σ H Q q => by
    obtain ⟨A, ι, τ, d, R, S, r, q, k⟩ := q
    exact k.here (S.set r) q
def sSet (i : Nat) (m : DTE) : DTS := fun R τ A => m τ A fun v A1 => R.nx (τ.set i (some v)) A1
theorem ds_set {i : Nat} {x : Str} {pos' : Pos} (hN : X.N.Nodup) (hi : X.N[i]? = some x) (hx : Loc X.env.scope x) (he : PE X e (up X.mg N m)) (hs : swapsWith e (some (.Name x pos')) pos.line X.env = pure false := by rfl) (hf : X.fn x = true ∨ X.env.scope.names.lookup x = some .local := by first | exact .inl rfl | exact .inr rfl | assumption) :
    PS X (.Assign [.Name x pos'] e pos) (upS X.mg N (sSet i m)) := ds_w (ps_set hN hi hx he hs hf) fun Q σ H q => by
  obtain ⟨A, ι, τ, R, S, q, k⟩ := q
  exact ⟨A, ι, τ, _, S, q, fun v A1 ι1 H1 u q1 e1 r1 v1 => (k.nx.from e1).here ((S.next e1 r1).set v1) q1⟩
def sPar (i j : Nat) (n : DTA) : DTS := fun R τ A => n τ A fun vs A1 => match vs with
  | [v, w] => R.nx ((τ.set i (some v)).set j (some w)) A1
  | _ => False
theorem ds_par {i j : Nat} {x y : Str} {a b : Expr} {n : DTA} {px py pt : Pos} {kt k2 pt2} (hc : X.calm = true) (hN : X.N.Nodup) (hi : X.N[i]? = some x) (hj : X.N[j]? = some y) (hij : i ≠ j)
    (hx : X.env.scope.names.lookup x = some .local) (hy : X.env.scope.names.lookup y = some .local) (ha : PA X [a, b] (upA X.mg N n))
    (hw : swappedStores [.Tuple [.Name x px, .Name y py] kt pt] (.Tuple [a, b] k2 pt2) X.env = pure (some [x, y]))
    (hs : swapsWithSole [.Tuple [.Name x px, .Name y py] kt pt] (.Tuple [a, b] k2 pt2) pos.line X.env = pure false := by rfl) :
    PS X (.Assign [.Tuple [.Name x px, .Name y py] kt pt] (.Tuple [a, b] k2 pt2) pos) (upS X.mg N (sPar i j n)) := ds_w (ps_par hc hN hi hj hij hx hy ha hw hs) fun Q σ H q => by
  obtain ⟨A, ι, τ, R, S, q, k⟩ := q
  refine ⟨A, ι, τ, _, S, q, fun vs A1 ι1 H1 us q1 e1 r1 v1 => ?_⟩
  match vs, q1, v1 with
  | [v, w], q1, v1 =>
    obtain ⟨x1, _, rfl, h1, x2, _, rfl, h2, h3⟩ := v1
    obtain rfl := h3
    exact ⟨x1, x2, rfl, (k.nx.from e1).here (((S.next e1 r1).set h1).set h2) q1⟩
  | [], q1, _ => exact q1.elim
  | [_], q1, _ => exact q1.elim
  | _ :: _ :: _ :: _, q1, _ => exact q1.elim
end
abbrev DX := Str → Ar → Prop
abbrev Ct := List D → Ar → DK → DX → Prop
def KtX (mg : Str → Option Value) (A : Ar) (ι : Io) (H : Hp) (R : DX) (E : XK) : Prop := ∀ c A' ι' H' C, R c A' → mg c = some (.ref C) → Ext A ι H A' ι' H' → RA mg ι' H' A' → E (.ref C) none H'
def spOf (mg : Str → Option Value) (n : Nat) (S : Ct) : Sp := fun vs H Q E => ∃ A ι ds R RE, ds.length = n ∧ RA mg ι H A ∧ RVs mg ι A.length H ds vs ∧ S ds A R RE ∧ Kt mg A ι H R Q ∧ KtX mg A ι H RE E
def EL (mg : Str → Option Value) (N : En) (R : DX) : XK := fun C _ H' => ∃ c A' ι', (∃ a, C = .ref a ∧ mg c = some (.ref a)) ∧ Ext N.A N.ι N.H A' ι' H' ∧ RA mg ι' H' A' ∧ R c A'
def dCall (n : Nat) (S : Ct) (RE : DX) (m : DTA) : DTE := fun τ A R => m τ A fun vs A1 => vs.length = n ∧ S vs A1 R RE
section
variable {X : Cx} {N : En} {k n : Nat} {x : Str} {ps : List Str} {S : Ct} {RE : DX} {e : Expr} {es : List Expr} {m : DTA} {p pos : Pos}
theorem de_call (F : FnX X.prog X.w X.K X.mg X.base k x ps (spOf X.mg n S)) (hr : Room k X.A) (hx : Passes (CX1 X.prog X.w) X (EL X.mg N RE)) (ha : PA X (e :: es) (upA X.mg N m)) (hg : Gl X x := by rfl) (hdb : (x == ("__debug__" : Str)) = false := by decide)
    (he : starEach (e :: es) X.env = (false, eval e X.env) :: starEach es X.env := by rfl) (hpl : (backTo pos (starEach es X.env)).any (·.1) = false := by rfl) :
    PE X (.Call (.Name x p) (e :: es) [] pos) (up X.mg N (dCall n S RE m)) := de_w (pe_callX F hr hx ha hg hdb he hpl) fun σ H Q q => by
  obtain ⟨A, ι, τ, R, Z, q, k⟩ := q
  refine ⟨A, ι, τ, _, Z, q, fun vs A1 ι1 H1 us q1 e1 r1 v1 => ?_⟩
  show spOf X.mg n S (us ++ []) H1 Q (EL X.mg N RE)
  rw [List.append_nil]
  exact ⟨A1, ι1, vs, R, RE, q1.1, r1, v1, q1.2, k.from e1, fun c A2 ι2 H2 C q2 hc e2 r2 => ⟨c, A2, ι2, ⟨C, rfl, hc⟩, (Z.ex.trans e1).trans e2, r2, q2⟩⟩
end
def startD (n : Nat) (ds : List D) : DSt := ds.map some ++ List.replicate n none
theorem lk_start : ∀ (ds : List D) (n i : Nat) (d : D), lk (startD n ds) i = some d → ds[i]? = some d
  | [], n, i, d, h => by
    rw [lk_get] at h
    simp [startD, List.getElem?_replicate] at h
    split at h <;> simp at h
  | x :: r, n, 0, d, h => by simpa [startD, lk] using h
  | x :: r, n, i + 1, d, h => by simpa using lk_start r n i d h
theorem TopD.fnD {P : Program} {w : World} {K : PySem.W.Frag} {mg : Str → Option Value} {base : Heap} {x : Str} {st : Stmt} {Nm ps : List Str} {k n : Nat} {S : Ct} (T : TopD K mg x st ps) (Sc : FnScope Nm ps (defScope st)) (hn : ps.length = n) (hN : ps.length ≤ Nm.length)
    (hbody : ∀ (N : En) (RE : DX) (X : Cx), X.prog = P → X.w = w → X.K = K → X.mg = mg → X.base = base → X.N = Nm → X.calm = true → X.ex = [] → (∃ f cdv A outer s H E, X = cxOf (CX1 P w) P w K mg base Nm x (defScope st) f cdv A outer s H E) → Room k X.A → Raises X (EL X.mg N RE) → Passes (CX1 X.prog X.w) X (EL X.mg N RE) →
      ∀ ds A R, S ds A R RE → ds.length = n → ∃ m, PSs X (defBody st) (upS X.mg N m) ∧ m { nx := fun _ A' => R .non A', rt := R } (startD (Nm.length - n) ds) A) : FnX P w K mg base (k + 1) x ps (spOf mg n S) := by
  refine T.fnX Sc (fun vs H Q E h => ?_) fun f cdv A outer s H vs Q E hr h => ?_
  · obtain ⟨A, ι, ds, R, RE, hl, _, hv, _⟩ := h
    rw [← RVs.length hv, hl, hn]
  · obtain ⟨A0, ι0, ds, R, RE, hl, ra, hv, hS, kq, kx⟩ := h
    have hE : ∀ C a H', EL mg ⟨A0, ι0, H⟩ RE C a H' → E C none H' := fun C a H' z => by
      obtain ⟨c, A', ι', ⟨b, rfl, hc⟩, ex, r, q⟩ := z
      exact kx c A' ι' H' b q hc ex r
    obtain ⟨m, hP, hm⟩ := hbody ⟨A0, ι0, H⟩ RE (cxOf (CX1 P w) P w K mg base Nm x (defScope st) f cdv A outer s H E) rfl rfl rfl rfl rfl rfl rfl rfl ⟨_, _, _, _, _, _, _, rfl⟩ hr
      (fun pins σ H1 s1 e h' C args I mx z => raisesX pins σ H1 s1 e h' C args I mx (hE _ _ _ z))
      (fun pins σ H1 s1 e s' I z => passX pins σ H1 s1 e s' I (by
        obtain ⟨a, C, H', h1, h2, h3⟩ := z
        exact ⟨a, C, H', h1, h2, hE _ _ _ h3⟩)) ds A0 R hS hl
    have hlv := RVs.length hv
    refine ⟨_, hP, A0, ι0, _, _, ⟨ra, ⟨?_, fun i d q => ?_⟩, ra.refl⟩, hm, ⟨fun τ A' ι' σ H' q e r _ => kq _ A' ι' H' _ q e r rfl, kq, fun _ _ _ _ _ q _ _ _ => q.elim, fun _ _ _ _ _ q _ _ _ => q.elim⟩⟩
    · simp [startD, L2.start]
      omega
    · obtain ⟨v, h1, h2⟩ := RVs.get hv (lk_start ds _ i d q)
      refine ⟨v, ?_, h2⟩
      have hi := (List.getElem?_eq_some_iff.mp h1).1
      unfold L2.start
      rw [List.getElem?_append_left (by simpa using hi), List.getElem?_map, h1]
      rfl
end DP
namespace DP
open PySem PySem.Spec PyProof.Rows L2
abbrev DCb := List D → Ar → DK → Prop
def CbD (mg : Str → Option Value) (r : List V → Hp → VK → Prop) (f : DCb) : Prop := ∀ ds A ι H us R Q, RA mg ι H A → RVs mg ι A.length H ds us → f ds A R → Kt mg A ι H R Q → r us H Q
def dCb (f : DCb) (m : DTA) : DTE := fun τ A R => m τ A fun vs A1 => f vs A1 R
section
variable {X : Cx} {N : En} {e : Expr} {es : List Expr} {m : DTA} {p pos : Pos} {f : DCb} {r : List V → Hp → VK → Prop} {x : Str} {id T : String}
theorem up_cb (h : CbD X.mg r f) {σ : L2.St} {H : Hp} {Q : VK} (q : up X.mg N (dCb f m) σ H Q) : tCB r (upA X.mg N m) σ H Q := by
  obtain ⟨A, ι, τ, R, S, q, k⟩ := q
  exact ⟨A, ι, τ, _, S, q, fun vs A1 ι1 H1 us q1 e1 r1 v1 => h vs A1 ι1 H1 us R Q r1 v1 q1 (k.from e1)⟩
theorem de_cb (hc : CallR X (.builtin id) r) (hd : CbD X.mg r f) (hm : X.mg x = none) (hv : bootBuiltins x = some (.builtin id)) (ha : PA X (e :: es) (upA X.mg N m)) (hg : Gl X x := by rfl) (hn : x ≠ "__name__" := by decide) (hdb : (x == ("__debug__" : Str)) = false := by decide)
    (he : starEach (e :: es) X.env = (false, eval e X.env) :: starEach es X.env := by rfl) (hpl : (backTo pos (starEach es X.env)).any (·.1) = false := by rfl) : PE X (.Call (.Name x p) (e :: es) [] pos) (up X.mg N (dCb f m)) := de_w (pe_callB hc hg hm hv ha hn hdb he hpl) fun _ _ _ h => up_cb hd h
theorem de_cty (hc : CallR X (.type T) r) (hd : CbD X.mg r f) (hm : X.mg x = none) (hv : bootBuiltins x = some (.type T)) (ha : PA X (e :: es) (upA X.mg N m)) (hg : Gl X x := by rfl) (hn : x ≠ "__name__" := by decide) (hdb : (x == ("__debug__" : Str)) = false := by decide)
    (he : starEach (e :: es) X.env = (false, eval e X.env) :: starEach es X.env := by rfl) (hpl : (backTo pos (starEach es X.env)).any (·.1) = false := by rfl) : PE X (.Call (.Name x p) (e :: es) [] pos) (up X.mg N (dCb f m)) := de_w (pe_callTy hc hg hm hv ha hn hdb he hpl) fun _ _ _ h => up_cb hd h
end
@[irreducible] def lenR (r : Nat) (A : Ar) (R : DK) : Prop := match A[r]? with
    | some (.lst xs) => R (.int xs.length) A
    | some (.dct kvs) => R (.int kvs.length) A
    | _ => False
def lenD : DCb := fun vs A R => match vs with
  | [.tup xs] => R (.int xs.length) A
  | [.str z] => z.length ≤ sizeLine ∧ R (.int z.length) A
  | [.fl ns] => R (.int ns.length) A
  | [.ref r] => lenR r A R
  | _ => False
theorem RK.length {mg : Str → Option Value} {ι : Io} {H : Hp} : ∀ {ds : List (Key × D)} {vs : List (Key × V)} {n : Nat}, RK mg ι n H ds vs → ds.length = vs.length
  | [], vs, _, h => by have h' : vs = [] := h; rw [h']; rfl
  | d :: ds, vs, n, h => by
    obtain ⟨x, r, rfl, _, e3⟩ := h
    simp [RK.length e3]
theorem c_len {X : Cx} : CallR X (.builtin "len") (fun xs H Q => (∃ p ys, xs = [.ref p] ∧ (SqL X.K H p ys ∨ SqT X.K H p ys) ∧ Q (.int ys.length) H) ∨ (∃ z, xs = [.str z] ∧ z.length ≤ sizeLine ∧ Q (.int z.length) H) ∨ ∃ a kvs, xs = [V.ref a] ∧ H a = some (.dK kvs) ∧ Q (.int kvs.length) H) := call_len_seq.or (call_len_str.or call_lenD)
theorem d_len {mg : Str → Option Value} {K : PySem.W.Frag} : CbD mg (fun xs H Q => (∃ p ys, xs = [.ref p] ∧ (SqL K H p ys ∨ SqT K H p ys) ∧ Q (.int ys.length) H) ∨ (∃ z, xs = [.str z] ∧ z.length ≤ sizeLine ∧ Q (.int z.length) H) ∨ ∃ a kvs, xs = [V.ref a] ∧ H a = some (.dK kvs) ∧ Q (.int kvs.length) H) lenD := by
  intro ds A ι H us R Q ra rs h k
  unfold lenD at h
  split at h
  · obtain ⟨_, _, rfl, ⟨a, xs, rfl, e1, r1⟩, rfl⟩ := rs
    exact .inl ⟨a, xs, rfl, .inr (SqT.of e1), k.here ra h (by rw [RVs.length r1]; rfl)⟩
  · obtain ⟨_, _, rfl, rfl, rfl⟩ := rs
    exact .inr (.inl ⟨_, rfl, h.1, k.here ra h.2 rfl⟩)
  · obtain ⟨_, _, rfl, ⟨a, o, rfl, e1⟩, rfl⟩ := rs
    exact .inl ⟨a, _, rfl, .inl (.inl (.inr ⟨o, e1⟩)), k.here ra h (by rw [List.length_map]; rfl)⟩
  · obtain ⟨_, _, rfl, ⟨_, rfl⟩, rfl⟩ := rs
    unfold lenR at h
    split at h
    · rename_i xs e
      obtain ⟨us, h1, r1⟩ := ra.lst e
      exact .inl ⟨_, us, rfl, .inl (SqL.of h1), k.here ra h (by rw [RVs.length r1]; rfl)⟩
    · rename_i xs e
      obtain ⟨us, h1, r1⟩ := ra.dct e
      exact .inr (.inr ⟨_, us, rfl, h1, k.here ra h (by rw [RK.length r1]; rfl)⟩)
    · exact h.elim
  · exact h.elim
@[irreducible] def lstR (r : Nat) (A : Ar) (R : DK) : Prop := match A[r]? with
    | some (.lst xs) => R (.ref A.length) (A ++ [.lst xs])
    | _ => False
def bls : List D → Option (List Bool)
  | [] => some []
  | .bl b :: r => (bls r).map (b :: ·)
  | _ :: _ => none
theorem bls_V {mg : Str → Option Value} {ι : Io} {n : Nat} {H : Hp} : ∀ {ds : List D} {us : List V} {bs : List Bool}, bls ds = some bs → RVs mg ι n H ds us → us = bs.map V.bl
  | [], us, bs, h, r => by cases h; exact r
  | d :: ds, us, bs, h, r => by
    obtain ⟨x, r', rfl, h1, h2⟩ := r
    cases d with
    | bl b =>
      cases q : bls ds with
      | none => simp [bls, q] at h
      | some l =>
        simp [bls, q] at h
        subst h
        rw [bls_V q h2]
        cases h1; rfl
    | _ => simp [bls] at h
@[irreducible] def allR (r : Nat) (A : Ar) (R : DK) : Prop := match A[r]? with
    | some (.lst xs) => (match bls xs with
      | some bs => R (.bl (bs.all id)) A
      | none => False)
    | _ => False
def allD : DCb := fun vs A R => match vs with
  | [.ref r] => allR r A R
  | _ => False
theorem d_all {mg : Str → Option Value} {K : PySem.W.Frag} : CbD mg (fun xs H Q => ∃ (p : Addr) (bs : List Bool), xs = [.ref p] ∧ SqL K H p (bs.map V.bl) ∧ Q (.bl (bs.all id)) H) allD := by
  intro ds A ι H us R Q ra rs h k
  unfold allD at h
  split at h
  · obtain ⟨_, _, rfl, ⟨_, rfl⟩, rfl⟩ := rs
    unfold allR at h
    split at h
    · rename_i xs e
      split at h
      · rename_i bs eb
        obtain ⟨us, h1, r1⟩ := ra.lst e
        exact ⟨_, bs, rfl, SqL.of (by rw [h1, bls_V eb r1]), k.here ra h rfl⟩
      · exact h.elim
    · exact h.elim
  · exact h.elim
def tyD (A : Ar) : D → Option String
  | .non => some "NoneType"
  | .bl _ => some "bool"
  | .int _ => some "int"
  | .str _ => some "str"
  | .tup _ => some "tuple"
  | .fl _ => some "list"
  | .exc _ => none
  | .ref r => match A[r]? with
    | some (.lst _) => some "list"
    | some (.dct _) => some "dict"
    | _ => none
def isT (t c : String) : Bool := t == c || (t == "bool" && c == "int")
def dIs (c : String) (m : DTE) : DTE := fun τ A R => m τ A fun x A1 => match tyD A1 x with
  | some t => R (.bl (isT t c)) A1
  | none => False
def tys : List String := ["NoneType", "bool", "int", "str", "tuple", "list", "dict"]
theorem tyD_mem {A : Ar} {d : D} {t : String} (h : tyD A d = some t) : t ∈ tys := by
  cases d with
  | ref r =>
    unfold tyD at h
    simp only at h
    split at h <;> first | (cases h; decide) | cases h
  | exc c => cases h
  | _ => cases h; decide
theorem RA.ty {mg : Str → Option Value} {K : PySem.W.Frag} {A : Ar} {ι : Io} {H : Hp} (ra : RA mg ι H A) {d : D} {v : V} {t : String} (h : tyD A d = some t) (r : RV mg ι A.length H d v) : TyR K H v (.type t) := by
  cases d with
  | non => cases h; cases r; exact .of .non
  | bl b => cases h; cases r; exact .of (.bl b)
  | int b => cases h; cases r; exact .of (.int b)
  | str b => cases h; cases r; exact .of (.str b)
  | tup ds => cases h; obtain ⟨a, xs, rfl, e, _⟩ := r; exact .of (.tup e)
  | fl ns => cases h; obtain ⟨a, o, rfl, e⟩ := r; exact .of (.frz e)
  | exc c => cases h
  | ref q =>
    obtain ⟨_, rfl⟩ := r
    unfold tyD at h
    simp only at h
    split at h
    · rename_i xs e
      cases h
      obtain ⟨us, h1, _⟩ := ra.lst e
      exact .of (.lst h1)
    · rename_i xs e
      cases h
      obtain ⟨us, h1, _⟩ := ra.dct e
      exact .of (.dK h1)
    · cases h
section
variable {X : Cx} {N : En} {e : Expr} {es : List Expr} {m : DTE} {p p2 pos : Pos} {x : Str} {c : String}
theorem de_is (hk : ∀ t ∈ tys, PySem.W.kitOne X.K (.type t) (.type c) = some (isT t c)) (hm : X.mg "isinstance" = none) (hmx : X.mg x = none) (hvx : bootBuiltins x = some (.type c)) (ha : PE X e (up X.mg N m)) (hg : Gl X "isinstance" := by rfl) (hgx : Gl X x := by rfl) (hn : x ≠ "__name__" := by decide) (hdb : (x == ("__debug__" : Str)) = false := by decide)
    (hs : starEach [e, .Name x p2] X.env = [(false, eval e X.env), (false, eval (.Name x p2) X.env)] := by rfl) :
    PE X (.Call (.Name "isinstance" p) [e, .Name x p2] [] pos) (up X.mg N (dIs c m)) := by
  have hT : PE X (.Name x p2) (tC (.ty c)) := pe_bltn hgx hmx hvx rfl hn hdb
  refine de_w (pe_callB call_isI hg hm boot_isinstance (pa_cons ha (pa_cons hT pa_nil rfl) (by rw [hs]; rfl)) (by decide) (by decide) (by rw [hs]; rfl) rfl) fun σ H Q q => ?_
  obtain ⟨A, ι, τ, R, S, q, k⟩ := q
  refine ⟨A, ι, τ, _, S, q, fun v A1 ι1 H1 u q1 e1 r1 v1 => ?_⟩
  have q1 : (match tyD A1 v with | some t => R (.bl (isT t c)) A1 | none => False) := q1
  split at q1
  · rename_i t ht
    exact ⟨u, c, .type t, isT t c, rfl, r1.ty ht v1, hk t (tyD_mem ht), (k.from e1).here r1 q1 rfl⟩
  · exact q1.elim
end
abbrev DMt := D → List D → Ar → DK → Prop
def MtD (mg : Str → Option Value) (K : PySem.W.Frag) (T : String) (r : V → List V → Hp → VK → Prop) (f : DMt) : Prop := ∀ x ds A ι H u us R Q, RA mg ι H A → RV mg ι A.length H x u → RVs mg ι A.length H ds us → f x ds A R → Kt mg A ι H R Q → r u us H Q
def isL (A : Ar) : D → Bool
  | .ref r => match A[r]? with
    | some (.lst _) => true
    | _ => false
  | _ => false
def dMt (f : DMt) (mo : DTE) (m : DTA) : DTE := fun τ A R => mo τ A fun x A1 => isL A1 x = true ∧ m τ A1 fun vs A2 => f x vs A2 R
theorem RA.isL {mg : Str → Option Value} {K : PySem.W.Frag} {A : Ar} {ι : Io} {H : Hp} (ra : RA mg ι H A) {d : D} {v : V} (h : isL A d = true) (r : RV mg ι A.length H d v) : tyV K "list" v H := by
  cases d with
  | ref q =>
    obtain ⟨_, rfl⟩ := r
    unfold DP.isL at h
    simp only at h
    split at h
    · rename_i xs e
      obtain ⟨us, h1, _⟩ := ra.lst e
      exact .inl ⟨rfl, us, SqL.of h1⟩
    · cases h
  | _ => cases h
section
variable {X : Cx} {N : En} {e o : Expr} {es : List Expr} {mo : DTE} {m : DTA} {apos cpos : Pos} {f : DMt} {r : V → List V → Hp → VK → Prop} {name : Str} {id : String}
theorem de_mt (pa : PlainAttrs "list") (slot : Slot "list" name id) (hty : typeOf (.builtin id) = pure (.type "method_descriptor")) (hm : MtR X id r) (hd : MtD X.mg X.K "list" r f) (ho : PE X o (up X.mg N mo)) (ha : PA X (e :: es) (upA X.mg N m))
    (hbase : attributeBase o name X.env (eval o X.env) = eval o X.env := by rfl)
    (hfew : ((backTo cpos (starEach (e :: es) X.env)).all (fun x => !x.1) && (backToKw cpos (keywordEach [] X.env)).all (fun x => x.1.isSome)
      && decide ((e :: es).length + ([] : List Keyword).length + (if ([] : List Keyword).isEmpty then 0 else 1) < 30)) = true := by rfl)
    (hline : (apos.endLine == cpos.line) = true := by rfl) (hs : starEach (e :: es) X.env = (false, eval e X.env) :: starEach es X.env := by rfl) (hplain : (backTo cpos (starEach es X.env)).any (·.1) = false := by rfl) :
    PE X (.Call (.Attribute o name apos) (e :: es) [] cpos) (up X.mg N (dMt f mo m)) := de_w (pe_bm pa slot hty hm ho ha hbase hfew hline hs hplain) fun σ H Q q => by
  obtain ⟨A, ι, τ, R, S, q, k⟩ := q
  refine ⟨A, ι, τ, _, S, q, fun x A1 ι1 H1 u q1 e1 r1 v1 => ?_⟩
  refine ⟨r1.isL q1.1 v1, A1, ι1, τ, _, S.next e1 r1, q1.2, fun ys A2 ι2 H2 us q2 e2 r2 v2 => ?_⟩
  exact hd x ys A2 ι2 H2 u us R Q r2 (RV.ext e2 x u v1) v2 q2 (k.from (e1.trans e2))
end
theorem put_lst {mg : Str → Option Value} {A : Ar} {ι : Io} {H : Hp} {R : DK} {Q : VK} {ds es : List D} {xs ys : List V} {q : Nat} {d : D} {v : V} (k : Kt mg A ι H R Q) (r : RA mg ι H A) (hA : A[q]? = some (.lst ds)) (hH : H (ι q) = some (.lst xs)) (h : RVs mg ι A.length H es ys)
    (hq : R d (A.set q (.lst es))) (hd : ∀ H', RV mg ι A.length H' d v) : Q v (upd H (ι q) (.lst ys)) := by
  have E : Ext A ι H (A.set q (.lst es)) ι (upd H (ι q) (.lst ys)) := r.ext_put (List.getElem?_eq_some_iff.mp hA).1
  obtain ⟨r1, e1⟩ := r.put (c' := .lst es) (o := .lst ys) hA hH rfl ⟨ys, upd_same, by simpa using RVs.ext E es ys h⟩
  exact k _ _ _ _ _ hq e1 r1 (by simpa using hd _)
@[irreducible] def appR (r : Nat) (y : D) (A : Ar) (R : DK) : Prop := match A[r]? with
  | some (.lst xs) => xs.length < sizeLine ∧ R .non (A.set r (.lst (xs ++ [y])))
  | _ => False
def appD : DMt := fun x vs A R => match x, vs with
  | .ref r, [y] => appR r y A R
  | _, _ => False
theorem d_app {mg : Str → Option Value} {K : PySem.W.Frag} : MtD mg K "list" rAppend appD := by
  intro x ds A ι H u us R Q ra rx rs h k
  unfold appD at h
  split at h
  · obtain ⟨_, rfl⟩ := rx
    obtain ⟨v, _, rfl, rv, rfl⟩ := rs
    unfold appR at h
    split at h
    · rename_i xs e
      obtain ⟨ws, h1, r1⟩ := ra.lst e
      exact ⟨_, ws, v, rfl, rfl, h1, by rw [← RVs.length r1]; exact h.1, put_lst k ra e h1 (r1.app (es := [_]) (ws := [v]) ⟨v, [], rfl, rv, rfl⟩) h.2 fun _ => rfl⟩
    · exact h.elim
  · exact h.elim
@[irreducible] def extR (r q : Nat) (A : Ar) (R : DK) : Prop := match A[r]?, A[q]? with
  | some (.lst xs), some (.lst ys) => xs.length + ys.length ≤ sizeLine ∧ R .non (A.set r (.lst (xs ++ ys)))
  | _, _ => False
def extD : DMt := fun x vs A R => match x, vs with
  | .ref r, [.ref q] => extR r q A R
  | _, _ => False
theorem d_ext {mg : Str → Option Value} {K : PySem.W.Frag} : MtD mg K "list" rExtend extD := by
  intro x ds A ι H u us R Q ra rx rs h k
  unfold extD at h
  split at h
  · obtain ⟨_, rfl⟩ := rx
    obtain ⟨v, _, rfl, ⟨_, rfl⟩, rfl⟩ := rs
    unfold extR at h
    split at h
    · rename_i xs ys e e2
      obtain ⟨ws, h1, r1⟩ := ra.lst e
      obtain ⟨zs, h2, r2⟩ := ra.lst e2
      exact ⟨_, _, ws, zs, rfl, rfl, h1, h2, by rw [← RVs.length r1, ← RVs.length r2]; exact h.1, put_lst k ra e h1 (r1.app r2) h.2 fun _ => rfl⟩
    · exact h.elim
  · exact h.elim
def sRaise (RE : DX) (c : Str) (m : DTA) : DTS := fun _ τ A => m τ A fun vs A1 => vs.length ≤ sizeLine ∧ RE c A1
theorem ds_raise {X : Cx} {N : En} {RE : DX} {x : Str} {C : Addr} {e : Expr} {m : DTA} {np cpos pos : Pos} (hR : Raises X (EL X.mg N RE)) (hc : X.calm = true) (hm : X.mg x = some (.ref C)) (hC : PySem.W.excIn X.K C vErr "ValueError.__new__" = true) (ha : PA X [e] (upA X.mg N m)) (hg : Gl X x := by rfl) (hdb : (x == ("__debug__" : Str)) = false := by decide)
    (he : starEach [e] X.env = [(false, eval e X.env)] := by rfl) : PS X (.Raise (some (.Call (.Name x np) [e] [] cpos)) none pos) (upS X.mg N (sRaise RE x m)) := ds_w (ps_raise hR hc hm hC ha hg hdb he) fun Q σ H q => by
  obtain ⟨A, ι, τ, R, S, q, k⟩ := q
  exact ⟨A, ι, τ, _, S, q, fun vs A1 ι1 H1 us q1 e1 r1 v1 => ⟨by rw [← RVs.length v1]; exact q1.1, x, A1, ι1, ⟨C, rfl, hm⟩, S.ex.trans e1, r1, q1.2⟩⟩
end DP
namespace DP
open PySem PySem.Spec PyProof.Rows L2
section
variable {mg : Str → Option Value} {K : PySem.W.Frag} {A : Ar} {ι : Io} {H : Hp} {n : Nat}
end
section
variable {X : Cx} {N : En} {pos : Pos} {a b c : Expr} {ma mb mc : DTE} {x : Str}
theorem vr (i : Nat) (hN : X.N[i]? = some x := by rfl) (hv : Vis X.env.scope x := by first | exact Or.inl rfl | exact Or.inr (Or.inl rfl) | exact Or.inr (Or.inr rfl)) (hd : (x == ("__debug__" : Str)) = false := by decide)
    (hcd : (x == ("__classdict__" : Str)) = false := by decide) : PE X (.Name x pos) (up X.mg N (dVar i)) := de_var hN hv hd hcd
theorem e_eq (hu : X.A.units + 64 < cLine) (ha : PE X a (up X.mg N ma)) (hb : PE X b (up X.mg N mb)) : PE X (.Compare a [.Eq] [b] pos) (up X.mg N (dOp eqD ma mb)) := de_cmp (o_eq hu) d_eq ha hb (nomark _)
theorem t_eq (hu : X.A.units + 64 < cLine) (ha : PE X a (up X.mg N ma)) (hb : PE X b (up X.mg N mb)) : PT X (.Compare a [.Eq] [b] pos) (upT X.mg N (dTest (dOp eqD ma mb))) := dt_cmp (o_eq hu) d_eq ha hb (nomark _)
theorem t_ne (hu : X.A.units + 64 < cLine) (ha : PE X a (up X.mg N ma)) (hb : PE X b (up X.mg N mb)) : PT X (.Compare a [.NotEq] [b] pos) (upT X.mg N (dTest (dOp neD ma mb))) := dt_cmp (o_ne hu) d_ne ha hb (nomark _)
theorem t_lt (ha : PE X a (up X.mg N ma)) (hb : PE X b (up X.mg N mb)) : PT X (.Compare a [.Lt] [b] pos) (upT X.mg N (dTest (dOp ltD ma mb))) := dt_cmp o_lt d_lt ha hb (nomark _)
theorem t_is (ha : PE X a (up X.mg N ma)) (hb : PE X b (up X.mg N mb)) : PT X (.Compare a [.Is] [b] pos) (upT X.mg N (dTest (dOp isND ma mb))) := dt_cmp op_isN d_isN ha hb (nomark _)
theorem t_isnt (ha : PE X a (up X.mg N ma)) (hb : PE X b (up X.mg N mb)) : PT X (.Compare a [.IsNot] [b] pos) (upT X.mg N (dTest (dOp notND ma mb))) := dt_cmp op_notN d_notN ha hb (nomark _)
theorem e_lele (ha : PE X a (up X.mg N ma)) (hb : PE X b (up X.mg N mb)) (hc : PE X c (up X.mg N mc)) (hm : lastMarks [.LtE, .LtE] [b, c] = false := by with_unfolding_all rfl) : PE X (.Compare a [.LtE, .LtE] [b, c] pos) (up X.mg N (dChain leD leD ma mb mc)) := de_chain o_le o_le d_le d_le ha hb hc hm
theorem t_lele (ha : PE X a (up X.mg N ma)) (hb : PE X b (up X.mg N mb)) (hc : PE X c (up X.mg N mc)) (hm : lastMarks [.LtE, .LtE] [b, c] = false := by with_unfolding_all rfl) : PT X (.Compare a [.LtE, .LtE] [b, c] pos) (upT X.mg N (dTest (dChain leD leD ma mb mc))) := dt_chain o_le o_le d_le d_le ha hb hc hm
end
theorem fnD {P : Program} {w : World} {K : PySem.W.Frag} {mg : Str → Option Value} {base : Heap} {x : Str} {st : Stmt} {Nm ps : List Str} {k n : Nat} {S : Ct} (T : TopD K mg x st ps) (Sc : FnScope Nm ps (defScope st)) (hn : ps.length = n) (hN : ps.length ≤ Nm.length)
    (hbody : ∀ (N : En) (RE : DX) (f : Addr) (cdv : Value) (B : Around) (outer : List Env) (s : Shared) (H : Hp) (E : XK), Room k (cxOf (CX1 P w) P w K mg base Nm x (defScope st) f cdv B outer s H E).A →
      Raises (cxOf (CX1 P w) P w K mg base Nm x (defScope st) f cdv B outer s H E) (EL mg N RE) → Passes (CX1 P w) (cxOf (CX1 P w) P w K mg base Nm x (defScope st) f cdv B outer s H E) (EL mg N RE) →
      ∀ ds A R, S ds A R RE → ds.length = n → ∃ m, PSs (cxOf (CX1 P w) P w K mg base Nm x (defScope st) f cdv B outer s H E) (defBody st) (upS mg N m) ∧ m { nx := fun _ A' => R .non A', rt := R } (startD (Nm.length - n) ds) A) : FnX P w K mg base (k + 1) x ps (spOf mg n S) := by
  refine TopD.fnD T Sc hn hN fun N RE X _ _ _ _ _ _ _ _ hX hr hR hx ds A R h hl => ?_
  obtain ⟨f, cdv, B, outer, s, H, E, rfl⟩ := hX
  exact hbody N RE f cdv B outer s H E hr hR hx ds A R h hl
end DP
namespace DP
open PySem PySem.Spec PyProof.Rows L2
def sWhile (c : DTT) (b : DTS) : DTS := fun R τ A => ∃ W : Nat → DSt → Ar → Prop, (∃ n, W n τ A) ∧ ∀ n τ A, W n τ A → c τ A fun k A1 => cond k (∃ Nx : DSt → Ar → Prop, (∀ τ' A', Nx τ' A' → ∃ n', n' < n ∧ W n' τ' A') ∧ b { R with nx := Nx, ct := Nx, bk := R.nx } τ A1) (R.nx τ A1)
section
variable {X : Cx} {N : En} {pos : Pos} {c : Expr} {body : List Stmt} {tc : DTT} {tb : DTS}
theorem ds_while (hp : PassesOwn (model X.prog X.w) X.A X.env X.xe) (hc : PT X c (upT X.mg N tc)) (hb : PSs X body (upS X.mg N tb)) : PS X (.While c body [] pos) (upS X.mg N (sWhile tc tb)) := ds_w (ps_while hp hc hb) fun Q σ H q => by
  obtain ⟨A, ι, τ, R, S, ⟨W, ⟨n, w0⟩, turn⟩, k⟩ := q
  refine ⟨fun n σ' H' => ∃ A' ι' τ', Sim X.mg N A' ι' τ' σ' H' ∧ Ext A ι H A' ι' H' ∧ W n τ' A', ⟨n, A, ι, τ, S, S.ra.refl, w0⟩, ?_⟩
  rintro m σ1 H1 ⟨A1, ι1, τ1, S1, e1, w1⟩
  refine ⟨A1, ι1, τ1, _, S1, turn m τ1 A1 w1, fun b A2 ι2 H2 q2 e2 r2 => ?_⟩
  cases b with
  | true =>
    rw [if_pos rfl]
    obtain ⟨Nx, hN, q2⟩ := q2
    refine ⟨fun σ' H' => ∃ A' ι' τ', Sim X.mg N A' ι' τ' σ' H' ∧ Ext A ι H A' ι' H' ∧ Nx τ' A', fun σ' H' ⟨A', ι', τ', S', e', z⟩ => ?_, ?_⟩
    · obtain ⟨m', hm, w'⟩ := hN τ' A' z
      exact ⟨m', hm, A', ι', τ', S', e', w'⟩
    · refine ⟨A2, ι2, τ1, _, S1.next e2 r2, q2, ⟨?_, k.rt.from (e1.trans e2), k.nx.from (e1.trans e2), ?_⟩⟩
      · exact fun τ3 A3 ι3 σ3 H3 q3 e3 r3 s3 => ⟨A3, ι3, τ3, (S1.next e2 r2).to e3 r3 s3, (e1.trans e2).trans e3, q3⟩
      · exact fun τ3 A3 ι3 σ3 H3 q3 e3 r3 s3 => ⟨A3, ι3, τ3, (S1.next e2 r2).to e3 r3 s3, (e1.trans e2).trans e3, q3⟩
  | false =>
    rw [if_neg Bool.false_ne_true]
    exact (k.nx.from (e1.trans e2)).here (S1.next e2 r2) q2
end
structure JOk (mg : Str → Option Value) (A0 : Ar) (ι0 : Io) (H0 : Hp) (J : It) (items : List D) (chk : Ar → Prop) : Prop where
  go : ∀ (i : Nat) d A ι H, items[i]? = some d → Ext A0 ι0 H0 A ι H → RA mg ι H A → chk A → J.go i H ∧ ∀ x H', J.yld i H x H' → Ext A ι H A ι H' ∧ RA mg ι H' A ∧ RV mg ι A.length H' d x
  stop : ∀ A ι H, Ext A0 ι0 H0 A ι H → RA mg ι H A → chk A → J.stop items.length H
abbrev DTI := DSt → Ar → (List D → (Ar → Prop) → Ar → Prop) → Prop
def upI (mg : Str → Option Value) (N : En) (m : DTI) : TI := fun σ H Q => ∃ A ι τ R, Sim mg N A ι τ σ H ∧ m τ A R ∧ ∀ items chk A' ι' H' J, R items chk A' → Ext A ι H A' ι' H' → RA mg ι' H' A' → JOk mg A' ι' H' J items chk → Q J H'
theorem di_w {X : Cx} {tg e : Expr} {t t' : TI} (h : PI X tg e t) (w : ∀ σ H Q, t' σ H Q → t σ H Q) : PI X tg e t' := fun pins s σ H Q I q => h pins s σ H Q I (w σ H Q q)
section
variable {mg : Str → Option Value} {K : PySem.W.Frag} {A : Ar} {ι : Io} {H : Hp}
def rng (lo : Int) (n : Nat) : List D := (List.range n).map fun (i : Nat) => D.int (lo + i)
theorem jok_rng {lo : Int} {n : Nat} : JOk mg A ι H (Itr lo n) (rng lo n) (fun _ => True) where
  go := fun i d A1 ι1 H1 hd e r _ => by
    unfold rng at hd
    rw [List.getElem?_map] at hd
    cases q : (List.range n)[i]? with
    | none => rw [q] at hd; cases hd
    | some j =>
      rw [q] at hd
      have hi := (List.getElem?_eq_some_iff.mp q).1
      have hj := (List.getElem?_eq_some_iff.mp q).2
      simp at hi hj
      subst hj
      cases hd
      refine ⟨hi, fun x H' y => ?_⟩
      obtain ⟨rfl, rfl⟩ := y
      exact ⟨r.refl, r, rfl⟩
  stop := fun A1 ι1 H1 e r _ => by
    show n ≤ _
    simp [rng]
def sgs (z : Str) : List D := z.cps.toList.map fun c => D.str ⟨#[c]⟩
theorem jok_str {z : Str} : JOk mg A ι H (Its z) (sgs z) (fun _ => True) where
  go := fun i d A1 ι1 H1 hd e r _ => by
    unfold sgs at hd
    rw [List.getElem?_map] at hd
    cases q : z.cps.toList[i]? with
    | none => rw [q] at hd; cases hd
    | some j =>
      rw [q] at hd
      cases hd
      have hi := (List.getElem?_eq_some_iff.mp q).1
      refine ⟨show i < z.cps.size by simpa using hi, fun x H' y => ?_⟩
      obtain ⟨rfl, c, hc, rfl⟩ := y
      have : z.cps.toList[i]? = some c := by simpa using hc
      rw [q] at this; cases this
      exact ⟨r.refl, r, rfl⟩
  stop := fun A1 ι1 H1 e r _ => by
    show _ = _
    simp [sgs]
end
def iStrD (m : DTE) : DTI := fun τ A R => m τ A fun x A1 => match x with
  | .str z => R (sgs z) (fun _ => True) A1
  | _ => False
def iR1 (n : DTA) : DTI := fun τ A R => n τ A fun vs A1 => match vs with
  | [.int j] => -(2 ^ 62) ≤ j ∧ j < 2 ^ 62 ∧ R (rng 0 j.toNat) (fun _ => True) A1
  | _ => False
section
variable {X : Cx} {N : En} {pos p : Pos} {tg e a b : Expr} {m : DTE} {n : DTA} {nm : Str} {px : Pos}
theorem di_str (he : PE X e (up X.mg N m)) : PI X (.Name nm px) e (upI X.mg N (iStrD m)) := di_w (pi_str he) fun σ H Q q => by
  obtain ⟨A, ι, τ, R, S, q, k⟩ := q
  refine ⟨A, ι, τ, _, S, q, fun x A1 ι1 H1 u q1 e1 r1 v1 => ?_⟩
  cases x with
  | str z => exact ⟨z, v1, k _ _ A1 ι1 H1 _ q1 e1 r1 jok_str⟩
  | _ => exact q1.elim
theorem di_range1 (hm : X.mg "range" = none) (ha : PA X [a] (upA X.mg N n)) (hg : Gl X "range" := by rfl) (hs : starEach [a] X.env = [(false, eval a X.env)] := by rfl) : PI X tg (.Call (.Name "range" p) [a] [] pos) (upI X.mg N (iR1 n)) := di_w (pi_range1 hg hm ha hs) fun σ H Q q => by
  obtain ⟨A, ι, τ, R, S, q, k⟩ := q
  refine ⟨A, ι, τ, _, S, q, fun x A1 ι1 H1 u q1 e1 r1 v1 => ?_⟩
  match x, q1, v1 with
  | [.int j], q1, v1 =>
    obtain ⟨_, _, rfl, rfl, rfl⟩ := v1
    exact ⟨j, rfl, q1.1, q1.2.1, k _ _ A1 ι1 H1 _ q1.2.2 e1 r1 jok_rng⟩
end
def dLoop (chk : Ar → Prop) (g : DTG) (b : DTS) (R : DEnds) : List D → DSt → Ar → Prop
  | [], τ, A => chk A ∧ R.nx τ A
  | x :: xs, τ, A => chk A ∧ g x τ A fun τ1 A1 => b { R with nx := dLoop chk g b R xs, ct := dLoop chk g b R xs, bk := R.nx } τ1 A1
def sFor (it : DTI) (g : DTG) (b : DTS) : DTS := fun R τ A => it τ A fun items chk A1 => dLoop chk g b R items τ A1
theorem ds_for {X : Cx} {N : En} {pos : Pos} {tg iter : Expr} {body : List Stmt} {it : DTI} {g : DTG} {tb : DTS} (hp : PassesOwn (model X.prog X.w) X.A X.env X.xe) (hc : X.calm = true) (hi : PI X tg iter (upI X.mg N it)) (hg : PG X tg (upG X.mg N g)) (hb : PSs X body (upS X.mg N tb))
    (hs : ∀ x, foldedSetIterable iter X.env x = pure x := by intro _; rfl) : PS X (.For tg iter body [] pos) (upS X.mg N (sFor it g tb)) := ds_w (ps_for hp hc hi hg hb hs) fun Q σ H q => by
  obtain ⟨A, ι, τ, R, S, q, k⟩ := q
  refine ⟨A, ι, τ, _, S, q, fun items chk A1 ι1 H1 J q1 e1 r1 j1 => ?_⟩
  have S1 := S.next e1 r1
  refine ⟨fun i m σ' H' => m = items.length - i ∧ i ≤ items.length ∧ ∃ A' ι' τ', Sim X.mg N A' ι' τ' σ' H' ∧ Ext A1 ι1 H1 A' ι' H' ∧ dLoop chk g tb R (items.drop i) τ' A', ⟨_, rfl, Nat.zero_le _, A1, ι1, τ, S1, r1.refl, by simpa using q1⟩, ?_⟩
  rintro i m σ2 H2 ⟨rfl, hi, A2, ι2, τ2, S2, e2, q2⟩
  by_cases hl : i < items.length
  · right
    have hd : items.drop i = items[i] :: items.drop (i + 1) := by rw [List.drop_eq_getElem_cons hl]
    rw [hd] at q2
    obtain ⟨hchk, q2⟩ := q2
    obtain ⟨g1, g2⟩ := j1.go i items[i] A2 ι2 H2 (by rw [List.getElem?_eq_getElem hl]) e2 S2.ra hchk
    refine ⟨g1, fun σ' H' => ∃ A' ι' τ', Sim X.mg N A' ι' τ' σ' H' ∧ Ext A1 ι1 H1 A' ι' H' ∧ dLoop chk g tb R (items.drop (i + 1)) τ' A', fun σ' H' ⟨A', ι', τ', z⟩ => ⟨_, by omega, rfl, hl, A', ι', τ', z⟩, fun x H3 y => ?_⟩
    obtain ⟨e3, r3, v3⟩ := g2 x H3 y
    refine ⟨A2, ι2, τ2, items[i], _, S2.next e3 r3, v3, q2, fun τ4 A4 ι4 σ4 H4 q4 e4 r4 s4 => ?_⟩
    have e24 := e3.trans e4
    refine ⟨A4, ι4, τ4, _, (S2.next e3 r3).to e4 r4 s4, q4, ⟨?_, k.rt.from ((e1.trans e2).trans e24), k.nx.from ((e1.trans e2).trans e24), ?_⟩⟩
    · exact fun τ5 A5 ι5 σ5 H5 q5 e5 r5 s5 => ⟨A5, ι5, τ5, ((S2.next e3 r3).to e4 r4 s4).to e5 r5 s5, (e2.trans e24).trans e5, q5⟩
    · exact fun τ5 A5 ι5 σ5 H5 q5 e5 r5 s5 => ⟨A5, ι5, τ5, ((S2.next e3 r3).to e4 r4 s4).to e5 r5 s5, (e2.trans e24).trans e5, q5⟩
  · left
    have e : i = items.length := by omega
    subst e
    rw [List.drop_length] at q2
    exact ⟨j1.stop A2 ι2 H2 e2 S2.ra q2.1, (k.nx.from (e1.trans e2)).here S2 q2.2⟩
end DP
namespace DP
open PySem PySem.Spec PyProof.Rows L2
def unp : Option Nat → D → Option (List D)
  | none, x => some [x]
  | some k, .tup ds => if ds.length = k then some ds else none
  | some _, _ => none
def cLoopD (chk : Ar → Prop) (k : Option Nat) (fr : DSt) (tt : DTT) (te : DTE) (R : List D → Ar → Prop) : List D → List D → Ar → Prop
  | [], ys, A => chk A ∧ R ys A
  | x :: xs, ys, A => chk A ∧ match unp k x with
    | some vs => tt (vs.map some ++ fr) A fun b A3 => cond b (te (vs.map some ++ fr) A3 fun y A4 => ys.length < sizeLine ∧ cLoopD chk k fr tt te R xs (ys ++ [y]) A4) (cLoopD chk k fr tt te R xs ys A3)
    | none => False
def dComp (k : Option Nat) (ix : List Nat) (it : DTI) (tt : DTT) (te : DTE) : DTE := fun τ A R => it τ A fun items chk A1 => cLoopD chk k (ix.map (lk τ)) tt te (fun ys A2 => R (.ref A2.length) (A2 ++ [.lst ys])) items [] A1
def gsN : Nat → Nat → TGs
  | _, 0 => gNil
  | i, n + 1 => gCons (gName i) (gsN (i + 1) n)
def tgL (K : PySem.W.Frag) : Option Nat → TG
  | none => gName 0
  | some k => gTup K k (gsN 0 k)
theorem gs_run {Q : L2.St → Hp → Prop} {H : Hp} {fs : L2.St} : ∀ (xs : List V) (dn : L2.St), Q (dn ++ (xs.map some ++ fs)) H → gsN dn.length xs.length xs (dn ++ (List.replicate xs.length none ++ fs)) H Q
  | [], dn, h => ⟨rfl, by simpa using h⟩
  | x :: r, dn, h => by
    refine ⟨x, r, rfl, ?_⟩
    show gsN (dn.length + 1) r.length r ((dn ++ (List.replicate (r.length + 1) none ++ fs)).set dn.length (some x)) H Q
    have e : (dn ++ (List.replicate (r.length + 1) none ++ fs)).set dn.length (some x) = (dn ++ [some x]) ++ (List.replicate r.length none ++ fs) := by
      rw [List.set_append_right _ _ (Nat.le_refl _)]
      simp [List.replicate_succ]
    rw [e]
    have := gs_run r (dn ++ [some x]) (by simpa using h)
    simpa using this
theorem kst_own {fs : L2.St} : ∀ (xs : L2.St), KSt (List.replicate xs.length none ++ fs) (xs ++ fs)
  | [] => KSt.refl fs
  | x :: r => .own (kst_own r)
section
variable {mg : Str → Option Value} {K : PySem.W.Frag} {A : Ar} {ι : Io} {H : Hp}
theorem tg_run {k : Option Nat} {d : D} {vs : List D} {x : V} {n : Nat} (hu : unp k d = some vs) (r : RV mg ι n H d x) : ∃ xs, RVs mg ι n H vs xs ∧ vs.length = k.getD 1 ∧ ∀ (fs : L2.St) (Q : L2.St → Hp → Prop), Q (xs.map some ++ fs) H → tgL K k x (List.replicate (k.getD 1) none ++ fs) H Q := by
  cases k with
  | none =>
    cases hu
    exact ⟨[x], ⟨x, [], rfl, r, rfl⟩, rfl, fun fs Q q => q⟩
  | some k =>
    cases d with
    | tup ds =>
      have hu : (if ds.length = k then some ds else none) = some vs := hu
      by_cases hl : ds.length = k
      · rw [if_pos hl] at hu
        cases hu
        obtain ⟨a, xs, rfl, h1, h2⟩ := r
        have hx := RVs.length h2
        refine ⟨xs, h2, hl, fun fs Q q => ⟨a, xs, rfl, SqT.of h1, by rw [← hx]; exact hl, ?_⟩⟩
        have := gs_run (Q := Q) (H := H) (fs := fs) xs [] q
        show gsN 0 k xs (List.replicate k none ++ fs) H Q
        have e : k = xs.length := by rw [← hx, hl]
        rw [e]
        exact this
      · rw [if_neg hl] at hu
        cases hu
    | _ => cases hu
theorem RA.off (R : RA mg ι H A) {p : Addr} {o u : HO} (hp : ∀ r, r < A.length → ι r ≠ p) (hu : H p = some u) (hm : mutO u = true) : RA mg ι (upd H p o) A :=
  ⟨fun r c h => CO.ag (Nat.le_refl _) (fun _ _ => rfl) (fun b q m z => by
      rw [upd_ne]
      · exact z
      · rintro rfl
        rw [hu] at z; cases z; rw [hm] at m; cases m) (fun q z => by rw [upd_ne (hp r (List.getElem?_eq_some_iff.mp h).1)]; exact z) c (R.cel r c h), R.inj⟩
end
theorem stC_rep {own : List Str} {ix : List Nat} {σ : L2.St} : L2.stC own ix σ = List.replicate own.length none ++ ix.map fun i => (σ[i]?).join := by
  unfold L2.stC
  rw [List.map_const']
theorem lk_app1 : ∀ (ds : List D) (fr : DSt) (i : Nat) (d : D), lk (ds.map some ++ fr) i = some d → (ds[i]? = some d) ∨ (ds.length ≤ i ∧ lk fr (i - ds.length) = some d)
  | [], fr, i, d, h => .inr ⟨Nat.zero_le _, by simpa using h⟩
  | x :: r, fr, 0, d, h => .inl (by simpa [lk] using h)
  | x :: r, fr, i + 1, d, h => by
    rcases lk_app1 r fr i d (by simpa [lk] using h) with q | ⟨q1, q2⟩
    · exact .inl (by simpa using q)
    · exact .inr ⟨by simpa using q1, by simpa using q2⟩
theorem RS.block {mg : Str → Option Value} {ι : Io} {n : Nat} {H : Hp} {τ : DSt} {σ : L2.St} {ix : List Nat} {vs : List D} {xs : List V} (r : RS mg ι n H τ σ) (h : RVs mg ι n H vs xs) : RS mg ι n H (vs.map some ++ ix.map (lk τ)) (xs.map some ++ ix.map fun i => (σ[i]?).join) := ⟨by simp [RVs.length h], fun i d q => by
  have hl := RVs.length h
  rcases lk_app1 vs _ i d q with q | ⟨q1, q2⟩
  · obtain ⟨v, h1, h2⟩ := RVs.get h q
    have hi := (List.getElem?_eq_some_iff.mp h1).1
    exact ⟨v, by rw [List.getElem?_append_left (by simpa using hi), List.getElem?_map, h1]; rfl, h2⟩
  · rw [lk_get, List.getElem?_map] at q2
    cases e : ix[i - vs.length]? with
    | none => rw [e] at q2; simp at q2
    | some j =>
      rw [e] at q2
      have q2 : lk τ j = some d := by simpa using q2
      obtain ⟨v, h1, h2⟩ := r.at' j d q2
      refine ⟨v, ?_, h2⟩
      rw [List.getElem?_append_right (by simpa [← hl] using q1), List.getElem?_map, List.length_map, ← hl, e]
      simp [h1]⟩
section
variable {X : Cx} {N : En} {own frees : List Str} {ix : List Nat} {it : DTI} {tt : DTT} {te : DTE} {k : Option Nat}
theorem up_comp (hk : own.length = k.getD 1) {tT : CP → TT} (hT : ∀ c σ H Q, upT X.mg N tt σ H Q → tT c σ H Q) {σ : L2.St} {H : Hp} {Q : VK} (q : up X.mg N (dComp k ix it tt te) σ H Q) : tComp own ix (upI X.mg N it) (fun _ => tgL X.K k) tT (fun _ => up X.mg N te) σ H Q := by
  obtain ⟨A, ι, τ, R, S, q, kq⟩ := q
  refine ⟨A, ι, τ, _, S, q, fun items chk A1 ι1 H1 J q1 e1 r1 j1 c acc hacc => ?_⟩
  have S1 := S.next e1 r1
  rw [stC_rep, hk]
  have off1 : ∀ r, r < A1.length → ι1 r ≠ acc := fun r hr z => by
    obtain ⟨o, h1, _⟩ := r1.im r hr
    rw [z, hacc] at h1; cases h1
  have rn := r1.ext_fix (o := .lst []) hacc
  refine ⟨fun i m ys H' => m = items.length - i ∧ i ≤ items.length ∧ ∃ A' ι' yds, RA X.mg ι' H' A' ∧ Ext A1 ι1 H1 A' ι' H' ∧ (∀ r, r < A'.length → ι' r ≠ acc) ∧ H' acc = some (.lst ys) ∧ RVs X.mg ι' A'.length H' yds ys ∧ cLoopD chk k (ix.map (lk τ)) tt te (fun ys A2 => R (.ref A2.length) (A2 ++ [.lst ys])) (items.drop i) yds A',
    ⟨_, rfl, Nat.zero_le _, A1, ι1, [], r1.fix rn (fun b o z => by rw [upd_ne (ne_of_none z hacc)]; exact z), rn, off1, upd_same, rfl, by simpa using q1⟩, ?_⟩
  rintro i m ys H2 ⟨rfl, hi, A2, ι2, yds, r2, e2, off2, hy, ry, q2⟩
  refine ⟨hy, ?_⟩
  by_cases hl : i < items.length
  · right
    have hd : items.drop i = items[i] :: items.drop (i + 1) := by rw [List.drop_eq_getElem_cons hl]
    rw [hd] at q2
    obtain ⟨hchk, q2⟩ := q2
    obtain ⟨g1, g2⟩ := j1.go i items[i] A2 ι2 H2 (by rw [List.getElem?_eq_getElem hl]) e2 r2 hchk
    refine ⟨g1, fun ys' H' => ∃ A' ι' yds', RA X.mg ι' H' A' ∧ Ext A1 ι1 H1 A' ι' H' ∧ (∀ r, r < A'.length → ι' r ≠ acc) ∧ H' acc = some (.lst ys') ∧ RVs X.mg ι' A'.length H' yds' ys' ∧ cLoopD chk k (ix.map (lk τ)) tt te (fun ys A2 => R (.ref A2.length) (A2 ++ [.lst ys])) (items.drop (i + 1)) yds' A', fun ys' H' z => ⟨_, by omega, rfl, hl, z⟩, fun x H3 y => ?_⟩
    obtain ⟨e3, r3, v3⟩ := g2 x H3 y
    split at q2
    · rename_i vs hu
      obtain ⟨xs, h1, h2, h3⟩ := tg_run (K := X.K) hu v3
      refine h3 _ _ ⟨by have := kst_own (fs := ix.map fun i => (σ[i]?).join) (xs.map some); rw [List.length_map, ← RVs.length h1, h2] at this; exact this, ?_⟩
      have e13 := e2.trans e3
      have S3 : Sim X.mg N A2 ι2 (vs.map some ++ ix.map (lk τ)) (xs.map some ++ ix.map fun i => (σ[i]?).join) H3 := ⟨r3, RS.block (S1.rs.ext e13) h1, S1.ex.trans e13⟩
      have hy3 : H3 acc = some (.lst ys) := e3.mo acc _ hy off2
      refine hT _ _ _ _ ⟨A2, ι2, _, _, S3, q2, fun b A4 ι4 H4 q4 e4 r4 => ?_⟩
      have off4 : ∀ r, r < A4.length → ι4 r ≠ acc := fun r hr z => by
        by_cases hl : r < A2.length
        · rw [e4.ag r hl] at z; exact off2 r hl z
        · have := e4.nw r (by omega) hr
          rw [z, hy3] at this; cases this
      have hy4 : H4 acc = some (.lst ys) := e4.mo acc _ hy3 off2
      have ry4 := RVs.ext (e3.trans e4) yds ys ry
      cases b with
      | true =>
        refine iteT ?_
        refine ⟨A4, ι4, _, _, S3.next e4 r4, q4, fun v A5 ι5 H5 u q5 e5 r5 v5 => ?_⟩
        have hy5 : H5 acc = some (.lst ys) := e5.mo acc _ hy4 off4
        have off5 : ∀ r, r < A5.length → ι5 r ≠ acc := fun r hr z => by
          by_cases hl : r < A4.length
          · rw [e5.ag r hl] at z; exact off4 r hl z
          · have := e5.nw r (by omega) hr
            rw [z, hy4] at this; cases this
        have ry5 := RVs.ext e5 yds ys ry4
        have e15 := (e13.trans e4).trans e5
        have fx : ∀ b o, mutO o = false → H5 b = some o → upd H5 acc (.lst (ys ++ [u])) b = some o := fun b o m z => by
          rw [upd_ne]
          · exact z
          · rintro rfl
            rw [hy5] at z; cases z; cases m
        refine ⟨hy5, by rw [← RVs.length ry5]; exact q5.1, A5, ι5, yds ++ [v], r5.off off5 hy5 rfl, ⟨e15.len, e15.ag, e15.im, fun b o z hn => ?_, e15.nw, fun b o z => ?_⟩, off5, upd_same, ?_, q5.2⟩
        · rw [upd_ne (ne_of_none z hacc)]; exact e15.mo b o z hn
        · obtain ⟨o', h'⟩ := e15.al b o z
          exact ⟨o', by rw [upd_ne (ne_of_none z hacc)]; exact h'⟩
        · exact RVs.ag (Nat.le_refl _) (fun _ _ => rfl) fx _ _ (ry5.app (es := [v]) (ws := [u]) ⟨u, [], rfl, v5, rfl⟩)
      | false =>
        refine iteF ?_
        exact ⟨A4, ι4, yds, r4, e13.trans e4, off4, hy4, ry4, q4⟩
    · exact q2.elim
  · left
    have e : i = items.length := by omega
    subst e
    rw [List.drop_length] at q2
    obtain ⟨hchk, q2⟩ := q2
    refine ⟨j1.stop A2 ι2 H2 e2 r2 hchk, ?_⟩
    obtain ⟨ι3, ag2, at2⟩ : ∃ ι3 : Io, (∀ r, r < A2.length → ι3 r = ι2 r) ∧ ι3 A2.length = acc := ⟨fun r => if r = A2.length then acc else ι2 r, fun r h => by
      show (if r = A2.length then acc else ι2 r) = ι2 r
      rw [if_neg (by omega)], by
      show (if A2.length = A2.length then acc else ι2 A2.length) = acc
      rw [if_pos rfl]⟩
    refine kq (.ref A2.length) (A2 ++ [.lst yds]) ι3 H2 _ q2 (e1.trans ⟨by have := e2.len; simp; omega, fun r h => by rw [ag2 r (Nat.lt_of_lt_of_le h e2.len)]; exact e2.ag r h, e2.im, e2.mo, fun r h1 h2 => ?_, e2.al⟩) ⟨fun r c h => ?_, fun r s hr hs h => ?_⟩ ⟨by simp, by rw [at2]⟩
    · by_cases hr : r < A2.length
      · rw [ag2 r hr]; exact e2.nw r h1 hr
      · have : r = A2.length := by simp at h2; omega
        subst this
        rw [at2]; exact hacc
    · by_cases hr : r < A2.length
      · rw [List.getElem?_append_left hr] at h
        have := CO.ag (n' := (A2 ++ [C.lst yds]).length) (ι' := ι3) (H' := H2) (by simp) ag2 (fun _ _ _ z => z) (fun _ z => z) c (r2.cel r c h)
        rw [ag2 r hr]
        exact this
      · have hr' : r = A2.length := by
          have := (List.getElem?_eq_some_iff.mp h).1
          simp at this; omega
        subst hr'
        simp at h; subst h
        rw [at2]
        exact ⟨ys, hy, RVs.ag (by simp) ag2 (fun _ _ _ z => z) yds ys ry⟩
    · simp at hr hs
      by_cases h1 : r = A2.length
      · by_cases h2 : s = A2.length
        · rw [h1, h2]
        · subst h1
          rw [at2, ag2 s (by omega)] at h
          exact absurd h.symm (off2 s (by omega))
      · by_cases h2 : s = A2.length
        · subst h2
          rw [at2, ag2 r (by omega)] at h
          exact absurd h (off2 r (by omega))
        · rw [ag2 r (by omega), ag2 s (by omega)] at h
          exact r2.inj r s (by omega) (by omega) h
end
def tt0 : DTT := fun _ A R => R true A
section
variable {X : Cx} {N : En} {own frees : List Str} {ix : List Nat} {it : DTI} {tt : DTT} {te : DTE} (k : Option Nat) {tg iter elt cnd : Expr} {scope : Scope} {pos : Pos}
theorem de_comp (hk : own.length = k.getD 1) (hi : PI X tg iter (upI X.mg N it)) (hg : ∀ c, PG (cxC X (own ++ frees) scope c) tg (tgL X.K k)) (he : ∀ c, PE (cxC X (own ++ frees) scope c) elt (up X.mg N te)) (S : CScope X scope frees := by exact ⟨rfl, by decide +kernel, by decide +kernel, by decide +kernel, by decide +kernel, rfl⟩) (hc : X.calm = true := by rfl) (hN : ix.map (fun i => X.N[i]?) = frees.map some := by rfl) (hs : ∀ x, foldedSetIterable iter X.env x = pure x := by intro _; rfl) :
    PE X (.ListComp elt [⟨tg, iter, [], 0⟩] scope pos) (up X.mg N (dComp k ix it tt0 te)) :=
  de_w (pe_comp hi hg (fun c => PIf.nil) he S hc hN hs) fun σ H Q q => up_comp (own := own) hk (fun _ σ H Q h => by
    obtain ⟨A, ι, τ, R, S, h, k⟩ := h
    exact k.here S.ra h) q
theorem de_compI (hk : own.length = k.getD 1) (hi : PI X tg iter (upI X.mg N it)) (hg : ∀ c, PG (cxC X (own ++ frees) scope c) tg (tgL X.K k)) (ht : ∀ c, PT (cxC X (own ++ frees) scope c) cnd (upT X.mg N tt)) (he : ∀ c, PE (cxC X (own ++ frees) scope c) elt (up X.mg N te)) (S : CScope X scope frees := by exact ⟨rfl, by decide +kernel, by decide +kernel, by decide +kernel, by decide +kernel, rfl⟩) (hc : X.calm = true := by rfl) (hN : ix.map (fun i => X.N[i]?) = frees.map some := by rfl) (hs : ∀ x, foldedSetIterable iter X.env x = pure x := by intro _; rfl) :
    PE X (.ListComp elt [⟨tg, iter, [cnd], 0⟩] scope pos) (up X.mg N (dComp k ix it tt te)) :=
  de_w (pe_comp hi hg (fun c => PIf.one (ht c)) he S hc hN hs) fun σ H Q q => up_comp (own := own) hk (fun _ σ H Q h => h) q
variable {i : Nat} {x : Str} {pos' spos : Pos}
end
end DP
namespace DP
open PySem PySem.Spec PyProof.Rows L2
abbrev DTO := DSt → Ar → (Option Int → Ar → Prop) → Prop
def upO (mg : Str → Option Value) (N : En) (m : DTO) : TO := fun σ H Q => ∃ A ι τ R, Sim mg N A ι τ σ H ∧ m τ A R ∧ ∀ o A' ι' H', R o A' → Ext A ι H A' ι' H' → RA mg ι' H' A' → Q o H'
def oN : DTO := fun _ A R => R none A
def oS (m : DTE) : DTO := fun τ A R => m τ A fun x A1 => match x with
  | .int i => R (some i) A1
  | _ => False
def cutD (xs : List D) (lo hi : Option Int) : List D := (xs.drop (HT.sIx xs.length 0 lo)).take (HT.sIx xs.length xs.length hi - HT.sIx xs.length 0 lo)
theorem RVs.cut {mg : Str → Option Value} {ι : Io} {H : Hp} {n : Nat} {ds : List D} {vs : List V} (r : RVs mg ι n H ds vs) (lo hi : Option Int) : RVs mg ι n H (cutD ds lo hi) (cutV vs lo hi) := by
  unfold cutD cutV
  rw [← RVs.length r]
  exact (r.drop _).take _
@[irreducible] def slR (r : Nat) (lo hi : Option Int) (A : Ar) (R : DK) : Prop := match A[r]? with
  | some (.lst xs) => R (.ref A.length) (A ++ [.lst (cutD xs lo hi)])
  | _ => False
def slD (x : D) (lo hi : Option Int) (A : Ar) (R : DK) : Prop := match x with
  | .tup xs => ¬ (HT.sIx xs.length 0 lo = 0 ∧ HT.sIx xs.length xs.length hi = xs.length) ∧ R (.tup (cutD xs lo hi)) A
  | .ref r => slR r lo hi A R
  | _ => False
def dSl (m : DTE) (l u : DTO) : DTE := fun τ A R => m τ A fun x A1 => l τ A1 fun lo A2 => u τ A2 fun hi A3 => slD x lo hi A3 R
section
variable {X : Cx} {N : En} {pos p2 : Pos} {e : Expr} {lo hi : Option Expr} {m : DTE} {l u : DTO}
theorem do_w {t t' : TO} (h : PO X lo t) (w : ∀ σ H Q, t' σ H Q → t σ H Q) : PO X lo t' := fun pins s σ H Q I q => h pins s σ H Q I (w σ H Q q)
theorem do_none : PO X none (upO X.mg N oN) := do_w po_none fun σ H Q q => by
  obtain ⟨A, ι, τ, R, S, q, k⟩ := q
  exact k none A ι H q S.ra.refl S.ra
theorem do_some (h : PE X e (up X.mg N m)) : PO X (some e) (upO X.mg N (oS m)) := do_w (po_some h) fun σ H Q q => by
  obtain ⟨A, ι, τ, R, S, q, k⟩ := q
  refine ⟨A, ι, τ, _, S, q, fun x A1 ι1 H1 u q1 e1 r1 v1 => ?_⟩
  cases x with
  | int i => exact ⟨i, v1, k (some i) A1 ι1 H1 q1 e1 r1⟩
  | _ => exact q1.elim
theorem de_sl (he : PE X e (up X.mg N m)) (hl : PO X lo (upO X.mg N l)) (hu : PO X hi (upO X.mg N u)) : PE X (.Subscript e (.Slice lo hi none p2) pos) (up X.mg N (dSl m l u)) :=
  de_w (pe_slice (sl_tup.or sl_list) he hl hu) fun σ H Q q => by
    obtain ⟨A, ι, τ, R, S, q, k⟩ := q
    refine ⟨A, ι, τ, _, S, q, fun x A1 ι1 H1 v q1 e1 r1 v1 => ?_⟩
    refine ⟨A1, ι1, τ, _, S.next e1 r1, q1, fun o2 A2 ι2 H2 q2 e2 r2 => ?_⟩
    refine ⟨A2, ι2, τ, _, (S.next e1 r1).next e2 r2, q2, fun o3 A3 ι3 H3 q3 e3 r3 => ?_⟩
    have e13 := (e1.trans e2).trans e3
    have v3 := RV.ext (e2.trans e3) x v v1
    cases x with
    | tup ds =>
      obtain ⟨a, xs, rfl, h1, h2⟩ := v3
      refine .inl ⟨a, xs, rfl, SqT.of h1, by rw [← RVs.length h2]; exact q3.1, fun p hp => new_tup (k.from e13) r3 (h2.cut _ _) q3.2 hp⟩
    | ref r =>
      obtain ⟨_, rfl⟩ := v3
      have q3 : slR r o2 o3 A3 R := q3
      unfold slR at q3
      split at q3
      · rename_i xs e
        obtain ⟨us, h1, h2⟩ := r3.lst e
        exact .inr ⟨_, us, rfl, SqL.of h1, fun p hp => new_lst (k.from e13) r3 (h2.cut _ _) q3 hp⟩
      · exact q3.elim
    | _ => exact q3.elim
end
def strsD : List D → Option (List Str)
  | [] => some []
  | .str b :: r => (strsD r).map (b :: ·)
  | _ :: _ => none
@[irreducible] def srtR (r : Nat) (A : Ar) (R : DK) : Prop := match A[r]? with
  | some (.lst xs) => (match strsD xs with
    | some ss => ss.length < 64 ∧ ∀ ys : List Str, ys.Pairwise strLt → (∀ x, x ∈ ys ↔ x ∈ ss) → R (.ref A.length) (A ++ [.lst (ys.map D.str)])
    | none => False)
  | _ => False
section
variable {mg : Str → Option Value} {ι : Io} {H : Hp} {n : Nat}
end
section
variable {mg : Str → Option Value} {K : PySem.W.Frag} {ι : Io} {H : Hp} {n : Nat}
end
end DP
namespace DP
open PySem PySem.Spec PyProof.Rows L2
theorem kit_bool {K : PySem.W.Frag} : ∀ t ∈ tys, PySem.W.kitOne K (.type t) (.type "bool") = some (isT t "bool") := by
  intro t ht
  simp only [tys, List.mem_cons, List.not_mem_nil, or_false] at ht
  rcases ht with rfl | rfl | rfl | rfl | rfl | rfl | rfl <;> rfl
theorem kit_int {K : PySem.W.Frag} : ∀ t ∈ tys, PySem.W.kitOne K (.type t) (.type "int") = some (isT t "int") := by
  intro t ht
  simp only [tys, List.mem_cons, List.not_mem_nil, or_false] at ht
  rcases ht with rfl | rfl | rfl | rfl | rfl | rfl | rfl <;> rfl
theorem kit_str {K : PySem.W.Frag} : ∀ t ∈ tys, PySem.W.kitOne K (.type t) (.type "str") = some (isT t "str") := by
  intro t ht
  simp only [tys, List.mem_cons, List.not_mem_nil, or_false] at ht
  rcases ht with rfl | rfl | rfl | rfl | rfl | rfl | rfl <;> rfl
theorem kit_tuple {K : PySem.W.Frag} : ∀ t ∈ tys, PySem.W.kitOne K (.type t) (.type "tuple") = some (isT t "tuple") := by
  intro t ht
  simp only [tys, List.mem_cons, List.not_mem_nil, or_false] at ht
  rcases ht with rfl | rfl | rfl | rfl | rfl | rfl | rfl <;> rfl
end DP
namespace DP
open PySem PySem.Spec PyProof.Rows L2
theorem cI {b : Bool} {X Y : Prop} (h1 : b = true → X) (h2 : b = false → Y) : cond b X Y := by
  cases b with
  | true => exact h1 rfl
  | false => exact h2 rfl
theorem cD {p : Prop} [Decidable p] {X Y : Prop} (h1 : p → X) (h2 : ¬ p → Y) : cond (decide p) X Y := cI (fun e => h1 (of_decide_eq_true e)) fun e => h2 (of_decide_eq_false e)
theorem cN {p : Prop} [Decidable p] {X Y : Prop} (h1 : ¬ p → X) (h2 : p → Y) : cond (!decide p) X Y := cI (fun e => h1 (of_decide_eq_false (by simpa using e))) fun e => h2 (of_decide_eq_true (by simpa using e))
def But (t : Nat) (A A' : Ar) : Prop := ∀ q c, q ≠ t → A[q]? = some c → A'[q]? = some c
theorem But.refl {t : Nat} {A : Ar} : But t A A := fun _ _ _ h => h
theorem But.trans {t : Nat} {A B C : Ar} (a : But t A B) (b : But t B C) : But t A C := fun q c n h => b q c n (a q c n h)
theorem But.set {t : Nat} {A : Ar} {c : C} : But t A (A.set t c) := fun q d n h => by rw [List.getElem?_set_ne (Ne.symm n)]; exact h
def Tw (t n : Nat) (A : Ar) : Prop := ∃ xs, A[t]? = some (.lst xs) ∧ xs.length ≤ n
theorem Tw.mono {t n m : Nat} {A : Ar} (h : Tw t n A) (l : n ≤ m) : Tw t m A := let ⟨xs, a, b⟩ := h; ⟨xs, a, Nat.le_trans b l⟩
theorem getElem?_push {A T : Ar} {q : Nat} {c : C} (h : A[q]? = some c) : (A ++ T)[q]? = some c := by
  have := (List.getElem?_eq_some_iff.mp h).1
  rw [List.getElem?_append_left this]; exact h
def Gr (A A' : Ar) : Prop := ∃ T, A' = A ++ T
theorem Gr.refl {A : Ar} : Gr A A := ⟨[], by simp⟩
theorem Gr.push {A T : Ar} : Gr A (A ++ T) := ⟨T, rfl⟩
theorem Gr.trans {A B C : Ar} (a : Gr A B) (b : Gr B C) : Gr A C := by
  obtain ⟨T, rfl⟩ := a
  obtain ⟨T', rfl⟩ := b
  exact ⟨T ++ T', by simp⟩
theorem Gr.get {A B : Ar} (a : Gr A B) {q : Nat} {c : C} (h : A[q]? = some c) : B[q]? = some c := by
  obtain ⟨T, rfl⟩ := a
  exact getElem?_push h
theorem Gr.but {A B : Ar} {t : Nat} (a : Gr A B) : But t A B := fun _ _ _ h => a.get h
theorem Tw.gr {A B : Ar} {t n : Nat} (h : Tw t n A) (a : Gr A B) : Tw t n B := let ⟨xs, x, y⟩ := h; ⟨xs, a.get x, y⟩
def SCell : Ct := fun ds A R _ => ∃ ns k, ds = [.fl ns, .int k] ∧ 0 ≤ k ∧ ∀ i A', Gr A A' → R (.int i) A'
def SMixed : Ct := fun ds A R _ => ∃ ns k m, ds = [.fl ns, .int k, .int m] ∧ 0 ≤ k ∧ 0 < m ∧ ∀ i A', 0 ≤ i → i < m → Gr A A' → R (.int i) A'
def SDraw : Ct := fun ds A R _ => ∃ ns t m n, ds = [.fl ns, .ref t, .int m] ∧ Tw t n A ∧ n < 1000000 ∧ 0 < m ∧ ∀ i A', 0 ≤ i → i < m → But t A A' → Tw t (n + 1) A' → R (.int i) A'
def SPick : Ct := fun ds A R _ => ∃ ns t q xs n, ds = [.fl ns, .ref t, .ref q] ∧ q ≠ t ∧ A[q]? = some (.lst xs) ∧ xs ≠ [] ∧ Tw t n A ∧ n < 1000000 ∧ ∀ x A', x ∈ xs → But t A A' → Tw t (n + 1) A' → R x A'
theorem atI_some' {α : Type} {xs : List α} {k : Int} (h0 : 0 ≤ k) (h : k < (xs.length : Int)) : ∃ v, atI xs k = some v ∧ v ∈ xs := by
  have hk : k.toNat < xs.length := by omega
  refine ⟨xs[k.toNat], ?_, List.getElem_mem hk⟩
  unfold atI ixN
  rw [if_pos h0, if_pos h]
  simp [List.getElem?_eq_getElem hk]
end DP
namespace DP
open PySem PySem.Spec PyProof.Rows L2
theorem lay_ints : ∀ ns : List Int, PyData.canLayAll0 (ns.map PyData.int) = true
  | [] => by simp [PyData.canLayAll0]
  | n :: r => by simp [PyData.canLayAll0, PyData.canLay0, lay_ints r]
theorem last_get {A : Ar} {c : C} : (A ++ [c])[A.length]? = some c := by simp
theorem eq_fl_nil {ns : List Int} {A : Ar} {R : DK} (h : R (.bl (decide (ns = []))) (A ++ [.lst []])) : dataEq false (.fl ns) (.ref A.length) (A ++ [.lst []]) R := by
  unfold dataEq
  have e1 : toP (A ++ [.lst []]) (.ref A.length) = .list [] := by unfold toP; simp only [last_get]; rfl
  have e0 : toP (A ++ [.lst []]) (.fl ns) = .list (ns.map PyData.int) := by unfold toP; rfl
  refine ⟨rfl, ?_, ?_, ?_, ?_, ?_⟩
  · unfold okP; simp only [last_get]; rfl
  · rw [e0]; simpa [PyData.canLay0] using lay_ints ns
  · rw [e1]; simp [PyData.canLay0, PyData.canLayAll0]
  · rw [e1]; simp [PyData.depth, PyData.depthAll]; omega
  · rw [e0, e1]
    have e : PyData.eqv (.list (ns.map PyData.int)) (.list []) = decide (ns = []) := by cases ns <;> simp [PyData.eqv, PyData.eqvAll]
    rw [if_neg Bool.false_ne_true, e]
    exact h
end DP
namespace DP
open PySem PySem.Spec PyProof.Rows L2
section
variable {A : Ar} {r q t : Nat} {xs ys : List D} {kvs : List (Key × D)} {R : DK}
theorem isL_of (h : A[r]? = some (.lst xs)) : isL A (.ref r) = true := by unfold isL; simp only [h]
theorem app_ok {y : D} (h : A[r]? = some (.lst xs)) (hz : xs.length < sizeLine) (k : R .non (A.set r (.lst (xs ++ [y])))) : appR r y A R := by
  unfold appR
  simp only [h]
  exact ⟨hz, k⟩
theorem ext_ok (h : A[r]? = some (.lst xs)) (h2 : A[q]? = some (.lst ys)) (hz : xs.length + ys.length ≤ sizeLine) (k : R .non (A.set r (.lst (xs ++ ys)))) : extR r q A R := by
  unfold extR
  simp only [h, h2]
  exact ⟨hz, k⟩
theorem len_ok (h : A[r]? = some (.lst xs)) (k : R (.int xs.length) A) : lenR r A R := by
  unfold lenR
  simp only [h]
  exact k
theorem ix_ok {i : Int} {v : D} (h : A[r]? = some (.lst xs)) (hi : atI xs i = some v) (k : R v A) : ixR r (.int i) A R := by
  unfold ixR
  simp only [h, hi]
  exact k
theorem get_set (h : A[t]? = some (.lst xs)) : (A.set t (.lst ys))[t]? = some (.lst ys) := by
  rw [List.getElem?_set_self (List.getElem?_eq_some_iff.mp h).1]
theorem lt_of_get {c : C} (h : A[t]? = some c) : t < A.length := (List.getElem?_eq_some_iff.mp h).1
end
end DP
namespace DP
open PySem PySem.Spec PyProof.Rows L2
end DP
namespace DP
open PySem PySem.Spec PyProof.Rows L2
def sTry (okc : List Str) (len i : Nat) (m : DX → DTS) (th : DTS) : DTS := fun R τ A => m (fun c A' => c ∈ okc ∧ th { nx := fun _ _ => False, rt := R.rt } ((List.replicate len none).set i (some (.exc c))) A') R τ A
theorem ds_try {X : Cx} {N : En} {D : Addr} {i : Nat} {n cn : Str} {b₀ : Stmt} {suite body : List Stmt} {m : DX → DTS} {th : DTS} {np hpos pos : Pos} (okc : List Str) (hex : X.ex = []) (hst : X.stack = X.env :: X.outer) (hfr : X.env.frame = some X.env.locals) (hN : X.N.Nodup) (hi : X.N[i]? = some n) (hl : X.env.scope.names.lookup n = some .local) (hm : X.mg cn = some (.ref D))
    (hok : ∀ c C, c ∈ okc → X.mg c = some (.ref C) → PySem.W.exmOne X.K (.ref C) (.ref D) = some true)
    (hb : ∀ (M : En) (RE : DX) (pn : List (Addr × Obj)) (E : Value → Shared → Prop), Passes (CX1 X.prog X.w) (X.tried pn E) (EL X.mg M RE) → PSs (X.tried pn E) body (upS X.mg M (m RE))) (hh : ∀ (M : En) (e : Addr), PSs (X.inExc e) (b₀ :: suite) (upS X.mg M th))
    (hg : Gl X cn := by rfl) (hdb : (cn == ("__debug__" : Str)) = false := by decide) :
    PS X (.Try body [.ExceptHandler (some (.Name cn np)) (some n) (b₀ :: suite) hpos] [] [] pos) (upS X.mg N (sTry okc X.N.length i m th)) := by
  intro pins s σ H Dn I q
  obtain ⟨A, ι, τ, R, S, q, k⟩ := q
  refine ps_try (tb := fun pn E Ex Q σ' H' => ∃ RE : DX, (∀ C a H', EL X.mg ⟨A, ι, H⟩ RE C a H' → Ex C none H') ∧ upS X.mg ⟨A, ι, H⟩ (m RE) Q σ' H') (th := upS X.mg ⟨A, ι, H⟩ th) hex hst hfr hN hi hl hm (fun pn E Ex hx => ?_) (hh ⟨A, ι, H⟩) hg hdb pins s σ H Dn I ?_
  · intro pins' s' σ' H' Q I' z
    obtain ⟨RE, hE, z⟩ := z
    exact hb ⟨A, ι, H⟩ RE pn E (fun pins σ H1 s1 e s' I z => hx pins σ H1 s1 e s' I (by
      obtain ⟨a, C, H2, h1, h2, h3⟩ := z
      exact ⟨a, C, H2, h1, h2, hE _ _ _ h3⟩)) pins' s' σ' H' Q I' z
  · intro pn E
    refine ⟨_, fun C a0 H' z => ?_, A, ι, τ, R, ⟨S.ra, S.rs, S.ra.refl⟩, q, k⟩
    obtain ⟨c, A', ι', ⟨Ca, rfl, hc⟩, e, r, hin, ht⟩ := z
    refine ⟨Ca, rfl, hok c Ca hin hc, fun a σ' hlen ha => ?_⟩
    have E1 := r.ext_fix (o := excO a Ca) ha
    have r1 := r.fix E1 fun b o z => by rw [upd_ne (ne_of_none z ha)]; exact z
    refine ⟨A', ι', _, _, ⟨r1, ⟨by simp [hlen], fun j d hj => ?_⟩, e.trans E1⟩, ht, ⟨fun _ _ _ _ _ z _ _ _ => z.elim, k.rt.from (e.trans E1), fun _ _ _ _ _ z _ _ _ => z.elim, fun _ _ _ _ _ z _ _ _ => z.elim⟩⟩
    by_cases hji : j = i
    · subst hji
      by_cases hlt : j < X.N.length
      · rw [lk_set_self _ _ _ (by simpa using hlt)] at hj
        cases hj
        exact ⟨.ref a, by rw [List.getElem?_set_self (by rw [hlen]; exact hlt)], a, Ca, rfl, hc, upd_same⟩
      · rw [List.set_eq_of_length_le (by simp; omega), lk_get, List.getElem?_eq_none (by simp; omega)] at hj
        cases hj
    · rw [lk_set_ne _ _ _ _ hji, lk_get, List.getElem?_replicate] at hj
      split at hj <;> simp at hj
end DP
namespace L2
open PySem PySem.Spec PyProof.Rows
section
variable {X : Cx} {D : Addr} {cn : Str} {b₀ : Stmt} {suite body : List Stmt} {tb : List (Addr × Obj) → (Value → Shared → Prop) → XK → TS} {th : TS} {np hpos pos : Pos}
end
end L2
namespace DP
open PySem PySem.Spec PyProof.Rows L2
end DP
namespace DP
open PySem PySem.Spec PyProof.Rows L2 MA
abbrev M := Mob Str
def enc : M → D
  | .wt n => .tup [.str "weight", .str n]
  | .rod l r a b => .tup [.str "rod", .int l, .int r, enc a, enc b]
theorem cloop_map {k : Option Nat} {fr : DSt} {te : DTE} {chk : Ar → Prop} {R : List D → Ar → Prop} {A : Ar} (hc : chk A) (f : D → D) : ∀ (items ys : List D), (∀ x ∈ items, ∃ vs, unp k x = some vs ∧ ∀ Q : DK, Q (f x) A → te (vs.map some ++ fr) A Q) → ys.length + items.length ≤ sizeLine → R (ys ++ items.map f) A → cLoopD chk k fr tt0 te R items ys A
  | [], ys, _, _, h => ⟨hc, by simpa using h⟩
  | x :: xs, ys, hx, hl, h => by
    obtain ⟨vs, hu, ht⟩ := hx x (List.mem_cons_self ..)
    refine ⟨hc, ?_⟩
    rw [hu]
    refine ht _ ⟨by simp at hl; omega, cloop_map hc f xs (ys ++ [f x]) (fun y hy => hx y (List.mem_cons_of_mem _ hy)) (by simp at hl ⊢; omega) (by simpa using h)⟩
theorem bls_map {α : Type} (f : α → Bool) : ∀ xs : List α, bls (xs.map fun x => D.bl (f x)) = some (xs.map f)
  | [] => rfl
  | x :: r => by simp [bls, bls_map f r]
theorem all_ok {A : Ar} {r : Nat} {xs : List D} {bs : List Bool} {R : DK} (h : A[r]? = some (.lst xs)) (hb : bls xs = some bs) (k : R (.bl (bs.all id)) A) : allR r A R := by
  unfold allR
  simp only [h, hb]
  exact k
structure Nm (n : Str) : Prop where
  lo : 1 ≤ n.length
  hi : n.length ≤ 3
  az : ∀ c ∈ n.cps.toList, 97 ≤ c ∧ c ≤ 122
structure Wf (m : M) : Prop where
  arms : m.arms
  nm : ∀ n ∈ m.names, Nm n
end DP
namespace DP
open PySem PySem.Spec PyProof.Rows L2 MA
theorem fnNo {P : Program} {w : World} {K : PySem.W.Frag} {mg : Str → Option Value} {base : Heap} {x : Str} {st : Stmt} {ps : List Str} {k n : Nat} {S : Ct} (T : TopD K mg x st ps) (no : ∀ ds A R RE, ¬ S ds A R RE) : FnX P w K mg base k x ps (spOf mg n S) := by
  obtain ⟨f, fd, F, b, m⟩ := T
  have no' : ∀ vs H Q E, ¬ spOf mg n S vs H Q E := fun vs H Q E h => by
    obtain ⟨A, ι, ds, R, RE, _, _, _, z, _⟩ := h
    exact no _ _ _ _ z
  exact ⟨f, fd, ⟨fun vs H Q E h => absurd h (no' vs H Q E), fun A outer s H args us vs Q E _ _ _ _ h => absurd h (no' vs H Q E)⟩, b, F.kp, m⟩
end DP
namespace DP
open PySem PySem.Spec PyProof.Rows L2 MA
end DP
namespace DP
open PySem PySem.Spec PyProof.Rows L2 MA
theorem Nm.ok {n : Str} (h : Nm n) : PyData.canLay0 (.str n) = true := by
  have e : n.cps.all (fun c => decide (c < 0x110000)) = true := by
    rw [← Array.all_toList, List.all_eq_true]
    intro c hc
    have := h.az c hc
    exact decide_eq_true (by omega)
  simpa [PyData.canLay0, PyData.strOk] using e
end DP
namespace DP
open PySem PySem.Spec PyProof.Rows L2 MA
end DP
namespace DP
open PySem PySem.Spec PyProof.Rows L2 MA
end DP
namespace DP
open PySem PySem.Spec PyProof.Rows L2 MA
end DP
namespace DP
open PySem PySem.Spec PyProof.Rows L2 MA
def cst (d : Nat) : Nat := 5 * 2 ^ d - 4
theorem cst_succ (d : Nat) : cst (d + 1) = 4 + 2 * cst d := by
  unfold cst
  have : 0 < 2 ^ d := Nat.pow_pos (by decide)
  rw [Nat.pow_succ]; omega
theorem cst_pos (d : Nat) : 1 ≤ cst d := by
  unfold cst
  have : 0 < 2 ^ d := Nat.pow_pos (by decide)
  omega
structure Dr (t : Nat) (A A' : Ar) (n k : Nat) : Prop where
  but : But t A A'
  tw : Tw t (n + k) A'
def SMob (d : Nat) : Ct := fun ds A R _ => ∃ ns t q nms n, ds = [.fl ns, .ref t, .ref q, .int ((d : Int) - 1)] ∧ 0 < d ∧ q ≠ t ∧ A[q]? = some (.lst (nms.map D.str)) ∧ nms ≠ [] ∧ (∀ x ∈ nms, Nm x) ∧ Tw t n A ∧ n + cst d ≤ 1000000 ∧ ∀ m A', Wf m → m.deep < d → (∀ x ∈ m.names, x ∈ nms) → Dr t A A' n (cst d) → R (enc m) A'
def SFresh (d : Nat) : Ct := fun ds A R _ => ∃ m q n, ds = [enc m, .ref q] ∧ Wf m ∧ m.deep < d ∧ d ≤ 8 ∧ Tw q n A ∧ n + 2 ^ d ≤ 1000000 ∧ ∀ m' A', Wf m' → m'.deep = m.deep → Dr q A A' n (2 ^ d) → R (enc m') A'
end DP
namespace DP
open PySem PySem.Spec PyProof.Rows L2 MA
theorem ixs_ok {z : Str} {i : Int} {c : Nat} {A : Ar} {R : DK} (h : atI z.cps.toList i = some c) (hz : z.length ≤ sizeLine) (k : R (.str ⟨#[c]⟩) A) : ixD (.str z) (.int i) A R := by
  show (match atI z.cps.toList i with | some c => z.length ≤ sizeLine ∧ R (.str ⟨#[c]⟩) A | none => False)
  rw [h]
  exact ⟨hz, k⟩
end DP
namespace DP
open PySem PySem.Spec PyProof.Rows L2 MA
def SSomeD (d : Nat) : Ct := fun ds A R _ => ∃ ns t n, ds = [.fl ns, .ref t, .int ((d : Nat) : Int)] ∧ Tw t n A ∧ n + 200 ≤ 1000000 ∧ ∀ m A', Wf m → m.deep ≤ d → Dr t A A' n 200 → R (enc m) A'
end DP
namespace DP
open PySem PySem.Spec PyProof.Rows L2 MA
theorem cst200 {d : Nat} (h : d ≤ 4) : cst (d + 1) ≤ 156 := by
  have e : d = 0 ∨ d = 1 ∨ d = 2 ∨ d = 3 ∨ d = 4 := by omega
  rcases e with rfl | rfl | rfl | rfl | rfl <;> decide
end DP
namespace DP
open PySem PySem.Spec PyProof.Rows L2
def KEr (K : PySem.W.Frag) (mg : Str → Option Value) (cv : Value) (ans : Str → Option Bool) : Prop := ∀ c C b, ans c = some b → mg c = some (.ref C) → ExcK K C ∧ PySem.W.kitOne K (.ref C) cv = some b
def dIsE (ans : Str → Option Bool) (m : DTE) : DTE := fun τ A R => m τ A fun v A1 => match v with
  | .exc c => (match ans c with
    | some b => R (.bl b) A1
    | none => False)
  | _ => False
section
variable {X : Cx} {N : En} {e : Expr} {m : DTE} {p p2 pos : Pos} {x : Str} {ans : Str → Option Bool}
theorem up_isE {y : V} {cv : Value} (hy : ∀ u, RelV y u → u = cv) (hk : KEr X.K X.mg cv ans) {σ : L2.St} {H : Hp} {Q : VK} (q : up X.mg N (dIsE ans m) σ H Q) : up X.mg N m σ H (fun v H' => ∃ (a : Addr) (z : V) (C : Addr) (c : Value) (b : Bool), [v, y] = [.ref a, z] ∧ (∀ u, RelV z u → u = c) ∧ H' a = some (excO a C) ∧ ExcK X.K C ∧ PySem.W.kitOne X.K (.ref C) c = some b ∧ Q (.bl b) H') := by
  obtain ⟨A, ι, τ, R, S, q, k⟩ := q
  refine ⟨A, ι, τ, _, S, q, fun v A1 ι1 H1 u q1 e1 r1 v1 => ?_⟩
  cases v with
  | exc c =>
    obtain ⟨a, C, rfl, hc, ho⟩ := v1
    have q1 : (match ans c with | some b => R (.bl b) A1 | none => False) := q1
    split at q1
    · rename_i b hb
      obtain ⟨z1, z2⟩ := hk c C b hb hc
      exact ⟨a, y, C, cv, b, rfl, hy, ho, z1, z2, (k.from e1).here r1 q1 rfl⟩
    · exact q1.elim
  | _ => exact q1.elim
theorem de_isE {D : Addr} (hm : X.mg "isinstance" = none) (hx : X.mg x = some (.ref D)) (hk : KEr X.K X.mg (.ref D) ans) (ha : PE X e (up X.mg N m)) (hg : Gl X "isinstance" := by rfl) (hgx : Gl X x := by rfl) (hdb : (x == ("__debug__" : Str)) = false := by decide)
    (hs : starEach [e, .Name x p2] X.env = [(false, eval e X.env), (false, eval (.Name x p2) X.env)] := by rfl) :
    PE X (.Call (.Name "isinstance" p) [e, .Name x p2] [] pos) (up X.mg N (dIsE ans m)) := by
  have hT : PE X (.Name x p2) (tC (.ref D)) := pe_glob hgx hx rfl hdb
  exact de_w (pe_callB call_isE hg hm boot_isinstance (pa_cons ha (pa_cons hT pa_nil rfl) (by rw [hs]; rfl)) (by decide) (by decide) (by rw [hs]; rfl) rfl) fun σ H Q q => up_isE (y := .ref D) (fun _ r => r) hk q
theorem de_isEB {c : String} (hm : X.mg "isinstance" = none) (hmx : X.mg x = none) (hvx : bootBuiltins x = some (.type c)) (hk : KEr X.K X.mg (.type c) ans) (ha : PE X e (up X.mg N m)) (hg : Gl X "isinstance" := by rfl) (hgx : Gl X x := by rfl) (hn : x ≠ "__name__" := by decide) (hdb : (x == ("__debug__" : Str)) = false := by decide)
    (hs : starEach [e, .Name x p2] X.env = [(false, eval e X.env), (false, eval (.Name x p2) X.env)] := by rfl) :
    PE X (.Call (.Name "isinstance" p) [e, .Name x p2] [] pos) (up X.mg N (dIsE ans m)) := by
  have hT : PE X (.Name x p2) (tC (.ty c)) := pe_bltn hgx hmx hvx rfl hn hdb
  exact de_w (pe_callB call_isE hg hm boot_isinstance (pa_cons ha (pa_cons hT pa_nil rfl) (by rw [hs]; rfl)) (by decide) (by decide) (by rw [hs]; rfl) rfl) fun σ H Q q => up_isE (y := .ty c) (fun _ r => r) hk q
end
section
variable {X : Cx} {N : En} {k n : Nat} {x : Str} {ps : List Str} {S : Ct} {e : Expr} {es : List Expr} {m : DTA} {p pos : Pos}
theorem de_callH (F : FnH X.prog X.w X.K X.mg X.base k x ps (spOf X.mg n S)) (hr : RoomH k X.A) (ha : PA X (e :: es) (upA X.mg N m)) (hg : Gl X x := by rfl) (hdb : (x == ("__debug__" : Str)) = false := by decide)
    (he : starEach (e :: es) X.env = (false, eval e X.env) :: starEach es X.env := by rfl) (hpl : (backTo pos (starEach es X.env)).any (·.1) = false := by rfl) :
    PE X (.Call (.Name x p) (e :: es) [] pos) (up X.mg N (dCall n S (fun _ _ => False) m)) := de_w (pe_callH F hr ha hg hdb he hpl) fun σ H Q q => by
  obtain ⟨A, ι, τ, R, Z, q, k⟩ := q
  refine ⟨A, ι, τ, _, Z, q, fun vs A1 ι1 H1 us q1 e1 r1 v1 => ?_⟩
  show spOf X.mg n S (us ++ []) H1 Q E0
  rw [List.append_nil]
  exact ⟨A1, ι1, vs, R, _, q1.1, r1, v1, q1.2, k.from e1, fun c A2 ι2 H2 C q2 hc e2 r2 => q2.elim⟩
end
theorem fnHD {P : Program} {w : World} {K : PySem.W.Frag} {mg : Str → Option Value} {base : Heap} {x : Str} {st : Stmt} {Nm ps : List Str} {k n : Nat} {S : Ct} (T : TopD K mg x st ps) (Sc : FnScope Nm ps (defScope st)) (hn : ps.length = n) (hN : ps.length ≤ Nm.length)
    (hbody : ∀ (N : En) (f : Addr) (cdv : Value) (B : Around) (outer : List Env) (s : Shared) (H : Hp) (E : XK), RoomH k (B.deeper (envOfC x (defScope st) s.heap.objs.size f cdv)) →
      ∀ ds A R RE, S ds A R RE → ds.length = n → ∃ m, PSs ((cxOf CX0 P w K mg base Nm x (defScope st) f cdv { B with handled := Option.none } outer s H E).loud (B.deeper (envOfC x (defScope st) s.heap.objs.size f cdv))) (defBody st) (upS mg N m) ∧ m { nx := fun _ A' => R .non A', rt := R } (startD (Nm.length - n) ds) A) : FnH P w K mg base (k + 1) x ps (spOf mg n S) := by
  refine T.fnH Sc (fun vs H Q E h => ?_) fun f cdv A outer s H vs Q E hr h => ?_
  · obtain ⟨A, ι, ds, R, RE, hl, _, hv, _⟩ := h
    rw [← RVs.length hv, hl, hn]
  · obtain ⟨A0, ι0, ds, R, RE, hl, ra, hv, hS, kq, kx⟩ := h
    obtain ⟨m, hP, hm⟩ := hbody ⟨A0, ι0, H⟩ f cdv A outer s H E hr ds A0 R RE hS hl
    have hlv := RVs.length hv
    refine ⟨_, hP, A0, ι0, _, _, ⟨ra, ⟨?_, fun i d q => ?_⟩, ra.refl⟩, hm, ⟨fun τ A' ι' σ H' q e r _ => kq _ A' ι' H' _ q e r rfl, kq, fun _ _ _ _ _ q _ _ _ => q.elim, fun _ _ _ _ _ q _ _ _ => q.elim⟩⟩
    · simp [startD, L2.start]
      omega
    · obtain ⟨v, h1, h2⟩ := RVs.get hv (lk_start ds _ i d q)
      refine ⟨v, ?_, h2⟩
      have hi := (List.getElem?_eq_some_iff.mp h1).1
      unfold L2.start
      rw [List.getElem?_append_left (by simpa using hi), List.getElem?_map, h1]
      rfl
end DP
namespace DP
open PySem PySem.Spec PyProof.Rows L2
@[irreducible] def cntR (r : Nat) (b : Bool) (A : Ar) (R : DK) : Prop := match A[r]? with
  | some (.lst xs) => (match bls xs with
    | some bs => R (.int (bs.countP (· == b) : Nat)) A
    | none => False)
  | _ => False
def cntD : DMt := fun x vs A R => match x, vs with
  | .ref r, [.bl b] => cntR r b A R
  | _, _ => False
theorem d_count {mg : Str → Option Value} {K : PySem.W.Frag} : MtD mg K "list" rCount cntD := by
  intro x ds A ι H u us R Q ra rx rs h k
  unfold cntD at h
  split at h
  · obtain ⟨_, rfl⟩ := rx
    obtain ⟨v, _, rfl, rfl, rfl⟩ := rs
    unfold cntR at h
    split at h
    · rename_i xs e
      obtain ⟨ws, h1, r1⟩ := ra.lst e
      split at h
      · rename_i bs hb
        cases bls_V hb r1
        exact ⟨_, bs, _, rfl, rfl, h1, k.here ra h rfl⟩
      · exact h.elim
    · exact h.elim
  · exact h.elim
@[irreducible] def idxR (r : Nat) (b : Bool) (A : Ar) (R : DK) : Prop := match A[r]? with
  | some (.lst xs) => (match bls xs with
    | some bs => ∃ j : Nat, bs[j]? = some b ∧ (∀ m c, m < j → bs[m]? = some c → c ≠ b) ∧ R (.int (j : Nat)) A
    | none => False)
  | _ => False
def idxD : DMt := fun x vs A R => match x, vs with
  | .ref r, [.bl b] => idxR r b A R
  | _, _ => False
theorem d_index {mg : Str → Option Value} {K : PySem.W.Frag} : MtD mg K "list" rIndex idxD := by
  intro x ds A ι H u us R Q ra rx rs h k
  unfold idxD at h
  split at h
  · obtain ⟨_, rfl⟩ := rx
    obtain ⟨v, _, rfl, rfl, rfl⟩ := rs
    unfold idxR at h
    split at h
    · rename_i xs e
      obtain ⟨ws, h1, r1⟩ := ra.lst e
      split at h
      · rename_i bs hb
        cases bls_V hb r1
        obtain ⟨j, z1, z2, z3⟩ := h
        exact ⟨_, bs, _, j, rfl, rfl, h1, z1, z2, k.here ra z3 rfl⟩
      · exact h.elim
    · exact h.elim
  · exact h.elim
theorem cnt_ok {A : Ar} {r : Nat} {xs : List D} {bs : List Bool} {b : Bool} {R : DK} (h : A[r]? = some (.lst xs)) (hb : bls xs = some bs) (k : R (.int (bs.countP (· == b) : Nat)) A) : cntR r b A R := by
  unfold cntR
  simp only [h, hb]
  exact k
theorem idx_ok {A : Ar} {r : Nat} {xs : List D} {bs : List Bool} {b : Bool} {R : DK} (j : Nat) (h : A[r]? = some (.lst xs)) (hb : bls xs = some bs) (h1 : bs[j]? = some b) (h2 : ∀ m c, m < j → bs[m]? = some c → c ≠ b) (k : R (.int (j : Nat)) A) : idxR r b A R := by
  unfold idxR
  simp only [h, hb]
  exact ⟨j, h1, h2, k⟩
end DP
namespace L2
open PySem PySem.Spec PyProof.Rows
section
variable {X : Cx}
def rInP (K : PySem.W.Frag) (neg : Bool) : R2 := fun x y H Q => ∃ xs d, (Dp K H y (.tuple xs) ∨ Dp K H y (.list xs)) ∧ Dp K H x d ∧ PyData.canLayAll0 xs = true ∧ d.canLay0 = true ∧ min (PyData.depthAll xs) d.depth ≤ 60 ∧ Q (.bl (if neg then !(xs.any fun z => PyData.eqv z d) else xs.any fun z => PyData.eqv z d)) H
theorem op_notInP (hu : X.A.units + 64 < cLine) : OpR X (compareOp .NotIn) (rInP X.K true) := by
  intro pins s σ H x y v u Q I rx ry h
  obtain ⟨xs, d, hy, hx, c1, c2, hd, q⟩ := h
  obtain ⟨bs, rb⟩ := Dp.reads I d x v hx rx
  rcases hy with hy | hy
  · obtain ⟨as, ra⟩ := Dp.reads I _ y u hy ry
    exact SeqAt.notIn_tuple_reads ra rb c1 c2 (by omega) ⟨.bl _, H, I, rfl, q⟩
  · obtain ⟨as, ra⟩ := Dp.reads I _ y u hy ry
    exact SeqAt.notIn_list_reads ra rb c1 c2 (by omega) ⟨.bl _, H, I, rfl, q⟩
end
end L2
namespace DP
open PySem PySem.Spec PyProof.Rows L2
@[irreducible] def inPT (neg : Bool) (x : D) (xs : List D) (A : Ar) (R : DK) : Prop := okP A x = true ∧ purs xs = true ∧ PyData.canLayAll0 (toQs xs) = true ∧ (toP A x).canLay0 = true ∧ min (PyData.depthAll (toQs xs)) (toP A x).depth ≤ 60 ∧ R (.bl (if neg then !((toQs xs).any fun z => PyData.eqv z (toP A x)) else (toQs xs).any fun z => PyData.eqv z (toP A x))) A
@[irreducible] def inPR (neg : Bool) (x : D) (r : Nat) (A : Ar) (R : DK) : Prop := match A[r]? with
  | some (.lst xs) => inPT neg x xs A R
  | _ => False
def inPD (neg : Bool) : DOp := fun x y A R => match y with
  | .tup xs => inPT neg x xs A R
  | .ref r => inPR neg x r A R
  | _ => False
theorem d_inP {mg : Str → Option Value} {K : PySem.W.Frag} (neg : Bool) : OpD mg (rInP K neg) (inPD neg) := by
  intro x y A ι H u v R Q ra rx ry h k
  unfold inPD at h
  split at h
  · obtain ⟨a, xs, rfl, e1, r1⟩ := ry
    unfold inPT at h
    obtain ⟨p1, p2, c1, c2, hd, q⟩ := h
    exact ⟨_, _, .inl (.tup (SqT.of e1) (RVs.dp _ xs p2 r1)), ra.dp p1 rx, c1, c2, hd, k.here ra q rfl⟩
  · obtain ⟨_, rfl⟩ := ry
    unfold inPR at h
    split at h
    · rename_i xs e
      obtain ⟨us, h1, r1⟩ := ra.lst e
      unfold inPT at h
      obtain ⟨p1, p2, c1, c2, hd, q⟩ := h
      exact ⟨_, _, .inr (.lst (SqL.of h1) (RVs.dp _ us p2 r1)), ra.dp p1 rx, c1, c2, hd, k.here ra q rfl⟩
    · exact h.elim
  · exact h.elim
section
variable {X : Cx} {N : En} {pos : Pos} {a b : Expr} {ma mb : DTE}
theorem t_ninp (hu : X.A.units + 64 < cLine) (ha : PE X a (up X.mg N ma)) (hb : PE X b (up X.mg N mb)) (hm : behindInMarks .NotIn b = false := by rfl) : PT X (.Compare a [.NotIn] [b] pos) (upT X.mg N (dTest (dOp (inPD true) ma mb))) := dt_cmp (op_notInP hu) (d_inP true) ha hb hm
end
end DP
namespace L2
open PySem PySem.Spec PyProof.Rows
section
variable {prog : Program} {w : World} {B : Around} {E : Value → Shared → Prop}
end
section
variable {X : Cx} {pos : Pos}
end
end L2
namespace DP
open PySem PySem.Spec PyProof.Rows L2
theorem Gr.set {A B : Ar} {r : Nat} {c : C} (g : Gr A B) (h : A.length ≤ r) : Gr A (B.set r c) := by
  obtain ⟨T, rfl⟩ := g
  exact ⟨T.set (r - A.length) c, by rw [List.set_append_right _ _ h]⟩
open MA
theorem Wf.left {l r : Int} {a b : M} (h : Wf (.rod l r a b)) : Wf a := ⟨h.arms.2.2.2.2.1, fun n hn => h.nm n (by simp [Mob.names, hn])⟩
theorem Wf.right {l r : Int} {a b : M} (h : Wf (.rod l r a b)) : Wf b := ⟨h.arms.2.2.2.2.2, fun n hn => h.nm n (by simp [Mob.names, hn])⟩
end DP
namespace DP
open PySem PySem.Spec PyProof.Rows L2
end DP
namespace DP
open PySem PySem.Spec PyProof.Rows L2 MA
section
variable {m : M} {s : Str → Rat} {B : Str → Int}
end
theorem dloop_I {chk : Ar → Prop} {g : DTG} {b : DTS} {R : DEnds} (J : List D → DSt → Ar → Prop) (hc : ∀ rest τ A, J rest τ A → chk A)
    (hs : ∀ x rest τ A, J (x :: rest) τ A → ∀ Nx : DSt → Ar → Prop, (∀ τ' A', J rest τ' A' → Nx τ' A') → g x τ A fun τ1 A1 => b { R with nx := Nx, ct := Nx, bk := R.nx } τ1 A1) (he : ∀ τ A, J [] τ A → R.nx τ A) : ∀ (items : List D) (τ : DSt) (A : Ar), J items τ A → dLoop chk g b R items τ A
  | [], τ, A, j => ⟨hc _ _ _ j, he _ _ j⟩
  | x :: rest, τ, A, j => ⟨hc _ _ _ j, hs _ _ _ _ j _ fun τ' A' j' => dloop_I J hc hs he rest τ' A' j'⟩
theorem cloop_fil {k : Option Nat} {fr : DSt} {tt : DTT} {te : DTE} {chk : Ar → Prop} {R : List D → Ar → Prop} {A : Ar} (hc : chk A) (p : D → Bool) (f : D → D) : ∀ (items ys : List D), (∀ x ∈ items, ∃ vs, unp k x = some vs ∧ (∀ Q : Bool → Ar → Prop, Q (p x) A → tt (vs.map some ++ fr) A Q) ∧ ∀ Q : DK, Q (f x) A → te (vs.map some ++ fr) A Q) → ys.length + items.length ≤ sizeLine → R (ys ++ (items.filter p).map f) A → cLoopD chk k fr tt te R items ys A
  | [], ys, _, _, h => ⟨hc, by simpa using h⟩
  | x :: xs, ys, hx, hl, h => by
    obtain ⟨vs, hu, ht, he⟩ := hx x (List.mem_cons_self ..)
    refine ⟨hc, ?_⟩
    rw [hu]
    simp at hl
    refine ht _ ?_
    cases hp : p x with
    | true =>
      rw [List.filter_cons_of_pos hp] at h
      exact he _ ⟨by omega, cloop_fil hc p f xs (ys ++ [f x]) (fun y hy => hx y (List.mem_cons_of_mem _ hy)) (by simp; omega) (by simpa using h)⟩
    | false =>
      rw [List.filter_cons_of_neg (by simp [hp])] at h
      exact cloop_fil hc p f xs ys (fun y hy => hx y (List.mem_cons_of_mem _ hy)) (by omega) h
end DP
namespace L2
open PySem PySem.Spec PyProof.Rows
def rSlS : V → Option Int → Option Int → Hp → VK → Prop := fun x lo hi H Q => ∃ z, x = .str z ∧ z.length ≤ sizeLine ∧ Q (.str (Txt.slice z lo hi)) H
theorem sl_str {X : Cx} : SlR X rSlS := by
  intro pins s σ H x v vl vu lo hi sl Q I rx hs pl pu h
  obtain ⟨z, rfl, hz, q⟩ := h
  obtain ⟨t, rfl⟩ := rx
  refine ⟨"str", _, F.slot_str_getitem.lookup, typeIs_str _ _ _, ?_⟩
  obtain ⟨o, ho, hc, hd⟩ := hs
  have fin : ∀ (l u : Option (Int × Tok)), vl = partValue l → vu = partValue u → l.map (·.1) = lo → u.map (·.1) = hi → wpAny (model X.prog X.w) X.A (getItem (.str z t) (.ref sl)) (EP X pins σ Q) X.xe s := fun l u e1 e2 e3 e4 => by
    refine wpAny_getItem_str_slice (l := l) (u := u) (st := none) ⟨o, ho, hc, by rw [hd, e1, e2]; rfl⟩ rfl ?_
    refine post_val_or_str ⟨?_, fun t' k => ?_⟩
    · have := Txt.slice_le z lo hi
      rw [← e3, ← e4] at this
      exact Nat.le_trans this hz
    · refine ⟨.str (Txt.slice z lo hi), H, I.kept fun b ob e => e, ⟨t', ?_⟩, q⟩
      rw [← e3, ← e4]
      rfl
  cases pl with
  | none =>
    cases pu with
    | none => exact fin none none rfl rfl rfl rfl
    | int j t2 => exact fin none (some (j, t2)) rfl rfl rfl rfl
  | int i t1 =>
    cases pu with
    | none => exact fin (some (i, t1)) none rfl rfl rfl rfl
    | int j t2 => exact fin (some (i, t1)) (some (j, t2)) rfl rfl rfl rfl
end L2
namespace DP
open PySem PySem.Spec PyProof.Rows L2
def slS (x : D) (lo hi : Option Int) (A : Ar) (R : DK) : Prop := match x with
  | .str z => z.length ≤ sizeLine ∧ R (.str (Txt.slice z lo hi)) A
  | _ => False
def dSls (m : DTE) (l u : DTO) : DTE := fun τ A R => m τ A fun x A1 => l τ A1 fun lo A2 => u τ A2 fun hi A3 => slS x lo hi A3 R
theorem de_sls {X : Cx} {N : En} {e : Expr} {m : DTE} {lo hi : Option Expr} {l u : DTO} {p2 pos : Pos} (he : PE X e (up X.mg N m)) (hl : PO X lo (upO X.mg N l)) (hu : PO X hi (upO X.mg N u)) : PE X (.Subscript e (.Slice lo hi none p2) pos) (up X.mg N (dSls m l u)) :=
  de_w (pe_slice sl_str he hl hu) fun σ H Q q => by
    obtain ⟨A, ι, τ, R, S, q, k⟩ := q
    refine ⟨A, ι, τ, _, S, q, fun x A1 ι1 H1 v q1 e1 r1 v1 => ?_⟩
    refine ⟨A1, ι1, τ, _, S.next e1 r1, q1, fun o2 A2 ι2 H2 q2 e2 r2 => ?_⟩
    refine ⟨A2, ι2, τ, _, (S.next e1 r1).next e2 r2, q2, fun o3 A3 ι3 H3 q3 e3 r3 => ?_⟩
    have e13 := (e1.trans e2).trans e3
    cases x with
    | str z =>
      cases v1
      exact ⟨z, rfl, q3.1, (k.from e13).here r3 q3.2 rfl⟩
    | _ => exact q3.elim
end DP
namespace L2
open PySem PySem.Spec PyProof.Rows PySem.SeqAt
open AutoSeq1 (wpAny_loadPart')
open MeetsSeq MeetsSeq2 MeetsSeq3 SeqRoads2
end L2
namespace L2
open PySem PySem.Spec PyProof.Rows PySem.SeqAt
end L2
namespace L2
open PySem PySem.Spec PyProof.Rows PySem.SeqAt
section
variable {prog : Program} {w : World} {A : Around} {E : Value → Shared → Prop} {s : Shared}
end
end L2
namespace L2
open PySem PySem.Spec PyProof.Rows PySem.SeqAt
section
variable {X : Cx}
end
end L2
namespace DP
open PySem PySem.Spec PyProof.Rows L2
end DP
namespace SR
open PySem PySem.Spec PyProof.Rows
end SR
namespace SI
open PySem PySem.Spec PyProof.Rows SS
section
variable {prog : Program} {w : World} {A : Around} {E : Value → Shared → Prop} {s : Shared}
end
end SI
namespace SI
open PySem PySem.Spec PyProof.Rows SS
section
variable {prog : Program} {w : World} {A : Around} {R : Result → Shared → Prop} {I : Addr} {fp wr : List Addr} {G : Array GenState → Array GenState → Prop} {n : Nat} {P : Nat → Value → Prop} {St : Nat → Shared → Prop}
end
section
variable {prog : Program} {w : World} {A : Around} {E : Value → Shared → Prop} {s : Shared}
end
end SI
namespace SI
open PySem PySem.Spec PyProof.Rows SS
section
variable {prog : Program} {w : World} {A : Around} {E : Value → Shared → Prop} {s : Shared}
end
end SI
namespace SI
open PySem PySem.Spec PyProof.Rows SS
section
variable {prog : Program} {w : World} {A : Around} {E : Value → Shared → Prop} {s : Shared} {it a : Addr} {es : Array (Int × Value)} {ep : Nat} {t : SetTable}
end
end SI
namespace SI
open PySem PySem.Spec PyProof.Rows SS
section
variable {prog : Program} {w : World} {A : Around} {E : Value → Shared → Prop} {s : Shared} {it a : Addr} {es : Array (Int × Value)} {ep : Nat} {t : SetTable}
end
end SI
namespace L2
open PySem PySem.Spec PyProof.Rows
section
variable {X : Cx}
end
end L2
namespace DP
open PySem PySem.Spec PyProof.Rows L2
section
variable {X : Cx} {N : En} {e : Expr} {n : DTA} {p1 p2 pos1 pos2 : Pos}
end
end DP
namespace HT
open PySem PySem.Spec PyProof.Rows L2
section
variable {prog : Program} {w : World} {A : Around} {E : Value → Shared → Prop} {s : Shared}
end
end HT
namespace L2
open PySem PySem.Spec PyProof.Rows
section
variable {X : Cx}
end
end L2
namespace DP
open PySem PySem.Spec PyProof.Rows L2
section
variable {X : Cx} {N : En} {pos p2 : Pos} {e : Expr} {lo hi : Option Expr} {m : DTE} {l u : DTO}
end
end DP
namespace L2
open PySem PySem.Spec PyProof.Rows
section
variable {X : Cx} {pins : List (Addr × Obj)} {σ : St} {H : Hp} {s : Shared} {d : Addr} {kvs : List (Key × V)}
end
end L2
namespace DP
open PySem PySem.Spec PyProof.Rows L2
section
variable {X : Cx} {N : En} {tg e : Expr} {m : DTE}
end
end DP
namespace L2
open PySem PySem.Spec PyProof.Rows
section
variable {X : Cx}
end
end L2
namespace DP
open PySem PySem.Spec PyProof.Rows L2
@[irreducible] def anyR (r : Nat) (A : Ar) (R : DK) : Prop := match A[r]? with
    | some (.lst xs) => (match bls xs with
      | some bs => R (.bl (bs.any id)) A
      | none => False)
    | _ => False
def anyD : DCb := fun vs A R => match vs with
  | [.ref r] => anyR r A R
  | _ => False
def int1D : DCb := fun vs A R => match vs with
  | [.int i] => R (.int i) A
  | [.bl b] => R (.int (if b = true then 1 else 0)) A
  | _ => False
theorem d_int1 {mg : Str → Option Value} : CbD mg (fun xs H Q => (∃ i, xs = [.int i] ∧ Q (.int i) H) ∨ ∃ k, xs = [.bl k] ∧ Q (.int (if k then 1 else 0)) H) int1D := by
  intro ds A ι H us R Q ra rs h k
  unfold int1D at h
  split at h
  · obtain ⟨_, _, rfl, rfl, rfl⟩ := rs
    exact .inl ⟨_, rfl, k.here ra h rfl⟩
  · obtain ⟨_, _, rfl, rfl, rfl⟩ := rs
    exact .inr ⟨_, rfl, k.here ra h rfl⟩
  · exact h.elim
end DP
namespace KO
open PySem PySem.W PyProof.Rows
section
variable {O : KeyOrd} {key : Nat → O.α} {n : Nat} {cmp : Nat → Nat → (Bool → Shared → Prop) → Shared → Prop} {s : Shared}
variable (hc : ∀ i j, i < n → j < n → ∀ C : Bool → Shared → Prop, C (O.blt (key i) (key j)) s → cmp i j C s)
include hc
end
end KO
namespace KP
open PySem PySem.W PySem.Spec PyProof.Rows KO
section
variable {prog : Program} {w : World} {A : Around} {E : Value → Shared → Prop} {s : Shared}
end
end KP
namespace L2
open PySem PySem.Spec PyProof.Rows PySem.SeqAt
section
variable {X : Cx}
end
end L2
namespace DP
open PySem PySem.Spec PyProof.Rows L2
end DP
namespace L2
open PySem PySem.Spec PyProof.Rows PySem.SeqAt
open AutoSeq1 (wpAny_loadPart')
open MeetsSeq MeetsSeq2 MeetsSeq3 SeqRoads2
end L2
namespace L2
open PySem PySem.Spec PyProof.Rows PySem.SeqAt
end L2
namespace L2
open PySem PySem.Spec PyProof.Rows PySem.SeqAt
end L2
namespace DP
open PySem PySem.Spec PyProof.Rows L2
section
variable {X : Cx} {N : En} {a b : Expr} {ma mb : DTE} {pos : Pos}
end
end DP
namespace L2
open PySem PySem.Spec PyProof.Rows
def rRepL : R2 := fun x y H Q => ∃ l k xs, x = .ref l ∧ y = .int k ∧ H l = some (.lst xs) ∧ 0 ≤ k ∧ k < 2 ^ 20 ∧ xs.length * k.toNat ≤ 100000 ∧
  ∀ p, H p = none → Q (.ref p) (upd H p (.lst (List.replicate k.toNat xs).flatten))
theorem rep_nil {α : Type} : ∀ k : Nat, (List.replicate k ([] : List α)).flatten = []
  | 0 => rfl
  | k + 1 => by simp [List.replicate_succ, rep_nil k]
theorem op_repL {X : Cx} : OpR X (binaryOp .Mult) rRepL := by
  intro pins s σ H x y v u Q I rx ry h
  obtain ⟨l, k, xs, rfl, rfl, hH, h1, h2, hz, q⟩ := h
  cases rx
  obtain ⟨t, rfl⟩ := ry
  obtain ⟨z, its, n, r, e⟩ := (show ObjOk X.prog X.w H s.heap l (.lst xs) from I.hok l _ hH)
  have hl := r.length
  have hlen : its.toArray.size * k.toNat ≤ 100000 := by rw [List.size_toArray, ← hl]; exact hz
  have e0 : its.toArray.size * (if its.toArray.isEmpty = true then 0 else k.toNat) ≤ 100000 := by split <;> omega
  have hnew : List.foldl (fun x1 x2 => x1 ++ x2) #[] (List.replicate (if its.toArray.isEmpty = true then 0 else k.toNat) its.toArray) = (List.replicate k.toNat its).flatten.toArray := by
    cases its with
    | nil =>
      rw [rep_nil]
      rfl
    | cons a b =>
      have := foldl_rep (a :: b) k.toNat []
      rw [List.nil_append] at this
      exact this
  refine wpAny_binaryOp_repeat_ref (T := "list") (U := "int") (by decide) ⟨_, e, rfl⟩ (fun s' => typeIs_int s' k t) noFill_list_mul PySem.F.fills_int_mul PySem.F.slot_int_rmul repeat_list PySem.F.slot_int_index.lookup
    (call_meets PySem.F.slot_int_rmul (typeIs_int s k t) PySem.F.entry_int_rmul (PySem.F.args_int_rmul_2 _ _) (int___rmul___int_list k t l its.toArray n)
      ⟨e, rfl, ⟨_, e, rfl⟩, call_meets PySem.F.slot_list_mul ⟨_, e, rfl⟩ PySem.F.entry_list_mul (PySem.F.args_list_mul_2 _ _)
        (AutoListH.list___mul___list_int_3 l its.toArray n k t (by simp [Builtin.List.listFitsIndex]; omega) (by omega) (by simp only [Builtin.List.listTooLong, sizeLine_eq]; simp; simp at hlen; omega)) ⟨e, ?_⟩⟩)
  rw [hnew]
  refine ⟨.ref s.heap.objs.size, _, I.laid (t' := s.toks) (o := .lst (List.replicate k.toNat xs).flatten) (fun b ob q => Heap.get?_push_of_some _ q) (Nat.le_refl _) ?_, rfl, q _ (I.hok.fresh (Nat.le_refl _))⟩
  exact ⟨by rw [len_rep, Nat.mul_comm]; exact Nat.le_trans hz (by decide), _, 0, r.rep k.toNat, Heap.get?_push_size _ rfl⟩
end L2
namespace DP
open PySem PySem.Spec PyProof.Rows L2
@[irreducible] def repLR (r : Nat) (k : Int) (A : Ar) (R : DK) : Prop := match A[r]? with
  | some (.lst xs) => 0 ≤ k ∧ k < 2 ^ 20 ∧ xs.length * k.toNat ≤ 100000 ∧ R (.ref A.length) (A ++ [.lst (List.replicate k.toNat xs).flatten])
  | _ => False
def repLD : DOp := fun x y A R => match x, y with
  | .ref r, .int k => repLR r k A R
  | _, _ => False
theorem RVs.append {mg : Str → Option Value} {ι : Io} {H : Hp} {n : Nat} : ∀ {ds : List D} {vs : List V} {ds' : List D} {vs' : List V}, RVs mg ι n H ds vs → RVs mg ι n H ds' vs' → RVs mg ι n H (ds ++ ds') (vs ++ vs')
  | [], vs, ds', vs', h, h' => by have h : vs = [] := h; rw [h]; exact h'
  | d :: ds, vs, ds', vs', h, h' => by
    obtain ⟨v, r, rfl, h1, h2⟩ := h
    exact ⟨v, r ++ vs', rfl, h1, RVs.append h2 h'⟩
theorem RVs.rep {mg : Str → Option Value} {ι : Io} {H : Hp} {n : Nat} {ds : List D} {vs : List V} (h : RVs mg ι n H ds vs) : ∀ k : Nat, RVs mg ι n H (List.replicate k ds).flatten (List.replicate k vs).flatten
  | 0 => rfl
  | k + 1 => by
    rw [List.replicate_succ, List.replicate_succ, List.flatten_cons, List.flatten_cons]
    exact RVs.append h (RVs.rep h k)
theorem d_repL {mg : Str → Option Value} : OpD mg rRepL repLD := by
  intro x y A ι H u v R Q ra rx ry h k
  unfold repLD at h
  split at h
  · rename_i r i
    obtain ⟨_, rfl⟩ := rx
    cases ry
    unfold repLR at h
    split at h
    · rename_i xs e
      obtain ⟨us, hu, ru⟩ := ra.lst e
      obtain ⟨h1, h2, h3, q⟩ := h
      exact ⟨_, i, us, rfl, rfl, hu, h1, h2, by rw [← RVs.length ru]; exact h3, fun p hp => new_lst k ra (RVs.rep ru _) q hp⟩
    · exact h.elim
  · exact h.elim
theorem repL_ok {A : Ar} {r : Nat} {k : Int} {xs : List D} {R : DK} (h : A[r]? = some (.lst xs)) (h0 : 0 ≤ k) (h1 : k < 2 ^ 20) (h2 : xs.length * k.toNat ≤ 100000) (q : R (.ref A.length) (A ++ [.lst (List.replicate k.toNat xs).flatten])) : repLR r k A R := by
  unfold repLR
  simp only [h]
  exact ⟨h0, h1, h2, q⟩
section
variable {X : Cx} {N : En} {a b : Expr} {ma mb : DTE} {pos : Pos}
theorem de_repL (ha : PE X a (up X.mg N ma)) (hb : PE X b (up X.mg N mb)) : PE X (.BinOp a .Mult b pos) (up X.mg N (dOp repLD ma mb)) := de_op op_repL d_repL ha hb
end
end DP
namespace L2
open PySem PySem.Spec PyProof.Rows
open Sem (wp)
open AutoSeq1 (wpAny_loadPart')
section
variable {prog : Program} {w : World} {A : Around} {E : Value → Shared → Prop} {s : Shared}
end
section
variable {prog : Program} {w : World} {A : Around} {E : Value → Shared → Prop} {s : Shared}
end
section
variable {X : Cx}
end
end L2
namespace DP
open PySem PySem.Spec PyProof.Rows L2
end DP
namespace DP
open PySem PySem.Spec PyProof.Rows L2
section
variable {es : List Expr} {env : Env} {p : Pos}
theorem sc_tup {l i} : starEach (.Tuple l i p :: es) env = (false, eval (.Tuple l i p) env) :: starEach es env := rfl
theorem sc_con {c i} : starEach (.Constant c i p :: es) env = (false, eval (.Constant c i p) env) :: starEach es env := rfl
theorem sw_lst {l x n} : swapsWith (.List l p) (some x) n env = pure false := rfl
end
end DP
namespace DP
open PySem PySem.Spec PyProof.Rows L2
section
variable {X : Cx} {k n : Nat}
end
end DP
namespace HT
open PySem PySem.Spec PyProof.Rows L2
section
variable {prog : Program} {w : World} {A : Around} {E : Value → Shared → Prop} {s : Shared}
end
end HT
namespace L2
open PySem PySem.Spec PyProof.Rows
section
variable {X : Cx} {e se : Expr} {te ts : TE} {p2 pos : Pos}
end
end L2
namespace DP
open PySem PySem.Spec PyProof.Rows L2
end DP
namespace L2
open PySem PySem.Spec PyProof.Rows
section
variable {X : Cx}
end
end L2
namespace DP
open PySem PySem.Spec PyProof.Rows L2
section
variable {X : Cx} {N : En} {a b : Expr} {pos : Pos} {ma mb : DTE}
end
end DP
namespace DP
open PySem PySem.Spec PyProof.Rows L2
section
variable {mg : Str → Option Value} {ι : Io} {n : Nat} {H : Hp}
end
section
variable {X : Cx} {N : En} {cl f : Str} {C : Addr} {e o value : Expr} {pos pos' : Pos} {m mo mv : DTE}
end
section
variable {X : Cx} {N : En} {k n : Nat} {cl mn : Str} {ps : List Str} {S : Ct} {RE : DX} {o e : Expr} {es : List Expr} {mo : DTE} {m : DTA} {p pos apos : Pos}
end
section
variable {X : Cx} {N : En} {o : Expr} {mo : DTE} {apos cpos : Pos} {f : DMt} {r : V → List V → Hp → VK → Prop} {name : Str} {id : String}
end
end DP
namespace L2
open PySem PySem.Spec PyProof.Rows
section
variable {X : Cx}
end
end L2
namespace DP
open PySem PySem.Spec PyProof.Rows L2
end DP
namespace L2
open PySem PySem.Spec PyProof.Rows
section
variable {X : Cx}
theorem call_strI : CallR X (.type "str") (fun xs H Q => ∃ i : Int, xs = [.int i] ∧ i.natAbs.log2 < 1920 ∧ Q (.str (Str.ofString (toString i))) H) := by
  intro pins s σ H xs us Q I r h
  obtain ⟨i, rfl, hl, q⟩ := h
  obtain ⟨u, rfl, t, rfl⟩ := vals1 r
  exact PySem.P.str_of_int hl ⟨.str (Str.ofString (toString i)), H, I.tok _, ⟨_, rfl⟩, q⟩
theorem call_intT : CallR X (.type "int") (fun xs H Q => ∃ (x : Str) (n : Int), xs = [.str x] ∧ PySem.intText? x = some n ∧ x.length ≤ 640 ∧ Q (.int n) H) := by
  intro pins s σ H xs us Q I r h
  obtain ⟨x, n, rfl, hn, hl, q⟩ := h
  obtain ⟨u, rfl, t, rfl⟩ := vals1 r
  exact PySem.W.KIN.call_text hn hl ⟨.int n, H, I.tok _, ⟨_, rfl⟩, q⟩
def rStarts : V → List V → Hp → VK → Prop := fun x vs H Q => ∃ a b : Str, x = .str a ∧ vs = [.str b] ∧ Q (.bl (Txt.startswith a b)) H
theorem mt_starts : MtM X "str.startswith" rStarts := by
  intro pins s σ H x vs v us Q I rx rv h
  obtain ⟨a, b, rfl, rfl, q⟩ := h
  obtain ⟨t, rfl⟩ := rx
  obtain ⟨u, rfl, t', rfl⟩ := rv.one
  exact SC.startswith ⟨.bl _, H, I, rfl, q⟩
end
end L2
namespace L2
open PySem PySem.Spec PyProof.Rows
abbrev TJ := St → Hp → Str → (Str → Hp → Prop) → Prop
def PJ (X : Cx) (es : List Expr) (t : TJ) : Prop := ∀ (pins : List (Addr × Obj)) (s : Shared) (σ : St) (H : Hp) (acc : Str) (Q : Str → Hp → Prop), Inv X pins σ H s → t σ H acc Q →
  Joins (model X.prog X.w) X.A X.xe (evalEach es X.env) acc (fun out s' => ∃ H', Inv X pins σ H' s' ∧ Q out H') s
def fmtV : V → Option Str
  | .str y => some y
  | .int i => if i.natAbs.log2 < 1920 then some (Str.ofString (toString i)) else none
  | _ => none
section
variable {X : Cx} {es : List Expr} {t : TJ} {te : TE} {e : Expr} {p pos : Pos}
theorem app_len (x y : Str) : (x ++ y).length = x.length + y.length := Array.size_append
theorem pj_nil : PJ X [] (fun σ H acc Q => Q acc H) := fun pins s σ H acc Q I h => ⟨H, I, h⟩
theorem pj_con {x : Str} {k : Nat} (h : PJ X es t) : PJ X (.Constant (.str x) k p :: es) (fun σ H acc Q => acc.length + x.length ≤ sizeLine ∧ t σ H (acc ++ x) Q) := fun pins s σ H acc Q I q => by
  show wpAny _ _ (eval (.Constant (.str x) k p) X.env) _ _ _
  exact Calls.Constant_str ⟨x, _, rfl, by rw [app_len]; exact q.1, h pins _ σ H (acc ++ x) Q (I.tok _) q.2⟩
theorem pj_val (he : PE X e te) (h : PJ X es t) : PJ X (.FormattedValue e (-1) none p :: es) (fun σ H acc Q => te σ H fun v H1 => ∃ y, fmtV v = some y ∧ y.length ≤ sizeLine ∧ acc.length + y.length ≤ sizeLine ∧ t σ H1 (acc ++ y) Q) := fun pins s σ H acc Q I q => by
  show wpAny _ _ (eval (.FormattedValue e (-1) none p) X.env) _ _ _
  refine wpAny_FormattedValue_plain (thn (he pins s σ H _ I q) fun u s1 ⟨v, H1, I1, rv, y, e1, hy, hl, q1⟩ => ?_)
  cases v with
  | str z =>
    cases (show some z = some y from e1)
    obtain ⟨tk, rfl⟩ := rv
    refine wpAny_formatField_str ?_ ?_ hy
    · exact ⟨_, tk, rfl, by rw [app_len]; exact hl, h pins _ σ H1 _ Q I1 q1⟩
    · exact ⟨_, _, rfl, by rw [app_len]; exact hl, h pins _ σ H1 _ Q (I1.tok _) q1⟩
  | int i =>
    obtain ⟨tk, rfl⟩ := rv
    unfold fmtV at e1
    simp only at e1
    split at e1
    · rename_i hi
      cases e1
      refine wpAny_formatField_int hi ?_
      exact ⟨_, _, rfl, by rw [app_len]; exact hl, h pins _ σ H1 _ Q ((I1.tok _).tok _) q1⟩
    · cases e1
  | _ => cases e1
theorem pe_join {v1 v2 : Expr} {rest : List Expr} (h : PJ X (v1 :: v2 :: rest) t) : PE X (.JoinedStr (v1 :: v2 :: rest) pos) (fun σ H Q => t σ H Str.empty fun out H' => out.length ≤ sizeLine ∧ Q (.str out) H') := fun pins s σ H Q I q => by
  refine wpAny_JoinedStr (joins_mono (h pins s σ H _ _ I q) ?_)
  rintro out s' ⟨H', I', hl, q'⟩
  exact ⟨hl, .str out, H', I'.tok _, ⟨_, rfl⟩, q'⟩
where
  joins_mono {M : Model} {A : Around} {E : Value → Shared → Prop} : ∀ {ps : List (Sem Value)} {acc : Str} {Q Q' : Str → Shared → Prop} {s : Shared}, Joins M A E ps acc Q s → (∀ o s', Q o s' → Q' o s') → Joins M A E ps acc Q' s
    | [], acc, Q, Q', s, h, k => k _ _ h
    | x :: ps, acc, Q, Q', s, h, k => wpAny_mono h (fun v s1 ⟨y, t, e, hl, r⟩ => ⟨y, t, e, hl, joins_mono r k⟩) fun _ _ z => z
end
end L2
namespace DP
open PySem PySem.Spec PyProof.Rows L2
def strID : DCb := fun vs A R => match vs with
  | [.int i] => i.natAbs.log2 < 1920 ∧ R (.str (Str.ofString (toString i))) A
  | _ => False
theorem d_strI {mg : Str → Option Value} : CbD mg (fun xs H Q => ∃ i : Int, xs = [.int i] ∧ i.natAbs.log2 < 1920 ∧ Q (.str (Str.ofString (toString i))) H) strID := by
  intro ds A ι H us R Q ra rs h k
  unfold strID at h
  split at h
  · obtain ⟨_, _, rfl, rfl, rfl⟩ := rs
    exact ⟨_, rfl, h.1, k.here ra h.2 rfl⟩
  · exact h.elim
def intTD : DCb := fun vs A R => match vs with
  | [.str x] => ∃ n, PySem.intText? x = some n ∧ x.length ≤ 640 ∧ R (.int n) A
  | _ => False
theorem d_intT {mg : Str → Option Value} : CbD mg (fun xs H Q => ∃ (x : Str) (n : Int), xs = [.str x] ∧ PySem.intText? x = some n ∧ x.length ≤ 640 ∧ Q (.int n) H) intTD := by
  intro ds A ι H us R Q ra rs h k
  unfold intTD at h
  split at h
  · obtain ⟨_, _, rfl, rfl, rfl⟩ := rs
    obtain ⟨n, h1, h2, h3⟩ := h
    exact ⟨_, n, rfl, h1, h2, k.here ra h3 rfl⟩
  · exact h.elim
def dMtS (f : DMt) (mo : DTE) (m : DTA) : DTE := fun τ A R => mo τ A fun x A1 => match x with
  | .str z => m τ A1 fun vs A2 => f (.str z) vs A2 R
  | _ => False
section
variable {X : Cx} {N : En} {e o : Expr} {es : List Expr} {mo : DTE} {m : DTA} {apos cpos : Pos} {f : DMt} {r : V → List V → Hp → VK → Prop} {name : Str} {id : String}
theorem de_mtS (pa : PlainAttrs "str") (slot : Slot "str" name id) (hty : typeOf (.builtin id) = pure (.type "method_descriptor")) (hm : MtR X id r) (hd : MtD X.mg X.K "str" r f) (ho : PE X o (up X.mg N mo)) (ha : PA X (e :: es) (upA X.mg N m))
    (hbase : attributeBase o name X.env (eval o X.env) = eval o X.env := by rfl)
    (hfew : ((backTo cpos (starEach (e :: es) X.env)).all (fun x => !x.1) && (backToKw cpos (keywordEach [] X.env)).all (fun x => x.1.isSome)
      && decide ((e :: es).length + ([] : List Keyword).length + (if ([] : List Keyword).isEmpty then 0 else 1) < 30)) = true := by rfl)
    (hline : (apos.endLine == cpos.line) = true := by rfl) (hs : starEach (e :: es) X.env = (false, eval e X.env) :: starEach es X.env := by rfl) (hplain : (backTo cpos (starEach es X.env)).any (·.1) = false := by rfl) :
    PE X (.Call (.Attribute o name apos) (e :: es) [] cpos) (up X.mg N (dMtS f mo m)) := de_w (pe_bm pa slot hty hm ho ha hbase hfew hline hs hplain) fun σ H Q q => by
  obtain ⟨A, ι, τ, R, S, q, k⟩ := q
  refine ⟨A, ι, τ, _, S, q, fun x A1 ι1 H1 u q1 e1 r1 v1 => ?_⟩
  cases x with
  | str z =>
    cases v1
    refine ⟨rfl, A1, ι1, τ, _, S.next e1 r1, q1, fun ys A2 ι2 H2 us q2 e2 r2 v2 => ?_⟩
    exact hd (.str z) ys A2 ι2 H2 _ us R Q r2 rfl v2 q2 (k.from (e1.trans e2))
  | _ => exact q1.elim
end
def startsD : DMt := fun x vs A R => match x, vs with
  | .str a, [.str b] => R (.bl (Txt.startswith a b)) A
  | _, _ => False
theorem d_starts {mg : Str → Option Value} {K : PySem.W.Frag} : MtD mg K "str" rStarts startsD := by
  intro x ds A ι H u us R Q ra rx rs h k
  unfold startsD at h
  split at h
  · cases rx
    obtain ⟨_, _, rfl, rfl, rfl⟩ := rs
    exact ⟨_, _, rfl, rfl, k.here ra h rfl⟩
  · exact h.elim
abbrev DTJ := DSt → Ar → Str → (Str → Ar → Prop) → Prop
def upJ (mg : Str → Option Value) (N : En) (m : DTJ) : TJ := fun σ H acc Q => ∃ A ι τ R, Sim mg N A ι τ σ H ∧ m τ A acc R ∧ ∀ out A' ι' H', R out A' → Ext A ι H A' ι' H' → RA mg ι' H' A' → Q out H'
def fmtD : D → Option Str
  | .str y => some y
  | .int i => if i.natAbs.log2 < 1920 then some (Str.ofString (toString i)) else none
  | _ => none
def dJn : DTJ := fun _ A acc R => R acc A
def dJc (x : Str) (m : DTJ) : DTJ := fun τ A acc R => acc.length + x.length ≤ sizeLine ∧ m τ A (acc ++ x) R
def dJv (me : DTE) (m : DTJ) : DTJ := fun τ A acc R => me τ A fun v A1 => match fmtD v with
  | some y => y.length ≤ sizeLine ∧ acc.length + y.length ≤ sizeLine ∧ m τ A1 (acc ++ y) R
  | none => False
def dJoin (m : DTJ) : DTE := fun τ A R => m τ A Str.empty fun out A1 => out.length ≤ sizeLine ∧ R (.str out) A1
section
variable {X : Cx} {N : En} {es : List Expr} {m : DTJ} {me : DTE} {e : Expr} {p pos : Pos}
theorem PJ.w {t t' : TJ} (h : PJ X es t) (w : ∀ σ H acc Q, t' σ H acc Q → t σ H acc Q) : PJ X es t' := fun pins s σ H acc Q I q => h pins s σ H acc Q I (w σ H acc Q q)
theorem dj_nil : PJ X [] (upJ X.mg N dJn) := PJ.w pj_nil fun σ H acc Q q => by
  obtain ⟨A, ι, τ, R, S, q, k⟩ := q
  exact k acc A ι H q S.ra.refl S.ra
theorem dj_con {x : Str} {k : Nat} (h : PJ X es (upJ X.mg N m)) : PJ X (.Constant (.str x) k p :: es) (upJ X.mg N (dJc x m)) := PJ.w (pj_con h) fun σ H acc Q q => by
  obtain ⟨A, ι, τ, R, S, q, k⟩ := q
  exact ⟨q.1, A, ι, τ, R, S, q.2, k⟩
theorem dj_val (he : PE X e (up X.mg N me)) (h : PJ X es (upJ X.mg N m)) : PJ X (.FormattedValue e (-1) none p :: es) (upJ X.mg N (dJv me m)) := PJ.w (pj_val he h) fun σ H acc Q q => by
  obtain ⟨A, ι, τ, R, S, q, k⟩ := q
  refine ⟨A, ι, τ, _, S, q, fun v A1 ι1 H1 u q1 e1 r1 v1 => ?_⟩
  have ev : fmtV u = fmtD v ∨ fmtD v = none := by
    cases v with
    | str y => cases v1; exact .inl rfl
    | int i => cases v1; exact .inl rfl
    | _ => exact .inr rfl
  rcases ev with ev | ev
  · cases ef : fmtD v with
    | none =>
      have q1 : (match fmtD v with | some y => y.length ≤ sizeLine ∧ acc.length + y.length ≤ sizeLine ∧ m τ A1 (acc ++ y) R | none => False) := q1
      rw [ef] at q1
      exact q1.elim
    | some y =>
      have q1 : (match fmtD v with | some y => y.length ≤ sizeLine ∧ acc.length + y.length ≤ sizeLine ∧ m τ A1 (acc ++ y) R | none => False) := q1
      rw [ef] at q1
      exact ⟨y, ev.trans ef, q1.1, q1.2.1, A1, ι1, τ, R, S.next e1 r1, q1.2.2, fun out A2 ι2 H2 q2 e2 r2 => k out A2 ι2 H2 q2 (e1.trans e2) r2⟩
  · have q1 : (match fmtD v with | some y => y.length ≤ sizeLine ∧ acc.length + y.length ≤ sizeLine ∧ m τ A1 (acc ++ y) R | none => False) := q1
    rw [ev] at q1
    exact q1.elim
theorem de_join {v1 v2 : Expr} {rest : List Expr} (h : PJ X (v1 :: v2 :: rest) (upJ X.mg N m)) : PE X (.JoinedStr (v1 :: v2 :: rest) pos) (up X.mg N (dJoin m)) := de_w (pe_join h) fun σ H Q q => by
  obtain ⟨A, ι, τ, R, S, q, k⟩ := q
  refine ⟨A, ι, τ, _, S, q, fun out A1 ι1 H1 q1 e1 r1 => ⟨q1.1, (k.from e1).here r1 q1.2 rfl⟩⟩
def sAug (i : Nat) (m : DTE) : DTS := fun R τ A => match lk τ i with
  | some (.int a) => m τ A fun y A1 => match y with
    | .int b => R.nx (τ.set i (some (.int (a + b)))) A1
    | _ => False
  | _ => False
theorem ds_aug {i : Nat} {x : Str} {pos' : Pos} (hN : X.N.Nodup) (hi : X.N[i]? = some x) (hx : Loc X.env.scope x) (he : PE X e (up X.mg N me)) (hf : X.fn x = true ∨ X.env.scope.names.lookup x = some .local := by first | exact .inl rfl | exact .inr rfl | assumption) :
    PS X (.AugAssign (.Name x pos') .Add e pos) (upS X.mg N (sAug i me)) := ds_w (ps_aug hN hi hx he ip_add hf) fun Q σ H q => by
  obtain ⟨A, ι, τ, R, S, q, k⟩ := q
  unfold sAug at q
  cases el : lk τ i with
  | none => rw [el] at q; exact q.elim
  | some d =>
    rw [el] at q
    cases d with
    | int a =>
      obtain ⟨v, h1, h2⟩ := S.rs.at' i _ el
      cases h2
      refine ⟨.int a, h1, A, ι, τ, _, S, q, fun y A1 ι1 H1 u q1 e1 r1 v1 => ?_⟩
      cases y with
      | int b =>
        cases v1
        exact ⟨a, b, rfl, rfl, (k.nx.from e1).here ((S.next e1 r1).set (d := .int (a + b)) (v := .int (a + b)) rfl) q1⟩
      | _ => exact q1.elim
    | _ => exact q.elim
end
end DP
namespace L2
open PySem PySem.Spec PyProof.Rows
section
variable {X : Cx}
theorem op_inS : OpR X (compareOp .In) (fun x y H Q => ∃ a b : Str, x = .str a ∧ y = .str b ∧ Q (.bl (Txt.contains b a)) H) := by
  intro pins s σ H x y v u Q I rx ry h
  obtain ⟨a, b, rfl, rfl, q⟩ := h
  obtain ⟨t, rfl⟩ := rx
  obtain ⟨t', rfl⟩ := ry
  exact PySem.P.in_str ⟨.bl _, H, I, rfl, q⟩
end
end L2
namespace L2
open PySem PySem.Spec PyProof.Rows
section
variable {X : Cx}
end
end L2
namespace DP
open PySem PySem.Spec PyProof.Rows L2
def inSD : DOp := fun x y A R => match x, y with
  | .str a, .str b => R (.bl (Txt.contains b a)) A
  | _, _ => False
theorem d_inS {mg : Str → Option Value} : OpD mg (fun x y H Q => ∃ a b : Str, x = .str a ∧ y = .str b ∧ Q (.bl (Txt.contains b a)) H) inSD := by
  intro x y A ι H u v R Q ra rx ry h k
  unfold inSD at h
  split at h
  · cases rx; cases ry
    exact ⟨_, _, rfl, rfl, k.here ra h rfl⟩
  · exact h.elim
section
variable {X : Cx} {N : En} {a b : Expr} {pos : Pos} {ma mb : DTE}
theorem e_inS (ha : PE X a (up X.mg N ma)) (hb : PE X b (up X.mg N mb)) (hm : behindInMarks .In b = false := by rfl) : PE X (.Compare a [.In] [b] pos) (up X.mg N (dOp inSD ma mb)) := de_cmp op_inS d_inS ha hb hm
theorem de_gstr {x : Str} {v : Str} {t : Tok} (hm : X.mg x = some (.str v t)) (hg : Gl X x := by rfl) (hd : (x == ("__debug__" : Str)) = false := by decide) : PE X (.Name x pos) (up X.mg N (dC (.str v))) :=
  de_const (pe_glob (v := .str v) hg hm ⟨_, rfl⟩ hd) fun _ _ _ => rfl
end
end DP
namespace L2
open PySem PySem.Spec PyProof.Rows
section
variable {X : Cx}
end
end L2
namespace DP
open PySem PySem.Spec PyProof.Rows L2
end DP
namespace L2
open PySem PySem.Spec PyProof.Rows
section
variable {X : Cx}
theorem op_ninS : OpR X (compareOp .NotIn) (fun x y H Q => ∃ a b : Str, x = .str a ∧ y = .str b ∧ Q (.bl (!Txt.contains b a)) H) := by
  intro pins s σ H x y v u Q I rx ry h
  obtain ⟨a, b, rfl, rfl, q⟩ := h
  obtain ⟨t, rfl⟩ := rx
  obtain ⟨t', rfl⟩ := ry
  exact PySem.P.notIn_str ⟨.bl _, H, I, rfl, q⟩
end
end L2
namespace DP
open PySem PySem.Spec PyProof.Rows L2
def ninSD : DOp := fun x y A R => match x, y with
  | .str a, .str b => R (.bl (!Txt.contains b a)) A
  | _, _ => False
theorem d_ninS {mg : Str → Option Value} : OpD mg (fun x y H Q => ∃ a b : Str, x = .str a ∧ y = .str b ∧ Q (.bl (!Txt.contains b a)) H) ninSD := by
  intro x y A ι H u v R Q ra rx ry h k
  unfold ninSD at h
  split at h
  · cases rx; cases ry
    exact ⟨_, _, rfl, rfl, k.here ra h rfl⟩
  · exact h.elim
section
variable {X : Cx} {N : En} {a b : Expr} {pos : Pos} {ma mb : DTE}
theorem t_ninS (ha : PE X a (up X.mg N ma)) (hb : PE X b (up X.mg N mb)) (hm : behindInMarks .NotIn b = false := by rfl) : PT X (.Compare a [.NotIn] [b] pos) (upT X.mg N (dTest (dOp ninSD ma mb))) := dt_cmp op_ninS d_ninS ha hb hm
end
end DP
namespace L2
open PySem PySem.Spec PyProof.Rows
section
variable {X : Cx} {es : List Expr} {t : TJ} {te : TE} {e : Expr} {p pos : Pos}
theorem pj_rep (he : PE X e te) (h : PJ X es t) : PJ X (.FormattedValue e 114 none p :: es) (fun σ H acc Q => te σ H fun v H1 => ∃ z : Str, v = .str z ∧ (reprText z).length ≤ sizeLine ∧ acc.length + (reprText z).length ≤ sizeLine ∧ t σ H1 (acc ++ reprText z) Q) := fun pins s σ H acc Q I q => by
  show wpAny _ _ (eval (.FormattedValue e 114 none p) X.env) _ _ _
  refine wpAny_FormattedValue_repr (thn (he pins s σ H _ I q) fun u s1 ⟨v, H1, I1, rv, z, e1, hy, hl, q1⟩ => ?_)
  subst e1
  obtain ⟨tk, rfl⟩ := rv
  refine wpAny_pyReprObj_str ?_ hy
  refine wpAny_formatField_str ?_ ?_ hy
  · exact ⟨_, _, rfl, by rw [app_len]; exact hl, h pins _ σ H1 _ Q (I1.tok _) q1⟩
  · exact ⟨_, _, rfl, by rw [app_len]; exact hl, h pins _ σ H1 _ Q ((I1.tok _).tok _) q1⟩
end
end L2
namespace DP
open PySem PySem.Spec PyProof.Rows L2
def dJr (me : DTE) (m : DTJ) : DTJ := fun τ A acc R => me τ A fun v A1 => match v with
  | .str z => (reprText z).length ≤ sizeLine ∧ acc.length + (reprText z).length ≤ sizeLine ∧ m τ A1 (acc ++ reprText z) R
  | _ => False
theorem dj_rep {X : Cx} {N : En} {es : List Expr} {m : DTJ} {me : DTE} {e : Expr} {p : Pos} (he : PE X e (up X.mg N me)) (h : PJ X es (upJ X.mg N m)) : PJ X (.FormattedValue e 114 none p :: es) (upJ X.mg N (dJr me m)) := PJ.w (pj_rep he h) fun σ H acc Q q => by
  obtain ⟨A, ι, τ, R, S, q, k⟩ := q
  refine ⟨A, ι, τ, _, S, q, fun v A1 ι1 H1 u q1 e1 r1 v1 => ?_⟩
  cases v with
  | str z =>
    cases v1
    exact ⟨z, rfl, q1.1, q1.2.1, A1, ι1, τ, R, S.next e1 r1, q1.2.2, fun out A2 ι2 H2 q2 e2 r2 => k out A2 ι2 H2 q2 (e1.trans e2) r2⟩
  | _ => exact q1.elim
end DP
namespace DP
open PySem PySem.Spec PyProof.Rows L2
end DP
namespace My
open PySem PySem.Spec PyProof.Rows L2 DP
def top (i : Nat) : Stmt := PySem.Challenge.pw_hangstill_k29_whole_no_other_texts.main.body.getD i (.Pass ⟨0, 0, 0, 0⟩)
abbrev s_is_number : Stmt := top 16
abbrev p_is_number : List Str := ["thing", "first", "last"]
theorem sc_is_number : FnScope ["thing", "first", "last"] p_is_number (defScope s_is_number) := ⟨rfl, rfl, rfl, by decide +kernel, rfl, by decide +kernel, by decide +kernel⟩
abbrev s_is_name : Stmt := top 17
abbrev p_is_name : List Str := ["thing"]
theorem sc_is_name : FnScope ["thing"] p_is_name (defScope s_is_name) := ⟨rfl, rfl, rfl, by decide +kernel, rfl, by decide +kernel, by decide +kernel⟩
abbrev s_is_mobile_within : Stmt := top 18
abbrev p_is_mobile_within : List Str := ["thing", "rods"]
theorem sc_is_mobile_within : FnScope ["thing", "rods"] p_is_mobile_within (defScope s_is_mobile_within) := ⟨rfl, rfl, rfl, by decide +kernel, rfl, by decide +kernel, by decide +kernel⟩
abbrev s_is_mobile : Stmt := top 19
abbrev p_is_mobile : List Str := ["thing"]
theorem sc_is_mobile : FnScope ["thing"] p_is_mobile (defScope s_is_mobile) := ⟨rfl, rfl, rfl, by decide +kernel, rfl, by decide +kernel, by decide +kernel⟩
abbrev s_check_mobile : Stmt := top 20
abbrev p_check_mobile : List Str := ["thing"]
theorem sc_check_mobile : FnScope ["thing"] p_check_mobile (defScope s_check_mobile) := ⟨rfl, rfl, rfl, by decide +kernel, rfl, by decide +kernel, by decide +kernel⟩
abbrev s_check_text : Stmt := top 23
abbrev p_check_text : List Str := ["thing"]
theorem sc_check_text : FnScope ["thing"] p_check_text (defScope s_check_text) := ⟨rfl, rfl, rfl, by decide +kernel, rfl, by decide +kernel, by decide +kernel⟩
abbrev s_whole_number : Stmt := top 24
abbrev p_whole_number : List Str := ["text", "last"]
theorem sc_whole_number : FnScope ["text", "last"] p_whole_number (defScope s_whole_number) := ⟨rfl, rfl, rfl, by decide +kernel, rfl, by decide +kernel, by decide +kernel⟩
abbrev s_behind : Stmt := top 25
abbrev p_behind : List Str := ["text", "sign"]
theorem sc_behind : FnScope ["text", "sign"] p_behind (defScope s_behind) := ⟨rfl, rfl, rfl, by decide +kernel, rfl, by decide +kernel, by decide +kernel⟩
abbrev s_weight_ahead : Stmt := top 26
abbrev p_weight_ahead : List Str := ["text"]
theorem sc_weight_ahead : FnScope ["text", "end"] p_weight_ahead (defScope s_weight_ahead) := ⟨rfl, rfl, rfl, by decide +kernel, rfl, by decide +kernel, by decide +kernel⟩
abbrev s_mobile_ahead : Stmt := top 27
abbrev p_mobile_ahead : List Str := ["text", "rods"]
theorem sc_mobile_ahead : FnScope ["text", "rods", "left", "right", "one", "other"] p_mobile_ahead (defScope s_mobile_ahead) := ⟨rfl, rfl, rfl, by decide +kernel, rfl, by decide +kernel, by decide +kernel⟩
abbrev s_written_below : Stmt := top 28
abbrev p_written_below : List Str := ["mobile"]
theorem sc_written_below : FnScope ["mobile", "left", "right", "one", "other"] p_written_below (defScope s_written_below) := ⟨rfl, rfl, rfl, by decide +kernel, rfl, by decide +kernel, by decide +kernel⟩
abbrev s_written : Stmt := top 29
abbrev p_written : List Str := ["mobile"]
theorem sc_written : FnScope ["mobile"] p_written (defScope s_written) := ⟨rfl, rfl, rfl, by decide +kernel, rfl, by decide +kernel, by decide +kernel⟩
abbrev s_read : Stmt := top 30
abbrev p_read : List Str := ["text"]
theorem sc_read : FnScope ["text", "told"] p_read (defScope s_read) := ⟨rfl, rfl, rfl, by decide +kernel, rfl, by decide +kernel, by decide +kernel⟩
abbrev s__law_cell_at : Stmt := top 32
abbrev p__law_cell_at : List Str := ["_law_script", "_law_k"]
theorem sc__law_cell_at : FnScope ["_law_script", "_law_k"] p__law_cell_at (defScope s__law_cell_at) := ⟨rfl, rfl, rfl, by decide +kernel, rfl, by decide +kernel, by decide +kernel⟩
abbrev s__law_mixed : Stmt := top 33
abbrev p__law_mixed : List Str := ["_law_script", "_law_k", "_law_many"]
theorem sc__law_mixed : FnScope ["_law_script", "_law_k", "_law_many", "_law_drawn"] p__law_mixed (defScope s__law_mixed) := ⟨rfl, rfl, rfl, by decide +kernel, rfl, by decide +kernel, by decide +kernel⟩
abbrev s__law_draw : Stmt := top 34
abbrev p__law_draw : List Str := ["_law_script", "_law_town", "_law_many"]
theorem sc__law_draw : FnScope ["_law_script", "_law_town", "_law_many"] p__law_draw (defScope s__law_draw) := ⟨rfl, rfl, rfl, by decide +kernel, rfl, by decide +kernel, by decide +kernel⟩
abbrev s__law_pick : Stmt := top 35
abbrev p__law_pick : List Str := ["_law_script", "_law_town", "_law_some_here"]
theorem sc__law_pick : FnScope ["_law_script", "_law_town", "_law_some_here"] p__law_pick (defScope s__law_pick) := ⟨rfl, rfl, rfl, by decide +kernel, rfl, by decide +kernel, by decide +kernel⟩
abbrev s__law_mobile : Stmt := top 36
abbrev p__law_mobile : List Str := ["_law_script", "_law_town", "_law_names", "_law_deep"]
theorem sc__law_mobile : FnScope ["_law_script", "_law_town", "_law_names", "_law_deep", "_law_most", "_law_left", "_law_right", "_law_one"] p__law_mobile (defScope s__law_mobile) := ⟨rfl, rfl, rfl, by decide +kernel, rfl, by decide +kernel, by decide +kernel⟩
abbrev s__law_fresh : Stmt := top 37
abbrev p__law_fresh : List Str := ["_law_part", "_law_row"]
theorem sc__law_fresh : FnScope ["_law_part", "_law_row", "_law_one"] p__law_fresh (defScope s__law_fresh) := ⟨rfl, rfl, rfl, by decide +kernel, rfl, by decide +kernel, by decide +kernel⟩
abbrev s__law_some : Stmt := top 38
abbrev p__law_some : List Str := ["_law_script", "_law_town", "_law_deep"]
theorem sc__law_some : FnScope ["_law_script", "_law_town", "_law_deep", "_law_part"] p__law_some (defScope s__law_some) := ⟨rfl, rfl, rfl, by decide +kernel, rfl, by decide +kernel, by decide +kernel⟩
abbrev s__law_which : Stmt := top 39
abbrev p__law_which : List Str := ["_law_e"]
theorem sc__law_which : FnScope ["_law_e", "_law_own"] p__law_which (defScope s__law_which) := ⟨rfl, rfl, rfl, by decide +kernel, rfl, by decide +kernel, by decide +kernel⟩
abbrev s__law_ask : Stmt := top 40
abbrev p__law_ask : List Str := ["_law_thing"]
theorem sc__law_ask : FnScope ["_law_thing", "_law_e"] p__law_ask (defScope s__law_ask) := ⟨rfl, rfl, rfl, by decide +kernel, rfl, by decide +kernel, by decide +kernel⟩
abbrev s__law_parts : Stmt := top 41
abbrev p__law_parts : List Str := ["_law_text"]
theorem sc__law_parts : FnScope ["_law_text", "_law_deep", "_law_cuts", "_law_at"] p__law_parts (defScope s__law_parts) := ⟨rfl, rfl, rfl, by decide +kernel, rfl, by decide +kernel, by decide +kernel⟩
abbrev s__law_read : Stmt := top 42
abbrev p__law_read : List Str := ["_law_text", "_law_deep"]
theorem sc__law_read : FnScope ["_law_text", "_law_deep", "_law_both", "_law_one", "_law_other"] p__law_read (defScope s__law_read) := ⟨rfl, rfl, rfl, by decide +kernel, rfl, by decide +kernel, by decide +kernel⟩
abbrev s_law : Stmt := top 43
abbrev p_law : List Str := ["_law_script"]
theorem sc_law : FnScope ["_law_script", "_law_town", "_law_often", "_law_text", "_law_k", "_law_at", "_law_sign_in", "_law_odd", "_law_due"] p_law (defScope s_law) := ⟨rfl, rfl, rfl, by decide +kernel, rfl, by decide +kernel, by decide +kernel⟩
end My
namespace My
open PySem PySem.Spec PyProof.Rows L2 DP MA
section
variable {P : Program} {w : World} {K : PySem.W.Frag} {mg : Str → Option Value} {base : Heap}
theorem one_lt {c d : Nat} : ([c] : List Nat) < [d] ↔ c < d := by simp [List.cons_lt_cons_iff]
theorem sg_a : ("a" : Str).cps.toList = [97] := by decide +kernel
theorem sg_z : ("z" : Str).cps.toList = [122] := by decide +kernel
end
end My
namespace DP
open PySem PySem.Spec PyProof.Rows L2 MA
mutual
def okA (A : Ar) : D → Bool
  | .tup xs => okAs A xs
  | .exc _ => false
  | .str z => decide (z.length ≤ sizeLine)
  | .ref r => match A[r]? with
    | some (.lst _) => true
    | some (.dct _) => true
    | _ => false
  | _ => true
def okAs (A : Ar) : List D → Bool
  | [] => true
  | x :: xs => okA A x && okAs A xs
end
def isNu (x : D) (a b : Int) : Bool := match x with
  | .int i => decide (a ≤ i) && decide (i ≤ b)
  | _ => false
def azB : D → Bool
  | .str z => !decide (z.cps.toList < ("a" : Str).cps.toList) && !decide (("z" : Str).cps.toList < z.cps.toList)
  | _ => false
def isNa : D → Bool
  | .str n => decide ((1 : Int) ≤ (n.length : Nat)) && decide (((n.length : Nat) : Int) ≤ 3) && (sgs n).all azB
  | _ => false
def isMob : Nat → D → Bool
  | _, .tup [.str k, n] => decide (k = "weight") && isNa n
  | d + 1, .tup [.str k, l, r, a, b] => decide (k = "rod") && isNu l 1 9 && isNu r 1 9 && isMob d a && isMob d b
  | _, _ => false
def SNumA : Ct := fun ds A R _ => ∃ x a b, ds = [x, .int a, .int b] ∧ okA A x = true ∧ ∀ A', Gr A A' → R (.bl (isNu x a b)) A'
def SNameA : Ct := fun ds A R _ => ∃ x, ds = [x] ∧ okA A x = true ∧ ∀ A', Gr A A' → R (.bl (isNa x)) A'
def SImA (d : Nat) : Ct := fun ds A R _ => ∃ x, ds = [x, .int ((d : Int) - 1)] ∧ 0 < d ∧ okA A x = true ∧ ∀ A', Gr A A' → R (.bl (isMob (d - 1) x)) A'
def SMbA : Ct := fun ds A R _ => ∃ x, ds = [x] ∧ okA A x = true ∧ ∀ A', Gr A A' → R (.bl (isMob 5 x)) A'
def SChkA : Ct := fun ds A R E => ∃ x, ds = [x] ∧ okA A x = true ∧ ∀ A', Gr A A' → if isMob 5 x = true then R .non A' else E "NoMobile" A'
mutual
theorem okA_gr {A A' : Ar} (g : Gr A A') : ∀ x, okA A x = true → okA A' x = true
  | .tup xs, h => by
    have h : okAs A xs = true := h
    exact okAs_gr g xs h
  | .non, h => rfl
  | .bl _, h => rfl
  | .int _, h => rfl
  | .str _, h => h
  | .fl _, h => rfl
  | .exc _, h => by cases h
  | .ref r, h => by
    unfold okA at h ⊢
    cases e : A[r]? with
    | none => rw [e] at h; cases h
    | some c => rw [e] at h; rw [g.get e]; exact h
theorem okAs_gr {A A' : Ar} (g : Gr A A') : ∀ xs, okAs A xs = true → okAs A' xs = true
  | [], h => rfl
  | x :: xs, h => by
    have h : (okA A x && okAs A xs) = true := h
    rw [Bool.and_eq_true] at h
    show (okA A' x && okAs A' xs) = true
    rw [Bool.and_eq_true]
    exact ⟨okA_gr g x h.1, okAs_gr g xs h.2⟩
end
theorem at_zero {α : Type} (y : α) (ys : List α) : atI (y :: ys) 0 = some y := atI_nat (j := 0) rfl
theorem isMob_no {d : Nat} {k : Str} {ys : List D} (h1 : ∀ n, ys = [n] → ¬ k = "weight") (h2 : ∀ l r a b, ys = [l, r, a, b] → ¬ k = "rod") : isMob d (.tup (.str k :: ys)) = false := by
  match ys with
  | [] => cases d <;> rfl
  | [n] =>
    have e : isMob d (.tup [.str k, n]) = (decide (k = "weight") && isNa n) := by cases d <;> rfl
    rw [e, decide_eq_false (h1 n rfl)]
    rfl
  | [_, _] => cases d <;> rfl
  | [_, _, _] => cases d <;> rfl
  | [l, r, a, b] =>
    cases d with
    | zero => rfl
    | succ d =>
      show (decide (k = "rod") && isNu l 1 9 && isNu r 1 9 && isMob d a && isMob d b) = false
      rw [decide_eq_false (h2 l r a b rfl)]
      rfl
  | _ :: _ :: _ :: _ :: _ :: _ => cases d <;> rfl
theorem isMob_no2 {d : Nat} {k : Str} {ys : List D} (h1 : ¬ k = "weight") (h2 : ¬ k = "rod") : isMob d (.tup (.str k :: ys)) = false := isMob_no (fun _ _ => h1) fun _ _ _ _ _ => h2
theorem okA_ref {A : Ar} {r : Nat} (h : okA A (.ref r) = true) : tyD A (.ref r) = some "list" ∨ tyD A (.ref r) = some "dict" := by
  unfold okA at h
  cases e : A[r]? with
  | none => rw [e] at h; cases h
  | some c =>
    rw [e] at h
    cases c with
    | lst xs => exact .inl (by unfold tyD; simp only [e])
    | dct kvs => exact .inr (by unfold tyD; simp only [e])
    | fdc o kvs => cases h
    | ins cl fs => cases h
theorem isNa_nm {n : Str} (h : Nm n) : isNa (.str n) = true := by
  have h1 := h.lo
  have h3 := h.hi
  unfold isNa
  rw [Bool.and_eq_true, Bool.and_eq_true, decide_eq_true_eq, decide_eq_true_eq]
  refine ⟨⟨by omega, by omega⟩, List.all_eq_true.mpr fun x hx => ?_⟩
  obtain ⟨c, hc, rfl⟩ := List.mem_map.mp hx
  obtain ⟨c1, c2⟩ := h.az c hc
  have e1 : ¬ ((⟨#[c]⟩ : Str).cps.toList < ("a" : Str).cps.toList) := by
    rw [My.sg_a]; intro h; have := My.one_lt.mp h; omega
  have e2 : ¬ (("z" : Str).cps.toList < (⟨#[c]⟩ : Str).cps.toList) := by
    rw [My.sg_z]; intro h; have := My.one_lt.mp h; omega
  show (!decide ((⟨#[c]⟩ : Str).cps.toList < ("a" : Str).cps.toList) && !decide (("z" : Str).cps.toList < (⟨#[c]⟩ : Str).cps.toList)) = true
  rw [decide_eq_false e1, decide_eq_false e2]
  rfl
theorem okA_nm {A : Ar} {n : Str} (h : Nm n) : okA A (.str n) = true := decide_eq_true (Nat.le_trans h.hi (by decide))
theorem okA_enc {A : Ar} : ∀ {m : M}, (∀ n ∈ m.names, Nm n) → okA A (enc m) = true
  | .wt n, h => by
    have hn := okA_nm (A := A) (h n (by simp [Mob.names]))
    have e : okA A (.str "weight") = true := show decide (("weight" : Str).length ≤ sizeLine) = true by decide +kernel
    show (okA A (.str "weight") && (okA A (.str n) && true)) = true
    rw [hn, e]
    rfl
  | .rod l r a b, h => by
    have ha := okA_enc (A := A) (m := a) fun n hn => h n (by simp [Mob.names, hn])
    have hb := okA_enc (A := A) (m := b) fun n hn => h n (by simp [Mob.names, hn])
    have e : okA A (.str "rod") = true := show decide (("rod" : Str).length ≤ sizeLine) = true by decide +kernel
    show (okA A (.str "rod") && (true && (true && (okA A (enc a) && (okA A (enc b) && true))))) = true
    rw [ha, hb, e]
    rfl
theorem isMob_enc : ∀ {m : M} {d : Nat}, Wf m → m.deep ≤ d → isMob d (enc m) = true
  | .wt n, d, hw, _ => by
    have e := isNa_nm (hw.nm n (by simp [Mob.names]))
    cases d <;> (show (decide (("weight" : Str) = "weight") && isNa (.str n)) = true; rw [e]; decide +kernel)
  | .rod l r a b, d, hw, hd => by
    have hd : max a.deep b.deep + 1 ≤ d := hd
    cases d with
    | zero => omega
    | succ d =>
      obtain ⟨h1, h2, h3, h4, h5, h6⟩ := hw.arms
      show (decide (("rod" : Str) = "rod") && isNu (.int l) 1 9 && isNu (.int r) 1 9 && isMob d (enc a) && isMob d (enc b)) = true
      rw [isMob_enc hw.left (by omega), isMob_enc hw.right (by omega)]
      simp [isNu, h1, h2, h3, h4]
end DP
namespace My
open PySem PySem.Spec PyProof.Rows L2 DP MA
section
variable {P : Program} {w : World} {K : PySem.W.Frag} {mg : Str → Option Value} {base : Heap}
theorem fA_num (T : TopD K mg "is_number" s_is_number p_is_number) (b_isinstance : mg "isinstance" = none) (b_bool : mg "bool" = none) (b_int : mg "int" = none) : FnX P w K mg base 1 "is_number" p_is_number (spOf mg 3 SNumA) := by
  refine fnD T sc_is_number rfl (by decide) fun N RE f cdv B outer s H E hr hR hx ds A R h hl => ?_
  have hu := hr.units
  refine ⟨_, (dss_cons (ds_if (PW.pt (dw_or (dt_val (de_is kit_bool b_isinstance b_bool boot_bool (vr 0))) (dw_or1 (dt_not (dt_val (de_is kit_int b_isinstance b_int boot_int (vr 0))))))) (dss_one (ds_ret de_bl)) dss_nil)
    (dss_one (ds_ret (e_lele (vr 1) (vr 0) (vr 2))))), ?_⟩
  obtain ⟨x, a, b, rfl, hk, q⟩ := h
  cases x with
  | int i =>
    have q : ∀ A', Gr A A' → R (.bl (decide (a ≤ i) && decide (i ≤ b))) A' := q
    refine cD (fun c => ?_) (fun c => ?_)
    · have e : (decide (a ≤ i) && decide (i ≤ b)) = decide (i ≤ b) := by simp [c]
      rw [e] at q
      exact q _ Gr.refl
    · have e : (decide (a ≤ i) && decide (i ≤ b)) = false := by simp [c]
      rw [e] at q
      exact q _ Gr.refl
  | exc c => cases hk
  | ref r =>
    rcases okA_ref hk with e | e
    all_goals
      conv => whnf
      rw [e]
      conv => whnf
      rw [e]
      exact q _ Gr.refl
  | _ => exact q _ Gr.refl
theorem fA_name (T : TopD K mg "is_name" s_is_name p_is_name) (b_isinstance : mg "isinstance" = none) (b_str : mg "str" = none) (b_len : mg "len" = none) (b_all : mg "all" = none) {t : Tok} (m_LONGEST_NAME : mg "LONGEST_NAME" = some (.int 3 t)) : FnX P w K mg base 1 "is_name" p_is_name (spOf mg 1 SNameA) := by
  refine fnD T sc_is_name rfl (by decide) fun N RE f cdv B outer s H E hr hR hx ds A R h hl => ?_
  have hu := hr.units
  refine ⟨_, (dss_cons (ds_if (PW.pt (dw_or (dt_not (dt_val (de_is kit_str b_isinstance b_str boot_str (vr 0)))) (dw_or1 (dt_not (t_lele de_int (de_cb c_len d_len b_len PySem.boot_len (da_cons (vr 0) da_nil)) (de_num m_LONGEST_NAME)))))) (dss_one (ds_ret de_bl)) dss_nil)
    (dss_one (ds_ret (de_cb (call_all rfl) d_all b_all boot_all (da_cons (de_comp none (own := ["letter"]) (frees := []) (ix := []) rfl (di_str (vr 0)) (fun c => (pg_name (i := 0) (show (["letter"] : List Str).Nodup by decide +kernel) rfl (by first | exact Or.inl rfl | exact Or.inr rfl))) (fun c => (e_lele de_str (vr 0) de_str))) da_nil))))), ?_⟩
  obtain ⟨x, rfl, hk, q⟩ := h
  cases x with
  | str n =>
    have hz : n.length ≤ sizeLine := of_decide_eq_true hk
    have q : ∀ A', Gr A A' → R (.bl (decide ((1 : Int) ≤ (n.length : Nat)) && decide (((n.length : Nat) : Int) ≤ 3) && (sgs n).all azB)) A' := q
    refine ⟨hz, cD (fun c1 => ?_) (fun c1 => ?_)⟩
    · refine cN (fun c2 => ?_) (fun c2 => ?_)
      · rw [decide_eq_false c2] at q
        simp only [Bool.and_false, Bool.false_and] at q
        exact q _ Gr.refl
      rw [decide_eq_true c1, decide_eq_true c2] at q
      simp only [Bool.true_and] at q
      refine cloop_map (f := fun x => .bl (azB x)) trivial _ _ (fun x hx => ⟨[x], rfl, fun Q hQ => ?_⟩) ?_ ?_
      · obtain ⟨c, hc, rfl⟩ := List.mem_map.mp hx
        have hQ : Q (.bl (!decide ((⟨#[c]⟩ : Str).cps.toList < ("a" : Str).cps.toList) && !decide (("z" : Str).cps.toList < (⟨#[c]⟩ : Str).cps.toList))) A := hQ
        refine cN (fun e1 => ?_) (fun e1 => ?_)
        · rw [decide_eq_false e1] at hQ
          exact hQ
        · rw [decide_eq_true e1] at hQ
          exact hQ
      · have : (sgs n).length = n.length := by simp [sgs, Str.length]
        show 0 + (sgs n).length ≤ sizeLine
        omega
      · refine all_ok (bs := (sgs n).map azB) last_get (bls_map _ _) ?_
        have e : ((sgs n).map azB).all id = (sgs n).all azB := by simp
        rw [e]
        exact q _ Gr.push
    · rw [decide_eq_false c1] at q
      simp only [Bool.false_and] at q
      exact q _ Gr.refl
  | exc c => cases hk
  | ref r =>
    rcases okA_ref hk with e | e
    all_goals
      conv => whnf
      rw [e]
      exact q _ Gr.refl
  | _ => exact q _ Gr.refl
theorem fA_imw (T : TopD K mg "is_mobile_within" s_is_mobile_within p_is_mobile_within) (b_isinstance : mg "isinstance" = none) (b_str : mg "str" = none) (b_tuple : mg "tuple" = none) (b_len : mg "len" = none) {t : Tok} (m_LONGEST_ARM : mg "LONGEST_ARM" = some (.int 9 t))
    (F_is_name : FnX P w K mg base 1 "is_name" p_is_name (spOf mg 1 SNameA)) (F_is_number : FnX P w K mg base 1 "is_number" p_is_number (spOf mg 3 SNumA)) : ∀ d, FnX P w K mg base (d + 1) "is_mobile_within" p_is_mobile_within (spOf mg 2 (SImA d)) := by
  intro d
  induction d with
  | zero =>
    refine fnNo T fun ds A R RE h => ?_
    obtain ⟨x, _, h, _⟩ := h
    omega
  | succ d F_is_mobile_within =>
    refine fnD T sc_is_mobile_within rfl (by decide) fun N RE f cdv B outer s H E hr hR hx ds A R h hl => ?_
    have hu := hr.units
    refine ⟨_, (dss_cons (ds_if (PW.pt (dw_or (dt_not (dt_val (de_is kit_tuple b_isinstance b_tuple boot_tuple (vr 0)))) (dw_or (t_eq hu (de_cb c_len d_len b_len PySem.boot_len (da_cons (vr 0) da_nil)) de_int) (dw_or1 (dt_not (dt_val (de_is kit_str b_isinstance b_str boot_str (de_ix hu (vr 0) de_int (fun _ _ => rfl))))))))) (dss_one (ds_ret de_bl)) dss_nil)
    (dss_cons (ds_if (t_eq hu (de_ix hu (vr 0) de_int (fun _ _ => rfl)) de_str) (dss_one (ds_ret (de_and (e_eq hu (de_cb c_len d_len b_len PySem.boot_len (da_cons (vr 0) da_nil)) de_int) (de_one (de_call F_is_name (hr.mono (by omega)) hx (da_cons (de_ix hu (vr 0) de_int (fun _ _ => rfl)) da_nil)))))) dss_nil)
    (dss_cons (ds_if (PW.pt (dw_or (t_ne hu (de_ix hu (vr 0) de_int (fun _ _ => rfl)) de_str) (dw_or (t_ne hu (de_cb c_len d_len b_len PySem.boot_len (da_cons (vr 0) da_nil)) de_int) (dw_or1 (t_eq hu (vr 1) de_int))))) (dss_one (ds_ret de_bl)) dss_nil)
    (dss_cons (ds_if (PW.pt (dw_or (dt_not (dt_val (de_call F_is_number (hr.mono (by omega)) hx (da_cons (de_ix hu (vr 0) de_int (fun _ _ => rfl)) (da_cons de_int (da_cons (de_num m_LONGEST_ARM) da_nil)))))) (dw_or1 (dt_not (dt_val (de_call F_is_number (hr.mono (by omega)) hx (da_cons (de_ix hu (vr 0) de_int (fun _ _ => rfl)) (da_cons de_int (da_cons (de_num m_LONGEST_ARM) da_nil))))))))) (dss_one (ds_ret de_bl)) dss_nil)
    (dss_one (ds_ret (de_and (de_call F_is_mobile_within (hr.mono (by omega)) hx (da_cons (de_ix hu (vr 0) de_int (fun _ _ => rfl)) (da_cons (de_sub (vr 1) de_int) da_nil))) (de_one (de_call F_is_mobile_within (hr.mono (by omega)) hx (da_cons (de_ix hu (vr 0) de_int (fun _ _ => rfl)) (da_cons (de_sub (vr 1) de_int) da_nil))))))))))), ?_⟩
    obtain ⟨x, rfl, _, hk, q⟩ := h
    have q : ∀ A', Gr A A' → R (.bl (isMob d x)) A' := q
    have no : isMob d x = false → R (.bl false) A := fun e => by
      have := q A Gr.refl
      rwa [e] at this
    cases x with
    | tup xs =>
      cases xs with
      | nil => exact no (by cases d <;> rfl)
      | cons y ys =>
        have hk : (okA A y && okAs A ys) = true := hk
        rw [Bool.and_eq_true] at hk
        have ln : (((y :: ys).length : Nat) : Int) = (ys.length : Int) + 1 := by simp
        conv => whnf
        rw [at_zero]
        cases y with
        | str k =>
          conv => whnf
          rw [at_zero]
          refine cD (fun ck => ?_) (fun ck => ?_)
          · refine cD (fun c2 => ?_) (fun c2 => ?_)
            · have c2 : (((D.str k :: ys).length : Nat) : Int) = 2 := c2
              obtain ⟨n, rfl⟩ : ∃ n, ys = [n] := by
                match ys, ln, c2 with
                | [], ln, c2 => simp at c2
                | [n], _, _ => exact ⟨n, rfl⟩
                | _ :: _ :: _, ln, c2 => simp at c2; omega
              refine ⟨rfl, n, rfl, ?_, fun A1 g1 => ?_⟩
              · have := hk.2
                simp only [okAs, Bool.and_true] at this
                exact this
              · have e : isMob d (.tup [.str k, n]) = isNa n := by
                  have : isMob d (.tup [.str k, n]) = (decide (k = "weight") && isNa n) := by cases d <;> rfl
                  rw [this, decide_eq_true ck, Bool.true_and]
                rw [← e]
                exact q _ g1
            · refine no (isMob_no (fun n e => ?_) fun l r a b e => ?_)
              · exact absurd (by rw [e]; rfl) c2
              · rw [ck]; decide +kernel
          · conv => whnf
            rw [at_zero]
            refine cN (fun c1 => ?_) (fun c1 => ?_)
            · exact no (isMob_no2 ck c1)
            · refine cN (fun c2 => ?_) (fun c2 => ?_)
              · refine no (isMob_no (fun n e => ?_) fun l r a b e => ?_)
                · exact ck
                · exact absurd (by rw [e]; rfl) c2
              · have c2 : (((D.str k :: ys).length : Nat) : Int) = 5 := c2
                obtain ⟨l, r, a, b, rfl⟩ : ∃ l r a b, ys = [l, r, a, b] := by
                  match ys, c2 with
                  | [l, r, a, b], _ => exact ⟨l, r, a, b, rfl⟩
                  | [], c2 => simp at c2
                  | [_], c2 => simp at c2
                  | [_, _], c2 => simp at c2
                  | [_, _, _], c2 => simp at c2
                  | _ :: _ :: _ :: _ :: _ :: _, c2 => simp at c2; omega
                have hk2 : (okA A l && (okA A r && (okA A a && (okA A b && true)))) = true := hk.2
                simp only [Bool.and_eq_true, and_true] at hk2
                obtain ⟨k1, k2, k3, k4⟩ := hk2
                refine cD (fun c3 => ?_) (fun c3 => ?_)
                · have : d = 0 := by have c3 : ((d + 1 : Nat) : Int) - 1 = 0 := c3
                                     omega
                  subst this
                  exact no rfl
                · cases d with
                  | zero => exact absurd rfl c3
                  | succ d =>
                    have ed : ((d + 1 + 1 : Nat) : Int) - 1 - 1 = ((d + 1 : Nat) : Int) - 1 := by omega
                    have eM : isMob (d + 1) (.tup [.str k, l, r, a, b]) = (isNu l 1 9 && isNu r 1 9 && isMob d a && isMob d b) := by
                      show (decide (k = "rod") && isNu l 1 9 && isNu r 1 9 && isMob d a && isMob d b) = _
                      rw [decide_eq_true c1, Bool.true_and]
                    rw [eM] at q
                    refine ⟨rfl, l, 1, 9, rfl, k1, fun A1 g1 => ?_⟩
                    cases e1 : isNu l 1 9 with
                    | false =>
                      rw [e1] at q
                      exact q _ g1
                    | true =>
                      refine ⟨rfl, r, 1, 9, rfl, okA_gr g1 _ k2, fun A2 g2 => ?_⟩
                      rw [e1] at q
                      have g12 := g1.trans g2
                      cases e2 : isNu r 1 9 with
                      | false =>
                        rw [e2] at q
                        exact q _ g12
                      | true =>
                        rw [e2] at q
                        refine ⟨rfl, a, show [a, D.int (((d + 1 + 1 : Nat) : Int) - 1 - 1)] = _ by rw [ed], by omega, okA_gr g12 _ k3, fun A3 g3 => ?_⟩
                        have g13 := g12.trans g3
                        show cond (isMob d a) _ _
                        cases e3 : isMob d a with
                        | false =>
                          rw [e3] at q
                          exact q _ g13
                        | true =>
                          rw [e3] at q
                          refine ⟨rfl, b, show [b, D.int (((d + 1 + 1 : Nat) : Int) - 1 - 1)] = _ by rw [ed], by omega, okA_gr g13 _ k4, fun A4 g4 => ?_⟩
                          exact q _ (g13.trans g4)
        | exc c => exact absurd hk.1 (by simp [okA])
        | ref r =>
          rcases okA_ref hk.1 with e | e
          all_goals
            conv => whnf
            rw [e]
            exact no (by cases d <;> rfl)
        | _ => exact no (by cases d <;> rfl)
    | exc c => cases hk
    | ref r =>
      rcases okA_ref hk with e | e
      all_goals
        conv => whnf
        rw [e]
        exact no (by cases d <;> rfl)
    | _ => exact no (by cases d <;> rfl)
theorem fA_mob (T : TopD K mg "is_mobile" s_is_mobile p_is_mobile) {t : Tok} (m_MOST_RODS : mg "MOST_RODS" = some (.int 5 t)) (F_is_mobile_within : FnX P w K mg base 7 "is_mobile_within" p_is_mobile_within (spOf mg 2 (SImA 6))) : FnX P w K mg base 8 "is_mobile" p_is_mobile (spOf mg 1 SMbA) := by
  refine fnD T sc_is_mobile rfl (by decide) fun N RE f cdv B outer s H E hr hR hx ds A R h hl => ?_
  refine ⟨_, (dss_one (ds_ret (de_call F_is_mobile_within (hr.mono (by omega)) hx (da_cons (vr 0) (da_cons (de_num m_MOST_RODS) da_nil))))), ?_⟩
  obtain ⟨x, rfl, hk, q⟩ := h
  exact ⟨rfl, x, rfl, by decide, hk, q⟩
theorem fA_chk (T : TopD K mg "check_mobile" s_check_mobile p_check_mobile) {a_NoMobile : Addr} (m_NoMobile : mg "NoMobile" = some (.ref a_NoMobile)) (x_NoMobile : PySem.W.excIn K a_NoMobile vErr "ValueError.__new__" = true) (F_is_mobile : FnX P w K mg base 8 "is_mobile" p_is_mobile (spOf mg 1 SMbA)) : FnX P w K mg base 9 "check_mobile" p_check_mobile (spOf mg 1 SChkA) := by
  refine fnD T sc_check_mobile rfl (by decide) fun N RE f cdv B outer s H E hr hR hx ds A R h hl => ?_
  refine ⟨_, (dss_one (ds_if (dt_not (dt_val (de_call F_is_mobile (hr.mono (by omega)) hx (da_cons (vr 0) da_nil)))) (dss_one (ds_raise hR rfl m_NoMobile x_NoMobile (da_cons de_str da_nil))) dss_nil)), ?_⟩
  obtain ⟨x, rfl, hk, q⟩ := h
  refine ⟨rfl, x, rfl, hk, fun A1 g1 => ?_⟩
  have q := q A1 g1
  cases e : isMob 5 x with
  | true => rw [e] at q; exact q
  | false => rw [e] at q; exact ⟨by decide, q⟩
end
end My
namespace DP
open PySem PySem.Spec PyProof.Rows L2 MA
def itS (i : Int) : Str := Str.ofString (toString i)
def txt : M → Str
  | .wt n => n
  | .rod l r a b => (((((((("(" : Str) ++ itS l) ++ ":") ++ itS r) ++ " ") ++ txt a) ++ " ") ++ txt b) ++ ")"
theorem itS1 {l : Int} (h1 : 1 ≤ l) (h9 : l ≤ 9) : itS l = ⟨#[48 + l.toNat]⟩ := by
  have : l = 1 ∨ l = 2 ∨ l = 3 ∨ l = 4 ∨ l = 5 ∨ l = 6 ∨ l = 7 ∨ l = 8 ∨ l = 9 := by omega
  rcases this with rfl | rfl | rfl | rfl | rfl | rfl | rfl | rfl | rfl <;> decide +kernel
theorem cps_app2 (a b : Str) : (a ++ b).cps.toList = a.cps.toList ++ b.cps.toList := Array.toList_append
theorem len_app (a b : Str) : (a ++ b).length = a.length + b.length := Array.size_append
theorem txt_cps {l r : Int} {a b : M} (l1 : 1 ≤ l) (l9 : l ≤ 9) (r1 : 1 ≤ r) (r9 : r ≤ 9) : (txt (.rod l r a b)).cps.toList = 40 :: (48 + l.toNat) :: 58 :: (48 + r.toNat) :: 32 :: ((txt a).cps.toList ++ 32 :: ((txt b).cps.toList ++ [41])) := by
  show ((((((((("(" : Str) ++ itS l) ++ ":") ++ itS r) ++ " ") ++ txt a) ++ " ") ++ txt b) ++ ")").cps.toList = _
  rw [itS1 l1 l9, itS1 r1 r9]
  simp only [cps_app2]
  rw [show ("(" : Str).cps.toList = [40] by decide +kernel, show (":" : Str).cps.toList = [58] by decide +kernel, show (" " : Str).cps.toList = [32] by decide +kernel, show (")" : Str).cps.toList = [41] by decide +kernel]
  simp
theorem txt_len : ∀ {m : M}, Wf m → (txt m).length + 7 ≤ 10 * 2 ^ m.deep
  | .wt n, h => by
    have := (h.nm n (by simp [Mob.names])).hi
    show n.length + 7 ≤ 10 * 2 ^ 0
    omega
  | .rod l r a b, h => by
    obtain ⟨l1, l9, r1, r9, ha, hb⟩ := h.arms
    have ia := txt_len h.left
    have ib := txt_len h.right
    have e := congrArg List.length (txt_cps (a := a) (b := b) l1 l9 r1 r9)
    have ea : (txt a).length = (txt a).cps.toList.length := by simp [Str.length]
    have eb : (txt b).length = (txt b).cps.toList.length := by simp [Str.length]
    have em : (txt (.rod l r a b)).length = (txt (.rod l r a b)).cps.toList.length := by simp [Str.length]
    simp only [List.length_cons, List.length_append, List.length_nil] at e
    have p1 : 2 ^ a.deep ≤ 2 ^ max a.deep b.deep := Nat.pow_le_pow_right (by decide) (by omega)
    have p2 : 2 ^ b.deep ≤ 2 ^ max a.deep b.deep := Nat.pow_le_pow_right (by decide) (by omega)
    show (txt (.rod l r a b)).length + 7 ≤ 10 * 2 ^ (max a.deep b.deep + 1)
    rw [Nat.pow_succ]
    omega
def S (cs : List Nat) : Str := ⟨cs.toArray⟩
theorem S_cps (cs : List Nat) : (S cs).cps.toList = cs := by simp [S]
theorem S_self (x : Str) : S x.cps.toList = x := by
  obtain ⟨c⟩ := x
  simp [S]
theorem S_len (cs : List Nat) : (S cs).length = cs.length := by simp [S, Str.length]
theorem sl_hi (l : Option Int) (len : Nat) {j : Int} (h : (len : Int) ≤ j) : Builtin.Str.strSliceIndices l (some j) 1 len = Builtin.Str.strSliceIndices l (some (len : Int)) 1 len := by
  have a : ¬ ((len : Int) < 0) := by omega
  have b : ¬ (j < 0) := by omega
  have c : min j (len : Int) = (len : Int) := by omega
  simp [Builtin.Str.strSliceIndices, a, b, c]
theorem sl_ij (cs : List Nat) {i j : Nat} (h : i ≤ j) (hi : i ≤ cs.length) : Txt.slice (S cs) (some (i : Int)) (some (j : Int)) = S ((cs.drop i).take (j - i)) := by
  by_cases hj : j ≤ cs.length
  · have := slice_closes (x := S cs) (i := (i : Int)) (j := (j : Int)) ⟨by omega, by omega, by rw [S_cps]; omega⟩
    have e := eq_of_beq this
    rw [e, S_cps]
    have e1 : ((i : Nat) : Int).toNat = i := by omega
    have e2 : ((j : Int) - (i : Int)).toNat = j - i := by omega
    rw [e1, e2]
    rfl
  · have e0 : Txt.slice (S cs) (some (i : Int)) (some (j : Int)) = Txt.slice (S cs) (some (i : Int)) (some (((S cs).length : Nat) : Int)) := by
      unfold Txt.slice
      rw [sl_hi _ _ (show ((S cs).length : Int) ≤ j by rw [S_len]; omega)]
    have := slice_closes (x := S cs) (i := (i : Int)) (j := (((S cs).length : Nat) : Int)) ⟨by omega, by rw [S_len]; omega, by rw [S_cps, S_len]; omega⟩
    have e := eq_of_beq this
    rw [e0, e, S_cps, S_len]
    have e1 : ((i : Nat) : Int).toNat = i := by omega
    have e2 : ((cs.length : Int) - (i : Int)).toNat = cs.length - i := by omega
    rw [e1, e2, List.take_of_length_le (by rw [List.length_drop]; omega), List.take_of_length_le (by rw [List.length_drop]; omega)]
    rfl
theorem sl_from (cs : List Nat) {i : Nat} (hi : i ≤ cs.length) : Txt.slice (S cs) (some (i : Int)) none = S (cs.drop i) := by
  have := slice_closes_from (x := S cs) (i := (i : Int)) ⟨by omega, by rw [S_cps]; omega⟩
  have e := eq_of_beq this
  rw [e, S_cps]
  have e1 : ((i : Nat) : Int).toNat = i := by omega
  have e2 : ((cs.length : Int) - (i : Int)).toNat = cs.length - i := by omega
  rw [e1, e2, List.take_of_length_le (by rw [List.length_drop]; omega)]
  rfl
theorem sl_to (cs : List Nat) {j : Nat} (hj : j ≤ cs.length) : Txt.slice (S cs) none (some (j : Int)) = S (cs.take j) := by
  have := slice_closes_to (x := S cs) (j := (j : Int)) ⟨by omega, by rw [S_cps]; omega⟩
  have e := eq_of_beq this
  rw [e, S_cps]
  have e2 : ((j : Int) - 0).toNat = j := by omega
  rw [e2]
  rfl
theorem starts1 (c d : Nat) (cs : List Nat) : Txt.startswith (S (d :: cs)) (S [c]) = decide (d = c) := by
  unfold Txt.startswith Builtin.Str.subAt
  have e1 : (S (d :: cs)).cps.extract 0 (0 + (S [c]).length) = #[d] := by
    show (d :: cs).toArray.extract 0 (0 + 1) = #[d]
    simp
  rw [e1]
  have e2 : decide (0 + (S [c]).length ≤ (S (d :: cs)).length) = true := by
    rw [S_len, S_len]
    simp
  rw [e2]
  show (true && (#[d] == #[c])) = decide (d = c)
  by_cases h : d = c
  · simp [h]
  · simp [h]
end DP
namespace DP
open PySem PySem.Spec PyProof.Rows L2 MA
def let1 (cs : List Nat) : Bool := match cs with
  | c :: _ => decide (97 ≤ c) && decide (c ≤ 122)
  | [] => false
theorem nm_ofT {n : Str} (h : isNa (.str n) = true) : Nm n := by
  unfold isNa at h
  rw [Bool.and_eq_true, Bool.and_eq_true, decide_eq_true_eq, decide_eq_true_eq] at h
  obtain ⟨⟨h1, h2⟩, h3⟩ := h
  refine ⟨by omega, by omega, fun c hc => ?_⟩
  have h4 := List.all_eq_true.mp h3 (.str ⟨#[c]⟩) (List.mem_map_of_mem hc)
  have h4 : (!decide ((⟨#[c]⟩ : Str).cps.toList < ("a" : Str).cps.toList) && !decide (("z" : Str).cps.toList < (⟨#[c]⟩ : Str).cps.toList)) = true := h4
  rw [Bool.and_eq_true, Bool.not_eq_true', Bool.not_eq_true', decide_eq_false_iff_not, decide_eq_false_iff_not, My.sg_a, My.sg_z] at h4
  have e1 : ¬ c < 97 := fun z => h4.1 (My.one_lt.mpr z)
  have e2 : ¬ 122 < c := fun z => h4.2 (My.one_lt.mpr z)
  omega
theorem isNa_1 {c : Nat} (h : 97 ≤ c ∧ c ≤ 122) : isNa (.str (S [c])) = true := isNa_nm ⟨by rw [S_len]; exact Nat.le_refl 1, by rw [S_len]; exact (show 1 ≤ 3 by decide), fun d hd => by rw [S_cps] at hd; rw [List.mem_singleton.mp hd]; exact h⟩
theorem isNa_0 {cs : List Nat} (h : let1 cs = false) : isNa (.str (S (cs.take 1))) = false := by
  cases e : isNa (.str (S (cs.take 1))) with
  | false => rfl
  | true =>
    have hn := nm_ofT e
    cases cs with
    | nil =>
      have := hn.lo
      rw [S_len] at this
      simp at this
    | cons c cs =>
      have := hn.az c (by rw [S_cps]; simp)
      have h : (decide (97 ≤ c) && decide (c ≤ 122)) = false := h
      simp [this.1, this.2] at h
end DP
namespace My
open PySem PySem.Spec PyProof.Rows L2 DP MA
section
variable {P : Program} {w : World} {K : PySem.W.Frag} {mg : Str → Option Value} {base : Heap}
end
end My
namespace DP
open PySem PySem.Spec PyProof.Rows L2 MA
end DP
namespace My
open PySem PySem.Spec PyProof.Rows L2 DP MA
section
variable {P : Program} {w : World} {K : PySem.W.Frag} {mg : Str → Option Value} {base : Heap}
end
end My
namespace My
open PySem PySem.Spec PyProof.Rows L2 DP MA
section
variable {P : Program} {w : World} {K : PySem.W.Frag} {mg : Str → Option Value} {base : Heap}
end
end My
namespace My
open PySem PySem.Spec PyProof.Rows L2 DP MA
section
variable {P : Program} {w : World} {K : PySem.W.Frag} {mg : Str → Option Value} {base : Heap}
theorem f_cell (T : TopD K mg "_law_cell_at" s__law_cell_at p__law_cell_at) (b_len : mg "len" = none) : FnX P w K mg base 1 "_law_cell_at" p__law_cell_at (spOf mg 2 SCell) := by
  refine fnD T sc__law_cell_at rfl (by decide) fun N RE f cdv B outer s H E hr hR hx ds A R h hl => ?_
  have hu := hr.units
  refine ⟨_, (dss_cons (ds_if (t_lt (vr 1) (de_cb c_len d_len b_len PySem.boot_len (da_cons (vr 0) da_nil))) (dss_one (ds_ret (de_ix hu (vr 0) (vr 1) (fun _ _ => rfl)))) dss_nil)
    (dss_cons (ds_if (t_eq hu (vr 0) (de_lst da_nil)) (dss_one (ds_ret de_int)) dss_nil)
    (dss_one (ds_ret (de_add (de_mul (de_ix hu (vr 0) (de_mod (vr 1) (de_cb c_len d_len b_len PySem.boot_len (da_cons (vr 0) da_nil))) (fun _ _ => rfl)) de_int) (vr 1)))))), ?_⟩
  obtain ⟨ns, k, rfl, hk, q⟩ := h
  refine cD (fun c => ?_) (fun c => ?_)
  · obtain ⟨v, hv, _⟩ := atI_some' hk c
    conv => whnf
    rw [hv]
    exact q v _ Gr.refl
  · refine ⟨Nat.zero_le _, eq_fl_nil ?_⟩
    refine cD (fun c2 => ?_) (fun c2 => ?_)
    · exact q _ _ Gr.push
    · have hne : 0 < (ns.length : Int) := by
        have := List.length_pos_iff.mpr c2
        omega
      obtain ⟨v, hv, _⟩ := atI_some' (xs := ns) (Int.emod_nonneg k (by omega)) (Int.emod_lt_of_pos k hne)
      refine ⟨hne, ?_⟩
      conv => whnf
      rw [hv]
      exact ⟨.inr ⟨by decide, by decide⟩, q _ _ Gr.push⟩
theorem f_mixed (T : TopD K mg "_law_mixed" s__law_mixed p__law_mixed) (F__law_cell_at : FnX P w K mg base 1 "_law_cell_at" p__law_cell_at (spOf mg 2 SCell)) : FnX P w K mg base 2 "_law_mixed" p__law_mixed (spOf mg 3 SMixed) := by
  refine fnD T sc__law_mixed rfl (by decide) fun N RE f cdv B outer s H E hr hR hx ds A R h hl => ?_
  have hu := hr.units
  have nd := sc__law_mixed.nd
  refine ⟨_, (dss_cons (ds_set (i := 3) nd rfl (by first | exact Or.inl rfl | exact Or.inr rfl) (de_mod (de_add (de_add (de_mul (de_call F__law_cell_at (hr.mono (by omega)) hx (da_cons (vr 0) (da_cons (vr 1) da_nil))) de_int) (de_mul de_int (vr 1))) de_int) de_int))
    (dss_one (ds_ret (de_mod (de_mod (de_mod (de_pow (vr 3) de_int) de_int) de_int) (vr 2))))), ?_⟩
  obtain ⟨ns, k, m, rfl, hk, hm, q⟩ := h
  refine ⟨rfl, ns, k, rfl, hk, fun i A' g => ?_⟩
  refine ⟨.inr ⟨by decide, by decide⟩, .inl ⟨by decide, by decide⟩, (by decide : (0 : Int) < 2147483647), ?_⟩
  have b0 := Int.emod_nonneg (i * 1103515245 + 7919 * k + 12345) (show (2147483647 : Int) ≠ 0 by decide)
  have b1 := Int.emod_lt_of_pos (i * 1103515245 + 7919 * k + 12345) (show (0 : Int) < 2147483647 by decide)
  refine ⟨⟨by decide, by decide, ?_⟩, (by decide : (0 : Int) < 2147483647), (by decide : (0 : Int) < 999983), hm, ?_⟩
  · have : (2147483647 : Nat) < 2 ^ 64 := by decide
    omega
  exact q _ _ (Int.emod_nonneg _ (by omega)) (Int.emod_lt_of_pos _ hm) g
theorem f_draw (T : TopD K mg "_law_draw" s__law_draw p__law_draw) (b_len : mg "len" = none) (F__law_mixed : FnX P w K mg base 2 "_law_mixed" p__law_mixed (spOf mg 3 SMixed)) : FnX P w K mg base 3 "_law_draw" p__law_draw (spOf mg 3 SDraw) := by
  refine fnD T sc__law_draw rfl (by decide) fun N RE f cdv B outer s H E hr hR hx ds A R h hl => ?_
  have hu := hr.units
  refine ⟨_, (dss_cons (ds_expr (de_mt PySem.F.plainAttrs_list PySem.F.slot_list_append PySem.F.type_list_append mt_append d_app (vr 1) (da_cons de_int da_nil)))
    (dss_one (ds_ret (de_call F__law_mixed (hr.mono (by omega)) hx (da_cons (vr 0) (da_cons (de_cb c_len d_len b_len PySem.boot_len (da_cons (vr 1) da_nil)) (da_cons (vr 2) da_nil))))))), ?_⟩
  obtain ⟨ns, t, m, n, rfl, ⟨xs, ht, hz⟩, hn, hm, q⟩ := h
  refine ⟨isL_of ht, app_ok ht (by rw [sizeLine]; omega) ?_⟩
  have ht' : (A.set t (.lst (xs ++ [.int 0])))[t]? = some (.lst (xs ++ [.int 0])) := get_set ht
  refine len_ok ht' ⟨rfl, ns, _, m, rfl, by omega, hm, fun i A' h0 h1 g => ?_⟩
  exact q i A' h0 h1 (But.set.trans g.but) (Tw.gr ⟨_, ht', by simpa using hz⟩ g)
theorem f_pick (T : TopD K mg "_law_pick" s__law_pick p__law_pick) (b_len : mg "len" = none) (F__law_draw : FnX P w K mg base 3 "_law_draw" p__law_draw (spOf mg 3 SDraw)) : FnX P w K mg base 4 "_law_pick" p__law_pick (spOf mg 3 SPick) := by
  refine fnD T sc__law_pick rfl (by decide) fun N RE f cdv B outer s H E hr hR hx ds A R h hl => ?_
  have hu := hr.units
  refine ⟨_, (dss_one (ds_ret (de_ix hu (vr 2) (de_call F__law_draw (hr.mono (by omega)) hx (da_cons (vr 0) (da_cons (vr 1) (da_cons (de_cb c_len d_len b_len PySem.boot_len (da_cons (vr 2) da_nil)) da_nil)))) (fun _ _ => rfl)))), ?_⟩
  obtain ⟨ns, t, r, xs, n, rfl, hne, hr, hx, ht, hn, q⟩ := h
  have hp := List.length_pos_iff.mpr hx
  refine len_ok hr ⟨rfl, ns, t, _, n, rfl, ht, hn, by omega, fun i A' h0 h1 b t' => ?_⟩
  obtain ⟨v, hv, hm⟩ := atI_some' h0 h1
  exact ix_ok (b r _ hne hr) hv (q v A' hm b t')
theorem f_mobile (T : TopD K mg "_law_mobile" s__law_mobile p__law_mobile) (F__law_draw : FnX P w K mg base 3 "_law_draw" p__law_draw (spOf mg 3 SDraw)) (F__law_pick : FnX P w K mg base 4 "_law_pick" p__law_pick (spOf mg 3 SPick)) : ∀ d, FnX P w K mg base (d + 4) "_law_mobile" p__law_mobile (spOf mg 4 (SMob d)) := by
  intro d
  induction d with
  | zero =>
    refine fnNo T fun ds A R RE h => ?_
    obtain ⟨ns, t, q, nms, n, _, h, _⟩ := h
    omega
  | succ d F__law_mobile =>
    refine fnD T sc__law_mobile rfl (by decide) fun N RE f cdv B outer s H E hr hR hx ds A R h hl => ?_
    have hu := hr.units
    have nd := sc__law_mobile.nd
    refine ⟨_, (dss_cons (ds_if (PW.pt (dw_or (t_eq hu (vr 3) de_int) (dw_or1 (t_eq hu (de_call F__law_draw (hr.mono (by omega)) hx (da_cons (vr 0) (da_cons (vr 1) (da_cons de_int da_nil)))) de_int)))) (dss_one (ds_ret (de_tup (da_cons de_str (da_cons (de_call F__law_pick (hr.mono (by omega)) hx (da_cons (vr 0) (da_cons (vr 1) (da_cons (vr 2) da_nil)))) da_nil))))) dss_nil)
    (dss_cons (ds_set (i := 4) nd rfl (by first | exact Or.inl rfl | exact Or.inr rfl) (de_call F__law_pick (hr.mono (by omega)) hx (da_cons (vr 0) (da_cons (vr 1) (da_cons (de_lst (da_cons de_int (da_cons de_int (da_cons de_int (da_cons de_int da_nil))))) da_nil)))))
    (dss_cons (ds_par (i := 5) (j := 6) rfl nd rfl rfl (by decide) rfl rfl (da_cons (de_add de_int (de_call F__law_draw (hr.mono (by omega)) hx (da_cons (vr 0) (da_cons (vr 1) (da_cons (vr 4) da_nil))))) (da_cons (de_add de_int (de_call F__law_draw (hr.mono (by omega)) hx (da_cons (vr 0) (da_cons (vr 1) (da_cons (vr 4) da_nil))))) da_nil)) rfl)
    (dss_cons (ds_set (i := 7) nd rfl (by first | exact Or.inl rfl | exact Or.inr rfl) (de_call F__law_mobile (hr.mono (by omega)) hx (da_cons (vr 0) (da_cons (vr 1) (da_cons (vr 2) (da_cons (de_sub (vr 3) de_int) da_nil))))))
    (dss_one (ds_ret (de_tup (da_cons de_str (da_cons (vr 5) (da_cons (vr 6) (da_cons (vr 7) (da_cons (de_call F__law_mobile (hr.mono (by omega)) hx (da_cons (vr 0) (da_cons (vr 1) (da_cons (vr 2) (da_cons (de_sub (vr 3) de_int) da_nil))))) da_nil)))))))))))), ?_⟩
    obtain ⟨ns, t, r, nms, n, rfl, _, hne, hA, hns, hnm, ht, hc, q⟩ := h
    have hcs := cst_succ d
    have hcp := cst_pos (d + 1)
    have hdd : ((d + 1 : Nat) : Int) - 1 = (d : Int) := by omega
    have leaf : ∀ A1 n1, But t A A1 → Tw t n1 A1 → n ≤ n1 → n1 + 1 ≤ n + cst (d + 1) → SPick [.fl ns, .ref t, .ref r] A1 (fun x A' => 2 ≤ sizeLine ∧ R (.tup [.str "weight", x]) A') RE := fun A1 n1 b1 t1 h0 h1 => by
      refine ⟨ns, t, r, _, n1, rfl, hne, b1 r _ hne hA, by simpa using hns, t1, by omega, fun x A' hx b t' => ⟨by decide, ?_⟩⟩
      obtain ⟨y, hy, rfl⟩ := List.mem_map.mp hx
      have one : ∀ z ∈ Mob.names (Mob.wt y), z = y := fun z hz => by simpa [Mob.names] using hz
      exact q (.wt y) A' ⟨trivial, fun z hz => by rw [one z hz]; exact hnm y hy⟩ (Nat.succ_pos _) (fun z hz => by rw [one z hz]; exact hy) ⟨b1.trans b, t'.mono (by omega)⟩
    refine cD (fun c => ⟨rfl, leaf A n But.refl ht (by omega) (by omega)⟩) (fun c => ?_)
    refine ⟨rfl, ns, t, 4, n, rfl, ht, by omega, by decide, fun i A1 _ _ b1 t1 => ?_⟩
    refine cD (fun c2 => ⟨rfl, leaf A1 (n + 1) b1 t1 (by omega) (by omega)⟩) (fun c2 => ?_)
    obtain ⟨xs1, hx1, _⟩ := id t1
    have hd0 : 0 < d := by omega
    have l1 := lt_of_get hx1
    refine ⟨show 4 ≤ sizeLine by decide, rfl, ns, t, _, [.int 2, .int 3, .int 4, .int 9], n + 1, rfl, by omega, last_get, by simp, t1.gr Gr.push, by omega, fun x A2 hx b2 t2 => ?_⟩
    obtain ⟨most, rfl, m0, m9⟩ : ∃ k : Int, x = .int k ∧ 2 ≤ k ∧ k ≤ 9 := by
      simp at hx
      rcases hx with h | h | h | h <;> exact ⟨_, h, by omega, by omega⟩
    refine ⟨rfl, ns, t, most, n + 2, rfl, t2, by omega, by omega, fun i3 A3 i0 i1 b3 t3 => ?_⟩
    refine ⟨rfl, ns, t, most, n + 3, rfl, t3, by omega, by omega, fun i4 A4 j0 j1 b4 t4 => ?_⟩
    have b04 : But t A A4 := (((b1.trans (Gr.push.but)).trans b2).trans b3).trans b4
    refine ⟨rfl, ns, t, r, nms, n + 4, show [D.fl ns, D.ref t, D.ref r, D.int (((d + 1 : Nat) : Int) - 1 - 1)] = _ by rw [hdd], hd0, hne, b04 r _ hne hA, hns, hnm, t4, by omega, fun m1 A5 w1 d1 s1 r1 => ?_⟩
    refine ⟨rfl, ns, t, r, nms, n + 4 + cst d, show [D.fl ns, D.ref t, D.ref r, D.int (((d + 1 : Nat) : Int) - 1 - 1)] = _ by rw [hdd], hd0, hne, r1.but r _ hne (b04 r _ hne hA), hns, hnm, r1.tw, by omega, fun m2 A6 w2 d2 s2 r2 => ?_⟩
    refine ⟨show 5 ≤ sizeLine by decide, q (.rod (1 + i3) (1 + i4) m1 m2) A6 ⟨⟨by omega, by omega, by omega, by omega, w1.arms, w2.arms⟩, fun x hx => ?_⟩ (show max m1.deep m2.deep + 1 < d + 1 by omega) (fun x hx => ?_) ⟨(b04.trans r1.but).trans r2.but, r2.tw.mono (by omega)⟩⟩
    · rcases List.mem_append.mp (show x ∈ m1.names ++ m2.names from hx) with h | h
      · exact w1.nm x h
      · exact w2.nm x h
    · rcases List.mem_append.mp (show x ∈ m1.names ++ m2.names from hx) with h | h
      · exact s1 x h
      · exact s2 x h
theorem nm_letter {c : Nat} (h1 : 97 ≤ c) (h2 : c ≤ 122) : Nm ⟨#[c]⟩ := by
  refine ⟨by show 1 ≤ 1; decide, by show 1 ≤ 3; decide, fun x hx => ?_⟩
  have : x = c := by simpa using hx
  omega
theorem abc_list : ("abcdefghijklmnopqrstuvwxyz" : Str).cps.toList = (List.range 26).map (· + 97) := by decide +kernel
theorem abc_at {k : Int} (h0 : 0 ≤ k) (h1 : k < 26) : ∃ c, atI ("abcdefghijklmnopqrstuvwxyz" : Str).cps.toList k = some c ∧ 97 ≤ c ∧ c ≤ 122 := by
  obtain ⟨c, hc, hm⟩ := atI_some' (xs := ("abcdefghijklmnopqrstuvwxyz" : Str).cps.toList) h0 (by rw [abc_list]; simpa using h1)
  refine ⟨c, hc, ?_⟩
  rw [abc_list] at hm
  obtain ⟨j, hj, rfl⟩ := List.mem_map.mp hm
  have := List.mem_range.mp hj
  omega
theorem f_fresh (T : TopD K mg "_law_fresh" s__law_fresh p__law_fresh) (b_len : mg "len" = none) : ∀ d, FnX P w K mg base (d + 1) "_law_fresh" p__law_fresh (spOf mg 2 (SFresh d)) := by
  intro d
  induction d with
  | zero =>
    refine fnNo T fun ds A R RE h => ?_
    obtain ⟨m, q, n, _, _, h, _⟩ := h
    omega
  | succ d F__law_fresh =>
    refine fnD T sc__law_fresh rfl (by decide) fun N RE f cdv B outer s H E hr hR hx ds A R h hl => ?_
    have hu := hr.units
    have nd := sc__law_fresh.nd
    refine ⟨_, (dss_cons (ds_if (t_eq hu (de_ix hu (vr 0) de_int (fun _ _ => rfl)) de_str) (dss_cons (ds_expr (de_mt PySem.F.plainAttrs_list PySem.F.slot_list_append PySem.F.type_list_append mt_append d_app (vr 1) (da_cons de_int da_nil)))
    (dss_one (ds_ret (de_tup (da_cons de_str (da_cons (de_ix hu de_str (de_mod (de_mul (de_cb c_len d_len b_len PySem.boot_len (da_cons (vr 1) da_nil)) de_int) de_int) (fun _ _ => rfl)) da_nil)))))) dss_nil)
    (dss_cons (ds_set (i := 2) nd rfl (by first | exact Or.inl rfl | exact Or.inr rfl) (de_call F__law_fresh (hr.mono (by omega)) hx (da_cons (de_ix hu (vr 0) de_int (fun _ _ => rfl)) (da_cons (vr 1) da_nil))))
    (dss_one (ds_ret (de_add (de_sl (vr 0) do_none (do_some de_int)) (de_tup (da_cons (vr 2) (da_cons (de_call F__law_fresh (hr.mono (by omega)) hx (da_cons (de_ix hu (vr 0) de_int (fun _ _ => rfl)) (da_cons (vr 1) da_nil))) da_nil)))))))), ?_⟩
    obtain ⟨m, r, n, rfl, hw, hd, h8, ⟨xs, hA, hz⟩, hn, q⟩ := h
    have p2 : 2 ^ (d + 1) = 2 * 2 ^ d := by rw [Nat.pow_succ]; omega
    have p0 : 0 < 2 ^ d := Nat.pow_pos (by decide)
    have hsz : (1000000 : Nat) < sizeLine := by decide
    cases m with
    | wt y =>
      refine ⟨isL_of hA, app_ok hA (by omega) ?_⟩
      have hA' : (A.set r (.lst (xs ++ [.int 0])))[r]? = some (.lst (xs ++ [.int 0])) := get_set hA
      refine len_ok hA' ⟨.inr ⟨by decide, by decide⟩, (by decide : (0 : Int) < 26), ?_⟩
      obtain ⟨c, hc, c1, c2⟩ := abc_at (Int.emod_nonneg (((xs ++ [D.int 0]).length : Nat) * 7 : Int) (by decide)) (Int.emod_lt_of_pos (((xs ++ [D.int 0]).length : Nat) * 7 : Int) (by decide))
      refine ixs_ok hc (by decide +kernel) ⟨show 2 ≤ sizeLine by decide, ?_⟩
      have one : ∀ z ∈ Mob.names (Mob.wt (⟨#[c]⟩ : Str)), z = ⟨#[c]⟩ := fun z hz => by simpa [Mob.names] using hz
      exact q (.wt ⟨#[c]⟩) _ ⟨trivial, fun z hz => by rw [one z hz]; exact nm_letter c1 c2⟩ rfl ⟨But.set, _, hA', by simp; omega⟩
    | rod l r' a b =>
      have hd' : max a.deep b.deep + 1 < d + 1 := hd
      obtain ⟨⟨h1, h2, h3, h4, h5, h6⟩, hnm⟩ := hw
      refine ⟨rfl, a, r, n, rfl, ⟨h5, fun x h => hnm x (by simp [Mob.names, h])⟩, by omega, by omega, ⟨xs, hA, hz⟩, by omega, fun a' A1 wa da ra => ?_⟩
      refine ⟨show ¬ (HT.sIx 5 0 none = 0 ∧ HT.sIx 5 5 (some 3) = 5) by decide, rfl, b, r, n + 2 ^ d, rfl, ⟨h6, fun x h => hnm x (by simp [Mob.names, h])⟩, by omega, by omega, ra.tw, by omega, fun b' A2 wb db rb => ?_⟩
      refine ⟨show 2 ≤ sizeLine by decide, show 3 + 2 ≤ sizeLine by decide, ?_⟩
      refine q (.rod l r' a' b') A2 ⟨⟨h1, h2, h3, h4, wa.arms, wb.arms⟩, fun x hx => ?_⟩ (show max a'.deep b'.deep + 1 = max a.deep b.deep + 1 by rw [da, db]) ⟨ra.but.trans rb.but, rb.tw.mono (by omega)⟩
      rcases List.mem_append.mp (show x ∈ a'.names ++ b'.names from hx) with h | h
      · exact wa.nm x h
      · exact wb.nm x h
end
end My
namespace DP
open PySem PySem.Spec PyProof.Rows L2 MA
end DP
namespace My
open PySem PySem.Spec PyProof.Rows L2 DP MA
section
variable {P : Program} {w : World} {K : PySem.W.Frag} {mg : Str → Option Value} {base : Heap}
end
end My
namespace DP
open PySem PySem.Spec PyProof.Rows L2 MA
end DP
namespace My
open PySem PySem.Spec PyProof.Rows L2 DP MA
section
variable {P : Program} {w : World} {K : PySem.W.Frag} {mg : Str → Option Value} {base : Heap}
end
end My
namespace DP
open PySem PySem.Spec PyProof.Rows L2 MA
end DP
namespace My
open PySem PySem.Spec PyProof.Rows L2 DP MA
section
variable {P : Program} {w : World} {K : PySem.W.Frag} {mg : Str → Option Value} {base : Heap}
end
end My
namespace DP
open PySem PySem.Spec PyProof.Rows L2 MA
end DP
namespace My
open PySem PySem.Spec PyProof.Rows L2 DP MA
section
variable {P : Program} {w : World} {K : PySem.W.Frag} {mg : Str → Option Value} {base : Heap}
end
end My
namespace DP
open PySem PySem.Spec PyProof.Rows L2 MA
end DP
namespace My
open PySem PySem.Spec PyProof.Rows L2 DP MA
section
variable {P : Program} {w : World} {K : PySem.W.Frag} {mg : Str → Option Value} {base : Heap}
end
end My
namespace My
open PySem PySem.Spec PyProof.Rows L2 DP MA
section
variable {P : Program} {w : World} {K : PySem.W.Frag} {mg : Str → Option Value} {base : Heap}
theorem nm_a : Nm "a" := ⟨by decide +kernel, by decide +kernel, by decide +kernel⟩
theorem nm_b : Nm "b" := ⟨by decide +kernel, by decide +kernel, by decide +kernel⟩
theorem nm_c : Nm "c" := ⟨by decide +kernel, by decide +kernel, by decide +kernel⟩
theorem nm_x : Nm "x" := ⟨by decide +kernel, by decide +kernel, by decide +kernel⟩
theorem nm_kk : Nm "kk" := ⟨by decide +kernel, by decide +kernel, by decide +kernel⟩
theorem nms1 : ∀ x ∈ (["a"] : List Str), Nm x := fun x h => by
  rw [List.mem_singleton.mp h]
  exact nm_a
theorem nms2 : ∀ x ∈ (["a", "b"] : List Str), Nm x := fun x h => by
  rcases List.mem_cons.mp h with e | h
  · rw [e]
    exact nm_a
  rw [List.mem_singleton.mp h]
  exact nm_b
theorem nms3 : ∀ x ∈ (["x", "b", "kk", "c"] : List Str), Nm x := fun x h => by
  rcases List.mem_cons.mp h with e | h
  · rw [e]
    exact nm_x
  rcases List.mem_cons.mp h with e | h
  · rw [e]
    exact nm_b
  rcases List.mem_cons.mp h with e | h
  · rw [e]
    exact nm_kk
  rw [List.mem_singleton.mp h]
  exact nm_c
theorem f_some (T : TopD K mg "_law_some" s__law_some p__law_some) (F__law_draw : FnX P w K mg base 3 "_law_draw" p__law_draw (spOf mg 3 SDraw)) (F__law_pick : FnX P w K mg base 4 "_law_pick" p__law_pick (spOf mg 3 SPick)) (FM : ∀ d, FnX P w K mg base (d + 4) "_law_mobile" p__law_mobile (spOf mg 4 (SMob d))) (F__law_fresh : FnX P w K mg base 9 "_law_fresh" p__law_fresh (spOf mg 2 (SFresh 8))) (dd : Nat) (hdd : dd ≤ 4) : FnX P w K mg base 10 "_law_some" p__law_some (spOf mg 3 (SSomeD dd)) := by
  have F__law_mobile := (FM (dd + 1)).mono (show dd + 1 + 4 ≤ 9 by omega)
  refine fnD T sc__law_some rfl (by decide) fun N RE f cdv B outer s H E hr hR hx ds A R h hl => ?_
  have hu := hr.units
  have nd := sc__law_some.nd
  refine ⟨_, (dss_cons (ds_set (i := 3) nd rfl (by first | exact Or.inl rfl | exact Or.inr rfl) (de_call F__law_mobile (hr.mono (by omega)) hx (da_cons (vr 0) (da_cons (vr 1) (da_cons (de_call F__law_pick (hr.mono (by omega)) hx (da_cons (vr 0) (da_cons (vr 1) (da_cons (de_lst (da_cons (de_lst (da_cons de_str da_nil)) (da_cons (de_lst (da_cons de_str (da_cons de_str da_nil))) (da_cons (de_lst (da_cons de_str (da_cons de_str (da_cons de_str (da_cons de_str da_nil))))) da_nil)))) da_nil)))) (da_cons (vr 2) da_nil))))))
    (dss_one (ds_ret (de_ite (t_eq hu (de_call F__law_draw (hr.mono (by omega)) hx (da_cons (vr 0) (da_cons (vr 1) (da_cons de_int da_nil)))) de_int) (vr 3) (de_call F__law_fresh (hr.mono (by omega)) hx (da_cons (vr 3) (da_cons (de_lst da_nil) da_nil))))))), ?_⟩
  obtain ⟨ns, t, n, rfl, ht, hn, q⟩ := h
  obtain ⟨xs0, hx0, hz0⟩ := id ht
  have l0 := lt_of_get hx0
  have hcs := cst200 hdd
  have s1 : (1 : Nat) ≤ sizeLine := by decide
  have s2 : (2 : Nat) ≤ sizeLine := by decide
  have s3 : (3 : Nat) ≤ sizeLine := by decide
  have s4 : (4 : Nat) ≤ sizeLine := by decide
  refine ⟨s1, s2, s4, s3, rfl, ns, t, _, _, n, rfl, ?_, last_get, by simp, ((((ht.gr Gr.push).gr Gr.push).gr Gr.push).gr Gr.push), by omega, fun x A1 hx b1 t1 => ?_⟩
  · simp; omega
  have g : Gr A (A ++ [C.lst [D.str "a"]] ++ [C.lst [D.str "a", D.str "b"]] ++ [C.lst [D.str "x", D.str "b", D.str "kk", D.str "c"]] ++ [C.lst [D.ref A.length, D.ref (A ++ [C.lst [D.str "a"]]).length, D.ref (A ++ [C.lst [D.str "a"]] ++ [C.lst [D.str "a", D.str "b"]]).length]]) := ((Gr.push.trans Gr.push).trans Gr.push).trans Gr.push
  have e1 : (A ++ [C.lst [D.str "a"]]).length = A.length + 1 := by simp
  have e2 : (A ++ [C.lst [D.str "a"]] ++ [C.lst [D.str "a", D.str "b"]]).length = A.length + 2 := by simp
  obtain ⟨r, nms, rfl, hr', h1, hne, hnm⟩ : ∃ (r : Nat) (nms : List Str), x = .ref r ∧ r ≠ t ∧ A1[r]? = some (.lst (nms.map D.str)) ∧ nms ≠ [] ∧ ∀ x ∈ nms, Nm x := by
    rcases List.mem_cons.mp hx with e | hx
    · exact ⟨_, ["a"], e, by omega, b1 _ _ (by omega) (getElem?_push (getElem?_push (getElem?_push last_get))), by simp, nms1⟩
    rcases List.mem_cons.mp hx with e | hx
    · exact ⟨_, ["a", "b"], e, by omega, b1 _ _ (by omega) (getElem?_push (getElem?_push last_get)), by simp, nms2⟩
    · exact ⟨_, ["x", "b", "kk", "c"], List.mem_singleton.mp hx, by omega, b1 _ _ (by omega) (getElem?_push last_get), by simp, nms3⟩
  have b01 : But t A A1 := g.but.trans b1
  refine ⟨rfl, ns, t, r, nms, n + 1, show [D.fl ns, D.ref t, D.ref r, D.int (dd : Nat)] = _ by rw [show (((dd + 1 : Nat) : Int) - 1) = (dd : Nat) by omega], by omega, hr', h1, hne, hnm, t1, by omega, fun m A2 wm dm _ r2 => ?_⟩
  refine ⟨rfl, ns, t, 2, n + 1 + cst (dd + 1), rfl, r2.tw, by omega, by decide, fun i A3 _ _ b3 t3 => ?_⟩
  have d3 : Dr t A A3 n 200 := ⟨(b01.trans r2.but).trans b3, t3.mono (by omega)⟩
  refine cD (fun c => q m A3 wm (by omega) d3) (fun c => ⟨Nat.zero_le _, rfl, m, _, 0, rfl, wm, by omega, by decide, ⟨[], last_get, Nat.le_refl _⟩, by decide, fun m' A4 wm' dm' r4 => ?_⟩)
  refine q m' A4 wm' (by omega) ?_
  obtain ⟨xs3, hx3, hz3⟩ := t3
  have l3 := lt_of_get hx3
  refine ⟨fun q c hq h => r4.but q c ?_ (getElem?_push (d3.but q c hq h)), ?_⟩
  · have := lt_of_get (d3.but q c hq h)
    omega
  · exact ⟨xs3, r4.but t _ (by omega) (getElem?_push hx3), by omega⟩
end
end My
namespace DP
open PySem PySem.Spec PyProof.Rows L2 MA
def od : Option M → D
  | some m => enc m
  | none => .non
end DP
namespace My
open PySem PySem.Spec PyProof.Rows L2 DP MA
section
variable {P : Program} {w : World} {K : PySem.W.Frag} {mg : Str → Option Value} {base : Heap}
end
end My
namespace L2
open PySem PySem.Spec PyProof.Rows
theorem Fun.okX {P : Program} {w : World} {K : PySem.W.Frag} {mg : Str → Option Value} {base : Heap} {x : Str} {st : Stmt} {N ps : List Str} {k : Nat} {sp : Sp} {f : Addr} {fd : FuncData} (F : Fun K x x st f fd) (S : FnScope N ps (defScope st)) (len : ∀ vs H Q E, sp vs H Q E → vs.length = ps.length)
    (hbody : ∀ (f : Addr) (cdv : Value) (A : Around) (outer : List Env) (s : Shared) (H : Hp) (vs : List V) (Q : VK) (E : XK), Room k (A.deeper (envOfC x (defScope st) s.heap.objs.size f cdv)) → sp vs H Q E →
      ∃ t, PSs (cxOf (CX1 P w) P w K mg base N x (defScope st) f cdv A outer s H E) (defBody st) t ∧ t { nx := fun _ H' => Q .non H', rt := Q } (start N vs) H) : FnOk P w K mg base (CX1 P w) (k + 1) f fd ps sp := by
  obtain ⟨oc, od, kV, doc, pm, an, cdv, ct, osl, rfl, lk, hcd⟩ := F.ex
  exact fn_of lk hcd S len fun A outer s H vs Q E hr hsp => hbody f cdv A outer s H vs Q E hr hsp
end L2
namespace DP
open PySem PySem.Spec PyProof.Rows L2 MA
theorem fnL {P : Program} {w : World} {K : PySem.W.Frag} {mg : Str → Option Value} {base : Heap} {x : Str} {st : Stmt} {Nm ps : List Str} {k n : Nat} {S : Ct} {fo : Addr} {fd : FuncData} (T : Fun K x x st fo fd) (Sc : FnScope Nm ps (defScope st)) (hn : ps.length = n) (hN : ps.length ≤ Nm.length)
    (hbody : ∀ (N : En) (RE : DX) (f : Addr) (cdv : Value) (B : Around) (outer : List Env) (s : Shared) (H : Hp) (E : XK), Room k (cxOf (CX1 P w) P w K mg base Nm x (defScope st) f cdv B outer s H E).A →
      Raises (cxOf (CX1 P w) P w K mg base Nm x (defScope st) f cdv B outer s H E) (EL mg N RE) → Passes (CX1 P w) (cxOf (CX1 P w) P w K mg base Nm x (defScope st) f cdv B outer s H E) (EL mg N RE) →
      ∀ ds A R, S ds A R RE → ds.length = n → ∃ m, PSs (cxOf (CX1 P w) P w K mg base Nm x (defScope st) f cdv B outer s H E) (defBody st) (upS mg N m) ∧ m { nx := fun _ A' => R .non A', rt := R } (startD (Nm.length - n) ds) A) : FnOk P w K mg base (CX1 P w) (k + 1) fo fd ps (spOf mg n S) := by
  refine T.okX Sc (fun vs H Q E h => ?_) fun f cdv A outer s H vs Q E hr h => ?_
  · obtain ⟨A, ι, ds, R, RE, hl, _, hv, _⟩ := h
    rw [← RVs.length hv, hl, hn]
  · obtain ⟨A0, ι0, ds, R, RE, hl, ra, hv, hS, kq, kx⟩ := h
    have hE : ∀ C a H', EL mg ⟨A0, ι0, H⟩ RE C a H' → E C none H' := fun C a H' z => by
      obtain ⟨c, A', ι', ⟨b, rfl, hc⟩, ex, r, q⟩ := z
      exact kx c A' ι' H' b q hc ex r
    obtain ⟨m, hP, hm⟩ := hbody ⟨A0, ι0, H⟩ RE f cdv A outer s H E hr
      (fun pins σ H1 s1 e h' C args I mx z => raisesX pins σ H1 s1 e h' C args I mx (hE _ _ _ z))
      (fun pins σ H1 s1 e s' I z => passX pins σ H1 s1 e s' I (by
        obtain ⟨a, C, H', h1, h2, h3⟩ := z
        exact ⟨a, C, H', h1, h2, hE _ _ _ h3⟩)) ds A0 R hS hl
    have hlv := RVs.length hv
    refine ⟨_, hP, A0, ι0, _, _, ⟨ra, ⟨?_, fun i d q => ?_⟩, ra.refl⟩, hm, ⟨fun τ A' ι' σ H' q e r _ => kq _ A' ι' H' _ q e r rfl, kq, fun _ _ _ _ _ q _ _ _ => q.elim, fun _ _ _ _ _ q _ _ _ => q.elim⟩⟩
    · simp [startD, L2.start]
      omega
    · obtain ⟨v, h1, h2⟩ := RVs.get hv (lk_start ds _ i d q)
      refine ⟨v, ?_, h2⟩
      have hi := (List.getElem?_eq_some_iff.mp h1).1
      unfold L2.start
      rw [List.getElem?_append_left (by simpa using hi), List.getElem?_map, h1]
      rfl
def SLaw : Ct := fun ds A R _ => ∃ ns, ds = [.fl ns] ∧ ∀ A', R (.bl true) A'
def spFz : Sp := fun vs H Q _ => ∃ (a : Addr) (o : Obj) (ns : List Int), vs = [.ref a] ∧ H a = some (.frz o (.lst (ns.map V.int))) ∧ ∀ H', Q (.bl true) H'
theorem sp_fz {mg : Str → Option Value} {vs : List V} {H : Hp} {Q : VK} {E : XK} (h : spFz vs H Q E) : spOf mg 1 SLaw vs H Q E := by
  obtain ⟨a, o, ns, rfl, h, q⟩ := h
  refine ⟨[], fun _ => a, [.fl ns], fun v _ => v = .bl true, fun _ _ => False, rfl, ⟨fun r c h => by simp at h, fun r s hr => by simp at hr⟩, ⟨_, [], rfl, ⟨a, o, rfl, h⟩, rfl⟩, ⟨ns, rfl, fun _ => rfl⟩, fun v A' ι' H' u e _ _ r => ?_, fun _ _ _ _ _ z => z.elim⟩
  subst e
  cases r
  exact q _
def noL (o : Obj) : Bool := match o.cls with
  | .type t => !(decide (t = "list"))
  | _ => true
theorem no_list {K : PySem.W.Frag} (h : K.all (fun p => noL p.2) = true) {a : Addr} {o : Obj} (e : K.lookup a = some o) : noL o = true := by
  induction K with
  | nil => cases e
  | cons p r ih =>
    have h' : noL p.2 = true ∧ List.all r (fun p => noL p.2) = true := by simpa using h
    rw [List.lookup] at e
    split at e
    · cases e
      exact h'.1
    · exact ih h'.2 e
theorem fz_of {K : PySem.W.Frag} (hK : K.all (fun p => noL p.2) = true) {H : Hp} {a : Addr} {ns : List Int} (hO : Only H) (hS : SqL K H a (ns.map V.int)) : spFz [.ref a] H (fun v _ => v = .bl true) fun _ _ _ => False := by
  rcases hS with (e | ⟨o, e⟩) | ⟨o, its, n, e, c, _⟩
  · rcases hO a with z | ⟨o, xs, z⟩
    · rw [z] at e; cases e
    · rw [z] at e; cases e
  · exact ⟨a, o, ns, rfl, e, fun _ => rfl⟩
  · have := no_list hK e
    unfold noL at this
    rw [c] at this
    simp at this
theorem pur_enc : ∀ m : M, pur (enc m) = true
  | .wt n => by simp [enc, pur, purs]
  | .rod l r a b => by simp [enc, pur, purs, pur_enc a, pur_enc b]
theorem rod_ok : PyData.canLay0 (.str "rod") = true := by decide +kernel
theorem weight_ok : PyData.canLay0 (.str "weight") = true := by decide +kernel
theorem lay_enc : ∀ m : M, (∀ n ∈ m.names, Nm n) → (toQ (enc m)).canLay0 = true
  | .wt n, h => by
    have h1 := (h n (by simp [Mob.names])).ok
    have h2 := weight_ok
    simp only [enc, toQ, toQs]
    simp only [PyData.canLay0, PyData.canLayAll0] at h1 h2 ⊢
    simp [h1, h2]
  | .rod l r a b, h => by
    have h1 := lay_enc a fun n hn => h n (by simp [Mob.names, hn])
    have h2 := lay_enc b fun n hn => h n (by simp [Mob.names, hn])
    have h3 := rod_ok
    simp only [enc, toQ, toQs]
    simp only [PyData.canLay0] at h3
    simp [PyData.canLay0, PyData.canLayAll0, h1, h2, h3]
theorem dep_enc : ∀ m : M, (toQ (enc m)).depth ≤ m.deep + 1
  | .wt n => by
    simp only [enc, toQ, toQs]
    simp [PyData.depth, PyData.depthAll]
  | .rod l r a b => by
    have h1 := dep_enc a
    have h2 := dep_enc b
    simp only [enc, toQ, toQs]
    simp [PyData.depth, PyData.depthAll, Mob.deep]
    omega
theorem top_enc {A : Ar} : ∀ m : M, toP A (enc m) = toQ (enc m)
  | .wt n => rfl
  | .rod l r a b => rfl
theorem ok_enc {A : Ar} : ∀ m : M, okP A (enc m) = pur (enc m)
  | .wt n => rfl
  | .rod l r a b => rfl
end DP
namespace DP
open PySem PySem.Spec PyProof.Rows L2 MA
end DP
namespace My
open PySem PySem.Spec PyProof.Rows L2 DP MA
section
variable {P : Program} {w : World} {K : PySem.W.Frag} {mg : Str → Option Value} {base : Heap}
end
end My
namespace DP
open PySem PySem.Spec PyProof.Rows L2 MA
end DP
namespace My
open PySem PySem.Spec PyProof.Rows L2 DP MA
section
variable {P : Program} {w : World} {K : PySem.W.Frag} {mg : Str → Option Value} {base : Heap}
end
end My
namespace DP
open PySem PySem.Spec PyProof.Rows L2 MA
end DP
namespace My
open PySem PySem.Spec PyProof.Rows L2 DP MA
section
variable {P : Program} {w : World} {K : PySem.W.Frag} {mg : Str → Option Value} {base : Heap}
end
end My
namespace DP
open PySem PySem.Spec PyProof.Rows L2 MA
theorem cps_app (x y : Str) : (x ++ y).cps.toList = x.cps.toList ++ y.cps.toList := Array.toList_append
end DP
namespace My
open PySem PySem.Spec PyProof.Rows L2 DP MA
section
variable {P : Program} {w : World} {K : PySem.W.Frag} {mg : Str → Option Value} {base : Heap}
end
end My
namespace DP
open PySem PySem.Spec PyProof.Rows L2 MA
end DP
namespace My
open PySem PySem.Spec PyProof.Rows L2 DP MA
section
variable {P : Program} {w : World} {K : PySem.W.Frag} {mg : Str → Option Value} {base : Heap}
end
end My
namespace DP
open PySem PySem.Spec PyProof.Rows L2 MA
end DP
namespace My
open PySem PySem.Spec PyProof.Rows L2 DP MA
section
variable {P : Program} {w : World} {K : PySem.W.Frag} {mg : Str → Option Value} {base : Heap}
end
end My
namespace DP
open PySem PySem.Spec PyProof.Rows L2 MA
end DP
namespace DP
open PySem PySem.Spec PyProof.Rows L2
theorem boot_ValueError : bootBuiltins "ValueError" = some (.type "ValueError") := by decide +kernel
def SWh (nm : Str) (j : Nat) : Ct := fun ds A R _ => ds = [.exc nm] ∧ ∀ A', Gr A A' → R (.tup [.str "refused", .int (j : Nat)]) A'
end DP
namespace My
open PySem PySem.Spec PyProof.Rows L2 DP MA
section
variable {P : Program} {w : World} {K : PySem.W.Frag} {mg : Str → Option Value} {base : Heap}
end
end My
namespace DP
open PySem PySem.Spec PyProof.Rows L2
end DP
namespace My
open PySem PySem.Spec PyProof.Rows L2 DP MA
section
variable {P : Program} {w : World} {K : PySem.W.Frag} {mg : Str → Option Value} {base : Heap}
end
end My
namespace DP
open PySem PySem.Spec PyProof.Rows L2 MA
theorem pur_od : ∀ o : Option M, pur (od o) = true
  | some m => pur_enc m
  | none => rfl
theorem lay_od : ∀ o : Option M, (∀ m, o = some m → ∀ n ∈ m.names, Nm n) → (toQ (od o)).canLay0 = true
  | some m, h => lay_enc m (h m rfl)
  | none, _ => rfl
theorem eqv_od : ∀ o : Option M, PyData.eqv (toQ (od o)) .none = !o.isSome
  | some (.wt n) => by simp [od, enc, toQ, PyData.eqv]
  | some (.rod l r a b) => by simp [od, enc, toQ, PyData.eqv]
  | none => by simp [od, toQ, PyData.eqv]
theorem nin_od {o p : Option M} {A : Ar} {R : DK} (h1 : ∀ m, o = some m → ∀ n ∈ m.names, Nm n) (h2 : ∀ m, p = some m → ∀ n ∈ m.names, Nm n) (k : R (.bl (o.isSome && p.isSome)) A) : inPT true .non [od o, od p] A R := by
  unfold inPT
  have e : ((toQs [od o, od p]).any fun z => PyData.eqv z (toP A .non)) = !(o.isSome && p.isSome) := by
    have e0 : toP A .non = PyData.none := rfl
    simp only [toQs, List.any_cons, List.any_nil, e0, eqv_od]
    cases o.isSome <;> cases p.isSome <;> rfl
  refine ⟨rfl, ?_, ?_, rfl, ?_, ?_⟩
  · simp [purs, pur_od]
  · simp [toQs, PyData.canLayAll0, lay_od o h1, lay_od p h2]
  · have e0 : toP A .non = PyData.none := rfl
    rw [e0]
    simp [PyData.depth]
  · rw [e, if_pos rfl, Bool.not_not]
    exact k
end DP
namespace My
open PySem PySem.Spec PyProof.Rows L2 DP MA
section
variable {P : Program} {w : World} {K : PySem.W.Frag} {mg : Str → Option Value} {base : Heap}
end
end My
namespace DP
open PySem PySem.Spec PyProof.Rows L2 MA
end DP
namespace DP
open PySem PySem.Spec PyProof.Rows L2 MA
end DP
namespace My
open PySem PySem.Spec PyProof.Rows L2 DP MA
section
variable {P : Program} {w : World} {K : PySem.W.Frag} {mg : Str → Option Value} {base : Heap}
end
end My
namespace DP
open PySem PySem.Spec PyProof.Rows L2 MA
end DP
namespace DP
open PySem PySem.Spec PyProof.Rows L2 MA
end DP
namespace My
open PySem PySem.Spec PyProof.Rows L2 DP MA
section
variable {P : Program} {w : World} {K : PySem.W.Frag} {mg : Str → Option Value} {base : Heap}
end
end My
namespace DP
open PySem PySem.Spec PyProof.Rows L2 MA
def decM : ∀ x y : M, Decidable (x = y)
  | .wt a, .wt b => if h : a = b then .isTrue (by rw [h]) else .isFalse fun z => h (by injection z)
  | .wt _, .rod _ _ _ _ => .isFalse fun z => by cases z
  | .rod _ _ _ _, .wt _ => .isFalse fun z => by cases z
  | .rod l r a b, .rod l' r' a' b' =>
    if h1 : l = l' then if h2 : r = r' then match decM a a', decM b b' with
      | .isTrue h3, .isTrue h4 => .isTrue (by rw [h1, h2, h3, h4])
      | .isFalse h3, _ => .isFalse fun z => h3 (by injection z)
      | _, .isFalse h4 => .isFalse fun z => h4 (by injection z)
    else .isFalse fun z => h2 (by injection z) else .isFalse fun z => h1 (by injection z)
instance : DecidableEq M := decM
theorem noB_enc : ∀ m : M, noB (toQ (enc m)) = true
  | .wt n => by simp [enc, toQ, toQs, noB, noBs]
  | .rod l r a b => by simp [enc, toQ, toQs, noB, noBs, noB_enc a, noB_enc b]
theorem toQ_inj : ∀ x y : M, toQ (enc x) = toQ (enc y) → x = y
  | .wt n, .wt m, h => by simp [enc, toQ, toQs] at h; rw [h]
  | .wt n, .rod _ _ _ _, h => by simp [enc, toQ, toQs] at h
  | .rod _ _ _ _, .wt n, h => by simp [enc, toQ, toQs] at h
  | .rod l r a b, .rod l' r' a' b', h => by
    simp only [enc, toQ, toQs, PyData.tuple.injEq, List.cons.injEq, PyData.int.injEq, true_and, and_true] at h
    obtain ⟨h1, h2, h3, h4⟩ := h
    rw [h1, h2, toQ_inj a a' h3, toQ_inj b b' h4]
theorem eqv_encs (x y : M) : PyData.eqv (toQ (enc x)) (toQ (enc y)) = decide (x = y) := by
  rw [Bool.eq_iff_iff, eqv_iff _ _ (noB_enc x) (noB_enc y), decide_eq_true_eq]
  exact ⟨toQ_inj x y, fun h => by rw [h]⟩
end DP
namespace DP
open PySem PySem.Spec PyProof.Rows L2 MA
theorem eq_encs {x y : M} {A : Ar} {R : DK} (hx : ∀ n ∈ x.names, Nm n) (hy : ∀ n ∈ y.names, Nm n) (hd : x.deep ≤ 60) (k : R (.bl (decide (x = y))) A) : dataEq false (enc x) (enc y) A R := by
  unfold dataEq
  rw [top_enc, top_enc, ok_enc, ok_enc, pur_enc, pur_enc]
  have := dep_enc x
  refine ⟨rfl, rfl, lay_enc x hx, lay_enc y hy, by omega, ?_⟩
  rw [eqv_encs]
  exact k
theorem eqD_encs {x y : M} {A : Ar} {R : DK} (hx : ∀ n ∈ x.names, Nm n) (hy : ∀ n ∈ y.names, Nm n) (hd : x.deep ≤ 60) (k : R (.bl (decide (x = y))) A) : eqD (enc x) (enc y) A R := by
  have h := eq_encs hx hy hd k
  cases x <;> cases y <;> exact h
end DP
namespace My
open PySem PySem.Spec PyProof.Rows L2 DP MA
section
variable {P : Program} {w : World} {K : PySem.W.Frag} {mg : Str → Option Value} {base : Heap}
end
end My
namespace DP
open PySem PySem.Spec PyProof.Rows L2 MA
end DP
namespace My
open PySem PySem.Spec PyProof.Rows L2 DP MA
section
variable {P : Program} {w : World} {K : PySem.W.Frag} {mg : Str → Option Value} {base : Heap}
end
end My
namespace DP
open PySem PySem.Spec PyProof.Rows L2 MA
end DP
namespace My
open PySem PySem.Spec PyProof.Rows L2 DP MA
section
variable {P : Program} {w : World} {K : PySem.W.Frag} {mg : Str → Option Value} {base : Heap}
end
end My
namespace DP
open PySem PySem.Spec PyProof.Rows L2 MA
end DP
namespace My
open PySem PySem.Spec PyProof.Rows L2 DP MA
section
variable {P : Program} {w : World} {K : PySem.W.Frag} {mg : Str → Option Value} {base : Heap}
end
end My
namespace DP
open PySem PySem.Spec PyProof.Rows L2 MA
section
variable {rs : List (Str × Int)} {s : Str → Rat} {ns : List Str} {κ : Rat}
end
end DP
namespace DP
open PySem PySem.Spec PyProof.Rows L2 MA
section
variable {m : M} {ys : List Str} {gs : List (Str × Int)} {κ : Rat}
end
end DP
namespace DP
open PySem PySem.Spec PyProof.Rows L2 MA
end DP
namespace My
open PySem PySem.Spec PyProof.Rows L2 DP MA
section
variable {P : Program} {w : World} {K : PySem.W.Frag} {mg : Str → Option Value} {base : Heap}
end
end My
namespace DP
open PySem PySem.Spec PyProof.Rows L2 MA
end DP
namespace DP
open PySem PySem.Spec PyProof.Rows L2 MA
end DP
namespace DP
open PySem PySem.Spec PyProof.Rows L2 MA
end DP
namespace My
open PySem PySem.Spec PyProof.Rows L2 DP MA
section
variable {P : Program} {w : World} {K : PySem.W.Frag} {mg : Str → Option Value} {base : Heap}
end
end My
namespace DP
open PySem PySem.Spec PyProof.Rows L2 MA
end DP
namespace My
open PySem PySem.Spec PyProof.Rows L2 DP MA
section
variable {P : Program} {w : World} {K : PySem.W.Frag} {mg : Str → Option Value} {base : Heap}
end
end My
namespace DP
open PySem PySem.Spec PyProof.Rows L2 MA
def rfd (j : Nat) : D := .tup [.str "refused", .int j]
theorem lay_rfd (j : Nat) : (toQ (rfd j)).canLay0 = true := by
  show PyData.canLay0 (.tuple [.str "refused", .int j]) = true
  simp only [PyData.canLay0, PyData.canLayAll0, Bool.and_true]
  decide +kernel
theorem q_rfd {neg : Bool} {j : Nat} {A : Ar} {R : DK} (k : R (.bl (!neg)) A) : dataEq neg (rfd j) (.tup [.str "refused", .int j]) A R := by
  unfold dataEq
  have c := lay_rfd j
  have h1 : toP A (rfd j) = toQ (rfd j) := rfl
  have h2 : toP A (.tup [.str "refused", .int j]) = toQ (rfd j) := rfl
  rw [h1, h2]
  refine ⟨rfl, rfl, c, c, ?_, ?_⟩
  · show min (PyData.depth (.tuple [.str "refused", .int j])) (PyData.depth (.tuple [.str "refused", .int j])) ≤ 64
    simp [PyData.depth, PyData.depthAll]
  · rw [PySem.SeqAt.eqv_refl _ c]
    cases neg <;> exact k
end DP
namespace My
open PySem PySem.Spec PyProof.Rows L2 DP MA
section
variable {P : Program} {w : World} {K : PySem.W.Frag} {mg : Str → Option Value} {base : Heap}
end
end My
namespace DP
open PySem PySem.Spec PyProof.Rows L2 MA
def SWb (d : Nat) : Ct := fun ds A R _ => ∃ m, ds = [enc m] ∧ Wf m ∧ m.deep < d ∧ (txt m).length ≤ 1000 ∧ ∀ A', Gr A A' → R (.str (txt m)) A'
def SWrA : Ct := fun ds A R E => ∃ x, ds = [x] ∧ okA A x = true ∧ ((isMob 5 x = false ∧ ∀ A', Gr A A' → E "NoMobile" A') ∨ ∃ m, x = enc m ∧ Wf m ∧ m.deep ≤ 5 ∧ ∀ A', Gr A A' → R (.str (txt m)) A')
theorem txt_1000 {m : M} (h : Wf m) (d : m.deep ≤ 5) : (txt m).length ≤ 1000 := by
  have := txt_len h
  have e : 2 ^ m.deep ≤ 2 ^ 5 := Nat.pow_le_pow_right (by decide) d
  omega
theorem emp_app (x : Str) : Str.empty ++ x = x := by
  obtain ⟨c⟩ := x
  show (⟨#[] ++ c⟩ : Str) = ⟨c⟩
  simp
theorem txt_fuse {l r : Int} {a b : M} (l1 : 1 ≤ l) (l9 : l ≤ 9) (r1 : 1 ≤ r) (r9 : r ≤ 9) (h : (txt (.rod l r a b)).length ≤ 1000) : (itS l).length = 1 ∧ (itS r).length = 1 ∧ (txt a).length + (txt b).length + 7 = (txt (.rod l r a b)).length := by
  have e1 : (itS l).length = 1 := by rw [itS1 l1 l9]; rfl
  have e2 : (itS r).length = 1 := by rw [itS1 r1 r9]; rfl
  refine ⟨e1, e2, ?_⟩
  show _ = ((((((((("(" : Str) ++ itS l) ++ ":") ++ itS r) ++ " ") ++ txt a) ++ " ") ++ txt b) ++ ")").length
  simp only [len_app, e1, e2]
  rw [show ("(" : Str).length = 1 by decide +kernel, show (":" : Str).length = 1 by decide +kernel, show (" " : Str).length = 1 by decide +kernel, show (")" : Str).length = 1 by decide +kernel]
  omega
theorem jvI {me : DTE} {m : DTJ} {τ : DSt} {A : Ar} {acc : Str} {R : Str → Ar → Prop} {i : Int} (h : ∀ Q : DK, Q (.int i) A → me τ A Q) (hi : i.natAbs.log2 < 1920) (k1 : (itS i).length ≤ sizeLine) (k2 : acc.length + (itS i).length ≤ sizeLine) (k : m τ A (acc ++ itS i) R) : dJv me m τ A acc R := by
  refine h _ ?_
  have e : fmtD (.int i) = some (itS i) := if_pos hi
  show (match fmtD (.int i) with
  | some y => y.length ≤ sizeLine ∧ acc.length + y.length ≤ sizeLine ∧ m τ A (acc ++ y) R
  | none => False)
  rw [e]
  exact ⟨k1, k2, k⟩
theorem lg {i : Int} (h1 : 0 ≤ i) (h2 : i ≤ 1000) : i.natAbs.log2 < 1920 := by
  have : i.natAbs ≤ 1000 := by omega
  have := Nat.log2_le_self i.natAbs
  omega
theorem c_emp : Str.empty.length = 0 := rfl
theorem c_par : ("(" : Str).length = 1 := by decide +kernel
theorem c_col : (":" : Str).length = 1 := by decide +kernel
theorem c_spc : (" " : Str).length = 1 := by decide +kernel
theorem c_cls : (")" : Str).length = 1 := by decide +kernel
end DP
namespace My
open PySem PySem.Spec PyProof.Rows L2 DP MA
section
variable {P : Program} {w : World} {K : PySem.W.Frag} {mg : Str → Option Value} {base : Heap}
theorem f_wb (T : TopD K mg "written_below" s_written_below p_written_below) : ∀ d, FnX P w K mg base (d + 1) "written_below" p_written_below (spOf mg 1 (SWb d)) := by
  intro d
  induction d with
  | zero =>
    refine fnNo T fun ds A R RE h => ?_
    obtain ⟨m, _, _, h, _⟩ := h
    omega
  | succ d F_written_below =>
    refine fnD T sc_written_below rfl (by decide) fun N RE f cdv B outer s H E hr hR hx ds A R h hl => ?_
    have hu := hr.units
    have nd := sc_written_below.nd
    refine ⟨_, (dss_cons (ds_if (t_eq hu (de_ix hu (vr 0) de_int (fun _ _ => rfl)) de_str) (dss_one (ds_ret (de_ix hu (vr 0) de_int (fun _ _ => rfl)))) dss_nil)
    (dss_cons (ds_set (i := 1) nd rfl (by first | exact Or.inl rfl | exact Or.inr rfl) (de_ix hu (vr 0) de_int (fun _ _ => rfl)))
    (dss_cons (ds_set (i := 2) nd rfl (by first | exact Or.inl rfl | exact Or.inr rfl) (de_ix hu (vr 0) de_int (fun _ _ => rfl)))
    (dss_cons (ds_set (i := 3) nd rfl (by first | exact Or.inl rfl | exact Or.inr rfl) (de_call F_written_below (hr.mono (by omega)) hx (da_cons (de_ix hu (vr 0) de_int (fun _ _ => rfl)) da_nil)))
    (dss_cons (ds_set (i := 4) nd rfl (by first | exact Or.inl rfl | exact Or.inr rfl) (de_call F_written_below (hr.mono (by omega)) hx (da_cons (de_ix hu (vr 0) de_int (fun _ _ => rfl)) da_nil)))
    (dss_one (ds_ret (de_join (dj_con (dj_val (vr 1) (dj_con (dj_val (vr 2) (dj_con (dj_val (vr 3) (dj_con (dj_val (vr 4) (dj_con dj_nil))))))))))))))))), ?_⟩
    obtain ⟨m, rfl, wm, hd, hlen, q⟩ := h
    have hz : (2000 : Nat) ≤ sizeLine := by decide
    cases m with
    | wt n => exact q _ Gr.refl
    | rod l r a b =>
      obtain ⟨l1, l9, r1, r9, ha, hb⟩ := wm.arms
      obtain ⟨e1, e2, e3⟩ := txt_fuse l1 l9 r1 r9 hlen
      have dm : max a.deep b.deep + 1 < d + 1 := hd
      refine ⟨rfl, a, rfl, wm.left, by omega, by omega, fun A1 g1 => ?_⟩
      refine ⟨rfl, b, rfl, wm.right, by omega, by omega, fun A2 g2 => ?_⟩
      refine ⟨?_, jvI (i := l) (fun Q q => q) (lg (by omega) (by omega)) (by omega) ?_ ⟨?_, jvI (i := r) (fun Q q => q) (lg (by omega) (by omega)) (by omega) ?_ ⟨?_, ?_, ?_, ?_, ?_, ?_, ?_, ?_, ?_⟩⟩⟩
      all_goals try first | omega | (simp only [len_app, emp_app, e1, e2, c_emp, c_par, c_col, c_spc, c_cls]; omega)
      rw [emp_app]
      exact q _ (g1.trans g2)
theorem f_wrA (T : TopD K mg "written" s_written p_written) (F_check_mobile : FnX P w K mg base 9 "check_mobile" p_check_mobile (spOf mg 1 SChkA)) (F_written_below : FnX P w K mg base 7 "written_below" p_written_below (spOf mg 1 (SWb 6))) : FnX P w K mg base 10 "written" p_written (spOf mg 1 SWrA) := by
  refine fnD T sc_written rfl (by decide) fun N RE f cdv B outer s H E hr hR hx ds A R h hl => ?_
  have hu := hr.units
  refine ⟨_, (dss_cons (ds_expr (de_call F_check_mobile (hr.mono (by omega)) hx (da_cons (vr 0) da_nil)))
    (dss_one (ds_ret (de_call F_written_below (hr.mono (by omega)) hx (da_cons (vr 0) da_nil))))), ?_⟩
  obtain ⟨x, rfl, kx, h⟩ := h
  refine ⟨rfl, x, rfl, kx, fun A1 g1 => ?_⟩
  rcases h with ⟨hm, q⟩ | ⟨m, rfl, wm, dm, q⟩
  · rw [hm]
    exact q _ g1
  · rw [isMob_enc wm dm]
    exact ⟨rfl, m, rfl, wm, by omega, txt_1000 wm dm, fun A2 g2 => q _ (g1.trans g2)⟩
end
end My
namespace DP
open PySem PySem.Spec PyProof.Rows L2 MA
def lt1 (c : Nat) : Bool := decide (97 ≤ c) && decide (c ≤ 122)
def dg1 (c : Nat) : Bool := decide (49 ≤ c) && decide (c ≤ 57)
def hd1 (c : Nat) : List Nat → Option (List Nat)
  | x :: r => if x = c then some r else none
  | [] => none
def dgA : List Nat → Option (Nat × List Nat)
  | a :: r => if dg1 a = true then some (a, r) else none
  | [] => none
def nmN (cs : List Nat) : Nat := ((cs.take 3).takeWhile lt1).length
def nmA (cs : List Nat) : Option (M × List Nat) := if nmN cs = 0 then none else some (.wt (S (cs.take (nmN cs))), cs.drop (nmN cs))
def rdI (a b : Nat) : Int × Int := (((a - 48 : Nat) : Int), ((b - 48 : Nat) : Int))
def rdC : Nat → List Nat → Option (M × List Nat)
  | 0, cs => match hd1 40 cs with
    | none => nmA cs
    | some _ => none
  | d + 1, cs => match hd1 40 cs with
    | none => nmA cs
    | some t => match dgA t with
      | none => none
      | some (a, t1) => match hd1 58 t1 with
        | none => none
        | some t2 => match dgA t2 with
          | none => none
          | some (b, t3) => match hd1 32 t3 with
            | none => none
            | some t4 => match rdC d t4 with
              | none => none
              | some (m1, r1) => match hd1 32 r1 with
                | none => none
                | some t5 => match rdC d t5 with
                  | none => none
                  | some (m2, r2) => match hd1 41 r2 with
                    | none => none
                    | some r => some (.rod (rdI a b).1 (rdI a b).2 m1 m2, r)
def rdT (cs : List Nat) : Option M := match rdC 5 cs with
  | some (m, []) => some m
  | _ => none
theorem hd1_some {c : Nat} {cs r : List Nat} (h : hd1 c cs = some r) : cs = c :: r := by
  cases cs with
  | nil => cases h
  | cons x t =>
    simp [hd1] at h
    rw [h.1, h.2]
theorem hd1_cons (c : Nat) (r : List Nat) : hd1 c (c :: r) = some r := by simp [hd1]
theorem hd1_none {c : Nat} {cs : List Nat} (h : ∀ x r, cs = x :: r → x ≠ c) : hd1 c cs = none := by
  cases cs with
  | nil => rfl
  | cons x t => simp [hd1, h x t rfl]
theorem dgA_some {cs r : List Nat} {a : Nat} (h : dgA cs = some (a, r)) : cs = a :: r ∧ 49 ≤ a ∧ a ≤ 57 := by
  cases cs with
  | nil => cases h
  | cons x t =>
    simp [dgA, dg1] at h
    obtain ⟨h1, h2, h3⟩ := h
    subst h2 h3
    exact ⟨rfl, h1⟩
theorem dgA_cons {a : Nat} {r : List Nat} (h : 49 ≤ a ∧ a ≤ 57) : dgA (a :: r) = some (a, r) := by
  simp [dgA, dg1, h.1, h.2]
theorem tw_all (p : Nat → Bool) : ∀ l : List Nat, ∀ c ∈ l.takeWhile p, p c = true := fun l c hc => by
  induction l with
  | nil => cases hc
  | cons x l ih =>
    rw [List.takeWhile_cons] at hc
    split at hc
    · rcases List.mem_cons.mp hc with rfl | h
      · assumption
      · exact ih h
    · cases hc
theorem tw_pre (p : Nat → Bool) : ∀ l : List Nat, l.takeWhile p = l.take (l.takeWhile p).length := fun l => by
  induction l with
  | nil => rfl
  | cons x l ih =>
    rw [List.takeWhile_cons]
    split
    · rw [List.length_cons, List.take_succ_cons, ← ih]
    · rfl
theorem nmN_le (cs : List Nat) : nmN cs ≤ 3 ∧ nmN cs ≤ cs.length := by
  have h := (List.takeWhile_prefix (p := lt1) (l := cs.take 3)).length_le
  rw [List.length_take] at h
  unfold nmN
  omega
theorem nm_take (cs : List Nat) : cs.take (nmN cs) = (cs.take 3).takeWhile lt1 := by
  have h := tw_pre lt1 (cs.take 3)
  rw [h]
  show _ = List.take (nmN cs) (cs.take 3)
  rw [List.take_take, Nat.min_eq_left (nmN_le cs).1]
theorem nm_Nm {cs : List Nat} (h : nmN cs ≠ 0) : Nm (S (cs.take (nmN cs))) := by
  have h1 := nmN_le cs
  have e : (S (cs.take (nmN cs))).length = nmN cs := by rw [S_len, List.length_take]; omega
  refine ⟨by omega, by omega, fun c hc => ?_⟩
  rw [S_cps, nm_take] at hc
  have := tw_all lt1 _ c hc
  unfold lt1 at this
  simp at this
  exact this
theorem nmA_some {cs r : List Nat} {m : M} (h : nmA cs = some (m, r)) : ∃ n, m = .wt n ∧ Nm n ∧ cs = n.cps.toList ++ r := by
  unfold nmA at h
  split at h
  · cases h
  · rename_i h0
    cases h
    exact ⟨_, rfl, nm_Nm h0, by rw [S_cps, List.take_append_drop]⟩
theorem nmA_go {n : Str} {r : List Nat} (hn : Nm n) (hr : let1 r = false) : nmA (n.cps.toList ++ r) = some (.wt n, r) := by
  have ln : n.length = n.cps.toList.length := by simp [Str.length]
  have h1 := hn.lo
  have h3 := hn.hi
  have e : ((n.cps.toList ++ r).take 3).takeWhile lt1 = n.cps.toList := by
    have e1 : (n.cps.toList ++ r).take 3 = n.cps.toList ++ r.take (3 - n.length) := by
      rw [List.take_append, List.take_of_length_le (by omega), ln]
    rw [e1, List.takeWhile_append_of_pos (fun c hc => by have := hn.az c hc; simp [lt1, this.1, this.2])]
    have e2 : (r.take (3 - n.length)).takeWhile lt1 = [] := by
      cases r with
      | nil => simp
      | cons x r =>
        cases hk : 3 - n.length with
        | zero => simp
        | succ k =>
          have hx : lt1 x = false := hr
          simp [List.take_succ_cons, hx]
    rw [e2, List.append_nil]
  have en : nmN (n.cps.toList ++ r) = n.cps.toList.length := by unfold nmN; rw [e]
  unfold nmA
  rw [en, if_neg (by omega), List.take_left, List.drop_left, S_self]
theorem wf_wt {n : Str} (h : Nm n) : Wf (.wt n) := ⟨trivial, fun x hx => by
  simp [Mob.names] at hx
  rw [hx]
  exact h⟩
theorem wf_rod {l r : Int} {a b : M} (h1 : 1 ≤ l) (h2 : l ≤ 9) (h3 : 1 ≤ r) (h4 : r ≤ 9) (ha : Wf a) (hb : Wf b) : Wf (.rod l r a b) := ⟨⟨h1, h2, h3, h4, ha.1, hb.1⟩, fun x hx => by
  simp [Mob.names] at hx
  rcases hx with h | h
  · exact ha.nm x h
  · exact hb.nm x h⟩
theorem rdC_name {cs r : List Nat} {m : M} {d : Nat} (h : nmA cs = some (m, r)) : cs = (txt m).cps.toList ++ r ∧ Wf m ∧ m.deep ≤ d := by
  obtain ⟨n, rfl, hn, e⟩ := nmA_some h
  exact ⟨e, wf_wt hn, Nat.zero_le _⟩
theorem rdC_sound : ∀ (d : Nat) (cs r : List Nat) (m : M), rdC d cs = some (m, r) → cs = (txt m).cps.toList ++ r ∧ Wf m ∧ m.deep ≤ d
  | 0, cs, r, m, h => by
    unfold rdC at h
    split at h
    · exact rdC_name h
    · cases h
  | d + 1, cs, r, m, h => by
    unfold rdC at h
    split at h
    · exact rdC_name h
    rename_i t h0
    split at h
    · cases h
    rename_i a t1 h1
    split at h
    · cases h
    rename_i t2 h2
    split at h
    · cases h
    rename_i b t3 h3
    split at h
    · cases h
    rename_i t4 h4
    split at h
    · cases h
    rename_i m1 r1 h5
    split at h
    · cases h
    rename_i t5 h6
    split at h
    · cases h
    rename_i m2 r2 h7
    split at h
    · cases h
    rename_i r3 h8
    cases h
    obtain ⟨e5, w1, d1⟩ := rdC_sound d _ _ _ h5
    obtain ⟨e7, w2, d2⟩ := rdC_sound d _ _ _ h7
    obtain ⟨e1, a1, a2⟩ := dgA_some h1
    obtain ⟨e3, b1, b2⟩ := dgA_some h3
    have hl : (rdI a b).1 = ((a - 48 : Nat) : Int) := rfl
    have hr : (rdI a b).2 = ((b - 48 : Nat) : Int) := rfl
    have l1 : 1 ≤ (rdI a b).1 := by omega
    have l9 : (rdI a b).1 ≤ 9 := by omega
    have k1 : 1 ≤ (rdI a b).2 := by omega
    have k9 : (rdI a b).2 ≤ 9 := by omega
    refine ⟨?_, wf_rod l1 l9 k1 k9 w1 w2, ?_⟩
    · rw [txt_cps l1 l9 k1 k9, hd1_some h0, e1, hd1_some h2, e3, hd1_some h4, e5, hd1_some h6, e7, hd1_some h8]
      have ea : 48 + (rdI a b).1.toNat = a := by omega
      have eb : 48 + (rdI a b).2.toNat = b := by omega
      rw [ea, eb]
      simp
    · show max m1.deep m2.deep + 1 ≤ d + 1
      omega
theorem nm_hd {n : Str} {r : List Nat} (h : Nm n) : hd1 40 (n.cps.toList ++ r) = none := by
  have ln : n.length = n.cps.toList.length := by simp [Str.length]
  have h1 := h.lo
  cases e : n.cps.toList with
  | nil => rw [e] at ln; simp at ln; omega
  | cons c cs =>
    have := h.az c (by rw [e]; simp)
    exact hd1_none fun x t he => by
      cases he
      omega
theorem rdC_go : ∀ (d : Nat) (m : M) (r : List Nat), Wf m → m.deep ≤ d → let1 r = false → rdC d ((txt m).cps.toList ++ r) = some (m, r)
  | d, .wt n, r, hw, _, hr => by
    have hn := hw.nm n (by simp [Mob.names])
    have e0 := nm_hd (r := r) hn
    have e1 := nmA_go hn hr
    cases d with
    | zero =>
      unfold rdC
      show (match hd1 40 (n.cps.toList ++ r) with | none => nmA (n.cps.toList ++ r) | some _ => none) = _
      rw [e0]
      exact e1
    | succ d =>
      unfold rdC
      rw [show (txt (.wt n)).cps.toList = n.cps.toList from rfl, e0]
      exact e1
  | 0, .rod l k a b, r, hw, hd, hr => absurd hd (by show ¬ max a.deep b.deep + 1 ≤ 0; omega)
  | d + 1, .rod l k a b, r, hw, hd, hr => by
    have hd : max a.deep b.deep + 1 ≤ d + 1 := hd
    obtain ⟨l1, l9, k1, k9, _, _⟩ := hw.arms
    have i1 := rdC_go d a (32 :: ((txt b).cps.toList ++ (41 :: r))) hw.left (by omega) rfl
    have i2 := rdC_go d b (41 :: r) hw.right (by omega) rfl
    have e0 : (txt (.rod l k a b)).cps.toList ++ r = 40 :: (48 + l.toNat) :: 58 :: (48 + k.toNat) :: 32 :: ((txt a).cps.toList ++ (32 :: ((txt b).cps.toList ++ (41 :: r)))) := by
      rw [txt_cps l1 l9 k1 k9]
      simp
    rw [e0]
    unfold rdC
    rw [hd1_cons]
    simp only
    rw [dgA_cons (by omega)]
    simp only
    rw [hd1_cons]
    simp only
    rw [dgA_cons (by omega)]
    simp only
    rw [hd1_cons]
    simp only
    rw [i1]
    simp only
    rw [hd1_cons]
    simp only
    rw [i2]
    simp only
    rw [hd1_cons]
    simp only
    have el : (rdI (48 + l.toNat) (48 + k.toNat)).1 = l := by show ((48 + l.toNat - 48 : Nat) : Int) = l; omega
    have ek : (rdI (48 + l.toNat) (48 + k.toNat)).2 = k := by show ((48 + k.toNat - 48 : Nat) : Int) = k; omega
    rw [el, ek]
theorem rdT_iff {cs : List Nat} {m : M} : rdT cs = some m ↔ cs = (txt m).cps.toList ∧ Wf m ∧ m.deep ≤ 5 := by
  unfold rdT
  constructor
  · intro h
    split at h
    · rename_i m' e
      cases h
      have := rdC_sound 5 _ _ _ e
      rw [List.append_nil] at this
      exact this
    · cases h
  · rintro ⟨rfl, hw, hd⟩
    have := rdC_go 5 m [] hw hd rfl
    rw [List.append_nil] at this
    rw [this]
def upD (c : Nat) : Int := (if c = 40 then 1 else 0) - (if c = 41 then 1 else 0)
def lsc : List Nat → Int → Nat → List Nat
  | [], _, _ => []
  | c :: r, z, i => (if c = 32 ∧ z + upD c = 0 then [i] else []) ++ lsc r (z + upD c) (i + 1)
def lprt (cs : List Nat) : Option (List Nat × List Nat) := match lsc cs 0 0 with
  | [i] => some (cs.take i, cs.drop (i + 1))
  | _ => none
def isN (cs : List Nat) : Bool := decide (1 ≤ cs.length) && decide (cs.length ≤ 3) && cs.all lt1
def shp (cs : List Nat) : Bool := decide (8 ≤ cs.length) && decide (cs[0]? = some 40) && decide (cs[cs.length - 1]? = some 41) && decide (cs[2]? = some 58) && decide (cs[4]? = some 32)
def dgs (cs : List Nat) : Bool := (cs[1]?.any dg1) && (cs[3]?.any dg1)
def lrd : Nat → List Nat → Option M
  | 0, cs => if isN cs = true then some (.wt (S cs)) else none
  | d + 1, cs => if isN cs = true then some (.wt (S cs)) else if shp cs = true ∧ dgs cs = true then (match lprt ((cs.drop 5).take (cs.length - 6)) with
    | none => none
    | some (p, q) => match lrd d p, lrd d q with
      | some m1, some m2 => some (.rod (rdI (cs.getD 1 0) (cs.getD 3 0)).1 (rdI (cs.getD 1 0) (cs.getD 3 0)).2 m1 m2)
      | _, _ => none) else none
theorem lsc_mem : ∀ (cs : List Nat) (z : Int) (i j : Nat), j ∈ lsc cs z i → i ≤ j ∧ cs[j - i]? = some 32
  | [], _, _, _, h => by cases h
  | c :: r, z, i, j, h => by
    unfold lsc at h
    rcases List.mem_append.mp h with h | h
    · split at h
      · rename_i e
        rw [List.mem_singleton.mp h]
        simp [e.1]
      · cases h
    · obtain ⟨h1, h2⟩ := lsc_mem r _ _ _ h
      refine ⟨by omega, ?_⟩
      rw [show j - i = (j - (i + 1)) + 1 by omega]
      simpa using h2
theorem lprt_some {cs p q : List Nat} (h : lprt cs = some (p, q)) : cs = p ++ 32 :: q := by
  unfold lprt at h
  split at h
  · rename_i i e
    cases h
    obtain ⟨_, h2⟩ := lsc_mem cs 0 0 i (by rw [e]; simp)
    rw [Nat.sub_zero] at h2
    obtain ⟨hl, he⟩ := List.getElem?_eq_some_iff.mp h2
    rw [← he, List.getElem_cons_drop, List.take_append_drop]
  · cases h
theorem lsc_cons (c : Nat) (r : List Nat) (z : Int) (i : Nat) : lsc (c :: r) z i = (if c = 32 ∧ z + upD c = 0 then [i] else []) ++ lsc r (z + upD c) (i + 1) := rfl
theorem lsc_app : ∀ (a b : List Nat) (z : Int) (i : Nat), lsc (a ++ b) z i = lsc a z i ++ lsc b (z + (a.map upD).sum) (i + a.length)
  | [], b, z, i => by simp [lsc]
  | c :: a, b, z, i => by
    rw [List.cons_append, lsc_cons, lsc_cons]
    have e1 : z + ((c :: a).map upD).sum = z + upD c + (a.map upD).sum := by rw [List.map_cons, List.sum_cons]; omega
    have e2 : i + (c :: a).length = i + 1 + a.length := by rw [List.length_cons]; omega
    rw [lsc_app a b, List.append_assoc, e1, e2]
theorem up0 {c : Nat} (h1 : c ≠ 40) (h2 : c ≠ 41) : upD c = 0 := by simp [upD, h1, h2]
theorem lsc_no32 : ∀ (cs : List Nat) (z : Int) (i : Nat), (∀ c ∈ cs, c ≠ 32) → lsc cs z i = []
  | [], _, _, _ => rfl
  | c :: r, z, i, h => by
    unfold lsc
    rw [if_neg (fun e => h c (by simp) e.1), lsc_no32 r _ _ (fun x hx => h x (by simp [hx]))]
    rfl
theorem txt_lsc : ∀ (m : M), Wf m → ((txt m).cps.toList.map upD).sum = 0 ∧ ∀ (z : Int) (i : Nat), 0 ≤ z → lsc (txt m).cps.toList z i = []
  | .wt n, hw => by
    have hn := hw.nm n (by simp [Mob.names])
    refine ⟨?_, fun z i _ => lsc_no32 _ _ _ fun c hc => by have := hn.az c hc; omega⟩
    have : ∀ l : List Nat, (∀ c ∈ l, upD c = 0) → (l.map upD).sum = 0 := fun l => by
      induction l with
      | nil => intro _; rfl
      | cons x l ih =>
        intro h
        rw [List.map_cons, List.sum_cons, h x (by simp), ih fun c hc => h c (by simp [hc])]
        rfl
    exact this _ fun c hc => by have := hn.az c hc; exact up0 (by omega) (by omega)
  | .rod l k a b, hw => by
    obtain ⟨l1, l9, k1, k9, _, _⟩ := hw.arms
    obtain ⟨sa, ca⟩ := txt_lsc a hw.left
    obtain ⟨sb, cb⟩ := txt_lsc b hw.right
    have u1 : upD (48 + l.toNat) = 0 := up0 (by omega) (by omega)
    have u2 : upD (48 + k.toNat) = 0 := up0 (by omega) (by omega)
    have u0 : upD 40 = 1 := by decide
    have u9 : upD 41 = -1 := by decide
    have u3 : upD 58 = 0 := by decide
    have u4 : upD 32 = 0 := by decide
    rw [txt_cps l1 l9 k1 k9]
    refine ⟨?_, fun z i hz => ?_⟩
    · simp only [List.map_cons, List.sum_cons, List.map_append, List.sum_append, sa, sb, u0, u1, u2, u3, u4, u9, List.map_nil, List.sum_nil]
      rfl
    · have e1 : ∀ y : Int, y + 0 = y := by intro y; omega
      simp only [lsc, lsc_app, u0, u1, u2, u3, u4, u9, sa, sb, e1]
      rw [ca _ _ (by omega), cb _ _ (by omega)]
      have n1 : ¬ (z + 1 = 0) := by omega
      have n2 : ¬ (48 + l.toNat = 32) := by omega
      have n3 : ¬ (48 + k.toNat = 32) := by omega
      simp [n1, n2, n3]
theorem lprt_go {a b : M} (ha : Wf a) (hb : Wf b) : lprt ((txt a).cps.toList ++ 32 :: (txt b).cps.toList) = some ((txt a).cps.toList, (txt b).cps.toList) := by
  obtain ⟨sa, ca⟩ := txt_lsc a ha
  obtain ⟨sb, cb⟩ := txt_lsc b hb
  have e : lsc ((txt a).cps.toList ++ 32 :: (txt b).cps.toList) 0 0 = [(txt a).cps.toList.length] := by
    rw [lsc_app, ca 0 0 (by omega), sa]
    unfold lsc
    have u4 : upD 32 = 0 := by decide
    rw [u4, cb _ _ (by omega)]
    simp
  unfold lprt
  rw [e]
  simp only
  rw [List.take_left, show (txt a).cps.toList ++ 32 :: (txt b).cps.toList = ((txt a).cps.toList ++ [32]) ++ (txt b).cps.toList by simp, List.drop_left' (by simp)]
theorem isN_Nm {cs : List Nat} (h : isN cs = true) : Nm (S cs) := by
  unfold isN at h
  simp only [Bool.and_eq_true, decide_eq_true_eq, List.all_eq_true] at h
  obtain ⟨⟨h1, h2⟩, h3⟩ := h
  refine ⟨by rw [S_len]; exact h1, by rw [S_len]; exact h2, fun c hc => ?_⟩
  rw [S_cps] at hc
  have := h3 c hc
  unfold lt1 at this
  simp at this
  exact this
theorem Nm_isN {n : Str} (h : Nm n) : isN n.cps.toList = true := by
  have ln : n.length = n.cps.toList.length := by simp [Str.length]
  have h1 := h.lo
  have h3 := h.hi
  unfold isN
  simp only [Bool.and_eq_true, decide_eq_true_eq, List.all_eq_true]
  refine ⟨⟨by omega, by omega⟩, fun c hc => ?_⟩
  have := h.az c hc
  simp [lt1, this.1, this.2]
theorem shp_form {cs : List Nat} (h1 : shp cs = true) (h2 : dgs cs = true) : ∃ a b, (49 ≤ a ∧ a ≤ 57) ∧ (49 ≤ b ∧ b ≤ 57) ∧ cs = 40 :: a :: 58 :: b :: 32 :: ((cs.drop 5).take (cs.length - 6) ++ [41]) ∧ cs.getD 1 0 = a ∧ cs.getD 3 0 = b := by
  unfold shp at h1
  simp only [Bool.and_eq_true, decide_eq_true_eq] at h1
  obtain ⟨⟨⟨⟨g0, g1⟩, g2⟩, g3⟩, g4⟩ := h1
  match cs, g0, g1, g2, g3, g4, h2 with
  | c0 :: a :: c2 :: b :: c4 :: t, g0, g1, g2, g3, g4, h2 =>
    simp at g1 g3 g4
    subst g1 g3 g4
    unfold dgs at h2
    simp at h2
    unfold dg1 at h2
    simp at h2
    refine ⟨a, b, h2.1, h2.2, ?_, rfl, rfl⟩
    have ht : 3 ≤ t.length := by simp at g0; omega
    have e : t = t.take (t.length - 1) ++ [41] := by
      have e1 : (40 :: a :: 58 :: b :: 32 :: t)[(40 :: a :: 58 :: b :: 32 :: t).length - 1]? = t[t.length - 1]? := by
        rw [show (40 :: a :: 58 :: b :: 32 :: t).length - 1 = (t.length - 1) + 5 by simp; omega]
        rfl
      rw [e1] at g2
      obtain ⟨hl, he⟩ := List.getElem?_eq_some_iff.mp g2
      have e2 := List.take_append_drop (t.length - 1) t
      rw [List.drop_eq_getElem_cons hl, he, List.drop_eq_nil_of_le (by omega)] at e2
      exact e2.symm
    show 40 :: a :: 58 :: b :: 32 :: t = 40 :: a :: 58 :: b :: 32 :: (t.take (t.length + 5 - 6) ++ [41])
    rw [show t.length + 5 - 6 = t.length - 1 by omega, ← e]
theorem lrd_sound : ∀ (d : Nat) (cs : List Nat) (m : M), lrd d cs = some m → cs = (txt m).cps.toList ∧ Wf m ∧ m.deep ≤ d
  | 0, cs, m, h => by
    unfold lrd at h
    split at h
    · rename_i hn
      cases h
      exact ⟨by show cs = (S cs).cps.toList; rw [S_cps], wf_wt (isN_Nm hn), Nat.le_refl _⟩
    · cases h
  | d + 1, cs, m, h => by
    unfold lrd at h
    split at h
    · rename_i hn
      cases h
      exact ⟨by show cs = (S cs).cps.toList; rw [S_cps], wf_wt (isN_Nm hn), Nat.zero_le _⟩
    split at h
    · rename_i hs
      split at h
      · cases h
      rename_i p q hp
      split at h
      · rename_i m1 m2 h1 h2
        cases h
        obtain ⟨e1, w1, d1⟩ := lrd_sound d _ _ h1
        obtain ⟨e2, w2, d2⟩ := lrd_sound d _ _ h2
        obtain ⟨a, b, ha, hb, e, ea, eb⟩ := shp_form hs.1 hs.2
        rw [ea, eb]
        have hl : (rdI a b).1 = ((a - 48 : Nat) : Int) := rfl
        have hr : (rdI a b).2 = ((b - 48 : Nat) : Int) := rfl
        have l1 : 1 ≤ (rdI a b).1 := by omega
        have l9 : (rdI a b).1 ≤ 9 := by omega
        have k1 : 1 ≤ (rdI a b).2 := by omega
        have k9 : (rdI a b).2 ≤ 9 := by omega
        refine ⟨?_, wf_rod l1 l9 k1 k9 w1 w2, ?_⟩
        · rw [txt_cps l1 l9 k1 k9]
          have xa : 48 + (rdI a b).1.toNat = a := by omega
          have xb : 48 + (rdI a b).2.toNat = b := by omega
          rw [xa, xb]
          rw [lprt_some hp, e1, e2] at e
          rw [e]
          simp
        · show max m1.deep m2.deep + 1 ≤ d + 1
          omega
      · cases h
    · cases h
theorem lrd_go : ∀ (d : Nat) (m : M), Wf m → m.deep ≤ d → lrd d (txt m).cps.toList = some m
  | d, .wt n, hw, _ => by
    have hn := Nm_isN (hw.nm n (by simp [Mob.names]))
    cases d <;> (unfold lrd; rw [show (txt (.wt n)).cps.toList = n.cps.toList from rfl, if_pos hn, S_self])
  | 0, .rod l k a b, hw, hd => absurd hd (by show ¬ max a.deep b.deep + 1 ≤ 0; omega)
  | d + 1, .rod l k a b, hw, hd => by
    have hd : max a.deep b.deep + 1 ≤ d + 1 := hd
    obtain ⟨l1, l9, k1, k9, _, _⟩ := hw.arms
    have i1 := lrd_go d a hw.left (by omega)
    have i2 := lrd_go d b hw.right (by omega)
    have pa : ∀ m : M, Wf m → 1 ≤ (txt m).cps.toList.length := fun m hm => by
      cases m with
      | wt n =>
        have h1 := (hm.nm n (by simp [Mob.names])).lo
        have ln : n.length = n.cps.toList.length := by simp [Str.length]
        show 1 ≤ n.cps.toList.length
        omega
      | rod l r a b =>
        obtain ⟨l1, l9, k1, k9, _, _⟩ := hm.arms
        rw [txt_cps l1 l9 k1 k9]
        simp
    have la := pa a hw.left
    have lb := pa b hw.right
    have ea : 49 ≤ 48 + l.toNat ∧ 48 + l.toNat ≤ 57 := by omega
    have eb : 49 ≤ 48 + k.toNat ∧ 48 + k.toNat ≤ 57 := by omega
    rw [txt_cps l1 l9 k1 k9]
    obtain ⟨inn, hi⟩ : ∃ t, t = (txt a).cps.toList ++ 32 :: (txt b).cps.toList := ⟨_, rfl⟩
    have ei : (txt a).cps.toList ++ 32 :: ((txt b).cps.toList ++ [41]) = inn ++ [41] := by rw [hi]; simp
    rw [ei]
    have li : 3 ≤ inn.length := by rw [hi, List.length_append, List.length_cons]; omega
    have el : (rdI (48 + l.toNat) (48 + k.toNat)).1 = l := by show ((48 + l.toNat - 48 : Nat) : Int) = l; omega
    have ek : (rdI (48 + l.toNat) (48 + k.toNat)).2 = k := by show ((48 + k.toNat - 48 : Nat) : Int) = k; omega
    unfold lrd
    rw [if_neg (by simp [isN]), if_pos ?_]
    · have e1 : (List.drop 5 (40 :: (48 + l.toNat) :: 58 :: (48 + k.toNat) :: 32 :: (inn ++ [41]))).take ((40 :: (48 + l.toNat) :: 58 :: (48 + k.toNat) :: 32 :: (inn ++ [41])).length - 6) = inn := by
        have e6 : (40 :: (48 + l.toNat) :: 58 :: (48 + k.toNat) :: 32 :: (inn ++ [41])).length - 6 = inn.length := by simp
        rw [e6]
        show (inn ++ [41]).take inn.length = inn
        rw [List.take_left]
      rw [e1, hi, lprt_go hw.left hw.right]
      simp only [i1, i2]
      show some (Mob.rod (rdI (48 + l.toNat) (48 + k.toNat)).1 (rdI (48 + l.toNat) (48 + k.toNat)).2 a b) = _
      rw [el, ek]
    · constructor
      · unfold shp
        simp only [Bool.and_eq_true, decide_eq_true_eq]
        refine ⟨⟨⟨⟨by simp; omega, rfl⟩, ?_⟩, rfl⟩, rfl⟩
        rw [show (40 :: (48 + l.toNat) :: 58 :: (48 + k.toNat) :: 32 :: (inn ++ [41])).length - 1 = inn.length + 5 by simp]
        show (inn ++ [41])[inn.length]? = some 41
        simp
      · unfold dgs
        simp [dg1]
        omega
theorem lrd_rdT (cs : List Nat) : lrd 5 cs = rdT cs := by
  cases h : lrd 5 cs with
  | some m => exact (rdT_iff.mpr (lrd_sound 5 cs m h)).symm
  | none =>
    cases h2 : rdT cs with
    | none => rfl
    | some m =>
      obtain ⟨rfl, hw, hd⟩ := rdT_iff.mp h2
      rw [lrd_go 5 m hw hd] at h
      cases h
end DP
namespace DP
open PySem PySem.Spec PyProof.Rows L2 MA
def dig (c : Nat) : Bool := decide (48 ≤ c) && decide (c ≤ 57)
def no0 : List Nat → Bool
  | c :: _ => !decide (c = 48)
  | [] => true
def isNoT (x : Str) (k : Nat) : Bool := decide (1 ≤ x.length) && decide (x.length ≤ k) && no0 x.cps.toList && x.cps.toList.all dig
def nVal (x : Str) : Int := ((PySem.NumText.digitsVal x.cps.toList : Nat) : Int)
def fgB : D → Bool
  | .str z => Txt.contains "0123456789" z
  | _ => false
theorem has_fig (c : Nat) : Txt.contains "0123456789" (S [c]) = dig c := by
  have e : Txt.contains "0123456789" (S [c]) = decide (c ∈ ("0123456789" : Str).cps.toList) := StrLaws.found_one "0123456789" c
  rw [e, show ("0123456789" : Str).cps.toList = [48, 49, 50, 51, 52, 53, 54, 55, 56, 57] by decide +kernel]
  unfold dig
  rw [Bool.eq_iff_iff]
  simp
  omega
theorem has_let (c : Nat) : Txt.contains "abcdefghijklmnopqrstuvwxyz" (S [c]) = lt1 c := by
  have e : Txt.contains "abcdefghijklmnopqrstuvwxyz" (S [c]) = decide (c ∈ ("abcdefghijklmnopqrstuvwxyz" : Str).cps.toList) := StrLaws.found_one "abcdefghijklmnopqrstuvwxyz" c
  rw [e, show ("abcdefghijklmnopqrstuvwxyz" : Str).cps.toList = [97, 98, 99, 100, 101, 102, 103, 104, 105, 106, 107, 108, 109, 110, 111, 112, 113, 114, 115, 116, 117, 118, 119, 120, 121, 122] by decide +kernel]
  unfold lt1
  rw [Bool.eq_iff_iff]
  simp
  omega
theorem has_dg1 (c : Nat) : Txt.contains "123456789" (S [c]) = dg1 c := by
  have e : Txt.contains "123456789" (S [c]) = decide (c ∈ ("123456789" : Str).cps.toList) := StrLaws.found_one "123456789" c
  rw [e, show ("123456789" : Str).cps.toList = [49, 50, 51, 52, 53, 54, 55, 56, 57] by decide +kernel]
  unfold dg1
  rw [Bool.eq_iff_iff]
  simp
  omega
theorem nVal_reads {x : Str} (h : x.cps.toList.all dig = true) (h1 : 1 ≤ x.length) (h2 : x.length ≤ 1000) : PySem.intText? x = some (nVal x) := by
  refine PySem.intText_digits (fun c hc => ?_) (fun e => ?_) (by omega)
  · have := List.all_eq_true.mp h c hc
    unfold dig at this
    simp at this
    exact this
  · have ln : x.length = x.cps.toList.length := by simp [Str.length]
    rw [e] at ln
    simp at ln
    omega
def SWnA : Ct := fun ds A R E => ∃ x last k, ds = [.str x, .int last] ∧ ((last = 9 ∧ k = 1) ∨ (last = 999999 ∧ k = 6)) ∧ x.length ≤ 1000 ∧ (isNoT x k = true → ∀ A', Gr A A' → R (.int (nVal x)) A') ∧ (isNoT x k = false → ∀ A', Gr A A' → E "NoText" A')
def SBehA : Ct := fun ds A R E => ∃ c cs, ds = [.str (S cs), .str (S [c])] ∧ (c = 58 ∨ c = 32 ∨ c = 41) ∧ cs.length ≤ 1000 ∧ (∀ r, hd1 c cs = some r → R (.str (S r)) A) ∧ (hd1 c cs = none → E "NoText" A)
def SWaA : Ct := fun ds A R E => ∃ cs, ds = [.str (S cs)] ∧ cs.length ≤ 1000 ∧ (∀ m r, nmA cs = some (m, r) → ∀ A', Gr A A' → R (.tup [enc m, .str (S r)]) A') ∧ (nmA cs = none → ∀ A', Gr A A' → E "NoText" A')
def SMaA (d : Nat) : Ct := fun ds A R E => ∃ cs, ds = [.str (S cs), .int ((d : Int) - 1)] ∧ 0 < d ∧ cs.length ≤ 1000 ∧ (∀ m r, rdC (d - 1) cs = some (m, r) → ∀ A', Gr A A' → R (.tup [enc m, .str (S r)]) A') ∧ (rdC (d - 1) cs = none → ∀ A', Gr A A' → E "NoText" A')
def SCtA : Ct := fun ds A R E => ∃ x, ds = [x] ∧ okA A x = true ∧ ((∃ z, x = .str z) → R .non A) ∧ ((∀ z, x ≠ .str z) → E "NoText" A)
def SRdA : Ct := fun ds A R E => ∃ x, ds = [x] ∧ okA A x = true ∧ ((∀ z, x ≠ .str z) → ∀ A', Gr A A' → E "NoText" A') ∧ ∀ z, x = .str z → z.length ≤ 1000 ∧ (∀ m, rdT z.cps.toList = some m → ∀ A', Gr A A' → R (enc m) A') ∧ (rdT z.cps.toList = none → ∀ A', Gr A A' → E "NoText" A')
theorem tw_let : ∀ (l : List Nat) (k : Nat), ((l.take k).takeWhile lt1).length = k ∨ let1 (l.drop ((l.take k).takeWhile lt1).length) = false
  | [], k => .inr (by simp [let1])
  | x :: l, 0 => .inl (by simp)
  | x :: l, k + 1 => by
    rw [List.take_succ_cons, List.takeWhile_cons]
    cases h : lt1 x with
    | true =>
      rcases tw_let l k with e | e
      · exact .inl (by rw [if_pos rfl, List.length_cons, e])
      · exact .inr (by rw [if_pos rfl, List.length_cons, List.drop_succ_cons]; exact e)
    | false => exact .inr h
theorem nm_let (cs : List Nat) (h : nmN cs < 3) : let1 (cs.drop (nmN cs)) = false := by
  rcases tw_let cs 3 with e | e
  · unfold nmN at h
    omega
  · exact e
theorem no1 (t : List Nat) : isNoT (S (t.take 1)) 1 = (dgA t).isSome := by
  cases t with
  | nil => decide +kernel
  | cons a t =>
    have e1 : (S ((a :: t).take 1)).cps.toList = [a] := by rw [S_cps]; rfl
    have e2 : (S ((a :: t).take 1)).length = 1 := by rw [S_len]; rfl
    unfold isNoT dgA
    rw [e1, e2]
    by_cases h : 49 ≤ a ∧ a ≤ 57
    · have n : a ≠ 48 := by omega
      simp [no0, dig, dg1, h.1, h.2, n]
      omega
    · have : dg1 a = false := by simp [dg1]; omega
      simp only [this]
      simp [no0, dig]
      omega
theorem nv1 {t r : List Nat} {a : Nat} (h : dgA t = some (a, r)) : nVal (S (t.take 1)) = ((a - 48 : Nat) : Int) := by
  obtain ⟨rfl, _, _⟩ := dgA_some h
  unfold nVal
  rw [S_cps]
  show (((0 * 10 + (a - 48) : Nat)) : Int) = _
  omega
theorem starts0 {c : Nat} {cs : List Nat} (h : hd1 c cs = none) : Txt.startswith (S cs) (S [c]) = false := by
  cases cs with
  | nil =>
    unfold Txt.startswith Builtin.Str.subAt
    rfl
  | cons x t =>
    rw [starts1]
    refine decide_eq_false fun e => ?_
    rw [e, hd1_cons] at h
    cases h
end DP
namespace My
open PySem PySem.Spec PyProof.Rows L2 DP MA
section
variable {P : Program} {w : World} {K : PySem.W.Frag} {mg : Str → Option Value} {base : Heap}
theorem f_behA (T : TopD K mg "behind" s_behind p_behind) (b_len : mg "len" = none) {a_NoText : Addr} (m_NoText : mg "NoText" = some (.ref a_NoText)) (x_NoText : PySem.W.excIn K a_NoText vErr "ValueError.__new__" = true) : FnX P w K mg base 1 "behind" p_behind (spOf mg 2 SBehA) := by
  refine fnD T sc_behind rfl (by decide) fun N RE f cdv B outer s H E hr hR hx ds A R h hl => ?_
  refine ⟨_, (dss_cons (ds_if (dt_not (dt_val (de_mtS PySem.F.plainAttrs_str PySem.F.slot_str_startswith PySem.F.type_str_startswith mt_starts d_starts (vr 0) (da_cons (vr 1) da_nil)))) (dss_one (ds_raise hR rfl m_NoText x_NoText (da_cons (de_join (dj_con (dj_rep (vr 1) dj_nil))) da_nil))) dss_nil)
    (dss_one (ds_ret (de_sls (vr 0) (do_some (de_cb c_len d_len b_len PySem.boot_len (da_cons (vr 1) da_nil))) do_none)))), ?_⟩
  obtain ⟨c, cs, rfl, hc, hl, q1, q2⟩ := h
  have hz : (2000 : Nat) ≤ sizeLine := by decide
  show cond (!Txt.startswith (S cs) (S [c])) _ _
  cases h : hd1 c cs with
  | some r =>
    have e := hd1_some h
    subst e
    rw [starts1, decide_eq_true rfl]
    refine ⟨by rw [S_len]; show 1 ≤ _; omega, by rw [S_len]; omega, ?_⟩
    have e2 : Txt.slice (S (c :: r)) (some (((S [c]).length : Nat) : Int)) none = S r := by
      rw [S_len, sl_from _ (by simp)]
      rfl
    show R (.str (Txt.slice (S (c :: r)) (some (((S [c]).length : Nat) : Int)) none)) A
    rw [e2]
    exact q1 r h
  | none =>
    rw [starts0 h]
    have q := q2 h
    rcases hc with rfl | rfl | rfl
    · exact ⟨by decide +kernel, by decide +kernel, by decide +kernel, by decide +kernel, by decide, q⟩
    · exact ⟨by decide +kernel, by decide +kernel, by decide +kernel, by decide +kernel, by decide, q⟩
    · exact ⟨by decide +kernel, by decide +kernel, by decide +kernel, by decide +kernel, by decide, q⟩
theorem f_wnA (T : TopD K mg "whole_number" s_whole_number p_whole_number) (b_len : mg "len" = none) (b_str : mg "str" = none) (b_int : mg "int" = none) (b_all : mg "all" = none) {t : Tok} (m_FIGURES : mg "FIGURES" = some (.str "0123456789" t)) {a_NoText : Addr} (m_NoText : mg "NoText" = some (.ref a_NoText)) (x_NoText : PySem.W.excIn K a_NoText vErr "ValueError.__new__" = true) : FnX P w K mg base 1 "whole_number" p_whole_number (spOf mg 2 SWnA) := by
  refine fnD T sc_whole_number rfl (by decide) fun N RE f cdv B outer s H E hr hR hx ds A R h hl => ?_
  have hu := hr.units
  refine ⟨_, (dss_cons (ds_if (PW.pt (dw_or (dt_not (t_lele de_int (de_cb c_len d_len b_len PySem.boot_len (da_cons (vr 0) da_nil)) (de_cb c_len d_len b_len PySem.boot_len (da_cons (de_cty call_strI d_strI b_str boot_str (da_cons (vr 1) da_nil)) da_nil)))) (dw_or (t_eq hu (de_ix hu (vr 0) de_int (fun _ _ => rfl)) de_str) (dw_or1 (dt_not (dt_val (de_cb (call_all rfl) d_all b_all boot_all (da_cons (de_comp none (own := ["sign"]) (frees := []) (ix := []) rfl (di_str (vr 0)) (fun c => (pg_name (i := 0) (show (["sign"] : List Str).Nodup by decide +kernel) rfl (by first | exact Or.inl rfl | exact Or.inr rfl))) (fun c => (e_inS (vr 0) (de_gstr m_FIGURES)))) da_nil)))))))) (dss_one (ds_raise hR rfl m_NoText x_NoText (da_cons de_str da_nil))) dss_nil)
    (dss_one (ds_ret (de_cty call_intT d_intT b_int boot_int (da_cons (vr 0) da_nil))))), ?_⟩
  obtain ⟨x, last, k, rfl, hlast, hx', q1, q2⟩ := h
  have hz : (2000 : Nat) ≤ sizeLine := by decide
  have no : isNoT x k = false → ∀ A', Gr A A' → 1 ≤ sizeLine ∧ RE "NoText" A' := fun h A' g => ⟨by omega, q2 h A' g⟩
  refine ⟨by omega, ?_⟩
  refine cD (fun c1 => ?_) (fun c1 => no ?_ _ Gr.refl)
  rotate_left
  · have c1 : ¬ (1 : Int) ≤ ((x.length : Nat) : Int) := c1
    unfold isNoT
    rw [decide_eq_false (show ¬ 1 ≤ x.length by omega)]
    simp
  have c1 : (1 : Int) ≤ ((x.length : Nat) : Int) := c1
  have hlast2 : last.natAbs.log2 < 1920 ∧ (itS last).length = k ∧ k ≤ 6 := by
    rcases hlast with ⟨rfl, rfl⟩ | ⟨rfl, rfl⟩
    · exact ⟨by decide +kernel, by decide +kernel, by decide⟩
    · exact ⟨by decide +kernel, by decide +kernel, by decide⟩
  refine ⟨hlast2.1, show (itS last).length ≤ sizeLine by omega, ?_⟩
  refine cN (fun c2 => no ?_ _ Gr.refl) (fun c2 => ?_)
  · have c2 : ¬ ((x.length : Nat) : Int) ≤ (((itS last).length : Nat) : Int) := c2
    unfold isNoT
    rw [decide_eq_false (show ¬ x.length ≤ k by omega)]
    simp
  have c2 : ((x.length : Nat) : Int) ≤ (((itS last).length : Nat) : Int) := c2
  have ln : x.length = x.cps.toList.length := by simp [Str.length]
  obtain ⟨c, cs, hcs⟩ : ∃ c cs, x.cps.toList = c :: cs := by
    cases e : x.cps.toList with
    | nil => rw [e] at ln; simp at ln; omega
    | cons c cs => exact ⟨c, cs, rfl⟩
  have hat : atI x.cps.toList 0 = some c := by rw [hcs]; exact atI_nat (j := 0) rfl
  conv => whnf
  rw [hat]
  refine ⟨by omega, ?_⟩
  have e0 : isNoT x k = (!decide (c = 48) && x.cps.toList.all dig) := by
    unfold isNoT
    rw [decide_eq_true (show 1 ≤ x.length by omega), decide_eq_true (show x.length ≤ k by omega), hcs]
    simp [no0]
  have e3 : ("0" : Str).cps.toList = [48] := by decide +kernel
  refine cD (fun e => no ?_ _ Gr.refl) (fun e => ?_)
  · have e : (⟨#[c]⟩ : Str) = "0" := e
    have e2 := congrArg (fun z : Str => z.cps.toList) e
    simp only [e3] at e2
    have e2 : c = 48 := by simpa using e2
    rw [e0, decide_eq_true e2]
    rfl
  have e : ¬ (⟨#[c]⟩ : Str) = "0" := e
  have n48 : c ≠ 48 := fun z => e (by rw [z]; decide +kernel)
  rw [decide_eq_false n48, Bool.not_false, Bool.true_and] at e0
  refine cloop_map (f := fun y => .bl (fgB y)) trivial _ _ (fun y hy => ⟨[y], rfl, fun Q hQ => ?_⟩) ?_ ?_
  · obtain ⟨d, hd, rfl⟩ := List.mem_map.mp hy
    exact hQ
  · have : (sgs x).length = x.length := by simp [sgs, Str.length]
    show 0 + (sgs x).length ≤ sizeLine
    omega
  refine all_ok (bs := (sgs x).map fgB) last_get (bls_map _ _) ?_
  have ea : ((sgs x).map fgB).all id = x.cps.toList.all dig := by
    unfold sgs
    rw [List.map_map, List.all_map]
    congr 1
    funext d
    exact has_fig d
  rw [ea]
  cases hd : x.cps.toList.all dig with
  | false => exact no (by rw [e0, hd]) _ Gr.push
  | true => exact ⟨nVal x, nVal_reads hd (by omega) hx', by omega, q1 (by rw [e0, hd]) _ Gr.push⟩
theorem f_waA (T : TopD K mg "weight_ahead" s_weight_ahead p_weight_ahead) {t : Tok} (m_LONGEST_NAME : mg "LONGEST_NAME" = some (.int 3 t)) {a_NoText : Addr} (m_NoText : mg "NoText" = some (.ref a_NoText)) (x_NoText : PySem.W.excIn K a_NoText vErr "ValueError.__new__" = true) (F_is_name : FnX P w K mg base 1 "is_name" p_is_name (spOf mg 1 SNameA)) : FnX P w K mg base 2 "weight_ahead" p_weight_ahead (spOf mg 1 SWaA) := by
  refine fnD T sc_weight_ahead rfl (by decide) fun N RE f cdv B outer s H E hr hR hx ds A R h hl => ?_
  have hu := hr.units
  have nd := sc_weight_ahead.nd
  refine ⟨_, (dss_cons (ds_set (i := 1) nd rfl (by first | exact Or.inl rfl | exact Or.inr rfl) de_int)
    (dss_cons (ds_while ownX (PW.pt (dw_and (t_lt (vr 1) (de_num m_LONGEST_NAME)) (dw_and1 (dt_val (de_call F_is_name (hr.mono (by omega)) hx (da_cons (de_sls (vr 0) (do_some (vr 1)) (do_some (de_add (vr 1) de_int))) da_nil)))))) (dss_one (ds_aug (i := 1) nd rfl (by first | exact Or.inl rfl | exact Or.inr rfl) de_int)))
    (dss_cons (ds_if (t_eq hu (vr 1) de_int) (dss_one (ds_raise hR rfl m_NoText x_NoText (da_cons de_str da_nil))) dss_nil)
    (dss_one (ds_ret (de_tup (da_cons (de_tup (da_cons de_str (da_cons (de_sls (vr 0) do_none (do_some (vr 1))) da_nil))) (da_cons (de_sls (vr 0) (do_some (vr 1)) do_none) da_nil)))))))), ?_⟩
  obtain ⟨cs, rfl, hlen, q1, q2⟩ := h
  have hz : (2000 : Nat) ≤ sizeLine := by decide
  have bz : (S cs).length ≤ sizeLine := by rw [S_len]; omega
  obtain ⟨n3, nl⟩ := nmN_le cs
  have fin : ∀ A', Gr A A' → cond (decide (((nmN cs : Nat) : Int) = 0)) (1 ≤ sizeLine ∧ RE "NoText" A') (slS (.str (S cs)) none (some ((nmN cs : Nat) : Int)) A' (fun v A1 => 2 ≤ sizeLine ∧ slS (.str (S cs)) (some ((nmN cs : Nat) : Int)) none A1 fun u A2 => 2 ≤ sizeLine ∧ R (.tup [.tup [.str "weight", v], u]) A2)) := fun A' g => by
    refine cD (fun c => ⟨by omega, q2 ?_ _ g⟩) (fun c => ?_)
    · unfold nmA
      rw [if_pos (by omega)]
    · refine ⟨bz, by decide, bz, by decide, ?_⟩
      rw [sl_to _ nl, sl_from _ nl]
      exact q1 _ _ (by unfold nmA; rw [if_neg (by omega)]) _ g
  refine ⟨fun k τ A' => ∃ e : Nat, e ≤ nmN cs ∧ k = nmN cs - e ∧ τ = [some (.str (S cs)), some (.int e)] ∧ Gr A A', ⟨_, 0, by omega, rfl, rfl, Gr.refl⟩, ?_⟩
  rintro k τ A1 ⟨e, he, rfl, rfl, g⟩
  refine cD (fun c => ?_) (fun c => ?_)
  · have c : ((e : Nat) : Int) < 3 := c
    have esl : Txt.slice (S cs) (some ((e : Nat) : Int)) (some (((e : Nat) : Int) + 1)) = S ((cs.drop e).take 1) := by
      have := sl_ij cs (i := e) (j := e + 1) (by omega) (by omega)
      rw [show (((e + 1 : Nat)) : Int) = ((e : Nat) : Int) + 1 by omega] at this
      rw [this, show e + 1 - e = 1 by omega]
    refine ⟨bz, rfl, _, rfl, ?_, fun A2 g2 => ?_⟩
    · show decide ((Txt.slice (S cs) (some ((e : Nat) : Int)) (some (((e : Nat) : Int) + 1))).length ≤ sizeLine) = true
      rw [esl, S_len]
      exact decide_eq_true (by rw [List.length_take]; omega)
    show cond (isNa (.str (Txt.slice (S cs) (some ((e : Nat) : Int)) (some (((e : Nat) : Int) + 1))))) _ _
    rw [esl]
    by_cases hlt : e < nmN cs
    · have hc : e < cs.length := by omega
      have e1 : (cs.drop e).take 1 = [cs[e]] := by
        rw [List.drop_eq_getElem_cons hc]
        rfl
      have hm : cs[e] ∈ (cs.take 3).takeWhile lt1 := by
        rw [← nm_take]
        have : (cs.take (nmN cs))[e]? = some cs[e] := by rw [List.getElem?_take_of_lt hlt, List.getElem?_eq_getElem hc]
        exact List.mem_of_getElem? this
      have hlt1 := tw_all lt1 _ _ hm
      unfold lt1 at hlt1
      simp at hlt1
      rw [e1, isNa_1 hlt1]
      refine ⟨fun τ A' => τ = [some (.str (S cs)), some (.int ((e + 1 : Nat) : Int))] ∧ Gr A A', fun τ' A' ⟨h1, h2⟩ => ⟨nmN cs - (e + 1), by omega, e + 1, by omega, rfl, h1, h2⟩, ?_⟩
      exact ⟨rfl, g.trans g2⟩
    · have e0 : e = nmN cs := by omega
      subst e0
      rw [isNa_0 (nm_let cs (by omega))]
      exact fin A2 (g.trans g2)
  · have c : ¬ ((e : Nat) : Int) < 3 := c
    have e0 : e = nmN cs := by omega
    subst e0
    exact fin A1 g
end
end My
namespace My
open PySem PySem.Spec PyProof.Rows L2 DP MA
section
variable {P : Program} {w : World} {K : PySem.W.Frag} {mg : Str → Option Value} {base : Heap}
theorem f_maA (T : TopD K mg "mobile_ahead" s_mobile_ahead p_mobile_ahead) {t : Tok} (m_LONGEST_ARM : mg "LONGEST_ARM" = some (.int 9 t)) {a_NoText : Addr} (m_NoText : mg "NoText" = some (.ref a_NoText)) (x_NoText : PySem.W.excIn K a_NoText vErr "ValueError.__new__" = true) (F_weight_ahead : FnX P w K mg base 2 "weight_ahead" p_weight_ahead (spOf mg 1 SWaA)) (F_whole_number : FnX P w K mg base 1 "whole_number" p_whole_number (spOf mg 2 SWnA)) (F_behind : FnX P w K mg base 1 "behind" p_behind (spOf mg 2 SBehA)) : ∀ d, FnX P w K mg base (d + 3) "mobile_ahead" p_mobile_ahead (spOf mg 2 (SMaA d)) := by
  intro d
  induction d with
  | zero =>
    refine fnNo T fun ds A R RE h => ?_
    obtain ⟨cs, _, h, _⟩ := h
    omega
  | succ d F_mobile_ahead =>
    refine fnD T sc_mobile_ahead rfl (by decide) fun N RE f cdv B outer s H E hr hR hx ds A R h hl => ?_
    have hu := hr.units
    have nd := sc_mobile_ahead.nd
    refine ⟨_, (dss_cons (ds_if (dt_not (dt_val (de_mtS PySem.F.plainAttrs_str PySem.F.slot_str_startswith PySem.F.type_str_startswith mt_starts d_starts (vr 0) (da_cons de_str da_nil)))) (dss_one (ds_ret (de_call F_weight_ahead (hr.mono (by omega)) hx (da_cons (vr 0) da_nil)))) dss_nil)
    (dss_cons (ds_if (t_eq hu (vr 1) de_int) (dss_one (ds_raise hR rfl m_NoText x_NoText (da_cons de_str da_nil))) dss_nil)
    (dss_cons (ds_set (i := 2) nd rfl (by first | exact Or.inl rfl | exact Or.inr rfl) (de_call F_whole_number (hr.mono (by omega)) hx (da_cons (de_sls (vr 0) (do_some de_int) (do_some de_int)) (da_cons (de_num m_LONGEST_ARM) da_nil))))
    (dss_cons (ds_set (i := 3) nd rfl (by first | exact Or.inl rfl | exact Or.inr rfl) (de_call F_whole_number (hr.mono (by omega)) hx (da_cons (de_call F_behind (hr.mono (by omega)) hx (da_cons (de_sls (vr 0) (do_some de_int) (do_some de_int)) (da_cons de_str da_nil))) (da_cons (de_num m_LONGEST_ARM) da_nil))))
    (dss_cons (ds_set (i := 4) nd rfl (by first | exact Or.inl rfl | exact Or.inr rfl) (de_call F_mobile_ahead (hr.mono (by omega)) hx (da_cons (de_call F_behind (hr.mono (by omega)) hx (da_cons (de_sls (vr 0) (do_some de_int) do_none) (da_cons de_str da_nil))) (da_cons (de_sub (vr 1) de_int) da_nil))))
    (dss_cons (ds_set (i := 5) nd rfl (by first | exact Or.inl rfl | exact Or.inr rfl) (de_call F_mobile_ahead (hr.mono (by omega)) hx (da_cons (de_call F_behind (hr.mono (by omega)) hx (da_cons (de_ix hu (vr 4) de_int (fun _ _ => rfl)) (da_cons de_str da_nil))) (da_cons (de_sub (vr 1) de_int) da_nil))))
    (dss_one (ds_ret (de_tup (da_cons (de_tup (da_cons de_str (da_cons (vr 2) (da_cons (vr 3) (da_cons (de_ix hu (vr 4) de_int (fun _ _ => rfl)) (da_cons (de_ix hu (vr 5) de_int (fun _ _ => rfl)) da_nil)))))) (da_cons (de_call F_behind (hr.mono (by omega)) hx (da_cons (de_ix hu (vr 5) de_int (fun _ _ => rfl)) (da_cons de_str da_nil))) da_nil))))))))))), ?_⟩
    obtain ⟨cs, rfl, _, hlen, q1o, q2o⟩ := h
    have hz : (2000 : Nat) ≤ sizeLine := by decide
    have epar : ("(" : Str) = S [40] := by decide +kernel
    have ecol : (":" : Str) = S [58] := by decide +kernel
    have espc : (" " : Str) = S [32] := by decide +kernel
    have ecls : (")" : Str) = S [41] := by decide +kernel
    have kz : (S cs).length ≤ sizeLine := by rw [S_len]; omega
    have q1 : ∀ m r, rdC d cs = some (m, r) → ∀ A', Gr A A' → R (.tup [enc m, .str (S r)]) A' := q1o
    have q2 : rdC d cs = none → ∀ A', Gr A A' → RE "NoText" A' := q2o
    clear q1o q2o
    show cond (!Txt.startswith (S cs) "(") _ _
    rw [epar]
    cases h0 : hd1 40 cs with
    | none =>
      have er : rdC d cs = nmA cs := by cases d <;> (unfold rdC; rw [h0])
      rw [er] at q1 q2
      rw [starts0 h0]
      exact ⟨rfl, cs, rfl, hlen, q1, q2⟩
    | some t0 =>
      have ecs := hd1_some h0
      subst ecs
      rw [starts1, decide_eq_true rfl]
      have lt0 : t0.length < 1000 := by have := hlen; simp at this; omega
      refine cD (fun c => ?_) (fun c => ?_)
      · have c : ((d + 1 : Nat) : Int) - 1 = 0 := c
        have : d = 0 := by omega
        subst this
        exact ⟨show 1 ≤ sizeLine by omega, q2 (by unfold rdC; rw [h0]) _ Gr.refl⟩
      cases d with
      | zero => exact absurd (show ((0 + 1 : Nat) : Int) - 1 = 0 by omega) c
      | succ d =>
        have s1 := sl_ij (40 :: t0) (i := 1) (j := 2) (by decide) (by simp)
        have s1 : Txt.slice (S (40 :: t0)) (some 1) (some 2) = S (t0.take 1) := s1
        have er : rdC (d + 1) (40 :: t0) = (match dgA t0 with
          | none => none
          | some (a, t1) => match hd1 58 t1 with
            | none => none
            | some t2 => match dgA t2 with
              | none => none
              | some (b, t3) => match hd1 32 t3 with
                | none => none
                | some t4 => match rdC d t4 with
                  | none => none
                  | some (m1, r1) => match hd1 32 r1 with
                    | none => none
                    | some t5 => match rdC d t5 with
                      | none => none
                      | some (m2, r2) => match hd1 41 r2 with
                        | none => none
                        | some r => some (.rod (rdI a b).1 (rdI a b).2 m1 m2, r)) := by
          conv => lhs; unfold rdC
          rw [h0]
          try rfl
        rw [er] at q1 q2
        clear er
        refine ⟨kz, rfl, _, 9, 1, congrArg (fun z => [D.str z, .int 9]) s1, .inl ⟨rfl, rfl⟩, by rw [S_len, List.length_take]; omega, fun hno A1 g1 => ?_, fun hno A1 g1 => ?_⟩
        rotate_left
        · rw [no1] at hno
          cases hd : dgA t0 with
          | some p => rw [hd] at hno; cases hno
          | none =>
            rw [hd] at q2
            exact q2 rfl _ g1
        rw [no1] at hno
        cases hd : dgA t0 with
        | none => rw [hd] at hno; cases hno
        | some p =>
        obtain ⟨a, t1⟩ := p
        rw [hd] at q1 q2
        rw [nv1 hd]
        obtain ⟨et, a1, a2⟩ := dgA_some hd
        subst et
        try simp only at q1 q2
        have lt1' : t1.length < 1000 := by simp at lt0; omega
        have s2 := sl_ij (40 :: a :: t1) (i := 2) (j := 4) (by decide) (by simp)
        have s2 : Txt.slice (S (40 :: a :: t1)) (some 2) (some 4) = S (t1.take 2) := s2
        refine ⟨kz, rfl, 58, t1.take 2, ?_, .inl rfl, by rw [List.length_take]; omega, fun r hr' => ?_, fun hr' => ?_⟩
        · rw [← ecol]
          exact congrArg (fun z => [D.str z, .str ":"]) s2
        rotate_left
        · cases h2 : hd1 58 t1 with
          | none =>
            rw [h2] at q2
            exact q2 rfl _ g1
          | some t2 =>
            have := hd1_some h2
            subst this
            rw [List.take_succ_cons, hd1_cons] at hr'
            cases hr'
        cases h2 : hd1 58 t1 with
        | none =>
          have e := hd1_some hr'
          cases t1 with
          | nil => cases e
          | cons x t1 =>
            rw [List.take_succ_cons] at e
            cases e
            rw [hd1_cons] at h2
            cases h2
        | some t2 =>
        rw [h2] at q1 q2
        have e2 := hd1_some h2
        subst e2
        rw [List.take_succ_cons, hd1_cons] at hr'
        cases hr'
        try simp only at q1 q2
        refine ⟨rfl, _, 9, 1, rfl, .inl ⟨rfl, rfl⟩, by rw [S_len, List.length_take]; omega, fun hno2 A2 g2 => ?_, fun hno2 A2 g2 => ?_⟩
        rotate_left
        · rw [no1] at hno2
          cases hd2 : dgA t2 with
          | some p => rw [hd2] at hno2; cases hno2
          | none =>
            rw [hd2] at q2
            exact q2 rfl _ (g1.trans g2)
        rw [no1] at hno2
        cases hd2 : dgA t2 with
        | none => rw [hd2] at hno2; cases hno2
        | some p =>
        obtain ⟨b, t3⟩ := p
        rw [hd2] at q1 q2
        rw [nv1 hd2]
        obtain ⟨et2, b1, b2⟩ := dgA_some hd2
        subst et2
        try simp only at q1 q2
        have lt3 : t3.length < 1000 := by simp at lt1'; omega
        have s3 := sl_from (40 :: a :: 58 :: b :: t3) (i := 4) (by simp)
        have s3 : Txt.slice (S (40 :: a :: 58 :: b :: t3)) (some 4) none = S t3 := s3
        have g12 := g1.trans g2
        refine ⟨kz, rfl, 32, t3, ?_, .inr (.inl rfl), by omega, fun t4 h4 => ?_, fun h4 => ?_⟩
        · rw [← espc]
          exact congrArg (fun z => [D.str z, .str " "]) s3
        rotate_left
        · rw [h4] at q2
          exact q2 rfl _ g12
        rw [h4] at q1 q2
        try simp only at q1 q2
        have lt4 : t4.length < 1000 := by
          have := hd1_some h4
          rw [this] at lt3
          simp at lt3
          omega
        have ed : (((d + 1 + 1 : Nat) : Int) - 1) - 1 = ((d + 1 : Nat) : Int) - 1 := by omega
        refine ⟨rfl, t4, ?_, by omega, by omega, fun m1 r1 hr1 A3 g3 => ?_, fun hr1 A3 g3 => ?_⟩
        · exact congrArg (fun z => [D.str (S t4), .int z]) ed
        rotate_left
        · have hr1 : rdC d t4 = none := hr1
          rw [hr1] at q2
          exact q2 rfl _ (g12.trans g3)
        have hr1 : rdC d t4 = some (m1, r1) := hr1
        rw [hr1] at q1 q2
        try simp only at q1 q2
        have g13 := g12.trans g3
        have lr1 : r1.length < 1000 := by
          obtain ⟨e, _, _⟩ := rdC_sound d _ _ _ hr1
          rw [e, List.length_append] at lt4
          omega
        refine ⟨rfl, 32, r1, ?_, .inr (.inl rfl), by omega, fun t5 h5 => ?_, fun h5 => ?_⟩
        · rw [← espc]
        rotate_left
        · rw [h5] at q2
          exact q2 rfl _ g13
        rw [h5] at q1 q2
        try simp only at q1 q2
        have lt5 : t5.length < 1000 := by
          have := hd1_some h5
          rw [this] at lr1
          simp at lr1
          omega
        refine ⟨rfl, t5, ?_, by omega, by omega, fun m2 r2 hr2 A4 g4 => ?_, fun hr2 A4 g4 => ?_⟩
        · exact congrArg (fun z => [D.str (S t5), .int z]) ed
        rotate_left
        · have hr2 : rdC d t5 = none := hr2
          rw [hr2] at q2
          exact q2 rfl _ (g13.trans g4)
        have hr2 : rdC d t5 = some (m2, r2) := hr2
        rw [hr2] at q1 q2
        try simp only at q1 q2
        have g14 := g13.trans g4
        have lr2 : r2.length < 1000 := by
          obtain ⟨e, _, _⟩ := rdC_sound d _ _ _ hr2
          rw [e, List.length_append] at lt5
          omega
        refine ⟨show 5 ≤ sizeLine by omega, rfl, 41, r2, ?_, .inr (.inr rfl), by omega, fun r h6 => ⟨show 2 ≤ sizeLine by omega, ?_⟩, fun h6 => ?_⟩
        · rw [← ecls]
        · rw [h6] at q1
          exact q1 _ _ rfl _ g14
        · rw [h6] at q2
          exact q2 rfl _ g14
theorem f_ctA (T : TopD K mg "check_text" s_check_text p_check_text) (b_isinstance : mg "isinstance" = none) (b_str : mg "str" = none) {a_NoText : Addr} (m_NoText : mg "NoText" = some (.ref a_NoText)) (x_NoText : PySem.W.excIn K a_NoText vErr "ValueError.__new__" = true) : FnX P w K mg base 1 "check_text" p_check_text (spOf mg 1 SCtA) := by
  refine fnD T sc_check_text rfl (by decide) fun N RE f cdv B outer s H E hr hR hx ds A R h hl => ?_
  have hu := hr.units
  refine ⟨_, (dss_one (ds_if (dt_not (dt_val (de_is kit_str b_isinstance b_str boot_str (vr 0)))) (dss_one (ds_raise hR rfl m_NoText x_NoText (da_cons de_str da_nil))) dss_nil)), ?_⟩
  obtain ⟨x, rfl, hk, q1, q2⟩ := h
  have no : (∀ z, x ≠ .str z) → 1 ≤ sizeLine ∧ RE "NoText" A := fun h => ⟨by decide, q2 h⟩
  cases x with
  | str z => exact q1 ⟨z, rfl⟩
  | exc c => cases hk
  | ref r =>
    rcases okA_ref hk with e | e
    all_goals
      conv => whnf
      rw [e]
      exact no fun z h => by cases h
  | _ => exact no fun z h => by cases h
theorem f_rdA (T : TopD K mg "read" s_read p_read) {t : Tok} (m_MOST_RODS : mg "MOST_RODS" = some (.int 5 t)) {a_NoText : Addr} (m_NoText : mg "NoText" = some (.ref a_NoText)) (x_NoText : PySem.W.excIn K a_NoText vErr "ValueError.__new__" = true) (F_check_text : FnX P w K mg base 1 "check_text" p_check_text (spOf mg 1 SCtA)) (F_mobile_ahead : FnX P w K mg base 9 "mobile_ahead" p_mobile_ahead (spOf mg 2 (SMaA 6))) : FnX P w K mg base 10 "read" p_read (spOf mg 1 SRdA) := by
  refine fnD T sc_read rfl (by decide) fun N RE f cdv B outer s H E hr hR hx ds A R h hl => ?_
  have hu := hr.units
  have nd := sc_read.nd
  refine ⟨_, (dss_cons (ds_expr (de_call F_check_text (hr.mono (by omega)) hx (da_cons (vr 0) da_nil)))
    (dss_cons (ds_set (i := 1) nd rfl (by first | exact Or.inl rfl | exact Or.inr rfl) (de_call F_mobile_ahead (hr.mono (by omega)) hx (da_cons (vr 0) (da_cons (de_num m_MOST_RODS) da_nil))))
    (dss_cons (ds_if (t_ne hu (de_ix hu (vr 1) de_int (fun _ _ => rfl)) de_str) (dss_one (ds_raise hR rfl m_NoText x_NoText (da_cons de_str da_nil))) dss_nil)
    (dss_one (ds_ret (de_ix hu (vr 1) de_int (fun _ _ => rfl))))))), ?_⟩
  obtain ⟨x, rfl, hk, q0, q1⟩ := h
  refine ⟨rfl, x, rfl, hk, fun ⟨z, hz⟩ => ?_, fun hn => q0 hn _ Gr.refl⟩
  subst hz
  obtain ⟨hl, q1, q2⟩ := q1 z rfl
  have ln : z.length = z.cps.toList.length := by simp [Str.length]
  have enil : ("" : Str) = S [] := by decide +kernel
  refine ⟨rfl, z.cps.toList, by rw [S_self]; rfl, by decide, by omega, fun m r hr' A1 g1 => ?_, fun hr' A1 g1 => ?_⟩
  · have hr' : rdC 5 z.cps.toList = some (m, r) := hr'
    refine cN (fun c => ⟨by decide, q2 ?_ _ g1⟩) (fun c => q1 m ?_ _ g1)
    · have c : ¬ S r = "" := c
      unfold rdT
      rw [hr']
      cases r with
      | nil => exact absurd enil.symm c
      | cons _ _ => rfl
    · have c : S r = "" := c
      have e := congrArg (fun y : Str => y.cps.toList) c
      simp only [S_cps] at e
      rw [show ("" : Str).cps.toList = [] by decide +kernel] at e
      unfold rdT
      rw [hr', e]
  · have hr' : rdC 5 z.cps.toList = none := hr'
    exact q2 (by unfold rdT; rw [hr']) _ g1
end
end My
namespace DP
open PySem PySem.Spec PyProof.Rows L2
def ansL : List (Str × Bool) → Str → Option Bool
  | [], _ => none
  | (n, b) :: r, c => if c = n then some b else ansL r c
theorem KEr.nil {K : PySem.W.Frag} {mg : Str → Option Value} {cv : Value} : KEr K mg cv (ansL []) := fun c C b h _ => by cases h
theorem KEr.cons {K : PySem.W.Frag} {mg : Str → Option Value} {nm : Str} {C : Addr} {cv : Value} {b : Bool} {r : List (Str × Bool)} (hm : mg nm = some (.ref C)) (hC : ExcK K C) (hk : PySem.W.kitOne K (.ref C) cv = some b) (hr : KEr K mg cv (ansL r)) : KEr K mg cv (ansL ((nm, b) :: r)) := fun c C' b' h h' => by
  unfold ansL at h
  split at h
  · rename_i e
    subst e
    cases h
    rw [hm] at h'
    cases h'
    exact ⟨hC, hk⟩
  · exact hr c C' b' h h'
def SWhL : Ct := fun ds A R E => SWh "NoText" 8 ds A R E
end DP
namespace My
open PySem PySem.Spec PyProof.Rows L2 DP MA
section
variable {P : Program} {w : World} {K : PySem.W.Frag} {mg : Str → Option Value} {base : Heap}
theorem f_whichL (T : TopD K mg "_law_which" s__law_which p__law_which) (b_isinstance : mg "isinstance" = none) (b_ValueError : mg "ValueError" = none) {a_NoMobile a_NoHall a_NoWeights a_NoWay a_NoNumber a_Never a_TooLong a_TooDeep a_NoText a_Nothing : Addr}
    (m_NoMobile : mg "NoMobile" = some (.ref a_NoMobile)) (m_NoHall : mg "NoHall" = some (.ref a_NoHall)) (m_NoWeights : mg "NoWeights" = some (.ref a_NoWeights)) (m_NoWay : mg "NoWay" = some (.ref a_NoWay)) (m_NoNumber : mg "NoNumber" = some (.ref a_NoNumber)) (m_Never : mg "Never" = some (.ref a_Never)) (m_TooLong : mg "TooLong" = some (.ref a_TooLong)) (m_TooDeep : mg "TooDeep" = some (.ref a_TooDeep)) (m_NoText : mg "NoText" = some (.ref a_NoText)) (m_Nothing : mg "Nothing" = some (.ref a_Nothing))
    (kx_NoMobile : KEr K mg (.ref a_NoMobile) (ansL [("NoText", false)])) (kx_NoHall : KEr K mg (.ref a_NoHall) (ansL [("NoText", false)])) (kx_NoWeights : KEr K mg (.ref a_NoWeights) (ansL [("NoText", false)])) (kx_NoWay : KEr K mg (.ref a_NoWay) (ansL [("NoText", false)])) (kx_NoNumber : KEr K mg (.ref a_NoNumber) (ansL [("NoText", false)])) (kx_Never : KEr K mg (.ref a_Never) (ansL [("NoText", false)])) (kx_TooLong : KEr K mg (.ref a_TooLong) (ansL [("NoText", false)])) (kx_TooDeep : KEr K mg (.ref a_TooDeep) (ansL [("NoText", false)])) (kx_NoText : KEr K mg (.ref a_NoText) (ansL [("NoText", true)])) (kx_Nothing : KEr K mg (.ref a_Nothing) (ansL [("NoText", false)])) (kx_ValueError : KEr K mg (.type "ValueError") (ansL [("NoText", true)])) : FnH P w K mg base 1 "_law_which" p__law_which (spOf mg 1 SWhL) := by
  refine fnHD T sc__law_which rfl (by decide) fun N f cdv B outer s H E hr ds A R RE h hl => ?_
  have hu : (B.deeper (envOfC "_law_which" (defScope s__law_which) s.heap.objs.size f cdv)).units + 64 < cLine := by
    have := hr.un
    omega
  have nd := sc__law_which.nd
  refine ⟨_, (dss_cons (ds_set (i := 1) nd rfl (by first | exact Or.inl rfl | exact Or.inr rfl) (de_lst (da_cons (de_isE b_isinstance m_NoMobile kx_NoMobile (vr 0)) (da_cons (de_isE b_isinstance m_NoHall kx_NoHall (vr 0)) (da_cons (de_isE b_isinstance m_NoWeights kx_NoWeights (vr 0)) (da_cons (de_isE b_isinstance m_NoWay kx_NoWay (vr 0)) da_nil))))))
    (dss_cons (ds_expr (de_mt PySem.F.plainAttrs_list PySem.F.slot_list_extend PySem.F.type_list_extend mt_extend d_ext (vr 1) (da_cons (de_lst (da_cons (de_isE b_isinstance m_NoNumber kx_NoNumber (vr 0)) (da_cons (de_isE b_isinstance m_Never kx_Never (vr 0)) (da_cons (de_isE b_isinstance m_TooLong kx_TooLong (vr 0)) (da_cons (de_isE b_isinstance m_TooDeep kx_TooDeep (vr 0)) da_nil))))) da_nil)))
    (dss_cons (ds_expr (de_mt PySem.F.plainAttrs_list PySem.F.slot_list_extend PySem.F.type_list_extend mt_extend d_ext (vr 1) (da_cons (de_lst (da_cons (de_isE b_isinstance m_NoText kx_NoText (vr 0)) (da_cons (de_isE b_isinstance m_Nothing kx_Nothing (vr 0)) da_nil))) da_nil)))
    (dss_cons (ds_if (PW.pt (dw_or (t_ne hu (de_mt PySem.F.plainAttrs_list PySem.F.slot_list_count PySem.F.type_list_count mt_count d_count (vr 1) (da_cons de_bl da_nil)) de_int) (dw_or1 (dt_not (dt_val (de_isEB b_isinstance b_ValueError boot_ValueError kx_ValueError (vr 0))))))) (dss_one (ds_ret (de_tup (da_cons de_str (da_cons (de_neg de_int) da_nil))))) dss_nil)
    (dss_one (ds_ret (de_tup (da_cons de_str (da_cons (de_mt PySem.F.plainAttrs_list PySem.F.slot_list_index PySem.F.type_list_index mt_index d_index (vr 1) (da_cons de_bl da_nil)) da_nil))))))))), ?_⟩
  rcases h with ⟨rfl, q⟩
  · refine ⟨show 4 ≤ sizeLine by decide, isL_of last_get, show 4 ≤ sizeLine by decide, ext_ok (getElem?_push last_get) last_get (by decide) ?_⟩
    have h1 := get_set (ys := [D.bl false, D.bl false, D.bl false, D.bl false] ++ [D.bl false, D.bl false, D.bl false, D.bl false]) (getElem?_push (T := [C.lst [D.bl false, D.bl false, D.bl false, D.bl false]]) (last_get (A := A) (c := C.lst [D.bl false, D.bl false, D.bl false, D.bl false])))
    refine ⟨isL_of h1, show 2 ≤ sizeLine by decide, ext_ok (getElem?_push h1) last_get (by decide) ?_⟩
    have h2 := get_set (ys := [D.bl false, D.bl false, D.bl false, D.bl false] ++ [D.bl false, D.bl false, D.bl false, D.bl false] ++ [D.bl true, D.bl false]) (getElem?_push (T := [C.lst [D.bl true, D.bl false]]) h1)
    have h6 : ∀ m, m < 8 → [false, false, false, false, false, false, false, false, true, false][m]? = some false := by decide
    refine ⟨isL_of h2, cnt_ok (bs := [false, false, false, false, false, false, false, false, true, false]) h2 rfl ?_⟩
    refine ⟨isL_of h2, idx_ok (bs := [false, false, false, false, false, false, false, false, true, false]) 8 h2 rfl rfl (fun m c hm h => by rw [h6 m hm] at h; cases h; decide) ⟨show 2 ≤ sizeLine by decide, q _ ?_⟩⟩
    exact ((((Gr.push.trans Gr.push).set (Nat.le_refl _)).trans Gr.push).set (Nat.le_refl _))
end
end My
namespace DP
open PySem PySem.Spec PyProof.Rows L2 MA
def askD (z : Str) : D := match rdT z.cps.toList with
  | some m => enc m
  | none => rfd 8
def SAk29 : Ct := fun ds A R _ => ∃ x, ds = [x] ∧ okA A x = true ∧ ((∀ z, x ≠ .str z) → ∀ A', Gr A A' → R (rfd 8) A') ∧ ∀ z, x = .str z → z.length ≤ 1000 ∧ ∀ A', Gr A A' → R (askD z) A'
def opD : Option (List Nat × List Nat) → D
  | some (p, q) => .tup [.str (S p), .str (S q)]
  | none => .non
def SLp : Ct := fun ds A R _ => ∃ cs, ds = [.str (S cs)] ∧ cs.length ≤ 1000 ∧ ∀ A', Gr A A' → R (opD (lprt cs)) A'
theorem rng_r (n : Nat) : rng 0 n = (List.range' 0 n).map (fun i => D.int ((i : Nat) : Int)) := by
  unfold rng
  rw [List.range_eq_range']
  exact List.map_congr_left fun i _ => by rw [Int.zero_add]
theorem lsc_step {cs : List Nat} {i c : Nat} (h : cs[i]? = some c) : lsc (cs.take (i + 1)) 0 0 = lsc (cs.take i) 0 0 ++ (if c = 32 ∧ ((cs.take i).map upD).sum + upD c = 0 then [i] else []) ∧ ((cs.take (i + 1)).map upD).sum = ((cs.take i).map upD).sum + upD c := by
  obtain ⟨hl, he⟩ := List.getElem?_eq_some_iff.mp h
  have e : cs.take (i + 1) = cs.take i ++ [c] := by rw [List.take_succ, h]; rfl
  have ln : (cs.take i).length = i := by rw [List.length_take]; omega
  rw [e]
  constructor
  · rw [lsc_app, ln, lsc_cons, Int.zero_add, Nat.zero_add]
    simp [lsc]
  · simp
theorem lsc_len : ∀ (cs : List Nat) (z : Int) (i : Nat), (lsc cs z i).length ≤ cs.length
  | [], _, _ => Nat.le_refl _
  | c :: r, z, i => by
    have := lsc_len r (z + upD c) (i + 1)
    rw [lsc_cons, List.length_append, List.length_cons]
    split
    · simp
      omega
    · simp
      omega
end DP
namespace My
open PySem PySem.Spec PyProof.Rows L2 DP MA
section
variable {P : Program} {w : World} {K : PySem.W.Frag} {mg : Str → Option Value} {base : Heap}
theorem f_ask29 (T : TopD K mg "_law_ask" s__law_ask p__law_ask) {a_HangError a_NoText : Addr} (m_HangError : mg "HangError" = some (.ref a_HangError)) (m_NoText : mg "NoText" = some (.ref a_NoText)) (x1 : PySem.W.exmOne K (.ref a_NoText) (.ref a_HangError) = some true)
    (F_read : FnX P w K mg base 10 "read" p_read (spOf mg 1 SRdA)) (H__law_which : FnH P w K mg base 1 "_law_which" p__law_which (spOf mg 1 SWhL)) : FnX P w K mg base 24 "_law_ask" p__law_ask (spOf mg 1 SAk29) := by
  refine fnD T sc__law_ask rfl (by decide) fun N RE f cdv B outer s H E hr hR hx ds A R h hl => ?_
  have hu := hr.units
  have nd := sc__law_ask.nd
  obtain ⟨okc, hok⟩ : ∃ o : List Str, o = [("NoText" : Str)] := ⟨_, rfl⟩
  have hokc : ∀ c C, c ∈ okc → mg c = some (.ref C) → PySem.W.exmOne K (.ref C) (.ref a_HangError) = some true := fun c C hc hm => by
    rw [hok] at hc
    rw [List.mem_singleton.mp hc, m_NoText] at hm; cases hm; exact x1
  refine ⟨_, (dss_one (ds_try (i := 1) okc rfl rfl rfl nd rfl rfl m_HangError hokc (fun M RE pn E hx => (dss_one (ds_ret (de_call F_read (hr.mono (by omega)) hx (da_cons (vr 0) da_nil))))) (fun M e => (dss_one (ds_ret (de_callH H__law_which (RoomH.of (hr.mono (by omega))) (da_cons (vr 1) da_nil))))))), ?_⟩
  have hi1 : ("NoText" : Str) ∈ okc := by rw [hok]; simp
  obtain ⟨x, rfl, hk, q0, q1⟩ := h
  refine ⟨rfl, x, rfl, hk, fun hn A' g => ⟨hi1, rfl, rfl, fun A2 g2 => q0 hn _ (g.trans g2)⟩, fun z hz => ?_⟩
  obtain ⟨hl, q⟩ := q1 z hz
  unfold askD at q
  refine ⟨hl, fun m hm A' g => ?_, fun hm A' g => ⟨hi1, rfl, rfl, fun A2 g2 => ?_⟩⟩
  · rw [hm] at q
    exact q _ g
  · rw [hm] at q
    exact q _ (g.trans g2)
theorem f_lparts (T : TopD K mg "_law_parts" s__law_parts p__law_parts) (b_len : mg "len" = none) (b_range : mg "range" = none) (b_int : mg "int" = none) : FnX P w K mg base 1 "_law_parts" p__law_parts (spOf mg 1 SLp) := by
  refine fnD T sc__law_parts rfl (by decide) fun N RE f cdv B outer s H E hr hR hx ds A R h hl => ?_
  have hu := hr.units
  have nd := sc__law_parts.nd
  refine ⟨_, (dss_cons (ds_set (i := 1) nd rfl (by first | exact Or.inl rfl | exact Or.inr rfl) de_int)
    (dss_cons (ds_set (i := 2) nd rfl (by first | exact Or.inl rfl | exact Or.inr rfl) (de_lst da_nil))
    (dss_cons (ds_for ownX rfl (di_range1 b_range (da_cons (de_cb c_len d_len b_len PySem.boot_len (da_cons (vr 0) da_nil)) da_nil)) (dg_name (i := 3) nd rfl (by first | exact Or.inl rfl | exact Or.inr rfl)) (dss_cons (ds_set (i := 1) nd rfl (by first | exact Or.inl rfl | exact Or.inr rfl) (de_sub (de_add (vr 1) (de_cty call_int1 d_int1 b_int boot_int (da_cons (e_eq hu (de_ix hu (vr 0) (vr 3) (fun _ _ => rfl)) de_str) da_nil))) (de_cty call_int1 d_int1 b_int boot_int (da_cons (e_eq hu (de_ix hu (vr 0) (vr 3) (fun _ _ => rfl)) de_str) da_nil))))
    (dss_one (ds_expr (de_mt PySem.F.plainAttrs_list PySem.F.slot_list_extend PySem.F.type_list_extend mt_extend d_ext (vr 2) (da_cons (de_repL (de_lst (da_cons (vr 3) da_nil)) (de_cty call_int1 d_int1 b_int boot_int (da_cons (de_and (e_eq hu (de_ix hu (vr 0) (vr 3) (fun _ _ => rfl)) de_str) (de_one (e_eq hu (vr 1) de_int))) da_nil))) da_nil))))))
    (dss_one (ds_ret (de_ite (t_eq hu (de_cb c_len d_len b_len PySem.boot_len (da_cons (vr 2) da_nil)) de_int) (de_tup (da_cons (de_sls (vr 0) do_none (do_some (de_ix hu (vr 2) de_int (fun _ _ => rfl)))) (da_cons (de_sls (vr 0) (do_some (de_add (de_ix hu (vr 2) de_int (fun _ _ => rfl)) de_int)) do_none) da_nil))) de_non)))))), ?_⟩
  obtain ⟨cs, rfl, hlen, q⟩ := h
  have hz : (2000 : Nat) ≤ sizeLine := by decide
  have bz : (S cs).length ≤ sizeLine := by rw [S_len]; omega
  refine ⟨Nat.zero_le _, bz, by rw [S_len]; omega, by rw [S_len]; omega, ?_⟩
  rw [S_len, Int.toNat_natCast, rng_r]
  have epar : ("(" : Str) = S [40] := by decide +kernel
  have espc : (" " : Str) = S [32] := by decide +kernel
  have ecls : (")" : Str) = S [41] := by decide +kernel
  refine dloop_I (fun rest τ A' => ∃ (i : Nat) (x : Option D), i ≤ cs.length ∧ rest = (List.range' i (cs.length - i)).map (fun i => D.int ((i : Nat) : Int)) ∧ τ = [some (.str (S cs)), some (.int ((cs.take i).map upD).sum), some (.ref A.length), x] ∧ A'[A.length]? = some (.lst ((lsc (cs.take i) 0 0).map fun i => D.int ((i : Nat) : Int))) ∧ Gr A A') ?_ ?_ ?_ _ _ _ ⟨0, none, Nat.zero_le _, rfl, rfl, last_get, Gr.push⟩
  · intro _ _ _ _
    trivial
  · rintro z rest τ A1 ⟨i, x, hi, e1, rfl, h1, g1⟩ Nx hN
    by_cases hlt : i < cs.length
    · rw [show cs.length - i = (cs.length - (i + 1)) + 1 by omega, List.range'_succ, List.map_cons] at e1
      cases e1
      obtain ⟨c, hc⟩ : ∃ c, cs[i]? = some c := ⟨cs[i], List.getElem?_eq_getElem hlt⟩
      have hat : atI (S cs).cps.toList ((i : Nat) : Int) = some c := by rw [S_cps]; exact atI_nat hc
      obtain ⟨st1, st2⟩ := lsc_step hc
      conv => whnf
      rw [hat]
      refine ⟨bz, ?_⟩
      conv => whnf
      rw [hat]
      refine ⟨bz, ?_⟩
      refine ⟨isL_of h1, show 1 ≤ sizeLine by omega, ?_⟩
      conv => whnf
      rw [hat]
      refine ⟨bz, ?_⟩
      have ec : ∀ (y : Nat) (sy : Str), sy = S [y] → decide ((⟨#[c]⟩ : Str) = sy) = decide (c = y) := fun y sy hy => by
        rw [hy]
        refine Bool.eq_iff_iff.mpr ?_
        rw [decide_eq_true_eq, decide_eq_true_eq]
        constructor
        · intro h
          have := congrArg (fun z : Str => z.cps.toList) h
          simpa [S] using this
        · intro h
          rw [h]
          rfl
      have lsz : (lsc (cs.take i) 0 0).length ≤ 1000 := by
        have := lsc_len (cs.take i) 0 0
        rw [List.length_take] at this
        omega
      have eL : ∀ (k : Nat) (L : List Nat), k = L.length → L.length ≤ 1 → (∀ y ∈ L, y = i) → (List.replicate k [D.int ((i : Nat) : Int)]).flatten = L.map fun i => D.int ((i : Nat) : Int) := fun k L hk hL hm => by
        match L, hk, hL, hm with
        | [], hk, _, _ => rw [hk]; rfl
        | [y], hk, _, hm => rw [hk, hm y (by simp)]; rfl
        | _ :: _ :: _, _, hL, _ => simp at hL
      have fin : ∀ (L : List Nat) (dv : Int) (B : Ar), B = A1 ++ [.lst [.int ((i : Nat) : Int)]] ++ [.lst (L.map fun i => D.int ((i : Nat) : Int))] → lsc (cs.take (i + 1)) 0 0 = lsc (cs.take i) 0 0 ++ L → dv = ((cs.take (i + 1)).map upD).sum →
          Nx [some (.str (S cs)), some (.int dv), some (.ref A.length), some (.int ((i : Nat) : Int))] (B.set A.length (.lst (((lsc (cs.take i) 0 0).map fun i => D.int ((i : Nat) : Int)) ++ L.map fun i => D.int ((i : Nat) : Int)))) := fun L dv B hB hs hd => by
        subst hB
        refine hN _ _ ⟨i + 1, _, by omega, rfl, by rw [hd], ?_, ?_⟩
        · rw [hs, List.map_append]
          exact get_set (getElem?_push (getElem?_push h1))
        · exact ((g1.trans Gr.push).trans Gr.push).set (Nat.le_refl _)
      have ed : ∀ s : Int, (s + (if decide ((⟨#[c]⟩ : Str) = "(") = true then 1 else 0)) - (if decide ((⟨#[c]⟩ : Str) = ")") = true then 1 else 0) = s + upD c := fun s => by
        rw [ec 40 _ epar, ec 41 _ ecls]
        unfold upD
        simp
        omega
      refine cI (fun c1 => ?_) (fun c1 => ?_)
      · rw [ec 32 _ espc, decide_eq_true_eq] at c1
        have e0 := ed ((cs.take i).map upD).sum
        by_cases h0 : ((cs.take i).map upD).sum + upD c = 0
        · rw [if_pos ⟨c1, h0⟩] at st1
          have e1 : ∀ v : Int, v = 0 → (if decide (v = 0) = true then (1 : Int) else 0) = 1 := fun v hv => if_pos (decide_eq_true hv)
          have e2 := e1 _ (e0.trans h0)
          refine repL_ok (k := if decide (_ = (0 : Int)) = true then 1 else 0) last_get ?_ ?_ ?_ ?_
          · rw [e2]; omega
          · rw [e2]; omega
          · rw [e2]; simp
          rw [e2]
          refine ext_ok (getElem?_push (getElem?_push h1)) last_get (by simp; omega) ?_
          exact fin [i] _ _ rfl st1 (by rw [st2]; exact ed _)
        · rw [if_neg (fun h => h0 h.2), List.append_nil] at st1
          have e1 : ∀ v : Int, v ≠ 0 → (if decide (v = 0) = true then (1 : Int) else 0) = 0 := fun v hv => if_neg (by simpa using hv)
          have e2 := e1 _ (fun z => h0 (e0.symm.trans z))
          refine repL_ok (k := if decide (_ = (0 : Int)) = true then 1 else 0) last_get ?_ ?_ ?_ ?_
          · rw [e2]; omega
          · rw [e2]; omega
          · rw [e2]; simp
          rw [e2]
          refine ext_ok (getElem?_push (getElem?_push h1)) last_get (by simp; omega) ?_
          exact fin [] _ _ rfl (by rw [st1, List.append_nil]) (by rw [st2]; exact ed _)
      · rw [ec 32 _ espc, decide_eq_false_iff_not] at c1
        rw [if_neg (fun h => c1 h.1), List.append_nil] at st1
        refine repL_ok (k := 0) last_get (by omega) (by omega) (by simp) ?_
        refine ext_ok (getElem?_push (getElem?_push h1)) last_get (by simp; omega) ?_
        exact fin [] _ _ rfl (by rw [st1, List.append_nil]) (by rw [st2]; exact ed _)
    · rw [show cs.length - i = 0 by omega] at e1
      cases e1
  · rintro τ A1 ⟨i, x, hi, e1, rfl, h1, g1⟩
    have hi : i = cs.length := by
      have := congrArg List.length e1
      simp at this
      omega
    subst hi
    rw [List.take_length] at h1
    refine len_ok h1 ?_
    have q0 := q A1 g1
    have q := q0
    unfold lprt opD at q
    refine cI (fun c => ?_) (fun c => ?_)
    · rw [decide_eq_true_eq, List.length_map] at c
      obtain ⟨j, hj⟩ : ∃ j, lsc cs 0 0 = [j] := by
        match h : lsc cs 0 0, c with
        | [], c => simp at c
        | [j], _ => exact ⟨j, rfl⟩
        | _ :: _ :: _, c => simp at c; omega
      rw [hj] at h1 q
      obtain ⟨_, hm⟩ := lsc_mem cs 0 0 j (by rw [hj]; simp)
      have lj := (List.getElem?_eq_some_iff.mp hm).1
      rw [Nat.sub_zero] at lj
      refine ix_ok h1 (atI_nat (j := 0) rfl) ⟨bz, ?_⟩
      refine ix_ok h1 (atI_nat (j := 0) rfl) ⟨bz, show 2 ≤ sizeLine by omega, ?_⟩
      have s1 := sl_to cs (j := j) (by omega)
      have s2 := sl_from cs (i := j + 1) (by omega)
      rw [show (((j + 1 : Nat)) : Int) = ((j : Nat) : Int) + 1 by omega] at s2
      show R (.tup [.str (Txt.slice (S cs) none (some ((j : Nat) : Int))), .str (Txt.slice (S cs) (some (((j : Nat) : Int) + 1)) none)]) A1
      rw [s1, s2]
      exact q
    · rw [decide_eq_false_iff_not, List.length_map] at c
      have e : lprt cs = none := by
        unfold lprt
        split
        · rename_i i e
          rw [e] at c
          exact absurd rfl c
        · rfl
      rw [e] at q0
      exact q0
end
end My
namespace DP
open PySem PySem.Spec PyProof.Rows L2 MA
def Asc (cs : List Nat) : Prop := ∀ c ∈ cs, c < 1114112
def sgD (c : Nat) : D := .str ⟨#[c]⟩
def SLr (d : Nat) : Ct := fun ds A R _ => ∃ cs, ds = [.str (S cs), .int ((d : Int) - 1)] ∧ 0 < d ∧ cs.length ≤ 1000 ∧ Asc cs ∧ ∀ A', Gr A A' → R (od (lrd (d - 1) cs)) A'
theorem sg_data : ∀ cs : List Nat, Asc cs → purs (cs.map sgD) = true ∧ PyData.canLayAll0 (toQs (cs.map sgD)) = true
  | [], _ => ⟨rfl, rfl⟩
  | c :: cs, h => by
    obtain ⟨h1, h2⟩ := sg_data cs fun x hx => h x (List.mem_cons_of_mem _ hx)
    have hc := h c (List.mem_cons_self ..)
    refine ⟨by show (pur (sgD c) && purs (cs.map sgD)) = true; rw [h1]; rfl, ?_⟩
    show (PyData.canLay0 (.str ⟨#[c]⟩) && PyData.canLayAll0 (toQs (cs.map sgD))) = true
    rw [h2]
    simp [PyData.canLay0, PyData.strOk]
    exact hc
theorem eq_sg_nil {neg : Bool} {A : Ar} {r q : Nat} {cs : List Nat} {R : DK} (h1 : A[r]? = some (.lst (cs.map sgD))) (h2 : A[q]? = some (.lst [])) (ha : Asc cs) (k : R (.bl (if neg then !decide (cs = []) else decide (cs = []))) A) : dataEq neg (.ref r) (.ref q) A R := by
  obtain ⟨d1, d2⟩ := sg_data cs ha
  have e1 : toP A (.ref r) = .list (toQs (cs.map sgD)) := by unfold toP; simp only [h1]
  have e2 : toP A (.ref q) = .list [] := by unfold toP; simp only [h2]; rfl
  unfold dataEq
  rw [e1, e2]
  refine ⟨by unfold okP; simp only [h1]; exact d1, by unfold okP; simp only [h2]; rfl, by simpa [PyData.canLay0] using d2, by simp [PyData.canLay0, PyData.canLayAll0], by simp [PyData.depth, PyData.depthAll], ?_⟩
  have e3 : PyData.eqv (.list (toQs (cs.map sgD))) (.list []) = decide (cs = []) := by
    cases cs with
    | nil => simp [toQs, PyData.eqv, PyData.eqvAll]
    | cons c cs => simp [toQs, PyData.eqv, PyData.eqvAll]
  rw [e3]
  exact k
theorem seq_if {c : DTT} {t rest : DTS} {R : DEnds} {τ : DSt} {A : Ar} (p : Bool) (hc : ∀ Rb : Bool → Ar → Prop, (∀ A', Gr A A' → Rb p A') → c τ A Rb) (h1 : p = true → ∀ A', Gr A A' → t { R with nx := rest R } τ A') (h0 : p = false → ∀ A', Gr A A' → rest R τ A') : sSeq (sIf c t sNext) rest R τ A := hc _ fun A' g => by
  cases p with
  | true => exact h1 rfl A' g
  | false => exact h0 rfl A' g
theorem sl_neg (l : Option Int) {len : Nat} (h : 1 ≤ len) : Builtin.Str.strSliceIndices l (some (-1)) 1 len = Builtin.Str.strSliceIndices l (some ((len - 1 : Nat) : Int)) 1 len := by
  have a : ¬ (((len - 1 : Nat) : Int) < 0) := by omega
  have b : min (-1 + (len : Int)) (len : Int) = min ((len - 1 : Nat) : Int) (len : Int) := by omega
  simp [Builtin.Str.strSliceIndices, a, b]
theorem sl_in (cs : List Nat) {i : Nat} (h : i + 1 ≤ cs.length) : Txt.slice (S cs) (some (i : Int)) (some (-1)) = S ((cs.drop i).take (cs.length - 1 - i)) := by
  have e : Txt.slice (S cs) (some (i : Int)) (some (-1)) = Txt.slice (S cs) (some (i : Int)) (some (((cs.length - 1 : Nat)) : Int)) := by
    unfold Txt.slice
    rw [S_len, sl_neg _ (by omega)]
  rw [e, sl_ij _ (by omega) (by omega)]
theorem at_neg {cs : List Nat} {c : Nat} (h : cs[cs.length - 1]? = some c) : atI cs (-1) = some c := by
  have hl := (List.getElem?_eq_some_iff.mp h).1
  have e := List.take_append_drop (cs.length - 1) cs
  rw [List.drop_eq_getElem_cons hl, (List.getElem?_eq_some_iff.mp h).2, List.drop_eq_nil_of_le (by omega)] at e
  rw [← e]
  exact atI_last _ _
theorem sg_eq {c y : Nat} {sy : Str} (hy : sy = S [y]) : decide ((⟨#[c]⟩ : Str) = sy) = decide (c = y) := by
  rw [hy]
  refine Bool.eq_iff_iff.mpr ?_
  rw [decide_eq_true_eq, decide_eq_true_eq]
  constructor
  · intro h
    have := congrArg (fun z : Str => z.cps.toList) h
    simpa [S] using this
  · intro h
    rw [h]
    rfl
theorem sgs_S (cs : List Nat) : sgs (S cs) = cs.map sgD := by
  unfold sgs
  rw [S_cps]
  rfl
def nlB : D → Bool
  | .str z => !Txt.contains "abcdefghijklmnopqrstuvwxyz" z
  | _ => false
theorem nl_fil (cs : List Nat) : (cs.map sgD).filter nlB = (cs.filter fun c => !lt1 c).map sgD := by
  rw [List.filter_map]
  congr 2
  funext c
  show (!Txt.contains "abcdefghijklmnopqrstuvwxyz" (S [c])) = _
  rw [has_let]
end DP
namespace My
open PySem PySem.Spec PyProof.Rows L2 DP MA
section
variable {P : Program} {w : World} {K : PySem.W.Frag} {mg : Str → Option Value} {base : Heap}
theorem f_lread (T : TopD K mg "_law_read" s__law_read p__law_read) (b_len : mg "len" = none) (b_int : mg "int" = none) (F__law_parts : FnX P w K mg base 1 "_law_parts" p__law_parts (spOf mg 1 SLp)) : ∀ d, FnX P w K mg base (d + 2) "_law_read" p__law_read (spOf mg 2 (SLr d)) := by
  intro d
  induction d with
  | zero =>
    refine fnNo T fun ds A R RE h => ?_
    obtain ⟨cs, _, h, _⟩ := h
    omega
  | succ d F__law_read =>
    refine fnD T sc__law_read rfl (by decide) fun N RE f cdv B outer s H E hr hR hx ds A R h hl => ?_
    have hu := hr.units
    have nd := sc__law_read.nd
    refine ⟨_, (dss_cons (ds_if (PW.pt (dw_and (t_lele de_int (de_cb c_len d_len b_len PySem.boot_len (da_cons (vr 0) da_nil)) de_int) (dw_and1 (t_eq hu (de_compI none (own := ["_law_sign"]) (frees := []) (ix := []) rfl (di_str (vr 0)) (fun c => (pg_name (i := 0) (show (["_law_sign"] : List Str).Nodup by decide +kernel) rfl (by first | exact Or.inl rfl | exact Or.inr rfl))) (fun c => (t_ninS (vr 0) de_str)) (fun c => (vr 0))) (de_lst da_nil))))) (dss_one (ds_ret (de_tup (da_cons de_str (da_cons (vr 0) da_nil))))) dss_nil)
    (dss_cons (ds_if (PW.pt (dw_or (t_eq hu (vr 1) de_int) (dw_or (t_lt (de_cb c_len d_len b_len PySem.boot_len (da_cons (vr 0) da_nil)) de_int) (dw_or (t_ne hu (de_ix hu (vr 0) de_int (fun _ _ => rfl)) de_str) (dw_or (t_ne hu (de_ix hu (vr 0) (de_neg de_int) (fun _ _ => rfl)) de_str) (dw_or (t_ne hu (de_ix hu (vr 0) de_int (fun _ _ => rfl)) de_str) (dw_or1 (t_ne hu (de_ix hu (vr 0) de_int (fun _ _ => rfl)) de_str)))))))) (dss_one (ds_ret de_non)) dss_nil)
    (dss_cons (ds_if (PW.pt (dw_or (t_ninS (de_ix hu (vr 0) de_int (fun _ _ => rfl)) de_str) (dw_or1 (t_ninS (de_ix hu (vr 0) de_int (fun _ _ => rfl)) de_str)))) (dss_one (ds_ret de_non)) dss_nil)
    (dss_cons (ds_set (i := 2) nd rfl (by first | exact Or.inl rfl | exact Or.inr rfl) (de_call F__law_parts (hr.mono (by omega)) hx (da_cons (de_sls (vr 0) (do_some de_int) (do_some (de_neg de_int))) da_nil)))
    (dss_cons (ds_if (t_is (vr 2) de_non) (dss_one (ds_ret de_non)) dss_nil)
    (dss_cons (ds_par (i := 3) (j := 4) rfl nd rfl rfl (by decide) rfl rfl (da_cons (de_call F__law_read (hr.mono (by omega)) hx (da_cons (de_ix hu (vr 2) de_int (fun _ _ => rfl)) (da_cons (de_sub (vr 1) de_int) da_nil))) (da_cons (de_call F__law_read (hr.mono (by omega)) hx (da_cons (de_ix hu (vr 2) de_int (fun _ _ => rfl)) (da_cons (de_sub (vr 1) de_int) da_nil))) da_nil)) rfl)
    (dss_one (ds_ret (de_ite (t_ninp hu de_non (de_tup (da_cons (vr 3) (da_cons (vr 4) da_nil)))) (de_tup (da_cons de_str (da_cons (de_cty call_intT d_intT b_int boot_int (da_cons (de_ix hu (vr 0) de_int (fun _ _ => rfl)) da_nil)) (da_cons (de_cty call_intT d_intT b_int boot_int (da_cons (de_ix hu (vr 0) de_int (fun _ _ => rfl)) da_nil)) (da_cons (vr 3) (da_cons (vr 4) da_nil)))))) de_non))))))))), ?_⟩
    obtain ⟨cs, rfl, _, hlen, hasc, q⟩ := h
    have q : ∀ A', Gr A A' → R (od (lrd d cs)) A' := q
    have hz : (2000 : Nat) ≤ sizeLine := by decide
    have bz : (S cs).length ≤ sizeLine := by rw [S_len]; omega
    refine seq_if (isN cs) (fun Rb hRb => ?_) (fun hn A1 g1 => ?_) (fun hn A1 g1 => ?_)
    · refine ⟨bz, ?_⟩
      refine cD (fun c1 => ?_) (fun c1 => ?_)
      rotate_left
      · have e : isN cs = false := by
          have c1 : ¬ (1 : Int) ≤ (((S cs).length : Nat) : Int) := c1
          rw [S_len] at c1
          unfold isN
          rw [decide_eq_false (by omega)]
          simp
        rw [e] at hRb
        exact hRb _ Gr.refl
      have c1 : (1 : Int) ≤ (((S cs).length : Nat) : Int) := c1
      rw [S_len] at c1
      refine cD (fun c2 => ?_) (fun c2 => ?_)
      rotate_left
      · have e : isN cs = false := by
          have c2 : ¬ (((S cs).length : Nat) : Int) ≤ 3 := c2
          rw [S_len] at c2
          unfold isN
          rw [decide_eq_false (show ¬ cs.length ≤ 3 by omega)]
          simp
        rw [e] at hRb
        exact hRb _ Gr.refl
      have c2 : (((S cs).length : Nat) : Int) ≤ 3 := c2
      rw [S_len] at c2
      refine cloop_fil trivial nlB id _ _ (fun y hy => ⟨[y], rfl, fun Q hQ => ?_, fun Q hQ => hQ⟩) ?_ ?_
      · obtain ⟨c, hc, rfl⟩ := List.mem_map.mp hy
        exact hQ
      · rw [sgs_S, List.length_map]
        show 0 + cs.length ≤ sizeLine
        omega
      rw [sgs_S, nl_fil, List.map_id, List.nil_append]
      refine ⟨Nat.zero_le _, ?_⟩
      refine eq_sg_nil (getElem?_push last_get) last_get (fun c hc => hasc c ((List.mem_filter.mp hc).1)) ?_
      have e : isN cs = decide (cs.filter (fun c => !lt1 c) = []) := by
        unfold isN
        rw [decide_eq_true (show 1 ≤ cs.length by omega), decide_eq_true (show cs.length ≤ 3 by omega)]
        rw [Bool.eq_iff_iff]
        simp [List.filter_eq_nil_iff]
      rw [if_neg Bool.false_ne_true, ← e]
      exact hRb _ (Gr.push.trans Gr.push)
    · have e : lrd d cs = some (.wt (S cs)) := by cases d <;> (unfold lrd; rw [if_pos hn])
      rw [e] at q
      exact ⟨show 2 ≤ sizeLine by omega, q _ g1⟩
    have epar : ("(" : Str) = S [40] := by decide +kernel
    have ecls : (")" : Str) = S [41] := by decide +kernel
    have ecol : (":" : Str) = S [58] := by decide +kernel
    have espc : (" " : Str) = S [32] := by decide +kernel
    have qn : (d = 0 ∨ shp cs = false ∨ dgs cs = false) → ∀ A', Gr A A' → R .non A' := fun h A' g => by
      have e : lrd d cs = none := by
        cases d with
        | zero => unfold lrd; rw [if_neg (by rw [hn]; decide)]
        | succ d =>
          unfold lrd
          rw [if_neg (by rw [hn]; decide), if_neg ?_]
          rintro ⟨h1, h2⟩
          rcases h with h | h | h
          · omega
          · rw [h1] at h; cases h
          · rw [h2] at h; cases h
      rw [e] at q
      exact q _ g
    refine seq_if (decide (d = 0) || !shp cs) (fun Rb hRb => ?_) (fun hp2 A2 g2 => ?_) (fun hp2 A2 g2 => ?_)
    · refine cD (fun c => ?_) (fun c => ?_)
      · have c : ((d + 1 : Nat) : Int) - 1 = 0 := c
        rw [decide_eq_true (show d = 0 by omega)] at hRb
        exact hRb _ Gr.refl
      have c : ¬ ((d + 1 : Nat) : Int) - 1 = 0 := c
      rw [decide_eq_false (show ¬ d = 0 by omega), Bool.false_or] at hRb
      refine ⟨bz, cD (fun c3 => ?_) (fun c3 => ?_)⟩
      · have c3 : (((S cs).length : Nat) : Int) < 8 := c3
        rw [S_len] at c3
        have e : shp cs = false := by
          unfold shp
          rw [decide_eq_false (show ¬ 8 ≤ cs.length by omega)]
          rfl
        rw [e] at hRb
        exact hRb _ Gr.refl
      have c3 : ¬ (((S cs).length : Nat) : Int) < 8 := c3
      rw [S_len] at c3
      have gt : ∀ i, i < 8 → ∃ c, cs[i]? = some c := fun i hi => ⟨cs[i]'(by omega), List.getElem?_eq_getElem (by omega)⟩
      obtain ⟨c0, h0⟩ := gt 0 (by decide)
      obtain ⟨c2, h2⟩ := gt 2 (by decide)
      obtain ⟨c4, h4⟩ := gt 4 (by decide)
      obtain ⟨cl, hcl⟩ : ∃ c, cs[cs.length - 1]? = some c := ⟨cs[cs.length - 1]'(by omega), List.getElem?_eq_getElem (by omega)⟩
      have e : shp cs = (decide (c0 = 40) && decide (cl = 41) && decide (c2 = 58) && decide (c4 = 32)) := by
        unfold shp
        rw [decide_eq_true (show 8 ≤ cs.length by omega), h0, h2, h4, hcl]
        simp
      rw [e] at hRb
      have a0 : atI (S cs).cps.toList 0 = some c0 := by rw [S_cps]; exact atI_nat (j := 0) h0
      have a2 : atI (S cs).cps.toList 2 = some c2 := by rw [S_cps]; exact atI_nat (j := 2) h2
      have a4 : atI (S cs).cps.toList 4 = some c4 := by rw [S_cps]; exact atI_nat (j := 4) h4
      have al : atI (S cs).cps.toList (-1) = some cl := by rw [S_cps]; exact at_neg hcl
      conv => whnf
      rw [a0]
      refine ⟨bz, cI (fun e => ?_) (fun e => ?_)⟩
      · have e : (!decide ((⟨#[c0]⟩ : Str) = "(")) = true := e
        rw [sg_eq epar] at e
        have e : decide (c0 = 40) = false := by simpa using e
        rw [e] at hRb
        exact hRb _ Gr.refl
      have e : (!decide ((⟨#[c0]⟩ : Str) = "(")) = false := e
      rw [sg_eq epar] at e
      have e : decide (c0 = 40) = true := by simpa using e
      rw [e, Bool.true_and] at hRb
      conv => whnf
      rw [al]
      refine ⟨bz, cI (fun e => ?_) (fun e => ?_)⟩
      · have e : (!decide ((⟨#[cl]⟩ : Str) = ")")) = true := e
        rw [sg_eq ecls] at e
        have e : decide (cl = 41) = false := by simpa using e
        rw [e] at hRb
        exact hRb _ Gr.refl
      have e : (!decide ((⟨#[cl]⟩ : Str) = ")")) = false := e
      rw [sg_eq ecls] at e
      have e : decide (cl = 41) = true := by simpa using e
      rw [e, Bool.true_and] at hRb
      conv => whnf
      rw [a2]
      refine ⟨bz, cI (fun e => ?_) (fun e => ?_)⟩
      · have e : (!decide ((⟨#[c2]⟩ : Str) = ":")) = true := e
        rw [sg_eq ecol] at e
        have e : decide (c2 = 58) = false := by simpa using e
        rw [e] at hRb
        exact hRb _ Gr.refl
      have e : (!decide ((⟨#[c2]⟩ : Str) = ":")) = false := e
      rw [sg_eq ecol] at e
      have e : decide (c2 = 58) = true := by simpa using e
      rw [e, Bool.true_and] at hRb
      conv => whnf
      rw [a4]
      refine ⟨bz, ?_⟩
      show Rb (!decide ((⟨#[c4]⟩ : Str) = " ")) A1
      rw [sg_eq espc]
      exact hRb _ Gr.refl
    · rw [Bool.or_eq_true, decide_eq_true_eq] at hp2
      rcases hp2 with h | h
      · exact qn (.inl h) _ (g1.trans g2)
      · exact qn (.inr (.inl (by simpa using h))) _ (g1.trans g2)
    rw [Bool.or_eq_false_iff, decide_eq_false_iff_not] at hp2
    have hs : shp cs = true := by simpa using hp2.2
    cases d with
    | zero => exact absurd rfl hp2.1
    | succ d =>
    have g12 := g1.trans g2
    have h8 : 8 ≤ cs.length := by
      have := hs
      unfold shp at this
      simp only [Bool.and_eq_true, decide_eq_true_eq] at this
      exact this.1.1.1.1
    have gt : ∀ i, i < 8 → ∃ c, cs[i]? = some c := fun i hi => ⟨cs[i]'(by omega), List.getElem?_eq_getElem (by omega)⟩
    obtain ⟨c1, h1⟩ := gt 1 (by decide)
    obtain ⟨c3, h3⟩ := gt 3 (by decide)
    have a1 : atI (S cs).cps.toList 1 = some c1 := by rw [S_cps]; exact atI_nat (j := 1) h1
    have a3 : atI (S cs).cps.toList 3 = some c3 := by rw [S_cps]; exact atI_nat (j := 3) h3
    have ed : dgs cs = (dg1 c1 && dg1 c3) := by unfold dgs; rw [h1, h3]; rfl
    refine seq_if (!dgs cs) (fun Rb hRb => ?_) (fun hd A3 g3 => ?_) (fun hd A3 g3 => ?_)
    · rw [ed] at hRb
      conv => whnf
      rw [a1]
      refine ⟨bz, cI (fun e => ?_) (fun e => ?_)⟩
      · have e : (!Txt.contains "123456789" (S [c1])) = true := e
        rw [has_dg1] at e
        have e : dg1 c1 = false := by simpa using e
        rw [e] at hRb
        exact hRb _ Gr.refl
      have e : (!Txt.contains "123456789" (S [c1])) = false := e
      rw [has_dg1] at e
      have e : dg1 c1 = true := by simpa using e
      rw [e, Bool.true_and] at hRb
      conv => whnf
      rw [a3]
      refine ⟨bz, ?_⟩
      show Rb (!Txt.contains "123456789" (S [c3])) A2
      rw [has_dg1]
      exact hRb _ Gr.refl
    · exact qn (.inr (.inr (by simpa using hd))) _ (g12.trans g3)
    have hd : dgs cs = true := by simpa using hd
    have g13 := g12.trans g3
    rw [ed, Bool.and_eq_true] at hd
    have s5 := sl_in cs (i := 5) (by omega)
    rw [show cs.length - 1 - 5 = cs.length - 6 by omega] at s5
    obtain ⟨inn, hin⟩ : ∃ t, t = (cs.drop 5).take (cs.length - 6) := ⟨_, rfl⟩
    have s5 : Txt.slice (S cs) (some 5) (some (-1)) = S ((cs.drop 5).take (cs.length - 6)) := s5
    rw [← hin] at s5
    have lin : inn.length ≤ 1000 := by rw [hin, List.length_take, List.length_drop]; omega
    have ain : Asc inn := fun c hc => hasc c (by rw [hin] at hc; exact List.mem_of_mem_drop (List.mem_of_mem_take hc))
    have el : lrd (d + 1) cs = (match lprt inn with
        | none => none
        | some (p, q) => match lrd d p, lrd d q with
          | some m1, some m2 => some (.rod (rdI c1 c3).1 (rdI c1 c3).2 m1 m2)
          | _, _ => none) := by
      have d1 : cs.getD 1 0 = c1 := by simp [List.getD, h1]
      have d3 : cs.getD 3 0 = c3 := by simp [List.getD, h3]
      conv => lhs; unfold lrd
      rw [if_neg (by rw [hn]; decide), if_pos ⟨hs, by rw [ed, hd.1, hd.2]; rfl⟩, ← hin, d1, d3]
      try rfl
    rw [el] at q
    clear el qn
    refine ⟨bz, rfl, inn, congrArg (fun z => [D.str z]) s5, lin, fun A4 g4 => ?_⟩
    have g14 := g13.trans g4
    cases hp : lprt inn with
    | none =>
      rw [hp] at q
      exact q _ g14
    | some pq =>
    obtain ⟨p, p2⟩ := pq
    rw [hp] at q
    have epq := lprt_some hp
    have lp : p.length ≤ 1000 ∧ p2.length ≤ 1000 := by
      have := congrArg List.length epq
      simp at this
      omega
    have ap : Asc p := fun c hc => ain c (by rw [epq]; simp [hc])
    have ap2 : Asc p2 := fun c hc => ain c (by rw [epq]; simp [hc])
    have ee : (((d + 1 + 1 : Nat) : Int) - 1) - 1 = ((d + 1 : Nat) : Int) - 1 := by omega
    refine ⟨rfl, p, congrArg (fun z => [D.str (S p), .int z]) ee, by omega, lp.1, ap, fun A5 g5 => ?_⟩
    refine ⟨rfl, p2, congrArg (fun z => [D.str (S p2), .int z]) ee, by omega, lp.2, ap2, fun A6 g6 => ?_⟩
    have g16 := (g14.trans g5).trans g6
    have nmo : ∀ (x : List Nat) (m : M), lrd (d + 1 - 1) x = some m → ∀ n ∈ m.names, Nm n := fun x m h => (lrd_sound _ _ _ h).2.1.nm
    refine ⟨show 2 ≤ sizeLine by omega, nin_od (nmo p) (nmo p2) ?_⟩
    have q := q A6 g16
    show cond ((lrd d p).isSome && (lrd d p2).isSome) _ _
    cases h5 : lrd d p with
    | none =>
      simp only [h5] at q
      exact q
    | some m1 =>
    cases h6 : lrd d p2 with
    | none =>
      simp only [h5, h6] at q
      exact q
    | some m2 =>
    simp only [h5, h6] at q
    have rd1 : ∀ c, dg1 c = true → PySem.intText? ⟨#[c]⟩ = some ((c - 48 : Nat) : Int) ∧ (⟨#[c]⟩ : Str).length ≤ 640 := fun c hc => by
      unfold dg1 at hc
      simp at hc
      have h1 : (S [c]).cps.toList.all dig = true := by
        rw [S_cps]
        simp [dig]
        omega
      have := nVal_reads h1 (by rw [S_len]; exact Nat.le_refl _) (by rw [S_len]; show 1 ≤ 1000; decide)
      refine ⟨this.trans ?_, by show 1 ≤ 640; decide⟩
      unfold nVal
      rw [S_cps]
      congr 1
      show (((0 * 10 + (c - 48) : Nat)) : Int) = _
      omega
    conv => whnf
    rw [a1]
    refine ⟨bz, _, (rd1 c1 hd.1).1, (rd1 c1 hd.1).2, ?_⟩
    conv => whnf
    rw [a3]
    refine ⟨bz, _, (rd1 c3 hd.2).1, (rd1 c3 hd.2).2, show 5 ≤ sizeLine by omega, ?_⟩
    show R (.tup [.str "rod", .int ((c1 - 48 : Nat) : Int), .int ((c3 - 48 : Nat) : Int), od (lrd d p), od (lrd d p2)]) A6
    rw [h5, h6]
    exact q
end
end My
namespace DP
open PySem PySem.Spec PyProof.Rows L2 MA
theorem sl_asc {z : Str} (h : Asc z.cps.toList) (lo hi : Option Int) : Asc (Txt.slice z lo hi).cps.toList := fun c hc => by
  unfold Txt.slice at hc
  split at hc
  · exact h c hc
  · rw [List.mem_filterMap] at hc
    obtain ⟨i, _, hi⟩ := hc
    exact h c (by simpa using Array.mem_of_getElem? hi)
theorem app_asc {a b : Str} (ha : Asc a.cps.toList) (hb : Asc b.cps.toList) : Asc (a ++ b).cps.toList := fun c hc => by
  rw [cps_app] at hc
  rcases List.mem_append.mp hc with h | h
  · exact ha c h
  · exact hb c h
theorem txt_asc : ∀ (m : M), Wf m → Asc (txt m).cps.toList
  | .wt n, h => fun c hc => by have := (h.nm n (by simp [Mob.names])).az c hc; omega
  | .rod l r a b, h => fun c hc => by
    obtain ⟨l1, l9, r1, r9, _, _⟩ := h.arms
    have ia := txt_asc a h.left
    have ib := txt_asc b h.right
    rw [txt_cps l1 l9 r1 r9] at hc
    simp only [List.mem_cons, List.mem_append, List.not_mem_nil, or_false] at hc
    rcases hc with h | h | h | h | h | h | h | h | h
    · omega
    · omega
    · omega
    · omega
    · omega
    · exact ia c h
    · omega
    · exact ib c h
    · omega
theorem sg12 {x : D} (h : x ∈ [D.str "", D.str "a", D.str "b", D.str "1", D.str "0", D.str "(", D.str ")", D.str " ", D.str ":", D.str "Z", D.str "(1:1 a b)", D.str "  "]) : ∃ z : Str, x = .str z ∧ z.length ≤ 9 ∧ Asc z.cps.toList := by
  simp only [List.mem_cons, List.not_mem_nil, or_false] at h
  rcases h with rfl | rfl | rfl | rfl | rfl | rfl | rfl | rfl | rfl | rfl | rfl | rfl
  all_goals exact ⟨_, rfl, by decide +kernel, by unfold Asc; decide +kernel⟩
theorem odd29 {A : Ar} {x : D} (h : x ∈ [D.non, D.str "", D.int 5, D.str "abcd", D.str "(1:1 a)", D.str "(1:1 a b) ", D.str "(10:1 a b)", D.str "(0:1 a b)", D.tup [D.str "a"], D.str "a b", D.str "(1:1 a b c)"]) : okA A x = true ∧ ((∃ z : Str, x = .str z ∧ z.length ≤ 1000 ∧ (rdT z.cps.toList).isNone = true) ∨ ∀ z, x ≠ .str z) := by
  simp only [List.mem_cons, List.not_mem_nil, or_false] at h
  rcases h with rfl | rfl | rfl | rfl | rfl | rfl | rfl | rfl | rfl | rfl | rfl
  · exact ⟨rfl, .inr fun z e => by cases e⟩
  · exact ⟨by unfold okA; decide +kernel, .inl ⟨_, rfl, by decide +kernel, by decide +kernel⟩⟩
  · exact ⟨rfl, .inr fun z e => by cases e⟩
  · exact ⟨by unfold okA; decide +kernel, .inl ⟨_, rfl, by decide +kernel, by decide +kernel⟩⟩
  · exact ⟨by unfold okA; decide +kernel, .inl ⟨_, rfl, by decide +kernel, by decide +kernel⟩⟩
  · exact ⟨by unfold okA; decide +kernel, .inl ⟨_, rfl, by decide +kernel, by decide +kernel⟩⟩
  · exact ⟨by unfold okA; decide +kernel, .inl ⟨_, rfl, by decide +kernel, by decide +kernel⟩⟩
  · exact ⟨by unfold okA; decide +kernel, .inl ⟨_, rfl, by decide +kernel, by decide +kernel⟩⟩
  · exact ⟨by simp [okA, okAs]; decide +kernel, .inr fun z e => by cases e⟩
  · exact ⟨by unfold okA; decide +kernel, .inl ⟨_, rfl, by decide +kernel, by decide +kernel⟩⟩
  · exact ⟨by unfold okA; decide +kernel, .inl ⟨_, rfl, by decide +kernel, by decide +kernel⟩⟩
def bd3 : Nat → Nat
  | 0 => 400
  | 1 => 160
  | _ => 75
end DP
namespace My
open PySem PySem.Spec PyProof.Rows L2 DP MA
def spA (i : Nat) : Stmt := (defBody s_law).getD i (.Pass ⟨0, 0, 0, 0⟩)
theorem sp_body : defBody s_law = [spA 0, spA 1, spA 2, spA 3, spA 4, spA 5, spA 6, spA 7] := rfl
def m_sp4 : DTE := (dLst (dCons (dC .non) (dCons (dC (.str "")) (dCons (dC (.int 5)) (dCons (dC (.str "abcd")) (dCons (dC (.str "(1:1 a)")) (dCons (dC (.str "(1:1 a b) ")) (dCons (dC (.str "(10:1 a b)")) (dCons (dC (.str "(0:1 a b)")) (dCons (dTup (dCons (dC (.str "a")) dNil)) (dCons (dC (.str "a b")) (dCons (dC (.str "(1:1 a b c)")) dNil))))))))))))
theorem t_sp4 : ∃ (q1 q2 q3 q4 q5 q6 q7 q8 q9 q10 q11 q12 q13 q14 q15 : Pos), spA 4 = .Assign [.Name "_law_odd" q1] (.List [.Constant .none 0 q2, .Constant (.str "") 0 q3, .Constant (.int 5) 0 q4, .Constant (.str "abcd") 0 q5, .Constant (.str "(1:1 a)") 0 q6, .Constant (.str "(1:1 a b) ") 0 q7, .Constant (.str "(10:1 a b)") 0 q8, .Constant (.str "(0:1 a b)") 0 q9, .Tuple [.Constant (.str "a") 0 q10] 0 q11, .Constant (.str "a b") 0 q12, .Constant (.str "(1:1 a b c)") 0 q13] q14) q15 :=
  ⟨_, _, _, _, _, _, _, _, _, _, _, _, _, _, _, rfl⟩
theorem sp4 {X : Cx} {N : En} (nd : X.N.Nodup) (hi : X.N[7]? = some ("_law_odd" : Str)) (hx : Loc X.env.scope "_law_odd") (hf : X.fn ("_law_odd" : Str) = true ∨ X.env.scope.names.lookup ("_law_odd" : Str) = some .local) : PS X (spA 4) (upS X.mg N (sSet 7 m_sp4)) := by
  obtain ⟨q1, q2, q3, q4, q5, q6, q7, q8, q9, q10, q11, q12, q13, q14, q15, hb⟩ := t_sp4
  rw [hb]
  unfold m_sp4
  with_reducible exact ds_set (i := 7) nd hi hx (de_lst (da_cons de_non (da_cons de_str (da_cons de_int (da_cons de_str (da_cons de_str (da_cons de_str (da_cons de_str (da_cons de_str (da_cons (de_tup (da_cons de_str da_nil sc_con)) (da_cons de_str (da_cons de_str da_nil sc_con) sc_con) sc_tup) sc_con) sc_con) sc_con) sc_con) sc_con) sc_con) sc_con) sc_con)) sw_lst hf
end My
namespace My
open PySem PySem.Spec PyProof.Rows L2 DP MA
def m_sp3 (RE : DX) : DTS := sFor (iR1 (dCons (dVar 2) dNil)) (gN 4) (sSeq (sSet 5 (dCall 3 SDraw RE (dCons (dVar 0) (dCons (dVar 1) (dCons (dOp addD (dCb lenD (dCons (dVar 3) dNil)) (dC (.int 1))) dNil)))))
  (sSeq (sSet 6 (dCall 3 SPick RE (dCons (dVar 0) (dCons (dVar 1) (dCons (dLst (dCons (dC (.str "")) (dCons (dC (.str "a")) (dCons (dC (.str "b")) (dCons (dC (.str "1")) (dCons (dC (.str "0")) (dCons (dC (.str "(")) (dCons (dC (.str ")")) (dCons (dC (.str " ")) (dCons (dC (.str ":")) (dCons (dC (.str "Z")) (dCons (dC (.str "(1:1 a b)")) (dCons (dC (.str "  ")) dNil))))))))))))) dNil)))))
    (sSet 3 (dOp addD (dOp addD (dSls (dVar 3) oN (oS (dVar 5))) (dVar 6)) (dSls (dVar 3) (oS (dOp addD (dVar 5) (dCall 3 SDraw RE (dCons (dVar 0) (dCons (dVar 1) (dCons (dC (.int 2)) dNil)))))) oN)))))
section
variable {P : Program} {w : World} {K : PySem.W.Frag} {mg : Str → Option Value} {base : Heap}
theorem sp3 (b_len : mg "len" = none) (b_range : mg "range" = none) (F__law_draw : FnX P w K mg base 3 "_law_draw" p__law_draw (spOf mg 3 SDraw)) (F__law_pick : FnX P w K mg base 4 "_law_pick" p__law_pick (spOf mg 3 SPick)) {N : En} {RE : DX} {f : Addr} {cdv : Value} {B : Around} {outer : List Env} {s : Shared} {H : Hp} {E : XK} (hr : Room 24 (cxOf (CX1 P w) P w K mg base ["_law_script", "_law_town", "_law_often", "_law_text", "_law_k", "_law_at", "_law_sign_in", "_law_odd", "_law_due"] "law" (defScope s_law) f cdv B outer s H E).A) (hx : Passes (CX1 P w) (cxOf (CX1 P w) P w K mg base ["_law_script", "_law_town", "_law_often", "_law_text", "_law_k", "_law_at", "_law_sign_in", "_law_odd", "_law_due"] "law" (defScope s_law) f cdv B outer s H E) (EL mg N RE)) : PS (cxOf (CX1 P w) P w K mg base ["_law_script", "_law_town", "_law_often", "_law_text", "_law_k", "_law_at", "_law_sign_in", "_law_odd", "_law_due"] "law" (defScope s_law) f cdv B outer s H E) (spA 3) (upS mg N (m_sp3 RE)) := by
  have hu := hr.units
  have nd := sc_law.nd
  exact (ds_for ownX rfl (di_range1 b_range (da_cons (vr 2) da_nil)) (dg_name (i := 4) nd rfl (by first | exact Or.inl rfl | exact Or.inr rfl)) (@dss_cons _ _ _ _ _ _ (ds_set (i := 5) nd rfl (by first | exact Or.inl rfl | exact Or.inr rfl) (de_call F__law_draw (hr.mono (by omega)) hx (da_cons (vr 0) (da_cons (vr 1) (da_cons (de_add (de_cb c_len d_len b_len PySem.boot_len (da_cons (vr 3) da_nil)) de_int) da_nil))))) (@dss_cons _ _ _ _ _ _ (ds_set (i := 6) nd rfl (by first | exact Or.inl rfl | exact Or.inr rfl) (de_call F__law_pick (hr.mono (by omega)) hx (da_cons (vr 0) (da_cons (vr 1) (da_cons (de_lst (@da_cons _ _ _ _ _ _ de_str (@da_cons _ _ _ _ _ _ de_str (@da_cons _ _ _ _ _ _ de_str (@da_cons _ _ _ _ _ _ de_str (@da_cons _ _ _ _ _ _ de_str (@da_cons _ _ _ _ _ _ de_str (@da_cons _ _ _ _ _ _ de_str (@da_cons _ _ _ _ _ _ de_str (@da_cons _ _ _ _ _ _ de_str (@da_cons _ _ _ _ _ _ de_str (@da_cons _ _ _ _ _ _ de_str (@da_cons _ _ _ _ _ _ de_str da_nil sc_con) sc_con) sc_con) sc_con) sc_con) sc_con) sc_con) sc_con) sc_con) sc_con) sc_con) sc_con)) da_nil))))) (@dss_one _ _ _ _ (ds_set (i := 3) nd rfl (by first | exact Or.inl rfl | exact Or.inr rfl) (de_add (de_add (de_sls (vr 3) do_none (do_some (vr 5))) (vr 6)) (de_sls (vr 3) (do_some (de_add (vr 5) (de_call F__law_draw (hr.mono (by omega)) hx (da_cons (vr 0) (da_cons (vr 1) (da_cons de_int da_nil)))))) do_none)))))))
end
end My
namespace My
open PySem PySem.Spec PyProof.Rows L2 DP MA
section
variable {P : Program} {w : World} {K : PySem.W.Frag} {mg : Str → Option Value} {base : Heap}
theorem f_law {fo : Addr} {fd : FuncData} (T : Fun K "law" "law" s_law fo fd) (b_len : mg "len" = none) (b_range : mg "range" = none) (F__law_draw : FnX P w K mg base 3 "_law_draw" p__law_draw (spOf mg 3 SDraw)) (F__law_pick : FnX P w K mg base 4 "_law_pick" p__law_pick (spOf mg 3 SPick)) (F__law_some : FnX P w K mg base 10 "_law_some" p__law_some (spOf mg 3 (SSomeD 3))) (F_written : FnX P w K mg base 10 "written" p_written (spOf mg 1 SWrA)) (F__law_read : FnX P w K mg base 8 "_law_read" p__law_read (spOf mg 2 (SLr 6))) (F__law_ask : FnX P w K mg base 24 "_law_ask" p__law_ask (spOf mg 1 SAk29)) : FnOk P w K mg base (CX1 P w) 26 fo fd p_law (spOf mg 1 SLaw) := by
  refine fnL T sc_law rfl (by decide) fun N RE f cdv B outer s H E hr hR hx ds A R h hl => ?_
  have hu := hr.units
  have nd := sc_law.nd
  have S0 := (show PS (cxOf (CX1 P w) P w K mg base ["_law_script", "_law_town", "_law_often", "_law_text", "_law_k", "_law_at", "_law_sign_in", "_law_odd", "_law_due"] "law" (defScope s_law) f cdv B outer s H E) (spA 0) (upS mg N _) from (ds_set (i := 1) nd rfl (by first | exact Or.inl rfl | exact Or.inr rfl) (de_lst da_nil)))
  have S1 := (show PS (cxOf (CX1 P w) P w K mg base ["_law_script", "_law_town", "_law_often", "_law_text", "_law_k", "_law_at", "_law_sign_in", "_law_odd", "_law_due"] "law" (defScope s_law) f cdv B outer s H E) (spA 1) (upS mg N _) from (ds_set (i := 2) nd rfl (by first | exact Or.inl rfl | exact Or.inr rfl) (de_call F__law_draw (hr.mono (by omega)) hx (da_cons (vr 0) (da_cons (vr 1) (da_cons de_int da_nil))))))
  have S2 := (show PS (cxOf (CX1 P w) P w K mg base ["_law_script", "_law_town", "_law_often", "_law_text", "_law_k", "_law_at", "_law_sign_in", "_law_odd", "_law_due"] "law" (defScope s_law) f cdv B outer s H E) (spA 2) (upS mg N _) from (ds_set (i := 3) nd rfl (by first | exact Or.inl rfl | exact Or.inr rfl) (de_call F_written (hr.mono (by omega)) hx (da_cons (de_call F__law_some (hr.mono (by omega)) hx (da_cons (vr 0) (da_cons (vr 1) (da_cons de_int da_nil)))) da_nil))))
  have S3 := sp3 (N := N) (RE := RE) (f := f) (cdv := cdv) (B := B) (outer := outer) (s := s) (H := H) (E := E) b_len b_range F__law_draw F__law_pick (hr.mono (by omega)) hx
  have S4 := @sp4 (cxOf (CX1 P w) P w K mg base ["_law_script", "_law_town", "_law_often", "_law_text", "_law_k", "_law_at", "_law_sign_in", "_law_odd", "_law_due"] "law" (defScope s_law) f cdv B outer s H E) N nd rfl (by first | exact Or.inl rfl | exact Or.inr rfl) (by first | exact .inl rfl | exact .inr rfl)
  have S5 := (show PS (cxOf (CX1 P w) P w K mg base ["_law_script", "_law_town", "_law_often", "_law_text", "_law_k", "_law_at", "_law_sign_in", "_law_odd", "_law_due"] "law" (defScope s_law) f cdv B outer s H E) (spA 5) (upS mg N _) from (ds_set (i := 7) nd rfl (by first | exact Or.inl rfl | exact Or.inr rfl) (de_call F__law_pick (hr.mono (by omega)) hx (da_cons (vr 0) (da_cons (vr 1) (da_cons (vr 7) da_nil))))))
  have S6 := (show PS (cxOf (CX1 P w) P w K mg base ["_law_script", "_law_town", "_law_often", "_law_text", "_law_k", "_law_at", "_law_sign_in", "_law_odd", "_law_due"] "law" (defScope s_law) f cdv B outer s H E) (spA 6) (upS mg N _) from (ds_set (i := 8) nd rfl (by first | exact Or.inl rfl | exact Or.inr rfl) (de_call F__law_read (hr.mono (by omega)) hx (da_cons (vr 3) (da_cons de_int da_nil)))))
  have S7 := (show PS (cxOf (CX1 P w) P w K mg base ["_law_script", "_law_town", "_law_often", "_law_text", "_law_k", "_law_at", "_law_sign_in", "_law_odd", "_law_due"] "law" (defScope s_law) f cdv B outer s H E) (spA 7) (upS mg N _) from (ds_ret (de_and (e_eq hu (de_call F__law_ask (hr.mono (by omega)) hx (da_cons (vr 7) da_nil)) (de_tup (da_cons de_str (da_cons de_int da_nil)))) (de_one (e_eq hu (de_call F__law_ask (hr.mono (by omega)) hx (da_cons (vr 3) da_nil)) (de_ite (t_isnt (vr 8) de_non) (vr 8) (de_tup (da_cons de_str (da_cons de_int da_nil)))))))))
  obtain ⟨st4, hst⟩ : ∃ st, st = spA 4 := ⟨_, rfl⟩
  obtain ⟨st3, hst3⟩ : ∃ st, st = spA 3 := ⟨_, rfl⟩
  rw [← hst] at S4
  rw [← hst3] at S3
  rw [sp_body, ← hst, ← hst3]
  refine ⟨_, (dss_cons S0 (dss_cons S1 (dss_cons S2 (dss_cons S3 (dss_cons S4 (dss_cons S5 (dss_cons S6 (dss_one S7)))))))), ?_⟩
  clear S0 S1 S2 S3 S4 S5 S6 S7
  obtain ⟨ns, rfl, q⟩ := h
  have hz : (3000 : Nat) ≤ sizeLine := by decide
  refine ⟨Nat.zero_le _, rfl, ns, _, 3, 0, rfl, ⟨[], last_get, Nat.le_refl _⟩, by decide, by decide, fun often A1 o0 o3 b1 t1 => ?_⟩
  refine ⟨rfl, ns, _, 0 + 1, rfl, t1, by decide, fun m A2 wm dm r2 => ?_⟩
  refine ⟨rfl, enc m, rfl, okA_enc wm.nm, .inr ⟨m, rfl, wm, by omega, fun A3 g3 => ?_⟩⟩
  have lm := txt_len wm
  have pm : 2 ^ m.deep ≤ 2 ^ 3 := Nat.pow_le_pow_right (by decide) (by omega)
  have hn2 : (rng 0 often.toNat).length ≤ 2 := by unfold rng; simp; omega
  have t3 : Tw A.length 400 A3 := (r2.tw.gr g3).mono (by decide)
  have fin : ∀ (tx : Str) (A4 : Ar) (x y z : Option D), tx.length ≤ 400 → Asc tx.cps.toList → Tw A.length 500 A4 → sSeq (sSet 7 m_sp4) (sSeq (sSet 7 (dCall 3 SPick RE (dCons (dVar 0) (dCons (dVar 1) (dCons (dVar 7) dNil))))) (sSeq (sSet 8 (dCall 2 (SLr 6) RE (dCons (dVar 3) (dCons (dC (.int 5)) dNil)))) (sRet (dAndV (dOp eqD (dCall 1 SAk29 RE (dCons (dVar 7) dNil)) (dTup (dCons (dC (.str "refused")) (dCons (dC (.int 8)) dNil)))) (dOp eqD (dCall 1 SAk29 RE (dCons (dVar 3) dNil)) (dIte (dTest (dOp notND (dVar 8) (dC .non))) (dVar 8) (dTup (dCons (dC (.str "refused")) (dCons (dC (.int 8)) dNil))))))))) { nx := fun _ A' => R .non A', rt := R } [some (.fl ns), some (.ref A.length), some (.int often), some (.str tx), x, y, z, none, none] A4 := fun tx A4 x y z hl ha ht => by
    have tA := ht
    obtain ⟨xs2, hx2, _⟩ := id tA
    have lt2 := lt_of_get hx2
    have s2 : 2 ≤ sizeLine := by omega
    refine ⟨show 1 ≤ sizeLine by omega, show 11 ≤ sizeLine by omega, ?_⟩
    refine ⟨rfl, ns, A.length, _, _, 500, rfl, by omega, last_get, by simp, ht.gr Gr.push, by decide, fun o A5 hod b5 t5 => ?_⟩
    obtain ⟨k1, k2⟩ := odd29 (A := A5) hod
    refine ⟨rfl, tx.cps.toList, by rw [S_self]; rfl, by decide, by have : tx.length = tx.cps.toList.length := by simp [Str.length]
                                                                   omega, ha, fun A6 g6 => ?_⟩
    have e5 : lrd (6 - 1) tx.cps.toList = rdT tx.cps.toList := lrd_rdT _
    rw [e5]
    have last : ∀ A7, dOp eqD (dCall 1 SAk29 RE (dCons (dVar 3) dNil)) (dIte (dTest (dOp notND (dVar 8) (dC .non))) (dVar 8) (dTup (dCons (dC (.str "refused")) (dCons (dC (.int 8)) dNil)))) [some (.fl ns), some (.ref A.length), some (.int often), some (.str tx), x, y, z, some o, some (od (rdT tx.cps.toList))] A7 R := fun A7 => by
      refine ⟨rfl, .str tx, rfl, decide_eq_true (by omega), fun hno => absurd rfl (hno tx), fun zz hzz => ?_⟩
      cases hzz
      refine ⟨by omega, fun A8 g8 => ?_⟩
      unfold askD
      cases h : rdT tx.cps.toList with
      | none => exact ⟨s2, q_rfd (neg := false) (q _)⟩
      | some m' =>
        obtain ⟨_, wm', dm'⟩ := rdT_iff.mp h
        have fe : eqD (enc m') (enc m') A8 R := eqD_encs wm'.nm wm'.nm (by omega) (by rw [decide_eq_true rfl]; exact q _)
        cases m' with
        | wt n => exact fe
        | rod l r a b => exact fe
    refine ⟨rfl, o, rfl, okA_gr g6 _ k1, fun hno A7 g7 => ⟨s2, q_rfd (neg := false) (last A7)⟩, fun zz hzz => ?_⟩
    rcases k2 with ⟨z0, e0, l0, n0⟩ | hno
    · subst e0
      cases hzz
      refine ⟨l0, fun A7 g7 => ?_⟩
      unfold askD
      cases h : rdT zz.cps.toList with
      | some m' => rw [h] at n0; cases n0
      | none => exact ⟨s2, q_rfd (neg := false) (last A7)⟩
    · exact absurd hzz (hno zz)
  unfold m_sp3
  refine ⟨by omega, by omega, ?_⟩
  have bge : ∀ k, 75 ≤ bd3 k := fun k => by
    unfold bd3
    split <;> omega
  refine dloop_I (fun rest τ A' => ∃ (tx : Str) (x y z : Option D), rest.length ≤ 2 ∧ tx.length ≤ bd3 rest.length ∧ Asc tx.cps.toList ∧ τ = [some (.fl ns), some (.ref A.length), some (.int often), some (.str tx), x, y, z, none, none] ∧ Tw A.length (500 - 3 * rest.length) A') ?_ ?_ ?_ _ _ _ ⟨txt m, none, none, none, hn2, by have := bge (rng 0 often.toNat).length; omega, txt_asc m wm, rfl, t3.mono (by omega)⟩
  · intro _ _ _ _
    trivial
  · rintro v rest τ A4 ⟨tx, x, y, z, h2, hb, ha, rfl, ht⟩ Nx hN
    rw [List.length_cons] at h2 hb ht
    have hb2 : tx.length ≤ 160 ∧ 2 * tx.length + 9 ≤ bd3 rest.length := by
      have : rest.length = 0 ∨ rest.length = 1 := by omega
      rcases this with e | e
      · rw [e] at hb ⊢
        have hb : tx.length ≤ 160 := hb
        exact ⟨by omega, show 2 * tx.length + 9 ≤ 400 by omega⟩
      · rw [e] at hb ⊢
        have hb : tx.length ≤ 75 := hb
        exact ⟨by omega, show 2 * tx.length + 9 ≤ 160 by omega⟩
    refine ⟨show tx.length ≤ sizeLine by omega, rfl, ns, A.length, _, _, rfl, ht, by omega, by omega, fun i B1 i0 i1 b1 u1 => ?_⟩
    obtain ⟨xs2, hx2, _⟩ := id u1
    have lt2 := lt_of_get hx2
    refine ⟨show 12 ≤ sizeLine by omega, rfl, ns, A.length, _, _, _, rfl, by omega, last_get, by simp, u1.gr Gr.push, by omega, fun sg B2 hsg b2 u2 => ?_⟩
    obtain ⟨zz, rfl, lz, az⟩ := sg12 hsg
    have l1 := Txt.slice_le tx none (some i)
    refine ⟨show tx.length ≤ sizeLine by omega, by omega, rfl, ns, A.length, 2, _, rfl, u2, by omega, by decide, fun j B3 j0 j1 b3 u3 => ?_⟩
    have l2 := Txt.slice_le tx (some (i + j)) none
    have la := len_app (Txt.slice tx none (some i)) zz
    refine ⟨show tx.length ≤ sizeLine by omega, by rw [la]; omega, hN _ _ ⟨_, _, _, _, by omega, ?_, ?_, rfl, u3.mono (by omega)⟩⟩
    · rw [len_app, la]
      omega
    · exact app_asc (app_asc (sl_asc ha _ _) az) (sl_asc ha _ _)
  · rintro τ A4 ⟨tx, x, y, z, h2, hb, ha, rfl, ht⟩
    exact fin tx A4 x y z hb ha ht
end
end My
namespace L2
open PySem PySem.Spec PyProof.Rows
theorem topD_go {C : Prop} {K : PySem.W.Frag} {h : Heap} {mg : Str → Option Value} {x : Str} {st : Stmt} {ps : List Str} {f : Addr} {oc : Value} {od an : Option Addr} {osl : Array (Option Value)} {kV doc pm cdv ct : Value} (X : K.In h) (G : h.Ns mainGlobals mg)
    (a : PySem.W.nsIn K mainGlobals x = some (some (.ref f))) (l : K.lookup f = some ⟨oc, od, .func (PySem.W.fnOf x x (defArgs st) (defBody st) (defScope st) .none kV doc pm an cdv ct), osl⟩) (c : PySem.W.codeIn K cdv x = true) (k : PySem.W.keepIn K (.ref f) = true)
    (hb : ∀ (kV doc pm : Value) (an : Option Addr) (cdv ct : Value) (us : List Value), us.length = ps.length → bindArgs (PySem.W.fnOf x x (defArgs st) (defBody st) (defScope st) .none kV doc pm an cdv ct) ⟨us, []⟩ = pure (ps.zip us)) (go : TopD K mg x st ps → C) : C :=
  go ⟨f, _, fun_mk l c k, (fun_mk l c k).binds hb, PySem.W.mg_of X G a⟩
theorem exc_go {C : Prop} {K : PySem.W.Frag} {h : Heap} {mg : Str → Option Value} {x : Str} {e : Addr} (X : K.In h) (G : h.Ns mainGlobals mg) (a : PySem.W.nsIn K mainGlobals x = some (some (.ref e))) (go : mg x = some (.ref e) → C) : C := go (PySem.W.mg_of X G a)
theorem cls_some {K : PySem.W.Frag} {C : Addr} {bmB : List Value} {newId : String} (q : PySem.W.excIn K C bmB newId = true) : (PySem.W.clsIn K C).isSome = true := by
  unfold PySem.W.excIn at q
  split at q
  · rename_i ho
    unfold PySem.W.clsIn
    rw [ho]
    rfl
  · cases q
theorem exk_mk {K : PySem.W.Frag} {e : Addr} (h1 : PySem.W.findIn K (.ref e) "__getattribute__" = some (some (.builtin "BaseException.__getattribute__"))) (h2 : PySem.W.findIn K (.ref e) "__getattr__" = some none)
    (h3 : PySem.W.findIn K (.ref e) "__class__" = some (some (.builtin "object.__class__"))) (h4 : PySem.W.specialIn K (.builtin "object.__class__") "__get__" = some (some (.builtin "getset_descriptor.__get__"))) (h5 : PySem.W.takesIn K (.builtin "object.__class__") = some true)
    (h6 : PySem.W.mroIn K e (.type "object") = some true) (h7 : PySem.W.mroIn K e (.type "BaseException") = some true) (x : PySem.W.excIn K e vErr "ValueError.__new__" = true) : ExcK K e := ⟨h1, h2, h3, h4, h5, h6, h7, cls_some x⟩
end L2
namespace My
open PySem PySem.Spec PyProof.Rows L2 DP MA
theorem all {P : Program} {w : World} {K : PySem.W.Frag} {mg : Str → Option Value} {base : Heap} {f : Addr} {fd : FuncData} {e_HangError e_NoMobile e_NoHall e_NoWeights e_NoWay e_NoNumber e_Never e_TooLong e_TooDeep e_NoText e_Nothing : Addr} (T_is_number : TopD K mg "is_number" s_is_number p_is_number) (T_is_name : TopD K mg "is_name" s_is_name p_is_name) (T_is_mobile_within : TopD K mg "is_mobile_within" s_is_mobile_within p_is_mobile_within) (T_is_mobile : TopD K mg "is_mobile" s_is_mobile p_is_mobile) (T_check_mobile : TopD K mg "check_mobile" s_check_mobile p_check_mobile) (T_check_text : TopD K mg "check_text" s_check_text p_check_text) (T_whole_number : TopD K mg "whole_number" s_whole_number p_whole_number) (T_behind : TopD K mg "behind" s_behind p_behind) (T_weight_ahead : TopD K mg "weight_ahead" s_weight_ahead p_weight_ahead) (T_mobile_ahead : TopD K mg "mobile_ahead" s_mobile_ahead p_mobile_ahead) (T_written_below : TopD K mg "written_below" s_written_below p_written_below) (T_written : TopD K mg "written" s_written p_written) (T_read : TopD K mg "read" s_read p_read) (T__law_cell_at : TopD K mg "_law_cell_at" s__law_cell_at p__law_cell_at) (T__law_mixed : TopD K mg "_law_mixed" s__law_mixed p__law_mixed) (T__law_draw : TopD K mg "_law_draw" s__law_draw p__law_draw) (T__law_pick : TopD K mg "_law_pick" s__law_pick p__law_pick) (T__law_mobile : TopD K mg "_law_mobile" s__law_mobile p__law_mobile) (T__law_fresh : TopD K mg "_law_fresh" s__law_fresh p__law_fresh) (T__law_some : TopD K mg "_law_some" s__law_some p__law_some) (T__law_which : TopD K mg "_law_which" s__law_which p__law_which) (T__law_ask : TopD K mg "_law_ask" s__law_ask p__law_ask) (T__law_parts : TopD K mg "_law_parts" s__law_parts p__law_parts) (T__law_read : TopD K mg "_law_read" s__law_read p__law_read) (b_len : mg "len" = none) (b_isinstance : mg "isinstance" = none) (b_bool : mg "bool" = none) (b_int : mg "int" = none) (b_str : mg "str" = none) (b_tuple : mg "tuple" = none) (b_all : mg "all" = none) (b_range : mg "range" = none) (b_ValueError : mg "ValueError" = none) (m_HangError : mg "HangError" = some (.ref e_HangError)) (m_NoMobile : mg "NoMobile" = some (.ref e_NoMobile)) (m_NoHall : mg "NoHall" = some (.ref e_NoHall)) (m_NoWeights : mg "NoWeights" = some (.ref e_NoWeights)) (m_NoWay : mg "NoWay" = some (.ref e_NoWay)) (m_NoNumber : mg "NoNumber" = some (.ref e_NoNumber)) (m_Never : mg "Never" = some (.ref e_Never)) (m_TooLong : mg "TooLong" = some (.ref e_TooLong)) (m_TooDeep : mg "TooDeep" = some (.ref e_TooDeep)) (m_NoText : mg "NoText" = some (.ref e_NoText)) (m_Nothing : mg "Nothing" = some (.ref e_Nothing)) (x_NoText : PySem.W.excIn K e_NoText vErr "ValueError.__new__" = true) (x_NoMobile : PySem.W.excIn K e_NoMobile vErr "ValueError.__new__" = true) (em_NoText : PySem.W.exmOne K (.ref e_NoText) (.ref e_HangError) = some true) (xk_NoText : ExcK K e_NoText) (kq_NoText_NoMobile : PySem.W.kitOne K (.ref e_NoText) (.ref e_NoMobile) = some false) (kq_NoText_NoHall : PySem.W.kitOne K (.ref e_NoText) (.ref e_NoHall) = some false) (kq_NoText_NoWeights : PySem.W.kitOne K (.ref e_NoText) (.ref e_NoWeights) = some false) (kq_NoText_NoWay : PySem.W.kitOne K (.ref e_NoText) (.ref e_NoWay) = some false) (kq_NoText_NoNumber : PySem.W.kitOne K (.ref e_NoText) (.ref e_NoNumber) = some false) (kq_NoText_Never : PySem.W.kitOne K (.ref e_NoText) (.ref e_Never) = some false) (kq_NoText_TooLong : PySem.W.kitOne K (.ref e_NoText) (.ref e_TooLong) = some false) (kq_NoText_TooDeep : PySem.W.kitOne K (.ref e_NoText) (.ref e_TooDeep) = some false) (kq_NoText_NoText : PySem.W.kitOne K (.ref e_NoText) (.ref e_NoText) = some true) (kq_NoText_Nothing : PySem.W.kitOne K (.ref e_NoText) (.ref e_Nothing) = some false) (kv_NoText : PySem.W.kitOne K (.ref e_NoText) (.type "ValueError") = some true) {t_LONGEST_NAME : Tok} (m_LONGEST_NAME : mg "LONGEST_NAME" = some (.int 3 t_LONGEST_NAME)) {t_LONGEST_ARM : Tok} (m_LONGEST_ARM : mg "LONGEST_ARM" = some (.int 9 t_LONGEST_ARM)) {t_MOST_RODS : Tok} (m_MOST_RODS : mg "MOST_RODS" = some (.int 5 t_MOST_RODS)) {t_FIGURES : Tok} (m_FIGURES : mg "FIGURES" = some (.str "0123456789" t_FIGURES)) (T : Fun K "law" "law" s_law f fd) : FnOk P w K mg base (CX1 P w) 26 f fd p_law spFz := by
  have FnumA := fA_num (P := P) (w := w) (base := base) T_is_number b_isinstance b_bool b_int
  have FnameA := fA_name (P := P) (w := w) (base := base) T_is_name b_isinstance b_str b_len b_all m_LONGEST_NAME
  have FimwA := fA_imw T_is_mobile_within b_isinstance b_str b_tuple b_len m_LONGEST_ARM FnameA FnumA 6
  have FmobA := fA_mob T_is_mobile m_MOST_RODS FimwA
  have FchkA := fA_chk T_check_mobile m_NoMobile x_NoMobile FmobA
  have Fbeh := f_behA (P := P) (w := w) (base := base) T_behind b_len m_NoText x_NoText
  have Fwn := f_wnA (P := P) (w := w) (base := base) T_whole_number b_len b_str b_int b_all m_FIGURES m_NoText x_NoText
  have Fwa := f_waA T_weight_ahead m_LONGEST_NAME m_NoText x_NoText FnameA
  have Fma := f_maA T_mobile_ahead m_LONGEST_ARM m_NoText x_NoText Fwa Fwn Fbeh 6
  have Fwb := f_wb (P := P) (w := w) (base := base) T_written_below 6
  have Fwr := f_wrA T_written FchkA Fwb
  have Fct := f_ctA (P := P) (w := w) (base := base) T_check_text b_isinstance b_str m_NoText x_NoText
  have Frd := f_rdA T_read m_MOST_RODS m_NoText x_NoText Fct Fma
  have Fcell := f_cell (P := P) (w := w) (base := base) T__law_cell_at b_len
  have Fmix := f_mixed T__law_mixed Fcell
  have Fdraw := f_draw T__law_draw b_len Fmix
  have Fpick := f_pick T__law_pick b_len Fdraw
  have Fmob := f_mobile T__law_mobile Fdraw Fpick
  have Ffresh := f_fresh (P := P) (w := w) (base := base) T__law_fresh b_len 8
  have Fsome := f_some T__law_some Fdraw Fpick Fmob Ffresh 3 (by decide)
  have Hwh := f_whichL (P := P) (w := w) (base := base) T__law_which b_isinstance b_ValueError m_NoMobile m_NoHall m_NoWeights m_NoWay m_NoNumber m_Never m_TooLong m_TooDeep m_NoText m_Nothing (KEr.cons m_NoText xk_NoText kq_NoText_NoMobile KEr.nil) (KEr.cons m_NoText xk_NoText kq_NoText_NoHall KEr.nil) (KEr.cons m_NoText xk_NoText kq_NoText_NoWeights KEr.nil) (KEr.cons m_NoText xk_NoText kq_NoText_NoWay KEr.nil) (KEr.cons m_NoText xk_NoText kq_NoText_NoNumber KEr.nil) (KEr.cons m_NoText xk_NoText kq_NoText_Never KEr.nil) (KEr.cons m_NoText xk_NoText kq_NoText_TooLong KEr.nil) (KEr.cons m_NoText xk_NoText kq_NoText_TooDeep KEr.nil) (KEr.cons m_NoText xk_NoText kq_NoText_NoText KEr.nil) (KEr.cons m_NoText xk_NoText kq_NoText_Nothing KEr.nil) (KEr.cons m_NoText xk_NoText kv_NoText KEr.nil)
  have Fask := f_ask29 T__law_ask m_HangError m_NoText em_NoText Frd Hwh
  have Flp := f_lparts (P := P) (w := w) (base := base) T__law_parts b_len b_range b_int
  have Flr := f_lread T__law_read b_len b_int Flp 6
  exact (f_law T b_len b_range Fdraw Fpick Fsome Fwr Flr Fask).imp fun vs H Q E h => sp_fz h
theorem walk {l : PySem.W.OpenLaw} {q : Program} {loose : List Str} {XP : (Str → Option Value) → Heap → Prop} {YP : World → Heap → Prop} {d : DefRec} {K : Params → PySem.W.Frag} (hn : l.most = some 63) (hdf : d.params.defaults = []) (hK : ∀ p, (K p).all (fun p => noL p.2) = true)
    (hY : ∀ (w : World) (h : Heap), YP w h → (K w.params).In h)
    (F : ∀ (w : World) (mg : Str → Option Value) (fa : Addr) (h : Heap), (K w.params).In h → h.Ns mainGlobals mg → mg d.name = some (.ref fa) →
      ∃ fd : FuncData, (∀ (s : Shared) (u : Value), BindsTo s fd ⟨[u], []⟩ [("_law_script", u)]) ∧ ∀ base : Heap, (K w.params).In base → base.Ns mainGlobals mg → FnOk l.prog w (K w.params) mg base (CX1 l.prog w) 26 fa fd ["_law_script"] spFz) :
    PySem.W.WalkO q loose XP YP l.row.toRowW d [] (fun f vs => PySem.call f vs) :=
  L2.walk_of (n := 63) (k := 26) (x := "_law_script") (CX := fun w => CX1 l.prog w) (sp := fun _ => spFz) hn (by decide) hdf ⟨rfl, by decide, by decide⟩ hY F (fun w H a ns _ hO hS => fz_of (hK w.params) hO hS) fun w H s e s' z => by
    obtain ⟨_, _, _, _, _, z⟩ := z
    exact z
theorem law_mk {P : Program} {w : World} {K : PySem.W.Frag} {h : Heap} {mg : Str → Option Value} {fa f3 : Addr} {od3 an3 : Option Addr} {sl3 : Array (Option Value)} {oc3 kV3 dc3 pm3 cd3 ct3 : Value} (X : K.In h) (G : h.Ns mainGlobals mg) (hfa : mg "law" = some (.ref fa))
    (a3 : PySem.W.nsIn K mainGlobals "law" = some (some (.ref f3))) (l3 : K.lookup f3 = some ⟨oc3, od3, .func (PySem.W.fnOf "law" "law" (defArgs s_law) (defBody s_law) (defScope s_law) .none kV3 dc3 pm3 an3 cd3 ct3), sl3⟩) (c3 : PySem.W.codeIn K cd3 "law" = true) (k3 : PySem.W.keepIn K (.ref f3) = true)
    (go : ∀ (base : Heap) {f : Addr} {fd : FuncData}, Fun K "law" "law" s_law f fd → FnOk P w K mg base (CX1 P w) 26 f fd p_law spFz) :
    ∃ fd : FuncData, (∀ (s : Shared) (v : Value), BindsTo s fd ⟨[v], []⟩ [("_law_script", v)]) ∧ ∀ base : Heap, K.In base → base.Ns mainGlobals mg → FnOk P w K mg base (CX1 P w) 26 fa fd ["_law_script"] spFz := by
  have e := hfa.symm.trans (PySem.W.mg_of X G a3)
  cases e
  exact ⟨PySem.W.fnOf "law" "law" (defArgs s_law) (defBody s_law) (defScope s_law) .none kV3 dc3 pm3 an3 cd3 ct3, fun s v => .of_eq rfl, fun base _ _ => go base (fun_mk l3 c3 k3)⟩
end My
open PySem PySem.W PyProof.Rows
set_option maxHeartbeats 0
def PySem.W.Fast.tw16864618592142003386 := ()
def PySem.W.Fast.tw14904681115217272601 := ()
def PySem.W.Fast.tw11898673842065290130 := ()
def PySem.W.Fast.tw10794316228461398450 := ()
def PySem.W.Fast.tw4684226298888400098 := ()
def PySem.W.Fast.tw4077048163395320219 := ()
def PySem.W.Fast.tw15163409612377130007 := ()
def PySem.W.Fast.tw13913613514976480042 := ()
def PySem.W.Fast.tw16053306600634468012 := ()
def PySem.W.Fast.tw8060666987683057360 := ()
def PySem.W.Fast.tw4683681711962371626 := ()
def PySem.W.Fast.tw16822532161544500889 := ()
def PySem.W.Fast.tw2187251505897268136 := ()
def PySem.W.Fast.tw11024694936033576346 := ()
def PySem.W.Fast.tw13462424878891718212 := ()
def PySem.W.Fast.tw15528221797031607849 := ()
def PySem.W.Fast.tw6953138203311097117 := ()
def PySem.W.Fast.tw6148498323302512570 := ()
def PySem.W.Fast.tw11738243743197964597 := ()
def PySem.W.Fast.tw8739830900816887780 := ()
def PySem.W.Fast.tw4734895289157585001 := ()
def PySem.W.Fast.tw4323258101793500111 := ()
def PySem.W.Fast.tw14689541978594310382 := ()
def PySem.W.Fast.tw2399617604181995578 := ()
def PySem.W.Fast.tw17744993626210230056 := ()
def PySem.W.Fast.tw11401859456886640639 := ()
def PySem.W.Fast.tw10294118229990073760 := ()
def PySem.W.Fast.tw18101783494082082527 := ()
def PySem.W.Fast.tw866717566613908145 := ()
def PySem.W.Fast.tw15621415185263527259 := ()
def PySem.W.Fast.tw13034982811429478159 := ()
def PySem.W.Fast.tw3919386906821981792 := ()
def PySem.W.Fast.tw12887044766017154078 := ()
def PySem.W.Fast.tw4971374062829452455 := ()
def PySem.W.Fast.tw7217548393331319763 := ()
def PySem.W.Fast.tw15254633091992210921 := ()
def PySem.W.Fast.tw8047209995159408440 := ()
def PySem.W.Fast.tw11564986514327137767 := ()
def PySem.W.Fast.tw11962351593759143498 := ()
def PySem.W.Fast.tw17214186515701724070 := ()
def PySem.W.Fast.tw13769103115541136327 := ()
def PySem.W.Fast.tw9461873434466728008 := ()
def PySem.W.Fast.tw6056707288978253535 := ()
def PySem.W.Fast.tw16756451883985382160 := ()
def PySem.W.Fast.tw6522051377940421278 := ()
def PySem.W.Fast.tw2827255003249426055 := ()
def PySem.W.Fast.tw11692469974320434101 := ()
def PySem.W.Fast.tw8374155422468719031 := ()
def PySem.W.Fast.tw4562827626845409882 := ()
def PySem.W.Fast.tw9582823730064241283 := ()
def PySem.W.Fast.tw16580936054896371168 := ()
def PySem.W.Fast.tw2135409205425526673 := ()
def PySem.W.Fast.tw10042083083395451092 := ()
def PySem.W.Fast.tw18367749455379333440 := ()
def PySem.W.Fast.tw16902440903046159558 := ()
def PySem.W.Fast.tw4075453323654395381 := ()
def PySem.W.Fast.tw2295934692909999376 := ()
def PySem.W.Fast.tw9689729476882780088 := ()
def PySem.W.Fast.tw7476452910721959123 := ()
def PySem.W.Fast.tw3985964047577975286 := ()
def PySem.W.Fast.tw12954591660760965231 := ()
def PySem.W.Fast.tw11384182702204212275 := ()
def PySem.W.Fast.tw13946496683202179788 := ()
def PySem.W.Fast.tw15042883488752021643 := ()
def PySem.W.Fast.tw12459912946257978736 := ()
def PySem.W.Fast.tw10258873121960336067 := ()
def PySem.W.Fast.tw10510056951384868246 := ()
def PySem.W.Fast.tw1950803216711332702 := ()
def PySem.W.Fast.tw1532491051758110099 := ()
def PySem.W.Fast.tw3300257896294614128 := ()
def PySem.W.Fast.tw1825952489489211193 := ()
def PySem.W.Fast.tw17338325484393633139 := ()
def PySem.W.Fast.tw5890639436620234070 := ()
def PySem.W.Fast.tw17357851268252398515 := ()
def PySem.W.Fast.tw11907897558876765624 := ()
def PySem.W.Fast.tw13812277999558781770 := ()
def PySem.W.Fast.tw8219003486749837733 := ()
def PySem.W.Fast.tw13469501207593853456 := ()
def PySem.W.Fast.tw13421457143807847188 := ()
def PySem.W.Fast.tw2107523057676978006 := ()
def PySem.W.Fast.tw3235425350174046738 := ()
def PySem.W.Fast.tw14424681132571578402 := ()
def PySem.W.Fast.tw15385626851002476777 := ()
def PySem.W.Fast.tw896878414759379649 := ()
def PySem.W.Fast.tw2483420100392427323 := ()
def PySem.W.Fast.tw14243238205550065757 := ()
def PySem.W.Fast.tw384561282630992784 := ()
def PySem.W.Fast.tw14935467056822913822 := ()
def PySem.W.Fast.tw16409965706819354750 := ()
def PySem.W.Fast.tw8733291241859026926 := ()
def PySem.W.Fast.tw10016166984437732892 := ()
def PySem.W.Fast.tw16723463757517087524 := ()
def PySem.W.Fast.tw14782755387869428366 := ()
def PySem.W.Fast.tw4635989785427082552 := ()
def PySem.W.Fast.tw16955839230299176341 := ()
def PySem.W.Fast.tw17435391645217708394 := ()
def PySem.W.Fast.tw11823594873375168262 := ()
def PySem.W.Fast.tw16279288168775177219 := ()
def PySem.W.Fast.tw1915925776726481438 := ()
def PySem.W.Fast.tw1979317910248211280 := ()
def PySem.W.Fast.tw9784134513789038367 := ()
def PySem.W.Fast.tw17187875760726034783 := ()
def PySem.W.Fast.tw12297992134047619483 := ()
def PySem.W.Fast.tw446995266069924076 := ()
def PySem.W.Fast.tw14022695629967993375 := ()
def PySem.W.Fast.tw2400638427578300857 := ()
def PySem.W.Fast.tw13114645530532618160 := ()
def PySem.W.Fast.tw6798380500665416597 := ()
def PySem.W.Fast.tw13135312941875745310 := ()
def PySem.W.Fast.tw2144661209622563809 := ()
def PySem.W.Fast.tw1864683662541468164 := ()
def PySem.W.Fast.tw447263597446747957 := ()
def PySem.W.Fast.tw1478030337931831861 := ()
def PySem.W.Fast.tw2244103112122482387 := ()
def PySem.W.Fast.tw17464319187374939960 := ()
def PySem.W.Fast.tw9972681490609642005 := ()
def PySem.W.Fast.tw2080317491765294665 := ()
def PySem.W.Fast.tw1000662321505670351 := ()
def PySem.W.Fast.tw7086961617601330827 := ()
def PySem.W.Fast.tw14391293386007564604 := ()
def PySem.W.Fast.tw861502493610598483 := ()
def PySem.W.Fast.tw11185208467959745375 := ()
def PySem.W.Fast.tw17062427158221528723 := ()
def PySem.W.Fast.tw140236481695663071 := ()
def PySem.W.Fast.tw9402243437249704421 := ()
def PySem.W.Fast.tw13757698761724263525 := ()
def PySem.W.Fast.tw7867829370405329436 := ()
def PySem.W.Fast.tw9536688357841153863 := ()
def PySem.W.Fast.tw18437792190763421558 := ()
def PySem.W.Fast.tw2314633323536394700 := ()
def PySem.W.Fast.tw5459702643516471331 := ()
def PySem.W.Fast.tw17318462890700432884 := ()
def PySem.W.Fast.tw1717767836212652739 := ()
def PySem.W.Fast.tw8159993647027272844 := ()
def PySem.W.Fast.tw2786648768249225349 := ()
def PySem.W.Fast.tw896239598344801917 := ()
def PySem.W.Fast.tw10698057553749749337 := ()
def PySem.W.Fast.tw2261719852989239553 := ()
def PySem.W.Fast.tw3042748168174471775 := ()
def PySem.W.Fast.tw5344687154915797982 := ()
def PySem.W.Fast.tw140001813534094272 := ()
def PySem.W.Fast.tw14226173905949225808 := ()
def PySem.W.Fast.tw726351398001015727 := ()
def PySem.W.Fast.tw13622603851894308203 := ()
def PySem.W.Fast.tw16919654943277366748 := ()
def PySem.W.Fast.tw6170744672141170255 := ()
def PySem.W.Fast.tw5498123283257192965 := ()
def PySem.W.Fast.tw16108870410212019532 := ()
def PySem.W.Fast.tw15861351967447197489 := ()
def PySem.W.Fast.tw2950685276103557050 := ()
def PySem.W.Fast.tw10374632558016547081 := ()
def PySem.W.Fast.tw17590705303994421779 := ()
def PySem.W.Fast.tw17351735930882485243 := ()
def PySem.W.Fast.tw8157277791214410489 := ()
def PySem.W.Fast.tw1599053048872161195 := ()
def PySem.W.Fast.tw4480162626587320490 := ()
def PySem.W.Fast.tw11066385474520676512 := ()
def PySem.W.Fast.tw17292613610259460706 := ()
def PySem.W.Fast.tw1383625962624193546 := ()
def PySem.W.Fast.tw6427576097997697322 := ()
def PySem.W.Fast.tw6105849179199505303 := ()
def PySem.W.Fast.tw4321966507151631593 := ()
def PySem.W.Fast.tw14664691819916384248 := ()
def PySem.W.Fast.tw1708089923452030704 := ()
def PySem.W.Fast.tw14831331821628862639 := ()
def PySem.W.Fast.tw14520296925931582552 := ()
def PySem.W.Fast.tw4548300405975405348 := ()
def PySem.W.Fast.tw15925456577456769635 := ()
def PySem.W.Fast.tw8080008513338510535 := ()
def PySem.W.Fast.tw16298917771340976007 := ()
def PySem.W.Fast.tw17653592248189364939 := ()
def PySem.W.Fast.tw5217270863462422736 := ()
def PySem.W.Fast.tw15805137534098808535 := ()
def PySem.W.Fast.tw3300454383303005205 := ()
def PySem.W.Fast.tw11421057715548341654 := ()
def PySem.W.Fast.tw7322748291113730364 := ()
def PySem.W.Fast.tw6420159726195949164 := ()
def PySem.W.Fast.tw6469784823511061222 := ()
def PySem.W.Fast.tw14564479935002850509 := ()
def PySem.W.Fast.tw14404928986312190071 := ()
def PySem.W.Fast.tw3543459598558145280 := ()
def PySem.W.Fast.tw13855379610559885079 := ()
def PySem.W.Fast.tw6858818405166986180 := ()
def PySem.W.Fast.tw2931988195819169919 := ()
def PySem.W.Fast.tw3641951560692057861 := ()
def PySem.W.Fast.tw5622701340561072331 := ()
def PySem.W.Fast.tw2941924889016668590 := ()
def PySem.W.Fast.tw9796564346219866840 := ()
def PySem.W.Fast.tw18157406047293677543 := ()
def PySem.W.Fast.tw13956191218907399338 := ()
def PySem.W.Fast.tw10910644110388302437 := ()
def PySem.W.Fast.tw15685335758407661847 := ()
def PySem.W.Fast.tw5101696844757716304 := ()
def PySem.W.Fast.tw13810262117814702294 := ()
def PySem.W.Fast.tw12099505692703838030 := ()
def PySem.W.Fast.tw2789304352393801511 := ()
def PySem.W.Fast.tw11766667032028208565 := ()
def PySem.W.Fast.tw1725486776273817318 := ()
def PySem.W.Fast.tw17724038513149304489 := ()
def PySem.W.Fast.tw3721919958574915784 := ()
def PySem.W.Fast.tw12843764043397292189 := ()
def PySem.W.Fast.tw18328257000508772394 := ()
def PySem.W.Fast.tw15438627641174518403 := ()
def PySem.W.Fast.tw5994696166404524948 := ()
def PySem.W.Fast.tw87601786513091389 := ()
def PySem.W.Fast.tw9116068151291705539 := ()
def PySem.W.Fast.tw14842496431369740429 := ()
def PySem.W.Fast.tw6472337539984862722 := ()
def PySem.W.Fast.tw615563214671542189 := ()
def PySem.W.Fast.tw2228412568605170491 := ()
def PySem.W.Fast.tw3475869608268796686 := ()
def PySem.W.Fast.tw4804111812005502284 := ()
def PySem.W.Fast.tw17483705464198625004 := ()
def PySem.W.Fast.tw1205274952441263945 := ()
def PySem.W.Fast.tw9806118890596472461 := ()
def PySem.W.Fast.tw12727641955093265886 := ()
def PySem.W.Fast.tw13953587524928339648 := ()
def PySem.W.Fast.tw1495895850433845275 := ()
def PySem.W.Fast.tw12313546038580199477 := ()
def PySem.W.Fast.tw8899516883271353254 := ()
def PySem.W.Fast.tw2570914705882880060 := ()
def PySem.W.Fast.tw2353497105660221152 := ()
def PySem.W.Fast.tw9950792792127014553 := ()
def PySem.W.Fast.tw10159399881129095643 := ()
def PySem.W.Fast.tw17760279517084355780 := ()
def PySem.W.Fast.tw15590096980072825465 := ()
def PySem.W.Fast.tw15433366417846715934 := ()
def PySem.W.Fast.tw1972164579936704799 := ()
def PySem.W.Fast.tw9919008367099125623 := ()
def PySem.W.Fast.tw2646887283097553488 := ()
def PySem.W.Fast.tw16248296213531012650 := ()
def PySem.W.Fast.tw14172470266813156586 := ()
def PySem.W.Fast.tw3671519592330383864 := ()
def PySem.W.Fast.tw9464783005390448368 := ()
def PySem.W.Fast.tw15173544498738437827 := ()
def PySem.W.Fast.tw16120054744476736488 := ()
def PySem.W.Fast.tw6968137755033780318 := ()
def PySem.W.Fast.tw12382822922155266910 := ()
def PySem.W.Fast.tw17710873009340938204 := ()
def PySem.W.Fast.tw4906484309439969231 := ()
def PySem.W.Fast.tw3419001889969749887 := ()
def PySem.W.Fast.tw2575207979326191193 := ()
def PySem.W.Fast.tw443766864951011646 := ()
def PySem.W.Fast.tw643336161829623379 := ()
def PySem.W.Fast.tw4436474186459923750 := ()
def PySem.W.Fast.tw4171853373547519906 := ()
def PySem.W.Fast.tw4953865588907285216 := ()
def PySem.W.Fast.tw3374319085511977134 := ()
def PySem.W.Fast.tw5702276774652866934 := ()
def PySem.W.Fast.tw10519837036962490867 := ()
def PySem.W.Fast.tw11521511281804667912 := ()
def PySem.W.Fast.tw3382625519597670723 := ()
def PySem.W.Fast.tw8912161614967838395 := ()
def PySem.W.Fast.tw938635154573522699 := ()
def PySem.W.Fast.tw4493901809537577575 := ()
def PySem.W.Fast.tw3998647374267775353 := ()
def PySem.W.Fast.tw9495317472360511255 := ()
def PySem.W.Fast.tw17013487888433625170 := ()
def PySem.W.Fast.tw10624116801336726872 := ()
def PySem.W.Fast.tw7774113678449685934 := ()
def PySem.W.Fast.tw8285278889055680438 := ()
def PySem.W.Fast.tw5537553045615171315 := ()
def PySem.W.Fast.tw18418582437962087742 := ()
def PySem.W.Fast.tw8422229294311615681 := ()
def PySem.W.Fast.tw16615150188913437886 := ()
def PySem.W.Fast.tw10551173667578312727 := ()
def PySem.W.Fast.tw4096438862311573950 := ()
def PySem.W.Fast.tw6229817132586351632 := ()
def PySem.W.Fast.tw12903330217458380548 := ()
def PySem.W.Fast.tw10876078143196172821 := ()
def PySem.W.Fast.tw2455152089536381482 := ()
def PySem.W.Fast.tw17817366049700826239 := ()
def PySem.W.Fast.tw5072417060200589145 := ()
def PySem.W.Fast.tw13547939009206843870 := ()
def PySem.W.Fast.tw14760874974797668852 := ()
def PySem.W.Fast.tw7480016910919988345 := ()
def PySem.W.Fast.tw5002640475654186023 := ()
def PySem.W.Fast.tw9665208797041681627 := ()
def PySem.W.Fast.tw1070438729232803039 := ()
def PySem.W.Fast.tw15127105006835628225 := ()
def PySem.W.Fast.tw11266997524610791606 := ()
def PySem.W.Fast.tw16766683885213920930 := ()
def PySem.W.Fast.tw6356304189028158447 := ()
def PySem.W.Fast.tw12768989823518198380 := ()
def PySem.W.Fast.tw8737599933303070863 := ()
def PySem.W.Fast.tw9977182230042388008 := ()
def PySem.W.Fast.tw5438652380644606353 := ()
def PySem.W.Fast.tw4015202173357781934 := ()
def PySem.W.Fast.tw5449601097390414333 := ()
def PySem.W.Fast.tw15779231459743154856 := ()
def PySem.W.Fast.tw15402603294489630176 := ()
def PySem.W.Fast.tw10826640976665885199 := ()
def PySem.W.Fast.tw10295913840692754127 := ()
def PySem.W.Fast.tw539538531456391632 := ()
def PySem.W.Fast.tw4849480874435393781 := ()
def PySem.W.Fast.tw1840220198017710270 := ()
def PySem.W.Fast.tw18146532975450069615 := ()
def PySem.W.Fast.tw9456574344343218679 := ()
def PySem.W.Fast.tw7424060955962978353 := ()
def PySem.W.Fast.tw15227483606004533461 := ()
def PySem.W.Fast.tw2692750590507578028 := ()
def PySem.W.Fast.tw8949853181751564097 := ()
def PySem.W.Fast.tw209982475168477708 := ()
def PySem.W.Fast.tw10792498714594961201 := ()
def PySem.W.Fast.tw8972062959192195235 := ()
def PySem.W.Fast.tw9615563845995560447 := ()
def PySem.W.Fast.tw740290905518256060 := ()
def PySem.W.Fast.tw4547051000311932777 := ()
def PySem.W.Fast.tw13053770412826190925 := ()
def PySem.W.Fast.tw16670775579421159206 := ()
def PySem.W.Fast.tw12269216009862288129 := ()
def PySem.W.Fast.tw13674586047789940208 := ()
def PySem.W.Fast.tw12770481643036789091 := ()
def PySem.W.Fast.tw14958820412457663293 := ()
def PySem.W.Fast.tw6512149657230936976 := ()
def PySem.W.Fast.tw6549852094080907030 := ()
def PySem.W.Fast.tw3681537716864247207 := ()
def PySem.W.Fast.tw17334828202450815106 := ()
def PySem.W.Fast.tw3239113980409921550 := ()
def PySem.W.Fast.tw11429584451438056573 := ()
def PySem.W.Fast.tw9860861378791804195 := ()
def PySem.W.Fast.tw5667099127317398114 := ()
def PySem.W.Fast.tw8997383693586321770 := ()
def PySem.W.Fast.tw12772213712371865176 := ()
def PySem.W.Fast.tw3270257207059953099 := ()
def PySem.W.Fast.tw16226643914720891334 := ()
open_top hd for PySem.Challenge.rw_hangstill_k29_whole_no_other_texts
theorem PySem.Challenge.cw_hangstill_k29_whole_no_other_texts_holds : PySem.Challenge.rw_hangstill_k29_whole_no_other_texts.Holds := by
  refine hd ?_
  k_fill
  refine My.walk (l := PySem.Challenge.rw_hangstill_k29_whole_no_other_texts) rfl rfl ?K (fun w h Y => PySem.W.kIn_of Y) ?F
  case K => exact fun p => (Eq.refl true : true = true)
  case F =>
    intro w mg fa h KX G hmg
    refine' L2.topD_go (x := "is_number") (st := My.s_is_number) (ps := My.p_is_number) KX G ?a1 ?l1 ?c1 ?k1 (fun _ _ _ _ _ _ us hl => match us, hl with | [_, _, _], _ => rfl) ?go1
    (case a1 => k_is); (case l1 => k_is); (case c1 => k_is); (case k1 => k_is)
    intro T_is_number
    refine' L2.topD_go (x := "is_name") (st := My.s_is_name) (ps := My.p_is_name) KX G ?a2 ?l2 ?c2 ?k2 (fun _ _ _ _ _ _ us hl => match us, hl with | [_], _ => rfl) ?go2
    (case a2 => k_is); (case l2 => k_is); (case c2 => k_is); (case k2 => k_is)
    intro T_is_name
    refine' L2.topD_go (x := "is_mobile_within") (st := My.s_is_mobile_within) (ps := My.p_is_mobile_within) KX G ?a3 ?l3 ?c3 ?k3 (fun _ _ _ _ _ _ us hl => match us, hl with | [_, _], _ => rfl) ?go3
    (case a3 => k_is); (case l3 => k_is); (case c3 => k_is); (case k3 => k_is)
    intro T_is_mobile_within
    refine' L2.topD_go (x := "is_mobile") (st := My.s_is_mobile) (ps := My.p_is_mobile) KX G ?a4 ?l4 ?c4 ?k4 (fun _ _ _ _ _ _ us hl => match us, hl with | [_], _ => rfl) ?go4
    (case a4 => k_is); (case l4 => k_is); (case c4 => k_is); (case k4 => k_is)
    intro T_is_mobile
    refine' L2.topD_go (x := "check_mobile") (st := My.s_check_mobile) (ps := My.p_check_mobile) KX G ?a5 ?l5 ?c5 ?k5 (fun _ _ _ _ _ _ us hl => match us, hl with | [_], _ => rfl) ?go5
    (case a5 => k_is); (case l5 => k_is); (case c5 => k_is); (case k5 => k_is)
    intro T_check_mobile
    refine' L2.topD_go (x := "check_text") (st := My.s_check_text) (ps := My.p_check_text) KX G ?a6 ?l6 ?c6 ?k6 (fun _ _ _ _ _ _ us hl => match us, hl with | [_], _ => rfl) ?go6
    (case a6 => k_is); (case l6 => k_is); (case c6 => k_is); (case k6 => k_is)
    intro T_check_text
    refine' L2.topD_go (x := "whole_number") (st := My.s_whole_number) (ps := My.p_whole_number) KX G ?a7 ?l7 ?c7 ?k7 (fun _ _ _ _ _ _ us hl => match us, hl with | [_, _], _ => rfl) ?go7
    (case a7 => k_is); (case l7 => k_is); (case c7 => k_is); (case k7 => k_is)
    intro T_whole_number
    refine' L2.topD_go (x := "behind") (st := My.s_behind) (ps := My.p_behind) KX G ?a8 ?l8 ?c8 ?k8 (fun _ _ _ _ _ _ us hl => match us, hl with | [_, _], _ => rfl) ?go8
    (case a8 => k_is); (case l8 => k_is); (case c8 => k_is); (case k8 => k_is)
    intro T_behind
    refine' L2.topD_go (x := "weight_ahead") (st := My.s_weight_ahead) (ps := My.p_weight_ahead) KX G ?a9 ?l9 ?c9 ?k9 (fun _ _ _ _ _ _ us hl => match us, hl with | [_], _ => rfl) ?go9
    (case a9 => k_is); (case l9 => k_is); (case c9 => k_is); (case k9 => k_is)
    intro T_weight_ahead
    refine' L2.topD_go (x := "mobile_ahead") (st := My.s_mobile_ahead) (ps := My.p_mobile_ahead) KX G ?a10 ?l10 ?c10 ?k10 (fun _ _ _ _ _ _ us hl => match us, hl with | [_, _], _ => rfl) ?go10
    (case a10 => k_is); (case l10 => k_is); (case c10 => k_is); (case k10 => k_is)
    intro T_mobile_ahead
    refine' L2.topD_go (x := "written_below") (st := My.s_written_below) (ps := My.p_written_below) KX G ?a11 ?l11 ?c11 ?k11 (fun _ _ _ _ _ _ us hl => match us, hl with | [_], _ => rfl) ?go11
    (case a11 => k_is); (case l11 => k_is); (case c11 => k_is); (case k11 => k_is)
    intro T_written_below
    refine' L2.topD_go (x := "written") (st := My.s_written) (ps := My.p_written) KX G ?a12 ?l12 ?c12 ?k12 (fun _ _ _ _ _ _ us hl => match us, hl with | [_], _ => rfl) ?go12
    (case a12 => k_is); (case l12 => k_is); (case c12 => k_is); (case k12 => k_is)
    intro T_written
    refine' L2.topD_go (x := "read") (st := My.s_read) (ps := My.p_read) KX G ?a13 ?l13 ?c13 ?k13 (fun _ _ _ _ _ _ us hl => match us, hl with | [_], _ => rfl) ?go13
    (case a13 => k_is); (case l13 => k_is); (case c13 => k_is); (case k13 => k_is)
    intro T_read
    refine' L2.topD_go (x := "_law_cell_at") (st := My.s__law_cell_at) (ps := My.p__law_cell_at) KX G ?a14 ?l14 ?c14 ?k14 (fun _ _ _ _ _ _ us hl => match us, hl with | [_, _], _ => rfl) ?go14
    (case a14 => k_is); (case l14 => k_is); (case c14 => k_is); (case k14 => k_is)
    intro T__law_cell_at
    refine' L2.topD_go (x := "_law_mixed") (st := My.s__law_mixed) (ps := My.p__law_mixed) KX G ?a15 ?l15 ?c15 ?k15 (fun _ _ _ _ _ _ us hl => match us, hl with | [_, _, _], _ => rfl) ?go15
    (case a15 => k_is); (case l15 => k_is); (case c15 => k_is); (case k15 => k_is)
    intro T__law_mixed
    refine' L2.topD_go (x := "_law_draw") (st := My.s__law_draw) (ps := My.p__law_draw) KX G ?a16 ?l16 ?c16 ?k16 (fun _ _ _ _ _ _ us hl => match us, hl with | [_, _, _], _ => rfl) ?go16
    (case a16 => k_is); (case l16 => k_is); (case c16 => k_is); (case k16 => k_is)
    intro T__law_draw
    refine' L2.topD_go (x := "_law_pick") (st := My.s__law_pick) (ps := My.p__law_pick) KX G ?a17 ?l17 ?c17 ?k17 (fun _ _ _ _ _ _ us hl => match us, hl with | [_, _, _], _ => rfl) ?go17
    (case a17 => k_is); (case l17 => k_is); (case c17 => k_is); (case k17 => k_is)
    intro T__law_pick
    refine' L2.topD_go (x := "_law_mobile") (st := My.s__law_mobile) (ps := My.p__law_mobile) KX G ?a18 ?l18 ?c18 ?k18 (fun _ _ _ _ _ _ us hl => match us, hl with | [_, _, _, _], _ => rfl) ?go18
    (case a18 => k_is); (case l18 => k_is); (case c18 => k_is); (case k18 => k_is)
    intro T__law_mobile
    refine' L2.topD_go (x := "_law_fresh") (st := My.s__law_fresh) (ps := My.p__law_fresh) KX G ?a19 ?l19 ?c19 ?k19 (fun _ _ _ _ _ _ us hl => match us, hl with | [_, _], _ => rfl) ?go19
    (case a19 => k_is); (case l19 => k_is); (case c19 => k_is); (case k19 => k_is)
    intro T__law_fresh
    refine' L2.topD_go (x := "_law_some") (st := My.s__law_some) (ps := My.p__law_some) KX G ?a20 ?l20 ?c20 ?k20 (fun _ _ _ _ _ _ us hl => match us, hl with | [_, _, _], _ => rfl) ?go20
    (case a20 => k_is); (case l20 => k_is); (case c20 => k_is); (case k20 => k_is)
    intro T__law_some
    refine' L2.topD_go (x := "_law_which") (st := My.s__law_which) (ps := My.p__law_which) KX G ?a21 ?l21 ?c21 ?k21 (fun _ _ _ _ _ _ us hl => match us, hl with | [_], _ => rfl) ?go21
    (case a21 => k_is); (case l21 => k_is); (case c21 => k_is); (case k21 => k_is)
    intro T__law_which
    refine' L2.topD_go (x := "_law_ask") (st := My.s__law_ask) (ps := My.p__law_ask) KX G ?a22 ?l22 ?c22 ?k22 (fun _ _ _ _ _ _ us hl => match us, hl with | [_], _ => rfl) ?go22
    (case a22 => k_is); (case l22 => k_is); (case c22 => k_is); (case k22 => k_is)
    intro T__law_ask
    refine' L2.topD_go (x := "_law_parts") (st := My.s__law_parts) (ps := My.p__law_parts) KX G ?a23 ?l23 ?c23 ?k23 (fun _ _ _ _ _ _ us hl => match us, hl with | [_], _ => rfl) ?go23
    (case a23 => k_is); (case l23 => k_is); (case c23 => k_is); (case k23 => k_is)
    intro T__law_parts
    refine' L2.topD_go (x := "_law_read") (st := My.s__law_read) (ps := My.p__law_read) KX G ?a24 ?l24 ?c24 ?k24 (fun _ _ _ _ _ _ us hl => match us, hl with | [_, _], _ => rfl) ?go24
    (case a24 => k_is); (case l24 => k_is); (case c24 => k_is); (case k24 => k_is)
    intro T__law_read
    have b_len : mg "len" = none := PySem.W.mg_none_of KX G (by k_is)
    have b_isinstance : mg "isinstance" = none := PySem.W.mg_none_of KX G (by k_is)
    have b_bool : mg "bool" = none := PySem.W.mg_none_of KX G (by k_is)
    have b_int : mg "int" = none := PySem.W.mg_none_of KX G (by k_is)
    have b_str : mg "str" = none := PySem.W.mg_none_of KX G (by k_is)
    have b_tuple : mg "tuple" = none := PySem.W.mg_none_of KX G (by k_is)
    have b_all : mg "all" = none := PySem.W.mg_none_of KX G (by k_is)
    have b_range : mg "range" = none := PySem.W.mg_none_of KX G (by k_is)
    have b_ValueError : mg "ValueError" = none := PySem.W.mg_none_of KX G (by k_is)
    refine' L2.exc_go (x := "HangError") KX G ?e0 ?ge0
    (case e0 => k_is)
    intro m_HangError
    refine' L2.exc_go (x := "NoMobile") KX G ?e1 ?ge1
    (case e1 => k_is)
    intro m_NoMobile
    refine' L2.exc_go (x := "NoHall") KX G ?e2 ?ge2
    (case e2 => k_is)
    intro m_NoHall
    refine' L2.exc_go (x := "NoWeights") KX G ?e3 ?ge3
    (case e3 => k_is)
    intro m_NoWeights
    refine' L2.exc_go (x := "NoWay") KX G ?e4 ?ge4
    (case e4 => k_is)
    intro m_NoWay
    refine' L2.exc_go (x := "NoNumber") KX G ?e5 ?ge5
    (case e5 => k_is)
    intro m_NoNumber
    refine' L2.exc_go (x := "Never") KX G ?e6 ?ge6
    (case e6 => k_is)
    intro m_Never
    refine' L2.exc_go (x := "TooLong") KX G ?e7 ?ge7
    (case e7 => k_is)
    intro m_TooLong
    refine' L2.exc_go (x := "TooDeep") KX G ?e8 ?ge8
    (case e8 => k_is)
    intro m_TooDeep
    refine' L2.exc_go (x := "NoText") KX G ?e9 ?ge9
    (case e9 => k_is)
    intro m_NoText
    refine' L2.exc_go (x := "Nothing") KX G ?e10 ?ge10
    (case e10 => k_is)
    intro m_Nothing
    refine' My.law_mk KX G hmg ?aL ?lL ?cL ?kL ?goL
    (case aL => k_is); (case lL => k_is); (case cL => k_is); (case kL => k_is)
    case goL =>
      intro base f fd T
      refine' My.all  T_is_number T_is_name T_is_mobile_within T_is_mobile T_check_mobile T_check_text T_whole_number T_behind T_weight_ahead T_mobile_ahead T_written_below T_written T_read T__law_cell_at T__law_mixed T__law_draw T__law_pick T__law_mobile T__law_fresh T__law_some T__law_which T__law_ask T__law_parts T__law_read b_len b_isinstance b_bool b_int b_str b_tuple b_all b_range b_ValueError m_HangError m_NoMobile m_NoHall m_NoWeights m_NoWay m_NoNumber m_Never m_TooLong m_TooDeep m_NoText m_Nothing ?x_NoText ?x_NoMobile ?em_NoText (L2.exk_mk ?h1_NoText ?h2_NoText ?h3_NoText ?h4_NoText ?h5_NoText ?h6_NoText ?h7_NoText ?y_NoText) ?kq_NoText_NoMobile ?kq_NoText_NoHall ?kq_NoText_NoWeights ?kq_NoText_NoWay ?kq_NoText_NoNumber ?kq_NoText_Never ?kq_NoText_TooLong ?kq_NoText_TooDeep ?kq_NoText_NoText ?kq_NoText_Nothing ?kv_NoText (PySem.W.mg_of KX G ?m_LONGEST_NAME) (PySem.W.mg_of KX G ?m_LONGEST_ARM) (PySem.W.mg_of KX G ?m_MOST_RODS) (PySem.W.mg_of KX G ?m_FIGURES) T
      (case x_NoText => k_exc); (case x_NoMobile => k_exc); (case em_NoText => kts_exm); (case h1_NoText => k_is); (case h2_NoText => k_is); (case h3_NoText => k_is); (case h4_NoText => k_is); (case h5_NoText => k_is); (case h6_NoText => k_is); (case h7_NoText => k_is); (case y_NoText => k_exc); (case kq_NoText_NoMobile => kit_is); (case kq_NoText_NoHall => kit_is); (case kq_NoText_NoWeights => kit_is); (case kq_NoText_NoWay => kit_is); (case kq_NoText_NoNumber => kit_is); (case kq_NoText_Never => kit_is); (case kq_NoText_TooLong => kit_is); (case kq_NoText_TooDeep => kit_is); (case kq_NoText_NoText => kit_is); (case kq_NoText_Nothing => kit_is); (case kv_NoText => kit_is); (case m_LONGEST_NAME => k_is); (case m_LONGEST_ARM => k_is); (case m_MOST_RODS => k_is); (case m_FIGURES => k_is)
