import PyProof.Rows.All
import Wide.All
import OpenK.AllK
import Wide.FinOn
import Lean
import PyProof.EqAt
import PyProof.EqKinds
import PyProof.TupleCall
import PySem.Challenge.RW_ballastway_k07_roads_asked
set_option Elab.async false
set_option linter.all false
set_option maxRecDepth 100000
/-! THE HAND LAYER, for ints, bools, texts, own classes, LISTS and tuples (index, slices, in, append, pop ..), calls, loops. Paste it whole ahead of your own text; what your proof does not reach may be deleted. -/
namespace L2
open PySem PySem.Spec PyProof.Rows

/-- a key: an int or a str -/
abbrev Key := Sum Int Str
def keyIs : Key → Value → Bool
  | .inl k, v => Value.isInt k v
  | .inr x, v => Value.isStrOf x v
def keyH (w : World) : Key → Int
  | .inl k => hashInt k
  | .inr x => hashStr w x
theorem keyIs_shape : ∀ {k : Key} {v : Value}, keyIs k v = true → (∃ i t, k = Sum.inl i ∧ v = Value.int i t) ∨ (∃ x t, k = Sum.inr x ∧ v = Value.str x t)
  | .inl i, v, h => by
    obtain ⟨t, e⟩ := Value.isInt_shape (k := i) (v := v) h
    exact .inl ⟨i, t, rfl, e⟩
  | .inr x, v, h => by
    obtain ⟨t, e⟩ := Value.isStrOf_shape (x := x) (v := v) h
    exact .inr ⟨x, t, rfl, e⟩
theorem keyIs_int (i : Int) (t : Tok) : keyIs (.inl i) (.int i t) = true := by simp [keyIs, Value.isInt]
theorem keyIs_str (x : Str) (t : Tok) : keyIs (.inr x) (.str x t) = true := by simp [keyIs, Value.isStrOf]
theorem key_ll (a b : Int) : decide ((Sum.inl a : Key) = Sum.inl b) = (a == b) := by
  by_cases e : a = b
  · subst e; simp
  · have h : ¬ (Sum.inl a : Key) = Sum.inl b := fun q => e (Sum.inl.inj q)
    rw [decide_eq_false h]
    exact (beq_eq_false_iff_ne.mpr e).symm
theorem key_rr (a b : Str) : decide ((Sum.inr a : Key) = Sum.inr b) = decide (a = b) := by
  by_cases e : a = b
  · subst e; simp
  · have h : ¬ (Sum.inr a : Key) = Sum.inr b := fun q => e (Sum.inr.inj q)
    rw [decide_eq_false h, decide_eq_false e]
theorem key_lr (a : Int) (b : Str) : decide ((Sum.inl a : Key) = Sum.inr b) = false := decide_eq_false (fun q => nomatch q)
theorem key_rl (a : Str) (b : Int) : decide ((Sum.inr a : Key) = Sum.inl b) = false := decide_eq_false (fun q => nomatch q)

def mixKind (prog : Program) (w : World) : PySem.KeyKind prog w Key where
  is := keyIs
  hash := keyH w
  inj := fun v a b ha hb => by
    rcases keyIs_shape ha with ⟨i, t, rfl, rfl⟩ | ⟨x, t, rfl, rfl⟩
    · rcases keyIs_shape hb with ⟨j, u, rfl, e⟩ | ⟨y, u, rfl, e⟩
      · injection e with e1 _; rw [e1]
      · exact nomatch e
    · rcases keyIs_shape hb with ⟨j, u, rfl, e⟩ | ⟨y, u, rfl, e⟩
      · exact nomatch e
      · injection e with e1 _; rw [e1]
  byValue := fun k v h => by
    rcases keyIs_shape h with ⟨i, t, rfl, rfl⟩ | ⟨x, t, rfl, rfl⟩ <;> rfl
  pyHash := fun hv h => by
    rcases keyIs_shape hv with ⟨i, t, rfl, rfl⟩ | ⟨x, t, rfl, rfl⟩
    · exact wpAny_pyHash_int h
    · exact wpAny_pyHash_str h
  eqBool := fun hu hv h => by
    rcases keyIs_shape hu with ⟨i, t, rfl, rfl⟩ | ⟨x, t, rfl, rfl⟩
    · rcases keyIs_shape hv with ⟨j, u, rfl, rfl⟩ | ⟨y, u, rfl, rfl⟩
      · rw [key_ll] at h; exact wpAny_eqBool_int h
      · rw [key_lr] at h; exact SeqAt.EqAt.int_str i t y u _ _ _ _ h
    · rcases keyIs_shape hv with ⟨j, u, rfl, rfl⟩ | ⟨y, u, rfl, rfl⟩
      · rw [key_rl] at h; exact SeqAt.EqAt.str_int x t j u _ _ _ _ h
      · rw [key_rr] at h; exact wpAny_eqBool_str h
  «strs» := fun k x t v h => by
    rcases keyIs_shape h with ⟨i, u, rfl, e⟩ | ⟨y, u, rfl, e⟩
    · exact nomatch e
    · injection e with e1 _
      subst e1
      cases v <;> rfl

theorem mixKind_is (prog : Program) (w : World) (k : Key) (v : Value) : (mixKind prog w).is k v = keyIs k v := rfl
theorem mixKind_int (prog : Program) (w : World) (i : Int) (t : Tok) : (mixKind prog w).is (.inl i) (.int i t) = true := keyIs_int i t
theorem mixKind_str (prog : Program) (w : World) (x : Str) (t : Tok) : (mixKind prog w).is (.inr x) (.str x t) = true := keyIs_str x t
end L2

namespace L2
open PySem PySem.Spec PyProof.Rows

/-- a value, without the heap -/
inductive V where
  | non | bl (b : Bool) | int (i : Int) | str (x : Str) | byt (b : Array UInt8) | flt (b : UInt64) | ref (a : Addr) | ty (n : String)
  deriving DecidableEq

def RelV : V → Value → Prop
  | .non, u => u = Value.none
  | .bl b, u => u = Value.bool b
  | .int i, u => ∃ t, u = Value.int i t
  | .str x, u => ∃ t, u = Value.str x t
  | .byt b, u => ∃ t, u = Value.bytes b t
  | .flt b, u => ∃ t, u = Value.float b t
  | .ref a, u => u = Value.ref a
  | .ty n, u => u = Value.type n

abbrev Vals : List V → List Value → Prop := Paired RelV
theorem Vals.length {xs : List V} {us : List Value} (r : Vals xs us) : xs.length = us.length := Paired.length r
theorem Vals.get : ∀ {xs : List V} {us : List Value} {i : Nat} {x : V}, Vals xs us → xs[i]? = some x → ∃ u, us[i]? = some u ∧ RelV x u
  | _, _, _, _, .nil, e => by simp at e
  | _, _, 0, _, .cons r _, e => by simp at e; subst e; exact ⟨_, rfl, r⟩
  | _, _, i + 1, x, .cons _ t, e => by
    obtain ⟨u, h1, h2⟩ := Vals.get (i := i) (x := x) t (by simpa using e)
    exact ⟨u, by simpa using h1, h2⟩
theorem Vals.set {x : V} {u : Value} (r : RelV x u) : ∀ {xs : List V} {us : List Value} (i : Nat), Vals xs us → Vals (xs.set i x) (us.set i u)
  | _, _, _, .nil => .nil
  | _, _, 0, .cons _ t => .cons r t
  | _, _, i + 1, .cons q t => .cons q (Vals.set r i t)
theorem Vals.append : ∀ {xs ys : List V} {us ws : List Value}, Vals xs us → Vals ys ws → Vals (xs ++ ys) (us ++ ws)
  | _, _, _, _, .nil, s => s
  | _, _, _, _, .cons r t, s => .cons r (Vals.append t s)
theorem Vals.take : ∀ {xs : List V} {us : List Value} (n : Nat), Vals xs us → Vals (xs.take n) (us.take n)
  | _, _, 0, _ => .nil
  | _, _, _ + 1, .nil => .nil
  | _, _, n + 1, .cons r t => .cons r (Vals.take n t)
theorem Vals.drop : ∀ {xs : List V} {us : List Value} (n : Nat), Vals xs us → Vals (xs.drop n) (us.drop n)
  | _, _, 0, r => r
  | _, _, _ + 1, .nil => .nil
  | _, _, n + 1, .cons _ t => Vals.drop n t
theorem Vals.none_of : ∀ {xs : List V} {us : List Value} {i : Nat}, Vals xs us → xs[i]? = none → us[i]? = none := fun {xs us i} r e => by
  have h1 := r.length
  have h2 : xs.length ≤ i := List.getElem?_eq_none_iff.mp e
  exact List.getElem?_eq_none_iff.mpr (by omega)

def RelO : Option V → Option Value → Prop
  | some v, some u => RelV v u
  | none, none => True
  | _, _ => False
def KV {κ : Type} : List (κ × V) → List (κ × Value) → Prop := Paired fun (p : κ × V) (q : κ × Value) => p.1 = q.1 ∧ RelV p.2 q.2

/-- a key of a dict (00_mix): an int or a text -/
def kV : Key → V
  | .inl i => .int i
  | .inr x => .str x

/-- what stands at a tracked address -/
inductive HO where
  /-- a list -/
  | lst (xs : List V)
  /-- a tuple (never changes) -/
  | tup (xs : List V)
  /-- a dict whose keys are ints and texts; one whose keys are tuples of ints and texts (the empty one is both) -/
  | dK (kvs : List (Key × V)) | dT (kvs : List (List Key × V))
  /-- a set of ints: its members, its size -/
  | set (S : Int → Bool) (n : Nat)
  /-- an instance of the class at C, its dict at dx, its attributes -/
  | ins (C dx : Addr) (fs : List (Str × V))
  /-- the dict of the instance at x -/
  | own (x : Addr)
  /-- the dict of an exception -/
  | xd (fs : List (Str × V))
  /-- a bound method, f of x -/
  | met (f x : Addr)
  /-- a range object lo, lo + 1, .. below hi -/
  | rng (lo hi : Int)
  /-- a thing that is known to the object (the script; a dict while a loop walks it): read, never written while it is so -/
  | frz (o : Obj) (u : HO)
  /-- a code object's table -/
  | tbl (ps : Array Value)
  /-- any other thing, by what is true of its one object (a def of one's own: SetO a S n := HO.ext fun h => ..) -/
  | ext (φ : Heap → Prop)

abbrev Hp := Addr → Option HO
def upd (H : Hp) (a : Addr) (o : HO) : Hp := fun b => if b = a then some o else H b
theorem upd_same {H : Hp} {a : Addr} {o : HO} : upd H a o a = some o := by unfold upd; rw [if_pos rfl]
theorem upd_ne {H : Hp} {a b : Addr} {o : HO} (h : b ≠ a) : upd H a o b = H b := by unfold upd; rw [if_neg h]
theorem upd_upd {H : Hp} {a : Addr} {o u : HO} : upd (upd H a o) a u = upd H a u := by
  funext b; unfold upd; split <;> rfl
/-- two objects of different content stand apart -/
theorem ne_of {H : Hp} {a b : Addr} {o u : HO} (h : H a = some o) (h' : H b = some u) (d : o ≠ u) : a ≠ b := by
  intro e; subst e; rw [h] at h'; exact d (Option.some.inj h')
theorem ne_of_none {H : Hp} {a b : Addr} {o : HO} (h : H a = some o) (h' : H b = none) : a ≠ b := by
  intro e; subst e; rw [h] at h'; cases h'

section
variable (P : Program) (w : World)
def ObjOk (H : Hp) (h : Heap) (a : Addr) : HO → Prop
  | .lst xs => xs.length ≤ sizeLine ∧ ∃ (its : List Value) (n : Nat), Vals xs its ∧ h.get? a = some { cls := .type "list", data := .seq its.toArray n }
  | .tup xs => xs.length ≤ sizeLine ∧ ∃ its : List Value, Vals xs its ∧ IsTup h a its.toArray
  | .dK kvs => kvs.length ≤ sizeLine ∧ (a == sysModules) = false ∧ ∃ vs, KV kvs vs ∧ h.DictOf (mixKind P w) a vs
  | .dT kvs => kvs.length ≤ sizeLine ∧ (a == sysModules) = false ∧ ∃ xs : List (List Key × Addr × Value),
      Paired (fun (p : List Key × V) (q : List Key × Addr × Value) => p.1 = q.1 ∧ H q.2.1 = some (.tup (p.1.map kV)) ∧ RelV p.2 q.2.2) kvs xs ∧
      ∃ o es ep, h.get? a = some o ∧ o.ExactDict ∧ o.data = .dict es ep ∧ es.toList = xs.map (entryOfKey (tupleKind (mixKind P w))) ∧ (xs.map (·.1)).Nodup
  | .set S n => h.SetOf (intKind P w) a S n
  | .ins C dx fs => H dx = some (.own a) ∧ fs.length ≤ 1000 ∧ dx ≠ a ∧ h.get? a = some (PySem.W.instObj C dx) ∧
      ∃ mA, h.Ns1 dx mA ∧ (∀ f, RelO (fs.lookup f) (mA f)) ∧ PySem.Within mA (fs.map (·.1))
  | .own _ => ∃ o, h.get? a = some o
  | .xd fs => ∃ mA, h.Ns1 a mA ∧ ∀ f, RelO (fs.lookup f) (mA f)
  | .rng lo hi => ∃ t u v, h.get? a = some { cls := .type "range", data := .fields #[.int lo t, .int hi u, .int 1 v] }
  | .frz o u => h.get? a = some o ∧ ObjOk H h a u
  | .tbl ps => h.get? a = some { cls := .none, data := .fields ps }
  | .met f x => h.get? a = some (PySem.W.methodObj (.ref f) (.ref x))
  | .ext φ => φ h ∧ (∃ o, h.get? a = some o) ∧ ∀ h1 h2 : Heap, φ h1 → (∀ o, h1.get? a = some o → h2.get? a = some o) → φ h2
/-- the abstract heap is held -/
def HOk (H : Hp) (h : Heap) : Prop := ∀ a o, H a = some o → ObjOk P w H h a o
end

section
variable {P : Program} {w : World} {H H' : Hp} {h h' : Heap} {a : Addr} {o : HO}
theorem ObjOk.lt (x : ObjOk P w H h a o) : a < h.objs.size := by
  cases o with
  | lst xs => obtain ⟨_, _, _, _, e⟩ := x; exact Heap.lt_size e
  | tup xs => obtain ⟨_, _, _, p⟩ := x; exact p.lt
  | dK kvs => obtain ⟨_, _, _, _, o, _, _, e, _⟩ := x; exact Heap.lt_size e
  | dT kvs => obtain ⟨_, _, _, _, o, _, _, e, _⟩ := x; exact Heap.lt_size e
  | set S n => obtain ⟨o, _, _, _, e, _⟩ := x; exact Heap.lt_size e
  | ins C dx fs => obtain ⟨_, _, _, e, _⟩ := x; exact Heap.lt_size e
  | own y => obtain ⟨_, e⟩ := x; exact Heap.lt_size e
  | xd fs => obtain ⟨_, ⟨_, _, _, e, _⟩, _⟩ := x; exact Heap.lt_size e
  | rng lo hi => obtain ⟨_, _, _, e⟩ := x; exact Heap.lt_size e
  | frz ob u => obtain ⟨e, _⟩ := x; exact Heap.lt_size e
  | tbl ps => exact Heap.lt_size (show h.get? a = some _ from x)
  | met f y => exact Heap.lt_size (show h.get? a = some _ from x)
  | ext φ => obtain ⟨_, ⟨_, e⟩, _⟩ := x; exact Heap.lt_size e
theorem Paired.mapP {α β : Type} {F G : α → β → Prop} : ∀ {l₁ : List α} {l₂ : List β}, Paired F l₁ l₂ → (∀ a b, F a b → G a b) → Paired G l₁ l₂
  | _, _, .nil, _ => .nil
  | _, _, .cons r t, f => .cons (f _ _ r) (Paired.mapP t f)
theorem Paired.imp' {α β : Type} {F G : α → β → Prop} (f : ∀ a b, F a b → G a b) {l₁ : List α} {l₂ : List β} (r : Paired F l₁ l₂) : Paired G l₁ l₂ := Paired.mapP r f
/-- what an object's description leans on: its own object, its own dict, the tuples -/
theorem ObjOk.stay (x : ObjOk P w H h a o) (k : ∀ b u, (b = a ∨ H b = some (.own a)) → h.get? b = some u → h'.get? b = some u)
    (ho : ∀ b, H b = some (.own a) → H' b = some (.own a)) (ht : ∀ b xs, H b = some (.tup xs) → H' b = some (.tup xs)) : ObjOk P w H' h' a o := by
  induction o with
  | lst xs => obtain ⟨z, its, n, r, e⟩ := x; exact ⟨z, its, n, r, k _ _ (.inl rfl) e⟩
  | tup xs => obtain ⟨z, its, r, ob, e, c⟩ := x; exact ⟨z, its, r, ob, k _ _ (.inl rfl) e, c⟩
  | dK kvs => obtain ⟨z, y, vs, r, ob, es, ep, e, c⟩ := x; exact ⟨z, y, vs, r, ob, es, ep, k _ _ (.inl rfl) e, c⟩
  | dT kvs =>
    obtain ⟨z, y, xs, r, ob, es, ep, e, c⟩ := x
    exact ⟨z, y, xs, Paired.mapP r fun p q z => ⟨z.1, ht _ _ z.2.1, z.2.2⟩, ob, es, ep, k _ _ (.inl rfl) e, c⟩
  | set S n => obtain ⟨ob, es, ep, t, e, c⟩ := x; exact ⟨ob, es, ep, t, k _ _ (.inl rfl) e, c⟩
  | ins C dx fs =>
    obtain ⟨d, z, ne, e, mA, ⟨od, es, ep, e2, c⟩, r⟩ := x
    exact ⟨ho _ d, z, ne, k _ _ (.inl rfl) e, mA, ⟨od, es, ep, k _ _ (.inr d) e2, c⟩, r⟩
  | own y => obtain ⟨ob, e⟩ := x; exact ⟨ob, k _ _ (.inl rfl) e⟩
  | xd fs => obtain ⟨mA, ⟨od, es, ep, e, c⟩, r⟩ := x; exact ⟨mA, ⟨od, es, ep, k _ _ (.inl rfl) e, c⟩, r⟩
  | rng lo hi => obtain ⟨t, u, v, e⟩ := x; exact ⟨t, u, v, k _ _ (.inl rfl) e⟩
  | frz ob u ih => obtain ⟨e, q⟩ := x; exact ⟨k _ _ (.inl rfl) e, ih q⟩
  | tbl ps =>
    have e : h.get? a = some { cls := .none, data := .fields ps } := x
    show h'.get? a = some { cls := .none, data := .fields ps }
    exact k a _ (.inl rfl) e
  | met f y =>
    have e : h.get? a = some (PySem.W.methodObj (.ref f) (.ref y)) := x
    show h'.get? a = some (PySem.W.methodObj (.ref f) (.ref y))
    exact k a _ (.inl rfl) e
  | ext φ => obtain ⟨p, ⟨o, e⟩, st⟩ := x; exact ⟨st _ _ p fun o q => k _ _ (.inl rfl) q, ⟨o, k _ _ (.inl rfl) e⟩, st⟩
theorem HOk.lt (x : HOk P w H h) (e : H a = some o) : a < h.objs.size := (x a o e).lt
theorem HOk.fresh (x : HOk P w H h) (e : h.objs.size ≤ a) : H a = none := by
  cases q : H a with
  | none => rfl
  | some u => exact absurd (Nat.lt_of_lt_of_le (x.lt q) e) (Nat.lt_irrefl _)
/-- every object of the heap is kept -/
theorem HOk.kept (x : HOk P w H h) (k : ∀ b u, h.get? b = some u → h'.get? b = some u) : HOk P w H h' := fun a o e =>
  (x a o e).stay (fun b u _ q => k b u q) (fun _ q => q) fun _ _ q => q
/-- a new object is laid and tracked -/
theorem HOk.laid (x : HOk P w H h) (k : ∀ b u, h.get? b = some u → h'.get? b = some u) (hp : h.objs.size ≤ a) (new : ObjOk P w (upd H a o) h' a o) : HOk P w (upd H a o) h' := fun b u e => by
  have hn := x.fresh hp
  by_cases hb : b = a
  · subst hb; rw [upd_same] at e; cases e; exact new
  · rw [upd_ne hb] at e
    exact (x b u e).stay (fun c v _ q => k c v q) (fun c q => by rw [upd_ne (ne_of_none q hn)]; exact q) fun c xs q => by rw [upd_ne (ne_of_none q hn)]; exact q
end

/-- what may be read as u: it is u, or a known u -/
def Rd (H : Hp) (a : Addr) (u : HO) : Prop := H a = some u ∨ ∃ o, H a = some (.frz o u)
theorem Rd.of {H : Hp} {a : Addr} {u : HO} (h : H a = some u) : Rd H a u := .inl h
theorem Rd.ok {P : Program} {w : World} {H : Hp} {h : Heap} {a : Addr} {u : HO} (r : Rd H a u) (x : HOk P w H h) : ObjOk P w H h a u := by
  rcases r with r | ⟨o, r⟩
  · exact x a u r
  · obtain ⟨_, q⟩ := x a _ r
    exact q
/-- what may be written -/
def Mut : Option HO → Prop
  | some (.lst _) => True
  | some (.dK _) => True
  | some (.dT _) => True
  | some (.set _ _) => True
  | some (.ins _ _ _) => True
  | some (.ext _) => True
  | _ => False
section
variable {P : Program} {w : World} {H : Hp} {h h' : Heap} {x e : Addr} {o' : HO}
/-- the object at e is changed: x itself, or the dict of the instance x -/
theorem HOk.write (ok : HOk P w H h) (mu : Mut (H x)) (he : e = x ∨ H e = some (.own x)) (k : ∀ b u, b ≠ e → h.get? b = some u → h'.get? b = some u) (heo : ∃ u, h'.get? e = some u)
    (new : ObjOk P w (upd H x o') h' x o') : HOk P w (upd H x o') h' := fun b u q => by
  have nown : ∀ c y, H c = some (.own y) → c ≠ x := fun c y r z => by subst z; rw [r] at mu; exact mu
  have ntup : ∀ c xs, H c = some (.tup xs) → c ≠ x := fun c xs r z => by subst z; rw [r] at mu; exact mu
  by_cases hb : b = x
  · subst hb; rw [upd_same] at q; cases q; exact new
  · rw [upd_ne hb] at q
    by_cases hbe : b = e
    · have q' : H b = some (.own x) := by
        rcases he with z | z
        · exact absurd (hbe.trans z) hb
        · rw [hbe]; exact z
      rw [q] at q'; cases q'
      obtain ⟨v, hv⟩ := heo
      exact ⟨v, by rw [hbe]; exact hv⟩
    · refine (ok b u q).stay (fun c v hc r => k c v ?_ r) (fun c r => by rw [upd_ne (nown c b r)]; exact r) fun c xs r => by rw [upd_ne (ntup c xs r)]; exact r
      rcases hc with rfl | hc
      · exact hbe
      · rintro rfl
        rcases he with z | z
        · exact nown c b hc z
        · rw [hc] at z; cases z; exact hb rfl
end

/-! ### kept unless tracked; of the frames at fs (the callers') the slots may change (an exception that passes writes there); of the records at ex (iterators) nothing is said -/
structure Un (fs ex : List Addr) (H H' : Hp) (h h' : Heap) : Prop where
  keep : ∀ b o, h.get? b = some o → H b = none → b ∉ fs → b ∉ ex → h'.get? b = some o
  slot : ∀ b o, h.get? b = some o → H b = none → b ∈ fs → b ∉ ex → ∃ sl, h'.get? b = some { o with slots := sl }
  free : ∀ b o, h.get? b = some o → H b = none → b ∉ ex → H' b = none
  there : ∀ b o, h.get? b = some o → b ∉ ex → ∃ o', h'.get? b = some o'
  tups : ∀ b xs, H b = some (.tup xs) → H' b = some (.tup xs)
  frzs : ∀ b o u, H b = some (.frz o u) → H' b = some (.frz o u)
  tbls : ∀ b ps, H b = some (.tbl ps) → ∃ more, H' b = some (.tbl (ps ++ more))
section
variable {fs fs' ex ex' : List Addr} {H H1 H2 : Hp} {h h1 h2 h' : Heap} {a x e : Addr} {o : HO}
theorem Un.any (u : Un fs ex H H1 h h1) {b : Addr} {ob : Obj} (q : h.get? b = some ob) (n : H b = none) (hx : b ∉ ex) : ∃ sl, h1.get? b = some { ob with slots := sl } := by
  by_cases hb : b ∈ fs
  · exact u.slot b ob q n hb hx
  · exact ⟨ob.slots, u.keep b ob q n hb hx⟩
theorem Un.trans (a : Un fs ex H H1 h h1) (b : Un fs ex H1 H2 h1 h2) : Un fs ex H H2 h h2 where
  keep := fun c ob q n hc hx => b.keep c ob (a.keep c ob q n hc hx) (a.free c ob q n hx) hc hx
  slot := fun c ob q n hc hx => by
    obtain ⟨sl, e1⟩ := a.slot c ob q n hc hx
    obtain ⟨sl', e2⟩ := b.slot c _ e1 (a.free c ob q n hx) hc hx
    exact ⟨sl', e2⟩
  free := fun c ob q n hx => by
    obtain ⟨o', e1⟩ := a.there c ob q hx
    exact b.free c o' e1 (a.free c ob q n hx) hx
  there := fun c ob q hx => by
    obtain ⟨o', e1⟩ := a.there c ob q hx
    exact b.there c o' e1 hx
  tups := fun c xs q => b.tups c xs (a.tups c xs q)
  frzs := fun c ob xs q => b.frzs c ob xs (a.frzs c ob xs q)
  tbls := fun c ps q => by
    obtain ⟨m1, e1⟩ := a.tbls c ps q
    obtain ⟨m2, e2⟩ := b.tbls c _ e1
    exact ⟨m1 ++ m2, by rw [e2, Array.append_assoc]⟩
theorem Un.kept (k : ∀ b u, h.get? b = some u → h'.get? b = some u) : Un fs ex H H h h' :=
  ⟨fun b ob q _ _ _ => k b ob q, fun b ob q _ _ _ => ⟨ob.slots, k b ob q⟩, fun _ _ _ n _ => n, fun b ob q _ => ⟨ob, k b ob q⟩, fun _ _ q => q, fun _ _ _ q => q, fun _ ps q => ⟨#[], by rw [q]; simp⟩⟩
theorem Un.refl : Un fs ex H H h h := Un.kept fun _ _ q => q
theorem Un.laid (k : ∀ b u, h.get? b = some u → h'.get? b = some u) (hp : h.objs.size ≤ a) (hn : H a = none) : Un fs ex H (upd H a o) h h' where
  keep := fun b u q _ _ _ => k b u q
  slot := fun b u q _ _ _ => ⟨u.slots, k b u q⟩
  free := fun b u q n _ => by rw [upd_ne (Nat.ne_of_lt (Nat.lt_of_lt_of_le (Heap.lt_size q) hp))]; exact n
  there := fun b u q _ => ⟨u, k b u q⟩
  tups := fun b xs q => by rw [upd_ne (ne_of_none q hn)]; exact q
  frzs := fun b u xs q => by rw [upd_ne (ne_of_none q hn)]; exact q
  tbls := fun b ps q => ⟨#[], by rw [upd_ne (ne_of_none q hn), q]; simp⟩
theorem Un.write (mu : Mut (H x)) (he : e = x ∨ H e = some (.own x)) (k : ∀ b u, b ≠ e → h.get? b = some u → h'.get? b = some u) (heo : ∃ u, h'.get? e = some u) : Un fs ex H (upd H x o) h h' := by
  have hx : ∀ b, H b = none → b ≠ x := fun b n z => by subst z; rw [n] at mu; exact mu
  have hb : ∀ b, H b = none → b ≠ e := fun b n z => by
    subst z
    rcases he with r | r
    · exact hx b n r
    · rw [n] at r; cases r
  have hm : ∀ b u, H b = some u → ¬ Mut (some u) → b ≠ x := fun b u q nm z => by subst z; rw [q] at mu; exact nm mu
  refine ⟨fun b u q n _ _ => k b u (hb b n) q, fun b u q n _ _ => ⟨u.slots, k b u (hb b n) q⟩, fun b u q n _ => by rw [upd_ne (hx b n)]; exact n, fun b u q _ => ?_,
    fun b xs q => by rw [upd_ne (hm b _ q fun z => z)]; exact q, fun b u xs q => by rw [upd_ne (hm b _ q fun z => z)]; exact q, fun b ps q => ⟨#[], by rw [upd_ne (hm b _ q fun z => z), q]; simp⟩⟩
  by_cases hbe : b = e
  · subst hbe; exact heo
  · exact ⟨u, k b u hbe q⟩
theorem Un.mono (u : Un fs ex H H1 h h1) (hs : ∀ b ∈ fs, b ∈ fs') (hx : ∀ b ∈ ex, b ∈ ex') : Un fs' ex' H H1 h h1 :=
  ⟨fun b ob q n hb he => u.keep b ob q n (fun z => hb (hs b z)) fun z => he (hx b z), fun _ _ q n _ he => u.any q n fun z => he (hx _ z), fun b ob q n he => u.free b ob q n fun z => he (hx b z), fun b ob q he => u.there b ob q fun z => he (hx b z), u.tups, u.frzs, u.tbls⟩
end

/-! ### the heap without what is tracked -/
def trk (h : Heap) (H : Hp) : List Addr := (List.range h.objs.size).filter fun a => (H a).isSome
def hidT (h : Heap) (H : Hp) : Heap := PySem.W.hideAll h (trk h H)
theorem hidT_size (h : Heap) (H : Hp) : (hidT h H).objs.size = h.objs.size := PySem.W.hideAll_size _ _
theorem hidT_get {h : Heap} {H : Hp} {b : Addr} {o : Obj} (e : h.get? b = some o) (n : H b = none) : (hidT h H).get? b = some o :=
  PySem.W.hideAll_get _ e fun hm => by
    have q : (H b).isSome = true := (List.mem_filter.mp hm).2
    rw [n] at q; simp at q
theorem of_hidT {h : Heap} {H : Hp} {b : Addr} {o : Obj} (e : (hidT h H).get? b = some o) : h.get? b = some o ∧ H b = none := by
  have e' : h.get? b = some o := PySem.W.of_hideAll (trk h H) e
  refine ⟨e', ?_⟩
  cases q : H b with
  | none => rfl
  | some x =>
    have hm : b ∈ trk h H := List.mem_filter.mpr ⟨List.mem_range.mpr (Heap.lt_size e'), by simp [q]⟩
    have z : (hidT h H).get? b = none := PySem.W.hideAll_none (trk h H) hm
    rw [z] at e; cases e

/-! ### OpenK's ledger, filled with every new object but one -/
def allNews (g h : Heap) (L : Addr) : List (Addr × Obj) := (List.range h.objs.size).filterMap fun a => if a = L ∨ (g.get? a).isSome = true then none else (h.get? a).map fun o => (a, o)
theorem mem_allNews {g h : Heap} {L a : Addr} {o : Obj} (h1 : a ≠ L) (h2 : g.get? a = none) (h3 : h.get? a = some o) : (a, o) ∈ allNews g h L :=
  List.mem_filterMap.mpr ⟨a, List.mem_range.mpr (Heap.lt_size h3), by simp [h1, h2, h3]⟩
theorem of_mem_allNews {g h : Heap} {L : Addr} {p : Addr × Obj} (hp : p ∈ allNews g h L) : p.1 ≠ L ∧ g.get? p.1 = none ∧ h.get? p.1 = some p.2 := by
  obtain ⟨b, _, e⟩ := List.mem_filterMap.mp hp
  split at e
  · cases e
  · rename_i hn
    cases q : h.get? b with
    | none => rw [q] at e; simp at e
    | some u =>
      rw [q] at e
      simp only [Option.map_some, Option.some.injEq] at e
      subst e
      refine ⟨fun z => hn (.inl z), ?_, q⟩
      show g.get? b = none
      cases r : g.get? b with
      | none => rfl
      | some v => exact (hn (.inr (by simp [r]))).elim
def rest (g h : Heap) (L d : Addr) : List (Addr × Obj) := (allNews g h L).filter fun p => decide (p.1 ≠ d)
theorem rest_ne {g h : Heap} {L d : Addr} : ∀ p ∈ rest g h L d, p.1 ≠ d := fun p hp => of_decide_eq_true (List.mem_filter.mp hp).2
theorem mem_rest {g h : Heap} {L d a : Addr} {o : Obj} (h1 : a ≠ L) (h2 : g.get? a = none) (h3 : h.get? a = some o) (h4 : a ≠ d) : (a, o) ∈ rest g h L d :=
  List.mem_filter.mpr ⟨mem_allNews h1 h2 h3, decide_eq_true h4⟩
theorem news_all {g h : Heap} {L : Addr} : News g L h (allNews g h L) := fun p hp => let ⟨a, b, c⟩ := of_mem_allNews hp; ⟨c, a, b⟩
theorem news_at {g h : Heap} {L d : Addr} {o : Obj} (h1 : d ≠ L) (h2 : g.get? d = none) (h3 : h.get? d = some o) : News g L h ((d, o) :: rest g h L d) := fun p hp => by
  rcases List.mem_cons.mp hp with rfl | hp
  · exact ⟨h3, h1, h2⟩
  · exact news_all p (List.mem_filter.mp hp).1
/-- behind a rule that changed d alone: all else but the frame is kept -/
theorem kept_of_news {g h h' : Heap} {L d : Addr} {m : Str → Option Value} (k : ∀ b o, g.get? b = some o → h.get? b = some o) (F : Fr g L h' m) (N : News g L h' (rest g h L d)) :
    ∀ b o, b ≠ L → b ≠ d → h.get? b = some o → h'.get? b = some o := fun b o h1 h2 e => by
  cases q : g.get? b with
  | some u =>
    have := k b u q
    rw [e] at this; cases this
    exact F.keep b _ q
  | none => exact (N (b, o) (mem_rest h1 q e h2)).1
end L2

namespace L2
open PySem PySem.Spec PyProof.Rows

/-- the module's facts, over the base: the heap at the law's entry without what is tracked there -/
structure Mod (K : PySem.W.Frag) (mg : Str → Option Value) (base : Heap) : Prop where
  kin : K.In base
  glob : base.Ns mainGlobals mg
  blt : ∃ mb, base.Ns builtinsNs mb ∧ ∀ x : Str, x ≠ "__name__" → mb x = bootBuiltins x
  nolimit : base.NoLimit

/-- the context: a def's body (or a comprehension's block) running. base: fixed through the whole law; s₀, H₀: the entry; outer: the frames whose slots others may change (a def's callers); stack: all frames that run;
   ex: iterators that were made ahead of the entry and are walked here (a comprehension's); fn: the names whose cells were made at the entry (a def: all; a comprehension's block: its own); calm: not within an except suite; pn: pins that every state bears; xe: what is wanted of an exception that leaves the code -/
structure Cx where
  prog : Program
  w : World
  K : PySem.W.Frag
  mg : Str → Option Value
  base : Heap
  A : Around
  N : List Str
  s₀ : Shared
  H₀ : Hp
  env : Env
  outer : List Env
  stack : List Env
  ex : List Addr
  fn : Str → Bool
  calm : Bool
  pn : List (Addr × Obj)
  xe : Value → Shared → Prop
/-- the callers' frames -/
def frs (l : List Env) : List Addr := l.filterMap (·.frame)
abbrev Cx.fs (X : Cx) : List Addr := frs X.outer

def Vis (sc : Scope) (x : Str) : Prop := sc.names.lookup x = some .local ∨ sc.names.lookup x = some .cell ∨ sc.names.lookup x = some .free
def Loc (sc : Scope) (x : Str) : Prop := sc.names.lookup x = some .local ∨ sc.names.lookup x = some .cell
def Look (env : Env) (h : Heap) (m : Str → Option Value) (x : Str) (u : Value) : Prop :=
  (env.kindOf x = some .local ∧ m x = some u) ∨ ((env.kindOf x = some .cell ∨ env.kindOf x = some .free) ∧ ∃ c, env.cells.lookup x = some c ∧ h.IsCell c (some u))

structure Cx.Ok (X : Cx) : Prop where
  mod : Mod X.K X.mg X.base
  kind : X.env.scope.kind = .function
  glob : X.env.globals = mainGlobals
  blt : X.env.builtins = builtinsNs
  above : X.s₀.heap.objs.size ≤ X.env.locals
  inj : ∀ x y c, X.env.cells.lookup x = some c → X.env.cells.lookup y = some c → x = y
  has : ∀ x, (X.env.kindOf x = some .cell ∨ X.env.kindOf x = some .free) → ∃ c, X.env.cells.lookup x = some c
  cab : ∀ x c, X.fn x = true → X.env.cells.lookup x = some c → X.s₀.heap.objs.size ≤ c
  hd : X.calm = true → X.A.handled = none
  frames : X.A.frames = some X.stack
  stk : X.stack = X.outer ∨ (X.stack = X.env :: X.outer ∧ X.env.frame = some X.env.locals)
  exf : ∀ b ∈ X.ex, b ≠ X.env.locals ∧ ∀ x c, X.env.cells.lookup x = some c → c ≠ b
  bs : ∀ b o, X.base.get? b = some o → X.s₀.heap.get? b = some o ∧ X.H₀ b = none
  bsz : X.base.objs.size ≤ X.s₀.heap.objs.size
  noex : ∀ b o, X.base.get? b = some o → b ∉ X.ex
  exfs : ∀ b ∈ X.ex, b ∉ X.fs
  funs : X.s₀.heap.FunFrames X.base X.outer
  frf : ∀ b ∈ X.fs, X.H₀ b = none

structure Inv (X : Cx) (pins : List (Addr × Obj)) (σ : List (Option V)) (H : Hp) (s : Shared) : Prop where
  ok : X.Ok
  os : s.os = X.s₀.os
  bare : AllBare s.gens
  base : Un X.fs X.ex X.H₀ H X.s₀.heap s.heap
  loc : ∃ m, s.heap.Ns X.env.locals m ∧ ∀ (i : Nat) (x : Str) (v : V), X.N[i]? = some x → σ[i]? = some (some v) → Vis X.env.scope x → ∃ u, RelV v u ∧ Look X.env s.heap m x u
  cell : ∀ x c, X.env.cells.lookup x = some c → ∃ v, s.heap.IsCell c v
  free : H X.env.locals = none
  freeC : ∀ x c, X.env.cells.lookup x = some c → H c = none
  pin : ∀ p ∈ X.pn ++ pins, s.heap.get? p.1 = some p.2 ∧ H p.1 = none ∧ p.1 ≠ X.env.locals ∧ p.1 ∉ X.fs ∧ ∀ v, p.2.data ≠ .cell v
  hok : HOk X.prog X.w H s.heap
  len : σ.length = X.N.length

section
variable {X : Cx} {pins : List (Addr × Obj)} {σ : List (Option V)} {H H' : Hp} {s : Shared} {h' : Heap}

theorem Cx.Ok.nofr (ok : X.Ok) {b : Addr} {o : Obj} (e : X.base.get? b = some o) : b ∉ X.fs := fun hb => by
  have := (ok.funs.mem hb).1
  rw [e] at this; cases this
theorem Inv.bs (I : Inv X pins σ H s) : ∀ b o, X.base.get? b = some o → s.heap.get? b = some o ∧ H b = none := fun b o e =>
  ⟨I.base.keep b o (I.ok.bs b o e).1 (I.ok.bs b o e).2 (I.ok.nofr e) (I.ok.noex b o e), I.base.free b o (I.ok.bs b o e).1 (I.ok.bs b o e).2 (I.ok.noex b o e)⟩
theorem Inv.bk (I : Inv X pins σ H s) : ∀ b o, X.base.get? b = some o → s.heap.get? b = some o := fun b o e => (I.bs b o e).1
theorem Inv.mod (I : Inv X pins σ H s) : Mod X.K X.mg X.base := I.ok.mod
theorem Inv.kIn (I : Inv X pins σ H s) : X.K.In s.heap := I.ok.mod.kin.keeps I.bk
theorem Inv.nolimit (I : Inv X pins σ H s) : s.heap.NoLimit := I.ok.mod.nolimit.keeps I.bk
/-- the frame over the base: for OpenK's rules (K.In X.base is I.mod.kin) -/
theorem Inv.fr (I : Inv X pins σ H s) : ∃ m, Fr X.base X.env.locals s.heap m :=
  let ⟨m, hn, _⟩ := I.loc
  ⟨m, hn, I.bk, Nat.le_trans I.ok.bsz I.ok.above⟩
theorem Inv.lt (I : Inv X pins σ H s) : X.env.locals < s.heap.objs.size := let ⟨_, hn, _⟩ := I.loc; hn.lt
theorem Inv.sz (I : Inv X pins σ H s) : X.s₀.heap.objs.size ≤ s.heap.objs.size := Nat.le_trans I.ok.above (Nat.le_of_lt I.lt)
theorem Inv.nofs (I : Inv X pins σ H s) {a : Addr} (h : s.heap.objs.size ≤ a) : a ∉ X.fs := fun hb => by
  obtain ⟨_, o, ho, _⟩ := I.ok.funs.mem hb
  exact absurd (Nat.lt_of_lt_of_le (Heap.lt_size ho) (Nat.le_trans I.sz h)) (Nat.lt_irrefl _)
theorem Inv.cne (I : Inv X pins σ H s) : ∀ x c, X.env.cells.lookup x = some c → c ≠ X.env.locals := fun x c e z => by
  obtain ⟨v, o, ho, hd⟩ := I.cell x c e
  obtain ⟨m, ⟨o', es, ep, ho', hd', _⟩, _⟩ := I.loc
  rw [z, ho'] at ho; cases ho; rw [hd'] at hd; cases hd
theorem Inv.funs (I : Inv X pins σ H s) : s.heap.FunFrames X.base X.outer := by
  have all : ∀ (l : List Env), (∀ b ∈ frs l, b ∈ X.fs) → X.s₀.heap.FunFrames X.base l → s.heap.FunFrames X.base l := by
    intro l
    induction l with
    | nil => intro _ _; trivial
    | cons env r ih =>
      intro hs hl
      obtain ⟨hk, ⟨L, o, hf, hn, ho, hd⟩, hr⟩ := hl
      have hL : L ∈ X.fs := hs L (by unfold frs; rw [List.filterMap_cons, hf]; exact List.mem_cons_self)
      obtain ⟨sl, e⟩ := I.base.slot L o ho (I.ok.frf L hL) hL fun z => I.ok.exfs L z hL
      exact ⟨hk, ⟨L, _, hf, hn, e, hd⟩, ih (fun b hb => hs b (by unfold frs; rw [List.filterMap_cons, hf]; exact List.mem_cons_of_mem _ hb)) hr⟩
  exact all X.outer (fun _ hb => hb) I.ok.funs

/-- the frames that run, for a call -/
theorem Inv.stack (I : Inv X pins σ H s) : s.heap.FunFrames X.base X.stack := by
  rcases I.ok.stk with e | ⟨e, hf⟩
  · rw [e]; exact I.funs
  · rw [e]
    obtain ⟨m, hn, _⟩ := I.loc
    refine .cons (by rw [I.ok.kind]; decide) hf hn ?_ I.funs
    exact Heap.get?_none_of_le (Nat.le_trans I.ok.bsz I.ok.above)
theorem Inv.stkSub (I : Inv X pins σ H s) : ∀ b ∈ frs X.stack, b ∈ X.env.locals :: X.fs := fun b hb => by
  rcases I.ok.stk with e | ⟨e, hf⟩
  · rw [e] at hb; exact List.mem_cons_of_mem _ hb
  · rw [e] at hb
    unfold frs at hb
    rw [List.filterMap_cons, hf] at hb
    exact hb
theorem Inv.stkFree (I : Inv X pins σ H s) : ∀ b ∈ frs X.stack, H b = none := fun b hb => by
  rcases List.mem_cons.mp (I.stkSub b hb) with e | hb
  · rw [e]; exact I.free
  · obtain ⟨_, o, ho, _⟩ := I.ok.funs.mem hb
    exact I.base.free b o ho (I.ok.frf b hb) fun z => I.ok.exfs b z hb

/-- THE STEP: the untracked objects but the frame and the records at ch are kept (the callers' frames up to slots), the frame's map is kept, the new abstract heap is held -/
theorem Inv.step {g' : Array GenState} {t' : Nat} {d' : Drawn} {ch : List Addr} (I : Inv X pins σ H s)
    (hch : ∀ b ∈ ch, (b ∈ X.ex ∨ X.s₀.heap.objs.size ≤ b) ∧ b ≠ X.env.locals ∧ (∀ x c, X.env.cells.lookup x = some c → c ≠ b) ∧ ∀ p ∈ X.pn ++ pins, p.1 ≠ b)
    (keep : ∀ b o, b ≠ X.env.locals → b ∉ X.fs → b ∉ ch → s.heap.get? b = some o → H b = none → h'.get? b = some o)
    (slot : ∀ b o, b ≠ X.env.locals → b ∈ X.fs → b ∉ ch → s.heap.get? b = some o → H b = none → ∃ sl, h'.get? b = some { o with slots := sl }) (free : ∀ b o, b ∉ ch → s.heap.get? b = some o → H b = none → H' b = none)
    (there : ∀ b o, b ∉ ch → s.heap.get? b = some o → ∃ o', h'.get? b = some o')
    (tups : ∀ b xs, H b = some (.tup xs) → H' b = some (.tup xs)) (frzs : ∀ b o u, H b = some (.frz o u) → H' b = some (.frz o u)) (tbls : ∀ b ps, H b = some (.tbl ps) → ∃ more, H' b = some (.tbl (ps ++ more)))
    (ns : ∀ m, s.heap.Ns X.env.locals m → h'.Ns X.env.locals m) (hok : HOk X.prog X.w H' h') (hg : AllBare g') :
    Inv X pins σ H' { s with heap := h', gens := g', drawn := d', toks := t' } := by
  have neL : ∀ b o, X.s₀.heap.get? b = some o → b ≠ X.env.locals := fun b o e => Nat.ne_of_lt (Nat.lt_of_lt_of_le (Heap.lt_size e) I.ok.above)
  have neC : ∀ b o, X.s₀.heap.get? b = some o → b ∉ X.ex → b ∉ ch := fun b o e hx hb => by
    rcases (hch b hb).1 with z | z
    · exact hx z
    · exact absurd (Nat.lt_of_lt_of_le (Heap.lt_size e) z) (Nat.lt_irrefl _)
  have cellK : ∀ x c, X.env.cells.lookup x = some c → ∀ v, s.heap.IsCell c v → h'.IsCell c v := fun x c e v ⟨o, ho, hd⟩ => by
    have nch : c ∉ ch := fun z => (hch c z).2.2.1 x c e rfl
    by_cases hc : c ∈ X.fs
    · obtain ⟨sl, q⟩ := slot c o (I.cne x c e) hc nch ho (I.freeC x c e)
      exact ⟨_, q, hd⟩
    · exact ⟨o, keep c o (I.cne x c e) hc nch ho (I.freeC x c e), hd⟩
  refine ⟨I.ok, I.os, hg, ⟨fun b o e n hb hx => ?_, fun b o e n hb hx => ?_, fun b o e n hx => ?_, fun b o e hx => ?_, fun b xs e => tups b xs (I.base.tups b xs e), fun b o xs e => frzs b o xs (I.base.frzs b o xs e), fun b ps e => ?_⟩, ?_, fun x c e => ?_, ?_, fun x c e => ?_, fun p hp => ?_, hok, I.len⟩
  · exact keep b o (neL b o e) hb (neC b o e hx) (I.base.keep b o e n hb hx) (I.base.free b o e n hx)
  · obtain ⟨sl, e1⟩ := I.base.slot b o e n hb hx
    obtain ⟨sl', e2⟩ := slot b _ (neL b o e) hb (neC b o e hx) e1 (I.base.free b o e n hx)
    exact ⟨sl', e2⟩
  · obtain ⟨o', e1⟩ := I.base.there b o e hx
    exact free b o' (neC b o e hx) e1 (I.base.free b o e n hx)
  · obtain ⟨o', e1⟩ := I.base.there b o e hx
    exact there b o' (neC b o e hx) e1
  · obtain ⟨m1, e1⟩ := I.base.tbls b ps e
    obtain ⟨m2, e2⟩ := tbls b _ e1
    exact ⟨m1 ++ m2, by rw [e2, Array.append_assoc]⟩
  · obtain ⟨m, hn, hl⟩ := I.loc
    refine ⟨m, ns m hn, fun i x v e1 e2 e3 => ?_⟩
    obtain ⟨u, r, l⟩ := hl i x v e1 e2 e3
    refine ⟨u, r, ?_⟩
    rcases l with l | ⟨k, c, e, z⟩
    · exact .inl l
    · exact .inr ⟨k, c, e, cellK x c e _ z⟩
  · obtain ⟨v, z⟩ := I.cell x c e
    exact ⟨v, cellK x c e v z⟩
  · obtain ⟨m, ⟨o, _, _, ho, _⟩, _⟩ := I.loc
    exact free _ o (fun z => (hch _ z).2.1 rfl) ho I.free
  · obtain ⟨v, o, ho, hd⟩ := I.cell x c e
    exact free c o (fun z => (hch c z).2.2.1 x c e rfl) ho (I.freeC x c e)
  · obtain ⟨e, n, ne, nf, d⟩ := I.pin p hp
    have nch : p.1 ∉ ch := fun z => (hch p.1 z).2.2.2 p hp rfl
    exact ⟨keep p.1 p.2 ne nf nch e n, free p.1 p.2 nch e n, ne, nf, d⟩
/-- .. where the frame's own object is kept too -/
theorem Inv.un {t' : Nat} (I : Inv X pins σ H s) (u : Un X.fs [] H H' s.heap h') (hok : HOk X.prog X.w H' h') : Inv X pins σ H' { s with heap := h', toks := t' } := by
  obtain ⟨m, ⟨o, es, ep, ho, r⟩, _⟩ := id I.loc
  obtain ⟨sl, hL⟩ := u.any ho I.free (by simp)
  exact I.step (g' := s.gens) (d' := s.drawn) (ch := []) (fun _ z => nomatch z) (fun b o _ hb _ e n => u.keep b o e n hb (by simp)) (fun b o _ hb _ e n => u.slot b o e n hb (by simp)) (fun b o _ e n => u.free b o e n (by simp)) (fun b o _ e => u.there b o e (by simp)) u.tups u.frzs u.tbls (fun m' hm => by
    obtain ⟨o', es', ep', ho', r'⟩ := hm
    rw [ho] at ho'; cases ho'
    exact ⟨_, es', ep', hL, r'⟩) hok I.bare
/-- behind a call (or a comprehension's block): the slots of this frame may have changed too, the records at ch may have turned -/
theorem Inv.call {g' : Array GenState} {t' : Nat} {d' : Drawn} {ch : List Addr} (I : Inv X pins σ H s) (u : Un (frs X.stack) ch H H' s.heap h') (hok : HOk X.prog X.w H' h') (hg : AllBare g')
    (hch : ∀ b ∈ ch, (b ∈ X.ex ∨ X.s₀.heap.objs.size ≤ b) ∧ b ≠ X.env.locals ∧ (∀ x c, X.env.cells.lookup x = some c → c ≠ b) ∧ ∀ p ∈ X.pn ++ pins, p.1 ≠ b) :
    Inv X pins σ H' { s with heap := h', gens := g', drawn := d', toks := t' } := by
  obtain ⟨m, ⟨o, es, ep, ho, r⟩, _⟩ := id I.loc
  obtain ⟨sl, hL⟩ := u.any ho I.free fun z => (hch _ z).2.1 rfl
  exact I.step (ch := ch) hch (fun b o hL hb hc e n => u.keep b o e n (fun z => (List.mem_cons.mp (I.stkSub b z)).elim hL hb) hc) (fun b o _ _ hc e n => u.any e n hc) (fun b o hc e n => u.free b o e n hc) (fun b o hc e => u.there b o e hc) u.tups u.frzs u.tbls (fun m' hm => by
    obtain ⟨o', es', ep', ho', r'⟩ := hm
    rw [ho] at ho'; cases ho'
    exact ⟨_, es', ep', hL, r'⟩) hok hg
/-- an untracked record of ours (an iterator) has turned -/
theorem Inv.turned {t' : Nat} {it : Addr} (I : Inv X pins σ H s) (k : ∀ b o, b ≠ it → s.heap.get? b = some o → h'.get? b = some o) (hn : H it = none) (hL : it ≠ X.env.locals)
    (h1 : it ∈ X.ex ∨ X.s₀.heap.objs.size ≤ it) (h2 : ∀ x c, X.env.cells.lookup x = some c → c ≠ it) (h3 : ∀ p ∈ X.pn ++ pins, p.1 ≠ it) : Inv X pins σ H { s with heap := h', toks := t' } := by
  have nit : ∀ b u, H b = some u → b ≠ it := fun b u e z => by rw [z, hn] at e; cases e
  refine I.step (g' := s.gens) (d' := s.drawn) (ch := [it]) (fun b hb => ?_) (fun b o _ _ hc e _ => k b o (fun z => hc (by simp [z])) e) (fun b o _ _ hc e _ => ⟨o.slots, k b o (fun z => hc (by simp [z])) e⟩) (fun _ _ _ _ n => n)
    (fun b o hc e => ⟨o, k b o (fun z => hc (by simp [z])) e⟩) (fun _ _ e => e) (fun _ _ _ e => e) (fun b ps e => ⟨#[], by rw [e]; simp⟩) (fun m hm => ?_) (fun b u e => ?_) I.bare
  · have e : b = it := by simpa using hb
    subst e
    exact ⟨h1, hL, h2, h3⟩
  · obtain ⟨o, es, ep, ho, r⟩ := hm
    exact ⟨o, es, ep, k _ o (Ne.symm hL) ho, r⟩
  · refine (I.hok b u e).stay (fun c v hc q => k c v ?_ q) (fun _ q => q) fun _ _ q => q
    rcases hc with z | z
    · rw [z]; exact nit b u e
    · exact nit c _ z
theorem Inv.tok (I : Inv X pins σ H s) (t : Nat) : Inv X pins σ H { s with toks := t } := I.un (h' := s.heap) (t' := t) Un.refl I.hok
/-- all objects kept -/
theorem Inv.kept {t' : Nat} (I : Inv X pins σ H s) (k : ∀ b u, s.heap.get? b = some u → h'.get? b = some u) : Inv X pins σ H { s with heap := h', toks := t' } := I.un (Un.kept k) (I.hok.kept k)
/-- a new object laid and tracked -/
theorem Inv.laid {a : Addr} {o : HO} {t' : Nat} (I : Inv X pins σ H s) (k : ∀ b u, s.heap.get? b = some u → h'.get? b = some u) (hp : s.heap.objs.size ≤ a) (new : ObjOk X.prog X.w (upd H a o) h' a o) :
    Inv X pins σ (upd H a o) { s with heap := h', toks := t' } := I.un (Un.laid k hp (I.hok.fresh hp)) (I.hok.laid k hp new)
/-- an object written -/
theorem Inv.write {x e : Addr} {o : HO} {t' : Nat} (I : Inv X pins σ H s) (mu : Mut (H x)) (he : e = x ∨ H e = some (.own x)) (k : ∀ b u, b ≠ e → s.heap.get? b = some u → h'.get? b = some u) (heo : ∃ u, h'.get? e = some u)
    (new : ObjOk X.prog X.w (upd H x o) h' x o) : Inv X pins σ (upd H x o) { s with heap := h', toks := t' } := I.un (Un.write mu he k heo) (I.hok.write mu he k heo new)
/-- forgetting slots, pins -/
theorem Inv.weak {σ' : List (Option V)} (I : Inv X pins σ H s) (hl : σ'.length = σ.length) (w : ∀ (i : Nat) v, σ'[i]? = some (some v) → σ[i]? = some (some v)) : Inv X pins σ' H s :=
  ⟨I.ok, I.os, I.bare, I.base, let ⟨m, hn, hl'⟩ := I.loc; ⟨m, hn, fun i x v e1 e2 e3 => hl' i x v e1 (w i v e2) e3⟩, I.cell, I.free, I.freeC, I.pin, I.hok, hl.trans I.len⟩
theorem Inv.pins_of {pins' : List (Addr × Obj)} (I : Inv X pins σ H s) (h : ∀ p ∈ pins', s.heap.get? p.1 = some p.2 ∧ H p.1 = none ∧ p.1 ≠ X.env.locals ∧ p.1 ∉ X.fs ∧ ∀ v, p.2.data ≠ .cell v) : Inv X pins' σ H s :=
  ⟨I.ok, I.os, I.bare, I.base, I.loc, I.cell, I.free, I.freeC, fun p hp => (List.mem_append.mp hp).elim (fun z => I.pin p (List.mem_append_left _ z)) (h p), I.hok, I.len⟩

theorem nodup_ix {N : List Str} (hN : N.Nodup) {i j : Nat} {x : Str} (a : N[i]? = some x) (b : N[j]? = some x) : i = j := by
  obtain ⟨h1, e1⟩ := List.getElem?_eq_some_iff.mp a
  obtain ⟨h2, e2⟩ := List.getElem?_eq_some_iff.mp b
  exact (List.getElem_inj hN).mp (e1.trans e2.symm)

/-- a name is stored; what changed -/
theorem store_ok2 {M : Model} {A : Around} {E : Value → Shared → Prop} {i : Nat} {x : Str} {v : V} {u : Value} {Q : Unit → Shared → Prop} (I : Inv X pins σ H s) (hN : X.N.Nodup) (hi : X.N[i]? = some x) (hx : Loc X.env.scope x) (r : RelV v u)
    (h : ∀ s', Inv X pins (σ.set i (some v)) H s' → (∃ a, Heap.SameBut a s.heap s'.heap ∧ (a = X.env.locals ∨ X.env.cells.lookup x = some a)) → Q () s') (hf : X.fn x = true ∨ X.env.scope.names.lookup x = some .local := by first | exact .inl rfl | exact .inr rfl | assumption) : wpAny M A (storeName X.env x u) Q E s := by
  obtain ⟨m, hn, hl⟩ := id I.loc
  have hcls : (X.env.scope.kind == .class || (X.env.scope.kind == .module && X.env.locals != X.env.globals)) = false := by rw [I.ok.kind]; rfl
  have hiσ : i < σ.length := by rw [I.len]; exact (List.getElem?_eq_some_iff.mp hi).1
  have cne := I.cne
  have tracked : ∀ {a : Addr} {h' : Heap}, (∃ o, s.heap.get? a = some o ∧ H a = none) → Heap.SameBut a s.heap h' → HOk X.prog X.w H h' := fun {a h'} ha hs b ob e => by
    obtain ⟨_, _, hfree⟩ := ha
    refine (I.hok b ob e).stay (fun c w' hc q => (hs.2 c ?_).trans q) (fun _ q => q) fun _ _ q => q
    rintro rfl
    rcases hc with rfl | hc
    · rw [hfree] at e; cases e
    · rw [hfree] at hc; cases hc
  rcases hx with hk | hk
  · refine wpAny_storeName_local hk hn (fun h' hn' hs => ?_) hcls
    obtain ⟨oL, _, _, hoL, _⟩ := id hn
    refine h _ ⟨I.ok, I.os, I.bare, ⟨fun b o e n hb hx => ?_, fun b o e n hb hx => ?_, I.base.free, fun b o e hx => ?_, I.base.tups, I.base.frzs, I.base.tbls⟩, ⟨_, hn', fun j y v' e1 e2 e3 => ?_⟩, fun y c e => ?_, I.free, I.freeC, fun p hp => ?_, tracked ⟨oL, hoL, I.free⟩ hs, by simpa using I.len⟩ ⟨_, hs, .inl rfl⟩
    · exact (hs.2 b (Nat.ne_of_lt (Nat.lt_of_lt_of_le (Heap.lt_size e) I.ok.above))).trans (I.base.keep b o e n hb hx)
    · obtain ⟨sl, e1⟩ := I.base.slot b o e n hb hx
      exact ⟨sl, (hs.2 b (Nat.ne_of_lt (Nat.lt_of_lt_of_le (Heap.lt_size e) I.ok.above))).trans e1⟩
    · obtain ⟨o', e1⟩ := I.base.there b o e hx
      exact ⟨o', (hs.2 b (Nat.ne_of_lt (Nat.lt_of_lt_of_le (Heap.lt_size e) I.ok.above))).trans e1⟩
    · by_cases hj : j = i
      · subst hj
        rw [hi] at e1; cases e1
        rw [List.getElem?_set_self hiσ] at e2
        cases e2
        exact ⟨u, r, .inl ⟨hk, by simp⟩⟩
      · rw [List.getElem?_set_ne (Ne.symm hj)] at e2
        obtain ⟨u', r', q⟩ := hl j y v' e1 e2 e3
        refine ⟨u', r', ?_⟩
        rcases q with ⟨k, e⟩ | ⟨k, c, e, z⟩
        · refine .inl ⟨k, ?_⟩
          have : y ≠ x := fun e => hj (nodup_ix hN e1 (e ▸ hi))
          simp [this, e]
        · exact .inr ⟨k, c, e, z.sameBut hs (cne y c e)⟩
    · obtain ⟨w', z⟩ := I.cell y c e
      exact ⟨w', z.sameBut hs (cne y c e)⟩
    · obtain ⟨e, n, ne, nf, d⟩ := I.pin p hp
      exact ⟨(hs.2 p.1 ne).trans e, n, ne, nf, d⟩
  · have hfn : X.fn x = true := by
      rcases hf with z | z
      · exact z
      · rw [z] at hk; cases hk
    obtain ⟨c, hc⟩ := I.ok.has x (.inl hk)
    obtain ⟨w', z⟩ := I.cell x c hc
    refine wpAny_storeName_cell I.ok.kind hk hc z (fun h' hc' hs => ?_)
    obtain ⟨oc, hoc, hocd⟩ := id z
    refine h { s with heap := h' } ⟨I.ok, I.os, I.bare, ⟨fun b o e n hb hx => ?_, fun b o e n hb hx => ?_, I.base.free, fun b o e hx => ?_, I.base.tups, I.base.frzs, I.base.tbls⟩, ⟨m, hn.sameBut hs (Ne.symm (cne x c hc)), fun j y v' e1 e2 e3 => ?_⟩, fun y c' e => ?_, I.free, I.freeC, fun p hp => ?_, tracked ⟨oc, hoc, I.freeC x c hc⟩ hs, by simpa using I.len⟩ ⟨c, hs, .inr hc⟩
    · exact (hs.2 b (Nat.ne_of_lt (Nat.lt_of_lt_of_le (Heap.lt_size e) (I.ok.cab x c hfn hc)))).trans (I.base.keep b o e n hb hx)
    · obtain ⟨sl, e1⟩ := I.base.slot b o e n hb hx
      exact ⟨sl, (hs.2 b (Nat.ne_of_lt (Nat.lt_of_lt_of_le (Heap.lt_size e) (I.ok.cab x c hfn hc)))).trans e1⟩
    · obtain ⟨o', e1⟩ := I.base.there b o e hx
      exact ⟨o', (hs.2 b (Nat.ne_of_lt (Nat.lt_of_lt_of_le (Heap.lt_size e) (I.ok.cab x c hfn hc)))).trans e1⟩
    · by_cases hj : j = i
      · subst hj
        rw [hi] at e1; cases e1
        rw [List.getElem?_set_self hiσ] at e2
        cases e2
        exact ⟨u, r, .inr ⟨.inl hk, c, hc, hc'⟩⟩
      · rw [List.getElem?_set_ne (Ne.symm hj)] at e2
        obtain ⟨u', r', q⟩ := hl j y v' e1 e2 e3
        refine ⟨u', r', ?_⟩
        rcases q with q | ⟨k, c', e, z'⟩
        · exact .inl q
        · refine .inr ⟨k, c', e, z'.sameBut hs ?_⟩
          rintro rfl
          exact hj (nodup_ix hN e1 (I.ok.inj _ _ _ e hc ▸ hi))
    · by_cases hcc : c' = c
      · subst hcc; exact ⟨_, hc'⟩
      · obtain ⟨w2, z2⟩ := I.cell y c' e
        exact ⟨w2, z2.sameBut hs hcc⟩
    · obtain ⟨e, n, ne, nf, d⟩ := I.pin p hp
      refine ⟨(hs.2 p.1 ?_).trans e, n, ne, nf, d⟩
      intro q
      rw [q, hoc] at e
      have q' : oc = p.2 := Option.some.inj e
      exact d w' (by rw [← q']; exact hocd)
theorem store_ok {M : Model} {A : Around} {E : Value → Shared → Prop} {i : Nat} {x : Str} {v : V} {u : Value} {Q : Unit → Shared → Prop} (I : Inv X pins σ H s) (hN : X.N.Nodup) (hi : X.N[i]? = some x) (hx : Loc X.env.scope x) (r : RelV v u)
    (h : ∀ s', Inv X pins (σ.set i (some v)) H s' → Q () s') (hf : X.fn x = true ∨ X.env.scope.names.lookup x = some .local := by first | exact .inl rfl | exact .inr rfl | assumption) : wpAny M A (storeName X.env x u) Q E s :=
  store_ok2 I hN hi hx r (fun s' I' _ => h s' I') hf
/-- behind a call or a block, the state as it is -/
theorem Inv.call' {s' : Shared} {ch : List Addr} (I : Inv X pins σ H s) (ho : s'.os = s.os) (u : Un (frs X.stack) ch H H' s.heap s'.heap) (hok : HOk X.prog X.w H' s'.heap) (hg : AllBare s'.gens)
    (hch : ∀ b ∈ ch, (b ∈ X.ex ∨ X.s₀.heap.objs.size ≤ b) ∧ b ≠ X.env.locals ∧ (∀ x c, X.env.cells.lookup x = some c → c ≠ b) ∧ ∀ p ∈ X.pn ++ pins, p.1 ≠ b) : Inv X pins σ H' s' := by
  obtain ⟨h', g', d', t', o'⟩ := s'
  have e : o' = s.os := ho
  subst e
  exact I.call (g' := g') (t' := t') (d' := d') u hok hg hch
end

/-! ### the judgements -/
/-- an exception: its class, its own dict's address (where it has one), the abstract heap behind it -/
abbrev XK := Value → Option Addr → Hp → Prop
abbrev St := List (Option V)
abbrev VK := V → Hp → Prop
/-- an expression's reading; a test's; an argument list's -/
abbrev TE := St → Hp → VK → Prop
abbrev TT := St → Hp → (Bool → Hp → Prop) → Prop
abbrev TA := St → Hp → (List V → Hp → Prop) → Prop
/-- what is wanted behind a statement -/
structure Ends where
  nx : St → Hp → Prop
  rt : VK
  bk : St → Hp → Prop := fun _ _ => False
  ct : St → Hp → Prop := fun _ _ => False
abbrev TS := Ends → St → Hp → Prop

def EP (X : Cx) (pins : List (Addr × Obj)) (σ : St) (Q : VK) (u : Value) (s' : Shared) : Prop := ∃ v H', Inv X pins σ H' s' ∧ RelV v u ∧ Q v H'
def TP (X : Cx) (pins : List (Addr × Obj)) (σ : St) (Q : Bool → Hp → Prop) (b : Bool) (s' : Shared) : Prop := ∃ H', Inv X pins σ H' s' ∧ Q b H'
def AP (X : Cx) (pins : List (Addr × Obj)) (σ : St) (Q : List V → Hp → Prop) (us : List Value) (s' : Shared) : Prop := ∃ vs H', Inv X pins σ H' s' ∧ Vals vs us ∧ Q vs H'
def SP (X : Cx) (pins : List (Addr × Obj)) (D : Ends) (f : Flow) (s' : Shared) : Prop :=
  match f with
  | .next => ∃ σ' H', Inv X pins σ' H' s' ∧ D.nx σ' H'
  | .brk => ∃ σ' H', Inv X pins σ' H' s' ∧ D.bk σ' H'
  | .cont => ∃ σ' H', Inv X pins σ' H' s' ∧ D.ct σ' H'
  | .ret u => ∃ v σ' H', Inv X pins σ' H' s' ∧ RelV v u ∧ D.rt v H'

def PE (X : Cx) (e : Expr) (t : TE) : Prop :=
  ∀ (pins : List (Addr × Obj)) (s : Shared) (σ : St) (H : Hp) (Q : VK), Inv X pins σ H s → t σ H Q → wpAny (model X.prog X.w) X.A (eval e X.env) (EP X pins σ Q) X.xe s
def PT (X : Cx) (e : Expr) (t : TT) : Prop :=
  ∀ (pins : List (Addr × Obj)) (s : Shared) (σ : St) (H : Hp) (Q : Bool → Hp → Prop), Inv X pins σ H s → t σ H Q → wpAny (model X.prog X.w) X.A (isTrue e X.env (eval e X.env)) (TP X pins σ Q) X.xe s
/-- a test whatever its 'whole' is (and, or) -/
def PW (X : Cx) (e : Expr) (t : TT) : Prop :=
  ∀ (whole : Sem Value) (pins : List (Addr × Obj)) (s : Shared) (σ : St) (H : Hp) (Q : Bool → Hp → Prop), Inv X pins σ H s → t σ H Q → wpAny (model X.prog X.w) X.A (isTrue e X.env whole) (TP X pins σ Q) X.xe s
theorem PW.pt {X : Cx} {e : Expr} {t : TT} (h : PW X e t) : PT X e t := h _
/-- an argument list (no star), from the left -/
def PA (X : Cx) (es : List Expr) (t : TA) : Prop :=
  ∀ (pos : Pos) (pins : List (Addr × Obj)) (s : Shared) (σ : St) (H : Hp) (Q : List V → Hp → Prop), Inv X pins σ H s → t σ H Q → wpAny (model X.prog X.w) X.A (spliced (backTo pos (starEach es X.env))) (AP X pins σ Q) X.xe s
def PS (X : Cx) (st : Stmt) (t : TS) : Prop :=
  ∀ (pins : List (Addr × Obj)) (s : Shared) (σ : St) (H : Hp) (D : Ends), Inv X pins σ H s → t D σ H → wpAny (model X.prog X.w) X.A (exec st X.env) (SP X pins D) X.xe s
def PSs (X : Cx) (st : List Stmt) (t : TS) : Prop :=
  ∀ (pins : List (Addr × Obj)) (s : Shared) (σ : St) (H : Hp) (D : Ends), Inv X pins σ H s → t D σ H → wpAny (model X.prog X.w) X.A (execs st X.env) (SP X pins D) X.xe s
/-- weaken the end -/
theorem thn {α : Type} {t : Sem α} {Q Q' : α → Shared → Prop} {M : Model} {A : Around} {E : Value → Shared → Prop} {s : Shared} (h : wpAny M A t Q E s) (hQ : ∀ a s, Q a s → Q' a s) : wpAny M A t Q' E s := wpAny_mono h hQ fun _ _ x => x
end L2

namespace L2
open PySem PySem.Spec PyProof.Rows
section
variable {X : Cx}

/-- two expressions in a row -/
theorem bin {a b : Expr} {ta tb : TE} (ha : PE X a ta) (hb : PE X b tb) {pins : List (Addr × Obj)} {s : Shared} {σ : St} {H : Hp} {R : V → V → Hp → Prop} (I : Inv X pins σ H s) (h : ta σ H fun x H1 => tb σ H1 fun y H2 => R x y H2)
    {α : Type} {Q : α → Shared → Prop} {f : Value → Value → Sem α}
    (hf : ∀ v u s2 x y H2, Inv X pins σ H2 s2 → RelV x v → RelV y u → R x y H2 → wpAny (model X.prog X.w) X.A (f v u) Q X.xe s2) :
    wpAny (model X.prog X.w) X.A (eval a X.env) (fun v s₁ => wpAny (model X.prog X.w) X.A (eval b X.env) (fun u s₂ => wpAny (model X.prog X.w) X.A (f v u) Q X.xe s₂) X.xe s₁) X.xe s := by
  refine thn (ha pins s σ H _ I h) fun v s1 ⟨x, H1, I1, r1, q1⟩ => ?_
  refine thn (hb pins s1 σ H1 _ I1 q1) fun u s2 ⟨y, H2, I2, r2, q2⟩ => ?_
  exact hf v u s2 x y H2 I2 r1 r2 q2

/-! ### names and constants -/
def tVar (i : Nat) : TE := fun σ H Q => ∃ v, σ[i]? = some (some v) ∧ Q v H
def tC (v : V) : TE := fun _ H Q => Q v H
theorem pe_var {i : Nat} {x : Str} {pos : Pos} (hN : X.N[i]? = some x) (hv : Vis X.env.scope x) (hd : (x == ("__debug__" : Str)) = false := by decide) (hcd : (x == ("__classdict__" : Str)) = false := by decide) : PE X (.Name x pos) (tVar i) := by
  intro pins s σ H Q I h
  obtain ⟨v, e, h⟩ := h
  obtain ⟨m, hn, hl⟩ := I.loc
  obtain ⟨u, r, l⟩ := hl i x v hN e hv
  have fin : EP X pins σ Q u s := ⟨v, H, I, r, h⟩
  rcases l with ⟨hk, hm⟩ | ⟨hk, c, hc, hcell⟩
  · exact wpAny_Name (wpAny_loadName_local I.ok.kind hk hn hm fin) hd
  · rcases hk with hk | hk
    · exact wpAny_Name (wpAny_loadName_cell I.ok.kind hk hc hcell fin) hd
    · exact wpAny_Name (wpAny_loadName_free I.ok.kind hk hc hcell fin hcd) hd
theorem pe_int {i j pos} : PE X (.Constant (.int i) j pos) (tC (.int i)) := fun _ _ _ H _ I h => wpAny_Constant_int ⟨.int i, H, I.tok _, ⟨_, rfl⟩, h⟩
theorem pe_bl {b j pos} : PE X (.Constant (.bool b) j pos) (tC (.bl b)) := fun _ _ _ H _ I h => Constant_bool ⟨.bl b, H, I, rfl, h⟩
theorem pe_non {j pos} : PE X (.Constant .none j pos) (tC .non) := fun _ _ _ H _ I h => Constant_none ⟨.non, H, I, rfl, h⟩
theorem pe_str {x j pos} : PE X (.Constant (.str x) j pos) (tC (.str x)) := fun _ _ _ H _ I h => Calls.Constant_str ⟨.str x, H, I.tok _, ⟨_, rfl⟩, h⟩

/-- a global name of the def -/
def Gl (X : Cx) (x : Str) : Prop := X.env.kindOf x = some .globalImplicit
theorem ld_glob {E : Value → Shared → Prop} {pins : List (Addr × Obj)} {s : Shared} {σ : St} {H : Hp} {x : Str} {u : Value} {pos : Pos} {Q : Value → Shared → Prop} (I : Inv X pins σ H s) (hg : Gl X x) (hm : X.mg x = some u) (h : Q u s)
    (hd : (x == ("__debug__" : Str)) = false := by decide) : wpAny (model X.prog X.w) X.A (eval (.Name x pos) X.env) Q E s :=
  Calls.Name_function_global I.ok.kind hg (Calls.loadGlobal_global (by rw [I.ok.glob]; exact I.mod.glob.keeps I.bk) hm h) hd
theorem ld_blt {E : Value → Shared → Prop} {pins : List (Addr × Obj)} {s : Shared} {σ : St} {H : Hp} {x : Str} {u : Value} {pos : Pos} {Q : Value → Shared → Prop} (I : Inv X pins σ H s) (hg : Gl X x) (hm : X.mg x = none) (hv : bootBuiltins x = some u) (h : Q u s)
    (hn : x ≠ "__name__" := by decide) (hd : (x == ("__debug__" : Str)) = false := by decide) : wpAny (model X.prog X.w) X.A (eval (.Name x pos) X.env) Q E s := by
  obtain ⟨mb, h1, h2⟩ := I.mod.blt
  exact Calls.Name_function_global I.ok.kind hg (Calls.loadGlobal_builtin (by rw [I.ok.glob]; exact I.mod.glob.keeps I.bk) hm (by rw [I.ok.blt]; exact h1.keeps I.bk) ((h2 x hn).trans hv) h) hd
/-- a module's constant, a class, a function, as a value -/
theorem pe_glob {x : Str} {v : V} {u : Value} {pos : Pos} (hg : Gl X x) (hm : X.mg x = some u) (r : RelV v u) (hd : (x == ("__debug__" : Str)) = false := by decide) : PE X (.Name x pos) (tC v) :=
  fun _ _ _ H _ I h => ld_glob I hg hm ⟨v, H, I, r, h⟩ hd
theorem pe_bltn {x : Str} {v : V} {u : Value} {pos : Pos} (hg : Gl X x) (hm : X.mg x = none) (hv : bootBuiltins x = some u) (r : RelV v u) (hn : x ≠ "__name__" := by decide) (hd : (x == ("__debug__" : Str)) = false := by decide) : PE X (.Name x pos) (tC v) :=
  fun _ _ _ H _ I h => ld_blt I hg hm hv ⟨v, H, I, r, h⟩ hn hd

/-! ### arithmetic -/
/-- two ints -/
def t2I (ta tb : TE) (k : Int → Int → Hp → Prop) : St → Hp → Prop := fun σ H => ta σ H fun x H1 => tb σ H1 fun y H2 => ∃ i j, x = .int i ∧ y = .int j ∧ k i j H2
def tAdd (ta tb : TE) : TE := fun σ H Q => t2I ta tb (fun i j H2 => Q (.int (i + j)) H2) σ H
def tSub (ta tb : TE) : TE := fun σ H Q => t2I ta tb (fun i j H2 => Q (.int (i - j)) H2) σ H
/-- the left factor below 2^64 -/
def tMul (ta tb : TE) : TE := fun σ H Q => t2I ta tb (fun i j H2 => (-(2 ^ 64) < i ∧ i < 2 ^ 64) ∧ Q (.int (i * j)) H2) σ H
variable {a b : Expr} {ta tb : TE} {pos : Pos}
theorem pe_add (ha : PE X a ta) (hb : PE X b tb) : PE X (.BinOp a .Add b pos) (tAdd ta tb) := by
  intro pins s σ H Q I h
  refine wpAny_BinOp (bin ha hb I h fun v u s2 x y H2 I2 rx ry q => ?_)
  obtain ⟨i, j, rfl, rfl, q⟩ := q
  obtain ⟨t, rfl⟩ := rx
  obtain ⟨t', rfl⟩ := ry
  exact add_int ⟨.int _, H2, I2.tok _, ⟨_, rfl⟩, q⟩
theorem pe_sub (ha : PE X a ta) (hb : PE X b tb) : PE X (.BinOp a .Sub b pos) (tSub ta tb) := by
  intro pins s σ H Q I h
  refine wpAny_BinOp (bin ha hb I h fun v u s2 x y H2 I2 rx ry q => ?_)
  obtain ⟨i, j, rfl, rfl, q⟩ := q
  obtain ⟨t, rfl⟩ := rx
  obtain ⟨t', rfl⟩ := ry
  exact sub_int ⟨.int _, H2, I2.tok _, ⟨_, rfl⟩, q⟩
theorem pe_mul (ha : PE X a ta) (hb : PE X b tb) : PE X (.BinOp a .Mult b pos) (tMul ta tb) := by
  intro pins s σ H Q I h
  refine wpAny_BinOp (bin ha hb I h fun v u s2 x y H2 I2 rx ry q => ?_)
  obtain ⟨i, j, rfl, rfl, ⟨q1, q2⟩, q⟩ := q
  obtain ⟨t, rfl⟩ := rx
  obtain ⟨t', rfl⟩ := ry
  exact mul_int ⟨.int _, H2, I2.tok _, ⟨_, rfl⟩, q⟩ (.of_left (intBits_le_64 q1 q2))

/-! ### comparisons -/
def PC (X : Cx) (op : CmpOp) (a b : Expr) (t : TE) : Prop :=
  ∀ (pins : List (Addr × Obj)) (s : Shared) (σ : St) (H : Hp) (Q : VK), Inv X pins σ H s → t σ H Q →
    wpAny (model X.prog X.w) X.A (eval a X.env) (fun v s₁ => wpAny (model X.prog X.w) X.A (eval b X.env) (fun u s₂ => wpAny (model X.prog X.w) X.A (compareOp op v u) (EP X pins σ Q) X.xe s₂) X.xe s₁) X.xe s
theorem nobehind (b : Expr) {op : CmpOp} (h : op ≠ .In) (h2 : op ≠ .NotIn) : behindInMarks op b = false := by
  have e1 : (op == CmpOp.In) = false := by cases op <;> first | rfl | exact absurd rfl h
  have e2 : (op == CmpOp.NotIn) = false := by cases op <;> first | rfl | exact absurd rfl h2
  cases b <;> simp [behindInMarks, e1, e2]
def tCmp (p : Int → Int → Bool) (ta tb : TE) : TE := fun σ H Q => t2I ta tb (fun i j H2 => Q (.bl (p i j)) H2) σ H
abbrev tLt : TE → TE → TE := tCmp fun i j => decide (i < j)
abbrev tLe : TE → TE → TE := tCmp fun i j => decide (i ≤ j)
abbrev tGt : TE → TE → TE := tCmp fun i j => decide (j < i)
abbrev tGe : TE → TE → TE := tCmp fun i j => decide (j ≤ i)
abbrev tEqI : TE → TE → TE := tCmp fun i j => decide (i = j)
abbrev tNeI : TE → TE → TE := tCmp fun i j => !decide (i = j)
/-- a comparison of two ints, by its rule -/
theorem pc_int {op : CmpOp} {p : Int → Int → Bool} (ha : PE X a ta) (hb : PE X b tb)
    (rule : ∀ (i j : Int) (t u : Tok) (Q : Value → Shared → Prop) (s : Shared), Q (.bool (p i j)) s → wpAny (model X.prog X.w) X.A (compareOp op (.int i t) (.int j u)) Q X.xe s) : PC X op a b (tCmp p ta tb) := by
  intro pins s σ H Q I h
  refine bin ha hb I h fun v u s2 x y H2 I2 rx ry q => ?_
  obtain ⟨i, j, rfl, rfl, q⟩ := q
  obtain ⟨t, rfl⟩ := rx
  obtain ⟨t', rfl⟩ := ry
  exact rule i j t t' _ s2 ⟨.bl _, H2, I2, rfl, q⟩
theorem pc_lt (ha : PE X a ta) (hb : PE X b tb) : PC X .Lt a b (tLt ta tb) := pc_int ha hb fun _ _ _ _ _ _ h => lt_int h
theorem pc_le (ha : PE X a ta) (hb : PE X b tb) : PC X .LtE a b (tLe ta tb) := pc_int ha hb fun _ _ _ _ _ _ h => le_int h
theorem pc_gt (ha : PE X a ta) (hb : PE X b tb) : PC X .Gt a b (tGt ta tb) := pc_int ha hb fun _ _ _ _ _ _ h => gt_int h
theorem pc_ge (ha : PE X a ta) (hb : PE X b tb) : PC X .GtE a b (tGe ta tb) := pc_int ha hb fun _ _ _ _ _ _ h => ge_int h
theorem pc_eqI (ha : PE X a ta) (hb : PE X b tb) : PC X .Eq a b (tEqI ta tb) := pc_int ha hb fun _ _ _ _ _ _ h => eq_int (by rw [Bool.beq_eq_decide_eq]; exact h)
theorem pc_neI (ha : PE X a ta) (hb : PE X b tb) : PC X .NotEq a b (tNeI ta tb) := pc_int ha hb fun _ _ _ _ _ _ h => ne_int (by rw [bne, Bool.beq_eq_decide_eq]; exact h)
/-- is None -/
def tIsN (ta : TE) : TE := fun σ H Q => ta σ H fun x H1 => Q (.bl (decide (x = .non))) H1
def tNotN (ta : TE) : TE := fun σ H Q => ta σ H fun x H1 => Q (.bl (!decide (x = .non))) H1
theorem RelV.none_iff {x : V} {v : Value} (r : RelV x v) : (v == Value.none) = decide (x = .non) := by
  cases x with
  | non => cases r; rfl
  | bl _ => cases r; rfl
  | int _ => obtain ⟨t, rfl⟩ := r; rfl
  | str _ => obtain ⟨t, rfl⟩ := r; rfl
  | byt _ => obtain ⟨t, rfl⟩ := r; rfl
  | flt _ => obtain ⟨t, rfl⟩ := r; rfl
  | ref _ => cases r; rfl
  | ty _ => cases r; rfl
theorem pc_isN {j pos'} (ha : PE X a ta) : PC X .Is a (.Constant .none j pos') (tIsN ta) := by
  intro pins s σ H Q I h
  refine thn (ha pins s σ H _ I h) fun v s1 ⟨x, H1, I1, r1, q1⟩ => ?_
  exact Constant_none (is_none_gen ⟨.bl _, H1, I1, by rw [r1.none_iff]; rfl, q1⟩)
theorem pc_notN {j pos'} (ha : PE X a ta) : PC X .IsNot a (.Constant .none j pos') (tNotN ta) := by
  intro pins s σ H Q I h
  refine thn (ha pins s σ H _ I h) fun v s1 ⟨x, H1, I1, r1, q1⟩ => ?_
  exact Constant_none (isnot_none_gen ⟨.bl _, H1, I1, by rw [r1.none_iff]; rfl, q1⟩)
/-- a comparison as a value, as a test -/
def tB (t : TE) : TT := fun σ H Q => t σ H fun x H1 => ∃ c, x = .bl c ∧ Q c H1
theorem pe_cmp {op : CmpOp} {t : TE} (h : PC X op a b t) (h1 : behindInMarks op b = false := by first | exact nobehind _ (by decide) (by decide) | rfl) : PE X (.Compare a [op] [b] pos) t := fun pins s σ H Q I hw => wpAny_Compare1 (h pins s σ H Q I hw) h1
theorem pt_cmp {op : CmpOp} {t : TE} (h : PC X op a b t) (h1 : behindInMarks op b = false := by first | exact nobehind _ (by decide) (by decide) | rfl) : PT X (.Compare a [op] [b] pos) (tB t) := by
  intro pins s σ H Q I hw
  refine wpAny_isTrue_Compare1 (thn (h pins s σ H _ I hw) fun v s1 h1 => thn h1 fun u s2 h2 => thn h2 fun c s3 ⟨x, H1, I1, r1, q1⟩ => ?_) h1
  obtain ⟨d, rfl, q⟩ := q1
  cases r1
  exact wpAny_truthy_bool ⟨H1, I1, q⟩
/-- an expression whose value is a bool, as a test -/
theorem pt_val {e : Expr} {t : TE} (h : PE X e t) (he : ∀ whole, isTrue e X.env whole = (do let v ← whole; standAt e.pos; holding [v] (truthy v)) := by intro _; rfl) : PT X e (tB t) := by
  intro pins s σ H Q I hw
  refine isTrue_plain (thn (h pins s σ H _ I hw) fun v s1 ⟨x, H1, I1, r1, q1⟩ => ?_) (he _)
  obtain ⟨d, rfl, q⟩ := q1
  cases r1
  exact wpAny_truthy_bool ⟨H1, I1, q⟩

/-! ### and, or, not -/
variable {tA tB' : TT} {rest : List Expr}
def tAnd (t u : TT) : TT := fun σ H Q => t σ H fun c H1 => if c = true then u σ H1 Q else Q false H1
def tOr (t u : TT) : TT := fun σ H Q => t σ H fun c H1 => if c = true then Q true H1 else u σ H1 Q
def tNot (t : TT) : TT := fun σ H Q => t σ H fun c H1 => Q (!c) H1
theorem pw_and1 (ha : PT X a tA) : PW X (.BoolOp .And [a] pos) tA := by
  intro wh pins s σ H Q I h
  refine isTrue_and (thn (ha pins s σ H Q I h) fun c s1 e => ?_)
  cases c with
  | true => exact isTrue_and_nil e
  | false => exact e
theorem pw_or1 (ha : PT X a tA) : PW X (.BoolOp .Or [a] pos) tA := by
  intro wh pins s σ H Q I h
  refine isTrue_or (thn (ha pins s σ H Q I h) fun c s1 e => ?_)
  cases c with
  | false => exact isTrue_or_nil e
  | true => exact e
theorem pw_and (ha : PT X a tA) (hb : PW X (.BoolOp .And (b :: rest) pos) tB') : PW X (.BoolOp .And (a :: b :: rest) pos) (tAnd tA tB') := by
  intro wh pins s σ H Q I h
  refine isTrue_and (thn (ha pins s σ H _ I h) fun c s1 ⟨H1, I1, q1⟩ => ?_)
  cases c with
  | true => exact hb wh pins s1 σ H1 Q I1 q1
  | false => exact ⟨H1, I1, q1⟩
theorem pw_or (ha : PT X a tA) (hb : PW X (.BoolOp .Or (b :: rest) pos) tB') : PW X (.BoolOp .Or (a :: b :: rest) pos) (tOr tA tB') := by
  intro wh pins s σ H Q I h
  refine isTrue_or (thn (ha pins s σ H _ I h) fun c s1 ⟨H1, I1, q1⟩ => ?_)
  cases c with
  | true => exact ⟨H1, I1, q1⟩
  | false => exact hb wh pins s1 σ H1 Q I1 q1
theorem pt_not (ha : PT X a tA) : PT X (.UnaryOp .Not a pos) (tNot tA) := by
  intro pins s σ H Q I h
  exact isTrue_not (ha pins s σ H (fun c H1 => Q (!c) H1) I h)
/-- .. as values (bools) -/
def tAndV (ta tb : TE) : TE := fun σ H Q => ta σ H fun x H1 => ∃ c, x = .bl c ∧ if c = true then tb σ H1 Q else Q (.bl false) H1
def tOrV (ta tb : TE) : TE := fun σ H Q => ta σ H fun x H1 => ∃ c, x = .bl c ∧ if c = true then Q (.bl true) H1 else tb σ H1 Q
def tNotV (ta : TE) : TE := fun σ H Q => ta σ H fun x H1 => ∃ c, x = .bl c ∧ Q (.bl (!c)) H1
theorem pe_one {op} {t : TE} (h : PE X a t) : PE X (.BoolOp op [a] pos) t := fun pins s σ H Q I hw => BoolOp_one (h pins s σ H Q I hw)
theorem pe_and (ha : PE X a ta) (hb : PE X (.BoolOp .And (b :: rest) pos) tb) : PE X (.BoolOp .And (a :: b :: rest) pos) (tAndV ta tb) := by
  intro pins s σ H Q I h
  refine BoolOp_and (thn (ha pins s σ H _ I h) fun v s1 ⟨x, H1, I1, r1, q1⟩ => ?_)
  obtain ⟨c, rfl, q1⟩ := q1
  cases r1
  refine wpAny_truthy_bool ?_
  cases c with
  | true => exact hb pins s1 σ H1 Q I1 q1
  | false => exact ⟨.bl false, H1, I1, rfl, q1⟩
theorem pe_or (ha : PE X a ta) (hb : PE X (.BoolOp .Or (b :: rest) pos) tb) : PE X (.BoolOp .Or (a :: b :: rest) pos) (tOrV ta tb) := by
  intro pins s σ H Q I h
  refine BoolOp_or (thn (ha pins s σ H _ I h) fun v s1 ⟨x, H1, I1, r1, q1⟩ => ?_)
  obtain ⟨c, rfl, q1⟩ := q1
  cases r1
  refine wpAny_truthy_bool ?_
  cases c with
  | false => exact hb pins s1 σ H1 Q I1 q1
  | true => exact ⟨.bl true, H1, I1, rfl, q1⟩
theorem pe_not (ha : PE X a ta) : PE X (.UnaryOp .Not a pos) (tNotV ta) := by
  intro pins s σ H Q I h
  refine UnaryOp_ (thn (ha pins s σ H _ I h) fun v s1 ⟨x, H1, I1, r1, q1⟩ => ?_)
  obtain ⟨c, rfl, q1⟩ := q1
  cases r1
  exact not_of (wpAny_truthy_bool ⟨.bl (!c), H1, I1, rfl, q1⟩)
/-- a if t else b -/
def tIf (t : TT) (ta tb : TE) : TE := fun σ H Q => t σ H fun c H1 => if c = true then ta σ H1 Q else tb σ H1 Q
theorem pe_ifExp {c : Expr} (hc : PT X c tA) (ha : PE X a ta) (hb : PE X b tb) : PE X (.IfExp c a b pos) (tIf tA ta tb) := by
  intro pins s σ H Q I h
  refine wpAny_IfExp (thn (hc pins s σ H _ I h) fun d s1 ⟨H1, I1, q1⟩ => ?_)
  cases d with
  | true => exact ha pins s1 σ H1 Q I1 q1
  | false => exact hb pins s1 σ H1 Q I1 q1
end
end L2

namespace L2
open PySem PySem.Spec PyProof.Rows

/-! ### a list, a tuple that is read: tracked, frozen, or an object of the module -/
def SqL (K : PySem.W.Frag) (H : Hp) (a : Addr) (xs : List V) : Prop :=
  Rd H a (.lst xs) ∨
    ∃ (o : Obj) (its : Array Value) (n : Nat), K.lookup a = some o ∧ o.cls = .type "list" ∧ o.dict = none ∧ o.data = .seq its n ∧ its.size ≤ sizeLine ∧ Vals xs its.toList
def SqT (K : PySem.W.Frag) (H : Hp) (a : Addr) (xs : List V) : Prop :=
  Rd H a (.tup xs) ∨
    ∃ (o : Obj) (its : Array Value) (n : Nat), K.lookup a = some o ∧ o.cls = .type "tuple" ∧ o.data = .seq its n ∧ its.size ≤ sizeLine ∧ Vals xs its.toList
def absV : Value → Option V
  | .none => some .non
  | .bool b => some (.bl b)
  | .int i _ => some (.int i)
  | .str x _ => some (.str x)
  | .bytes b _ => some (.byt b)
  | .float b _ => some (.flt b)
  | .ref a => some (.ref a)
  | .type n => some (.ty n)
  | _ => none
theorem RelV.abs {x : V} {u : Value} (r : RelV x u) : absV u = some x := by
  cases x with
  | non => cases r; rfl
  | bl _ => cases r; rfl
  | int _ => obtain ⟨t, rfl⟩ := r; rfl
  | str _ => obtain ⟨t, rfl⟩ := r; rfl
  | byt _ => obtain ⟨t, rfl⟩ := r; rfl
  | flt _ => obtain ⟨t, rfl⟩ := r; rfl
  | ref _ => cases r; rfl
  | ty _ => cases r; rfl
theorem RelV.inj {x y : V} {u : Value} (r : RelV x u) (q : RelV y u) : x = y := Option.some.inj (r.abs.symm.trans q.abs)
theorem Vals.inj : ∀ {xs ys : List V} {us : List Value}, Vals xs us → Vals ys us → xs = ys
  | _, _, _, .nil, .nil => rfl
  | _, _, _, .cons r t, .cons r' t' => by rw [r.inj r', Vals.inj t t']
section
variable {X : Cx} {pins : List (Addr × Obj)} {σ : St} {H : Hp} {s : Shared} {a : Addr} {xs ys : List V}
theorem SqL.of {K : PySem.W.Frag} (h : H a = some (.lst xs)) : SqL K H a xs := .inl (.inl h)
theorem SqT.of {K : PySem.W.Frag} (h : H a = some (.tup xs)) : SqT K H a xs := .inl (.inl h)
theorem Inv.list (I : Inv X pins σ H s) (h : SqL X.K H a xs) : ∃ its : List Value, Vals xs its ∧ PlainL s.heap a its.toArray ∧ xs.length ≤ sizeLine := by
  rcases h with h | ⟨o, its, n, hk, hc, hd, hs, hz, r⟩
  · obtain ⟨z, its, n, r, e⟩ := h.ok I.hok
    exact ⟨its, r, ⟨_, n, e, rfl, rfl, rfl⟩, z⟩
  · refine ⟨its.toList, r, ⟨o, n, I.kIn a o hk, hc, hd, by simpa using hs⟩, ?_⟩
    have e := r.length
    simp only [Array.length_toList] at e
    omega
theorem Inv.tuple (I : Inv X pins σ H s) (h : SqT X.K H a xs) : ∃ its : List Value, Vals xs its ∧ IsTup s.heap a its.toArray ∧ xs.length ≤ sizeLine := by
  rcases h with h | ⟨o, its, n, hk, hc, hs, hz, r⟩
  · obtain ⟨z, its, r, p⟩ := h.ok I.hok
    exact ⟨its, r, p, z⟩
  · refine ⟨its.toList, r, ⟨o, I.kIn a o hk, hc, n, by simpa using hs⟩, ?_⟩
    have e := r.length
    simp only [Array.length_toList] at e
    omega
theorem Inv.list_inj (I : Inv X pins σ H s) (h : SqL X.K H a xs) (h' : SqL X.K H a ys) : xs = ys := by
  obtain ⟨its, r, ⟨o, n, e, _, _, d⟩, _⟩ := I.list h
  obtain ⟨its', r', ⟨o', n', e', _, _, d'⟩, _⟩ := I.list h'
  rw [e] at e'; cases e'
  rw [d] at d'
  injection d' with d1 _
  have : its = its' := by simpa using congrArg Array.toList d1
  subst this
  exact r.inj r'
theorem Inv.tuple_inj (I : Inv X pins σ H s) (h : SqT X.K H a xs) (h' : SqT X.K H a ys) : xs = ys := by
  obtain ⟨its, r, ⟨o, e, _, n, d⟩, _⟩ := I.tuple h
  obtain ⟨its', r', ⟨o', e', _, n', d'⟩, _⟩ := I.tuple h'
  rw [e] at e'; cases e'
  rw [d] at d'
  injection d' with d1 _
  have : its = its' := by simpa using congrArg Array.toList d1
  subst this
  exact r.inj r'
end

/-! ### another wish about exceptions -/
abbrev Cx.wish (X : Cx) (E : Value → Shared → Prop) : Cx := { X with xe := E }
/-- no exception leaves -/
abbrev Cx.nox (X : Cx) : Cx := X.wish fun _ _ => False
theorem Cx.Ok.wish {X : Cx} (ok : X.Ok) (E : Value → Shared → Prop) : (X.wish E).Ok :=
  ⟨ok.mod, ok.kind, ok.glob, ok.blt, ok.above, ok.inj, ok.has, ok.cab, ok.hd, ok.frames, ok.stk, ok.exf, ok.bs, ok.bsz, ok.noex, ok.exfs, ok.funs, ok.frf⟩
theorem Cx.Ok.unwish {X : Cx} {E : Value → Shared → Prop} (ok : (X.wish E).Ok) : X.Ok :=
  ⟨ok.mod, ok.kind, ok.glob, ok.blt, ok.above, ok.inj, ok.has, ok.cab, ok.hd, ok.frames, ok.stk, ok.exf, ok.bs, ok.bsz, ok.noex, ok.exfs, ok.funs, ok.frf⟩
section
variable {X : Cx} {pins : List (Addr × Obj)} {σ : St} {H : Hp} {s : Shared} {E : Value → Shared → Prop}
theorem Inv.wish (I : Inv X pins σ H s) (E : Value → Shared → Prop) : Inv (X.wish E) pins σ H s := ⟨I.ok.wish E, I.os, I.bare, I.base, I.loc, I.cell, I.free, I.freeC, I.pin, I.hok, I.len⟩
theorem Inv.unwish (I : Inv (X.wish E) pins σ H s) : Inv X pins σ H s := ⟨I.ok.unwish, I.os, I.bare, I.base, I.loc, I.cell, I.free, I.freeC, I.pin, I.hok, I.len⟩
theorem SP.unwish {D : Ends} {f : Flow} {s' : Shared} (h : SP (X.wish E) pins D f s') : SP X pins D f s' := by
  cases f with
  | next => obtain ⟨σ', H', I, q⟩ := h; exact ⟨σ', H', I.unwish, q⟩
  | brk => obtain ⟨σ', H', I, q⟩ := h; exact ⟨σ', H', I.unwish, q⟩
  | cont => obtain ⟨σ', H', I, q⟩ := h; exact ⟨σ', H', I.unwish, q⟩
  | ret u => obtain ⟨v, σ', H', I, r, q⟩ := h; exact ⟨v, σ', H', I.unwish, r, q⟩
theorem PE.nox {e : Expr} {t : TE} (h : PE X.nox e t) : PE X e t := fun pins s σ H Q I hw =>
  wpAny_mono (h pins s σ H Q (I.wish _) hw) (fun _ _ ⟨v, H', I', r, q⟩ => ⟨v, H', I'.unwish, r, q⟩) fun _ _ z => False.elim z
theorem PT.nox {e : Expr} {t : TT} (h : PT X.nox e t) : PT X e t := fun pins s σ H Q I hw =>
  wpAny_mono (h pins s σ H Q (I.wish _) hw) (fun _ _ ⟨H', I', q⟩ => ⟨H', I'.unwish, q⟩) fun _ _ z => False.elim z
theorem PSs.nox {st : List Stmt} {t : TS} (h : PSs X.nox st t) : PSs X st t := fun pins s σ H D I hw =>
  wpAny_mono (h pins s σ H D (I.wish _) hw) (fun _ _ q => q.unwish) fun _ _ z => False.elim z
end

/-! ### blocks and small statements -/
section
variable {X : Cx} {st : Stmt} {rest : List Stmt} {t u : TS} {e : Expr} {te : TE} {pos : Pos}
def tNext : TS := fun D σ H => D.nx σ H
def tSeq (t u : TS) : TS := fun D σ H => t { D with nx := u D } σ H
theorem pss_nil : PSs X [] tNext := fun _ _ σ H _ I h => wpAny_execs_nil ⟨σ, H, I, h⟩
theorem pss_cons (h1 : PS X st t) (h2 : PSs X rest u) : PSs X (st :: rest) (tSeq t u) := by
  intro pins s σ H D I h
  refine wpAny_execs_cons (thn (h1 pins s σ H { D with nx := u D } I h) fun f s1 q => ?_)
  cases f with
  | next =>
    obtain ⟨σ', H', I', q⟩ := q
    exact h2 pins s1 σ' H' D I' q
  | ret v => exact q
  | brk => exact q
  | cont => exact q
theorem pss_one (h1 : PS X st t) : PSs X [st] t := by
  intro pins s σ H D I h
  refine wpAny_execs_cons (thn (h1 pins s σ H D I h) fun f s1 q => ?_)
  cases f with
  | next => exact wpAny_execs_nil q
  | ret v => exact q
  | brk => exact q
  | cont => exact q
def tBreak : TS := fun D σ H => D.bk σ H
def tCont : TS := fun D σ H => D.ct σ H
theorem ps_pass : PS X (.Pass pos) tNext := fun _ _ σ H _ I h => wpAny_Pass ⟨σ, H, I, h⟩
theorem ps_break : PS X (.Break pos) tBreak := fun _ _ σ H _ I h => wpAny_Break ⟨σ, H, I, h⟩
theorem ps_continue : PS X (.Continue pos) tCont := fun _ _ σ H _ I h => wpAny_Continue ⟨σ, H, I, h⟩
/-- in a def's body nothing is shown -/
theorem Inv.quiet {pins : List (Addr × Obj)} {σ : St} {H : Hp} {s : Shared} (I : Inv X pins σ H s) : interactive X.env = false := by simp [interactive, I.ok.kind]
/-- a docstring -/
theorem ps_doc {x j pos pos'} : PS X (.Expr (.Constant (.str x) j pos) pos') tNext := fun _ s σ H _ I h => wpAny_Expr (Calls.Constant_str (show SP X _ _ .next { s with toks := s.toks + 1 } from ⟨σ, H, I.tok _, h⟩)) I.quiet
/-- an expression whose value is dropped -/
def tDrop (te : TE) : TS := fun D σ H => te σ H fun _ H1 => D.nx σ H1
theorem ps_expr (he : PE X e te) (hs : swapsWith e none pos.line X.env = pure false := by rfl) : PS X (.Expr e pos) (tDrop te) := by
  intro pins s σ H D I h
  exact wpAny_Expr_any (thn (he pins s σ H _ I h) fun v s1 ⟨x, H1, I1, r1, q1⟩ => ⟨σ, H1, I1, q1⟩) I.quiet hs
def tRet (te : TE) : TS := fun D σ H => te σ H D.rt
theorem ps_ret (he : PE X e te) : PS X (.Return (some e) pos) (tRet te) := by
  intro pins s σ H D I h
  exact wpAny_Return_some (thn (he pins s σ H _ I h) fun v s1 ⟨x, H1, I1, r1, q1⟩ => ⟨x, σ, H1, I1, r1, q1⟩)
def tRetN : TS := fun D _ H => D.rt .non H
theorem ps_retN : PS X (.Return none pos) tRetN := fun _ _ σ H _ I h => wpAny_Return_none ⟨.non, σ, H, I, rfl, h⟩
def tIfS (c : TT) (t u : TS) : TS := fun D σ H => c σ H fun b H1 => if b = true then t D σ H1 else u D σ H1
theorem ps_if {c : Expr} {a b : List Stmt} {tc : TT} (hc : PT X c tc) (ha : PSs X a t) (hb : PSs X b u) : PS X (.If c a b pos) (tIfS tc t u) := by
  intro pins s σ H D I h
  refine wpAny_If (thn (hc pins s σ H _ I h) fun d s1 ⟨H1, I1, q1⟩ => ?_)
  cases d with
  | true => exact ha pins s1 σ H1 D I1 q1
  | false => exact hb pins s1 σ H1 D I1 q1
/-- code that the proof never comes to -/
def tNever : TS := fun _ _ _ => False
theorem ps_never : PS X st tNever := fun _ _ _ _ _ _ h => h.elim
theorem pss_never {sts : List Stmt} : PSs X sts tNever := fun _ _ _ _ _ _ h => h.elim
end

/-! ### targets -/
abbrev TG := V → St → Hp → (St → Hp → Prop) → Prop
abbrev TGs := List V → St → Hp → (St → Hp → Prop) → Prop
def PG (X : Cx) (target : Expr) (t : TG) : Prop :=
  ∀ (pins : List (Addr × Obj)) (s : Shared) (σ : St) (H : Hp) (v : V) (u : Value) (Q : St → Hp → Prop), Inv X pins σ H s → RelV v u → t v σ H Q →
    wpAny (model X.prog X.w) X.A (assign target X.env u) (fun _ s' => ∃ σ' H', Inv X pins σ' H' s' ∧ Q σ' H') X.xe s
/-- several targets, one after another -/
def PGs (X : Cx) (ts : List Expr) (t : TGs) : Prop :=
  ∀ (pins : List (Addr × Obj)) (s : Shared) (σ : St) (H : Hp) (vs : List V) (us : List Value) (Q : St → Hp → Prop), Inv X pins σ H s → Vals vs us → t vs σ H Q →
    wpAny (model X.prog X.w) X.A (assignInOrder ((assignEach ts X.env).map (·.2)) us) (fun _ s' => ∃ σ' H', Inv X pins σ' H' s' ∧ Q σ' H') X.xe s
/-- o[i] = v, by values -/
abbrev TSet := V → V → V → Hp → (Hp → Prop) → Prop
def PSet (X : Cx) (t : TSet) : Prop :=
  ∀ (pins : List (Addr × Obj)) (s : Shared) (σ : St) (H : Hp) (o i v : V) (ov iv u : Value) (Q : Hp → Prop), Inv X pins σ H s → RelV o ov → RelV i iv → RelV v u → t o i v H Q →
    wpAny (model X.prog X.w) X.A (setItem ov iv u) (fun _ s' => ∃ H', Inv X pins σ H' s' ∧ Q H') X.xe s
/-- a op= b, by values -/
abbrev TIp := V → V → Hp → VK → Prop
def PIp (X : Cx) (op : Operator) (t : TIp) : Prop :=
  ∀ (pins : List (Addr × Obj)) (s : Shared) (σ : St) (H : Hp) (x y : V) (v u : Value) (Q : VK), Inv X pins σ H s → RelV x v → RelV y u → t x y H Q →
    wpAny (model X.prog X.w) X.A (inplaceOp op v u) (EP X pins σ Q) X.xe s
section
variable {X : Cx} {pos : Pos}
def gName (i : Nat) : TG := fun v σ H Q => Q (σ.set i (some v)) H
theorem pg_name {i : Nat} {x : Str} (hN : X.N.Nodup) (hi : X.N[i]? = some x) (hx : Loc X.env.scope x) (hf : X.fn x = true ∨ X.env.scope.names.lookup x = some .local := by first | exact .inl rfl | exact .inr rfl | assumption) : PG X (.Name x pos) (gName i) := by
  intro pins s σ H v u Q I r h
  exact wpAny_assign_Name (store_ok I hN hi hx r (fun s' I' => ⟨_, H, I', h⟩) hf)
def gNil : TGs := fun vs σ H Q => vs = [] ∧ Q σ H
def gCons (t : TG) (u : TGs) : TGs := fun vs σ H Q => ∃ v r, vs = v :: r ∧ t v σ H fun σ' H' => u r σ' H' Q
theorem pgs_nil : PGs X [] gNil := by
  intro pins s σ H vs us Q I r h
  obtain ⟨e, h⟩ := h
  subst e
  cases r
  exact assignInOrder_nil ⟨σ, H, I, h⟩
theorem pgs_cons {e : Expr} {es : List Expr} {t : TG} {u : TGs} (h1 : PG X e t) (h2 : PGs X es u)
    (hs : (assignEach (e :: es) X.env).map (·.2) = assign e X.env :: (assignEach es X.env).map (·.2) := by rfl) : PGs X (e :: es) (gCons t u) := by
  intro pins s σ H vs us Q I r h
  obtain ⟨v, vr, e1, h⟩ := h
  subst e1
  cases r with
  | cons r rr =>
    rw [hs]
    refine assignInOrder_cons (thn (h1 pins s σ H _ _ _ I r h) fun _ s1 ⟨σ1, H1, I1, q1⟩ => ?_)
    exact h2 pins s1 σ1 H1 _ _ Q I1 rr q1
/-- (a, b, ..) = a tuple of that length -/
def gTup (K : PySem.W.Frag) (n : Nat) (t : TGs) : TG := fun v σ H Q => ∃ a xs, v = .ref a ∧ SqT K H a xs ∧ xs.length = n ∧ t xs σ H Q
theorem pg_tup {es : List Expr} {k : Nat} {t : TGs} {n : Nat} (hc : X.calm = true) (h : PGs X es t)
    (hn : (assignEach es X.env).length = n := by rfl) (hst : (assignEach es X.env).findIdx? (·.1) = none := by rfl) : PG X (.Tuple es k pos) (gTup X.K n t) := by
  intro pins s σ H v u Q I r hw
  obtain ⟨a, xs, e1, hq, hl, hw⟩ := hw
  subst e1
  cases r
  obtain ⟨its, rv, ht, hz⟩ := I.tuple hq
  refine assign_Tuple_tuple (I.ok.hd hc) ht (by simp [hn, ← hl, rv.length]) hst fun h' hx => ?_
  have I1 : Inv X pins σ H { s with heap := h' } := I.kept (t' := s.toks) fun b o e => hx b o (Nat.ne_of_lt (Heap.lt_size e)) e
  exact h pins _ σ H xs _ Q I1 (by simpa using rv) hw
/-- o[i] = .. -/
def gSub (to ti : TE) (t : TSet) : TG := fun v σ H Q => to σ H fun o H1 => ti σ H1 fun i H2 => t o i v H2 fun H3 => Q σ H3
theorem pg_sub {o i : Expr} {to ti : TE} {t : TSet} (ho : PE X o to) (hi : PE X i ti) (hs : PSet X t)
    (ha : ∀ v, assign (.Subscript o i pos) X.env v = (do
      let ov ← holding [v] (eval o X.env)
      let iv ← holding [v, ov] (eval i X.env)
      standAt pos
      holding [v, ov, iv] (setItem ov iv v)
      release [v, ov, iv] []) := by intro _; rfl) : PG X (.Subscript o i pos) (gSub to ti t) := by
  intro pins s σ H v u Q I r h
  rw [ha]
  refine wpAny_bind (wpAny_holding (thn (ho pins s σ H _ I h) fun ov s1 ⟨x, H1, I1, r1, q1⟩ => ?_))
  refine wpAny_bind (wpAny_holding (thn (hi pins s1 σ H1 _ I1 q1) fun iv s2 ⟨y, H2, I2, r2, q2⟩ => ?_))
  refine wpAny_bind (wpAny_standAt (wpAny_bind (wpAny_holding (thn (hs pins s2 σ H2 x y v ov iv u _ I2 r1 r2 r q2) fun _ s3 ⟨H3, I3, q3⟩ => ?_))))
  exact wpAny_release ⟨σ, H3, I3, q3⟩
/-- target = value -/
def tAsg (te : TE) (g : TG) : TS := fun D σ H => te σ H fun x H1 => g x σ H1 D.nx
theorem ps_asg {tg e : Expr} {te : TE} {g : TG} (he : PE X e te) (hg : PG X tg g) (hs : swapsWithSole [tg] e pos.line X.env = pure false := by rfl) (hw : swappedStores [tg] e X.env = pure none := by rfl)
    (h1 : (assignEach [tg] X.env).map (·.2) = [assign tg X.env] := by rfl) : PS X (.Assign [tg] e pos) (tAsg te g) := by
  intro pins s σ H D I h
  refine wpAny_Assign_stores (thn (he pins s σ H _ I h) fun v s1 ⟨x, H1, I1, r1, q1⟩ => ?_) hs hw
  rw [h1]
  exact thn (hg pins s1 σ H1 x v _ I1 r1 q1) fun _ s2 q => q
/-- name = value -/
theorem ps_set {i : Nat} {x : Str} {e : Expr} {te : TE} {pos' : Pos} (hN : X.N.Nodup) (hi : X.N[i]? = some x) (hx : Loc X.env.scope x) (he : PE X e te) (hs : swapsWith e (some (.Name x pos')) pos.line X.env = pure false := by rfl) (hf : X.fn x = true ∨ X.env.scope.names.lookup x = some .local := by first | exact .inl rfl | exact .inr rfl | assumption) :
    PS X (.Assign [.Name x pos'] e pos) (tAsg te (gName i)) := by
  intro pins s σ H D I h
  refine wpAny_Assign_Name (thn (he pins s σ H _ I h) fun v s1 ⟨y, H1, I1, r1, q1⟩ => ?_) hs
  exact store_ok I1 hN hi hx r1 (fun s2 I2 => ⟨_, H1, I2, q1⟩) hf
/-- a, b = x, y with plain local names: stored from the right; the pair itself is not tracked (the opening rows as in PyProof/Rows/TupAssign.lean:23) -/
def tPar (i j : Nat) (ta : TA) : TS := fun D σ H => ta σ H fun vs H1 => ∃ v w, vs = [v, w] ∧ D.nx ((σ.set i (some v)).set j (some w)) H1
theorem ps_par {i j : Nat} {x y : Str} {a b : Expr} {ta : TA} {px py pt : Pos} {kt k2 pt2} (hc : X.calm = true) (hN : X.N.Nodup) (hi : X.N[i]? = some x) (hj : X.N[j]? = some y) (hij : i ≠ j)
    (hx : X.env.scope.names.lookup x = some .local) (hy : X.env.scope.names.lookup y = some .local) (ha : PA X [a, b] ta)
    (hw : swappedStores [.Tuple [.Name x px, .Name y py] kt pt] (.Tuple [a, b] k2 pt2) X.env = pure (some [x, y]))
    (hs : swapsWithSole [.Tuple [.Name x px, .Name y py] kt pt] (.Tuple [a, b] k2 pt2) pos.line X.env = pure false := by rfl) :
    PS X (.Assign [.Tuple [.Name x px, .Name y py] kt pt] (.Tuple [a, b] k2 pt2) pos) (tPar i j ta) := by
  intro pins s σ H D I h
  rw [exec_Assign_arm]
  refine wpAny_bind (wpAny_standAt ?_)
  rw [hs]
  refine wpAny_bind (wpAny_pure ?_)
  rw [if_neg (by decide)]
  refine wpAny_bind (Tuple_ (thn (ha _ pins s σ H _ I h) fun us s1 ⟨vs, H1, I1, r1, q1⟩ => ?_))
  obtain ⟨v, w, e1, q1⟩ := q1
  subst e1
  obtain ⟨u1, u2, rfl, rv, rw'⟩ : ∃ u1 u2, us = [u1, u2] ∧ RelV v u1 ∧ RelV w u2 := by
    cases r1 with
    | cons p q =>
      cases q with
      | cons p' q' =>
        cases q'
        exact ⟨_, _, rfl, p, p'⟩
  refine wpAny_newObj_type ?_ (by show 2 ≤ sizeLine; decide)
  have I2 : Inv X pins σ H1 { s1 with heap := s1.heap.push { cls := .type "tuple", data := .seq [u1, u2].toArray } } := I1.kept (t' := s1.toks) fun b o e => Heap.get?_push_of_some _ e
  rw [hw]
  refine wpAny_bind (wpAny_pure ?_)
  show wpAny (model X.prog X.w) X.A (do rule "assign.swapped-stores"; let items ← unpackItems (.ref s1.heap.objs.size) 2 none; assignInOrder [fun v => bindName X.env y v, fun v => bindName X.env x v] items.reverse; pure Flow.next) _ _ _
  refine wpAny_bind (wpAny_rule (wpAny_bind (unpackItems_tuple (items := #[u1, u2]) (I.ok.hd hc) (IsTup.new s1.heap _) fun h' hx' => ?_)))
  have I3 := I2.kept (h' := h') (t' := s1.toks) fun b o e => hx' b o (Nat.ne_of_lt (Heap.lt_size e)) e
  show wpAny _ _ (assignInOrder [fun v => bindName X.env y v, fun v => bindName X.env x v] [u2, u1] >>= fun _ => pure Flow.next) _ _ _
  refine wpAny_bind (assignInOrder_cons (wpAny_bindName (store_ok I3 hN hj (.inl hy) rw' (fun s2 I4 => ?_) (.inr hy))))
  refine assignInOrder_cons (wpAny_bindName (store_ok I4 hN hi (.inl hx) rv (fun s3 I5 => assignInOrder_nil (wpAny_pure ?_)) (.inr hx)))
  rw [List.set_comm _ _ (Ne.symm hij)] at I5
  exact ⟨_, H1, I5, q1⟩
/-- name op= e -/
def tAug (i : Nat) (te : TE) (ti : TIp) : TS := fun D σ H => ∃ x, σ[i]? = some (some x) ∧ te σ H fun y H1 => ti x y H1 fun z H2 => D.nx (σ.set i (some z)) H2
theorem ps_aug {i : Nat} {x : Str} {e : Expr} {te : TE} {op : Operator} {ti : TIp} {pos' : Pos} (hN : X.N.Nodup) (hi : X.N[i]? = some x) (hx : Loc X.env.scope x) (he : PE X e te) (ho : PIp X op ti) (hf : X.fn x = true ∨ X.env.scope.names.lookup x = some .local := by first | exact .inl rfl | exact .inr rfl | assumption) :
    PS X (.AugAssign (.Name x pos') op e pos) (tAug i te ti) := by
  intro pins s σ H D I h
  obtain ⟨v, e1, h⟩ := h
  obtain ⟨m, hn, hl⟩ := I.loc
  have vis : Vis X.env.scope x := by rcases hx with k | k; exact .inl k; exact .inr (.inl k)
  obtain ⟨u, r, l⟩ := hl i x v hi e1 vis
  refine wpAny_AugAssign_Name ?_
  have go : wpAny (model X.prog X.w) X.A (eval e X.env) (fun w s₂ => wpAny (model X.prog X.w) X.A (inplaceOp op u w) (fun r s₃ => wpAny (model X.prog X.w) X.A (storeName X.env x r) (fun _ => SP X pins D .next) X.xe s₃) X.xe s₂) X.xe s := by
    refine thn (he pins s σ H _ I h) fun w s1 ⟨y, H1, I1, r1, q1⟩ => ?_
    refine thn (ho pins s1 σ H1 v y u w _ I1 r r1 q1) fun z s2 ⟨zv, H2, I2, r2, q2⟩ => ?_
    exact store_ok I2 hN hi hx r2 (fun s3 I3 => ⟨_, H2, I3, q2⟩) hf
  rcases l with ⟨hk, hm⟩ | ⟨hk, c, hc, hcell⟩
  · exact wpAny_loadName_local I.ok.kind hk hn hm go
  · rcases hk with hk | hk
    · exact wpAny_loadName_cell I.ok.kind hk hc hcell go
    · rcases hx with k | k
      · have : X.env.scope.names.lookup x = some .free := hk
        rw [k] at this; cases this
      · have : X.env.scope.names.lookup x = some .free := hk
        rw [k] at this; cases this
/-- o[i] op= e -/
def tAugS (to ti te : TE) (tget : V → V → Hp → VK → Prop) (tip : TIp) (tset : TSet) : TS := fun D σ H => to σ H fun o H1 => ti σ H1 fun i H2 => tget o i H2 fun x H3 => te σ H3 fun y H4 => tip x y H4 fun z H5 => tset o i z H5 fun H6 => D.nx σ H6
/-- o[i], by values -/
def PGet (X : Cx) (t : V → V → Hp → VK → Prop) : Prop :=
  ∀ (pins : List (Addr × Obj)) (s : Shared) (σ : St) (H : Hp) (o i : V) (ov iv : Value) (Q : VK), Inv X pins σ H s → RelV o ov → RelV i iv → t o i H Q →
    wpAny (model X.prog X.w) X.A (getItem ov iv) (EP X pins σ Q) X.xe s
theorem ps_augS {o i e : Expr} {to ti te : TE} {tget : V → V → Hp → VK → Prop} {tip : TIp} {tset : TSet} {op : Operator} {tpos : Pos} (ho : PE X o to) (hi : PE X i ti) (hg : PGet X tget) (he : PE X e te) (hp : PIp X op tip) (hs : PSet X tset)
    (ha : ∀ ov iv new, augStore i ov iv new = (do holding [new, ov, iv] (setItem ov iv new); release [new, ov, iv] []; pure .next) := by intros; rfl) : PS X (.AugAssign (.Subscript o i tpos) op e pos) (tAugS to ti te tget tip tset) := by
  intro pins s σ H D I h
  refine wpAny_AugAssign_SubscriptAny (thn (ho pins s σ H _ I h) fun ov s1 ⟨x1, H1, I1, r1, q1⟩ => ?_) ha
  refine thn (hi pins s1 σ H1 _ I1 q1) fun iv s2 ⟨x2, H2, I2, r2, q2⟩ => ?_
  refine thn (hg pins s2 σ H2 x1 x2 ov iv _ I2 r1 r2 q2) fun old s3 ⟨x3, H3, I3, r3, q3⟩ => ?_
  refine thn (he pins s3 σ H3 _ I3 q3) fun v s4 ⟨x4, H4, I4, r4, q4⟩ => ?_
  refine thn (hp pins s4 σ H4 x3 x4 old v _ I4 r3 r4 q4) fun new s5 ⟨x5, H5, I5, r5, q5⟩ => ?_
  exact thn (hs pins s5 σ H5 x1 x2 x5 ov iv new _ I5 r1 r2 r5 q5) fun _ s6 ⟨H6, I6, q6⟩ => ⟨σ, H6, I6, q6⟩
/-- ints -/
def ipI (f : Int → Int → Int) : TIp := fun x y H Q => ∃ i j, x = .int i ∧ y = .int j ∧ Q (.int (f i j)) H
theorem ip_add : PIp X .Add (ipI fun i j => i + j) := by
  intro pins s σ H x y v u Q I r1 r2 h
  obtain ⟨i, j, e1, e2, q⟩ := h
  subst e1; subst e2
  obtain ⟨t, rfl⟩ := r1
  obtain ⟨t', rfl⟩ := r2
  exact iadd_int ⟨.int _, H, I.tok _, ⟨_, rfl⟩, q⟩
theorem ip_sub : PIp X .Sub (ipI fun i j => i - j) := by
  intro pins s σ H x y v u Q I r1 r2 h
  obtain ⟨i, j, e1, e2, q⟩ := h
  subst e1; subst e2
  obtain ⟨t, rfl⟩ := r1
  obtain ⟨t', rfl⟩ := r2
  exact isub_int ⟨.int _, H, I.tok _, ⟨_, rfl⟩, q⟩
end

/-! ### while -/
section
variable {X : Cx} {pos : Pos}
/-- the invariant W with its measure -/
def tWhile (c : TT) (tb : TS) : TS := fun D σ H => ∃ W : Nat → St → Hp → Prop, (∃ m, W m σ H) ∧ ∀ m σ H, W m σ H →
  c σ H fun b H1 => if b = true then ∃ N : St → Hp → Prop, (∀ σ' H', N σ' H' → ∃ m', m' < m ∧ W m' σ' H') ∧ tb { D with nx := N, ct := N, bk := D.nx } σ H1 else D.nx σ H1
theorem ps_while {c : Expr} {body : List Stmt} {tc : TT} {tb : TS} (hp : PassesOwn (model X.prog X.w) X.A X.env X.xe) (hc : PT X c tc) (hb : PSs X body tb) : PS X (.While c body [] pos) (tWhile tc tb) := by
  intro pins s σ H D I h
  obtain ⟨W, ⟨m0, w0⟩, turn⟩ := h
  refine wpAny_While (codeAny_whileLoop (fun n s' => ∃ σ' H', Inv X pins σ' H' s' ∧ W n σ' H') ?_ m0 ⟨σ, H, I, w0⟩)
  rintro n s1 ⟨σ1, H1, I1, w1⟩
  refine wpAny_passesOwn hp (thn (hc pins s1 σ1 H1 _ I1 (turn n σ1 H1 w1)) fun b s2 ⟨H2, I2, q2⟩ => ?_)
  cases b with
  | true =>
    obtain ⟨N, hN, q2⟩ := q2
    rw [if_pos rfl]
    refine wpAny_passesOwn hp (thn (hb pins s2 σ1 H2 _ I2 q2) fun f s3 q3 => ?_)
    cases f with
    | next =>
      obtain ⟨σ3, H3, I3, n3⟩ := q3
      obtain ⟨m', hm, w3⟩ := hN σ3 H3 n3
      exact ⟨m', hm, σ3, H3, I3, w3⟩
    | cont =>
      obtain ⟨σ3, H3, I3, n3⟩ := q3
      obtain ⟨m', hm, w3⟩ := hN σ3 H3 n3
      exact ⟨m', hm, σ3, H3, I3, w3⟩
    | brk => exact q3
    | ret v => exact q3
  | false =>
    rw [if_neg Bool.false_ne_true]
    exact wpAny_execs_nil ⟨σ1, H2, I2, q2⟩
end

/-! ### what a loop or a comprehension walks -/
/-- at turn i: it yields x (the heap may grow), or it stops -/
structure It where
  go : Nat → Hp → Prop
  yld : Nat → Hp → V → Hp → Prop
  stop : Nat → Hp → Prop
/-- the iterator's own objects may turn: they are not the frame's, not pinned, younger than the entry (or a comprehension's own) -/
def FpOk (X : Cx) (pins : List (Addr × Obj)) (H : Hp) (b : Addr) : Prop :=
  H b = none ∧ b ≠ X.env.locals ∧ b ∉ X.fs ∧ (b ∈ X.ex ∨ X.s₀.heap.objs.size ≤ b) ∧ (∀ x c, X.env.cells.lookup x = some c → c ≠ b) ∧ ∀ p ∈ X.pn ++ pins, p.1 ≠ b
theorem Inv.fpOk {X : Cx} {pins : List (Addr × Obj)} {σ : St} {H H' : Hp} {s : Shared} {b : Addr} (I : Inv X pins σ H s) (hb : s.heap.objs.size ≤ b) (hn : H' b = none) : FpOk X pins H' b := by
  refine ⟨hn, Nat.ne_of_gt (Nat.lt_of_lt_of_le I.lt hb), I.nofs hb, .inr (Nat.le_trans I.sz hb), fun x c e z => ?_, fun p hp z => ?_⟩
  · obtain ⟨v, q⟩ := I.cell x c e
    exact absurd (Nat.lt_of_lt_of_le q.lt (by rw [z]; exact hb)) (Nat.lt_irrefl _)
  · exact absurd (Nat.lt_of_lt_of_le (Heap.lt_size (I.pin p hp).1) (by rw [z]; exact hb)) (Nat.lt_irrefl _)
structure Turn (P : Program) (w : World) (K : PySem.W.Frag) (tg : Expr) (J : It) (fp : List Addr) (it : Addr) (tn : Nat → Heap → Prop) : Prop where
  mem : it ∈ fp
  obj : ∀ i h, tn i h → ∀ b ∈ fp, ∃ o, h.get? b = some o ∧ ∀ v, o.data ≠ .cell v
  keep : ∀ i h h', tn i h → (∀ b ∈ fp, ∀ o, h.get? b = some o → h'.get? b = some o) → tn i h'
  item : ∀ (X : Cx), X.prog = P → X.w = w → X.K = K → X.calm = true → ∀ (i : Nat) (pins : List (Addr × Obj)) (s : Shared) (σ : St) (H : Hp) (E : Value → Shared → Prop), Inv X pins σ H s → (∀ b ∈ fp, FpOk X pins H b) → tn i s.heap → J.go i H →
    wpAny (model P w) X.A (pyNext (.ref it)) (fun r s1 => ∃ u, r = some u ∧
      wpAny (model P w) X.A (letOwnedTupleGo tg (.ref it) u) (fun _ s2 => ∃ x H', Inv X pins σ H' s2 ∧ RelV x u ∧ J.yld i H x H' ∧ tn (i + 1) s2.heap ∧ ∀ b ∈ fp, H' b = none) E s1) E s
  done : ∀ (X : Cx), X.prog = P → X.w = w → X.K = K → X.calm = true → ∀ (i : Nat) (pins : List (Addr × Obj)) (s : Shared) (σ : St) (H : Hp) (E : Value → Shared → Prop), Inv X pins σ H s → (∀ b ∈ fp, FpOk X pins H b) → tn i s.heap → J.stop i H →
    wpAny (model P w) X.A (pyNext (.ref it)) (fun r s1 => r = none ∧ Inv X pins σ H s1) E s
  self : ∀ (A : Around) (i : Nat) (s : Shared) (Q : Value → Shared → Prop) (E : Value → Shared → Prop), tn i s.heap → Q (.ref it) s → wpAny (model P w) A (pyIter (.ref it)) Q E s
abbrev TI := St → Hp → (It → Hp → Prop) → Prop
/-- an iterator has come -/
def PIE (X : Cx) (pins : List (Addr × Obj)) (σ : St) (tg : Expr) (R : It → Hp → Prop) (itv : Value) (s2 : Shared) : Prop :=
  ∃ (it : Addr) (fp : List Addr) (tn : Nat → Heap → Prop) (J : It) (H' : Hp), itv = .ref it ∧ Inv X pins σ H' s2 ∧ Turn X.prog X.w X.K tg J fp it tn ∧ tn 0 s2.heap ∧ (∀ b ∈ fp, FpOk X pins H' b) ∧ R J H'
def PI (X : Cx) (tg iter : Expr) (wi : TI) : Prop :=
  ∀ (pins : List (Addr × Obj)) (s : Shared) (σ : St) (H : Hp) (R : It → Hp → Prop), Inv X pins σ H s → wi σ H R →
    wpAny (model X.prog X.w) X.A (eval iter X.env) (fun v s1 => wpAny (model X.prog X.w) X.A (pyIter v) (PIE X pins σ tg R) X.xe s1) X.xe s

/-- the step ahead of the store is nothing for an iterator that keeps no tuple -/
theorem go_of {M : Model} {A : Around} {E : Value → Shared → Prop} {s : Shared} {tg : Expr} {it : Addr} {u : Value} {o : Obj} {n : String} {vs : Array Value} {Q : Unit → Shared → Prop} (ho : s.heap.get? it = some o) (hc : o.cls = .type n) (hd : o.data = .fields vs)
    (hn : ["enumerate", "zip", "dict_itemiterator", "dict_reverseitemiterator", "odict_iterator", "itertools.zip_longest", "itertools.pairwise"].contains n = false) (hQ : Q () s) : wpAny M A (letOwnedTupleGo tg (.ref it) u) Q E s := by
  unfold letOwnedTupleGo
  cases tg <;> first
    | exact wpAny_pure hQ
    | (cases u <;> first
        | exact wpAny_pure hQ
        | (refine wpAny_bind (wpAny_load ho ?_)
           rw [hc, hd]
           show wpAny M A (if (["enumerate", "zip", "dict_itemiterator", "dict_reverseitemiterator", "odict_iterator", "itertools.zip_longest", "itertools.pairwise"].contains n && vs[0]? == some (rawInt _)) = true then _ else _) Q E s
           rw [if_neg (by intro h; rw [hn, Bool.false_and] at h; cases h)]
           exact wpAny_pure hQ))

/-- the list at a, as it stands at each turn (a loop may append to it) -/
def Itl (K : PySem.W.Frag) (a : Addr) : It :=
  ⟨fun i H => ∃ xs x, SqL K H a xs ∧ xs[i]? = some x, fun i H x H' => H' = H ∧ ∀ xs, SqL K H a xs → xs[i]? = some x, fun i H => ∃ xs, SqL K H a xs ∧ xs.length ≤ i⟩
def Itt (K : PySem.W.Frag) (a : Addr) : It :=
  ⟨fun i H => ∃ xs x, SqT K H a xs ∧ xs[i]? = some x, fun i H x H' => H' = H ∧ ∀ xs, SqT K H a xs → xs[i]? = some x, fun i H => ∃ xs, SqT K H a xs ∧ xs.length ≤ i⟩
/-- lo, lo + 1, .. (n of them) -/
def Itr (lo : Int) (n : Nat) : It := ⟨fun i _ => i < n, fun i H x H' => H' = H ∧ x = .int (lo + i), fun i _ => n ≤ i⟩
theorem turn_list {P : Program} {w : World} {K : PySem.W.Frag} {tg : Expr} (a it : Addr) : Turn P w K tg (Itl K a) [it] it (fun i h => h.IsListIter it a i) where
  mem := by simp
  obj := fun i h st b hb => by
    have e : b = it := by simpa using hb
    subst e
    obtain ⟨o, e, c, d⟩ := st
    exact ⟨o, e, fun v z => by rw [d] at z; cases z⟩
  keep := fun i h h' st k => st.at fun o e => k it (by simp) o e
  item := by
    intro X hP hw hK hc i pins s σ H E I hf st hg
    subst hP hw hK
    obtain ⟨xs, x, hq, hx⟩ := hg
    obtain ⟨its, rv, p, hz⟩ := I.list hq
    obtain ⟨u, hu, ru⟩ := rv.get hx
    obtain ⟨f0, f1, f2, f3, f4, f5⟩ := hf it (by simp)
    refine wpAny_pyNext_list_item st p.isList (x := u) (by simpa using hu) fun h' st' sb => ?_
    have I1 : Inv X pins σ H { s with heap := h' } := I.turned (t' := s.toks) (fun b o hb e => (sb.2 b hb).trans e) f0 f1 f3 f4 f5
    obtain ⟨o, e, c, d⟩ := id st'
    exact ⟨u, rfl, go_of (s := { s with heap := h' }) e c d (by decide) ⟨x, H, I1, ru, ⟨rfl, fun ys hy => by rw [I.list_inj hy hq]; exact hx⟩, st', fun b hb => (hf b hb).1⟩⟩
  done := by
    intro X hP hw hK hc i pins s σ H E I hf st hg
    subst hP hw hK
    obtain ⟨xs, hq, hx⟩ := hg
    obtain ⟨its, rv, p, hz⟩ := I.list hq
    obtain ⟨f0, f1, f2, f3, f4, f5⟩ := hf it (by simp)
    have hl := rv.length
    exact wpAny_pyNext_list_end (I.ok.hd hc) st p.isList (by simp; omega) fun h' eb => ⟨rfl, I.turned (t' := s.toks) (fun b o hb e => eb b o hb e) f0 f1 f3 f4 f5⟩
  self := fun _ _ _ _ _ st h => wpAny_pyIter_listiter st h
theorem turn_tuple {P : Program} {w : World} {K : PySem.W.Frag} {tg : Expr} (a it : Addr) : Turn P w K tg (Itt K a) [it] it (fun i h => h.IsTupleIter it a i) where
  mem := by simp
  obj := fun i h st b hb => by
    have e : b = it := by simpa using hb
    subst e
    obtain ⟨o, e, c, d⟩ := st
    exact ⟨o, e, fun v z => by rw [d] at z; cases z⟩
  keep := fun i h h' st k => st.at fun o e => k it (by simp) o e
  item := by
    intro X hP hw hK hc i pins s σ H E I hf st hg
    subst hP hw hK
    obtain ⟨xs, x, hq, hx⟩ := hg
    obtain ⟨its, rv, p, hz⟩ := I.tuple hq
    obtain ⟨u, hu, ru⟩ := rv.get hx
    obtain ⟨f0, f1, f2, f3, f4, f5⟩ := hf it (by simp)
    refine wpAny_pyNext_tuple_item st (show s.heap.IsTuple a its.toArray from p) (x := u) (by simpa using hu) fun h' st' sb => ?_
    have I1 : Inv X pins σ H { s with heap := h' } := I.turned (t' := s.toks) (fun b o hb e => (sb.2 b hb).trans e) f0 f1 f3 f4 f5
    obtain ⟨o, e, c, d⟩ := id st'
    exact ⟨u, rfl, go_of (s := { s with heap := h' }) e c d (by decide) ⟨x, H, I1, ru, ⟨rfl, fun ys hy => by rw [I.tuple_inj hy hq]; exact hx⟩, st', fun b hb => (hf b hb).1⟩⟩
  done := by
    intro X hP hw hK hc i pins s σ H E I hf st hg
    subst hP hw hK
    obtain ⟨xs, hq, hx⟩ := hg
    obtain ⟨its, rv, p, hz⟩ := I.tuple hq
    obtain ⟨f0, f1, f2, f3, f4, f5⟩ := hf it (by simp)
    have hl := rv.length
    exact wpAny_pyNext_tuple_end (I.ok.hd hc) st (show s.heap.IsTuple a its.toArray from p) (by simp; omega) fun h' eb => ⟨rfl, I.turned (t' := s.toks) (fun b o hb e => eb b o hb e) f0 f1 f3 f4 f5⟩
  self := fun _ _ _ _ _ st h => wpAny_pyIter_tupleiter st h
theorem turn_range {P : Program} {w : World} {K : PySem.W.Frag} {tg : Expr} (it : Addr) (lo : Int) (n : Nat) : Turn P w K tg (Itr lo n) [it] it (fun i h => IsRangeIter h it (lo + (i : Nat) * 1) ((n : Int) - (i : Nat)) 1) where
  mem := by simp
  obj := fun i h st b hb => by
    have e : b = it := by simpa using hb
    subst e
    exact ⟨_, st, fun v z => by
      have z' : Data.fields _ = Data.cell v := z
      cases z'⟩
  keep := fun i h h' st k => k it (by simp) _ st
  item := by
    intro X hP hw hK hc i pins s σ H E I hf st hg
    subst hP hw hK
    obtain ⟨f0, f1, f2, f3, f4, f5⟩ := hf it (by simp)
    have W := Walks.range (prog := X.prog) (w := X.w) (I.ok.hd hc) it lo 1 n
    refine W.item i s _ _ hg st fun v h' tk hv st' kk => ?_
    obtain ⟨t, rfl⟩ := hv
    have I1 : Inv X pins σ H { s with heap := h', toks := tk } := I.turned (fun b o hb e => kk b o (by simpa using hb) e) f0 f1 f3 f4 f5
    refine ⟨_, rfl, go_of (s := { s with heap := h', toks := tk }) (n := "range_iterator") st' rfl rfl (by decide) ⟨.int (lo + i), H, I1, ⟨t, ?_⟩, ⟨rfl, rfl⟩, st', fun b hb => (hf b hb).1⟩⟩
    rw [Int.mul_one]
  done := by
    intro X hP hw hK hc i pins s σ H E I hf st hg
    subst hP hw hK
    obtain ⟨f0, f1, f2, f3, f4, f5⟩ := hf it (by simp)
    exact wpAny_pyNext_range_end (I.ok.hd hc) st (by have : n ≤ i := hg; omega) fun h' eb => ⟨rfl, I.turned (t' := s.toks) (fun b o hb e => eb b o hb e) f0 f1 f3 f4 f5⟩
  self := fun _ _ _ _ _ st h => wpAny_pyIter_rangeiter st h
end L2

namespace L2
open PySem PySem.Spec PyProof.Rows
section
variable {X : Cx} {tg : Expr}
def iList (K : PySem.W.Frag) (tl : TE) : TI := fun σ H R => tl σ H fun x H1 => ∃ a, x = .ref a ∧ (∃ xs, SqL K H1 a xs) ∧ R (Itl K a) H1
def iTup (K : PySem.W.Frag) (tl : TE) : TI := fun σ H R => tl σ H fun x H1 => ∃ a, x = .ref a ∧ (∃ xs, SqT K H1 a xs) ∧ R (Itt K a) H1
theorem pi_list {l : Expr} {tl : TE} (hl : PE X l tl) : PI X tg l (iList X.K tl) := by
  intro pins s σ H R I h
  refine thn (hl pins s σ H _ I h) fun v s1 ⟨x, H1, I1, r1, q1⟩ => ?_
  obtain ⟨a, e, ⟨xs, hq⟩, q⟩ := q1
  subst e
  cases r1
  obtain ⟨its, rv, p, hz⟩ := I1.list hq
  refine wpAny_pyIter_list p.isList ?_
  refine ⟨s1.heap.objs.size, [s1.heap.objs.size], _, _, H1, rfl, I1.kept (t' := s1.toks) fun b o e => Heap.get?_push_of_some _ e, turn_list a _, ⟨_, Heap.get?_push_size _ rfl, rfl, rfl⟩, fun b hb => ?_, q⟩
  have e : b = s1.heap.objs.size := by simpa using hb
  subst e
  exact I1.fpOk (Nat.le_refl _) (I1.hok.fresh (Nat.le_refl _))
theorem pi_tup {l : Expr} {tl : TE} (hl : PE X l tl) : PI X tg l (iTup X.K tl) := by
  intro pins s σ H R I h
  refine thn (hl pins s σ H _ I h) fun v s1 ⟨x, H1, I1, r1, q1⟩ => ?_
  obtain ⟨a, e, ⟨xs, hq⟩, q⟩ := q1
  subst e
  cases r1
  obtain ⟨its, rv, p, hz⟩ := I1.tuple hq
  refine wpAny_pyIter_tuple (show s1.heap.IsTuple a its.toArray from p) ?_
  refine ⟨s1.heap.objs.size, [s1.heap.objs.size], _, _, H1, rfl, I1.kept (t' := s1.toks) fun b o e => Heap.get?_push_of_some _ e, turn_tuple a _, ⟨_, Heap.get?_push_size _ rfl, rfl, rfl⟩, fun b hb => ?_, q⟩
  have e : b = s1.heap.objs.size := by simpa using hb
  subst e
  exact I1.fpOk (Nat.le_refl _) (I1.hok.fresh (Nat.le_refl _))
/-- a range object just made, walked -/
theorem range_it {pins : List (Addr × Obj)} {σ : St} {H : Hp} {s : Shared} {R : It → Hp → Prop} {E : Value → Shared → Prop} {lo hi : Int} {t u v : Tok} {tk : Nat} (I : Inv X pins σ H s) (h1 : -(2 ^ 62) ≤ lo) (h2 : lo < 2 ^ 62) (h3 : -(2 ^ 62) ≤ hi) (h4 : hi < 2 ^ 62)
    (q : R (Itr lo (hi - lo).toNat) H) : wpAny (model X.prog X.w) X.A (pyIter (.ref s.heap.objs.size)) (PIE X pins σ tg R) E { s with heap := s.heap.push { cls := .type "range", data := .fields #[.int lo t, .int hi u, .int 1 v] }, toks := tk } := by
  refine wpAny_pyIter_range (IsRange.new ..) (small_one h1 h2 h3 h4) ?_
  have I1 : Inv X pins σ H { s with heap := s.heap.push { cls := .type "range", data := .fields #[.int lo t, .int hi u, .int 1 v] }, toks := tk } := I.kept fun b o e => Heap.get?_push_of_some _ e
  refine ⟨(s.heap.push { cls := .type "range", data := .fields #[.int lo t, .int hi u, .int 1 v] }).objs.size, [(s.heap.push { cls := .type "range", data := .fields #[.int lo t, .int hi u, .int 1 v] }).objs.size], _, _, H, rfl,
    I1.kept (t' := tk) fun b o e => Heap.get?_push_of_some _ e, turn_range _ lo (hi - lo).toNat, ?_, fun b hb => ?_, q⟩
  · have e1 : lo + ((0 : Nat) : Int) * 1 = lo := by simp
    have e2 : (((hi - lo).toNat : Nat) : Int) - ((0 : Nat) : Int) = Builtin.Range.rangeSize lo hi 1 := by rw [rangeSize_one]; split <;> omega
    show IsRangeIter _ _ (lo + ((0 : Nat) : Int) * 1) ((((hi - lo).toNat : Nat) : Int) - ((0 : Nat) : Int)) 1
    rw [e1, e2]
    exact Heap.get?_push_size _ rfl
  · have e : b = (s.heap.push { cls := .type "range", data := .fields #[.int lo t, .int hi u, .int 1 v] }).objs.size := by simpa using hb
    subst e
    exact I1.fpOk (Nat.le_refl _) (I1.hok.fresh (Nat.le_refl _))
def iRng1 (ta : TA) : TI := fun σ H R => ta σ H fun vs H1 => ∃ j : Int, vs = [.int j] ∧ -(2 ^ 62) ≤ j ∧ j < 2 ^ 62 ∧ R (Itr 0 j.toNat) H1
def iRng2 (ta : TA) : TI := fun σ H R => ta σ H fun vs H1 => ∃ i j : Int, vs = [.int i, .int j] ∧ (-(2 ^ 62) ≤ i ∧ i < 2 ^ 62 ∧ -(2 ^ 62) ≤ j ∧ j < 2 ^ 62) ∧ R (Itr i (j - i).toNat) H1
theorem pi_range1 {a : Expr} {ta : TA} {p pos : Pos} (hg : Gl X "range") (hm : X.mg "range" = none) (ha : PA X [a] ta) (hs : starEach [a] X.env = [(false, eval a X.env)] := by rfl) : PI X tg (.Call (.Name "range" p) [a] [] pos) (iRng1 ta) := by
  intro pins s σ H R I h
  refine Call_ (ld_blt I hg hm boot_range (PyProof.Rows.callWith_type1 (thn (ha pos pins s σ H _ I h) fun us s1 ⟨vs, H1, I1, r1, q1⟩ => ?_) hs rfl))
  obtain ⟨j, e, q1, q2, q⟩ := q1
  subst e
  cases r1 with
  | cons r rr =>
    cases rr
    obtain ⟨t, rfl⟩ := r
    exact call_range_1 (range_it I1 (by omega) (by omega) q1 q2 (by simpa using q))
theorem pi_range2 {a b : Expr} {ta : TA} {p pos : Pos} (hg : Gl X "range") (hm : X.mg "range" = none) (ha : PA X [a, b] ta) (hs : starEach [a, b] X.env = [(false, eval a X.env), (false, eval b X.env)] := by rfl) (hs2 : starEach [b] X.env = [(false, eval b X.env)] := by rfl) :
    PI X tg (.Call (.Name "range" p) [a, b] [] pos) (iRng2 ta) := by
  intro pins s σ H R I h
  refine Call_ (ld_blt I hg hm boot_range (PyProof.Rows.callWith_type1 (thn (ha pos pins s σ H _ I h) fun us s1 ⟨vs, H1, I1, r1, q1⟩ => ?_) (by rw [hs, hs2]) (by rw [hs2]; rfl)))
  obtain ⟨i, j, e, ⟨q1, q2, q3, q4⟩, q⟩ := q1
  subst e
  cases r1 with
  | cons r rr =>
    cases rr with
    | cons r' rr =>
      cases rr
      obtain ⟨t, rfl⟩ := r
      obtain ⟨t', rfl⟩ := r'
      exact call_range_2 (range_it I1 q1 q2 q3 q4 q)

/-! ### for -/
/-- W: the invariant by the turn and a measure; N: what the body is to reach -/
def tFor (wi : TI) (g : TG) (tb : TS) : TS := fun D σ H => wi σ H fun J H1 => ∃ W : Nat → Nat → St → Hp → Prop, (∃ m, W 0 m σ H1) ∧ ∀ i m σ H, W i m σ H →
  (J.stop i H ∧ D.nx σ H) ∨ (J.go i H ∧ ∃ N : St → Hp → Prop, (∀ σ' H', N σ' H' → ∃ m', m' < m ∧ W (i + 1) m' σ' H') ∧ ∀ x H', J.yld i H x H' → g x σ H' fun σ2 H2 => tb { D with nx := N, ct := N, bk := D.nx } σ2 H2)
/-- the records at fp as they stand -/
def pinsAt (fp : List Addr) (h : Heap) : List (Addr × Obj) := fp.filterMap fun b => (h.get? b).map fun o => (b, o)
theorem mem_pinsAt {fp : List Addr} {h : Heap} {b : Addr} {o : Obj} (hb : b ∈ fp) (e : h.get? b = some o) : (b, o) ∈ pinsAt fp h := List.mem_filterMap.mpr ⟨b, hb, by rw [e]; rfl⟩
theorem of_pinsAt {fp : List Addr} {h : Heap} {p : Addr × Obj} (hp : p ∈ pinsAt fp h) : p.1 ∈ fp ∧ h.get? p.1 = some p.2 := by
  obtain ⟨b, hb, e⟩ := List.mem_filterMap.mp hp
  cases q : h.get? b with
  | none => rw [q] at e; cases e
  | some o =>
    rw [q] at e
    have e' : (b, o) = p := Option.some.inj e
    subst e'
    exact ⟨hb, q⟩
theorem Inv.pinned {pins : List (Addr × Obj)} {σ : St} {H : Hp} {s : Shared} {fp : List Addr} (I : Inv X pins σ H s) (hf : ∀ b ∈ fp, FpOk X pins H b) (ho : ∀ b ∈ fp, ∃ o, s.heap.get? b = some o ∧ ∀ v, o.data ≠ .cell v) : Inv X (pins ++ pinsAt fp s.heap) σ H s :=
  I.pins_of fun p hp => (List.mem_append.mp hp).elim (fun z => I.pin p (List.mem_append_right _ z)) fun z => by
    obtain ⟨hb, e⟩ := of_pinsAt z
    obtain ⟨f0, f1, f2, _⟩ := hf p.1 hb
    obtain ⟨o, e', d⟩ := ho p.1 hb
    rw [e] at e'; cases e'
    exact ⟨e, f0, f1, f2, d⟩
theorem Inv.unpinned {pins pl : List (Addr × Obj)} {σ : St} {H : Hp} {s : Shared} (I : Inv X (pins ++ pl) σ H s) : Inv X pins σ H s := I.pins_of fun p hp => I.pin p (List.mem_append_right _ (List.mem_append_left _ hp))
theorem ps_for {iter : Expr} {body : List Stmt} {wi : TI} {g : TG} {tb : TS} {pos : Pos} (hp : PassesOwn (model X.prog X.w) X.A X.env X.xe) (hc : X.calm = true) (hi : PI X tg iter wi) (hg : PG X tg g) (hb : PSs X body tb)
    (hs : ∀ x, foldedSetIterable iter X.env x = pure x := by intro _; rfl) : PS X (.For tg iter body [] pos) (tFor wi g tb) := by
  intro pins s σ H D I h
  refine wpAny_For (thn (hi pins s σ H _ I h) fun v s1 h1 => thn h1 fun itv s2 h2 => ?_) hs
  obtain ⟨it, fp, tn, J, H2, e, I2, T, st2, f2, W, ⟨m0, w0⟩, turn⟩ := h2
  subst e
  -- what stays true of the iterator's objects through the loop
  have stat : ∀ {H' : Hp}, (∀ b ∈ fp, H' b = none) → ∀ b ∈ fp, FpOk X pins H' b := fun hn b hb => ⟨hn b hb, (f2 b hb).2⟩
  refine codeAny_forLoop_any (fun n s' => ∃ i σ' H', Inv X pins σ' H' s' ∧ tn i s'.heap ∧ (∀ b ∈ fp, H' b = none) ∧ W i n σ' H') ?_ m0 ⟨0, σ, H2, I2, st2, fun b hb => (f2 b hb).1, w0⟩
  rintro n s3 ⟨i, σ3, H3, I3, st3, fr3, w3⟩
  rcases turn i n σ3 H3 w3 with ⟨stop, qn⟩ | ⟨go, N, hN, step⟩
  · refine wpAny_passesOwn hp (thn (T.done X rfl rfl rfl hc i pins s3 σ3 H3 X.xe I3 (stat fr3) st3 stop) fun r s4 ⟨hr, I4⟩ => ?_)
    subst hr
    exact wpAny_execs_nil ⟨σ3, H3, I4, qn⟩
  · refine wpAny_passesOwn hp (thn (T.item X rfl rfl rfl hc i pins s3 σ3 H3 X.xe I3 (stat fr3) st3 go) fun r s4 ⟨u, hr, h4⟩ => ?_)
    subst hr
    refine wpAny_passesOwn hp (thn h4 fun _ s5 ⟨x, H5, I5, r5, y5, st5, fr5⟩ => ?_)
    have I5' := I5.pinned (stat fr5) (T.obj _ _ st5)
    refine wpAny_passesOwn hp (thn (hg _ s5 σ3 H5 x u _ I5' r5 (step x H5 y5)) fun _ s6 ⟨σ6, H6, I6, q6⟩ => ?_)
    refine wpAny_passesOwn hp (thn (hb _ s6 σ6 H6 _ I6 q6) fun f s7 q7 => ?_)
    have again : ∀ {σ7 : St} {H7 : Hp}, Inv X (pins ++ pinsAt fp s5.heap) σ7 H7 s7 → N σ7 H7 → ∃ m, m < n ∧ ∃ i σ' H', Inv X pins σ' H' s7 ∧ tn i s7.heap ∧ (∀ b ∈ fp, H' b = none) ∧ W i m σ' H' := fun {σ7 H7} I7 n7 => by
      obtain ⟨m', hm, w7⟩ := hN σ7 H7 n7
      refine ⟨m', hm, i + 1, σ7, H7, I7.unpinned, T.keep _ _ _ st5 fun b hb o e => (I7.pin (b, o) (List.mem_append_right _ (List.mem_append_right _ (mem_pinsAt hb e)))).1, fun b hb => ?_, w7⟩
      obtain ⟨o, e, d⟩ := T.obj _ _ st5 b hb
      exact (I7.pin (b, o) (List.mem_append_right _ (List.mem_append_right _ (mem_pinsAt hb e)))).2.1
    cases f with
    | next => obtain ⟨σ7, H7, I7, n7⟩ := q7; exact again I7 n7
    | cont => obtain ⟨σ7, H7, I7, n7⟩ := q7; exact again I7 n7
    | brk => obtain ⟨σ7, H7, I7, q7⟩ := q7; exact ⟨σ7, H7, I7.unpinned, q7⟩
    | ret v => obtain ⟨x7, σ7, H7, I7, r7, q7⟩ := q7; exact ⟨x7, σ7, H7, I7.unpinned, r7, q7⟩
end

/-! ### the forms one uses -/
/-- over a list that the body leaves as it is -/
theorem for_list {K : PySem.W.Frag} {a : Addr} {xs : List V} {g : TG} {tb : TS} {D : Ends} {σ : St} {H : Hp} (Pv : Nat → St → Hp → Prop) (h0 : Pv 0 σ H) (hl : ∀ i σ H, i ≤ xs.length → Pv i σ H → SqL K H a xs)
    (hs : ∀ i x σ H, xs[i]? = some x → Pv i σ H → g x σ H fun σ2 H2 => tb { D with nx := Pv (i + 1), ct := Pv (i + 1), bk := D.nx } σ2 H2) (hd : ∀ σ H, Pv xs.length σ H → D.nx σ H) :
    ∃ W : Nat → Nat → St → Hp → Prop, (∃ m, W 0 m σ H) ∧ ∀ i m σ H, W i m σ H →
      ((Itl K a).stop i H ∧ D.nx σ H) ∨ ((Itl K a).go i H ∧ ∃ N : St → Hp → Prop, (∀ σ' H', N σ' H' → ∃ m', m' < m ∧ W (i + 1) m' σ' H') ∧ ∀ x H', (Itl K a).yld i H x H' → g x σ H' fun σ2 H2 => tb { D with nx := N, ct := N, bk := D.nx } σ2 H2) := by
  refine ⟨fun i m σ H => m = xs.length - i ∧ i ≤ xs.length ∧ Pv i σ H, ⟨xs.length, by simp, Nat.zero_le _, h0⟩, ?_⟩
  rintro i m σ H ⟨rfl, hi, p⟩
  have q := hl i σ H hi p
  by_cases hlt : i < xs.length
  · refine .inr ⟨⟨xs, xs[i], q, by simp [hlt]⟩, Pv (i + 1), fun σ' H' p' => ⟨xs.length - (i + 1), by omega, rfl, hlt, p'⟩, fun x H' y => ?_⟩
    obtain ⟨e, y⟩ := y
    subst e
    exact hs i x σ _ (y xs q) p
  · have e : i = xs.length := by omega
    subst e
    exact .inl ⟨⟨xs, q, Nat.le_refl _⟩, hd σ H p⟩
theorem for_tup {K : PySem.W.Frag} {a : Addr} {xs : List V} {g : TG} {tb : TS} {D : Ends} {σ : St} {H : Hp} (Pv : Nat → St → Hp → Prop) (h0 : Pv 0 σ H) (hl : ∀ i σ H, i ≤ xs.length → Pv i σ H → SqT K H a xs)
    (hs : ∀ i x σ H, xs[i]? = some x → Pv i σ H → g x σ H fun σ2 H2 => tb { D with nx := Pv (i + 1), ct := Pv (i + 1), bk := D.nx } σ2 H2) (hd : ∀ σ H, Pv xs.length σ H → D.nx σ H) :
    ∃ W : Nat → Nat → St → Hp → Prop, (∃ m, W 0 m σ H) ∧ ∀ i m σ H, W i m σ H →
      ((Itt K a).stop i H ∧ D.nx σ H) ∨ ((Itt K a).go i H ∧ ∃ N : St → Hp → Prop, (∀ σ' H', N σ' H' → ∃ m', m' < m ∧ W (i + 1) m' σ' H') ∧ ∀ x H', (Itt K a).yld i H x H' → g x σ H' fun σ2 H2 => tb { D with nx := N, ct := N, bk := D.nx } σ2 H2) := by
  refine ⟨fun i m σ H => m = xs.length - i ∧ i ≤ xs.length ∧ Pv i σ H, ⟨xs.length, by simp, Nat.zero_le _, h0⟩, ?_⟩
  rintro i m σ H ⟨rfl, hi, p⟩
  have q := hl i σ H hi p
  by_cases hlt : i < xs.length
  · refine .inr ⟨⟨xs, xs[i], q, by simp [hlt]⟩, Pv (i + 1), fun σ' H' p' => ⟨xs.length - (i + 1), by omega, rfl, hlt, p'⟩, fun x H' y => ?_⟩
    obtain ⟨e, y⟩ := y
    subst e
    exact hs i x σ _ (y xs q) p
  · have e : i = xs.length := by omega
    subst e
    exact .inl ⟨⟨xs, q, Nat.le_refl _⟩, hd σ H p⟩
theorem for_range {lo : Int} {n : Nat} {g : TG} {tb : TS} {D : Ends} {σ : St} {H : Hp} (Pv : Nat → St → Hp → Prop) (h0 : Pv 0 σ H)
    (hs : ∀ i σ H, i < n → Pv i σ H → g (.int (lo + i)) σ H fun σ2 H2 => tb { D with nx := Pv (i + 1), ct := Pv (i + 1), bk := D.nx } σ2 H2) (hd : ∀ σ H, Pv n σ H → D.nx σ H) :
    ∃ W : Nat → Nat → St → Hp → Prop, (∃ m, W 0 m σ H) ∧ ∀ i m σ H, W i m σ H →
      ((Itr lo n).stop i H ∧ D.nx σ H) ∨ ((Itr lo n).go i H ∧ ∃ N : St → Hp → Prop, (∀ σ' H', N σ' H' → ∃ m', m' < m ∧ W (i + 1) m' σ' H') ∧ ∀ x H', (Itr lo n).yld i H x H' → g x σ H' fun σ2 H2 => tb { D with nx := N, ct := N, bk := D.nx } σ2 H2) := by
  refine ⟨fun i m σ H => m = n - i ∧ i ≤ n ∧ Pv i σ H, ⟨n, by simp, Nat.zero_le _, h0⟩, ?_⟩
  rintro i m σ H ⟨rfl, hi, p⟩
  by_cases hlt : i < n
  · refine .inr ⟨hlt, Pv (i + 1), fun σ' H' p' => ⟨n - (i + 1), by omega, rfl, hlt, p'⟩, fun x H' y => ?_⟩
    obtain ⟨e, y⟩ := y
    subst e y
    exact hs i σ _ hlt p
  · have e : i = n := by omega
    subst e
    exact .inl ⟨Nat.le_refl _, hd σ H p⟩
/-- while, by a word and a measure of the state -/
theorem while_by {c : TT} {tb : TS} {D : Ends} {σ : St} {H : Hp} (Pv : St → Hp → Prop) (μ : St → Hp → Nat) (h0 : Pv σ H)
    (hs : ∀ σ H, Pv σ H → c σ H fun b H1 => if b = true then tb { D with nx := fun σ' H' => Pv σ' H' ∧ μ σ' H' < μ σ H, ct := fun σ' H' => Pv σ' H' ∧ μ σ' H' < μ σ H, bk := D.nx } σ H1 else D.nx σ H1)
    (mono : ∀ σ H Q Q', (∀ b H1, Q b H1 → Q' b H1) → c σ H Q → c σ H Q') : tWhile c tb D σ H := by
  refine ⟨fun m σ H => m = μ σ H ∧ Pv σ H, ⟨_, rfl, h0⟩, ?_⟩
  rintro m σ H ⟨rfl, p⟩
  refine mono σ H _ _ (fun b H1 q => ?_) (hs σ H p)
  cases b with
  | true => exact ⟨_, fun σ' H' ⟨p', l⟩ => ⟨_, l, rfl, p'⟩, q⟩
  | false => exact q
end L2

namespace L2
open PySem PySem.Spec PyProof.Rows

abbrev R2 := V → V → Hp → VK → Prop
/-- a two-place operation on values: f is binaryOp op, inplaceOp op or compareOp op -/
def OpR (X : Cx) (f : Value → Value → Sem Value) (r : R2) : Prop :=
  ∀ (pins : List (Addr × Obj)) (s : Shared) (σ : St) (H : Hp) (x y : V) (v u : Value) (Q : VK), Inv X pins σ H s → RelV x v → RelV y u → r x y H Q →
    wpAny (model X.prog X.w) X.A (f v u) (EP X pins σ Q) X.xe s
/-- a one-place operation -/
def UnR (X : Cx) (f : Value → Sem Value) (r : V → Hp → VK → Prop) : Prop :=
  ∀ (pins : List (Addr × Obj)) (s : Shared) (σ : St) (H : Hp) (x : V) (v : Value) (Q : VK), Inv X pins σ H s → RelV x v → r x H Q →
    wpAny (model X.prog X.w) X.A (f v) (EP X pins σ Q) X.xe s
/-- a call of a value that is known (a builtin, a type) with values -/
def CallR (X : Cx) (f : Value) (r : List V → Hp → VK → Prop) : Prop :=
  ∀ (pins : List (Addr × Obj)) (s : Shared) (σ : St) (H : Hp) (xs : List V) (us : List Value) (Q : VK), Inv X pins σ H s → Vals xs us → r xs H Q →
    wpAny (model X.prog X.w) X.A (call f us) (EP X pins σ Q) X.xe s
/-- a value's truth -/
def TruR (X : Cx) (r : V → Hp → (Bool → Hp → Prop) → Prop) : Prop :=
  ∀ (pins : List (Addr × Obj)) (s : Shared) (σ : St) (H : Hp) (x : V) (v : Value) (Q : Bool → Hp → Prop), Inv X pins σ H s → RelV x v → r x H Q →
    wpAny (model X.prog X.w) X.A (truthy v) (TP X pins σ Q) X.xe s

def tOp (r : R2) (ta tb : TE) : TE := fun σ H Q => ta σ H fun x H1 => tb σ H1 fun y H2 => r x y H2 Q
def tUn (r : V → Hp → VK → Prop) (ta : TE) : TE := fun σ H Q => ta σ H fun x H1 => r x H1 Q
/-- ints in, under C, and a value out -/
def rI (C : Int → Int → Prop) (g : Int → Int → V) : R2 := fun x y H Q => ∃ i j, x = .int i ∧ y = .int j ∧ C i j ∧ Q (g i j) H
def rI0 (g : Int → Int → V) : R2 := fun x y H Q => ∃ i j, x = .int i ∧ y = .int j ∧ Q (g i j) H
def rU (g : Int → V) : V → Hp → VK → Prop := fun x H Q => ∃ i, x = .int i ∧ Q (g i) H

section
variable {X : Cx} {a b c : Expr} {ta tb tc : TE} {pos : Pos}

theorem binT (ha : PE X a ta) (hb : PE X b tb) {pins : List (Addr × Obj)} {s : Shared} {σ : St} {H : Hp} {R : V → V → Hp → Prop} (I : Inv X pins σ H s)
    (h : ta σ H fun x H1 => tb σ H1 fun y H2 => R x y H2) {Q : Value → Shared → Prop} {f : Value → Value → Sem Value}
    (hf : ∀ v u s2 x y H2, Inv X pins σ H2 s2 → RelV x v → RelV y u → R x y H2 → wpAny (model X.prog X.w) X.A (f v u) Q X.xe s2) :
    wpAny (model X.prog X.w) X.A (eval a X.env) (fun v s₁ => wpAny (model X.prog X.w) X.A (eval b X.env) (fun u s₂ => wpAny (model X.prog X.w) X.A (f v u) Q X.xe s₂) X.xe s₁) X.xe s := by
  refine thn (ha pins s σ H _ I h) fun v s1 ⟨x, H1, I1, r1, q1⟩ => ?_
  refine thn (hb pins s1 σ H1 _ I1 q1) fun u s2 ⟨y, H2, I2, r2, q2⟩ => ?_
  exact hf v u s2 x y H2 I2 r1 r2 q2

theorem pe_op {op : Operator} {r : R2} (ho : OpR X (binaryOp op) r) (ha : PE X a ta) (hb : PE X b tb) : PE X (.BinOp a op b pos) (tOp r ta tb) := by
  intro pins s σ H Q I h
  exact wpAny_BinOp (binT ha hb I h fun v u s2 x y H2 I2 rx ry q => ho pins s2 σ H2 x y v u Q I2 rx ry q)
theorem pe_un {op : UnaryOp} {r : V → Hp → VK → Prop} (ho : UnR X (unaryOp op) r) (ha : PE X a ta) : PE X (.UnaryOp op a pos) (tUn r ta) := by
  intro pins s σ H Q I h
  exact UnaryOp_ (thn (ha pins s σ H _ I h) fun v s1 ⟨x, H1, I1, r1, q1⟩ => ho pins s1 σ H1 x v Q I1 r1 q1)
/-- a op= e at a name: the name's slot i -/
theorem augR {op : Operator} {r : R2} (ho : OpR X (inplaceOp op) r) {pins : List (Addr × Obj)} {s : Shared} {σ : St} {H : Hp} {x y : V} {v u : Value} {Q : VK} (I : Inv X pins σ H s)
    (rx : RelV x v) (ry : RelV y u) (q : r x y H Q) : wpAny (model X.prog X.w) X.A (inplaceOp op v u) (EP X pins σ Q) X.xe s := ho pins s σ H x y v u Q I rx ry q

/-! ### ints -/
theorem opI {f : Value → Value → Sem Value} {C : Int → Int → Prop} {g : Int → Int → Int}
    (rule : ∀ (i j : Int) (t u : Tok) (s : Shared) (Q : Value → Shared → Prop) (E : Value → Shared → Prop), C i j → Q (.int (g i j) s.toks) { s with toks := s.toks + 1 } → wpAny (model X.prog X.w) X.A (f (.int i t) (.int j u)) Q E s) :
    OpR X f (rI C fun i j => .int (g i j)) := by
  intro pins s σ H x y v u Q I rx ry h
  obtain ⟨i, j, rfl, rfl, hc, q⟩ := h
  obtain ⟨t, rfl⟩ := rx
  obtain ⟨t', rfl⟩ := ry
  exact rule i j t t' s _ _ hc ⟨.int (g i j), H, I.tok _, ⟨_, rfl⟩, q⟩
theorem opI0 {f : Value → Value → Sem Value} {g : Int → Int → Int}
    (rule : ∀ (i j : Int) (t u : Tok) (s : Shared) (Q : Value → Shared → Prop) (E : Value → Shared → Prop), Q (.int (g i j) s.toks) { s with toks := s.toks + 1 } → wpAny (model X.prog X.w) X.A (f (.int i t) (.int j u)) Q E s) :
    OpR X f (rI0 fun i j => .int (g i j)) := by
  intro pins s σ H x y v u Q I rx ry h
  obtain ⟨i, j, rfl, rfl, q⟩ := h
  obtain ⟨t, rfl⟩ := rx
  obtain ⟨t', rfl⟩ := ry
  exact rule i j t t' s _ _ ⟨.int (g i j), H, I.tok _, ⟨_, rfl⟩, q⟩
theorem opB0 {f : Value → Value → Sem Value} {g : Int → Int → Bool}
    (rule : ∀ (i j : Int) (t u : Tok) (s : Shared) (Q : Value → Shared → Prop) (E : Value → Shared → Prop), Q (.bool (g i j)) s → wpAny (model X.prog X.w) X.A (f (.int i t) (.int j u)) Q E s) :
    OpR X f (rI0 fun i j => .bl (g i j)) := by
  intro pins s σ H x y v u Q I rx ry h
  obtain ⟨i, j, rfl, rfl, q⟩ := h
  obtain ⟨t, rfl⟩ := rx
  obtain ⟨t', rfl⟩ := ry
  exact rule i j t t' s _ _ ⟨.bl (g i j), H, I, rfl, q⟩

def CDiv (i j : Int) : Prop := 0 < j ∧ j < 1073741824
def CDivN (i j : Int) : Prop := j ≠ 0 ∧ j.natAbs < 1073741824
def CPow (i j : Int) : Prop := 0 ≤ j ∧ j ≤ 1000000 ∧ i.natAbs < 2 ^ 64
def CMul (i j : Int) : Prop := (-(2 ^ 64) < i ∧ i < 2 ^ 64) ∨ (-(2 ^ 64) < j ∧ j < 2 ^ 64)
theorem CMul.ok {i j : Int} (h : CMul i j) : IntMulOk i j := by
  rcases h with ⟨h1, h2⟩ | ⟨h1, h2⟩
  · exact .of_left (intBits_le_64 h1 h2)
  · exact .of_right (intBits_le_64 h1 h2)
theorem two_pow_nn (k : Nat) : (0 : Int) ≤ 2 ^ k := by
  rw [two_pow_cast]
  exact Int.natCast_nonneg _

theorem op_add : OpR X (binaryOp .Add) (rI0 fun i j => .int (i + j)) := opI0 fun _ _ _ _ _ _ _ q => add_int q
theorem op_sub : OpR X (binaryOp .Sub) (rI0 fun i j => .int (i - j)) := opI0 fun _ _ _ _ _ _ _ q => sub_int q
theorem op_mul : OpR X (binaryOp .Mult) (rI CMul fun i j => .int (i * j)) := opI fun _ _ _ _ _ _ _ hc q => mul_int q hc.ok
/-- // by a positive divisor -/
theorem op_fdiv : OpR X (binaryOp .FloorDiv) (rI CDiv fun i j => .int (i / j)) := opI fun i j _ _ _ _ _ hc q => by
  have h1 : (0 : Int) < j := hc.1
  have h2 : j < 1073741824 := hc.2
  exact floordiv_int (by omega) (by rw [Int.fdiv_eq_ediv_of_nonneg i (by omega)]; exact q) (.inl (PyProof.noPylong_small (by omega)))
theorem op_fdivN : OpR X (binaryOp .FloorDiv) (rI CDivN fun i j => .int (i.fdiv j)) := opI fun _ _ _ _ _ _ _ hc q => floordiv_int hc.1 q (.inl (PyProof.noPylong_small hc.2))
/-- % by a positive divisor of any size -/
theorem op_mod : OpR X (binaryOp .Mod) (rI (fun _ j => 0 < j) fun i j => .int (i % j)) := opI fun i j _ _ _ _ _ hc q => by
  have h1 : (0 : Int) < j := hc
  exact mod_int' (by omega) (by rw [Int.fmod_eq_emod_of_nonneg i (by omega)]; exact q)
theorem op_modN : OpR X (binaryOp .Mod) (rI (fun _ j => j ≠ 0) fun i j => .int (i.fmod j)) := opI fun _ _ _ _ _ _ _ hc q => mod_int' hc q
theorem op_pow : OpR X (binaryOp .Pow) (rI CPow fun i j => .int (i ^ j.toNat)) := opI fun _ _ _ _ _ _ _ hc q => pow_int_small hc.1 hc.2.1 hc.2.2 q
theorem op_shl : OpR X (binaryOp .LShift) (rI CPow fun i j => .int (i * 2 ^ j.toNat)) := opI fun _ _ _ _ _ _ _ hc q => lshift_int_small hc.1 hc.2.1 hc.2.2 q
theorem op_shr : OpR X (binaryOp .RShift) (rI (fun _ j => 0 ≤ j) fun i j => .int (i / 2 ^ j.toNat)) := opI fun i j _ _ _ _ _ hc q =>
  rshift_int hc (by rw [Int.fdiv_eq_ediv_of_nonneg i (two_pow_nn _)]; exact q)
theorem op_and : OpR X (binaryOp .BitAnd) (rI0 fun i j => .int (Builtin.bitAnd i j)) := opI0 fun _ _ _ _ _ _ _ q => and_int q
theorem op_or : OpR X (binaryOp .BitOr) (rI0 fun i j => .int (Builtin.bitOr i j)) := opI0 fun _ _ _ _ _ _ _ q => or_int q
theorem op_xor : OpR X (binaryOp .BitXor) (rI0 fun i j => .int (Builtin.bitXor i j)) := opI0 fun _ _ _ _ _ _ _ q => xor_int q

theorem iop_add : OpR X (inplaceOp .Add) (rI0 fun i j => .int (i + j)) := opI0 fun _ _ _ _ _ _ _ q => iadd_int q
theorem iop_sub : OpR X (inplaceOp .Sub) (rI0 fun i j => .int (i - j)) := opI0 fun _ _ _ _ _ _ _ q => isub_int q
theorem iop_mul : OpR X (inplaceOp .Mult) (rI CMul fun i j => .int (i * j)) := opI fun _ _ _ _ _ _ _ hc q => imul_int q hc.ok
theorem iop_fdiv : OpR X (inplaceOp .FloorDiv) (rI CDiv fun i j => .int (i / j)) := opI fun i j _ _ _ _ _ hc q => by
  have h1 : (0 : Int) < j := hc.1
  have h2 : j < 1073741824 := hc.2
  exact ifloordiv_int (by omega) (by rw [Int.fdiv_eq_ediv_of_nonneg i (by omega)]; exact q) (.inl (PyProof.noPylong_small (by omega)))
theorem iop_mod : OpR X (inplaceOp .Mod) (rI (fun _ j => 0 < j) fun i j => .int (i % j)) := opI fun i j _ _ _ _ _ hc q => by
  have h1 : (0 : Int) < j := hc
  exact imod_int (by omega) (by rw [Int.fmod_eq_emod_of_nonneg i (by omega)]; exact q)
theorem iop_shl : OpR X (inplaceOp .LShift) (rI CPow fun i j => .int (i * 2 ^ j.toNat)) := opI fun _ _ _ _ _ _ _ hc q => ilshift_int_small hc.1 hc.2.1 hc.2.2 q
theorem iop_shr : OpR X (inplaceOp .RShift) (rI (fun _ j => 0 ≤ j) fun i j => .int (i / 2 ^ j.toNat)) := opI fun i j _ _ _ _ _ hc q =>
  irshift_int hc (by rw [Int.fdiv_eq_ediv_of_nonneg i (two_pow_nn _)]; exact q)
theorem iop_and : OpR X (inplaceOp .BitAnd) (rI0 fun i j => .int (Builtin.bitAnd i j)) := opI0 fun _ _ _ _ _ _ _ q => iand_int q
theorem iop_or : OpR X (inplaceOp .BitOr) (rI0 fun i j => .int (Builtin.bitOr i j)) := opI0 fun _ _ _ _ _ _ _ q => ior_int q
theorem iop_xor : OpR X (inplaceOp .BitXor) (rI0 fun i j => .int (Builtin.bitXor i j)) := opI0 fun _ _ _ _ _ _ _ q => ixor_int q

theorem unI {f : Value → Sem Value} {g : Int → Int}
    (rule : ∀ (i : Int) (t : Tok) (s : Shared) (Q : Value → Shared → Prop) (E : Value → Shared → Prop), Q (.int (g i) s.toks) { s with toks := s.toks + 1 } → wpAny (model X.prog X.w) X.A (f (.int i t)) Q E s) :
    UnR X f (rU fun i => .int (g i)) := by
  intro pins s σ H x v Q I rx h
  obtain ⟨i, rfl, q⟩ := h
  obtain ⟨t, rfl⟩ := rx
  exact rule i t s _ _ ⟨.int (g i), H, I.tok _, ⟨_, rfl⟩, q⟩
theorem un_neg : UnR X (unaryOp .USub) (rU fun i => .int (-i)) := unI fun _ _ _ _ _ q => neg_int q
theorem un_inv : UnR X (unaryOp .Invert) (rU fun i => .int (Builtin.bitNot i)) := unI fun _ _ _ _ _ q => invert_int q

/-! ### bools among ints: n += (a < b) -/
theorem op_add_ib : OpR X (binaryOp .Add) (fun x y H Q => ∃ i k, x = .int i ∧ y = .bl k ∧ Q (.int (i + b2i k)) H) := by
  intro pins s σ H x y v u Q I rx ry h
  obtain ⟨i, k, rfl, rfl, q⟩ := h
  obtain ⟨t, rfl⟩ := rx
  cases ry
  exact add_int_bool ⟨.int (i + b2i k), H, I.tok _, ⟨_, rfl⟩, q⟩
end

/-! ### comparisons -/
/-- the scalars that == tells apart as data does -/
def scal : V → V → Bool
  | .non, .non => true | .non, .int _ => true | .int _, .non => true | .non, .bl _ => true | .bl _, .non => true | .non, .str _ => true | .str _, .non => true
  | .int _, .int _ => true | .bl _, .bl _ => true | .str _, .str _ => true | .byt _, .byt _ => true
  | .int _, .str _ => true | .str _, .int _ => true | .bl _, .str _ => true | .str _, .bl _ => true
  | _, _ => false
def rEq : R2 := fun x y H Q => scal x y = true ∧ Q (.bl (decide (x = y))) H
def rNe : R2 := fun x y H Q => scal x y = true ∧ Q (.bl (!decide (x = y))) H

theorem dec_int {i j : Int} : decide (V.int i = V.int j) = (i == j) := by
  rw [Bool.eq_iff_iff]
  simp
theorem dec_bl {i j : Bool} : decide (V.bl i = V.bl j) = (i == j) := by
  rw [Bool.eq_iff_iff]
  simp
theorem dec_str {i j : Str} : decide (V.str i = V.str j) = (i == j) := by
  rw [Bool.eq_iff_iff]
  simp
theorem dec_byt {i j : Array UInt8} : decide (V.byt i = V.byt j) = (i.toList == j.toList) := by
  rw [Bool.eq_iff_iff]
  cases i
  cases j
  simp

section
variable {X : Cx} {a b c : Expr} {ta tb tc : TE} {pos : Pos}
theorem fin_bl {pins : List (Addr × Obj)} {σ : St} {H : Hp} {s : Shared} {Q : VK} {k k' : Bool} (I : Inv X pins σ H s) (q : Q (.bl k) H) (e : k = k') : EP X pins σ Q (.bool k') s := by
  subst e
  exact ⟨.bl k, H, I, rfl, q⟩
theorem op_eq : OpR X (compareOp .Eq) rEq := by
  intro pins s σ H x y v u Q I rx ry h
  obtain ⟨hs, q⟩ := h
  cases x with
  | non =>
    cases rx
    cases y with
    | non => cases ry; exact PySem.EqNone.eq_none_none (fin_bl I q (by simp))
    | bl j => cases ry; exact PySem.EqNone.eq_none_bool (fin_bl I q (by simp))
    | int j => obtain ⟨t', rfl⟩ := ry; exact PySem.EqNone.eq_none_int (fin_bl I q (by simp))
    | str j => obtain ⟨t', rfl⟩ := ry; exact PySem.EqNone.eq_none_str (fin_bl I q (by simp))
    | _ => exact absurd (show false = true from hs) Bool.false_ne_true
  | bl i =>
    cases rx
    cases y with
    | non => cases ry; exact PySem.EqNone.eq_bool_none (fin_bl I q (by simp))
    | bl j => cases ry; exact eq_bool (fin_bl I q dec_bl)
    | str j => obtain ⟨t', rfl⟩ := ry; exact PySem.EqMixed.eq_bool_str (fin_bl I q (by simp))
    | _ => exact absurd (show false = true from hs) Bool.false_ne_true
  | int i =>
    obtain ⟨t, rfl⟩ := rx
    cases y with
    | non => cases ry; exact PySem.EqNone.eq_int_none (fin_bl I q (by simp))
    | int j => obtain ⟨t', rfl⟩ := ry; exact eq_int (fin_bl I q dec_int)
    | str j => obtain ⟨t', rfl⟩ := ry; exact PySem.EqMixed.eq_int_str (fin_bl I q (by simp))
    | _ => exact absurd (show false = true from hs) Bool.false_ne_true
  | str i =>
    obtain ⟨t, rfl⟩ := rx
    cases y with
    | non => cases ry; exact PySem.EqNone.eq_str_none (fin_bl I q (by simp))
    | bl j => cases ry; exact PySem.EqMixed.eq_str_bool (fin_bl I q (by simp))
    | int j => obtain ⟨t', rfl⟩ := ry; exact PySem.EqMixed.eq_str_int (fin_bl I q (by simp))
    | str j => obtain ⟨t', rfl⟩ := ry; exact eq_str (fin_bl I q dec_str)
    | _ => exact absurd (show false = true from hs) Bool.false_ne_true
  | byt i =>
    obtain ⟨t, rfl⟩ := rx
    cases y with
    | byt j => obtain ⟨t', rfl⟩ := ry; exact PySem.W.eq_bytes (fin_bl I q dec_byt)
    | _ => exact absurd (show false = true from hs) Bool.false_ne_true
  | _ => cases y <;> exact absurd (show false = true from hs) Bool.false_ne_true
theorem op_ne : OpR X (compareOp .NotEq) rNe := by
  intro pins s σ H x y v u Q I rx ry h
  obtain ⟨hs, q⟩ := h
  cases x with
  | non =>
    cases rx
    cases y with
    | non => cases ry; exact PySem.EqNone.ne_none_none (fin_bl I q (by simp))
    | bl j => cases ry; exact PySem.EqNone.ne_none_bool (fin_bl I q (by simp))
    | int j => obtain ⟨t', rfl⟩ := ry; exact PySem.EqNone.ne_none_int (fin_bl I q (by simp))
    | str j => obtain ⟨t', rfl⟩ := ry; exact PySem.EqNone.ne_none_str (fin_bl I q (by simp))
    | _ => exact absurd (show false = true from hs) Bool.false_ne_true
  | bl i =>
    cases rx
    cases y with
    | non => cases ry; exact PySem.EqNone.ne_bool_none (fin_bl I q (by simp))
    | bl j => cases ry; exact ne_bool (fin_bl I q (congrArg not dec_bl))
    | str j => obtain ⟨t', rfl⟩ := ry; exact PySem.EqMixed.ne_bool_str (fin_bl I q (by simp))
    | _ => exact absurd (show false = true from hs) Bool.false_ne_true
  | int i =>
    obtain ⟨t, rfl⟩ := rx
    cases y with
    | non => cases ry; exact PySem.EqNone.ne_int_none (fin_bl I q (by simp))
    | int j => obtain ⟨t', rfl⟩ := ry; exact ne_int (fin_bl I q (congrArg not dec_int))
    | str j => obtain ⟨t', rfl⟩ := ry; exact PySem.EqMixed.ne_int_str (fin_bl I q (by simp))
    | _ => exact absurd (show false = true from hs) Bool.false_ne_true
  | str i =>
    obtain ⟨t, rfl⟩ := rx
    cases y with
    | non => cases ry; exact PySem.EqNone.ne_str_none (fin_bl I q (by simp))
    | bl j => cases ry; exact PySem.EqMixed.ne_str_bool (fin_bl I q (by simp))
    | int j => obtain ⟨t', rfl⟩ := ry; exact PySem.EqMixed.ne_str_int (fin_bl I q (by simp))
    | str j => obtain ⟨t', rfl⟩ := ry; exact ne_str (fin_bl I q (congrArg not dec_str))
    | _ => exact absurd (show false = true from hs) Bool.false_ne_true
  | byt i =>
    obtain ⟨t, rfl⟩ := rx
    cases y with
    | byt j => obtain ⟨t', rfl⟩ := ry; exact PySem.W.ne_bytes (fin_bl I q (congrArg not dec_byt))
    | _ => exact absurd (show false = true from hs) Bool.false_ne_true
  | _ => cases y <;> exact absurd (show false = true from hs) Bool.false_ne_true

theorem op_lt : OpR X (compareOp .Lt) (rI0 fun i j => .bl (decide (i < j))) := opB0 fun _ _ _ _ _ _ _ q => lt_int q
theorem op_le : OpR X (compareOp .LtE) (rI0 fun i j => .bl (decide (i ≤ j))) := opB0 fun _ _ _ _ _ _ _ q => le_int q
theorem op_gt : OpR X (compareOp .Gt) (rI0 fun i j => .bl (decide (j < i))) := opB0 fun _ _ _ _ _ _ _ q => gt_int q
theorem op_ge : OpR X (compareOp .GtE) (rI0 fun i j => .bl (decide (j ≤ i))) := opB0 fun _ _ _ _ _ _ _ q => ge_int q
theorem op_lt_str : OpR X (compareOp .Lt) (fun x y H Q => ∃ i j, x = .str i ∧ y = .str j ∧ Q (.bl (decide (i.cps.toList < j.cps.toList))) H) := by
  intro pins s σ H x y v u Q I rx ry h
  obtain ⟨i, j, rfl, rfl, q⟩ := h
  obtain ⟨t, rfl⟩ := rx
  obtain ⟨t', rfl⟩ := ry
  exact lt_str (fin_bl I q rfl)
/-- the one string within the other -/
theorem op_in_str : OpR X (compareOp .In) (fun x y H Q => ∃ i j, x = .str i ∧ y = .str j ∧ Q (.bl (!(Builtin.Str.occurrences j i 0 j.length 1).isEmpty)) H) := by
  intro pins s σ H x y v u Q I rx ry h
  obtain ⟨i, j, rfl, rfl, q⟩ := h
  obtain ⟨t, rfl⟩ := rx
  obtain ⟨t', rfl⟩ := ry
  exact in_str (fin_bl I q rfl)

/-- is None, is not None: the right side a value none -/
theorem op_isN : OpR X (compareOp .Is) (fun x y H Q => y = .non ∧ Q (.bl (decide (x = .non))) H) := by
  intro pins s σ H x y v u Q I rx ry h
  obtain ⟨rfl, q⟩ := h
  cases ry
  refine is_none_gen (fin_bl I q ?_)
  cases x <;> first
    | (cases rx; rfl)
    | (obtain ⟨t, rfl⟩ := rx; rfl)
theorem op_notN : OpR X (compareOp .IsNot) (fun x y H Q => y = .non ∧ Q (.bl (!decide (x = .non))) H) := by
  intro pins s σ H x y v u Q I rx ry h
  obtain ⟨rfl, q⟩ := h
  cases ry
  refine isnot_none_gen (fin_bl I q ?_)
  cases x <;> first
    | (cases rx; rfl)
    | (obtain ⟨t, rfl⟩ := rx; rfl)

theorem op_notin_str : OpR X (compareOp .NotIn) (fun x y H Q => ∃ i j, x = .str i ∧ y = .str j ∧ Q (.bl (!(!(Builtin.Str.occurrences j i 0 j.length 1).isEmpty))) H) := by
  intro pins s σ H x y v u Q I rx ry h
  obtain ⟨i, j, rfl, rfl, q⟩ := h
  obtain ⟨t, rfl⟩ := rx
  obtain ⟨t', rfl⟩ := ry
  exact notIn_str (fin_bl I q rfl)
/-- is, is not of two objects that are tracked lists or instances -/
def isObj : HO → Bool
  | .lst _ => true
  | .ins _ _ _ => true
  | _ => false
theorem obj_there {pins : List (Addr × Obj)} {s : Shared} {σ : St} {H : Hp} {a : Addr} {o : HO} (I : Inv X pins σ H s) (h : H a = some o) (p : isObj o = true) : ∃ ob, s.heap.get? a = some ob ∧ ob.cls ≠ .type "tuple" := by
  cases o with
  | lst xs =>
    obtain ⟨_, its, n, _, e⟩ : xs.length ≤ sizeLine ∧ ∃ (its : List Value) (n : Nat), Vals xs its ∧ s.heap.get? a = some { cls := .type "list", data := .seq its.toArray n } := I.hok a _ h
    exact ⟨_, e, (by show Value.type "list" ≠ .type "tuple"; decide +kernel)⟩
  | ins C dx fs =>
    have x := I.hok a _ h
    obtain ⟨_, _, _, e, _⟩ := x
    exact ⟨_, e, (by show Value.ref C ≠ .type "tuple"; exact fun z => by cases z)⟩
  | _ => exact absurd (show false = true from p) Bool.false_ne_true
theorem op_is_ref : OpR X (compareOp .Is) (fun x y H Q => ∃ a b oa ob, x = .ref a ∧ y = .ref b ∧ H a = some oa ∧ isObj oa = true ∧ H b = some ob ∧ isObj ob = true ∧ Q (.bl (decide (a = b))) H) := by
  intro pins s σ H x y v u Q I rx ry h
  obtain ⟨a, b, oa, ob, rfl, rfl, ha, pa, hb, pb, q⟩ := h
  cases rx
  cases ry
  obtain ⟨o1, e1, n1⟩ := obj_there I ha pa
  obtain ⟨o2, e2, _⟩ := obj_there I hb pb
  by_cases z : a = b
  · subst z
    exact wpAny_is_ref_self (fin_bl I q (by simp))
  · exact wpAny_is_ref_other z e1 e2 n1 (fin_bl I q (by simp [z]))
theorem op_isnot_ref : OpR X (compareOp .IsNot) (fun x y H Q => ∃ a b oa ob, x = .ref a ∧ y = .ref b ∧ H a = some oa ∧ isObj oa = true ∧ H b = some ob ∧ isObj ob = true ∧ Q (.bl (!decide (a = b))) H) := by
  intro pins s σ H x y v u Q I rx ry h
  obtain ⟨a, b, oa, ob, rfl, rfl, ha, pa, hb, pb, q⟩ := h
  cases rx
  cases ry
  obtain ⟨o1, e1, n1⟩ := obj_there I ha pa
  obtain ⟨o2, e2, _⟩ := obj_there I hb pb
  by_cases z : a = b
  · subst z
    exact wpAny_isNot_ref_self (fin_bl I q (by simp))
  · exact wpAny_isNot_ref_other z e1 e2 n1 (fin_bl I q (by simp [z]))

/-- two rules for one operation: by cases -/
theorem OpR.or {f : Value → Value → Sem Value} {r r' : R2} (h : OpR X f r) (h' : OpR X f r') : OpR X f (fun x y H Q => r x y H Q ∨ r' x y H Q) := by
  intro pins s σ H x y v u Q I rx ry q
  rcases q with q | q
  · exact h pins s σ H x y v u Q I rx ry q
  · exact h' pins s σ H x y v u Q I rx ry q

theorem nomark (b : Expr) {op : CmpOp} (h : op ≠ .In := by decide) (h2 : op ≠ .NotIn := by decide) : behindInMarks op b = false := by
  have e1 : (op == CmpOp.In) = false := by cases op <;> first | rfl | exact absurd rfl h
  have e2 : (op == CmpOp.NotIn) = false := by cases op <;> first | rfl | exact absurd rfl h2
  cases b <;> simp [behindInMarks, e1, e2]
/-- a comparison as a value; hm: nomark b, or (for in, not in) by with_unfolding_all rfl -/
theorem pe_cmpR {op : CmpOp} {r : R2} (ho : OpR X (compareOp op) r) (ha : PE X a ta) (hb : PE X b tb) (hm : behindInMarks op b = false) : PE X (.Compare a [op] [b] pos) (tOp r ta tb) := by
  intro pins s σ H Q I h
  exact wpAny_Compare1 (binT ha hb I h fun v u s2 x y H2 I2 rx ry q => ho pins s2 σ H2 x y v u Q I2 rx ry q) hm
/-- a reading of a value as a test -/
def tTest (t : TE) : TT := fun σ H Q => t σ H fun x H' => ∃ k, x = .bl k ∧ Q k H'
theorem pt_cmpR {op : CmpOp} {r : R2} (ho : OpR X (compareOp op) r) (ha : PE X a ta) (hb : PE X b tb) (hm : behindInMarks op b = false) : PT X (.Compare a [op] [b] pos) (tTest (tOp r ta tb)) := by
  intro pins s σ H Q I h
  refine wpAny_isTrue_Compare1 (thn (ha pins s σ H _ I h) fun v s1 ⟨x, H1, I1, r1, q1⟩ => thn (hb pins s1 σ H1 _ I1 q1) fun u s2 ⟨y, H2, I2, r2, q2⟩ =>
    thn (ho pins s2 σ H2 x y v u _ I2 r1 r2 q2) fun c s3 ⟨z, H3, I3, r3, k, e, q3⟩ => ?_) hm
  subst e
  cases r3
  exact wpAny_truthy_bool ⟨H3, I3, q3⟩
/-- a op1 b op2 c -/
def tChain (r r' : R2) (ta tb tc : TE) : TE := fun σ H Q => ta σ H fun x H1 => tb σ H1 fun y H2 => r x y H2 fun z H3 => ∃ k, z = .bl k ∧
  (if k = true then tc σ H3 fun w' H4 => r' y w' H4 Q else Q (.bl false) H3)
theorem pe_chain {op op' : CmpOp} {r r' : R2} (ho : OpR X (compareOp op) r) (ho' : OpR X (compareOp op') r') (ha : PE X a ta) (hb : PE X b tb) (hc : PE X c tc)
    (hm : lastMarks [op, op'] [b, c] = false := by with_unfolding_all rfl) : PE X (.Compare a [op, op'] [b, c] pos) (tChain r r' ta tb tc) := by
  intro pins s σ H Q I h
  refine Compare_chain (thn (ha pins s σ H _ I h) fun v s1 ⟨x, H1, I1, r1, q1⟩ => chain_link (thn (hb pins s1 σ H1 _ I1 q1) fun u s2 ⟨y, H2, I2, r2, q2⟩ =>
    thn (ho pins s2 σ H2 x y v u _ I2 r1 r2 q2) fun d s3 ⟨z, H3, I3, r3, k, e, q3⟩ => ?_)) hm
  subst e
  cases r3
  refine wpAny_truthy_bool ?_
  cases k with
  | false => exact ite_ff ⟨.bl false, H3, I3, rfl, q3⟩
  | true => exact ite_tt (chain_last (thn (hc pins s3 σ H3 _ I3 q3) fun w' s4 ⟨z', H4, I4, r4, q4⟩ => ho' pins s4 σ H4 y z' u w' Q I4 r2 r4 q4))
theorem pt_chain {op op' : CmpOp} {r r' : R2} (ho : OpR X (compareOp op) r) (ho' : OpR X (compareOp op') r') (ha : PE X a ta) (hb : PE X b tb) (hc : PE X c tc)
    (hm : lastMarks [op, op'] [b, c] = false := by with_unfolding_all rfl) : PT X (.Compare a [op, op'] [b, c] pos) (tTest (tChain r r' ta tb tc)) := by
  intro pins s σ H Q I h
  refine isTrue_chain (thn (ha pins s σ H _ I h) fun v s1 ⟨x, H1, I1, r1, q1⟩ => test_link (thn (hb pins s1 σ H1 _ I1 q1) fun u s2 ⟨y, H2, I2, r2, q2⟩ =>
    thn (ho pins s2 σ H2 x y v u _ I2 r1 r2 q2) fun d s3 ⟨z, H3, I3, r3, k, e, q3⟩ => ?_)) hm
  subst e
  cases r3
  refine wpAny_truthy_bool ?_
  cases k with
  | false =>
    obtain ⟨k', e', q'⟩ := q3
    cases e'
    exact ite_ff ⟨H3, I3, q'⟩
  | true =>
    refine ite_tt (test_last (thn (hc pins s3 σ H3 _ I3 q3) fun w' s4 ⟨z', H4, I4, r4, q4⟩ => thn (ho' pins s4 σ H4 y z' u w' _ I4 r2 r4 q4) fun d' s5 ⟨z2, H5, I5, r5, k2, e2, q5⟩ => ?_))
    subst e2
    cases r5
    exact wpAny_truthy_bool ⟨H5, I5, q5⟩

/-! ### truth -/
/-- a value's truth by the abstract heap -/
def TruV (K : PySem.W.Frag) (x : V) (H : Hp) (k : Bool) : Prop :=
  match x with
  | .non => k = false
  | .bl b => k = b
  | .int i => k = (i != 0)
  | .str y => y.length ≤ sizeLine ∧ k = ((y.length : Int) != 0)
  | .byt y => y.size ≤ sizeLine ∧ k = ((y.size : Int) != 0)
  | .ref p => (∃ xs, SqL K H p xs ∧ k = !xs.isEmpty) ∨ (∃ xs, SqT K H p xs ∧ k = !xs.isEmpty) ∨ ∃ kvs, H p = some (.dK kvs) ∧ k = !kvs.isEmpty
  | _ => False
theorem isEmpty_kv {κ : Type} {kvs : List (κ × V)} {vs : List (κ × Value)} (r : KV kvs vs) : (!vs.isEmpty) = !kvs.isEmpty := by
  cases r <;> rfl
theorem isEmpty_of {xs : List V} {its : List Value} (r : Vals xs its) : (!its.toArray.isEmpty) = !xs.isEmpty := by
  cases r <;> simp
theorem line63 : (sizeLine : Nat) < 2 ^ 63 := by rw [sizeLine_eq]; decide
theorem tru_ok : TruR X (fun x H Q => ∃ k, TruV X.K x H k ∧ Q k H) := by
  intro pins s σ H x v Q I rx h
  obtain ⟨k, e, q⟩ := h
  have hl := line63
  have hs : sizeLine = 16777216 := sizeLine_eq
  cases x with
  | non =>
    cases rx
    have e' : k = false := e
    subst e'
    exact truthy_none ⟨H, I, q⟩
  | bl b =>
    cases rx
    have e' : k = b := e
    subst e'
    exact wpAny_truthy_bool ⟨H, I, q⟩
  | int i =>
    obtain ⟨t, rfl⟩ := rx
    have e' : k = (i != 0) := e
    subst e'
    exact PySem.P.truthy_int ⟨H, I, q⟩
  | str y =>
    obtain ⟨t, rfl⟩ := rx
    obtain ⟨hy, e'⟩ : y.length ≤ sizeLine ∧ k = ((y.length : Int) != 0) := e
    subst e'
    exact PySem.P.truthy_str (by omega) ⟨H, I.tok _, q⟩
  | byt y =>
    obtain ⟨t, rfl⟩ := rx
    obtain ⟨hy, e'⟩ : y.size ≤ sizeLine ∧ k = ((y.size : Int) != 0) := e
    subst e'
    exact PySem.W.truthy_bytes (by omega) ⟨H, I.tok _, q⟩
  | ref p =>
    cases rx
    have e' : (∃ xs, SqL X.K H p xs ∧ k = !xs.isEmpty) ∨ (∃ xs, SqT X.K H p xs ∧ k = !xs.isEmpty) ∨ ∃ kvs, H p = some (.dK kvs) ∧ k = !kvs.isEmpty := e
    rcases e' with ⟨xs, hx, e'⟩ | ⟨xs, hx, e'⟩ | ⟨kvs, hx, e'⟩
    · subst e'
      obtain ⟨its, r, pl, hz⟩ := I.list hx
      have hlen := r.length
      exact wpAny_truthy_list pl.isList (by simp only [List.size_toArray]; omega) ⟨H, I.tok _, by rw [isEmpty_of r]; exact q⟩
    · subst e'
      obtain ⟨its, r, pl, hz⟩ := I.tuple hx
      have hlen := r.length
      exact truthy_tuple pl (by simp only [List.size_toArray]; omega) ⟨H, I.tok _, by rw [isEmpty_of r]; exact q⟩
    · subst e'
      obtain ⟨hz, hS, vs, r, m⟩ : kvs.length ≤ sizeLine ∧ (p == sysModules) = false ∧ ∃ vs, KV kvs vs ∧ s.heap.DictOf (mixKind X.prog X.w) p vs := I.hok p _ hx
      have hlen : kvs.length = vs.length := Paired.length r
      exact wpAny_truthy_dict hS m (by omega) ⟨H, I.tok _, by rw [isEmpty_kv r]; exact q⟩
  | _ => exact (show False from e).elim
/-- any expression whose test is its value's truth (a name, a call, a subscript, a field ..: he by fun _ => rfl) -/
theorem pt_truth (ha : PE X a ta) (he : ∀ whole, isTrue a X.env whole = (do let v ← whole; standAt a.pos; holding [v] (truthy v))) :
    PT X a (fun σ H Q => ta σ H fun x H' => ∃ k, TruV X.K x H' k ∧ Q k H') := by
  intro pins s σ H Q I h
  exact isTrue_plain (thn (ha pins s σ H _ I h) fun v s1 ⟨x, H1, I1, r1, q1⟩ => tru_ok pins s1 σ H1 x v Q I1 r1 q1) (he _)

/-! ### strs and bytes -/
theorem pe_byt {x : List UInt8} {k : Nat} : PE X (.Constant (.bytes x) k pos) (fun _ H Q => Q (.byt x.toArray) H) := fun _ _ _ H _ I h => PySem.W.Constant_bytes ⟨.byt x.toArray, H, I.tok _, ⟨_, rfl⟩, h⟩
theorem op_add_str : OpR X (binaryOp .Add) (fun x y H Q => ∃ i j, x = .str i ∧ y = .str j ∧ i.length + j.length ≤ sizeLine ∧ Q (.str (i ++ j)) H) := by
  intro pins s σ H x y v u Q I rx ry h
  obtain ⟨i, j, rfl, rfl, hz, q⟩ := h
  obtain ⟨t, rfl⟩ := rx
  obtain ⟨t', rfl⟩ := ry
  exact add_str (fun t' tk => ⟨.str (i ++ j), H, I.tok _, ⟨_, rfl⟩, q⟩) hz
theorem iop_add_str : OpR X (inplaceOp .Add) (fun x y H Q => ∃ i j, x = .str i ∧ y = .str j ∧ i.length + j.length ≤ sizeLine ∧ Q (.str (i ++ j)) H) := by
  intro pins s σ H x y v u Q I rx ry h
  obtain ⟨i, j, rfl, rfl, hz, q⟩ := h
  obtain ⟨t, rfl⟩ := rx
  obtain ⟨t', rfl⟩ := ry
  exact iadd_str (fun t' tk => ⟨.str (i ++ j), H, I.tok _, ⟨_, rfl⟩, q⟩) hz
theorem op_add_byt : OpR X (binaryOp .Add) (fun x y H Q => ∃ i j, x = .byt i ∧ y = .byt j ∧ i.size + j.size ≤ 16777216 ∧ Q (.byt (i ++ j)) H) := by
  intro pins s σ H x y v u Q I rx ry h
  obtain ⟨i, j, rfl, rfl, hz, q⟩ := h
  obtain ⟨t, rfl⟩ := rx
  obtain ⟨t', rfl⟩ := ry
  exact PySem.W.KBy.add_bytes hz (fun t' tk => ⟨.byt (i ++ j), H, I.tok _, ⟨_, rfl⟩, q⟩)

def PlainIxT (b : Expr) : Prop := ∀ o i, subscripted b false o i = operate [o, i] (getItem o i)
/-- s[i], 0 ≤ i < len -/
theorem pe_item_str (ha : PE X a ta) (hb : PE X b tb) (hs : PlainIxT b) :
    PE X (.Subscript a b pos) (tOp (fun x y H Q => ∃ z i c, x = .str z ∧ y = .int i ∧ 0 ≤ i ∧ i < 2 ^ 63 ∧ i < z.length ∧ z.cps[i.toNat]? = some c ∧ Q (.str ⟨#[c]⟩) H) ta tb) := by
  intro pins s σ H Q I h
  refine Subscript_ (binT ha hb I h fun v u s2 x y H2 I2 rx ry q => ?_)
  obtain ⟨z, i, c, rfl, rfl, h0, h63, h1, hc, q⟩ := q
  obtain ⟨t, rfl⟩ := rx
  obtain ⟨t', rfl⟩ := ry
  have e : seqIndex? i z.length = some i.toNat := PySem.StrLaws.seqIndex_nonneg h0 h1
  exact tail_any (typeIs_str s2 z t) slot_str_getitem.lookup (getItem_str (c := c) (by
    have e1 : decide (i < -(2 ^ 63 : Int)) = false := decide_eq_false (by omega)
    have e2 : decide (i ≥ 2 ^ 63) = false := decide_eq_false (by omega)
    rw [e1, e2] <;> rfl) (by rw [e]; exact hc) ⟨.str ⟨#[c]⟩, H2, I2.tok _, ⟨_, rfl⟩, q⟩) (hs _ _)
/-- b[i], 0 ≤ i < len -/
theorem pe_item_byt (ha : PE X a ta) (hb : PE X b tb) (hs : PlainIxT b) :
    PE X (.Subscript a b pos) (tOp (fun x y H Q => ∃ (z : List UInt8) (i : Int), x = .byt z.toArray ∧ y = .int i ∧ z.length ≤ sizeLine ∧ 0 ≤ i ∧ i < z.length ∧ Q (.int ((z.getD i.toNat 0).toNat : Nat)) H) ta tb) := by
  intro pins s σ H Q I h
  refine Subscript_ (binT ha hb I h fun v u s2 x y H2 I2 rx ry q => ?_)
  obtain ⟨z, i, rfl, rfl, hz, h0, h1, q⟩ := q
  obtain ⟨t, rfl⟩ := rx
  obtain ⟨t', rfl⟩ := ry
  have hl : sizeLine = 16777216 := sizeLine_eq
  exact tail_any (PySem.W.typeIs_bytes s2 z.toArray t) PySem.W.FB.slot_bytes_getitem.lookup (PySem.W.getItem_bytes (by omega) h0 h1 ⟨.int ((z.getD i.toNat 0).toNat : Nat), H2, I2.tok _, ⟨_, rfl⟩, q⟩) (hs _ _)

/-! ### scalar builtins, by CallR -/
theorem vals1 {x : V} {us : List Value} (r : Vals [x] us) : ∃ u, us = [u] ∧ RelV x u := by
  cases r with
  | cons r1 r2 => cases r2; exact ⟨_, rfl, r1⟩
theorem vals2 {x y : V} {us : List Value} (r : Vals [x, y] us) : ∃ u w', us = [u, w'] ∧ RelV x u ∧ RelV y w' := by
  cases r with
  | cons r1 r2 =>
    cases r2 with
    | cons r3 r4 => cases r4; exact ⟨_, _, rfl, r1, r3⟩
theorem call_abs : CallR X (.builtin "abs") (fun xs H Q => ∃ i, xs = [.int i] ∧ Q (.int (if i < 0 then -i else i)) H) := by
  intro pins s σ H xs us Q I r h
  obtain ⟨i, rfl, q⟩ := h
  obtain ⟨u, rfl, t, rfl⟩ := vals1 r
  exact call_abs_int fun u tk => ⟨.int (if i < 0 then -i else i), H, I.tok _, ⟨_, rfl⟩, q⟩
theorem call_max2 (hc : X.calm = true) : CallR X (.builtin "max") (fun xs H Q => ∃ i j, xs = [.int i, .int j] ∧ Q (.int (if j > i then j else i)) H) := by
  intro pins s σ H xs us Q I r h
  obtain ⟨i, j, rfl, q⟩ := h
  obtain ⟨u, w', rfl, ⟨t, rfl⟩, ⟨t', rfl⟩⟩ := vals2 r
  refine max_two_ints (I.ok.hd hc) fun h' tk k => ⟨_, H, I.kept k, ?_, q⟩
  by_cases hj : j > i
  · rw [if_pos hj, if_pos hj]; exact ⟨_, rfl⟩
  · rw [if_neg hj, if_neg hj]; exact ⟨_, rfl⟩
theorem call_min2 (hc : X.calm = true) : CallR X (.builtin "min") (fun xs H Q => ∃ i j, xs = [.int i, .int j] ∧ Q (.int (if j < i then j else i)) H) := by
  intro pins s σ H xs us Q I r h
  obtain ⟨i, j, rfl, q⟩ := h
  obtain ⟨u, w', rfl, ⟨t, rfl⟩, ⟨t', rfl⟩⟩ := vals2 r
  refine min_two_ints (I.ok.hd hc) fun h' tk k => ⟨_, H, I.kept k, ?_, q⟩
  by_cases hj : j < i
  · rw [if_pos hj, if_pos hj]; exact ⟨_, rfl⟩
  · rw [if_neg hj, if_neg hj]; exact ⟨_, rfl⟩
theorem call_int1 : CallR X (.type "int") (fun xs H Q => (∃ i, xs = [.int i] ∧ Q (.int i) H) ∨ ∃ k, xs = [.bl k] ∧ Q (.int (if k then 1 else 0)) H) := by
  intro pins s σ H xs us Q I r h
  rcases h with ⟨i, rfl, q⟩ | ⟨k, rfl, q⟩
  · obtain ⟨u, rfl, t, rfl⟩ := vals1 r
    exact call_int_int ⟨.int i, H, I, ⟨_, rfl⟩, q⟩
  · obtain ⟨u, rfl, r1⟩ := vals1 r
    cases r1
    exact call_int_bool ⟨.int (if k then 1 else 0), H, I.tok _, ⟨_, rfl⟩, q⟩
theorem call_bool1 : CallR X (.type "bool") (fun xs H Q => (∃ i, xs = [.int i] ∧ Q (.bl (i != 0)) H) ∨ ∃ k, xs = [.bl k] ∧ Q (.bl k) H) := by
  intro pins s σ H xs us Q I r h
  rcases h with ⟨i, rfl, q⟩ | ⟨k, rfl, q⟩
  · obtain ⟨u, rfl, t, rfl⟩ := vals1 r
    exact call_bool_int ⟨.bl (i != 0), H, I, rfl, q⟩
  · obtain ⟨u, rfl, r1⟩ := vals1 r
    cases r1
    exact call_bool_bool ⟨.bl k, H, I, rfl, q⟩
theorem call_str_int : CallR X (.type "str") (fun xs H Q => ∃ i, xs = [.int i] ∧ i.natAbs.log2 < 1920 ∧ Q (.str (toString i)) H) := by
  intro pins s σ H xs us Q I r h
  obtain ⟨i, rfl, hz, q⟩ := h
  obtain ⟨u, rfl, t, rfl⟩ := vals1 r
  exact PySem.P.str_of_int hz ⟨.str _, H, I.tok _, ⟨_, rfl⟩, q⟩
theorem call_ord : CallR X (.builtin "ord") (fun xs H Q => ∃ x, xs = [.str x] ∧ x.length = 1 ∧ Q (.int (x.cps.getD 0 0 : Nat)) H) := by
  intro pins s σ H xs us Q I r h
  obtain ⟨x, rfl, hz, q⟩ := h
  obtain ⟨u, rfl, t, rfl⟩ := vals1 r
  exact ord_of_one hz ⟨.int _, H, I.tok _, ⟨_, rfl⟩, q⟩
theorem call_chr : CallR X (.builtin "chr") (fun xs H Q => ∃ i, xs = [.int i] ∧ 0 ≤ i ∧ i ≤ 1114111 ∧ Q (.str ⟨#[i.toNat]⟩) H) := by
  intro pins s σ H xs us Q I r h
  obtain ⟨i, rfl, h0, h1, q⟩ := h
  obtain ⟨u, rfl, t, rfl⟩ := vals1 r
  exact chr_of_range h0 h1 ⟨.str _, H, I.tok _, ⟨_, rfl⟩, q⟩
/-- len of a str, a bytes, a list, a tuple -/
def LenV (K : PySem.W.Frag) (x : V) (H : Hp) (n : Nat) : Prop :=
  match x with
  | .str y => y.length ≤ sizeLine ∧ n = y.length
  | .byt y => y.size ≤ sizeLine ∧ n = y.size
  | .ref p => (∃ xs, SqL K H p xs ∧ n = xs.length) ∨ ∃ xs, SqT K H p xs ∧ n = xs.length
  | _ => False
theorem call_len : CallR X (.builtin "len") (fun xs H Q => ∃ x n, xs = [x] ∧ LenV X.K x H n ∧ Q (.int n) H) := by
  intro pins s σ H xs us Q I r h
  obtain ⟨x, n, rfl, e, q⟩ := h
  obtain ⟨u, rfl, rx⟩ := vals1 r
  have hl := line63
  have hs : sizeLine = 16777216 := sizeLine_eq
  cases x with
  | str y =>
    obtain ⟨t, rfl⟩ := rx
    obtain ⟨hy, e'⟩ : y.length ≤ sizeLine ∧ n = y.length := e
    subst e'
    exact len_str (by omega) ⟨.int _, H, I.tok _, ⟨_, rfl⟩, q⟩
  | byt y =>
    obtain ⟨t, rfl⟩ := rx
    obtain ⟨hy, e'⟩ : y.size ≤ sizeLine ∧ n = y.size := e
    subst e'
    exact PySem.W.len_bytes (by omega) ⟨.int _, H, I.tok _, ⟨_, rfl⟩, q⟩
  | ref p =>
    cases rx
    have e' : (∃ xs, SqL X.K H p xs ∧ n = xs.length) ∨ ∃ xs, SqT X.K H p xs ∧ n = xs.length := e
    rcases e' with ⟨xs, hx, e'⟩ | ⟨xs, hx, e'⟩
    · subst e'
      obtain ⟨its, r', pl, hz⟩ := I.list hx
      have hlen := r'.length
      exact Calls.call_len_list pl.isList (by simp only [List.size_toArray]; omega) ⟨.int xs.length, H, I.tok _, ⟨_, by simp only [List.size_toArray]; rw [hlen]⟩, q⟩
    · subst e'
      obtain ⟨its, r', pl, hz⟩ := I.tuple hx
      have hlen := r'.length
      exact len_tuple pl (by simp only [List.size_toArray]; omega) ⟨.int xs.length, H, I.tok _, ⟨_, by simp only [List.size_toArray]; rw [hlen]⟩, q⟩
  | _ => exact (show False from e).elim
/-- divmod: a new tuple -/
theorem call_divmod : CallR X (.builtin "divmod") (fun xs H Q => ∃ i j, xs = [.int i, .int j] ∧ CDiv i j ∧ ∀ p, H p = none → Q (.ref p) (upd H p (.tup [.int (i / j), .int (i % j)]))) := by
  intro pins s σ H xs us Q I r h
  obtain ⟨i, j, rfl, ⟨h1, h2⟩, q⟩ := h
  obtain ⟨u, w', rfl, ⟨t, rfl⟩, ⟨t', rfl⟩⟩ := vals2 r
  refine divmod_int (by omega) ?_ (.inl (PyProof.noPylong_small (by omega)))
  rw [Int.fdiv_eq_ediv_of_nonneg i (by omega), Int.fmod_eq_emod_of_nonneg i (by omega)]
  have hn : H s.heap.objs.size = none := I.hok.fresh (Nat.le_refl _)
  refine ⟨.ref s.heap.objs.size, _, ?_, rfl, q _ hn⟩
  refine I.laid (fun b o e => Heap.get?_push_of_some _ e) (Nat.le_refl _) ⟨by simp only [List.length_cons, List.length_nil]; rw [sizeLine_eq]; decide, [.int (i / j) s.toks, .int (i % j) (s.toks + 1)], .cons ⟨_, rfl⟩ (.cons ⟨_, rfl⟩ .nil), ?_⟩
  exact ⟨_, Heap.get?_push_size s.heap rfl, rfl, 0, rfl⟩
end
end L2

namespace L2
open PySem PySem.Spec PyProof.Rows

/-! ### an instance, its attributes a map -/
structure ObjM (h : Heap) (x dx C : Addr) (mA : Str → Option Value) : Prop where
  obj : h.get? x = some (PySem.W.instObj C dx)
  ns : h.Ns1 dx mA
  ne : dx ≠ x

theorem lookIn_ns {h : Heap} {dx : Addr} {mA : Str → Option Value} (n : h.Ns1 dx mA) : ∃ od, h.get? dx = some od ∧ ∀ name, PySem.W.lookIn name od = some (mA name) := by
  obtain ⟨o, es, ep, ho, hd, hk, _, hm⟩ := n
  refine ⟨o, ho, fun name => ?_⟩
  have e := hm name
  unfold nsFind findBy at e
  rw [← Array.find?_toList] at e
  unfold PySem.W.lookIn
  rw [hd]
  dsimp only
  split
  · rename_i y q
    rw [q] at e
    exact congrArg some e
  · rename_i q
    rw [q] at e
    have a : es.toList.any (·.refKey) = false := by
      rw [List.any_eq_false]
      intro y hy
      obtain ⟨z, t, hkey⟩ := hk y (Array.mem_toList_iff.mp hy)
      simp [DictEntry.refKey, hkey]
    have a' : ¬ es.toList.any (·.refKey) = true := by rw [a]; exact Bool.false_ne_true
    rw [if_neg a']
    exact congrArg some e

theorem ObjM.look {h : Heap} {x dx C : Addr} {mA : Str → Option Value} (I : ObjM h x dx C mA) : ∃ od, PySem.W.InstAt h x (PySem.W.instObj C dx) C (some od) ∧ ∀ name, PySem.W.lookIn name od = some (mA name) :=
  let ⟨od, ho, hl⟩ := lookIn_ns I.ns
  ⟨od, ⟨I.obj, rfl, rfl, ho⟩, hl⟩

section
variable {prog : Program} {w : World} {A : Around} {E : Value → Shared → Prop} {s : Shared} {K : PySem.W.Frag} {x dx C f : Addr} {mA : Str → Option Value} {name : Str} {v : Value}

theorem get_map {expr : Bool} {Q : Value → Shared → Prop} (X : K.In s.heap) (I : ObjM s.heap x dx C mA) (hg : PySem.W.plainGet K C name = true) (hh : PySem.W.hasDictIn K C = true)
    (ha : PySem.W.findIn K (.ref C) name = some none) (hv : mA name = some v) (hv' : PySem.W.handedIn v = true) (h : Q v { s with toks := s.toks + 1 }) :
    wpAny (model prog w) A (getAttr (.ref x) name expr) Q E s := by
  obtain ⟨od, J, hl⟩ := I.look
  exact PySem.W.get_value X J (PySem.W.plainGet_of hg).1 (PySem.W.findObj_own hh ha rfl (by rw [hl, hv])) hv' h

theorem get_const {expr : Bool} {a : Value} {Q : Value → Shared → Prop} (X : K.In s.heap) (I : ObjM s.heap x dx C mA) (hg : PySem.W.plainGet K C name = true) (hh : PySem.W.hasDictIn K C = true)
    (ha : PySem.W.findIn K (.ref C) name = some (some a)) (hn : PySem.W.specialIn K a "__get__" = some none) (hc : PySem.W.copiedNames.contains name = false) (hv : mA name = none) (hv' : PySem.W.handedIn a = true)
    (h : Q a { s with toks := s.toks + 1 }) : wpAny (model prog w) A (getAttr (.ref x) name expr) Q E s := by
  obtain ⟨od, J, hl⟩ := I.look
  exact PySem.W.get_value X J (PySem.W.plainGet_of hg).1 (PySem.W.findObj_cls hh ha hn hv' hc (by rw [hl, hv])) hv' h

theorem get_meth {pl : Sem Bool} {Q : Value × List Value → Shared → Prop} (X : K.In s.heap) (I : ObjM s.heap x dx C mA) (hg : PySem.W.plainGet K C name = true)
    (hf : PySem.W.findIn K (.ref C) name = some (some (.ref f))) (ht : PySem.W.isFn K (.ref f) = true) (hv : mA name = none) (h : Q (.ref f, [.ref x]) s) :
    wpAny (model prog w) A (getMethod (.ref x) name pl) Q E s := by
  obtain ⟨od, J, hl⟩ := I.look
  exact PySem.W.method_fn X J (PySem.W.plainGet_of hg).1 (PySem.W.plainGet_of hg).2 hf (beq_iff_eq.mp ht) (by show (PySem.W.lookIn name od).map (·.isSome) = some false; rw [hl, hv]; rfl) h

theorem set_map {ns : List Str} {Q : Unit → Shared → Prop} (X : K.In s.heap) (I : ObjM s.heap x dx C mA)
    (hs : PySem.W.findIn K (.ref C) "__setattr__" = some (some (.builtin "object.__setattr__"))) (hp : PySem.W.plainOver K C = true) (ht : PySem.W.takerIn K C name = some none) (hh : PySem.W.hasDictIn K C = true)
    (hw : PySem.Within mA ns) (hsz : ns.length ≤ sizeLine)
    (h : ∀ h', ObjM h' x dx C (fun y => if y = name then some v else mA y) → Heap.SameBut dx s.heap h' → Q () { s with heap := h', toks := s.toks + 2 }) :
    wpAny (model prog w) A (setAttr (.ref x) name v) Q E s := by
  obtain ⟨od, J, hl⟩ := I.look
  refine PySem.W.set_plain X J hs (PySem.W.osa_open (s := { s with toks := s.toks + 1 }) (r := none) X J hp ht fun b => ?_)
  obtain ⟨cd, hc, hd'⟩ := PySem.W.any_some hh
  have hx : s.heap.get? x = some ⟨.ref C, some dx, .plain, #[]⟩ := I.obj
  refine wpAny_bind (wpAny_pure (wpAny_bind (wpAny_bind (wpAny_loadPart hx (wpAny_bind (PySem.W.Looks.here (s := { s with toks := s.toks + 1 }) (PySem.W.looks_clsIn X hc) ?_))))))
  rw [hd']
  refine wpAny_pure (a := some dx) (wpAny_bind (wpAny_pure (wpAny_bind ?_)))
  refine wpAny_nsSet1 (s := { s with toks := s.toks + 1 }) I.ns fun h' hn2 hs2 => ?_
  obtain ⟨oD, esD, epD, hoD, hdD, hcD⟩ := hn2.count (PySem.Within.cons name v hw)
  refine wpAny_bind (wpAny_lookBehind hoD (by rw [hdD]; exact pastItsLine_dict (Nat.le_trans hcD (by rw [List.length_cons]; omega))) ?_)
  exact wpAny_pure (h _ ⟨(hs2.2 _ (Ne.symm I.ne)).trans I.obj, hn2, I.ne⟩ hs2)

/-- C(..): the dict at the heap's end, the instance behind it; then its __init__ -/
theorem make_map {R : Result → Shared → Prop} {vs : List Value} {kw : List (Str × Value)} (X : K.In s.heap) (hm : PySem.W.makesIn K C = true)
    (hi : PySem.W.findIn K (.ref C) "__init__" = some (some (.ref f))) (hf : PySem.W.typeIn K (.ref f) = some (.type "function"))
    (h : codeAny (model prog w) (A.under (.builtin "type.__call__" ⟨.ref C :: vs, kw⟩)) (.call (.ref f) ⟨.ref (s.heap.objs.size + 1) :: vs, kw⟩) (PySem.W.InitBack (s.heap.objs.size + 1) R)
      { s with heap := (s.heap.push PySem.W.emptyDict).push (PySem.W.instObj C s.heap.objs.size) }) :
    codeAny (model prog w) A (.call (.ref C) ⟨vs, kw⟩) R s := by
  obtain ⟨hh, g, d, t, os⟩ := s
  exact PySem.W.make_core (PySem.W.makes_of X hm) (PySem.W.looks_findIn X hi) (fun self => PySem.W.bind_fn X self hf) (.inl rfl) h
/-- C() where there is no __init__ but object's -/
theorem make_map0 {R : Result → Shared → Prop} (X : K.In s.heap) (hm : PySem.W.makesIn K C = true)
    (hi : PySem.W.findIn K (.ref C) "__init__" = some (some (.builtin "object.__init__")))
    (hb : ∀ self, PySem.W.Looks (model prog w) s.heap (bindSpecial (.builtin "object.__init__") self) (.builtin "object.__init__", [self]))
    (h : codeAny (model prog w) (A.under (.builtin "type.__call__" ⟨[.ref C], []⟩)) (.call (.builtin "object.__init__") ⟨[.ref (s.heap.objs.size + 1)], []⟩) (PySem.W.InitBack (s.heap.objs.size + 1) R)
      { s with heap := (s.heap.push PySem.W.emptyDict).push (PySem.W.instObj C s.heap.objs.size) }) :
    codeAny (model prog w) A (.call (.ref C) ⟨[], []⟩) R s := by
  obtain ⟨hh, g, d, t, os⟩ := s
  exact PySem.W.make_core (PySem.W.makes_of X hm) (PySem.W.looks_findIn X hi) hb (.inr ⟨rfl, rfl⟩) h
end

/-! ### the attributes as a list of pairs -/
def putF (f : Str) (v : V) : List (Str × V) → List (Str × V)
  | [] => [(f, v)]
  | (g, x) :: r => if g = f then (g, v) :: r else (g, x) :: putF f v r
theorem lookup_putF (f g : Str) (v : V) : ∀ fs : List (Str × V), (putF f v fs).lookup g = if g = f then some v else fs.lookup g
  | [] => by
    show List.lookup g [(f, v)] = _
    by_cases h : g = f
    · have hb : (g == f) = true := beq_iff_eq.mpr h
      simp only [List.lookup, hb, if_pos h]
    · have hb : (g == f) = false := beq_eq_false_iff_ne.mpr h
      simp only [List.lookup, hb, if_neg h]
  | (k, x) :: r => by
    have ih := lookup_putF f g v r
    rw [show putF f v ((k, x) :: r) = (if k = f then (k, v) :: r else (k, x) :: putF f v r) from rfl]
    by_cases hk : k = f
    · rw [if_pos hk]
      by_cases h : g = k
      · have hb : (g == k) = true := beq_iff_eq.mpr h
        simp only [List.lookup, hb, if_pos (h.trans hk)]
      · have hb : (g == k) = false := beq_eq_false_iff_ne.mpr h
        simp only [List.lookup, hb, if_neg (fun e : g = f => h (e.trans hk.symm))]
    · rw [if_neg hk]
      by_cases h : g = k
      · have hb : (g == k) = true := beq_iff_eq.mpr h
        simp only [List.lookup, hb, if_neg (fun e : g = f => hk (h.symm.trans e))]
      · have hb : (g == k) = false := beq_eq_false_iff_ne.mpr h
        simp only [List.lookup, hb]
        exact ih
theorem keys_putF (f : Str) (v : V) : ∀ fs : List (Str × V), f ∈ (putF f v fs).map (·.1) ∧ ∀ g, g ∈ fs.map (·.1) → g ∈ (putF f v fs).map (·.1)
  | [] => ⟨by simp [putF], fun g h => by simp at h⟩
  | (k, x) :: r => by
    obtain ⟨i1, i2⟩ := keys_putF f v r
    rw [show putF f v ((k, x) :: r) = (if k = f then (k, v) :: r else (k, x) :: putF f v r) from rfl]
    by_cases hk : k = f
    · rw [if_pos hk]
      subst hk
      exact ⟨by simp, fun g h => by simpa using h⟩
    · rw [if_neg hk]
      refine ⟨?_, fun g h => ?_⟩
      · rw [List.map_cons]
        exact List.mem_cons_of_mem _ i1
      · rw [List.map_cons] at h ⊢
        rcases List.mem_cons.mp h with e | e
        · exact List.mem_cons.mpr (.inl e)
        · exact List.mem_cons_of_mem _ (i2 g e)
theorem length_putF (f : Str) (v : V) : ∀ fs : List (Str × V), (putF f v fs).length ≤ fs.length + 1
  | [] => by simp [putF]
  | (k, x) :: r => by
    have ih := length_putF f v r
    rw [show putF f v ((k, x) :: r) = (if k = f then (k, v) :: r else (k, x) :: putF f v r) from rfl]
    by_cases hk : k = f
    · rw [if_pos hk, List.length_cons, List.length_cons]; omega
    · rw [if_neg hk, List.length_cons, List.length_cons]; omega

theorem RelO.some_of {v : V} {o : Option Value} (r : RelO (some v) o) : ∃ u, o = some u ∧ RelV v u := by
  cases o with
  | none => exact (show False from r).elim
  | some u => exact ⟨u, rfl, r⟩
theorem RelO.none_of {o : Option Value} (r : RelO none o) : o = none := by
  cases o with
  | none => rfl
  | some u => exact (show False from r).elim
theorem handed_of {v : V} {u : Value} (r : RelV v u) : PySem.W.handedIn u = true := by
  cases v with
  | non => cases (show u = Value.none from r); rfl
  | bl b => cases (show u = Value.bool b from r); rfl
  | int i => obtain ⟨t, e⟩ := (show ∃ t, u = Value.int i t from r); cases e; rfl
  | str x => obtain ⟨t, e⟩ := (show ∃ t, u = Value.str x t from r); cases e; rfl
  | byt b => obtain ⟨t, e⟩ := (show ∃ t, u = Value.bytes b t from r); cases e; rfl
  | flt b => obtain ⟨t, e⟩ := (show ∃ t, u = Value.float b t from r); cases e; rfl
  | ref a => cases (show u = Value.ref a from r); rfl
  | ty n => cases (show u = Value.type n from r); rfl

section
variable {P : Program} {w : World} {H H' : Hp} {h h' : Heap} {a C dx : Addr} {fs fs' : List (Str × V)}
theorem ins_get (hok : HOk P w H h) (e : H a = some (.ins C dx fs)) : ∃ mA, ObjM h a dx C mA ∧ (∀ f, RelO (fs.lookup f) (mA f)) ∧ PySem.Within mA (fs.map (·.1)) ∧ fs.length ≤ 1000 ∧ H dx = some (.own a) := by
  obtain ⟨d, z, ne, ob, mA, n, r, q⟩ := (show ObjOk P w H h a (.ins C dx fs) from hok a _ e)
  exact ⟨mA, ⟨ob, n, ne⟩, r, q, z, d⟩
end

/-! ### what of the text a class must have -/
structure Cls (K : PySem.W.Frag) (C : Addr) : Prop where
  pg : PySem.W.plainGet K C Str.empty = true
  hd : PySem.W.hasDictIn K C = true
  po : PySem.W.plainOver K C = true
  sa : PySem.W.findIn K (.ref C) "__setattr__" = some (some (.builtin "object.__setattr__"))
theorem Cls.get {K : PySem.W.Frag} {C : Addr} (c : Cls K C) (f : Str) : PySem.W.plainGet K C f = true := c.pg
/-- no class of it has the name -/
def NoAttr (K : PySem.W.Frag) (C : Addr) (f : Str) : Prop := PySem.W.findIn K (.ref C) f = some none
theorem NoAttr.taker {K : PySem.W.Frag} {C : Addr} {f : Str} (n : NoAttr K C f) : PySem.W.takerIn K C f = some none := by
  unfold PySem.W.takerIn
  rw [show PySem.W.findIn K (.ref C) f = some none from n]
  rfl
/-- a constant of the class -/
structure Con (K : PySem.W.Frag) (C : Addr) (f : Str) (v : V) (u : Value) : Prop where
  at_ : PySem.W.findIn K (.ref C) f = some (some u)
  rel : RelV v u
  get : PySem.W.specialIn K u "__get__" = some none
  cp : PySem.W.copiedNames.contains f = false
/-- a method: a plain def of the class or of one above it -/
structure Meth (K : PySem.W.Frag) (C : Addr) (m : Str) (f : Addr) : Prop where
  at_ : PySem.W.findIn K (.ref C) m = some (some (.ref f))
  fn : PySem.W.isFn K (.ref f) = true
  kp : PySem.W.keepIn K (.ref f) = true

section
variable {X : Cx} {pins : List (Addr × Obj)} {σ : St} {H : Hp} {s : Shared} {a C dx : Addr} {fs : List (Str × V)} {f : Str} {v : V} {A : Around} {E : Value → Shared → Prop}

theorem getattr_ok {b : Bool} {Q : Value → Shared → Prop} (I : Inv X pins σ H s) (e : H a = some (.ins C dx fs)) (c : Cls X.K C) (n : NoAttr X.K C f) (l : fs.lookup f = some v)
    (h : ∀ u s', Inv X pins σ H s' → RelV v u → Q u s') : wpAny (model X.prog X.w) A (getAttr (.ref a) f b) Q E s := by
  obtain ⟨mA, O, r, _, _, _⟩ := ins_get I.hok e
  obtain ⟨u, hu, ru⟩ := RelO.some_of (v := v) (o := mA f) (by rw [← l]; exact r f)
  exact get_map I.kIn O (c.get f) c.hd n hu (handed_of ru) (h u _ (I.tok _) ru)

theorem getcon_ok {b : Bool} {u : Value} {Q : Value → Shared → Prop} (I : Inv X pins σ H s) (e : H a = some (.ins C dx fs)) (c : Cls X.K C) (k : Con X.K C f v u) (l : fs.lookup f = none)
    (h : ∀ s', Inv X pins σ H s' → Q u s') : wpAny (model X.prog X.w) A (getAttr (.ref a) f b) Q E s := by
  obtain ⟨mA, O, r, _, _, _⟩ := ins_get I.hok e
  have hn : mA f = none := RelO.none_of (by rw [← l]; exact r f)
  exact get_const I.kIn O (c.get f) c.hd k.at_ k.get k.cp hn (handed_of k.rel) (h _ (I.tok _))

theorem getmeth_ok {m : Str} {g : Addr} {pl : Sem Bool} {Q : Value × List Value → Shared → Prop} (I : Inv X pins σ H s) (e : H a = some (.ins C dx fs)) (c : Cls X.K C) (k : Meth X.K C m g) (l : fs.lookup m = none)
    (h : Q (.ref g, [.ref a]) s) : wpAny (model X.prog X.w) A (getMethod (.ref a) m pl) Q E s := by
  obtain ⟨mA, O, r, _, _, _⟩ := ins_get I.hok e
  have hn : mA m = none := RelO.none_of (by rw [← l]; exact r m)
  exact get_meth I.kIn O (c.get m) k.at_ k.fn hn h

theorem setattr_ok {y : V} {u : Value} {Q : Unit → Shared → Prop} (I : Inv X pins σ H s) (e : H a = some (.ins C dx fs)) (c : Cls X.K C) (n : NoAttr X.K C f) (hl : fs.length < 1000) (ry : RelV y u)
    (h : ∀ s', Inv X pins σ (upd H a (.ins C dx (putF f y fs))) s' → Q () s') : wpAny (model X.prog X.w) A (setAttr (.ref a) f u) Q E s := by
  obtain ⟨mA, O, r, wi, _, ho⟩ := ins_get I.hok e
  have hz : (fs.map (·.1)).length ≤ sizeLine := by rw [List.length_map, sizeLine_eq]; omega
  refine set_map I.kIn O c.sa c.po n.taker c.hd wi hz fun h' O' sb => h _ ?_
  have hd : ∃ o, h'.get? dx = some o := let ⟨o, _, _, e', _⟩ := O'.ns; ⟨o, e'⟩
  refine I.write (x := a) (e := dx) (by rw [e]; exact True.intro) (.inr ho) (fun b q hb z => (sb.2 b hb).trans z) hd ?_
  refine ⟨by rw [upd_ne O.ne]; exact ho, ?_, O.ne, O'.obj, _, O'.ns, fun g => ?_, fun g hg => ?_⟩
  · have := length_putF f y fs; omega
  · show RelO ((putF f y fs).lookup g) (if g = f then some u else mA g)
    rw [lookup_putF]
    by_cases q : g = f
    · rw [if_pos q, if_pos q]; exact ry
    · rw [if_neg q, if_neg q]; exact r g
  · by_cases q : g = f
    · rw [q]; exact (keys_putF f y fs).1
    · refine (keys_putF f y fs).2 g (wi g fun z => hg ?_)
      show (if g = f then some u else mA g) = none
      rw [if_neg q]; exact z

/-- a new instance, tracked, without attributes -/
theorem Inv.made (I : Inv X pins σ H s) : Inv X pins σ (upd (upd H s.heap.objs.size (.own (s.heap.objs.size + 1))) (s.heap.objs.size + 1) (.ins C s.heap.objs.size []))
    { s with heap := (s.heap.push PySem.W.emptyDict).push (PySem.W.instObj C s.heap.objs.size) } := by
  have e1 : (s.heap.push PySem.W.emptyDict).get? s.heap.objs.size = some PySem.W.emptyDict := Heap.get?_push_size s.heap rfl
  have e2 : ((s.heap.push PySem.W.emptyDict).push (PySem.W.instObj C s.heap.objs.size)).get? (s.heap.objs.size + 1) = some (PySem.W.instObj C s.heap.objs.size) := by
    have := Heap.get?_push_size (s.heap.push PySem.W.emptyDict) (o := PySem.W.instObj C s.heap.objs.size) rfl
    rwa [Heap.size_push] at this
  have e3 : (s.heap.push PySem.W.emptyDict).Ns s.heap.objs.size (fun _ => none) := ⟨PySem.W.emptyDict, #[], _, e1, rfl, (fun e he => absurd he (by simp)), fun _ => rfl⟩
  have I1 := I.laid (a := s.heap.objs.size) (o := .own (s.heap.objs.size + 1)) (h' := s.heap.push PySem.W.emptyDict) (t' := s.toks) (fun b u q => Heap.get?_push_of_some _ q) (Nat.le_refl _) ⟨_, e1⟩
  refine I1.laid (a := s.heap.objs.size + 1) (o := .ins C s.heap.objs.size []) (t' := s.toks) (fun b u q => Heap.get?_push_of_some _ q) (Nat.le_of_eq (Heap.size_push _ _)) ?_
  have ne : s.heap.objs.size ≠ s.heap.objs.size + 1 := Nat.ne_of_lt (Nat.lt_succ_self _)
  refine ⟨by rw [upd_ne ne, upd_same], Nat.zero_le _, ne, e2, fun _ => none, (Heap.Ns1.of_empty e3).at fun o q => Heap.get?_push_of_some _ q, fun _ => True.intro, fun y hy => absurd rfl hy⟩

/-- e.f where nothing but the object is asked: through attributeBase (super) and the last hold -/
theorem attr_of {prog : Program} {w : World} {env : Env} {e : Expr} {f : Str} {pos : Pos} {s : Shared} {Q : Value → Shared → Prop} (hb : attributeBase e f env (eval e env) = eval e env)
    (h : wpAny (model prog w) A (eval e env) (fun o s₁ => wpAny (model prog w) A (getAttr o f true) Q E s₁) E s) : wpAny (model prog w) A (eval (.Attribute e f pos) env) Q E s :=
  Attribute_any_ h (by rw [arm_eval_Attribute, hb])
end

/-! ### readings and rules -/
/-- e.f, an attribute of the instance -/
def tFld (K : PySem.W.Frag) (ta : TE) (f : Str) : TE := fun σ H Q => ta σ H fun x H1 => ∃ a C dx fs v, x = .ref a ∧ H1 a = some (.ins C dx fs) ∧ Cls K C ∧ NoAttr K C f ∧ fs.lookup f = some v ∧ Q v H1
/-- e.f, a constant of the class -/
def tCon (K : PySem.W.Frag) (ta : TE) (f : Str) : TE := fun σ H Q => ta σ H fun x H1 => ∃ a C dx fs v u, x = .ref a ∧ H1 a = some (.ins C dx fs) ∧ Cls K C ∧ Con K C f v u ∧ fs.lookup f = none ∧ Q v H1
/-- e.f = value -/
def sFld (K : PySem.W.Frag) (ta tv : TE) (f : Str) : TS := fun D σ H => tv σ H fun y H1 => ta σ H1 fun x H2 => ∃ a C dx fs, x = .ref a ∧ H2 a = some (.ins C dx fs) ∧ Cls K C ∧ NoAttr K C f ∧ fs.length < 1000 ∧
  D.nx σ (upd H2 a (.ins C dx (putF f y fs)))
/-- an augmented operator on two values -/
def InOp (X : Cx) (op : Operator) (rd : V → V → Hp → VK → Prop) : Prop :=
  ∀ (pins : List (Addr × Obj)) (s : Shared) (σ : St) (H : Hp) (x y : V) (u v : Value) (Q : VK), Inv X pins σ H s → RelV x u → RelV y v → rd x y H Q → wpAny (model X.prog X.w) X.A (inplaceOp op u v) (EP X pins σ Q) X.xe s
/-- e.f op= value -/
def sFldAug (K : PySem.W.Frag) (ta tv : TE) (rd : V → V → Hp → VK → Prop) (f : Str) : TS := fun D σ H => ta σ H fun x H1 => ∃ a C dx fs v, x = .ref a ∧ H1 a = some (.ins C dx fs) ∧ Cls K C ∧ NoAttr K C f ∧ fs.lookup f = some v ∧
  tv σ H1 fun y H2 => rd v y H2 fun z H3 => ∃ dx' fs', H3 a = some (.ins C dx' fs') ∧ fs'.length < 1000 ∧ D.nx σ (upd H3 a (.ins C dx' (putF f z fs')))

section
variable {X : Cx} {o e value : Expr} {f : Str} {pos pos' tpos : Pos} {ta tv : TE}
theorem pe_fld (he : PE X e ta) (hb : attributeBase e f X.env (eval e X.env) = eval e X.env) : PE X (.Attribute e f pos) (tFld X.K ta f) := by
  intro pins s σ H Q I h
  refine attr_of hb (thn (he pins s σ H _ I h) fun u s1 ⟨x, H1, I1, rx, a, C, dx, fs, v, ex, ea, c, n, l, q⟩ => ?_)
  subst ex
  obtain rfl : u = Value.ref a := rx
  exact getattr_ok I1 ea c n l fun u' s2 I2 ru => ⟨v, H1, I2, ru, q⟩
theorem pe_con (he : PE X e ta) (hb : attributeBase e f X.env (eval e X.env) = eval e X.env) : PE X (.Attribute e f pos) (tCon X.K ta f) := by
  intro pins s σ H Q I h
  refine attr_of hb (thn (he pins s σ H _ I h) fun u s1 ⟨x, H1, I1, rx, a, C, dx, fs, v, u0, ex, ea, c, k, l, q⟩ => ?_)
  subst ex
  obtain rfl : u = Value.ref a := rx
  exact getcon_ok I1 ea c k l fun s2 I2 => ⟨v, H1, I2, k.rel, q⟩
theorem ps_fld (ha : PE X o ta) (hv : PE X value tv) (hs : swapsWith value (some (.Attribute o f pos')) pos.line X.env = pure false) : PS X (.Assign [.Attribute o f pos'] value pos) (sFld X.K ta tv f) := by
  intro pins s σ H D I h
  refine plainObj_wpAny_Assign_Attribute (thn (hv pins s σ H _ I h) fun u s1 ⟨y, H1, I1, ry, q⟩ => thn (ha pins s1 σ H1 _ I1 q) fun ov s2 ⟨x, H2, I2, rx, a, C, dx, fs, ex, ea, c, n, l, q2⟩ => ?_) hs
  subst ex
  obtain rfl : ov = Value.ref a := rx
  exact setattr_ok I2 ea c n l ry fun s3 I3 => ⟨σ, _, I3, q2⟩
theorem ps_fldaug {op : Operator} {rd : V → V → Hp → VK → Prop} (ha : PE X o ta) (hv : PE X value tv) (hop : InOp X op rd) : PS X (.AugAssign (.Attribute o f tpos) op value pos) (sFldAug X.K ta tv rd f) := by
  intro pins s σ H D I h
  refine wpAny_AugAssign_AttributeAny (thn (ha pins s σ H _ I h) fun ov s1 ⟨x, H1, I1, rx, a, C, dx, fs, v, ex, ea, c, n, l, q⟩ => ?_)
  subst ex
  obtain rfl : ov = Value.ref a := rx
  refine getattr_ok I1 ea c n l fun u s2 I2 ru => thn (hv pins s2 σ H1 _ I2 q) fun w3 s3 ⟨y, H2, I3, ry, q3⟩ => thn (hop pins s3 σ H2 v y u w3 _ I3 ru ry q3) fun w4 s4 ⟨z, H3, I4, rz, dx', fs', ea', l', q4⟩ => ?_
  exact setattr_ok I4 ea' c n l' rz fun s5 I5 => ⟨σ, _, I5, q4⟩
def rAdd : V → V → Hp → VK → Prop := fun x y H Q => ∃ i j, x = .int i ∧ y = .int j ∧ Q (.int (i + j)) H
def rSub : V → V → Hp → VK → Prop := fun x y H Q => ∃ i j, x = .int i ∧ y = .int j ∧ Q (.int (i - j)) H
theorem in_add : InOp X .Add rAdd := by
  rintro pins s σ H x y u v Q I rx ry ⟨i, j, rfl, rfl, q⟩
  obtain ⟨t, rfl⟩ := (show ∃ t, u = Value.int i t from rx)
  obtain ⟨t', rfl⟩ := (show ∃ t', v = Value.int j t' from ry)
  exact PyProof.Rows.iadd_int ⟨.int (i + j), H, I.tok _, ⟨_, rfl⟩, q⟩
theorem in_sub : InOp X .Sub rSub := by
  rintro pins s σ H x y u v Q I rx ry ⟨i, j, rfl, rfl, q⟩
  obtain ⟨t, rfl⟩ := (show ∃ t, u = Value.int i t from rx)
  obtain ⟨t', rfl⟩ := (show ∃ t', v = Value.int j t' from ry)
  exact PyProof.Rows.isub_int ⟨.int (i - j), H, I.tok _, ⟨_, rfl⟩, q⟩

/-- what is between an instance and its method: the tree of a method call -/
theorem methcall_of {pl : Sem Bool} {m : Str} {apos : Pos} {args : List Expr} {pins : List (Addr × Obj)} {s : Shared} {σ : St} {H : Hp} {Q : Value → Shared → Prop} {te : TE} (he : PE X e te) (I : Inv X pins σ H s)
    (h : te σ H fun x H1 => ∃ a C dx fs g, x = .ref a ∧ H1 a = some (.ins C dx fs) ∧ Cls X.K C ∧ Meth X.K C m g ∧ fs.lookup m = none ∧
      ∀ s1, Inv X pins σ H1 s1 → wpAny (model X.prog X.w) X.A (callWith pos (.ref g) [.ref a] (backTo pos (starEach args X.env)) (backToKw pos (keywordEach [] X.env))) Q X.xe s1)
    (ht : eval (.Call (.Attribute e m apos) args [] pos) X.env = (do
      let ov ← eval e X.env
      standAt apos.atName
      let (f, first) ← holding [ov] (getMethod ov m pl)
      callWith pos f first (backTo pos (starEach args X.env)) (backToKw pos (keywordEach [] X.env)))) :
    wpAny (model X.prog X.w) X.A (eval (.Call (.Attribute e m apos) args [] pos) X.env) Q X.xe s := by
  refine PySem.W.methodCall_KW (pl := pl) (thn (he pins s σ H _ I h) fun u s1 ⟨x, H1, I1, rx, a, C, dx, fs, g, ex, ea, c, k, l, q⟩ => ?_) ht
  subst ex
  obtain rfl : u = Value.ref a := rx
  exact getmeth_ok I1 ea c k l (q s1 I1)
end

/-! ### isinstance -/
section
variable {X : Cx} {pins : List (Addr × Obj)} {σ : St} {H : Hp} {s : Shared} {A : Around} {E : Value → Shared → Prop} {Q : Value → Shared → Prop} {c : Value} {b : Bool}
/-- the type of a value, as the fragment's deciders take it; for an instance its class -/
inductive TyOf (K : PySem.W.Frag) (H : Hp) : V → Value → Prop where
  | non : TyOf K H .non (.type "NoneType")
  | bl (x : Bool) : TyOf K H (.bl x) (.type "bool")
  | int (i : Int) : TyOf K H (.int i) (.type "int")
  | str (x : Str) : TyOf K H (.str x) (.type "str")
  | flt (x : UInt64) : TyOf K H (.flt x) (.type "float")
  | lst {a : Addr} {xs : List V} (e : H a = some (.lst xs)) : TyOf K H (.ref a) (.type "list")
  | frz {a : Addr} {o : Obj} {xs : List V} (e : H a = some (.frz o (.lst xs))) : TyOf K H (.ref a) (.type "list")
  | tup {a : Addr} {xs : List V} (e : H a = some (.tup xs)) : TyOf K H (.ref a) (.type "tuple")
  | dK {a : Addr} {kvs : List (Key × V)} (e : H a = some (.dK kvs)) : TyOf K H (.ref a) (.type "dict")
  | dT {a : Addr} {kvs : List (List Key × V)} (e : H a = some (.dT kvs)) : TyOf K H (.ref a) (.type "dict")
  | ins {a C dx : Addr} {fs : List (Str × V)} (e : H a = some (.ins C dx fs)) (cl : Cls K C) (ha : PySem.W.findIn K (.ref C) "__class__" = some (some (.builtin "object.__class__")))
      (hn : PySem.W.specialIn K (.builtin "object.__class__") "__get__" = some (some (.builtin "getset_descriptor.__get__"))) (htk : PySem.W.takesIn K (.builtin "object.__class__") = some true)
      (hm : PySem.W.mroIn K C (.type "object") = some true) : TyOf K H (.ref a) (.ref C)
/-- isinstance(x, c) for one class c, a built-in or an own one: kitOne's answer -/
theorem isinst_ok {x : V} {u t : Value} (I : Inv X pins σ H s) (rx : RelV x u) (ty : TyOf X.K H x t) (e : PySem.W.kitOne X.K t c = some b) (h : ∀ tk, Q (.bool b) { s with toks := tk }) :
    wpAny (model X.prog X.w) A (call (.builtin "isinstance") [u, c]) Q E s := by
  cases ty with
  | non => cases (show u = Value.none from rx); exact PySem.W.kia_one PySem.W.kitx_none I.kIn True.intro e (fun z => nomatch z) h
  | bl y => cases (show u = Value.bool y from rx); exact PySem.W.kia_one PySem.W.kitx_bool I.kIn True.intro e (fun z => nomatch z) h
  | int i => obtain ⟨t, q⟩ := (show ∃ t, u = Value.int i t from rx); cases q; exact PySem.W.kia_one PySem.W.kitx_int I.kIn True.intro e (fun z => nomatch z) h
  | str y => obtain ⟨t, q⟩ := (show ∃ t, u = Value.str y t from rx); cases q; exact PySem.W.kia_one PySem.W.kitx_str I.kIn True.intro e (fun z => nomatch z) h
  | flt y => obtain ⟨t, q⟩ := (show ∃ t, u = Value.float y t from rx); cases q; exact PySem.W.kia_one PySem.W.kitx_float I.kIn True.intro e (fun z => nomatch z) h
  | @lst a xs ea =>
    cases (show u = Value.ref a from rx)
    obtain ⟨_, _, n, _, h1⟩ := (show ObjOk X.prog X.w H s.heap a (.lst xs) from I.hok a _ ea)
    exact PySem.W.kia_one PySem.W.kitx_list I.kIn ⟨_, h1, rfl⟩ e (fun z => nomatch z) h
  | @frz a ob xs ea =>
    cases (show u = Value.ref a from rx)
    obtain ⟨_, _, _, n, _, h1⟩ := (show ObjOk X.prog X.w H s.heap a (.frz ob (.lst xs)) from I.hok a _ ea)
    exact PySem.W.kia_one PySem.W.kitx_list I.kIn ⟨_, h1, rfl⟩ e (fun z => nomatch z) h
  | @tup a xs ea =>
    cases (show u = Value.ref a from rx)
    obtain ⟨_, _, _, p⟩ := (show ObjOk X.prog X.w H s.heap a (.tup xs) from I.hok a _ ea)
    obtain ⟨o, h1, h2, _⟩ := p
    exact PySem.W.kia_one PySem.W.kitx_tuple I.kIn ⟨o, h1, h2⟩ e (fun z => nomatch z) h
  | @dK a kvs ea =>
    cases (show u = Value.ref a from rx)
    obtain ⟨_, _, vs, _, p⟩ := (show ObjOk X.prog X.w H s.heap a (.dK kvs) from I.hok a _ ea)
    obtain ⟨o, es, ep, h1, h2, _⟩ := p
    exact PySem.W.kia_one PySem.W.kitx_dict I.kIn ⟨o, h1, h2.1⟩ e (fun z => nomatch z) h
  | @dT a kvs ea =>
    cases (show u = Value.ref a from rx)
    obtain ⟨_, _, xs, _, o, es, ep, h1, h2, _⟩ := (show ObjOk X.prog X.w H s.heap a (.dT kvs) from I.hok a _ ea)
    exact PySem.W.kia_one PySem.W.kitx_dict I.kIn ⟨o, h1, h2.1⟩ e (fun z => nomatch z) h
  | @ins a C dx fs ea cl ha hn htk hm =>
    cases (show u = Value.ref a from rx)
    obtain ⟨mA, O, _⟩ := ins_get I.hok ea
    obtain ⟨od, J, _⟩ := O.look
    exact PySem.W.kia_one (PySem.W.kitx_own (cl.get _) cl.hd ha hn htk hm) I.kIn J e (fun z => nomatch z) h
end
end L2

namespace L2
open PySem PySem.Spec PyProof.Rows

/-! ### room -/
structure Room (k : Nat) (A : Around) : Prop where
  hd : A.handled = none
  dp : A.depth + 3 * k + 5 < recursionLimit
  un : A.units + 16 * k + 200 < cLine
theorem Room.mono {j k : Nat} {A : Around} (r : Room k A) (h : j ≤ k) : Room j A := ⟨r.hd, by have := r.dp; omega, by have := r.un; omega⟩
theorem Room.deeper {k : Nat} {A : Around} (r : Room (k + 1) A) (env : Env) : Room k (A.deeper env) :=
  ⟨r.hd, by have := r.dp; show A.depth + 1 + 3 * k + 5 < _; omega, by have := r.un; show A.units + 3 + 16 * k + 200 < _; omega⟩
theorem Room.in1 {k : Nat} {A : Around} (r : Room (k + 1) A) : Room k A.in1 :=
  ⟨r.hd, by have := r.dp; show A.depth + 3 * k + 5 < _; omega, by have := r.un; show A.units + 1 + 16 * k + 200 < _; omega⟩
theorem make_depth {A : Around} {C : Addr} {us : List Value} {kw : List (Str × Value)} : (A.under (.builtin "type.__call__" ⟨.ref C :: us, kw⟩)).depth = A.depth + 1 := by
  first | rfl | simp [Around.under, Code.weight, Code.isCreation, Code.isGuard, Code.isCaller, Code.frames, Code.isFrame, guardIds]
theorem make_units {A : Around} {C : Addr} {us : List Value} {kw : List (Str × Value)} : (A.under (.builtin "type.__call__" ⟨.ref C :: us, kw⟩)).units = A.units + 1 := by
  first | rfl | simp [Around.under, Code.cUnits, Code.frames, Code.isFrame]
theorem Room.make {k : Nat} {A : Around} (r : Room (k + 1) A) (C : Addr) (us : List Value) (kw : List (Str × Value)) : Room k (A.under (.builtin "type.__call__" ⟨.ref C :: us, kw⟩)) :=
  ⟨r.hd, by have := r.dp; rw [make_depth]; omega, by have := r.un; rw [make_units]; omega⟩
theorem Room.depth {k : Nat} {A : Around} (r : Room k A) : A.depth < recursionLimit := by have := r.dp; omega
theorem Room.units {k : Nat} {A : Around} (r : Room k A) : A.units + 64 < cLine := by have := r.un; omega
theorem Room.units0 {k : Nat} {A : Around} (r : Room k A) : A.units < cLine := by have := r.un; omega

/-! ### argument lists and displays -/
def tNil : TA := fun _ H Q => Q [] H
def tCons (ta : TE) (tr : TA) : TA := fun σ H Q => ta σ H fun x H1 => tr σ H1 fun xs H2 => Q (x :: xs) H2
section
variable {X : Cx} {e : Expr} {es : List Expr} {te : TE} {t : TA} {pos : Pos}
theorem pa_nil : PA X [] tNil := fun _ _ _ _ H Q I h => Calls.spliced_nil ⟨[], H, I, .nil, h⟩
theorem pa_cons (ha : PE X e te) (hr : PA X es t) (hs : starEach (e :: es) X.env = (false, eval e X.env) :: starEach es X.env := by rfl) : PA X (e :: es) (tCons te t) := by
  intro pos pins s σ H Q I h
  rw [hs]
  show wpAny _ _ (spliced ((false, eval e X.env) :: backTo pos (starEach es X.env))) _ _ s
  refine Calls.spliced_cons (thn (ha pins s σ H _ I h) fun u s1 ⟨x, H1, I1, r1, q1⟩ => ?_)
  exact thn (hr pos pins s1 σ H1 _ I1 q1) fun us s2 ⟨xs, H2, I2, r2, q2⟩ => ⟨x :: xs, H2, I2, .cons r1 r2, q2⟩

/-- a tuple, a list of written items -/
def tTup (t : TA) : TE := fun σ H Q => t σ H fun xs H1 => xs.length ≤ sizeLine ∧ ∀ p, H1 p = none → Q (.ref p) (upd H1 p (.tup xs))
def tLst (t : TA) : TE := fun σ H Q => t σ H fun xs H1 => xs.length ≤ sizeLine ∧ ∀ p, H1 p = none → Q (.ref p) (upd H1 p (.lst xs))
theorem pe_tup {x1} (h : PA X es t) : PE X (.Tuple es x1 pos) (tTup t) := by
  intro pins s σ H Q I hq
  refine wpAny_Tuple_spliced (thn (h pos pins s σ H _ I hq) fun us s1 ⟨xs, H1, I1, r, z, q⟩ => ⟨by rw [← r.length]; exact z, ?_⟩)
  have hf : H1 s1.heap.objs.size = none := I1.hok.fresh (Nat.le_refl _)
  refine ⟨.ref s1.heap.objs.size, upd H1 s1.heap.objs.size (.tup xs), I1.laid (t' := s1.toks) (fun b u e => Heap.get?_push_of_some _ e) (Nat.le_refl _) ?_, rfl, q _ hf⟩
  exact ⟨z, us, r, ⟨_, Heap.get?_push_size _ rfl, rfl, _, rfl⟩⟩
theorem pe_lst (h : PA X es t) : PE X (.List es pos) (tLst t) := by
  intro pins s σ H Q I hq
  refine wpAny_List_spliced (thn (h pos pins s σ H _ I hq) fun us s1 ⟨xs, H1, I1, r, z, q⟩ => ⟨by rw [← r.length]; exact z, ?_⟩)
  have hf : H1 s1.heap.objs.size = none := I1.hok.fresh (Nat.le_refl _)
  refine ⟨.ref s1.heap.objs.size, upd H1 s1.heap.objs.size (.lst xs), I1.laid (t' := s1.toks) (fun b u e => Heap.get?_push_of_some _ e) (Nat.le_refl _) ?_, rfl, q _ hf⟩
  exact ⟨z, us, 0, r, Heap.get?_push_size _ rfl⟩
end

/-! ### what a def promises -/
/-- a def's promise: the bound arguments in the parameters' order, the heap, the wanted end, the wanted exception -/
abbrev Sp := List V → Hp → VK → XK → Prop
/-- how an exception lies behind a call (file 08 gives it): the callers' frames, abstract heap and state ahead of the call, the wish, the exception, the state -/
abbrev CXT := List Env → Hp → Shared → XK → Value → Shared → Prop

/-- the state at a call -/
structure Env0 (P : Program) (w : World) (K : PySem.W.Frag) (mg : Str → Option Value) (base : Heap) (A : Around) (outer : List Env) (s : Shared) (H : Hp) : Prop where
  frames : A.frames = some outer
  mod : Mod K mg base
  bs : ∀ b o, base.get? b = some o → s.heap.get? b = some o ∧ H b = none
  bsz : base.objs.size ≤ s.heap.objs.size
  funs : s.heap.FunFrames base outer
  frf : ∀ b ∈ frs outer, H b = none
  hok : HOk P w H s.heap
  bare : AllBare s.gens
/-- a call's end -/
def CE (outer : List Env) (P : Program) (w : World) (H : Hp) (s : Shared) (Q : VK) (u : Value) (s' : Shared) : Prop :=
  ∃ v H', s'.os = s.os ∧ AllBare s'.gens ∧ Un (frs outer) [] H H' s.heap s'.heap ∧ HOk P w H' s'.heap ∧ RelV v u ∧ Q v H'
def CR (CX : CXT) (outer : List Env) (P : Program) (w : World) (H : Hp) (s : Shared) (Q : VK) (E : XK) (r : Result) (s' : Shared) : Prop :=
  match r with
  | .ok (.ret u) => CE outer P w H s Q u s'
  | .ok _ => False
  | .error e => CX outer H s E e s'
structure FnOk (P : Program) (w : World) (K : PySem.W.Frag) (mg : Str → Option Value) (base : Heap) (CX : CXT) (k : Nat) (f : Addr) (fd : FuncData) (ps : List Str) (sp : Sp) : Prop where
  len : ∀ vs H Q E, sp vs H Q E → vs.length = ps.length
  run : ∀ (A : Around) (outer : List Env) (s : Shared) (H : Hp) (args : Args) (us : List Value) (vs : List V) (Q : VK) (E : XK), Room k A → Env0 P w K mg base A outer s H → BindsTo s fd args (ps.zip us) → Vals vs us → sp vs H Q E →
    codeAny (model P w) A (.call (.ref f) args) (CR CX outer P w H s Q E) s
theorem FnOk.mono {P : Program} {w : World} {K : PySem.W.Frag} {mg : Str → Option Value} {base : Heap} {CX : CXT} {j k : Nat} {f : Addr} {fd : FuncData} {ps : List Str} {sp : Sp} (F : FnOk P w K mg base CX j f fd ps sp) (h : j ≤ k) :
    FnOk P w K mg base CX k f fd ps sp := ⟨F.len, fun A outer s H args us vs Q E hr => F.run A outer s H args us vs Q E (hr.mono h)⟩
/-- a weaker promise -/
theorem FnOk.imp {P : Program} {w : World} {K : PySem.W.Frag} {mg : Str → Option Value} {base : Heap} {CX : CXT} {k : Nat} {f : Addr} {fd : FuncData} {ps : List Str} {sp sp' : Sp} (F : FnOk P w K mg base CX k f fd ps sp)
    (h : ∀ vs H Q E, sp' vs H Q E → sp vs H Q E) : FnOk P w K mg base CX k f fd ps sp' :=
  ⟨fun vs H Q E q => F.len vs H Q E (h _ _ _ _ q), fun A outer s H args us vs Q E hr he hb hv hs => F.run A outer s H args us vs Q E hr he hb hv (h _ _ _ _ hs)⟩

theorem Env0.make {P : Program} {w : World} {K : PySem.W.Frag} {mg : Str → Option Value} {base : Heap} {A : Around} {outer : List Env} {s : Shared} {H : Hp} (e : Env0 P w K mg base A outer s H) (C : Addr) (us : List Value) (kw : List (Str × Value)) :
    Env0 P w K mg base (A.under (.builtin "type.__call__" ⟨.ref C :: us, kw⟩)) outer s H := ⟨by first | exact e.frames | (simpa [Around.under, Code.envs, Code.isFrame, pushEnvs] using e.frames), e.mod, e.bs, e.bsz, e.funs, e.frf, e.hok, e.bare⟩
theorem Env0.in1 {P : Program} {w : World} {K : PySem.W.Frag} {mg : Str → Option Value} {base : Heap} {A : Around} {outer : List Env} {s : Shared} {H : Hp} (e : Env0 P w K mg base A outer s H) :
    Env0 P w K mg base A.in1 outer s H := ⟨e.frames, e.mod, e.bs, e.bsz, e.funs, e.frf, e.hok, e.bare⟩

section
variable {X : Cx} {pins : List (Addr × Obj)} {σ : St} {H : Hp} {s s' : Shared}
/-- from a body: what a callee wants -/
theorem Inv.env0 (I : Inv X pins σ H s) : Env0 X.prog X.w X.K X.mg X.base X.A X.stack s H :=
  ⟨I.ok.frames, I.ok.mod, I.bs, Nat.le_trans I.ok.bsz I.sz, I.stack, I.stkFree, I.hok, I.bare⟩
/-- behind a call -/
theorem Inv.after {Q : VK} {u : Value} (I : Inv X pins σ H s) (h : CE X.stack X.prog X.w H s Q u s') : EP X pins σ Q u s' := by
  obtain ⟨v, H', os, bare, un, hok, r, q⟩ := h
  obtain ⟨hh, g, d, t, os'⟩ := s'
  obtain rfl : os' = s.os := os
  exact ⟨v, H', I.call (h' := hh) (g' := g) (d' := d) (t' := t) (ch := []) un hok bare (fun b z => absurd z (by simp)), r, q⟩
end

/-! ### calls -/
/-- f(..): the written arguments, then the defaults dvs; E: what is wanted of an exception -/
def tCall (sp : Sp) (dvs : List V) (E : XK) (t : TA) : TE := fun σ H Q => t σ H fun vs H1 => sp (vs ++ dvs) H1 Q E
/-- o.m(..) of an instance of the class at C -/
def tMeth (C : Addr) (m : Str) (sp : Sp) (dvs : List V) (E : XK) (ta : TE) (t : TA) : TE := fun σ H Q => ta σ H fun x H1 => ∃ a dx fs, x = .ref a ∧ H1 a = some (.ins C dx fs) ∧ fs.lookup m = none ∧
  t σ H1 fun vs H2 => sp (x :: (vs ++ dvs)) H2 Q E
/-- C(..): a new instance and its dict, then __init__ -/
def tMake (C : Addr) (sp : Sp) (dvs : List V) (E : XK) (t : TA) : TE := fun σ H Q => t σ H fun vs H1 => ∀ x dx, H1 x = none → H1 dx = none → dx ≠ x →
  sp (.ref x :: (vs ++ dvs)) (upd (upd H1 dx (.own x)) x (.ins C dx [])) (fun v H2 => v = .non ∧ Q (.ref x) H2) E

/-- how the parameters are bound: us the positional arguments, kw the keywords' values by name, ds the defaults that fill up -/
def Binds (K : PySem.W.Frag) (fd : FuncData) (ps : List Str) (ds : List Value) : Prop :=
  ∀ (s : Shared) (us : List Value), K.In s.heap → (us ++ ds).length = ps.length → BindsTo s fd ⟨us, []⟩ (ps.zip (us ++ ds))
/-- every parameter is given -/
theorem Binds.all {K : PySem.W.Frag} {fd : FuncData} {ps : List Str} (h : ∀ us : List Value, us.length = ps.length → bindArgs fd ⟨us, []⟩ = pure (ps.zip us)) : Binds K fd ps [] := fun s us _ hl => by
  rw [List.append_nil] at hl ⊢
  exact .of_eq (h us hl)

/-- an exception of a callee reaches what this body wants of exceptions -/
def Passes (CX : CXT) (X : Cx) (E : XK) : Prop := ∀ (pins : List (Addr × Obj)) (σ : St) (H : Hp) (s : Shared) (e : Value) (s' : Shared), Inv X pins σ H s → CX X.stack H s E e s' → X.xe e s'

section
variable {X : Cx} {CX : CXT} {k : Nat} {f C : Addr} {fd : FuncData} {ps : List Str} {sp : Sp} {dvs : List V} {ds : List Value} {E : XK} {x m : Str} {p pos apos : Pos} {e o : Expr} {es : List Expr} {ta : TE} {t : TA}

/-- the callee runs -/
theorem run_fn {pins : List (Addr × Obj)} {σ : St} {H : Hp} {s : Shared} {Q : VK} {us : List Value} {vs : List V} (F : FnOk X.prog X.w X.K X.mg X.base CX k f fd ps sp) (hr : Room k X.A) (hb : Binds X.K fd ps ds) (hd : Vals dvs ds) (hx : Passes CX X E)
    (I : Inv X pins σ H s) (r : Vals vs us) (h : sp (vs ++ dvs) H Q E) : wpAny (model X.prog X.w) X.A (call (.ref f) us) (EP X pins σ Q) X.xe s := by
  have r2 : Vals (vs ++ dvs) (us ++ ds) := r.append hd
  have hl : (us ++ ds).length = ps.length := by rw [← r2.length]; exact F.len _ _ _ _ h
  refine wpAny_call (codeAny_mono (F.run X.A X.stack s H ⟨us, []⟩ (us ++ ds) (vs ++ dvs) Q E hr I.env0 (hb s us I.kIn hl) r2 h) fun r s' hq => ?_)
  cases r with
  | error e => exact hx pins σ H s e s' I hq
  | ok fl =>
    cases fl with
    | ret u => exact I.after hq
    | next => exact False.elim hq
    | brk => exact False.elim hq
    | cont => exact False.elim hq

theorem pe_call (F : FnOk X.prog X.w X.K X.mg X.base CX k f fd ps sp) (hr : Room k X.A) (hg : Gl X x) (hm : X.mg x = some (.ref f)) (hk : PySem.W.keepIn X.K (.ref f) = true) (hb : Binds X.K fd ps ds) (hd : Vals dvs ds) (hx : Passes CX X E)
    (ha : PA X (e :: es) t) (hdb : (x == ("__debug__" : Str)) = false := by decide) (he : starEach (e :: es) X.env = (false, eval e X.env) :: starEach es X.env := by rfl) (hpl : (backTo pos (starEach es X.env)).any (·.1) = false := by rfl) :
    PE X (.Call (.Name x p) (e :: es) [] pos) (tCall sp dvs E t) := by
  intro pins s σ H Q I h
  refine wpAny_Call_Name_kw (ld_glob I hg hm ?_ hdb)
  refine PySem.W.callWith_K (h₀ := X.base) I.ok.mod.kin hk (thn (ha pos pins s σ H _ I h) fun us s1 ⟨vs, H1, I1, r, q⟩ => ⟨I1.kIn, ?_⟩) he hpl
  exact run_fn F hr hb hd hx I1 r q
theorem pe_call0 (F : FnOk X.prog X.w X.K X.mg X.base CX k f fd ps sp) (hr : Room k X.A) (hg : Gl X x) (hm : X.mg x = some (.ref f)) (hk : PySem.W.keepIn X.K (.ref f) = true) (hb : Binds X.K fd ps ds) (hd : Vals dvs ds) (hx : Passes CX X E)
    (hdb : (x == ("__debug__" : Str)) = false := by decide) : PE X (.Call (.Name x p) [] [] pos) (tCall sp dvs E tNil) := by
  intro pins s σ H Q I h
  refine wpAny_Call_Name_kw (ld_glob I hg hm ?_ hdb)
  exact PySem.W.callWith_K0 I.kIn hk (run_fn (us := []) F hr hb hd hx I .nil h)

/-- o.m(e, ..) -/
theorem pe_meth {pl : Sem Bool} (he : PE X o ta) (c : Cls X.K C) (hm : Meth X.K C m f) (F : FnOk X.prog X.w X.K X.mg X.base CX k f fd ps sp) (hr : Room k X.A) (hb : Binds X.K fd ps ds) (hd : Vals dvs ds) (hx : Passes CX X E) (ha : PA X (e :: es) t)
    (hst : starEach (e :: es) X.env = (false, eval e X.env) :: starEach es X.env := by rfl) (hpl : (backTo pos (starEach es X.env)).any (·.1) = false := by rfl)
    (ht : eval (.Call (.Attribute o m apos) (e :: es) [] pos) X.env = (do
      let ov ← eval o X.env
      standAt apos.atName
      let (f, first) ← holding [ov] (getMethod ov m pl)
      callWith pos f first (backTo pos (starEach (e :: es) X.env)) (backToKw pos (keywordEach [] X.env))) := by rfl) :
    PE X (.Call (.Attribute o m apos) (e :: es) [] pos) (tMeth C m sp dvs E ta t) := by
  intro pins s σ H Q I h
  refine PySem.W.methodCall_KW (pl := pl) (thn (he pins s σ H _ I h) fun u s1 ⟨x, H1, I1, rx, a, dx, fs, ex, ea, l, q⟩ => ?_) ht
  subst ex
  obtain rfl : u = Value.ref a := rx
  refine getmeth_ok I1 ea c hm l ?_
  refine PySem.W.callWith_K (first := [.ref a]) (h₀ := X.base) I.ok.mod.kin hm.kp (thn (ha pos pins s1 σ H1 _ I1 q) fun us s2 ⟨vs, H2, I2, r, q2⟩ => ⟨I2.kIn, ?_⟩) hst hpl
  exact run_fn (us := .ref a :: us) (vs := .ref a :: vs) F hr hb hd hx I2 (.cons rfl r) q2
/-- o.m() -/
theorem pe_meth0 {pl : Sem Bool} (he : PE X o ta) (c : Cls X.K C) (hm : Meth X.K C m f) (F : FnOk X.prog X.w X.K X.mg X.base CX k f fd ps sp) (hr : Room k X.A) (hb : Binds X.K fd ps ds) (hd : Vals dvs ds) (hx : Passes CX X E)
    (ht : eval (.Call (.Attribute o m apos) [] [] pos) X.env = (do
      let ov ← eval o X.env
      standAt apos.atName
      let (f, first) ← holding [ov] (getMethod ov m pl)
      callWith pos f first (backTo pos (starEach [] X.env)) (backToKw pos (keywordEach [] X.env))) := by rfl) :
    PE X (.Call (.Attribute o m apos) [] [] pos) (tMeth C m sp dvs E ta tNil) := by
  intro pins s σ H Q I h
  refine PySem.W.methodCall_KW (pl := pl) (thn (he pins s σ H _ I h) fun u s1 ⟨x, H1, I1, rx, a, dx, fs, ex, ea, l, q⟩ => ?_) ht
  subst ex
  obtain rfl : u = Value.ref a := rx
  refine getmeth_ok I1 ea c hm l ?_
  exact PySem.W.callWith_K0 (first := [.ref a]) I1.kIn hm.kp (run_fn (us := [.ref a]) (vs := [.ref a]) F hr hb hd hx I1 (.cons rfl .nil) q)

/-- what a class must have to be made -/
structure Mk (K : PySem.W.Frag) (C f : Addr) : Prop where
  makes : PySem.W.makesIn K C = true
  init : PySem.W.findIn K (.ref C) "__init__" = some (some (.ref f))
  fn : PySem.W.isFn K (.ref f) = true
  kp : PySem.W.keepIn K (.ref C) = true

theorem run_make {pins : List (Addr × Obj)} {σ : St} {H : Hp} {s : Shared} {Q : VK} {us : List Value} {vs : List V} (M : Mk X.K C f) (F : FnOk X.prog X.w X.K X.mg X.base CX k f fd ps sp) (hr : Room (k + 1) X.A) (hb : Binds X.K fd ps ds) (hd : Vals dvs ds)
    (hx : Passes CX X E) (I : Inv X pins σ H s) (r : Vals vs us)
    (h : ∀ x dx, H x = none → H dx = none → dx ≠ x → sp (.ref x :: (vs ++ dvs)) (upd (upd H dx (.own x)) x (.ins C dx [])) (fun v H2 => v = .non ∧ Q (.ref x) H2) E) :
    wpAny (model X.prog X.w) X.A (call (.ref C) us) (EP X pins σ Q) X.xe s := by
  have hq := h (s.heap.objs.size + 1) s.heap.objs.size (I.hok.fresh (Nat.le_succ _)) (I.hok.fresh (Nat.le_refl _)) (Nat.ne_of_lt (Nat.lt_succ_self _))
  have I2 := Inv.made (C := C) I
  have r2 : Vals (V.ref (s.heap.objs.size + 1) :: (vs ++ dvs)) (Value.ref (s.heap.objs.size + 1) :: (us ++ ds)) := .cons rfl (r.append hd)
  have hl : (Value.ref (s.heap.objs.size + 1) :: us ++ ds).length = ps.length := by
    have e := r2.length
    rw [F.len _ _ _ _ hq] at e
    exact e.symm
  refine wpAny_call (make_map (f := f) I.kIn M.makes M.init (beq_iff_eq.mp M.fn) (codeAny_mono (F.run _ X.stack _ _ ⟨Value.ref (s.heap.objs.size + 1) :: us, []⟩ (Value.ref (s.heap.objs.size + 1) :: (us ++ ds)) _ _ E (hr.make C us [])
    (I2.env0.make C us []) (hb _ (Value.ref (s.heap.objs.size + 1) :: us) I2.kIn hl) r2 hq) fun r s' hq' => ?_))
  cases r with
  | error e => exact hx pins σ _ _ e s' I2 hq'
  | ok fl =>
    cases fl with
    | ret u =>
      obtain ⟨v, H', I3, rv, ev, q3⟩ := I2.after hq'
      subst ev
      exact ⟨rv, ⟨V.ref (s.heap.objs.size + 1), H', I3, rfl, q3⟩⟩
    | next => exact False.elim hq'
    | brk => exact False.elim hq'
    | cont => exact False.elim hq'
theorem pe_make (M : Mk X.K C f) (F : FnOk X.prog X.w X.K X.mg X.base CX k f fd ps sp) (hr : Room (k + 1) X.A) (hg : Gl X x) (hm : X.mg x = some (.ref C)) (hb : Binds X.K fd ps ds) (hd : Vals dvs ds) (hx : Passes CX X E)
    (ha : PA X (e :: es) t) (hdb : (x == ("__debug__" : Str)) = false := by decide) (he : starEach (e :: es) X.env = (false, eval e X.env) :: starEach es X.env := by rfl) (hpl : (backTo pos (starEach es X.env)).any (·.1) = false := by rfl) :
    PE X (.Call (.Name x p) (e :: es) [] pos) (tMake C sp dvs E t) := by
  intro pins s σ H Q I h
  refine wpAny_Call_Name_kw (ld_glob I hg hm ?_ hdb)
  refine PySem.W.callWith_K (h₀ := X.base) I.ok.mod.kin M.kp (thn (ha pos pins s σ H _ I h) fun us s1 ⟨vs, H1, I1, r, q⟩ => ⟨I1.kIn, ?_⟩) he hpl
  exact run_make M F hr hb hd hx I1 r q
theorem pe_make0 (M : Mk X.K C f) (F : FnOk X.prog X.w X.K X.mg X.base CX k f fd ps sp) (hr : Room (k + 1) X.A) (hg : Gl X x) (hm : X.mg x = some (.ref C)) (hb : Binds X.K fd ps ds) (hd : Vals dvs ds) (hx : Passes CX X E)
    (hdb : (x == ("__debug__" : Str)) = false := by decide) : PE X (.Call (.Name x p) [] [] pos) (tMake C sp dvs E tNil) := by
  intro pins s σ H Q I h
  refine wpAny_Call_Name_kw (ld_glob I hg hm ?_ hdb)
  exact PySem.W.callWith_K0 I.kIn M.kp (run_make (us := []) M F hr hb hd hx I .nil h)
end

/-! ### keywords -/
/-- the values of the keywords, from the left -/
def PK (X : Cx) (kws : List Keyword) (t : TA) : Prop :=
  ∀ (pos : Pos) (pins : List (Addr × Obj)) (s : Shared) (σ : St) (H : Hp) (Q : List V → Hp → Prop), Inv X pins σ H s → t σ H Q → wpAny (model X.prog X.w) X.A (evalAll ((backToKw pos (keywordEach kws X.env)).map (·.2))) (AP X pins σ Q) X.xe s
section
variable {X : Cx} {CX : CXT} {k : Nat} {f C : Addr} {fd : FuncData} {ps ks : List Str} {sp : Sp} {E : XK} {x m : Str} {p pos apos kpos : Pos} {e o : Expr} {es : List Expr} {kws : List Keyword} {te ta : TE} {t tk : TA} {nm : Option Str}
theorem pk_nil : PK X [] tNil := fun _ _ _ _ H Q I h => wpAny_evalAll_nil ⟨[], H, I, .nil, h⟩
theorem pk_cons (ha : PE X e te) (hr : PK X kws t) : PK X (⟨nm, e, kpos⟩ :: kws) (tCons te t) := by
  intro pos pins s σ H Q I h
  show wpAny _ _ (evalAll ((do let v ← eval e X.env; standAt pos; pure v) :: (backToKw pos (keywordEach kws X.env)).map (·.2))) _ _ s
  refine wpAny_evalAll_cons (wpAny_bind (thn (ha pins s σ H _ I h) fun u s1 ⟨x, H1, I1, r1, q1⟩ => wpAny_bind (wpAny_standAt (wpAny_pure ?_))))
  exact thn (hr pos pins s1 σ H1 _ I1 q1) fun us s2 ⟨xs, H2, I2, r2, q2⟩ => ⟨x :: xs, H2, I2, .cons r1 r2, q2⟩

/-- how a call with keywords binds: g puts the positional values us and the keywords' values ws (names ks) in the parameters' order, defaults among them -/
structure KBinds (K : PySem.W.Frag) (fd : FuncData) (ps ks : List Str) (g : List Value → List Value → List Value) (gV : List V → List V → List V) : Prop where
  to : ∀ (s : Shared) (us ws : List Value), K.In s.heap → (g us ws).length = ps.length → BindsTo s fd ⟨us, ks.zip ws⟩ (ps.zip (g us ws))
  rel : ∀ {vs : List V} {us : List Value} {zs : List V} {ws : List Value}, Vals vs us → Vals zs ws → Vals (gV vs zs) (g us ws)
def tCallK (sp : Sp) (gV : List V → List V → List V) (E : XK) (t tk : TA) : TE := fun σ H Q => t σ H fun vs H1 => tk σ H1 fun zs H2 => sp (gV vs zs) H2 Q E
variable {g : List Value → List Value → List Value} {gV : List V → List V → List V}
theorem run_fnk {pins : List (Addr × Obj)} {σ : St} {H : Hp} {s : Shared} {Q : VK} {us ws : List Value} {vs zs : List V} (F : FnOk X.prog X.w X.K X.mg X.base CX k f fd ps sp) (hr : Room k X.A) (hb : KBinds X.K fd ps ks g gV) (hx : Passes CX X E)
    (I : Inv X pins σ H s) (r : Vals vs us) (rz : Vals zs ws) (h : sp (gV vs zs) H Q E) : wpAny (model X.prog X.w) X.A (call (.ref f) us (ks.zip ws)) (EP X pins σ Q) X.xe s := by
  have r2 := hb.rel r rz
  have hl : (g us ws).length = ps.length := by rw [← r2.length]; exact F.len _ _ _ _ h
  refine wpAny_call (codeAny_mono (F.run X.A X.stack s H ⟨us, ks.zip ws⟩ (g us ws) (gV vs zs) Q E hr I.env0 (hb.to s us ws I.kIn hl) r2 h) fun r s' hq => ?_)
  cases r with
  | error e => exact hx pins σ H s e s' I hq
  | ok fl =>
    cases fl with
    | ret u => exact I.after hq
    | next => exact False.elim hq
    | brk => exact False.elim hq
    | cont => exact False.elim hq
/-- f(e, .., k = v, ..) -/
theorem pe_callK (F : FnOk X.prog X.w X.K X.mg X.base CX k f fd ps sp) (hr : Room k X.A) (hg : Gl X x) (hm : X.mg x = some (.ref f)) (hk : PySem.W.keepIn X.K (.ref f) = true) (hb : KBinds X.K fd ps ks g gV) (hx : Passes CX X E)
    (ha : PA X (e :: es) t) (hkw : PK X kws tk) (hall : (backToKw pos (keywordEach kws X.env)).all (·.1.isSome) = true := by rfl) (hks : (backToKw pos (keywordEach kws X.env)).filterMap (·.1) = ks := by rfl)
    (hdb : (x == ("__debug__" : Str)) = false := by decide) (he : starEach (e :: es) X.env = (false, eval e X.env) :: starEach es X.env := by rfl)
    (hpl : ((backTo pos (starEach (e :: es) X.env)).any (·.1) || (backToKw pos (keywordEach kws X.env)).any (·.1.isNone)) = false := by rfl) :
    PE X (.Call (.Name x p) (e :: es) kws pos) (tCallK sp gV E t tk) := by
  intro pins s σ H Q I h
  refine wpAny_Call_Name_kw (ld_glob I hg hm ?_ hdb)
  refine PySem.W.callWith_KW (h₀ := X.base) I.ok.mod.kin hk hall (thn (ha pos pins s σ H _ I h) fun us s1 ⟨vs, H1, I1, r, q⟩ => ?_) hpl he
  refine thn (hkw pos pins s1 σ H1 _ I1 q) fun ws s2 ⟨zs, H2, I2, rz, q2⟩ => ⟨I2.kIn, ?_⟩
  rw [hks]
  exact run_fnk F hr hb hx I2 r rz q2
end

/-! ### a def's body keeps its promise -/
/-- names: the parameters first -/
structure FnScope (N P : List Str) (sc : Scope) : Prop where
  kind : sc.kind = .function
  co : sc.isCoroutine = false
  gen : sc.isGenerator = false
  nd : N.Nodup
  pre : N.take P.length = P
  par : ∀ x ∈ P, sc.names.lookup x = some .local ∨ sc.names.lookup x = some .cell
  nofree : ∀ y ∈ sc.names, y.2 ≠ .free

theorem bindL_out {kindOf : Str → Option NameKind} {x : Str} : ∀ {binds : List (Str × Value)} {m : Str → Option Value}, (∀ v, (x, v) ∉ binds) → bindL kindOf binds m x = m x
  | [], _, _ => rfl
  | (n, v) :: r, m, h => by
    unfold bindL
    rw [bindL_out fun w hw => h w (List.mem_cons_of_mem _ hw)]
    split
    · have : x ≠ n := by rintro rfl; exact h v List.mem_cons_self
      simp [this]
    · rfl
theorem bindC_out {kindOf : Str → Option NameKind} {x : Str} : ∀ {binds : List (Str × Value)} {m : Str → Option Value}, (∀ v, (x, v) ∉ binds) → bindC kindOf binds m x = m x
  | [], _, _ => rfl
  | (n, v) :: r, m, h => by
    unfold bindC
    rw [bindC_out fun w hw => h w (List.mem_cons_of_mem _ hw)]
    split
    · rfl
    · have : x ≠ n := by rintro rfl; exact h v List.mem_cons_self
      simp [this]
theorem bindL_get {kindOf : Str → Option NameKind} {x : Str} {v : Value} : ∀ {P : List Str} {vs : List Value} {i : Nat} {m : Str → Option Value}, P.Nodup → P[i]? = some x → vs[i]? = some v → kindOf x = some .local →
    bindL kindOf (P.zip vs) m x = some v
  | [], _, _, _, _, h, _, _ => by simp at h
  | _ :: _, [], _, _, _, _, h, _ => by simp at h
  | p :: P, w :: vs, 0, m, nd, h1, h2, hk => by
    simp at h1 h2; subst h1; subst h2
    show bindL kindOf ((p, w) :: P.zip vs) m p = _
    unfold bindL
    rw [bindL_out fun v hv => (List.nodup_cons.mp nd).1 (List.of_mem_zip hv).1, if_pos hk]
    simp
  | p :: P, w :: vs, i + 1, m, nd, h1, h2, hk => by
    show bindL kindOf ((p, w) :: P.zip vs) m x = _
    unfold bindL
    exact bindL_get (i := i) (List.nodup_cons.mp nd).2 (by simpa using h1) (by simpa using h2) hk
theorem bindC_get {kindOf : Str → Option NameKind} {x : Str} {v : Value} : ∀ {P : List Str} {vs : List Value} {i : Nat} {m : Str → Option Value}, P.Nodup → P[i]? = some x → vs[i]? = some v → kindOf x ≠ some .local →
    bindC kindOf (P.zip vs) m x = some v
  | [], _, _, _, _, h, _, _ => by simp at h
  | _ :: _, [], _, _, _, _, h, _ => by simp at h
  | p :: P, w :: vs, 0, m, nd, h1, h2, hk => by
    simp at h1 h2; subst h1; subst h2
    show bindC kindOf ((p, w) :: P.zip vs) m p = _
    unfold bindC
    rw [bindC_out fun v hv => (List.nodup_cons.mp nd).1 (List.of_mem_zip hv).1, if_neg hk]
    simp
  | p :: P, w :: vs, i + 1, m, nd, h1, h2, hk => by
    show bindC kindOf ((p, w) :: P.zip vs) m x = _
    unfold bindC
    exact bindC_get (i := i) (List.nodup_cons.mp nd).2 (by simpa using h1) (by simpa using h2) hk

/-- the names' values at the entry -/
def start (N : List Str) (vs : List V) : St := vs.map some ++ List.replicate (N.length - vs.length) none

/-- the context of a def's body, at its entry; an exception leaves the frame, then lies as CX says -/
def cxOf (CX : CXT) (P : Program) (w : World) (K : PySem.W.Frag) (mg : Str → Option Value) (base : Heap) (N : List Str) (qual : Str) (scope : Scope) (f : Addr) (cd : Value) (A : Around) (outer : List Env) (s : Shared) (H : Hp) (E : XK) : Cx where
  prog := P
  w := w
  K := K
  mg := mg
  base := base
  A := A.deeper (envOfC qual scope s.heap.objs.size f cd)
  N := N
  s₀ := s
  H₀ := H
  env := envOfC qual scope s.heap.objs.size f cd
  outer := outer
  stack := envOfC qual scope s.heap.objs.size f cd :: outer
  ex := []
  calm := true
  fn := fun _ => true
  pn := []
  xe := fun e s' => wpAny (model P w) (A.deeper (envOfC qual scope s.heap.objs.size f cd)) (leaving (envOfC qual scope s.heap.objs.size f cd) e) (fun _ s'' => CX outer H s E e s'') (fun e' s'' => CX outer H s E e' s'') s'

theorem cell_has {sc : Scope} {n : Nat} {x : Str} (h : sc.names.lookup x = some .cell) : ∃ c, (cellsFrom n sc.names []).lookup x = some c := by
  have q := PySem.W.cellsFrom_some sc.names n [] (.inl h)
  exact Option.isSome_iff_exists.mp q

theorem inv_start {CX : CXT} {P : Program} {w : World} {K : PySem.W.Frag} {mg : Str → Option Value} {base : Heap} {N ps : List Str} {qual : Str} {scope : Scope} {f : Addr} {cd : Value} {A : Around} {outer : List Env} {s s1 : Shared} {H : Hp} {E : XK} {us : List Value} {vs : List V}
    (S : FnScope N ps scope) (hd : A.handled = none) (e0 : Env0 P w K mg base A outer s H) (hl : vs.length = ps.length) (r : Vals vs us)
    (x : InCallC s s.heap.objs.size (bindL (envOfC qual scope s.heap.objs.size f cd).kindOf (ps.zip us) fun _ => none) (cellsFrom (s.heap.objs.size + 1) scope.names []) (bindC (envOfC qual scope s.heap.objs.size f cd).kindOf (ps.zip us) fun _ => none) s1) :
    Inv (cxOf CX P w K mg base N qual scope f cd A outer s H E) [] (start N vs) H s1 := by
  have hpl : ps.length ≤ N.length := by have := congrArg List.length S.pre; rw [List.length_take] at this; omega
  obtain ⟨h1, tk, rfl, hk⟩ := x.done
  have noA : ∀ b : Addr, b ∉ (cxOf CX P w K mg base N qual scope f cd A outer s H E).ex := fun b z => absurd (show b ∈ ([] : List Addr) from z) (by simp)
  refine ⟨⟨e0.mod, S.kind, rfl, rfl, Nat.le_refl _, fun y z c h1 h2 => ?_, fun y hy => ?_, fun y c _ h => ?_, fun _ => hd, Around.frames_deeper e0.frames, .inr ⟨rfl, rfl⟩, fun b z => absurd z (noA b), e0.bs, e0.bsz, fun b _ _ => noA b, fun b z => absurd z (noA b), e0.funs, e0.frf⟩,
    rfl, e0.bare, Un.kept hk, ⟨_, x.toInCall.ns, fun i y v h1 h2 h3 => ?_⟩, fun y c h => ⟨_, x.cell y c h⟩, e0.hok.fresh (Nat.le_refl _), fun y c h => ?_, fun p hp => absurd (show p ∈ ([] : List (Addr × Obj)) from hp) (by simp), e0.hok.kept hk, ?_⟩
  · exact name_of_addr x.apart (PySem.mem_of_lookup h1) (PySem.mem_of_lookup h2)
  · have hy : scope.names.lookup y = some .cell ∨ scope.names.lookup y = some .free := hy
    rcases hy with hy | hy
    · exact cell_has hy
    · exact absurd rfl (S.nofree _ (PySem.mem_of_lookup hy))
  · exact Nat.le_of_lt (x.above y c (PySem.mem_of_lookup h))
  · have hi : i < vs.length := by
      unfold start at h2
      by_cases hi : i < vs.length
      · exact hi
      · rw [List.getElem?_append_right (by simpa using hi)] at h2
        rw [List.getElem?_replicate] at h2
        split at h2 <;> cases h2
    have ha : vs[i]? = some v := by
      unfold start at h2
      rw [List.getElem?_append_left (by simpa using hi), List.getElem?_map] at h2
      cases e : vs[i]? with
      | none => rw [e] at h2; cases h2
      | some a => rw [e] at h2; cases h2; rfl
    obtain ⟨u, hu, rv⟩ := r.get ha
    have hp : ps[i]? = some y := by
      rw [← S.pre, List.getElem?_take_of_lt (by omega)]; exact h1
    have ndP : ps.Nodup := by rw [← S.pre]; exact S.nd.sublist (List.take_sublist _ _)
    refine ⟨u, rv, ?_⟩
    rcases S.par y (List.mem_of_getElem? hp) with k | k
    · exact .inl ⟨k, bindL_get ndP hp hu k⟩
    · obtain ⟨c, e⟩ := cell_has (n := s.heap.objs.size + 1) k
      refine .inr ⟨.inl k, c, e, ?_⟩
      have q := x.cell y c e
      rw [bindC_get ndP hp hu (by show scope.names.lookup y ≠ _; rw [k]; decide)] at q
      exact q
  · exact e0.hok.fresh (Nat.le_of_lt (x.above y c (PySem.mem_of_lookup h)))
  · unfold start
    show _ = N.length
    rw [List.length_append, List.length_map, List.length_replicate]
    omega

/-- THE RULE: a def (or a method) of the text, by its body. The body's reading t is chosen for each entry; it is run at the parameters' values -/
theorem fn_of {CX : CXT} {P : Program} {w : World} {K : PySem.W.Frag} {mg : Str → Option Value} {base : Heap} {k : Nat} {f : Addr} {name qual : Str} {params : Arguments} {body : List Stmt} {scope : Scope} {dV kV doc pm cdv ct oc : Value} {an od : Option Addr}
    {osl : Array (Option Value)} {N ps : List Str} {sp : Sp} (lk : K.lookup f = some ⟨oc, od, .func (PySem.W.fnOf name qual params body scope dV kV doc pm an cdv ct), osl⟩) (hcd : PySem.W.codeIn K cdv qual = true) (S : FnScope N ps scope)
    (len : ∀ vs H Q E, sp vs H Q E → vs.length = ps.length)
    (hbody : ∀ (A : Around) (outer : List Env) (s : Shared) (H : Hp) (vs : List V) (Q : VK) (E : XK), Room k (A.deeper (envOfC qual scope s.heap.objs.size f cdv)) → sp vs H Q E →
      ∃ t, PSs (cxOf CX P w K mg base N qual scope f cdv A outer s H E) body t ∧ t { nx := fun _ H' => Q .non H', rt := Q } (start N vs) H) :
    FnOk P w K mg base CX (k + 1) f (PySem.W.fnOf name qual params body scope dV kV doc pm an cdv ct) ps sp := by
  refine ⟨len, fun A outer s H args us vs Q E hr e0 hb r hsp => ?_⟩
  have hl := len _ _ _ _ hsp
  have KX : K.In s.heap := e0.mod.kin.keeps fun b o e => (e0.bs b o e).1
  have lim : s.heap.NoLimit := e0.mod.nolimit.keeps fun b o e => (e0.bs b o e).1
  have hkind : ∀ y ∈ ps.zip us, scope.names.lookup y.1 = some .local ∨ (scope.names.lookup y.1 = some .cell ∧ ((cellsFrom (s.heap.objs.size + 1) scope.names []).lookup y.1).isSome = true) := fun ⟨n, v⟩ hy => by
    rcases S.par n (List.of_mem_zip hy).1 with q | q
    · exact .inl q
    · exact .inr ⟨q, PySem.W.cellsFrom_some _ _ _ (.inl q)⟩
  refine codeAny_call_function hr.depth (KX _ _ lk) rfl S.co S.gen rfl (PySem.W.codeRec_of KX hcd) (hb _ _ _ _ ?_)
  refine wpAny_newFunctionEnv_cells S.kind hkind fun env he s1 x => ?_
  subst he
  refine ⟨lim.keeps x.toInCall.keep, codeAny_func ?_⟩
  obtain ⟨t, ht, hq⟩ := hbody A outer s H vs Q E (hr.deeper _) hsp
  have I : Inv (cxOf CX P w K mg base N qual scope f cdv A outer s H E) [] (start N vs) H s1 := inv_start S hr.hd e0 hl r x
  refine wpAny_mono (ht [] s1 (start N vs) H _ I hq) (fun fl s' hs => ?_) fun e s' hs => hs
  have fin : ∀ {σ' : St} {H' : Hp} {v : V} {u : Value}, Inv (cxOf CX P w K mg base N qual scope f cdv A outer s H E) [] σ' H' s' → RelV v u → Q v H' → CE outer P w H s Q u s' :=
    fun {σ' H' v u} J rv q => ⟨v, H', J.os, J.bare, J.base, J.hok, rv, q⟩
  cases fl with
  | ret u =>
    obtain ⟨v, σ', H', J, rv, q⟩ := hs
    exact fin J rv q
  | next =>
    obtain ⟨σ', H', J, q⟩ := hs
    exact fin (v := V.non) (u := Value.none) J rfl q
  | brk =>
    obtain ⟨_, _, _, q⟩ := hs
    exact False.elim q
  | cont =>
    obtain ⟨_, _, _, q⟩ := hs
    exact False.elim q
end L2

namespace L2
open PySem PySem.Spec PyProof.Rows
section
variable {X : Cx} {x : Str} {p pos : Pos} {e : Expr} {es : List Expr} {t : TA} {id T : String} {r : List V → Hp → VK → Prop}

def tCB (r : List V → Hp → VK → Prop) (t : TA) : TE := fun σ H Q => t σ H fun vs H1 => r vs H1 Q
/-- f(e, ..), f a built-in function -/
theorem pe_callB (hc : CallR X (.builtin id) r) (hg : Gl X x) (hm : X.mg x = none) (hv : bootBuiltins x = some (.builtin id)) (ha : PA X (e :: es) t) (hn : x ≠ "__name__" := by decide) (hdb : (x == ("__debug__" : Str)) = false := by decide)
    (he : starEach (e :: es) X.env = (false, eval e X.env) :: starEach es X.env := by rfl) (hpl : (backTo pos (starEach es X.env)).any (·.1) = false := by rfl) : PE X (.Call (.Name x p) (e :: es) [] pos) (tCB r t) := by
  intro pins s σ H Q I h
  refine wpAny_Call_Name_kw (ld_blt I hg hm hv ?_ hn hdb)
  exact PyProof.Rows.callWith_builtin1 (thn (ha pos pins s σ H _ I h) fun us s1 ⟨vs, H1, I1, r1, q1⟩ => hc pins s1 σ H1 vs us Q I1 r1 q1) he hpl
/-- T(e, ..), T a built-in type -/
theorem pe_callTy (hc : CallR X (.type T) r) (hg : Gl X x) (hm : X.mg x = none) (hv : bootBuiltins x = some (.type T)) (ha : PA X (e :: es) t) (hn : x ≠ "__name__" := by decide) (hdb : (x == ("__debug__" : Str)) = false := by decide)
    (he : starEach (e :: es) X.env = (false, eval e X.env) :: starEach es X.env := by rfl) (hpl : (backTo pos (starEach es X.env)).any (·.1) = false := by rfl) : PE X (.Call (.Name x p) (e :: es) [] pos) (tCB r t) := by
  intro pins s σ H Q I h
  refine wpAny_Call_Name_kw (ld_blt I hg hm hv ?_ hn hdb)
  exact PyProof.Rows.callWith_type1 (thn (ha pos pins s σ H _ I h) fun us s1 ⟨vs, H1, I1, r1, q1⟩ => hc pins s1 σ H1 vs us Q I1 r1 q1) he hpl
/-- T() -/
theorem pe_callTy0 (hc : CallR X (.type T) r) (hg : Gl X x) (hm : X.mg x = none) (hv : bootBuiltins x = some (.type T)) (hn : x ≠ "__name__" := by decide) (hdb : (x == ("__debug__" : Str)) = false := by decide) :
    PE X (.Call (.Name x p) [] [] pos) (tCB r tNil) := by
  intro pins s σ H Q I h
  refine wpAny_Call_Name_kw (ld_blt I hg hm hv ?_ hn hdb)
  exact PyProof.Rows.callWith_type0 (hc pins s σ H [] [] Q I .nil h)
end
end L2

namespace HT
open PySem PyProof.Rows

/-- t < u of tuples of ints -/
def lexLt : List Int → List Int → Bool
  | [], [] => false
  | [], _ :: _ => true
  | _ :: _, [] => false
  | x :: xs, y :: ys => if x = y then lexLt xs ys else decide (x < y)
theorem lexLt_cons (x y : Int) (xs ys : List Int) : lexLt (x :: xs) (y :: ys) = if x = y then lexLt xs ys else decide (x < y) := rfl
theorem lexLt_nil_nil : lexLt [] [] = false := rfl
theorem lexLt_nil_cons (y : Int) (ys : List Int) : lexLt [] (y :: ys) = true := rfl
theorem lexLt_cons_nil (x : Int) (xs : List Int) : lexLt (x :: xs) [] = false := rfl

theorem eqAt_int (A : Around) (s : Shared) (a : Int) (t : Tok) (c : Int) (u : Tok) : ∃ e, SeqAt.EqAt A s (.int a t) (.int c u) e ∧ (e = true ↔ a = c) :=
  ⟨(a == c), SeqAt.EqAt.int_int a t c u, by simp⟩
theorem rcLt_int (A : Around) (s : Shared) (a : Int) (t : Tok) (c : Int) (u : Tok) (prog : Program) (w : World) (E : Value → Shared → Prop) (Q : Value → Shared → Prop) (h : Q (.bool (decide (a < c))) s) :
    wpAny (model prog w) A (richCompare .Lt (.int a t) (.int c u)) Q E s :=
  (PyProof.Rows.lt_int h : wpAny (model prog w) A (compareOp .Lt (.int a t) (.int c u)) Q E s)

section
open PySem.SeqAt
open PySem.AutoSeq1 (wpAny_loadPart')
open PySem.MeetsSeq PySem.MeetsSeq2 PySem.MeetsSeq3

theorem tuple_lt_ints (l b : Addr) (items items2 : Array Value) (n n2 : Nat) (dd dd2 : Option Addr) (sl sl2 : Array (Option Value)) (ns ms : List Int) (hi : IntsAre items.toList ns) (hj : IntsAre items2.toList ms) :
    Meets (Builtin.«tuple.__lt__» ⟨[.ref l, .ref b], []⟩)
      (fun _ R s => s.heap.get? l = some { cls := .type "tuple", dict := dd, data := .seq items n, slots := sl } ∧ s.heap.get? b = some { cls := .type "tuple", dict := dd2, data := .seq items2 n2, slots := sl2 } ∧
        R (.ok (.ret (.bool (lexLt ns ms)))) s) :=
  .of_wp fun prog w A R s h => by
    obtain ⟨hp, g, d, tk, os⟩ := s; obtain ⟨hl, hb, h⟩ := h
    have f2 := AutoSeq1.sub_tuple_tuple
    have z1 : items.size = ns.length := by rw [← hi.length]; simp
    have z2 : items2.size = ms.length := by rw [← hj.length]; simp
    wp_walk using wpAny_loadPart' hl, wpAny_loadPart' hb, wpAny_forIn_list _ (fun rest b s' => b.1 = none ∧ s' = ⟨hp, g, d, tk, os⟩ ∧ ∃ (vs ws : List Value) (ns' ms' : List Int), rest = vs.zip ws ∧
      IntsAre vs ns' ∧ IntsAre ws ms' ∧ ns'.length + items2.size = ms'.length + items.size ∧ R (.ok (.ret (.bool (lexLt ns' ms')))) ⟨hp, g, d, tk, os⟩) _
    case turn =>
      rintro ⟨y, x⟩ rest b s' ⟨hb', rfl, vs, ws, ns', ms', hz, hvi, hwi, hlen, hR⟩
      cases hvi with
      | nil => rw [List.zip_nil_left] at hz; cases hz
      | cons a t hvi' =>
        cases hwi with
        | nil => rw [List.zip_nil_right] at hz; cases hz
        | cons c u hwi' =>
          rw [List.zip_cons_cons] at hz
          injection hz with hyx hrest
          injection hyx with hy hx
          subst hy hx
          rw [lexLt_cons] at hR
          simp only [List.length_cons] at hlen
          obtain ⟨e, he, hiff⟩ := eqAt_int A.in1 ⟨hp, g, d, tk, os⟩ a t c u
          refine wpAny_bind (he prog w _ _ ?_)
          cases e with
          | true =>
            rw [if_pos (hiff.mp rfl)] at hR
            wp_walk
            exact ⟨rfl, rfl, _, _, _, _, hrest, hvi', hwi', by omega, hR⟩
          | false =>
            rw [if_neg (fun q => absurd (hiff.mpr q) Bool.false_ne_true)] at hR
            have hri := rcLt_int A.in1 ⟨hp, g, d, tk, os⟩ a t c u prog w
            wp_walk using hri
            exact ⟨_, rfl, by simpa using hR⟩
    case fin =>
      rintro ⟨b1, b2⟩ s' ⟨hb', rfl, vs, ws, ns', ms', hz, hvi, hwi, hlen, hR⟩
      simp only at hb'
      subst hb'
      have hv : lexLt ns' ms' = decide (items.size < items2.size) := by
        cases hvi with
        | nil =>
          cases hwi with
          | nil =>
            simp only [List.length_nil] at hlen
            rw [lexLt_nil_nil]
            exact (decide_eq_false (by omega)).symm
          | cons c u hw =>
            simp only [List.length_nil, List.length_cons] at hlen
            rw [lexLt_nil_cons]
            exact (decide_eq_true (by omega)).symm
        | cons a t hv =>
          cases hwi with
          | nil =>
            simp only [List.length_nil, List.length_cons] at hlen
            rw [lexLt_cons_nil]
            exact (decide_eq_false (by omega)).symm
          | cons c u hw =>
            rw [List.zip_cons_cons] at hz
            cases hz
      rw [hv] at hR
      wp_walk
      exact ⟨_, rfl, by simpa [Builtin.Tuple.tupleCompareSizes] using hR⟩
    case h =>
      exact ⟨rfl, rfl, items.toList, items2.toList, ns, ms, rfl, hi, hj, by omega, h⟩
end

section
variable {prog : Program} {w : World} {A : Around} {E : Value → Shared → Prop} {s : Shared}

theorem lt_tupInts {l b : Addr} {items items2 : Array Value} {ns ms : List Int} {Q : Value → Shared → Prop} (hl : IsTup s.heap l items) (hb : IsTup s.heap b items2) (hi : IntsAre items.toList ns) (hj : IntsAre items2.toList ms)
    (hu : A.units < cLine) (h : Q (.bool (lexLt ns ms)) s) : wpAny (model prog w) A (compareOp .Lt (.ref l) (.ref b)) Q E s := by
  obtain ⟨⟨cls, dd, data, sl⟩, ho, hc, n, hd⟩ := id hl
  obtain ⟨⟨cls2, dd2, data2, sl2⟩, ho2, hc2, n2, hd2⟩ := id hb
  simp only at hc hd hc2 hd2
  subst hc hd hc2 hd2
  exact richCompare_meets_room (op := .Lt) ⟨_, ho, rfl⟩ ⟨_, ho2, rfl⟩ PySem.F.slot_tuple_lt PySem.F.entry_tuple_lt (PySem.F.args_tuple_lt_2 _ _) (tuple_lt_ints l b items items2 n n2 dd dd2 sl sl2 ns ms hi hj)
    ⟨ho, ho2, show Value.bool (lexLt ns ms) ≠ Value.notImplemented ∧ Q (.bool (lexLt ns ms)) s from ⟨(fun x => nomatch x), h⟩⟩ hu

/-- t + u, t not empty -/
theorem cat_tup {t b : Addr} {vs ws : List Value} {Q : Value → Shared → Prop} (ht : IsTup s.heap t vs.toArray) (hb : IsTup s.heap b ws.toArray) (hv : vs ≠ [])
    (h1 : ws = [] → Q (.ref t) s) (h2 : ws ≠ [] → Q (.ref s.heap.objs.size) { s with heap := s.heap.push { cls := .type "tuple", data := .seq (vs ++ ws).toArray } })
    (hsz : vs.length + ws.length ≤ sizeLine) : wpAny (model prog w) A (binaryOp .Add (.ref t) (.ref b)) Q E s := by
  obtain ⟨⟨cls, dd, data, sl⟩, ho, hc, n, hd⟩ := id ht
  obtain ⟨⟨cls2, dd2, data2, sl2⟩, ho2, hc2, n2, hd2⟩ := id hb
  simp only at hc hd hc2 hd2
  subst hc hd hc2 hd2
  have e : vs.toArray ++ ws.toArray = (vs ++ ws).toArray := by simp
  by_cases hw : ws = []
  · exact concat_meets ⟨_, ho, rfl⟩ ⟨_, ho2, rfl⟩ noFill_tuple_add seq_tuple_add PySem.F.slot_tuple_add PySem.F.entry_tuple_add (PySem.F.args_tuple_add_2 _ _)
      (tuple_addW1 t b vs.toArray ws.toArray n n2 dd dd2 sl sl2 (by simpa using hv) (by simp [hw])) ⟨ho, ho2, h1 hw⟩
  · refine concat_meets ⟨_, ho, rfl⟩ ⟨_, ho2, rfl⟩ noFill_tuple_add seq_tuple_add PySem.F.slot_tuple_add PySem.F.entry_tuple_add (PySem.F.args_tuple_add_2 _ _)
      (tuple_addW2 t b vs.toArray ws.toArray n n2 dd dd2 sl sl2 (by simpa using hv) (by simpa using hw) (by rw [List.size_toArray, List.size_toArray]; exact hsz)) ⟨ho, ho2, ?_⟩
    rw [e]
    exact h2 hw

/-! ### t[a:b], not the whole -/
/-- a slice's bound as a place among n (d where it is left out) -/
def sIx (n d : Nat) : Option Int → Nat
  | none => d
  | some v => if v < 0 then (v + (n : Int)).toNat else min v.toNat n
theorem sIx_none (n d : Nat) : sIx n d none = d := rfl
theorem sIx_nat (n d k : Nat) : sIx n d (some (k : Int)) = min k n := by
  show (if (k : Int) < 0 then ((k : Int) + (n : Int)).toNat else min (k : Int).toNat n) = min k n
  rw [if_neg (by omega), Int.toNat_natCast]
theorem sIx_le (n d : Nat) (hd : d ≤ n) (o : Option Int) : sIx n d o ≤ n := by
  cases o with
  | none => exact hd
  | some v =>
    show (if v < 0 then (v + (n : Int)).toNat else min v.toNat n) ≤ n
    by_cases hv : v < 0
    · rw [if_pos hv]; omega
    · rw [if_neg hv]; exact Nat.min_le_right _ _
theorem clip_eq (v : Int) (n d : Nat) : (if v < 0 then max (v + (n : Int)) 0 else min v (n : Int)) = ((sIx n d (some v) : Nat) : Int) := by
  show (if v < 0 then max (v + (n : Int)) 0 else min v (n : Int)) = (((if v < 0 then (v + (n : Int)).toNat else min v.toNat n) : Nat) : Int)
  by_cases hv : v < 0
  · simp only [if_pos hv]; omega
  · simp only [if_neg hv]; omega
theorem adjust_gen (lo hi : Option Int) (n : Nat) : Builtin.Slice.sliceAdjust lo hi 1 (n : Int) = (((sIx n 0 lo : Nat) : Int), ((sIx n n hi : Nat) : Int)) := by
  have h1 : ¬ ((1 : Int) < 0) := by omega
  unfold Builtin.Slice.sliceAdjust
  simp only [h1, if_false]
  refine Prod.ext ?_ ?_
  · cases lo with
    | none => rfl
    | some v => exact clip_eq v n 0
  · cases hi with
    | none => rfl
    | some v => exact clip_eq v n n
theorem places_gen (i j : Nat) : Builtin.Slice.slicePlaces (i : Int) (j : Int) 1 = j - i := by
  unfold Builtin.Slice.slicePlaces
  have h1 : (1 : Int) > 0 := by omega
  simp only [h1, if_true, Int.ediv_one]
  split <;> omega
theorem slicePart_ {v : Value} {o : Option Int} {Q : Option Int → Shared → Prop} (p : IsPart v o) (h : Q o s) : wpAny (model prog w) A (Builtin.Slice.slicePartIndex v) Q E s := by
  cases p with
  | none => exact slicePart_none h
  | int i t => exact slicePart_int h
theorem sliceApplied_gen {sl : Addr} {vl vu : Value} {lo hi : Option Int} {n : Nat} {Q : Int × Int × Nat → Shared → Prop} (hs : s.heap.IsSliceOf sl vl vu .none) (pl : IsPart vl lo) (pu : IsPart vu hi)
    (h : Q (((sIx n 0 lo : Nat) : Int), 1, sIx n n hi - sIx n 0 lo) s) : wpAny (model prog w) A (Builtin.Slice.sliceApplied (.ref sl) (pure (n : Int))) Q E s := by
  obtain ⟨os, hos, hcs, hds⟩ := id hs
  unfold Builtin.Slice.sliceApplied Builtin.Slice.sliceFields
  refine wpAny_bind (wpAny_bind (wpAny_field hos hds (x := vl) rfl (wpAny_bind (wpAny_field hos hds (x := vu) rfl (wpAny_bind (wpAny_field hos hds (x := .none) rfl (wpAny_pure ?_)))))))
  refine wpAny_bind (slicePart_none ?_)
  show wpAny _ _ (if ((1 : Int) == 0) = true then _ else _) _ _ s
  rw [if_neg (by decide)]
  refine wpAny_bind (slicePart_ pl (wpAny_bind (slicePart_ pu (wpAny_bind (wpAny_pure ?_)))))
  show wpAny _ _ (match Builtin.Slice.sliceAdjust lo hi 1 (n : Int) with | (lo, hi) => pure (lo, (1 : Int), Builtin.Slice.slicePlaces lo hi 1)) _ _ s
  rw [adjust_gen lo hi n]
  show wpAny _ _ (pure (((sIx n 0 lo : Nat) : Int), (1 : Int), Builtin.Slice.slicePlaces ((sIx n 0 lo : Nat) : Int) ((sIx n n hi : Nat) : Int) 1)) _ _ s
  rw [places_gen]
  exact wpAny_pure h
theorem pick_gen (xs : Array Value) (i k : Nat) : ((List.range k).filterMap fun (m : Nat) => xs[((i : Int) + (m : Int) * 1).toNat]?).toArray = ((xs.toList.drop i).take k).toArray := by
  have e : (fun (m : Nat) => xs[((i : Int) + (m : Int) * 1).toNat]?) = fun m => xs[i + m]? := by
    funext m
    have : ((i : Int) + (m : Int) * 1).toNat = i + m := by omega
    rw [this]
  rw [e]
  have := pick_run xs i k
  rw [List.filterMap_map] at this
  have e2 : ((fun x => xs[x]?) ∘ fun x => i + x) = fun m => xs[i + m]? := rfl
  rw [e2] at this
  rw [this]

theorem getItem_tuple_cut {t sl : Addr} {items : Array Value} {vl vu : Value} {lo hi : Option Int} {Q : Value → Shared → Prop} (ht : IsTup s.heap t items) (hs : s.heap.IsSliceOf sl vl vu .none) (pl : IsPart vl lo) (pu : IsPart vu hi)
    (hw : ¬ (sIx items.size 0 lo = 0 ∧ sIx items.size items.size hi = items.size))
    (h : Q (.ref s.heap.objs.size) { s with heap := s.heap.push { cls := .type "tuple", data := .seq ((items.toList.drop (sIx items.size 0 lo)).take (sIx items.size items.size hi - sIx items.size 0 lo)).toArray } })
    (hsz : items.size ≤ sizeLine) : wpAny (model prog w) A (getItem (.ref t) (.ref sl)) Q E s := by
  have htake : sizeOk (.seq ((items.toList.drop (sIx items.size 0 lo)).take (sIx items.size items.size hi - sIx items.size 0 lo)).toArray) := by
    show ((items.toList.drop (sIx items.size 0 lo)).take (sIx items.size items.size hi - sIx items.size 0 lo)).toArray.size ≤ sizeLine
    rw [List.size_toArray, List.length_take, List.length_drop, Array.length_toList]
    omega
  have hj : sIx items.size items.size hi ≤ items.size := sIx_le _ _ (Nat.le_refl _) hi
  obtain ⟨os, hos, hcs, hds⟩ := id hs
  have hTs : s.TypeIs (.ref sl) "slice" := ⟨os, hos, hcs⟩
  unfold getItem
  try with_reducible refine wpAny_holding ?_
  first | refine wpAny_bind (wpAny_pure ?_) | skip
  refine wpAny_bind (wpAny_sequenceKey ht.typeIs (by decide) ?_)
  refine wpAny_bind (wpAny_callSpecial?_slot (name := Str.ofString "__getitem__") ht.typeIs PyProof.Rows.slot_tuple_getitem
    (wpAny_call_entry PyProof.Rows.slot_tuple_getitem ht.typeIs entry_tuple_getitem ?_ (args_tuple_getitem _ _)))
  show wpAny _ _ (Builtin.Tuple.tupleItemsOf (.ref t) >>= _) _ _ s
  refine wpAny_bind (tupleItemsOf_ ht ?_)
  refine wpAny_bind (wpAny_typeOf hTs ?_)
  rw [if_pos (by decide)]
  refine wpAny_bind (sliceApplied_gen hs pl pu ?_)
  have hno : ¬ ((((sIx items.size 0 lo : Nat) : Int) == 0 && (1 : Int) == 1 && (sIx items.size items.size hi - sIx items.size 0 lo) == items.size) = true) := by
    intro q
    rw [Bool.and_eq_true, Bool.and_eq_true] at q
    have q1 : ((sIx items.size 0 lo : Nat) : Int) = 0 := eq_of_beq q.1.1
    have q2 : sIx items.size items.size hi - sIx items.size 0 lo = items.size := eq_of_beq q.2
    exact hw ⟨by omega, by omega⟩
  show wpAny _ _ (if (((sIx items.size 0 lo : Nat) : Int) == 0 && (1 : Int) == 1 && (sIx items.size items.size hi - sIx items.size 0 lo) == items.size) = true then _ else _) _ _ s
  rw [if_neg hno, pick_gen]
  first
    | exact wpAny_bind (m := Builtin.Tuple.tupleExact _) (wpAny_newObj_type (wpAny_pure ⟨_, rfl, wpAny_pure h⟩) htake)
    | exact wpAny_bind (m := Builtin.Tuple.tupleExact _) (wpAny_newObj_type (wpAny_bind (wpAny_pure (wpAny_pure ⟨_, rfl, wpAny_pure h⟩))) htake)
    | exact wpAny_bind (wpAny_bind (m := Builtin.Tuple.tupleExact _) (wpAny_newObj_type (wpAny_pure (wpAny_pure ⟨_, rfl, wpAny_pure h⟩)) htake))
    | exact wpAny_bind (wpAny_bind (m := Builtin.Tuple.tupleExact _) (wpAny_newObj_type (wpAny_pure ⟨_, rfl, wpAny_pure h⟩) htake))
end
end HT

namespace L2
open PySem PySem.Spec PyProof.Rows

/-! ### the parts of a slice -/
abbrev TO := St → Hp → (Option Int → Hp → Prop) → Prop
/-- a slice's part (left out, or an int) -/
def PO (X : Cx) (e : Option Expr) (t : TO) : Prop :=
  ∀ (pins : List (Addr × Obj)) (s : Shared) (σ : St) (H : Hp) (Q : Option Int → Hp → Prop), Inv X pins σ H s → t σ H Q →
    wpAny (model X.prog X.w) X.A (evalPart e X.env) (fun u s' => ∃ o H', Inv X pins σ H' s' ∧ IsPart u o ∧ Q o H') X.xe s
def tNoPart : TO := fun _ H Q => Q none H
def tPart (t : TE) : TO := fun σ H Q => t σ H fun x H1 => ∃ i, x = .int i ∧ Q (some i) H1

theorem intsAre_of {ns : List Int} : ∀ {us : List Value}, Vals (ns.map V.int) us → IntsAre us ns := by
  induction ns with
  | nil => intro us r; rw [List.map_nil] at r; cases r; exact .nil
  | cons n ns ih =>
    intro us r
    rw [List.map_cons] at r
    cases r with
    | cons r1 r2 =>
      obtain ⟨t, e⟩ := r1
      subst e
      exact .cons n t (ih r2)

section
variable {X : Cx} {e : Expr} {te : TE} {lo hi : Option Expr} {tl th : TO} {pos p2 : Pos}

theorem po_none : PO X none tNoPart := by
  intro pins s σ H Q I h
  rw [evalPart_none]
  exact wpAny_pure ⟨none, H, I, .none, h⟩
theorem po_some (h : PE X e te) : PO X (some e) (tPart te) := by
  intro pins s σ H Q I hw
  rw [evalPart_some]
  refine thn (h pins s σ H _ I hw) fun u s1 ⟨x, H1, I1, r1, q1⟩ => ?_
  obtain ⟨i, rfl, q⟩ := q1
  obtain ⟨t, rfl⟩ := r1
  exact ⟨some i, H1, I1, .int i t, q⟩

/-- what a slice of a value is, by values: the slice object stands at sl -/
def SlR (X : Cx) (r : V → Option Int → Option Int → Hp → VK → Prop) : Prop :=
  ∀ (pins : List (Addr × Obj)) (s : Shared) (σ : St) (H : Hp) (x : V) (v vl vu : Value) (lo hi : Option Int) (sl : Addr) (Q : VK), Inv X pins σ H s → RelV x v → s.heap.IsSliceOf sl vl vu .none → IsPart vl lo → IsPart vu hi → r x lo hi H Q →
    ∃ T id, typeLookup (.type T) "__getitem__" = pure (some (.builtin id)) ∧ s.TypeIs v T ∧ wpAny (model X.prog X.w) X.A (getItem v (.ref sl)) (EP X pins σ Q) X.xe s
theorem SlR.or {r r' : V → Option Int → Option Int → Hp → VK → Prop} (h : SlR X r) (h' : SlR X r') : SlR X (fun x lo hi H Q => r x lo hi H Q ∨ r' x lo hi H Q) := by
  intro pins s σ H x v vl vu lo hi sl Q I rx hs pl pu q
  rcases q with q | q
  · exact h pins s σ H x v vl vu lo hi sl Q I rx hs pl pu q
  · exact h' pins s σ H x v vl vu lo hi sl Q I rx hs pl pu q
def tSl (r : V → Option Int → Option Int → Hp → VK → Prop) (te : TE) (tl th : TO) : TE := fun σ H Q => te σ H fun x H1 => tl σ H1 fun l H2 => th σ H2 fun u H3 => r x l u H3 Q
/-- a[lo:hi], any a -/
theorem pe_slice {r : V → Option Int → Option Int → Hp → VK → Prop} (hr : SlR X r) (he : PE X e te) (hl : PO X lo tl) (hu : PO X hi th) : PE X (.Subscript e (.Slice lo hi none p2) pos) (tSl r te tl th) := by
  intro pins s σ H Q I h
  refine Subscript_ (thn (he pins s σ H _ I h) fun v s1 ⟨x, H1, I1, r1, q1⟩ => ?_)
  refine wpAny_Slice (thn (hl pins s1 σ H1 _ I1 q1) fun vl s2 ⟨l, H2, I2, pl, q2⟩ => thn (hu pins s2 σ H2 _ I2 q2) fun vu s3 ⟨u, H3, I3, pu, q3⟩ => ?_)
  rw [evalPart_none]
  refine wpAny_pure ?_
  have I4 : Inv X pins σ H3 { s3 with heap := s3.heap.push { cls := .type "slice", data := .fields #[vl, vu, .none] } } := I3.kept (t' := s3.toks) fun b ob q => Heap.get?_push_of_some _ q
  obtain ⟨T, id, hT, ht, hg⟩ := hr pins { s3 with heap := s3.heap.push { cls := .type "slice", data := .fields #[vl, vu, .none] } } σ H3 x v vl vu l u s3.heap.objs.size Q I4 r1 (Heap.IsSliceOf.new ..) pl pu q3
  show wpAny (model X.prog X.w) X.A (subscriptTail e (.Slice lo hi none p2) v (.ref s3.heap.objs.size)) (EP X pins σ Q) X.xe { s3 with heap := s3.heap.push { cls := .type "slice", data := .fields #[vl, vu, .none] } }
  exact tail_any (ops := [.ref s3.heap.objs.size, v]) ht hT hg (by with_unfolding_all rfl)

/-- the items of xs[lo:hi] -/
def cutV (xs : List V) (lo hi : Option Int) : List V := (xs.drop (HT.sIx xs.length 0 lo)).take (HT.sIx xs.length xs.length hi - HT.sIx xs.length 0 lo)
theorem cutV_length (xs : List V) (lo hi : Option Int) : (cutV xs lo hi).length ≤ xs.length := by
  unfold cutV
  rw [List.length_take, List.length_drop]
  omega
/-- t[lo:hi], not the whole of it (the whole would be t itself) -/
def rSlT (K : PySem.W.Frag) : V → Option Int → Option Int → Hp → VK → Prop := fun x lo hi H Q => ∃ a xs, x = .ref a ∧ SqT K H a xs ∧
  ¬ (HT.sIx xs.length 0 lo = 0 ∧ HT.sIx xs.length xs.length hi = xs.length) ∧ ∀ p, H p = none → Q (.ref p) (upd H p (.tup (cutV xs lo hi)))
theorem sl_tup : SlR X (rSlT X.K) := by
  intro pins s σ H x v vl vu lo hi sl Q I rx hs pl pu h
  obtain ⟨a, xs, rfl, hx, hw, q⟩ := h
  cases rx
  obtain ⟨its, r, ht, hz⟩ := I.tuple hx
  have hlen : its.toArray.size = xs.length := by rw [List.size_toArray]; exact r.length.symm
  refine ⟨"tuple", _, PyProof.Rows.slot_tuple_getitem.lookup, ht.typeIs, ?_⟩
  refine HT.getItem_tuple_cut ht hs pl pu (by rw [hlen]; exact hw) ?_ (by rw [hlen]; exact hz)
  rw [hlen]
  refine ⟨.ref s.heap.objs.size, _, I.laid (t' := s.toks) (o := .tup (cutV xs lo hi)) (fun b ob q => Heap.get?_push_of_some _ q) (Nat.le_refl _) ?_, rfl, q _ (I.hok.fresh (Nat.le_refl _))⟩
  exact ⟨Nat.le_trans (cutV_length xs lo hi) hz, _, (r.drop (HT.sIx xs.length 0 lo)).take (HT.sIx xs.length xs.length hi - HT.sIx xs.length 0 lo), IsTup.new _ _⟩

/-! ### t < u, t + u -/
def rLtT (K : PySem.W.Frag) : R2 := fun x y H Q => ∃ a b ns ms, x = .ref a ∧ y = .ref b ∧ SqT K H a (ns.map V.int) ∧ SqT K H b (ms.map V.int) ∧ Q (.bl (HT.lexLt ns ms)) H
theorem op_ltT (hu : X.A.units < cLine) : OpR X (compareOp .Lt) (rLtT X.K) := by
  intro pins s σ H x y v u Q I rx ry h
  obtain ⟨a, b, ns, ms, rfl, rfl, ha, hb, q⟩ := h
  cases rx
  cases ry
  obtain ⟨its, r1, p1, _⟩ := I.tuple ha
  obtain ⟨its2, r2, p2, _⟩ := I.tuple hb
  have i1 : IntsAre its.toArray.toList ns := intsAre_of r1
  have i2 : IntsAre its2.toArray.toList ms := intsAre_of r2
  exact HT.lt_tupInts p1 p2 i1 i2 hu ⟨.bl (HT.lexLt ns ms), H, I, rfl, q⟩
/-- t + u, t not empty: u empty gives t itself -/
def rCatT (K : PySem.W.Frag) : R2 := fun x y H Q => ∃ a b xs ys, x = .ref a ∧ y = .ref b ∧ SqT K H a xs ∧ SqT K H b ys ∧ xs ≠ [] ∧ xs.length + ys.length ≤ sizeLine ∧
  (ys = [] → Q (.ref a) H) ∧ (ys ≠ [] → ∀ p, H p = none → Q (.ref p) (upd H p (.tup (xs ++ ys))))
theorem Vals.nil_iff {xs : List V} {us : List Value} (r : Vals xs us) : us = [] ↔ xs = [] := by
  cases r with
  | nil => simp
  | cons _ _ => simp
theorem op_catT : OpR X (binaryOp .Add) (rCatT X.K) := by
  intro pins s σ H x y v u Q I rx ry h
  obtain ⟨a, b, xs, ys, rfl, rfl, ha, hb, hx, hz, q1, q2⟩ := h
  cases rx
  cases ry
  obtain ⟨its, r1, p1, _⟩ := I.tuple ha
  obtain ⟨its2, r2, p2, _⟩ := I.tuple hb
  refine HT.cat_tup p1 p2 (fun z => hx (r1.nil_iff.mp z)) (fun z => ⟨.ref a, H, I, rfl, q1 (r2.nil_iff.mp z)⟩) (fun z => ?_) (by rw [← r1.length, ← r2.length]; exact hz)
  refine ⟨.ref s.heap.objs.size, _, I.laid (t' := s.toks) (o := .tup (xs ++ ys)) (fun b ob q => Heap.get?_push_of_some _ q) (Nat.le_refl _) ?_, rfl, q2 (fun w => z (r2.nil_iff.mpr w)) _ (I.hok.fresh (Nat.le_refl _))⟩
  exact ⟨by rw [List.length_append]; exact hz, _, r1.append r2, IsTup.new _ _⟩
/-- tuple(t) -/
theorem call_tupleT : CallR X (.type "tuple") (fun xs H Q => ∃ a ys, xs = [.ref a] ∧ SqT X.K H a ys ∧ Q (.ref a) H) := by
  intro pins s σ H xs us Q I r h
  obtain ⟨a, ys, rfl, ha, q⟩ := h
  obtain ⟨u, rfl, ru⟩ := vals1 r
  cases ru
  obtain ⟨its, _, p1, _⟩ := I.tuple ha
  exact call_tuple_same (items := its.toArray) p1 ⟨.ref a, H, I, rfl, q⟩
end
end L2

namespace L2
open PySem PySem.Spec PyProof.Rows

/-! ### places -/
/-- the place that an index of any sign means -/
def ixN (n : Nat) (i : Int) : Option Nat := if 0 ≤ i then (if i < n then some i.toNat else none) else if -(n : Int) ≤ i then some (i + n).toNat else none
def atI {α : Type} (xs : List α) (i : Int) : Option α := (ixN xs.length i).bind fun j => xs[j]?
theorem ixN_seq {n : Nat} {i : Int} {j : Nat} (h : ixN n i = some j) : seqIndex? i n = some j ∧ j < n ∧ -(n : Int) ≤ i ∧ i < n := by
  unfold ixN at h
  by_cases h0 : 0 ≤ i
  · rw [if_pos h0] at h
    by_cases h1 : i < n
    · rw [if_pos h1] at h
      have e : i.toNat = j := Option.some.inj h
      exact ⟨by rw [seqIndex_of h0 h1, e], by omega, by omega, h1⟩
    · rw [if_neg h1] at h; cases h
  · rw [if_neg h0] at h
    by_cases h1 : -(n : Int) ≤ i
    · rw [if_pos h1] at h
      have e : (i + n).toNat = j := Option.some.inj h
      exact ⟨by rw [seqIndex_neg (by omega) h1, e], by omega, h1, by omega⟩
    · rw [if_neg h1] at h; cases h
theorem atI_get {α : Type} {xs : List α} {i : Int} {v : α} (h : atI xs i = some v) : ∃ j, seqIndex? i xs.length = some j ∧ xs[j]? = some v ∧ j < xs.length ∧ -(xs.length : Int) ≤ i ∧ i < xs.length := by
  unfold atI at h
  cases e : ixN xs.length i with
  | none => rw [e] at h; cases h
  | some j =>
    rw [e] at h
    obtain ⟨h1, h2, h3, h4⟩ := ixN_seq e
    exact ⟨j, h1, h, h2, h3, h4⟩
theorem atI_nat {α : Type} {xs : List α} {j : Nat} {v : α} (h : xs[j]? = some v) : atI xs (j : Int) = some v := by
  have hj : j < xs.length := (List.getElem?_eq_some_iff.mp h).1
  have e : ixN xs.length (j : Int) = some j := by
    unfold ixN
    rw [if_pos (by omega), if_pos (by omega)]; simp
  unfold atI; rw [e]; exact h
theorem atI_last {α : Type} (xs : List α) (v : α) : atI (xs ++ [v]) (-1) = some v := by
  have hl : (xs ++ [v]).length = xs.length + 1 := by simp
  have e : ixN (xs ++ [v]).length (-1) = some xs.length := by
    unfold ixN
    rw [hl, if_neg (by decide), if_pos (by omega)]
    congr 1
    omega
  unfold atI
  rw [e]
  show (xs ++ [v])[xs.length]? = some v
  simp

/-! ### what may be subscripted -/
/-- what stands as an index of a plain subscript -/
def PlainIx (b : Expr) : Prop := ∀ o i, subscripted b false o i = operate [o, i] (getItem o i)
/-- a subscript by values -/
def IxR (X : Cx) (r : R2) : Prop :=
  ∀ (value slice : Expr) (pins : List (Addr × Obj)) (s : Shared) (σ : St) (H : Hp) (x y : V) (v u : Value) (Q : VK), Inv X pins σ H s → RelV x v → RelV y u → r x y H Q →
    subscripted slice false v u = operate [v, u] (getItem v u) → wpAny (model X.prog X.w) X.A (subscriptTail value slice v u) (EP X pins σ Q) X.xe s
/-- a call of a builtin's method by values: the receiver, the arguments -/
def MtR (X : Cx) (id : String) (r : V → List V → Hp → VK → Prop) : Prop :=
  ∀ (pins : List (Addr × Obj)) (s : Shared) (σ : St) (H : Hp) (x : V) (xs : List V) (v : Value) (us : List Value) (Q : VK), Inv X pins σ H s → RelV x v → Vals xs us → r x xs H Q →
    wpAny (model X.prog X.w) X.A (call (.builtin id) (v :: us)) (EP X pins σ Q) X.xe s
section
variable {X : Cx} {a b : Expr} {ta tb : TE} {pos : Pos}
theorem IxR.or {r r' : R2} (h : IxR X r) (h' : IxR X r') : IxR X (fun x y H Q => r x y H Q ∨ r' x y H Q) := by
  intro value slice pins s σ H x y v u Q I rx ry q hs
  rcases q with q | q
  · exact h value slice pins s σ H x y v u Q I rx ry q hs
  · exact h' value slice pins s σ H x y v u Q I rx ry q hs
theorem MtR.or {id : String} {r r' : V → List V → Hp → VK → Prop} (h : MtR X id r) (h' : MtR X id r') : MtR X id (fun x xs H Q => r x xs H Q ∨ r' x xs H Q) := by
  intro pins s σ H x xs v us Q I rx rs q
  rcases q with q | q
  · exact h pins s σ H x xs v us Q I rx rs q
  · exact h' pins s σ H x xs v us Q I rx rs q
/-- a[b] -/
theorem pe_ix {r : R2} (hr : IxR X r) (ha : PE X a ta) (hb : PE X b tb) (hs : PlainIx b) : PE X (.Subscript a b pos) (tOp r ta tb) := by
  intro pins s σ H Q I h
  exact Subscript_ (binT ha hb I h fun v u s2 x y H2 I2 rx ry q => hr a b pins s2 σ H2 x y v u Q I2 rx ry q (hs _ _))

def rIxL (K : PySem.W.Frag) : R2 := fun x y H Q => ∃ p xs i v, x = .ref p ∧ y = .int i ∧ SqL K H p xs ∧ atI xs i = some v ∧ Q v H
def rIxT (K : PySem.W.Frag) : R2 := fun x y H Q => ∃ p xs i v, x = .ref p ∧ y = .int i ∧ SqT K H p xs ∧ atI xs i = some v ∧ Q v H
def rIxS : R2 := fun x y H Q => ∃ z i c, x = .str z ∧ y = .int i ∧ z.length ≤ sizeLine ∧ atI z.cps.toList i = some c ∧ Q (.str ⟨#[c]⟩) H
theorem ix_list : IxR X (rIxL X.K) := by
  intro value slice pins s σ H x y v u Q I rx ry h hs
  obtain ⟨p, xs, i, z, rfl, rfl, hq, he, q⟩ := h
  cases rx
  obtain ⟨t, rfl⟩ := ry
  obtain ⟨its, r, pl, hz⟩ := I.list hq
  obtain ⟨j, h1, h2, h3, h4, h5⟩ := atI_get he
  obtain ⟨w, ew, rw'⟩ := r.get h2
  have hl := r.length
  have hn := line63
  have fin : EP X pins σ Q w s := ⟨z, H, I, rw', q⟩
  by_cases h0 : 0 ≤ i
  · have hj : i.toNat = j := by
      rw [seqIndex_of h0 h5] at h1
      exact Option.some.inj h1
    exact item_listR pl.isList h0 (by omega) (by rw [hj]; simpa using ew) fin hs
  · have hj : (i + (its.toArray.size : Int)).toNat = j := by
      rw [seqIndex_neg (by omega) h4] at h1
      rw [List.size_toArray, ← hl]
      exact Option.some.inj h1
    exact subscriptTail_builtinR (x := w) pl.isList.typeIs slot_list_getitem.lookup
      (wpAny_getItem_list_neg (Q := fun r s' => r = w ∧ EP X pins σ Q r s') pl.isList (by omega) (by rw [List.size_toArray] <;> omega) (by omega) (by rw [hj]; simpa using ew) ⟨rfl, fin⟩) hs
theorem ix_tup : IxR X (rIxT X.K) := by
  intro value slice pins s σ H x y v u Q I rx ry h hs
  obtain ⟨p, xs, i, z, rfl, rfl, hq, he, q⟩ := h
  cases rx
  obtain ⟨t, rfl⟩ := ry
  obtain ⟨its, r, pl, hz⟩ := I.tuple hq
  obtain ⟨j, h1, h2, h3, h4, h5⟩ := atI_get he
  obtain ⟨w, ew, rw'⟩ := r.get h2
  have hl := r.length
  have hn := line63
  have fin : EP X pins σ Q w s := ⟨z, H, I, rw', q⟩
  exact subscriptTail_builtinR (x := w) pl.typeIs slot_tuple_getitem.lookup
    (getItem_tuple (j := j) (Q := fun r s' => r = w ∧ EP X pins σ Q r s') pl (by omega) (by omega) (by rw [List.size_toArray, ← hl]; exact h1) (by simpa using ew) ⟨rfl, fin⟩) hs
theorem ix_str : IxR X rIxS := by
  intro value slice pins s σ H x y v u Q I rx ry h hs
  obtain ⟨z, i, c, rfl, rfl, hz, he, q⟩ := h
  obtain ⟨t, rfl⟩ := rx
  obtain ⟨t', rfl⟩ := ry
  obtain ⟨j, h1, h2, h3, h4, h5⟩ := atI_get he
  have hl : z.cps.toList.length = z.length := by simp [Str.length]
  rw [hl] at h1 h4 h5
  have hn := line63
  exact tail_any (typeIs_str s z t) slot_str_getitem.lookup (getItem_str (c := c) (by
    have e1 : decide (i < -(2 ^ 63 : Int)) = false := decide_eq_false (by omega)
    have e2 : decide (i ≥ 2 ^ 63) = false := decide_eq_false (by omega)
    rw [e1, e2, Bool.or_false]) (by rw [h1]; simpa using h2) ⟨.str ⟨#[c]⟩, H, I.tok _, ⟨_, rfl⟩, q⟩) hs
/-- list, tuple or str -/
def rIx (K : PySem.W.Frag) : R2 := fun x y H Q => rIxL K x y H Q ∨ rIxT K x y H Q ∨ rIxS x y H Q
theorem ix_seq : IxR X (rIx X.K) := ix_list.or (ix_tup.or ix_str)

/-! ### xs[i] = v, any sign -/
/-- the list's object behind a store -/
theorem mapSeq_set (its : List Value) (n j : Nat) (u : Value) : Obj.mapSeq (·.setIfInBounds j u) { cls := .type "list", data := .seq its.toArray n } = { cls := .type "list", data := .seq (its.set j u).toArray n } := by
  simp [Obj.mapSeq]
theorem Inv.lst {pins : List (Addr × Obj)} {σ : St} {H : Hp} {s : Shared} {p : Addr} {xs : List V} (I : Inv X pins σ H s) (h : H p = some (.lst xs)) :
    ∃ (its : List Value) (n : Nat), Vals xs its ∧ s.heap.get? p = some { cls := .type "list", data := .seq its.toArray n } ∧ xs.length ≤ sizeLine := by
  obtain ⟨z, its, n, r, e⟩ := I.hok p _ h
  exact ⟨its, n, r, e, z⟩
/-- the list at p is written by an update of its object -/
theorem Inv.lstUpd {pins : List (Addr × Obj)} {σ : St} {H : Hp} {s : Shared} {p : Addr} {xs ys : List V} {its its' : List Value} {n n' : Nat} {f : Obj → Obj} (I : Inv X pins σ H s) (h : H p = some (.lst xs))
    (ho : s.heap.get? p = some { cls := .type "list", data := .seq its.toArray n }) (hf : f { cls := .type "list", data := .seq its.toArray n } = { cls := .type "list", data := .seq its'.toArray n' }) (r : Vals ys its') (hz : ys.length ≤ sizeLine) (t : Nat) :
    Inv X pins σ (upd H p (.lst ys)) { s with heap := s.heap.update p f, toks := t } := by
  have e : (s.heap.update p f).get? p = some { cls := .type "list", data := .seq its'.toArray n' } := by
    rw [Heap.get?_update_self f ho (by rw [hf] <;> rfl), hf]
  refine I.write (x := p) (e := p) (by rw [h]; trivial) (.inl rfl) (fun b u hb q => (Heap.get?_update_other _ _ (Ne.symm hb)).trans q) ⟨_, e⟩ ?_
  exact ⟨hz, its', n', r, e⟩
def rSetL : V → V → V → Hp → (Hp → Prop) → Prop := fun o i v H Q => ∃ p xs k j, o = .ref p ∧ i = .int k ∧ H p = some (.lst xs) ∧ ixN xs.length k = some j ∧ Q (upd H p (.lst (xs.set j v)))
theorem set_list : PSet X rSetL := by
  intro pins s σ H o i v ov iv u Q I ro ri rv h
  obtain ⟨p, xs, k, j, rfl, rfl, hp, hj, q⟩ := h
  cases ro
  obtain ⟨t, rfl⟩ := ri
  obtain ⟨its, n, r, ho, hz⟩ := I.lst hp
  obtain ⟨h1, h2, h3, h4⟩ := ixN_seq hj
  have hl := r.length
  have hn := line63
  have I' : Inv X pins σ (upd H p (.lst (xs.set j v))) { s with heap := s.heap.update p (Obj.mapSeq (·.setIfInBounds j u)) } :=
    I.lstUpd hp ho (mapSeq_set its n j u) (r.set rv j) (by rw [List.length_set]; exact hz) s.toks
  by_cases h0 : 0 ≤ k
  · have hk : k.toNat = j := by
      rw [seqIndex_of h0 h4] at h1
      exact Option.some.inj h1
    exact PySem.W.ki_setAt ho h0 (by omega) (by rw [List.size_toArray, ← hl]; exact h4) (by rw [hk]; exact ⟨_, I', q⟩)
  · have hk : (k + (its.toArray.size : Int)).toNat = j := by
      rw [seqIndex_neg (by omega) h3] at h1
      rw [List.size_toArray, ← hl]
      exact Option.some.inj h1
    exact PySem.W.ki_setBack ho (by omega) (by rw [List.size_toArray, ← hl]; exact h3) (by omega) (by rw [hk]; exact ⟨_, I', q⟩)

/-! ### slices -/
theorem slice_bounds (lo hi : Option Int) (n : Nat) : (sliceBounds lo hi none n).1 = ((HT.sIx n 0 lo : Nat) : Int) ∧ (sliceBounds lo hi none n).2.1 = ((HT.sIx n n hi : Nat) : Int) ∧ (sliceBounds lo hi none n).2.2 = 1 := by
  refine ⟨?_, ?_, rfl⟩
  · cases lo with
    | none => simp [sliceBounds, HT.sIx]
    | some i =>
      simp only [sliceBounds, HT.sIx, Option.getD_none, show (1 : Int) > 0 by decide, if_true]
      by_cases h : i < 0
      · simp only [h, if_true] <;> omega
      · simp only [h, if_false] <;> omega
  · cases hi with
    | none => simp [sliceBounds, HT.sIx]
    | some i =>
      simp only [sliceBounds, HT.sIx, Option.getD_none, show (1 : Int) > 0 by decide, if_true]
      by_cases h : i < 0
      · simp only [h, if_true] <;> omega
      · simp only [h, if_false] <;> omega
theorem slicePick_cut (its : List Value) (lo hi : Option Int) : slicePick its.toArray lo hi none = ((its.drop (HT.sIx its.length 0 lo)).take (HT.sIx its.length its.length hi - HT.sIx its.length 0 lo)).toArray := by
  obtain ⟨h1, h2, h3⟩ := slice_bounds lo hi its.toArray.size
  unfold slicePick
  rw [h1, h2, h3]
  simp only [sliceRange_one, pick_run, List.size_toArray] <;> rfl
/-- xs[lo:hi] of a list: a new list -/
def rSlL (K : PySem.W.Frag) : V → Option Int → Option Int → Hp → VK → Prop := fun x lo hi H Q => ∃ a xs, x = .ref a ∧ SqL K H a xs ∧ ∀ p, H p = none → Q (.ref p) (upd H p (.lst (cutV xs lo hi)))
theorem sl_list : SlR X (rSlL X.K) := by
  intro pins s σ H x v vl vu lo hi sl Q I rx hs pl pu h
  obtain ⟨a, xs, rfl, hx, q⟩ := h
  cases rx
  obtain ⟨its, r, ht, hz⟩ := I.list hx
  have hlen := r.length
  refine ⟨"list", _, slot_list_getitem.lookup, ht.isList.typeIs, ?_⟩
  refine wpAny_getItem_list_slice ht.isList hs pl pu .none (by simp) ?_ (by rw [List.size_toArray] <;> omega)
  rw [slicePick_cut, ← hlen]
  refine ⟨.ref s.heap.objs.size, _, I.laid (t' := s.toks) (o := .lst (cutV xs lo hi)) (fun b ob q => Heap.get?_push_of_some _ q) (Nat.le_refl _) ?_, rfl, q _ (I.hok.fresh (Nat.le_refl _))⟩
  exact ⟨Nat.le_trans (cutV_length xs lo hi) hz, _, 0, (r.drop (HT.sIx xs.length 0 lo)).take (HT.sIx xs.length xs.length hi - HT.sIx xs.length 0 lo), Heap.get?_push_size _ rfl⟩

/-! ### in, not in: flat items -/
def flatV : V → Bool
  | .non => true
  | .bl _ => true
  | .int _ => true
  | .str _ => true
  | _ => false
/-- == of flat values -/
def eqV : V → V → Bool
  | .non, .non => true
  | .bl a, .bl b => a == b
  | .bl a, .int b => (if a then 1 else 0) == b
  | .int a, .bl b => a == (if b then 1 else 0)
  | .int a, .int b => a == b
  | .str a, .str b => a == b
  | _, _ => false
theorem eqAt_V {A : Around} {s : Shared} {y x : V} {u v : Value} (ry : RelV y u) (rx : RelV x v) (fy : flatV y = true) (fx : flatV x = true) : SeqAt.EqAt A s u v (eqV y x) := by
  cases y with
  | non =>
    cases ry
    cases x with
    | non => cases rx; exact SeqAt.EqAt.same _
    | bl b => cases rx; exact SeqAt.EqAt.none_bool b
    | int b => obtain ⟨t, rfl⟩ := rx; exact SeqAt.EqAt.none_int b t
    | str b => obtain ⟨t, rfl⟩ := rx; exact SeqAt.EqAt.none_str b t
    | _ => exact absurd (show false = true from fx) Bool.false_ne_true
  | bl a =>
    cases ry
    cases x with
    | non => cases rx; exact SeqAt.EqAt.bool_none a
    | bl b => cases rx; exact SeqAt.EqAt.bool_bool a b
    | int b => obtain ⟨t, rfl⟩ := rx; exact SeqAt.EqAt.bool_int a b t
    | str b => obtain ⟨t, rfl⟩ := rx; exact SeqAt.EqAt.bool_str a b t
    | _ => exact absurd (show false = true from fx) Bool.false_ne_true
  | int a =>
    obtain ⟨t', rfl⟩ := ry
    cases x with
    | non => cases rx; exact SeqAt.EqAt.int_none a t'
    | bl b => cases rx; exact SeqAt.EqAt.int_bool a t' b
    | int b => obtain ⟨t, rfl⟩ := rx; exact SeqAt.EqAt.int_int a t' b t
    | str b => obtain ⟨t, rfl⟩ := rx; exact SeqAt.EqAt.int_str a t' b t
    | _ => exact absurd (show false = true from fx) Bool.false_ne_true
  | str a =>
    obtain ⟨t', rfl⟩ := ry
    cases x with
    | non => cases rx; exact SeqAt.EqAt.str_none a t'
    | bl b => cases rx; exact SeqAt.EqAt.str_bool a t' b
    | int b => obtain ⟨t, rfl⟩ := rx; exact SeqAt.EqAt.str_int a t' b t
    | str b => obtain ⟨t, rfl⟩ := rx; exact SeqAt.EqAt.str_str a t' b t
    | _ => exact absurd (show false = true from fx) Bool.false_ne_true
  | _ => exact absurd (show false = true from fy) Bool.false_ne_true
/-- the items' answers, read off the values (a value's own answer does not lean on its token) -/
def eqU (x : V) (u : Value) : Bool := match u with
  | .none => eqV .non x
  | .bool b => eqV (.bl b) x
  | .int i _ => eqV (.int i) x
  | .str z _ => eqV (.str z) x
  | _ => false
theorem eqU_of {x y : V} {u : Value} (r : RelV y u) (f : flatV y = true) : eqU x u = eqV y x := by
  cases y with
  | non => cases r; rfl
  | bl b => cases r; rfl
  | int i => obtain ⟨t, rfl⟩ := r; rfl
  | str z => obtain ⟨t, rfl⟩ := r; rfl
  | _ => exact absurd (show false = true from f) Bool.false_ne_true
theorem any_eqU {x : V} : ∀ {xs : List V} {us : List Value}, Vals xs us → xs.all flatV = true → us.any (eqU x) = xs.any fun y => eqV y x
  | _, _, .nil, _ => rfl
  | y :: xs, u :: us, .cons r t, f => by
    rw [List.all_cons, Bool.and_eq_true] at f
    rw [List.any_cons, List.any_cons, eqU_of r f.1, any_eqU t f.2]
theorem mem_eqAt {A : Around} {s : Shared} {x : V} {v : Value} (rx : RelV x v) (fx : flatV x = true) : ∀ {xs : List V} {us : List Value}, Vals xs us → xs.all flatV = true → ∀ u ∈ us, SeqAt.EqAt A s u v (eqU x u)
  | _, _, .nil, _ => fun u hu => by cases hu
  | y :: xs, u :: us, .cons r t, f => fun u' hu => by
    rw [List.all_cons, Bool.and_eq_true] at f
    rcases List.mem_cons.mp hu with rfl | hu
    · rw [eqU_of r f.1]; exact eqAt_V r rx f.1 fx
    · exact mem_eqAt rx fx t f.2 u' hu
def inV (x : V) (xs : List V) : Bool := xs.any fun y => eqV y x
/-- x in a list or tuple of flat items -/
def rIn (K : PySem.W.Frag) (neg : Bool) : R2 := fun x y H Q => ∃ p xs, y = .ref p ∧ (SqL K H p xs ∨ SqT K H p xs) ∧ flatV x = true ∧ xs.all flatV = true ∧ Q (.bl (if neg then !inV x xs else inV x xs)) H
theorem op_in_seq : OpR X (compareOp .In) (rIn X.K false) := by
  intro pins s σ H x y v u Q I rx ry h
  obtain ⟨p, xs, rfl, hq, fx, fs, q⟩ := h
  cases ry
  rcases hq with hq | hq
  · obtain ⟨its, r, pl, hz⟩ := I.list hq
    refine SeqAt.in_listAt (eqU x) pl.isList (fun w hw => mem_eqAt rx fx r fs w (by simpa using hw)) ⟨.bl _, H, I, rfl, ?_⟩
    rw [show its.toArray.any (eqU x) = its.any (eqU x) by simp, any_eqU r fs]
    exact q
  · obtain ⟨its, r, pl, hz⟩ := I.tuple hq
    refine SeqAt.in_tupleAt (eqU x) pl (fun w hw => mem_eqAt rx fx r fs w (by simpa using hw)) ⟨.bl _, H, I, rfl, ?_⟩
    rw [show its.toArray.any (eqU x) = its.any (eqU x) by simp, any_eqU r fs]
    exact q
theorem op_notIn_seq : OpR X (compareOp .NotIn) (rIn X.K true) := by
  intro pins s σ H x y v u Q I rx ry h
  obtain ⟨p, xs, rfl, hq, fx, fs, q⟩ := h
  cases ry
  rcases hq with hq | hq
  · obtain ⟨its, r, pl, hz⟩ := I.list hq
    refine SeqAt.notIn_listAt (eqU x) pl.isList (fun w hw => mem_eqAt rx fx r fs w (by simpa using hw)) ⟨.bl _, H, I, rfl, ?_⟩
    rw [show its.toArray.any (eqU x) = its.any (eqU x) by simp, any_eqU r fs]
    exact q
  · obtain ⟨its, r, pl, hz⟩ := I.tuple hq
    refine SeqAt.notIn_tupleAt (eqU x) pl (fun w hw => mem_eqAt rx fx r fs w (by simpa using hw)) ⟨.bl _, H, I, rfl, ?_⟩
    rw [show its.toArray.any (eqU x) = its.any (eqU x) by simp, any_eqU r fs]
    exact q
theorem op_notIn_str : OpR X (compareOp .NotIn) (fun x y H Q => ∃ i j, x = .str i ∧ y = .str j ∧ Q (.bl (!(!(Builtin.Str.occurrences j i 0 j.length 1).isEmpty))) H) := by
  intro pins s σ H x y v u Q I rx ry h
  obtain ⟨i, j, rfl, rfl, q⟩ := h
  obtain ⟨t, rfl⟩ := rx
  obtain ⟨t', rfl⟩ := ry
  exact notIn_str ⟨.bl _, H, I, rfl, q⟩

/-! ### len, list(x), tuple(x) of any list or tuple that is read -/
theorem call_len_seq : CallR X (.builtin "len") (fun xs H Q => ∃ p ys, xs = [.ref p] ∧ (SqL X.K H p ys ∨ SqT X.K H p ys) ∧ Q (.int ys.length) H) := by
  intro pins s σ H xs us Q I r h
  obtain ⟨p, ys, rfl, hq, q⟩ := h
  obtain ⟨u, rfl, rx⟩ := vals1 r
  cases rx
  have hn := line63
  rcases hq with hq | hq
  · obtain ⟨its, r', pl, hz⟩ := I.list hq
    have hlen := r'.length
    exact Calls.call_len_list pl.isList (by simp only [List.size_toArray] <;> omega) ⟨.int ys.length, H, I.tok _, ⟨s.toks + 1, by rw [List.size_toArray, hlen]⟩, q⟩
  · obtain ⟨its, r', pl, hz⟩ := I.tuple hq
    have hlen := r'.length
    exact len_tuple pl (by simp only [List.size_toArray] <;> omega) ⟨.int ys.length, H, I.tok _, ⟨s.toks + 1, by rw [List.size_toArray, hlen]⟩, q⟩
theorem call_len_str : CallR X (.builtin "len") (fun xs H Q => ∃ z, xs = [.str z] ∧ z.length ≤ sizeLine ∧ Q (.int z.length) H) := by
  intro pins s σ H xs us Q I r h
  obtain ⟨z, rfl, hz, q⟩ := h
  obtain ⟨u, rfl, t, rfl⟩ := vals1 r
  have hn := line63
  exact len_str (by omega) ⟨.int z.length, H, I.tok _, ⟨_, rfl⟩, q⟩
theorem CallR.or {f : Value} {r r' : List V → Hp → VK → Prop} (h : CallR X f r) (h' : CallR X f r') : CallR X f (fun xs H Q => r xs H Q ∨ r' xs H Q) := by
  intro pins s σ H xs us Q I rs q
  rcases q with q | q
  · exact h pins s σ H xs us Q I rs q
  · exact h' pins s σ H xs us Q I rs q
theorem call_list_of : CallR X (.type "list") (fun xs H Q => ∃ p ys, xs = [.ref p] ∧ (SqL X.K H p ys ∨ SqT X.K H p ys) ∧ ∀ l, H l = none → Q (.ref l) (upd H l (.lst ys))) := by
  intro pins s σ H xs us Q I r h
  obtain ⟨p, ys, rfl, hq, q⟩ := h
  obtain ⟨u, rfl, rx⟩ := vals1 r
  cases rx
  have fin : ∀ (its : List Value), Vals ys its → ys.length ≤ sizeLine → ∀ (h' : Heap) (c' : Nat), (∀ b o', s.heap.get? b = some o' → h'.get? b = some o') →
      h'.get? s.heap.objs.size = some { cls := .type "list", dict := none, data := .seq its.toArray c', slots := #[] } → EP X pins σ Q (.ref s.heap.objs.size) { s with heap := h' } := fun its r' hz h' c' kp e =>
    ⟨.ref s.heap.objs.size, _, I.laid (t' := s.toks) kp (Nat.le_refl _) (show ObjOk X.prog X.w _ h' _ (.lst ys) from ⟨hz, its, c', r', e⟩), rfl, q _ (I.hok.fresh (Nat.le_refl _))⟩
  rcases hq with hq | hq
  · obtain ⟨its, r', pl, hz⟩ := I.list hq
    have hlen := r'.length
    obtain ⟨o, ho, hc, n, hd⟩ := pl.isList
    exact call_list_seq p (.inl rfl) ho hc hd (fun h' c' kp e => fin its r' hz h' c' kp e) (by simp only [List.size_toArray] <;> omega)
  · obtain ⟨its, r', pl, hz⟩ := I.tuple hq
    have hlen := r'.length
    obtain ⟨o, ho, hc, n, hd⟩ := pl
    exact call_list_seq p (.inr rfl) ho hc hd (fun h' c' kp e => fin its r' hz h' c' kp e) (by simp only [List.size_toArray] <;> omega)
theorem call_tuple_of : CallR X (.type "tuple") (fun xs H Q => ∃ p ys, xs = [.ref p] ∧ ((SqL X.K H p ys ∧ ∀ l, H l = none → Q (.ref l) (upd H l (.tup ys))) ∨ (SqT X.K H p ys ∧ Q (.ref p) H))) := by
  intro pins s σ H xs us Q I r h
  obtain ⟨p, ys, rfl, h⟩ := h
  obtain ⟨u, rfl, rx⟩ := vals1 r
  cases rx
  rcases h with ⟨hq, q⟩ | ⟨hq, q⟩
  · obtain ⟨its, r', pl, hz⟩ := I.list hq
    have hlen := r'.length
    refine call_tuple_list pl.isList (fun h' kp => ?_) (by simp only [List.size_toArray] <;> omega)
    have I1 : Inv X pins σ H { s with heap := h' } := I.kept (t' := s.toks) kp
    have I2 : Inv X pins σ (upd H h'.objs.size (.tup ys)) { s with heap := h'.push { cls := .type "tuple", data := .seq its.toArray } } :=
      I1.laid (t' := s.toks) (fun b o e => Heap.get?_push_of_some _ e) (Nat.le_refl _) (show ObjOk X.prog X.w _ _ _ (.tup ys) from ⟨hz, its, r', IsTup.new _ _⟩)
    exact ⟨.ref h'.objs.size, _, I2, rfl, q _ (I1.hok.fresh (Nat.le_refl _))⟩
  · obtain ⟨its, r', pl, hz⟩ := I.tuple hq
    exact call_tuple_same pl ⟨.ref p, H, I, rfl, q⟩

/-! ### the call of a builtin's method: o.m(..) -/
/-- the value is of that builtin type -/
def tyV (K : PySem.W.Frag) (T : String) (x : V) (H : Hp) : Prop := match x with
  | .str _ => T = "str"
  | .int _ => T = "int"
  | .ref p => (T = "list" ∧ ∃ xs, SqL K H p xs) ∨ (T = "tuple" ∧ ∃ o, K.lookup p = some o ∧ o.cls = .type "tuple" ∧ o.dict = none) ∨
      (T = "dict" ∧ ((∃ kvs, H p = some (.dK kvs)) ∨ ∃ kvs, H p = some (.dT kvs))) ∨ (T = "set" ∧ ∃ S n, H p = some (.set S n))
  | _ => False
theorem tyV_is {pins : List (Addr × Obj)} {σ : St} {H : Hp} {s : Shared} {T : String} {x : V} {v : Value} (I : Inv X pins σ H s) (r : RelV x v) (ty : tyV X.K T x H) :
    s.TypeIs v T ∧ ∀ a, v = .ref a → ∃ ob, s.heap.get? a = some ob ∧ ob.dict = none := by
  cases x with
  | str z =>
    obtain ⟨t, rfl⟩ := r
    cases (show T = "str" from ty)
    exact ⟨typeIs_str s z t, fun _ e => nomatch e⟩
  | int i =>
    obtain ⟨t, rfl⟩ := r
    cases (show T = "int" from ty)
    exact ⟨typeIs_int s i t, fun _ e => nomatch e⟩
  | ref p =>
    cases r
    rcases ty with ⟨rfl, xs, hq⟩ | ⟨rfl, o, hk, hc, hd⟩ | ⟨rfl, hk⟩ | ⟨rfl, S, n, hk⟩
    · obtain ⟨its, _, pl, _⟩ := I.list hq
      refine ⟨pl.isList.typeIs, fun a e => ?_⟩
      cases e
      obtain ⟨o, n, e, c, hd, _⟩ := pl
      exact ⟨o, e, hd⟩
    · refine ⟨⟨o, I.kIn p o hk, hc⟩, fun a e => ?_⟩
      cases e
      exact ⟨o, I.kIn _ o hk, hd⟩
    · have z : ∃ o, s.heap.get? p = some o ∧ o.ExactDict := by
        rcases hk with ⟨kvs, hk⟩ | ⟨kvs, hk⟩
        · obtain ⟨_, _, _, _, o, _, _, e, ex, _⟩ := I.hok p _ hk
          exact ⟨o, e, ex⟩
        · obtain ⟨_, _, _, _, o, _, _, e, ex, _⟩ := I.hok p _ hk
          exact ⟨o, e, ex⟩
      obtain ⟨o, e, ex⟩ := z
      refine ⟨⟨o, e, ex.1⟩, fun a e2 => ?_⟩
      cases e2
      exact ⟨o, e, ex.2.1⟩
    · obtain ⟨o, _, _, _, e, ex, _⟩ := I.hok p _ hk
      refine ⟨⟨o, e, ex.1⟩, fun a e2 => ?_⟩
      cases e2
      exact ⟨o, e, ex.2.1⟩
  | _ => exact False.elim ty
def tBM0 (K : PySem.W.Frag) (T : String) (r : V → List V → Hp → VK → Prop) (to : TE) : TE := fun σ H Q => to σ H fun x H1 => tyV K T x H1 ∧ r x [] H1 Q
def tBM (K : PySem.W.Frag) (T : String) (r : V → List V → Hp → VK → Prop) (to : TE) (t : TA) : TE := fun σ H Q => to σ H fun x H1 => tyV K T x H1 ∧ t σ H1 fun xs H2 => r x xs H2 Q
variable {o e : Expr} {es : List Expr} {to : TE} {t : TA} {name : Str} {apos cpos : Pos} {T id : String} {r : V → List V → Hp → VK → Prop}
theorem pe_bm0 (pa : PlainAttrs T) (slot : Slot T name id) (hty : typeOf (.builtin id) = pure (.type "method_descriptor")) (hm : MtR X id r) (ho : PE X o to)
    (hbase : attributeBase o name X.env (eval o X.env) = eval o X.env := by rfl) (hline : (apos.endLine == cpos.line) = true := by rfl) : PE X (.Call (.Attribute o name apos) [] [] cpos) (tBM0 X.K T r to) := by
  intro pins s σ H Q I h
  refine wpAny_Call_method0_late hbase hline (thn (ho pins s σ H _ I h) fun v s1 ⟨x, H1, I1, r1, ty, q1⟩ => ?_)
  obtain ⟨h1, h2⟩ := tyV_is I1 r1 ty
  exact ⟨T, id, pa, slot, hty, h1, h2, Calls.callWith_builtin rfl (PySem.evalArgs_none (hm pins s1 σ H1 x [] v [] Q I1 r1 .nil q1))⟩
theorem pe_bm (pa : PlainAttrs T) (slot : Slot T name id) (hty : typeOf (.builtin id) = pure (.type "method_descriptor")) (hm : MtR X id r) (ho : PE X o to) (ha : PA X (e :: es) t)
    (hbase : attributeBase o name X.env (eval o X.env) = eval o X.env := by rfl)
    (hfew : ((backTo cpos (starEach (e :: es) X.env)).all (fun x => !x.1) && (backToKw cpos (keywordEach [] X.env)).all (fun x => x.1.isSome)
      && decide ((e :: es).length + ([] : List Keyword).length + (if ([] : List Keyword).isEmpty then 0 else 1) < 30)) = true := by rfl)
    (hline : (apos.endLine == cpos.line) = true := by rfl) (hs : starEach (e :: es) X.env = (false, eval e X.env) :: starEach es X.env := by rfl) (hplain : (backTo cpos (starEach es X.env)).any (·.1) = false := by rfl) :
    PE X (.Call (.Attribute o name apos) (e :: es) [] cpos) (tBM X.K T r to t) := by
  intro pins s σ H Q I h
  refine wpAny_Call_method_late hbase hfew hline rfl (thn (ho pins s σ H _ I h) fun v s1 ⟨x, H1, I1, r1, ty, q1⟩ => ?_)
  obtain ⟨h1, h2⟩ := tyV_is I1 r1 ty
  refine ⟨T, id, pa, slot, hty, h1, h2, ?_⟩
  have hA := ha cpos pins s1 σ H1 _ I1 q1
  rw [hs] at hA ⊢
  refine Calls.callWith_builtin (by show (false || (backTo cpos (starEach es X.env)).any (·.1)) = false; rw [hplain] <;> rfl) (Calls.evalArgs_plain ?_)
  exact thn hA fun us s2 ⟨vs, H2, I2, r2, q2⟩ => hm pins s2 σ H2 x vs v us Q I2 r1 r2 q2
/- xs.append(e), list.index on a module's tuple .. are MtR facts of 06m -/
end
end L2

namespace L2
open PySem PySem.Spec PyProof.Rows

def MtM (X : Cx) (id : String) (r : V → List V → Hp → VK → Prop) : Prop :=
  ∀ (pins : List (Addr × Obj)) (s : Shared) (σ : St) (H : Hp) (x : V) (xs : List V) (v : Value) (us : List Value) (Q : VK), Inv X pins σ H s → RelV x v → Vals xs us → r x xs H Q →
    wpAny (model X.prog X.w) X.A (call (.builtin id) (v :: us)) (EP X pins σ Q) X.xe s

/-! ### lists of values -/
theorem Vals.one : ∀ {x : V} {us : List Value}, Vals [x] us → ∃ u, us = [u] ∧ RelV x u
  | _, _, .cons r .nil => ⟨_, rfl, r⟩
theorem Vals.two : ∀ {x y : V} {us : List Value}, Vals [x, y] us → ∃ u v, us = [u, v] ∧ RelV x u ∧ RelV y v
  | _, _, _, .cons r (.cons q .nil) => ⟨_, _, rfl, r, q⟩
theorem Vals.zero : ∀ {us : List Value}, Vals [] us → us = []
  | _, .nil => rfl
theorem Vals.dropLast {xs : List V} {us : List Value} (h : Vals xs us) : Vals xs.dropLast us.dropLast := by
  induction h with
  | nil => exact .nil
  | cons r t ih =>
    cases t with
    | nil => exact .nil
    | cons q t' => exact .cons r ih
theorem Vals.eraseIdx : ∀ {xs : List V} {us : List Value} (i : Nat), Vals xs us → Vals (xs.eraseIdx i) (us.eraseIdx i)
  | _, _, _, .nil => .nil
  | _, _, 0, .cons _ t => t
  | _, _, i + 1, .cons r t => .cons r (Vals.eraseIdx i t)
theorem Vals.reverse {xs : List V} {us : List Value} (h : Vals xs us) : Vals xs.reverse us.reverse := by
  induction h with
  | nil => exact .nil
  | cons r t ih => rw [List.reverse_cons, List.reverse_cons]; exact Vals.append ih (.cons r .nil)
theorem Vals.rep {xs : List V} {us : List Value} (h : Vals xs us) : ∀ k : Nat, Vals (List.replicate k xs).flatten (List.replicate k us).flatten
  | 0 => .nil
  | k + 1 => by
    rw [List.replicate_succ, List.replicate_succ, List.flatten_cons, List.flatten_cons]
    exact Vals.append h (Vals.rep h k)
theorem erase_last {α : Type} (l : List α) : l.eraseIdx (l.length - 1) = l.dropLast := by
  induction l with
  | nil => rfl
  | cons a r ih =>
    cases r with
    | nil => rfl
    | cons b r =>
      have e : (a :: b :: r).length - 1 = ((b :: r).length - 1) + 1 := by
        have h1 : (a :: b :: r).length = r.length + 2 := rfl
        have h2 : (b :: r).length = r.length + 1 := rfl
        omega
      rw [e, List.eraseIdx_cons_succ, ih]
      all_goals rfl
theorem len_erase {α : Type} : ∀ (l : List α) (i : Nat), (l.eraseIdx i).length ≤ l.length
  | [], _ => Nat.le_refl _
  | _ :: _, 0 => Nat.le_succ _
  | _ :: r, i + 1 => Nat.succ_le_succ (len_erase r i)
theorem foldl_rep (its : List Value) : ∀ (k : Nat) (acc : List Value),
    List.foldl (fun x1 x2 => x1 ++ x2) acc.toArray (List.replicate k its.toArray) = (acc ++ (List.replicate k its).flatten).toArray
  | 0, acc => by simp
  | k + 1, acc => by
    have e : acc.toArray ++ its.toArray = (acc ++ its).toArray := by simp
    have e2 : (acc ++ its) ++ (List.replicate k its).flatten = acc ++ (List.replicate (k + 1) its).flatten := by
      rw [List.replicate_succ, List.flatten_cons, List.append_assoc]
    rw [← e2, ← foldl_rep its k (acc ++ its), ← e, List.replicate_succ, List.foldl_cons]

section
variable {X : Cx} {pins : List (Addr × Obj)} {σ : St} {H : Hp} {s : Shared} {l b : Addr} {xs ys zs : List V}

/-! ### the two steps: a tracked list is rewritten, a new list is laid -/
theorem Inv.lset {its its' : List Value} {n : Nat} {f : Array Value → Array Value} {t' : Nat} (I : Inv X pins σ H s) (hH : H l = some (.lst xs))
    (e : s.heap.get? l = some { cls := .type "list", data := .seq its.toArray n }) (hf : f its.toArray = its'.toArray) (hv : Vals ys its') (hz : ys.length ≤ sizeLine) :
    Inv X pins σ (upd H l (.lst ys)) { s with heap := s.heap.update l (Obj.mapSeq f), toks := t' } := by
  have q := PySem.IsL.update e f
  rw [hf] at q
  refine I.write (x := l) (e := l) (by rw [hH]; exact trivial) (.inl rfl) (fun b' u hb hu => (Heap.get?_update_other s.heap (Obj.mapSeq f) (Ne.symm hb)).trans hu) ⟨_, q⟩ ?_
  exact ⟨hz, its', _, hv, q⟩
theorem Inv.lnew {its : List Value} {t' : Nat} (I : Inv X pins σ H s) (hv : Vals ys its) (hz : ys.length ≤ sizeLine) :
    Inv X pins σ (upd H s.heap.objs.size (.lst ys)) { s with heap := s.heap.push { cls := .type "list", data := .seq its.toArray }, toks := t' } :=
  I.laid (fun _ _ q => Heap.get?_push_of_some _ q) (Nat.le_refl _) ⟨hz, its, 0, hv, Heap.get?_push_size _ rfl⟩
theorem Inv.fresh (I : Inv X pins σ H s) : H s.heap.objs.size = none := I.hok.fresh (Nat.le_refl _)
theorem Inv.lstM (I : Inv X pins σ H s) (hH : H l = some (.lst xs)) : xs.length ≤ sizeLine ∧ ∃ (its : List Value) (n : Nat), Vals xs its ∧ xs.length = its.length ∧ s.heap.get? l = some { cls := .type "list", data := .seq its.toArray n } := by
  obtain ⟨z, its, n, r, e⟩ := I.hok l _ hH
  exact ⟨z, its, n, r, r.length, e⟩

theorem notLongL {n : Nat} (h : n ≤ sizeLine) : Builtin.List.listTooLong n = false := by
  unfold Builtin.List.listTooLong
  exact decide_eq_false (by omega)
end

section
variable {X : Cx}

/-! ### methods -/
def rAppend : V → List V → Hp → VK → Prop := fun x vs H Q => ∃ l xs y, x = .ref l ∧ vs = [y] ∧ H l = some (.lst xs) ∧ xs.length < sizeLine ∧ Q .non (upd H l (.lst (xs ++ [y])))
theorem mt_append : MtM X "list.append" rAppend := by
  intro pins s σ H x vs v us Q I rx rv h
  obtain ⟨l, xs, y, rfl, rfl, hH, hz, q⟩ := h
  cases rx
  obtain ⟨u, rfl, ru⟩ := rv.one
  obtain ⟨z, its, n, r, hl, e⟩ := I.lstM hH
  refine call_meets F.slot_list_append ⟨_, e, rfl⟩ F.entry_list_append (F.args_list_append_2 _ _) (PySem.list_append l its.toArray n u (by rw [List.size_toArray]; omega)) ⟨e, ?_⟩
  refine ⟨.non, _, I.lset (its' := its ++ [u]) hH e (by simp) (r.append (.cons ru .nil)) ?_, rfl, q⟩
  rw [List.length_append, List.length_singleton]
  omega

def rExtend : V → List V → Hp → VK → Prop := fun x vs H Q => ∃ l b xs zs, x = .ref l ∧ vs = [.ref b] ∧ H l = some (.lst xs) ∧ H b = some (.lst zs) ∧ xs.length + zs.length ≤ sizeLine ∧ Q .non (upd H l (.lst (xs ++ zs)))
theorem mt_extend : MtM X "list.extend" rExtend := by
  intro pins s σ H x vs v us Q I rx rv h
  obtain ⟨l, b, xs, zs, rfl, rfl, hH, hB, hz, q⟩ := h
  cases rx
  obtain ⟨u, rfl, ru⟩ := rv.one
  cases ru
  obtain ⟨z, its, n, r, hl, e⟩ := I.lstM hH
  obtain ⟨z2, its2, n2, r2, hl2, e2⟩ := I.lstM hB
  have hsz : its.toArray.size + its2.toArray.size ≤ sizeLine := by rw [List.size_toArray, List.size_toArray]; omega
  have hlong : ¬ (!its.toArray.isEmpty && Builtin.List.listTooLong (its.toArray.size + its2.toArray.size)) = true := by
    rw [notLongL hsz, Bool.and_false]
    exact Bool.false_ne_true
  refine call_meets F.slot_list_extend ⟨_, e, rfl⟩ F.entry_list_extend (F.args_list_extend_2 _ _)
    (AutoSeq1.list_extend_list_list_0 l its.toArray n b its2.toArray n2 hlong (by rw [List.size_toArray]; omega) (by omega)) ⟨e, e2, ?_⟩
  refine ⟨.non, _, I.lset (its' := its ++ its2) hH e (by simp) (r.append r2) ?_, rfl, q⟩
  rw [List.length_append]
  omega

def rPop : V → List V → Hp → VK → Prop := fun x vs H Q => ∃ l xs y, x = .ref l ∧ vs = [] ∧ H l = some (.lst xs) ∧ xs[xs.length - 1]? = some y ∧ Q y (upd H l (.lst xs.dropLast))
theorem mt_pop : MtM X "list.pop" rPop := by
  intro pins s σ H x vs v us Q I rx rv h
  obtain ⟨l, xs, y, rfl, rfl, hH, hy, q⟩ := h
  cases rx
  have hus := rv.zero
  subst hus
  obtain ⟨z, its, n, r, hl, e⟩ := I.lstM hH
  obtain ⟨u, hu, ru⟩ := r.get hy
  have hy' : its.toArray[its.toArray.size - 1]? = some u := by
    show its.toArray[its.length - 1]? = some u
    rw [← Array.getElem?_toList, ← hl]
    exact hu
  refine call_meets F.slot_list_pop ⟨_, e, rfl⟩ F.entry_list_pop (F.args_list_pop_1 _) (MeetsSeq.list_pop_last l its.toArray n u hy' (by rw [List.size_toArray]; omega)) ⟨e, ?_⟩
  refine ⟨y, _, I.lset (its' := its.dropLast) hH e ?_ r.dropLast ?_, ru, q⟩
  · show its.toArray.eraseIdxIfInBounds (its.toArray.size - 1) = its.dropLast.toArray
    rw [List.size_toArray, List.eraseIdxIfInBounds_toArray, erase_last]
  · rw [List.length_dropLast]
    omega

def rPopAt : V → List V → Hp → VK → Prop := fun x vs H Q => ∃ l xs i k y, x = .ref l ∧ vs = [.int i] ∧ H l = some (.lst xs) ∧ -(2 ^ 63) ≤ i ∧ i < 2 ^ 63 ∧ seqIndex? i xs.length = some k ∧ xs[k]? = some y ∧ Q y (upd H l (.lst (xs.eraseIdx k)))
theorem mt_popAt : MtM X "list.pop" rPopAt := by
  intro pins s σ H x vs v us Q I rx rv h
  obtain ⟨l, xs, i, k, y, rfl, rfl, hH, h1, h2, hk, hy, q⟩ := h
  cases rx
  obtain ⟨u, rfl, ru⟩ := rv.one
  obtain ⟨t, rfl⟩ := ru
  obtain ⟨z, its, n, r, hl, e⟩ := I.lstM hH
  obtain ⟨w, hw, rw'⟩ := r.get hy
  refine call_meets F.slot_list_pop ⟨_, e, rfl⟩ F.entry_list_pop (F.args_list_pop_2 _ _)
    (MeetsSeq.list_pop_at l its.toArray n i t k w (fitsIndex_both h1 h2) (by rw [List.size_toArray, ← hl]; exact hk) (by rw [← Array.getElem?_toList]; exact hw) (by rw [List.size_toArray]; omega)) ⟨e, ?_⟩
  refine ⟨y, _, I.lset (its' := its.eraseIdx k) hH e ?_ (r.eraseIdx k) ?_, rw', q⟩
  · show its.toArray.eraseIdxIfInBounds k = (its.eraseIdx k).toArray
    rw [List.eraseIdxIfInBounds_toArray]
  · have := len_erase xs k
    omega

def rReverse : V → List V → Hp → VK → Prop := fun x vs H Q => ∃ l xs, x = .ref l ∧ vs = [] ∧ H l = some (.lst xs) ∧ Q .non (upd H l (.lst xs.reverse))
theorem mt_reverse : MtM X "list.reverse" rReverse := by
  intro pins s σ H x vs v us Q I rx rv h
  obtain ⟨l, xs, rfl, rfl, hH, q⟩ := h
  cases rx
  have hus := rv.zero
  subst hus
  obtain ⟨z, its, n, r, hl, e⟩ := I.lstM hH
  refine call_meets F.slot_list_reverse ⟨_, e, rfl⟩ F.entry_list_reverse (F.args_list_reverse_1 _) (AutoSeq1.list_reverse_list_0 l its.toArray n (by rw [List.size_toArray]; omega)) ⟨e, ?_⟩
  refine ⟨.non, _, I.lset (its' := its.reverse) hH e (by simp) r.reverse ?_, rfl, q⟩
  rw [List.length_reverse]
  omega

def rClear : V → List V → Hp → VK → Prop := fun x vs H Q => ∃ l xs, x = .ref l ∧ vs = [] ∧ H l = some (.lst xs) ∧ Q .non (upd H l (.lst []))
theorem mt_clear : MtM X "list.clear" rClear := by
  intro pins s σ H x vs v us Q I rx rv h
  obtain ⟨l, xs, rfl, rfl, hH, q⟩ := h
  cases rx
  have hus := rv.zero
  subst hus
  obtain ⟨z, its, n, r, hl, e⟩ := I.lstM hH
  refine call_meets F.slot_list_clear ⟨_, e, rfl⟩ F.entry_list_clear (F.args_list_clear_1 _) (AutoSeq1.list_clear_list_0 l its.toArray n (by rw [List.size_toArray]; omega)) ⟨e, ?_⟩
  exact ⟨.non, _, I.lset (its' := []) (ys := []) hH e rfl .nil (Nat.zero_le _), rfl, q⟩

/-! ### list + list, list += list, list * int -/
def rCat : R2 := fun x y H Q => ∃ l b xs zs, x = .ref l ∧ y = .ref b ∧ H l = some (.lst xs) ∧ H b = some (.lst zs) ∧ xs.length + zs.length ≤ sizeLine ∧ ∀ p, H p = none → Q (.ref p) (upd H p (.lst (xs ++ zs)))
theorem op_cat : OpR X (binaryOp .Add) rCat := by
  intro pins s σ H x y v u Q I rx ry h
  obtain ⟨l, b, xs, zs, rfl, rfl, hH, hB, hz, q⟩ := h
  cases rx
  cases ry
  obtain ⟨z, its, n, r, hl, e⟩ := I.lstM hH
  obtain ⟨z2, its2, n2, r2, hl2, e2⟩ := I.lstM hB
  refine PySem.P.add_list e e2 ?_ (by rw [List.size_toArray, List.size_toArray]; omega)
  have ea : its.toArray ++ its2.toArray = (its ++ its2).toArray := by simp
  rw [ea]
  exact ⟨.ref _, _, I.lnew (t' := s.toks) (r.append r2) (by rw [List.length_append]; omega), rfl, q _ I.fresh⟩
/-- a list times an int (a negative one is nothing) -/
def rRep : R2 := fun x y H Q => ∃ l k xs, x = .ref l ∧ y = .int k ∧ H l = some (.lst xs) ∧ -(2 ^ 63) ≤ k ∧ k < 2 ^ 63 ∧ xs.length * k.toNat ≤ sizeLine ∧
  ∀ p, H p = none → Q (.ref p) (upd H p (.lst (List.replicate k.toNat xs).flatten))
theorem len_rep {α : Type} (xs : List α) (k : Nat) : (List.replicate k xs).flatten.length = k * xs.length := by
  induction k with
  | zero => simp
  | succ k ih => rw [List.replicate_succ, List.flatten_cons, List.length_append, ih, Nat.succ_mul, Nat.add_comm]
theorem op_rep : OpR X (binaryOp .Mult) rRep := by
  intro pins s σ H x y v u Q I rx ry h
  obtain ⟨l, k, xs, rfl, rfl, hH, h1, h2, hz, q⟩ := h
  cases rx
  obtain ⟨t, rfl⟩ := ry
  obtain ⟨z, its, n, r, hl, e⟩ := I.lstM hH
  have hlen : its.toArray.size * k.toNat ≤ sizeLine := by rw [List.size_toArray, ← hl]; exact hz
  have hcap : ¬ its.toArray.size * k.toNat > (2 ^ 63 - 1) / 8 := by
    have : (sizeLine : Nat) ≤ (2 ^ 63 - 1) / 8 := by decide
    omega
  have hfit : ¬ (!Builtin.List.listFitsIndex k) = true := by
    rw [fitsIndex_both h1 h2]
    exact Bool.false_ne_true
  have hlong : ¬ Builtin.List.listTooLong (its.toArray.size * k.toNat) = true := by
    rw [notLongL hlen]
    exact Bool.false_ne_true
  have hnew : List.foldl (fun x1 x2 => x1 ++ x2) #[] (List.replicate (if its.toArray.isEmpty = true then 0 else k.toNat) its.toArray) = (List.replicate k.toNat its).flatten.toArray := by
    have f0 : ∀ m : Nat, List.foldl (fun x1 x2 => x1 ++ x2) #[] (List.replicate m its.toArray) = (List.replicate m its).flatten.toArray := fun m => by
      have := foldl_rep its m []
      rw [List.nil_append] at this
      exact this
    rw [f0]
    cases its with
    | nil => simp
    | cons a r' => rw [if_neg (by simp)]
  refine wpAny_binaryOp_repeat_ref (T := "list") (U := "int") (by decide) ⟨_, e, rfl⟩ (fun s' => typeIs_int s' k t) noFill_list_mul F.fills_int_mul F.slot_int_rmul repeat_list F.slot_int_index.lookup
    (call_meets F.slot_int_rmul (typeIs_int s k t) F.entry_int_rmul (F.args_int_rmul_2 _ _) (int___rmul___int_list k t l its.toArray n)
      ⟨e, rfl, ⟨_, e, rfl⟩, call_meets F.slot_list_mul ⟨_, e, rfl⟩ F.entry_list_mul (F.args_list_mul_2 _ _) (AutoListH.list___mul___list_int_3 l its.toArray n k t hfit hcap hlong) ⟨e, ?_⟩⟩)
  rw [hnew]
  exact ⟨.ref _, _, I.lnew (t' := s.toks) (r.rep k.toNat) (by rw [len_rep, Nat.mul_comm]; exact hz), rfl, q _ I.fresh⟩

/-! ### del xs[i] -/
theorem del_list {pins : List (Addr × Obj)} {s : Shared} {σ : St} {H : Hp} {l : Addr} {xs : List V} {i : Int} {t : Tok} {k : Nat} {Q : Unit → Shared → Prop} (I : Inv X pins σ H s) (hH : H l = some (.lst xs))
    (h1 : -(2 ^ 63) ≤ i) (h2 : i < 2 ^ 63) (hk : seqIndex? i xs.length = some k) (h : ∀ s', Inv X pins σ (upd H l (.lst (xs.eraseIdx k))) s' → Q () s') :
    wpAny (model X.prog X.w) X.A (delItem (.ref l) (.int i t)) Q X.xe s := by
  obtain ⟨z, its, n, r, hl, e⟩ := I.lstM hH
  refine PySem.P.delItem_list (k := k) e (fitsIndex_both h1 h2) (by rw [List.size_toArray, ← hl]; exact hk) (h _ ?_) (by rw [List.size_toArray]; omega)
  refine I.lset (its' := its.eraseIdx k) (t' := s.toks) hH e ?_ (r.eraseIdx k) ?_
  · show its.toArray.eraseIdxIfInBounds k = (its.eraseIdx k).toArray
    rw [List.eraseIdxIfInBounds_toArray]
  · have := len_erase xs k
    omega
end

/-! ### xs[a:b] = ys -/
section
variable {prog : Program} {w : World} {A : Around} {E : Value → Shared → Prop} {s : Shared}
theorem splice_eq (its its2 : List Value) (a c : Nat) : its.toArray.extract 0 a ++ its2.toArray ++ its.toArray.extract c its.toArray.size = (its.take a ++ its2 ++ its.drop c).toArray := by
  apply Array.toList_inj.mp
  first
    | (simp
       exact List.take_of_length_le (by simp))
    | simp [List.take_of_length_le]
    | simp
theorem bounds_run {a c n : Nat} (hac : a ≤ c) (hc : c ≤ n) : sliceBounds (some (a : Int)) (some (c : Int)) none n = ((a : Int), (c : Int), 1) := by
  simp only [sliceBounds, Option.getD_none]
  have h1 : ¬ ((a : Int) < 0) := by omega
  have h2 : ¬ ((c : Int) < 0) := by omega
  simp only [h1, h2, if_false, show (1 : Int) > 0 by decide, if_true]
  congr 1
  · omega
  · congr 1; omega
set_option maxRecDepth 100000 in
/-- list.__setitem__ with a slice of step one and another list -/
theorem setItem_slice {l b sl : Addr} {items new : Array Value} {n n2 : Nat} {vl vu : Value} {a c : Nat} {Q : Unit → Shared → Prop}
    (e : s.heap.get? l = some { cls := .type "list", data := .seq items n }) (e2 : s.heap.get? b = some { cls := .type "list", data := .seq new n2 }) (hne : l ≠ b)
    (hs : s.heap.IsSliceOf sl vl vu .none) (pl : IsPart vl (some (a : Int))) (pu : IsPart vu (some (c : Int))) (hac : a ≤ c) (hc : c ≤ items.size)
    (hsz : items.size + new.size ≤ sizeLine) (h : Q () { s with heap := s.heap.update l (Obj.mapSeq fun xs => xs.extract 0 a ++ new ++ xs.extract c xs.size) }) :
    wpAny (model prog w) A (setItem (.ref l) (.ref sl) (.ref b)) Q E s := by
  have hl : s.heap.IsList l items := PySem.IsL.isList e
  have hb : s.heap.IsList b new := PySem.IsL.isList e2
  obtain ⟨os, hos, hcs, hds⟩ := id hs
  have hTs : s.TypeIs (.ref sl) "slice" := ⟨os, hos, hcs⟩
  have hstep : ¬ ((rawPart none == rawInt 0) = true) := Bool.false_ne_true
  have hsame : Builtin.List.listSameRef (.ref l) (.ref b) = false := by
    unfold Builtin.List.listSameRef
    exact beq_eq_false_iff_ne.mpr hne
  have hmax : (max (a : Int) (c : Int)).toNat = c := by omega
  have hz' : ((fun xs : Array Value => xs.extract 0 a ++ new ++ xs.extract c xs.size) items).size ≤ sizeLine + 1 := by
    simp only [Array.size_append, Array.size_extract]
    omega
  unfold setItem
  try with_reducible refine wpAny_holding ?_
  first | refine wpAny_bind (wpAny_pure ?_) | skip
  refine wpAny_bind (wpAny_sequenceKey hl.typeIs (by decide) ?_)
  refine wpAny_bind (wpAny_callSpecial?_slot (name := Str.ofString "__setitem__") hl.typeIs slot_list_setitem
    (wpAny_call_entry slot_list_setitem hl.typeIs entry_list_setitem ?_ (args_list_setitem _ _ _)))
  show wpAny _ _ (Builtin.List.listSubscript? (.ref sl) >>= _) _ _ s
  refine wpAny_bind ?_
  unfold Builtin.List.listSubscript?
  refine wpAny_bind (wpAny_specialOf hTs slice_no_index ?_)
  simp only [Option.isNone_none, if_true]
  refine wpAny_pure ?_
  show wpAny _ _ (typeOf (.ref sl) >>= _) _ _ s
  refine wpAny_bind (wpAny_typeOf hTs ?_)
  first
    | rw [if_neg (by decide)]
    | refine PySem.W.KFB.if_not (by decide) ?_
  rw [listSliceParts_eq]
  refine wpAny_bind (wpAny_bind (wpAny_field hos hds (x := .none) rfl (wpAny_bind (wpAny_listPart .none ?_))))
  rw [if_neg hstep]
  refine wpAny_bind (wpAny_field hos hds (x := vl) rfl (wpAny_bind (wpAny_listPart pl ?_)))
  refine wpAny_bind (wpAny_field hos hds (x := vu) rfl (wpAny_bind (wpAny_listPart pu (wpAny_pure ?_))))
  first
    | simp only [hsame, Bool.false_eq_true, if_false]
    | refine PySem.W.KFB.if_not hsame ?_
    | (dsimp only
       rw [if_neg (by rw [hsame]; exact Bool.false_ne_true)])
  refine wpAny_bind (m := Builtin.List.listAllItems (.ref b) "must assign iterable to extended slice") ?_
  unfold Builtin.List.listAllItems
  refine wpAny_bind (wpAny_typeOf hb.typeIs ?_)
  first
    | refine PySem.W.KFB.if_so (by decide) ?_
    | rw [if_pos (by decide)]
    | simp only [beq_self_eq_true, Bool.true_or, if_true]
  unfold Builtin.List.listItems
  refine wpAny_bind (wpAny_seqItems e2 rfl (wpAny_pure ?_))
  refine wpAny_bind (wpAny_bind (wpAny_seqItems e rfl (wpAny_pure ?_)))
  refine wpAny_bind (wpAny_of_eq ((sliceIndices_raw (some (a : Int)) (some (c : Int)) none items.size (by simp)).trans (congrArg (pure : Int × Int × Int → Sem (Int × Int × Int)) (bounds_run hac hc))) ?_)
  show wpAny _ _ (if ((1 : Int) == 1) = true then _ else _) _ _ s
  rw [if_pos (by decide)]
  refine wpAny_bind (wpAny_rule ?_)
  first
    | simp only [notLongL hsz, Bool.false_eq_true, if_false]
    | refine PySem.W.KFB.if_not (notLongL hsz) ?_
  first | refine wpAny_bind (wpAny_pure ?_) | skip
  show wpAny _ _ (updateSeq l (fun xs => xs.extract 0 ((a : Int)).toNat ++ new ++ xs.extract (max (a : Int) (c : Int)).toNat xs.size) >>= _) _ _ s
  rw [hmax, Int.toNat_natCast]
  refine wpAny_bind (wpAny_updateSeq (hz := Nat.le_trans (Nat.le_add_right _ _) hsz) (_hz' := hz') e rfl ?_)
  refine wpAny_bind (wpAny_letGo ?_)
  first
    | exact wpAny_bind (wpAny_pure (wpAny_pure ⟨.none, rfl, wpAny_pure h⟩))
    | exact wpAny_pure ⟨.none, rfl, wpAny_pure h⟩
end

section
variable {X : Cx}
/-- xs[a:c] = ys of another list, at the value level: sl is the slice object that was just made -/
theorem set_slice {pins : List (Addr × Obj)} {s : Shared} {σ : St} {H : Hp} {l b sl : Addr} {xs ys : List V} {a c : Int} {vl vu : Value} {Q : Unit → Shared → Prop} (I : Inv X pins σ H s)
    (hH : H l = some (.lst xs)) (hB : H b = some (.lst ys)) (hne : l ≠ b) (hs : s.heap.IsSliceOf sl vl vu .none) (ra : RelV (.int a) vl) (rc : RelV (.int c) vu) (h0 : 0 ≤ a) (hac : a ≤ c) (hc : c ≤ xs.length)
    (hz : xs.length + ys.length ≤ sizeLine) (h : ∀ s', Inv X pins σ (upd H l (.lst (xs.take a.toNat ++ ys ++ xs.drop c.toNat))) s' → Q () s') :
    wpAny (model X.prog X.w) X.A (setItem (.ref l) (.ref sl) (.ref b)) Q X.xe s := by
  obtain ⟨ta, rfl⟩ := ra
  obtain ⟨tc, rfl⟩ := rc
  obtain ⟨z, its, n, r, hl, e⟩ := I.lstM hH
  obtain ⟨z2, its2, n2, r2, hl2, e2⟩ := I.lstM hB
  obtain ⟨a', rfl⟩ := Int.eq_ofNat_of_zero_le h0
  obtain ⟨c', rfl⟩ := Int.eq_ofNat_of_zero_le (Int.le_trans h0 hac)
  simp only [Int.toNat_natCast] at h
  refine setItem_slice (a := a') (c := c') e e2 hne hs (.int _ _) (.int _ _) (by omega) (by rw [List.size_toArray]; omega) (by rw [List.size_toArray, List.size_toArray]; omega) (h _ ?_)
  refine I.lset (its' := its.take a' ++ its2 ++ its.drop c') (t' := s.toks) hH e ?_ (Vals.append (Vals.append (r.take _) r2) (r.drop _)) ?_
  · exact splice_eq its its2 a' c'
  · rw [List.length_append, List.length_append, List.length_take, List.length_drop]
    omega
end
end L2

namespace Att
open PySem PySem.W PySem.Calls PyProof.Rows

/-! ### the script -/
theorem ints_of_wellAll {P : Params} {h : Heap} : ∀ (ns : List Int) (vs : List Value), WellAll P h vs (ns.map WData.int) → IntsAre vs ns := by
  intro ns
  induction ns with
  | nil =>
    intro vs w
    rw [List.map_nil] at w
    cases w
    exact .nil
  | cons n ns ih =>
    intro vs w
    rw [List.map_cons] at w
    cases w with
    | cons a b =>
      cases a
      exact .cons _ _ (ih _ b)

theorem script_of {l : OpenLaw} {n : Nat} (hn : l.most = some n) {P : Params} {h : Heap} {args : List WData} {vals : List Value}
    (hpre : l.row.toRowW.claim.pre args = true) (hwl : WellAll P h vals args) :
    ∃ a vs ns, vals = [Value.ref a] ∧ args = [WData.list (ns.map WData.int)] ∧ h.get? a = some { cls := .type "list", data := .seq vs.toArray } ∧ IntsAre vs ns ∧ ns.length ≤ n := by
  have hsh : WShape.hasAll [] args [.list .int] = true := (pre_splitW hpre).1
  have hc : l.pre.holds [] { args := args } = true := (pre_splitW hpre).2
  obtain ⟨d, r, rfl, h1, h2⟩ := hasAllW_cons hsh
  obtain rfl := hasAllW_nil h2
  obtain ⟨xs, rfl, h3⟩ := hasW_list h1
  obtain ⟨ns, rfl⟩ := items_int h3
  have hlen : ns.length ≤ n := by
    unfold OpenLaw.pre at hc
    have h4 : (WTm.not (.lt (.lit (.int (n : Int))) (.len (.arg 0)))).holds [] { args := [.list (ns.map .int)] } = true := by
      have h4 := (holds_andW hc).1
      rw [hn] at h4
      exact h4
    have h5 := condW_of h4 (w_not (w_lt w_lit (w_len_list (w_arg rfl))))
    rw [List.length_map] at h5
    refine Nat.le_of_not_lt fun q => ?_
    have q' : (n : Int) < ((ns.length : Nat) : Int) := by omega
    first
      | (rw [decide_eq_true q'] at h5; exact absurd h5 (by decide))
      | (simp at h5; omega)
  cases hwl with
  | cons w1 w2 =>
    cases w2
    cases w1 with
    | list ho hall => exact ⟨_, _, ns, rfl, rfl, ho, ints_of_wellAll ns _ hall, hlen⟩

theorem post_true (l : OpenLaw) (args : List WData) : l.row.toRowW.claim.post args (.bool true) args = true :=
  postW_of (r := l.row.toRowW) (X := (true == true))
    (show WShape.has [] (.bool true) .bool = true by first | rfl | decide | simp [WShape.has, WShape.arms, WShape.armsAll])
    (show (WTm.eq .res (.lit (.bool true))).value [] { args := args, res := some (.bool true), after := args } = some (.bool (true == true)) from w_eq_bool (w_res rfl) w_lit) rfl

/-! ### the attachment: holds_open's last premise (the goal 'hc' behind k_head) from a wpAny of the law's body -/
theorem attach {l : OpenLaw} {n : Nat} {q : Program} {loose : List Str} {XP : (Str → Option Value) → Heap → Prop} {YP : World → Heap → Prop} {d : DefRec} {x : Str}
    (hn : l.most = some n) (hdf : d.params.defaults = [])
    (hbind : ∀ pm cd doc v : Value, bindArgs (docDef d.name d.params d.body d.scope pm cd doc) ⟨[v], []⟩ = pure [(x, v)])
    (hx : d.scope.names.lookup x = some .local ∨ d.scope.names.lookup x = some .cell)
    (hk : d.scope.kind = .function) (hco : d.scope.isCoroutine = false) (hgen : d.scope.isGenerator = false)
    (body : ∀ (w : World) (s₀ s₁ s : Shared) (mg mb : Str → Option Value) (fa : Addr) (o : Obj) (pm cd doc : Value) (a : Addr) (vs : List Value) (ns : List Int),
      Ground q loose [] XP w s₀ mg mb s₁.heap → YP w s₁.heap →
      s₁.heap.get? fa = some o → o.data = .func (docDef d.name d.params d.body d.scope pm cd doc) → s₁.heap.CodeRec cd d.name → mg d.name = some (.ref fa) →
      s₁.heap.get? a = some { cls := .type "list", data := .seq vs.toArray } → IntsAre vs ns → ns.length ≤ n →
      s.gens = #[] → s.os = s₁.os →
      Fr s₁.heap s₁.heap.objs.size s.heap (bindL (envOfC d.name d.scope s₁.heap.objs.size fa cd).kindOf [(x, .ref a)] fun _ => none) →
      Cl s₁.heap.objs.size (cellsFrom (s₁.heap.objs.size + 1) d.scope.names []) s.heap (bindC (envOfC d.name d.scope s₁.heap.objs.size fa cd).kindOf [(x, .ref a)] fun _ => none) →
      wpAny (model l.prog w) (callerA.deeper (envOfC d.name d.scope s₁.heap.objs.size fa cd)) (execs d.body (envOfC d.name d.scope s₁.heap.objs.size fa cd))
        (fun f s' => f = .ret (.bool true) ∧ OldK s₁.heap s'.heap ∧ s'.os = s₁.os ∧ AllBare s'.gens) (fun _ _ => False) s) :
    WalkO q loose XP YP l.row.toRowW d [] (fun f vs => PySem.call f vs) := by
  intro w s₀ s₁ mg mb G Y fa o pm cd doc dV kV ho hd hcd hD hmg hg args vals as hpre hlay hrd hwl hlo
  obtain rfl : dV = .none := Dflts.none hD hdf
  obtain rfl : kV = .none := Dflts.noKw hD
  obtain ⟨a, vs, ns, rfl, rfl, hobj, hints, hlen⟩ := script_of hn hpre hwl
  refine enter_call ?_
  refine call_cells_ret (o := o) (by rw [depth_caller]; decide) ho (fd_plain hd) G.T.nolimit hcd (hbind pm cd doc (.ref a)) (fun y hy => ?_) (fun h₁ tk F X => ?_) hco hgen hk
  · obtain rfl : y = (x, Value.ref a) := List.mem_singleton.mp hy
    rcases hx with e | e
    · exact .inl e
    · exact .inr ⟨e, cellsFrom_some _ _ _ (.inl e)⟩
  · refine wpAny_mono (body w s₀ s₁ { s₁ with heap := h₁, toks := tk } mg mb fa o pm cd doc a vs ns G Y ho (fd_plain hd) hcd hmg hobj hints hlen hg rfl F X) (fun f s' hq => ?_) (fun _ _ hq => hq)
    obtain ⟨rfl, h2, h3, h4⟩ := hq
    exact ⟨.inl ⟨.bool true, .bool true, [], rfl, fun _ => rfl, .bool true, post_true l _, fun _ => ⟨List.Pairwise.nil, fun _ hm => (nomatch hm)⟩⟩, h2, h3, h4⟩

/-- the same from a codeAny of the CALL (for a layer whose function contracts speak of calls) -/
theorem attach_call {l : OpenLaw} {n : Nat} {q : Program} {loose : List Str} {XP : (Str → Option Value) → Heap → Prop} {YP : World → Heap → Prop} {d : DefRec}
    (hn : l.most = some n) (hdf : d.params.defaults = [])
    (call : ∀ (w : World) (s₀ s₁ : Shared) (mg mb : Str → Option Value) (fa : Addr) (o : Obj) (pm cd doc : Value) (a : Addr) (vs : List Value) (ns : List Int),
      Ground q loose [] XP w s₀ mg mb s₁.heap → YP w s₁.heap →
      s₁.heap.get? fa = some o → o.data = .func (docDef d.name d.params d.body d.scope pm cd doc) → s₁.heap.CodeRec cd d.name → mg d.name = some (.ref fa) →
      s₁.heap.get? a = some { cls := .type "list", data := .seq vs.toArray } → IntsAre vs ns → ns.length ≤ n → s₁.gens = #[] →
      codeAny (model l.prog w) callerA (.call (.ref fa) ⟨[.ref a], []⟩) (fun r s' => r = .ok (.ret (.bool true)) ∧ OldK s₁.heap s'.heap ∧ s'.os = s₁.os ∧ AllBare s'.gens) s₁) :
    WalkO q loose XP YP l.row.toRowW d [] (fun f vs => PySem.call f vs) := by
  intro w s₀ s₁ mg mb G Y fa o pm cd doc dV kV ho hd hcd hD hmg hg args vals as hpre hlay hrd hwl hlo
  obtain rfl : dV = .none := Dflts.none hD hdf
  obtain rfl : kV = .none := Dflts.noKw hD
  obtain ⟨a, vs, ns, rfl, rfl, hobj, hints, hlen⟩ := script_of hn hpre hwl
  refine enter_call (codeAny_mono (call w s₀ s₁ mg mb fa o pm cd doc a vs ns G Y ho (fd_plain hd) hcd hmg hobj hints hlen hg) fun r s' hq => ?_)
  obtain ⟨rfl, h2, h3, h4⟩ := hq
  exact ⟨.inl ⟨.bool true, .bool true, [], rfl, fun _ => rfl, .bool true, post_true l _, fun _ => ⟨List.Pairwise.nil, fun _ hm => (nomatch hm)⟩⟩, h2, h3, h4⟩

/-- the same where the top left finished generators (o_head chose holds_openN): nothing may have changed at all and no generator may be left -/
theorem attachN {l : OpenLaw} {n : Nat} {q : Program} {loose : List Str} {XP : (Str → Option Value) → Heap → Prop} {YP : World → Heap → Prop} {d : DefRec} {x : Str}
    (hn : l.most = some n) (hdf : d.params.defaults = [])
    (hbind : ∀ pm cd doc v : Value, bindArgs (docDef d.name d.params d.body d.scope pm cd doc) ⟨[v], []⟩ = pure [(x, v)])
    (hx : d.scope.names.lookup x = some .local ∨ d.scope.names.lookup x = some .cell)
    (hk : d.scope.kind = .function) (hco : d.scope.isCoroutine = false) (hgen : d.scope.isGenerator = false)
    (body : ∀ (w : World) (s₀ s₁ s : Shared) (mg mb : Str → Option Value) (fa : Addr) (o : Obj) (pm cd doc : Value) (a : Addr) (vs : List Value) (ns : List Int),
      Ground q loose [] XP w s₀ mg mb s₁.heap → YP w s₁.heap →
      s₁.heap.get? fa = some o → o.data = .func (docDef d.name d.params d.body d.scope pm cd doc) → s₁.heap.CodeRec cd d.name → mg d.name = some (.ref fa) →
      s₁.heap.get? a = some { cls := .type "list", data := .seq vs.toArray } → IntsAre vs ns → ns.length ≤ n →
      s.gens = #[] → s.os = s₁.os →
      Fr s₁.heap s₁.heap.objs.size s.heap (bindL (envOfC d.name d.scope s₁.heap.objs.size fa cd).kindOf [(x, .ref a)] fun _ => none) →
      Cl s₁.heap.objs.size (cellsFrom (s₁.heap.objs.size + 1) d.scope.names []) s.heap (bindC (envOfC d.name d.scope s₁.heap.objs.size fa cd).kindOf [(x, .ref a)] fun _ => none) →
      wpAny (model l.prog w) (callerA.deeper (envOfC d.name d.scope s₁.heap.objs.size fa cd)) (execs d.body (envOfC d.name d.scope s₁.heap.objs.size fa cd))
        (fun f s' => f = .ret (.bool true) ∧ (∀ b o, s₁.heap.get? b = some o → s'.heap.get? b = some o) ∧ s'.os = s₁.os ∧ s'.gens = #[]) (fun _ _ => False) s) :
    WalkN q loose XP YP l.row.toRowW d [] (fun f vs => PySem.call f vs) := by
  intro w s₀ s₁ mg mb G Y fa o pm cd doc dV kV ho hd hcd hD hmg hg args vals as hpre hlay hrd hwl hlo
  obtain rfl : dV = .none := Dflts.none hD hdf
  obtain rfl : kV = .none := Dflts.noKw hD
  obtain ⟨a, vs, ns, rfl, rfl, hobj, hints, hlen⟩ := script_of hn hpre hwl
  refine enter_callW ?_
  refine call_cells_ret (o := o) (by rw [depth_caller]; decide) ho (fd_plain hd) G.T.nolimit hcd (hbind pm cd doc (.ref a)) (fun y hy => ?_) (fun h₁ tk F X => ?_) hco hgen hk
  · obtain rfl : y = (x, Value.ref a) := List.mem_singleton.mp hy
    rcases hx with e | e
    · exact .inl e
    · exact .inr ⟨e, cellsFrom_some _ _ _ (.inl e)⟩
  · refine wpAny_mono (body w s₀ s₁ { s₁ with heap := h₁, toks := tk } mg mb fa o pm cd doc a vs ns G Y ho (fd_plain hd) hcd hmg hobj hints hlen hg rfl F X) (fun f s' hq => ?_) (fun _ _ hq => hq)
    obtain ⟨rfl, h2, h3, h4⟩ := hq
    exact ⟨.inl ⟨.bool true, .bool true, [], rfl, fun _ => rfl, .bool true, post_true l _, fun _ => ⟨List.Pairwise.nil, fun _ hm => (nomatch hm)⟩⟩, h2, h3, h4⟩

/-! ### rules over ANY heap (no ledger) from facts about the written part K: the library's own take a ledger (News) for what they write -/
section
variable {prog : Program} {w : World} {A : Around} {E : Value → Shared → Prop} {s : Shared} {K : Frag}

/-- a def of the module, or a method (qual 'C.m'), entered: the frame is the next address; cells behind it -/
theorem call_fn {R : Result → Shared → Prop} {name qual : Str} {params : Arguments} {body : List Stmt} {scope : Scope} {dV kV doc pm cdv ct oc : Value} {an od : Option Addr} {osl : Array (Option Value)} {f : Addr} {args : Args} {binds : List (Str × Value)}
    (X : K.In s.heap) (hlim : s.heap.NoLimit) (ho : K.lookup f = some ⟨oc, od, .func (fnOf name qual params body scope dV kV doc pm an cdv ct), osl⟩) (hcd : codeIn K cdv qual = true) (hroom : A.depth < recursionLimit)
    (hbind : BindsTo s (fnOf name qual params body scope dV kV doc pm an cdv ct) args binds)
    (hkind : (binds.all fun y => scope.names.lookup y.1 == some .local || scope.names.lookup y.1 == some .cell) = true)
    (h : ∀ s₁, InCallC s s.heap.objs.size (bindL (envOfC qual scope s.heap.objs.size f cdv).kindOf binds fun _ => none) (cellsFrom (s.heap.objs.size + 1) scope.names [])
        (bindC (envOfC qual scope s.heap.objs.size f cdv).kindOf binds fun _ => none) s₁ →
      wpAny (model prog w) (A.deeper (envOfC qual scope s.heap.objs.size f cdv)) (execs body (envOfC qual scope s.heap.objs.size f cdv))
        (fun fl s' => R (.ok (.ret (match fl with | .ret v => v | _ => .none))) s')
        (fun e s' => wpAny (model prog w) (A.deeper (envOfC qual scope s.heap.objs.size f cdv)) (leaving (envOfC qual scope s.heap.objs.size f cdv) e) (fun _ s'' => R (.error e) s'') (fun e' s'' => R (.error e') s'') s') s₁)
    (hco : scope.isCoroutine = false) (hgen : scope.isGenerator = false) (hk : scope.kind = .function) : codeAny (model prog w) A (.call (.ref f) args) R s := by
  refine codeAny_call_function hroom (X _ _ ho) rfl hco hgen rfl (codeRec_of X hcd) (hbind _ _ _ _ ?_)
  refine wpAny_newFunctionEnv_cells hk (kindsX hkind _) fun env he s₁ x => ?_
  subst he
  exact ⟨hlim.keeps x.toInCall.keep, codeAny_func (h s₁ x)⟩

/-- C(..): dict at size, instance at size + 1, then __init__ -/
theorem make_obj {R : Result → Shared → Prop} {C fI : Addr} {rest : List Value} {kw : List (Str × Value)}
    (X : K.In s.heap) (hm : makesIn K C = true) (hi : findIn K (.ref C) "__init__" = some (some (.ref fI))) (hf : isFn K (.ref fI) = true)
    (h : codeAny (model prog w) (A.under (.builtin "type.__call__" ⟨.ref C :: rest, kw⟩)) (.call (.ref fI) ⟨.ref (s.heap.objs.size + 1) :: rest, kw⟩) (InitBack (s.heap.objs.size + 1) R)
      { s with heap := (s.heap.push emptyDict).push (instObj C s.heap.objs.size) }) : codeAny (model prog w) A (.call (.ref C) ⟨rest, kw⟩) R s := by
  obtain ⟨hh, g, d, t, os⟩ := s
  exact make_core (makes_of X hm) (looks_findIn X hi) (fun self => bind_fn X self (beq_iff_eq.mp hf)) (.inl rfl) h

/-- x.name where the instance's dict holds the name and the class does not -/
theorem get_field {x C : Addr} {ox : Obj} {es : List DictEntry} {n : Nat} {name : Str} {expr : Bool} {v : Value} {Q : Value → Shared → Prop}
    (X : K.In s.heap) (I : PySem.W.InstAt s.heap x ox C (some (dictOf es n))) (hg : plainGet K C name = true) (hh : hasDictIn K C = true) (ha : findIn K (.ref C) name = some none)
    (hl : getL name es = some (some v)) (hv : handedIn v = true) (h : Q v { s with toks := s.toks + 1 }) : wpAny (model prog w) A (getAttr (.ref x) name expr) Q E s :=
  get_value X I (plainGet_of hg).1 (findObj_own hh ha rfl hl) hv h

/-- x.m(..): the method found in the class -/
theorem get_method {x C f : Addr} {ox : Obj} {es : List DictEntry} {n : Nat} {name : Str} {pl : Sem Bool} {Q : Value × List Value → Shared → Prop}
    (X : K.In s.heap) (I : PySem.W.InstAt s.heap x ox C (some (dictOf es n))) (hg : plainGet K C name = true) (hf : findIn K (.ref C) name = some (some (.ref f))) (ht : isFn K (.ref f) = true)
    (hl : getL name es = some none) (h : Q (.ref f, [.ref x]) s) : wpAny (model prog w) A (getMethod (.ref x) name pl) Q E s :=
  method_fn X I (plainGet_of hg).1 (plainGet_of hg).2 hf (beq_iff_eq.mp ht) (by show (lookIn name (dictOf es n)).map _ = _; rw [lookIn_dict, hl]; rfl) h

/-! the whole heap as the ledger: makes every rule that writes through a ledger a rule over any heap -/
def noObjs (h : Heap) : Heap := { h with objs := #[] }
theorem noObjs_get (h : Heap) (b : Addr) : (noObjs h).get? b = none := by
  cases e : (noObjs h).get? b with
  | none => rfl
  | some o => exact absurd (Heap.lt_size e) (Nat.not_lt_zero _)
def ledger (h : Heap) (L d : Addr) : List (Addr × Obj) := (List.range h.objs.size).filterMap fun a => if a = L ∨ a = d then none else (h.get? a).map fun o => (a, o)
theorem mem_ledger {h : Heap} {L d a : Addr} {o : Obj} : (a, o) ∈ ledger h L d ↔ a ≠ L ∧ a ≠ d ∧ h.get? a = some o := by
  unfold ledger
  rw [List.mem_filterMap]
  constructor
  · rintro ⟨b, _, e⟩
    split at e
    · cases e
    · rename_i hb
      obtain ⟨o', ho, e'⟩ := Option.map_eq_some_iff.mp e
      cases e'
      exact ⟨fun q => hb (.inl q), fun q => hb (.inr q), ho⟩
  · rintro ⟨n1, n2, ho⟩
    refine ⟨a, List.mem_range.mpr (Heap.lt_size ho), ?_⟩
    rw [if_neg (show ¬ (a = L ∨ a = d) from fun q => q.elim n1 n2), ho] <;> rfl
theorem news_ledger {h : Heap} {L d : Addr} {od : Obj} (hne : d ≠ L) (ho : h.get? d = some od) : News (noObjs h) L h ([] ++ (d, od) :: ledger h L d) := by
  rintro ⟨a, o⟩ hp
  rcases List.mem_cons.mp hp with e | hp
  · cases e
    exact ⟨ho, hne, noObjs_get _ _⟩
  · obtain ⟨n1, n2, e⟩ := mem_ledger.mp hp
    exact ⟨e, n1, noObjs_get _ _⟩
theorem fr_all {h : Heap} {L : Addr} {m : Str → Option Value} (n : h.Ns L m) : Fr (noObjs h) L h m :=
  ⟨n, fun b o e => (by rw [noObjs_get] at e; cases e), Nat.zero_le _⟩
/-- Upd of the head entry (for append_K, setItem_K ..) -/
theorem upd_ledger {h : Heap} {L d : Addr} {o o' : Obj} : Upd d o o' ((d, o) :: ledger h L d) ((d, o') :: ledger h L d) :=
  .head fun ⟨_, _⟩ hp => (mem_ledger.mp hp).2.1

/-- x.name = v over any heap: L is any namespace of the heap (the frame's, say): its map stays, its object is not told; all else but the dict stays -/
theorem set_field {x C dx L : Addr} {ox : Obj} {m : Str → Option Value} {es es' : List DictEntry} {n n' : Nat} {name : Str} {v : Value} {Q : Unit → Shared → Prop}
    (X : K.In s.heap) (I : PySem.W.InstAt s.heap x ox C (some (dictOf es n))) (hd : ox.dict = some dx) (hL : s.heap.Ns L m) (hne : dx ≠ L)
    (hs : findIn K (.ref C) "__setattr__" = some (some (.builtin "object.__setattr__"))) (hp : plainOver K C = true) (ht : takerIn K C name = some none) (hh : hasDictIn K C = true) (hl : (getL name es).isSome = true)
    (e : (putL name (PyData.keyHash w.params name) (.str name (s.toks + 1)) v es, putN name es n) = (es', n')) (hz : es'.length ≤ 1000)
    (h : ∀ h' : Heap, h'.Ns L m → h'.get? dx = some (dictOf es' n') → (∀ b o, b ≠ dx → b ≠ L → s.heap.get? b = some o → h'.get? b = some o) → Q () { s with heap := h', toks := s.toks + 2 }) :
    wpAny (model prog w) A (setAttr (.ref x) name v) Q E s := by
  obtain ⟨e1, e2⟩ := Prod.mk.inj e
  have hdx : s.heap.get? dx = some (dictOf es n) := by
    have := I.dict
    rw [hd] at this
    exact this
  refine set_plain X I hs (osa_dict (s := { s with toks := s.toks + 1 }) (h₀ := noObjs s.heap) (L := L) (m := m) (od := dictOf es n) (od' := dictOf es' n') (es := es') (n := n') (pre := []) (post := ledger s.heap L dx)
    (fr_all hL) (news_ledger hne hdx) X I hd hp ht hh hl (fun _ q => nomatch q) (fun ⟨_, _⟩ q => (mem_ledger.mp q).2.1) (by rw [putName_dict, e1, e2]) rfl hz fun h' F' N' => ?_)
  exact h h' F'.ns (N'.get (List.Mem.head _)) fun b o n1 n2 ho => N'.get (List.Mem.tail _ (mem_ledger.mpr ⟨n2, n1, ho⟩))
end
end Att

namespace L2
open PySem PySem.Spec PyProof.Rows

theorem vals_ints : ∀ {vs : List Value} {ns : List Int}, IntsAre vs ns → Vals (ns.map V.int) vs
  | _, _, .nil => .nil
  | _, _, .cons n t h => .cons ⟨t, rfl⟩ (vals_ints h)

/-- nothing is tracked but the script, known to the object (or it is an object of the module) -/
def Only (H : Hp) : Prop := ∀ b, H b = none ∨ ∃ o xs, H b = some (.frz o (.lst xs))

/-- THE HEAD: the law's promise, at the heap behind the top. F, the promise of the law's def, may use that base is part of the heap (so K.In base, base.Ns mainGlobals mg stand in Mod) -/
theorem law_call {P : Program} {w : World} {K : PySem.W.Frag} {mg mb : Str → Option Value} {CX : CXT} {k : Nat} {fa a : Addr} {fd : FuncData} {x : Str} {sp : Sp} {s₁ : Shared} {vs : List Value} {ns : List Int}
    (KX : K.In s₁.heap) (hns : s₁.heap.Ns mainGlobals mg) (hb : s₁.heap.Ns builtinsNs mb) (hbb : ∀ x : Str, x ≠ "__name__" → mb x = bootBuiltins x) (hlim : s₁.heap.NoLimit) (hg : s₁.gens = #[])
    (ha : s₁.heap.get? a = some { cls := .type "list", data := .seq vs.toArray }) (hi : IntsAre vs ns) (hl : ns.length ≤ sizeLine) (hr : Room k callerA)
    (F : ∀ base : Heap, K.In base → base.Ns mainGlobals mg → FnOk P w K mg base CX k fa fd [x] sp) (hbind : ∀ (s : Shared) (u : Value), BindsTo s fd ⟨[u], []⟩ [(x, u)])
    (hsp : ∀ H : Hp, Only H → SqL K H a (ns.map V.int) → sp [.ref a] H (fun v _ => v = .bl true) fun _ _ _ => False)
    (hCX : ∀ H e s', CX [] H s₁ (fun _ _ _ => False) e s' → False) :
    codeAny (model P w) callerA (.call (.ref fa) ⟨[.ref a], []⟩) (fun r s' => r = .ok (.ret (.bool true)) ∧ OldK s₁.heap s'.heap ∧ s'.os = s₁.os ∧ AllBare s'.gens) s₁ := by
  have rv := vals_ints hi
  have lenV := hi.length
  -- from an abstract heap in which nothing but the script may be tracked
  have core : ∀ H : Hp, Only H → SqL K H a (ns.map V.int) → HOk P w H s₁.heap → (∀ b, H b ≠ none → b = a) → (H a ≠ none → K.lookup a = none) →
      codeAny (model P w) callerA (.call (.ref fa) ⟨[.ref a], []⟩) (fun r s' => r = .ok (.ret (.bool true)) ∧ OldK s₁.heap s'.heap ∧ s'.os = s₁.os ∧ AllBare s'.gens) s₁ := by
    intro H hO hS hok hA hK
    have base_of : ∀ {b : Addr} {o : Obj}, s₁.heap.get? b = some o → H b = none → (hidT s₁.heap H).get? b = some o := fun e n => hidT_get e n
    have noA : ∀ {b : Addr} {o : Obj} {es : Array DictEntry} {ep : Nat}, s₁.heap.get? b = some o → o.data = .dict es ep → H b = none := fun {b o es ep} e d => by
      cases q : H b with
      | none => rfl
      | some u =>
        have e' : b = a := hA b (by rw [q]; simp)
        subst e'
        rw [ha] at e; cases e
        have d' : Data.seq vs.toArray _ = Data.dict es ep := d
        cases d'
    have nsK : ∀ {b : Addr} {m : Str → Option Value}, s₁.heap.Ns b m → (hidT s₁.heap H).Ns b m := fun {b m} ⟨o, es, ep, e, d, r⟩ => ⟨o, es, ep, base_of e (noA e d), d, r⟩
    have hKb : K.In (hidT s₁.heap H) := fun b o e => base_of (KX b o e) (by
      cases q : H b with
      | none => rfl
      | some u =>
        have e' : b = a := hA b (by rw [q]; simp)
        subst e'
        rw [hK (by rw [q]; simp)] at e; cases e)
    have hM : Mod K mg (hidT s₁.heap H) := ⟨hKb, nsK hns, ⟨mb, nsK hb, hbb⟩, let ⟨mc, h1, h2⟩ := hlim; ⟨mc, nsK h1, h2⟩⟩
    have e0 : Env0 P w K mg (hidT s₁.heap H) callerA [] s₁ H := ⟨rfl, hM, fun b o e => of_hidT e, Nat.le_of_eq (hidT_size _ _), trivial, fun b hb => absurd (show b ∈ ([] : List Addr) from hb) (by simp), hok, .of_eq hg⟩
    refine codeAny_mono ((F _ hKb (nsK hns)).run callerA [] s₁ H ⟨[.ref a], []⟩ [.ref a] [.ref a] _ _ hr e0 (hbind s₁ (.ref a)) (.cons rfl .nil) (hsp H hO hS)) fun r s' h => ?_
    cases r with
    | error e => exact (hCX H e s' h).elim
    | ok fl =>
      cases fl with
      | next => exact False.elim h
      | brk => exact False.elim h
      | cont => exact False.elim h
      | ret u =>
        obtain ⟨v, H', os, bare, un, hok', r', q⟩ := h
        have q' : v = .bl true := q
        subst q'
        obtain rfl : u = Value.bool true := r'
        refine ⟨rfl, OldK.of_keep fun b o e => ?_, os, bare⟩
        cases q : H b with
        | none => exact un.keep b o e q (by intro z; exact absurd (show b ∈ ([] : List Addr) from z) (by simp)) (by simp)
        | some u =>
          rcases hO b with z | ⟨ob, xs, z⟩
          · rw [q] at z; cases z
          · have z2 := un.frzs b ob _ z
            obtain ⟨e1, _⟩ := hok b _ z
            obtain ⟨e2, _⟩ := hok' b _ z2
            rw [e] at e1; cases e1
            exact e2
  cases hk : K.lookup a with
  | some o =>
    -- the script is one of the module's own objects
    have e := KX a o hk
    rw [ha] at e
    cases e
    refine core (fun _ => none) (fun _ => .inl rfl) (.inr ⟨_, vs.toArray, _, hk, rfl, rfl, rfl, by rw [List.size_toArray, lenV]; exact hl, by simpa using rv⟩) (fun b u z => by have z' : (none : Option HO) = some u := z; cases z') (fun b z => absurd rfl z) fun z => absurd rfl z
  | none =>
    refine core (fun b => if b = a then some (.frz { cls := .type "list", data := .seq vs.toArray } (.lst (ns.map V.int))) else none) (fun b => ?_) (.inl (.inr ⟨{ cls := .type "list", data := .seq vs.toArray }, if_pos rfl⟩)) (fun b u z => ?_) (fun b z => ?_) fun _ => hk
    · by_cases hb : b = a
      · exact .inr ⟨_, _, if_pos hb⟩
      · exact .inl (if_neg hb)
    · by_cases hb : b = a
      · have z' := (if_pos hb).symm.trans z
        cases z'
        subst hb
        exact ⟨ha, by rw [List.length_map]; exact hl, vs, _, rv, ha⟩
      · have z' := (if_neg hb).symm.trans z
        cases z'
    · by_cases hb : b = a
      · exact hb
      · exact absurd (if_neg hb) z
end L2

namespace L2
open PySem PySem.Spec PyProof.Rows

abbrev KOf {K : PySem.W.Frag} {h : Heap} (_ : K.In h) : PySem.W.Frag := K

/-- the goal that k_head leaves (case hc), from the law's promise. F gives the function object fd (K's own) once, then the promise over every base -/
theorem walk_of {l : PySem.W.OpenLaw} {n k : Nat} {q : Program} {loose : List Str} {XP : (Str → Option Value) → Heap → Prop} {YP : World → Heap → Prop} {d : DefRec} {K : Params → PySem.W.Frag} {CX : World → CXT} {sp : World → Sp} {x : Str}
    (hn : l.most = some n) (hn2 : n ≤ sizeLine) (hdf : d.params.defaults = []) (hr : Room k callerA)
    (hY : ∀ (w : World) (h : Heap), YP w h → (K w.params).In h)
    (F : ∀ (w : World) (mg : Str → Option Value) (fa : Addr) (h : Heap), (K w.params).In h → h.Ns mainGlobals mg → mg d.name = some (.ref fa) →
      ∃ fd : FuncData, (∀ (s : Shared) (u : Value), BindsTo s fd ⟨[u], []⟩ [(x, u)]) ∧
        ∀ base : Heap, (K w.params).In base → base.Ns mainGlobals mg → FnOk l.prog w (K w.params) mg base (CX w) k fa fd [x] (sp w))
    (hsp : ∀ (w : World) (H : Hp) (a : Addr) (ns : List Int), ns.length ≤ n → Only H → SqL (K w.params) H a (ns.map V.int) → sp w [.ref a] H (fun v _ => v = .bl true) fun _ _ _ => False)
    (hCX : ∀ (w : World) (H : Hp) (s : Shared) (e : Value) (s' : Shared), CX w [] H s (fun _ _ _ => False) e s' → False) :
    PySem.W.WalkO q loose XP YP l.row.toRowW d [] (fun f vs => PySem.call f vs) := by
  refine Att.attach_call hn hdf fun w s₀ s₁ mg mb fa o pm cd doc a vs ns G Y ho hd hcd hmg hobj hints hlen hg => ?_
  have KX := hY w _ Y
  obtain ⟨fd, hb, hF⟩ := F w mg fa _ KX G.T.g hmg
  exact law_call KX G.T.g G.T.b G.T.builtins G.T.nolimit hg hobj hints (Nat.le_trans hlen hn2) hr hF hb (fun H hO hS => hsp w H a ns hlen hO hS) fun H e s' => hCX w H s₁ e s'
/-- the same where the promise hangs on the written part alone: (sp := My.sp_law), no hole under a binder -/
theorem walk_ofK {l : PySem.W.OpenLaw} {n k : Nat} {q : Program} {loose : List Str} {XP : (Str → Option Value) → Heap → Prop} {YP : World → Heap → Prop} {d : DefRec} {K : Params → PySem.W.Frag} {CX : CXT} {sp : PySem.W.Frag → Sp} {x : Str}
    (hn : l.most = some n) (hn2 : n ≤ sizeLine) (hdf : d.params.defaults = []) (hr : Room k callerA)
    (hY : ∀ (w : World) (h : Heap), YP w h → (K w.params).In h)
    (F : ∀ (w : World) (mg : Str → Option Value) (fa : Addr) (h : Heap), (K w.params).In h → h.Ns mainGlobals mg → mg d.name = some (.ref fa) →
      ∃ fd : FuncData, (∀ (s : Shared) (u : Value), BindsTo s fd ⟨[u], []⟩ [(x, u)]) ∧
        ∀ base : Heap, (K w.params).In base → base.Ns mainGlobals mg → FnOk l.prog w (K w.params) mg base CX k fa fd [x] (sp (K w.params)))
    (hsp : ∀ (K : PySem.W.Frag) (H : Hp) (a : Addr) (ns : List Int), ns.length ≤ n → Only H → SqL K H a (ns.map V.int) → sp K [.ref a] H (fun v _ => v = .bl true) fun _ _ _ => False)
    (hCX : ∀ (H : Hp) (s : Shared) (e : Value) (s' : Shared), CX [] H s (fun _ _ _ => False) e s' → False) :
    PySem.W.WalkO q loose XP YP l.row.toRowW d [] (fun f vs => PySem.call f vs) :=
  walk_of (K := K) (CX := fun _ => CX) (sp := fun w => sp (K w.params)) hn hn2 hdf hr hY F (fun w H a ns h1 h2 h3 => hsp (K w.params) H a ns h1 h2 h3) fun _ H s e s' => hCX H s e s'
end L2

/- THE LAST THEOREM (shape; LID, My.* are yours):
   My.Adr: a structure of the addresses that your layer names (classes, functions); My.Txt K t: a structure (Prop) of the equations over K;
   My.txt_mk : {K} {implicit addresses ..} (e1 : nsIn K mainGlobals "law" = some (some (.ref f))) (e2 : K.lookup f = some ⟨oc, od, .func (fnOf "law" "law" params body scope dV kV doc pm an cdv ct), sl⟩) (e3 : codeIn K cdv "law" = true) .. : ∃ t, My.Txt K t

set_option maxRecDepth 100000 in
set_option maxHeartbeats 0 in
theorem PySem.Challenge.cw_LID_holds : PySem.Challenge.rw_LID.Holds := by
  w_on; o_law; k_head; (case hw => w_witness2)
  k_fill
  refine L2.walk_of (l := PySem.Challenge.rw_LID) (n := 63) (k := 40) (x := "script") (CX := fun w => ..) (sp := fun _ => My.sp_law) rfl (by decide) rfl ⟨rfl, by decide, by decide⟩ (fun w h Y => PySem.W.kIn_of Y) ?F ?S ?C
  case F =>
    intro w mg fa h KX G hmg
    have T : ∃ t, My.Txt (L2.KOf KX) t := by
      dsimp only [L2.KOf]                          -- K must stand as «<heap const> w.params» for k_is
      refine' My.txt_mk ?e1 ?e2 ?e3 ..
      (case e1 => PySem.W.k_is)                    -- in the order: a name -> its address -> its object -> its parts
      (case e2 => PySem.W.k_is)
      ..
    obtain ⟨t, T⟩ := T
    have e0 := hmg.symm.trans (PySem.W.mg_of KX G T.law)
    cases e0                                       -- fa is the law's own address
    exact ⟨_, fun s u => .of_eq rfl, fun base kb nb => My.law_fn T kb nb⟩     -- if «.of_eq rfl» comes too early: refine' ⟨_, ?b, fun base kb nb => My.law_fn T kb nb⟩; exact fun s u => .of_eq rfl
  case S => exact fun w H a ns hl hO hS => ..
  case C => exact ..
(the tactic k_is has no namespace: write k_is) -/

/-! SHORT WORDS over the layer: a def of the text, its body, what a loop and a test want. -/
namespace L2
open PySem PySem.Spec PyProof.Rows

/-! ### the text by places -/
/-- the j-th statement of a class's body -/
def inClass (s : Stmt) (j : Nat) : Stmt := match s with
  | .ClassDef _ _ _ body _ _ _ _ _ _ _ => body.getD j (.Pass ⟨0, 0, 0, 0⟩)
  | _ => .Pass ⟨0, 0, 0, 0⟩
def defArgs (s : Stmt) : Arguments := match s with
  | .FunctionDef _ a _ _ _ _ _ _ _ _ => a
  | _ => { posonlyargs := [], args := [], vararg := none, kwonlyargs := [], kw_defaults := [], kwarg := none, defaults := [] }
def defBody (s : Stmt) : List Stmt := match s with
  | .FunctionDef _ _ b _ _ _ _ _ _ _ => b
  | _ => []
def defScope (s : Stmt) : Scope := match s with
  | .FunctionDef _ _ _ _ _ _ sc _ _ _ => sc
  | _ => { kind := .function, names := [], isGenerator := false, isCoroutine := false }

/-! ### no exception leaves a def -/
abbrev CX0 : CXT := fun _ _ _ _ _ _ => False
abbrev E0 : XK := fun _ _ _ => False
theorem pass0 {X : Cx} : Passes CX0 X E0 := fun _ _ _ _ _ _ _ h => h.elim

/-! ### a def (or method) of the text as it stands behind the top -/
structure Fun (K : PySem.W.Frag) (x qual : Str) (st : Stmt) (f : Addr) (fd : FuncData) : Prop where
  ex : ∃ (oc : Value) (od : Option Addr) (kV doc pm : Value) (an : Option Addr) (cdv ct : Value) (osl : Array (Option Value)),
    fd = PySem.W.fnOf x qual (defArgs st) (defBody st) (defScope st) .none kV doc pm an cdv ct ∧ K.lookup f = some ⟨oc, od, .func fd, osl⟩ ∧ PySem.W.codeIn K cdv qual = true
  kp : PySem.W.keepIn K (.ref f) = true
section
variable {P : Program} {w : World} {K : PySem.W.Frag} {mg : Str → Option Value} {base : Heap}
/-- THE RULE for a def: its body as a term of rules, and the reading of that term -/
theorem Fun.ok {x qual : Str} {st : Stmt} {f : Addr} {fd : FuncData} {N ps : List Str} {k : Nat} {sp : Sp} (F : Fun K x qual st f fd) (S : FnScope N ps (defScope st)) (len : ∀ vs H Q E, sp vs H Q E → vs.length = ps.length)
    (hbody : ∀ (cdv : Value) (A : Around) (outer : List Env) (s : Shared) (H : Hp) (vs : List V) (Q : VK) (E : XK), Room k (A.deeper (envOfC qual (defScope st) s.heap.objs.size f cdv)) → sp vs H Q E →
      ∃ t, PSs (cxOf CX0 P w K mg base N qual (defScope st) f cdv A outer s H E).nox (defBody st) t ∧ t { nx := fun _ H' => Q .non H', rt := Q } (start N vs) H) : FnOk P w K mg base CX0 (k + 1) f fd ps sp := by
  obtain ⟨oc, od, kV, doc, pm, an, cdv, ct, osl, rfl, lk, hcd⟩ := F.ex
  refine fn_of lk hcd S len fun A outer s H vs Q E hr hsp => ?_
  obtain ⟨t, h, q⟩ := hbody cdv A outer s H vs Q E hr hsp
  exact ⟨t, h.nox, q⟩
/-- how its arguments bind (no defaults): h is «fun _ _ _ _ _ _ us hl => match us, hl with | [_, _], _ => rfl», one _ a parameter -/
theorem Fun.binds {x qual : Str} {st : Stmt} {f : Addr} {fd : FuncData} {ps : List Str} (F : Fun K x qual st f fd)
    (h : ∀ (kV doc pm : Value) (an : Option Addr) (cdv ct : Value) (us : List Value), us.length = ps.length → bindArgs (PySem.W.fnOf x qual (defArgs st) (defBody st) (defScope st) .none kV doc pm an cdv ct) ⟨us, []⟩ = pure (ps.zip us)) : Binds K fd ps [] := by
  obtain ⟨oc, od, kV, doc, pm, an, cdv, ct, osl, rfl, lk, hcd⟩ := F.ex
  exact .all (h kV doc pm an cdv ct)
theorem fun_mk {x qual : Str} {st : Stmt} {f : Addr} {oc : Value} {od an : Option Addr} {osl : Array (Option Value)} {kV doc pm cdv ct : Value} (l : K.lookup f = some ⟨oc, od, .func (PySem.W.fnOf x qual (defArgs st) (defBody st) (defScope st) .none kV doc pm an cdv ct), osl⟩)
    (c : PySem.W.codeIn K cdv qual = true) (k : PySem.W.keepIn K (.ref f) = true) : Fun K x qual st f (PySem.W.fnOf x qual (defArgs st) (defBody st) (defScope st) .none kV doc pm an cdv ct) := ⟨⟨oc, od, kV, doc, pm, an, cdv, ct, osl, rfl, l, c⟩, k⟩
end
theorem hu_of {A : Around} {k : Nat} (hr : Room k A) : A.units + 1 < cLine := Nat.lt_of_le_of_lt (Nat.add_le_add_left (by decide : 1 ≤ 64) _) hr.units
theorem small1000 {n : Nat} (h : n ≤ 1000) : n < sizeLine := Nat.lt_of_le_of_lt h (by decide)

/-! ### expressions in short: the name that stands in the i-th slot -/
section
variable {X : Cx}
theorem pv (i : Nat) {x : Str} {pos : Pos} (hN : X.N[i]? = some x := by rfl) (hv : Vis X.env.scope x := by first | exact Or.inl rfl | exact Or.inr (Or.inl rfl) | exact Or.inr (Or.inr rfl)) (hd : (x == ("__debug__" : Str)) = false := by decide)
    (hcd : (x == ("__classdict__" : Str)) = false := by decide) : PE X (.Name x pos) (tVar i) := pe_var hN hv hd hcd
end

/-! ### tests -/
theorem iteF {A B : Prop} (h : B) : if false = true then A else B := by
  rw [if_neg Bool.false_ne_true]
  exact h
theorem iteT {A B : Prop} (h : A) : if true = true then A else B := by
  rw [if_pos rfl]
  exact h
theorem ite2 {c A B : Prop} [Decidable c] (h1 : c → A) (h2 : ¬ c → B) : if c then A else B := by
  by_cases h : c
  · rw [if_pos h]
    exact h1 h
  · rw [if_neg h]
    exact h2 h
theorem iteNS {c A B : Prop} [Decidable c] (hc : c) (h : B) : if (!decide c) = true then A else B := by
  rw [decide_eq_true hc]
  exact iteF h

/-! ### heaps -/
/-- all that was tracked is as it was -/
def Same (H H' : Hp) : Prop := ∀ b o, H b = some o → H' b = some o
theorem Same.refl (H : Hp) : Same H H := fun _ _ h => h
theorem Same.trans {H H1 H2 : Hp} (a : Same H H1) (b : Same H1 H2) : Same H H2 := fun c o h => b c o (a c o h)
theorem Same.free {H H' : Hp} (e : Same H H') {l : Addr} (h : H' l = Option.none) : H l = Option.none := by
  cases q : H l with
  | none => rfl
  | some o =>
    rw [e l o q] at h
    cases h
theorem Same.seq {K : PySem.W.Frag} {H H' : Hp} {a : Addr} {xs : List V} (e : Same H H') (h : SqL K H a xs) : SqL K H' a xs := by
  rcases h with (h | ⟨o, h⟩) | h
  · exact .inl (.inl (e _ _ h))
  · exact .inl (.inr ⟨o, e _ _ h⟩)
  · exact .inr h

end L2
set_option maxHeartbeats 4000000
namespace Fr
/-- the common part -/
def G (a b : Int) : Int := ((Int.gcd a b : Nat) : Int)
def part (a b : Int) : Int := if b < 0 then -G a b else G a b
def mk (a b : Int) : Int × Int := (a.fdiv (part a b), b.fdiv (part a b))
def low (a b : Int) : Int × Int := (a.fdiv (G a b), b.fdiv (G a b))
theorem low_mk {a b : Int} (h : 0 < b) : mk a b = low a b := by
  have e : part a b = G a b := by unfold part; rw [if_neg (by omega)]
  unfold mk low; rw [e]
theorem G_pos {a b : Int} (h : b ≠ 0) : 0 < G a b := by
  unfold G
  have : 0 < Int.gcd a b := Int.gcd_pos_of_ne_zero_right a h
  omega
theorem G_step {a b : Int} (h : 0 < b) : G b (a % b) = G a b := by
  unfold G
  have e : Int.gcd b (a % b) = Int.gcd a b := by
    have ea : a % b + b * (a / b) = a := Int.emod_add_mul_ediv a b
    have := Int.gcd_add_mul_left_left b (a % b) (a / b)
    rw [ea] at this
    rw [this, Int.gcd_comm]
  rw [e]
theorem G_zero {a : Int} (h : 0 ≤ a) : G a 0 = a := by
  unfold G
  rw [Int.gcd_zero_right]
  omega
theorem G_abs (a b : Int) : G (if a < 0 then -a else a) (if b < 0 then -b else b) = G a b := by
  unfold G
  split <;> split <;> simp [Int.gcd_neg, Int.neg_gcd]
theorem G_le {a b : Int} (h : b ≠ 0) : (G a b).natAbs ≤ b.natAbs := by
  unfold G
  have : Int.gcd a b ∣ b.natAbs := by
    have := Int.gcd_dvd_right a b
    exact Int.natAbs_dvd_natAbs.mpr this
  have h2 := Nat.le_of_dvd (by omega) this
  simpa using h2
theorem part_le {a b : Int} (h : b ≠ 0) : (part a b).natAbs ≤ b.natAbs := by
  have := G_le (a := a) h
  unfold part; split <;> omega
theorem part_ne {a b : Int} (h : b ≠ 0) : part a b ≠ 0 := by
  have := G_pos (a := a) h
  unfold part; split <;> omega
/-- top and bottom of what mk tells, times the common part -/
theorem mk_facts {a b : Int} (h : b ≠ 0) : ∃ k : Int, k ≠ 0 ∧ a = k * (mk a b).1 ∧ b = k * (mk a b).2 ∧ 0 < (mk a b).2 ∧ Int.gcd (mk a b).1 (mk a b).2 = 1 := by
  have hg := G_pos (a := a) h
  have hk := part_ne (a := a) h
  have d1 : part a b ∣ a := by
    unfold part; split
    · exact Int.neg_dvd.mpr (Int.gcd_dvd_left a b)
    · exact Int.gcd_dvd_left a b
  have d2 : part a b ∣ b := by
    unfold part; split
    · exact Int.neg_dvd.mpr (Int.gcd_dvd_right a b)
    · exact Int.gcd_dvd_right a b
  have hn : (part a b).natAbs = Int.gcd a b := by
    unfold part G; split <;> simp
  obtain ⟨p, hp⟩ := d1
  obtain ⟨q, hq⟩ := d2
  have e1 : (mk a b).1 = p := by
    show a.fdiv (part a b) = p
    generalize part a b = k at *
    rw [hp]; exact Int.mul_fdiv_cancel_left p hk
  have e2 : (mk a b).2 = q := by
    show b.fdiv (part a b) = q
    generalize part a b = k at *
    rw [hq]; exact Int.mul_fdiv_cancel_left q hk
  refine ⟨part a b, hk, by rw [e1]; exact hp, by rw [e2]; exact hq, ?_, ?_⟩
  · rw [e2]
    unfold part at hq
    split at hq
    · rename_i hb
      rcases Int.lt_trichotomy q 0 with z | z | z
      · exfalso
        have : 0 < -G a b * q := Int.mul_pos_of_neg_of_neg (by omega) z
        omega
      · subst z; omega
      · exact z
    · rename_i hb
      rcases Int.lt_trichotomy q 0 with z | z | z
      · exfalso
        have : G a b * q < 0 := Int.mul_neg_of_pos_of_neg hg z
        omega
      · subst z; omega
      · exact z
  · rw [e1, e2]
    have hg2 : 0 < Int.gcd a b := Int.gcd_pos_of_ne_zero_right a h
    have key : Int.gcd a b = Int.gcd a b * Int.gcd p q := by
      have e : Int.gcd (part a b * p) (part a b * q) = (part a b).natAbs * Int.gcd p q := Int.gcd_mul_left (part a b) p q
      rw [hn] at e
      rw [← e, ← hp, ← hq]
    have := Nat.eq_of_mul_eq_mul_left hg2 (show Int.gcd a b * Int.gcd p q = Int.gcd a b * 1 by omega)
    exact this
theorem mk_eq {a b p q : Int} (hb : b ≠ 0) (hq : 0 < q) (hg : Int.gcd p q = 1) (h : a * q = p * b) : mk a b = (p, q) := by
  obtain ⟨k, hk, e1, e2, h2, g2⟩ := mk_facts (a := a) hb
  generalize (mk a b) = m at *
  obtain ⟨x, y⟩ := m
  simp only at *
  -- x * q = p * y
  have c : x * q = p * y := by
    have : k * (x * q) = k * (p * y) := by
      subst e1; subst e2
      grind
    exact Int.eq_of_mul_eq_mul_left hk this
  have dq : q ∣ y := by
    have d : q ∣ p * y := ⟨x, by rw [← c]; exact Int.mul_comm x q⟩
    have d' : q.natAbs ∣ p.natAbs * y.natAbs := by rw [← Int.natAbs_mul]; exact Int.natAbs_dvd_natAbs.mpr d
    have co : Nat.Coprime q.natAbs p.natAbs := by rw [Nat.coprime_comm]; exact hg
    exact Int.natAbs_dvd_natAbs.mp (co.dvd_of_dvd_mul_left d')
  have dy : y ∣ q := by
    have d : y ∣ x * q := ⟨p, by rw [c]; exact Int.mul_comm p y⟩
    have d' : y.natAbs ∣ x.natAbs * q.natAbs := by rw [← Int.natAbs_mul]; exact Int.natAbs_dvd_natAbs.mpr d
    have co : Nat.Coprime y.natAbs x.natAbs := by rw [Nat.coprime_comm]; exact g2
    exact Int.natAbs_dvd_natAbs.mp (co.dvd_of_dvd_mul_left d')
  have ey : y = q := Int.dvd_antisymm (by omega) (by omega) dy dq
  subst ey
  have ex : x = p := Int.eq_of_mul_eq_mul_right (by omega) c
  rw [ex]
theorem mk_cross {a b : Int} (h : b ≠ 0) : a * (mk a b).2 = (mk a b).1 * b := by
  obtain ⟨k, hk, e1, e2, h2, g2⟩ := mk_facts (a := a) h
  generalize (mk a b) = m at *
  grind
theorem mk_sign {t b s : Int} (hb : b ≠ 0) (hs : s = 1 ∨ s = -1) : mk (s * t) b = (s * (mk t b).1, (mk t b).2) := by
  obtain ⟨k, hk, e1, e2, h2, g2⟩ := mk_facts (a := t) hb
  have c := mk_cross (a := t) hb
  refine mk_eq hb h2 ?_ ?_
  · rcases hs with rfl | rfl
    · rw [Int.one_mul]; exact g2
    · rw [Int.neg_mul, Int.one_mul, Int.neg_gcd]; exact g2
  · rw [Int.mul_assoc, c, Int.mul_assoc]
theorem mk_signN {t b s : Int} (hb : b ≠ 0) (hs : s = 1 ∨ s = -1) : mk (s * t) (-b) = (-s * (mk t b).1, (mk t b).2) := by
  obtain ⟨k, hk, e1, e2, h2, g2⟩ := mk_facts (a := t) hb
  have c := mk_cross (a := t) hb
  refine mk_eq (by omega) h2 ?_ ?_
  · rcases hs with rfl | rfl
    · rw [Int.neg_mul, Int.one_mul, Int.neg_gcd]; exact g2
    · rw [Int.neg_neg, Int.one_mul]; exact g2
  · rw [Int.mul_assoc, c]; grind
theorem mk_idem {t b : Int} (hb : b ≠ 0) : mk (mk t b).1 (mk t b).2 = mk t b := by
  obtain ⟨k, hk, e1, e2, h2, g2⟩ := mk_facts (a := t) hb
  exact mk_eq (by omega) h2 g2 rfl
theorem mk_pos {t b : Int} (hb : b ≠ 0) : 0 < (mk t b).2 := by
  obtain ⟨k, hk, e1, e2, h2, g2⟩ := mk_facts (a := t) hb
  exact h2
theorem mk_scale {a b k : Int} (hk : k ≠ 0) (hb : b ≠ 0) : mk (k * a) (k * b) = mk a b := by
  obtain ⟨j, hj, e1, e2, h2, g2⟩ := mk_facts (a := a) hb
  have c := mk_cross (a := a) hb
  have z : k * b ≠ 0 := Int.mul_ne_zero hk hb
  have key : k * a * (mk a b).2 = (mk a b).1 * (k * b) := by
    rw [Int.mul_assoc, c]; grind
  exact mk_eq (p := (mk a b).1) (q := (mk a b).2) z h2 g2 key
/-- a fraction in lowest terms -/
structure Low (a b : Int) : Prop where
  pos : 0 < b
  one : Int.gcd a b = 1
theorem mk_low {a b : Int} (hb : b ≠ 0) : Low (mk a b).1 (mk a b).2 := by
  obtain ⟨j, hj, e1, e2, h2, g2⟩ := mk_facts (a := a) hb
  exact ⟨h2, g2⟩
theorem back_sum {a b c d : Int} (h : Low a b) (hd : 0 < d) :
    mk ((mk (a * d + c * b) (b * d)).1 * d - c * (mk (a * d + c * b) (b * d)).2) ((mk (a * d + c * b) (b * d)).2 * d) = (a, b) := by
  have hb := h.pos
  have hz : b * d ≠ 0 := Int.mul_ne_zero (by omega) (by omega)
  have x := mk_cross (a := a * d + c * b) hz
  have y := mk_pos (t := a * d + c * b) hz
  generalize mk (a * d + c * b) (b * d) = m at *
  obtain ⟨p, q⟩ := m
  simp only at *
  refine mk_eq (Int.mul_ne_zero (by omega) (by omega)) hb h.one ?_
  grind
theorem back_times {a b c d : Int} (h : Low a b) (hc : c ≠ 0) (hd : 0 < d) :
    mk ((mk (a * c) (b * d)).1 * d) ((mk (a * c) (b * d)).2 * c) = (a, b) := by
  have hb := h.pos
  have hz : b * d ≠ 0 := Int.mul_ne_zero (by omega) (by omega)
  have x := mk_cross (a := a * c) hz
  have y := mk_pos (t := a * c) hz
  generalize mk (a * c) (b * d) = m at *
  obtain ⟨p, q⟩ := m
  simp only at *
  refine mk_eq (Int.mul_ne_zero (by omega) hc) hb h.one ?_
  grind
theorem over_sign {a b c d s : Int} (hb : 0 < b) (hc : c ≠ 0) (hs : s = 1 ∨ s = -1) : mk (a * d) (b * c) = mk (s * (a * d)) (s * (c * b)) := by
  rw [Int.mul_comm c b]
  exact (mk_scale (by omega) (Int.mul_ne_zero (by omega) hc)).symm
end Fr
namespace L2
open PySem PySem.Spec PyProof.Rows

/-! ### own rules over the layer -/
theorem lt0 {j : Int} (h : decide (0 < j) = true) : 0 < j := of_decide_eq_true h
abbrev bits (i : Int) : Nat := Builtin.Int.intBits i
theorem bits_lt {x : Int} {m : Nat} (h : x.natAbs < 2 ^ m) : bits x ≤ m := intBits_le_iff.mpr h
theorem bits_of {x : Int} {m : Nat} (h0 : 0 ≤ x) (h1 : x < 2 ^ m) : bits x ≤ m := by
  refine bits_lt ?_
  have e : ((x.natAbs : Nat) : Int) = x := by omega
  have : ((x.natAbs : Nat) : Int) < ((2 ^ m : Nat) : Int) := by
    rw [e, Int.natCast_pow]; exact h1
  omega
theorem bits_mono {x : Int} {m n : Nat} (h : bits x ≤ m) (l : m ≤ n) : bits x ≤ n := Nat.le_trans h l
theorem mulOk {a b : Int} (m : Nat) (ha : bits a ≤ m) (hb : bits b ≤ m) (h : m ≤ 60000000 := by decide) : IntMulOk a b := IntMulOk.of_le ha hb (by omega)
def CDivB (_ j : Int) : Prop := j ≠ 0 ∧ bits j ≤ 8000
theorem CDivB.ok {i j : Int} (h : CDivB i j) : Builtin.divisionGoesByPylong i j = false := by
  refine PyProof.noPylong_of_log2 ?_
  have h2 : bits j ≤ 8000 := h.2
  unfold bits Builtin.Int.intBits at h2
  have h1 : ¬ j = 0 := h.1
  split at h2
  · rename_i z; exact absurd (by simpa using z) h1
  · omega
section
variable {X : Cx} {a b c : Expr} {ta tb tc : TE} {pos : Pos}
theorem op_mulB : OpR X (binaryOp .Mult) (rI IntMulOk fun i j => .int (i * j)) := opI fun _ _ _ _ _ _ _ hc q => mul_int q hc
theorem op_fdivB : OpR X (binaryOp .FloorDiv) (rI CDivB fun i j => .int (i.fdiv j)) := opI fun _ _ _ _ _ _ _ hc q => floordiv_int hc.1 q (.inl hc.ok)

/-! == of tuples of flat items -/
def eqVs (xs ys : List V) : Bool := (List.range (min xs.length ys.length)).all (fun j => eqV (xs.getD j .non) (ys.getD j .non)) && xs.length == ys.length
def rEqT (K : PySem.W.Frag) : R2 := fun x y H Q => ∃ a b xs ys, x = .ref a ∧ y = .ref b ∧ SqT K H a xs ∧ SqT K H b ys ∧ xs.all flatV = true ∧ ys.all flatV = true ∧ Q (.bl (eqVs xs ys)) H
theorem getD_rel {xs : List V} {us : List Value} (r : Vals xs us) {j : Nat} (h : j < us.length) : RelV (xs.getD j .non) us[j] := by
  have hl := r.length
  have hx : j < xs.length := by omega
  obtain ⟨u, e, q⟩ := r.get (i := j) (x := xs[j]) (by rw [List.getElem?_eq_getElem hx])
  rw [List.getElem?_eq_getElem h] at e
  cases e
  rw [List.getD_eq_getElem?_getD, List.getElem?_eq_getElem hx]
  exact q
theorem all_getD {p : V → Bool} {xs : List V} (h : xs.all p = true) {j : Nat} (hj : j < xs.length) : p (xs.getD j .non) = true := by
  rw [List.getD_eq_getElem?_getD, List.getElem?_eq_getElem hj]
  exact List.all_eq_true.mp h _ (List.getElem_mem hj)
theorem op_eqT (hu : X.A.units < cLine) : OpR X (compareOp .Eq) (rEqT X.K) := by
  intro pins s σ H x y v u Q I rx ry h
  obtain ⟨p, q, xs, ys, rfl, rfl, h1, h2, f1, f2, k⟩ := h
  cases rx
  cases ry
  obtain ⟨its, r, pl, hz⟩ := I.tuple h1
  obtain ⟨its2, r2, pl2, hz2⟩ := I.tuple h2
  have l1 := r.length
  have l2 := r2.length
  refine SeqAt.eq_tupleAt (e := fun j => eqV (xs.getD j .non) (ys.getD j .non)) pl pl2 hu (fun j g1 g2 => ?_) ⟨.bl _, H, I, rfl, ?_⟩
  · have g1' : j < its.length := by simpa using g1
    have g2' : j < its2.length := by simpa using g2
    have e := eqAt_V (A := X.A.in1) (s := s) (getD_rel r g1') (getD_rel r2 g2') (all_getD f1 (by omega)) (all_getD f2 (by omega))
    simpa using e
  · have e : ((List.range (min its.toArray.size its2.toArray.size)).all (fun j => eqV (xs.getD j .non) (ys.getD j .non)) && its.toArray.size == its2.toArray.size) = eqVs xs ys := by
      unfold eqVs
      rw [List.size_toArray, List.size_toArray, l1, l2]
    rw [e]
    exact k
theorem eqVs_pair (i j k l : Int) : eqVs [.int i, .int j] [.int k, .int l] = (decide (i = k) && decide (j = l)) := by
  show ((i == k) && ((j == l) && true) && true) = _
  rw [Bool.and_true, Bool.and_true, Bool.beq_eq_decide_eq, Bool.beq_eq_decide_eq]

/-! isinstance by a built-in type -/
theorem call_isT : CallR X (.builtin "isinstance") (fun xs H Q => ∃ x T t k, xs = [x, .ty T] ∧ TyOf X.K H x t ∧ PySem.W.kitOne X.K t (.type T) = some k ∧ Q (.bl k) H) := by
  intro pins s σ H xs us Q I r h
  obtain ⟨x, T, t, k, rfl, ty, e, q⟩ := h
  obtain ⟨u, v, rfl, rx, rv⟩ := Vals.two r
  cases rv
  exact isinst_ok I rx ty e fun tk => ⟨.bl k, H, I.tok _, rfl, q⟩

/-! a def of the text, with all that a call asks -/
end
section
variable {X : Cx} {a b c : Expr} {ta tb tc : TE} {pos : Pos}
theorem op_eqI : OpR X (compareOp .Eq) (rI0 fun i j => .bl (decide (i = j))) := opB0 fun _ _ _ _ _ _ _ q => eq_int (by rw [Bool.beq_eq_decide_eq]; exact q)
theorem op_neI : OpR X (compareOp .NotEq) (rI0 fun i j => .bl (!decide (i = j))) := opB0 fun _ _ _ _ _ _ _ q => ne_int (by rw [bne, Bool.beq_eq_decide_eq]; exact q)
def rAddS : R2 := fun x y H Q => ∃ i j, x = .str i ∧ y = .str j ∧ i.length + j.length ≤ sizeLine ∧ Q (.str (i ++ j)) H
def rAddG : R2 := fun x y H Q => rI0 (fun i j => .int (i + j)) x y H Q ∨ rAddS x y H Q ∨ rCat x y H Q
theorem op_addG : OpR X (binaryOp .Add) rAddG := op_add.or ((show OpR X (binaryOp .Add) rAddS from op_add_str).or op_cat)
def rMulG : R2 := fun x y H Q => rI IntMulOk (fun i j => .int (i * j)) x y H Q ∨ rRep x y H Q
theorem op_mulG : OpR X (binaryOp .Mult) rMulG := op_mulB.or op_rep
theorem lenG : CallR X (.builtin "len") (fun xs H Q => (∃ p ys, xs = [.ref p] ∧ (SqL X.K H p ys ∨ SqT X.K H p ys) ∧ Q (.int ys.length) H) ∨ ∃ z, xs = [.str z] ∧ z.length ≤ sizeLine ∧ Q (.int z.length) H) := call_len_seq.or call_len_str
theorem slG : SlR X (fun x lo hi H Q => rSlL X.K x lo hi H Q ∨ rSlT X.K x lo hi H Q) := sl_list.or sl_tup
/-- a written power -/
theorem pe_powc {u v z : Int} {i j : Nat} {p q r : Pos} (h : CPow u v) (e : u ^ v.toNat = z) : PE X (.BinOp (.Constant (.int u) i p) .Pow (.Constant (.int v) j q) r) (tC (.int z)) := by
  intro pins s σ H Q I hq
  refine (pe_op op_pow pe_int pe_int) pins s σ H Q I ⟨_, _, rfl, rfl, h, ?_⟩
  show Q (.int (u ^ v.toNat)) H
  rw [e]; exact hq
end
theorem b_abs : bootBuiltins "abs" = some (.builtin "abs") := by decide +kernel
theorem b_len : bootBuiltins "len" = some (.builtin "len") := by decide +kernel
theorem b_isinstance : bootBuiltins "isinstance" = some (.builtin "isinstance") := by decide +kernel
theorem b_max : bootBuiltins "max" = some (.builtin "max") := by decide +kernel
theorem b_int : bootBuiltins "int" = some (.type "int") := by decide +kernel
theorem b_bool : bootBuiltins "bool" = some (.type "bool") := by decide +kernel
theorem b_tuple : bootBuiltins "tuple" = some (.type "tuple") := by decide +kernel
theorem b_list : bootBuiltins "list" = some (.type "list") := by decide +kernel
theorem b_str : bootBuiltins "str" = some (.type "str") := by decide +kernel
theorem kit_int_int {K : PySem.W.Frag} : PySem.W.kitOne K (.type "int") (.type "int") = some true := rfl
theorem kit_tup_tup {K : PySem.W.Frag} : PySem.W.kitOne K (.type "tuple") (.type "tuple") = some true := rfl
theorem kit_list_list {K : PySem.W.Frag} : PySem.W.kitOne K (.type "list") (.type "list") = some true := rfl
theorem kit_bool_bool {K : PySem.W.Frag} : PySem.W.kitOne K (.type "bool") (.type "bool") = some true := rfl
theorem kit_str_str {K : PySem.W.Frag} : PySem.W.kitOne K (.type "str") (.type "str") = some true := rfl
theorem kit_int_bool {K : PySem.W.Frag} : PySem.W.kitOne K (.type "int") (.type "bool") = some false := by
  have e1 : PySem.W.kitMeta "bool" = true := by decide +kernel
  have e2 : ((fastBuiltinMro "int").map (·.contains (Value.type "bool"))) = some false := by decide +kernel
  show (if (Value.type "int" == Value.type "bool") = true then some true else if PySem.W.kitMeta "bool" = true then PySem.W.subIn K (.type "int") (.type "bool") else none) = some false
  rw [if_neg (by decide), if_pos e1]
  exact e2
/-- an item of a list of ints at an open place -/
theorem at_of {R : Int → Prop} {vs : List Int} {i : Int} (h0 : 0 ≤ i) (h1 : i < (vs.length : Int)) (hR : ∀ v ∈ vs, R v) : ∃ v, atI (vs.map V.int) i = some (.int v) ∧ R v := by
  have hk : i.toNat < vs.length := by omega
  have ek : i = ((i.toNat : Nat) : Int) := by omega
  refine ⟨vs[i.toNat], ?_, hR _ (List.getElem_mem hk)⟩
  have q : atI (vs.map V.int) ((i.toNat : Nat) : Int) = some (.int vs[i.toNat]) := atI_nat (by rw [List.getElem?_map, List.getElem?_eq_getElem hk] <;> rfl)
  rw [← ek] at q
  exact q
structure Got (P : Program) (w : World) (K : PySem.W.Frag) (mg : Str → Option Value) (base : Heap) (k : Nat) (x : Str) (ps : List Str) (sp : Sp) : Prop where
  ex : ∃ f fd, FnOk P w K mg base CX0 k f fd ps sp ∧ Binds K fd ps [] ∧ PySem.W.keepIn K (.ref f) = true ∧ mg x = some (.ref f)
section
variable {X : Cx} {k n : Nat} {x : Str} {ps : List Str} {sp : Sp} {p pos : Pos} {e : Expr} {es : List Expr} {t : TA}
theorem pe_go (g : Got X.prog X.w X.K X.mg X.base k x ps sp) (hr : Room n X.A) (hk : k ≤ n) (hg : Gl X x) (ha : PA X (e :: es) t) (hdb : (x == ("__debug__" : Str)) = false := by decide)
    (he : starEach (e :: es) X.env = (false, eval e X.env) :: starEach es X.env := by rfl) (hpl : (backTo pos (starEach es X.env)).any (·.1) = false := by rfl) :
    PE X (.Call (.Name x p) (e :: es) [] pos) (tCall sp [] E0 t) := by
  obtain ⟨f, fd, F, hb, hkp, hm⟩ := g.ex
  exact pe_call F (hr.mono hk) hg hm hkp hb .nil pass0 ha hdb he hpl
end
end L2
namespace L2
open PySem PySem.Spec PyProof.Rows

/-! ### what a value is, read through to the ground -/
mutual
inductive RdD (K : PySem.W.Frag) (H : Hp) : V → PyData → Prop where
  | non : RdD K H .non .none
  | bl (b : Bool) : RdD K H (.bl b) (.bool b)
  | int (i : Int) : RdD K H (.int i) (.int i)
  | str (x : Str) : RdD K H (.str x) (.str x)
  | lst {a : Addr} {xs : List V} {ds : List PyData} : SqL K H a xs → RdDs K H xs ds → RdD K H (.ref a) (.list ds)
  | tup {a : Addr} {xs : List V} {ds : List PyData} : SqT K H a xs → RdDs K H xs ds → RdD K H (.ref a) (.tuple ds)
inductive RdDs (K : PySem.W.Frag) (H : Hp) : List V → List PyData → Prop where
  | nil : RdDs K H [] []
  | cons {x : V} {xs : List V} {d : PyData} {ds : List PyData} : RdD K H x d → RdDs K H xs ds → RdDs K H (x :: xs) (d :: ds)
end
section
variable {X : Cx} {pins : List (Addr × Obj)} {σ : St} {H : Hp} {s : Shared} {h' : Heap}
mutual
theorem RdD.reads (I : Inv X pins σ H s) : ∀ {x : V} {d : PyData} {u : Value}, RdD X.K H x d → RelV x u → ∃ as, Reads s.heap u d as
  | _, _, _, .non, r => by cases r; exact ⟨_, .none⟩
  | _, _, _, .bl b, r => by cases r; exact ⟨_, .bool b⟩
  | _, _, _, .int i, r => by obtain ⟨t, rfl⟩ := r; exact ⟨_, .int i t⟩
  | _, _, _, .str x, r => by obtain ⟨t, rfl⟩ := r; exact ⟨_, .str x t⟩
  | _, _, _, .lst h q, r => by
    cases r
    obtain ⟨its, rv, ⟨o, n, e, c, _, d⟩, _⟩ := I.list h
    obtain ⟨as, ra⟩ := RdDs.reads I q rv
    exact ⟨_, .list e c d (by simpa using ra)⟩
  | _, _, _, .tup h q, r => by
    cases r
    obtain ⟨its, rv, ⟨o, e, c, n, d⟩, _⟩ := I.tuple h
    obtain ⟨as, ra⟩ := RdDs.reads I q rv
    exact ⟨_, .tuple e c d (by simpa using ra)⟩
theorem RdDs.reads (I : Inv X pins σ H s) : ∀ {xs : List V} {ds : List PyData} {us : List Value}, RdDs X.K H xs ds → Vals xs us → ∃ as, ReadsAll s.heap us ds as
  | _, _, _, .nil, .nil => ⟨_, .nil⟩
  | _, _, _, .cons h t, .cons r rs => by
    obtain ⟨as, ra⟩ := RdD.reads I h r
    obtain ⟨bs, rb⟩ := RdDs.reads I t rs
    exact ⟨_, .cons ra rb⟩
end
/-- == and != of whatever is read through -/
def rEqD (K : PySem.W.Frag) (neg : Bool) : R2 := fun x y H Q => ∃ d e, RdD K H x d ∧ RdD K H y e ∧ SeqAt.shaped d = true ∧ SeqAt.shaped e = true ∧ Q (.bl (if neg then !(PyData.eqv d e) else PyData.eqv d e)) H
theorem op_eqD (hu : X.A.units + 64 < cLine) : OpR X (compareOp .Eq) (rEqD X.K false) := by
  intro pins s σ H x y v u Q I rx ry h
  obtain ⟨d, e, h1, h2, s1, s2, q⟩ := h
  obtain ⟨as, ra⟩ := h1.reads I rx
  obtain ⟨bs, rb⟩ := h2.reads I ry
  exact eq_dataH ra rb s1 s2 hu ⟨.bl _, H, I, rfl, q⟩
theorem op_neD (hu : X.A.units + 64 < cLine) : OpR X (compareOp .NotEq) (rEqD X.K true) := by
  intro pins s σ H x y v u Q I rx ry h
  obtain ⟨d, e, h1, h2, s1, s2, q⟩ := h
  obtain ⟨as, ra⟩ := h1.reads I rx
  obtain ⟨bs, rb⟩ := h2.reads I ry
  exact ne_dataH ra rb s1 s2 hu ⟨.bl _, H, I, rfl, q⟩
mutual
theorem RdD.mono {K : PySem.W.Frag} {H H' : Hp} (S : Same H H') : ∀ {x : V} {d : PyData}, RdD K H x d → RdD K H' x d
  | _, _, .non => .non
  | _, _, .bl b => .bl b
  | _, _, .int i => .int i
  | _, _, .str x => .str x
  | _, _, .lst h q => .lst (S.seq h) (RdDs.mono S q)
  | _, _, .tup h q => .tup (by
      rcases h with (h | ⟨o, h⟩) | h
      · exact .inl (.inl (S _ _ h))
      · exact .inl (.inr ⟨o, S _ _ h⟩)
      · exact .inr h) (RdDs.mono S q)
theorem RdDs.mono {K : PySem.W.Frag} {H H' : Hp} (S : Same H H') : ∀ {xs : List V} {ds : List PyData}, RdDs K H xs ds → RdDs K H' xs ds
  | _, _, .nil => .nil
  | _, _, .cons h t => .cons (RdD.mono S h) (RdDs.mono S t)
end
theorem RdDs.append {K : PySem.W.Frag} {H : Hp} : ∀ {xs ys : List V} {ds es : List PyData}, RdDs K H xs ds → RdDs K H ys es → RdDs K H (xs ++ ys) (ds ++ es)
  | _, _, _, _, .nil, q => q
  | _, _, _, _, .cons h t, q => .cons h (RdDs.append t q)
theorem RdDs.take {K : PySem.W.Frag} {H : Hp} : ∀ (n : Nat) {xs : List V} {ds : List PyData}, RdDs K H xs ds → RdDs K H (xs.take n) (ds.take n)
  | 0, _, _, _ => .nil
  | _ + 1, _, _, .nil => .nil
  | n + 1, _, _, .cons h t => .cons h (RdDs.take n t)
theorem RdDs.drop {K : PySem.W.Frag} {H : Hp} : ∀ (n : Nat) {xs : List V} {ds : List PyData}, RdDs K H xs ds → RdDs K H (xs.drop n) (ds.drop n)
  | 0, _, _, q => q
  | _ + 1, _, _, .nil => .nil
  | n + 1, _, _, .cons _ t => RdDs.drop n t
theorem RdDs.length {K : PySem.W.Frag} {H : Hp} : ∀ {xs : List V} {ds : List PyData}, RdDs K H xs ds → xs.length = ds.length
  | _, _, .nil => rfl
  | _, _, .cons _ t => congrArg (· + 1) (RdDs.length t)
theorem RdDs.get {K : PySem.W.Frag} {H : Hp} : ∀ {xs : List V} {ds : List PyData} {i : Nat} {x : V}, RdDs K H xs ds → xs[i]? = some x → ∃ d, ds[i]? = some d ∧ RdD K H x d
  | _, _, _, _, .nil, e => by simp at e
  | _, _, 0, _, .cons h _, e => by simp at e; subst e; exact ⟨_, rfl, h⟩
  | _, _, i + 1, _, .cons _ t, e => by
    obtain ⟨d, h1, h2⟩ := RdDs.get (i := i) t (by simpa using e)
    exact ⟨d, by simpa using h1, h2⟩

/-! ### records that have turned; a new object beside them -/
theorem Inv.turnedNew {t' : Nat} {ch : List Addr} {T : Addr} {o : HO} (I : Inv X pins σ H s) (k : ∀ b o, b ∉ ch → s.heap.get? b = some o → h'.get? b = some o) (hf : ∀ b ∈ ch, FpOk X pins H b)
    (hT : s.heap.objs.size ≤ T) (new : ObjOk X.prog X.w (upd H T o) h' T o) : Inv X pins σ (upd H T o) { s with heap := h', toks := t' } := by
  have hn : H T = none := I.hok.fresh hT
  have nch : ∀ b u, H b = some u → b ∉ ch := fun b u e z => by rw [(hf b z).1] at e; cases e
  refine I.step (g' := s.gens) (d' := s.drawn) (ch := ch) (fun b hb => ⟨(hf b hb).2.2.2.1, (hf b hb).2.1, (hf b hb).2.2.2.2.1, (hf b hb).2.2.2.2.2⟩)
    (fun b o _ _ hc e _ => k b o hc e) (fun b o _ _ hc e _ => ⟨o.slots, k b o hc e⟩)
    (fun b o _ e n => by rw [upd_ne (Nat.ne_of_lt (Nat.lt_of_lt_of_le (Heap.lt_size e) hT))]; exact n)
    (fun b o hc e => ⟨o, k b o hc e⟩)
    (fun b xs e => by rw [upd_ne (ne_of_none e hn)]; exact e) (fun b o u e => by rw [upd_ne (ne_of_none e hn)]; exact e)
    (fun b ps e => ⟨#[], by rw [upd_ne (ne_of_none e hn), e]; simp⟩) (fun m hm => ?_) (fun b u e => ?_) I.bare
  · obtain ⟨ob, es, ep, ho, r⟩ := hm
    exact ⟨ob, es, ep, k _ ob (fun z => (hf _ z).2.1 rfl) ho, r⟩
  · by_cases hb : b = T
    · subst hb; rw [upd_same] at e; cases e; exact new
    · rw [upd_ne hb] at e
      refine (I.hok b u e).stay (fun c v hc q => k c v ?_ q) (fun c q => by rw [upd_ne (ne_of_none q hn)]; exact q) fun c xs q => by rw [upd_ne (ne_of_none q hn)]; exact q
      rcases hc with z | z
      · rw [z]; exact nch b u e
      · exact nch c _ z
theorem Inv.turnedL {t' : Nat} {ch : List Addr} (I : Inv X pins σ H s) (k : ∀ b o, b ∉ ch → s.heap.get? b = some o → h'.get? b = some o) (hf : ∀ b ∈ ch, FpOk X pins H b) :
    Inv X pins σ H { s with heap := h', toks := t' } := by
  have nch : ∀ b u, H b = some u → b ∉ ch := fun b u e z => by rw [(hf b z).1] at e; cases e
  refine I.step (g' := s.gens) (d' := s.drawn) (ch := ch) (fun b hb => ⟨(hf b hb).2.2.2.1, (hf b hb).2.1, (hf b hb).2.2.2.2.1, (hf b hb).2.2.2.2.2⟩)
    (fun b o _ _ hc e _ => k b o hc e) (fun b o _ _ hc e _ => ⟨o.slots, k b o hc e⟩) (fun _ _ _ _ n => n)
    (fun b o hc e => ⟨o, k b o hc e⟩) (fun _ _ e => e) (fun _ _ _ e => e) (fun b ps e => ⟨#[], by rw [e]; simp⟩) (fun m hm => ?_) (fun b u e => ?_) I.bare
  · obtain ⟨ob, es, ep, ho, r⟩ := hm
    exact ⟨ob, es, ep, k _ ob (fun z => (hf _ z).2.1 rfl) ho, r⟩
  · refine (I.hok b u e).stay (fun c v hc q => k c v ?_ q) (fun _ q => q) fun _ _ q => q
    rcases hc with z | z
    · rw [z]; exact nch b u e
    · exact nch c _ z

/-! ### zip of two lists -/
def Itz (K : PySem.W.Frag) (l1 l2 : Addr) : It :=
  ⟨fun i H => ∃ xs ys, SqL K H l1 xs ∧ SqL K H l2 ys ∧ i < xs.length ∧ i < ys.length,
   fun i H x H' => ∃ T a b, H T = none ∧ x = .ref T ∧ H' = upd H T (.tup [a, b]) ∧ (∀ xs, SqL K H l1 xs → xs[i]? = some a) ∧ (∀ ys, SqL K H l2 ys → ys[i]? = some b),
   fun i H => ∃ xs ys, SqL K H l1 xs ∧ SqL K H l2 ys ∧ (xs.length ≤ i ∨ ys.length ≤ i)⟩
def ZipSt (z TI TO i1 i2 l1 l2 : Addr) (i : Nat) (h : Heap) : Prop := IsZip h z TI TO .none ∧ IsPair h TI (.ref i1) (.ref i2) ∧ (∃ a b, IsPair h TO a b) ∧ h.IsListIter i1 l1 i ∧ h.IsListIter i2 l2 i
theorem turn_zip {P : Program} {w : World} {K : PySem.W.Frag} {elts : List Expr} {kk : Nat} {tpos : Pos} (z TI TO i1 i2 l1 l2 : Addr) (D : ZipApart z TI TO i1 i2 l1 l2) :
    Turn P w K (.Tuple elts kk tpos) (Itz K l1 l2) [z, TI, TO, i1, i2] z (ZipSt z TI TO i1 i2 l1 l2) where
  mem := by simp
  obj := fun i h st b hb => by
    obtain ⟨hz, hTI, ⟨a, c, hTO⟩, ⟨o1, e1, _, d1⟩, ⟨o2, e2, _, d2⟩⟩ := st
    simp only [List.mem_cons, List.not_mem_nil, or_false] at hb
    rcases hb with rfl | rfl | rfl | rfl | rfl
    · exact ⟨_, hz, fun v q => by cases (show Data.fields _ = Data.cell v from q)⟩
    · exact ⟨_, hTI, fun v q => by cases (show Data.seq _ _ = Data.cell v from q)⟩
    · exact ⟨_, hTO, fun v q => by cases (show Data.seq _ _ = Data.cell v from q)⟩
    · exact ⟨_, e1, fun v q => by rw [d1] at q; cases q⟩
    · exact ⟨_, e2, fun v q => by rw [d2] at q; cases q⟩
  keep := fun i h h' st k => by
    obtain ⟨hz, hTI, ⟨a, c, hTO⟩, h1, h2⟩ := st
    exact ⟨k z (by simp) _ hz, k TI (by simp) _ hTI, ⟨a, c, k TO (by simp) _ hTO⟩, h1.at fun o e => k i1 (by simp) o e, h2.at fun o e => k i2 (by simp) o e⟩
  item := by
    intro X hP hw hK hc i pins s σ H E I hf st hg
    subst hP hw hK
    obtain ⟨xs, ys, q1, q2, g1, g2⟩ := hg
    obtain ⟨its1, r1, p1, z1⟩ := I.list q1
    obtain ⟨its2, r2, p2, z2⟩ := I.list q2
    obtain ⟨u1, e1, ru1⟩ := r1.get (List.getElem?_eq_getElem g1)
    obtain ⟨u2, e2, ru2⟩ := r2.get (List.getElem?_eq_getElem g2)
    obtain ⟨hz, hTI, ⟨a, c, hTO⟩, h1, h2⟩ := st
    refine wpAny_pyNext_zip_item D hz hTI hTO h1 h2 p1.isList p2.isList (x := u1) (y := u2) (by simpa using e1) (by simpa using e2) fun h1' a1 a2 a3 a4 a5 a6 hk => ⟨_, rfl, ?_⟩
    refine wpAny_letOwnedTupleGo_zip a1 fun h2' hz' hs' => ?_
    have lt : ∀ {c o}, s.heap.get? c = some o → s.heap.objs.size ≠ c := fun e => Nat.ne_of_gt (Heap.lt_size e)
    have Tz : s.heap.objs.size ≠ z := lt hz
    have kz : ∀ b o, b ≠ z → h1'.get? b = some o → h2'.get? b = some o := fun b o hb e => hs'.extBut _ _ hb e
    have I' : Inv X pins σ (upd H s.heap.objs.size (.tup [xs[i], ys[i]])) { s with heap := h2' } := by
      refine I.turnedNew (t' := s.toks) (ch := [z, TO, i1, i2]) (fun b o hb e => ?_) (fun b hb => hf b (by
        simp only [List.mem_cons, List.not_mem_nil, or_false] at hb ⊢
        rcases hb with rfl | rfl | rfl | rfl <;> simp)) (Nat.le_refl _) ?_
      · simp only [List.mem_cons, List.not_mem_nil, or_false, not_or] at hb
        exact kz b o hb.1 (hk b o hb.1 hb.2.1 hb.2.2.1 hb.2.2.2 e)
      · exact ⟨(by show 2 ≤ sizeLine; decide), [u1, u2], .cons ru1 (.cons ru2 .nil), _, kz _ _ Tz a5, rfl, _, rfl⟩
    refine ⟨.ref s.heap.objs.size, _, I', rfl, ⟨s.heap.objs.size, xs[i], ys[i], I.hok.fresh (Nat.le_refl _), rfl, rfl, fun xs' q' => ?_, fun ys' q' => ?_⟩, ⟨hz', ?_, ⟨_, _, kz _ _ D.TOz a2⟩, ?_, ?_⟩, fun b hb => ?_⟩
    · rw [I.list_inj q' q1]; exact List.getElem?_eq_getElem g1
    · rw [I.list_inj q' q2]; exact List.getElem?_eq_getElem g2
    · exact kz _ _ D.TIz (hk _ _ D.TIz D.TITO D.TIi1 D.TIi2 hTI)
    · exact a3.at fun o e => kz _ _ D.i1z e
    · exact a4.at fun o e => kz _ _ D.i2z e
    · have n := (hf b hb).1
      simp only [List.mem_cons, List.not_mem_nil, or_false] at hb
      have ob : ∃ o, s.heap.get? b = some o := by
        obtain ⟨o1, x1, _⟩ := h1
        obtain ⟨o2, x2, _⟩ := h2
        rcases hb with rfl | rfl | rfl | rfl | rfl
        · exact ⟨_, hz⟩
        · exact ⟨_, hTI⟩
        · exact ⟨_, hTO⟩
        · exact ⟨_, x1⟩
        · exact ⟨_, x2⟩
      obtain ⟨o, eo⟩ := ob
      rw [upd_ne (Ne.symm (lt eo))]
      exact n
  done := by
    intro X hP hw hK hc i pins s σ H E I hf st hg
    subst hP hw hK
    obtain ⟨xs, ys, q1, q2, g⟩ := hg
    obtain ⟨its1, r1, p1, z1⟩ := I.list q1
    obtain ⟨its2, r2, p2, z2⟩ := I.list q2
    obtain ⟨hz, hTI, ⟨a, c, hTO⟩, h1, h2⟩ := st
    have l1' := r1.length
    have l2' := r2.length
    have hend : its1.toArray[i]? = none ∨ its2.toArray[i]? = none := by
      rcases g with g | g
      · exact .inl (Array.getElem?_eq_none (by rw [List.size_toArray]; omega))
      · exact .inr (Array.getElem?_eq_none (by rw [List.size_toArray]; omega))
    refine wpAny_pyNext_zip_end (I.ok.hd hc) D hz hTI hTO h1 h2 p1.isList p2.isList hend fun h' hk => ⟨rfl, ?_⟩
    refine I.turnedL (t' := s.toks) (ch := [z, TO, i1, i2]) (fun b o hb e => ?_) (fun b hb => hf b (by
        simp only [List.mem_cons, List.not_mem_nil, or_false] at hb ⊢
        rcases hb with rfl | rfl | rfl | rfl <;> simp))
    simp only [List.mem_cons, List.not_mem_nil, or_false, not_or] at hb
    exact hk b o hb.1 hb.2.1 hb.2.2.1 hb.2.2.2 e
  self := fun _ _ _ _ _ st h => wpAny_pyIter_zip st.1 h
end
def iZip (K : PySem.W.Frag) (ta : TA) : TI := fun σ H R => ta σ H fun vs H1 => ∃ l1 l2 xs ys, vs = [.ref l1, .ref l2] ∧ SqL K H1 l1 xs ∧ SqL K H1 l2 ys ∧ R (Itz K l1 l2) H1
theorem zip_apart {n l1 l2 : Nat} (h1 : l1 < n) (h2 : l2 < n) : ZipApart (n + 4) (n + 2) (n + 3) n (n + 1) l1 l2 := by
  constructor <;> first | exact Nat.ne_of_lt (by omega) | exact Nat.ne_of_gt (by omega)
theorem pi_zip {X : Cx} {a b : Expr} {ta : TA} {p pos tpos : Pos} {elts : List Expr} {kk : Nat} (hg : Gl X "zip") (hm : X.mg "zip" = none) (ha : PA X [a, b] ta) (hs : starEach [a, b] X.env = [(false, eval a X.env), (false, eval b X.env)] := by rfl) (hs2 : starEach [b] X.env = [(false, eval b X.env)] := by rfl) :
    PI X (.Tuple elts kk tpos) (.Call (.Name "zip" p) [a, b] [] pos) (iZip X.K ta) := by
  intro pins s σ H R I h
  refine Call_ (ld_blt I hg hm (show bootBuiltins "zip" = some (.type "zip") from by decide +kernel) (PyProof.Rows.callWith_type1 (thn (ha pos pins s σ H _ I h) fun us s1 ⟨vs, H1, I1, r1, q1⟩ => ?_) (by rw [hs, hs2]) (by rw [hs2]; rfl)))
  obtain ⟨l1, l2, xs, ys, e, q1, q2, q⟩ := q1
  subst e
  obtain ⟨u1, u2, rfl, ru1, ru2⟩ := r1.two
  cases ru1
  cases ru2
  obtain ⟨its1, v1, p1, z1⟩ := I1.list q1
  obtain ⟨its2, v2, p2, z2⟩ := I1.list q2
  have b1 : l1 < s1.heap.objs.size := by obtain ⟨o, n, e, _⟩ := p1; exact Heap.lt_size e
  have b2 : l2 < s1.heap.objs.size := by obtain ⟨o, n, e, _⟩ := p2; exact Heap.lt_size e
  refine call_zip_2 p1.isList p2.isList fun h' hz hTI hTO h1 h2 sz hk => ?_
  have D := zip_apart b1 b2
  refine wpAny_pyIter_zip hz ?_
  refine ⟨_, _, ZipSt _ _ _ _ _ _ _, _, H1, rfl, I1.kept (t' := s1.toks) hk, turn_zip _ _ _ _ _ _ _ D, ⟨hz, hTI, ⟨_, _, hTO⟩, h1, h2⟩, fun b hb => ?_, q⟩
  have hb' : s1.heap.objs.size ≤ b := by
    simp only [List.mem_cons, List.not_mem_nil, or_false] at hb
    rcases hb with rfl | rfl | rfl | rfl | rfl
    · exact Nat.le_add_right _ _
    · exact Nat.le_add_right _ _
    · exact Nat.le_add_right _ _
    · exact Nat.le_refl _
    · exact Nat.le_add_right _ _
  exact I1.fpOk hb' (I1.hok.fresh hb')
theorem for_zip {K : PySem.W.Frag} {l1 l2 : Addr} {xs ys : List V} {g : TG} {tb : TS} {D : Ends} {σ : St} {H : Hp} (Pv : Nat → St → Hp → Prop) (h0 : Pv 0 σ H) (hl : ∀ i σ H, Pv i σ H → SqL K H l1 xs ∧ SqL K H l2 ys)
    (hs : ∀ i T a b σ H, xs[i]? = some a → ys[i]? = some b → H T = none → Pv i σ H → g (.ref T) σ (upd H T (.tup [a, b])) fun σ2 H2 => tb { D with nx := Pv (i + 1), ct := Pv (i + 1), bk := D.nx } σ2 H2)
    (hd : ∀ σ H, Pv (min xs.length ys.length) σ H → D.nx σ H) :
    ∃ W : Nat → Nat → St → Hp → Prop, (∃ m, W 0 m σ H) ∧ ∀ i m σ H, W i m σ H →
      ((Itz K l1 l2).stop i H ∧ D.nx σ H) ∨ ((Itz K l1 l2).go i H ∧ ∃ N : St → Hp → Prop, (∀ σ' H', N σ' H' → ∃ m', m' < m ∧ W (i + 1) m' σ' H') ∧ ∀ x H', (Itz K l1 l2).yld i H x H' → g x σ H' fun σ2 H2 => tb { D with nx := N, ct := N, bk := D.nx } σ2 H2) := by
  refine ⟨fun i m σ H => m = min xs.length ys.length - i ∧ i ≤ min xs.length ys.length ∧ Pv i σ H, ⟨_, rfl, Nat.zero_le _, h0⟩, ?_⟩
  rintro i m σ H ⟨rfl, hi, p⟩
  obtain ⟨q1, q2⟩ := hl i σ H p
  by_cases hlt : i < min xs.length ys.length
  · refine .inr ⟨⟨xs, ys, q1, q2, by omega, by omega⟩, Pv (i + 1), fun σ' H' p' => ⟨_, by omega, rfl, hlt, p'⟩, fun x H' y => ?_⟩
    obtain ⟨T, a, b, hT, rfl, rfl, y1, y2⟩ := y
    exact hs i T a b σ H (y1 xs q1) (y2 ys q2) hT p
  · have e : i = min xs.length ys.length := by omega
    subst e
    exact .inl ⟨⟨xs, ys, q1, q2, by omega⟩, hd σ H p⟩
section
variable {X : Cx}
def rEqG (K : PySem.W.Frag) : R2 := fun x y H Q => rI0 (fun i j => .bl (decide (i = j))) x y H Q ∨ rEqT K x y H Q ∨ rEq x y H Q ∨ rEqD K false x y H Q
theorem op_eqG (hu : X.A.units + 64 < cLine) : OpR X (compareOp .Eq) (rEqG X.K) := op_eqI.or ((op_eqT (by omega)).or (op_eq.or (op_eqD hu)))
def rNeG (K : PySem.W.Frag) : R2 := fun x y H Q => rI0 (fun i j => .bl (!decide (i = j))) x y H Q ∨ rNe x y H Q ∨ rEqD K true x y H Q
theorem op_neG (hu : X.A.units + 64 < cLine) : OpR X (compareOp .NotEq) (rNeG X.K) := op_neI.or (op_ne.or (op_neD hu))

/-! ### how often a fraction stands in a list of fractions -/
def IsFr (H : Hp) (x : V) (c : Int × Int) : Prop := ∃ p, x = .ref p ∧ H p = some (.tup [.int c.1, .int c.2])
abbrev FrL (H : Hp) : List V → List (Int × Int) → Prop := Paired (IsFr H)
def intOf : Value → Option Int
  | .int i _ => some i
  | _ => none
def eFr (h : Heap) (a b : Int) (y : Value) : Bool := match y with
  | .ref p => (match h.get? p with
    | some o => (match o.data with
      | .seq its _ => decide (its.toList.map intOf = [some a, some b])
      | _ => false)
    | none => false)
  | _ => false
theorem eFr_of {pins : List (Addr × Obj)} {σ : St} {H : Hp} {s : Shared} {x : V} {u : Value} {c : Int × Int} (I : Inv X pins σ H s) (hx : IsFr H x c) (r : RelV x u) (a b : Int) : eFr s.heap a b u = decide (c = (a, b)) := by
  obtain ⟨p, rfl, hp⟩ := hx
  cases r
  obtain ⟨its, rv, ⟨o, e, _, n, d⟩, _⟩ := I.tuple (SqT.of hp)
  obtain ⟨u1, u2, rfl, ⟨t1, rfl⟩, ⟨t2, rfl⟩⟩ := rv.two
  unfold eFr
  simp only [e, d]
  obtain ⟨c1, c2⟩ := c
  simp [intOf]
theorem count_fr {pins : List (Addr × Obj)} {σ : St} {H : Hp} {s : Shared} (I : Inv X pins σ H s) (a b : Int) : ∀ {xs : List V} {us : List Value} {cs : List (Int × Int)}, FrL H xs cs → Vals xs us → us.countP (eFr s.heap a b) = cs.count (a, b)
  | _, _, _, .nil, .nil => rfl
  | _, _, _, .cons h t, .cons r rs => by
    have ih := count_fr I a b t rs
    have e := eFr_of I h r a b
    rw [List.countP_cons, ih, List.count_cons, e]
    rename_i c _ _ _ _
    by_cases q : c = (a, b)
    · simp [q]
    · simp [q]
theorem fr_data {K : PySem.W.Frag} {H : Hp} {x : V} {c : Int × Int} (h : IsFr H x c) : RdD K H x (.tuple [.int c.1, .int c.2]) := by
  obtain ⟨p, rfl, hp⟩ := h
  exact .tup (SqT.of hp) (.cons (.int _) (.cons (.int _) .nil))
theorem frl_data {K : PySem.W.Frag} {H : Hp} : ∀ {xs : List V} {cs : List (Int × Int)}, FrL H xs cs → RdDs K H xs (cs.map fun c => PyData.tuple [.int c.1, .int c.2])
  | _, _, .nil => .nil
  | _, _, .cons h t => .cons (fr_data h) (frl_data t)
theorem frl_get {H : Hp} : ∀ {xs : List V} {cs : List (Int × Int)} {j : Nat}, FrL H xs cs → (h : j < xs.length) → ∃ d, IsFr H xs[j] d
  | _, _, _, .nil, h => absurd h (Nat.not_lt_zero _)
  | _, _, 0, .cons q _, _ => ⟨_, q⟩
  | _, _, j + 1, .cons _ t, h => frl_get (j := j) t (by simpa using h)
def rCount (K : PySem.W.Frag) : V → List V → Hp → VK → Prop := fun x vs H Q => ∃ l y xs cs c, x = .ref l ∧ vs = [y] ∧ SqL K H l xs ∧ FrL H xs cs ∧ IsFr H y c ∧ Q (.int ((cs.count c : Nat) : Int)) H
theorem mt_count (hu : X.A.units + 64 < cLine) : MtR X "list.count" (rCount X.K) := by
  intro pins s σ H x vs v us Q I rx rv h
  obtain ⟨l, y, xs, cs, c, rfl, rfl, hS, hL, hy, q⟩ := h
  cases rx
  obtain ⟨u, rfl, ru⟩ := rv.one
  obtain ⟨its, r, ⟨o, n, e, hc, hd, hdt⟩, hz⟩ := I.list hS
  obtain ⟨cls, dd, data, sl⟩ := o
  simp only at hc hd hdt
  subst hc hd hdt
  refine call_meets F.slot_list_count ⟨_, e, rfl⟩ F.entry_list_count (F.args_list_count_2 _ _) (SeqAt.list_countAt l its.toArray n none sl u (eFr s.heap c.1 c.2)) ⟨e, fun w hw => ?_, ?_⟩
  · have hw' : w ∈ its := by simpa using hw
    obtain ⟨j, hj⟩ := List.getElem?_of_mem hw'
    have hjl : j < its.length := (List.getElem?_eq_some_iff.mp hj).1
    have hxl : j < xs.length := by rw [r.length]; exact hjl
    obtain ⟨w', e1, rw'⟩ := r.get (List.getElem?_eq_getElem hxl)
    rw [hj] at e1
    cases e1
    obtain ⟨d, hd⟩ := frl_get hL hxl
    obtain ⟨as, ra⟩ := (fr_data (K := X.K) hd).reads I rw'
    obtain ⟨bs, rb⟩ := (fr_data (K := X.K) hy).reads I ru
    have z := SeqAt.eqAt_reads _ _ X.A.in1 s _ _ as bs ra rb rfl rfl (by show X.A.units + 1 + _ < cLine; exact Nat.lt_of_le_of_lt (by show X.A.units + 1 + 1 ≤ X.A.units + 64; omega) hu)
    have ev : PyData.eqv (.tuple [.int d.1, .int d.2]) (.tuple [.int c.1, .int c.2]) = eFr s.heap c.1 c.2 w := by
      rw [eFr_of I hd rw']
      obtain ⟨d1, d2⟩ := d
      obtain ⟨c1, c2⟩ := c
      simp [PyData.eqv, PyData.eqvAll]
      by_cases q1 : d1 = c1 <;> by_cases q2 : d2 = c2 <;> simp [q1, q2]
    rw [ev] at z
    exact z
  · have ec : its.toArray.toList.countP (eFr s.heap c.1 c.2) = cs.count c := by
      have := count_fr I c.1 c.2 hL r
      simpa using this
    rw [ec]
    exact ⟨.int _, H, I.tok _, ⟨_, rfl⟩, q⟩
end
end L2
namespace L2
open PySem PySem.Spec PyProof.Rows

/-! ### a list comprehension: one clause, a name as its target, at most one test -/
theorem forIn_fold {α β : Type} {f : α → β → Sem (ForInStep β)} (g : β → α → β) : ∀ (l : List α) (b : β), (∀ x ∈ l, ∀ c, f x c = pure (.yield (g c x))) → forIn l b f = pure (l.foldl g b)
  | [], _, _ => rfl
  | x :: l, b, h => by
    rw [List.forIn_cons, h x List.mem_cons_self, pure_bind]
    exact forIn_fold g l (g b x) fun y hy => h y (List.mem_cons_of_mem _ hy)
def clStep (cells : List (Str × Addr)) (cs : List (Str × Addr)) (x : Str × NameKind) : List (Str × Addr) := if (x.2 == NameKind.free) = true then (x.1, (cells.lookup x.1).getD 0) :: cs else cs
theorem cl_from {cells : List (Str × Addr)} : ∀ (names : List (Str × NameKind)) (cs : List (Str × Addr)), (∀ x ∈ names, x.2 = NameKind.free → ∃ c, cells.lookup x.1 = some c) → (∀ x c, cs.lookup x = some c → cells.lookup x = some c) →
    (∀ x c, (names.foldl (clStep cells) cs).lookup x = some c → cells.lookup x = some c) ∧ (∀ x, ((∃ c, cs.lookup x = some c) ∨ (x, NameKind.free) ∈ names) → ∃ c, (names.foldl (clStep cells) cs).lookup x = some c)
  | [], cs, _, h => ⟨h, fun x q => by
      rcases q with q | q
      · exact q
      · cases q⟩
  | (n, k) :: r, cs, hf, h => by
    have step : ∀ x c, (clStep cells cs (n, k)).lookup x = some c → cells.lookup x = some c := fun x c e => by
      unfold clStep at e
      by_cases hk : ((n, k).2 == NameKind.free) = true
      · rw [if_pos hk] at e
        obtain ⟨c0, hc0⟩ := hf (n, k) List.mem_cons_self (by simpa using hk)
        by_cases hx : x = n
        · subst hx
          rw [List.lookup_cons_self] at e
          rw [hc0] at e ⊢
          exact e
        · have : (x == n) = false := by simpa using hx
          rw [List.lookup_cons, this] at e
          exact h x c e
      · rw [if_neg hk] at e
        exact h x c e
    obtain ⟨a, b⟩ := cl_from r (clStep cells cs (n, k)) (fun x hx => hf x (List.mem_cons_of_mem _ hx)) step
    refine ⟨a, fun x q => b x ?_⟩
    rcases q with ⟨c, q⟩ | q
    · left
      unfold clStep
      by_cases hk : ((n, k).2 == NameKind.free) = true
      · rw [if_pos hk]
        by_cases hx : x = n
        · subst hx; exact ⟨_, List.lookup_cons_self⟩
        · have : (x == n) = false := by simpa using hx
          exact ⟨c, by rw [List.lookup_cons, this]; exact q⟩
      · rw [if_neg hk]; exact ⟨c, q⟩
    · rcases List.mem_cons.mp q with q | q
      · left
        cases q
        unfold clStep
        rw [if_pos (by rfl)]
        exact ⟨_, List.lookup_cons_self⟩
      · exact .inr q
theorem closure_ok {scope : Scope} {env : Env} (h : ∀ x ∈ scope.names, x.2 = NameKind.free → ∃ c, env.cells.lookup x.1 = some c) :
    ∃ cl, closureFor scope env = pure cl ∧ (∀ x c, cl.lookup x = some c → env.cells.lookup x = some c) ∧ (∀ x, (x, NameKind.free) ∈ scope.names → ∃ c, cl.lookup x = some c) := by
  obtain ⟨a, b⟩ := cl_from (cells := env.cells) scope.names [] h (fun x c e => by simp at e)
  refine ⟨_, ?_, a, fun x q => b x (.inr q)⟩
  simp only [closureFor]
  rw [forIn_fold (clStep env.cells) _ _ (fun x hx c => by
    obtain ⟨n, kind⟩ := x
    unfold clStep
    cases hk : (kind == NameKind.free) with
    | false => simp only [hk, Bool.false_eq_true, if_false]
    | true =>
      obtain ⟨c0, hc0⟩ := h (n, kind) hx (by simpa using hk)
      simp only [hk, if_true, cellOf]
      rw [show List.lookup n env.cells = some c0 from hc0]
      rfl)]
  rfl
/-- a comprehension's block -/
def cxComp (X : Cx) (scope : Scope) (N : List Str) (cl : List (Str × Addr)) (C : Addr) (s₀ : Shared) (H₀ : Hp) (ex : List Addr) : Cx where
  prog := X.prog
  w := X.w
  K := X.K
  mg := X.mg
  base := X.base
  A := X.A
  N := N
  s₀ := s₀
  H₀ := H₀
  env := compEnvC scope cl C X.env
  outer := X.stack
  stack := X.stack
  ex := ex
  fn := fun _ => false
  calm := X.calm
  pn := []
  xe := fun _ _ => False
def PIfs (X : Cx) (ifs : List Expr) (t : TT) : Prop := ∀ (pins : List (Addr × Obj)) (s : Shared) (σ : St) (H : Hp) (Q : Bool → Hp → Prop), Inv X pins σ H s → t σ H Q →
  wpAny (model X.prog X.w) X.A (forIn ifs true fun c r => if r = true then do let ok ← isTrue c X.env (eval c X.env); pure (ForInStep.yield ok) else pure (ForInStep.yield r)) (TP X pins σ Q) X.xe s
def tYes : TT := fun _ H Q => Q true H
theorem pif_nil {X : Cx} : PIfs X [] tYes := fun _ _ _ H _ I h => wpAny_tests_nil ⟨H, I, h⟩
theorem pif_one {X : Cx} {c : Expr} {t : TT} (h : PT X c t) : PIfs X [c] t := fun pins s σ H Q I q => wpAny_tests_one (h pins s σ H Q I q)
/-- the names of the block: its target, then the captured ones -/
def inSt (cap : List Nat) (x : Option V) (σ : St) : St := x :: cap.map fun i => (σ[i]?).join
def compBody (J : It) (tc : TT) (te : TE) (cap : List Nat) (σ : St) (Q : VK) (H1 : Hp) : Prop := ∀ acc, H1 acc = none → ∃ W : Nat → Nat → Hp → Prop, (∃ m, W 0 m (upd H1 acc (.lst []))) ∧ ∀ i m H, W i m H →
  (J.stop i H ∧ Q (.ref acc) H) ∨ (J.go i H ∧ ∀ x H', J.yld i H x H' → tc (inSt cap (some x) σ) H' fun b H3 => if b = true then te (inSt cap (some x) σ) H3 fun y H4 => ∃ ys, H4 acc = some (.lst ys) ∧ ys.length < sizeLine ∧ ∃ m', m' < m ∧ W (i + 1) m' (upd H4 acc (.lst (ys ++ [y]))) else ∃ m', m' < m ∧ W (i + 1) m' H3)
def tComp (wi : TI) (tc : TT) (te : TE) (cap : List Nat) : TE := fun σ H Q => wi σ H fun J H1 => compBody J tc te cap σ Q H1
theorem lookup_relabel_free {env : Env} : ∀ {names : List (Str × NameKind)} {x : Str}, names.lookup x = some .free →
    (names.map fun (n, k) => if (k == NameKind.free && env.scope.kind == .function && env.kindOf n == some .cell) then (n, NameKind.cell) else (n, k)).lookup x = some .cell ∨
    (names.map fun (n, k) => if (k == NameKind.free && env.scope.kind == .function && env.kindOf n == some .cell) then (n, NameKind.cell) else (n, k)).lookup x = some .free
  | [], _, h => by simp at h
  | (n, k) :: r, x, h => by
    have ih := @lookup_relabel_free env r x
    show List.lookup x ((if (k == NameKind.free && env.scope.kind == .function && env.kindOf n == some .cell) = true then (n, NameKind.cell) else (n, k)) :: _) = _ ∨
      List.lookup x ((if (k == NameKind.free && env.scope.kind == .function && env.kindOf n == some .cell) = true then (n, NameKind.cell) else (n, k)) :: _) = _
    cases hx : x == n with
    | true =>
      simp only [List.lookup_cons, hx] at h
      cases h
      by_cases hc : (NameKind.free == NameKind.free && env.scope.kind == .function && env.kindOf n == some .cell) = true
      · rw [if_pos hc]; left; simp [List.lookup_cons, hx]
      · rw [if_neg hc]; right; simp [List.lookup_cons, hx]
    | false =>
      simp only [List.lookup_cons, hx] at h
      by_cases hc : (k == NameKind.free && env.scope.kind == .function && env.kindOf n == some .cell) = true
      · rw [if_pos hc]; simp only [List.lookup_cons, hx]; exact ih h
      · rw [if_neg hc]; simp only [List.lookup_cons, hx]; exact ih h
/-- a relabelled name that is a cell or free was free -/
theorem of_relabel {env : Env} : ∀ {names : List (Str × NameKind)} {x : Str}, (∀ y ∈ names, y.2 ≠ .cell) →
    ((names.map fun (n, k) => if (k == NameKind.free && env.scope.kind == .function && env.kindOf n == some .cell) then (n, NameKind.cell) else (n, k)).lookup x = some .cell ∨
    (names.map fun (n, k) => if (k == NameKind.free && env.scope.kind == .function && env.kindOf n == some .cell) then (n, NameKind.cell) else (n, k)).lookup x = some .free) → (x, NameKind.free) ∈ names
  | [], _, _, h => by simp at h
  | (n, k) :: r, x, hcell, h => by
    have ih := @of_relabel env r x (fun y hy => hcell y (List.mem_cons_of_mem _ hy))
    have hk := hcell (n, k) List.mem_cons_self
    cases hx : x == n with
    | true =>
      have e : x = n := by simpa using hx
      subst e
      by_cases hc : (k == NameKind.free && env.scope.kind == .function && env.kindOf x == some .cell) = true
      · have : k = .free := by
          rw [Bool.and_eq_true, Bool.and_eq_true] at hc
          simpa using hc.1.1
        subst this
        exact List.mem_cons_self
      · have h' : List.lookup x ((if (k == NameKind.free && env.scope.kind == .function && env.kindOf x == some .cell) = true then (x, NameKind.cell) else (x, k)) :: (r.map fun (n, k) => if (k == NameKind.free && env.scope.kind == .function && env.kindOf n == some .cell) then (n, NameKind.cell) else (n, k))) = some .cell ∨
          List.lookup x ((if (k == NameKind.free && env.scope.kind == .function && env.kindOf x == some .cell) = true then (x, NameKind.cell) else (x, k)) :: (r.map fun (n, k) => if (k == NameKind.free && env.scope.kind == .function && env.kindOf n == some .cell) then (n, NameKind.cell) else (n, k))) = some .free := h
        rw [if_neg hc, List.lookup_cons_self] at h'
        rcases h' with h' | h'
        · exact absurd (Option.some.inj h') hk
        · have := Option.some.inj h'
          subst this
          exact List.mem_cons_self
    | false =>
      refine List.mem_cons_of_mem _ (ih ?_)
      have h' : List.lookup x ((if (k == NameKind.free && env.scope.kind == .function && env.kindOf n == some .cell) = true then (n, NameKind.cell) else (n, k)) :: (r.map fun (n, k) => if (k == NameKind.free && env.scope.kind == .function && env.kindOf n == some .cell) then (n, NameKind.cell) else (n, k))) = some .cell ∨
          List.lookup x ((if (k == NameKind.free && env.scope.kind == .function && env.kindOf n == some .cell) = true then (n, NameKind.cell) else (n, k)) :: (r.map fun (n, k) => if (k == NameKind.free && env.scope.kind == .function && env.kindOf n == some .cell) then (n, NameKind.cell) else (n, k))) = some .free := h
      by_cases hc : (k == NameKind.free && env.scope.kind == .function && env.kindOf n == some .cell) = true
      · rw [if_pos hc] at h'; simp only [List.lookup_cons, hx] at h'; exact h'
      · rw [if_neg hc] at h'; simp only [List.lookup_cons, hx] at h'; exact h'
section
variable {X : Cx} {pins : List (Addr × Obj)} {σ : St} {H : Hp} {s : Shared}
structure CompScope (X : Cx) (scope : Scope) (x : Str) (cn : List Str) (cap : List Nat) : Prop where
  kind : scope.kind = .function
  names : ∀ y ∈ scope.names, y.2 = .local → scope.names.lookup y.1 = some .local
  cell : ∀ y ∈ scope.names, y.2 ≠ .cell
  own : scope.names.lookup x = some .local
  free : ∀ y ∈ scope.names, y.2 = .free → X.env.kindOf y.1 = some .cell ∨ X.env.kindOf y.1 = some .free
  cap : cap.map (fun i => X.N[i]?) = cn.map some
  capf : ∀ y ∈ cn, scope.names.lookup y = some .free
  capo : ∀ y ∈ cn, X.env.scope.names.lookup y = some .cell ∨ X.env.scope.names.lookup y = some .free
  nd : (x :: cn).Nodup
theorem comp_ok {scope : Scope} {x : Str} {cn : List Str} {cap : List Nat} {cl : List (Str × Addr)} {C : Addr} {fp : List Addr} (S : CompScope X scope x cn cap) (I : Inv X pins σ H s) (hf : ∀ b ∈ fp, FpOk X pins H b) (hlt : ∀ b ∈ fp, b < s.heap.objs.size)
    (hc1 : ∀ y c, cl.lookup y = some c → X.env.cells.lookup y = some c) (hc2 : ∀ y, (y, NameKind.free) ∈ scope.names → ∃ c, cl.lookup y = some c) (hC : s.heap.objs.size ≤ C) : (cxComp X scope (x :: cn) cl C s H fp).Ok where
  mod := I.ok.mod
  kind := S.kind
  glob := I.ok.glob
  blt := I.ok.blt
  above := hC
  inj := fun y z c h1 h2 => I.ok.inj y z c (hc1 y c h1) (hc1 z c h2)
  has := fun y h => hc2 y (of_relabel (env := X.env) S.cell h)
  cab := fun y c h => by cases (show false = true from h)
  hd := I.ok.hd
  frames := I.ok.frames
  stk := .inl rfl
  exf := fun b hb => ⟨Nat.ne_of_lt (Nat.lt_of_lt_of_le (hlt b hb) hC), fun y c h => (hf b hb).2.2.2.2.1 y c (hc1 y c h)⟩
  bs := I.bs
  bsz := Nat.le_trans I.ok.bsz I.sz
  noex := fun b o e hb => by
    rcases (hf b hb).2.2.2.1 with z | z
    · exact I.ok.noex b o e z
    · have h1 := Heap.lt_size e
      exact absurd (Nat.lt_of_lt_of_le h1 (Nat.le_trans I.ok.bsz z)) (Nat.lt_irrefl _)
  exfs := fun b hb z => by
    rcases List.mem_cons.mp (I.stkSub b z) with q | q
    · exact (hf b hb).2.1 q
    · exact (hf b hb).2.2.1 q
  funs := I.stack
  frf := I.stkFree
theorem map_get {α β : Type} {l : List α} {f : α → Option β} {m : List β} (h : l.map f = m.map some) : ∀ {j : Nat} {y : β}, m[j]? = some y → ∃ i, l[j]? = some i ∧ f i = some y := by
  intro j y e
  have h2 := congrArg (fun z => z[j]?) h
  simp only [List.getElem?_map] at h2
  rw [e] at h2
  cases q : l[j]? with
  | none => rw [q] at h2; cases h2
  | some i =>
    rw [q] at h2
    exact ⟨i, rfl, by simpa using h2⟩
theorem pe_compG {elt iter : Expr} {x : Str} {px : Pos} {ifs : List Expr} {scope : Scope} {pos : Pos} {wi : TI} {tc : TT} {te : TE} (cn : List Str) (cap : List Nat) (S : CompScope X scope x cn cap) (hc : X.calm = true)
    (hi : PI X (.Name x px) iter wi) (hin : ∀ cl C s₀ H₀ ex, PIfs (cxComp X scope (x :: cn) cl C s₀ H₀ ex) ifs tc) (he : ∀ cl C s₀ H₀ ex, PE (cxComp X scope (x :: cn) cl C s₀ H₀ ex) elt te)
    (hs : ∀ z, foldedSetIterable iter X.env z = pure z := by intro _; rfl) : PE X (.ListComp elt [⟨.Name x px, iter, ifs, 0⟩] scope pos) (tComp wi tc te cap) := by
  intro pins s σ H Q I h
  obtain ⟨cl, hclos, hc1, hc2⟩ := closure_ok (scope := scope) (env := X.env) fun y hy hk => I.ok.has y.1 (S.free y hy hk)
  rw [eval_ListComp]
  refine wpAny_comprehension_free (use := none) rfl hs hclos S.kind S.names (thn (hi pins s σ H _ I h) fun v s1 h1 => thn h1 fun itv s2 h2 => ?_)
  obtain ⟨it, fp, tn, J, H2, e, I2, T, st2, f2, q2⟩ := h2
  subst e
  have hlt : ∀ b ∈ fp, b < s2.heap.objs.size := fun b hb => by
    obtain ⟨o, e, _⟩ := T.obj _ _ st2 b hb
    exact Heap.lt_size e
  refine wpAny_newObj_type (wpAny_newFunctionEnv S.cell (by intro y hy; simp at hy) (fun h₁ hns₁ hsb₁ => ?_) S.kind)
  dsimp only at hns₁ hsb₁ ⊢
  generalize hP : s2.heap.push { cls := .type "list", dict := none, data := .seq ([] : List Value).toArray } = P2 at hns₁ hsb₁ ⊢
  have hC : P2.objs.size = s2.heap.objs.size + 1 := by rw [← hP, Heap.size_push]
  have hDC : s2.heap.objs.size ≠ P2.objs.size := by rw [hC]; exact Nat.ne_of_lt (Nat.lt_succ_self _)
  have hCle : s2.heap.objs.size ≤ P2.objs.size := by rw [hC]; exact Nat.le_succ _
  have neC : ∀ b, b < s2.heap.objs.size → b ≠ P2.objs.size := fun b hb => by rw [hC]; exact Nat.ne_of_lt (Nat.lt_succ_of_lt hb)
  have old : ∀ b o, s2.heap.get? b = some o → h₁.get? b = some o := fun b o e => hsb₁.extBut b o (neC b (Heap.lt_size e)) (Heap.get?_push_of_some _ (hP ▸ Heap.get?_push_of_some _ e))
  have hacc : h₁.get? s2.heap.objs.size = some { cls := .type "list", dict := none, data := .seq ([] : List Value).toArray } := hsb₁.extBut _ _ hDC (Heap.get?_push_of_some _ (hP ▸ Heap.get?_push_size _ rfl))
  have hD0 : H2 s2.heap.objs.size = none := I2.hok.fresh (Nat.le_refl _)
  have ok' : (cxComp X scope (x :: cn) cl P2.objs.size s2 H2 fp).Ok := comp_ok S I2 f2 hlt hc1 hc2 hCle
  obtain ⟨W, ⟨m0, w0⟩, turn⟩ := q2 _ hD0
  have hok1 : HOk X.prog X.w (upd H2 s2.heap.objs.size (.lst [])) h₁ := I2.hok.laid old (Nat.le_refl _) ⟨Nat.zero_le _, [], _, .nil, hacc⟩
  have un1 : Un (frs X.stack) fp H2 (upd H2 s2.heap.objs.size (.lst [])) s2.heap h₁ := Un.laid old (Nat.le_refl _) hD0
  have I4 : ∀ tk, Inv (cxComp X scope (x :: cn) cl P2.objs.size s2 H2 fp) [] (inSt cap none σ) (upd H2 s2.heap.objs.size (.lst [])) { s2 with heap := h₁, toks := tk } := fun tk => by
    refine ⟨ok', rfl, I2.bare, un1, ⟨_, hns₁, fun i y v e1 e2 e3 => ?_⟩, fun y c e => ?_, ?_, fun y c e => ?_, fun p hp => (nomatch hp), hok1, ?_⟩
    · cases i with
      | zero => cases (show (none : Option V) = some v from Option.some.inj e2)
      | succ j =>
        have e1' : cn[j]? = some y := e1
        have ymem : y ∈ cn := List.mem_of_getElem? e1'
        obtain ⟨i0, ci, ni⟩ := map_get S.cap e1'
        have e2' : (cap.map fun i => (σ[i]?).join)[j]? = some (some v) := e2
        rw [List.getElem?_map, ci] at e2'
        have e3' : (σ[i0]?).join = some v := Option.some.inj e2'
        have e4 : σ[i0]? = some (some v) := by
          cases q : σ[i0]? with
          | none => rw [q] at e3'; cases e3'
          | some o => rw [q] at e3'; exact congrArg some e3'
        obtain ⟨m, hn, hl⟩ := I2.loc
        have vis : Vis X.env.scope y := .inr (S.capo y ymem)
        obtain ⟨u, r, lk⟩ := hl i0 y v ni e4 vis
        refine ⟨u, r, .inr ⟨lookup_relabel_free (env := X.env) (S.capf y ymem), ?_⟩⟩
        rcases lk with ⟨kl, _⟩ | ⟨_, c, ec, hcell⟩
        · rcases S.capo y ymem with z | z
          · have kl' : X.env.scope.names.lookup y = some .local := kl
            rw [z] at kl'; cases kl'
          · have kl' : X.env.scope.names.lookup y = some .local := kl
            rw [z] at kl'; cases kl'
        · have fm : (y, NameKind.free) ∈ scope.names := of_relabel (env := X.env) S.cell (lookup_relabel_free (env := X.env) (S.capf y ymem))
          obtain ⟨c', ec'⟩ := hc2 y fm
          have := hc1 y c' ec'
          rw [ec] at this
          cases this
          obtain ⟨o, ho, hd⟩ := hcell
          exact ⟨c, ec', o, old _ _ ho, hd⟩
    · obtain ⟨v, o, ho, hd⟩ := I2.cell y c (hc1 y c e)
      exact ⟨v, o, old _ _ ho, hd⟩
    · show (upd H2 s2.heap.objs.size (.lst [])) P2.objs.size = none
      rw [upd_ne (Ne.symm hDC)]
      exact I2.hok.fresh hCle
    · obtain ⟨v, o, ho, hd⟩ := I2.cell y c (hc1 y c e)
      rw [upd_ne (Nat.ne_of_lt (Heap.lt_size ho))]
      exact I2.freeC y c (hc1 y c e)
    · show (inSt cap none σ).length = (x :: cn).length
      have := congrArg List.length S.cap
      simp only [List.length_map] at this
      simp [inSt, this]
  have stat : ∀ {H' : Hp}, (∀ b ∈ fp, H' b = none) → ∀ b ∈ fp, FpOk (cxComp X scope (x :: cn) cl P2.objs.size s2 H2 fp) [] H' b := fun hn b hb =>
    ⟨hn b hb, neC b (hlt b hb), ok'.exfs b hb, .inl hb, fun y c e => (ok'.exf b hb).2 y c e, fun p hp => (nomatch hp)⟩
  have pgx : PG (cxComp X scope (x :: cn) cl P2.objs.size s2 H2 fp) (.Name x px) (gName 0) := pg_name (i := 0) S.nd rfl (.inl (lookup_relabel_local (env := X.env) S.own)) (.inr (lookup_relabel_local (env := X.env) S.own))
  have loop : ∀ s₃ : Shared, s₃ = { s2 with heap := h₁, toks := s2.toks + ([] : List (Str × Value)).length } →
      codeAny (model X.prog X.w) X.A (.compLoop (.ListComp elt [⟨.Name x px, iter, ifs, 0⟩] scope pos) 0 (.ref it) (.ref s2.heap.objs.size) (compEnvC scope cl P2.objs.size X.env))
        (compPost (model X.prog X.w) X.A X.xe none (EP X pins σ Q) (.ref s2.heap.objs.size) P2.objs.size) s₃ := by
    rintro s₃ rfl
    refine codeAny_loop rfl (fun n s' => ∃ i H', Inv (cxComp X scope (x :: cn) cl P2.objs.size s2 H2 fp) [] (inSt cap none σ) H' s' ∧ tn i s'.heap ∧ (∀ b ∈ fp, H' b = none) ∧ W i n H') ?_ m0
      ⟨0, _, I4 _, T.keep _ _ _ st2 fun b hb o e => old b o e, fun b hb => by rw [upd_ne (Nat.ne_of_lt (hlt b hb))]; exact (f2 b hb).1, w0⟩
    rintro n s3 ⟨i, H3, I3, st3, fr3, w3⟩
    show wpAny _ X.A ((compTurn (.ListComp elt [⟨.Name x px, iter, ifs, 0⟩] scope pos) 0 (.ref it) (.ref s2.heap.objs.size) (compEnvC scope cl P2.objs.size X.env)).onRaise (fun x => do noteFrame x (compEnvC scope cl P2.objs.size X.env); theTreesLotGoes x)) _ _ s3
    refine wpAny_noted ?_
    rw [compTurn_list]
    refine wpAny_bind (wpAny_standAt (wpAny_bind ?_))
    rcases turn i n H3 w3 with ⟨stop, qn⟩ | ⟨go, step⟩
    · refine wpAny_mono (T.done (cxComp X scope (x :: cn) cl P2.objs.size s2 H2 fp) rfl rfl rfl hc i [] s3 _ H3 (fun _ _ => False) I3 (stat fr3) st3 stop) (fun r s4 ⟨hr, I5⟩ => ?_) fun _ _ z => z.elim
      subst hr
      refine wpAny_pure ?_
      obtain ⟨m, hn, _⟩ := id I5.loc
      refine ⟨m, hn, fun h' hsb => ⟨.ref s2.heap.objs.size, H3, ?_, rfl, qn⟩⟩
      have kp : ∀ b o, b ≠ P2.objs.size → s4.heap.get? b = some o → h'.get? b = some o := fun b o hb e => hsb.extBut b o hb e
      have b0 := I5.base
      have sm : ∀ b o, s2.heap.get? b = some o → b ≠ P2.objs.size := fun b o e => neC b (Heap.lt_size e)
      refine I2.call' (s' := { s4 with heap := h' }) (ch := fp) I5.os ⟨fun b o e n hb hx => kp _ _ (sm b o e) (b0.keep b o e n hb hx), fun b o e n hb hx => ?_, b0.free, fun b o e hx => ?_, b0.tups, b0.frzs, b0.tbls⟩ (fun b u e => ?_) I5.bare
        fun b hb => ⟨(f2 b hb).2.2.2.1, (f2 b hb).2.1, (f2 b hb).2.2.2.2.1, (f2 b hb).2.2.2.2.2⟩
      · obtain ⟨sl, q⟩ := b0.slot b o e n hb hx
        exact ⟨sl, kp _ _ (sm b o e) q⟩
      · obtain ⟨o', q⟩ := b0.there b o e hx
        exact ⟨o', kp _ _ (sm b o e) q⟩
      · have hfree : H3 P2.objs.size = none := I5.free
        refine (I5.hok b u e).stay (fun c v hc' q => kp c v ?_ q) (fun _ q => q) fun _ _ q => q
        rcases hc' with z | z
        · rw [z]; exact ne_of_none e hfree
        · exact ne_of_none z hfree
    · refine wpAny_mono (T.item (cxComp X scope (x :: cn) cl P2.objs.size s2 H2 fp) rfl rfl rfl hc i [] s3 _ H3 (fun _ _ => False) I3 (stat fr3) st3 go) (fun r s4 ⟨u, hr, h4⟩ => ?_) fun _ _ z => z.elim
      subst hr
      refine wpAny_bind (wpAny_mono h4 (fun _ s5 ⟨xv, H5, I5, r5, y5, st5, fr5⟩ => ?_) fun _ _ z => z.elim)
      have I5' := I5.pinned (stat fr5) (T.obj _ _ st5)
      refine wpAny_bind (wpAny_mono (pgx _ s5 _ H5 xv u (fun σ6 H6 => σ6 = inSt cap (some xv) σ ∧ H6 = H5) I5' r5 ⟨rfl, rfl⟩) (fun _ s6 ⟨σ6, H6, I6, e6, e6'⟩ => ?_) fun _ _ z => z.elim)
      subst e6 e6'
      have again : ∀ {s7 : Shared} {H7 : Hp}, Inv (cxComp X scope (x :: cn) cl P2.objs.size s2 H2 fp) ([] ++ pinsAt fp s5.heap) (inSt cap (some xv) σ) H7 s7 → (∃ m', m' < n ∧ W (i + 1) m' H7) →
          ∃ m, m < n ∧ ∃ i H', Inv (cxComp X scope (x :: cn) cl P2.objs.size s2 H2 fp) [] (inSt cap none σ) H' s7 ∧ tn i s7.heap ∧ (∀ b ∈ fp, H' b = none) ∧ W i m H' := fun {s7 H7} I7 w7 => by
        obtain ⟨m', hm, w7⟩ := w7
        refine ⟨m', hm, i + 1, H7, I7.unpinned.weak rfl fun j v ev => ?_, T.keep _ _ _ st5 fun b hb o e => (I7.pin (b, o) (List.mem_append_right _ (List.mem_append_right _ (mem_pinsAt hb e)))).1, fun b hb => ?_, w7⟩
        · cases j with
          | zero => cases (show (none : Option V) = some v from Option.some.inj ev)
          | succ j => exact ev
        · obtain ⟨o, e, d⟩ := T.obj _ _ st5 b hb
          exact (I7.pin (b, o) (List.mem_append_right _ (List.mem_append_right _ (mem_pinsAt hb e)))).2.1
      refine wpAny_bind (wpAny_mono (hin cl P2.objs.size s2 H2 fp _ s6 _ _ _ I6 (step xv _ y5)) (fun ok s7 ⟨H7, I7, q7⟩ => ?_) fun _ _ z => z.elim)
      cases ok with
      | false =>
        have q7' : ∃ m', m' < n ∧ W (i + 1) m' H7 := by simpa using q7
        exact wpAny_pure ⟨rfl, again I7 q7'⟩
      | true =>
        have q7' := (if_pos rfl).mp q7
        refine wpAny_bind (wpAny_bind (wpAny_mono (he cl P2.objs.size s2 H2 fp _ s7 _ H7 _ I7 q7') (fun yv s8 ⟨y, H8, I8, r8, ys, h8, z8, q8⟩ => ?_) fun _ _ z => z.elim))
        refine wpAny_bind (wpAny_mono (mt_append (X := cxComp X scope (x :: cn) cl P2.objs.size s2 H2 fp) _ s8 _ H8 (.ref s2.heap.objs.size) [y] (.ref s2.heap.objs.size) [yv] (fun _ H9 => ∃ m', m' < n ∧ W (i + 1) m' H9) I8 rfl (.cons r8 .nil) ⟨_, ys, y, rfl, rfl, h8, z8, q8⟩) (fun _ s9 ⟨_, H9, I9, _, q9⟩ => ?_) fun _ _ z => z.elim)
        exact wpAny_pure (wpAny_pure ⟨rfl, again I9 q9⟩)
  exact codeAny_compStart_list (loop _ rfl) (T.self _ 0 _ _ _ (T.keep _ _ _ st2 fun b hb o e => old b o e) (loop _ rfl))
end
end L2
namespace L2
open PySem PySem.Spec PyProof.Rows

/-! ### texts -/
section
variable {X : Cx}
def rSlS : V → Option Int → Option Int → Hp → VK → Prop := fun x lo hi H Q => ∃ z, x = .str z ∧ z.length ≤ sizeLine ∧ Q (.str (Txt.slice z lo hi)) H
theorem sl_str : SlR X rSlS := by
  intro pins s σ H x v vl vu lo hi sl Q I rx hs pl pu h
  obtain ⟨z, rfl, hz, q⟩ := h
  obtain ⟨t, rfl⟩ := rx
  refine ⟨"str", _, F.slot_str_getitem.lookup, typeIs_str _ _ _, ?_⟩
  cases pl with
  | none =>
    cases pu with
    | none => exact wpAny_getItem_str_slice (l := none) (u := none) (st := none) hs rfl (post_val_or_str ⟨Nat.le_trans (Txt.slice_le z _ _) hz, fun t' k => ⟨.str _, H, I.tok k, ⟨_, rfl⟩, q⟩⟩)
    | int j uj => exact wpAny_getItem_str_slice (l := none) (u := some (j, uj)) (st := none) hs rfl (post_val_or_str ⟨Nat.le_trans (Txt.slice_le z _ _) hz, fun t' k => ⟨.str _, H, I.tok k, ⟨_, rfl⟩, q⟩⟩)
  | int i ui =>
    cases pu with
    | none => exact wpAny_getItem_str_slice (l := some (i, ui)) (u := none) (st := none) hs rfl (post_val_or_str ⟨Nat.le_trans (Txt.slice_le z _ _) hz, fun t' k => ⟨.str _, H, I.tok k, ⟨_, rfl⟩, q⟩⟩)
    | int j uj => exact wpAny_getItem_str_slice (l := some (i, ui)) (u := some (j, uj)) (st := none) hs rfl (post_val_or_str ⟨Nat.le_trans (Txt.slice_le z _ _) hz, fun t' k => ⟨.str _, H, I.tok k, ⟨_, rfl⟩, q⟩⟩)
/-- a slice of a list, a tuple, a text -/
def rSlX (K : PySem.W.Frag) : V → Option Int → Option Int → Hp → VK → Prop := fun x lo hi H Q => rSlL K x lo hi H Q ∨ rSlT K x lo hi H Q ∨ rSlS x lo hi H Q
theorem slX : SlR X (rSlX X.K) := sl_list.or (sl_tup.or sl_str)
def rFind : V → List V → Hp → VK → Prop := fun x vs H Q => ∃ a b, x = .str a ∧ vs = [.str b] ∧ Q (.int (Txt.find a b)) H
theorem mt_find : MtR X "str.find" rFind := by
  intro pins s σ H x vs v us Q I rx rv h
  obtain ⟨a, b, rfl, rfl, q⟩ := h
  obtain ⟨t, rfl⟩ := rx
  obtain ⟨u, rfl, t', rfl⟩ := rv.one
  exact SC.find ⟨.int _, H, I.tok _, ⟨_, rfl⟩, q⟩
def rStarts : V → List V → Hp → VK → Prop := fun x vs H Q => ∃ a b, x = .str a ∧ vs = [.str b] ∧ Q (.bl (Txt.startswith a b)) H
theorem mt_startswith : MtR X "str.startswith" rStarts := by
  intro pins s σ H x vs v us Q I rx rv h
  obtain ⟨a, b, rfl, rfl, q⟩ := h
  obtain ⟨t, rfl⟩ := rx
  obtain ⟨u, rfl, t', rfl⟩ := rv.one
  exact SC.startswith ⟨.bl _, H, I, rfl, q⟩
def rZfill : V → List V → Hp → VK → Prop := fun x vs H Q => ∃ a i, x = .str a ∧ vs = [.int i] ∧ PadOk i = true ∧ Q (.str (Txt.zfill a i)) H
theorem mt_zfill : MtR X "str.zfill" rZfill := by
  intro pins s σ H x vs v us Q I rx rv h
  obtain ⟨a, i, rfl, rfl, hp, q⟩ := h
  obtain ⟨t, rfl⟩ := rx
  obtain ⟨u, rfl, t', rfl⟩ := rv.one
  exact SC.zfill hp fun t' k => ⟨.str _, H, I.tok _, ⟨_, rfl⟩, q⟩
theorem strsAre_of : ∀ {ys : List Str} {us : List Value}, Vals (ys.map V.str) us → StrsAre us ys
  | [], _, .nil => .nil
  | y :: ys, _, .cons r t => by
    obtain ⟨k, rfl⟩ := r
    exact .cons y k (strsAre_of t)
def rJoin (K : PySem.W.Frag) : V → List V → Hp → VK → Prop := fun x vs H Q => ∃ (a : Str) (l : Addr) (ys : List Str), x = .str a ∧ vs = [.ref l] ∧ SqL K H l (ys.map V.str) ∧ (ys.map (·.length)).sum + ys.length * a.length ≤ 16777216 ∧ Q (.str (Txt.join a ys)) H
theorem mt_join : MtR X "str.join" (rJoin X.K) := by
  intro pins s σ H x vs v us Q I rx rv h
  obtain ⟨a, l, ys, rfl, rfl, hS, hz, q⟩ := h
  obtain ⟨t, rfl⟩ := rx
  obtain ⟨u, rfl, ru⟩ := rv.one
  cases ru
  obtain ⟨its, r, pl, _⟩ := I.list hS
  exact join_list pl.isList (by simpa using strsAre_of r) hz fun t' k => ⟨.str _, H, I.tok _, ⟨_, rfl⟩, q⟩
def rMulS : R2 := fun x y H Q => ∃ a n, x = .str a ∧ y = .int n ∧ a.length ≤ 16 ∧ 0 ≤ n ∧ n ≤ 1000000 ∧ Q (.str (Txt.mul a n)) H
theorem op_mulS : OpR X (binaryOp .Mult) rMulS := by
  intro pins s σ H x y v u Q I rx ry h
  obtain ⟨a, n, rfl, rfl, h1, h2, h3, q⟩ := h
  obtain ⟨t, rfl⟩ := rx
  obtain ⟨t', rfl⟩ := ry
  exact SB.mul (mulOk_of 16 1048576 h1 (by omega) (by omega) (by decide) (by decide)) fun t' k => ⟨.str _, H, I.tok _, ⟨_, rfl⟩, q⟩
def rMulX : R2 := fun x y H Q => rI IntMulOk (fun i j => .int (i * j)) x y H Q ∨ rRep x y H Q ∨ rMulS x y H Q
theorem op_mulX : OpR X (binaryOp .Mult) rMulX := op_mulB.or (op_rep.or op_mulS)
theorem call_int_str : CallR X (.type "int") (fun xs H Q => ∃ x n, xs = [.str x] ∧ PySem.intText? x = some n ∧ x.length ≤ 640 ∧ Q (.int n) H) := by
  intro pins s σ H xs us Q I r h
  obtain ⟨x, n, rfl, hn, hl, q⟩ := h
  obtain ⟨u, rfl, t, rfl⟩ := r.one
  exact PySem.W.KIN.call_text hn hl ⟨.int n, H, I.tok _, ⟨_, rfl⟩, q⟩
theorem call_intX : CallR X (.type "int") (fun xs H Q => ((∃ i, xs = [.int i] ∧ Q (.int i) H) ∨ ∃ k, xs = [.bl k] ∧ Q (.int (if k then 1 else 0)) H) ∨ ∃ x n, xs = [.str x] ∧ PySem.intText? x = some n ∧ x.length ≤ 640 ∧ Q (.int n) H) := call_int1.or call_int_str
/-- x in y: a text in a text, an item in a list or tuple -/
theorem op_inX : OpR X (compareOp .In) (fun x y H Q => (∃ i j, x = .str i ∧ y = .str j ∧ Q (.bl (!(Builtin.Str.occurrences j i 0 j.length 1).isEmpty)) H) ∨ rIn X.K false x y H Q) := op_in_str.or op_in_seq
theorem range_allB : ∀ bs : List Bool, (List.range bs.length).all (fun i => (bs[i]?).getD true) = bs.all id
  | [] => rfl
  | b :: bs => by
    rw [List.length_cons, List.range_succ_eq_map, List.all_cons, List.all_map, List.all_cons]
    have := range_allB bs
    simp only [Function.comp_def, List.getElem?_cons_succ] at *
    rw [this]
    rfl
theorem call_all_list (hc : X.calm = true) : CallR X (.builtin "all") (fun xs H Q => ∃ (l : Addr) (bs : List Bool), xs = [.ref l] ∧ SqL X.K H l (bs.map V.bl) ∧ Q (.bl (bs.all id)) H) := by
  intro pins s σ H xs us Q I r h
  obtain ⟨l, bs, rfl, hS, q⟩ := h
  obtain ⟨u, rfl, ru⟩ := r.one
  cases ru
  obtain ⟨its, rv, pl, hz⟩ := I.list hS
  have hl := rv.length
  rw [List.length_map] at hl
  have hlt : l < s.heap.objs.size := by obtain ⟨o, n, e, _⟩ := pl; exact Heap.lt_size e
  refine call_all_walk (wpAny_pyIter_list pl.isList ?_)
  refine ⟨s.heap.objs.size, [s.heap.objs.size, l], [s.heap.objs.size], its.toArray.size, _, _, fun i => (bs[i]?).getD true, rfl, Walks.list (A := X.A.in1) (I.ok.hd hc) _ l (Nat.ne_of_lt hlt) its.toArray,
    ⟨⟨_, Heap.get?_push_size _ rfl, rfl, rfl⟩, pl.isList.push _⟩, fun i v s' Q' E' hP hQ => ?_, fun h' tk hk => ?_⟩
  · have hP' : its[i]? = some v := by simpa using hP
    have hi : i < its.length := (List.getElem?_eq_some_iff.mp hP').1
    obtain ⟨u, e1, e2⟩ := rv.get (i := i) (x := .bl bs[i]) (by rw [List.getElem?_map, List.getElem?_eq_getElem (by omega)]; rfl)
    rw [hP'] at e1
    cases e1
    cases e2
    have e3 : bs[i]? = some bs[i] := List.getElem?_eq_getElem (by omega)
    simp only [e3, Option.getD_some] at hQ
    exact wpAny_truthy_bool hQ
  · have e : ((List.range its.toArray.size).all fun i => (bs[i]?).getD true) = bs.all id := by
      rw [List.size_toArray, ← hl]; exact range_allB bs
    rw [e]
    have kp : ∀ b x, s.heap.get? b = some x → h'.get? b = some x := fun b x e => hk b x (fun hm => by rw [List.mem_singleton.mp hm] at e; exact Nat.lt_irrefl _ (Heap.lt_size e)) (Heap.get?_push_of_some _ e)
    exact ⟨.bl _, H, I.kept kp, rfl, q⟩

/-! ### the signs of a text, one by one -/
def Its (z : Str) : It := ⟨fun i _ => i < z.cps.size, fun i H x H' => H' = H ∧ ∃ c, z.cps.toList[i]? = some c ∧ x = .str ⟨#[c]⟩, fun i _ => i = z.cps.size⟩
theorem turn_str {P : Program} {w : World} {K : PySem.W.Frag} {tg : Expr} {T : String} {z : Str} {t : Tok} (it : Addr) (hT : ["enumerate", "zip", "dict_itemiterator", "dict_reverseitemiterator", "odict_iterator", "itertools.zip_longest", "itertools.pairwise"].contains T = false)
    (W : ∀ A : Around, A.handled = none → Walks P w A it [it] [it] z.cps.size (SignAt z) (fun i h => h.IsStrIter it T z t i)) (W0 : ∀ (A : Around) (i : Nat) (s : Shared) (Q : Value → Shared → Prop) (E : Value → Shared → Prop), s.heap.IsStrIter it T z t i → Q (.ref it) s → wpAny (model P w) A (pyIter (.ref it)) Q E s) :
    Turn P w K tg (Its z) [it] it (fun i h => h.IsStrIter it T z t i) where
  mem := by simp
  obj := fun i h st b hb => by
    have e : b = it := by simpa using hb
    subst e
    obtain ⟨o, e, c, d⟩ := st
    exact ⟨o, e, fun v q => by rw [d] at q; cases q⟩
  keep := fun i h h' st k => by
    obtain ⟨o, e, c, d⟩ := st
    exact ⟨o, k it (by simp) o e, c, d⟩
  item := by
    intro X hP hw hK hc i pins s σ H E I hf st hg
    subst hP hw hK
    obtain ⟨f0, f1, f2, f3, f4, f5⟩ := hf it (by simp)
    refine (W X.A (I.ok.hd hc)).item i s _ _ hg st fun v h' tk hv st' kk => ?_
    obtain ⟨c, u, hc', rfl⟩ := hv
    have I1 : Inv X pins σ H { s with heap := h', toks := tk } := I.turned (fun b o hb e => kk b o (by simpa using hb) e) f0 f1 f3 f4 f5
    obtain ⟨o, e, hcl, hd⟩ := id st'
    refine ⟨_, rfl, go_of (s := { s with heap := h', toks := tk }) e hcl hd hT ⟨.str ⟨#[c]⟩, H, I1, ⟨u, rfl⟩, ⟨rfl, c, ?_, rfl⟩, st', fun b hb => (hf b hb).1⟩⟩
    rw [← hc']; simp
  done := by
    intro X hP hw hK hc i pins s σ H E I hf st hg
    subst hP hw hK
    obtain ⟨f0, f1, f2, f3, f4, f5⟩ := hf it (by simp)
    have hg' : i = z.cps.size := hg
    subst hg'
    exact (W X.A (I.ok.hd hc)).done s _ _ st fun h' tk hk => ⟨rfl, I.turned (fun b o hb e => hk b o (by simpa using hb) e) f0 f1 f3 f4 f5⟩
  self := fun A i s Q E st h => W0 A i s Q E st h

def iStr (te : TE) : TI := fun σ H R => te σ H fun x H1 => ∃ z, x = .str z ∧ R (Its z) H1
theorem pi_str {tg e : Expr} {te : TE} (he : PE X e te) : PI X tg e (iStr te) := by
  intro pins s σ H R I h
  refine thn (he pins s σ H _ I h) fun v s1 ⟨x, H1, I1, r1, z, ez, q⟩ => ?_
  subst ez
  obtain ⟨t, rfl⟩ := r1
  have fin : ∀ (T : String), (["enumerate", "zip", "dict_itemiterator", "dict_reverseitemiterator", "odict_iterator", "itertools.zip_longest", "itertools.pairwise"].contains T = false) →
      (∀ A : Around, A.handled = none → Walks X.prog X.w A s1.heap.objs.size [s1.heap.objs.size] [s1.heap.objs.size] z.cps.size (SignAt z) (fun i h => h.IsStrIter s1.heap.objs.size T z t i)) →
      (∀ (A : Around) (i : Nat) (s : Shared) (Q : Value → Shared → Prop) (E : Value → Shared → Prop), s.heap.IsStrIter s1.heap.objs.size T z t i → Q (.ref s1.heap.objs.size) s → wpAny (model X.prog X.w) A (pyIter (.ref s1.heap.objs.size)) Q E s) →
      PIE X pins σ tg R (.ref s1.heap.objs.size) { s1 with heap := s1.heap.push { cls := .type T, data := .fields #[.str z t, .int 0 0] } } := fun T hT W W0 => by
    refine ⟨s1.heap.objs.size, [s1.heap.objs.size], _, Its z, H1, rfl, I1.kept (t' := s1.toks) fun b o e => Heap.get?_push_of_some _ e, turn_str s1.heap.objs.size hT W W0, ⟨_, Heap.get?_push_size _ rfl, rfl, rfl⟩, fun b hb => ?_, q⟩
    have e : b = s1.heap.objs.size := by simpa using hb
    subst e
    exact I1.fpOk (Nat.le_refl _) (I1.hok.fresh (Nat.le_refl _))
  cases ha : z.cps.all (· < 128)
  · exact wpAny_pyIter_wide ha (fin "str_iterator" (by decide) (fun A hA => Walks.strWide hA _ z t) fun A i s Q E st h => wpAny_pyIter_striter_wide st h)
  · exact wpAny_pyIter_ascii ha (fin "str_ascii_iterator" (by decide) (fun A hA => Walks.strAscii hA _ z t) fun A i s Q E st h => wpAny_pyIter_striter_ascii st h)
theorem pi_or {tg e : Expr} {wi wi' : TI} (h : PI X tg e wi) (h' : PI X tg e wi') : PI X tg e (fun σ H R => wi σ H R ∨ wi' σ H R) := by
  intro pins s σ H R I q
  rcases q with q | q
  · exact h pins s σ H R I q
  · exact h' pins s σ H R I q
/-- over a text that nothing changes -/
theorem for_str {z : Str} {g : TG} {tb : TS} {D : Ends} {σ : St} {H : Hp} (Pv : Nat → St → Hp → Prop) (h0 : Pv 0 σ H)
    (hs : ∀ i c σ H, z.cps.toList[i]? = some c → Pv i σ H → g (.str ⟨#[c]⟩) σ H fun σ2 H2 => tb { D with nx := Pv (i + 1), ct := Pv (i + 1), bk := D.nx } σ2 H2) (hd : ∀ σ H, Pv z.cps.size σ H → D.nx σ H) :
    ∃ W : Nat → Nat → St → Hp → Prop, (∃ m, W 0 m σ H) ∧ ∀ i m σ H, W i m σ H →
      ((Its z).stop i H ∧ D.nx σ H) ∨ ((Its z).go i H ∧ ∃ N : St → Hp → Prop, (∀ σ' H', N σ' H' → ∃ m', m' < m ∧ W (i + 1) m' σ' H') ∧ ∀ x H', (Its z).yld i H x H' → g x σ H' fun σ2 H2 => tb { D with nx := N, ct := N, bk := D.nx } σ2 H2) := by
  refine ⟨fun i m σ H => m = z.cps.size - i ∧ i ≤ z.cps.size ∧ Pv i σ H, ⟨_, rfl, Nat.zero_le _, h0⟩, ?_⟩
  rintro i m σ H ⟨rfl, hi, p⟩
  by_cases hlt : i < z.cps.size
  · refine .inr ⟨hlt, Pv (i + 1), fun σ' H' p' => ⟨_, by omega, rfl, hlt, p'⟩, fun x H' y => ?_⟩
    obtain ⟨rfl, c, hc, rfl⟩ := y
    exact hs i c σ _ hc p
  · have e : i = z.cps.size := by omega
    subst e
    exact .inl ⟨rfl, hd σ H p⟩

/-! ### a comprehension whose test and element change nothing -/
theorem comp_by {J : It} {H1 : Hp} {tc : TT} {te : TE} {cap : List Nat} {σ : St} {Q : VK} (items : List V) (p : V → Bool) (f : V → V) (hz : items.length < sizeLine)
    (hgo : ∀ i H3, Same H1 H3 → i < items.length → J.go i H3) (hst : ∀ H3, Same H1 H3 → J.stop items.length H3) (hy : ∀ i H3 x H', Same H1 H3 → i < items.length → J.yld i H3 x H' → H' = H3 ∧ items[i]? = some x)
    (ht : ∀ x ∈ items, ∀ H3 K, Same H1 H3 → K (p x) H3 → tc (inSt cap (some x) σ) H3 K) (he : ∀ x ∈ items, p x = true → ∀ H3 K, Same H1 H3 → K (f x) H3 → te (inSt cap (some x) σ) H3 K)
    (hq : ∀ acc, H1 acc = none → Q (.ref acc) (upd H1 acc (.lst ((items.filter p).map f)))) :
    compBody J tc te cap σ Q H1 := by
  intro acc ha
  have sm : ∀ o, Same H1 (upd H1 acc o) := fun o b u q => by rw [upd_ne (ne_of_none q ha)]; exact q
  refine ⟨fun i m H => m = items.length - i ∧ i ≤ items.length ∧ H = upd H1 acc (.lst (((items.take i).filter p).map f)), ⟨_, rfl, Nat.zero_le _, rfl⟩, ?_⟩
  rintro i m H ⟨rfl, hi, rfl⟩
  by_cases hlt : i < items.length
  · refine .inr ⟨hgo i _ (sm _) hlt, fun x H' y => ?_⟩
    obtain ⟨rfl, ex⟩ := hy i _ x H' (sm _) hlt y
    have tk : items.take (i + 1) = items.take i ++ [x] := by rw [List.take_add_one, ex]; rfl
    have mx : x ∈ items := List.mem_of_getElem? ex
    refine ht x mx _ _ (sm _) ?_
    cases hp : p x with
    | false =>
      rw [if_neg Bool.false_ne_true]
      refine ⟨items.length - (i + 1), by omega, rfl, hlt, ?_⟩
      rw [tk, List.filter_append, List.filter_cons_of_neg (by rw [hp]; exact Bool.false_ne_true), List.filter_nil, List.append_nil]
    | true =>
      rw [if_pos rfl]
      refine he x mx hp _ _ (sm _) ⟨_, upd_same, ?_, items.length - (i + 1), by omega, rfl, hlt, ?_⟩
      · rw [List.length_map]
        exact Nat.lt_of_le_of_lt (Nat.le_trans (List.length_filter_le _ _) (by rw [List.length_take]; exact Nat.min_le_right _ _)) hz
      · rw [upd_upd, tk, List.filter_append, List.filter_cons_of_pos hp, List.filter_nil, List.map_append]
        rfl
  · have e : i = items.length := by omega
    subst e
    refine .inl ⟨hst _ (sm _), ?_⟩
    rw [List.take_length]
    exact hq acc ha
theorem its_go (z : Str) : ∀ i (H3 : Hp), i < (z.cps.toList.map fun c => V.str ⟨#[c]⟩).length → (Its z).go i H3 := fun i _ h => by
  show i < z.cps.size
  simpa using h
theorem its_stop (z : Str) : ∀ (H3 : Hp), (Its z).stop (z.cps.toList.map fun c => V.str ⟨#[c]⟩).length H3 := fun _ => by
  show (z.cps.toList.map fun c => V.str ⟨#[c]⟩).length = z.cps.size
  simp
theorem its_yld (z : Str) : ∀ i (H3 : Hp) x H', (Its z).yld i H3 x H' → H' = H3 ∧ (z.cps.toList.map fun c => V.str ⟨#[c]⟩)[i]? = some x := fun i H3 x H' y => by
  obtain ⟨e, c, hc, rfl⟩ := y
  exact ⟨e, by rw [List.getElem?_map, hc]; rfl⟩
theorem itr_go (lo : Int) (n : Nat) : ∀ i (H3 : Hp), i < ((List.range n).map fun (i : Nat) => V.int (lo + i)).length → (Itr lo n).go i H3 := fun i _ h => by
  show i < n
  simpa using h
theorem itr_stop (lo : Int) (n : Nat) : ∀ (H3 : Hp), (Itr lo n).stop ((List.range n).map fun (i : Nat) => V.int (lo + i)).length H3 := fun _ => by
  show n ≤ ((List.range n).map fun (i : Nat) => V.int (lo + i)).length
  simp
theorem itr_yld (lo : Int) (n : Nat) : ∀ i (H3 : Hp) x H', i < n → (Itr lo n).yld i H3 x H' → H' = H3 ∧ ((List.range n).map fun (i : Nat) => V.int (lo + i))[i]? = some x := fun i H3 x H' hi y => by
  obtain ⟨e, rfl⟩ := y
  exact ⟨e, by rw [List.getElem?_map, List.getElem?_range hi]; rfl⟩
end
end L2
namespace L2
open PySem PySem.Spec PyProof.Rows
/-! ### a def with defaults -/
structure FunX (K : PySem.W.Frag) (x qual : Str) (st : Stmt) (f : Addr) (fd : FuncData) (dV : Value) : Prop where
  ex : ∃ (oc : Value) (od : Option Addr) (kV doc pm : Value) (an : Option Addr) (cdv ct : Value) (osl : Array (Option Value)),
    fd = PySem.W.fnOf x qual (defArgs st) (defBody st) (defScope st) dV kV doc pm an cdv ct ∧ K.lookup f = some ⟨oc, od, .func fd, osl⟩ ∧ PySem.W.codeIn K cdv qual = true
  kp : PySem.W.keepIn K (.ref f) = true
section
variable {P : Program} {w : World} {K : PySem.W.Frag} {mg : Str → Option Value} {base : Heap}
theorem FunX.ok {x qual : Str} {st : Stmt} {f : Addr} {fd : FuncData} {dV : Value} {N ps : List Str} {k : Nat} {sp : Sp} (F : FunX K x qual st f fd dV) (S : FnScope N ps (defScope st)) (len : ∀ vs H Q E, sp vs H Q E → vs.length = ps.length)
    (hbody : ∀ (cdv : Value) (A : Around) (outer : List Env) (s : Shared) (H : Hp) (vs : List V) (Q : VK) (E : XK), Room k (A.deeper (envOfC qual (defScope st) s.heap.objs.size f cdv)) → sp vs H Q E →
      ∃ t, PSs (cxOf CX0 P w K mg base N qual (defScope st) f cdv A outer s H E).nox (defBody st) t ∧ t { nx := fun _ H' => Q .non H', rt := Q } (start N vs) H) : FnOk P w K mg base CX0 (k + 1) f fd ps sp := by
  obtain ⟨oc, od, kV, doc, pm, an, cdv, ct, osl, rfl, lk, hcd⟩ := F.ex
  refine fn_of lk hcd S len fun A outer s H vs Q E hr hsp => ?_
  obtain ⟨t, h, q⟩ := hbody cdv A outer s H vs Q E hr hsp
  exact ⟨t, h.nox, q⟩
theorem funX_mk {x qual : Str} {st : Stmt} {f : Addr} {oc dV : Value} {od an : Option Addr} {osl : Array (Option Value)} {kV doc pm cdv ct : Value} (l : K.lookup f = some ⟨oc, od, .func (PySem.W.fnOf x qual (defArgs st) (defBody st) (defScope st) dV kV doc pm an cdv ct), osl⟩)
    (c : PySem.W.codeIn K cdv qual = true) (k : PySem.W.keepIn K (.ref f) = true) : FunX K x qual st f (PySem.W.fnOf x qual (defArgs st) (defBody st) (defScope st) dV kV doc pm an cdv ct) dV := ⟨⟨oc, od, kV, doc, pm, an, cdv, ct, osl, rfl, l, c⟩, k⟩
end
structure GotD (P : Program) (w : World) (K : PySem.W.Frag) (mg : Str → Option Value) (base : Heap) (k : Nat) (x : Str) (ps : List Str) (dvs : List V) (sp : Sp) : Prop where
  ex : ∃ f fd ds, FnOk P w K mg base CX0 k f fd ps sp ∧ Binds K fd ps ds ∧ Vals dvs ds ∧ PySem.W.keepIn K (.ref f) = true ∧ mg x = some (.ref f)
section
variable {X : Cx} {k n : Nat} {x : Str} {ps : List Str} {sp : Sp} {p pos : Pos} {e : Expr} {es : List Expr} {t : TA} {dvs : List V}
theorem pe_goD (g : GotD X.prog X.w X.K X.mg X.base k x ps dvs sp) (hr : Room n X.A) (hk : k ≤ n) (hg : Gl X x) (ha : PA X (e :: es) t) (hdb : (x == ("__debug__" : Str)) = false := by decide)
    (he : starEach (e :: es) X.env = (false, eval e X.env) :: starEach es X.env := by rfl) (hpl : (backTo pos (starEach es X.env)).any (·.1) = false := by rfl) :
    PE X (.Call (.Name x p) (e :: es) [] pos) (tCall sp dvs E0 t) := by
  obtain ⟨f, fd, ds, F, hb, hd, hkp, hm⟩ := g.ex
  exact pe_call F (hr.mono hk) hg hm hkp hb hd pass0 ha hdb he hpl
/-- a name of the text's top that holds a plain value -/
theorem pe_gl {v : V} (hg : Gl X x) (h : ∃ u, X.mg x = some u ∧ RelV v u) (hd : (x == ("__debug__" : Str)) = false := by decide) : PE X (.Name x pos) (tC v) := by
  obtain ⟨u, hm, r⟩ := h
  exact pe_glob hg hm r hd
/-- what a comprehension's scope asks, said of the written scopes -/
structure CompC (fsc : Scope) (N : List Str) (scope : Scope) (x : Str) (cn : List Str) (cap : List Nat) : Prop where
  kind : scope.kind = .function
  names : ∀ y ∈ scope.names, y.2 = .local → scope.names.lookup y.1 = some .local
  cell : ∀ y ∈ scope.names, y.2 ≠ .cell
  own : scope.names.lookup x = some .local
  free : ∀ y ∈ scope.names, y.2 = .free → fsc.names.lookup y.1 = some .cell ∨ fsc.names.lookup y.1 = some .free
  cap : cap.map (fun i => N[i]?) = cn.map some
  capf : ∀ y ∈ cn, scope.names.lookup y = some .free
  capo : ∀ y ∈ cn, fsc.names.lookup y = some .cell ∨ fsc.names.lookup y = some .free
  nd : (x :: cn).Nodup
theorem CompC.to {fsc : Scope} {N : List Str} {scope : Scope} {cn : List Str} {cap : List Nat} (c : CompC fsc N scope x cn cap) (e1 : X.env.scope = fsc) (e2 : X.N = N) : CompScope X scope x cn cap := by
  subst e1 e2
  exact ⟨c.kind, c.names, c.cell, c.own, c.free, c.cap, c.capf, c.capo, c.nd⟩
end
/-! the rules with the written part named, for a comprehension's block -/
section
variable {X : Cx} {K : PySem.W.Frag}
theorem op_inK (h : X.K = K) : OpR X (compareOp .In) (fun x y H Q => (∃ i j, x = .str i ∧ y = .str j ∧ Q (.bl (!(Builtin.Str.occurrences j i 0 j.length 1).isEmpty)) H) ∨ rIn K false x y H Q) := by
  subst h; exact op_inX
theorem ix_seqK (h : X.K = K) : IxR X (rIx K) := by
  subst h; exact ix_seq
theorem slXK (h : X.K = K) : SlR X (rSlX K) := by
  subst h; exact slX
theorem lenGK (h : X.K = K) : CallR X (.builtin "len") (fun xs H Q => (∃ p ys, xs = [.ref p] ∧ (SqL K H p ys ∨ SqT K H p ys) ∧ Q (.int ys.length) H) ∨ ∃ z, xs = [.str z] ∧ z.length ≤ sizeLine ∧ Q (.int z.length) H) := by
  subst h; exact lenG
theorem op_eqGK (h : X.K = K) (hu : X.A.units + 64 < cLine) : OpR X (compareOp .Eq) (rEqG K) := by
  subst h; exact op_eqG hu
theorem op_neGK (h : X.K = K) (hu : X.A.units + 64 < cLine) : OpR X (compareOp .NotEq) (rNeG K) := by
  subst h; exact op_neG hu
theorem mt_joinK (h : X.K = K) : MtR X "str.join" (rJoin K) := by
  subst h; exact mt_join
theorem pe_bmK {o e : Expr} {es : List Expr} {to : TE} {t : TA} {name : Str} {apos cpos : Pos} {T id : String} {r : V → List V → Hp → VK → Prop} (h : X.K = K) (pa : PlainAttrs T) (slot : Slot T name id) (hty : typeOf (.builtin id) = pure (.type "method_descriptor")) (hm : MtR X id r) (ho : PE X o to) (ha : PA X (e :: es) t)
    (hbase : attributeBase o name X.env (eval o X.env) = eval o X.env := by rfl)
    (hfew : ((backTo cpos (starEach (e :: es) X.env)).all (fun x => !x.1) && (backToKw cpos (keywordEach [] X.env)).all (fun x => x.1.isSome)
      && decide ((e :: es).length + ([] : List Keyword).length + (if ([] : List Keyword).isEmpty then 0 else 1) < 30)) = true := by rfl)
    (hline : (apos.endLine == cpos.line) = true := by rfl) (hs : starEach (e :: es) X.env = (false, eval e X.env) :: starEach es X.env := by rfl) (hplain : (backTo cpos (starEach es X.env)).any (·.1) = false := by rfl) :
    PE X (.Call (.Attribute o name apos) (e :: es) [] cpos) (tBM K T r to t) := by
  subst h; exact pe_bm pa slot hty hm ho ha hbase hfew hline hs hplain
end
theorem b_all : bootBuiltins "all" = some (.builtin "all") := by decide +kernel
theorem b_reversed : bootBuiltins "reversed" = some (.type "reversed") := by decide +kernel
end L2
namespace Tx
open PySem
abbrev cs (x : Str) : List Nat := x.cps.toList
theorem cs_len (x : Str) : (cs x).length = x.length := Array.length_toList
theorem ext {x y : Str} (h : cs x = cs y) : x = y := PyProof.Rows.ext_toList h
def dig (c : Nat) : Bool := decide (48 ≤ c) && decide (c ≤ 57)
def low (c : Nat) : Bool := decide (97 ≤ c) && decide (c ≤ 122)
def val (l : List Nat) : Int := l.foldl (fun (v : Int) (c : Nat) => v * 10 + ((c : Int) - 48)) 0
theorem val_snoc (l : List Nat) (c : Nat) : val (l ++ [c]) = val l * 10 + ((c : Int) - 48) := by
  unfold val
  rw [List.foldl_append]
  rfl
/-- the number that a text writes -/
def numL : List Nat → Option Int
  | [] => none
  | c :: r => if (c :: r).length ≤ 60 ∧ (c :: r).all dig = true ∧ (r = [] ∨ c ≠ 48) then some (val (c :: r)) else none
def num (x : Str) : Option Int := numL (cs x)
theorem figs : cs (Str.ofString "0123456789") = [48, 49, 50, 51, 52, 53, 54, 55, 56, 57] := by decide +kernel
theorem lets : cs (Str.ofString "abcdefghijklmnopqrstuvwxyz") = [97, 98, 99, 100, 101, 102, 103, 104, 105, 106, 107, 108, 109, 110, 111, 112, 113, 114, 115, 116, 117, 118, 119, 120, 121, 122] := by decide +kernel
theorem in_figs (c : Nat) : decide (c ∈ cs (Str.ofString "0123456789")) = dig c := by
  rw [figs]
  unfold dig
  rw [Bool.eq_iff_iff, Bool.and_eq_true, decide_eq_true_iff, decide_eq_true_iff, decide_eq_true_iff]
  simp only [List.mem_cons, List.not_mem_nil, or_false]
  omega
theorem in_lets (c : Nat) : decide (c ∈ cs (Str.ofString "abcdefghijklmnopqrstuvwxyz")) = low c := by
  rw [lets]
  unfold low
  rw [Bool.eq_iff_iff, Bool.and_eq_true, decide_eq_true_iff, decide_eq_true_iff, decide_eq_true_iff]
  simp only [List.mem_cons, List.not_mem_nil, or_false]
  omega
theorem find_nonneg (x : Str) (c : Nat) : decide (0 ≤ Txt.find x ⟨#[c]⟩) = decide (c ∈ cs x) := by
  have f := StrLaws.found_one x c
  rw [← f]
  unfold Txt.find
  cases h : Builtin.Str.occurrences x ⟨#[c]⟩ 0 x.length 1 with
  | nil => rfl
  | cons i r =>
    show decide (0 ≤ ((i : Nat) : Int)) = _
    rw [decide_eq_true (by omega)]
    rfl
theorem fig_at : ∀ i, i < 10 → ((Str.ofString "0123456789").cps.extract i (i + 1)).toList = [48 + i] := by decide +kernel
theorem fig_len : (Str.ofString "0123456789").length = 10 := by decide +kernel
theorem find_fig (c : Nat) : Txt.find (Str.ofString "0123456789") ⟨#[c]⟩ = if dig c = true then (c : Int) - 48 else -1 := by
  have f := find_nonneg (Str.ofString "0123456789") c
  rw [in_figs] at f
  rcases PyProof.Rows.find_spec (Str.ofString "0123456789") ⟨#[c]⟩ with h | ⟨i, h, hi, hs⟩
  · rw [h] at f ⊢
    have : dig c = false := by rw [← f]; decide
    rw [this, if_neg Bool.false_ne_true]
  · rw [h] at f ⊢
    have d : dig c = true := by rw [← f]; exact decide_eq_true (by omega)
    rw [d, if_pos rfl]
    have hl : (⟨#[c]⟩ : Str).length = 1 := rfl
    rw [hl, fig_len] at hi
    have e := congrArg (fun s : Str => s.cps.toList) hs
    rw [hl] at e
    have e2 : ((Str.ofString "0123456789").cps.extract i (i + 1)).toList = [c] := e
    rw [fig_at i (by omega)] at e2
    have : 48 + i = c := (List.cons.inj e2).1
    omega
theorem starts0 (x : Str) : Txt.startswith x (Str.ofString "0") = decide ((cs x)[0]? = some 48) := by
  have e0 : (Str.ofString "0").cps = #[48] := by decide +kernel
  have l0 : (Str.ofString "0").length = 1 := by decide +kernel
  unfold Txt.startswith Builtin.Str.subAt
  rw [e0, l0]
  obtain ⟨⟨l⟩⟩ := x
  cases l with
  | nil => rfl
  | cons c r =>
    show (decide (0 + 1 ≤ (c :: r).length) && ((Array.mk (c :: r)).extract 0 (0 + 1) == #[48])) = decide (some c = some 48)
    rw [decide_eq_true (by simp)]
    have : (Array.mk (c :: r)).extract 0 (0 + 1) = #[c] := by simp
    rw [this, Bool.true_and]
    by_cases h : c = 48
    · subst h; rfl
    · rw [decide_eq_false (by intro q; exact h (Option.some.inj q))]
      simp [h]
theorem zero_iff (x : Str) : x = Str.ofString "0" ↔ cs x = [48] := by
  have e0 : cs (Str.ofString "0") = [48] := by decide +kernel
  constructor
  · rintro rfl; exact e0
  · intro h; exact ext (h.trans e0.symm)
theorem empty_iff (x : Str) : x = Str.ofString "" ↔ cs x = [] := by
  have e0 : cs (Str.ofString "") = [] := by decide +kernel
  constructor
  · rintro rfl; exact e0
  · intro h; exact ext (h.trans e0.symm)
theorem val_digits : ∀ (l : List Nat) (a : Nat), l.all dig = true → l.foldl (fun (v : Int) (c : Nat) => v * 10 + ((c : Int) - 48)) (a : Int) = ((l.foldl (fun acc c => acc * 10 + (c - 48)) a : Nat) : Int)
  | [], _, _ => rfl
  | c :: r, a, h => by
    rw [List.all_cons, Bool.and_eq_true] at h
    have hd : 48 ≤ c ∧ c ≤ 57 := by
      have := h.1
      unfold dig at this
      rw [Bool.and_eq_true, decide_eq_true_iff, decide_eq_true_iff] at this
      exact this
    rw [List.foldl_cons, List.foldl_cons, ← val_digits r (a * 10 + (c - 48)) h.2]
    congr 1
    omega
theorem int_of {x : Str} (h : (cs x).all dig = true) (hne : cs x ≠ []) (hl : x.length ≤ 640) : intText? x = some (val (cs x)) := by
  have hd : NumText.AllDigits (cs x) := fun c hc => by
    have := List.all_eq_true.mp h c hc
    unfold dig at this
    rw [Bool.and_eq_true, decide_eq_true_iff, decide_eq_true_iff] at this
    exact this
  rw [PySem.intText_digits hd hne (by omega)]
  have := val_digits (cs x) 0 h
  unfold val NumText.digitsVal
  exact congrArg some this.symm
/-- a row of signs of such a kind -/
def row (p : Nat → Bool) (m : Int) (x : Str) : Bool := decide (1 ≤ x.length) && decide ((x.length : Int) ≤ m) && (cs x).all p
theorem num_none {x : Str} (h : row dig 60 x = false) : num x = none := by
  unfold num row at *
  have l := cs_len x
  cases e : cs x with
  | nil => rfl
  | cons c r =>
    rw [e] at h l
    show (if (c :: r).length ≤ 60 ∧ (c :: r).all dig = true ∧ (r = [] ∨ c ≠ 48) then some (val (c :: r)) else none) = none
    rw [if_neg]
    rintro ⟨h1, h2, _⟩
    have a1 : decide (1 ≤ x.length) = true := decide_eq_true (by rw [← l]; simp)
    have a2 : decide ((x.length : Int) ≤ 60) = true := decide_eq_true (by omega)
    rw [a1, a2, h2] at h
    cases h
theorem num_row {x : Str} (h : row dig 60 x = true) : (cs x).all dig = true ∧ cs x ≠ [] ∧ x.length ≤ 60 ∧ ((∃ r, cs x = 48 :: r ∧ r ≠ []) → num x = none) ∧ ((¬ ∃ r, cs x = 48 :: r ∧ r ≠ []) → num x = some (val (cs x))) := by
  unfold num row at *
  rw [Bool.and_eq_true, Bool.and_eq_true, decide_eq_true_iff, decide_eq_true_iff] at h
  obtain ⟨⟨h1, h2⟩, h3⟩ := h
  have l := cs_len x
  refine ⟨h3, ?_, by omega, fun q => ?_, fun q => ?_⟩
  · intro e; rw [e] at l; simp at l; omega
  · obtain ⟨r, e, hr⟩ := q
    rw [e]
    show (if (48 :: r).length ≤ 60 ∧ (48 :: r).all dig = true ∧ (r = [] ∨ 48 ≠ 48) then some (val (48 :: r)) else none) = none
    rw [if_neg]
    rintro ⟨_, _, z | z⟩
    · exact hr z
    · exact z rfl
  · cases e : cs x with
    | nil => rw [e] at l; simp at l; omega
    | cons c r =>
      rw [e] at l h3
      show (if (c :: r).length ≤ 60 ∧ (c :: r).all dig = true ∧ (r = [] ∨ c ≠ 48) then some (val (c :: r)) else none) = some (val (c :: r))
      rw [if_pos]
      refine ⟨by omega, h3, ?_⟩
      by_cases z : r = []
      · exact .inl z
      · exact .inr fun c48 => q ⟨r, by rw [e, c48], z⟩
end Tx
namespace L2
open PySem PySem.Spec PyProof.Rows
/-! ### the rules' relations by names of their own -/
section
variable {X : Cx}
abbrev rSubI : R2 := rI0 fun i j => .int (i - j)
abbrev rFdiv : R2 := rI CDiv fun i j => .int (i / j)
abbrev rFdivB : R2 := rI CDivB fun i j => .int (i.fdiv j)
abbrev rMod : R2 := rI (fun _ j => 0 < j) fun i j => .int (i % j)
abbrev rLt : R2 := rI0 fun i j => .bl (decide (i < j))
abbrev rLe : R2 := rI0 fun i j => .bl (decide (i ≤ j))
abbrev rGt : R2 := rI0 fun i j => .bl (decide (j < i))
abbrev rGe : R2 := rI0 fun i j => .bl (decide (j ≤ i))
abbrev rIsN : R2 := fun x y H Q => y = .non ∧ Q (.bl (decide (x = .non))) H
abbrev rNotN : R2 := fun x y H Q => y = .non ∧ Q (.bl (!decide (x = .non))) H
abbrev rInX (K : PySem.W.Frag) : R2 := fun x y H Q => (∃ i j, x = .str i ∧ y = .str j ∧ Q (.bl (!(Builtin.Str.occurrences j i 0 j.length 1).isEmpty)) H) ∨ rIn K false x y H Q
abbrev rNeg : V → Hp → VK → Prop := rU fun i => .int (-i)
abbrev rAbs : List V → Hp → VK → Prop := fun xs H Q => ∃ i, xs = [.int i] ∧ Q (.int (if i < 0 then -i else i)) H
abbrev rLen (K : PySem.W.Frag) : List V → Hp → VK → Prop := fun xs H Q => (∃ p ys, xs = [.ref p] ∧ (SqL K H p ys ∨ SqT K H p ys) ∧ Q (.int ys.length) H) ∨ ∃ z, xs = [.str z] ∧ z.length ≤ sizeLine ∧ Q (.int z.length) H
abbrev rIsT (K : PySem.W.Frag) : List V → Hp → VK → Prop := fun xs H Q => ∃ x T t k, xs = [x, .ty T] ∧ TyOf K H x t ∧ PySem.W.kitOne K t (.type T) = some k ∧ Q (.bl k) H
abbrev rMax2 : List V → Hp → VK → Prop := fun xs H Q => ∃ i j, xs = [.int i, .int j] ∧ Q (.int (if j > i then j else i)) H
abbrev rMin2 : List V → Hp → VK → Prop := fun xs H Q => ∃ i j, xs = [.int i, .int j] ∧ Q (.int (if j < i then j else i)) H
abbrev rAll (K : PySem.W.Frag) : List V → Hp → VK → Prop := fun xs H Q => ∃ (l : Addr) (bs : List Bool), xs = [.ref l] ∧ SqL K H l (bs.map V.bl) ∧ Q (.bl (bs.all id)) H
abbrev rIntX : List V → Hp → VK → Prop := fun xs H Q => ((∃ i, xs = [.int i] ∧ Q (.int i) H) ∨ ∃ k, xs = [.bl k] ∧ Q (.int (if k then 1 else 0)) H) ∨ ∃ x n, xs = [.str x] ∧ PySem.intText? x = some n ∧ x.length ≤ 640 ∧ Q (.int n) H
abbrev rListOf (K : PySem.W.Frag) : List V → Hp → VK → Prop := fun xs H Q => ∃ p ys, xs = [.ref p] ∧ (SqL K H p ys ∨ SqT K H p ys) ∧ ∀ l, H l = none → Q (.ref l) (upd H l (.lst ys))
abbrev rTupleOf (K : PySem.W.Frag) : List V → Hp → VK → Prop := fun xs H Q => ∃ p ys, xs = [.ref p] ∧ ((SqL K H p ys ∧ ∀ l, H l = none → Q (.ref l) (upd H l (.tup ys))) ∨ (SqT K H p ys ∧ Q (.ref p) H))
abbrev rStrInt : List V → Hp → VK → Prop := fun xs H Q => ∃ i, xs = [.int i] ∧ i.natAbs.log2 < 1920 ∧ Q (.str (toString i)) H
abbrev rBool1 : List V → Hp → VK → Prop := fun xs H Q => (∃ i, xs = [.int i] ∧ Q (.bl (i != 0)) H) ∨ ∃ k, xs = [.bl k] ∧ Q (.bl k) H
/-- a list's or a text's items -/
abbrev iX (K : PySem.W.Frag) (te : TE) : TI := fun σ H R => iList K te σ H R ∨ iStr te σ H R
end
end L2
namespace L2
open PySem PySem.Spec PyProof.Rows
/-! ### errors of one's own: their fields -/
def excTail : List Value → Bool
  | .ref _ :: r => excTail r
  | l => l == [.type "ValueError", .type "Exception", .type "BaseException", .type "object"]
theorem excTail_ind {P : List Value → Prop} (h0 : P [.type "ValueError", .type "Exception", .type "BaseException", .type "object"]) (h1 : ∀ c r, P r → P (.ref c :: r)) : ∀ l, excTail l = true → P l
  | [], e => by cases e
  | v :: r, e => by
    cases v with
    | ref c => exact h1 c r (excTail_ind h0 h1 r e)
    | _ => exact (beq_iff_eq.mp (show _ = true from e)) ▸ h0
theorem excTail_refuse (self : Value) (l : List Value) (e : excTail l = true) : refuseLoop self "__setattr__" l = pure () :=
  excTail_ind (P := fun l => refuseLoop self "__setattr__" l = pure ()) (PySem.F.store_ValueError.passes self) (fun c r h => by rw [refuseLoop_ref]; exact h) l e
theorem excTail_has (T : String) (hT : [Value.type "ValueError", .type "Exception", .type "BaseException", .type "object"].contains (.type T) = true) (l : List Value) (e : excTail l = true) : l.contains (.type T) = true :=
  excTail_ind (P := fun l => l.contains (.type T) = true) hT (fun c r h => by rw [List.contains_cons, h, Bool.or_true]) l e
theorem excTail_ne (l : List Value) (e : excTail l = true) : l.isEmpty = false :=
  excTail_ind (P := fun l => l.isEmpty = false) rfl (fun _ _ _ => rfl) l e
/-- a class of errors under ValueError -/
structure XCls (K : PySem.W.Frag) (C : Addr) : Prop where
  cd : ∃ cd, PySem.W.clsIn K C = some cd ∧ cd.hasDict = true ∧ excTail cd.mro = true
  ga : PySem.W.findIn K (.ref C) "__getattribute__" = some (some (.builtin "BaseException.__getattribute__"))
  gk : PySem.W.findIn K (.ref C) "__getattr__" = some none
  sa : PySem.W.findIn K (.ref C) "__setattr__" = some (some (.builtin "object.__setattr__"))
section
variable {prog : Program} {w : World} {A : Around} {E : Value → Shared → Prop} {s : Shared} {K : PySem.W.Frag} {x C : Addr} {ox : Obj} {od : Option Obj} {name : Str}
theorem XCls.under (c : XCls K C) (X : K.In s.heap) (I : PySem.W.InstAt s.heap x ox C od) {M : Model} (T : String) (hT : [Value.type "ValueError", .type "Exception", .type "BaseException", .type "object"].contains (.type T) = true) :
    PySem.W.Looks M s.heap (isInstance (.ref x) (.type T)) true := by
  obtain ⟨cd, hc, _, ht⟩ := c.cd
  exact I.type.andThen (PySem.W.looks_mroIn X (by unfold PySem.W.mroIn; rw [hc, Option.bind_some, if_neg (by rw [excTail_ne _ ht]; decide), excTail_has T hT _ ht]))
theorem exc_get {expr : Bool} {v : Value} {Q : Value → Shared → Prop} (X : K.In s.heap) (I : PySem.W.InstAt s.heap x ox C od) (c : XCls K C) (hf : PySem.W.findObj K C od name = some (.value v)) (hh : PySem.W.handedIn v = true) (h : Q v { s with toks := s.toks + 1 }) :
    wpAny (model prog w) A (getAttr (.ref x) name expr) Q E s := by
  have FX := PySem.F.excAttr_ValueError
  have sub := c.under X I (M := model prog w) "BaseException" (by decide)
  obtain ⟨hp, g, d, t, os⟩ := s
  have t0 := I.type (M := model prog w)
  have t1 := PySem.W.looks_findIn (M := model prog w) X c.ga
  have t2 := PySem.W.looks_hook (mc := .ref C) (M := model prog w) X (r := none) (by rw [if_pos (by rfl)]; exact c.gk)
  have t3 := PySem.W.looks_find (M := model prog w) X I hf
  unfold getAttr getAttrBy
  refine wpAny_bind (wpAny_mkText (wpAny_holding (wpAny_bind (t0.at (wpAny_bind (t1.at ?_))))))
  dsimp only
  have nq : (Value.builtin "BaseException.__getattribute__" == Value.builtin "object.__getattribute__") = false := by decide +kernel
  rw [nq, Bool.and_false, if_neg Bool.false_ne_true]
  unfold getAttrByItsOwn
  refine wpAny_bind (t2.at (wpAny_bind (wpAny_attempt (wpAny_holding ?_))))
  unfold callGetattribute
  rw [show (expr && onTheHeap (Value.builtin "BaseException.__getattribute__")) = false from Bool.and_false expr, if_neg Bool.false_ne_true]
  unfold boundAndCalled
  rw [FX.ga.bind]
  refine wpAny_bind (wpAny_pure ?_)
  show wpAny _ _ (call (.builtin "BaseException.__getattribute__") [.ref x, .str name t]) _ _ _
  refine wpAny_call (codeAny_call_builtin FX.ga.plain PySem.F.entry_bexc_ga (@PySem.W.check_slot (model prog w) _ _ ⟨hp, g, d, t + 1, os⟩ "BaseException.__getattribute__" "BaseException" "__getattribute__" (.ref x) [.str name t] [] _ (by decide +kernel) (by decide +kernel) sub (PySem.F.args_bexc_ga (.ref x) (.str name t)) ?_))
  unfold Builtin.«object.__getattribute__»
  refine wpAny_bind (wpAny_of_eq (a := (Value.ref x, [Value.str name t])) rfl ?_)
  refine wpAny_bind (wpAny_of_eq (a := name) rfl ?_)
  refine wpAny_bind (t0.at (wpAny_bind (t3.at ?_)))
  refine wpAny_pure ?_
  show wpAny _ _ (handedOut v) _ _ _
  rw [PySem.W.handedOut_of hh]
  exact wpAny_pure h
theorem exc_osa {R : Result → Shared → Prop} {tk : Tok} {v : Value} (X : K.In s.heap) (I : PySem.W.InstAt s.heap x ox C od) (c : XCls K C) (n : PySem.W.findIn K (.ref C) name = some none)
    (h : wpAny (model prog w) A.in1 (Builtin.ObjectAttr.storeInOwnDict (.ref x) (.ref C) (.str name tk) name v false)
      (fun fin s' => match fin with | .done f => R (.ok f) s' | .again c' => c'.quiet = true ∧ codeAny (model prog w) A c' R s') (fun e s' => R (.error e) s') s) :
    codeAny (model prog w) A (.call (.builtin "object.__setattr__") ⟨[.ref x, .str name tk, v], []⟩) R s := by
  have SF := PySem.F.store_object
  have sub := c.under X I (M := model prog w) "object" (by decide)
  obtain ⟨cd, hc, hd, ht⟩ := c.cd
  refine codeAny_call_builtin SF.slot.plain SF.entry (@PySem.W.check_slot (model prog w) _ _ s "object.__setattr__" "object" "__setattr__" (.ref x) [.str name tk, v] [] _ SF.kind SF.split sub (SF.args (.ref x) (.str name tk) v) ?_)
  have hm : PySem.W.Looks (model prog w) s.heap (mroOf (.ref C)) cd.mro := (PySem.W.looks_clsIn X hc).andThen .now
  rw [PySem.W.osa_eq, refuse_eq]
  refine wpAny_bind (wpAny_bind (I.type.here (wpAny_bind (hm.here ?_))))
  rw [excTail_refuse _ _ ht]
  exact wpAny_pure (wpAny_bind (I.type.here (wpAny_bind ((PySem.W.looks_findIn X n).here (wpAny_bind (wpAny_pure h))))))
/-- the first field: the error's dict is made -/
theorem exc_set0 {v : Value} {vs : Array Value} {sl : Array (Option Value)} {Q : Unit → Shared → Prop} (X : K.In s.heap) (hx : s.heap.get? x = some ⟨.ref C, none, .fields vs, sl⟩) (c : XCls K C) (n : PySem.W.findIn K (.ref C) name = some none)
    (h : ∀ h' tk, h'.Ns1 s.heap.objs.size (fun y => if y = name then some v else none) → h'.get? x = some ⟨.ref C, some s.heap.objs.size, .fields vs, sl⟩ → (∀ b o, b ≠ x → s.heap.get? b = some o → h'.get? b = some o) → Q () { s with heap := h', toks := tk }) :
    wpAny (model prog w) A (setAttr (.ref x) name v) Q E s := by
  have I : PySem.W.InstAt s.heap x ⟨.ref C, none, .fields vs, sl⟩ C none := ⟨hx, rfl, rfl, True.intro⟩
  refine PySem.W.set_plain X I c.sa (exc_osa (s := { s with toks := s.toks + 1 }) X I c n ?_)
  obtain ⟨cd, hc, hd, ht⟩ := c.cd
  obtain ⟨hp, g, d, t, os⟩ := s
  dsimp only at h hx I X ⊢
  have hxs : x ≠ hp.objs.size := Nat.ne_of_lt (Heap.lt_size hx)
  refine wpAny_bind (wpAny_pure (wpAny_bind (wpAny_bind (wpAny_loadPart hx (wpAny_bind ((PySem.W.looks_clsIn X hc).at ?_))))))
  rw [hd]
  have hx₁ : (hp.push { cls := .type "dict", data := .dict #[] }).get? x = some ⟨.ref C, none, .fields vs, sl⟩ := Heap.get?_push_of_some _ hx
  refine wpAny_bind (wpAny_alloc' (wpAny_bind (wpAny_update' hx₁ (wpAny_pure ?_))))
  have gd : ((hp.push { cls := .type "dict", data := .dict #[] }).update x fun o => { cls := o.cls, dict := some hp.objs.size, data := o.data, slots := o.slots }).get? hp.objs.size = some { cls := .type "dict", data := .dict #[] } :=
    (Heap.get?_update_ne _ _ _ _ hxs.symm).trans (Heap.get?_push_at rfl rfl)
  have nd : ((hp.push { cls := .type "dict", data := .dict #[] }).update x fun o => { cls := o.cls, dict := some hp.objs.size, data := o.data, slots := o.slots }).Ns hp.objs.size (fun _ => none) := ⟨_, #[], _, gd, rfl, fun e he => absurd he (by simp), fun _ => rfl⟩
  show wpAny _ _ (Builtin.ObjectAttr.storeInDict hp.objs.size (.str name t) name v) _ _ _
  unfold Builtin.ObjectAttr.storeInDict Builtin.ObjectAttr.newKeyGuard
  refine wpAny_bind (wpAny_pure (wpAny_bind (wpAny_nsSet1 (Heap.Ns1.of_empty nd) fun h' hn' hs => ?_)))
  obtain ⟨oD, esD, epD, hoD, hdD, hcD⟩ := hn'.count (Within.cons name v Within.nil)
  refine wpAny_bind (wpAny_lookBehind hoD (by rw [hdD]; exact pastItsLine_dict (Nat.le_trans hcD (by rw [List.length_cons, List.length_nil, sizeLine_eq]; omega))) (wpAny_pure ?_))
  refine h h' _ hn' ?_ fun b o hb eb => ?_
  · exact (hs.2 x hxs).trans (Heap.get?_update_self _ hx₁ rfl)
  · exact (hs.2 b (Nat.ne_of_lt (Heap.lt_size eb))).trans ((Heap.get?_update_ne _ _ _ _ hb).trans (Heap.get?_push_of_some _ eb))
/-- a further field -/
theorem exc_set1 {v : Value} {vs : Array Value} {sl : Array (Option Value)} {dx : Addr} {mA : Str → Option Value} {ns : List Str} {Q : Unit → Shared → Prop} (X : K.In s.heap) (hx : s.heap.get? x = some ⟨.ref C, some dx, .fields vs, sl⟩) (hN : s.heap.Ns1 dx mA) (hw : Within mA ns) (hz : ns.length ≤ 1000) (c : XCls K C)
    (n : PySem.W.findIn K (.ref C) name = some none) (h : ∀ h' tk, h'.Ns1 dx (fun y => if y = name then some v else mA y) → (∀ b o, b ≠ dx → s.heap.get? b = some o → h'.get? b = some o) → Q () { s with heap := h', toks := tk }) :
    wpAny (model prog w) A (setAttr (.ref x) name v) Q E s := by
  obtain ⟨oN, esN, epN, hoN, rN⟩ := id hN
  have I : PySem.W.InstAt s.heap x ⟨.ref C, some dx, .fields vs, sl⟩ C (some oN) := ⟨hx, rfl, rfl, hoN⟩
  refine PySem.W.set_plain X I c.sa (exc_osa (s := { s with toks := s.toks + 1 }) X I c n ?_)
  obtain ⟨cd, hc, hd, ht⟩ := c.cd
  obtain ⟨hp, g, d, t, os⟩ := s
  dsimp only at h hx I X hN ⊢
  refine wpAny_bind (wpAny_pure (wpAny_bind (wpAny_bind (wpAny_loadPart hx (wpAny_bind ((PySem.W.looks_clsIn X hc).at ?_))))))
  rw [hd]
  refine wpAny_pure (a := some dx) ?_
  show wpAny _ _ (Builtin.ObjectAttr.storeInDict dx (.str name t) name v) _ _ _
  unfold Builtin.ObjectAttr.storeInDict Builtin.ObjectAttr.newKeyGuard
  refine wpAny_bind (wpAny_pure (wpAny_bind (wpAny_nsSet1 hN fun h' hn' hs => ?_)))
  obtain ⟨oD, esD, epD, hoD, hdD, hcD⟩ := hn'.count (Within.cons name v hw)
  refine wpAny_bind (wpAny_lookBehind hoD (by rw [hdD]; exact pastItsLine_dict (Nat.le_trans hcD (by rw [List.length_cons, sizeLine_eq]; omega))) (wpAny_pure ?_))
  exact h h' _ hn' fun b o hb eb => (hs.2 b hb).trans eb
end
/-- an error stands at e: its class, its dict -/
def exP (e C : Addr) (d : Option Addr) (h : Heap) : Prop := ∃ vs sl, h.get? e = some ⟨.ref C, d, .fields vs, sl⟩ ∧ vs.size = 6
def exH (e C : Addr) (d : Option Addr) : HO := .ext (exP e C d)
/-- its fields -/
def exQ (dx : Addr) (fs : List (Str × V)) (h : Heap) : Prop := ∃ mA, h.Ns1 dx mA ∧ (∀ f, RelO (fs.lookup f) (mA f)) ∧ PySem.Within mA (fs.map (·.1)) ∧ fs.length ≤ 100
def exF (dx : Addr) (fs : List (Str × V)) : HO := .ext (exQ dx fs)
theorem exH_ok {P : Program} {w : World} {H : Hp} {h : Heap} {e C : Addr} {d : Option Addr} (p : exP e C d h) : ObjOk P w H h e (exH e C d) := by
  obtain ⟨vs, sl, q, z⟩ := p
  exact ⟨⟨vs, sl, q, z⟩, ⟨_, q⟩, fun h1 h2 ⟨vs', sl', q', z'⟩ k => ⟨vs', sl', k _ q', z'⟩⟩
theorem exF_ok {P : Program} {w : World} {H : Hp} {h : Heap} {dx : Addr} {fs : List (Str × V)} (p : exQ dx fs h) : ObjOk P w H h dx (exF dx fs) := by
  obtain ⟨mA, n, r, wi, l⟩ := p
  obtain ⟨o, es, ep, e, q⟩ := id n
  refine ⟨⟨mA, n, r, wi, l⟩, ⟨o, e⟩, fun h1 h2 ⟨mB, nB, rB, wB, lB⟩ k => ⟨mB, ?_, rB, wB, lB⟩⟩
  obtain ⟨o', es', ep', e', q'⟩ := nB
  exact ⟨o', es', ep', k _ e', q'⟩
section
variable {X : Cx} {pins : List (Addr × Obj)} {σ : St} {H : Hp} {s : Shared} {e C dx : Addr} {d : Option Addr} {fs : List (Str × V)} {f : Str}
theorem Inv.exH (I : Inv X pins σ H s) (h : H e = some (exH e C d)) : exP e C d s.heap := (I.hok e _ h).1
theorem Inv.exF (I : Inv X pins σ H s) (h : H dx = some (exF dx fs)) : exQ dx fs s.heap := (I.hok dx _ h).1
/-- an error's field is read -/
theorem xget_ok {A : Around} {E : Value → Shared → Prop} {b : Bool} {v : V} {Q : Value → Shared → Prop} (I : Inv X pins σ H s) (h1 : H e = some (L2.exH e C (some dx))) (h2 : H dx = some (L2.exF dx fs)) (c : XCls X.K C) (n : NoAttr X.K C f) (l : fs.lookup f = some v)
    (h : ∀ u s', Inv X pins σ H s' → RelV v u → Q u s') : wpAny (model X.prog X.w) A (getAttr (.ref e) f b) Q E s := by
  obtain ⟨vs, sl, e1, _⟩ := I.exH h1
  obtain ⟨mA, n1, r, _, _⟩ := I.exF h2
  obtain ⟨u, hu, ru⟩ := RelO.some_of (v := v) (o := mA f) (by rw [← l]; exact r f)
  obtain ⟨od, e2, lk⟩ := lookIn_ns n1
  obtain ⟨cd, hc, hd, ht⟩ := c.cd
  have J : PySem.W.InstAt s.heap e ⟨.ref C, some dx, .fields vs, sl⟩ C (some od) := ⟨e1, rfl, rfl, e2⟩
  refine exc_get I.kIn J c ?_ (handed_of ru) (h u _ (I.tok _) ru)
  unfold PySem.W.findObj
  rw [hc, Option.bind_some, show PySem.W.findIn X.K (.ref C) f = some none from n, Option.bind_some]
  show ((some none : Option (Option Value)).bind _) = _
  rw [Option.bind_some]
  show ((some false : Option Bool).bind _) = _
  rw [Option.bind_some]
  show ((PySem.W.ownOf cd (some od) f).bind _) = _
  unfold PySem.W.ownOf
  rw [hd, if_pos rfl]
  dsimp only
  rw [lk, hu]
  rfl
def tXFld (K : PySem.W.Frag) (ta : TE) (f : Str) : TE := fun σ H Q => ta σ H fun x H1 => ∃ e C dx fs v, x = .ref e ∧ H1 e = some (L2.exH e C (some dx)) ∧ H1 dx = some (L2.exF dx fs) ∧ XCls K C ∧ NoAttr K C f ∧ fs.lookup f = some v ∧ Q v H1
theorem pe_xfld {o : Expr} {pos : Pos} {ta : TE} (he : PE X o ta) (hb : attributeBase o f X.env (eval o X.env) = eval o X.env) : PE X (.Attribute o f pos) (tXFld X.K ta f) := by
  intro pins s σ H Q I h
  refine attr_of hb (thn (he pins s σ H _ I h) fun u s1 ⟨x, H1, I1, rx, e, C, dx, fs, v, ex, h1, h2, c, n, l, q⟩ => ?_)
  subst ex
  obtain rfl : u = Value.ref e := rx
  exact xget_ok I1 h1 h2 c n l fun u' s2 I2 ru => ⟨v, H1, I2, ru, q⟩
/-- two objects at once: an error that gets its dict -/
theorem Inv.exc0 {h' : Heap} {t' : Nat} (I : Inv X pins σ H s) (h1 : H e = some (L2.exH e C none)) (hd : s.heap.objs.size ≤ dx) (k : ∀ b o, b ≠ e → s.heap.get? b = some o → h'.get? b = some o) (p : exP e C (some dx) h') (q : exQ dx fs h') :
    Inv X pins σ (upd (upd H dx (L2.exF dx fs)) e (L2.exH e C (some dx))) { s with heap := h', toks := t' } := by
  have hn : H dx = none := I.hok.fresh hd
  have ne : dx ≠ e := Ne.symm (ne_of_none h1 hn)
  have at_ : ∀ b u, H b = some u → u ≠ L2.exH e C none → (upd (upd H dx (L2.exF dx fs)) e (L2.exH e C (some dx))) b = some u := fun b u eb nu => by
    have b1 : b ≠ e := fun z => by subst z; rw [h1] at eb; exact nu (Option.some.inj eb).symm
    rw [upd_ne b1, upd_ne (ne_of_none eb hn)]
    exact eb
  have no : ∀ b o, s.heap.get? b = some o → H b = none → b ≠ e ∧ (upd (upd H dx (L2.exF dx fs)) e (L2.exH e C (some dx))) b = none := fun b o eb nb => by
    have b1 : b ≠ e := fun z => by subst z; rw [h1] at nb; cases nb
    have b2 : b ≠ dx := Nat.ne_of_lt (Nat.lt_of_lt_of_le (Heap.lt_size eb) hd)
    exact ⟨b1, by rw [upd_ne b1, upd_ne b2]; exact nb⟩
  refine I.un ⟨fun b o eb nb _ _ => k b o (no b o eb nb).1 eb, fun b o eb nb _ _ => ⟨o.slots, k b o (no b o eb nb).1 eb⟩, fun b o eb nb _ => (no b o eb nb).2, fun b o eb _ => ?_,
    fun b xs eb => at_ b _ eb (fun z => by cases z), fun b o u eb => at_ b _ eb (fun z => by cases z), fun b ps eb => ⟨#[], by rw [at_ b _ eb (fun z => by cases z)]; simp⟩⟩ fun b u eb => ?_
  · by_cases hb : b = e
    · subst hb
      obtain ⟨vs, sl, z, _⟩ := p
      exact ⟨_, z⟩
    · exact ⟨o, k b o hb eb⟩
  · by_cases hb : b = e
    · subst hb
      rw [upd_same] at eb
      cases eb
      exact exH_ok p
    · rw [upd_ne hb] at eb
      by_cases hb2 : b = dx
      · subst hb2
        rw [upd_same] at eb
        cases eb
        exact exF_ok q
      · rw [upd_ne hb2] at eb
        refine (I.hok b u eb).stay (fun c o hc eo => k c o ?_ eo) (fun c ec => at_ c _ ec (fun z => by cases z)) fun c xs ec => at_ c _ ec (fun z => by cases z)
        rcases hc with rfl | hc
        · exact hb
        · intro z
          subst z
          rw [h1] at hc
          cases hc
/-- e.f = v for an error -/
def sXFld (K : PySem.W.Frag) (ta tv : TE) (f : Str) : TS := fun D σ H => tv σ H fun y H1 => ta σ H1 fun x H2 => ∃ e C d, x = .ref e ∧ H2 e = some (L2.exH e C d) ∧ XCls K C ∧ NoAttr K C f ∧
  ((d = none ∧ ∀ dx, H2 dx = none → D.nx σ (upd (upd H2 dx (L2.exF dx [(f, y)])) e (L2.exH e C (some dx)))) ∨ ∃ dx fs, d = some dx ∧ H2 dx = some (L2.exF dx fs) ∧ fs.length < 100 ∧ D.nx σ (upd H2 dx (L2.exF dx (putF f y fs))))
theorem relO_put {y : V} {u : Value} {mA : Str → Option Value} (ry : RelV y u) (r : ∀ g, RelO (fs.lookup g) (mA g)) (g : Str) : RelO ((putF f y fs).lookup g) (if g = f then some u else mA g) := by
  rw [lookup_putF]
  by_cases q : g = f
  · rw [if_pos q, if_pos q]; exact ry
  · rw [if_neg q, if_neg q]; exact r g
theorem ps_xfld {o value : Expr} {pos pos' : Pos} {ta tv : TE} (ha : PE X o ta) (hv : PE X value tv) (hs : swapsWith value (some (.Attribute o f pos')) pos.line X.env = pure false) : PS X (.Assign [.Attribute o f pos'] value pos) (sXFld X.K ta tv f) := by
  intro pins s σ H D I h
  refine plainObj_wpAny_Assign_Attribute (thn (hv pins s σ H _ I h) fun u s1 ⟨y, H1, I1, ry, q⟩ => thn (ha pins s1 σ H1 _ I1 q) fun ov s2 ⟨x, H2, I2, rx, e, C, d, ex, h1, c, n, q2⟩ => ?_) hs
  subst ex
  obtain rfl : ov = Value.ref e := rx
  obtain ⟨vs, sl, e1, z⟩ := I2.exH h1
  rcases q2 with ⟨rfl, q2⟩ | ⟨dx, fs, rfl, h2, l, q2⟩
  · refine exc_set0 I2.kIn e1 c n fun h' tk nn e2 k => ?_
    have hd := q2 s2.heap.objs.size (I2.hok.fresh (Nat.le_refl _))
    refine ⟨σ, _, I2.exc0 h1 (Nat.le_refl _) k ⟨vs, sl, e2, z⟩ ⟨_, nn, fun g => ?_, fun g hg => ?_, (by show 1 ≤ 100; decide)⟩, hd⟩
    · have := relO_put (fs := []) (f := f) (mA := fun _ => none) ry (fun _ => True.intro) g
      exact this
    · by_cases q : g = f
      · subst q; exact List.mem_cons_self
      · exact absurd (show (if g = f then some u else none) = none by rw [if_neg q]) hg
  · obtain ⟨mA, n1, r, wi, l1⟩ := I2.exF h2
    refine exc_set1 I2.kIn e1 n1 wi (by rw [List.length_map]; omega) c n fun h' tk nn k => ?_
    obtain ⟨o', es', ep', e', q'⟩ := id nn
    refine ⟨σ, _, I2.write (x := dx) (e := dx) (by rw [h2]; exact True.intro) (.inl rfl) k ⟨o', e'⟩ (exF_ok ⟨_, nn, relO_put ry r, fun g hg => ?_, ?_⟩), q2⟩
    · by_cases q : g = f
      · subst q; exact (keys_putF g y fs).1
      · exact (keys_putF f y fs).2 g (wi g (by intro z; exact hg (by show (if g = f then some u else mA g) = none; rw [if_neg q]; exact z)))
    · have := length_putF f y fs; omega
end
end L2
namespace L2
open PySem PySem.Spec PyProof.Rows
/-! ### errors of one's own: made -/
section
variable {prog : Program} {w : World} {A : Around} {E : Value → Shared → Prop} {s : Shared} {K : PySem.W.Frag} {x C : Addr} {d : Option Addr} {vs : Array Value} {sl : Array (Option Value)}
theorem cls_at {h : Heap} {cd : ClassData} (X : K.In h) (hc : PySem.W.clsIn K C = some cd) : ∃ c0 dd sl, h.get? C = some ⟨c0, dd, .cls cd, sl⟩ := by
  unfold PySem.W.clsIn at hc
  split at hc
  · rename_i ho
    cases hc
    exact ⟨_, _, _, X _ _ ho⟩
  · cases hc
theorem exc_init_check {M : Model} {rest : List Value} {hp : Heap} {g : Array GenState} {dr : Drawn} {t : Nat} {os : OsState} {ox : Obj} {c0 : Value} {dd : Option Addr} {cd : ClassData} {sl : Array (Option Value)} {Q : Unit → Shared → Prop}
    (hx : hp.get? x = some ox) (hcl : ox.cls = .ref C) (hC : hp.get? C = some ⟨c0, dd, .cls cd, sl⟩) (sub : PySem.W.Looks M hp (isInstance (.ref x) (.type "ValueError")) true) (h : Q () ⟨hp, g, dr, t, os⟩) :
    wpAny M A (checkBuiltinCall "ValueError.__init__" ⟨.ref x :: rest, []⟩) Q E ⟨hp, g, dr, t, os⟩ := by
  have F := PySem.F.excBase_ValueError
  have hshort := F.noStar
  simp only [checkBuiltinCall, F.initKind, F.initSplit, F.initRow]
  refine wpAny_bind (sub.at ?_)
  simp only [Bool.not_true, Bool.false_eq_true, if_false]
  repeat (first | (with_reducible refine wpAny_loadPart_at hx ?_; rw [hcl]) | with_reducible refine wpAny_loadPart_at hC ?_ | wp_step)
  refine wpAny_onRaise ?_
  rw [show ∀ (a b : String) (n : Nat), Bind.check ⟨.positional, "*", "ValueError", .self, [⟨"args", .varPos, false⟩]⟩ a b n (List.map (fun x => x.fst) ({ pos := Value.ref x :: rest } : Args).kw) = pure () from fun a b n => check_star_args _ _ _ _ _ _]
  exact wpAny_pure h
theorem exc_init {v : Value} {Q : Value → Shared → Prop} (X : K.In s.heap) (hx : s.heap.get? x = some ⟨.ref C, d, .fields vs, sl⟩) (hz : vs.size = 6) (c : XCls K C)
    (h : ∀ h' tk, (∀ b o, b ≠ x → s.heap.get? b = some o → h'.get? b = some o) → (∃ vs', h'.get? x = some ⟨.ref C, d, .fields vs', sl⟩ ∧ vs'.size = 6) → Q .none { s with heap := h', toks := tk }) :
    wpAny (model prog w) A (call (.builtin "ValueError.__init__") [.ref x, v]) Q E s := by
  have F := PySem.F.excBase_ValueError
  have ty : PySem.W.Looks (model prog w) s.heap (typeOf (.ref x)) (.ref C) := (PySem.W.Looks.ld hx).andThen .now
  have sub : PySem.W.Looks (model prog w) s.heap (isInstance (.ref x) (.type "ValueError")) true := by
    obtain ⟨cd, hc, _, ht⟩ := c.cd
    exact ty.andThen (PySem.W.looks_mroIn X (by unfold PySem.W.mroIn; rw [hc, Option.bind_some, if_neg (by rw [excTail_ne _ ht]; decide), excTail_has "ValueError" (by decide) _ ht]))
  obtain ⟨cd, hc, _, _⟩ := c.cd
  obtain ⟨c0, dd, slC, hC⟩ := cls_at X hc
  obtain ⟨hp, g, dr, t, os⟩ := s
  dsimp only at hx h hC sub
  refine wpAny_call (codeAny_call_builtin F.init.plain F.initEntry (exc_init_check hx rfl hC sub ?_))
  have h0 : vs[0]? = some (vs[0]'(by omega)) := Array.getElem?_eq_getElem (by omega)
  unfold Builtin.«BaseException.__init__»
  wp_walk
  rw [h0]
  have hx₁ : (hp.push { cls := .type "tuple", data := .seq #[v] }).get? x = some ⟨.ref C, d, .fields vs, sl⟩ := Heap.get?_push_of_some _ hx
  refine wpAny_pure (wpAny_bind (wpAny_setField hx₁ rfl (by omega) ?_))
  have kk : Q .none ⟨(hp.push { cls := .type "tuple", data := .seq #[v] }).update x (Obj.mapFields (·.setIfInBounds 0 (.ref hp.objs.size))), g, dr, t, os⟩ := by
    refine h _ t (fun b o hb eb => ?_) ⟨vs.setIfInBounds 0 (.ref hp.objs.size), ?_, ?_⟩
    · rw [Heap.get?_update_other _ _ (Ne.symm hb)]
      exact Heap.get?_push_of_some _ eb
    · rw [Heap.get?_update_self _ hx₁ rfl]
      rfl
    · rw [Array.size_setIfInBounds]; exact hz
  generalize vs[0] = old
  cases old with
  | ref a => exact wpAny_letGo (wpAny_pure kk)
  | _ => exact wpAny_pure (wpAny_pure kk)
end
/-- a class whose __init__ is ValueError's, asked as Base.__init__(self, words) -/
structure XBase (K : PySem.W.Frag) (W : Addr) : Prop where
  hg : PySem.W.specialIn K (.ref W) "__getattribute__" = some (some (.builtin "type.__getattribute__"))
  rd : PySem.W.readsIn K W (.type "type") = true
  fc : PySem.W.findCls K (.ref W) (.type "type") "__init__" = some (.val (.builtin "ValueError.__init__"))
def tXInit (K : PySem.W.Frag) (t : TA) : TE := fun σ H Q => t σ H fun vs H1 => ∃ e C d m, vs = [.ref e, m] ∧ H1 e = some (L2.exH e C d) ∧ XCls K C ∧ Q .non H1
theorem pe_xinit {X : Cx} {b : Str} {W : Addr} {p apos pos : Pos} {e1 e2 : Expr} {t : TA} {pl : Sem Bool} (fb : XBase X.K W) (hg : Gl X b) (hm : X.mg b = some (.ref W)) (ha : PA X [e1, e2] t) (hdb : (b == ("__debug__" : Str)) = false := by decide)
    (hst : starEach [e1, e2] X.env = (false, eval e1 X.env) :: starEach [e2] X.env := by rfl) (hpl : (backTo pos (starEach [e2] X.env)).any (·.1) = false := by rfl)
    (ht : eval (.Call (.Attribute (.Name b p) "__init__" apos) [e1, e2] [] pos) X.env = (do
      let ov ← eval (.Name b p) X.env
      standAt apos.atName
      let (f, first) ← holding [ov] (getMethod ov "__init__" pl)
      callWith pos f first (backTo pos (starEach [e1, e2] X.env)) (backToKw pos (keywordEach [] X.env))) := by rfl) :
    PE X (.Call (.Attribute (.Name b p) "__init__" apos) [e1, e2] [] pos) (tXInit X.K t) := by
  intro pins s σ H Q I h
  refine PySem.W.methodCall_KW (pl := pl) (ld_glob I hg hm ?_ hdb) ht
  refine PySem.W.method_cls I.kIn fb.hg (PySem.W.cls_value I.kIn fb.rd fb.fc rfl ?_)
  have hA := ha pos pins _ σ H _ (I.tok (s.toks + 1)) h
  rw [hst] at hA ⊢
  refine Calls.callWith_builtin (by show (false || (backTo pos (starEach [e2] X.env)).any (·.1)) = false; rw [hpl] <;> rfl) (Calls.evalArgs_plain ?_)
  refine thn hA fun us s2 ⟨vs, H2, I2, r2, e, C, d, m, ev, h1, c, q⟩ => ?_
  subst ev
  obtain ⟨u1, u2, rfl, ru1, ru2⟩ := r2.two
  cases ru1
  obtain ⟨ws, sl, ex, z⟩ := I2.exH h1
  refine exc_init I2.kIn ex z c fun h' tk k ⟨ws', ex', z'⟩ => ?_
  have I3 := I2.write (t' := tk) (x := e) (e := e) (o := L2.exH e C d) (by rw [h1]; exact True.intro) (.inl rfl) k ⟨_, ex'⟩ (exH_ok ⟨ws', sl, ex', z'⟩)
  have eH : upd H2 e (L2.exH e C d) = H2 := by
    funext b
    by_cases q : b = e
    · subst q; rw [upd_same, h1]
    · rw [upd_ne q]
  rw [eH] at I3
  exact ⟨.non, H2, I3, rfl, q⟩
end L2
namespace L2
open PySem PySem.Spec PyProof.Rows
/-! ### errors of one's own: a class called -/
def xmkIn (K : PySem.W.Frag) (C : Addr) : Bool := match K.lookup C with
  | some ⟨.type "type", _, .cls cd, sl⟩ => (match cd.mro, sl.toList with
    | .ref C' :: bm, [_, _, _, _, some (.builtin n), _] => C' == C && n == "ValueError.__new__" && !cd.hasDel && excTail bm
    | _, _ => false)
  | _ => false
theorem xmk_of {K : PySem.W.Frag} {C : Addr} {h : Heap} (X : K.In h) (z : xmkIn K C = true) : ∃ nm q N bs bm hdct sn sub ab col dd k0 k1 k2 k3 k5, h.get? C = some (excClassObj nm q C N bs bm hdct sn sub ab col dd k0 k1 k2 k3 k5 "ValueError.__new__") ∧ excTail bm = true := by
  unfold xmkIn at z
  split at z
  · rename_i dd cd sl ho
    split at z
    · rename_i C' bm k0 k1 k2 k3 n k5 hm hs
      simp only [Bool.and_eq_true, beq_iff_eq, Bool.not_eq_true'] at z
      obtain ⟨⟨⟨rfl, rfl⟩, hdel⟩, ht⟩ := z
      obtain ⟨nm, bs, mro, ns, qn, hd, sn, sub, ab, col, del⟩ := cd
      dsimp only at hm hdel
      subst hm hdel
      have hsl : sl = #[k0, k1, k2, k3, some (.builtin "ValueError.__new__"), k5] := by
        obtain ⟨l⟩ := sl
        simp only at hs
        rw [hs]
      subst hsl
      exact ⟨nm, qn, ns, bs, bm, hd, sn, sub, ab, col, dd, k0, k1, k2, k3, k5, X _ _ ho, ht⟩
    · cases z
  · cases z
theorem excTail_not (T : String) (hT : [Value.type "ValueError", .type "Exception", .type "BaseException", .type "object"].contains (.type T) = false) (l : List Value) (e : excTail l = true) : l.contains (.type T) = false :=
  excTail_ind (P := fun l => l.contains (.type T) = false) hT (fun c r h => by rw [List.contains_cons, h]; rfl) l e
section
variable {prog : Program} {w : World} {M : Model} {A : Around} {E : Value → Shared → Prop} {R : Result → Shared → Prop} {h : Heap} {g : Array GenState} {d : Drawn} {t : Nat} {os : OsState} {K : PySem.W.Frag}
variable {nm q : Str} {C N : Addr} {bs bm : List Value} {hdct : Bool} {sn : List Str} {sub : List Value} {ab : Bool} {col : Option Bool} {dd : Option Addr} {k0 k1 k2 k3 k5 : Option Value} {rest : List Value}
theorem xnew_check {Q : Unit → Shared → Prop} (hC : h.get? C = some (excClassObj nm q C N bs bm hdct sn sub ab col dd k0 k1 k2 k3 k5 "ValueError.__new__")) (ht : excTail bm = true) (hq : Q () ⟨h, g, d, t, os⟩) :
    wpAny M A (checkBuiltinCall "ValueError.__new__" ⟨.ref C :: rest, []⟩) Q E ⟨h, g, d, t, os⟩ := by
  have F := PySem.F.excBase_ValueError
  have e1 : (Value.ref C :: bm).contains (.type "ValueError") = true := excTail_has "ValueError" (by decide) (.ref C :: bm) ht
  have e2 := F.noStar
  simp only [checkBuiltinCall, F.newKind, F.newSplit, F.newRow]
  repeat (first | refine wpAny_loadPart_at hC ?_ | (refine wpAny_isSubtype_exc hC ?_; rw [e1]) | refine wpAny_staticBase_exc hC ?_ | refine wpAny_madeBy_exc hC ?_ | simp only [bne_self_eq_false, Bool.false_eq_true, if_false] | wp_step)
  exact hq
theorem xnew_code (hC : h.get? C = some (excClassObj nm q C N bs bm hdct sn sub ab col dd k0 k1 k2 k3 k5 "ValueError.__new__")) (ht : excTail bm = true) (hz : rest.length ≤ sizeLine)
    (hq : R (.ok (.ret (.ref (h.objs.size + 1)))) ⟨(h.push { cls := .type "tuple", data := .seq rest.toArray }).push { cls := .ref C, data := .fields #[.ref h.objs.size, .none, .none, .none, .bool false, .none] }, g, d, t, os⟩) :
    codeAny (model prog w) A (.builtin "ValueError.__new__" ⟨.ref C :: rest, []⟩) R ⟨h, g, d, t, os⟩ := by
  have F := PySem.F.excBase_ValueError
  have e0 := F.ends
  have e1 : (Value.ref C :: bm).contains (.type "ValueError") = true := excTail_has "ValueError" (by decide) (.ref C :: bm) ht
  have e2 : (Value.ref C :: bm).contains (.type "AttributeError") = false := excTail_not "AttributeError" (by decide) (.ref C :: bm) ht
  have e3 : (Value.ref C :: bm).contains (.type "NameError") = false := excTail_not "NameError" (by decide) (.ref C :: bm) ht
  refine codeAny_builtinAt F.entry ?_
  unfold Builtin.«BaseException.__new__»
  refine PySem.wpAt_bind ?_
  show PySem.wpAt _ _ _ (stack >>= _) _ _ _
  refine PySem.wpAt_bind (PySem.wpAt_stack fun p below => PySem.wpAt_of_wpAny ?_)
  wp_walk
  refine PySem.wpAt_of_wpAny ?_
  rw [F.owner]
  repeat (first | with_reducible refine wpAny_madeHere_exc F.canon hC ?_ | with_reducible refine wpAny_loadPart_at hC ?_ | (with_reducible refine wpAny_isSubtype_exc hC ?_; first | rw [e1] | rw [e2] | rw [e3]) | wp_step)
  show R _ _
  rw [Heap.size_push]
  exact hq
theorem xtype_call {Q : Fin → Shared → Prop} {fI : Addr} (X : K.In h) (hC : h.get? C = some (excClassObj nm q C N bs bm hdct sn sub ab col dd k0 k1 k2 k3 k5 "ValueError.__new__")) (ht : excTail bm = true) (hz : rest.length ≤ sizeLine)
    (hi : PySem.W.findIn K (.ref C) "__init__" = some (some (.ref fI))) (hf : PySem.W.typeIn K (.ref fI) = some (.type "function"))
    (hq : ∀ h' e, h.objs.size ≤ e → Heap.MadeExcOf h h' e (.ref C) rest → wpAny (model prog w) A (call (.ref fI) (.ref e :: rest)) (fun r s' => r = .none ∧ Q (.done (.ret (.ref e))) s') E ⟨h', g, d, t, os⟩) :
    wpAny (model prog w) A (Builtin.«type.__call__» ⟨.ref C :: rest, []⟩) Q E ⟨h, g, d, t, os⟩ := by
  have F := PySem.F.excBase_ValueError
  repeat (first | with_reducible refine wpAny_loadPart_at hC ?_ | with_reducible refine wpAny_madeBy_exc hC ?_ | wp_step)
  refine codeAny_call_builtin_code (Code.quiet_builtin _ F.quiet) (xnew_check hC ht (xnew_code hC ht hz ?_))
  show wpAny _ _ _ _ _ _
  have kp : ∀ b o, h.get? b = some o → ((h.push { cls := .type "tuple", data := .seq rest.toArray }).push { cls := .ref C, data := .fields #[.ref h.objs.size, .none, .none, .none, .bool false, .none] }).get? b = some o := fun b o e => Heap.get?_push_of_some _ (Heap.get?_push_of_some _ e)
  have hC₁ := kp _ _ hC
  have X₁ := X.keeps kp
  have hg₁ : ((h.push { cls := .type "tuple", data := .seq rest.toArray }).push { cls := .ref C, data := .fields #[.ref h.objs.size, .none, .none, .none, .bool false, .none] }).get? (h.objs.size + 1) = some
      { cls := .ref C, data := .fields #[.ref h.objs.size, .none, .none, .none, .bool false, .none] } := by heap_get
  have e1 : (Value.ref C :: bm).contains (.ref C) = true := by simp
  unfold isInstance
  repeat (first | with_reducible refine wpAny_loadPart_at hg₁ ?_ | (with_reducible refine wpAny_isSubtype_exc hC₁ ?_; rw [e1]) | wp_step)
  refine (PySem.W.looks_findIn X₁ hi).at ?_
  refine wpAny_holding (wpAny_bind ((PySem.W.bind_fn X₁ _ hf).at ?_))
  refine wpAny_bind (wpAny_mono (hq _ (h.objs.size + 1) (Nat.le_succ _) ⟨kp, Heap.get?_none_of_le (Nat.le_succ _), h.objs.size, hg₁, Heap.get?_none_of_le (Nat.le_refl _), Heap.get?_push_of_some _ (Heap.get?_push_at rfl rfl)⟩) (fun r s' hr => ?_) fun _ _ x => x)
  obtain ⟨rfl, hQ⟩ := hr
  wp_walk
  exact hQ
theorem xcall {Q : Value → Shared → Prop} {fI : Addr} (X : K.In h) (z : xmkIn K C = true) (hz : rest.length ≤ sizeLine)
    (hi : PySem.W.findIn K (.ref C) "__init__" = some (some (.ref fI))) (hf : PySem.W.typeIn K (.ref fI) = some (.type "function"))
    (hq : ∀ h' e, h.objs.size ≤ e → Heap.MadeExcOf h h' e (.ref C) rest → wpAny (model prog w) (A.under (.builtin "type.__call__" ⟨.ref C :: rest, []⟩)) (call (.ref fI) (.ref e :: rest)) (fun r s' => r = .none ∧ Q (.ref e) s') E ⟨h', g, d, t, os⟩) :
    wpAny (model prog w) A (call (.ref C) rest) Q E ⟨h, g, d, t, os⟩ := by
  obtain ⟨nm, q, N, bs, bm, hdct, sn, sub, ab, col, dd, k0, k1, k2, k3, k5, hC, ht⟩ := xmk_of X z
  have f1 := tc_lookup
  have f2 := tc_bind (.ref C)
  have hT : (⟨h, g, d, t, os⟩ : Shared).TypeIs (.ref C) "type" := ⟨_, hC, rfl⟩
  refine wpAny_call (codeAny_of_tree ?_)
  show wpAny _ _ (callAny (.ref C) _) _ _ _
  repeat (any_goals (first | assumption | with_reducible refine wpAny_loadPart_at hC ?_ | wp_step))
  refine ⟨rfl, codeAny_call_builtin_at (Code.quiet_builtin _ (by decide +kernel)) entry_typeCall (wpAny_check_type_call_sub hC (xtype_call X hC ht hz hi hf fun h' e he hm => ?_))⟩
  exact hq h' e he hm
end
/-- C(..) for an error's class with an __init__ of one's own -/
def tMakeX (C : Addr) (sp : Sp) (dvs : List V) (E : XK) (t : TA) : TE := fun σ H Q => t σ H fun vs H1 => vs.length ≤ 1000 ∧ ∀ e, H1 e = none → sp (.ref e :: (vs ++ dvs)) (upd H1 e (L2.exH e C none)) (fun v H2 => v = .non ∧ Q (.ref e) H2) E
/-- what such a class must have -/
structure XMk (K : PySem.W.Frag) (C f : Addr) : Prop where
  makes : xmkIn K C = true
  init : PySem.W.findIn K (.ref C) "__init__" = some (some (.ref f))
  fn : PySem.W.isFn K (.ref f) = true
  kp : PySem.W.keepIn K (.ref C) = true
theorem made_exc {X : Cx} {pins : List (Addr × Obj)} {σ : St} {H : Hp} {s : Shared} {h' : Heap} {e C : Addr} {us : List Value} (I : Inv X pins σ H s) (he : s.heap.objs.size ≤ e) (m : Heap.MadeExcOf s.heap h' e (.ref C) us) : Inv X pins σ (upd H e (L2.exH e C none)) { s with heap := h' } := by
  obtain ⟨t, e1, _, _⟩ := m.there
  exact I.laid (t' := s.toks) m.keeps he (exH_ok ⟨_, _, e1, rfl⟩)
section
variable {X : Cx} {CX : CXT} {k : Nat} {f C : Addr} {fd : FuncData} {ps : List Str} {sp : Sp} {dvs : List V} {ds : List Value} {E : XK} {x : Str} {p pos : Pos} {e : Expr} {es : List Expr} {t : TA}
theorem pe_makeX (M : XMk X.K C f) (F : FnOk X.prog X.w X.K X.mg X.base CX k f fd ps sp) (hr : Room (k + 1) X.A) (hg : Gl X x) (hm : X.mg x = some (.ref C)) (hb : Binds X.K fd ps ds) (hd : Vals dvs ds) (hx : Passes CX X E)
    (ha : PA X (e :: es) t) (hdb : (x == ("__debug__" : Str)) = false := by decide) (he : starEach (e :: es) X.env = (false, eval e X.env) :: starEach es X.env := by rfl) (hpl : (backTo pos (starEach es X.env)).any (·.1) = false := by rfl) :
    PE X (.Call (.Name x p) (e :: es) [] pos) (tMakeX C sp dvs E t) := by
  intro pins s σ H Q I h
  refine wpAny_Call_Name_kw (ld_glob I hg hm ?_ hdb)
  refine PySem.W.callWith_K (h₀ := X.base) I.ok.mod.kin M.kp (thn (ha pos pins s σ H _ I h) fun us s1 ⟨vs, H1, I1, r, hl1, q⟩ => ⟨I1.kIn, ?_⟩) he hpl
  have hz : us.length ≤ sizeLine := by rw [← r.length]; exact Nat.le_of_lt (small1000 hl1)
  obtain ⟨hp, g, dr, tk, os⟩ := s1
  refine xcall I1.kIn M.makes hz M.init (beq_iff_eq.mp M.fn) fun h' a ha' hmd => ?_
  have hq := q a (I1.hok.fresh ha')
  have I2 := made_exc I1 ha' hmd
  have r2 : Vals (V.ref a :: (vs ++ dvs)) (Value.ref a :: (us ++ ds)) := .cons rfl (r.append hd)
  have hl : (Value.ref a :: us ++ ds).length = ps.length := by
    have e := r2.length
    rw [F.len _ _ _ _ hq] at e
    exact e.symm
  refine wpAny_call (codeAny_mono (F.run _ X.stack _ _ ⟨Value.ref a :: us, []⟩ (Value.ref a :: (us ++ ds)) _ _ E (hr.make C us []) (I2.env0.make C us []) (hb _ (Value.ref a :: us) I2.kIn hl) r2 hq) fun r s' hq' => ?_)
  cases r with
  | error e => exact hx pins σ _ _ e s' I2 hq'
  | ok fl =>
    cases fl with
    | ret u =>
      obtain ⟨v, H', I3, rv, ev, q3⟩ := I2.after hq'
      subst ev
      exact ⟨rv, ⟨V.ref a, H', I3, rfl, q3⟩⟩
    | next => exact False.elim hq'
    | brk => exact False.elim hq'
    | cont => exact False.elim hq'
end
end L2
namespace L2
open PySem PySem.Spec PyProof.Rows
/-! ### isinstance of an error -/
structure XIs (K : PySem.W.Frag) (C : Addr) : Prop where
  cls : XCls K C
  ca : PySem.W.findIn K (.ref C) "__class__" = some (some (.builtin "object.__class__"))
  cg : PySem.W.specialIn K (.builtin "object.__class__") "__get__" = some (some (.builtin "getset_descriptor.__get__"))
  ct : PySem.W.takesIn K (.builtin "object.__class__") = some true
section
variable {prog : Program} {w : World} {A : Around} {E : Value → Shared → Prop} {s : Shared} {K : PySem.W.Frag} {x C : Addr} {ox : Obj} {od : Option Obj} {name : Str}
theorem XCls.top (c : XCls K C) : PySem.W.mroIn K C (.type "object") = some true := by
  obtain ⟨cd, hc, _, ht⟩ := c.cd
  unfold PySem.W.mroIn
  rw [hc, Option.bind_some, if_neg (by rw [excTail_ne _ ht]; decide), excTail_has "object" (by decide) _ ht]
theorem exc_class {Q : Option Value → Shared → Prop} (X : K.In s.heap) (I : PySem.W.InstAt s.heap x ox C od) (c : XIs K C) (h : Q (some (.ref C)) { s with toks := s.toks + 1 }) : wpAny (model prog w) A (getAttr? (.ref x) "__class__") Q E s := by
  have FX := PySem.F.excAttr_ValueError
  have sub := c.cls.under X I (M := model prog w) "BaseException" (by decide)
  have hf : PySem.W.findObj K C od "__class__" = some (.bind (.builtin "getset_descriptor.__get__") (.builtin "object.__class__")) := by
    obtain ⟨cd, hc, _⟩ := c.cls.cd
    unfold PySem.W.findObj
    rw [hc, Option.bind_some, c.ca, Option.bind_some]
    simp [c.cg, c.ct]
  obtain ⟨hp, g, d, t, os⟩ := s
  have t0 := I.type (M := model prog w)
  have t1 := PySem.W.looks_findIn (M := model prog w) X c.cls.ga
  have t2 := PySem.W.looks_hook (mc := .ref C) (M := model prog w) X (r := none) (by rw [if_pos (by rfl)]; exact c.cls.gk)
  have t3 := PySem.W.looks_find (M := model prog w) X I hf
  unfold getAttr? getAttrBy? getAttrBy
  refine wpAny_bind (wpAny_mkText (wpAny_bind (wpAny_attempt (wpAny_holding (wpAny_bind (t0.at (wpAny_bind (t1.at ?_))))))))
  dsimp only
  have nq : (Value.builtin "BaseException.__getattribute__" == Value.builtin "object.__getattribute__") = false := by decide +kernel
  rw [nq, Bool.and_false, if_neg Bool.false_ne_true]
  unfold getAttrByItsOwn
  refine wpAny_bind (t2.at (wpAny_bind (wpAny_attempt (wpAny_holding ?_))))
  unfold callGetattribute
  rw [show (false && onTheHeap (Value.builtin "BaseException.__getattribute__")) = false from rfl, if_neg Bool.false_ne_true]
  unfold boundAndCalled
  rw [FX.ga.bind]
  refine wpAny_bind (wpAny_pure ?_)
  show wpAny _ _ (call (.builtin "BaseException.__getattribute__") [.ref x, .str "__class__" t]) _ _ _
  refine wpAny_call (codeAny_call_builtin FX.ga.plain PySem.F.entry_bexc_ga (@PySem.W.check_slot (model prog w) _ _ ⟨hp, g, d, t + 1, os⟩ "BaseException.__getattribute__" "BaseException" "__getattribute__" (.ref x) [.str "__class__" t] [] _ (by decide +kernel) (by decide +kernel) sub (PySem.F.args_bexc_ga (.ref x) (.str "__class__" t)) ?_))
  unfold Builtin.«object.__getattribute__»
  refine wpAny_bind (wpAny_of_eq (a := (Value.ref x, [Value.str "__class__" t])) rfl ?_)
  refine wpAny_bind (wpAny_of_eq (a := Str.ofString "__class__") rfl ?_)
  refine wpAny_bind (t0.at (wpAny_bind (t3.at ?_)))
  show wpAny _ _ (holding [Value.builtin "object.__class__"] (call (.builtin "getset_descriptor.__get__") [.builtin "object.__class__", .ref x, .ref C]) >>= ret) _ _ _
  refine wpAny_bind (wpAny_holding (wpAny_call (PySem.W.class_get (s := ⟨hp, g, d, t + 1, os⟩) X I c.cls.top (wpAny_pure ?_))))
  exact PySem.W.handed_on rfl (wpAny_pure h)
theorem kit_exc (c : XIs K C) : PySem.W.KitX K (.ref x) (.ref C) (fun h => ∃ ox od, PySem.W.InstAt h x ox C od) where
  ty := fun _ _ _ ⟨_, _, I⟩ => I.type
  it := fun _ _ X _ => by
    obtain ⟨cd, hc, _⟩ := c.cls.cd
    intro A' Q' E' s' k q
    obtain ⟨c0, dd, sl, ho⟩ := cls_at X hc
    unfold isType loadHead
    exact wpAny_bind (wpAny_loadPart (k _ _ ho) (wpAny_pure q))
  ne := fun h tp dd its n sl X htp => by
    obtain ⟨cd, hc, _⟩ := c.cls.cd
    obtain ⟨c0, dd', sl', ho⟩ := cls_at X hc
    refine Bool.eq_false_iff.mpr fun q => ?_
    have e : C = tp := Value.ref.inj (beq_iff_eq.mp q)
    subst e
    rw [ho] at htp
    cases htp
  ca := fun X ⟨_, _, I⟩ k => exc_class X I c k
end
section
variable {X : Cx}
theorem Inv.xinst {pins : List (Addr × Obj)} {σ : St} {H : Hp} {s : Shared} {e C : Addr} {d : Option Addr} (I : Inv X pins σ H s) (h : H e = some (L2.exH e C d)) (hd : ∀ dx, d = some dx → ∃ fs, H dx = some (L2.exF dx fs)) : ∃ ox od, PySem.W.InstAt s.heap e ox C od := by
  obtain ⟨vs, sl, e1, _⟩ := I.exH h
  cases d with
  | none => exact ⟨_, none, e1, rfl, rfl, True.intro⟩
  | some dx =>
    obtain ⟨fs, h2⟩ := hd dx rfl
    obtain ⟨mA, n1, _⟩ := I.exF h2
    obtain ⟨o, es, ep, e2, _⟩ := n1
    exact ⟨_, some o, e1, rfl, rfl, e2⟩
/-- isinstance(e, C), the class a name of the text's top or a built-in one -/
def rIsX (K : PySem.W.Frag) : List V → Hp → VK → Prop := fun xs H Q => ∃ e C d c b, xs = [.ref e, c] ∧ H e = some (L2.exH e C d) ∧ (∀ dx, d = some dx → ∃ fs, H dx = some (L2.exF dx fs)) ∧ XIs K C ∧ (∀ u, RelV c u → PySem.W.kitOne K (.ref C) u = some b) ∧ Q (.bl b) H
theorem call_isX : CallR X (.builtin "isinstance") (rIsX X.K) := by
  intro pins s σ H xs us Q I r h
  obtain ⟨e, C, d, c, b, rfl, h1, h2, cc, hk, q⟩ := h
  obtain ⟨u, v, rfl, rx, rv⟩ := Vals.two r
  cases rx
  exact PySem.W.kia_one (kit_exc cc) I.kIn (I.xinst h1 h2) (hk v rv) (fun z => nomatch z) fun tk => ⟨.bl b, H, I.tok _, rfl, q⟩
theorem call_isTX : CallR X (.builtin "isinstance") (fun xs H Q => rIsT X.K xs H Q ∨ rIsX X.K xs H Q) := call_isT.or call_isX
end
/-! ### a class of errors without an __init__ of its own -/
section
variable {prog : Program} {w : World} {A : Around} {E : Value → Shared → Prop} {h : Heap} {g : Array GenState} {d : Drawn} {t : Nat} {os : OsState} {K : PySem.W.Frag}
variable {nm q : Str} {C N : Addr} {bs bm : List Value} {hdct : Bool} {sn : List Str} {sub : List Value} {ab : Bool} {col : Option Bool} {dd : Option Addr} {k0 k1 k2 k3 k5 : Option Value} {v : Value}
theorem xtype_call0 {Q : Fin → Shared → Prop} (X : K.In h) (c : XCls K C) (hC : h.get? C = some (excClassObj nm q C N bs bm hdct sn sub ab col dd k0 k1 k2 k3 k5 "ValueError.__new__")) (ht : excTail bm = true)
    (hi : PySem.W.findIn K (.ref C) "__init__" = some (some (.builtin "ValueError.__init__")))
    (hq : ∀ h' e tk, h.objs.size ≤ e → (∀ b o, h.get? b = some o → h'.get? b = some o) → exP e C none h' → Q (.done (.ret (.ref e))) ⟨h', g, d, tk, os⟩) :
    wpAny (model prog w) A (Builtin.«type.__call__» ⟨[.ref C, v], []⟩) Q E ⟨h, g, d, t, os⟩ := by
  have F := PySem.F.excBase_ValueError
  repeat (first | with_reducible refine wpAny_loadPart_at hC ?_ | with_reducible refine wpAny_madeBy_exc hC ?_ | wp_step)
  refine codeAny_call_builtin_code (Code.quiet_builtin _ F.quiet) (xnew_check hC ht (xnew_code hC ht (by show 1 ≤ sizeLine; decide) ?_))
  show wpAny _ _ _ _ _ _
  have kp : ∀ b o, h.get? b = some o → ((h.push { cls := .type "tuple", data := .seq [v].toArray }).push { cls := .ref C, data := .fields #[.ref h.objs.size, .none, .none, .none, .bool false, .none] }).get? b = some o := fun b o e => Heap.get?_push_of_some _ (Heap.get?_push_of_some _ e)
  have hC₁ := kp _ _ hC
  have X₁ := X.keeps kp
  have hg₁ : ((h.push { cls := .type "tuple", data := .seq [v].toArray }).push { cls := .ref C, data := .fields #[.ref h.objs.size, .none, .none, .none, .bool false, .none] }).get? (h.objs.size + 1) = some
      { cls := .ref C, data := .fields #[.ref h.objs.size, .none, .none, .none, .bool false, .none] } := by heap_get
  have e1 : (Value.ref C :: bm).contains (.ref C) = true := by simp
  unfold isInstance
  repeat (first | with_reducible refine wpAny_loadPart_at hg₁ ?_ | (with_reducible refine wpAny_isSubtype_exc hC₁ ?_; rw [e1]) | wp_step)
  refine (PySem.W.looks_findIn X₁ hi).at ?_
  refine wpAny_holding (wpAny_bind (wpAny_of_eq (F.init.bind _) ?_))
  refine wpAny_bind (exc_init X₁ hg₁ rfl c fun h' tk k ⟨vs', ex', z'⟩ => ?_)
  wp_walk
  exact hq h' (h.objs.size + 1) _ (Nat.le_succ _) (fun b o eb => k b o (Nat.ne_of_lt (Nat.lt_succ_of_lt (Heap.lt_size eb))) (kp b o eb)) ⟨vs', _, ex', z'⟩
theorem xcall0 {Q : Value → Shared → Prop} (X : K.In h) (c : XCls K C) (z : xmkIn K C = true) (hi : PySem.W.findIn K (.ref C) "__init__" = some (some (.builtin "ValueError.__init__")))
    (hq : ∀ h' e tk, h.objs.size ≤ e → (∀ b o, h.get? b = some o → h'.get? b = some o) → exP e C none h' → Q (.ref e) ⟨h', g, d, tk, os⟩) :
    wpAny (model prog w) A (call (.ref C) [v]) Q E ⟨h, g, d, t, os⟩ := by
  obtain ⟨nm, q, N, bs, bm, hdct, sn, sub, ab, col, dd, k0, k1, k2, k3, k5, hC, ht⟩ := xmk_of X z
  have f1 := tc_lookup
  have f2 := tc_bind (.ref C)
  have hT : (⟨h, g, d, t, os⟩ : Shared).TypeIs (.ref C) "type" := ⟨_, hC, rfl⟩
  refine wpAny_call (codeAny_of_tree ?_)
  show wpAny _ _ (callAny (.ref C) _) _ _ _
  repeat (any_goals (first | assumption | with_reducible refine wpAny_loadPart_at hC ?_ | wp_step))
  refine ⟨rfl, codeAny_call_builtin_at (Code.quiet_builtin _ (by decide +kernel)) entry_typeCall (wpAny_check_type_call_sub hC (xtype_call0 X c hC ht hi fun h' e tk he k p => ?_))⟩
  exact hq h' e tk he k p
end
structure XMk0 (K : PySem.W.Frag) (C : Addr) : Prop where
  cls : XCls K C
  makes : xmkIn K C = true
  init : PySem.W.findIn K (.ref C) "__init__" = some (some (.builtin "ValueError.__init__"))
  kp : PySem.W.keepIn K (.ref C) = true
def tMakeX0 (C : Addr) (t : TA) : TE := fun σ H Q => t σ H fun vs H1 => ∃ v, vs = [v] ∧ ∀ e, H1 e = none → Q (.ref e) (upd H1 e (L2.exH e C none))
theorem pe_makeX0 {X : Cx} {C : Addr} {x : Str} {p pos : Pos} {e : Expr} {t : TA} (M : XMk0 X.K C) (hg : Gl X x) (hm : X.mg x = some (.ref C)) (ha : PA X [e] t) (hdb : (x == ("__debug__" : Str)) = false := by decide)
    (he : starEach [e] X.env = (false, eval e X.env) :: starEach [] X.env := by rfl) (hpl : (backTo pos (starEach [] X.env)).any (·.1) = false := by rfl) : PE X (.Call (.Name x p) [e] [] pos) (tMakeX0 C t) := by
  intro pins s σ H Q I h
  refine wpAny_Call_Name_kw (ld_glob I hg hm ?_ hdb)
  refine PySem.W.callWith_K (h₀ := X.base) I.ok.mod.kin M.kp (thn (ha pos pins s σ H _ I h) fun us s1 ⟨vs, H1, I1, r, v, ev, q⟩ => ⟨I1.kIn, ?_⟩) he hpl
  subst ev
  obtain ⟨u, rfl, ru⟩ := r.one
  obtain ⟨hp, g, dr, tk, os⟩ := s1
  refine xcall0 I1.kIn M.cls M.makes M.init fun h' a tk' ha' k pz => ?_
  exact ⟨.ref a, _, I1.laid (t' := tk') k ha' (exH_ok pz), rfl, q a (I1.hok.fresh ha')⟩
end L2
namespace L2
open PySem PySem.Spec PyProof.Rows
/-! ### enumerate of a list -/
def Ite (K : PySem.W.Frag) (l : Addr) : It :=
  ⟨fun i H => ∃ xs, SqL K H l xs ∧ i < xs.length,
   fun i H x H' => ∃ T a, H T = none ∧ x = .ref T ∧ H' = upd H T (.tup [.int i, a]) ∧ ∀ xs, SqL K H l xs → xs[i]? = some a,
   fun i H => ∃ xs, SqL K H l xs ∧ xs.length ≤ i⟩
def EnSt (e it l : Addr) (i : Nat) (h : Heap) : Prop := (∃ old, IsEnum h e it i old) ∧ h.IsListIter it l i
theorem turn_enum {P : Program} {w : World} {K : PySem.W.Frag} {elts : List Expr} {kk : Nat} {tpos : Pos} (e it l : Addr) (hei : e ≠ it) : Turn P w K (.Tuple elts kk tpos) (Ite K l) [e, it] e (EnSt e it l) where
  mem := by simp
  obj := fun i h st b hb => by
    obtain ⟨⟨old, he⟩, o1, e1, _, d1⟩ := st
    simp only [List.mem_cons, List.not_mem_nil, or_false] at hb
    rcases hb with rfl | rfl
    · exact ⟨_, he, fun v q => by cases (show Data.fields _ = Data.cell v from q)⟩
    · exact ⟨_, e1, fun v q => by rw [d1] at q; cases q⟩
  keep := fun i h h' st k => by
    obtain ⟨⟨old, he⟩, h1⟩ := st
    exact ⟨⟨old, k e (by simp) _ he⟩, h1.at fun o z => k it (by simp) o z⟩
  item := by
    intro X hP hw hK hc i pins s σ H E I hf st hg
    subst hP hw hK
    obtain ⟨xs, q1, g1⟩ := hg
    obtain ⟨its1, r1, p1, z1⟩ := I.list q1
    obtain ⟨u1, e1, ru1⟩ := r1.get (List.getElem?_eq_getElem g1)
    obtain ⟨⟨old, he⟩, h1⟩ := st
    refine wpAny_pyNext_enum_item he h1 p1.isList (x := u1) (by simpa using e1) hei fun h1' a1 a2 a3 a4 hk => ⟨_, rfl, ?_⟩
    refine wpAny_letOwnedTupleGo_enum a1 fun h2' hz' hs' => ?_
    have lt : ∀ {c o}, s.heap.get? c = some o → s.heap.objs.size ≠ c := fun e => Nat.ne_of_gt (Heap.lt_size e)
    have Te : s.heap.objs.size ≠ e := lt he
    have kz : ∀ b o, b ≠ e → h1'.get? b = some o → h2'.get? b = some o := fun b o hb q => hs'.extBut _ _ hb q
    have I' : Inv X pins σ (upd H s.heap.objs.size (.tup [.int i, xs[i]])) { s with heap := h2', toks := s.toks + 1 } := by
      refine I.turnedNew (t' := s.toks + 1) (ch := [e, it]) (fun b o hb q => ?_) hf (Nat.le_refl _) ?_
      · simp only [List.mem_cons, List.not_mem_nil, or_false, not_or] at hb
        exact kz b o hb.1 (hk b o hb.1 hb.2 q)
      · exact ⟨(by show 2 ≤ sizeLine; decide), [.int i s.toks, u1], .cons ⟨_, rfl⟩ (.cons ru1 .nil), _, kz _ _ Te a3, rfl, _, rfl⟩
    refine ⟨.ref s.heap.objs.size, _, I', rfl, ⟨s.heap.objs.size, xs[i], I.hok.fresh (Nat.le_refl _), rfl, rfl, fun xs' q' => ?_⟩, ⟨⟨_, by simpa using hz'⟩, a2.at fun o q => kz _ _ hei.symm q⟩, fun b hb => ?_⟩
    · rw [I.list_inj q' q1]; exact List.getElem?_eq_getElem g1
    · have n := (hf b hb).1
      simp only [List.mem_cons, List.not_mem_nil, or_false] at hb
      have ob : ∃ o, s.heap.get? b = some o := by
        obtain ⟨o1, x1, _⟩ := h1
        rcases hb with rfl | rfl
        · exact ⟨_, he⟩
        · exact ⟨_, x1⟩
      obtain ⟨o, eo⟩ := ob
      rw [upd_ne (Ne.symm (lt eo))]
      exact n
  done := by
    intro X hP hw hK hc i pins s σ H E I hf st hg
    subst hP hw hK
    obtain ⟨xs, q1, g⟩ := hg
    obtain ⟨its1, r1, p1, z1⟩ := I.list q1
    obtain ⟨⟨old, he⟩, h1⟩ := st
    have l1' := r1.length
    refine wpAny_pyNext_enum_end (I.ok.hd hc) he h1 p1.isList (Array.getElem?_eq_none (by rw [List.size_toArray]; omega)) fun h' hk => ⟨rfl, ?_⟩
    refine I.turnedL (t' := s.toks) (ch := [e, it]) (fun b o hb q => ?_) hf
    simp only [List.mem_cons, List.not_mem_nil, or_false, not_or] at hb
    exact hk b o hb.2 q
  self := fun _ _ _ _ _ st h => by
    obtain ⟨⟨old, he⟩, _⟩ := st
    exact wpAny_pyIter_enum he h
def iEnum (K : PySem.W.Frag) (ta : TA) : TI := fun σ H R => ta σ H fun vs H1 => ∃ l xs, vs = [.ref l] ∧ SqL K H1 l xs ∧ R (Ite K l) H1
theorem pi_enum {X : Cx} {a : Expr} {ta : TA} {p pos tpos : Pos} {elts : List Expr} {kk : Nat} (hg : Gl X "enumerate") (hm : X.mg "enumerate" = none) (ha : PA X [a] ta) (hs : starEach [a] X.env = [(false, eval a X.env)] := by rfl) :
    PI X (.Tuple elts kk tpos) (.Call (.Name "enumerate" p) [a] [] pos) (iEnum X.K ta) := by
  intro pins s σ H R I h
  refine Call_ (ld_blt I hg hm (show bootBuiltins "enumerate" = some (.type "enumerate") from by decide +kernel) (PyProof.Rows.callWith_type1 (thn (ha pos pins s σ H _ I h) fun us s1 ⟨vs, H1, I1, r1, q1⟩ => ?_) hs rfl))
  obtain ⟨l, xs, ev, q1, q⟩ := q1
  subst ev
  obtain ⟨u1, rfl, ru1⟩ := r1.one
  cases ru1
  obtain ⟨its1, v1, p1, z1⟩ := I1.list q1
  refine call_enumerate_list p1.isList fun h' he h1 sz hk => wpAny_pyIter_enum he ?_
  refine ⟨_, _, EnSt _ _ _, _, H1, rfl, I1.kept (t' := s1.toks) hk, turn_enum _ _ _ (Nat.ne_of_gt (Nat.lt_succ_self _)), ⟨⟨_, he⟩, h1⟩, fun b hb => ?_, q⟩
  have hb' : s1.heap.objs.size ≤ b := by
    simp only [List.mem_cons, List.not_mem_nil, or_false] at hb
    rcases hb with rfl | rfl
    · exact Nat.le_succ _
    · exact Nat.le_refl _
  exact I1.fpOk hb' (I1.hok.fresh hb')
theorem for_enum {K : PySem.W.Frag} {l : Addr} {xs : List V} {g : TG} {tb : TS} {D : Ends} {σ : St} {H : Hp} (Pv : Nat → St → Hp → Prop) (h0 : Pv 0 σ H) (hl : ∀ i σ H, Pv i σ H → SqL K H l xs)
    (hs : ∀ i T a σ H, xs[i]? = some a → H T = none → Pv i σ H → g (.ref T) σ (upd H T (.tup [.int i, a])) fun σ2 H2 => tb { D with nx := Pv (i + 1), ct := Pv (i + 1), bk := D.nx } σ2 H2)
    (hd : ∀ σ H, Pv xs.length σ H → D.nx σ H) :
    ∃ W : Nat → Nat → St → Hp → Prop, (∃ m, W 0 m σ H) ∧ ∀ i m σ H, W i m σ H →
      ((Ite K l).stop i H ∧ D.nx σ H) ∨ ((Ite K l).go i H ∧ ∃ N : St → Hp → Prop, (∀ σ' H', N σ' H' → ∃ m', m' < m ∧ W (i + 1) m' σ' H') ∧ ∀ x H', (Ite K l).yld i H x H' → g x σ H' fun σ2 H2 => tb { D with nx := N, ct := N, bk := D.nx } σ2 H2) := by
  refine ⟨fun i m σ H => m = xs.length - i ∧ i ≤ xs.length ∧ Pv i σ H, ⟨_, rfl, Nat.zero_le _, h0⟩, ?_⟩
  rintro i m σ H ⟨rfl, hi, p⟩
  have q1 := hl i σ H p
  by_cases hlt : i < xs.length
  · refine .inr ⟨⟨xs, q1, hlt⟩, Pv (i + 1), fun σ' H' p' => ⟨_, by omega, rfl, hlt, p'⟩, fun x H' y => ?_⟩
    obtain ⟨T, a, hT, rfl, rfl, y1⟩ := y
    exact hs i T a σ H (y1 xs q1) hT p
  · have e : i = xs.length := by omega
    subst e
    exact .inl ⟨⟨xs, q1, Nat.le_refl _⟩, hd σ H p⟩
end L2
namespace L2
open PySem PySem.Spec PyProof.Rows
/-! ### classes of errors by their names -/
def clA (K : PySem.W.Frag) (x : Str) : Addr := match PySem.W.nsIn K mainGlobals x with
  | some (some (.ref a)) => a
  | _ => 0
theorem clA_of {K : PySem.W.Frag} {x : Str} {a : Addr} (h : PySem.W.nsIn K mainGlobals x = some (some (.ref a))) : clA K x = a := by
  unfold clA
  rw [h]
def xok (C : Addr) (cd : ClassData) (sl : Array (Option Value)) : Bool := cd.hasDict && (match cd.mro, sl.toList with
  | .ref C' :: bm, [_, _, _, _, some (.builtin n), _] => C' == C && n == "ValueError.__new__" && !cd.hasDel && excTail bm
  | _, _ => false)
structure XObj (K : PySem.W.Frag) (C : Addr) (cd : ClassData) : Prop where
  ex : ∃ dd sl, K.lookup C = some ⟨.type "type", dd, .cls cd, sl⟩ ∧ xok C cd sl = true
section
variable {K : PySem.W.Frag} {C D : Addr} {cd cd' : ClassData}
theorem XObj.cls (x : XObj K C cd) : PySem.W.clsIn K C = some cd := by
  obtain ⟨dd, sl, l, _⟩ := x.ex
  unfold PySem.W.clsIn
  rw [l]
theorem XObj.mk? (x : XObj K C cd) : cd.hasDict = true ∧ xmkIn K C = true ∧ ∃ bm, cd.mro = .ref C :: bm ∧ excTail bm = true := by
  obtain ⟨dd, sl, l, o⟩ := x.ex
  unfold xok at o
  rw [Bool.and_eq_true] at o
  obtain ⟨o1, o2⟩ := o
  refine ⟨o1, ?_, ?_⟩
  · unfold xmkIn
    rw [l]
    exact o2
  · split at o2
    · rename_i C' bm k0 k1 k2 k3 n k5 hm hs
      simp only [Bool.and_eq_true, beq_iff_eq, Bool.not_eq_true'] at o2
      obtain ⟨⟨⟨rfl, _⟩, _⟩, ht⟩ := o2
      exact ⟨bm, hm, ht⟩
    · cases o2
theorem XObj.type (x : XObj K C cd) : PySem.W.typeIn K (.ref C) = some (.type "type") := by
  obtain ⟨dd, sl, l, _⟩ := x.ex
  show (K.lookup C).map (·.cls) = _
  rw [l]
  rfl
theorem XObj.sub (x : XObj K C cd) (v : Value) : PySem.W.subIn K (.ref C) v = some (cd.mro.contains v) := by
  obtain ⟨_, _, bm, hm, _⟩ := x.mk?
  show PySem.W.mroIn K C v = _
  unfold PySem.W.mroIn
  rw [x.cls, Option.bind_some, hm]
  rfl
/-- any class of one's own, as written -/
structure KObj (K : PySem.W.Frag) (C : Addr) (cd : ClassData) : Prop where
  cls : PySem.W.clsIn K C = some cd
  type : PySem.W.typeIn K (.ref C) = some (.type "type")
  mro : ∃ bm, cd.mro = .ref C :: bm
theorem XObj.kobj (x : XObj K C cd) : KObj K C cd := ⟨x.cls, x.type, let ⟨_, _, bm, hm, _⟩ := x.mk?; ⟨bm, hm⟩⟩
theorem KObj.sub (x : KObj K C cd) (v : Value) : PySem.W.subIn K (.ref C) v = some (cd.mro.contains v) := by
  obtain ⟨bm, hm⟩ := x.mro
  show PySem.W.mroIn K C v = _
  unfold PySem.W.mroIn
  rw [x.cls, Option.bind_some, hm]
  rfl
theorem KObj.kit (x : KObj K C cd) (y : KObj K D cd') : PySem.W.kitOne K (.ref C) (.ref D) = some (cd.mro.contains (.ref D)) := by
  unfold PySem.W.kitOne
  by_cases q : (Value.ref C == Value.ref D) = true
  · have e : C = D := Value.ref.inj (beq_iff_eq.mp q)
    subst e
    obtain ⟨bm, hm⟩ := x.mro
    rw [if_pos q, hm, List.contains_cons, q, Bool.true_or]
  · rw [if_neg q]
    unfold PySem.W.kitCls
    dsimp only
    rw [y.cls, y.type, x.sub]
    rw [if_pos (by rw [beq_self_eq_true]; rfl)]
theorem XObj.val (x : XObj K C cd) : PySem.W.kitOne K (.ref C) (.type "ValueError") = some true := by
  obtain ⟨_, _, bm, hm, ht⟩ := x.mk?
  unfold PySem.W.kitOne PySem.W.kitCls
  rw [if_neg (by intro q; cases beq_iff_eq.mp q)]
  dsimp only
  rw [if_pos (by decide +kernel), x.sub, hm, excTail_has "ValueError" (by decide) (.ref C :: bm) ht]
end
/-- a class of errors: under which of the named classes it stands, which fields it may get -/
structure XKd (K : PySem.W.Frag) (ns : List Str) (C : Addr) (ms fs : List Str) : Prop where
  is : XIs K C
  kit : ∀ n ∈ ns, PySem.W.kitOne K (.ref C) (.ref (clA K n)) = some (ms.contains n)
  val : PySem.W.kitOne K (.ref C) (.type "ValueError") = some true
  na : ∀ f ∈ fs, NoAttr K C f
inductive Pts (K : PySem.W.Frag) : List Str → List Addr → Prop
  | nil : Pts K [] []
  | cons {n : Str} {ns : List Str} {C : Addr} {Cs : List Addr} {cd : ClassData} : PySem.W.nsIn K mainGlobals n = some (some (.ref C)) → KObj K C cd → Pts K ns Cs → Pts K (n :: ns) (C :: Cs)
section
variable {K : PySem.W.Frag} {C : Addr} {cd : ClassData}
theorem kit_all {ms : List Str} (x : KObj K C cd) : ∀ {ns : List Str} {Cs : List Addr}, Pts K ns Cs → (Cs.map fun D => cd.mro.contains (.ref D)) = ns.map ms.contains → ∀ n ∈ ns, PySem.W.kitOne K (.ref C) (.ref (clA K n)) = some (ms.contains n)
  | _, _, .nil, _, _, h => by cases h
  | _, _, .cons a y p, e, n, h => by
    have e' := List.cons.inj e
    rcases List.mem_cons.mp h with rfl | h
    · rw [clA_of a, x.kit y]
      exact congrArg some e'.1
    · exact kit_all x p e'.2 n h
theorem na_nil : ∀ f ∈ ([] : List Str), NoAttr K C f := fun _ h => by cases h
theorem na_cons {f : Str} {fs : List Str} (h : PySem.W.findIn K (.ref C) f = some none) (t : ∀ g ∈ fs, NoAttr K C g) : ∀ g ∈ f :: fs, NoAttr K C g := fun g hg => by
  rcases List.mem_cons.mp hg with rfl | hg
  · exact h
  · exact t g hg
theorem xkd_mk {x : Str} {ns ms fs : List Str} {Cs : List Addr} (hn : PySem.W.nsIn K mainGlobals x = some (some (.ref C))) (o : XObj K C cd) (p : Pts K ns Cs) (e : (Cs.map fun D => cd.mro.contains (.ref D)) = ns.map ms.contains)
    (ga : PySem.W.findIn K (.ref C) "__getattribute__" = some (some (.builtin "BaseException.__getattribute__"))) (gk : PySem.W.findIn K (.ref C) "__getattr__" = some none) (sa : PySem.W.findIn K (.ref C) "__setattr__" = some (some (.builtin "object.__setattr__")))
    (ca : PySem.W.findIn K (.ref C) "__class__" = some (some (.builtin "object.__class__"))) (cg : PySem.W.specialIn K (.builtin "object.__class__") "__get__" = some (some (.builtin "getset_descriptor.__get__"))) (ct : PySem.W.takesIn K (.builtin "object.__class__") = some true)
    (na : ∀ f ∈ fs, NoAttr K C f) : XKd K ns (clA K x) ms fs := by
  rw [clA_of hn]
  obtain ⟨hd, _, bm, hm, ht⟩ := o.mk?
  exact ⟨⟨⟨⟨cd, o.cls, hd, by rw [hm]; exact ht⟩, ga, gk, sa⟩, ca, cg, ct⟩, kit_all o.kobj p e, o.val, na⟩
theorem xmk_mk {x : Str} {f : Addr} (hn : PySem.W.nsIn K mainGlobals x = some (some (.ref C))) (o : XObj K C cd) (hi : PySem.W.findIn K (.ref C) "__init__" = some (some (.ref f))) (hf : PySem.W.isFn K (.ref f) = true) (kp : PySem.W.keepIn K (.ref C) = true) : XMk K (clA K x) f := by
  rw [clA_of hn]
  exact ⟨o.mk?.2.1, hi, hf, kp⟩
theorem xmk0_mk {x : Str} {ns ms fs : List Str} (hn : PySem.W.nsIn K mainGlobals x = some (some (.ref C))) (o : XObj K C cd) (d : XKd K ns (clA K x) ms fs) (hi : PySem.W.findIn K (.ref C) "__init__" = some (some (.builtin "ValueError.__init__"))) (kp : PySem.W.keepIn K (.ref C) = true) : XMk0 K (clA K x) := by
  have e := clA_of hn
  exact ⟨d.is.cls, by rw [e]; exact o.mk?.2.1, by rw [e]; exact hi, by rw [e]; exact kp⟩
theorem xbase_mk {x : Str} (hn : PySem.W.nsIn K mainGlobals x = some (some (.ref C))) (hg : PySem.W.specialIn K (.ref C) "__getattribute__" = some (some (.builtin "type.__getattribute__"))) (rd : PySem.W.readsIn K C (.type "type") = true)
    (fc : PySem.W.findCls K (.ref C) (.type "type") "__init__" = some (.val (.builtin "ValueError.__init__"))) : XBase K (clA K x) := by
  rw [clA_of hn]
  exact ⟨hg, rd, fc⟩
end
structure GotX (P : Program) (w : World) (K : PySem.W.Frag) (mg : Str → Option Value) (base : Heap) (k : Nat) (x : Str) (ps : List Str) (sp : Sp) : Prop where
  ex : ∃ f fd, XMk K (clA K x) f ∧ FnOk P w K mg base CX0 k f fd ps sp ∧ Binds K fd ps [] ∧ mg x = some (.ref (clA K x))
structure GotX0 (K : PySem.W.Frag) (mg : Str → Option Value) (x : Str) : Prop where
  mk0 : XMk0 K (clA K x)
  at_ : mg x = some (.ref (clA K x))
section
variable {X : Cx} {k n : Nat} {x : Str} {ps : List Str} {sp : Sp} {p pos : Pos} {e : Expr} {es : List Expr} {t : TA}
theorem pe_mkX (g : GotX X.prog X.w X.K X.mg X.base k x ps sp) (hr : Room n X.A) (hk : k + 1 ≤ n) (hg : Gl X x) (ha : PA X (e :: es) t) (hdb : (x == ("__debug__" : Str)) = false := by decide)
    (he : starEach (e :: es) X.env = (false, eval e X.env) :: starEach es X.env := by rfl) (hpl : (backTo pos (starEach es X.env)).any (·.1) = false := by rfl) :
    PE X (.Call (.Name x p) (e :: es) [] pos) (tMakeX (clA X.K x) sp [] E0 t) := by
  obtain ⟨f, fd, M, F, hb, hm⟩ := g.ex
  exact pe_makeX M F (hr.mono hk) hg hm hb .nil pass0 ha hdb he hpl
theorem pe_mkX0 (g : GotX0 X.K X.mg x) (hg : Gl X x) (ha : PA X [e] t) (hdb : (x == ("__debug__" : Str)) = false := by decide)
    (he : starEach [e] X.env = (false, eval e X.env) :: starEach [] X.env := by rfl) (hpl : (backTo pos (starEach [] X.env)).any (·.1) = false := by rfl) :
    PE X (.Call (.Name x p) [e] [] pos) (tMakeX0 (clA X.K x) t) := pe_makeX0 g.mk0 hg g.at_ ha hdb he hpl
/-- a class's name -/
theorem pe_cl (hg : Gl X x) (h : X.mg x = some (.ref (clA X.K x))) (hd : (x == ("__debug__" : Str)) = false := by decide) : PE X (.Name x pos) (tC (.ref (clA X.K x))) := pe_glob hg h rfl hd
end
end L2
namespace L2
open PySem PySem.Spec PyProof.Rows
/-! ### a list comprehension whose target is a tuple of names -/
def KeepS (σ σ' : St) : Prop := σ.length = σ'.length ∧ ∀ (j : Nat) (v : V), σ[j]? = some (some v) → σ'[j]? = some (some v)
def inStT (kx : Nat) (cap : List Nat) (σ : St) : St := List.replicate kx none ++ cap.map fun i => (σ[i]?).join
def compBodyT (J : It) (kx : Nat) (g : TG) (tc : TT) (te : TE) (cap : List Nat) (σ : St) (Q : VK) (H1 : Hp) : Prop := ∀ acc, H1 acc = none → ∃ W : Nat → Nat → Hp → Prop, (∃ m, W 0 m (upd H1 acc (.lst []))) ∧ ∀ i m H, W i m H →
  (J.stop i H ∧ Q (.ref acc) H) ∨ (J.go i H ∧ ∀ x H', J.yld i H x H' → g x (inStT kx cap σ) H' fun σ2 H2 => KeepS (inStT kx cap σ) σ2 ∧ tc σ2 H2 fun b H3 => if b = true then te σ2 H3 fun y H4 => ∃ ys, H4 acc = some (.lst ys) ∧ ys.length < sizeLine ∧ ∃ m', m' < m ∧ W (i + 1) m' (upd H4 acc (.lst (ys ++ [y]))) else ∃ m', m' < m ∧ W (i + 1) m' H3)
def tCompT (wi : TI) (kx : Nat) (g : TG) (tc : TT) (te : TE) (cap : List Nat) : TE := fun σ H Q => wi σ H fun J H1 => compBodyT J kx g tc te cap σ Q H1
section
variable {X : Cx} {pins : List (Addr × Obj)} {σ : St} {H : Hp} {s : Shared}
structure CompScopeT (X : Cx) (scope : Scope) (xs : List Str) (cn : List Str) (cap : List Nat) : Prop where
  kind : scope.kind = .function
  names : ∀ y ∈ scope.names, y.2 = .local → scope.names.lookup y.1 = some .local
  cell : ∀ y ∈ scope.names, y.2 ≠ .cell
  own : ∀ y ∈ xs, scope.names.lookup y = some .local
  free : ∀ y ∈ scope.names, y.2 = .free → X.env.kindOf y.1 = some .cell ∨ X.env.kindOf y.1 = some .free
  cap : cap.map (fun i => X.N[i]?) = cn.map some
  capf : ∀ y ∈ cn, scope.names.lookup y = some .free
  capo : ∀ y ∈ cn, X.env.scope.names.lookup y = some .cell ∨ X.env.scope.names.lookup y = some .free
  nd : (xs ++ cn).Nodup
theorem comp_okT {scope : Scope} {xs : List Str} {cn : List Str} {cap : List Nat} {cl : List (Str × Addr)} {C : Addr} {fp : List Addr} (S : CompScopeT X scope xs cn cap) (I : Inv X pins σ H s) (hf : ∀ b ∈ fp, FpOk X pins H b) (hlt : ∀ b ∈ fp, b < s.heap.objs.size)
    (hc1 : ∀ y c, cl.lookup y = some c → X.env.cells.lookup y = some c) (hc2 : ∀ y, (y, NameKind.free) ∈ scope.names → ∃ c, cl.lookup y = some c) (hC : s.heap.objs.size ≤ C) : (cxComp X scope (xs ++ cn) cl C s H fp).Ok where
  mod := I.ok.mod
  kind := S.kind
  glob := I.ok.glob
  blt := I.ok.blt
  above := hC
  inj := fun y z c h1 h2 => I.ok.inj y z c (hc1 y c h1) (hc1 z c h2)
  has := fun y h => hc2 y (of_relabel (env := X.env) S.cell h)
  cab := fun y c h => by cases (show false = true from h)
  hd := I.ok.hd
  frames := I.ok.frames
  stk := .inl rfl
  exf := fun b hb => ⟨Nat.ne_of_lt (Nat.lt_of_lt_of_le (hlt b hb) hC), fun y c h => (hf b hb).2.2.2.2.1 y c (hc1 y c h)⟩
  bs := I.bs
  bsz := Nat.le_trans I.ok.bsz I.sz
  noex := fun b o e hb => by
    rcases (hf b hb).2.2.2.1 with z | z
    · exact I.ok.noex b o e z
    · have h1 := Heap.lt_size e
      exact absurd (Nat.lt_of_lt_of_le h1 (Nat.le_trans I.ok.bsz z)) (Nat.lt_irrefl _)
  exfs := fun b hb z => by
    rcases List.mem_cons.mp (I.stkSub b z) with q | q
    · exact (hf b hb).2.1 q
    · exact (hf b hb).2.2.1 q
  funs := I.stack
  frf := I.stkFree
theorem pe_compT {elt iter tg : Expr} {xs : List Str} {kx : Nat} {g : TG} {ifs : List Expr} {scope : Scope} {pos : Pos} {wi : TI} {tc : TT} {te : TE} (cn : List Str) (cap : List Nat) (S : CompScopeT X scope xs cn cap) (hc : X.calm = true)
    (hkx : xs.length = kx) (hg : ∀ cl C s₀ H₀ ex, PG (cxComp X scope (xs ++ cn) cl C s₀ H₀ ex) tg g)
    (hi : PI X tg iter wi) (hin : ∀ cl C s₀ H₀ ex, PIfs (cxComp X scope (xs ++ cn) cl C s₀ H₀ ex) ifs tc) (he : ∀ cl C s₀ H₀ ex, PE (cxComp X scope (xs ++ cn) cl C s₀ H₀ ex) elt te)
    (hs : ∀ z, foldedSetIterable iter X.env z = pure z := by intro _; rfl) : PE X (.ListComp elt [⟨tg, iter, ifs, 0⟩] scope pos) (tCompT wi kx g tc te cap) := by
  intro pins s σ H Q I h
  obtain ⟨cl, hclos, hc1, hc2⟩ := closure_ok (scope := scope) (env := X.env) fun y hy hk => I.ok.has y.1 (S.free y hy hk)
  rw [eval_ListComp]
  refine wpAny_comprehension_free (use := none) rfl hs hclos S.kind S.names (thn (hi pins s σ H _ I h) fun v s1 h1 => thn h1 fun itv s2 h2 => ?_)
  obtain ⟨it, fp, tn, J, H2, e, I2, T, st2, f2, q2⟩ := h2
  subst e
  have hlt : ∀ b ∈ fp, b < s2.heap.objs.size := fun b hb => by
    obtain ⟨o, e, _⟩ := T.obj _ _ st2 b hb
    exact Heap.lt_size e
  refine wpAny_newObj_type (wpAny_newFunctionEnv S.cell (by intro y hy; simp at hy) (fun h₁ hns₁ hsb₁ => ?_) S.kind)
  dsimp only at hns₁ hsb₁ ⊢
  generalize hP : s2.heap.push { cls := .type "list", dict := none, data := .seq ([] : List Value).toArray } = P2 at hns₁ hsb₁ ⊢
  have hC : P2.objs.size = s2.heap.objs.size + 1 := by rw [← hP, Heap.size_push]
  have hDC : s2.heap.objs.size ≠ P2.objs.size := by rw [hC]; exact Nat.ne_of_lt (Nat.lt_succ_self _)
  have hCle : s2.heap.objs.size ≤ P2.objs.size := by rw [hC]; exact Nat.le_succ _
  have neC : ∀ b, b < s2.heap.objs.size → b ≠ P2.objs.size := fun b hb => by rw [hC]; exact Nat.ne_of_lt (Nat.lt_succ_of_lt hb)
  have old : ∀ b o, s2.heap.get? b = some o → h₁.get? b = some o := fun b o e => hsb₁.extBut b o (neC b (Heap.lt_size e)) (Heap.get?_push_of_some _ (hP ▸ Heap.get?_push_of_some _ e))
  have hacc : h₁.get? s2.heap.objs.size = some { cls := .type "list", dict := none, data := .seq ([] : List Value).toArray } := hsb₁.extBut _ _ hDC (Heap.get?_push_of_some _ (hP ▸ Heap.get?_push_size _ rfl))
  have hD0 : H2 s2.heap.objs.size = none := I2.hok.fresh (Nat.le_refl _)
  have ok' : (cxComp X scope (xs ++ cn) cl P2.objs.size s2 H2 fp).Ok := comp_okT S I2 f2 hlt hc1 hc2 hCle
  obtain ⟨W, ⟨m0, w0⟩, turn⟩ := q2 _ hD0
  have hok1 : HOk X.prog X.w (upd H2 s2.heap.objs.size (.lst [])) h₁ := I2.hok.laid old (Nat.le_refl _) ⟨Nat.zero_le _, [], _, .nil, hacc⟩
  have un1 : Un (frs X.stack) fp H2 (upd H2 s2.heap.objs.size (.lst [])) s2.heap h₁ := Un.laid old (Nat.le_refl _) hD0
  have I4 : ∀ tk, Inv (cxComp X scope (xs ++ cn) cl P2.objs.size s2 H2 fp) [] (inStT kx cap σ) (upd H2 s2.heap.objs.size (.lst [])) { s2 with heap := h₁, toks := tk } := fun tk => by
    refine ⟨ok', rfl, I2.bare, un1, ⟨_, hns₁, fun i y v e1 e2 e3 => ?_⟩, fun y c e => ?_, ?_, fun y c e => ?_, fun p hp => (nomatch hp), hok1, ?_⟩
    · by_cases hik : i < kx
      · have e2' : (List.replicate kx (none : Option V) ++ cap.map fun i => (σ[i]?).join)[i]? = some (some v) := e2
        rw [List.getElem?_append_left (by rw [List.length_replicate]; exact hik), List.getElem?_replicate, if_pos hik] at e2'
        cases Option.some.inj e2'
      · have e1'' : (xs ++ cn)[i]? = some y := e1
        have e1' : cn[i - kx]? = some y := by
          rw [List.getElem?_append_right (by rw [hkx]; exact Nat.le_of_not_lt hik), hkx] at e1''
          exact e1''
        have ymem : y ∈ cn := List.mem_of_getElem? e1'
        obtain ⟨i0, ci, ni⟩ := map_get S.cap e1'
        have e2'' : (List.replicate kx (none : Option V) ++ cap.map fun i => (σ[i]?).join)[i]? = some (some v) := e2
        have e2' : (cap.map fun i => (σ[i]?).join)[i - kx]? = some (some v) := by
          rw [List.getElem?_append_right (by rw [List.length_replicate]; exact Nat.le_of_not_lt hik), List.length_replicate] at e2''
          exact e2''
        rw [List.getElem?_map, ci] at e2'
        have e3' : (σ[i0]?).join = some v := Option.some.inj e2'
        have e4 : σ[i0]? = some (some v) := by
          cases q : σ[i0]? with
          | none => rw [q] at e3'; cases e3'
          | some o => rw [q] at e3'; exact congrArg some e3'
        obtain ⟨m, hn, hl⟩ := I2.loc
        have vis : Vis X.env.scope y := .inr (S.capo y ymem)
        obtain ⟨u, r, lk⟩ := hl i0 y v ni e4 vis
        refine ⟨u, r, .inr ⟨lookup_relabel_free (env := X.env) (S.capf y ymem), ?_⟩⟩
        rcases lk with ⟨kl, _⟩ | ⟨_, c, ec, hcell⟩
        · rcases S.capo y ymem with z | z
          · have kl' : X.env.scope.names.lookup y = some .local := kl
            rw [z] at kl'; cases kl'
          · have kl' : X.env.scope.names.lookup y = some .local := kl
            rw [z] at kl'; cases kl'
        · have fm : (y, NameKind.free) ∈ scope.names := of_relabel (env := X.env) S.cell (lookup_relabel_free (env := X.env) (S.capf y ymem))
          obtain ⟨c', ec'⟩ := hc2 y fm
          have := hc1 y c' ec'
          rw [ec] at this
          cases this
          obtain ⟨o, ho, hd⟩ := hcell
          exact ⟨c, ec', o, old _ _ ho, hd⟩
    · obtain ⟨v, o, ho, hd⟩ := I2.cell y c (hc1 y c e)
      exact ⟨v, o, old _ _ ho, hd⟩
    · show (upd H2 s2.heap.objs.size (.lst [])) P2.objs.size = none
      rw [upd_ne (Ne.symm hDC)]
      exact I2.hok.fresh hCle
    · obtain ⟨v, o, ho, hd⟩ := I2.cell y c (hc1 y c e)
      rw [upd_ne (Nat.ne_of_lt (Heap.lt_size ho))]
      exact I2.freeC y c (hc1 y c e)
    · show (inStT kx cap σ).length = (xs ++ cn).length
      have := congrArg List.length S.cap
      simp only [List.length_map] at this
      simp [inStT, this, hkx]
  have stat : ∀ {H' : Hp}, (∀ b ∈ fp, H' b = none) → ∀ b ∈ fp, FpOk (cxComp X scope (xs ++ cn) cl P2.objs.size s2 H2 fp) [] H' b := fun hn b hb =>
    ⟨hn b hb, neC b (hlt b hb), ok'.exfs b hb, .inl hb, fun y c e => (ok'.exf b hb).2 y c e, fun p hp => (nomatch hp)⟩
  have loop : ∀ s₃ : Shared, s₃ = { s2 with heap := h₁, toks := s2.toks + ([] : List (Str × Value)).length } →
      codeAny (model X.prog X.w) X.A (.compLoop (.ListComp elt [⟨tg, iter, ifs, 0⟩] scope pos) 0 (.ref it) (.ref s2.heap.objs.size) (compEnvC scope cl P2.objs.size X.env))
        (compPost (model X.prog X.w) X.A X.xe none (EP X pins σ Q) (.ref s2.heap.objs.size) P2.objs.size) s₃ := by
    rintro s₃ rfl
    refine codeAny_loop rfl (fun n s' => ∃ i H', Inv (cxComp X scope (xs ++ cn) cl P2.objs.size s2 H2 fp) [] (inStT kx cap σ) H' s' ∧ tn i s'.heap ∧ (∀ b ∈ fp, H' b = none) ∧ W i n H') ?_ m0
      ⟨0, _, I4 _, T.keep _ _ _ st2 fun b hb o e => old b o e, fun b hb => by rw [upd_ne (Nat.ne_of_lt (hlt b hb))]; exact (f2 b hb).1, w0⟩
    rintro n s3 ⟨i, H3, I3, st3, fr3, w3⟩
    show wpAny _ X.A ((compTurn (.ListComp elt [⟨tg, iter, ifs, 0⟩] scope pos) 0 (.ref it) (.ref s2.heap.objs.size) (compEnvC scope cl P2.objs.size X.env)).onRaise (fun x => do noteFrame x (compEnvC scope cl P2.objs.size X.env); theTreesLotGoes x)) _ _ s3
    refine wpAny_noted ?_
    rw [compTurn_list]
    refine wpAny_bind (wpAny_standAt (wpAny_bind ?_))
    rcases turn i n H3 w3 with ⟨stop, qn⟩ | ⟨go, step⟩
    · refine wpAny_mono (T.done (cxComp X scope (xs ++ cn) cl P2.objs.size s2 H2 fp) rfl rfl rfl hc i [] s3 _ H3 (fun _ _ => False) I3 (stat fr3) st3 stop) (fun r s4 ⟨hr, I5⟩ => ?_) fun _ _ z => z.elim
      subst hr
      refine wpAny_pure ?_
      obtain ⟨m, hn, _⟩ := id I5.loc
      refine ⟨m, hn, fun h' hsb => ⟨.ref s2.heap.objs.size, H3, ?_, rfl, qn⟩⟩
      have kp : ∀ b o, b ≠ P2.objs.size → s4.heap.get? b = some o → h'.get? b = some o := fun b o hb e => hsb.extBut b o hb e
      have b0 := I5.base
      have sm : ∀ b o, s2.heap.get? b = some o → b ≠ P2.objs.size := fun b o e => neC b (Heap.lt_size e)
      refine I2.call' (s' := { s4 with heap := h' }) (ch := fp) I5.os ⟨fun b o e n hb hx => kp _ _ (sm b o e) (b0.keep b o e n hb hx), fun b o e n hb hx => ?_, b0.free, fun b o e hx => ?_, b0.tups, b0.frzs, b0.tbls⟩ (fun b u e => ?_) I5.bare
        fun b hb => ⟨(f2 b hb).2.2.2.1, (f2 b hb).2.1, (f2 b hb).2.2.2.2.1, (f2 b hb).2.2.2.2.2⟩
      · obtain ⟨sl, q⟩ := b0.slot b o e n hb hx
        exact ⟨sl, kp _ _ (sm b o e) q⟩
      · obtain ⟨o', q⟩ := b0.there b o e hx
        exact ⟨o', kp _ _ (sm b o e) q⟩
      · have hfree : H3 P2.objs.size = none := I5.free
        refine (I5.hok b u e).stay (fun c v hc' q => kp c v ?_ q) (fun _ q => q) fun _ _ q => q
        rcases hc' with z | z
        · rw [z]; exact ne_of_none e hfree
        · exact ne_of_none z hfree
    · refine wpAny_mono (T.item (cxComp X scope (xs ++ cn) cl P2.objs.size s2 H2 fp) rfl rfl rfl hc i [] s3 _ H3 (fun _ _ => False) I3 (stat fr3) st3 go) (fun r s4 ⟨u, hr, h4⟩ => ?_) fun _ _ z => z.elim
      subst hr
      refine wpAny_bind (wpAny_mono h4 (fun _ s5 ⟨xv, H5, I5, r5, y5, st5, fr5⟩ => ?_) fun _ _ z => z.elim)
      have I5' := I5.pinned (stat fr5) (T.obj _ _ st5)
      refine wpAny_bind (wpAny_mono (hg cl P2.objs.size s2 H2 fp _ s5 _ H5 xv u _ I5' r5 (step xv _ y5)) (fun _ s6 ⟨σ6, H6, I6, ks, q6⟩ => ?_) fun _ _ z => z.elim)
      have again : ∀ {s7 : Shared} {H7 : Hp}, Inv (cxComp X scope (xs ++ cn) cl P2.objs.size s2 H2 fp) ([] ++ pinsAt fp s5.heap) σ6 H7 s7 → (∃ m', m' < n ∧ W (i + 1) m' H7) →
          ∃ m, m < n ∧ ∃ i H', Inv (cxComp X scope (xs ++ cn) cl P2.objs.size s2 H2 fp) [] (inStT kx cap σ) H' s7 ∧ tn i s7.heap ∧ (∀ b ∈ fp, H' b = none) ∧ W i m H' := fun {s7 H7} I7 w7 => by
        obtain ⟨m', hm, w7⟩ := w7
        refine ⟨m', hm, i + 1, H7, I7.unpinned.weak ks.1 ks.2, T.keep _ _ _ st5 fun b hb o e => (I7.pin (b, o) (List.mem_append_right _ (List.mem_append_right _ (mem_pinsAt hb e)))).1, fun b hb => ?_, w7⟩
        · obtain ⟨o, e, d⟩ := T.obj _ _ st5 b hb
          exact (I7.pin (b, o) (List.mem_append_right _ (List.mem_append_right _ (mem_pinsAt hb e)))).2.1
      refine wpAny_bind (wpAny_mono (hin cl P2.objs.size s2 H2 fp _ s6 _ _ _ I6 q6) (fun ok s7 ⟨H7, I7, q7⟩ => ?_) fun _ _ z => z.elim)
      cases ok with
      | false =>
        have q7' : ∃ m', m' < n ∧ W (i + 1) m' H7 := by simpa using q7
        exact wpAny_pure ⟨rfl, again I7 q7'⟩
      | true =>
        have q7' := (if_pos rfl).mp q7
        refine wpAny_bind (wpAny_bind (wpAny_mono (he cl P2.objs.size s2 H2 fp _ s7 _ H7 _ I7 q7') (fun yv s8 ⟨y, H8, I8, r8, ys, h8, z8, q8⟩ => ?_) fun _ _ z => z.elim))
        refine wpAny_bind (wpAny_mono (mt_append (X := cxComp X scope (xs ++ cn) cl P2.objs.size s2 H2 fp) _ s8 _ H8 (.ref s2.heap.objs.size) [y] (.ref s2.heap.objs.size) [yv] (fun _ H9 => ∃ m', m' < n ∧ W (i + 1) m' H9) I8 rfl (.cons r8 .nil) ⟨_, ys, y, rfl, rfl, h8, z8, q8⟩) (fun _ s9 ⟨_, H9, I9, _, q9⟩ => ?_) fun _ _ z => z.elim)
        exact wpAny_pure (wpAny_pure ⟨rfl, again I9 q9⟩)
  exact codeAny_compStart_list (loop _ rfl) (T.self _ 0 _ _ _ (T.keep _ _ _ st2 fun b hb o e => old b o e) (loop _ rfl))
end
end L2
namespace L2
open PySem PySem.Spec PyProof.Rows
/-! ### isinstance by several types, and by a class of one's own -/
section
variable {X : Cx} {pins : List (Addr × Obj)} {σ : St} {H : Hp} {s : Shared}
theorem TyOf.kit {x : V} {u t : Value} (ty : TyOf X.K H x t) (I : Inv X pins σ H s) (rx : RelV x u) : (u ≠ .builtin "__main__.__loader__#opaque") ∧ ∃ Z, PySem.W.KitX X.K u t Z ∧ Z s.heap := by
  cases ty with
  | non => cases (show u = Value.none from rx); exact ⟨(fun z => nomatch z), _, PySem.W.kitx_none, True.intro⟩
  | bl y => cases (show u = Value.bool y from rx); exact ⟨(fun z => nomatch z), _, PySem.W.kitx_bool, True.intro⟩
  | int i => obtain ⟨t, q⟩ := (show ∃ t, u = Value.int i t from rx); cases q; exact ⟨(fun z => nomatch z), _, PySem.W.kitx_int, True.intro⟩
  | str y => obtain ⟨t, q⟩ := (show ∃ t, u = Value.str y t from rx); cases q; exact ⟨(fun z => nomatch z), _, PySem.W.kitx_str, True.intro⟩
  | flt y => obtain ⟨t, q⟩ := (show ∃ t, u = Value.float y t from rx); cases q; exact ⟨(fun z => nomatch z), _, PySem.W.kitx_float, True.intro⟩
  | @lst a xs ea =>
    cases (show u = Value.ref a from rx)
    obtain ⟨_, _, n, _, h1⟩ := (show ObjOk X.prog X.w H s.heap a (.lst xs) from I.hok a _ ea)
    exact ⟨(fun z => nomatch z), _, PySem.W.kitx_list, _, h1, rfl⟩
  | @frz a ob xs ea =>
    cases (show u = Value.ref a from rx)
    obtain ⟨_, _, _, n, _, h1⟩ := (show ObjOk X.prog X.w H s.heap a (.frz ob (.lst xs)) from I.hok a _ ea)
    exact ⟨(fun z => nomatch z), _, PySem.W.kitx_list, _, h1, rfl⟩
  | @tup a xs ea =>
    cases (show u = Value.ref a from rx)
    obtain ⟨_, _, _, p⟩ := (show ObjOk X.prog X.w H s.heap a (.tup xs) from I.hok a _ ea)
    obtain ⟨o, h1, h2, _⟩ := p
    exact ⟨(fun z => nomatch z), _, PySem.W.kitx_tuple, o, h1, h2⟩
  | @dK a kvs ea =>
    cases (show u = Value.ref a from rx)
    obtain ⟨_, _, vs, _, p⟩ := (show ObjOk X.prog X.w H s.heap a (.dK kvs) from I.hok a _ ea)
    obtain ⟨o, es, ep, h1, h2, _⟩ := p
    exact ⟨(fun z => nomatch z), _, PySem.W.kitx_dict, o, h1, h2.1⟩
  | @dT a kvs ea =>
    cases (show u = Value.ref a from rx)
    obtain ⟨_, _, xs, _, o, es, ep, h1, h2, _⟩ := (show ObjOk X.prog X.w H s.heap a (.dT kvs) from I.hok a _ ea)
    exact ⟨(fun z => nomatch z), _, PySem.W.kitx_dict, o, h1, h2.1⟩
  | @ins a C dx fs ea cl ha hn htk hm =>
    cases (show u = Value.ref a from rx)
    obtain ⟨mA, O, _⟩ := ins_get I.hok ea
    obtain ⟨od, J, _⟩ := O.look
    exact ⟨(fun z => nomatch z), _, PySem.W.kitx_own (cl.get _) cl.hd ha hn htk hm, J⟩
def rIsA (K : PySem.W.Frag) : List V → Hp → VK → Prop := fun xs H Q => ∃ x p Ts t k, xs = [x, .ref p] ∧ H p = some (.tup (List.map V.ty Ts)) ∧ TyOf K H x t ∧ PySem.W.kitAny K t (Ts.map .type) = some k ∧ Q (.bl k) H
theorem vals_ty : ∀ {Ts : List String} {us : List Value}, Vals (Ts.map V.ty) us → us = Ts.map .type
  | [], _, .nil => rfl
  | T :: Ts, _, .cons h t => by
    obtain rfl : _ = Value.type T := h
    rw [vals_ty t]
    rfl
theorem call_isA : CallR X (.builtin "isinstance") (rIsA X.K) := by
  intro pins s σ H xs us Q I r h
  obtain ⟨x, p, Ts, t, k, rfl, hp, ty, e, q⟩ := h
  obtain ⟨u, v, rfl, rx, rv⟩ := Vals.two r
  cases rv
  obtain ⟨nq, Z, z1, z2⟩ := ty.kit I rx
  obtain ⟨_, its, rr, o, h1, h2, n, h3⟩ := (show ObjOk X.prog X.w H s.heap p (.tup (List.map V.ty Ts)) from I.hok p _ hp)
  obtain ⟨oc, od, odt, osl⟩ := o
  dsimp only at h2 h3
  subst h2 h3
  have ei := vals_ty rr
  subst ei
  exact PySem.W.kia_tup z1 I.kIn z2 h1 e nq fun tk => ⟨.bl k, H, I.tok _, rfl, q⟩
def rIsC (K : PySem.W.Frag) : List V → Hp → VK → Prop := fun xs H Q => ∃ x c t k, xs = [x, .ref c] ∧ TyOf K H x t ∧ PySem.W.kitOne K t (.ref c) = some k ∧ Q (.bl k) H
theorem call_isC : CallR X (.builtin "isinstance") (rIsC X.K) := by
  intro pins s σ H xs us Q I r h
  obtain ⟨x, c, t, k, rfl, ty, e, q⟩ := h
  obtain ⟨u, v, rfl, rx, rv⟩ := Vals.two r
  cases rv
  exact isinst_ok I rx ty e fun tk => ⟨.bl k, H, I.tok _, rfl, q⟩
def rIsCX (K : PySem.W.Frag) : List V → Hp → VK → Prop := fun xs H Q => rIsC K xs H Q ∨ rIsX K xs H Q
theorem call_isCX : CallR X (.builtin "isinstance") (rIsCX X.K) := call_isC.or call_isX
def tEi (ta tb : TE) : TE := fun σ H Q => ta σ H Q ∨ tb σ H Q
theorem pe_ei {e : Expr} {ta tb : TE} (ha : PE X e ta) (hb : PE X e tb) : PE X e (tEi ta tb) := fun pins s σ H Q I h => h.elim (ha pins s σ H Q I) (hb pins s σ H Q I)
end
/-! ### plain classes of one's own -/
structure PKd (K : PySem.W.Frag) (ns : List Str) (C : Addr) (ms fs : List Str) : Prop where
  cls : Cls K C
  ca : PySem.W.findIn K (.ref C) "__class__" = some (some (.builtin "object.__class__"))
  cg : PySem.W.specialIn K (.builtin "object.__class__") "__get__" = some (some (.builtin "getset_descriptor.__get__"))
  ct : PySem.W.takesIn K (.builtin "object.__class__") = some true
  top : PySem.W.mroIn K C (.type "object") = some true
  sub : ∀ T : String, (Value.type T == .type "object") = false → PySem.W.subIn K (.ref C) (.type T) = some false
  kit : ∀ n ∈ ns, PySem.W.kitOne K (.ref C) (.ref (clA K n)) = some (ms.contains n)
  na : ∀ f ∈ fs, NoAttr K C f
section
variable {K : PySem.W.Frag} {C : Addr} {cd : ClassData} {ns ms fs : List Str}
theorem PKd.ty {H : Hp} {a dx : Addr} {gs : List (Str × V)} (p : PKd K ns C ms fs) (e : H a = some (.ins C dx gs)) : TyOf K H (.ref a) (.ref C) := .ins e p.cls p.ca p.cg p.ct p.top
theorem PKd.notT (p : PKd K ns C ms fs) (T : String) (h : (Value.type T == .type "object") = false := by decide) (hm : PySem.W.kitMeta T = true := by decide +kernel) : PySem.W.kitOne K (.ref C) (.type T) = some false := by
  unfold PySem.W.kitOne PySem.W.kitCls
  rw [if_neg (by intro q; cases beq_iff_eq.mp q)]
  dsimp only
  rw [if_pos hm]
  exact p.sub T h
theorem pkd_mk {x : Str} {dd : Option Addr} {sl : Array (Option Value)} {Cs : List Addr} (hn : PySem.W.nsIn K mainGlobals x = some (some (.ref C))) (l : K.lookup C = some ⟨.type "type", dd, .cls cd, sl⟩) (hm : cd.mro = [.ref C, .type "object"]) (p : Pts K ns Cs) (e : (Cs.map fun D => cd.mro.contains (.ref D)) = ns.map ms.contains)
    (pg : PySem.W.plainGet K C Str.empty = true) (hd : PySem.W.hasDictIn K C = true) (po : PySem.W.plainOver K C = true) (sa : PySem.W.findIn K (.ref C) "__setattr__" = some (some (.builtin "object.__setattr__")))
    (ca : PySem.W.findIn K (.ref C) "__class__" = some (some (.builtin "object.__class__"))) (cg : PySem.W.specialIn K (.builtin "object.__class__") "__get__" = some (some (.builtin "getset_descriptor.__get__"))) (ct : PySem.W.takesIn K (.builtin "object.__class__") = some true)
    (na : ∀ f ∈ fs, NoAttr K C f) : PKd K ns (clA K x) ms fs := by
  rw [clA_of hn]
  have hc : PySem.W.clsIn K C = some cd := by
    unfold PySem.W.clsIn
    rw [l]
  have ht : PySem.W.typeIn K (.ref C) = some (.type "type") := by
    show (K.lookup C).map (·.cls) = _
    rw [l]
    rfl
  have o : KObj K C cd := ⟨hc, ht, _, hm⟩
  refine ⟨⟨pg, hd, po, sa⟩, ca, cg, ct, ?_, fun T hT => ?_, kit_all o p e, na⟩
  · have := o.sub (.type "object")
    rw [hm] at this
    exact this.trans (by rw [List.contains_cons, List.contains_cons, beq_self_eq_true, Bool.true_or, Bool.or_true])
  · rw [o.sub, hm, List.contains_cons, List.contains_cons, hT, Bool.false_or, List.contains_nil, Bool.or_false]
    rfl
theorem kobj_mk {dd : Option Addr} {sl : Array (Option Value)} (l : K.lookup C = some ⟨.type "type", dd, .cls cd, sl⟩) (hm : cd.mro = [.ref C, .type "object"]) : KObj K C cd := ⟨by unfold PySem.W.clsIn; rw [l], by show (K.lookup C).map (·.cls) = _; rw [l]; rfl, _, hm⟩
theorem mk_mk {x : Str} {f : Addr} (hn : PySem.W.nsIn K mainGlobals x = some (some (.ref C))) (mi : PySem.W.makesIn K C = true) (hi : PySem.W.findIn K (.ref C) "__init__" = some (some (.ref f))) (hf : PySem.W.isFn K (.ref f) = true) (kp : PySem.W.keepIn K (.ref C) = true) : Mk K (clA K x) f := by
  rw [clA_of hn]
  exact ⟨mi, hi, hf, kp⟩
end
structure GotP (P : Program) (w : World) (K : PySem.W.Frag) (mg : Str → Option Value) (base : Heap) (k : Nat) (x : Str) (ps : List Str) (sp : Sp) : Prop where
  ex : ∃ f fd, Mk K (clA K x) f ∧ FnOk P w K mg base CX0 k f fd ps sp ∧ Binds K fd ps [] ∧ mg x = some (.ref (clA K x))
section
variable {X : Cx} {k n : Nat} {x : Str} {ps : List Str} {sp : Sp} {p pos : Pos} {e : Expr} {es : List Expr} {t : TA}
theorem pe_mkP (g : GotP X.prog X.w X.K X.mg X.base k x ps sp) (hr : Room n X.A) (hk : k + 1 ≤ n) (hg : Gl X x) (ha : PA X (e :: es) t) (hdb : (x == ("__debug__" : Str)) = false := by decide)
    (he : starEach (e :: es) X.env = (false, eval e X.env) :: starEach es X.env := by rfl) (hpl : (backTo pos (starEach es X.env)).any (·.1) = false := by rfl) :
    PE X (.Call (.Name x p) (e :: es) [] pos) (tMake (clA X.K x) sp [] E0 t) := by
  obtain ⟨f, fd, M, F, hb, hm⟩ := g.ex
  exact pe_make M F (hr.mono hk) hg hm hb .nil pass0 ha hdb he hpl
end
/-- what a comprehension's scope asks, with several names as its target -/
structure CompCT (fsc : Scope) (N : List Str) (scope : Scope) (xs : List Str) (cn : List Str) (cap : List Nat) : Prop where
  kind : scope.kind = .function
  names : ∀ y ∈ scope.names, y.2 = .local → scope.names.lookup y.1 = some .local
  cell : ∀ y ∈ scope.names, y.2 ≠ .cell
  own : ∀ y ∈ xs, scope.names.lookup y = some .local
  free : ∀ y ∈ scope.names, y.2 = .free → fsc.names.lookup y.1 = some .cell ∨ fsc.names.lookup y.1 = some .free
  cap : cap.map (fun i => N[i]?) = cn.map some
  capf : ∀ y ∈ cn, scope.names.lookup y = some .free
  capo : ∀ y ∈ cn, fsc.names.lookup y = some .cell ∨ fsc.names.lookup y = some .free
  nd : (xs ++ cn).Nodup
theorem CompCT.to {X : Cx} {fsc : Scope} {N : List Str} {scope : Scope} {xs cn : List Str} {cap : List Nat} (c : CompCT fsc N scope xs cn cap) (e1 : X.env.scope = fsc) (e2 : X.N = N) : CompScopeT X scope xs cn cap := by
  subst e1 e2
  exact ⟨c.kind, c.names, c.cell, c.own, c.free, c.cap, c.capf, c.capo, c.nd⟩
/-- a name of a comprehension's target -/
theorem pg_comp {X : Cx} {scope : Scope} {xs cn : List Str} {cap : List Nat} {cl : List (Str × Addr)} {C : Addr} {s₀ : Shared} {H₀ : Hp} {ex : List Addr} {y : Str} {pos : Pos} (S : CompScopeT X scope xs cn cap) (i : Nat) (hi : (xs ++ cn)[i]? = some y) (hm : y ∈ xs) :
    PG (cxComp X scope (xs ++ cn) cl C s₀ H₀ ex) (.Name y pos) (gName i) := pg_name (i := i) S.nd hi (.inl (lookup_relabel_local (env := X.env) (S.own y hm))) (.inr (lookup_relabel_local (env := X.env) (S.own y hm)))
section
variable {X : Cx} {K : PySem.W.Frag} {e : Expr} {f : Str} {pos : Pos} {ta : TE}
theorem pe_fldK (h : X.K = K) (he : PE X e ta) (hb : attributeBase e f X.env (eval e X.env) = eval e X.env) : PE X (.Attribute e f pos) (tFld K ta f) := by
  subst h; exact pe_fld he hb
theorem pe_xfldK (h : X.K = K) (he : PE X e ta) (hb : attributeBase e f X.env (eval e X.env) = eval e X.env) : PE X (.Attribute e f pos) (tXFld K ta f) := by
  subst h; exact pe_xfld he hb
theorem call_isTK (h : X.K = K) : CallR X (.builtin "isinstance") (rIsT K) := by
  subst h; exact call_isT
theorem call_isXK (h : X.K = K) : CallR X (.builtin "isinstance") (rIsX K) := by
  subst h; exact call_isX
theorem call_isCK (h : X.K = K) : CallR X (.builtin "isinstance") (rIsC K) := by
  subst h; exact call_isC
theorem call_isCXK (h : X.K = K) : CallR X (.builtin "isinstance") (rIsCX K) := by
  subst h; exact call_isCX
theorem call_isAK (h : X.K = K) : CallR X (.builtin "isinstance") (rIsA K) := by
  subst h; exact call_isA
theorem pg_tupK {es : List Expr} {k : Nat} {t : TGs} {n : Nat} (h : X.K = K) (hc : X.calm = true) (hs : PGs X es t)
    (hn : (assignEach es X.env).length = n := by rfl) (hst : (assignEach es X.env).findIdx? (·.1) = none := by rfl) : PG X (.Tuple es k pos) (gTup K n t) := by
  subst h; exact pg_tup hc hs hn hst
theorem pe_clK {x : Str} (h : X.K = K) (hg : Gl X x) (hm : X.mg x = some (.ref (clA K x))) (hd : (x == ("__debug__" : Str)) = false := by decide) : PE X (.Name x pos) (tC (.ref (clA K x))) := pe_glob hg hm rfl hd
end
end L2
namespace L2
open PySem PySem.Spec PyProof.Rows
section
variable {X : Cx}
/-- xs.insert(i, y), i no less than nought -/
def rInsert : V → List V → Hp → VK → Prop := fun x vs H Q => ∃ l xs i y, x = .ref l ∧ vs = [.int i, y] ∧ 0 ≤ i ∧ i < 2 ^ 63 ∧ H l = some (.lst xs) ∧ xs.length < sizeLine ∧ Q .non (upd H l (.lst (xs.take i.toNat ++ y :: xs.drop i.toNat)))
theorem ins_arr (its : List Value) (i : Nat) (u : Value) : ((its.toArray.extract 0 (min i its.toArray.size)).push u ++ its.toArray.extract (min i its.toArray.size)) = (its.take i ++ u :: its.drop i).toArray := by
  apply Array.ext'
  simp only [List.size_toArray, Array.toList_append, Array.toList_push, Array.toList_extract, List.extract_eq_drop_take]
  by_cases h : i ≤ its.length
  · rw [Nat.min_eq_left h]
    simp
    exact List.take_of_length_le (by rw [List.length_drop]; exact Nat.le_refl _)
  · have h' : its.length ≤ i := by omega
    rw [Nat.min_eq_right h']
    simp [List.take_of_length_le h', List.drop_of_length_le h']
theorem mt_insert : MtM X "list.insert" rInsert := by
  intro pins s σ H x vs v us Q I rx rv h
  obtain ⟨l, xs, i, y, rfl, rfl, h0, h1, hH, hz, q⟩ := h
  cases rx
  obtain ⟨u1, u2, rfl, ru1, ru2⟩ := rv.two
  obtain ⟨t, rfl⟩ := ru1
  obtain ⟨z, its, n, r, hl, e⟩ := I.lstM hH
  refine call_meets F.slot_list_insert ⟨_, e, rfl⟩ F.entry_list_insert (F.args_list_insert_3 _ _ _) (AutoListH.list_insert_list_int_val_1 l its.toArray n i t u2 (by rw [fitsIndex_both (by omega) h1]; decide) (by rw [List.size_toArray]; omega)) ⟨e, ?_⟩
  refine ⟨.non, _, I.lset (its' := its.take i.toNat ++ u2 :: its.drop i.toNat) hH e ?_ ((r.take i.toNat).append (.cons ru2 (r.drop i.toNat))) ?_, rfl, q⟩
  · dsimp only
    rw [if_neg (by omega)]
    exact ins_arr its i.toNat u2
  · rw [List.length_append, List.length_take, List.length_cons, List.length_drop]
    omega
def rSum (K : PySem.W.Frag) : List V → Hp → VK → Prop := fun xs H Q => ∃ l ns, xs = [.ref l] ∧ SqL K H l (List.map V.int ns) ∧ Q (.int ns.sum) H
theorem call_sum_ints (hc : X.calm = true) : CallR X (.builtin "sum") (rSum X.K) := by
  intro pins s σ H xs us Q I r h
  obtain ⟨l, ns, rfl, hS, q⟩ := h
  obtain ⟨u, rfl, ru⟩ := r.one
  cases ru
  obtain ⟨its, rv, pl, hz⟩ := I.list hS
  have hi := intsAre_of rv
  obtain ⟨ys, hx⟩ := hi.allInts.items
  have hl' : s.heap.IsList l (intItems ys) := hx ▸ pl.isList
  refine sum_intListG (I.ok.hd hc) hl' fun h' tk t' hk => ?_
  have e1 : ns = ys.toList.map (·.1) := by
    rw [← nums_intItems, ← hx]
    exact (show numsOf its.toArray.toList = ns from hi.numsOf).symm
  have e2 : preSum (numAt ys) ys.size = ns.sum := by
    rw [preSum_eq, List.take_of_length_le (by simp), e1]
  rw [e2]
  exact ⟨.int _, H, I.kept hk, ⟨_, rfl⟩, q⟩
theorem call_sum_intsK {K : PySem.W.Frag} (h : X.K = K) (hc : X.calm = true) : CallR X (.builtin "sum") (rSum K) := by
  subst h; exact call_sum_ints hc
end
theorem b_sum : bootBuiltins "sum" = some (.builtin "sum") := by decide +kernel
theorem b_min : bootBuiltins "min" = some (.builtin "min") := by decide +kernel
end L2
namespace L2
open PySem PySem.Spec PyProof.Rows
/-! ### zip of two tuples -/
section
variable {prog : Program} {w : World} {A : Around} {E : Value → Shared → Prop} {s : Shared}
theorem not_rn (t : Addr) : ¬ ((Value.ref t == Value.none) = true) := fun z => Bool.false_ne_true z
theorem tdraw_item {j t : Addr} {i : Nat} {vs : Array Value} {x : Value} {Q : Value → Shared → Prop} (u : s.heap.IsTupleIter j t i) (v : s.heap.IsTuple t vs) (ex : vs[i]? = some x)
    (k : ∀ h', h'.IsTupleIter j t (i + 1) → Heap.SameBut j s.heap h' → Q x { s with heap := h' }) : wpAny (model prog w) A (Builtin.SmallTypes.nextOf (.ref j)) Q E s := by
  obtain ⟨oj, ej, cj, dj⟩ := id u
  obtain ⟨ot, et, _, nt, dt⟩ := v
  delta Builtin.SmallTypes.nextOf
  refine wpAny_bind (wpAny_callSpecial?_slot (name := "__next__") u.typeIs F.slot_tuple_iterator_next (wpAny_call_entry F.slot_tuple_iterator_next u.typeIs F.entry_tuple_iterator_next ?_ (F.args_tuple_iterator_next_1 _)))
  show wpAny (model prog w) A.in1 (field (.ref j) 0 >>= _) _ _ s
  refine wpAny_bind (wpAny_field (x := .ref t) ej dj rfl ?_)
  show wpAny (model prog w) A.in1 (if (Value.ref t == Value.none) = true then _ else _) _ _ s
  rw [if_neg (not_rn t)]
  show wpAny (model prog w) A.in1 (field (.ref j) 1 >>= _) _ _ s
  refine wpAny_bind (wpAny_field (x := .int i 0) ej dj rfl ?_)
  show wpAny (model prog w) A.in1 (seqItems? (.ref t) >>= _) _ _ s
  refine wpAny_bind (wpAny_seqItems et dt ?_)
  simp only [ex, Int.toNat_natCast]
  refine wpAny_bind (wpAny_setField ej dj (by simp) (wpAny_pure ⟨x, rfl, wpAny_pure (k _ ⟨_, Heap.get?_update_self _ ej (Obj.isFreed_of_fields (Obj.data_mapFields dj _)), (Obj.cls_mapFields ..).trans cj, ?_⟩ (Heap.SameBut.update ..))⟩))
  rw [Obj.data_mapFields dj]
  simp [rawInt]
theorem tdraw_end {j t : Addr} {i : Nat} {vs : Array Value} {Q : Value → Shared → Prop} (hA : A.handled = none) (u : s.heap.IsTupleIter j t i) (v : s.heap.IsTuple t vs) (ex : vs[i]? = none)
    (k : ∀ h' e, Heap.ExtBut j s.heap h' → (∃ o, h'.get? e = some o ∧ o.cls = .type "StopIteration") → E (.ref e) { s with heap := h' }) : wpAny (model prog w) A (Builtin.SmallTypes.nextOf (.ref j)) Q E s := by
  obtain ⟨oj, ej, cj, dj⟩ := id u
  obtain ⟨ot, et, _, nt, dt⟩ := v
  delta Builtin.SmallTypes.nextOf
  refine wpAny_bind (wpAny_callSpecial?_slot (name := "__next__") u.typeIs F.slot_tuple_iterator_next (wpAny_call_entry F.slot_tuple_iterator_next u.typeIs F.entry_tuple_iterator_next ?_ (F.args_tuple_iterator_next_1 _)))
  show wpAny (model prog w) A.in1 (field (.ref j) 0 >>= _) _ _ s
  refine wpAny_bind (wpAny_field (x := .ref t) ej dj rfl ?_)
  show wpAny (model prog w) A.in1 (if (Value.ref t == Value.none) = true then _ else _) _ _ s
  rw [if_neg (not_rn t)]
  show wpAny (model prog w) A.in1 (field (.ref j) 1 >>= _) _ _ s
  refine wpAny_bind (wpAny_field (x := .int i 0) ej dj rfl ?_)
  show wpAny (model prog w) A.in1 (seqItems? (.ref t) >>= _) _ _ s
  refine wpAny_bind (wpAny_seqItems et dt ?_)
  simp only [ex, Int.toNat_natCast]
  refine wpAny_bind (wpAny_rule (wpAny_bind (wpAny_setField ej dj (by simp) ?_)))
  refine wpAny_bind ?_
  simp only [newTuple, newExc]
  refine wpAny_bind (wpAny_newObj_type ?_ (by size_fits))
  refine wpAny_bind (wpAny_of_eq (a := Value.none) (by first | rfl | (simp only [firstArgMember]; rfl)) (wpAny_newObj_type ?_ (by size_fits)))
  simp only [raiseNew]
  refine wpAny_bind (wpAny_handled ?_)
  rw [show A.in1.handled = none from hA]
  exact wpAny_bind (wpAny_pure (wpAny_throw (k _ _ (((Heap.SameBut.update ..).extBut.push _).push _) ⟨_, Heap.get?_push_size _ rfl, rfl⟩)))
/-- both iterators as they stand -/
structure ZP (h : Heap) (z ti to_ j1 j2 t1 t2 : Addr) (i : Nat) (f0 a b : Value) (vs us : Array Value) : Prop where
  z : IsZip h z ti to_ f0
  ti : IsPair h ti (.ref j1) (.ref j2)
  to_ : IsPair h to_ a b
  j1 : h.IsTupleIter j1 t1 i
  j2 : h.IsTupleIter j2 t2 i
  t1 : h.IsTuple t1 vs
  t2 : h.IsTuple t2 us
theorem tzip_item {z ti to_ j1 j2 t1 t2 : Addr} {i : Nat} {vs us : Array Value} {x y a b : Value} {Q : Value → Shared → Prop} (D : ZipApart z ti to_ j1 j2 t1 t2) (Z : ZP s.heap z ti to_ j1 j2 t1 t2 i .none a b vs us) (ex : vs[i]? = some x) (ey : us[i]? = some y)
    (k : ∀ h', IsZip h' z ti to_ (rawInt s.heap.objs.size) → IsPair h' to_ x y → h'.IsTupleIter j1 t1 (i + 1) → h'.IsTupleIter j2 t2 (i + 1) → IsPair h' s.heap.objs.size x y →
      (∀ c o, c ≠ z → c ≠ to_ → c ≠ j1 → c ≠ j2 → s.heap.get? c = some o → h'.get? c = some o) → Q (.ref s.heap.objs.size) { s with heap := h' }) :
    wpAny (model prog w) A (Builtin.«zip.__next__» ⟨[.ref z], []⟩) (fun fin s' => ∃ v, fin = .done (.ret v) ∧ Q v s') E s := by
  show wpAny (model prog w) A (field (.ref z) 2 >>= _) _ _ _
  refine wpAny_bind (wpAny_field (x := .bool false) Z.z rfl rfl ?_)
  show wpAny (model prog w) A (field (.ref z) 3 >>= _) _ _ _
  refine wpAny_bind (wpAny_field (x := .ref ti) Z.z rfl rfl (wpAny_bind (wpAny_seqItems Z.ti rfl ?_)))
  show wpAny (model prog w) A (Builtin.SmallTypes.ownedTupleIsFree (.ref z) >>= _) _ _ _
  refine wpAny_bind ?_
  delta Builtin.SmallTypes.ownedTupleIsFree
  refine wpAny_bind (wpAny_field (x := .none) Z.z rfl rfl (wpAny_pure ?_))
  simp only [if_true]
  refine wpAny_bind (wpAny_rule (wpAny_bind (wpAny_field (x := .ref to_) Z.z rfl rfl ?_)))
  refine wpAny_bind (wpAny_setField_rec Z.z (by simp) fun g1 z1 m1 => ?_)
  replace z1 : IsZip g1 z ti to_ .ellipsis := z1
  refine wpAny_bind ?_
  simp only [List.forIn_cons, List.forIn_nil, List.zipIdx_cons, List.zipIdx_nil]
  refine wpAny_bind (wpAny_bind (wpAny_onRaise ?_))
  show wpAny (model prog w) A (Builtin.SmallTypes.nextOf (.ref j1) >>= _) _ _ _
  refine wpAny_bind (tdraw_item (Z.j1.extBut m1.extBut D.i1z) (Z.t1.extBut m1.extBut D.l1z) ex fun g2 k2 m2 => wpAny_pure ?_)
  have o2 : IsPair g2 to_ a b := m2.extBut _ _ D.TOi1 (m1.extBut _ _ D.TOz Z.to_)
  refine wpAny_bind (wpAny_seqItems o2 rfl (wpAny_bind (wpAny_updateSeq_pair o2 fun g3 o3 m3 => ?_)))
  replace o3 : IsPair g3 to_ x b := o3
  refine wpAny_bind (wpAny_letGo (wpAny_pure (wpAny_bind (wpAny_bind (wpAny_onRaise ?_)))))
  show wpAny (model prog w) A (Builtin.SmallTypes.nextOf (.ref j2) >>= _) _ _ _
  refine wpAny_bind (tdraw_item (((Z.j2.extBut m1.extBut D.i2z).extBut m2.extBut D.i12.symm).extBut m3.extBut D.TOi2.symm) (((Z.t2.extBut m1.extBut D.l2z).extBut m2.extBut D.l2i1).extBut m3.extBut D.l2TO) ey fun g4 k4 m4 => wpAny_pure ?_)
  have o4 : IsPair g4 to_ x b := m4.extBut _ _ D.TOi2 o3
  refine wpAny_bind (wpAny_seqItems o4 rfl (wpAny_bind (wpAny_updateSeq_pair o4 fun g5 o5 m5 => ?_)))
  replace o5 : IsPair g5 to_ x y := o5
  refine wpAny_bind (wpAny_letGo (wpAny_pure (wpAny_pure (wpAny_bind (wpAny_seqItems o5 rfl (wpAny_bind (wpAny_newTuple ?_)))))))
  have sz : g5.objs.size = s.heap.objs.size := by rw [m5.1, m4.1, m3.1, m2.1, m1.1]
  have z5 : IsZip g5 z ti to_ .ellipsis := m5.extBut _ _ D.TOz.symm (m4.extBut _ _ D.i2z.symm (m3.extBut _ _ D.TOz.symm (m2.extBut _ _ D.i1z.symm z1)))
  have kk : ∀ c o, c ≠ z → c ≠ to_ → c ≠ j1 → c ≠ j2 → s.heap.get? c = some o → g5.get? c = some o := fun c o c1 c2 c3 c4 e => m5.extBut _ _ c2 (m4.extBut _ _ c4 (m3.extBut _ _ c2 (m2.extBut _ _ c3 (m1.extBut _ _ c1 e))))
  have a5 : g5.IsTupleIter j1 t1 (i + 1) := ((k2.extBut m3.extBut D.TOi1.symm).extBut m4.extBut D.i12).extBut m5.extBut D.TOi1.symm
  have b5 : g5.IsTupleIter j2 t2 (i + 1) := k4.extBut m5.extBut D.TOi2.symm
  have lz : z < g5.objs.size := Heap.lt_size z5
  show wpAny (model prog w) A (Builtin.SmallTypes.ownedTupleHandOut (.ref z) (.ref g5.objs.size) >>= _) _ _ _
  refine wpAny_bind ?_
  delta Builtin.SmallTypes.ownedTupleHandOut
  have z6 : IsZip (g5.push { cls := .type "tuple", data := .seq #[x, y] }) z ti to_ .ellipsis := Heap.get?_push_of_some _ z5
  refine wpAny_bind (wpAny_setField_rec z6 (by simp) fun g7 z7 m7 => ?_)
  replace z7 : IsZip g7 z ti to_ (rawInt g5.objs.size) := z7
  refine wpAny_setField_rec z7 (by simp) fun g8 z8 m8 => ?_
  replace z8 : IsZip g8 z ti to_ (rawInt g5.objs.size) := z8
  have up : ∀ c o, c ≠ z → g5.get? c = some o → g8.get? c = some o := fun c o c1 e => m8.extBut _ _ c1 (m7.extBut _ _ c1 (Heap.get?_push_of_some _ e))
  have n8 : IsPair g8 g5.objs.size x y := m8.extBut _ _ (Nat.ne_of_gt lz) (m7.extBut _ _ (Nat.ne_of_gt lz) (Heap.get?_push_size _ rfl))
  rw [sz] at z8 n8
  refine wpAny_pure ⟨_, rfl, ?_⟩
  show Q (.ref g5.objs.size) _
  rw [sz]
  obtain ⟨p1, e1, r1⟩ := a5
  obtain ⟨p2, e2, r2⟩ := b5
  exact k g8 z8 (up _ _ D.TOz o5) ⟨p1, up _ _ D.i1z e1, r1⟩ ⟨p2, up _ _ D.i2z e2, r2⟩ n8 fun c o c1 c2 c3 c4 e => up c o c1 (kk c o c1 c2 c3 c4 e)
theorem tzip_end {z ti to_ j1 j2 t1 t2 : Addr} {i : Nat} {vs us : Array Value} {a b : Value} {Q : Fin → Shared → Prop} (hA : A.handled = none) (D : ZipApart z ti to_ j1 j2 t1 t2) (Z : ZP s.heap z ti to_ j1 j2 t1 t2 i .none a b vs us) (en : vs[i]? = none)
    (k : ∀ h' e, (∀ c o, c ≠ z → c ≠ to_ → c ≠ j1 → c ≠ j2 → s.heap.get? c = some o → h'.get? c = some o) → (∃ o, h'.get? e = some o ∧ o.cls = .type "StopIteration") → E (.ref e) { s with heap := h' }) :
    wpAny (model prog w) A (Builtin.«zip.__next__» ⟨[.ref z], []⟩) Q E s := by
  show wpAny (model prog w) A (field (.ref z) 2 >>= _) _ _ _
  refine wpAny_bind (wpAny_field (x := .bool false) Z.z rfl rfl ?_)
  show wpAny (model prog w) A (field (.ref z) 3 >>= _) _ _ _
  refine wpAny_bind (wpAny_field (x := .ref ti) Z.z rfl rfl (wpAny_bind (wpAny_seqItems Z.ti rfl ?_)))
  show wpAny (model prog w) A (Builtin.SmallTypes.ownedTupleIsFree (.ref z) >>= _) _ _ _
  refine wpAny_bind ?_
  delta Builtin.SmallTypes.ownedTupleIsFree
  refine wpAny_bind (wpAny_field (x := .none) Z.z rfl rfl (wpAny_pure ?_))
  simp only [if_true]
  refine wpAny_bind (wpAny_rule (wpAny_bind (wpAny_field (x := .ref to_) Z.z rfl rfl ?_)))
  refine wpAny_bind (wpAny_setField_rec Z.z (by simp) fun g1 z1 m1 => ?_)
  replace z1 : IsZip g1 z ti to_ .ellipsis := z1
  refine wpAny_bind ?_
  simp only [List.forIn_cons, List.forIn_nil, List.zipIdx_cons, List.zipIdx_nil]
  refine wpAny_bind (wpAny_bind (wpAny_onRaise ?_))
  show wpAny (model prog w) A (Builtin.SmallTypes.nextOf (.ref j1) >>= _) _ _ _
  refine wpAny_bind (tdraw_end hA (Z.j1.extBut m1.extBut D.i1z) (Z.t1.extBut m1.extBut D.l1z) en fun g2 e m2 he => ?_)
  obtain ⟨oe, ee, ce⟩ := he
  have z2 : IsZip g2 z ti to_ .ellipsis := m2 _ _ D.i1z.symm z1
  have ne : e ≠ z := fun q => by subst q; rw [z2] at ee; cases ee; simp at ce
  exact wpAny_setField_rec z2 (by simp) fun g3 _ m3 => k g3 e (fun c o c1 _ c3 _ q => m3.extBut _ _ c1 (m2 _ _ c3 (m1.extBut _ _ c1 q))) ⟨oe, m3.extBut _ _ ne ee, ce⟩
theorem tzip_next {z ti to_ j1 j2 t1 t2 : Addr} {i : Nat} {vs us : Array Value} {x y a b : Value} {Q : Option Value → Shared → Prop} (D : ZipApart z ti to_ j1 j2 t1 t2) (Z : ZP s.heap z ti to_ j1 j2 t1 t2 i .none a b vs us) (ex : vs[i]? = some x) (ey : us[i]? = some y)
    (k : ∀ h', IsZip h' z ti to_ (rawInt s.heap.objs.size) → IsPair h' to_ x y → h'.IsTupleIter j1 t1 (i + 1) → h'.IsTupleIter j2 t2 (i + 1) → IsPair h' s.heap.objs.size x y →
      (∀ c o, c ≠ z → c ≠ to_ → c ≠ j1 → c ≠ j2 → s.heap.get? c = some o → h'.get? c = some o) → Q (some (.ref s.heap.objs.size)) { s with heap := h' }) :
    wpAny (model prog w) A (pyNext (.ref z)) Q E s := by
  have ty : s.TypeIs (.ref z) "zip" := ⟨_, Z.z, rfl⟩
  delta pyNext
  exact wpAny_bind (wpAny_attempt (wpAny_callSpecial?_slot (name := "__next__") ty F.slot_zip_next (wpAny_call_entry F.slot_zip_next ty F.entry_zip_next (tzip_item D Z ex ey fun h' a1 a2 a3 a4 a5 a6 => wpAny_pure (k h' a1 a2 a3 a4 a5 a6)) (F.args_zip_next_1 _))))
theorem tzip_stop {z ti to_ j1 j2 t1 t2 : Addr} {i : Nat} {vs us : Array Value} {a b : Value} {Q : Option Value → Shared → Prop} (hA : A.handled = none) (D : ZipApart z ti to_ j1 j2 t1 t2) (Z : ZP s.heap z ti to_ j1 j2 t1 t2 i .none a b vs us) (en : vs[i]? = none)
    (k : ∀ h', (∀ c o, c ≠ z → c ≠ to_ → c ≠ j1 → c ≠ j2 → s.heap.get? c = some o → h'.get? c = some o) → Q none { s with heap := h' }) : wpAny (model prog w) A (pyNext (.ref z)) Q E s := by
  have ty : s.TypeIs (.ref z) "zip" := ⟨_, Z.z, rfl⟩
  delta pyNext
  refine wpAny_bind (wpAny_attempt (wpAny_callSpecial?_slot (name := "__next__") ty F.slot_zip_next (wpAny_call_entry F.slot_zip_next ty F.entry_zip_next (tzip_end hA D Z en fun h' e kk he => ?_) (F.args_zip_next_1 _))))
  obtain ⟨oe, ee, ce⟩ := he
  exact wpAny_bind (wpAny_isInstance (T := "StopIteration") (b := true) ⟨oe, ee, ce⟩ isSubtype_stop (wpAny_pure (k _ kk)))
end
/-- what zip makes of two tuples -/
abbrev tz1 (h : Heap) (t1 : Addr) : Heap := h.push { cls := .type "tuple_iterator", data := .fields #[.ref t1, .int 0 0] }
abbrev tz2 (h : Heap) (t1 t2 : Addr) : Heap := (tz1 h t1).push { cls := .type "tuple_iterator", data := .fields #[.ref t2, .int 0 0] }
abbrev tz3 (h : Heap) (t1 t2 : Addr) : Heap := (tz2 h t1 t2).push { cls := .type "tuple", data := .seq #[.ref h.objs.size, .ref (tz1 h t1).objs.size] }
abbrev tz4 (h : Heap) (t1 t2 : Addr) : Heap := (tz3 h t1 t2).push { cls := .type "tuple", data := .seq #[.none, .none] }
abbrev tz5 (h : Heap) (t1 t2 : Addr) : Heap := (tz4 h t1 t2).push { cls := .type "zip", data := .fields #[.none, .bool false, .bool false, .ref (tz2 h t1 t2).objs.size, .ref (tz3 h t1 t2).objs.size] }
theorem tz_new (t1 t2 : Addr) (vs us : Array Value) : Meets (Builtin.«zip.__new__» ⟨[.type "zip", .ref t1, .ref t2], []⟩) (fun _ R s => s.heap.IsTuple t1 vs ∧ s.heap.IsTuple t2 us ∧ R (.ok (.ret (.ref (tz4 s.heap t1 t2).objs.size))) { s with heap := tz5 s.heap t1 t2 }) :=
  .of_wp fun prog w A R s h => by
    obtain ⟨hp, g, d, tk, os⟩ := s
    obtain ⟨e1, e2, h⟩ := h
    have sub := sub_zip
    have k1 : Heap.IsTuple (Shared.heap ⟨hp, g, d, tk, os⟩) t1 vs := e1
    have k2 : Heap.IsTuple (Shared.heap ⟨hp.push { cls := .type "tuple_iterator", data := .fields #[.ref t1, .int 0 0] }, g, d, tk, os⟩) t2 us := Heap.IsTuple.push e2 _
    wp_walk using wpAny_pyIter_tuple k1, wpAny_pyIter_tuple k2
    exact ⟨_, rfl, h⟩
section
variable {prog : Program} {w : World} {A : Around} {E : Value → Shared → Prop} {s : Shared}
theorem tz_call {t1 t2 : Addr} {vs us : Array Value} {Q : Value → Shared → Prop} (e1 : s.heap.IsTuple t1 vs) (e2 : s.heap.IsTuple t2 us)
    (k : ∀ h', ZP h' (s.heap.objs.size + 4) (s.heap.objs.size + 2) (s.heap.objs.size + 3) s.heap.objs.size (s.heap.objs.size + 1) t1 t2 0 .none .none .none vs us → (∀ c o, s.heap.get? c = some o → h'.get? c = some o) → Q (.ref (s.heap.objs.size + 4)) { s with heap := h' }) :
    wpAny (model prog w) A (call (.type "zip") [.ref t1, .ref t2]) Q E s := by
  refine callType_new F.called_zip (by decide) (F.typeCall_zip_2 _ _) (F.newCall_zip_2 _ _) (fun o => F.args_object_init_3 o _ _) F.entry_zip_new (tz_new t1 t2 vs us) ⟨e1, e2, ?_⟩
  have z1 : (tz1 s.heap t1).objs.size = s.heap.objs.size + 1 := Heap.size_push ..
  have z2 : (tz2 s.heap t1 t2).objs.size = s.heap.objs.size + 2 := by rw [Heap.size_push, z1]
  have z3 : (tz3 s.heap t1 t2).objs.size = s.heap.objs.size + 3 := by rw [Heap.size_push, z2]
  have z4 : (tz4 s.heap t1 t2).objs.size = s.heap.objs.size + 4 := by rw [Heap.size_push, z3]
  have up : ∀ c o, s.heap.get? c = some o → (tz5 s.heap t1 t2).get? c = some o := fun c o e => Heap.get?_push_of_some _ (Heap.get?_push_of_some _ (Heap.get?_push_of_some _ (Heap.get?_push_of_some _ (Heap.get?_push_of_some _ e))))
  have g5 : (tz5 s.heap t1 t2).get? (tz4 s.heap t1 t2).objs.size = some _ := Heap.get?_push_size _ rfl
  have g4 : (tz5 s.heap t1 t2).get? (tz3 s.heap t1 t2).objs.size = some _ := Heap.get?_push_of_some _ (Heap.get?_push_size _ rfl)
  have g3 : (tz5 s.heap t1 t2).get? (tz2 s.heap t1 t2).objs.size = some _ := Heap.get?_push_of_some _ (Heap.get?_push_of_some _ (Heap.get?_push_size _ rfl))
  have g2 : (tz5 s.heap t1 t2).get? (tz1 s.heap t1).objs.size = some _ := Heap.get?_push_of_some _ (Heap.get?_push_of_some _ (Heap.get?_push_of_some _ (Heap.get?_push_size _ rfl)))
  have g1 : (tz5 s.heap t1 t2).get? s.heap.objs.size = some _ := Heap.get?_push_of_some _ (Heap.get?_push_of_some _ (Heap.get?_push_of_some _ (Heap.get?_push_of_some _ (Heap.get?_push_size _ rfl))))
  show _ ∧ _
  rw [z4, z3, z2] at g5
  rw [z3] at g4
  rw [z2, z1] at g3
  rw [z1] at g2
  obtain ⟨p1, x1, r1⟩ := e1
  obtain ⟨p2, x2, r2⟩ := e2
  rw [z4]
  exact ⟨⟨_, g5, rfl⟩, k (tz5 s.heap t1 t2) ⟨g5, g3, g4, ⟨_, g1, rfl, rfl⟩, ⟨_, g2, rfl, rfl⟩, ⟨p1, up _ _ x1, r1⟩, ⟨p2, up _ _ x2, r2⟩⟩ up⟩
end
end L2
namespace L2
open PySem PySem.Spec PyProof.Rows
def ItzT (K : PySem.W.Frag) (l1 l2 : Addr) : It :=
  ⟨fun i H => ∃ xs ys, SqT K H l1 xs ∧ SqT K H l2 ys ∧ i < xs.length ∧ i < ys.length,
   fun i H x H' => ∃ T a b, H T = none ∧ x = .ref T ∧ H' = upd H T (.tup [a, b]) ∧ (∀ xs, SqT K H l1 xs → xs[i]? = some a) ∧ (∀ ys, SqT K H l2 ys → ys[i]? = some b),
   fun i H => ∃ xs ys, SqT K H l1 xs ∧ SqT K H l2 ys ∧ xs.length ≤ i⟩
def ZipStT (z ti to_ j1 j2 l1 l2 : Addr) (i : Nat) (h : Heap) : Prop := IsZip h z ti to_ .none ∧ IsPair h ti (.ref j1) (.ref j2) ∧ (∃ a b, IsPair h to_ a b) ∧ h.IsTupleIter j1 l1 i ∧ h.IsTupleIter j2 l2 i
theorem tit_at {h h' : Heap} {j t : Addr} {i : Nat} (u : h.IsTupleIter j t i) (k : ∀ o, h.get? j = some o → h'.get? j = some o) : h'.IsTupleIter j t i := by
  obtain ⟨o, e, r⟩ := u
  exact ⟨o, k o e, r⟩
theorem turn_zipT {P : Program} {w : World} {K : PySem.W.Frag} {elts : List Expr} {kk : Nat} {tpos : Pos} (z ti to_ j1 j2 l1 l2 : Addr) (D : ZipApart z ti to_ j1 j2 l1 l2) :
    Turn P w K (.Tuple elts kk tpos) (ItzT K l1 l2) [z, ti, to_, j1, j2] z (ZipStT z ti to_ j1 j2 l1 l2) where
  mem := by simp
  obj := fun i h st b hb => by
    obtain ⟨hz, hTI, ⟨a, c, hTO⟩, ⟨o1, e1, _, d1⟩, ⟨o2, e2, _, d2⟩⟩ := st
    simp only [List.mem_cons, List.not_mem_nil, or_false] at hb
    rcases hb with rfl | rfl | rfl | rfl | rfl
    · exact ⟨_, hz, fun v q => by cases (show Data.fields _ = Data.cell v from q)⟩
    · exact ⟨_, hTI, fun v q => by cases (show Data.seq _ _ = Data.cell v from q)⟩
    · exact ⟨_, hTO, fun v q => by cases (show Data.seq _ _ = Data.cell v from q)⟩
    · exact ⟨_, e1, fun v q => by rw [d1] at q; cases q⟩
    · exact ⟨_, e2, fun v q => by rw [d2] at q; cases q⟩
  keep := fun i h h' st k => by
    obtain ⟨hz, hTI, ⟨a, c, hTO⟩, h1, h2⟩ := st
    exact ⟨k z (by simp) _ hz, k ti (by simp) _ hTI, ⟨a, c, k to_ (by simp) _ hTO⟩, tit_at h1 fun o e => k j1 (by simp) o e, tit_at h2 fun o e => k j2 (by simp) o e⟩
  item := by
    intro X hP hw hK hc i pins s σ H E I hf st hg
    subst hP hw hK
    obtain ⟨xs, ys, q1, q2, g1, g2⟩ := hg
    obtain ⟨its1, r1, p1, z1⟩ := I.tuple q1
    obtain ⟨its2, r2, p2, z2⟩ := I.tuple q2
    obtain ⟨u1, e1, ru1⟩ := r1.get (List.getElem?_eq_getElem g1)
    obtain ⟨u2, e2, ru2⟩ := r2.get (List.getElem?_eq_getElem g2)
    obtain ⟨hz, hTI, ⟨a, c, hTO⟩, h1, h2⟩ := st
    refine tzip_next (x := u1) (y := u2) D ⟨hz, hTI, hTO, h1, h2, p1, p2⟩ (by simpa using e1) (by simpa using e2) fun h1' a1 a2 a3 a4 a5 hk => ⟨_, rfl, ?_⟩
    refine wpAny_letOwnedTupleGo_zip a1 fun h2' hz' hs' => ?_
    have lt : ∀ {c o}, s.heap.get? c = some o → s.heap.objs.size ≠ c := fun e => Nat.ne_of_gt (Heap.lt_size e)
    have Tz : s.heap.objs.size ≠ z := lt hz
    have kz : ∀ b o, b ≠ z → h1'.get? b = some o → h2'.get? b = some o := fun b o hb e => hs'.extBut _ _ hb e
    have I' : Inv X pins σ (upd H s.heap.objs.size (.tup [xs[i], ys[i]])) { s with heap := h2' } := by
      refine I.turnedNew (t' := s.toks) (ch := [z, to_, j1, j2]) (fun b o hb e => ?_) (fun b hb => hf b (by
        simp only [List.mem_cons, List.not_mem_nil, or_false] at hb ⊢
        rcases hb with rfl | rfl | rfl | rfl <;> simp)) (Nat.le_refl _) ?_
      · simp only [List.mem_cons, List.not_mem_nil, or_false, not_or] at hb
        exact kz b o hb.1 (hk b o hb.1 hb.2.1 hb.2.2.1 hb.2.2.2 e)
      · exact ⟨(by show 2 ≤ sizeLine; decide), [u1, u2], .cons ru1 (.cons ru2 .nil), _, kz _ _ Tz a5, rfl, _, rfl⟩
    refine ⟨.ref s.heap.objs.size, _, I', rfl, ⟨s.heap.objs.size, xs[i], ys[i], I.hok.fresh (Nat.le_refl _), rfl, rfl, fun xs' q' => ?_, fun ys' q' => ?_⟩, ⟨hz', ?_, ⟨_, _, kz _ _ D.TOz a2⟩, ?_, ?_⟩, fun b hb => ?_⟩
    · rw [I.tuple_inj q' q1]; exact List.getElem?_eq_getElem g1
    · rw [I.tuple_inj q' q2]; exact List.getElem?_eq_getElem g2
    · exact kz _ _ D.TIz (hk _ _ D.TIz D.TITO D.TIi1 D.TIi2 hTI)
    · exact tit_at a3 fun o e => kz _ _ D.i1z e
    · exact tit_at a4 fun o e => kz _ _ D.i2z e
    · have n := (hf b hb).1
      simp only [List.mem_cons, List.not_mem_nil, or_false] at hb
      have ob : ∃ o, s.heap.get? b = some o := by
        obtain ⟨o1, x1, _⟩ := h1
        obtain ⟨o2, x2, _⟩ := h2
        rcases hb with rfl | rfl | rfl | rfl | rfl
        · exact ⟨_, hz⟩
        · exact ⟨_, hTI⟩
        · exact ⟨_, hTO⟩
        · exact ⟨_, x1⟩
        · exact ⟨_, x2⟩
      obtain ⟨o, eo⟩ := ob
      rw [upd_ne (Ne.symm (lt eo))]
      exact n
  done := by
    intro X hP hw hK hc i pins s σ H E I hf st hg
    subst hP hw hK
    obtain ⟨xs, ys, q1, q2, g⟩ := hg
    obtain ⟨its1, r1, p1, z1⟩ := I.tuple q1
    obtain ⟨its2, r2, p2, z2⟩ := I.tuple q2
    obtain ⟨hz, hTI, ⟨a, c, hTO⟩, h1, h2⟩ := st
    have l1' := r1.length
    refine tzip_stop (I.ok.hd hc) D ⟨hz, hTI, hTO, h1, h2, p1, p2⟩ (Array.getElem?_eq_none (by rw [List.size_toArray]; omega)) fun h' hk => ⟨rfl, ?_⟩
    refine I.turnedL (t' := s.toks) (ch := [z, to_, j1, j2]) (fun b o hb e => ?_) (fun b hb => hf b (by
        simp only [List.mem_cons, List.not_mem_nil, or_false] at hb ⊢
        rcases hb with rfl | rfl | rfl | rfl <;> simp))
    simp only [List.mem_cons, List.not_mem_nil, or_false, not_or] at hb
    exact hk b o hb.1 hb.2.1 hb.2.2.1 hb.2.2.2 e
  self := fun _ _ _ _ _ st h => wpAny_pyIter_zip st.1 h
def iZipT (K : PySem.W.Frag) (ta : TA) : TI := fun σ H R => ta σ H fun vs H1 => ∃ l1 l2 xs ys, vs = [.ref l1, .ref l2] ∧ SqT K H1 l1 xs ∧ SqT K H1 l2 ys ∧ R (ItzT K l1 l2) H1
theorem pi_zipT {X : Cx} {a b : Expr} {ta : TA} {p pos tpos : Pos} {elts : List Expr} {kk : Nat} (hg : Gl X "zip") (hm : X.mg "zip" = none) (ha : PA X [a, b] ta) (hs : starEach [a, b] X.env = [(false, eval a X.env), (false, eval b X.env)] := by rfl) (hs2 : starEach [b] X.env = [(false, eval b X.env)] := by rfl) :
    PI X (.Tuple elts kk tpos) (.Call (.Name "zip" p) [a, b] [] pos) (iZipT X.K ta) := by
  intro pins s σ H R I h
  refine Call_ (ld_blt I hg hm (show bootBuiltins "zip" = some (.type "zip") from by decide +kernel) (PyProof.Rows.callWith_type1 (thn (ha pos pins s σ H _ I h) fun us s1 ⟨vs, H1, I1, r1, q1⟩ => ?_) (by rw [hs, hs2]) (by rw [hs2]; rfl)))
  obtain ⟨l1, l2, xs, ys, e, q1, q2, q⟩ := q1
  subst e
  obtain ⟨u1, u2, rfl, ru1, ru2⟩ := r1.two
  cases ru1
  cases ru2
  obtain ⟨its1, v1, p1, z1⟩ := I1.tuple q1
  obtain ⟨its2, v2, p2, z2⟩ := I1.tuple q2
  have b1 : l1 < s1.heap.objs.size := by obtain ⟨o, e, _⟩ := p1; exact Heap.lt_size e
  have b2 : l2 < s1.heap.objs.size := by obtain ⟨o, e, _⟩ := p2; exact Heap.lt_size e
  refine tz_call p1 p2 fun h' Z hk => ?_
  have D := zip_apart b1 b2
  refine wpAny_pyIter_zip Z.z ?_
  refine ⟨_, _, ZipStT _ _ _ _ _ _ _, _, H1, rfl, I1.kept (t' := s1.toks) hk, turn_zipT _ _ _ _ _ _ _ D, ⟨Z.z, Z.ti, ⟨_, _, Z.to_⟩, Z.j1, Z.j2⟩, fun b hb => ?_, q⟩
  have hb' : s1.heap.objs.size ≤ b := by
    simp only [List.mem_cons, List.not_mem_nil, or_false] at hb
    rcases hb with rfl | rfl | rfl | rfl | rfl
    · exact Nat.le_add_right _ _
    · exact Nat.le_add_right _ _
    · exact Nat.le_add_right _ _
    · exact Nat.le_refl _
    · exact Nat.le_add_right _ _
  exact I1.fpOk hb' (I1.hok.fresh hb')
end L2
namespace L2
open PySem PySem.Spec PyProof.Rows
/-! ### name = [a comprehension] -/
section
variable {X : Cx} {pins : List (Addr × Obj)} {σ : St} {H : Hp} {s : Shared}
theorem ps_compG {elt iter : Expr} {x : Str} {px : Pos} {ifs : List Expr} {scope : Scope} {pos : Pos} {wi : TI} {tc : TT} {te : TE} (cn : List Str) (cap : List Nat) (S : CompScope X scope x cn cap) (hc : X.calm = true)
    (hi : PI X (.Name x px) iter wi) (hin : ∀ cl C s₀ H₀ ex, PIfs (cxComp X scope (x :: cn) cl C s₀ H₀ ex) ifs tc) (he : ∀ cl C s₀ H₀ ex, PE (cxComp X scope (x :: cn) cl C s₀ H₀ ex) elt te)
    {y : Str} {py : Pos} {apos : Pos} (iy : Nat) (hN : X.N.Nodup) (hiy : X.N[iy]? = some y) (hxy : Loc X.env.scope y) (hsw : swapsWith (.ListComp elt [⟨.Name x px, iter, ifs, 0⟩] scope pos) (some (.Name y py)) apos.line X.env = pure true := by rfl) (hfy : X.fn y = true ∨ X.env.scope.names.lookup y = some .local := by first | exact .inl rfl | exact .inr rfl | assumption)
    (hs : ∀ z, foldedSetIterable iter X.env z = pure z := by intro _; rfl) : PS X (.Assign [.Name y py] (.ListComp elt [⟨.Name x px, iter, ifs, 0⟩] scope pos) apos) (tAsg (tComp wi tc te cap) (gName iy)) := by
  intro pins s σ H D I h
  rw [exec_Assign_Name_used _ _ _ _ hsw]
  refine wpAny_bind (wpAny_standAt (wpAny_bind ?_))
  show wpAny _ _ (comprehension (.ListComp elt [⟨.Name x px, iter, ifs, 0⟩] scope pos) scope X.env (firstIterPos [⟨.Name x px, iter, ifs, 0⟩] pos) (newList []) false (firstIter [⟨.Name x px, iter, ifs, 0⟩] X.env) (some (assign (.Name y py) X.env)) >>= fun _ => pure ()) _ _ _
  refine wpAny_bind (wpAny_mono (Q := fun _ s' => ∃ σ' H', Inv X pins σ' H' s' ∧ D.nx σ' H') ?_ (fun _ s' q => wpAny_pure (wpAny_pure q)) fun _ _ z => z)
  obtain ⟨cl, hclos, hc1, hc2⟩ := closure_ok (scope := scope) (env := X.env) fun y hy hk => I.ok.has y.1 (S.free y hy hk)
  refine wpAny_comprehension_free (use := some (assign (.Name y py) X.env)) rfl hs hclos S.kind S.names (thn (hi pins s σ H _ I h) fun v s1 h1 => thn h1 fun itv s2 h2 => ?_)
  obtain ⟨it, fp, tn, J, H2, e, I2, T, st2, f2, q2⟩ := h2
  subst e
  have hlt : ∀ b ∈ fp, b < s2.heap.objs.size := fun b hb => by
    obtain ⟨o, e, _⟩ := T.obj _ _ st2 b hb
    exact Heap.lt_size e
  refine wpAny_newObj_type (wpAny_newFunctionEnv S.cell (by intro y hy; simp at hy) (fun h₁ hns₁ hsb₁ => ?_) S.kind)
  dsimp only at hns₁ hsb₁ ⊢
  generalize hP : s2.heap.push { cls := .type "list", dict := none, data := .seq ([] : List Value).toArray } = P2 at hns₁ hsb₁ ⊢
  have hC : P2.objs.size = s2.heap.objs.size + 1 := by rw [← hP, Heap.size_push]
  have hDC : s2.heap.objs.size ≠ P2.objs.size := by rw [hC]; exact Nat.ne_of_lt (Nat.lt_succ_self _)
  have hCle : s2.heap.objs.size ≤ P2.objs.size := by rw [hC]; exact Nat.le_succ _
  have neC : ∀ b, b < s2.heap.objs.size → b ≠ P2.objs.size := fun b hb => by rw [hC]; exact Nat.ne_of_lt (Nat.lt_succ_of_lt hb)
  have old : ∀ b o, s2.heap.get? b = some o → h₁.get? b = some o := fun b o e => hsb₁.extBut b o (neC b (Heap.lt_size e)) (Heap.get?_push_of_some _ (hP ▸ Heap.get?_push_of_some _ e))
  have hacc : h₁.get? s2.heap.objs.size = some { cls := .type "list", dict := none, data := .seq ([] : List Value).toArray } := hsb₁.extBut _ _ hDC (Heap.get?_push_of_some _ (hP ▸ Heap.get?_push_size _ rfl))
  have hD0 : H2 s2.heap.objs.size = none := I2.hok.fresh (Nat.le_refl _)
  have ok' : (cxComp X scope (x :: cn) cl P2.objs.size s2 H2 fp).Ok := comp_ok S I2 f2 hlt hc1 hc2 hCle
  obtain ⟨W, ⟨m0, w0⟩, turn⟩ := q2 _ hD0
  have hok1 : HOk X.prog X.w (upd H2 s2.heap.objs.size (.lst [])) h₁ := I2.hok.laid old (Nat.le_refl _) ⟨Nat.zero_le _, [], _, .nil, hacc⟩
  have un1 : Un (frs X.stack) fp H2 (upd H2 s2.heap.objs.size (.lst [])) s2.heap h₁ := Un.laid old (Nat.le_refl _) hD0
  have I4 : ∀ tk, Inv (cxComp X scope (x :: cn) cl P2.objs.size s2 H2 fp) [] (inSt cap none σ) (upd H2 s2.heap.objs.size (.lst [])) { s2 with heap := h₁, toks := tk } := fun tk => by
    refine ⟨ok', rfl, I2.bare, un1, ⟨_, hns₁, fun i y v e1 e2 e3 => ?_⟩, fun y c e => ?_, ?_, fun y c e => ?_, fun p hp => (nomatch hp), hok1, ?_⟩
    · cases i with
      | zero => cases (show (none : Option V) = some v from Option.some.inj e2)
      | succ j =>
        have e1' : cn[j]? = some y := e1
        have ymem : y ∈ cn := List.mem_of_getElem? e1'
        obtain ⟨i0, ci, ni⟩ := map_get S.cap e1'
        have e2' : (cap.map fun i => (σ[i]?).join)[j]? = some (some v) := e2
        rw [List.getElem?_map, ci] at e2'
        have e3' : (σ[i0]?).join = some v := Option.some.inj e2'
        have e4 : σ[i0]? = some (some v) := by
          cases q : σ[i0]? with
          | none => rw [q] at e3'; cases e3'
          | some o => rw [q] at e3'; exact congrArg some e3'
        obtain ⟨m, hn, hl⟩ := I2.loc
        have vis : Vis X.env.scope y := .inr (S.capo y ymem)
        obtain ⟨u, r, lk⟩ := hl i0 y v ni e4 vis
        refine ⟨u, r, .inr ⟨lookup_relabel_free (env := X.env) (S.capf y ymem), ?_⟩⟩
        rcases lk with ⟨kl, _⟩ | ⟨_, c, ec, hcell⟩
        · rcases S.capo y ymem with z | z
          · have kl' : X.env.scope.names.lookup y = some .local := kl
            rw [z] at kl'; cases kl'
          · have kl' : X.env.scope.names.lookup y = some .local := kl
            rw [z] at kl'; cases kl'
        · have fm : (y, NameKind.free) ∈ scope.names := of_relabel (env := X.env) S.cell (lookup_relabel_free (env := X.env) (S.capf y ymem))
          obtain ⟨c', ec'⟩ := hc2 y fm
          have := hc1 y c' ec'
          rw [ec] at this
          cases this
          obtain ⟨o, ho, hd⟩ := hcell
          exact ⟨c, ec', o, old _ _ ho, hd⟩
    · obtain ⟨v, o, ho, hd⟩ := I2.cell y c (hc1 y c e)
      exact ⟨v, o, old _ _ ho, hd⟩
    · show (upd H2 s2.heap.objs.size (.lst [])) P2.objs.size = none
      rw [upd_ne (Ne.symm hDC)]
      exact I2.hok.fresh hCle
    · obtain ⟨v, o, ho, hd⟩ := I2.cell y c (hc1 y c e)
      rw [upd_ne (Nat.ne_of_lt (Heap.lt_size ho))]
      exact I2.freeC y c (hc1 y c e)
    · show (inSt cap none σ).length = (x :: cn).length
      have := congrArg List.length S.cap
      simp only [List.length_map] at this
      simp [inSt, this]
  have stat : ∀ {H' : Hp}, (∀ b ∈ fp, H' b = none) → ∀ b ∈ fp, FpOk (cxComp X scope (x :: cn) cl P2.objs.size s2 H2 fp) [] H' b := fun hn b hb =>
    ⟨hn b hb, neC b (hlt b hb), ok'.exfs b hb, .inl hb, fun y c e => (ok'.exf b hb).2 y c e, fun p hp => (nomatch hp)⟩
  have pgx : PG (cxComp X scope (x :: cn) cl P2.objs.size s2 H2 fp) (.Name x px) (gName 0) := pg_name (i := 0) S.nd rfl (.inl (lookup_relabel_local (env := X.env) S.own)) (.inr (lookup_relabel_local (env := X.env) S.own))
  have loop : ∀ s₃ : Shared, s₃ = { s2 with heap := h₁, toks := s2.toks + ([] : List (Str × Value)).length } →
      codeAny (model X.prog X.w) X.A (.compLoop (.ListComp elt [⟨.Name x px, iter, ifs, 0⟩] scope pos) 0 (.ref it) (.ref s2.heap.objs.size) (compEnvC scope cl P2.objs.size X.env))
        (compPost (model X.prog X.w) X.A X.xe (some (assign (.Name y py) X.env)) (fun _ s' => ∃ σ' H', Inv X pins σ' H' s' ∧ D.nx σ' H') (.ref s2.heap.objs.size) P2.objs.size) s₃ := by
    rintro s₃ rfl
    refine codeAny_loop rfl (fun n s' => ∃ i H', Inv (cxComp X scope (x :: cn) cl P2.objs.size s2 H2 fp) [] (inSt cap none σ) H' s' ∧ tn i s'.heap ∧ (∀ b ∈ fp, H' b = none) ∧ W i n H') ?_ m0
      ⟨0, _, I4 _, T.keep _ _ _ st2 fun b hb o e => old b o e, fun b hb => by rw [upd_ne (Nat.ne_of_lt (hlt b hb))]; exact (f2 b hb).1, w0⟩
    rintro n s3 ⟨i, H3, I3, st3, fr3, w3⟩
    show wpAny _ X.A ((compTurn (.ListComp elt [⟨.Name x px, iter, ifs, 0⟩] scope pos) 0 (.ref it) (.ref s2.heap.objs.size) (compEnvC scope cl P2.objs.size X.env)).onRaise (fun x => do noteFrame x (compEnvC scope cl P2.objs.size X.env); theTreesLotGoes x)) _ _ s3
    refine wpAny_noted ?_
    rw [compTurn_list]
    refine wpAny_bind (wpAny_standAt (wpAny_bind ?_))
    rcases turn i n H3 w3 with ⟨stop, qn⟩ | ⟨go, step⟩
    · refine wpAny_mono (T.done (cxComp X scope (x :: cn) cl P2.objs.size s2 H2 fp) rfl rfl rfl hc i [] s3 _ H3 (fun _ _ => False) I3 (stat fr3) st3 stop) (fun r s4 ⟨hr, I5⟩ => ?_) fun _ _ z => z.elim
      subst hr
      refine wpAny_pure ?_
      obtain ⟨m, hn, _⟩ := id I5.loc
      have J : Inv X pins σ H3 s4 := by
        have kp : ∀ b o, b ≠ P2.objs.size → s4.heap.get? b = some o → s4.heap.get? b = some o := fun b o hb e => e
        have b0 := I5.base
        have sm : ∀ b o, s2.heap.get? b = some o → b ≠ P2.objs.size := fun b o e => neC b (Heap.lt_size e)
        refine I2.call' (s' := s4) (ch := fp) I5.os ⟨fun b o e n hb hx => kp _ _ (sm b o e) (b0.keep b o e n hb hx), fun b o e n hb hx => ?_, b0.free, fun b o e hx => ?_, b0.tups, b0.frzs, b0.tbls⟩ (fun b u e => ?_) I5.bare
          fun b hb => ⟨(f2 b hb).2.2.2.1, (f2 b hb).2.1, (f2 b hb).2.2.2.2.1, (f2 b hb).2.2.2.2.2⟩
        · obtain ⟨sl, q⟩ := b0.slot b o e n hb hx
          exact ⟨sl, kp _ _ (sm b o e) q⟩
        · obtain ⟨o', q⟩ := b0.there b o e hx
          exact ⟨o', kp _ _ (sm b o e) q⟩
        · have hfree : H3 P2.objs.size = none := I5.free
          refine (I5.hok b u e).stay (fun c v hc' q => kp c v ?_ q) (fun _ q => q) fun _ _ q => q
          rcases hc' with z | z
          · rw [z]; exact ne_of_none e hfree
          · exact ne_of_none z hfree
      have fC : FpOk X pins H3 P2.objs.size := by
        have q := I2.fpOk hCle (I2.hok.fresh hCle)
        exact ⟨I5.free, q.2⟩
      refine wpAny_assign_Name (store_ok2 J hN hiy hxy (v := .ref s2.heap.objs.size) rfl (fun s5 I6 ⟨a, sb, ha⟩ => ?_) hfy)
      have nC : P2.objs.size ≠ a := by
        rcases ha with ha | ha
        · rw [ha]; exact fC.2.1
        · exact (fC.2.2.2.2.1 _ _ ha).symm
      obtain ⟨oC, esC, epC, hoC, rC⟩ := hn
      refine ⟨m, ⟨oC, esC, epC, sb.extBut _ _ nC hoC, rC⟩, fun h' hsb => ⟨_, H3, ?_, qn⟩⟩
      refine I6.turnedL (t' := s5.toks) (ch := [P2.objs.size]) (fun b o hb e => hsb.extBut b o (by simpa using hb) e) (fun b hb => ?_)
      cases List.mem_singleton.mp hb
      exact fC
    · refine wpAny_mono (T.item (cxComp X scope (x :: cn) cl P2.objs.size s2 H2 fp) rfl rfl rfl hc i [] s3 _ H3 (fun _ _ => False) I3 (stat fr3) st3 go) (fun r s4 ⟨u, hr, h4⟩ => ?_) fun _ _ z => z.elim
      subst hr
      refine wpAny_bind (wpAny_mono h4 (fun _ s5 ⟨xv, H5, I5, r5, y5, st5, fr5⟩ => ?_) fun _ _ z => z.elim)
      have I5' := I5.pinned (stat fr5) (T.obj _ _ st5)
      refine wpAny_bind (wpAny_mono (pgx _ s5 _ H5 xv u (fun σ6 H6 => σ6 = inSt cap (some xv) σ ∧ H6 = H5) I5' r5 ⟨rfl, rfl⟩) (fun _ s6 ⟨σ6, H6, I6, e6, e6'⟩ => ?_) fun _ _ z => z.elim)
      subst e6 e6'
      have again : ∀ {s7 : Shared} {H7 : Hp}, Inv (cxComp X scope (x :: cn) cl P2.objs.size s2 H2 fp) ([] ++ pinsAt fp s5.heap) (inSt cap (some xv) σ) H7 s7 → (∃ m', m' < n ∧ W (i + 1) m' H7) →
          ∃ m, m < n ∧ ∃ i H', Inv (cxComp X scope (x :: cn) cl P2.objs.size s2 H2 fp) [] (inSt cap none σ) H' s7 ∧ tn i s7.heap ∧ (∀ b ∈ fp, H' b = none) ∧ W i m H' := fun {s7 H7} I7 w7 => by
        obtain ⟨m', hm, w7⟩ := w7
        refine ⟨m', hm, i + 1, H7, I7.unpinned.weak rfl fun j v ev => ?_, T.keep _ _ _ st5 fun b hb o e => (I7.pin (b, o) (List.mem_append_right _ (List.mem_append_right _ (mem_pinsAt hb e)))).1, fun b hb => ?_, w7⟩
        · cases j with
          | zero => cases (show (none : Option V) = some v from Option.some.inj ev)
          | succ j => exact ev
        · obtain ⟨o, e, d⟩ := T.obj _ _ st5 b hb
          exact (I7.pin (b, o) (List.mem_append_right _ (List.mem_append_right _ (mem_pinsAt hb e)))).2.1
      refine wpAny_bind (wpAny_mono (hin cl P2.objs.size s2 H2 fp _ s6 _ _ _ I6 (step xv _ y5)) (fun ok s7 ⟨H7, I7, q7⟩ => ?_) fun _ _ z => z.elim)
      cases ok with
      | false =>
        have q7' : ∃ m', m' < n ∧ W (i + 1) m' H7 := by simpa using q7
        exact wpAny_pure ⟨rfl, again I7 q7'⟩
      | true =>
        have q7' := (if_pos rfl).mp q7
        refine wpAny_bind (wpAny_bind (wpAny_mono (he cl P2.objs.size s2 H2 fp _ s7 _ H7 _ I7 q7') (fun yv s8 ⟨y, H8, I8, r8, ys, h8, z8, q8⟩ => ?_) fun _ _ z => z.elim))
        refine wpAny_bind (wpAny_mono (mt_append (X := cxComp X scope (x :: cn) cl P2.objs.size s2 H2 fp) _ s8 _ H8 (.ref s2.heap.objs.size) [y] (.ref s2.heap.objs.size) [yv] (fun _ H9 => ∃ m', m' < n ∧ W (i + 1) m' H9) I8 rfl (.cons r8 .nil) ⟨_, ys, y, rfl, rfl, h8, z8, q8⟩) (fun _ s9 ⟨_, H9, I9, _, q9⟩ => ?_) fun _ _ z => z.elim)
        exact wpAny_pure (wpAny_pure ⟨rfl, again I9 q9⟩)
  exact codeAny_compStart_list (loop _ rfl) (T.self _ 0 _ _ _ (T.keep _ _ _ st2 fun b hb o e => old b o e) (loop _ rfl))
theorem ps_compT {elt iter tg : Expr} {xs : List Str} {kx : Nat} {g : TG} {ifs : List Expr} {scope : Scope} {pos : Pos} {wi : TI} {tc : TT} {te : TE} (cn : List Str) (cap : List Nat) (S : CompScopeT X scope xs cn cap) (hc : X.calm = true)
    (hkx : xs.length = kx) (hg : ∀ cl C s₀ H₀ ex, PG (cxComp X scope (xs ++ cn) cl C s₀ H₀ ex) tg g)
    (hi : PI X tg iter wi) (hin : ∀ cl C s₀ H₀ ex, PIfs (cxComp X scope (xs ++ cn) cl C s₀ H₀ ex) ifs tc) (he : ∀ cl C s₀ H₀ ex, PE (cxComp X scope (xs ++ cn) cl C s₀ H₀ ex) elt te)
    {y : Str} {py : Pos} {apos : Pos} (iy : Nat) (hN : X.N.Nodup) (hiy : X.N[iy]? = some y) (hxy : Loc X.env.scope y) (hsw : swapsWith (.ListComp elt [⟨tg, iter, ifs, 0⟩] scope pos) (some (.Name y py)) apos.line X.env = pure true := by rfl) (hfy : X.fn y = true ∨ X.env.scope.names.lookup y = some .local := by first | exact .inl rfl | exact .inr rfl | assumption)
    (hs : ∀ z, foldedSetIterable iter X.env z = pure z := by intro _; rfl) : PS X (.Assign [.Name y py] (.ListComp elt [⟨tg, iter, ifs, 0⟩] scope pos) apos) (tAsg (tCompT wi kx g tc te cap) (gName iy)) := by
  intro pins s σ H D I h
  rw [exec_Assign_Name_used _ _ _ _ hsw]
  refine wpAny_bind (wpAny_standAt (wpAny_bind ?_))
  show wpAny _ _ (comprehension (.ListComp elt [⟨tg, iter, ifs, 0⟩] scope pos) scope X.env (firstIterPos [⟨tg, iter, ifs, 0⟩] pos) (newList []) false (firstIter [⟨tg, iter, ifs, 0⟩] X.env) (some (assign (.Name y py) X.env)) >>= fun _ => pure ()) _ _ _
  refine wpAny_bind (wpAny_mono (Q := fun _ s' => ∃ σ' H', Inv X pins σ' H' s' ∧ D.nx σ' H') ?_ (fun _ s' q => wpAny_pure (wpAny_pure q)) fun _ _ z => z)
  obtain ⟨cl, hclos, hc1, hc2⟩ := closure_ok (scope := scope) (env := X.env) fun y hy hk => I.ok.has y.1 (S.free y hy hk)
  refine wpAny_comprehension_free (use := some (assign (.Name y py) X.env)) rfl hs hclos S.kind S.names (thn (hi pins s σ H _ I h) fun v s1 h1 => thn h1 fun itv s2 h2 => ?_)
  obtain ⟨it, fp, tn, J, H2, e, I2, T, st2, f2, q2⟩ := h2
  subst e
  have hlt : ∀ b ∈ fp, b < s2.heap.objs.size := fun b hb => by
    obtain ⟨o, e, _⟩ := T.obj _ _ st2 b hb
    exact Heap.lt_size e
  refine wpAny_newObj_type (wpAny_newFunctionEnv S.cell (by intro y hy; simp at hy) (fun h₁ hns₁ hsb₁ => ?_) S.kind)
  dsimp only at hns₁ hsb₁ ⊢
  generalize hP : s2.heap.push { cls := .type "list", dict := none, data := .seq ([] : List Value).toArray } = P2 at hns₁ hsb₁ ⊢
  have hC : P2.objs.size = s2.heap.objs.size + 1 := by rw [← hP, Heap.size_push]
  have hDC : s2.heap.objs.size ≠ P2.objs.size := by rw [hC]; exact Nat.ne_of_lt (Nat.lt_succ_self _)
  have hCle : s2.heap.objs.size ≤ P2.objs.size := by rw [hC]; exact Nat.le_succ _
  have neC : ∀ b, b < s2.heap.objs.size → b ≠ P2.objs.size := fun b hb => by rw [hC]; exact Nat.ne_of_lt (Nat.lt_succ_of_lt hb)
  have old : ∀ b o, s2.heap.get? b = some o → h₁.get? b = some o := fun b o e => hsb₁.extBut b o (neC b (Heap.lt_size e)) (Heap.get?_push_of_some _ (hP ▸ Heap.get?_push_of_some _ e))
  have hacc : h₁.get? s2.heap.objs.size = some { cls := .type "list", dict := none, data := .seq ([] : List Value).toArray } := hsb₁.extBut _ _ hDC (Heap.get?_push_of_some _ (hP ▸ Heap.get?_push_size _ rfl))
  have hD0 : H2 s2.heap.objs.size = none := I2.hok.fresh (Nat.le_refl _)
  have ok' : (cxComp X scope (xs ++ cn) cl P2.objs.size s2 H2 fp).Ok := comp_okT S I2 f2 hlt hc1 hc2 hCle
  obtain ⟨W, ⟨m0, w0⟩, turn⟩ := q2 _ hD0
  have hok1 : HOk X.prog X.w (upd H2 s2.heap.objs.size (.lst [])) h₁ := I2.hok.laid old (Nat.le_refl _) ⟨Nat.zero_le _, [], _, .nil, hacc⟩
  have un1 : Un (frs X.stack) fp H2 (upd H2 s2.heap.objs.size (.lst [])) s2.heap h₁ := Un.laid old (Nat.le_refl _) hD0
  have I4 : ∀ tk, Inv (cxComp X scope (xs ++ cn) cl P2.objs.size s2 H2 fp) [] (inStT kx cap σ) (upd H2 s2.heap.objs.size (.lst [])) { s2 with heap := h₁, toks := tk } := fun tk => by
    refine ⟨ok', rfl, I2.bare, un1, ⟨_, hns₁, fun i y v e1 e2 e3 => ?_⟩, fun y c e => ?_, ?_, fun y c e => ?_, fun p hp => (nomatch hp), hok1, ?_⟩
    · by_cases hik : i < kx
      · have e2' : (List.replicate kx (none : Option V) ++ cap.map fun i => (σ[i]?).join)[i]? = some (some v) := e2
        rw [List.getElem?_append_left (by rw [List.length_replicate]; exact hik), List.getElem?_replicate, if_pos hik] at e2'
        cases Option.some.inj e2'
      · have e1'' : (xs ++ cn)[i]? = some y := e1
        have e1' : cn[i - kx]? = some y := by
          rw [List.getElem?_append_right (by rw [hkx]; exact Nat.le_of_not_lt hik), hkx] at e1''
          exact e1''
        have ymem : y ∈ cn := List.mem_of_getElem? e1'
        obtain ⟨i0, ci, ni⟩ := map_get S.cap e1'
        have e2'' : (List.replicate kx (none : Option V) ++ cap.map fun i => (σ[i]?).join)[i]? = some (some v) := e2
        have e2' : (cap.map fun i => (σ[i]?).join)[i - kx]? = some (some v) := by
          rw [List.getElem?_append_right (by rw [List.length_replicate]; exact Nat.le_of_not_lt hik), List.length_replicate] at e2''
          exact e2''
        rw [List.getElem?_map, ci] at e2'
        have e3' : (σ[i0]?).join = some v := Option.some.inj e2'
        have e4 : σ[i0]? = some (some v) := by
          cases q : σ[i0]? with
          | none => rw [q] at e3'; cases e3'
          | some o => rw [q] at e3'; exact congrArg some e3'
        obtain ⟨m, hn, hl⟩ := I2.loc
        have vis : Vis X.env.scope y := .inr (S.capo y ymem)
        obtain ⟨u, r, lk⟩ := hl i0 y v ni e4 vis
        refine ⟨u, r, .inr ⟨lookup_relabel_free (env := X.env) (S.capf y ymem), ?_⟩⟩
        rcases lk with ⟨kl, _⟩ | ⟨_, c, ec, hcell⟩
        · rcases S.capo y ymem with z | z
          · have kl' : X.env.scope.names.lookup y = some .local := kl
            rw [z] at kl'; cases kl'
          · have kl' : X.env.scope.names.lookup y = some .local := kl
            rw [z] at kl'; cases kl'
        · have fm : (y, NameKind.free) ∈ scope.names := of_relabel (env := X.env) S.cell (lookup_relabel_free (env := X.env) (S.capf y ymem))
          obtain ⟨c', ec'⟩ := hc2 y fm
          have := hc1 y c' ec'
          rw [ec] at this
          cases this
          obtain ⟨o, ho, hd⟩ := hcell
          exact ⟨c, ec', o, old _ _ ho, hd⟩
    · obtain ⟨v, o, ho, hd⟩ := I2.cell y c (hc1 y c e)
      exact ⟨v, o, old _ _ ho, hd⟩
    · show (upd H2 s2.heap.objs.size (.lst [])) P2.objs.size = none
      rw [upd_ne (Ne.symm hDC)]
      exact I2.hok.fresh hCle
    · obtain ⟨v, o, ho, hd⟩ := I2.cell y c (hc1 y c e)
      rw [upd_ne (Nat.ne_of_lt (Heap.lt_size ho))]
      exact I2.freeC y c (hc1 y c e)
    · show (inStT kx cap σ).length = (xs ++ cn).length
      have := congrArg List.length S.cap
      simp only [List.length_map] at this
      simp [inStT, this, hkx]
  have stat : ∀ {H' : Hp}, (∀ b ∈ fp, H' b = none) → ∀ b ∈ fp, FpOk (cxComp X scope (xs ++ cn) cl P2.objs.size s2 H2 fp) [] H' b := fun hn b hb =>
    ⟨hn b hb, neC b (hlt b hb), ok'.exfs b hb, .inl hb, fun y c e => (ok'.exf b hb).2 y c e, fun p hp => (nomatch hp)⟩
  have loop : ∀ s₃ : Shared, s₃ = { s2 with heap := h₁, toks := s2.toks + ([] : List (Str × Value)).length } →
      codeAny (model X.prog X.w) X.A (.compLoop (.ListComp elt [⟨tg, iter, ifs, 0⟩] scope pos) 0 (.ref it) (.ref s2.heap.objs.size) (compEnvC scope cl P2.objs.size X.env))
        (compPost (model X.prog X.w) X.A X.xe (some (assign (.Name y py) X.env)) (fun _ s' => ∃ σ' H', Inv X pins σ' H' s' ∧ D.nx σ' H') (.ref s2.heap.objs.size) P2.objs.size) s₃ := by
    rintro s₃ rfl
    refine codeAny_loop rfl (fun n s' => ∃ i H', Inv (cxComp X scope (xs ++ cn) cl P2.objs.size s2 H2 fp) [] (inStT kx cap σ) H' s' ∧ tn i s'.heap ∧ (∀ b ∈ fp, H' b = none) ∧ W i n H') ?_ m0
      ⟨0, _, I4 _, T.keep _ _ _ st2 fun b hb o e => old b o e, fun b hb => by rw [upd_ne (Nat.ne_of_lt (hlt b hb))]; exact (f2 b hb).1, w0⟩
    rintro n s3 ⟨i, H3, I3, st3, fr3, w3⟩
    show wpAny _ X.A ((compTurn (.ListComp elt [⟨tg, iter, ifs, 0⟩] scope pos) 0 (.ref it) (.ref s2.heap.objs.size) (compEnvC scope cl P2.objs.size X.env)).onRaise (fun x => do noteFrame x (compEnvC scope cl P2.objs.size X.env); theTreesLotGoes x)) _ _ s3
    refine wpAny_noted ?_
    rw [compTurn_list]
    refine wpAny_bind (wpAny_standAt (wpAny_bind ?_))
    rcases turn i n H3 w3 with ⟨stop, qn⟩ | ⟨go, step⟩
    · refine wpAny_mono (T.done (cxComp X scope (xs ++ cn) cl P2.objs.size s2 H2 fp) rfl rfl rfl hc i [] s3 _ H3 (fun _ _ => False) I3 (stat fr3) st3 stop) (fun r s4 ⟨hr, I5⟩ => ?_) fun _ _ z => z.elim
      subst hr
      refine wpAny_pure ?_
      obtain ⟨m, hn, _⟩ := id I5.loc
      have J : Inv X pins σ H3 s4 := by
        have kp : ∀ b o, b ≠ P2.objs.size → s4.heap.get? b = some o → s4.heap.get? b = some o := fun b o hb e => e
        have b0 := I5.base
        have sm : ∀ b o, s2.heap.get? b = some o → b ≠ P2.objs.size := fun b o e => neC b (Heap.lt_size e)
        refine I2.call' (s' := s4) (ch := fp) I5.os ⟨fun b o e n hb hx => kp _ _ (sm b o e) (b0.keep b o e n hb hx), fun b o e n hb hx => ?_, b0.free, fun b o e hx => ?_, b0.tups, b0.frzs, b0.tbls⟩ (fun b u e => ?_) I5.bare
          fun b hb => ⟨(f2 b hb).2.2.2.1, (f2 b hb).2.1, (f2 b hb).2.2.2.2.1, (f2 b hb).2.2.2.2.2⟩
        · obtain ⟨sl, q⟩ := b0.slot b o e n hb hx
          exact ⟨sl, kp _ _ (sm b o e) q⟩
        · obtain ⟨o', q⟩ := b0.there b o e hx
          exact ⟨o', kp _ _ (sm b o e) q⟩
        · have hfree : H3 P2.objs.size = none := I5.free
          refine (I5.hok b u e).stay (fun c v hc' q => kp c v ?_ q) (fun _ q => q) fun _ _ q => q
          rcases hc' with z | z
          · rw [z]; exact ne_of_none e hfree
          · exact ne_of_none z hfree
      have fC : FpOk X pins H3 P2.objs.size := by
        have q := I2.fpOk hCle (I2.hok.fresh hCle)
        exact ⟨I5.free, q.2⟩
      refine wpAny_assign_Name (store_ok2 J hN hiy hxy (v := .ref s2.heap.objs.size) rfl (fun s5 I6 ⟨a, sb, ha⟩ => ?_) hfy)
      have nC : P2.objs.size ≠ a := by
        rcases ha with ha | ha
        · rw [ha]; exact fC.2.1
        · exact (fC.2.2.2.2.1 _ _ ha).symm
      obtain ⟨oC, esC, epC, hoC, rC⟩ := hn
      refine ⟨m, ⟨oC, esC, epC, sb.extBut _ _ nC hoC, rC⟩, fun h' hsb => ⟨_, H3, ?_, qn⟩⟩
      refine I6.turnedL (t' := s5.toks) (ch := [P2.objs.size]) (fun b o hb e => hsb.extBut b o (by simpa using hb) e) (fun b hb => ?_)
      cases List.mem_singleton.mp hb
      exact fC
    · refine wpAny_mono (T.item (cxComp X scope (xs ++ cn) cl P2.objs.size s2 H2 fp) rfl rfl rfl hc i [] s3 _ H3 (fun _ _ => False) I3 (stat fr3) st3 go) (fun r s4 ⟨u, hr, h4⟩ => ?_) fun _ _ z => z.elim
      subst hr
      refine wpAny_bind (wpAny_mono h4 (fun _ s5 ⟨xv, H5, I5, r5, y5, st5, fr5⟩ => ?_) fun _ _ z => z.elim)
      have I5' := I5.pinned (stat fr5) (T.obj _ _ st5)
      refine wpAny_bind (wpAny_mono (hg cl P2.objs.size s2 H2 fp _ s5 _ H5 xv u _ I5' r5 (step xv _ y5)) (fun _ s6 ⟨σ6, H6, I6, ks, q6⟩ => ?_) fun _ _ z => z.elim)
      have again : ∀ {s7 : Shared} {H7 : Hp}, Inv (cxComp X scope (xs ++ cn) cl P2.objs.size s2 H2 fp) ([] ++ pinsAt fp s5.heap) σ6 H7 s7 → (∃ m', m' < n ∧ W (i + 1) m' H7) →
          ∃ m, m < n ∧ ∃ i H', Inv (cxComp X scope (xs ++ cn) cl P2.objs.size s2 H2 fp) [] (inStT kx cap σ) H' s7 ∧ tn i s7.heap ∧ (∀ b ∈ fp, H' b = none) ∧ W i m H' := fun {s7 H7} I7 w7 => by
        obtain ⟨m', hm, w7⟩ := w7
        refine ⟨m', hm, i + 1, H7, I7.unpinned.weak ks.1 ks.2, T.keep _ _ _ st5 fun b hb o e => (I7.pin (b, o) (List.mem_append_right _ (List.mem_append_right _ (mem_pinsAt hb e)))).1, fun b hb => ?_, w7⟩
        · obtain ⟨o, e, d⟩ := T.obj _ _ st5 b hb
          exact (I7.pin (b, o) (List.mem_append_right _ (List.mem_append_right _ (mem_pinsAt hb e)))).2.1
      refine wpAny_bind (wpAny_mono (hin cl P2.objs.size s2 H2 fp _ s6 _ _ _ I6 q6) (fun ok s7 ⟨H7, I7, q7⟩ => ?_) fun _ _ z => z.elim)
      cases ok with
      | false =>
        have q7' : ∃ m', m' < n ∧ W (i + 1) m' H7 := by simpa using q7
        exact wpAny_pure ⟨rfl, again I7 q7'⟩
      | true =>
        have q7' := (if_pos rfl).mp q7
        refine wpAny_bind (wpAny_bind (wpAny_mono (he cl P2.objs.size s2 H2 fp _ s7 _ H7 _ I7 q7') (fun yv s8 ⟨y, H8, I8, r8, ys, h8, z8, q8⟩ => ?_) fun _ _ z => z.elim))
        refine wpAny_bind (wpAny_mono (mt_append (X := cxComp X scope (xs ++ cn) cl P2.objs.size s2 H2 fp) _ s8 _ H8 (.ref s2.heap.objs.size) [y] (.ref s2.heap.objs.size) [yv] (fun _ H9 => ∃ m', m' < n ∧ W (i + 1) m' H9) I8 rfl (.cons r8 .nil) ⟨_, ys, y, rfl, rfl, h8, z8, q8⟩) (fun _ s9 ⟨_, H9, I9, _, q9⟩ => ?_) fun _ _ z => z.elim)
        exact wpAny_pure (wpAny_pure ⟨rfl, again I9 q9⟩)
  exact codeAny_compStart_list (loop _ rfl) (T.self _ 0 _ _ _ (T.keep _ _ _ st2 fun b hb o e => old b o e) (loop _ rfl))
end
end L2
namespace Kl
open PySem L2
def top (i : Nat) : Stmt := PySem.Challenge.pw_ballastway_k07_roads_asked.main.body.getD i (.Pass ⟨0, 0, 0, 0⟩)
def kNames : List Str := ["Open", "Bridge", "Road"]
abbrev s_Open_init : Stmt := inClass (top 1) 0
theorem sc_Open_init : FnScope ["self", "length"] ["self", "length"] (defScope s_Open_init) := ⟨rfl, rfl, rfl, by decide +kernel, rfl, by decide +kernel, by decide +kernel⟩
abbrev s_Bridge_init : Stmt := inClass (top 2) 0
theorem sc_Bridge_init : FnScope ["self", "name", "length", "bears", "wide", "most"] ["self", "name", "length", "bears", "wide", "most"] (defScope s_Bridge_init) := ⟨rfl, rfl, rfl, by decide +kernel, rfl, by decide +kernel, by decide +kernel⟩
abbrev s_Road_init : Stmt := inClass (top 3) 0
theorem sc_Road_init : FnScope ["self", "pieces", "rounds", "shuts"] ["self", "pieces", "rounds", "shuts"] (defScope s_Road_init) := ⟨rfl, rfl, rfl, by decide +kernel, rfl, by decide +kernel, by decide +kernel⟩
abbrev s_bridges_of : Stmt := top 4
theorem sc_bridges_of : FnScope ["road"] ["road"] (defScope s_bridges_of) := ⟨rfl, rfl, rfl, by decide +kernel, rfl, by decide +kernel, by decide +kernel⟩
theorem cs_bridges_of_0 : CompC (defScope s_bridges_of) ["road"] ({ kind := PySem.ScopeKind.function, names := [ (PySem.Str.ofString ".0", PySem.NameKind.local), (PySem.Str.ofString "piece", PySem.NameKind.local), (PySem.Str.ofString "isinstance", PySem.NameKind.globalImplicit), (PySem.Str.ofString "Bridge", PySem.NameKind.globalImplicit)], isGenerator := false, isCoroutine := false, more := [] : PySem.Scope }) "piece" [] [] := ⟨rfl, by decide +kernel, by decide +kernel, by decide +kernel, by decide +kernel, by decide +kernel, by decide +kernel, by decide +kernel, by decide +kernel⟩
abbrev s_bridge_of : Stmt := top 5
theorem sc_bridge_of : FnScope ["road", "name"] ["road", "name"] (defScope s_bridge_of) := ⟨rfl, rfl, rfl, by decide +kernel, rfl, by decide +kernel, by decide +kernel⟩
theorem cs_bridge_of_0 : CompC (defScope s_bridge_of) ["road", "name"] ({ kind := PySem.ScopeKind.function, names := [ (PySem.Str.ofString ".0", PySem.NameKind.local), (PySem.Str.ofString "bridge", PySem.NameKind.local), (PySem.Str.ofString "name", PySem.NameKind.free)], isGenerator := false, isCoroutine := false, more := [] : PySem.Scope }) "bridge" ["name"] [1] := ⟨rfl, by decide +kernel, by decide +kernel, by decide +kernel, by decide +kernel, by decide +kernel, by decide +kernel, by decide +kernel, by decide +kernel⟩
abbrev s_round_of : Stmt := top 6
theorem sc_round_of : FnScope ["road", "name", "told"] ["road", "name"] (defScope s_round_of) := ⟨rfl, rfl, rfl, by decide +kernel, rfl, by decide +kernel, by decide +kernel⟩
abbrev s_shuts_of : Stmt := top 7
theorem sc_shuts_of : FnScope ["road", "name"] ["road", "name"] (defScope s_shuts_of) := ⟨rfl, rfl, rfl, by decide +kernel, rfl, by decide +kernel, by decide +kernel⟩
theorem cs_shuts_of_0 : CompC (defScope s_shuts_of) ["road", "name"] ({ kind := PySem.ScopeKind.function, names := [ (PySem.Str.ofString ".0", PySem.NameKind.local), (PySem.Str.ofString "told", PySem.NameKind.local), (PySem.Str.ofString "name", PySem.NameKind.free)], isGenerator := false, isCoroutine := false, more := [] : PySem.Scope }) "told" ["name"] [1] := ⟨rfl, by decide +kernel, by decide +kernel, by decide +kernel, by decide +kernel, by decide +kernel, by decide +kernel, by decide +kernel, by decide +kernel⟩
abbrev s_law_cell : Stmt := top 9
theorem sc_law_cell : FnScope ["_law_script", "_law_k"] ["_law_script", "_law_k"] (defScope s_law_cell) := ⟨rfl, rfl, rfl, by decide +kernel, rfl, by decide +kernel, by decide +kernel⟩
abbrev s_law_mix : Stmt := top 10
theorem sc_law_mix : FnScope ["_law_cell_here", "_law_one", "_law_prime", "_law_drawn"] ["_law_cell_here", "_law_one", "_law_prime"] (defScope s_law_mix) := ⟨rfl, rfl, rfl, by decide +kernel, rfl, by decide +kernel, by decide +kernel⟩
abbrev s_law_names : Stmt := top 11
theorem sc_law_names : FnScope ["_law_cell_here", "_law_letters", "_law_drawn", "_law_size", "_law_at", "_law_fill", "_law_found", "_law_k", "_law_sign"] ["_law_cell_here"] (defScope s_law_names) := ⟨rfl, rfl, rfl, by decide +kernel, rfl, by decide +kernel, by decide +kernel⟩
theorem cs_law_names_0 : CompC (defScope s_law_names) ["_law_cell_here", "_law_letters", "_law_drawn", "_law_size", "_law_at", "_law_fill", "_law_found", "_law_k", "_law_sign"] ({ kind := PySem.ScopeKind.function, names := [ (PySem.Str.ofString ".0", PySem.NameKind.local), (PySem.Str.ofString "_law_k", PySem.NameKind.local), (PySem.Str.ofString "_law_drawn", PySem.NameKind.free), (PySem.Str.ofString "_law_fill", PySem.NameKind.free)], isGenerator := false, isCoroutine := false, more := [] : PySem.Scope }) "_law_k" ["_law_drawn", "_law_fill"] [2, 5] := ⟨rfl, by decide +kernel, by decide +kernel, by decide +kernel, by decide +kernel, by decide +kernel, by decide +kernel, by decide +kernel, by decide +kernel⟩
abbrev s_law_long : Stmt := top 12
theorem sc_law_long : FnScope ["_law_cell_here", "_law_one", "_law_least", "_law_drawn"] ["_law_cell_here", "_law_one", "_law_least"] (defScope s_law_long) := ⟨rfl, rfl, rfl, by decide +kernel, rfl, by decide +kernel, by decide +kernel⟩
abbrev s_law_bridge : Stmt := top 13
theorem sc_law_bridge : FnScope ["_law_cell_here", "_law_name", "_law_drawn", "_law_bears", "_law_most", "_law_wide"] ["_law_cell_here", "_law_name"] (defScope s_law_bridge) := ⟨rfl, rfl, rfl, by decide +kernel, rfl, by decide +kernel, by decide +kernel⟩
abbrev s_law_parts : Stmt := top 14
theorem sc_law_parts : FnScope ["_law_script", "_law_cell_here", "_law_names_here", "_law_many", "_law_pieces_here", "_law_rounds", "_law_k", "_law_own", "_law_shuts", "_law_one", "_law_drawn", "_law_begin", "_law_end"] ["_law_script"] (defScope s_law_parts) := ⟨rfl, rfl, rfl, by decide +kernel, rfl, by decide +kernel, by decide +kernel⟩
abbrev s_law_pieces : Stmt := top 15
theorem sc_law_pieces : FnScope ["_law_pieces_here", "_law_found", "_law_piece"] ["_law_pieces_here"] (defScope s_law_pieces) := ⟨rfl, rfl, rfl, by decide +kernel, rfl, by decide +kernel, by decide +kernel⟩
abbrev s_law_alike : Stmt := top 16
theorem sc_law_alike : FnScope ["_law_found", "_law_due"] ["_law_found", "_law_due"] (defScope s_law_alike) := ⟨rfl, rfl, rfl, by decide +kernel, rfl, by decide +kernel, by decide +kernel⟩
theorem cs_law_alike_0 : CompCT (defScope s_law_alike) ["_law_found", "_law_due"] ({ kind := PySem.ScopeKind.function, names := [ (PySem.Str.ofString ".0", PySem.NameKind.local), (PySem.Str.ofString "_law_one", PySem.NameKind.local), (PySem.Str.ofString "_law_other", PySem.NameKind.local), (PySem.Str.ofString "_law_same", PySem.NameKind.globalImplicit)], isGenerator := false, isCoroutine := false, more := [] : PySem.Scope }) ["_law_one", "_law_other"] [] [] := ⟨rfl, by decide +kernel, by decide +kernel, by decide +kernel, by decide +kernel, by decide +kernel, by decide +kernel, by decide +kernel, by decide +kernel⟩
abbrev s_law_same : Stmt := top 17
theorem sc_law_same : FnScope ["_law_found", "_law_due"] ["_law_found", "_law_due"] (defScope s_law_same) := ⟨rfl, rfl, rfl, by decide +kernel, rfl, by decide +kernel, by decide +kernel⟩
abbrev s_law_told : Stmt := top 18
theorem sc_law_told : FnScope ["_law_piece"] ["_law_piece"] (defScope s_law_told) := ⟨rfl, rfl, rfl, by decide +kernel, rfl, by decide +kernel, by decide +kernel⟩
abbrev s_law_road_is : Stmt := top 19
theorem sc_law_road_is : FnScope ["_law_road", "_law_pieces_here", "_law_rounds", "_law_shuts"] ["_law_road", "_law_pieces_here", "_law_rounds", "_law_shuts"] (defScope s_law_road_is) := ⟨rfl, rfl, rfl, by decide +kernel, rfl, by decide +kernel, by decide +kernel⟩
theorem cs_law_road_is_0 : CompC (defScope s_law_road_is) ["_law_road", "_law_pieces_here", "_law_rounds", "_law_shuts"] ({ kind := PySem.ScopeKind.function, names := [ (PySem.Str.ofString ".0", PySem.NameKind.local), (PySem.Str.ofString "_law_piece", PySem.NameKind.local), (PySem.Str.ofString "_law_told", PySem.NameKind.globalImplicit)], isGenerator := false, isCoroutine := false, more := [] : PySem.Scope }) "_law_piece" [] [] := ⟨rfl, by decide +kernel, by decide +kernel, by decide +kernel, by decide +kernel, by decide +kernel, by decide +kernel, by decide +kernel, by decide +kernel⟩
abbrev s_law_asked : Stmt := top 20
theorem sc_law_asked : FnScope ["_law_road", "_law_pieces_here", "_law_rounds", "_law_shuts", "_law_due", "_law_found", "_law_piece", "_law_far", "_law_hours"] ["_law_road", "_law_pieces_here", "_law_rounds", "_law_shuts"] (defScope s_law_asked) := ⟨rfl, rfl, rfl, by decide +kernel, rfl, by decide +kernel, by decide +kernel⟩
theorem cs_law_asked_0 : CompC (defScope s_law_asked) ["_law_road", "_law_pieces_here", "_law_rounds", "_law_shuts", "_law_due", "_law_found", "_law_piece", "_law_far", "_law_hours"] ({ kind := PySem.ScopeKind.function, names := [(PySem.Str.ofString ".0", PySem.NameKind.local), (PySem.Str.ofString "_law_piece", PySem.NameKind.local)], isGenerator := false, isCoroutine := false, more := [] : PySem.Scope }) "_law_piece" [] [] := ⟨rfl, by decide +kernel, by decide +kernel, by decide +kernel, by decide +kernel, by decide +kernel, by decide +kernel, by decide +kernel, by decide +kernel⟩
theorem cs_law_asked_1 : CompC (defScope s_law_asked) ["_law_road", "_law_pieces_here", "_law_rounds", "_law_shuts", "_law_due", "_law_found", "_law_piece", "_law_far", "_law_hours"] ({ kind := PySem.ScopeKind.function, names := [ (PySem.Str.ofString ".0", PySem.NameKind.local), (PySem.Str.ofString "_law_piece", PySem.NameKind.local), (PySem.Str.ofString "_law_told", PySem.NameKind.globalImplicit)], isGenerator := false, isCoroutine := false, more := [] : PySem.Scope }) "_law_piece" [] [] := ⟨rfl, by decide +kernel, by decide +kernel, by decide +kernel, by decide +kernel, by decide +kernel, by decide +kernel, by decide +kernel, by decide +kernel⟩
theorem cs_law_asked_2 : CompC (defScope s_law_asked) ["_law_road", "_law_pieces_here", "_law_rounds", "_law_shuts", "_law_due", "_law_found", "_law_piece", "_law_far", "_law_hours"] ({ kind := PySem.ScopeKind.function, names := [ (PySem.Str.ofString ".0", PySem.NameKind.local), (PySem.Str.ofString "_law_told_here", PySem.NameKind.local), (PySem.Str.ofString "_law_piece", PySem.NameKind.free)], isGenerator := false, isCoroutine := false, more := [] : PySem.Scope }) "_law_told_here" ["_law_piece"] [6] := ⟨rfl, by decide +kernel, by decide +kernel, by decide +kernel, by decide +kernel, by decide +kernel, by decide +kernel, by decide +kernel, by decide +kernel⟩
theorem cs_law_asked_3 : CompC (defScope s_law_asked) ["_law_road", "_law_pieces_here", "_law_rounds", "_law_shuts", "_law_due", "_law_found", "_law_piece", "_law_far", "_law_hours"] ({ kind := PySem.ScopeKind.function, names := [ (PySem.Str.ofString ".0", PySem.NameKind.local), (PySem.Str.ofString "_law_told_here", PySem.NameKind.local), (PySem.Str.ofString "_law_piece", PySem.NameKind.free)], isGenerator := false, isCoroutine := false, more := [] : PySem.Scope }) "_law_told_here" ["_law_piece"] [6] := ⟨rfl, by decide +kernel, by decide +kernel, by decide +kernel, by decide +kernel, by decide +kernel, by decide +kernel, by decide +kernel, by decide +kernel⟩
abbrev s_law : Stmt := top 21
theorem sc_law : FnScope ["_law_script", "_law_names_here", "_law_pieces_here", "_law_rounds", "_law_shuts", "_law_handed", "_law_road", "_law_turn"] ["_law_script"] (defScope s_law) := ⟨rfl, rfl, rfl, by decide +kernel, rfl, by decide +kernel, by decide +kernel⟩
theorem same_new {H : Hp} {p : Addr} (h : H p = none) (o : HO) : Same H (upd H p o) := fun b u q => by rw [upd_ne (ne_of_none q h)]; exact q
/-! data in the heap, and the law's own sameness -/
mutual
inductive HD (H : Hp) : Nat → V → PyData → Prop where
  | non {n : Nat} : HD H n .non .none
  | bl {n : Nat} (b : Bool) : HD H n (.bl b) (.bool b)
  | int {n : Nat} (i : Int) : HD H n (.int i) (.int i)
  | str {n : Nat} (x : Str) : HD H n (.str x) (.str x)
  | lst {n : Nat} {a : Addr} {xs : List V} {ds : List PyData} : H a = some (.lst xs) → xs.length ≤ 1000 → HDs H n xs ds → HD H (n + 1) (.ref a) (.list ds)
  | tup {n : Nat} {a : Addr} {xs : List V} {ds : List PyData} : H a = some (.tup xs) → xs.length ≤ 1000 → HDs H n xs ds → HD H (n + 1) (.ref a) (.tuple ds)
inductive HDs (H : Hp) : Nat → List V → List PyData → Prop where
  | nil {n : Nat} : HDs H n [] []
  | cons {n : Nat} {x : V} {xs : List V} {d : PyData} {ds : List PyData} : HD H n x d → HDs H n xs ds → HDs H n (x :: xs) (d :: ds)
end
mutual
theorem HD.mono {H H' : Hp} (S : Same H H') : ∀ {n : Nat} {x : V} {d : PyData}, HD H n x d → HD H' n x d
  | _, _, _, .non => .non
  | _, _, _, .bl b => .bl b
  | _, _, _, .int i => .int i
  | _, _, _, .str x => .str x
  | _, _, _, .lst e l h => .lst (S _ _ e) l (HDs.mono S h)
  | _, _, _, .tup e l h => .tup (S _ _ e) l (HDs.mono S h)
theorem HDs.mono {H H' : Hp} (S : Same H H') : ∀ {n : Nat} {xs : List V} {ds : List PyData}, HDs H n xs ds → HDs H' n xs ds
  | _, _, _, .nil => .nil
  | _, _, _, .cons h t => .cons (HD.mono S h) (HDs.mono S t)
end
theorem HDs.length {H : Hp} {n : Nat} : ∀ {xs : List V} {ds : List PyData}, HDs H n xs ds → xs.length = ds.length
  | _, _, .nil => rfl
  | _, _, .cons _ t => congrArg (· + 1) t.length
theorem HDs.get {H : Hp} {n : Nat} : ∀ {xs : List V} {ds : List PyData} {i : Nat} {x : V}, HDs H n xs ds → xs[i]? = some x → ∃ d, ds[i]? = some d ∧ HD H n x d
  | _, _, 0, _, .cons (d := d) h _, e => by cases e; exact ⟨d, rfl, h⟩
  | _, _, i + 1, _, .cons _ t, e => t.get (i := i) e
  | _, _, _, _, .nil, e => by simp at e
theorem keep2 {a b : V} {cap : List Nat} {σ : St} : KeepS (inStT 2 cap σ) (((inStT 2 cap σ).set 0 (some a)).set 1 (some b)) := by
  refine ⟨by simp, fun j v e => ?_⟩
  have e' : (none :: none :: cap.map fun i => (σ[i]?).join)[j]? = some (some v) := e
  show (some a :: some b :: cap.map fun i => (σ[i]?).join)[j]? = some (some v)
  match j, e' with
  | 0, e => cases Option.some.inj e
  | 1, e => cases Option.some.inj e
  | j + 2, e => exact e
/-- a comprehension all of whose items are True -/
theorem comp_trues {J : It} {kx : Nat} {g : TG} {te : TE} {cap : List Nat} {σ : St} {Q : VK} {H1 : Hp} (n : Nat) (hz : n < sizeLine) (hgo : ∀ i H, Same H1 H → i < n → J.go i H) (hst : ∀ H, Same H1 H → J.stop n H)
    (hs : ∀ i H x H' (K : VK), Same H1 H → i < n → J.yld i H x H' → (∀ H4, Same H H4 → K (.bl true) H4) → g x (inStT kx cap σ) H' fun σ2 H2 => KeepS (inStT kx cap σ) σ2 ∧ te σ2 H2 K)
    (hq : ∀ acc H, Same H1 H → H acc = some (.lst (List.replicate n (.bl true))) → Q (.ref acc) H) : compBodyT J kx g tYes te cap σ Q H1 := by
  intro acc ha
  refine ⟨fun i m H => m = n - i ∧ i ≤ n ∧ Same H1 H ∧ H acc = some (.lst (List.replicate i (.bl true))), ⟨_, rfl, Nat.zero_le _, same_new ha _, upd_same⟩, ?_⟩
  rintro i m H ⟨rfl, hi, S, e⟩
  by_cases hlt : i < n
  · refine .inr ⟨hgo i H S hlt, fun x H' y => ?_⟩
    refine hs i H x H' _ S hlt y fun H4 S4 => ?_
    refine ⟨_, S4 _ _ e, by rw [List.length_replicate]; omega, n - (i + 1), by omega, rfl, hlt, ?_, ?_⟩
    · intro b o eb
      rw [upd_ne (ne_of_none eb ha)]
      exact S4 _ _ (S _ _ eb)
    · rw [upd_same, List.replicate_succ']
  · have : i = n := by omega
    subst this
    exact .inl ⟨hst H S, hq acc H S e⟩
theorem all_trues (n : Nat) : (List.replicate n true).all id = true := by
  rw [List.all_eq_true]
  intro b hb
  rw [(List.mem_replicate.mp hb).2]
  rfl
theorem kit_tt {K : PySem.W.Frag} {A B : String} {b : Bool} (hn : (Value.type A == Value.type B) = false := by decide +kernel) (h1 : PySem.W.kitMeta B = true := by decide +kernel) (h2 : ((fastBuiltinMro A).map (·.contains (Value.type B))) = some b := by decide +kernel) : PySem.W.kitOne K (.type A) (.type B) = some b := by
  show (if (Value.type A == Value.type B) = true then some true else if PySem.W.kitMeta B = true then PySem.W.subIn K (.type A) (.type B) else none) = some b
  rw [hn, if_neg Bool.false_ne_true, if_pos h1]
  exact h2
theorem kit_lt {K : PySem.W.Frag} : PySem.W.kitAny K (.type "list") (["list", "tuple"].map .type) = some true := rfl
theorem kit_tl {K : PySem.W.Frag} : PySem.W.kitAny K (.type "tuple") (["list", "tuple"].map .type) = some true := by
  have e : PySem.W.kitOne K (.type "tuple") (.type "list") = some false := kit_tt
  show (match PySem.W.kitOne K (.type "tuple") (.type "list") with | some true => some true | some false => PySem.W.kitAny K (.type "tuple") [.type "tuple"] | none => none) = _
  rw [e]
  rfl
theorem kit_no {K : PySem.W.Frag} {A : String} (h1 : PySem.W.kitOne K (.type A) (.type "list") = some false) (h2 : PySem.W.kitOne K (.type A) (.type "tuple") = some false) : PySem.W.kitAny K (.type A) (["list", "tuple"].map .type) = some false := by
  show (match PySem.W.kitOne K (.type A) (.type "list") with | some true => some true | some false => PySem.W.kitAny K (.type A) [.type "tuple"] | none => none) = _
  rw [h1]
  show (match PySem.W.kitOne K (.type A) (.type "tuple") with | some true => some true | some false => PySem.W.kitAny K (.type A) [] | none => none) = _
  rw [h2]
  rfl
def sp_same (D : Nat) : Sp := fun vs H Q _ => ∃ x y d, vs = [x, y] ∧ HD H D x d ∧ HD H D y d ∧ ∀ H', Same H H' → Q (.bl true) H'
def sp_alike (D : Nat) : Sp := fun vs H Q _ => ∃ (x y : V) (d : PyData), vs = [x, y] ∧ HD H D x d ∧ HD H D y d ∧ (∃ ds, d = .list ds ∨ d = .tuple ds) ∧ ∀ H', Same H H' → Q (.bl true) H'
abbrev sp_law_same (_ : PySem.W.Frag) : Sp := sp_same 6
abbrev sp_law_alike (_ : PySem.W.Frag) : Sp := sp_alike 6
section
variable {P : Program} {w : World} {K : PySem.W.Frag} {mg : Str → Option Value} {base : Heap}
/-- 0 _law_found 1 _law_due -/
theorem ok_same (D : Nat) {f : Addr} {fd : FuncData} (F : Fun K "_law_same" "_law_same" s_law_same f fd) (g_law_alike : Got P w K mg base (2 * D + 1) "_law_alike" ["_law_found", "_law_due"] (sp_alike D))
    (z_bool : mg "bool" = none) (z_int : mg "int" = none) (z_isinstance : mg "isinstance" = none) (z_list : mg "list" = none) (z_str : mg "str" = none) (z_tuple : mg "tuple" = none) :
    FnOk P w K mg base CX0 (2 * D + 1 + 1) f fd ["_law_found", "_law_due"] (sp_same D) := by
  refine F.ok sc_law_same (fun vs H Q E h => ?_) (fun cdv A outer s H vs Q E hr h => ?_)
  · obtain ⟨x, y, d, rfl, _⟩ := h
    rfl
  obtain ⟨x, y, d, rfl, hx, hy, k⟩ := h
  have hu := hr.units
  refine ⟨_, (pss_cons (ps_if (pt_cmpR op_isN (pv 1) pe_non (nomark _)) (pss_one (ps_ret (pe_cmpR op_isN (pv 0) pe_non (nomark _)))) pss_nil)
      (pss_cons (ps_if (pt_val (pe_callB call_isA rfl z_isinstance b_isinstance (pa_cons (pv 1) (pa_cons (pe_tup (pa_cons (pe_bltn (v := .ty "list") rfl z_list b_list rfl) (pa_cons (pe_bltn (v := .ty "tuple") rfl z_tuple b_tuple rfl) pa_nil))) pa_nil)))) (pss_one (ps_ret (pe_and (pe_callB call_isA rfl z_isinstance b_isinstance (pa_cons (pv 0) (pa_cons (pe_tup (pa_cons (pe_bltn (v := .ty "list") rfl z_list b_list rfl) (pa_cons (pe_bltn (v := .ty "tuple") rfl z_tuple b_tuple rfl) pa_nil))) pa_nil))) (pe_one (pe_go g_law_alike hr (by first | decide | omega) rfl (pa_cons (pv 0) (pa_cons (pv 1) pa_nil))))))) pss_nil)
      (pss_cons (ps_if (pt_val (pe_callB call_isT rfl z_isinstance b_isinstance (pa_cons (pv 1) (pa_cons (pe_bltn (v := .ty "str") rfl z_str b_str rfl) pa_nil)))) (pss_one (ps_ret (pe_and (pe_callB call_isT rfl z_isinstance b_isinstance (pa_cons (pv 0) (pa_cons (pe_bltn (v := .ty "str") rfl z_str b_str rfl) pa_nil))) (pe_one (pe_cmpR (op_eqG hu) (pv 0) (pv 1) (nomark _)))))) pss_nil)
      (pss_one (ps_ret (pe_and (pe_callB call_isT rfl z_isinstance b_isinstance (pa_cons (pv 0) (pa_cons (pe_bltn (v := .ty "int") rfl z_int b_int rfl) pa_nil))) (pe_and (pe_cmpR (op_eqG hu) (pe_callB call_isT rfl z_isinstance b_isinstance (pa_cons (pv 0) (pa_cons (pe_bltn (v := .ty "bool") rfl z_bool b_bool rfl) pa_nil))) (pe_callB call_isT rfl z_isinstance b_isinstance (pa_cons (pv 1) (pa_cons (pe_bltn (v := .ty "bool") rfl z_bool b_bool rfl) pa_nil))) (nomark _)) (pe_one (pe_cmpR (op_eqG hu) (pv 0) (pv 1) (nomark _)))))))))), ?_⟩
  cases hy with
  | non =>
    cases hx
    exact ⟨_, rfl, rfl, _, rfl, iteT ⟨_, rfl, rfl, k H (Same.refl _)⟩⟩
  | bl b =>
    cases hx
    refine ⟨_, rfl, rfl, _, rfl, iteF ?_⟩
    refine ⟨_, rfl, (by show 2 ≤ sizeLine; decide), fun p hp => ⟨_, p, ["list", "tuple"], _, _, rfl, upd_same, .bl b, kit_no kit_tt kit_tt, _, rfl, iteF ?_⟩⟩
    refine ⟨_, rfl, _, _, _, _, rfl, .bl b, kit_tt, _, rfl, iteF ?_⟩
    refine ⟨_, rfl, _, _, _, _, rfl, .bl b, kit_tt, _, rfl, iteT ?_⟩
    refine ⟨_, rfl, _, _, _, _, rfl, .bl b, kit_bool_bool, _, rfl, _, _, _, _, rfl, .bl b, kit_bool_bool, .inr (.inr (.inl ⟨rfl, _, rfl, iteT ?_⟩))⟩
    refine ⟨_, rfl, _, rfl, .inr (.inr (.inl ⟨rfl, ?_⟩))⟩
    rw [decide_eq_true rfl]
    exact k _ (same_new hp _)
  | int i =>
    cases hx
    refine ⟨_, rfl, rfl, _, rfl, iteF ?_⟩
    refine ⟨_, rfl, (by show 2 ≤ sizeLine; decide), fun p hp => ⟨_, p, ["list", "tuple"], _, _, rfl, upd_same, .int i, kit_no kit_tt kit_tt, _, rfl, iteF ?_⟩⟩
    refine ⟨_, rfl, _, _, _, _, rfl, .int i, kit_tt, _, rfl, iteF ?_⟩
    refine ⟨_, rfl, _, _, _, _, rfl, .int i, kit_int_int, _, rfl, iteT ?_⟩
    refine ⟨_, rfl, _, _, _, _, rfl, .int i, kit_int_bool, _, rfl, _, _, _, _, rfl, .int i, kit_int_bool, .inr (.inr (.inl ⟨rfl, _, rfl, iteT ?_⟩))⟩
    refine ⟨_, rfl, _, rfl, .inl ⟨_, _, rfl, rfl, ?_⟩⟩
    dsimp only
    rw [decide_eq_true rfl]
    exact k _ (same_new hp _)
  | str z =>
    cases hx
    refine ⟨_, rfl, rfl, _, rfl, iteF ?_⟩
    refine ⟨_, rfl, (by show 2 ≤ sizeLine; decide), fun p hp => ⟨_, p, ["list", "tuple"], _, _, rfl, upd_same, .str z, kit_no kit_tt kit_tt, _, rfl, iteF ?_⟩⟩
    refine ⟨_, rfl, _, _, _, _, rfl, .str z, kit_str_str, _, rfl, iteT ?_⟩
    refine ⟨_, rfl, _, _, _, _, rfl, .str z, kit_str_str, _, rfl, iteT ?_⟩
    refine ⟨_, rfl, _, rfl, .inr (.inr (.inl ⟨rfl, ?_⟩))⟩
    rw [decide_eq_true rfl]
    exact k _ (same_new hp _)
  | lst e l q =>
    cases hx with
    | lst e2 l2 q2 =>
      refine ⟨_, rfl, rfl, _, rfl, iteF ?_⟩
      refine ⟨_, rfl, (by show 2 ≤ sizeLine; decide), fun p hp => ⟨_, p, ["list", "tuple"], _, _, rfl, upd_same, .lst ((same_new hp _) _ _ e), kit_lt, _, rfl, iteT ?_⟩⟩
      refine ⟨_, rfl, (by show 2 ≤ sizeLine; decide), fun p2 hp2 => ⟨_, p2, ["list", "tuple"], _, _, rfl, upd_same, .lst ((same_new hp2 _) _ _ ((same_new hp _) _ _ e2)), kit_lt, _, rfl, iteT ?_⟩⟩
      have S := (same_new hp (.tup [.ty "list", .ty "tuple"])).trans (same_new hp2 (.tup [.ty "list", .ty "tuple"]))
      exact ⟨_, rfl, _, rfl, _, _, _, rfl, (HD.lst e2 l2 q2).mono S, (HD.lst e l q).mono S, ⟨_, .inl rfl⟩, fun H' S' => k H' (S.trans S')⟩
  | tup e l q =>
    cases hx with
    | tup e2 l2 q2 =>
      refine ⟨_, rfl, rfl, _, rfl, iteF ?_⟩
      refine ⟨_, rfl, (by show 2 ≤ sizeLine; decide), fun p hp => ⟨_, p, ["list", "tuple"], _, _, rfl, upd_same, .tup ((same_new hp _) _ _ e), kit_tl, _, rfl, iteT ?_⟩⟩
      refine ⟨_, rfl, (by show 2 ≤ sizeLine; decide), fun p2 hp2 => ⟨_, p2, ["list", "tuple"], _, _, rfl, upd_same, .tup ((same_new hp2 _) _ _ ((same_new hp _) _ _ e2)), kit_tl, _, rfl, iteT ?_⟩⟩
      have S := (same_new hp (.tup [.ty "list", .ty "tuple"])).trans (same_new hp2 (.tup [.ty "list", .ty "tuple"]))
      exact ⟨_, rfl, _, rfl, _, _, _, rfl, (HD.tup e2 l2 q2).mono S, (HD.tup e l q).mono S, ⟨_, .inr rfl⟩, fun H' S' => k H' (S.trans S')⟩
/-- 0 _law_found 1 _law_due -/
theorem ok_alike (D : Nat) {f : Addr} {fd : FuncData} (F : Fun K "_law_alike" "_law_alike" s_law_alike f fd) (g_law_same : Got P w K mg base (2 * D + 1 + 1) "_law_same" ["_law_found", "_law_due"] (sp_same D))
    (z_all : mg "all" = none) (z_isinstance : mg "isinstance" = none) (z_len : mg "len" = none) (z_list : mg "list" = none) (z_tuple : mg "tuple" = none) (z_zip : mg "zip" = none) :
    FnOk P w K mg base CX0 (2 * D + 2 + 1) f fd ["_law_found", "_law_due"] (sp_alike (D + 1)) := by
  refine F.ok sc_law_alike (fun vs H Q E h => ?_) (fun cdv A outer s H vs Q E hr h => ?_)
  · obtain ⟨x, y, d, rfl, _⟩ := h
    rfl
  obtain ⟨x, y, d, rfl, hx, hy, hd, k⟩ := h
  have hu := hr.units
  refine ⟨_, (pss_cons (ps_if (PW.pt (pw_and (pt_val (pe_callB call_isT rfl z_isinstance b_isinstance (pa_cons (pv 1) (pa_cons (pe_bltn (v := .ty "list") rfl z_list b_list rfl) pa_nil)))) (pw_and1 (pt_not (pt_val (pe_callB call_isT rfl z_isinstance b_isinstance (pa_cons (pv 0) (pa_cons (pe_bltn (v := .ty "list") rfl z_list b_list rfl) pa_nil)))))))) (pss_one (ps_ret pe_bl)) pss_nil)
      (pss_cons (ps_if (PW.pt (pw_and (pt_val (pe_callB call_isT rfl z_isinstance b_isinstance (pa_cons (pv 1) (pa_cons (pe_bltn (v := .ty "tuple") rfl z_tuple b_tuple rfl) pa_nil)))) (pw_and1 (pt_not (pt_val (pe_callB call_isT rfl z_isinstance b_isinstance (pa_cons (pv 0) (pa_cons (pe_bltn (v := .ty "tuple") rfl z_tuple b_tuple rfl) pa_nil)))))))) (pss_one (ps_ret pe_bl)) pss_nil)
      (pss_cons (ps_if (pt_cmpR (op_neG hu) (pe_callB lenG rfl z_len b_len (pa_cons (pv 0) pa_nil)) (pe_callB lenG rfl z_len b_len (pa_cons (pv 1) pa_nil)) (nomark _)) (pss_one (ps_ret pe_bl)) pss_nil)
      (pss_one (ps_ret (pe_callB (call_all_list rfl) rfl z_all b_all (pa_cons (pe_compT [] [] (CompCT.to cs_law_alike_0 rfl rfl) rfl rfl (fun _ _ _ _ _ => (pg_tupK (K := K) (n := 2) rfl rfl (pgs_cons (pg_comp (CompCT.to cs_law_alike_0 rfl rfl) 0 rfl (by decide)) (pgs_cons (pg_comp (CompCT.to cs_law_alike_0 rfl rfl) 1 rfl (by decide)) pgs_nil)))) (pi_or (pi_zip rfl z_zip (pa_cons (pv 0) (pa_cons (pv 1) pa_nil))) (pi_zipT rfl z_zip (pa_cons (pv 0) (pa_cons (pv 1) pa_nil)))) (fun _ _ _ _ _ => pif_nil) (fun _ _ _ _ _ => (pe_go g_law_same (by exact hr) (by first | decide | omega) rfl (pa_cons (pv 0) (pa_cons (pv 1) pa_nil))))) pa_nil))))))), ?_⟩
  cases hy with
  | non => obtain ⟨_, hd | hd⟩ := hd <;> cases hd
  | bl b => obtain ⟨_, hd | hd⟩ := hd <;> cases hd
  | int i => obtain ⟨_, hd | hd⟩ := hd <;> cases hd
  | str z => obtain ⟨_, hd | hd⟩ := hd <;> cases hd
  | lst e l q =>
    cases hx with
    | @lst _ a2 xs2 _ e2 l2 q2 =>
      rename_i a xs ds
      have hl : xs2.length = xs.length := q2.length.trans q.length.symm
      refine ⟨_, rfl, _, _, _, _, rfl, .lst e, kit_list_list, _, rfl, iteT ?_⟩
      refine ⟨_, rfl, _, _, _, _, rfl, .lst e2, kit_list_list, _, rfl, iteF ?_⟩
      refine ⟨_, rfl, _, _, _, _, rfl, .lst e, kit_tt (b := false), _, rfl, iteF ?_⟩
      refine iteF ?_
      refine ⟨_, rfl, .inl ⟨a2, _, rfl, .inl (SqL.of e2), _, rfl, .inl ⟨a, _, rfl, .inl (SqL.of e), .inl ⟨_, _, rfl, rfl, _, rfl, ?_⟩⟩⟩⟩
      refine iteNS (by rw [hl]) ?_
      refine .inl ⟨_, rfl, _, rfl, a2, a, xs2, xs, rfl, SqL.of e2, SqL.of e, ?_⟩
      refine comp_trues xs.length (small1000 l) (fun i H' S hi => ⟨xs2, xs, SqL.of (S _ _ e2), SqL.of (S _ _ e), by omega, hi⟩) (fun H' S => ⟨xs2, xs, SqL.of (S _ _ e2), SqL.of (S _ _ e), .inr (Nat.le_refl _)⟩) (fun i H' x H'' K' S hi yl kk => ?_) (fun acc H' S ea => ?_)
      · obtain ⟨T, u, v, hT, rfl, rfl, y1, y2⟩ := yl
        refine ⟨T, _, rfl, SqT.of upd_same, rfl, u, _, rfl, v, _, rfl, rfl, keep2, ?_⟩
        obtain ⟨d1, f1, g1⟩ := q2.get (y1 _ (SqL.of (S _ _ e2)))
        obtain ⟨d2, f2, g2⟩ := q.get (y2 _ (SqL.of (S _ _ e)))
        rw [f1] at f2
        cases f2
        have S2 := S.trans (same_new hT (.tup [u, v]))
        exact ⟨_, rfl, _, rfl, u, v, d1, rfl, g1.mono S2, g2.mono S2, fun H4 S4 => kk H4 ((same_new hT _).trans S4)⟩
      · refine ⟨acc, List.replicate xs.length true, rfl, SqL.of (by rw [List.map_replicate]; exact ea), ?_⟩
        rw [all_trues]
        exact k H' S
  | tup e l q =>
    cases hx with
    | @tup _ a2 xs2 _ e2 l2 q2 =>
      rename_i a xs ds
      have hl : xs2.length = xs.length := q2.length.trans q.length.symm
      refine ⟨_, rfl, _, _, _, _, rfl, .tup e, kit_tt (b := false), _, rfl, iteF ?_⟩
      refine iteF ?_
      refine ⟨_, rfl, _, _, _, _, rfl, .tup e, kit_tup_tup, _, rfl, iteT ?_⟩
      refine ⟨_, rfl, _, _, _, _, rfl, .tup e2, kit_tup_tup, _, rfl, iteF ?_⟩
      refine ⟨_, rfl, .inl ⟨a2, _, rfl, .inr (SqT.of e2), _, rfl, .inl ⟨a, _, rfl, .inr (SqT.of e), .inl ⟨_, _, rfl, rfl, _, rfl, ?_⟩⟩⟩⟩
      refine iteNS (by rw [hl]) ?_
      refine .inr ⟨_, rfl, _, rfl, a2, a, xs2, xs, rfl, SqT.of e2, SqT.of e, ?_⟩
      refine comp_trues xs.length (small1000 l) (fun i H' S hi => ⟨xs2, xs, SqT.of (S _ _ e2), SqT.of (S _ _ e), by omega, hi⟩) (fun H' S => ⟨xs2, xs, SqT.of (S _ _ e2), SqT.of (S _ _ e), by omega⟩) (fun i H' x H'' K' S hi yl kk => ?_) (fun acc H' S ea => ?_)
      · obtain ⟨T, u, v, hT, rfl, rfl, y1, y2⟩ := yl
        refine ⟨T, _, rfl, SqT.of upd_same, rfl, u, _, rfl, v, _, rfl, rfl, keep2, ?_⟩
        obtain ⟨d1, f1, g1⟩ := q2.get (y1 _ (SqT.of (S _ _ e2)))
        obtain ⟨d2, f2, g2⟩ := q.get (y2 _ (SqT.of (S _ _ e)))
        rw [f1] at f2
        cases f2
        have S2 := S.trans (same_new hT (.tup [u, v]))
        exact ⟨_, rfl, _, rfl, u, v, d1, rfl, g1.mono S2, g2.mono S2, fun H4 S4 => kk H4 ((same_new hT _).trans S4)⟩
      · refine ⟨acc, List.replicate xs.length true, rfl, SqL.of (by rw [List.map_replicate]; exact ea), ?_⟩
        rw [all_trues]
        exact k H' S
theorem ok_alike0 {f : Addr} {fd : FuncData} (F : Fun K "_law_alike" "_law_alike" s_law_alike f fd) : FnOk P w K mg base CX0 (0 + 1) f fd ["_law_found", "_law_due"] (sp_alike 0) := by
  refine F.ok sc_law_alike (fun vs H Q E h => ?_) (fun cdv A outer s H vs Q E hr h => ?_)
  · obtain ⟨x, y, d, rfl, _⟩ := h
    rfl
  obtain ⟨x, y, d, rfl, hx, hy, ⟨_, hd | hd⟩, k⟩ := h
  · subst hd; cases hx
  · subst hd; cases hx
theorem same_all {f1 f2 : Addr} {fd1 fd2 : FuncData} (F1 : Fun K "_law_alike" "_law_alike" s_law_alike f1 fd1) (F2 : Fun K "_law_same" "_law_same" s_law_same f2 fd2) (b1 : Binds K fd1 ["_law_found", "_law_due"] []) (b2 : Binds K fd2 ["_law_found", "_law_due"] [])
    (k1 : PySem.W.keepIn K (.ref f1) = true) (k2 : PySem.W.keepIn K (.ref f2) = true) (m1 : mg "_law_alike" = some (.ref f1)) (m2 : mg "_law_same" = some (.ref f2))
    (z_all : mg "all" = none) (z_bool : mg "bool" = none) (z_int : mg "int" = none) (z_isinstance : mg "isinstance" = none) (z_len : mg "len" = none) (z_list : mg "list" = none) (z_str : mg "str" = none) (z_tuple : mg "tuple" = none) (z_zip : mg "zip" = none) :
    ∀ D : Nat, Got P w K mg base (2 * D + 1) "_law_alike" ["_law_found", "_law_due"] (sp_alike D) ∧ Got P w K mg base (2 * D + 2) "_law_same" ["_law_found", "_law_due"] (sp_same D)
  | 0 =>
    have g : Got P w K mg base (2 * 0 + 1) "_law_alike" ["_law_found", "_law_due"] (sp_alike 0) := ⟨⟨_, _, ok_alike0 F1, b1, k1, m1⟩⟩
    ⟨g, ⟨⟨_, _, ok_same 0 F2 g z_bool z_int z_isinstance z_list z_str z_tuple, b2, k2, m2⟩⟩⟩
  | D + 1 =>
    have ih := same_all F1 F2 b1 b2 k1 k2 m1 m2 z_all z_bool z_int z_isinstance z_len z_list z_str z_tuple z_zip D
    have g : Got P w K mg base (2 * (D + 1) + 1) "_law_alike" ["_law_found", "_law_due"] (sp_alike (D + 1)) := ⟨⟨_, _, ok_alike D F1 ih.2 z_all z_isinstance z_len z_list z_tuple z_zip, b1, k1, m1⟩⟩
    ⟨g, ⟨⟨_, _, ok_same (D + 1) F2 g z_bool z_int z_isinstance z_list z_str z_tuple, b2, k2, m2⟩⟩⟩
end
/-! the laws' own road: its draws -/
theorem at_ofV {R : V → Prop} {vs : List V} {i : Int} (h0 : 0 ≤ i) (h1 : i < (vs.length : Int)) (hR : ∀ v ∈ vs, R v) : ∃ v, atI vs i = some v ∧ R v := by
  have hk : i.toNat < vs.length := by omega
  have ek : i = ((i.toNat : Nat) : Int) := by omega
  refine ⟨vs[i.toNat], ?_, hR _ (List.getElem_mem hk)⟩
  have q : atI vs ((i.toNat : Nat) : Int) = some vs[i.toNat] := atI_nat (List.getElem?_eq_getElem hk)
  rw [← ek] at q
  exact q
theorem at_str {z : Str} {i : Int} (h0 : 0 ≤ i) (h1 : i < (z.length : Int)) : ∃ c, atI z.cps.toList i = some c := by
  have l : z.cps.toList.length = z.length := Array.length_toList
  have hk : i.toNat < z.cps.toList.length := by omega
  have ek : i = ((i.toNat : Nat) : Int) := by omega
  have q : atI z.cps.toList ((i.toNat : Nat) : Int) = some z.cps.toList[i.toNat] := atI_nat (List.getElem?_eq_getElem hk)
  rw [← ek] at q
  exact ⟨_, q⟩
theorem small_line {n : Nat} (h : n ≤ 1000) : n ≤ sizeLine := Nat.le_of_lt (small1000 h)
def sp_law_cell (K : PySem.W.Frag) : Sp := fun vs H Q _ => ∃ (a : Addr) (ns : List Int) (k : Int), vs = [.ref a, .int k] ∧ SqL K H a (ns.map V.int) ∧ 0 ≤ k ∧ ∀ c : Int, Q (.int c) H
def sp_law_mix (_ : PySem.W.Frag) : Sp := fun vs H Q _ => ∃ c o p : Int, vs = [.int c, .int o, .int p] ∧ bits o ≤ 64 ∧ 0 < p ∧ p ≤ 2147483647 ∧ ∀ m : Int, 0 ≤ m → m < 332748118 → Q (.int m) H
def sp_law_long (_ : PySem.W.Frag) : Sp := fun vs H Q _ => ∃ c o l : Int, vs = [.int c, .int o, .int l] ∧ bits o ≤ 64 ∧ 1 ≤ l ∧ l ≤ 200 ∧ ∀ (v : Int) H', Same H H' → l ≤ v → v ≤ 1000 → Q (.int v) H'
/-- a bridge as the document tells it -/
structure Br where
  name : Str
  len : Int
  bears : Int
  wide : Int
  most : Int
structure Br.In (b : Br) : Prop where
  l0 : 1 ≤ b.len
  l1 : b.len ≤ 1000
  b0 : 1 ≤ b.bears
  b1 : b.bears ≤ 10000000
  w0 : 1 ≤ b.wide
  w1 : b.wide ≤ 200
  m0 : 1 ≤ b.most
  m1 : b.most ≤ 10000000
def brV (b : Br) : List V := [.str "bridge", .str b.name, .int b.len, .int b.bears, .int b.wide, .int b.most]
def sp_law_bridge (_ : PySem.W.Frag) : Sp := fun vs H Q _ => ∃ (c : Int) (nm : Str), vs = [.int c, .str nm] ∧ ∀ (b : Br) p H', Same H H' → b.name = nm → b.In → H' p = some (.tup (brV b)) → Q (.ref p) H'
section
variable {P : Program} {w : World} {K : PySem.W.Frag} {mg : Str → Option Value} {base : Heap}
theorem ok_law_cell {f : Addr} {fd : FuncData} (F : Fun K "_law_cell" "_law_cell" s_law_cell f fd) (z_len : mg "len" = none) :
    FnOk P w K mg base CX0 1 f fd ["_law_script", "_law_k"] (sp_law_cell K) := by
  refine F.ok sc_law_cell (fun vs H Q E h => ?_) (fun cdv A outer s H vs Q E hr h => ?_)
  · obtain ⟨a, ns, i, rfl, _⟩ := h
    rfl
  obtain ⟨a, ns, i, rfl, hS, h0, k⟩ := h
  refine ⟨_, (pss_cons (ps_if (pt_cmpR op_lt (pv 1) (pe_callB lenG rfl z_len b_len (pa_cons (pv 0) pa_nil)) (nomark _)) (pss_one (ps_ret (pe_ix ix_seq (pv 0) (pv 1) (fun _ _ => rfl)))) pss_nil)
      (pss_one (ps_ret pe_int))), ?_⟩
  refine ⟨_, rfl, _, rfl, .inl ⟨a, _, rfl, .inl hS, _, _, rfl, rfl, _, rfl, ?_⟩⟩
  refine ite2 (fun c => ?_) (fun c => ?_)
  · have c' : i < ((ns.map V.int).length : Int) := of_decide_eq_true c
    rw [List.length_map] at c'
    obtain ⟨v, hv, _⟩ := at_of (R := fun _ => True) h0 c' (fun _ _ => trivial)
    exact ⟨_, rfl, _, rfl, .inl ⟨a, _, _, _, rfl, rfl, hS, hv, k v⟩⟩
  · exact k 0
/-- 0 _law_cell_here 1 _law_one 2 _law_prime 3 _law_drawn -/
theorem ok_law_mix {f : Addr} {fd : FuncData} (F : Fun K "_law_mix" "_law_mix" s_law_mix f fd)  :
    FnOk P w K mg base CX0 1 f fd ["_law_cell_here", "_law_one", "_law_prime"] (sp_law_mix K) := by
  refine F.ok sc_law_mix (fun vs H Q E h => ?_) (fun cdv A outer s H vs Q E hr h => ?_)
  · obtain ⟨a, b, c, rfl, _⟩ := h
    rfl
  obtain ⟨c, o, p, rfl, ho, p0, p1, k⟩ := h
  refine ⟨_, (pss_cons (ps_set (i := 3) sc_law_mix.nd rfl (by first | exact Or.inl rfl | exact Or.inr rfl) (pe_op op_mod (pe_op op_mulX (pe_op op_addG (pe_op op_addG (pe_op op_addG (pe_op op_mod (pv 0) (pv 2)) pe_int) (pe_op op_mulX (pe_op op_mulX pe_int (pv 1)) (pv 1))) (pv 1)) pe_int) (pv 2)))
      (pss_one (ps_ret (pe_op op_fdiv (pe_op op_mod (pe_op op_mulX (pv 3) (pv 3)) pe_int) pe_int)))), ?_⟩
  refine ⟨_, rfl, _, rfl, _, _, rfl, rfl, p0, .inl ⟨_, _, rfl, rfl, _, rfl, .inl ⟨_, _, rfl, rfl, IntMulOk.of_left (by decide), _, rfl, .inl ⟨_, _, rfl, rfl, IntMulOk.of_right ho, .inl ⟨_, _, rfl, rfl, _, rfl, .inl ⟨_, _, rfl, rfl, .inl ⟨_, _, rfl, rfl, IntMulOk.of_right (by decide), _, rfl, _, _, rfl, rfl, p0, ?_⟩⟩⟩⟩⟩⟩⟩
  have h1 := Int.emod_nonneg ((c % p + 12345 + 31 * o * o + o) * 48271) (show p ≠ 0 by omega)
  have h2 := Int.emod_lt_of_pos ((c % p + 12345 + 31 * o * o + o) * 48271) p0
  dsimp only
  generalize (c % p + 12345 + 31 * o * o + o) * 48271 % p = m at h1 h2 ⊢
  have hm : bits m ≤ 64 := bits_of h1 (by omega)
  refine ⟨_, rfl, _, rfl, .inl ⟨_, _, rfl, rfl, IntMulOk.of_right hm, _, _, rfl, rfl, (lt0 rfl), _, _, rfl, rfl, ⟨by decide, by decide⟩, ?_⟩⟩
  have h3 := Int.emod_nonneg (m * m) (show (998244353 : Int) ≠ 0 by decide)
  have h4 := Int.emod_lt_of_pos (m * m) (show (0 : Int) < 998244353 by decide)
  dsimp only
  generalize m * m % 998244353 = z at h3 h4 ⊢
  exact k (z / 3) (by omega) (by omega)
/-- 0 _law_cell_here 1 _law_one 2 _law_least 3 _law_drawn -/
theorem ok_law_long {f : Addr} {fd : FuncData} (F : Fun K "_law_long" "_law_long" s_law_long f fd) (g_law_mix : Got P w K mg base 1 "_law_mix" ["_law_cell_here", "_law_one", "_law_prime"] (sp_law_mix K)) :
    FnOk P w K mg base CX0 2 f fd ["_law_cell_here", "_law_one", "_law_least"] (sp_law_long K) := by
  refine F.ok sc_law_long (fun vs H Q E h => ?_) (fun cdv A outer s H vs Q E hr h => ?_)
  · obtain ⟨a, b, c, rfl, _⟩ := h
    rfl
  obtain ⟨c, o, l, rfl, ho, l0, l1, k⟩ := h
  refine ⟨_, (pss_cons (ps_set (i := 3) sc_law_long.nd rfl (by first | exact Or.inl rfl | exact Or.inr rfl) (pe_go g_law_mix hr (by first | decide | omega) rfl (pa_cons (pv 0) (pa_cons (pv 1) (pa_cons pe_int pa_nil)))))
      (pss_one (ps_ret (pe_ix ix_seq (pe_lst (pa_cons (pv 2) (pa_cons pe_int (pa_cons (pe_op op_addG (pv 2) (pe_op op_mod (pe_op op_fdiv (pv 3) pe_int) pe_int)) (pa_cons (pe_op op_addG (pv 2) (pe_op op_mod (pe_op op_fdiv (pv 3) pe_int) (pe_op op_sub pe_int (pv 2)))) (pa_cons (pe_op op_addG (pv 2) pe_int) pa_nil)))))) (pe_op op_mod (pv 3) pe_int) (fun _ _ => rfl))))), ?_⟩
  refine ⟨_, rfl, _, rfl, c, o, _, rfl, ho, by decide, by decide, fun m m0 m1 => ?_⟩
  have e1 := Int.emod_nonneg (m / 5) (show (30 : Int) ≠ 0 by decide)
  have e2 := Int.emod_lt_of_pos (m / 5) (show (0 : Int) < 30 by decide)
  have e3 := Int.emod_nonneg (m / 5) (show 1001 - l ≠ 0 by omega)
  have e4 := Int.emod_lt_of_pos (m / 5) (show 0 < 1001 - l by omega)
  obtain ⟨v, hv, n, rfl, n0, n1⟩ := at_ofV (R := fun v => ∃ n : Int, v = .int n ∧ l ≤ n ∧ n ≤ 1000) (i := m % 5) (vs := [.int l, .int 1000, .int (l + m / 5 % 30), .int (l + m / 5 % (1001 - l)), .int (l + 1)]) (by omega) (by show m % 5 < 5; omega) (by
    intro v hv
    simp only [List.mem_cons, List.not_mem_nil, or_false] at hv
    rcases hv with rfl | rfl | rfl | rfl | rfl
    · exact ⟨_, rfl, by omega, by omega⟩
    · exact ⟨_, rfl, by omega, by omega⟩
    · exact ⟨_, rfl, by omega, by omega⟩
    · exact ⟨_, rfl, by omega, by omega⟩
    · exact ⟨_, rfl, by omega, by omega⟩)
  refine ⟨_, rfl, _, rfl, _, rfl, _, _, rfl, rfl, ⟨by decide, by decide⟩, _, _, rfl, rfl, (lt0 rfl), .inl ⟨_, _, rfl, rfl, ?_⟩⟩
  refine ⟨_, rfl, _, rfl, _, _, rfl, rfl, ⟨by decide, by decide⟩, _, rfl, _, _, rfl, rfl, _, _, rfl, rfl, (by show 0 < 1001 - l; omega), .inl ⟨_, _, rfl, rfl, ?_⟩⟩
  refine ⟨_, rfl, .inl ⟨_, _, rfl, rfl, (by show 5 ≤ sizeLine; decide), fun p hp => ?_⟩⟩
  refine ⟨_, rfl, _, _, rfl, rfl, (lt0 rfl), .inl ⟨p, _, _, _, rfl, rfl, SqL.of upd_same, hv, ?_⟩⟩
  exact k n _ (same_new hp _) n0 n1
end
theorem pick4 {lo hi a b c d i : Int} (h0 : 0 ≤ i) (h1 : i < 4) (ha : lo ≤ a ∧ a ≤ hi) (hb : lo ≤ b ∧ b ≤ hi) (hc : lo ≤ c ∧ c ≤ hi) (hd : lo ≤ d ∧ d ≤ hi) : ∃ n, atI [V.int a, .int b, .int c, .int d] i = some (.int n) ∧ lo ≤ n ∧ n ≤ hi :=
  at_of (R := fun n => lo ≤ n ∧ n ≤ hi) (vs := [a, b, c, d]) h0 h1 (by
    intro v hv
    simp only [List.mem_cons, List.not_mem_nil, or_false] at hv
    rcases hv with rfl | rfl | rfl | rfl <;> assumption)
theorem pick3 {lo hi a b c i : Int} (h0 : 0 ≤ i) (h1 : i < 3) (ha : lo ≤ a ∧ a ≤ hi) (hb : lo ≤ b ∧ b ≤ hi) (hc : lo ≤ c ∧ c ≤ hi) : ∃ n, atI [V.int a, .int b, .int c] i = some (.int n) ∧ lo ≤ n ∧ n ≤ hi :=
  at_of (R := fun n => lo ≤ n ∧ n ≤ hi) (vs := [a, b, c]) h0 h1 (by
    intro v hv
    simp only [List.mem_cons, List.not_mem_nil, or_false] at hv
    rcases hv with rfl | rfl | rfl <;> assumption)
/-! names -/
structure IsW (s : Str) : Prop where
  lo : 1 ≤ s.length
  hi : s.length ≤ 12
  low : ∀ c ∈ Tx.cs s, Tx.low c = true
structure NmOk (nm : Nat → Str) : Prop where
  w : ∀ i, i < 8 → IsW (nm i)
  inj : ∀ i j, i < 8 → j < 8 → nm i = nm j → i = j
theorem cs_app (a b : Str) : Tx.cs (a ++ b) = Tx.cs a ++ Tx.cs b := by
  show (a ++ b).cps.toList = _
  rw [PySem.Str.cps_append, Array.toList_append]
theorem reps_list (c : Nat) : ∀ (k : Nat) (acc : Array Nat), ((List.replicate k #[c]).foldl (· ++ ·) acc).toList = acc.toList ++ List.replicate k c
  | 0, acc => by simp
  | k + 1, acc => by
    rw [List.replicate_succ, List.foldl_cons, reps_list c k, Array.toList_append, List.append_assoc]
    rfl
theorem cs_mul (c : Nat) (n : Int) : Tx.cs (Txt.mul ⟨#[c]⟩ n) = List.replicate n.toNat c := by
  unfold Txt.mul
  by_cases h1 : n < 1
  · rw [if_pos h1, show n.toNat = 0 by omega]
    rfl
  · rw [if_neg h1]
    by_cases h2 : n = 1
    · subst h2; rfl
    · have e : (n == 1 || (⟨#[c]⟩ : Str).length == 0) = false := by
        rw [show (n == 1) = false from by simpa using h2]
        rfl
      rw [e, if_neg Bool.false_ne_true]
      show ((List.replicate n.toNat #[c]).foldl (· ++ ·) #[]).toList = _
      rw [reps_list]
      rfl
theorem let_at {i : Int} {c : Nat} (h0 : 0 ≤ i) (h1 : i < 26) (h : atI (Str.ofString "abcdefghijklmnopqrstuvwxyz").cps.toList i = some c) : (c : Int) = 97 + i := by
  have all : ∀ k : Nat, k < 26 → (Str.ofString "abcdefghijklmnopqrstuvwxyz").cps.toList[k]? = some (97 + k) := by decide +kernel
  have ek : i = ((i.toNat : Nat) : Int) := by omega
  have q := atI_nat (all i.toNat (by omega))
  rw [← ek, h] at q
  have := Option.some.inj q
  omega
theorem low_of {c : Nat} {i : Int} (h0 : 0 ≤ i) (h1 : i < 26) (h : (c : Int) = 97 + i) : Tx.low c = true := by
  unfold Tx.low
  rw [Bool.and_eq_true]
  exact ⟨decide_eq_true (by omega), decide_eq_true (by omega)⟩
theorem nm_one {c : Nat} {e : Int} (hc : Tx.low c = true) (e0 : 0 ≤ e) (e1 : e ≤ 4) : NmOk fun k => Txt.mul ⟨#[c]⟩ ((k : Int) + 1 + e) where
  w := fun i hi => by
    have l := Tx.cs_len (Txt.mul ⟨#[c]⟩ ((i : Int) + 1 + e))
    rw [cs_mul, List.length_replicate] at l
    refine ⟨by omega, by omega, fun d hd => ?_⟩
    rw [cs_mul] at hd
    rw [(List.mem_replicate.mp hd).2]
    exact hc
  inj := fun i j hi hj h => by
    have q := congrArg Tx.cs h
    rw [cs_mul, cs_mul] at q
    have := congrArg List.length q
    rw [List.length_replicate, List.length_replicate] at this
    omega
theorem nm_two {c : Nat} {sg : Nat → Nat} {a b : Int} (hc : Tx.low c = true) (a0 : 0 ≤ a) (b0 : 0 ≤ b) (ab : a + b ≤ 11) (hs : ∀ i, i < 8 → Tx.low (sg i) = true) (hi : ∀ i j, i < 8 → j < 8 → sg i = sg j → i = j) :
    NmOk fun k => Txt.mul ⟨#[c]⟩ a ++ ⟨#[sg k]⟩ ++ Txt.mul ⟨#[c]⟩ b where
  w := fun i hi => by
    have e : Tx.cs (Txt.mul ⟨#[c]⟩ a ++ ⟨#[sg i]⟩ ++ Txt.mul ⟨#[c]⟩ b) = List.replicate a.toNat c ++ [sg i] ++ List.replicate b.toNat c := by rw [cs_app, cs_app, cs_mul, cs_mul]
    have l := Tx.cs_len (Txt.mul ⟨#[c]⟩ a ++ ⟨#[sg i]⟩ ++ Txt.mul ⟨#[c]⟩ b)
    rw [e, List.length_append, List.length_append, List.length_replicate, List.length_replicate, List.length_singleton] at l
    refine ⟨by omega, by omega, fun d hd => ?_⟩
    rw [e] at hd
    simp only [List.mem_append, List.mem_replicate, List.mem_singleton] at hd
    rcases hd with (⟨_, rfl⟩ | rfl) | ⟨_, rfl⟩
    · exact hc
    · exact hs i hi
    · exact hc
  inj := fun i j h1 h2 h => by
    have q := congrArg Tx.cs h
    simp only [cs_app, cs_mul] at q
    have q2 := List.append_cancel_right q
    have q3 := List.append_cancel_left q2
    exact hi i j h1 h2 (List.cons.inj q3).1
def nmV (nm : Nat → Str) : List V := (List.range 8).map fun k => V.str (nm k)
def sp_law_names (_ : PySem.W.Frag) : Sp := fun vs H Q _ => ∃ c : Int, vs = [.int c] ∧ ∀ (nm : Nat → Str) p H', Same H H' → NmOk nm → H' p = some (.lst (nmV nm)) → Q (.ref p) H'
section
variable {P : Program} {w : World} {K : PySem.W.Frag} {mg : Str → Option Value} {base : Heap}
/-- 0 _law_cell_here 1 _law_name 2 _law_drawn 3 _law_bears 4 _law_most 5 _law_wide -/
theorem ok_law_bridge {f : Addr} {fd : FuncData} (F : Fun K "_law_bridge" "_law_bridge" s_law_bridge f fd) (g_law_mix : Got P w K mg base 1 "_law_mix" ["_law_cell_here", "_law_one", "_law_prime"] (sp_law_mix K)) (g_law_long : Got P w K mg base 2 "_law_long" ["_law_cell_here", "_law_one", "_law_least"] (sp_law_long K)) :
    FnOk P w K mg base CX0 3 f fd ["_law_cell_here", "_law_name"] (sp_law_bridge K) := by
  refine F.ok sc_law_bridge (fun vs H Q E h => ?_) (fun cdv A outer s H vs Q E hr h => ?_)
  · obtain ⟨a, b, rfl, _⟩ := h
    rfl
  obtain ⟨c, nm, rfl, k⟩ := h
  refine ⟨_, (pss_cons (ps_set (i := 2) sc_law_bridge.nd rfl (by first | exact Or.inl rfl | exact Or.inr rfl) (pe_go g_law_mix hr (by first | decide | omega) rfl (pa_cons (pv 0) (pa_cons pe_int (pa_cons pe_int pa_nil)))))
      (pss_cons (ps_set (i := 3) sc_law_bridge.nd rfl (by first | exact Or.inl rfl | exact Or.inr rfl) (pe_ix ix_seq (pe_lst (pa_cons pe_int (pa_cons (pe_powc (z := 10000000) ⟨by decide, by decide, by decide⟩ (by decide +kernel)) (pa_cons (pe_op op_addG pe_int (pe_op op_mod (pe_op op_fdiv (pv 2) pe_int) pe_int)) (pa_cons (pe_op op_addG pe_int (pe_op op_mod (pv 0) (pe_powc (z := 10000000) ⟨by decide, by decide, by decide⟩ (by decide +kernel)))) pa_nil))))) (pe_op op_mod (pv 2) pe_int) (fun _ _ => rfl)))
      (pss_cons (ps_set (i := 4) sc_law_bridge.nd rfl (by first | exact Or.inl rfl | exact Or.inr rfl) (pe_ix ix_seq (pe_lst (pa_cons (pe_op op_addG pe_int (pe_op op_mod (pe_op op_fdiv (pv 0) pe_int) (pe_powc (z := 10000000) ⟨by decide, by decide, by decide⟩ (by decide +kernel)))) (pa_cons (pe_powc (z := 10000000) ⟨by decide, by decide, by decide⟩ (by decide +kernel)) (pa_cons pe_int (pa_cons (pe_op op_addG pe_int (pe_op op_mod (pe_op op_fdiv (pv 2) pe_int) pe_int)) pa_nil))))) (pe_op op_mod (pe_op op_fdiv (pv 2) pe_int) pe_int) (fun _ _ => rfl)))
      (pss_cons (ps_set (i := 5) sc_law_bridge.nd rfl (by first | exact Or.inl rfl | exact Or.inr rfl) (pe_ix ix_seq (pe_lst (pa_cons pe_int (pa_cons pe_int (pa_cons (pe_op op_addG pe_int (pe_op op_mod (pe_op op_fdiv (pv 2) pe_int) pe_int)) (pa_cons (pe_op op_addG pe_int (pe_op op_mod (pe_op op_fdiv (pv 2) pe_int) pe_int)) pa_nil))))) (pe_op op_mod (pe_op op_fdiv (pv 2) pe_int) pe_int) (fun _ _ => rfl)))
      (pss_one (ps_ret (pe_tup (pa_cons pe_str (pa_cons (pv 1) (pa_cons (pe_go g_law_long hr (by first | decide | omega) rfl (pa_cons (pv 0) (pa_cons pe_int (pa_cons pe_int pa_nil)))) (pa_cons (pv 3) (pa_cons (pv 5) (pa_cons (pv 4) pa_nil))))))))))))), ?_⟩
  refine ⟨_, rfl, c, 40, 1000037, rfl, by decide, by decide, by decide, fun m m0 m1 => ?_⟩
  obtain ⟨vb, hb, b0, b1⟩ := pick4 (lo := 1) (hi := 10000000) (a := 1) (b := 10000000) (c := 1 + m / 3 % 1000) (d := 1 + c % 10000000) (i := m % 4) (by omega) (by omega) (by omega) (by omega) (by omega) (by omega)
  obtain ⟨vm, hm, n0, n1⟩ := pick4 (lo := 1) (hi := 10000000) (a := 1 + c / 3 % 10000000) (b := 10000000) (c := 1) (d := 1 + m / 7 % 1000) (i := m / 4 % 4) (by omega) (by omega) (by omega) (by omega) (by omega) (by omega)
  obtain ⟨vw, hw, w0, w1⟩ := pick4 (lo := 1) (hi := 200) (a := 1) (b := 200) (c := 1 + m / 16 % 200) (d := 1 + m / 16 % 30) (i := m / 1000 % 4) (by omega) (by omega) (by omega) (by omega) (by omega) (by omega)
  refine ⟨_, rfl, _, _, rfl, rfl, ⟨by decide, by decide⟩, _, _, rfl, rfl, (lt0 rfl), .inl ⟨_, _, rfl, rfl, _, rfl, _, _, rfl, rfl, (lt0 rfl), .inl ⟨_, _, rfl, rfl, (by show 4 ≤ sizeLine; decide), fun p1 h1 => ?_⟩⟩⟩
  refine ⟨_, rfl, _, _, rfl, rfl, (lt0 rfl), .inl ⟨p1, _, _, _, rfl, rfl, SqL.of upd_same, hb, ?_⟩⟩
  refine ⟨_, rfl, _, _, rfl, rfl, ⟨by decide, by decide⟩, _, _, rfl, rfl, (lt0 rfl), .inl ⟨_, _, rfl, rfl, _, rfl, _, _, rfl, rfl, ⟨by decide, by decide⟩, _, _, rfl, rfl, (lt0 rfl), .inl ⟨_, _, rfl, rfl, (by show 4 ≤ sizeLine; decide), fun p2 h2 => ?_⟩⟩⟩
  refine ⟨_, rfl, _, _, rfl, rfl, ⟨by decide, by decide⟩, _, _, rfl, rfl, (lt0 rfl), .inl ⟨p2, _, _, _, rfl, rfl, SqL.of upd_same, hm, ?_⟩⟩
  refine ⟨_, rfl, _, _, rfl, rfl, ⟨by decide, by decide⟩, _, _, rfl, rfl, (lt0 rfl), .inl ⟨_, _, rfl, rfl, _, rfl, _, _, rfl, rfl, ⟨by decide, by decide⟩, _, _, rfl, rfl, (lt0 rfl), .inl ⟨_, _, rfl, rfl, (by show 4 ≤ sizeLine; decide), fun p3 h3 => ?_⟩⟩⟩
  refine ⟨_, rfl, _, _, rfl, rfl, ⟨by decide, by decide⟩, _, _, rfl, rfl, (lt0 rfl), .inl ⟨p3, _, _, _, rfl, rfl, SqL.of upd_same, hw, ?_⟩⟩
  refine ⟨_, rfl, _, rfl, c, 41, 1, rfl, by decide, by decide, by decide, fun v H4 S4 v0 v1 => ?_⟩
  refine ⟨_, rfl, _, rfl, _, rfl, (by show 6 ≤ sizeLine; decide), fun p5 h5 => ?_⟩
  exact k ⟨nm, v, vb, vw, vm⟩ p5 _ ((((same_new h1 _).trans (same_new h2 _)).trans (same_new h3 _)).trans (S4.trans (same_new h5 _))) rfl ⟨v0, v1, b0, b1, w0, w1, n0, n1⟩ upd_same
/-- 0 _law_cell_here 1 _law_letters 2 _law_drawn 3 _law_size 4 _law_at 5 _law_fill 6 _law_found 7 _law_k 8 _law_sign -/
theorem ok_law_names {f : Addr} {fd : FuncData} (F : Fun K "_law_names" "_law_names" s_law_names f fd) (g_law_mix : Got P w K mg base 1 "_law_mix" ["_law_cell_here", "_law_one", "_law_prime"] (sp_law_mix K)) (z_range : mg "range" = none) :
    FnOk P w K mg base CX0 2 f fd ["_law_cell_here"] (sp_law_names K) := by
  refine F.ok sc_law_names (fun vs H Q E h => ?_) (fun cdv A outer s H vs Q E hr h => ?_)
  · obtain ⟨a, rfl, _⟩ := h
    rfl
  obtain ⟨c, rfl, k⟩ := h
  have hu := hr.units
  refine ⟨_, (pss_cons (ps_set (i := 1) sc_law_names.nd rfl (by first | exact Or.inl rfl | exact Or.inr rfl) pe_str)
      (pss_cons (ps_set (i := 2) sc_law_names.nd rfl (by first | exact Or.inl rfl | exact Or.inr rfl) (pe_go g_law_mix hr (by first | decide | omega) rfl (pa_cons (pv 0) (pa_cons pe_int (pa_cons pe_int pa_nil)))))
      (pss_cons (ps_set (i := 3) sc_law_names.nd rfl (by first | exact Or.inl rfl | exact Or.inr rfl) (pe_op op_addG pe_int (pe_op op_mod (pv 2) pe_int)))
      (pss_cons (ps_set (i := 4) sc_law_names.nd rfl (by first | exact Or.inl rfl | exact Or.inr rfl) (pe_op op_mod (pe_op op_fdiv (pv 2) pe_int) (pv 3)))
      (pss_cons (ps_set (i := 5) sc_law_names.nd rfl (by first | exact Or.inl rfl | exact Or.inr rfl) (pe_ix ix_seq (pv 1) (pe_op op_mod (pe_op op_fdiv (pv 2) pe_int) pe_int) (fun _ _ => rfl)))
      (pss_cons (ps_if (pt_cmpR (op_eqG hu) (pe_op op_mod (pe_op op_fdiv (pv 2) pe_int) pe_int) pe_int (nomark _)) (pss_one (ps_ret (pe_compG ["_law_drawn", "_law_fill"] [2, 5] (CompC.to cs_law_names_0 rfl rfl) rfl (pi_range1 rfl z_range (pa_cons pe_int pa_nil)) (fun _ _ _ _ _ => pif_nil) (fun _ _ _ _ _ => (pe_op op_mulX (pv 2) (pe_op op_addG (pe_op op_addG (pv 0) pe_int) (pe_op op_mod (pv 1) pe_int))))))) pss_nil)
      (pss_cons (ps_set (i := 6) sc_law_names.nd rfl (by first | exact Or.inl rfl | exact Or.inr rfl) (pe_lst pa_nil))
      (pss_cons (ps_for PassesOwn.never rfl (pi_range1 rfl z_range (pa_cons pe_int pa_nil)) (pg_name (i := 7) sc_law_names.nd rfl (by first | exact Or.inl rfl | exact Or.inr rfl)) (pss_cons (ps_set (i := 8) sc_law_names.nd rfl (by first | exact Or.inl rfl | exact Or.inr rfl) (pe_ix ix_seq (pv 1) (pe_op op_mod (pe_op op_addG (pe_op op_fdiv (pv 2) pe_int) (pe_op op_mulX pe_int (pv 7))) pe_int) (fun _ _ => rfl)))
      (pss_one (ps_expr (pe_bm PySem.F.plainAttrs_list PySem.F.slot_list_append PySem.F.type_list_append mt_append (pv 6) (pa_cons (pe_op op_addG (pe_op op_addG (pe_op op_mulX (pv 5) (pv 4)) (pv 8)) (pe_op op_mulX (pv 5) (pe_op op_sub (pe_op op_sub (pv 3) pe_int) (pv 4)))) pa_nil))))))
      (pss_one (ps_ret (pv 6))))))))))), ?_⟩
  have el : (Str.ofString "abcdefghijklmnopqrstuvwxyz").length = 26 := by decide +kernel
  refine ⟨_, rfl, c, 30, 1000003, rfl, by decide, by decide, by decide, fun m m0 m1 => ?_⟩
  refine ⟨_, rfl, _, _, rfl, rfl, (lt0 rfl), .inl ⟨_, _, rfl, rfl, ?_⟩⟩
  dsimp only
  have z0 : 1 ≤ 1 + m % 12 ∧ 1 + m % 12 ≤ 12 := by omega
  generalize 1 + m % 12 = sz at z0 ⊢
  refine ⟨_, rfl, _, _, rfl, rfl, ⟨by decide, by decide⟩, _, rfl, _, _, rfl, rfl, (by show 0 < sz; omega), ?_⟩
  dsimp only
  have a0 := Int.emod_nonneg (m / 12) (show sz ≠ 0 by omega)
  have a1 := Int.emod_lt_of_pos (m / 12) (show 0 < sz by omega)
  generalize m / 12 % sz = at0 at a0 a1 ⊢
  obtain ⟨g, hg⟩ := at_str (z := Str.ofString "abcdefghijklmnopqrstuvwxyz") (i := m / 150 % 26) (by omega) (by rw [el]; omega)
  have lg := low_of (by omega) (by omega) (let_at (by omega) (by omega) hg)
  refine ⟨_, rfl, _, rfl, _, _, rfl, rfl, ⟨by decide, by decide⟩, _, _, rfl, rfl, (lt0 rfl), .inr (.inr ⟨_, _, g, rfl, rfl, by rw [el]; exact small_line (by decide), hg, ?_⟩)⟩
  refine ⟨_, rfl, _, _, rfl, rfl, ⟨by decide, by decide⟩, _, _, rfl, rfl, (lt0 rfl), .inl ⟨_, _, rfl, rfl, _, rfl, ?_⟩⟩
  refine ite2 (fun c1 => ?_) (fun c1 => ?_)
  · refine ⟨_, rfl, by decide, by decide, comp_by ((List.range 8).map fun (i : Nat) => V.int (0 + i)) (fun _ => true) (fun v => match v with | .int j => .str (Txt.mul ⟨#[g]⟩ (j + 1 + m % 5)) | v => v) (by show 8 < sizeLine; decide) (fun i H3 _ h => itr_go 0 _ i H3 h) (fun H3 _ => itr_stop 0 _ H3) (fun i H3 v H' _ hi y => itr_yld 0 _ i H3 v H' (by simpa using hi) y)
      (fun v _ H3 K _ h => h) (fun v hv _ H3 K' _ h => ?_) (fun acc ha => ?_)⟩
    · obtain ⟨j, hj, rfl⟩ := List.mem_map.mp hv
      have hj' := List.mem_range.mp hj
      exact ⟨_, rfl, _, rfl, .inl ⟨_, _, rfl, rfl, _, rfl, _, _, rfl, rfl, (lt0 rfl), .inl ⟨_, _, rfl, rfl, .inr (.inr ⟨⟨#[g]⟩, _, rfl, rfl, (by show 1 ≤ 16; decide), by omega, by omega, h⟩)⟩⟩⟩
    · refine k _ acc _ (same_new ha _) (nm_one (e := m % 5) lg (by omega) (by omega)) ?_
      rw [upd_same]
      show some (HO.lst _) = some (HO.lst _)
      simp only [nmV, Int.zero_add]
      rw [List.filter_eq_self.mpr (fun _ _ => rfl), List.map_map]
      rfl
  · have sgs : ∀ j : Nat, ∃ q, atI (Str.ofString "abcdefghijklmnopqrstuvwxyz").cps.toList ((m / 12000 + 3 * (j : Int)) % 26) = some q := fun j => at_str (by omega) (by rw [el]; omega)
    obtain ⟨sg, hsg⟩ := Classical.axiomOfChoice sgs
    have ok := nm_two (c := g) (sg := sg) (a := at0) (b := sz - 1 - at0) lg a0 (by omega) (by omega) (fun i _ => low_of (by omega) (by omega) (let_at (by omega) (by omega) (hsg i))) (fun i j hi hj h => by
      have e1 := let_at (by omega) (by omega) (hsg i)
      have e2 := let_at (by omega) (by omega) (hsg j)
      rw [h] at e1
      omega)
    refine ⟨(by show 0 ≤ sizeLine; decide), fun l hl => ?_⟩
    refine ⟨_, rfl, by decide, by decide, for_range (fun i σ H' => (∃ s6 s7, σ = [some (.int c), some (.str (Str.ofString "abcdefghijklmnopqrstuvwxyz")), some (.int m), some (.int sz), some (.int at0), some (.str ⟨#[g]⟩), some (.ref l), s6, s7]) ∧ Same H H' ∧ H' l = some (.lst ((List.range i).map fun j => V.str (Txt.mul ⟨#[g]⟩ at0 ++ ⟨#[sg j]⟩ ++ Txt.mul ⟨#[g]⟩ (sz - 1 - at0)))))
      ⟨⟨_, _, rfl⟩, same_new hl _, upd_same⟩ (fun i σ H' hi hP => ?_) (fun σ H' hP => ?_)⟩
    · obtain ⟨⟨s6, s7, rfl⟩, S, D⟩ := hP
      refine ⟨_, rfl, _, rfl, _, _, rfl, rfl, ⟨by decide, by decide⟩, _, rfl, .inl ⟨_, _, rfl, rfl, IntMulOk.of_left (by decide), .inl ⟨_, _, rfl, rfl, _, _, rfl, rfl, (lt0 rfl), .inr (.inr ⟨_, _, sg i, rfl, rfl, by rw [el]; exact small_line (by decide), ?_, ?_⟩)⟩⟩⟩
      · have := hsg i
        simpa using this
      have lm : ∀ n : Int, n ≤ 12 → (Txt.mul ⟨#[g]⟩ n).length ≤ 12 := fun n hn => by
        have := PyProof.Rows.len_mul_leN (x := ⟨#[g]⟩) (L := 1) (N := 12) (Nat.le_refl 1) hn
        omega
      have lm1 := lm at0 (by omega)
      have lm2 := lm (sz - 1 - at0) (by omega)
      have sl : (1000 : Nat) ≤ sizeLine := by decide
      have l1 : (Txt.mul ⟨#[g]⟩ at0).length + (⟨#[sg i]⟩ : Str).length ≤ sizeLine := by
        show (Txt.mul ⟨#[g]⟩ at0).length + 1 ≤ sizeLine
        omega
      have l2 : (Txt.mul ⟨#[g]⟩ at0 ++ ⟨#[sg i]⟩ : Str).length + (Txt.mul ⟨#[g]⟩ (sz - 1 - at0)).length ≤ sizeLine := by
        rw [PySem.Str.length_append]
        show (Txt.mul ⟨#[g]⟩ at0).length + 1 + _ ≤ sizeLine
        omega
      refine ⟨_, rfl, .inl ⟨rfl, _, SqL.of D⟩, _, rfl, _, rfl, .inr (.inr ⟨⟨#[g]⟩, _, rfl, rfl, (by show 1 ≤ 16; decide), by omega, by omega, _, rfl, .inr (.inl ⟨_, _, rfl, rfl, l1, _, rfl, _, rfl, _, _, rfl, rfl, _, rfl, _, _, rfl, rfl, ?_⟩)⟩)⟩
      refine .inr (.inr ⟨⟨#[g]⟩, _, rfl, rfl, (by show 1 ≤ 16; decide), by omega, by omega, .inr (.inl ⟨_, _, rfl, rfl, l2, l, _, _, rfl, rfl, D, ?_, ?_⟩)⟩)
      · rw [List.length_map, List.length_range]
        exact small1000 (by omega)
      · refine ⟨⟨_, _, rfl⟩, fun b o eb => ?_, ?_⟩
        · rw [upd_ne (ne_of_none eb hl)]; exact S _ _ eb
        · rw [upd_same, List.range_succ, List.map_append]
          rfl
    · obtain ⟨⟨s6, s7, rfl⟩, S, D⟩ := hP
      exact ⟨_, rfl, k _ l H' S ok D⟩
end
/-! rows of plain values in the heap -/
inductive Lf where
  | s (x : Str)
  | i (n : Int)
def Lf.v : Lf → V
  | .s x => .str x
  | .i n => .int n
def Lf.d : Lf → PyData
  | .s x => .str x
  | .i n => .int n
/-- tuples stay -/
def TupS (H H' : Hp) : Prop := ∀ b xs, H b = some (.tup xs) → H' b = some (.tup xs)
theorem tupsOf {H H' : Hp} (S : Same H H') : TupS H H' := fun b xs e => S b _ e
theorem TupS.trans {H H1 H2 : Hp} (a : TupS H H1) (b : TupS H1 H2) : TupS H H2 := fun c xs e => b c xs (a c xs e)
theorem tups_lst {H : Hp} {l : Addr} {xs : List V} (e : H l = some (.lst xs)) (ys : List V) : TupS H (upd H l (.lst ys)) := fun b zs eb => by
  have : b ≠ l := fun q => by subst q; rw [e] at eb; cases eb
  rw [upd_ne this]; exact eb
def IsT (H : Hp) (v : V) (r : List Lf) : Prop := ∃ a, v = .ref a ∧ H a = some (.tup (r.map Lf.v))
inductive ITs (H : Hp) : List V → List (List Lf) → Prop
  | nil : ITs H [] []
  | cons {v : V} {vs : List V} {r : List Lf} {rs : List (List Lf)} : IsT H v r → ITs H vs rs → ITs H (v :: vs) (r :: rs)
theorem IsT.mono {H H' : Hp} {v : V} {r : List Lf} (S : TupS H H') (h : IsT H v r) : IsT H' v r := by
  obtain ⟨a, e, h⟩ := h
  exact ⟨a, e, S _ _ h⟩
theorem ITs.mono {H H' : Hp} (S : TupS H H') : ∀ {vs : List V} {rs : List (List Lf)}, ITs H vs rs → ITs H' vs rs
  | _, _, .nil => .nil
  | _, _, .cons h t => .cons (h.mono S) (t.mono S)
theorem ITs.append {H : Hp} : ∀ {vs us : List V} {rs qs : List (List Lf)}, ITs H vs rs → ITs H us qs → ITs H (vs ++ us) (rs ++ qs)
  | _, _, _, _, .nil, q => q
  | _, _, _, _, .cons h t, q => .cons h (t.append q)
theorem ITs.one {H : Hp} {v : V} {r : List Lf} (h : IsT H v r) : ITs H [v] [r] := .cons h .nil
theorem ITs.reverse {H : Hp} : ∀ {vs : List V} {rs : List (List Lf)}, ITs H vs rs → ITs H vs.reverse rs.reverse
  | _, _, .nil => .nil
  | _, _, .cons h t => by rw [List.reverse_cons, List.reverse_cons]; exact t.reverse.append (.one h)
theorem ITs.length {H : Hp} : ∀ {vs : List V} {rs : List (List Lf)}, ITs H vs rs → vs.length = rs.length
  | _, _, .nil => rfl
  | _, _, .cons _ t => congrArg (· + 1) t.length
theorem ITs.get {H : Hp} : ∀ {vs : List V} {rs : List (List Lf)} {i : Nat} {v : V}, ITs H vs rs → vs[i]? = some v → ∃ r, rs[i]? = some r ∧ IsT H v r
  | _, _, 0, _, .cons (r := r) h _, e => by cases e; exact ⟨r, rfl, h⟩
  | _, _, i + 1, _, .cons _ t, e => t.get (i := i) e
  | _, _, _, _, .nil, e => by simp at e
/-! a road as the document tells it -/
structure Rd where
  first : Int
  bs : List (Br × Int)
  rounds : List (Str × Int)
  shuts : List (Str × Int × Int)
def opR (l : Int) : List Lf := [.s "open", .i l]
def brR (b : Br) : List Lf := [.s "bridge", .s b.name, .i b.len, .i b.bears, .i b.wide, .i b.most]
def bsR : List (Br × Int) → List (List Lf)
  | [] => []
  | (b, o) :: r => brR b :: opR o :: bsR r
def pcR (first : Int) (bs : List (Br × Int)) : List (List Lf) := opR first :: bsR bs
theorem bsR_app : ∀ (bs : List (Br × Int)) (b : Br) (o : Int), bsR (bs ++ [(b, o)]) = bsR bs ++ [brR b, opR o]
  | [], _, _ => rfl
  | (c, p) :: r, b, o => by
    show brR c :: opR p :: bsR (r ++ [(b, o)]) = _
    rw [bsR_app r b o]
    rfl
theorem bsR_len : ∀ bs : List (Br × Int), (bsR bs).length = 2 * bs.length
  | [] => rfl
  | (c, p) :: r => by
    show (bsR r).length + 1 + 1 = 2 * (r.length + 1)
    rw [bsR_len r]
    omega
def rdR (r : Str × Int) : List Lf := [.s r.1, .i r.2]
def shR (r : Str × Int × Int) : List Lf := [.s r.1, .i r.2.1, .i r.2.2]
structure Rd.WF (R : Rd) (nm : Nat → Str) : Prop where
  ok : NmOk nm
  n0 : 1 ≤ R.bs.length
  n1 : R.bs.length ≤ 6
  f0 : 200 ≤ R.first
  f1 : R.first ≤ 1000
  br : ∀ (j : Nat) (b : Br) (o : Int), R.bs[j]? = some (b, o) → b.name = nm j ∧ b.In ∧ 200 ≤ o ∧ o ≤ 1000
  rn : ∀ r ∈ R.rounds, (∃ j, j < R.bs.length ∧ r.1 = nm j) ∧ 1 ≤ r.2 ∧ r.2 ≤ 1000
  rd : (R.rounds.map (·.1)).Nodup
  rl : R.rounds.length ≤ R.bs.length
  sn : ∀ r ∈ R.shuts, (∃ j, j < R.bs.length ∧ r.1 = nm j) ∧ 0 ≤ r.2.1 ∧ r.2.1 < r.2.2 ∧ r.2.2 ≤ 10000
  sl : R.shuts.length ≤ 64
structure IsPt (H : Hp) (v : V) (nm : Nat → Str) (R : Rd) : Prop where
  ex : ∃ t ln lp lr ls vs us ws, v = .ref t ∧ H t = some (.tup [.ref ln, .ref lp, .ref lr, .ref ls]) ∧ H ln = some (.lst (nmV nm)) ∧ H lp = some (.lst vs) ∧ ITs H vs (pcR R.first R.bs) ∧ H lr = some (.lst us) ∧ ITs H us (R.rounds.map rdR) ∧ H ls = some (.lst ws) ∧ ITs H ws (R.shuts.map shR)
def sp_law_parts (K : PySem.W.Frag) : Sp := fun vs H Q _ => ∃ (a : Addr) (ns : List Int), vs = [.ref a] ∧ SqL K H a (ns.map V.int) ∧ ns.length ≤ 63 ∧ ∀ nm R v H', Same H H' → R.WF nm → IsPt H' v nm R → Q v H'
theorem nm_at {nm : Nat → Str} {i : Nat} (h : i < 8) : atI (nmV nm) (i : Int) = some (.str (nm i)) := atI_nat (by unfold nmV; rw [List.getElem?_map, List.getElem?_range h]; rfl)
section
variable {P : Program} {w : World} {K : PySem.W.Frag} {mg : Str → Option Value} {base : Heap}
/-- what stands while the parts are drawn -/
structure Pp (H0 : Hp) (nm : Nat → Str) (ln lp lr : Addr) (first : Int) (H : Hp) (bs : List (Br × Int)) (rds : List (Str × Int)) : Prop where
  S : Same H0 H
  f1 : H0 lp = none
  f2 : H0 lr = none
  d1 : lp ≠ ln
  d2 : lp ≠ lr
  d3 : lr ≠ ln
  ln : H ln = some (.lst (nmV nm))
  lp : ∃ vs, H lp = some (.lst vs) ∧ ITs H vs (pcR first bs)
  lr : ∃ us, H lr = some (.lst us) ∧ ITs H us (rds.map rdR)
  br : ∀ (j : Nat) (b : Br) (o : Int), bs[j]? = some (b, o) → b.name = nm j ∧ b.In ∧ 200 ≤ o ∧ o ≤ 1000
  rn : ∀ r ∈ rds, (∃ j, j < bs.length ∧ r.1 = nm j) ∧ 1 ≤ r.2 ∧ r.2 ≤ 1000
  rd : (rds.map (·.1)).Nodup
  rl : rds.length ≤ bs.length
section
variable {H0 : Hp} {nm : Nat → Str} {ln lp lr : Addr} {first : Int} {H H' : Hp} {bs : List (Br × Int)} {rds : List (Str × Int)}
theorem Pp.mono (p : Pp H0 nm ln lp lr first H bs rds) (S : Same H H') : Pp H0 nm ln lp lr first H' bs rds := by
  obtain ⟨s, f1, f2, d1, d2, d3, l, ⟨vs, e1, i1⟩, ⟨us, e2, i2⟩, h1, h2, h3, h4⟩ := p
  exact ⟨s.trans S, f1, f2, d1, d2, d3, S _ _ l, ⟨vs, S _ _ e1, i1.mono (tupsOf S)⟩, ⟨us, S _ _ e2, i2.mono (tupsOf S)⟩, h1, h2, h3, h4⟩
theorem Pp.add {vs : List V} {v u : V} {b : Br} {o : Int} (p : Pp H0 nm ln lp lr first H bs rds) (e : H lp = some (.lst vs)) (i1 : ITs H vs (pcR first bs)) (k : ∀ c w, c ≠ lp → H c = some w → H' c = some w) (el : H' lp = some (.lst (vs ++ [v] ++ [u])))
    (hv : IsT H' v (brR b)) (hu : IsT H' u (opR o)) (bn : b.name = nm bs.length) (bi : b.In) (o0 : 200 ≤ o) (o1 : o ≤ 1000) : Pp H0 nm ln lp lr first H' (bs ++ [(b, o)]) rds := by
  obtain ⟨s, f1, f2, d1, d2, d3, l, _, ⟨us, e2, i2⟩, h1, h2, h3, h4⟩ := p
  have T : TupS H H' := fun c xs ec => k c _ (fun q => by subst q; rw [e] at ec; cases ec) ec
  refine ⟨fun c w ec => k c w (ne_of_none ec f1) (s _ _ ec), f1, f2, d1, d2, d3, k _ _ d1.symm l, ⟨_, el, ?_⟩, ⟨us, k _ _ d2.symm e2, i2.mono T⟩, fun j b' o' ej => ?_, fun r hr => ?_, h3, ?_⟩
  · show ITs H' _ (opR first :: bsR (bs ++ [(b, o)]))
    rw [bsR_app, List.append_assoc]
    exact (i1.mono T).append (.cons hv (.one hu))
  · by_cases hj : j < bs.length
    · rw [List.getElem?_append_left hj] at ej
      exact h1 j b' o' ej
    · rw [List.getElem?_append_right (by omega)] at ej
      have : j - bs.length = 0 := by
        cases q : j - bs.length with
        | zero => rfl
        | succ n => rw [q] at ej; simp at ej
      rw [this] at ej
      cases ej
      have ej' : j = bs.length := by omega
      subst ej'
      exact ⟨bn, bi, o0, o1⟩
  · obtain ⟨⟨j, hj, ej⟩, r0⟩ := h2 r hr
    exact ⟨⟨j, by rw [List.length_append, List.length_singleton]; omega, ej⟩, r0⟩
  · rw [List.length_append, List.length_singleton]; omega
theorem Pp.round {us : List V} {v : V} {q : Int} {i : Nat} (p : Pp H0 nm ln lp lr first H bs rds) (ok : NmOk nm) (hi : i + 1 = bs.length) (hi8 : i < 8) (old : ∀ r ∈ rds, ∃ j, j < i ∧ r.1 = nm j) (rl : rds.length ≤ i) (e : H lr = some (.lst us)) (i2 : ITs H us (rds.map rdR))
    (k : ∀ c w, c ≠ lr → H c = some w → H' c = some w) (el : H' lr = some (.lst (us ++ [v]))) (hv : IsT H' v (rdR (nm i, q))) (q0 : 1 ≤ q) (q1 : q ≤ 1000) : Pp H0 nm ln lp lr first H' bs (rds ++ [(nm i, q)]) := by
  obtain ⟨s, f1, f2, d1, d2, d3, l, ⟨vs, e1, i1⟩, _, h1, h2, h3, h4⟩ := p
  have T : TupS H H' := fun c xs ec => k c _ (fun q => by subst q; rw [e] at ec; cases ec) ec
  refine ⟨fun c w ec => k c w (ne_of_none ec f2) (s _ _ ec), f1, f2, d1, d2, d3, k _ _ d3.symm l, ⟨vs, k _ _ d2 e1, i1.mono T⟩, ⟨_, el, ?_⟩, h1, fun r hr => ?_, ?_, ?_⟩
  · rw [List.map_append]
    exact (i2.mono T).append (.one hv)
  · rcases List.mem_append.mp hr with hr | hr
    · exact h2 r hr
    · cases List.mem_singleton.mp hr
      exact ⟨⟨i, by omega, rfl⟩, q0, q1⟩
  · rw [List.map_append, List.nodup_append]
    refine ⟨h3, by simp, fun x hx y hy => ?_⟩
    obtain ⟨r, hr, rfl⟩ := List.mem_map.mp hx
    obtain ⟨j, hj, ej⟩ := old r hr
    have hy' : y = nm i := by simpa using hy
    subst hy'
    intro z
    rw [ej] at z
    have := ok.inj j i (by omega) hi8 z
    omega
  · rw [List.length_append, List.length_singleton]; omega
theorem Pp.rev {us : List V} (p : Pp H0 nm ln lp lr first H bs rds) (e : H lr = some (.lst us)) (i2 : ITs H us (rds.map rdR)) : Pp H0 nm ln lp lr first (upd H lr (.lst us.reverse)) bs rds.reverse := by
  obtain ⟨s, f1, f2, d1, d2, d3, l, ⟨vs, e1, i1⟩, _, h1, h2, h3, h4⟩ := p
  have T := tups_lst e us.reverse
  refine ⟨fun c w ec => by rw [upd_ne (ne_of_none ec f2)]; exact s _ _ ec, f1, f2, d1, d2, d3, by rw [upd_ne d3.symm]; exact l, ⟨vs, by rw [upd_ne d2]; exact e1, i1.mono T⟩, ⟨_, upd_same, ?_⟩, h1, fun r hr => h2 r (List.mem_reverse.mp hr), ?_, by rw [List.length_reverse]; exact h4⟩
  · rw [List.map_reverse]
    exact (i2.mono T).reverse
  · rw [List.map_reverse]
    exact List.pairwise_reverse.mpr (h3.imp fun h => Ne.symm h)
end
end
theorem cut_map {ns : List Int} {lo hi : Option Int} : ∃ ms : List Int, cutV (ns.map V.int) lo hi = ms.map V.int ∧ ms.length ≤ ns.length := by
  refine ⟨(ns.drop (HT.sIx (ns.map V.int).length 0 lo)).take (HT.sIx (ns.map V.int).length (ns.map V.int).length hi - HT.sIx (ns.map V.int).length 0 lo), ?_, ?_⟩
  · unfold cutV
    rw [List.map_take, List.map_drop]
  · rw [List.length_take, List.length_drop]
    omega
section
variable {P : Program} {w : World} {K : PySem.W.Frag} {mg : Str → Option Value} {base : Heap}
/-- what stands while the shut hours are drawn -/
structure Ps (H0 : Hp) (nm : Nat → Str) (ln lp lr ls : Addr) (first : Int) (H : Hp) (bs : List (Br × Int)) (rds : List (Str × Int)) (shs : List (Str × Int × Int)) : Prop where
  p : Pp H0 nm ln lp lr first H bs rds
  f : H0 ls = none
  e1 : ls ≠ ln
  e2 : ls ≠ lp
  e3 : ls ≠ lr
  ls : ∃ ws, H ls = some (.lst ws) ∧ ITs H ws (shs.map shR)
  sn : ∀ r ∈ shs, (∃ j, j < bs.length ∧ r.1 = nm j) ∧ 0 ≤ r.2.1 ∧ r.2.1 < r.2.2 ∧ r.2.2 ≤ 10000
section
variable {H0 : Hp} {nm : Nat → Str} {ln lp lr ls : Addr} {first : Int} {H H' : Hp} {bs : List (Br × Int)} {rds : List (Str × Int)} {shs : List (Str × Int × Int)}
theorem Ps.mono (p : Ps H0 nm ln lp lr ls first H bs rds shs) (S : Same H H') : Ps H0 nm ln lp lr ls first H' bs rds shs := by
  obtain ⟨p, f, e1, e2, e3, ⟨ws, e, i⟩, s⟩ := p
  exact ⟨p.mono S, f, e1, e2, e3, ⟨ws, S _ _ e, i.mono (tupsOf S)⟩, s⟩
theorem Ps.add {ws : List V} {v : V} {r : Str × Int × Int} (p : Ps H0 nm ln lp lr ls first H bs rds shs) (e : H ls = some (.lst ws)) (i : ITs H ws (shs.map shR)) (hv : IsT H v (shR r)) (hr : (∃ j, j < bs.length ∧ r.1 = nm j) ∧ 0 ≤ r.2.1 ∧ r.2.1 < r.2.2 ∧ r.2.2 ≤ 10000) :
    Ps H0 nm ln lp lr ls first (upd H ls (.lst (ws ++ [v]))) bs rds (shs ++ [r]) := by
  obtain ⟨⟨s, f1, f2, d1, d2, d3, l, ⟨vs, x1, i1⟩, ⟨us, x2, i2⟩, h1, h2, h3, h4⟩, f, e1, e2, e3, _, sn⟩ := p
  have T := tups_lst e (ws ++ [v])
  refine ⟨⟨fun c w ec => by rw [upd_ne (ne_of_none ec f)]; exact s _ _ ec, f1, f2, d1, d2, d3, by rw [upd_ne e1.symm]; exact l, ⟨vs, by rw [upd_ne e2.symm]; exact x1, i1.mono T⟩, ⟨us, by rw [upd_ne e3.symm]; exact x2, i2.mono T⟩, h1, h2, h3, h4⟩, f, e1, e2, e3, ⟨_, upd_same, ?_⟩, fun q hq => ?_⟩
  · rw [List.map_append]
    exact (i.mono T).append (.one (hv.mono T))
  · rcases List.mem_append.mp hq with hq | hq
    · exact sn q hq
    · cases List.mem_singleton.mp hq
      exact hr
end
theorem parts_tail {a : Addr} {ns : List Int} {c mn : Int} {H0 H : Hp} {nm : Nat → Str} {ln lp lr : Addr} {first : Int} {bs : List (Br × Int)} {rds : List (Str × Int)} {s6 s7 : Option V} {D : Ends} (hS : SqL K H0 a (ns.map V.int)) (hlen : ns.length ≤ 63) (p : Pp H0 nm ln lp lr first H bs rds) (hb : (bs.length : Int) = mn) (m0 : 1 ≤ mn) (m1 : mn ≤ 6) (ok : NmOk nm) (a0 : 200 ≤ first) (a1 : first ≤ 1000)
    (k : ∀ nm R v H', Same H0 H' → R.WF nm → IsPt H' v nm R → D.rt v H') :
    (tSeq (tAsg (tLst tNil) (gName 8))
      (tSeq (tFor (iEnum K (tCons (tOp rAddG (tLst (tCons (tVar 1) tNil)) (tSl (rSlX K) (tVar 0) (tPart (tC (.int 7))) (tPart (tC (.int 13))))) tNil)) (gTup K 2 (gCons (gName 6) (gCons (gName 9) gNil))) (tSeq (tAsg (tCall (sp_law_mix K) [] E0 (tCons (tVar 9) (tCons (tOp rAddG (tC (.int 47)) (tVar 6)) (tCons (tC (.int 1000033)) tNil)))) (gName 10))
      (tSeq (tAsg (tOp (rIx K) (tLst (tCons (tC (.int 0)) (tCons (tOp rMod (tOp rFdiv (tVar 10) (tC (.int 12))) (tC (.int 10000))) (tCons (tC (.int 9999)) tNil)))) (tOp rMod (tVar 10) (tC (.int 3)))) (gName 11))
      (tSeq (tAsg (tOp (rIx K) (tLst (tCons (tOp rAddG (tVar 11) (tC (.int 1))) (tCons (tC (.int 10000)) (tCons (tOp rAddG (tOp rAddG (tVar 11) (tC (.int 1))) (tOp rMod (tOp rFdiv (tVar 10) (tC (.int 40))) (tOp rSubI (tC (.int 10000)) (tVar 11)))) tNil)))) (tOp rMod (tOp rFdiv (tVar 10) (tC (.int 3))) (tC (.int 3)))) (gName 12))
      (tIfS (tTest (tOp rGt (tOp rMod (tOp rFdiv (tVar 10) (tC (.int 9))) (tC (.int 3))) (tC (.int 0)))) (tDrop (tBM K "list" rAppend (tVar 8) (tCons (tTup (tCons (tOp (rIx K) (tVar 2) (tOp rMod (tOp rFdiv (tVar 10) (tC (.int 27))) (tVar 3))) (tCons (tVar 11) (tCons (tVar 12) tNil)))) tNil))) tNext)))))
      (tRet (tTup (tCons (tVar 2) (tCons (tVar 4) (tCons (tVar 5) (tCons (tVar 8) tNil)))))))) D [some (.ref a), some (.int c), some (.ref ln), some (.int mn), some (.ref lp), some (.ref lr), s6, s7, none, none, none, none, none] H := by
  refine ⟨(by show 0 ≤ sizeLine; decide), fun ls hls => ?_⟩
  have pn : H0 ls = none := by
    cases q : H0 ls with
    | none => rfl
    | some o => have := p.S _ _ q; rw [hls] at this; cases this
  have ps : Ps H0 nm ln lp lr ls first (upd H ls (.lst [])) bs rds [] := by
    have q := p.mono (same_new hls (.lst []))
    obtain ⟨vs, x1, _⟩ := p.lp
    obtain ⟨us, x2, _⟩ := p.lr
    exact ⟨q, pn, (ne_of_none p.ln hls).symm, (ne_of_none x1 hls).symm, (ne_of_none x2 hls).symm, ⟨[], upd_same, .nil⟩, fun r hr => by cases hr⟩
  generalize upd H ls (.lst []) = H1 at ps ⊢
  obtain ⟨ms, em, lm⟩ := cut_map (ns := ns) (lo := some 7) (hi := some 13)
  refine ⟨_, rfl, (by show 1 ≤ sizeLine; decide), fun l1 hl1 => ⟨_, rfl, _, rfl, _, rfl, .inl ⟨a, _, rfl, (same_new hl1 _).seq (ps.p.S.seq hS), fun l2 hl2 => ?_⟩⟩⟩
  rw [em]
  refine .inr (.inr ⟨l1, l2, _, _, rfl, rfl, (same_new hl2 _) _ _ upd_same, upd_same, ?_, fun l3 hl3 => ?_⟩)
  · rw [List.length_map]
    exact small_line (by show 1 + ms.length ≤ 1000; omega)
  have N := fun o => ((same_new hl1 _).trans (same_new hl2 _)).trans (same_new hl3 o)
  have q2 := ps.mono (N (.lst ([V.int c] ++ ms.map V.int)))
  have D3 : (upd (upd (upd H1 l1 (.lst [V.int c])) l2 (.lst (ms.map V.int))) l3 (.lst ([V.int c] ++ ms.map V.int))) l3 = _ := upd_same
  generalize upd (upd (upd H1 l1 (.lst [V.int c])) l2 (.lst (ms.map V.int))) l3 (.lst ([V.int c] ++ ms.map V.int)) = H2 at q2 D3 ⊢
  have nl : ls ≠ l3 := by
    intro z; subst z
    obtain ⟨ws, e, _⟩ := ps.ls
    have e' := ((same_new hl1 (.lst [V.int c])).trans (same_new hl2 (.lst (ms.map V.int)))) _ _ e
    rw [hl3] at e'; cases e'
  refine ⟨l3, _, rfl, SqL.of D3, for_enum (fun i σ H' => (∃ t6 t9 t10 t11 t12, σ = [some (.ref a), some (.int c), some (.ref ln), some (.int mn), some (.ref lp), some (.ref lr), t6, s7, some (.ref ls), t9, t10, t11, t12]) ∧ H' l3 = some (.lst ([V.int c] ++ ms.map V.int)) ∧ ∃ shs, shs.length ≤ i ∧ Ps H0 nm ln lp lr ls first H' bs rds shs)
    ⟨⟨_, _, _, _, _, rfl⟩, D3, [], Nat.le_refl _, q2⟩ (fun i σ H' hP => SqL.of hP.2.1) (fun i T x σ H' hx hT hP => ?_) (fun σ H' hP => ?_)⟩
  · obtain ⟨⟨t6, t9, t10, t11, t12, rfl⟩, E3, shs, hsl, q⟩ := hP
    have hx' : ((c :: ms).map V.int)[i]? = some x := hx
    rw [List.getElem?_map] at hx'
    obtain ⟨xi, exi, rfl⟩ := Option.map_eq_some_iff.mp hx'
    have hi : i < (c :: ms).length := (List.getElem?_eq_some_iff.mp exi).1
    have hi' : i < 64 := by rw [List.length_cons] at hi; omega
    refine ⟨T, _, rfl, SqT.of upd_same, rfl, _, _, rfl, _, _, rfl, rfl, ?_⟩
    have q3 := q.mono (same_new hT (.tup [.int i, .int xi]))
    have E4 := (same_new hT (.tup [.int i, .int xi])) _ _ E3
    generalize upd H' T (.tup [.int i, .int xi]) = H3 at q3 E4 ⊢
    refine ⟨_, rfl, _, rfl, .inl ⟨_, _, rfl, rfl, xi, _, 1000033, rfl, bits_of (by omega) (by omega), by decide, by decide, fun m u0 u1 => ?_⟩⟩
    obtain ⟨bg, hbg, b0, b1⟩ := pick3 (lo := 0) (hi := 9999) (a := 0) (b := m / 12 % 10000) (c := 9999) (i := m % 3) (by omega) (by omega) (by omega) (by omega) (by omega)
    refine ⟨_, rfl, _, _, rfl, rfl, ⟨by decide, by decide⟩, _, _, rfl, rfl, (lt0 rfl), (by show 3 ≤ sizeLine; decide), fun p1 h1 => ?_⟩
    refine ⟨_, rfl, _, _, rfl, rfl, (lt0 rfl), .inl ⟨p1, _, _, _, rfl, rfl, SqL.of upd_same, hbg, ?_⟩⟩
    have g0 := Int.emod_nonneg (m / 40) (show 10000 - bg ≠ 0 by omega)
    have g1 := Int.emod_lt_of_pos (m / 40) (show 0 < 10000 - bg by omega)
    obtain ⟨en, hen, n0, n1⟩ := pick3 (lo := bg + 1) (hi := 10000) (a := bg + 1) (b := 10000) (c := bg + 1 + m / 40 % (10000 - bg)) (i := m / 3 % 3) (by omega) (by omega) (by omega) (by omega) (by omega)
    refine ⟨_, rfl, .inl ⟨_, _, rfl, rfl, _, rfl, .inl ⟨_, _, rfl, rfl, _, rfl, _, _, rfl, rfl, ⟨by decide, by decide⟩, _, rfl, _, _, rfl, rfl, _, _, rfl, rfl, (by show 0 < 10000 - bg; omega), .inl ⟨_, _, rfl, rfl, (by show 3 ≤ sizeLine; decide), fun p2 h2 => ?_⟩⟩⟩⟩
    refine ⟨_, rfl, _, _, rfl, rfl, ⟨by decide, by decide⟩, _, _, rfl, rfl, (lt0 rfl), .inl ⟨p2, _, _, _, rfl, rfl, SqL.of upd_same, hen, ?_⟩⟩
    have N3 := fun o => (same_new h1 _).trans (same_new h2 o)
    refine ⟨_, rfl, _, _, rfl, rfl, ⟨by decide, by decide⟩, _, _, rfl, rfl, (lt0 rfl), _, _, rfl, rfl, _, rfl, ?_⟩
    refine ite2 (fun cc => ?_) (fun cc => ?_)
    · have q4 := q3.mono (N3 (.lst [.int (bg + 1), .int 10000, .int (bg + 1 + m / 40 % (10000 - bg))]))
      have E5 := (N3 (.lst [.int (bg + 1), .int 10000, .int (bg + 1 + m / 40 % (10000 - bg))])) _ _ E4
      generalize upd (upd H3 p1 (.lst [.int 0, .int (m / 12 % 10000), .int 9999])) p2 (.lst [.int (bg + 1), .int 10000, .int (bg + 1 + m / 40 % (10000 - bg))]) = H4 at q4 E5 ⊢
      obtain ⟨ws, ew, iw⟩ := q4.ls
      have v0 := Int.emod_nonneg (m / 27) (show mn ≠ 0 by omega)
      have v1 := Int.emod_lt_of_pos (m / 27) (show 0 < mn by omega)
      obtain ⟨j, ej⟩ := Int.eq_ofNat_of_zero_le v0
      have hj : j < bs.length := by omega
      refine ⟨_, rfl, .inl ⟨rfl, _, SqL.of ew⟩, _, rfl, _, rfl, _, _, rfl, rfl, ⟨by decide, by decide⟩, _, rfl, _, _, rfl, rfl, (by show 0 < mn; omega), .inl ⟨ln, _, _, .str (nm j), rfl, rfl, SqL.of q4.p.ln, by rw [ej]; exact nm_at (by omega), ?_⟩⟩
      refine ⟨_, rfl, _, rfl, (by show 3 ≤ sizeLine; decide), fun t ht => ⟨ls, ws, _, rfl, rfl, (same_new ht _) _ _ ew, ?_, ?_⟩⟩
      · have := iw.length
        rw [List.length_map] at this
        exact small1000 (by omega)
      · have q5 := q4.mono (same_new ht (.tup [.str (nm j), .int bg, .int en]))
        refine ⟨⟨_, _, _, _, _, rfl⟩, ?_, shs ++ [(nm j, bg, en)], by rw [List.length_append, List.length_singleton]; omega, q5.add ((same_new ht _) _ _ ew) (iw.mono (tupsOf (same_new ht _))) ⟨t, rfl, upd_same⟩ ⟨⟨j, hj, rfl⟩, b0, by show bg < en; omega, n1⟩⟩
        rw [upd_ne nl.symm]
        exact (same_new ht _) _ _ E5
    · exact ⟨⟨_, _, _, _, _, rfl⟩, (N3 _) _ _ E4, shs, by omega, q3.mono (N3 _)⟩
  · obtain ⟨⟨t6, t9, t10, t11, t12, rfl⟩, E3, shs, hsl, q⟩ := hP
    refine ⟨_, rfl, _, rfl, _, rfl, _, rfl, (by show 4 ≤ sizeLine; decide), fun t ht => ?_⟩
    have S := same_new ht (.tup [.ref ln, .ref lp, .ref lr, .ref ls])
    obtain ⟨pp, f, e1, e2, e3, ⟨ws, ew, iw⟩, sn⟩ := q.mono S
    obtain ⟨vs, x1, i1⟩ := pp.lp
    obtain ⟨us, x2, i2⟩ := pp.lr
    refine k nm ⟨first, bs, rds, shs⟩ _ _ pp.S ⟨ok, by show 1 ≤ bs.length; omega, by show bs.length ≤ 6; omega, a0, a1, pp.br, pp.rn, pp.rd, pp.rl, sn, ?_⟩ ⟨t, ln, lp, lr, ls, vs, us, ws, rfl, upd_same, pp.ln, x1, i1, x2, i2, ew, iw⟩
    show shs.length ≤ 64
    have : (([V.int c] ++ ms.map V.int).length) = 1 + ms.length := by simp; omega
    omega
/-- 0 _law_script 1 _law_cell_here 2 _law_names_here 3 _law_many 4 _law_pieces_here 5 _law_rounds 6 _law_k 7 _law_own 8 _law_shuts 9 _law_one 10 _law_drawn 11 _law_begin 12 _law_end -/
theorem ok_law_parts {f : Addr} {fd : FuncData} (F : Fun K "_law_parts" "_law_parts" s_law_parts f fd) (g_law_cell : Got P w K mg base 1 "_law_cell" ["_law_script", "_law_k"] (sp_law_cell K)) (g_law_names : Got P w K mg base 2 "_law_names" ["_law_cell_here"] (sp_law_names K)) (g_law_mix : Got P w K mg base 1 "_law_mix" ["_law_cell_here", "_law_one", "_law_prime"] (sp_law_mix K)) (g_law_long : Got P w K mg base 2 "_law_long" ["_law_cell_here", "_law_one", "_law_least"] (sp_law_long K)) (g_law_bridge : Got P w K mg base 3 "_law_bridge" ["_law_cell_here", "_law_name"] (sp_law_bridge K)) (z_range : mg "range" = none) (z_enumerate : mg "enumerate" = none) :
    FnOk P w K mg base CX0 4 f fd ["_law_script"] (sp_law_parts K) := by
  refine F.ok sc_law_parts (fun vs H Q E h => ?_) (fun cdv A outer s H vs Q E hr h => ?_)
  · obtain ⟨a, ns, rfl, _⟩ := h
    rfl
  obtain ⟨a, ns, rfl, hS, hlen, k⟩ := h
  have hu := hr.units
  refine ⟨_, (pss_cons (ps_set (i := 1) sc_law_parts.nd rfl (by first | exact Or.inl rfl | exact Or.inr rfl) (pe_go g_law_cell hr (by first | decide | omega) rfl (pa_cons (pv 0) (pa_cons pe_int pa_nil))))
      (pss_cons (ps_set (i := 2) sc_law_parts.nd rfl (by first | exact Or.inl rfl | exact Or.inr rfl) (pe_go g_law_names hr (by first | decide | omega) rfl (pa_cons (pv 1) pa_nil)))
      (pss_cons (ps_set (i := 3) sc_law_parts.nd rfl (by first | exact Or.inl rfl | exact Or.inr rfl) (pe_op op_addG pe_int (pe_op op_mod (pe_go g_law_mix hr (by first | decide | omega) rfl (pa_cons (pv 1) (pa_cons pe_int (pa_cons pe_int pa_nil)))) pe_int)))
      (pss_cons (ps_set (i := 4) sc_law_parts.nd rfl (by first | exact Or.inl rfl | exact Or.inr rfl) (pe_lst (pa_cons (pe_tup (pa_cons pe_str (pa_cons (pe_go g_law_long hr (by first | decide | omega) rfl (pa_cons (pv 1) (pa_cons pe_int (pa_cons pe_int pa_nil)))) pa_nil))) pa_nil)))
      (pss_cons (ps_set (i := 5) sc_law_parts.nd rfl (by first | exact Or.inl rfl | exact Or.inr rfl) (pe_lst pa_nil))
      (pss_cons (ps_for PassesOwn.never rfl (pi_range1 rfl z_range (pa_cons (pv 3) pa_nil)) (pg_name (i := 6) sc_law_parts.nd rfl (by first | exact Or.inl rfl | exact Or.inr rfl)) (pss_cons (ps_set (i := 7) sc_law_parts.nd rfl (by first | exact Or.inl rfl | exact Or.inr rfl) (pe_op op_addG (pe_go g_law_cell hr (by first | decide | omega) rfl (pa_cons (pv 0) (pa_cons (pe_op op_addG pe_int (pv 6)) pa_nil))) (pe_op op_mulX pe_int (pv 6))))
      (pss_cons (ps_expr (pe_bm PySem.F.plainAttrs_list PySem.F.slot_list_append PySem.F.type_list_append mt_append (pv 4) (pa_cons (pe_go g_law_bridge hr (by first | decide | omega) rfl (pa_cons (pv 7) (pa_cons (pe_ix ix_seq (pv 2) (pv 6) (fun _ _ => rfl)) pa_nil))) pa_nil)))
      (pss_cons (ps_expr (pe_bm PySem.F.plainAttrs_list PySem.F.slot_list_append PySem.F.type_list_append mt_append (pv 4) (pa_cons (pe_tup (pa_cons pe_str (pa_cons (pe_go g_law_long hr (by first | decide | omega) rfl (pa_cons (pv 7) (pa_cons pe_int (pa_cons pe_int pa_nil)))) pa_nil))) pa_nil)))
      (pss_one (ps_if (pt_cmpR (op_eqG hu) (pe_op op_mod (pe_go g_law_mix hr (by first | decide | omega) rfl (pa_cons (pv 7) (pa_cons pe_int (pa_cons pe_int pa_nil)))) pe_int) pe_int (nomark _)) (pss_one (ps_expr (pe_bm PySem.F.plainAttrs_list PySem.F.slot_list_append PySem.F.type_list_append mt_append (pv 5) (pa_cons (pe_tup (pa_cons (pe_ix ix_seq (pv 2) (pv 6) (fun _ _ => rfl)) (pa_cons (pe_go g_law_long hr (by first | decide | omega) rfl (pa_cons (pv 7) (pa_cons pe_int (pa_cons pe_int pa_nil)))) pa_nil))) pa_nil)))) pss_nil))))))
      (pss_cons (ps_if (pt_cmpR (op_eqG hu) (pe_op op_mod (pe_go g_law_mix hr (by first | decide | omega) rfl (pa_cons (pv 1) (pa_cons pe_int (pa_cons pe_int pa_nil)))) pe_int) pe_int (nomark _)) (pss_one (ps_expr (pe_bm0 PySem.F.plainAttrs_list PySem.F.slot_list_reverse PySem.F.type_list_reverse mt_reverse (pv 5)))) pss_nil)
      (pss_cons (ps_set (i := 8) sc_law_parts.nd rfl (by first | exact Or.inl rfl | exact Or.inr rfl) (pe_lst pa_nil))
      (pss_cons (ps_for PassesOwn.never rfl (pi_enum rfl z_enumerate (pa_cons (pe_op op_addG (pe_lst (pa_cons (pv 1) pa_nil)) (pe_slice slX (pv 0) (po_some pe_int) (po_some pe_int))) pa_nil)) (pg_tup rfl (pgs_cons (pg_name (i := 6) sc_law_parts.nd rfl (by first | exact Or.inl rfl | exact Or.inr rfl)) (pgs_cons (pg_name (i := 9) sc_law_parts.nd rfl (by first | exact Or.inl rfl | exact Or.inr rfl)) pgs_nil))) (pss_cons (ps_set (i := 10) sc_law_parts.nd rfl (by first | exact Or.inl rfl | exact Or.inr rfl) (pe_go g_law_mix hr (by first | decide | omega) rfl (pa_cons (pv 9) (pa_cons (pe_op op_addG pe_int (pv 6)) (pa_cons pe_int pa_nil)))))
      (pss_cons (ps_set (i := 11) sc_law_parts.nd rfl (by first | exact Or.inl rfl | exact Or.inr rfl) (pe_ix ix_seq (pe_lst (pa_cons pe_int (pa_cons (pe_op op_mod (pe_op op_fdiv (pv 10) pe_int) pe_int) (pa_cons pe_int pa_nil)))) (pe_op op_mod (pv 10) pe_int) (fun _ _ => rfl)))
      (pss_cons (ps_set (i := 12) sc_law_parts.nd rfl (by first | exact Or.inl rfl | exact Or.inr rfl) (pe_ix ix_seq (pe_lst (pa_cons (pe_op op_addG (pv 11) pe_int) (pa_cons pe_int (pa_cons (pe_op op_addG (pe_op op_addG (pv 11) pe_int) (pe_op op_mod (pe_op op_fdiv (pv 10) pe_int) (pe_op op_sub pe_int (pv 11)))) pa_nil)))) (pe_op op_mod (pe_op op_fdiv (pv 10) pe_int) pe_int) (fun _ _ => rfl)))
      (pss_one (ps_if (pt_cmpR op_gt (pe_op op_mod (pe_op op_fdiv (pv 10) pe_int) pe_int) pe_int (nomark _)) (pss_one (ps_expr (pe_bm PySem.F.plainAttrs_list PySem.F.slot_list_append PySem.F.type_list_append mt_append (pv 8) (pa_cons (pe_tup (pa_cons (pe_ix ix_seq (pv 2) (pe_op op_mod (pe_op op_fdiv (pv 10) pe_int) (pv 3)) (fun _ _ => rfl)) (pa_cons (pv 11) (pa_cons (pv 12) pa_nil)))) pa_nil)))) pss_nil))))))
      (pss_one (ps_ret (pe_tup (pa_cons (pv 2) (pa_cons (pv 4) (pa_cons (pv 5) (pa_cons (pv 8) pa_nil)))))))))))))))), ?_⟩
  refine ⟨_, rfl, a, ns, 0, rfl, hS, by decide, fun c => ?_⟩
  refine ⟨_, rfl, c, rfl, fun nm ln H1 S1 ok D1 => ?_⟩
  refine ⟨_, rfl, c, 31, 1000039, rfl, by decide, by decide, by decide, fun m m0 m1 => ⟨_, _, rfl, rfl, (lt0 rfl), .inl ⟨_, _, rfl, rfl, ?_⟩⟩⟩
  dsimp only
  have y0 : 1 ≤ 1 + m % 6 ∧ 1 + m % 6 ≤ 6 := by omega
  generalize 1 + m % 6 = mn at y0 ⊢
  refine ⟨_, rfl, c, 42, 200, rfl, by decide, by decide, by decide, fun first H2 S2 a0 a1 => ⟨(by show 2 ≤ sizeLine; decide), fun t1 ht1 => ⟨(by show 1 ≤ sizeLine; decide), fun lp hlp => ?_⟩⟩⟩
  refine ⟨(by show 0 ≤ sizeLine; decide), fun lr hlr => ?_⟩
  have F2 := S2 _ _ D1
  have F3 := (same_new ht1 (.tup [.str "open", .int first])) _ _ F2
  have F4 := (same_new hlp (.lst [.ref t1])) _ _ F3
  have base0 : Pp H nm ln lp lr first (upd (upd (upd H2 t1 (.tup [.str "open", .int first])) lp (.lst [.ref t1])) lr (.lst [])) [] [] := by
    have SS : Same H H2 := S1.trans S2
    have no : ∀ {G : Hp} {x : Addr}, Same H G → G x = none → H x = none := fun {G x} sg gx => by
      cases q : H x with
      | none => rfl
      | some o => have := sg _ _ q; rw [gx] at this; cases this
    have S3 := SS.trans (same_new ht1 (.tup [.str "open", .int first]))
    have S4 := S3.trans (same_new hlp (.lst [.ref t1]))
    have nlr : lr ≠ lp := fun z => by rw [z, upd_same] at hlr; cases hlr
    have nt : t1 ≠ lp := fun z => by rw [← z, upd_same] at hlp; cases hlp
    have nt2 : t1 ≠ lr := fun z => by rw [← z, upd_ne nt, upd_same] at hlr; cases hlr
    refine ⟨S4.trans (same_new hlr _), no S3 hlp, no S4 hlr, (ne_of_none F3 hlp).symm, nlr.symm, (ne_of_none F4 hlr).symm, (same_new hlr _) _ _ F4, ⟨[.ref t1], (same_new hlr _) _ _ upd_same, .one ⟨t1, rfl, ?_⟩⟩, ⟨[], upd_same, .nil⟩, (fun j b o ej => by simp at ej), (fun r hr => by cases hr), List.nodup_nil, Nat.le_refl _⟩
    rw [upd_ne nt2, upd_ne nt, upd_same]
    rfl
  generalize upd (upd (upd H2 t1 (.tup [.str "open", .int first])) lp (.lst [.ref t1])) lr (.lst []) = H3 at base0 ⊢
  refine ⟨_, rfl, _, rfl, by omega, by omega, for_range (fun i σ H' => (∃ s6 s7, σ = [some (.ref a), some (.int c), some (.ref ln), some (.int mn), some (.ref lp), some (.ref lr), s6, s7, none, none, none, none, none]) ∧ ∃ bs rds, bs.length = i ∧ Pp H nm ln lp lr first H' bs rds)
    ⟨⟨_, _, rfl⟩, [], [], rfl, base0⟩ (fun i σ H' hi hP => ?_) (fun σ H' hP => ?_)⟩
  · obtain ⟨⟨s6, s7, rfl⟩, bs, rds, hb, p⟩ := hP
    have hi6 : i < 6 := by omega
    refine ⟨_, rfl, _, rfl, .inl ⟨_, _, rfl, rfl, a, ns, _, rfl, p.S.seq hS, by omega, fun ow => ⟨_, rfl, .inl ⟨_, _, rfl, rfl, IntMulOk.of_left (by decide), .inl ⟨_, _, rfl, rfl, ?_⟩⟩⟩⟩⟩
    dsimp only
    generalize ow + 65537 * (0 + (i : Int)) = own
    have hnm : atI (nmV nm) (0 + (i : Int)) = some (.str (nm i)) := by rw [Int.zero_add]; exact nm_at (by omega)
    obtain ⟨vs, e1, i1⟩ := p.lp
    have vl := i1.length
    have vl2 : vs.length = 2 * bs.length + 1 := by rw [vl]; show (bsR bs).length + 1 = _; rw [bsR_len]
    refine ⟨_, rfl, .inl ⟨rfl, _, SqL.of e1⟩, _, rfl, _, rfl, _, rfl, .inl ⟨ln, _, _, _, rfl, rfl, SqL.of p.ln, hnm, own, nm i, rfl, fun b t G1 T1 bn bi ht => ⟨lp, vs, _, rfl, rfl, T1 _ _ e1, small1000 (by omega), ?_⟩⟩⟩
    have nt : t ≠ lp := fun z => by subst z; have := T1 _ _ e1; rw [ht] at this; cases this
    refine ⟨_, rfl, .inl ⟨rfl, _, SqL.of upd_same⟩, _, rfl, own, 43, 200, rfl, by decide, by decide, by decide, fun o G3 T3 o0 o1 => ⟨(by show 2 ≤ sizeLine; decide), fun t2 ht2 => ⟨lp, vs ++ [.ref t], _, rfl, rfl, (same_new ht2 _) _ _ (T3 _ _ upd_same), small1000 (by rw [List.length_append, List.length_singleton]; omega), ?_⟩⟩⟩
    have n2 : t2 ≠ lp := fun z => by rw [z, T3 _ _ upd_same] at ht2; cases ht2
    have kp : ∀ x y, x ≠ lp → H' x = some y → (upd (upd G3 t2 (.tup [.str "open", .int o])) lp (.lst (vs ++ [.ref t] ++ [.ref t2]))) x = some y := fun x y hx ex => by
      rw [upd_ne hx]
      exact (same_new ht2 _) _ _ (T3 _ _ (by rw [upd_ne hx]; exact T1 _ _ ex))
    have p2 := p.add (b := b) (o := o) e1 i1 kp upd_same ⟨t, rfl, by rw [upd_ne nt]; exact (same_new ht2 _) _ _ (T3 _ _ (by rw [upd_ne nt]; exact ht))⟩ ⟨t2, rfl, by rw [upd_ne n2, upd_same]; rfl⟩ (by rw [hb]; exact bn) bi o0 o1
    generalize upd (upd G3 t2 (.tup [.str "open", .int o])) lp (.lst (vs ++ [.ref t] ++ [.ref t2])) = G5 at p2 ⊢
    have hb2 : (bs ++ [(b, o)]).length = i + 1 := by rw [List.length_append, List.length_singleton, hb]
    refine ⟨_, rfl, own, 44, 1000081, rfl, by decide, by decide, by decide, fun m2 _ _ => ⟨_, _, rfl, rfl, (lt0 rfl), .inl ⟨_, _, rfl, rfl, _, rfl, ?_⟩⟩⟩
    refine ite2 (fun cc => ?_) (fun cc => ?_)
    · obtain ⟨us, e2, i2⟩ := p2.lr
      have ul := i2.length
      rw [List.length_map] at ul
      have rl := p.rl
      refine ⟨_, rfl, .inl ⟨rfl, _, SqL.of e2⟩, _, rfl, _, rfl, .inl ⟨ln, _, _, _, rfl, rfl, SqL.of p2.ln, hnm, _, rfl, own, 45, 1, rfl, by decide, by decide, by decide, fun q G6 T6 q0 q1 => ⟨(by show 2 ≤ sizeLine; decide), fun t3 ht3 => ⟨lr, us, _, rfl, rfl, (same_new ht3 _) _ _ (T6 _ _ e2), small1000 (by omega), ?_⟩⟩⟩⟩
      have n3 : t3 ≠ lr := fun z => by rw [z, T6 _ _ e2] at ht3; cases ht3
      refine ⟨⟨_, _, rfl⟩, _, rds ++ [(nm i, q)], hb2, p2.round (i := i) (q := q) ok (by rw [hb2]) (by omega) (fun r hr => ?_) (by omega) e2 i2 (fun x y hx ex => ?_) upd_same ⟨t3, rfl, ?_⟩ q0 q1⟩
      · obtain ⟨⟨j, hj, ej⟩, _⟩ := p.rn r hr
        exact ⟨j, by omega, ej⟩
      · rw [upd_ne hx]; exact (same_new ht3 _) _ _ (T6 _ _ ex)
      · rw [upd_ne n3, upd_same]; rfl
    · exact ⟨⟨_, _, rfl⟩, _, rds, hb2, p2⟩
  · obtain ⟨⟨s6, s7, rfl⟩, bs, rds, hb, p⟩ := hP
    have hb' : (bs.length : Int) = mn := by omega
    refine ⟨_, rfl, c, 46, 1000003, rfl, by decide, by decide, by decide, fun m2 _ _ => ⟨_, _, rfl, rfl, (lt0 rfl), .inl ⟨_, _, rfl, rfl, _, rfl, ?_⟩⟩⟩
    refine ite2 (fun cc => ?_) (fun cc => ?_)
    · obtain ⟨us, e2, i2⟩ := p.lr
      refine ⟨_, rfl, .inl ⟨rfl, _, SqL.of e2⟩, lr, us, rfl, rfl, e2, ?_⟩
      exact parts_tail hS hlen (p.rev e2 i2) hb' y0.1 y0.2 ok a0 a1 k
    · exact parts_tail hS hlen p hb' y0.1 y0.2 ok a0 a1 k
end
/-! the objects of a road -/
theorem iteDT {c A B : Prop} [Decidable c] (hc : c) (h : A) : if decide c = true then A else B := by
  rw [decide_eq_true hc]
  exact iteT h
theorem iteDF {c A B : Prop} [Decidable c] (hc : ¬ c) (h : B) : if decide c = true then A else B := by
  rw [decide_eq_false hc]
  exact iteF h
theorem bo_ne : ¬ (V.str "bridge" = V.str "open") := fun z => absurd (V.str.inj z) (by decide)
def sp_Open_init (K : PySem.W.Frag) : Sp := fun vs H Q _ => ∃ (x C dx : Addr) (n : V), vs = [.ref x, n] ∧ H x = some (.ins C dx []) ∧ Cls K C ∧ NoAttr K C "length" ∧
  ∀ H' fs, (∀ b o, b ≠ x → H b = some o → H' b = some o) → H' x = some (.ins C dx fs) → fs.lookup ("length" : Str) = some n → Q .non H'
def sp_Bridge_init (K : PySem.W.Frag) : Sp := fun vs H Q _ => ∃ (x C dx : Addr) (a b c d e : V), vs = [.ref x, a, b, c, d, e] ∧ H x = some (.ins C dx []) ∧ Cls K C ∧ NoAttr K C "name" ∧ NoAttr K C "length" ∧ NoAttr K C "bears" ∧ NoAttr K C "wide" ∧ NoAttr K C "most" ∧
  ∀ H' fs, (∀ b o, b ≠ x → H b = some o → H' b = some o) → H' x = some (.ins C dx fs) → fs.lookup ("name" : Str) = some a → fs.lookup ("length" : Str) = some b → fs.lookup ("bears" : Str) = some c → fs.lookup ("wide" : Str) = some d → fs.lookup ("most" : Str) = some e → Q .non H'
def sp_Road_init (K : PySem.W.Frag) : Sp := fun vs H Q _ => ∃ (x C dx p r s : Addr) (as bs cs : List V), vs = [.ref x, .ref p, .ref r, .ref s] ∧ H x = some (.ins C dx []) ∧ H p = some (.lst as) ∧ H r = some (.lst bs) ∧ H s = some (.lst cs) ∧ Cls K C ∧ NoAttr K C "pieces" ∧ NoAttr K C "rounds" ∧ NoAttr K C "shuts" ∧
  ∀ H' fs lp lr ls, (∀ b o, b ≠ x → H b = some o → H' b = some o) → H lp = none → H lr = none → H ls = none → H' x = some (.ins C dx fs) → fs.lookup ("pieces" : Str) = some (.ref lp) → fs.lookup ("rounds" : Str) = some (.ref lr) → fs.lookup ("shuts" : Str) = some (.ref ls) → H' lp = some (.lst as) → H' lr = some (.lst bs) → H' ls = some (.lst cs) → Q .non H'
structure IsOp (K : PySem.W.Frag) (H : Hp) (v : V) (l : Int) : Prop where
  ex : ∃ a dx fs, v = .ref a ∧ H a = some (.ins (clA K "Open") dx fs) ∧ fs.lookup ("length" : Str) = some (.int l)
  d : PKd K kNames (clA K "Open") ["Open"] ["length"]
structure IsBr (K : PySem.W.Frag) (H : Hp) (v : V) (b : Br) : Prop where
  ex : ∃ a dx fs, v = .ref a ∧ H a = some (.ins (clA K "Bridge") dx fs) ∧ fs.lookup ("name" : Str) = some (.str b.name) ∧ fs.lookup ("length" : Str) = some (.int b.len) ∧ fs.lookup ("bears" : Str) = some (.int b.bears) ∧ fs.lookup ("wide" : Str) = some (.int b.wide) ∧ fs.lookup ("most" : Str) = some (.int b.most)
  d : PKd K kNames (clA K "Bridge") ["Bridge"] ["name", "length", "bears", "wide", "most"]
/-- a piece -/
inductive Pc where
  | op (l : Int)
  | br (b : Br)
def Pc.r : Pc → List Lf
  | .op l => opR l
  | .br b => brR b
def Pc.is (K : PySem.W.Frag) (H : Hp) (v : V) : Pc → Prop
  | .op l => IsOp K H v l
  | .br b => IsBr K H v b
def bsP : List (Br × Int) → List Pc
  | [] => []
  | (b, o) :: r => .br b :: .op o :: bsP r
def Rd.pcs (R : Rd) : List Pc := .op R.first :: bsP R.bs
theorem bsP_r : ∀ bs : List (Br × Int), (bsP bs).map Pc.r = bsR bs
  | [] => rfl
  | (b, o) :: r => by show brR b :: opR o :: (bsP r).map Pc.r = _; rw [bsP_r r]; rfl
theorem Rd.pcs_r (R : Rd) : R.pcs.map Pc.r = pcR R.first R.bs := by show opR R.first :: (bsP R.bs).map Pc.r = _; rw [bsP_r]; rfl
inductive IPs (K : PySem.W.Frag) (H : Hp) : List V → List Pc → Prop
  | nil : IPs K H [] []
  | cons {v : V} {vs : List V} {p : Pc} {ps : List Pc} : p.is K H v → IPs K H vs ps → IPs K H (v :: vs) (p :: ps)
/-- objects stay -/
def InsS (H H' : Hp) : Prop := ∀ b C dx fs, H b = some (.ins C dx fs) → H' b = some (.ins C dx fs)
theorem insOf {H H' : Hp} (S : Same H H') : InsS H H' := fun b _ _ _ e => S b _ e
theorem ins_lst {H : Hp} {l : Addr} {xs : List V} (e : H l = some (.lst xs)) (ys : List V) : InsS H (upd H l (.lst ys)) := fun b C dx fs eb => by
  have : b ≠ l := fun q => by subst q; rw [e] at eb; cases eb
  rw [upd_ne this]; exact eb
theorem Pc.mono {K : PySem.W.Frag} {H H' : Hp} {v : V} (S : InsS H H') : ∀ {p : Pc}, p.is K H v → p.is K H' v
  | .op l, h => by
    obtain ⟨a, dx, fs, e, h', r⟩ := IsOp.ex h
    exact ⟨⟨a, dx, fs, e, S _ _ _ _ h', r⟩, IsOp.d h⟩
  | .br b, h => by
    obtain ⟨a, dx, fs, e, h', r⟩ := IsBr.ex h
    exact ⟨⟨a, dx, fs, e, S _ _ _ _ h', r⟩, IsBr.d h⟩
theorem IPs.mono {K : PySem.W.Frag} {H H' : Hp} (S : InsS H H') : ∀ {vs : List V} {ps : List Pc}, IPs K H vs ps → IPs K H' vs ps
  | _, _, .nil => .nil
  | _, _, .cons h t => .cons (Pc.mono S h) (t.mono S)
theorem IPs.append {K : PySem.W.Frag} {H : Hp} : ∀ {vs us : List V} {ps qs : List Pc}, IPs K H vs ps → IPs K H us qs → IPs K H (vs ++ us) (ps ++ qs)
  | _, _, _, _, .nil, q => q
  | _, _, _, _, .cons h t, q => .cons h (t.append q)
theorem IPs.length {K : PySem.W.Frag} {H : Hp} : ∀ {vs : List V} {ps : List Pc}, IPs K H vs ps → vs.length = ps.length
  | _, _, .nil => rfl
  | _, _, .cons _ t => congrArg (· + 1) t.length
theorem IPs.get {K : PySem.W.Frag} {H : Hp} : ∀ {vs : List V} {ps : List Pc} {i : Nat} {v : V}, IPs K H vs ps → vs[i]? = some v → ∃ p, ps[i]? = some p ∧ p.is K H v
  | _, _, 0, _, .cons (p := p) h _, e => by cases e; exact ⟨p, rfl, h⟩
  | _, _, i + 1, _, .cons _ t, e => t.get (i := i) e
  | _, _, _, _, .nil, e => by simp at e
structure IsRoad (K : PySem.W.Frag) (H : Hp) (v : V) (R : Rd) : Prop where
  ex : ∃ a dx fs lp lr ls vs us ws, v = .ref a ∧ H a = some (.ins (clA K "Road") dx fs) ∧ fs.lookup ("pieces" : Str) = some (.ref lp) ∧ fs.lookup ("rounds" : Str) = some (.ref lr) ∧ fs.lookup ("shuts" : Str) = some (.ref ls) ∧
    H lp = some (.lst vs) ∧ IPs K H vs R.pcs ∧ H lr = some (.lst us) ∧ ITs H us (R.rounds.map rdR) ∧ H ls = some (.lst ws) ∧ ITs H ws (R.shuts.map shR)
  d : PKd K kNames (clA K "Road") ["Road"] ["pieces", "rounds", "shuts"]
theorem IsRoad.mono {K : PySem.W.Frag} {H H' : Hp} {v : V} {R : Rd} (S : Same H H') (r : IsRoad K H v R) : IsRoad K H' v R := by
  obtain ⟨a, dx, fs, lp, lr, ls, vs, us, ws, e, h, f1, f2, f3, h1, i1, h2, i2, h3, i3⟩ := r.ex
  exact ⟨⟨a, dx, fs, lp, lr, ls, vs, us, ws, e, S _ _ h, f1, f2, f3, S _ _ h1, i1.mono (insOf S), S _ _ h2, i2.mono (tupsOf S), S _ _ h3, i3.mono (tupsOf S)⟩, r.d⟩
def sp_law_pieces (K : PySem.W.Frag) : Sp := fun vs H Q _ => ∃ (l : Addr) (us : List V) (ps : List Pc), vs = [.ref l] ∧ H l = some (.lst us) ∧ ITs H us (ps.map Pc.r) ∧ ps.length ≤ 100 ∧ ∀ p ws H', Same H H' → H p = none → H' p = some (.lst ws) → IPs K H' ws ps → Q (.ref p) H'
def sp_law_told (K : PySem.W.Frag) : Sp := fun vs H Q _ => ∃ (v : V) (p : Pc), vs = [v] ∧ p.is K H v ∧ ∀ t, H t = none → Q (.ref t) (upd H t (.tup (p.r.map Lf.v)))
section
variable {P : Program} {w : World} {K : PySem.W.Frag} {mg : Str → Option Value} {base : Heap}
theorem mk_open {n : Int} {H : Hp} {R : Hp → Prop} {E : XK} {x dx : Addr} (d : PKd K kNames (clA K "Open") ["Open"] ["length"]) (hx : H x = none) (hd : H dx = none) (ne : dx ≠ x) (k : ∀ H', Same H H' → IsOp K H' (.ref x) n → R H') :
    sp_Open_init K [.ref x, .int n] (upd (upd H dx (.own x)) x (.ins (clA K "Open") dx [])) (fun v H2 => v = .non ∧ R H2) E := by
  refine ⟨x, _, dx, _, rfl, upd_same, d.cls, d.na _ (by simp), fun H' fs sm hx' l => ⟨rfl, k H' (fun b o eb => ?_) ⟨⟨x, dx, fs, rfl, hx', l⟩, d⟩⟩⟩
  have h1 := ne_of_none eb hx
  exact sm b o h1 (by rw [upd_ne h1, upd_ne (ne_of_none eb hd)]; exact eb)
theorem mk_bridge {b : Br} {H : Hp} {R : Hp → Prop} {E : XK} {x dx : Addr} (d : PKd K kNames (clA K "Bridge") ["Bridge"] ["name", "length", "bears", "wide", "most"]) (hx : H x = none) (hd : H dx = none) (ne : dx ≠ x) (k : ∀ H', Same H H' → IsBr K H' (.ref x) b → R H') :
    sp_Bridge_init K [.ref x, .str b.name, .int b.len, .int b.bears, .int b.wide, .int b.most] (upd (upd H dx (.own x)) x (.ins (clA K "Bridge") dx [])) (fun v H2 => v = .non ∧ R H2) E := by
  refine ⟨x, _, dx, _, _, _, _, _, rfl, upd_same, d.cls, d.na _ (by simp), d.na _ (by simp), d.na _ (by simp), d.na _ (by simp), d.na _ (by simp), fun H' fs sm hx' l1 l2 l3 l4 l5 => ⟨rfl, k H' (fun b o eb => ?_) ⟨⟨x, dx, fs, rfl, hx', l1, l2, l3, l4, l5⟩, d⟩⟩⟩
  have h1 := ne_of_none eb hx
  exact sm b o h1 (by rw [upd_ne h1, upd_ne (ne_of_none eb hd)]; exact eb)
/-- 0 _law_pieces_here 1 _law_found 2 _law_piece -/
theorem ok_law_pieces {f : Addr} {fd : FuncData} (F : Fun K "_law_pieces" "_law_pieces" s_law_pieces f fd) (m_Open : GotP P w K mg base 1 "Open" ["self", "length"] (sp_Open_init K)) (d_Open : PKd K kNames (clA K "Open") ["Open"] ["length"]) (m_Bridge : GotP P w K mg base 1 "Bridge" ["self", "name", "length", "bears", "wide", "most"] (sp_Bridge_init K)) (d_Bridge : PKd K kNames (clA K "Bridge") ["Bridge"] ["name", "length", "bears", "wide", "most"]) :
    FnOk P w K mg base CX0 3 f fd ["_law_pieces_here"] (sp_law_pieces K) := by
  refine F.ok sc_law_pieces (fun vs H Q E h => ?_) (fun cdv A outer s H vs Q E hr h => ?_)
  · obtain ⟨a, us, ps, rfl, _⟩ := h
    rfl
  obtain ⟨l, us, ps, rfl, e, it, hl, k⟩ := h
  have hu := hr.units
  refine ⟨_, (pss_cons (ps_set (i := 1) sc_law_pieces.nd rfl (by first | exact Or.inl rfl | exact Or.inr rfl) (pe_lst pa_nil))
      (pss_cons (ps_for PassesOwn.never rfl (pi_or (pi_list (pv 0)) (pi_str (pv 0))) (pg_name (i := 2) sc_law_pieces.nd rfl (by first | exact Or.inl rfl | exact Or.inr rfl)) (pss_one (ps_if (pt_cmpR (op_eqG hu) (pe_ix ix_seq (pv 2) pe_int (fun _ _ => rfl)) pe_str (nomark _)) (pss_one (ps_expr (pe_bm PySem.F.plainAttrs_list PySem.F.slot_list_append PySem.F.type_list_append mt_append (pv 1) (pa_cons (pe_mkP m_Open hr (by decide) rfl (pa_cons (pe_ix ix_seq (pv 2) pe_int (fun _ _ => rfl)) pa_nil)) pa_nil)))) (pss_one (ps_expr (pe_bm PySem.F.plainAttrs_list PySem.F.slot_list_append PySem.F.type_list_append mt_append (pv 1) (pa_cons (pe_mkP m_Bridge hr (by decide) rfl (pa_cons (pe_ix ix_seq (pv 2) pe_int (fun _ _ => rfl)) (pa_cons (pe_ix ix_seq (pv 2) pe_int (fun _ _ => rfl)) (pa_cons (pe_ix ix_seq (pv 2) pe_int (fun _ _ => rfl)) (pa_cons (pe_ix ix_seq (pv 2) pe_int (fun _ _ => rfl)) (pa_cons (pe_ix ix_seq (pv 2) pe_int (fun _ _ => rfl)) pa_nil)))))) pa_nil)))))))
      (pss_one (ps_ret (pv 1))))), ?_⟩
  refine ⟨(by show 0 ≤ sizeLine; decide), fun lf hlf => ?_⟩
  have il := it.length
  rw [List.length_map] at il
  refine .inl ⟨_, rfl, l, rfl, ⟨us, SqL.of ((same_new hlf _) _ _ e)⟩, for_list (xs := us) (fun i σ H' => (∃ s2, σ = [some (.ref l), some (.ref lf), s2]) ∧ Same H H' ∧ ∃ ws, H' lf = some (.lst ws) ∧ IPs K H' ws (ps.take i))
    ⟨⟨_, rfl⟩, same_new hlf _, [], upd_same, .nil⟩ (fun i σ H' _ hP => SqL.of (hP.2.1 _ _ e)) (fun i x σ H' hx hP => ?_) (fun σ H' hP => ?_)⟩
  · obtain ⟨⟨s2, rfl⟩, S, ws, ew, iw⟩ := hP
    obtain ⟨r, hr', t, rfl, ht⟩ := it.get hx
    rw [List.getElem?_map] at hr'
    obtain ⟨p, hp, rfl⟩ := Option.map_eq_some_iff.mp hr'
    have hi : i < ps.length := (List.getElem?_eq_some_iff.mp hp).1
    have tk : ps.take (i + 1) = ps.take i ++ [p] := by rw [List.take_add_one, hp]; rfl
    have wl := iw.length
    rw [List.length_take] at wl
    have ht' := S _ _ ht
    have fin : ∀ (x : Addr) (H2 : Hp), Same H' H2 → p.is K H2 (.ref x) → Same H (upd H2 lf (.lst (ws ++ [.ref x]))) ∧ ∃ ws', (upd H2 lf (.lst (ws ++ [.ref x]))) lf = some (.lst ws') ∧ IPs K (upd H2 lf (.lst (ws ++ [.ref x]))) ws' (ps.take (i + 1)) := fun x H2 S2 hx2 => by
      have N := ins_lst (S2 _ _ ew) (ws ++ [.ref x])
      refine ⟨fun b o eb => by rw [upd_ne (ne_of_none eb hlf)]; exact S2 _ _ (S _ _ eb), _, upd_same, ?_⟩
      rw [tk]
      exact ((iw.mono (insOf S2)).mono N).append (.cons (Pc.mono N hx2) .nil)
    cases p with
    | op n =>
      refine ⟨_, rfl, .inr (.inl ⟨t, _, _, _, rfl, rfl, SqT.of ht', rfl, .inr (.inr (.inl ⟨rfl, _, rfl, iteDT rfl ?_⟩))⟩)⟩
      refine ⟨_, rfl, .inl ⟨rfl, _, SqL.of ew⟩, _, rfl, .inr (.inl ⟨t, _, _, _, rfl, rfl, SqT.of ht', rfl, fun x dx hx hdx ne => mk_open d_Open hx hdx ne fun H2 S2 o2 => ⟨lf, ws, _, rfl, rfl, S2 _ _ ew, small1000 (by omega), ⟨_, rfl⟩, fin x H2 S2 o2⟩⟩)⟩
    | br b =>
      refine ⟨_, rfl, .inr (.inl ⟨t, _, _, _, rfl, rfl, SqT.of ht', rfl, .inr (.inr (.inl ⟨rfl, _, rfl, iteDF bo_ne ?_⟩))⟩)⟩
      refine ⟨_, rfl, .inl ⟨rfl, _, SqL.of ew⟩, _, rfl, .inr (.inl ⟨t, _, _, _, rfl, rfl, SqT.of ht', rfl, _, rfl, .inr (.inl ⟨t, _, _, _, rfl, rfl, SqT.of ht', rfl, _, rfl, .inr (.inl ⟨t, _, _, _, rfl, rfl, SqT.of ht', rfl, _, rfl, .inr (.inl ⟨t, _, _, _, rfl, rfl, SqT.of ht', rfl, _, rfl, .inr (.inl ⟨t, _, _, _, rfl, rfl, SqT.of ht', rfl,
        fun x dx hx hdx ne => mk_bridge (b := b) d_Bridge hx hdx ne fun H2 S2 o2 => ⟨lf, ws, _, rfl, rfl, S2 _ _ ew, small1000 (by omega), ⟨_, rfl⟩, fin x H2 S2 o2⟩⟩)⟩)⟩)⟩)⟩)⟩
  · obtain ⟨⟨s2, rfl⟩, S, ws, ew, iw⟩ := hP
    rw [List.take_of_length_le (by omega)] at iw
    exact ⟨_, rfl, k lf ws H' S hlf ew iw⟩
end
/-! a comprehension in full: a test, items that are made -/
inductive SelL (b : Nat → Bool) (R : Nat → V → Hp → Prop) (H : Hp) : Nat → List V → Prop
  | zero : SelL b R H 0 []
  | no {i : Nat} {ys : List V} : b i = false → SelL b R H i ys → SelL b R H (i + 1) ys
  | yes {i : Nat} {ys : List V} {y : V} : b i = true → SelL b R H i ys → R i y H → SelL b R H (i + 1) (ys ++ [y])
theorem SelL.mono {b : Nat → Bool} {R : Nat → V → Hp → Prop} {H H' : Hp} (h : ∀ i v, R i v H → R i v H') : ∀ {n : Nat} {ys : List V}, SelL b R H n ys → SelL b R H' n ys
  | _, _, .zero => .zero
  | _, _, .no e t => .no e (t.mono h)
  | _, _, .yes e t r => .yes e (t.mono h) (h _ _ r)
theorem SelL.len {b : Nat → Bool} {R : Nat → V → Hp → Prop} {H : Hp} : ∀ {n : Nat} {ys : List V}, SelL b R H n ys → ys.length ≤ n
  | _, _, .zero => Nat.le_refl _
  | _, _, .no _ t => Nat.le_succ_of_le t.len
  | _, _, .yes _ t _ => by rw [List.length_append, List.length_singleton]; exact Nat.succ_le_succ t.len
theorem comp_gen {J : It} {tc : TT} {te : TE} {cap : List Nat} {σ : St} {Q : VK} {H1 : Hp} (n : Nat) (hz : n < sizeLine) (b : Nat → Bool) (R : Nat → V → Hp → Prop) (hR : ∀ i v H H', TupS H H' → InsS H H' → R i v H → R i v H') (hgo : ∀ i H, Same H1 H → i < n → J.go i H) (hst : ∀ H, Same H1 H → J.stop n H)
    (hs : ∀ i H x H' (K : VK) (N : Hp → Prop), Same H1 H → i < n → J.yld i H x H' → (b i = false → ∀ H4, Same H H4 → N H4) → (b i = true → ∀ y H4, Same H H4 → R i y H4 → K y H4) → tc (inSt cap (some x) σ) H' fun bb H3 => if bb = true then te (inSt cap (some x) σ) H3 K else N H3)
    (hq : ∀ acc H ys, Same H1 H → H1 acc = none → H acc = some (.lst ys) → SelL b R H n ys → Q (.ref acc) H) : compBody J tc te cap σ Q H1 := by
  intro acc ha
  refine ⟨fun i m H => m = n - i ∧ i ≤ n ∧ Same H1 H ∧ ∃ ys, H acc = some (.lst ys) ∧ SelL b R H i ys, ⟨_, rfl, Nat.zero_le _, same_new ha _, [], upd_same, .zero⟩, ?_⟩
  rintro i m H ⟨rfl, hi, S, ys, e, sl⟩
  by_cases hlt : i < n
  · refine .inr ⟨hgo i H S hlt, fun x H' y => hs i H x H' _ _ S hlt y (fun hb H4 S4 => ?_) (fun hb y H4 S4 r4 => ?_)⟩
    · exact ⟨n - (i + 1), by omega, rfl, hlt, S.trans S4, ys, S4 _ _ e, .no hb (sl.mono fun j v => hR j v H H4 (tupsOf S4) (insOf S4))⟩
    · have e4 := S4 _ _ e
      have ll := sl.len
      refine ⟨ys, e4, by omega, n - (i + 1), by omega, rfl, hlt, fun c o ec => ?_, _, upd_same, ?_⟩
      · rw [upd_ne (ne_of_none ec ha)]
        exact S4 _ _ (S _ _ ec)
      · have T := tups_lst e4 (ys ++ [y])
        have I := ins_lst e4 (ys ++ [y])
        exact .yes hb ((sl.mono fun j v => hR j v H H4 (tupsOf S4) (insOf S4)).mono fun j v => hR j v H4 _ T I) (hR i y H4 _ T I r4)
  · have : i = n := by omega
    subst this
    exact .inl ⟨hst H S, hq acc H ys S ha e sl⟩
/-- all items, rows of plain values -/
theorem SelL.rows {H : Hp} {rs : List (List Lf)} : ∀ {n : Nat} {ys : List V}, SelL (fun _ => true) (fun i v H => ∃ r, rs[i]? = some r ∧ IsT H v r) H n ys → ITs H ys (rs.take n)
  | _, _, .zero => by rw [List.take_zero]; exact .nil
  | _, _, .no e _ => by cases e
  | i + 1, _, .yes _ t ⟨r, hr, q⟩ => by
    rw [List.take_add_one, hr]
    exact t.rows.append (.one q)
theorem its_hd {H : Hp} {n : Nat} : ∀ {vs : List V} {rs : List (List Lf)}, ITs H vs rs → (∀ r ∈ rs, r.length ≤ 1000) → HDs H (n + 1) vs (rs.map fun r => PyData.tuple (r.map Lf.d))
  | _, _, .nil, _ => .nil
  | _, _, .cons (r := r) h t, l => by
    obtain ⟨a, rfl, e⟩ := h
    refine .cons (.tup e (by rw [List.length_map]; exact l r List.mem_cons_self) ?_) (its_hd t fun q hq => l q (List.mem_cons_of_mem _ hq))
    clear l e
    induction r with
    | nil => exact .nil
    | cons x r ih =>
      refine .cons ?_ ih
      cases x with
      | s z => exact .str z
      | i z => exact .int z
theorem its_list {H : Hp} {l : Addr} {vs : List V} {rs : List (List Lf)} (e : H l = some (.lst vs)) (h : ITs H vs rs) (hl : rs.length ≤ 1000) (hr : ∀ r ∈ rs, r.length ≤ 1000) : HD H 6 (.ref l) (.list (rs.map fun r => PyData.tuple (r.map Lf.d))) :=
  .lst e (by rw [h.length]; exact hl) (its_hd h hr)
theorem Pc.r_len (p : Pc) : p.r.length ≤ 6 := by
  cases p with
  | op l => show 2 ≤ 6; decide
  | br b => show 6 ≤ 6; decide
def sp_law_road_is (K : PySem.W.Frag) : Sp := fun vs H Q _ => ∃ (v : V) (R : Rd) (p r s : Addr) (as bs cs : List V), vs = [v, .ref p, .ref r, .ref s] ∧ IsRoad K H v R ∧ H p = some (.lst as) ∧ ITs H as (pcR R.first R.bs) ∧ H r = some (.lst bs) ∧ ITs H bs (R.rounds.map rdR) ∧ H s = some (.lst cs) ∧ ITs H cs (R.shuts.map shR) ∧
  R.bs.length ≤ 6 ∧ R.rounds.length ≤ 100 ∧ R.shuts.length ≤ 100 ∧ ∀ H', Same H H' → Q (.bl true) H'
section
variable {P : Program} {w : World} {K : PySem.W.Frag} {mg : Str → Option Value} {base : Heap}
/-- 0 _law_piece -/
theorem ok_law_told {f : Addr} {fd : FuncData} (F : Fun K "_law_told" "_law_told" s_law_told f fd) (d_Open : PKd K kNames (clA K "Open") ["Open"] ["length"]) (d_Bridge : PKd K kNames (clA K "Bridge") ["Bridge"] ["name", "length", "bears", "wide", "most"]) (n_Open : mg "Open" = some (.ref (clA K "Open"))) (n_Bridge : mg "Bridge" = some (.ref (clA K "Bridge"))) (z_isinstance : mg "isinstance" = none) :
    FnOk P w K mg base CX0 1 f fd ["_law_piece"] (sp_law_told K) := by
  refine F.ok sc_law_told (fun vs H Q E h => ?_) (fun cdv A outer s H vs Q E hr h => ?_)
  · obtain ⟨a, p, rfl, _⟩ := h
    rfl
  obtain ⟨v, p, rfl, hp, k⟩ := h
  refine ⟨_, (pss_cons (ps_if (pt_val (pe_callB call_isC rfl z_isinstance b_isinstance (pa_cons (pv 0) (pa_cons (pe_cl rfl n_Open) pa_nil)))) (pss_one (ps_ret (pe_tup (pa_cons pe_str (pa_cons (pe_fld (f := "length") (pv 0) rfl) pa_nil))))) pss_nil)
      (pss_cons (ps_if (pt_not (pt_val (pe_callB call_isC rfl z_isinstance b_isinstance (pa_cons (pv 0) (pa_cons (pe_cl rfl n_Bridge) pa_nil))))) (pss_one (ps_ret pe_non)) pss_nil)
      (pss_one (ps_ret (pe_tup (pa_cons pe_str (pa_cons (pe_fld (f := "name") (pv 0) rfl) (pa_cons (pe_fld (f := "length") (pv 0) rfl) (pa_cons (pe_fld (f := "bears") (pv 0) rfl) (pa_cons (pe_fld (f := "wide") (pv 0) rfl) (pa_cons (pe_fld (f := "most") (pv 0) rfl) pa_nil))))))))))), ?_⟩
  cases p with
  | op l =>
    have d_Open := IsOp.d hp
    obtain ⟨a, dx, fs, rfl, e, lk⟩ := IsOp.ex hp
    have h1 : PySem.W.kitOne K (.ref (clA K "Open")) (.ref (clA K "Open")) = some true := (d_Open.kit "Open" (by decide +kernel)).trans (by decide +kernel)
    refine ⟨_, rfl, _, _, _, _, rfl, d_Open.ty e, h1, _, rfl, iteT ?_⟩
    exact ⟨_, rfl, a, _, dx, fs, _, rfl, e, d_Open.cls, d_Open.na _ (by simp), lk, (by show 2 ≤ sizeLine; decide), fun t ht => k t ht⟩
  | br b =>
    have d_Bridge := IsBr.d hp
    obtain ⟨a, dx, fs, rfl, e, l1, l2, l3, l4, l5⟩ := IsBr.ex hp
    have h1 : PySem.W.kitOne K (.ref (clA K "Bridge")) (.ref (clA K "Open")) = some false := (d_Bridge.kit "Open" (by decide +kernel)).trans (by decide +kernel)
    have h2 : PySem.W.kitOne K (.ref (clA K "Bridge")) (.ref (clA K "Bridge")) = some true := (d_Bridge.kit "Bridge" (by decide +kernel)).trans (by decide +kernel)
    refine ⟨_, rfl, _, _, _, _, rfl, d_Bridge.ty e, h1, _, rfl, iteF ?_⟩
    refine ⟨_, rfl, _, _, _, _, rfl, d_Bridge.ty e, h2, _, rfl, iteF ?_⟩
    refine ⟨_, rfl, a, _, dx, fs, _, rfl, e, d_Bridge.cls, d_Bridge.na _ (by simp), l1, _, rfl, a, _, dx, fs, _, rfl, e, d_Bridge.cls, d_Bridge.na _ (by simp), l2, _, rfl, a, _, dx, fs, _, rfl, e, d_Bridge.cls, d_Bridge.na _ (by simp), l3, ?_⟩
    exact ⟨_, rfl, a, _, dx, fs, _, rfl, e, d_Bridge.cls, d_Bridge.na _ (by simp), l4, _, rfl, a, _, dx, fs, _, rfl, e, d_Bridge.cls, d_Bridge.na _ (by simp), l5, (by show 6 ≤ sizeLine; decide), fun t ht => k t ht⟩
/-- 0 _law_road 1 _law_pieces_here 2 _law_rounds 3 _law_shuts -/
theorem ok_law_road_is {f : Addr} {fd : FuncData} (F : Fun K "_law_road_is" "_law_road_is" s_law_road_is f fd) (g_law_same : Got P w K mg base 14 "_law_same" ["_law_found", "_law_due"] (sp_law_same K)) (g_law_told : Got P w K mg base 1 "_law_told" ["_law_piece"] (sp_law_told K)) (d_Road : PKd K kNames (clA K "Road") ["Road"] ["pieces", "rounds", "shuts"]) (n_Road : mg "Road" = some (.ref (clA K "Road"))) (z_isinstance : mg "isinstance" = none) (z_list : mg "list" = none) :
    FnOk P w K mg base CX0 15 f fd ["_law_road", "_law_pieces_here", "_law_rounds", "_law_shuts"] (sp_law_road_is K) := by
  refine F.ok sc_law_road_is (fun vs H Q E h => ?_) (fun cdv A outer s H vs Q E hr h => ?_)
  · obtain ⟨v, R, p, r, q, as, bs, cs, rfl, _⟩ := h
    rfl
  obtain ⟨v, R, p, r, q, as, bs, cs, rfl, hR, ep, ip, er, ir, es, is_, n1, n2, n3, k⟩ := h
  have hu := hr.units
  refine ⟨_, (pss_cons (ps_if (PW.pt (pw_or (pt_not (pt_val (pe_callB call_isC rfl z_isinstance b_isinstance (pa_cons (pv 0) (pa_cons (pe_cl rfl n_Road) pa_nil))))) (pw_or1 (pt_not (pt_val (pe_callB call_isT rfl z_isinstance b_isinstance (pa_cons (pe_fld (f := "pieces") (pv 0) rfl) (pa_cons (pe_bltn (v := .ty "list") rfl z_list b_list rfl) pa_nil)))))))) (pss_one (ps_ret pe_bl)) pss_nil)
      (pss_cons (ps_if (pt_not (pt_val (pe_go g_law_same hr (by first | decide | omega) rfl (pa_cons (pe_compG [] [] (CompC.to cs_law_road_is_0 rfl rfl) rfl (pi_or (pi_list (pe_fld (f := "pieces") (pv 0) rfl)) (pi_str (pe_fld (f := "pieces") (pv 0) rfl))) (fun _ _ _ _ _ => pif_nil) (fun _ _ _ _ _ => (pe_go g_law_told (by exact hr) (by first | decide | omega) rfl (pa_cons (pv 0) pa_nil)))) (pa_cons (pv 1) pa_nil))))) (pss_one (ps_ret pe_bl)) pss_nil)
      (pss_one (ps_ret (pe_and (pe_go g_law_same hr (by first | decide | omega) rfl (pa_cons (pe_fld (f := "rounds") (pv 0) rfl) (pa_cons (pv 2) pa_nil))) (pe_one (pe_go g_law_same hr (by first | decide | omega) rfl (pa_cons (pe_fld (f := "shuts") (pv 0) rfl) (pa_cons (pv 3) pa_nil))))))))), ?_⟩
  have d_Road := hR.d
  obtain ⟨a, dx, fs, lp, lr, ls, vs, us, ws, rfl, e, f1, f2, f3, e1, i1, e2, i2, e3, i3⟩ := hR.ex
  have h1 : PySem.W.kitOne K (.ref (clA K "Road")) (.ref (clA K "Road")) = some true := (d_Road.kit "Road" (by decide +kernel)).trans (by decide +kernel)
  have vl := i1.length
  have pl : R.pcs.length = 2 * R.bs.length + 1 := by
    have := congrArg List.length R.pcs_r
    rw [List.length_map] at this
    rw [this]
    show (bsR R.bs).length + 1 = _
    rw [bsR_len]
  refine ⟨_, rfl, _, _, _, _, rfl, d_Road.ty e, h1, _, rfl, iteF ?_⟩
  refine ⟨_, rfl, a, _, dx, fs, _, rfl, e, d_Road.cls, d_Road.na _ (by simp), f1, _, _, _, _, rfl, .lst e1, kit_list_list, _, rfl, iteF ?_⟩
  refine .inl ⟨_, rfl, a, _, dx, fs, _, rfl, e, d_Road.cls, d_Road.na _ (by simp), f1, lp, rfl, ⟨vs, SqL.of e1⟩, ?_⟩
  refine comp_gen vs.length (small1000 (by omega)) (fun _ => true) (fun i v H => ∃ r, (R.pcs.map Pc.r)[i]? = some r ∧ IsT H v r) (fun i v H H' T _ ⟨r, hr, q⟩ => ⟨r, hr, q.mono T⟩) (fun i H' S hi => ⟨vs, vs[i], SqL.of (S _ _ e1), List.getElem?_eq_getElem hi⟩) (fun H' S => ⟨vs, SqL.of (S _ _ e1), Nat.le_refl _⟩) (fun i H' x H'' K' N S hi yl _ kk => ?_) (fun acc H' ys S ha ea sl => ?_)
  · obtain ⟨rfl, yx⟩ := yl
    obtain ⟨pc, hpc, ispc⟩ := i1.get (yx _ (SqL.of (S _ _ e1)))
    unfold tYes
    refine iteT ?_
    refine ⟨_, rfl, x, pc, rfl, Pc.mono (insOf S) ispc, fun t ht => kk rfl _ _ (same_new ht _) ⟨pc.r, by rw [List.getElem?_map, hpc]; rfl, t, rfl, upd_same⟩⟩
  · have rows := sl.rows
    rw [List.take_of_length_le (by rw [List.length_map]; omega), R.pcs_r] at rows
    have l0 : (pcR R.first R.bs).length ≤ 1000 := by show (bsR R.bs).length + 1 ≤ 1000; rw [bsR_len]; omega
    have l1 : ∀ x ∈ pcR R.first R.bs, x.length ≤ 1000 := fun x hx => by
      rw [← R.pcs_r] at hx
      obtain ⟨pc, _, rfl⟩ := List.mem_map.mp hx
      have := pc.r_len
      omega
    refine ⟨_, rfl, _, _, _, rfl, its_list ea rows l0 l1, (its_list ep ip l0 l1).mono S, fun H2 S2 => ⟨_, rfl, iteF ?_⟩⟩
    have S3 := S.trans S2
    refine ⟨_, rfl, a, _, dx, fs, _, rfl, S3 _ _ e, d_Road.cls, d_Road.na _ (by simp), f2, _, rfl, _, _, _, rfl, (its_list e2 i2 (by rw [List.length_map]; omega) (fun x hx => by obtain ⟨y, _, rfl⟩ := List.mem_map.mp hx; show 2 ≤ 1000; decide)).mono S3, (its_list er ir (by rw [List.length_map]; omega) (fun x hx => by obtain ⟨y, _, rfl⟩ := List.mem_map.mp hx; show 2 ≤ 1000; decide)).mono S3, fun H4 S4 => ⟨_, rfl, iteT ?_⟩⟩
    have S5 := S3.trans S4
    exact ⟨_, rfl, a, _, dx, fs, _, rfl, S5 _ _ e, d_Road.cls, d_Road.na _ (by simp), f3, _, rfl, _, _, _, rfl, (its_list e3 i3 (by rw [List.length_map]; omega) (fun x hx => by obtain ⟨y, _, rfl⟩ := List.mem_map.mp hx; show 3 ≤ 1000; decide)).mono S5, (its_list es is_ (by rw [List.length_map]; omega) (fun x hx => by obtain ⟨y, _, rfl⟩ := List.mem_map.mp hx; show 3 ≤ 1000; decide)).mono S5, fun H6 S6 => k H6 (S5.trans S6)⟩
end
/-! the program's own: objects made -/
section
variable {P : Program} {w : World} {K : PySem.W.Frag} {mg : Str → Option Value} {base : Heap}
theorem put_at {f : Str} {v : V} {fs : List (Str × V)} : (putF f v fs).lookup f = some v := by rw [lookup_putF, if_pos rfl]
theorem put_off {f g : Str} {v u : V} {fs : List (Str × V)} (h : g ≠ f) (e : fs.lookup g = some u) : (putF f v fs).lookup g = some u := by rw [lookup_putF, if_neg h]; exact e
theorem ok_Open_init {f : Addr} {fd : FuncData} (F : Fun K "__init__" "Open.__init__" s_Open_init f fd)  :
    FnOk P w K mg base CX0 1 f fd ["self", "length"] (sp_Open_init K) := by
  refine F.ok sc_Open_init (fun vs H Q E h => ?_) (fun cdv A outer s H vs Q E hr h => ?_)
  · obtain ⟨x, C, dx, n, rfl, _⟩ := h
    rfl
  obtain ⟨x, C, dx, n, rfl, e, c, na, k⟩ := h
  refine ⟨_, (pss_one (ps_fld (f := "length") (pv 0) (pv 1) rfl)), ?_⟩
  exact ⟨_, rfl, _, rfl, x, C, dx, [], rfl, e, c, na, (by decide), k _ _ (fun b o hb eb => by rw [upd_ne hb]; exact eb) upd_same put_at⟩
theorem ok_Bridge_init {f : Addr} {fd : FuncData} (F : Fun K "__init__" "Bridge.__init__" s_Bridge_init f fd)  :
    FnOk P w K mg base CX0 1 f fd ["self", "name", "length", "bears", "wide", "most"] (sp_Bridge_init K) := by
  refine F.ok sc_Bridge_init (fun vs H Q E h => ?_) (fun cdv A outer s H vs Q E hr h => ?_)
  · obtain ⟨x, C, dx, a, b, c, d, e, rfl, _⟩ := h
    rfl
  obtain ⟨x, C, dx, a, b, c, d, e, rfl, h0, cl, n1, n2, n3, n4, n5, k⟩ := h
  refine ⟨_, (pss_cons (ps_fld (f := "name") (pv 0) (pv 1) rfl)
      (pss_cons (ps_fld (f := "length") (pv 0) (pv 2) rfl)
      (pss_cons (ps_fld (f := "bears") (pv 0) (pv 3) rfl)
      (pss_cons (ps_fld (f := "wide") (pv 0) (pv 4) rfl)
      (pss_one (ps_fld (f := "most") (pv 0) (pv 5) rfl)))))), ?_⟩
  refine ⟨_, rfl, _, rfl, x, C, dx, [], rfl, h0, cl, n1, (by decide), ?_⟩
  refine ⟨_, rfl, _, rfl, x, C, dx, _, rfl, upd_same, cl, n2, (by show 1 < 1000; decide), ?_⟩
  refine ⟨_, rfl, _, rfl, x, C, dx, _, rfl, upd_same, cl, n3, (by show 2 < 1000; decide), ?_⟩
  refine ⟨_, rfl, _, rfl, x, C, dx, _, rfl, upd_same, cl, n4, (by show 3 < 1000; decide), ?_⟩
  refine ⟨_, rfl, _, rfl, x, C, dx, _, rfl, upd_same, cl, n5, (by show 4 < 1000; decide), ?_⟩
  exact k _ _ (fun b o hb eb => by rw [upd_ne hb, upd_ne hb, upd_ne hb, upd_ne hb, upd_ne hb]; exact eb) upd_same (put_off (by decide) (put_off (by decide) (put_off (by decide) (put_off (by decide) put_at)))) (put_off (by decide) (put_off (by decide) (put_off (by decide) put_at))) (put_off (by decide) (put_off (by decide) put_at)) (put_off (by decide) put_at) put_at
theorem ok_Road_init {f : Addr} {fd : FuncData} (F : Fun K "__init__" "Road.__init__" s_Road_init f fd) (z_list : mg "list" = none) :
    FnOk P w K mg base CX0 1 f fd ["self", "pieces", "rounds", "shuts"] (sp_Road_init K) := by
  refine F.ok sc_Road_init (fun vs H Q E h => ?_) (fun cdv A outer s H vs Q E hr h => ?_)
  · obtain ⟨x, C, dx, p, r, q, as, bs, cs, rfl, _⟩ := h
    rfl
  obtain ⟨x, C, dx, p, r, q, as, bs, cs, rfl, h0, hp, hr', hq, cl, n1, n2, n3, k⟩ := h
  refine ⟨_, (pss_cons (ps_fld (f := "pieces") (pv 0) (pe_callTy call_list_of rfl z_list b_list (pa_cons (pv 1) pa_nil)) rfl)
      (pss_cons (ps_fld (f := "rounds") (pv 0) (pe_callTy call_list_of rfl z_list b_list (pa_cons (pv 2) pa_nil)) rfl)
      (pss_one (ps_fld (f := "shuts") (pv 0) (pe_callTy call_list_of rfl z_list b_list (pa_cons (pv 3) pa_nil)) rfl)))), ?_⟩
  refine ⟨_, rfl, p, as, rfl, .inl (SqL.of hp), fun l1 g1 => ?_⟩
  have S1 := same_new g1 (.lst as)
  refine ⟨_, rfl, x, C, dx, [], rfl, S1 _ _ h0, cl, n1, (by decide), ?_⟩
  have nx1 : l1 ≠ x := (ne_of_none h0 g1).symm
  have pne : ∀ {a : Addr} {l : List V}, H a = some (.lst l) → a ≠ x := fun {a l} ea z => by subst z; rw [h0] at ea; cases ea
  have K1 : ∀ b o, b ≠ x → H b = some o → (upd (upd H l1 (.lst as)) x (.ins C dx (putF "pieces" (.ref l1) []))) b = some o := fun b o hb eb => by rw [upd_ne hb]; exact S1 _ _ eb
  have L1 : (upd (upd H l1 (.lst as)) x (.ins C dx (putF "pieces" (.ref l1) []))) l1 = some (.lst as) := by rw [upd_ne nx1, upd_same]
  have X1 : (upd (upd H l1 (.lst as)) x (.ins C dx (putF "pieces" (.ref l1) []))) x = some (.ins C dx (putF "pieces" (.ref l1) [])) := upd_same
  generalize upd (upd H l1 (.lst as)) x (.ins C dx (putF "pieces" (.ref l1) [])) = H1 at K1 L1 X1 ⊢
  refine ⟨_, rfl, r, bs, rfl, .inl (SqL.of (K1 _ _ (pne hr') hr')), fun l2 g2 => ?_⟩
  have S2 := same_new g2 (.lst bs)
  refine ⟨_, rfl, x, C, dx, _, rfl, S2 _ _ X1, cl, n2, (by show 1 < 1000; decide), ?_⟩
  have nx2 : l2 ≠ x := (ne_of_none X1 g2).symm
  have g2' : H l2 = none := by
    cases z : H l2 with
    | none => rfl
    | some o => have := K1 _ _ nx2 z; rw [g2] at this; cases this
  have K2 : ∀ b o, b ≠ x → H1 b = some o → (upd (upd H1 l2 (.lst bs)) x (.ins C dx (putF "rounds" (.ref l2) (putF "pieces" (.ref l1) [])))) b = some o := fun b o hb eb => by rw [upd_ne hb]; exact S2 _ _ eb
  have L2' : (upd (upd H1 l2 (.lst bs)) x (.ins C dx (putF "rounds" (.ref l2) (putF "pieces" (.ref l1) [])))) l2 = some (.lst bs) := by rw [upd_ne nx2, upd_same]
  have X2 : (upd (upd H1 l2 (.lst bs)) x (.ins C dx (putF "rounds" (.ref l2) (putF "pieces" (.ref l1) [])))) x = some (.ins C dx (putF "rounds" (.ref l2) (putF "pieces" (.ref l1) []))) := upd_same
  generalize upd (upd H1 l2 (.lst bs)) x (.ins C dx (putF "rounds" (.ref l2) (putF "pieces" (.ref l1) []))) = H2 at K2 L2' X2 ⊢
  refine ⟨_, rfl, q, cs, rfl, .inl (SqL.of (K2 _ _ (pne hq) (K1 _ _ (pne hq) hq))), fun l3 g3 => ?_⟩
  have S3 := same_new g3 (.lst cs)
  refine ⟨_, rfl, x, C, dx, _, rfl, S3 _ _ X2, cl, n3, (by show 2 < 1000; decide), ?_⟩
  have nx3 : l3 ≠ x := (ne_of_none X2 g3).symm
  have g3' : H l3 = none := by
    cases z : H l3 with
    | none => rfl
    | some o => have := K2 _ _ nx3 (K1 _ _ nx3 z); rw [g3] at this; cases this
  refine k _ _ l1 l2 l3 (fun b o hb eb => by rw [upd_ne hb]; exact S3 _ _ (K2 _ _ hb (K1 _ _ hb eb))) g1 g2' g3' upd_same (put_off (by decide) (put_off (by decide) put_at)) (put_off (by decide) put_at) put_at ?_ ?_ ?_
  · rw [upd_ne nx1]; exact S3 _ _ (K2 _ _ nx1 L1)
  · rw [upd_ne nx2]; exact S3 _ _ L2'
  · rw [upd_ne nx3, upd_same]
end
/-! the program's own: what is asked of a road -/
def Pc.isB : Pc → Bool
  | .br _ => true
  | _ => false
theorem bsP_fil : ∀ bs : List (Br × Int), (bsP bs).filter Pc.isB = bs.map fun x => Pc.br x.1
  | [] => rfl
  | (b, o) :: r => by
    show Pc.br b :: (bsP r).filter Pc.isB = _
    rw [bsP_fil r]
    rfl
theorem Rd.pcs_fil (R : Rd) : R.pcs.filter Pc.isB = R.bs.map fun x => Pc.br x.1 := bsP_fil R.bs
theorem SelL.pcs {K : PySem.W.Frag} {H : Hp} {ps : List Pc} : ∀ {n : Nat} {ys : List V}, n ≤ ps.length → SelL (fun i => (ps[i]?).any Pc.isB) (fun i v H => ∃ p, ps[i]? = some p ∧ p.is K H v) H n ys → IPs K H ys ((ps.take n).filter Pc.isB)
  | _, _, _, .zero => by rw [List.take_zero]; exact .nil
  | i + 1, _, hn, .no e t => by
    have hi : i < ps.length := hn
    have q := List.getElem?_eq_getElem hi
    rw [List.take_add_one, q, List.filter_append]
    have e' : Pc.isB ps[i] = false := by rw [q] at e; exact e
    show IPs K H _ ((ps.take i).filter Pc.isB ++ [ps[i]].filter Pc.isB)
    rw [List.filter_cons_of_neg (by rw [e']; exact Bool.false_ne_true), List.filter_nil, List.append_nil]
    exact t.pcs (Nat.le_of_lt hi)
  | i + 1, _, hn, .yes e t ⟨p, hp, r⟩ => by
    have hi : i < ps.length := hn
    rw [List.take_add_one, hp, List.filter_append]
    have e' : Pc.isB p = true := by rw [hp] at e; exact e
    show IPs K H _ ((ps.take i).filter Pc.isB ++ [p].filter Pc.isB)
    rw [List.filter_cons_of_pos e', List.filter_nil]
    exact (t.pcs (Nat.le_of_lt hi)).append (.cons r .nil)
theorem comp_genT {J : It} {kx : Nat} {g : TG} {tc : TT} {te : TE} {cap : List Nat} {σ : St} {Q : VK} {H1 : Hp} (n : Nat) (hz : n < sizeLine) (b : Nat → Bool) (R : Nat → V → Hp → Prop) (hR : ∀ i v H H', TupS H H' → InsS H H' → R i v H → R i v H') (hgo : ∀ i H, Same H1 H → i < n → J.go i H) (hst : ∀ H, Same H1 H → J.stop n H)
    (hs : ∀ i H x H' (K : VK) (N : Hp → Prop), Same H1 H → i < n → J.yld i H x H' → (b i = false → ∀ H4, Same H H4 → N H4) → (b i = true → ∀ y H4, Same H H4 → R i y H4 → K y H4) → g x (inStT kx cap σ) H' fun σ2 H2 => KeepS (inStT kx cap σ) σ2 ∧ tc σ2 H2 fun bb H3 => if bb = true then te σ2 H3 K else N H3)
    (hq : ∀ acc H ys, Same H1 H → H1 acc = none → H acc = some (.lst ys) → SelL b R H n ys → Q (.ref acc) H) : compBodyT J kx g tc te cap σ Q H1 := by
  intro acc ha
  refine ⟨fun i m H => m = n - i ∧ i ≤ n ∧ Same H1 H ∧ ∃ ys, H acc = some (.lst ys) ∧ SelL b R H i ys, ⟨_, rfl, Nat.zero_le _, same_new ha _, [], upd_same, .zero⟩, ?_⟩
  rintro i m H ⟨rfl, hi, S, ys, e, sl⟩
  by_cases hlt : i < n
  · refine .inr ⟨hgo i H S hlt, fun x H' y => hs i H x H' _ _ S hlt y (fun hb H4 S4 => ?_) (fun hb y H4 S4 r4 => ?_)⟩
    · exact ⟨n - (i + 1), by omega, rfl, hlt, S.trans S4, ys, S4 _ _ e, .no hb (sl.mono fun j v => hR j v H H4 (tupsOf S4) (insOf S4))⟩
    · have e4 := S4 _ _ e
      have ll := sl.len
      refine ⟨ys, e4, by omega, n - (i + 1), by omega, rfl, hlt, fun c o ec => ?_, _, upd_same, ?_⟩
      · rw [upd_ne (ne_of_none ec ha)]
        exact S4 _ _ (S _ _ ec)
      · have T := tups_lst e4 (ys ++ [y])
        have I := ins_lst e4 (ys ++ [y])
        exact .yes hb ((sl.mono fun j v => hR j v H H4 (tupsOf S4) (insOf S4)).mono fun j v => hR j v H4 _ T I) (hR i y H4 _ T I r4)
  · have : i = n := by omega
    subst this
    exact .inl ⟨hst H S, hq acc H ys S ha e sl⟩
theorem keep3 {a b c : V} {cap : List Nat} {σ : St} : KeepS (inStT 3 cap σ) ((((inStT 3 cap σ).set 0 (some a)).set 1 (some b)).set 2 (some c)) := by
  refine ⟨by simp, fun j v e => ?_⟩
  have e' : (none :: none :: none :: cap.map fun i => (σ[i]?).join)[j]? = some (some v) := e
  show (some a :: some b :: some c :: cap.map fun i => (σ[i]?).join)[j]? = some (some v)
  match j, e' with
  | 0, e => cases Option.some.inj e
  | 1, e => cases Option.some.inj e
  | 2, e => cases Option.some.inj e
  | j + 3, e => exact e
/-- some of the rows, each made anew -/
theorem SelL.sel {α : Type} {H : Hp} {rs : List α} {pr : α → Bool} {f : α → List Lf} : ∀ {n : Nat} {ys : List V}, n ≤ rs.length → SelL (fun i => (rs[i]?).any pr) (fun i v H => ∃ r, rs[i]? = some r ∧ IsT H v (f r)) H n ys → ITs H ys (((rs.take n).filter pr).map f)
  | _, _, _, .zero => by rw [List.take_zero]; exact .nil
  | i + 1, _, hn, .no e t => by
    have hi : i < rs.length := hn
    have q := List.getElem?_eq_getElem hi
    have e' : pr rs[i] = false := by rw [q] at e; exact e
    rw [List.take_add_one, q, List.filter_append]
    show ITs H _ (((rs.take i).filter pr ++ [rs[i]].filter pr).map f)
    rw [List.filter_cons_of_neg (by rw [e']; exact Bool.false_ne_true), List.filter_nil, List.append_nil]
    exact t.sel (Nat.le_of_lt hi)
  | i + 1, _, hn, .yes e t ⟨r, hr, q⟩ => by
    have hi : i < rs.length := hn
    have e' : pr r = true := by rw [hr] at e; exact e
    rw [List.take_add_one, hr, List.filter_append]
    show ITs H _ (((rs.take i).filter pr ++ [r].filter pr).map f)
    rw [List.filter_cons_of_pos e', List.filter_nil, List.map_append]
    exact (t.sel (Nat.le_of_lt hi)).append (.one q)
def sp_bridges_of (K : PySem.W.Frag) : Sp := fun vs H Q _ => ∃ (v : V) (R : Rd), vs = [v] ∧ IsRoad K H v R ∧ R.bs.length ≤ 6 ∧ ∀ p ws H', Same H H' → H p = none → H' p = some (.lst ws) → IPs K H' ws (R.bs.map fun x => Pc.br x.1) → Q (.ref p) H'
def sp_bridge_of (K : PySem.W.Frag) : Sp := fun vs H Q _ => ∃ (v : V) (R : Rd) (n : Str) (j : Nat) (b : Br) (o : Int), vs = [v, .str n] ∧ IsRoad K H v R ∧ R.bs.length ≤ 6 ∧ R.bs[j]? = some (b, o) ∧ b.name = n ∧ (∀ (i : Nat) (c : Br) (o' : Int), i < j → R.bs[i]? = some (c, o') → c.name ≠ n) ∧ ∀ u H', Same H H' → IsBr K H' u b → Q u H'
def numO : Option Int → V
  | some l => .int l
  | none => .non
def sp_round_of (K : PySem.W.Frag) : Sp := fun vs H Q _ => ∃ (v : V) (R : Rd) (n : Str), vs = [v, .str n] ∧ IsRoad K H v R ∧ R.rounds.length ≤ 100 ∧ ∀ H', Same H H' → Q (numO (R.rounds.lookup n)) H'
def hrR (r : Str × Int × Int) : List Lf := [.i r.2.1, .i r.2.2]
def sp_shuts_of (K : PySem.W.Frag) : Sp := fun vs H Q _ => ∃ (v : V) (R : Rd) (n : Str), vs = [v, .str n] ∧ IsRoad K H v R ∧ R.shuts.length ≤ 100 ∧ ∀ p ws H', Same H H' → H p = none → H' p = some (.lst ws) → ITs H' ws ((R.shuts.filter fun r => decide (r.1 = n)).map hrR) → Q (.ref p) H'
theorem look_first {n : Str} {l : Int} : ∀ {rs : List (Str × Int)} {i : Nat}, (∀ (j : Nat) (r : Str × Int), j < i → rs[j]? = some r → r.1 ≠ n) → rs[i]? = some (n, l) → rs.lookup n = some l
  | [], _, _, e => by simp at e
  | r :: rs, 0, _, e => by
    cases e
    exact List.lookup_cons_self
  | r :: rs, i + 1, h, e => by
    have h0 := h 0 r (by omega) rfl
    rw [List.lookup_cons, show (n == r.1) = false from by simpa using Ne.symm h0]
    exact look_first (i := i) (fun j q hj ej => h (j + 1) q (by omega) ej) e
theorem look_none {n : Str} : ∀ {rs : List (Str × Int)}, (∀ (j : Nat) (r : Str × Int), rs[j]? = some r → r.1 ≠ n) → rs.lookup n = none
  | [], _ => rfl
  | r :: rs, h => by
    have h0 := h 0 r rfl
    rw [List.lookup_cons, show (n == r.1) = false from by simpa using Ne.symm h0]
    exact look_none fun j q ej => h (j + 1) q ej
section
variable {P : Program} {w : World} {K : PySem.W.Frag} {mg : Str → Option Value} {base : Heap}
theorem Rd.pcs_len (R : Rd) : R.pcs.length = 2 * R.bs.length + 1 := by
  have := congrArg List.length R.pcs_r
  rw [List.length_map] at this
  rw [this]
  show (bsR R.bs).length + 1 = _
  rw [bsR_len]
theorem ok_bridges_of {f : Addr} {fd : FuncData} (F : Fun K "bridges_of" "bridges_of" s_bridges_of f fd) (d_Bridge : PKd K kNames (clA K "Bridge") ["Bridge"] ["name", "length", "bears", "wide", "most"]) (n_Bridge : mg "Bridge" = some (.ref (clA K "Bridge"))) (z_isinstance : mg "isinstance" = none) :
    FnOk P w K mg base CX0 1 f fd ["road"] (sp_bridges_of K) := by
  refine F.ok sc_bridges_of (fun vs H Q E h => ?_) (fun cdv A outer s H vs Q E hr h => ?_)
  · obtain ⟨v, R, rfl, _⟩ := h
    rfl
  obtain ⟨v, R, rfl, hR, n1, k⟩ := h
  have hu := hr.units
  refine ⟨_, (pss_one (ps_ret (pe_compG [] [] (CompC.to cs_bridges_of_0 rfl rfl) rfl (pi_or (pi_list (pe_fld (f := "pieces") (pv 0) rfl)) (pi_str (pe_fld (f := "pieces") (pv 0) rfl))) (fun _ _ _ _ _ => (pif_one (pt_val (pe_callB (call_isCK (K := K) rfl) rfl z_isinstance b_isinstance (pa_cons (pv 0) (pa_cons (pe_clK (K := K) rfl rfl n_Bridge) pa_nil)))))) (fun _ _ _ _ _ => (pv 0))))), ?_⟩
  have d_Road := hR.d
  obtain ⟨a, dx, fs, lp, lr, ls, vs, us, ws, rfl, e, f1, f2, f3, e1, i1, e2, i2, e3, i3⟩ := hR.ex
  have vl := i1.length
  have pl := R.pcs_len
  refine .inl ⟨_, rfl, a, _, dx, fs, _, rfl, e, d_Road.cls, d_Road.na _ (by simp), f1, lp, rfl, ⟨vs, SqL.of e1⟩, ?_⟩
  refine comp_gen vs.length (small1000 (by omega)) (fun i => (R.pcs[i]?).any Pc.isB) (fun i v H => ∃ p, R.pcs[i]? = some p ∧ p.is K H v) (fun i v H H' _ I ⟨p, hp, q⟩ => ⟨p, hp, Pc.mono I q⟩) (fun i H' S hi => ⟨vs, vs[i], SqL.of (S _ _ e1), List.getElem?_eq_getElem hi⟩) (fun H' S => ⟨vs, SqL.of (S _ _ e1), Nat.le_refl _⟩) (fun i H' x H'' K' N S hi yl kn ky => ?_) (fun acc H' ys S ha ea sl => ?_)
  · obtain ⟨rfl, yx⟩ := yl
    obtain ⟨pc, hpc, ispc⟩ := i1.get (yx _ (SqL.of (S _ _ e1)))
    have is' := Pc.mono (insOf S) ispc
    cases pc with
    | op l =>
      have d_Open := IsOp.d is'
      obtain ⟨a2, dx2, fs2, rfl, g1, g2⟩ := IsOp.ex is'
      have h1 : PySem.W.kitOne K (.ref (clA K "Open")) (.ref (clA K "Bridge")) = some false := (d_Open.kit "Bridge" (by decide +kernel)).trans (by decide +kernel)
      exact ⟨_, rfl, _, _, _, _, rfl, d_Open.ty g1, h1, _, rfl, iteF (kn (by rw [hpc]; rfl) _ (Same.refl _))⟩
    | br b =>
      have d_Bridge := IsBr.d is'
      obtain ⟨a2, dx2, fs2, rfl, g1, g2⟩ := IsBr.ex is'
      have h1 : PySem.W.kitOne K (.ref (clA K "Bridge")) (.ref (clA K "Bridge")) = some true := (d_Bridge.kit "Bridge" (by decide +kernel)).trans (by decide +kernel)
      exact ⟨_, rfl, _, _, _, _, rfl, d_Bridge.ty g1, h1, _, rfl, iteT ⟨_, rfl, ky (by rw [hpc]; rfl) _ _ (Same.refl _) ⟨_, hpc, is'⟩⟩⟩
  · have q := sl.pcs (by omega)
    rw [List.take_of_length_le (by omega), R.pcs_fil] at q
    exact k acc ys H' S ha ea q
theorem SelL.none {b : Nat → Bool} {R : Nat → V → Hp → Prop} {H : Hp} : ∀ {n : Nat} {ys : List V}, (∀ i, i < n → b i = false) → SelL b R H n ys → ys = []
  | _, _, _, .zero => rfl
  | i + 1, _, hf, .no _ t => SelL.none (fun k hk => hf k (by omega)) t
  | i + 1, _, hf, .yes e _ _ => by rw [hf i (by omega)] at e; cases e
theorem SelL.first {b : Nat → Bool} {R : Nat → V → Hp → Prop} {H : Hp} {j : Nat} (hb : b j = true) (hf : ∀ i, i < j → b i = false) : ∀ {n : Nat} {ys : List V}, j < n → SelL b R H n ys → ∃ v, ys[0]? = some v ∧ R j v H
  | i + 1, _, hj, .no e t => by
    have : j ≠ i := fun z => by subst z; rw [hb] at e; cases e
    exact SelL.first hb hf (by omega) t
  | i + 1, _, hj, .yes (ys := ys) (y := y) e t r => by
    by_cases z : j = i
    · subst z
      have := SelL.none hf t
      subst this
      exact ⟨_, rfl, r⟩
    · obtain ⟨v, hv, q⟩ := SelL.first hb hf (by omega) t
      exact ⟨v, by rw [List.getElem?_append_left (List.getElem?_eq_some_iff.mp hv).1]; exact hv, q⟩
theorem ok_bridge_of {f : Addr} {fd : FuncData} (F : Fun K "bridge_of" "bridge_of" s_bridge_of f fd) (g_bridges_of : Got P w K mg base 1 "bridges_of" ["road"] (sp_bridges_of K)) :
    FnOk P w K mg base CX0 2 f fd ["road", "name"] (sp_bridge_of K) := by
  refine F.ok sc_bridge_of (fun vs H Q E h => ?_) (fun cdv A outer s H vs Q E hr h => ?_)
  · obtain ⟨v, R, n, j, b, o, rfl, _⟩ := h
    rfl
  obtain ⟨v, R, n, j, b, o, rfl, hR, n1, hj, hb, hf, k⟩ := h
  have hu := hr.units
  refine ⟨_, (pss_one (ps_ret (pe_ix ix_seq (pe_compG ["name"] [1] (CompC.to cs_bridge_of_0 rfl rfl) rfl (pi_or (pi_list (pe_go g_bridges_of hr (by first | decide | omega) rfl (pa_cons (pv 0) pa_nil))) (pi_str (pe_go g_bridges_of hr (by first | decide | omega) rfl (pa_cons (pv 0) pa_nil)))) (fun _ _ _ _ _ => (pif_one (pt_cmpR (op_eqGK (K := K) rfl (by exact hu)) (pe_fldK (K := K) rfl (f := "name") (pv 0) rfl) (pv 1) (nomark _)))) (fun _ _ _ _ _ => (pv 0))) pe_int (fun _ _ => rfl)))), ?_⟩
  refine .inl ⟨_, rfl, v, R, rfl, hR, n1, fun p ws H1 S1 hp e1 i1 => ⟨p, rfl, ⟨ws, SqL.of e1⟩, ?_⟩⟩
  have wl := i1.length
  rw [List.length_map] at wl
  have jl : j < R.bs.length := (List.getElem?_eq_some_iff.mp hj).1
  refine comp_gen ws.length (small1000 (by omega)) (fun i => (R.bs[i]?).any fun x => decide (x.1.name = n)) (fun i v H => ∃ x, R.bs[i]? = some x ∧ IsBr K H v x.1) (fun i v H H' _ I ⟨x, hx, q⟩ => ⟨x, hx, Pc.mono (p := .br x.1) I q⟩) (fun i H' S hi => ⟨ws, ws[i], SqL.of (S _ _ e1), List.getElem?_eq_getElem hi⟩) (fun H' S => ⟨ws, SqL.of (S _ _ e1), Nat.le_refl _⟩) (fun i H' x H'' K' N S hi yl kn ky => ?_) (fun acc H' ys S ha ea sl => ?_)
  · obtain ⟨rfl, yx⟩ := yl
    obtain ⟨pc, hpc, ispc⟩ := i1.get (yx _ (SqL.of (S _ _ e1)))
    rw [List.getElem?_map] at hpc
    obtain ⟨⟨c, o'⟩, hc, rfl⟩ := Option.map_eq_some_iff.mp hpc
    have is' := Pc.mono (p := .br c) (insOf S) ispc
    change IsBr K _ x c at is'
    have d := IsBr.d is'
    obtain ⟨a, dx, fs, rfl, g1, g2, g3⟩ := IsBr.ex is'
    refine ⟨_, rfl, a, _, dx, fs, _, rfl, g1, d.cls, d.na _ (by simp), g2, _, rfl, .inr (.inr (.inl ⟨rfl, _, rfl, ?_⟩))⟩
    by_cases mn : c.name = n
    · exact iteDT (by rw [mn]) ⟨_, rfl, ky (by rw [hc]; exact decide_eq_true mn) _ _ (Same.refl _) ⟨_, hc, is'⟩⟩
    · exact iteDF (fun z => mn (V.str.inj z)) (kn (by rw [hc]; exact decide_eq_false mn) _ (Same.refl _))
  · obtain ⟨u, hu0, x, hx, is'⟩ := SelL.first (j := j) (by rw [hj]; exact decide_eq_true hb) (fun i hi => by
      rw [List.getElem?_eq_getElem (by omega : i < R.bs.length)]
      exact decide_eq_false (hf i _ _ hi (List.getElem?_eq_getElem (by omega)))) (by omega) sl
    rw [hj] at hx
    cases hx
    exact .inl ⟨acc, ys, 0, u, rfl, rfl, SqL.of ea, atI_nat (j := 0) hu0, k u H' (S1.trans S) is'⟩
theorem ok_round_of {f : Addr} {fd : FuncData} (F : Fun K "round_of" "round_of" s_round_of f fd)  :
    FnOk P w K mg base CX0 1 f fd ["road", "name"] (sp_round_of K) := by
  refine F.ok sc_round_of (fun vs H Q E h => ?_) (fun cdv A outer s H vs Q E hr h => ?_)
  · obtain ⟨v, R, n, rfl, _⟩ := h
    rfl
  obtain ⟨v, R, n, rfl, hR, n1, k⟩ := h
  have hu := hr.units
  refine ⟨_, (pss_cons (ps_for PassesOwn.never rfl (pi_or (pi_list (pe_fld (f := "rounds") (pv 0) rfl)) (pi_str (pe_fld (f := "rounds") (pv 0) rfl))) (pg_name (i := 2) sc_round_of.nd rfl (by first | exact Or.inl rfl | exact Or.inr rfl)) (pss_one (ps_if (pt_cmpR (op_eqG hu) (pe_ix ix_seq (pv 2) pe_int (fun _ _ => rfl)) (pv 1) (nomark _)) (pss_one (ps_ret (pe_ix ix_seq (pv 2) pe_int (fun _ _ => rfl)))) pss_nil)))
      (pss_one (ps_ret pe_non))), ?_⟩
  have d_Road := hR.d
  obtain ⟨a, dx, fs, lp, lr, ls, vs, us, ws, rfl, e, f1, f2, f3, e1, i1, e2, i2, e3, i3⟩ := hR.ex
  have ul := i2.length
  rw [List.length_map] at ul
  refine .inl ⟨_, rfl, a, _, dx, fs, _, rfl, e, d_Road.cls, d_Road.na _ (by simp), f2, lr, rfl, ⟨us, SqL.of e2⟩, ?_⟩
  refine for_list (xs := us) (fun i σ H' => (∃ s2, σ = [some (.ref a), some (.str n), s2]) ∧ H' = H ∧ ∀ (j : Nat) (r : Str × Int), j < i → R.rounds[j]? = some r → r.1 ≠ n) ⟨⟨_, rfl⟩, rfl, fun j r hj => by omega⟩ (fun i σ H' _ hP => by rw [hP.2.1]; exact SqL.of e2) (fun i x σ H' hx hP => ?_) (fun σ H' hP => ?_)
  · obtain ⟨⟨s2, rfl⟩, rfl, hi⟩ := hP
    obtain ⟨r, hr', t, rfl, ht⟩ := i2.get hx
    rw [List.getElem?_map] at hr'
    obtain ⟨⟨m, l⟩, hm, rfl⟩ := Option.map_eq_some_iff.mp hr'
    refine ⟨_, rfl, .inr (.inl ⟨t, _, _, _, rfl, rfl, SqT.of ht, rfl, _, rfl, .inr (.inr (.inl ⟨rfl, _, rfl, ?_⟩))⟩)⟩
    by_cases mn : m = n
    · subst mn
      refine iteDT rfl ⟨_, rfl, .inr (.inl ⟨t, _, _, _, rfl, rfl, SqT.of ht, rfl, ?_⟩)⟩
      have := k _ (Same.refl _)
      rw [look_first hi hm] at this
      exact this
    · refine iteDF (fun z => mn (V.str.inj z)) ⟨⟨_, rfl⟩, rfl, fun j r hj ej => ?_⟩
      by_cases h : j = i
      · subst h
        rw [hm] at ej
        cases ej
        exact mn
      · exact hi j r (by omega) ej
  · obtain ⟨⟨s2, rfl⟩, rfl, hi⟩ := hP
    have := k _ (Same.refl _)
    rw [look_none fun j r ej => hi j r (by have := (List.getElem?_eq_some_iff.mp ej).1; omega) ej] at this
    exact this
theorem ok_shuts_of {f : Addr} {fd : FuncData} (F : Fun K "shuts_of" "shuts_of" s_shuts_of f fd)  :
    FnOk P w K mg base CX0 1 f fd ["road", "name"] (sp_shuts_of K) := by
  refine F.ok sc_shuts_of (fun vs H Q E h => ?_) (fun cdv A outer s H vs Q E hr h => ?_)
  · obtain ⟨v, R, n, rfl, _⟩ := h
    rfl
  obtain ⟨v, R, n, rfl, hR, n1, k⟩ := h
  have hu := hr.units
  refine ⟨_, (pss_one (ps_ret (pe_compG ["name"] [1] (CompC.to cs_shuts_of_0 rfl rfl) rfl (pi_or (pi_list (pe_fld (f := "shuts") (pv 0) rfl)) (pi_str (pe_fld (f := "shuts") (pv 0) rfl))) (fun _ _ _ _ _ => (pif_one (pt_cmpR (op_eqGK (K := K) rfl (by exact hu)) (pe_ix (ix_seqK (K := K) rfl) (pv 0) pe_int (fun _ _ => rfl)) (pv 1) (nomark _)))) (fun _ _ _ _ _ => (pe_tup (pa_cons (pe_ix (ix_seqK (K := K) rfl) (pv 0) pe_int (fun _ _ => rfl)) (pa_cons (pe_ix (ix_seqK (K := K) rfl) (pv 0) pe_int (fun _ _ => rfl)) pa_nil))))))), ?_⟩
  have d_Road := hR.d
  obtain ⟨a, dx, fs, lp, lr, ls, vs, us, ws, rfl, e, f1, f2, f3, e1, i1, e2, i2, e3, i3⟩ := hR.ex
  have wl := i3.length
  rw [List.length_map] at wl
  refine .inl ⟨_, rfl, a, _, dx, fs, _, rfl, e, d_Road.cls, d_Road.na _ (by simp), f3, ls, rfl, ⟨ws, SqL.of e3⟩, ?_⟩
  refine comp_gen ws.length (small1000 (by omega)) (fun i => (R.shuts[i]?).any fun r => decide (r.1 = n)) (fun i v H => ∃ r, R.shuts[i]? = some r ∧ IsT H v (hrR r)) (fun i v H H' T _ ⟨p, hp, q⟩ => ⟨p, hp, q.mono T⟩) (fun i H' S hi => ⟨ws, ws[i], SqL.of (S _ _ e3), List.getElem?_eq_getElem hi⟩) (fun H' S => ⟨ws, SqL.of (S _ _ e3), Nat.le_refl _⟩) (fun i H' x H'' K' N S hi yl kn ky => ?_) (fun acc H' ys S ha ea sl => ?_)
  · obtain ⟨rfl, yx⟩ := yl
    obtain ⟨r, hr', t, rfl, ht⟩ := i3.get (yx _ (SqL.of (S _ _ e3)))
    rw [List.getElem?_map] at hr'
    obtain ⟨⟨m, b, c⟩, hm, rfl⟩ := Option.map_eq_some_iff.mp hr'
    have h1 := S _ _ ht
    refine ⟨_, rfl, .inr (.inl ⟨t, _, _, _, rfl, rfl, SqT.of h1, rfl, _, rfl, .inr (.inr (.inl ⟨rfl, _, rfl, ?_⟩))⟩)⟩
    by_cases mn : m = n
    · exact iteDT (by rw [mn]; rfl) ⟨_, rfl, .inr (.inl ⟨t, _, _, _, rfl, rfl, SqT.of h1, rfl, _, rfl, .inr (.inl ⟨t, _, _, _, rfl, rfl, SqT.of h1, rfl, (by show 2 ≤ sizeLine; decide), fun t2 ht2 => ky (by rw [hm]; exact decide_eq_true mn) _ _ (same_new ht2 _) ⟨_, hm, t2, rfl, upd_same⟩⟩)⟩)⟩
    · exact iteDF (fun z => mn (V.str.inj z)) (kn (by rw [hm]; exact decide_eq_false mn) _ (Same.refl _))
  · have q := sl.sel (by omega)
    rw [List.take_of_length_le (by omega)] at q
    exact k acc ys H' S ha ea q
end
theorem SelL.vals {α : Type} {H : Hp} {rs : List α} {pr : α → Bool} {f : α → V} : ∀ {n : Nat} {ys : List V}, n ≤ rs.length → SelL (fun i => (rs[i]?).any pr) (fun i v _ => ∃ r, rs[i]? = some r ∧ v = f r) H n ys → ys = ((rs.take n).filter pr).map f
  | _, _, _, .zero => by rw [List.take_zero]; rfl
  | i + 1, _, hn, .no e t => by
    have hi : i < rs.length := hn
    have q := List.getElem?_eq_getElem hi
    have e' : pr rs[i] = false := by rw [q] at e; exact e
    rw [List.take_add_one, q, List.filter_append]
    show _ = (((rs.take i).filter pr ++ [rs[i]].filter pr).map f)
    rw [List.filter_cons_of_neg (by rw [e']; exact Bool.false_ne_true), List.filter_nil, List.append_nil]
    exact t.vals (Nat.le_of_lt hi)
  | i + 1, _, hn, .yes e t ⟨r, hr, q⟩ => by
    have hi : i < rs.length := hn
    have e' : pr r = true := by rw [hr] at e; exact e
    rw [List.take_add_one, hr, List.filter_append]
    show _ = (((rs.take i).filter pr ++ [r].filter pr).map f)
    rw [List.filter_cons_of_pos e', List.filter_nil, List.map_append, ← t.vals (Nat.le_of_lt hi), q]
    rfl
theorem isT_hd {H : Hp} {v : V} {r : List Lf} (h : IsT H v r) (l : r.length ≤ 1000) : HD H 6 v (.tuple (r.map Lf.d)) := by
  have q := its_hd (n := 5) (ITs.one h) (fun x hx => by cases List.mem_singleton.mp hx; exact l)
  cases q with
  | cons h _ => exact h
def numD : Option Int → PyData
  | some l => .int l
  | none => .none
theorem num_hd {H : Hp} : ∀ o : Option Int, HD H 6 (numO o) (numD o)
  | some l => .int l
  | none => .non
theorem far_first {n : Str} : ∀ rs : List (Str × Int), atI (((rs.filter fun r => decide (r.1 = n)).map fun r => V.int r.2) ++ [.non]) 0 = some (numO (rs.lookup n))
  | [] => rfl
  | r :: rs => by
    by_cases h : r.1 = n
    · rw [List.filter_cons_of_pos (by simpa using h)]
      obtain ⟨m, l⟩ := r
      dsimp only at h
      subst h
      rw [List.lookup_cons_self]
      exact atI_nat (j := 0) rfl
    · rw [List.filter_cons_of_neg (by simpa using h), List.lookup_cons, show (n == r.1) = false from by simpa using Ne.symm h]
      exact far_first rs
def sp_law_asked (K : PySem.W.Frag) : Sp := fun vs H Q _ => ∃ (v : V) (R : Rd) (nm : Nat → Str) (p r s : Addr) (as bs cs : List V), vs = [v, .ref p, .ref r, .ref s] ∧ IsRoad K H v R ∧ R.WF nm ∧ H p = some (.lst as) ∧ ITs H as (pcR R.first R.bs) ∧ H r = some (.lst bs) ∧ ITs H bs (R.rounds.map rdR) ∧ H s = some (.lst cs) ∧ ITs H cs (R.shuts.map shR) ∧ ∀ H', Same H H' → Q (.bl true) H'
section
variable {P : Program} {w : World} {K : PySem.W.Frag} {mg : Str → Option Value} {base : Heap}
/-- one bridge of those that are asked -/
theorem asked_one {H0 : Hp} {v : V} {R : Rd} {nm : Nat → Str} {p r q dl fl : Addr} {bs cs : List V} {i : Nat} {b : Br} {o : Int} {t : Addr} {s7 s8 : Option V} {D : Ends} {H : Hp} (hR : IsRoad K H0 v R) (wf : R.WF nm) (er : H0 r = some (.lst bs)) (ir : ITs H0 bs (R.rounds.map rdR)) (es : H0 q = some (.lst cs)) (is_ : ITs H0 cs (R.shuts.map shR))
    (hb : R.bs[i]? = some (b, o)) (ht : H0 t = some (.tup ((brR b).map Lf.v))) (S : Same H0 H)
    (k : ∀ t7 t8 H', Same H0 H' → D.nx [some v, some (.ref p), some (.ref r), some (.ref q), some (.ref dl), some (.ref fl), some (.ref t), t7, t8] H') :
    (tSeq (tIfS (tNot (tB (tCall (sp_law_same K) [] E0 (tCons (tCall (sp_law_told K) [] E0 (tCons (tCall (sp_bridge_of K) [] E0 (tCons (tVar 0) (tCons (tOp (rIx K) (tVar 6) (tC (.int 1))) tNil))) tNil)) (tCons (tVar 6) tNil))))) (tRet (tC (.bl false))) tNext)
      (tSeq (tAsg (tComp (iX K (tVar 2)) (tTest (tOp (rEqG K) (tOp (rIx K) (tVar 0) (tC (.int 0))) (tOp (rIx K) (tVar 1) (tC (.int 1))))) (tOp (rIx K) (tVar 0) (tC (.int 1))) [6]) (gName 7))
      (tSeq (tIfS (tNot (tB (tCall (sp_law_same K) [] E0 (tCons (tCall (sp_round_of K) [] E0 (tCons (tVar 0) (tCons (tOp (rIx K) (tVar 6) (tC (.int 1))) tNil))) (tCons (tOp (rIx K) (tOp rAddG (tVar 7) (tLst (tCons (tC .non) tNil))) (tC (.int 0))) tNil))))) (tRet (tC (.bl false))) tNext)
      (tSeq (tAsg (tCall (sp_shuts_of K) [] E0 (tCons (tVar 0) (tCons (tOp (rIx K) (tVar 6) (tC (.int 1))) tNil))) (gName 8))
      (tSeq (tIfS (tNot (tB (tCall (sp_law_same K) [] E0 (tCons (tVar 8) (tCons (tComp (iX K (tVar 3)) (tTest (tOp (rEqG K) (tOp (rIx K) (tVar 0) (tC (.int 0))) (tOp (rIx K) (tVar 1) (tC (.int 1))))) (tSl (rSlX K) (tVar 0) (tPart (tC (.int 1))) tNoPart) [6]) tNil))))) (tRet (tC (.bl false))) tNext)
      (tDrop (tBM K "list" rAppend (tVar 8) (tCons (tTup (tCons (tC (.int 0)) (tCons (tC (.int 10000)) tNil))) tNil)))))))) D [some v, some (.ref p), some (.ref r), some (.ref q), some (.ref dl), some (.ref fl), some (.ref t), s7, s8] H := by
  have n1 := wf.n1
  have n2 : R.rounds.length ≤ 100 := by have := wf.rl; omega
  have n3 : R.shuts.length ≤ 100 := by have := wf.sl; omega
  have dis : ∀ (j : Nat) (c : Br) (o' : Int), j < i → R.bs[j]? = some (c, o') → c.name ≠ b.name := fun j c o' hj hc z => by
    have h1 := (wf.br j c o' hc).1
    have h2 := (wf.br i b o hb).1
    have l2 := (List.getElem?_eq_some_iff.mp hb).1
    rw [h1, h2] at z
    have := wf.ok.inj j i (by omega) (by omega) z
    omega
  refine ⟨_, rfl, _, rfl, .inr (.inl ⟨t, _, _, _, rfl, rfl, SqT.of (S _ _ ht), rfl, v, R, b.name, i, b, o, rfl, hR.mono S, n1, hb, rfl, dis, fun u H1 S1 isb => ⟨u, .br b, rfl, isb, fun t2 ht2 => ?_⟩⟩)⟩
  refine ⟨_, rfl, _, _, _, rfl, isT_hd ⟨t2, rfl, upd_same⟩ (Nat.le_trans (Pc.r_len (.br b)) (by decide)), isT_hd ⟨t, rfl, (same_new ht2 _) _ _ (S1 _ _ (S _ _ ht))⟩ (Nat.le_trans (Pc.r_len (.br b)) (by decide)), fun H2 S2 => ⟨_, rfl, iteF ?_⟩⟩
  have T2 := S.trans (S1.trans ((same_new ht2 _).trans S2))
  clear S1 S2 isb
  have bl := ir.length
  rw [List.length_map] at bl
  refine .inl ⟨_, rfl, r, rfl, ⟨bs, SqL.of (T2 _ _ er)⟩, ?_⟩
  refine comp_gen bs.length (small1000 (by omega)) (fun i => (R.rounds[i]?).any fun x => decide (x.1 = b.name)) (fun i v _ => ∃ x, R.rounds[i]? = some x ∧ v = V.int x.2) (fun i v H H' _ _ h => h) (fun i H' S3 hi => ⟨bs, bs[i], SqL.of (S3 _ _ (T2 _ _ er)), List.getElem?_eq_getElem hi⟩) (fun H' S3 => ⟨bs, SqL.of (S3 _ _ (T2 _ _ er)), Nat.le_refl _⟩) (fun i H' x H'' K' N S3 hi yl kn ky => ?_) (fun acc H3 fr S3 ha ea sl => ?_)
  · obtain ⟨rfl, yx⟩ := yl
    obtain ⟨x, hx, tt, rfl, htt⟩ := ir.get (yx _ (SqL.of (S3 _ _ (T2 _ _ er))))
    rw [List.getElem?_map] at hx
    obtain ⟨⟨m, l⟩, hm, rfl⟩ := Option.map_eq_some_iff.mp hx
    have h1 := S3 _ _ (T2 _ _ htt)
    refine ⟨_, rfl, .inr (.inl ⟨tt, _, _, _, rfl, rfl, SqT.of h1, rfl, _, rfl, .inr (.inl ⟨t, _, _, _, rfl, rfl, SqT.of (S3 _ _ (T2 _ _ ht)), rfl, .inr (.inr (.inl ⟨rfl, _, rfl, ?_⟩))⟩)⟩)⟩
    by_cases mn : m = b.name
    · exact iteDT (by rw [mn]) ⟨_, rfl, .inr (.inl ⟨tt, _, _, _, rfl, rfl, SqT.of h1, rfl, ky (by rw [hm]; exact decide_eq_true mn) _ _ (Same.refl _) ⟨_, hm, rfl⟩⟩)⟩
    · exact iteDF (fun z => mn (V.str.inj z)) (kn (by rw [hm]; exact decide_eq_false mn) _ (Same.refl _))
  have fe := sl.vals (by omega)
  rw [List.take_of_length_le (by omega)] at fe
  have T3 := T2.trans S3
  clear sl S3
  refine ⟨_, rfl, _, rfl, .inr (.inl ⟨t, _, _, _, rfl, rfl, SqT.of (T3 _ _ ht), rfl, v, R, b.name, rfl, hR.mono T3, n2, fun H4 S4 => ?_⟩)⟩
  have l4 : fr.length ≤ bs.length := by rw [fe, List.length_map]; exact Nat.le_trans (List.length_filter_le _ _) (by omega)
  refine ⟨_, rfl, (by show 1 ≤ sizeLine; decide), fun l1 hl1 => .inr (.inr ⟨acc, l1, _, _, rfl, rfl, (same_new hl1 _) _ _ (S4 _ _ ea), upd_same, small_line (by rw [List.length_singleton]; omega), fun l2 hl2 => ?_⟩)⟩
  refine .inl ⟨l2, _, _, _, rfl, rfl, SqL.of upd_same, by rw [fe]; exact far_first R.rounds, ?_⟩
  refine ⟨_, _, _, rfl, num_hd _, num_hd _, fun H5 S5 => ⟨_, rfl, iteF ?_⟩⟩
  have T5 := T3.trans (S4.trans (((same_new hl1 _).trans (same_new hl2 _)).trans S5))
  clear S4 S5
  refine ⟨_, rfl, _, rfl, .inr (.inl ⟨t, _, _, _, rfl, rfl, SqT.of (T5 _ _ ht), rfl, v, R, b.name, rfl, hR.mono T5, n3, fun hl hs H6 S6 fh eh ih => ?_⟩)⟩
  have T6 := T5.trans S6
  have cl := is_.length
  rw [List.length_map] at cl
  refine ⟨_, rfl, .inl ⟨_, rfl, q, rfl, ⟨cs, SqL.of (T6 _ _ es)⟩, ?_⟩⟩
  refine comp_gen cs.length (small1000 (by omega)) (fun i => (R.shuts[i]?).any fun x => decide (x.1 = b.name)) (fun i v H => ∃ x, R.shuts[i]? = some x ∧ IsT H v (hrR x)) (fun i v H H' T _ ⟨x, hx, q⟩ => ⟨x, hx, q.mono T⟩) (fun i H' S3 hi => ⟨cs, cs[i], SqL.of (S3 _ _ (T6 _ _ es)), List.getElem?_eq_getElem hi⟩) (fun H' S3 => ⟨cs, SqL.of (S3 _ _ (T6 _ _ es)), Nat.le_refl _⟩) (fun i H' x H'' K' N S3 hi yl kn ky => ?_) (fun acc2 H7 gr S7 ha7 ea7 sl => ?_)
  · obtain ⟨rfl, yx⟩ := yl
    obtain ⟨x, hx, tt, rfl, htt⟩ := is_.get (yx _ (SqL.of (S3 _ _ (T6 _ _ es))))
    rw [List.getElem?_map] at hx
    obtain ⟨⟨m, l, l'⟩, hm, rfl⟩ := Option.map_eq_some_iff.mp hx
    have h1 := S3 _ _ (T6 _ _ htt)
    refine ⟨_, rfl, .inr (.inl ⟨tt, _, _, _, rfl, rfl, SqT.of h1, rfl, _, rfl, .inr (.inl ⟨t, _, _, _, rfl, rfl, SqT.of (S3 _ _ (T6 _ _ ht)), rfl, .inr (.inr (.inl ⟨rfl, _, rfl, ?_⟩))⟩)⟩)⟩
    by_cases mn : m = b.name
    · exact iteDT (by rw [mn]) ⟨_, rfl, _, rfl, .inr (.inl ⟨tt, _, rfl, SqT.of h1, (by show ¬ (HT.sIx 3 0 (some 1) = 0 ∧ HT.sIx 3 3 none = 3); decide), fun t3 ht3 => ky (by rw [hm]; exact decide_eq_true mn) _ _ (same_new ht3 _) ⟨_, hm, t3, rfl, upd_same⟩⟩)⟩
    · exact iteDF (fun z => mn (V.str.inj z)) (kn (by rw [hm]; exact decide_eq_false mn) _ (Same.refl _))
  have rows := sl.sel (by omega)
  rw [List.take_of_length_le (by omega)] at rows
  have ll : ((R.shuts.filter fun x => decide (x.1 = b.name)).map hrR).length ≤ 1000 := by
    rw [List.length_map]
    exact Nat.le_trans (List.length_filter_le _ _) (by omega)
  have lr2 : ∀ x ∈ (R.shuts.filter fun x => decide (x.1 = b.name)).map hrR, x.length ≤ 1000 := fun x hx => by
    obtain ⟨y, _, rfl⟩ := List.mem_map.mp hx
    show 2 ≤ 1000
    decide
  refine ⟨_, _, _, rfl, its_list (S7 _ _ eh) (ih.mono (tupsOf S7)) ll lr2, its_list ea7 rows ll lr2, fun H8 S8 => ⟨_, rfl, iteF ?_⟩⟩
  have eh8 := S8 _ _ (S7 _ _ eh)
  have hn : H0 hl = none := by
    cases z : H0 hl with
    | none => rfl
    | some oo => have := T5 _ _ z; rw [fh] at this; cases this
  refine ⟨_, rfl, .inl ⟨rfl, _, SqL.of eh8⟩, (by show 2 ≤ sizeLine; decide), fun t4 ht4 => ⟨hl, _, _, rfl, rfl, (same_new ht4 _) _ _ eh8, ?_, ?_⟩⟩
  · have := ih.length
    exact small1000 (by omega)
  · refine k _ _ _ fun x y ex => ?_
    rw [upd_ne (ne_of_none ex hn)]
    exact (same_new ht4 _) _ _ (S8 _ _ (S7 _ _ (T6 _ _ ex)))
/-- 0 _law_road 1 _law_pieces_here 2 _law_rounds 3 _law_shuts 4 _law_due 5 _law_found 6 _law_piece 7 _law_far 8 _law_hours -/
theorem ok_law_asked {f : Addr} {fd : FuncData} (F : Fun K "_law_asked" "_law_asked" s_law_asked f fd) (g_bridges_of : Got P w K mg base 1 "bridges_of" ["road"] (sp_bridges_of K)) (g_shuts_of : Got P w K mg base 1 "shuts_of" ["road", "name"] (sp_shuts_of K)) (g_law_same : Got P w K mg base 14 "_law_same" ["_law_found", "_law_due"] (sp_law_same K)) (g_law_told : Got P w K mg base 1 "_law_told" ["_law_piece"] (sp_law_told K)) (g_round_of : Got P w K mg base 1 "round_of" ["road", "name"] (sp_round_of K)) (g_bridge_of : Got P w K mg base 2 "bridge_of" ["road", "name"] (sp_bridge_of K)) (z_isinstance : mg "isinstance" = none) (z_list : mg "list" = none) :
    FnOk P w K mg base CX0 15 f fd ["_law_road", "_law_pieces_here", "_law_rounds", "_law_shuts"] (sp_law_asked K) := by
  refine F.ok sc_law_asked (fun vs H Q E h => ?_) (fun cdv A outer s H vs Q E hr h => ?_)
  · obtain ⟨v, R, nm, p, r, q, as, bs, cs, rfl, _⟩ := h
    rfl
  obtain ⟨v, R, nm, p, r, q, as, bs, cs, rfl, hR, wf, ep, ip, er, ir, es, is_, k⟩ := h
  have hu := hr.units
  refine ⟨_, (pss_cons (ps_compG [] [] (CompC.to cs_law_asked_0 rfl rfl) rfl (pi_or (pi_list (pv 1)) (pi_str (pv 1))) (fun _ _ _ _ _ => (pif_one (pt_cmpR (op_eqGK (K := K) rfl (by exact hu)) (pe_ix (ix_seqK (K := K) rfl) (pv 0) pe_int (fun _ _ => rfl)) pe_str (nomark _)))) (fun _ _ _ _ _ => (pv 0)) 4 sc_law_asked.nd rfl (by first | exact Or.inl rfl | exact Or.inr rfl))
      (pss_cons (ps_set (i := 5) sc_law_asked.nd rfl (by first | exact Or.inl rfl | exact Or.inr rfl) (pe_go g_bridges_of hr (by first | decide | omega) rfl (pa_cons (pv 0) pa_nil)))
      (pss_cons (ps_if (PW.pt (pw_or (pt_not (pt_val (pe_callB call_isT rfl z_isinstance b_isinstance (pa_cons (pv 5) (pa_cons (pe_bltn (v := .ty "list") rfl z_list b_list rfl) pa_nil))))) (pw_or1 (pt_not (pt_val (pe_go g_law_same hr (by first | decide | omega) rfl (pa_cons (pe_compG [] [] (CompC.to cs_law_asked_1 rfl rfl) rfl (pi_or (pi_list (pv 5)) (pi_str (pv 5))) (fun _ _ _ _ _ => pif_nil) (fun _ _ _ _ _ => (pe_go g_law_told (by exact hr) (by first | decide | omega) rfl (pa_cons (pv 0) pa_nil)))) (pa_cons (pv 4) pa_nil)))))))) (pss_one (ps_ret pe_bl)) pss_nil)
      (pss_cons (ps_expr (pe_bm PySem.F.plainAttrs_list PySem.F.slot_list_append PySem.F.type_list_append mt_append (pv 5) (pa_cons pe_non pa_nil)))
      (pss_cons (ps_for PassesOwn.never rfl (pi_or (pi_list (pv 4)) (pi_str (pv 4))) (pg_name (i := 6) sc_law_asked.nd rfl (by first | exact Or.inl rfl | exact Or.inr rfl)) (pss_cons (ps_if (pt_not (pt_val (pe_go g_law_same hr (by first | decide | omega) rfl (pa_cons (pe_go g_law_told hr (by first | decide | omega) rfl (pa_cons (pe_go g_bridge_of hr (by first | decide | omega) rfl (pa_cons (pv 0) (pa_cons (pe_ix ix_seq (pv 6) pe_int (fun _ _ => rfl)) pa_nil))) pa_nil)) (pa_cons (pv 6) pa_nil))))) (pss_one (ps_ret pe_bl)) pss_nil)
      (pss_cons (ps_compG ["_law_piece"] [6] (CompC.to cs_law_asked_2 rfl rfl) rfl (pi_or (pi_list (pv 2)) (pi_str (pv 2))) (fun _ _ _ _ _ => (pif_one (pt_cmpR (op_eqGK (K := K) rfl (by exact hu)) (pe_ix (ix_seqK (K := K) rfl) (pv 0) pe_int (fun _ _ => rfl)) (pe_ix (ix_seqK (K := K) rfl) (pv 1) pe_int (fun _ _ => rfl)) (nomark _)))) (fun _ _ _ _ _ => (pe_ix (ix_seqK (K := K) rfl) (pv 0) pe_int (fun _ _ => rfl))) 7 sc_law_asked.nd rfl (by first | exact Or.inl rfl | exact Or.inr rfl))
      (pss_cons (ps_if (pt_not (pt_val (pe_go g_law_same hr (by first | decide | omega) rfl (pa_cons (pe_go g_round_of hr (by first | decide | omega) rfl (pa_cons (pv 0) (pa_cons (pe_ix ix_seq (pv 6) pe_int (fun _ _ => rfl)) pa_nil))) (pa_cons (pe_ix ix_seq (pe_op op_addG (pv 7) (pe_lst (pa_cons pe_non pa_nil))) pe_int (fun _ _ => rfl)) pa_nil))))) (pss_one (ps_ret pe_bl)) pss_nil)
      (pss_cons (ps_set (i := 8) sc_law_asked.nd rfl (by first | exact Or.inl rfl | exact Or.inr rfl) (pe_go g_shuts_of hr (by first | decide | omega) rfl (pa_cons (pv 0) (pa_cons (pe_ix ix_seq (pv 6) pe_int (fun _ _ => rfl)) pa_nil))))
      (pss_cons (ps_if (pt_not (pt_val (pe_go g_law_same hr (by first | decide | omega) rfl (pa_cons (pv 8) (pa_cons (pe_compG ["_law_piece"] [6] (CompC.to cs_law_asked_3 rfl rfl) rfl (pi_or (pi_list (pv 3)) (pi_str (pv 3))) (fun _ _ _ _ _ => (pif_one (pt_cmpR (op_eqGK (K := K) rfl (by exact hu)) (pe_ix (ix_seqK (K := K) rfl) (pv 0) pe_int (fun _ _ => rfl)) (pe_ix (ix_seqK (K := K) rfl) (pv 1) pe_int (fun _ _ => rfl)) (nomark _)))) (fun _ _ _ _ _ => (pe_slice (slXK (K := K) rfl) (pv 0) (po_some pe_int) po_none))) pa_nil))))) (pss_one (ps_ret pe_bl)) pss_nil)
      (pss_one (ps_expr (pe_bm PySem.F.plainAttrs_list PySem.F.slot_list_append PySem.F.type_list_append mt_append (pv 8) (pa_cons (pe_tup (pa_cons pe_int (pa_cons pe_int pa_nil))) pa_nil))))))))))
      (pss_one (ps_ret pe_bl))))))), ?_⟩
  have n1 := wf.n1
  have pl := R.pcs_len
  rw [← R.pcs_r] at ip
  have al := ip.length
  rw [List.length_map] at al
  refine .inl ⟨_, rfl, p, rfl, ⟨as, SqL.of ep⟩, ?_⟩
  refine comp_gen as.length (small1000 (by omega)) (fun i => (R.pcs[i]?).any Pc.isB) (fun i v H => ∃ x, R.pcs[i]? = some x ∧ IsT H v x.r) (fun i v H H' T _ ⟨x, hx, q⟩ => ⟨x, hx, q.mono T⟩) (fun i H' S hi => ⟨as, as[i], SqL.of (S _ _ ep), List.getElem?_eq_getElem hi⟩) (fun H' S => ⟨as, SqL.of (S _ _ ep), Nat.le_refl _⟩) (fun i H' x H'' K' N S hi yl kn ky => ?_) (fun dl H1 ys S1 _ e1 sl => ?_)
  · obtain ⟨rfl, yx⟩ := yl
    obtain ⟨x, hx, t, rfl, ht⟩ := ip.get (yx _ (SqL.of (S _ _ ep)))
    rw [List.getElem?_map] at hx
    obtain ⟨pc, hm, rfl⟩ := Option.map_eq_some_iff.mp hx
    have h1 := S _ _ ht
    cases pc with
    | op l => exact ⟨_, rfl, .inr (.inl ⟨t, _, _, _, rfl, rfl, SqT.of h1, rfl, .inr (.inr (.inl ⟨rfl, _, rfl, iteDF (Ne.symm bo_ne) (kn (by rw [hm]; rfl) _ (Same.refl _))⟩))⟩)⟩
    | br b => exact ⟨_, rfl, .inr (.inl ⟨t, _, _, _, rfl, rfl, SqT.of h1, rfl, .inr (.inr (.inl ⟨rfl, _, rfl, iteDT rfl ⟨_, rfl, ky (by rw [hm]; rfl) _ _ (Same.refl _) ⟨_, hm, t, rfl, h1⟩⟩⟩))⟩)⟩
  have rows := sl.sel (by omega)
  rw [List.take_of_length_le (by omega), R.pcs_fil] at rows
  clear sl
  have yl := rows.length
  rw [List.length_map, List.length_map] at yl
  refine ⟨_, rfl, v, R, rfl, hR.mono S1, n1, fun fl ws H2 S2 hfl e2 i2 => ?_⟩
  have wl := i2.length
  rw [List.length_map] at wl
  refine ⟨_, rfl, _, _, _, _, rfl, .lst e2, kit_list_list, _, rfl, iteF ?_⟩
  refine .inl ⟨_, rfl, fl, rfl, ⟨ws, SqL.of e2⟩, ?_⟩
  refine comp_gen ws.length (small1000 (by omega)) (fun _ => true) (fun i v H => ∃ r, ((R.bs.map fun x => Pc.br x.1).map Pc.r)[i]? = some r ∧ IsT H v r) (fun i v H H' T _ ⟨r, hr, q⟩ => ⟨r, hr, q.mono T⟩) (fun i H' S hi => ⟨ws, ws[i], SqL.of (S _ _ e2), List.getElem?_eq_getElem hi⟩) (fun H' S => ⟨ws, SqL.of (S _ _ e2), Nat.le_refl _⟩) (fun i H' x H'' K' N S hi yl _ kk => ?_) (fun acc H3 zs S3 _ e3 sl => ?_)
  · obtain ⟨rfl, yx⟩ := yl
    obtain ⟨pc, hpc, ispc⟩ := i2.get (yx _ (SqL.of (S _ _ e2)))
    unfold tYes
    refine iteT ?_
    exact ⟨_, rfl, x, pc, rfl, Pc.mono (insOf S) ispc, fun t ht => kk rfl _ _ (same_new ht _) ⟨pc.r, by rw [List.getElem?_map, hpc]; rfl, t, rfl, upd_same⟩⟩
  have rows2 := sl.rows
  rw [List.take_of_length_le (by rw [List.length_map, List.length_map]; omega)] at rows2
  clear sl
  have l0 : ((R.bs.map fun x => Pc.br x.1).map Pc.r).length ≤ 1000 := by rw [List.length_map, List.length_map]; omega
  have l1 : ∀ x ∈ (R.bs.map fun x => Pc.br x.1).map Pc.r, x.length ≤ 1000 := fun x hx => by
    obtain ⟨pc, _, rfl⟩ := List.mem_map.mp hx
    have := pc.r_len
    omega
  have T3 := S2.trans S3
  refine ⟨_, rfl, _, _, _, rfl, its_list e3 rows2 l0 l1, its_list (T3 _ _ e1) (rows.mono (tupsOf T3)) l0 l1, fun H4 S4 => ⟨_, rfl, iteF ?_⟩⟩
  have e4 := S4 _ _ (S3 _ _ e2)
  refine ⟨_, rfl, .inl ⟨rfl, _, SqL.of e4⟩, fl, ws, _, rfl, rfl, e4, small1000 (by omega), ?_⟩
  have S5 : Same H1 (upd H4 fl (.lst (ws ++ [.non]))) := fun x y ex => by
    rw [upd_ne (ne_of_none ex hfl)]
    exact S4 _ _ (T3 _ _ ex)
  generalize upd H4 fl (.lst (ws ++ [.non])) = H5 at S5 ⊢
  refine .inl ⟨_, rfl, dl, rfl, ⟨ys, SqL.of (S5 _ _ e1)⟩, ?_⟩
  refine for_list (xs := ys) (fun i σ H' => (∃ s6 s7 s8, σ = [some v, some (.ref p), some (.ref r), some (.ref q), some (.ref dl), some (.ref fl), s6, s7, s8]) ∧ Same H1 H') ⟨⟨_, _, _, rfl⟩, S5⟩ (fun i σ H' _ hP => SqL.of (hP.2 _ _ e1)) (fun i x σ H' hx hP => ?_) (fun σ H' hP => ?_)
  · obtain ⟨⟨s6, s7, s8, rfl⟩, S6⟩ := hP
    obtain ⟨rw0, hrw, t, rfl, ht⟩ := rows.get hx
    rw [List.getElem?_map, List.getElem?_map] at hrw
    obtain ⟨pc, hpc, rfl⟩ := Option.map_eq_some_iff.mp hrw
    obtain ⟨⟨b, o⟩, hb, rfl⟩ := Option.map_eq_some_iff.mp hpc
    exact asked_one (hR.mono S1) wf (S1 _ _ er) (ir.mono (tupsOf S1)) (S1 _ _ es) (is_.mono (tupsOf S1)) hb ht S6 fun t7 t8 H7 S7 => ⟨⟨_, _, _, rfl⟩, S7⟩
  · exact k H' (S1.trans hP.2)
end
def sp_law (K : PySem.W.Frag) : Sp := fun vs H Q _ => ∃ (a : Addr) (ns : List Int), vs = [.ref a] ∧ SqL K H a (ns.map V.int) ∧ ns.length ≤ 63 ∧ ∀ H', Q (.bl true) H'
/-! a road of lists of its own -/
structure RoadAt (K : PySem.W.Frag) (H : Hp) (v : V) (R : Rd) (lp lr ls : Addr) : Prop where
  ex : ∃ a dx fs vs us ws, v = .ref a ∧ H a = some (.ins (clA K "Road") dx fs) ∧ fs.lookup ("pieces" : Str) = some (.ref lp) ∧ fs.lookup ("rounds" : Str) = some (.ref lr) ∧ fs.lookup ("shuts" : Str) = some (.ref ls) ∧
    H lp = some (.lst vs) ∧ IPs K H vs R.pcs ∧ H lr = some (.lst us) ∧ ITs H us (R.rounds.map rdR) ∧ H ls = some (.lst ws) ∧ ITs H ws (R.shuts.map shR)
  d : PKd K kNames (clA K "Road") ["Road"] ["pieces", "rounds", "shuts"]
section
variable {P : Program} {w : World} {K : PySem.W.Frag} {mg : Str → Option Value} {base : Heap}
theorem RoadAt.road {H : Hp} {v : V} {R : Rd} {lp lr ls : Addr} (r : RoadAt K H v R lp lr ls) : IsRoad K H v R := by
  obtain ⟨a, dx, fs, vs, us, ws, h⟩ := r.ex
  exact ⟨⟨a, dx, fs, lp, lr, ls, vs, us, ws, h⟩, r.d⟩
theorem RoadAt.keep {H H' : Hp} {v : V} {R : Rd} {lp lr ls c : Addr} {zs : List V} (r : RoadAt K H v R lp lr ls) (e : H c = some (.lst zs)) (n1 : lp ≠ c) (n2 : lr ≠ c) (n3 : ls ≠ c) (k : ∀ b o, b ≠ c → H b = some o → H' b = some o) : RoadAt K H' v R lp lr ls := by
  obtain ⟨a, dx, fs, vs, us, ws, e0, h, f1, f2, f3, h1, i1, h2, i2, h3, i3⟩ := r.ex
  have T : TupS H H' := fun b xs eb => k b _ (fun z => by subst z; rw [e] at eb; cases eb) eb
  have N : InsS H H' := fun b _ _ _ eb => k b _ (fun z => by subst z; rw [e] at eb; cases eb) eb
  exact ⟨⟨a, dx, fs, vs, us, ws, e0, N _ _ _ _ h, f1, f2, f3, k _ _ n1 h1, i1.mono N, k _ _ n2 h2, i2.mono T, k _ _ n3 h3, i3.mono T⟩, r.d⟩
theorem mk_road {H : Hp} {R : Rd} {Rr : Hp → Prop} {E : XK} {x dx p r q : Addr} {as bs cs : List V} (d : PKd K kNames (clA K "Road") ["Road"] ["pieces", "rounds", "shuts"]) (hx : H x = none) (hd : H dx = none) (ne : dx ≠ x) (ep : H p = some (.lst as)) (ip : IPs K H as R.pcs) (er : H r = some (.lst bs)) (ir : ITs H bs (R.rounds.map rdR)) (es : H q = some (.lst cs)) (is_ : ITs H cs (R.shuts.map shR))
    (k : ∀ H' lp lr ls, Same H H' → RoadAt K H' (.ref x) R lp lr ls → H lp = none → H lr = none → H ls = none → Rr H') :
    sp_Road_init K [.ref x, .ref p, .ref r, .ref q] (upd (upd H dx (.own x)) x (.ins (clA K "Road") dx [])) (fun v H2 => v = .non ∧ Rr H2) E := by
  have up : ∀ {b : Addr} {o : HO}, H b = some o → b ≠ x ∧ (upd (upd H dx (.own x)) x (.ins (clA K "Road") dx [])) b = some o := fun {b o} eb => by
    have h1 := ne_of_none eb hx
    exact ⟨h1, by rw [upd_ne h1, upd_ne (ne_of_none eb hd)]; exact eb⟩
  have no : ∀ {b : Addr}, (upd (upd H dx (.own x)) x (.ins (clA K "Road") dx [])) b = none → H b = none := fun {b} eb => by
    cases z : H b with
    | none => rfl
    | some o => have := (up z).2; rw [eb] at this; cases this
  refine ⟨x, _, dx, p, r, q, as, bs, cs, rfl, upd_same, (up ep).2, (up er).2, (up es).2, d.cls, d.na _ (by simp), d.na _ (by simp), d.na _ (by simp), fun H' fs lp lr ls sm f1 f2 f3 hx' l1 l2 l3 g1 g2 g3 => ⟨rfl, ?_⟩⟩
  have S : Same H H' := fun b o eb => sm b o (up eb).1 (up eb).2
  exact k H' lp lr ls S ⟨⟨x, dx, fs, as, bs, cs, rfl, hx', l1, l2, l3, g1, ip.mono (insOf S), g2, ir.mono (tupsOf S), g3, is_.mono (tupsOf S)⟩, d⟩ (no f1) (no f2) (no f3)
/-- what stands while the lists handed in are changed -/
structure Wd (K : PySem.W.Frag) (H1 : Hp) (v : V) (R : Rd) (hd p1 p2 p3 lp lr ls : Addr) (H : Hp) : Prop where
  S : Same H1 H
  ra : RoadAt K H v R lp lr ls
  eh : H hd = some (.lst [.ref p1, .ref p2, .ref p3])
  l1 : ∃ xs, H p1 = some (.lst xs) ∧ xs.length ≤ 200
  l2 : ∃ xs, H p2 = some (.lst xs) ∧ xs.length ≤ 200
  l3 : ∃ xs, H p3 = some (.lst xs) ∧ xs.length ≤ 200
structure Ap (H1 : Hp) (hd p lp lr ls : Addr) : Prop where
  f : H1 p = none
  h : hd ≠ p
  a : lp ≠ p
  b : lr ≠ p
  c : ls ≠ p
theorem Wd.same {H1 H H' : Hp} {v : V} {R : Rd} {hd p1 p2 p3 lp lr ls : Addr} (W : Wd K H1 v R hd p1 p2 p3 lp lr ls H) (S : Same H H') : Wd K H1 v R hd p1 p2 p3 lp lr ls H' := by
  obtain ⟨s, ra, eh, ⟨a1, b1, c1⟩, ⟨a2, b2, c2⟩, ⟨a3, b3, c3⟩⟩ := W
  obtain ⟨a, dx, fs, vs, us, ws, e0, h, f1, f2, f3, h1, i1, h2, i2, h3, i3⟩ := ra.ex
  exact ⟨s.trans S, ⟨⟨a, dx, fs, vs, us, ws, e0, S _ _ h, f1, f2, f3, S _ _ h1, i1.mono (insOf S), S _ _ h2, i2.mono (tupsOf S), S _ _ h3, i3.mono (tupsOf S)⟩, ra.d⟩, S _ _ eh, ⟨a1, S _ _ b1, c1⟩, ⟨a2, S _ _ b2, c2⟩, ⟨a3, S _ _ b3, c3⟩⟩
theorem put_l {H : Hp} {p p1 : Addr} {ys : List V} (hy : ys.length ≤ 200) (h : ∃ xs, H p1 = some (.lst xs) ∧ xs.length ≤ 200) : ∃ xs, (upd H p (.lst ys)) p1 = some (.lst xs) ∧ xs.length ≤ 200 := by
  by_cases z : p1 = p
  · subst z; exact ⟨ys, upd_same, hy⟩
  · rw [upd_ne z]; exact h
theorem Wd.put {H1 H : Hp} {v : V} {R : Rd} {hd p1 p2 p3 lp lr ls p : Addr} {zs ys : List V} (W : Wd K H1 v R hd p1 p2 p3 lp lr ls H) (A : Ap H1 hd p lp lr ls) (e : H p = some (.lst zs)) (hy : ys.length ≤ 200) : Wd K H1 v R hd p1 p2 p3 lp lr ls (upd H p (.lst ys)) := by
  refine ⟨fun b o eb => ?_, W.ra.keep e A.a A.b A.c fun b o hb eb => by rw [upd_ne hb]; exact eb, by rw [upd_ne A.h]; exact W.eh, put_l hy W.l1, put_l hy W.l2, put_l hy W.l3⟩
  rw [upd_ne (ne_of_none eb A.f)]
  exact W.S _ _ eb
/-- 0 _law_script 1 _law_names_here 2 _law_pieces_here 3 _law_rounds 4 _law_shuts 5 _law_handed 6 _law_road 7 _law_turn -/
theorem ok_law {f : Addr} {fd : FuncData} (F : Fun K "law" "law" s_law f fd) (g_law_parts : Got P w K mg base 4 "_law_parts" ["_law_script"] (sp_law_parts K)) (g_law_pieces : Got P w K mg base 3 "_law_pieces" ["_law_pieces_here"] (sp_law_pieces K)) (g_law_road_is : Got P w K mg base 15 "_law_road_is" ["_law_road", "_law_pieces_here", "_law_rounds", "_law_shuts"] (sp_law_road_is K)) (g_law_asked : Got P w K mg base 15 "_law_asked" ["_law_road", "_law_pieces_here", "_law_rounds", "_law_shuts"] (sp_law_asked K)) (m_Road : GotP P w K mg base 1 "Road" ["self", "pieces", "rounds", "shuts"] (sp_Road_init K)) (d_Road : PKd K kNames (clA K "Road") ["Road"] ["pieces", "rounds", "shuts"]) (m_Open : GotP P w K mg base 1 "Open" ["self", "length"] (sp_Open_init K)) (d_Open : PKd K kNames (clA K "Open") ["Open"] ["length"]) (z_range : mg "range" = none) (z_list : mg "list" = none) :
    FnOk P w K mg base CX0 16 f fd ["_law_script"] (sp_law K) := by
  refine F.ok sc_law (fun vs H Q E h => ?_) (fun cdv A outer s H vs Q E hr h => ?_)
  · obtain ⟨a, ns, rfl, _⟩ := h
    rfl
  obtain ⟨a, ns, rfl, hS, hlen, k⟩ := h
  have hu := hr.units
  refine ⟨_, (pss_cons (ps_asg (pe_go g_law_parts hr (by first | decide | omega) rfl (pa_cons (pv 0) pa_nil)) (pg_tup rfl (pgs_cons (pg_name (i := 1) sc_law.nd rfl (by first | exact Or.inl rfl | exact Or.inr rfl)) (pgs_cons (pg_name (i := 2) sc_law.nd rfl (by first | exact Or.inl rfl | exact Or.inr rfl)) (pgs_cons (pg_name (i := 3) sc_law.nd rfl (by first | exact Or.inl rfl | exact Or.inr rfl)) (pgs_cons (pg_name (i := 4) sc_law.nd rfl (by first | exact Or.inl rfl | exact Or.inr rfl)) pgs_nil))))))
      (pss_cons (ps_set (i := 5) sc_law.nd rfl (by first | exact Or.inl rfl | exact Or.inr rfl) (pe_lst (pa_cons (pe_go g_law_pieces hr (by first | decide | omega) rfl (pa_cons (pv 2) pa_nil)) (pa_cons (pe_callTy call_list_of rfl z_list b_list (pa_cons (pv 3) pa_nil)) (pa_cons (pe_callTy call_list_of rfl z_list b_list (pa_cons (pv 4) pa_nil)) pa_nil)))))
      (pss_cons (ps_set (i := 6) sc_law.nd rfl (by first | exact Or.inl rfl | exact Or.inr rfl) (pe_mkP m_Road hr (by decide) rfl (pa_cons (pe_ix ix_seq (pv 5) pe_int (fun _ _ => rfl)) (pa_cons (pe_ix ix_seq (pv 5) pe_int (fun _ _ => rfl)) (pa_cons (pe_ix ix_seq (pv 5) pe_int (fun _ _ => rfl)) pa_nil)))))
      (pss_cons (ps_expr (pe_bm PySem.F.plainAttrs_list PySem.F.slot_list_append PySem.F.type_list_append mt_append (pe_ix ix_seq (pv 5) pe_int (fun _ _ => rfl)) (pa_cons (pe_mkP m_Open hr (by decide) rfl (pa_cons pe_int pa_nil)) pa_nil)))
      (pss_cons (ps_expr (pe_bm PySem.F.plainAttrs_list PySem.F.slot_list_insert PySem.F.type_list_insert mt_insert (pe_ix ix_seq (pv 5) pe_int (fun _ _ => rfl)) (pa_cons pe_int (pa_cons (pe_tup (pa_cons (pe_ix ix_seq (pv 1) pe_int (fun _ _ => rfl)) (pa_cons pe_int pa_nil))) pa_nil))))
      (pss_cons (ps_expr (pe_bm PySem.F.plainAttrs_list PySem.F.slot_list_append PySem.F.type_list_append mt_append (pe_ix ix_seq (pv 5) pe_int (fun _ _ => rfl)) (pa_cons (pe_tup (pa_cons (pe_ix ix_seq (pv 1) pe_int (fun _ _ => rfl)) (pa_cons pe_int (pa_cons pe_int pa_nil)))) pa_nil)))
      (pss_cons (ps_for PassesOwn.never rfl (pi_range1 rfl z_range (pa_cons pe_int pa_nil)) (pg_name (i := 7) sc_law.nd rfl (by first | exact Or.inl rfl | exact Or.inr rfl)) (pss_one (ps_if (PW.pt (pw_or (pt_not (pt_val (pe_go g_law_road_is hr (by first | decide | omega) rfl (pa_cons (pv 6) (pa_cons (pv 2) (pa_cons (pv 3) (pa_cons (pv 4) pa_nil))))))) (pw_or1 (pt_not (pt_val (pe_go g_law_asked hr (by first | decide | omega) rfl (pa_cons (pv 6) (pa_cons (pv 2) (pa_cons (pv 3) (pa_cons (pv 4) pa_nil)))))))))) (pss_one (ps_ret pe_bl)) pss_nil)))
      (pss_one (ps_ret pe_bl))))))))), ?_⟩
  refine ⟨_, rfl, a, ns, rfl, hS, hlen, fun nm R v0 H1 S1 wf pt => ?_⟩
  obtain ⟨t, ln, lp, lr, ls, vs, us, ws, rfl, et, en, e1, i1, e2, i2, e3, i3⟩ := pt.ex
  refine ⟨t, _, rfl, SqT.of et, rfl, _, _, rfl, _, _, rfl, _, _, rfl, _, _, rfl, rfl, ?_⟩
  have n1 := wf.n1
  have pl := R.pcs_len
  have ul := i2.length
  have wl := i3.length
  rw [List.length_map] at ul wl
  have rl := wf.rl
  have sl := wf.sl
  refine ⟨_, rfl, lp, vs, R.pcs, rfl, e1, by rw [R.pcs_r]; exact i1, by omega, fun p1 w1 H2 S2 f1 g1 ip => ?_⟩
  have pw := ip.length
  refine ⟨_, rfl, lr, us, rfl, .inl (SqL.of (S2 _ _ e2)), fun p2 f2 => ?_⟩
  refine ⟨_, rfl, ls, ws, rfl, .inl (SqL.of ((same_new f2 _) _ _ (S2 _ _ e3))), fun p3 f3 => ?_⟩
  refine ⟨(by show 3 ≤ sizeLine; decide), fun hd fh => ?_⟩
  have N2 := same_new f2 (.lst us)
  have N3 := same_new f3 (.lst ws)
  have N4 := same_new fh (.lst [.ref p1, .ref p2, .ref p3])
  have S5 := N2.trans (N3.trans N4)
  have no : ∀ {G G' : Hp} {x : Addr}, Same G G' → G' x = none → G x = none := fun {G G' x} sg gx => by
    cases q : G x with
    | none => rfl
    | some o => have := sg _ _ q; rw [gx] at this; cases this
  have c2 := no S2 f2
  have c3 := no (S2.trans N2) f3
  have E1 := S5 _ _ g1
  have E2 : (upd (upd (upd H2 p2 (.lst us)) p3 (.lst ws)) hd (.lst [.ref p1, .ref p2, .ref p3])) p2 = some (.lst us) := N4 _ _ (N3 _ _ upd_same)
  have E3 : (upd (upd (upd H2 p2 (.lst us)) p3 (.lst ws)) hd (.lst [.ref p1, .ref p2, .ref p3])) p3 = some (.lst ws) := N4 _ _ upd_same
  have EH : (upd (upd (upd H2 p2 (.lst us)) p3 (.lst ws)) hd (.lst [.ref p1, .ref p2, .ref p3])) hd = some (.lst [.ref p1, .ref p2, .ref p3]) := upd_same
  have x1 : hd ≠ p1 := (ne_of_none (N3 _ _ (N2 _ _ g1)) fh).symm
  have x2 : hd ≠ p2 := (ne_of_none (N3 _ _ upd_same) fh).symm
  have x3 : hd ≠ p3 := fun z => by rw [z, upd_same] at fh; cases fh
  have x12 : p2 ≠ p1 := (ne_of_none g1 f2).symm
  have x13 : p3 ≠ p1 := (ne_of_none (N2 _ _ g1) f3).symm
  have x23 : p3 ≠ p2 := fun z => by rw [z, upd_same] at f3; cases f3
  have S6 := S2.trans S5
  generalize upd (upd (upd H2 p2 (.lst us)) p3 (.lst ws)) hd (.lst [.ref p1, .ref p2, .ref p3]) = H5 at S5 E1 E2 E3 EH S6 ⊢
  refine ⟨_, rfl, .inl ⟨hd, _, _, _, rfl, rfl, SqL.of EH, rfl, _, rfl, .inl ⟨hd, _, _, _, rfl, rfl, SqL.of EH, rfl, _, rfl, .inl ⟨hd, _, _, _, rfl, rfl, SqL.of EH, rfl, fun x dx hx hdx ne => mk_road (R := R) d_Road hx hdx ne E1 (ip.mono (insOf S5)) E2 (i2.mono (tupsOf S6)) E3 (i3.mono (tupsOf S6)) fun H6 q1 q2 q3 S7 ra y1 y2 y3 => ?_⟩⟩⟩⟩
  have ap : ∀ {p : Addr} {zs : List V}, H1 p = none → hd ≠ p → H5 p = some (.lst zs) → Ap H1 hd p q1 q2 q3 := fun {p zs} h1 h2 h3 => ⟨h1, h2, (ne_of_none h3 y1).symm, (ne_of_none h3 y2).symm, (ne_of_none h3 y3).symm⟩
  have A1 := ap f1 x1 E1
  have A2 := ap c2 x2 E2
  have A3 := ap c3 x3 E3
  have W : Wd K H1 (.ref x) R hd p1 p2 p3 q1 q2 q3 H6 := ⟨S6.trans S7, ra, S7 _ _ EH, ⟨_, S7 _ _ E1, by omega⟩, ⟨_, S7 _ _ E2, by omega⟩, ⟨_, S7 _ _ E3, by omega⟩⟩
  obtain ⟨z1, zl1⟩ : ∃ z1, H6 p1 = some (.lst z1) ∧ z1.length ≤ 100 := ⟨_, S7 _ _ E1, by omega⟩
  obtain ⟨z2, zl2⟩ : ∃ z2, H6 p2 = some (.lst z2) ∧ z2.length ≤ 100 := ⟨_, S7 _ _ E2, by omega⟩
  obtain ⟨z3, zl3⟩ : ∃ z3, H6 p3 = some (.lst z3) ∧ z3.length ≤ 100 := ⟨_, S7 _ _ E3, by omega⟩
  clear E1 E2 E3 EH S5 S6 S7 ra y1 y2 y3 ap
  refine ⟨_, rfl, .inl ⟨hd, _, _, _, rfl, rfl, SqL.of W.eh, rfl, .inl ⟨rfl, _, SqL.of zl1.1⟩, fun x2 dx2 hx2 hdx2 ne2 => mk_open (n := 300) d_Open hx2 hdx2 ne2 fun H7 S7 o7 => ⟨p1, z1, _, rfl, rfl, S7 _ _ zl1.1, small1000 (by omega), ?_⟩⟩⟩
  have W2 := (W.same S7).put (ys := z1 ++ [.ref x2]) A1 (S7 _ _ zl1.1) (by rw [List.length_append, List.length_singleton]; omega)
  have em2 : (upd H7 p1 (.lst (z1 ++ [.ref x2]))) p2 = some (.lst z2) := by rw [upd_ne x12]; exact S7 _ _ zl2.1
  have em3 : (upd H7 p1 (.lst (z1 ++ [.ref x2]))) p3 = some (.lst z3) := by rw [upd_ne x13]; exact S7 _ _ zl3.1
  generalize upd H7 p1 (.lst (z1 ++ [.ref x2])) = H8 at W2 em2 em3 ⊢
  have nm0 : atI (nmV nm) 0 = some (.str (nm 0)) := nm_at (i := 0) (by decide)
  refine ⟨_, rfl, .inl ⟨hd, _, _, _, rfl, rfl, SqL.of W2.eh, rfl, .inl ⟨rfl, _, SqL.of em2⟩, _, rfl, .inl ⟨ln, _, _, _, rfl, rfl, SqL.of (W2.S _ _ en), nm0, (by show 2 ≤ sizeLine; decide), fun t2 ht2 => ⟨p2, z2, 0, _, rfl, rfl, by decide, by decide, (same_new ht2 _) _ _ em2, small1000 (by omega), ?_⟩⟩⟩⟩
  have W3 := (W2.same (same_new ht2 (.tup [.str (nm 0), .int 999]))).put (ys := z2.take (0 : Int).toNat ++ .ref t2 :: z2.drop (0 : Int).toNat) A2 ((same_new ht2 _) _ _ em2) (by
    show (List.take 0 z2 ++ V.ref t2 :: List.drop 0 z2).length ≤ 200
    simp
    omega)
  have em4 : (upd (upd H8 t2 (.tup [.str (nm 0), .int 999])) p2 (.lst (z2.take (0 : Int).toNat ++ .ref t2 :: z2.drop (0 : Int).toNat))) p3 = some (.lst z3) := by rw [upd_ne x23]; exact (same_new ht2 _) _ _ em3
  generalize upd (upd H8 t2 (.tup [.str (nm 0), .int 999])) p2 (.lst (z2.take (0 : Int).toNat ++ .ref t2 :: z2.drop (0 : Int).toNat)) = H9 at W3 em4 ⊢
  refine ⟨_, rfl, .inl ⟨hd, _, _, _, rfl, rfl, SqL.of W3.eh, rfl, .inl ⟨rfl, _, SqL.of em4⟩, _, rfl, .inl ⟨ln, _, _, _, rfl, rfl, SqL.of (W3.S _ _ en), nm0, (by show 3 ≤ sizeLine; decide), fun t3 ht3 => ⟨p3, z3, _, rfl, rfl, (same_new ht3 _) _ _ em4, small1000 (by omega), ?_⟩⟩⟩⟩
  refine ⟨_, rfl, by decide, by decide, for_range (fun _ σ H' => (∃ s7, σ = [some (.ref a), some (.ref ln), some (.ref lp), some (.ref lr), some (.ref ls), some (.ref hd), some (.ref x), s7]) ∧ Same H1 H' ∧ IsRoad K H' (.ref x) R) ⟨⟨_, rfl⟩, ?_, ?_⟩ (fun i σ H' hi hP => ?_) (fun σ H' hP => k H')⟩
  · intro b o eb
    rw [upd_ne (ne_of_none eb A3.f)]
    exact (same_new ht3 _) _ _ (W3.S _ _ eb)
  · exact ((W3.same (same_new ht3 _)).ra.keep ((same_new ht3 _) _ _ em4) A3.a A3.b A3.c fun b o hb eb => by rw [upd_ne hb]; exact eb).road
  · obtain ⟨⟨s7, rfl⟩, S9, r9⟩ := hP
    refine ⟨_, rfl, _, rfl, _, rfl, _, rfl, _, R, lp, lr, ls, vs, us, ws, rfl, r9, S9 _ _ e1, i1.mono (tupsOf S9), S9 _ _ e2, i2.mono (tupsOf S9), S9 _ _ e3, i3.mono (tupsOf S9), by omega, by omega, by omega, fun Ha Sa => ⟨_, rfl, iteF ?_⟩⟩
    have Tb := S9.trans Sa
    refine ⟨_, rfl, _, rfl, _, rfl, _, rfl, _, R, nm, lp, lr, ls, vs, us, ws, rfl, r9.mono Sa, wf, Tb _ _ e1, i1.mono (tupsOf Tb), Tb _ _ e2, i2.mono (tupsOf Tb), Tb _ _ e3, i3.mono (tupsOf Tb), fun Hb Sb => ⟨_, rfl, iteF ?_⟩⟩
    exact ⟨⟨_, rfl⟩, Tb.trans Sb, (r9.mono Sa).mono Sb⟩
end
theorem all_mk {l : PySem.W.OpenLaw} {w : World} {K : PySem.W.Frag} {h : Heap} {mg : Str → Option Value} {fa f0 f1 f2 f3 f4 f5 f6 f7 f8 f9 f10 f11 f12 f13 f14 f15 f16 f17 f18 f19 : Addr} (X : K.In h) (G : h.Ns mainGlobals mg) (hfa : mg "law" = some (.ref fa))
    {od0 an0 od1 an1 od2 an2 od3 an3 od4 an4 od5 an5 od6 an6 od7 an7 od8 an8 od9 an9 od10 an10 od11 an11 od12 an12 od13 an13 od14 an14 od15 an15 od16 an16 od17 an17 od18 an18 od19 an19 : Option Addr} {sl0 sl1 sl2 sl3 sl4 sl5 sl6 sl7 sl8 sl9 sl10 sl11 sl12 sl13 sl14 sl15 sl16 sl17 sl18 sl19 : Array (Option Value)} {oc0 kV0 dc0 pm0 cd0 ct0 oc1 kV1 dc1 pm1 cd1 ct1 oc2 kV2 dc2 pm2 cd2 ct2 oc3 kV3 dc3 pm3 cd3 ct3 oc4 kV4 dc4 pm4 cd4 ct4 oc5 kV5 dc5 pm5 cd5 ct5 oc6 kV6 dc6 pm6 cd6 ct6 oc7 kV7 dc7 pm7 cd7 ct7 oc8 kV8 dc8 pm8 cd8 ct8 oc9 kV9 dc9 pm9 cd9 ct9 oc10 kV10 dc10 pm10 cd10 ct10 oc11 kV11 dc11 pm11 cd11 ct11 oc12 kV12 dc12 pm12 cd12 ct12 oc13 kV13 dc13 pm13 cd13 ct13 oc14 kV14 dc14 pm14 cd14 ct14 oc15 kV15 dc15 pm15 cd15 ct15 oc16 kV16 dc16 pm16 cd16 ct16 oc17 kV17 dc17 pm17 cd17 ct17 oc18 kV18 dc18 pm18 cd18 ct18 oc19 kV19 dc19 pm19 cd19 ct19 : Value}
    {C0 C1 C2 : Addr} {xd0 xd1 xd2 : Option Addr} {xc0 xc1 xc2 : ClassData} {xs0 xs1 xs2 : Array (Option Value)}
    (x0 : PySem.W.nsIn K mainGlobals "Open" = some (some (.ref C0))) (xl0 : K.lookup C0 = some ⟨.type "type", xd0, .cls xc0, xs0⟩)
    (xi0 : PySem.W.findIn K (.ref C0) "__init__" = some (some (.ref f6)))
    (x1 : PySem.W.nsIn K mainGlobals "Bridge" = some (some (.ref C1))) (xl1 : K.lookup C1 = some ⟨.type "type", xd1, .cls xc1, xs1⟩)
    (xi1 : PySem.W.findIn K (.ref C1) "__init__" = some (some (.ref f7)))
    (x2 : PySem.W.nsIn K mainGlobals "Road" = some (some (.ref C2))) (xl2 : K.lookup C2 = some ⟨.type "type", xd2, .cls xc2, xs2⟩)
    (xi2 : PySem.W.findIn K (.ref C2) "__init__" = some (some (.ref f18)))
    (xo0 : xc0.mro = [.ref C0, .type "object"]) (xk0 : ([C0, C1, C2].map fun D => xc0.mro.contains (.ref D)) = kNames.map (List.contains (α := Str) ["Open"]))
    (xa0 : PySem.W.plainGet K C0 Str.empty = true) (xb0 : PySem.W.hasDictIn K C0 = true) (xg0 : PySem.W.plainOver K C0 = true) (xe0 : PySem.W.findIn K (.ref C0) "__setattr__" = some (some (.builtin "object.__setattr__"))) (xf0 : PySem.W.findIn K (.ref C0) "__class__" = some (some (.builtin "object.__class__")))
    (xm0 : PySem.W.makesIn K C0 = true) (xn0 : PySem.W.isFn K (.ref f6) = true) (xp0 : PySem.W.keepIn K (.ref C0) = true)
    (xna0_0 : PySem.W.findIn K (.ref C0) "length" = some none)
    (xo1 : xc1.mro = [.ref C1, .type "object"]) (xk1 : ([C0, C1, C2].map fun D => xc1.mro.contains (.ref D)) = kNames.map (List.contains (α := Str) ["Bridge"]))
    (xa1 : PySem.W.plainGet K C1 Str.empty = true) (xb1 : PySem.W.hasDictIn K C1 = true) (xg1 : PySem.W.plainOver K C1 = true) (xe1 : PySem.W.findIn K (.ref C1) "__setattr__" = some (some (.builtin "object.__setattr__"))) (xf1 : PySem.W.findIn K (.ref C1) "__class__" = some (some (.builtin "object.__class__")))
    (xm1 : PySem.W.makesIn K C1 = true) (xn1 : PySem.W.isFn K (.ref f7) = true) (xp1 : PySem.W.keepIn K (.ref C1) = true)
    (xna1_0 : PySem.W.findIn K (.ref C1) "name" = some none)
    (xna1_1 : PySem.W.findIn K (.ref C1) "length" = some none)
    (xna1_2 : PySem.W.findIn K (.ref C1) "bears" = some none)
    (xna1_3 : PySem.W.findIn K (.ref C1) "wide" = some none)
    (xna1_4 : PySem.W.findIn K (.ref C1) "most" = some none)
    (xo2 : xc2.mro = [.ref C2, .type "object"]) (xk2 : ([C0, C1, C2].map fun D => xc2.mro.contains (.ref D)) = kNames.map (List.contains (α := Str) ["Road"]))
    (xa2 : PySem.W.plainGet K C2 Str.empty = true) (xb2 : PySem.W.hasDictIn K C2 = true) (xg2 : PySem.W.plainOver K C2 = true) (xe2 : PySem.W.findIn K (.ref C2) "__setattr__" = some (some (.builtin "object.__setattr__"))) (xf2 : PySem.W.findIn K (.ref C2) "__class__" = some (some (.builtin "object.__class__")))
    (xm2 : PySem.W.makesIn K C2 = true) (xn2 : PySem.W.isFn K (.ref f18) = true) (xp2 : PySem.W.keepIn K (.ref C2) = true)
    (xna2_0 : PySem.W.findIn K (.ref C2) "pieces" = some none)
    (xna2_1 : PySem.W.findIn K (.ref C2) "rounds" = some none)
    (xna2_2 : PySem.W.findIn K (.ref C2) "shuts" = some none)
    (xcg : PySem.W.specialIn K (.builtin "object.__class__") "__get__" = some (some (.builtin "getset_descriptor.__get__"))) (xct : PySem.W.takesIn K (.builtin "object.__class__") = some true)
    (a0 : PySem.W.nsIn K mainGlobals "_law_cell" = some (some (.ref f0))) (l0 : K.lookup f0 = some ⟨oc0, od0, .func (PySem.W.fnOf "_law_cell" "_law_cell" (defArgs s_law_cell) (defBody s_law_cell) (defScope s_law_cell) .none kV0 dc0 pm0 an0 cd0 ct0), sl0⟩) (c0 : PySem.W.codeIn K cd0 "_law_cell" = true) (k0 : PySem.W.keepIn K (.ref f0) = true)
    (a1 : PySem.W.nsIn K mainGlobals "_law_mix" = some (some (.ref f1))) (l1 : K.lookup f1 = some ⟨oc1, od1, .func (PySem.W.fnOf "_law_mix" "_law_mix" (defArgs s_law_mix) (defBody s_law_mix) (defScope s_law_mix) .none kV1 dc1 pm1 an1 cd1 ct1), sl1⟩) (c1 : PySem.W.codeIn K cd1 "_law_mix" = true) (k1 : PySem.W.keepIn K (.ref f1) = true)
    (a2 : PySem.W.nsIn K mainGlobals "_law_names" = some (some (.ref f2))) (l2 : K.lookup f2 = some ⟨oc2, od2, .func (PySem.W.fnOf "_law_names" "_law_names" (defArgs s_law_names) (defBody s_law_names) (defScope s_law_names) .none kV2 dc2 pm2 an2 cd2 ct2), sl2⟩) (c2 : PySem.W.codeIn K cd2 "_law_names" = true) (k2 : PySem.W.keepIn K (.ref f2) = true)
    (a3 : PySem.W.nsIn K mainGlobals "_law_long" = some (some (.ref f3))) (l3 : K.lookup f3 = some ⟨oc3, od3, .func (PySem.W.fnOf "_law_long" "_law_long" (defArgs s_law_long) (defBody s_law_long) (defScope s_law_long) .none kV3 dc3 pm3 an3 cd3 ct3), sl3⟩) (c3 : PySem.W.codeIn K cd3 "_law_long" = true) (k3 : PySem.W.keepIn K (.ref f3) = true)
    (a4 : PySem.W.nsIn K mainGlobals "_law_bridge" = some (some (.ref f4))) (l4 : K.lookup f4 = some ⟨oc4, od4, .func (PySem.W.fnOf "_law_bridge" "_law_bridge" (defArgs s_law_bridge) (defBody s_law_bridge) (defScope s_law_bridge) .none kV4 dc4 pm4 an4 cd4 ct4), sl4⟩) (c4 : PySem.W.codeIn K cd4 "_law_bridge" = true) (k4 : PySem.W.keepIn K (.ref f4) = true)
    (a5 : PySem.W.nsIn K mainGlobals "_law_parts" = some (some (.ref f5))) (l5 : K.lookup f5 = some ⟨oc5, od5, .func (PySem.W.fnOf "_law_parts" "_law_parts" (defArgs s_law_parts) (defBody s_law_parts) (defScope s_law_parts) .none kV5 dc5 pm5 an5 cd5 ct5), sl5⟩) (c5 : PySem.W.codeIn K cd5 "_law_parts" = true) (k5 : PySem.W.keepIn K (.ref f5) = true)
    (l6 : K.lookup f6 = some ⟨oc6, od6, .func (PySem.W.fnOf "__init__" "Open.__init__" (defArgs s_Open_init) (defBody s_Open_init) (defScope s_Open_init) .none kV6 dc6 pm6 an6 cd6 ct6), sl6⟩) (c6 : PySem.W.codeIn K cd6 "Open.__init__" = true) (k6 : PySem.W.keepIn K (.ref f6) = true)
    (l7 : K.lookup f7 = some ⟨oc7, od7, .func (PySem.W.fnOf "__init__" "Bridge.__init__" (defArgs s_Bridge_init) (defBody s_Bridge_init) (defScope s_Bridge_init) .none kV7 dc7 pm7 an7 cd7 ct7), sl7⟩) (c7 : PySem.W.codeIn K cd7 "Bridge.__init__" = true) (k7 : PySem.W.keepIn K (.ref f7) = true)
    (a8 : PySem.W.nsIn K mainGlobals "_law_pieces" = some (some (.ref f8))) (l8 : K.lookup f8 = some ⟨oc8, od8, .func (PySem.W.fnOf "_law_pieces" "_law_pieces" (defArgs s_law_pieces) (defBody s_law_pieces) (defScope s_law_pieces) .none kV8 dc8 pm8 an8 cd8 ct8), sl8⟩) (c8 : PySem.W.codeIn K cd8 "_law_pieces" = true) (k8 : PySem.W.keepIn K (.ref f8) = true)
    (a9 : PySem.W.nsIn K mainGlobals "_law_alike" = some (some (.ref f9))) (l9 : K.lookup f9 = some ⟨oc9, od9, .func (PySem.W.fnOf "_law_alike" "_law_alike" (defArgs s_law_alike) (defBody s_law_alike) (defScope s_law_alike) .none kV9 dc9 pm9 an9 cd9 ct9), sl9⟩) (c9 : PySem.W.codeIn K cd9 "_law_alike" = true) (k9 : PySem.W.keepIn K (.ref f9) = true)
    (a10 : PySem.W.nsIn K mainGlobals "_law_same" = some (some (.ref f10))) (l10 : K.lookup f10 = some ⟨oc10, od10, .func (PySem.W.fnOf "_law_same" "_law_same" (defArgs s_law_same) (defBody s_law_same) (defScope s_law_same) .none kV10 dc10 pm10 an10 cd10 ct10), sl10⟩) (c10 : PySem.W.codeIn K cd10 "_law_same" = true) (k10 : PySem.W.keepIn K (.ref f10) = true)
    (a11 : PySem.W.nsIn K mainGlobals "_law_told" = some (some (.ref f11))) (l11 : K.lookup f11 = some ⟨oc11, od11, .func (PySem.W.fnOf "_law_told" "_law_told" (defArgs s_law_told) (defBody s_law_told) (defScope s_law_told) .none kV11 dc11 pm11 an11 cd11 ct11), sl11⟩) (c11 : PySem.W.codeIn K cd11 "_law_told" = true) (k11 : PySem.W.keepIn K (.ref f11) = true)
    (a12 : PySem.W.nsIn K mainGlobals "_law_road_is" = some (some (.ref f12))) (l12 : K.lookup f12 = some ⟨oc12, od12, .func (PySem.W.fnOf "_law_road_is" "_law_road_is" (defArgs s_law_road_is) (defBody s_law_road_is) (defScope s_law_road_is) .none kV12 dc12 pm12 an12 cd12 ct12), sl12⟩) (c12 : PySem.W.codeIn K cd12 "_law_road_is" = true) (k12 : PySem.W.keepIn K (.ref f12) = true)
    (a13 : PySem.W.nsIn K mainGlobals "bridges_of" = some (some (.ref f13))) (l13 : K.lookup f13 = some ⟨oc13, od13, .func (PySem.W.fnOf "bridges_of" "bridges_of" (defArgs s_bridges_of) (defBody s_bridges_of) (defScope s_bridges_of) .none kV13 dc13 pm13 an13 cd13 ct13), sl13⟩) (c13 : PySem.W.codeIn K cd13 "bridges_of" = true) (k13 : PySem.W.keepIn K (.ref f13) = true)
    (a14 : PySem.W.nsIn K mainGlobals "shuts_of" = some (some (.ref f14))) (l14 : K.lookup f14 = some ⟨oc14, od14, .func (PySem.W.fnOf "shuts_of" "shuts_of" (defArgs s_shuts_of) (defBody s_shuts_of) (defScope s_shuts_of) .none kV14 dc14 pm14 an14 cd14 ct14), sl14⟩) (c14 : PySem.W.codeIn K cd14 "shuts_of" = true) (k14 : PySem.W.keepIn K (.ref f14) = true)
    (a15 : PySem.W.nsIn K mainGlobals "round_of" = some (some (.ref f15))) (l15 : K.lookup f15 = some ⟨oc15, od15, .func (PySem.W.fnOf "round_of" "round_of" (defArgs s_round_of) (defBody s_round_of) (defScope s_round_of) .none kV15 dc15 pm15 an15 cd15 ct15), sl15⟩) (c15 : PySem.W.codeIn K cd15 "round_of" = true) (k15 : PySem.W.keepIn K (.ref f15) = true)
    (a16 : PySem.W.nsIn K mainGlobals "bridge_of" = some (some (.ref f16))) (l16 : K.lookup f16 = some ⟨oc16, od16, .func (PySem.W.fnOf "bridge_of" "bridge_of" (defArgs s_bridge_of) (defBody s_bridge_of) (defScope s_bridge_of) .none kV16 dc16 pm16 an16 cd16 ct16), sl16⟩) (c16 : PySem.W.codeIn K cd16 "bridge_of" = true) (k16 : PySem.W.keepIn K (.ref f16) = true)
    (a17 : PySem.W.nsIn K mainGlobals "_law_asked" = some (some (.ref f17))) (l17 : K.lookup f17 = some ⟨oc17, od17, .func (PySem.W.fnOf "_law_asked" "_law_asked" (defArgs s_law_asked) (defBody s_law_asked) (defScope s_law_asked) .none kV17 dc17 pm17 an17 cd17 ct17), sl17⟩) (c17 : PySem.W.codeIn K cd17 "_law_asked" = true) (k17 : PySem.W.keepIn K (.ref f17) = true)
    (l18 : K.lookup f18 = some ⟨oc18, od18, .func (PySem.W.fnOf "__init__" "Road.__init__" (defArgs s_Road_init) (defBody s_Road_init) (defScope s_Road_init) .none kV18 dc18 pm18 an18 cd18 ct18), sl18⟩) (c18 : PySem.W.codeIn K cd18 "Road.__init__" = true) (k18 : PySem.W.keepIn K (.ref f18) = true)
    (a19 : PySem.W.nsIn K mainGlobals "law" = some (some (.ref f19))) (l19 : K.lookup f19 = some ⟨oc19, od19, .func (PySem.W.fnOf "law" "law" (defArgs s_law) (defBody s_law) (defScope s_law) .none kV19 dc19 pm19 an19 cd19 ct19), sl19⟩) (c19 : PySem.W.codeIn K cd19 "law" = true) (k19 : PySem.W.keepIn K (.ref f19) = true)
    (zz0 : PySem.W.nsIn K mainGlobals "len" = some none)
    (zz1 : PySem.W.nsIn K mainGlobals "range" = some none)
    (zz2 : PySem.W.nsIn K mainGlobals "enumerate" = some none)
    (zz3 : PySem.W.nsIn K mainGlobals "all" = some none)
    (zz4 : PySem.W.nsIn K mainGlobals "isinstance" = some none)
    (zz5 : PySem.W.nsIn K mainGlobals "list" = some none)
    (zz6 : PySem.W.nsIn K mainGlobals "tuple" = some none)
    (zz7 : PySem.W.nsIn K mainGlobals "zip" = some none)
    (zz8 : PySem.W.nsIn K mainGlobals "str" = some none)
    (zz9 : PySem.W.nsIn K mainGlobals "int" = some none)
    (zz10 : PySem.W.nsIn K mainGlobals "bool" = some none)
    :
    ∃ fd : FuncData, (∀ (s : Shared) (v : Value), BindsTo s fd ⟨[v], []⟩ [("_law_script", v)]) ∧ ∀ base : Heap, K.In base → base.Ns mainGlobals mg → FnOk l.prog w K mg base CX0 16 fa fd ["_law_script"] (sp_law K) := by
  have e := hfa.symm.trans (PySem.W.mg_of X G a19)
  cases e
  have F0 := fun_mk (st := s_law_cell) l0 c0 k0
  have F1 := fun_mk (st := s_law_mix) l1 c1 k1
  have F2 := fun_mk (st := s_law_names) l2 c2 k2
  have F3 := fun_mk (st := s_law_long) l3 c3 k3
  have F4 := fun_mk (st := s_law_bridge) l4 c4 k4
  have F5 := fun_mk (st := s_law_parts) l5 c5 k5
  have F6 := fun_mk (st := s_Open_init) l6 c6 k6
  have F7 := fun_mk (st := s_Bridge_init) l7 c7 k7
  have F8 := fun_mk (st := s_law_pieces) l8 c8 k8
  have F9 := fun_mk (st := s_law_alike) l9 c9 k9
  have F10 := fun_mk (st := s_law_same) l10 c10 k10
  have F11 := fun_mk (st := s_law_told) l11 c11 k11
  have F12 := fun_mk (st := s_law_road_is) l12 c12 k12
  have F13 := fun_mk (st := s_bridges_of) l13 c13 k13
  have F14 := fun_mk (st := s_shuts_of) l14 c14 k14
  have F15 := fun_mk (st := s_round_of) l15 c15 k15
  have F16 := fun_mk (st := s_bridge_of) l16 c16 k16
  have F17 := fun_mk (st := s_law_asked) l17 c17 k17
  have F18 := fun_mk (st := s_Road_init) l18 c18 k18
  have F19 := fun_mk (st := s_law) l19 c19 k19
  have z_len := PySem.W.mg_none_of X G zz0
  have z_range := PySem.W.mg_none_of X G zz1
  have z_enumerate := PySem.W.mg_none_of X G zz2
  have z_all := PySem.W.mg_none_of X G zz3
  have z_isinstance := PySem.W.mg_none_of X G zz4
  have z_list := PySem.W.mg_none_of X G zz5
  have z_tuple := PySem.W.mg_none_of X G zz6
  have z_zip := PySem.W.mg_none_of X G zz7
  have z_str := PySem.W.mg_none_of X G zz8
  have z_int := PySem.W.mg_none_of X G zz9
  have z_bool := PySem.W.mg_none_of X G zz10
  have o0 : KObj K C0 xc0 := kobj_mk xl0 xo0
  have n_Open : mg "Open" = some (.ref (clA K "Open")) := by rw [clA_of x0]; exact PySem.W.mg_of X G x0
  have o1 : KObj K C1 xc1 := kobj_mk xl1 xo1
  have n_Bridge : mg "Bridge" = some (.ref (clA K "Bridge")) := by rw [clA_of x1]; exact PySem.W.mg_of X G x1
  have o2 : KObj K C2 xc2 := kobj_mk xl2 xo2
  have n_Road : mg "Road" = some (.ref (clA K "Road")) := by rw [clA_of x2]; exact PySem.W.mg_of X G x2
  have pts : Pts K kNames [C0, C1, C2] := .cons x0 o0 (.cons x1 o1 (.cons x2 o2 (.nil)))
  have d_Open : PKd K kNames (clA K "Open") ["Open"] ["length"] := pkd_mk x0 xl0 xo0 pts xk0 xa0 xb0 xg0 xe0 xf0 xcg xct (na_cons xna0_0 na_nil)
  have d_Bridge : PKd K kNames (clA K "Bridge") ["Bridge"] ["name", "length", "bears", "wide", "most"] := pkd_mk x1 xl1 xo1 pts xk1 xa1 xb1 xg1 xe1 xf1 xcg xct (na_cons xna1_0 (na_cons xna1_1 (na_cons xna1_2 (na_cons xna1_3 (na_cons xna1_4 na_nil)))))
  have d_Road : PKd K kNames (clA K "Road") ["Road"] ["pieces", "rounds", "shuts"] := pkd_mk x2 xl2 xo2 pts xk2 xa2 xb2 xg2 xe2 xf2 xcg xct (na_cons xna2_0 (na_cons xna2_1 (na_cons xna2_2 na_nil)))
  refine ⟨PySem.W.fnOf "law" "law" (defArgs s_law) (defBody s_law) (defScope s_law) .none kV19 dc19 pm19 an19 cd19 ct19, fun s v => .of_eq rfl, fun base _ _ => ?_⟩
  have b0 := F0.binds (ps := ["_law_script", "_law_k"]) fun _ _ _ _ _ _ us hl => match us, hl with | [_, _], _ => rfl
  have g_law_cell : Got l.prog w K mg base 1 "_law_cell" ["_law_script", "_law_k"] (sp_law_cell K) := ⟨⟨_, _, ok_law_cell F0 z_len, b0, k0, PySem.W.mg_of X G a0⟩⟩
  have b1 := F1.binds (ps := ["_law_cell_here", "_law_one", "_law_prime"]) fun _ _ _ _ _ _ us hl => match us, hl with | [_, _, _], _ => rfl
  have g_law_mix : Got l.prog w K mg base 1 "_law_mix" ["_law_cell_here", "_law_one", "_law_prime"] (sp_law_mix K) := ⟨⟨_, _, ok_law_mix F1 , b1, k1, PySem.W.mg_of X G a1⟩⟩
  have b2 := F2.binds (ps := ["_law_cell_here"]) fun _ _ _ _ _ _ us hl => match us, hl with | [_], _ => rfl
  have g_law_names : Got l.prog w K mg base 2 "_law_names" ["_law_cell_here"] (sp_law_names K) := ⟨⟨_, _, ok_law_names F2 g_law_mix z_range, b2, k2, PySem.W.mg_of X G a2⟩⟩
  have b3 := F3.binds (ps := ["_law_cell_here", "_law_one", "_law_least"]) fun _ _ _ _ _ _ us hl => match us, hl with | [_, _, _], _ => rfl
  have g_law_long : Got l.prog w K mg base 2 "_law_long" ["_law_cell_here", "_law_one", "_law_least"] (sp_law_long K) := ⟨⟨_, _, ok_law_long F3 g_law_mix, b3, k3, PySem.W.mg_of X G a3⟩⟩
  have b4 := F4.binds (ps := ["_law_cell_here", "_law_name"]) fun _ _ _ _ _ _ us hl => match us, hl with | [_, _], _ => rfl
  have g_law_bridge : Got l.prog w K mg base 3 "_law_bridge" ["_law_cell_here", "_law_name"] (sp_law_bridge K) := ⟨⟨_, _, ok_law_bridge F4 g_law_mix g_law_long, b4, k4, PySem.W.mg_of X G a4⟩⟩
  have b5 := F5.binds (ps := ["_law_script"]) fun _ _ _ _ _ _ us hl => match us, hl with | [_], _ => rfl
  have g_law_parts : Got l.prog w K mg base 4 "_law_parts" ["_law_script"] (sp_law_parts K) := ⟨⟨_, _, ok_law_parts F5 g_law_cell g_law_names g_law_mix g_law_long g_law_bridge z_range z_enumerate, b5, k5, PySem.W.mg_of X G a5⟩⟩
  have b6 := F6.binds (ps := ["self", "length"]) fun _ _ _ _ _ _ us hl => match us, hl with | [_, _], _ => rfl
  have m_Open : GotP l.prog w K mg base 1 "Open" ["self", "length"] (sp_Open_init K) := ⟨⟨_, _, mk_mk x0 xm0 xi0 xn0 xp0, ok_Open_init F6 , b6, n_Open⟩⟩
  have b7 := F7.binds (ps := ["self", "name", "length", "bears", "wide", "most"]) fun _ _ _ _ _ _ us hl => match us, hl with | [_, _, _, _, _, _], _ => rfl
  have m_Bridge : GotP l.prog w K mg base 1 "Bridge" ["self", "name", "length", "bears", "wide", "most"] (sp_Bridge_init K) := ⟨⟨_, _, mk_mk x1 xm1 xi1 xn1 xp1, ok_Bridge_init F7 , b7, n_Bridge⟩⟩
  have b8 := F8.binds (ps := ["_law_pieces_here"]) fun _ _ _ _ _ _ us hl => match us, hl with | [_], _ => rfl
  have g_law_pieces : Got l.prog w K mg base 3 "_law_pieces" ["_law_pieces_here"] (sp_law_pieces K) := ⟨⟨_, _, ok_law_pieces F8 m_Open d_Open m_Bridge d_Bridge, b8, k8, PySem.W.mg_of X G a8⟩⟩
  have b9 := F9.binds (ps := ["_law_found", "_law_due"]) fun _ _ _ _ _ _ us hl => match us, hl with | [_, _], _ => rfl
  have b10 := F10.binds (ps := ["_law_found", "_law_due"]) fun _ _ _ _ _ _ us hl => match us, hl with | [_, _], _ => rfl
  have gg := same_all (P := l.prog) (w := w) (base := base) F9 F10 b9 b10 k9 k10 (PySem.W.mg_of X G a9) (PySem.W.mg_of X G a10) z_all z_bool z_int z_isinstance z_len z_list z_str z_tuple z_zip 6
  have g_law_alike := gg.1
  have g_law_same := gg.2
  have b11 := F11.binds (ps := ["_law_piece"]) fun _ _ _ _ _ _ us hl => match us, hl with | [_], _ => rfl
  have g_law_told : Got l.prog w K mg base 1 "_law_told" ["_law_piece"] (sp_law_told K) := ⟨⟨_, _, ok_law_told F11 d_Open d_Bridge n_Open n_Bridge z_isinstance, b11, k11, PySem.W.mg_of X G a11⟩⟩
  have b12 := F12.binds (ps := ["_law_road", "_law_pieces_here", "_law_rounds", "_law_shuts"]) fun _ _ _ _ _ _ us hl => match us, hl with | [_, _, _, _], _ => rfl
  have g_law_road_is : Got l.prog w K mg base 15 "_law_road_is" ["_law_road", "_law_pieces_here", "_law_rounds", "_law_shuts"] (sp_law_road_is K) := ⟨⟨_, _, ok_law_road_is F12 g_law_same g_law_told d_Road n_Road z_isinstance z_list, b12, k12, PySem.W.mg_of X G a12⟩⟩
  have b13 := F13.binds (ps := ["road"]) fun _ _ _ _ _ _ us hl => match us, hl with | [_], _ => rfl
  have g_bridges_of : Got l.prog w K mg base 1 "bridges_of" ["road"] (sp_bridges_of K) := ⟨⟨_, _, ok_bridges_of F13 d_Bridge n_Bridge z_isinstance, b13, k13, PySem.W.mg_of X G a13⟩⟩
  have b14 := F14.binds (ps := ["road", "name"]) fun _ _ _ _ _ _ us hl => match us, hl with | [_, _], _ => rfl
  have g_shuts_of : Got l.prog w K mg base 1 "shuts_of" ["road", "name"] (sp_shuts_of K) := ⟨⟨_, _, ok_shuts_of F14 , b14, k14, PySem.W.mg_of X G a14⟩⟩
  have b15 := F15.binds (ps := ["road", "name"]) fun _ _ _ _ _ _ us hl => match us, hl with | [_, _], _ => rfl
  have g_round_of : Got l.prog w K mg base 1 "round_of" ["road", "name"] (sp_round_of K) := ⟨⟨_, _, ok_round_of F15 , b15, k15, PySem.W.mg_of X G a15⟩⟩
  have b16 := F16.binds (ps := ["road", "name"]) fun _ _ _ _ _ _ us hl => match us, hl with | [_, _], _ => rfl
  have g_bridge_of : Got l.prog w K mg base 2 "bridge_of" ["road", "name"] (sp_bridge_of K) := ⟨⟨_, _, ok_bridge_of F16 g_bridges_of, b16, k16, PySem.W.mg_of X G a16⟩⟩
  have b17 := F17.binds (ps := ["_law_road", "_law_pieces_here", "_law_rounds", "_law_shuts"]) fun _ _ _ _ _ _ us hl => match us, hl with | [_, _, _, _], _ => rfl
  have g_law_asked : Got l.prog w K mg base 15 "_law_asked" ["_law_road", "_law_pieces_here", "_law_rounds", "_law_shuts"] (sp_law_asked K) := ⟨⟨_, _, ok_law_asked F17 g_bridges_of g_shuts_of g_law_same g_law_told g_round_of g_bridge_of z_isinstance z_list, b17, k17, PySem.W.mg_of X G a17⟩⟩
  have b18 := F18.binds (ps := ["self", "pieces", "rounds", "shuts"]) fun _ _ _ _ _ _ us hl => match us, hl with | [_, _, _, _], _ => rfl
  have m_Road : GotP l.prog w K mg base 1 "Road" ["self", "pieces", "rounds", "shuts"] (sp_Road_init K) := ⟨⟨_, _, mk_mk x2 xm2 xi2 xn2 xp2, ok_Road_init F18 z_list, b18, n_Road⟩⟩
  exact ok_law (P := l.prog) (w := w) (base := base) F19 g_law_parts g_law_pieces g_law_road_is g_law_asked m_Road d_Road m_Open d_Open z_range z_list
theorem walk {l : PySem.W.OpenLaw} {q : Program} {loose : List Str} {XP : (Str → Option Value) → Heap → Prop} {YP : World → Heap → Prop} {d : DefRec} {K : Params → PySem.W.Frag} (hn : l.most = some 63) (hdf : d.params.defaults = [])
    (hY : ∀ (w : World) (h : Heap), YP w h → (K w.params).In h)
    (F : ∀ (w : World) (mg : Str → Option Value) (fa : Addr) (h : Heap), (K w.params).In h → h.Ns mainGlobals mg → mg d.name = some (.ref fa) →
      ∃ fd : FuncData, (∀ (s : Shared) (u : Value), BindsTo s fd ⟨[u], []⟩ [("_law_script", u)]) ∧ ∀ base : Heap, (K w.params).In base → base.Ns mainGlobals mg → FnOk l.prog w (K w.params) mg base CX0 16 fa fd ["_law_script"] (sp_law (K w.params))) :
    PySem.W.WalkO q loose XP YP l.row.toRowW d [] (fun f vs => PySem.call f vs) :=
  L2.walk_of (n := 63) (k := 16) (x := "_law_script") (CX := fun _ => CX0) (sp := fun w => sp_law (K w.params)) hn (by decide) hdf ⟨rfl, by decide, by decide⟩ hY F (fun _ _ a ns hl _ hS => ⟨a, ns, rfl, hS, hl, fun _ => rfl⟩) fun _ _ _ _ _ z => z
end Kl
open PySem PySem.W PyProof.Rows
set_option maxRecDepth 100000 in
set_option maxHeartbeats 0 in
theorem PySem.Challenge.cw_ballastway_k07_roads_asked_holds : PySem.Challenge.rw_ballastway_k07_roads_asked.Holds := by
  w_on; o_law; k_head; (case hw => w_witness2)
  k_fill
  refine Kl.walk (l := PySem.Challenge.rw_ballastway_k07_roads_asked) rfl rfl (fun w h Y => PySem.W.kIn_of Y) ?F
  case F =>
    intro w mg fa h KX G hmg
    refine' Kl.all_mk KX G hmg ?x0 ?xl0 ?xi0 ?x1 ?xl1 ?xi1 ?x2 ?xl2 ?xi2 ?xo0 ?xk0 ?xa0 ?xb0 ?xg0 ?xe0 ?xf0 ?xm0 ?xn0 ?xp0 ?xna0_0 ?xo1 ?xk1 ?xa1 ?xb1 ?xg1 ?xe1 ?xf1 ?xm1 ?xn1 ?xp1 ?xna1_0 ?xna1_1 ?xna1_2 ?xna1_3 ?xna1_4 ?xo2 ?xk2 ?xa2 ?xb2 ?xg2 ?xe2 ?xf2 ?xm2 ?xn2 ?xp2 ?xna2_0 ?xna2_1 ?xna2_2 ?xcg ?xct ?a0 ?l0 ?c0 ?k0 ?a1 ?l1 ?c1 ?k1 ?a2 ?l2 ?c2 ?k2 ?a3 ?l3 ?c3 ?k3 ?a4 ?l4 ?c4 ?k4 ?a5 ?l5 ?c5 ?k5 ?l6 ?c6 ?k6 ?l7 ?c7 ?k7 ?a8 ?l8 ?c8 ?k8 ?a9 ?l9 ?c9 ?k9 ?a10 ?l10 ?c10 ?k10 ?a11 ?l11 ?c11 ?k11 ?a12 ?l12 ?c12 ?k12 ?a13 ?l13 ?c13 ?k13 ?a14 ?l14 ?c14 ?k14 ?a15 ?l15 ?c15 ?k15 ?a16 ?l16 ?c16 ?k16 ?a17 ?l17 ?c17 ?k17 ?l18 ?c18 ?k18 ?a19 ?l19 ?c19 ?k19 ?zz0 ?zz1 ?zz2 ?zz3 ?zz4 ?zz5 ?zz6 ?zz7 ?zz8 ?zz9 ?zz10
    (case x0 => k_is)
    (case xl0 => k_is)
    (case xi0 => k_is)
    (case x1 => k_is)
    (case xl1 => k_is)
    (case xi1 => k_is)
    (case x2 => k_is)
    (case xl2 => k_is)
    (case xi2 => k_is)
    (case xo0 => rfl)
    (case xk0 => decide +kernel)
    (case xa0 => k_is)
    (case xb0 => k_is)
    (case xg0 => k_is)
    (case xe0 => k_is)
    (case xf0 => k_is)
    (case xm0 => k_is)
    (case xn0 => k_is)
    (case xp0 => k_is)
    (case xna0_0 => k_is)
    (case xo1 => rfl)
    (case xk1 => decide +kernel)
    (case xa1 => k_is)
    (case xb1 => k_is)
    (case xg1 => k_is)
    (case xe1 => k_is)
    (case xf1 => k_is)
    (case xm1 => k_is)
    (case xn1 => k_is)
    (case xp1 => k_is)
    (case xna1_0 => k_is)
    (case xna1_1 => k_is)
    (case xna1_2 => k_is)
    (case xna1_3 => k_is)
    (case xna1_4 => k_is)
    (case xo2 => rfl)
    (case xk2 => decide +kernel)
    (case xa2 => k_is)
    (case xb2 => k_is)
    (case xg2 => k_is)
    (case xe2 => k_is)
    (case xf2 => k_is)
    (case xm2 => k_is)
    (case xn2 => k_is)
    (case xp2 => k_is)
    (case xna2_0 => k_is)
    (case xna2_1 => k_is)
    (case xna2_2 => k_is)
    (case xcg => k_is)
    (case xct => k_is)
    (case a0 => k_is)
    (case l0 => k_is)
    (case c0 => k_is)
    (case k0 => k_is)
    (case a1 => k_is)
    (case l1 => k_is)
    (case c1 => k_is)
    (case k1 => k_is)
    (case a2 => k_is)
    (case l2 => k_is)
    (case c2 => k_is)
    (case k2 => k_is)
    (case a3 => k_is)
    (case l3 => k_is)
    (case c3 => k_is)
    (case k3 => k_is)
    (case a4 => k_is)
    (case l4 => k_is)
    (case c4 => k_is)
    (case k4 => k_is)
    (case a5 => k_is)
    (case l5 => k_is)
    (case c5 => k_is)
    (case k5 => k_is)
    (case l6 => k_is)
    (case c6 => k_is)
    (case k6 => k_is)
    (case l7 => k_is)
    (case c7 => k_is)
    (case k7 => k_is)
    (case a8 => k_is)
    (case l8 => k_is)
    (case c8 => k_is)
    (case k8 => k_is)
    (case a9 => k_is)
    (case l9 => k_is)
    (case c9 => k_is)
    (case k9 => k_is)
    (case a10 => k_is)
    (case l10 => k_is)
    (case c10 => k_is)
    (case k10 => k_is)
    (case a11 => k_is)
    (case l11 => k_is)
    (case c11 => k_is)
    (case k11 => k_is)
    (case a12 => k_is)
    (case l12 => k_is)
    (case c12 => k_is)
    (case k12 => k_is)
    (case a13 => k_is)
    (case l13 => k_is)
    (case c13 => k_is)
    (case k13 => k_is)
    (case a14 => k_is)
    (case l14 => k_is)
    (case c14 => k_is)
    (case k14 => k_is)
    (case a15 => k_is)
    (case l15 => k_is)
    (case c15 => k_is)
    (case k15 => k_is)
    (case a16 => k_is)
    (case l16 => k_is)
    (case c16 => k_is)
    (case k16 => k_is)
    (case a17 => k_is)
    (case l17 => k_is)
    (case c17 => k_is)
    (case k17 => k_is)
    (case l18 => k_is)
    (case c18 => k_is)
    (case k18 => k_is)
    (case a19 => k_is)
    (case l19 => k_is)
    (case c19 => k_is)
    (case k19 => k_is)
    (case zz0 => k_is)
    (case zz1 => k_is)
    (case zz2 => k_is)
    (case zz3 => k_is)
    (case zz4 => k_is)
    (case zz5 => k_is)
    (case zz6 => k_is)
    (case zz7 => k_is)
    (case zz8 => k_is)
    (case zz9 => k_is)
    (case zz10 => k_is)
