import PyProof.Rows.All
import Wide.All
import OpenK.AllK
import Wide.FinOn
import Lean
import PyProof.EqAt
import PyProof.EqKinds
import PyProof.TupleCall
import PySem.Challenge.RW_ballastway_k27_may_enter
set_option compiler.extract_closed false
set_option Elab.async false
set_option linter.all false
set_option maxRecDepth 100000
namespace L2
open PySem PySem.Spec PyProof.Rows
abbrev Key := Sum Int Str
def keyIs : Key → Value → Bool
  | .inl k, v => Value.isInt k v
  | .inr x, v => Value.isStrOf x v
def keyH (w : World) : Key → Int
  | .inl k => hashInt k
  | .inr x => hashStr w x
theorem keyIs_shape : ∀ {k : Key} {v : Value}, keyIs k v = true → (∃ i t, k = Sum.inl i ∧ v = Value.int i t) ∨ (∃ x t, k = Sum.inr x ∧ v = Value.str x t)
  | .inl i, v, h => by
    obtain ⟨t, e⟩ := Value.isInt_shape (k := i) (v := v) h
    exact .inl ⟨i, t, rfl, e⟩
  | .inr x, v, h => by
    obtain ⟨t, e⟩ := Value.isStrOf_shape (x := x) (v := v) h
    exact .inr ⟨x, t, rfl, e⟩
theorem keyIs_int (i : Int) (t : Tok) : keyIs (.inl i) (.int i t) = true := by simp [keyIs, Value.isInt]
theorem keyIs_str (x : Str) (t : Tok) : keyIs (.inr x) (.str x t) = true := by simp [keyIs, Value.isStrOf]
theorem key_ll (a b : Int) : decide ((Sum.inl a : Key) = Sum.inl b) = (a == b) := by
  by_cases e : a = b
  · subst e; simp
  · have h : ¬ (Sum.inl a : Key) = Sum.inl b := fun q => e (Sum.inl.inj q)
    rw [decide_eq_false h]
    exact (beq_eq_false_iff_ne.mpr e).symm
theorem key_rr (a b : Str) : decide ((Sum.inr a : Key) = Sum.inr b) = decide (a = b) := by
  by_cases e : a = b
  · subst e; simp
  · have h : ¬ (Sum.inr a : Key) = Sum.inr b := fun q => e (Sum.inr.inj q)
    rw [decide_eq_false h, decide_eq_false e]
theorem key_lr (a : Int) (b : Str) : decide ((Sum.inl a : Key) = Sum.inr b) = false := decide_eq_false (fun q => nomatch q)
theorem key_rl (a : Str) (b : Int) : decide ((Sum.inr a : Key) = Sum.inl b) = false := decide_eq_false (fun q => nomatch q)
def mixKind (prog : Program) (w : World) : PySem.KeyKind prog w Key where
  is := keyIs
  hash := keyH w
  inj := fun v a b ha hb => by
    rcases keyIs_shape ha with ⟨i, t, rfl, rfl⟩ | ⟨x, t, rfl, rfl⟩
    · rcases keyIs_shape hb with ⟨j, u, rfl, e⟩ | ⟨y, u, rfl, e⟩
      · injection e with e1 _; rw [e1]
      · exact nomatch e
    · rcases keyIs_shape hb with ⟨j, u, rfl, e⟩ | ⟨y, u, rfl, e⟩
      · exact nomatch e
      · injection e with e1 _; rw [e1]
  byValue := fun k v h => by
    rcases keyIs_shape h with ⟨i, t, rfl, rfl⟩ | ⟨x, t, rfl, rfl⟩ <;> rfl
  pyHash := fun hv h => by
    rcases keyIs_shape hv with ⟨i, t, rfl, rfl⟩ | ⟨x, t, rfl, rfl⟩
    · exact wpAny_pyHash_int h
    · exact wpAny_pyHash_str h
  eqBool := fun hu hv h => by
    rcases keyIs_shape hu with ⟨i, t, rfl, rfl⟩ | ⟨x, t, rfl, rfl⟩
    · rcases keyIs_shape hv with ⟨j, u, rfl, rfl⟩ | ⟨y, u, rfl, rfl⟩
      · rw [key_ll] at h; exact wpAny_eqBool_int h
      · rw [key_lr] at h; exact SeqAt.EqAt.int_str i t y u _ _ _ _ h
    · rcases keyIs_shape hv with ⟨j, u, rfl, rfl⟩ | ⟨y, u, rfl, rfl⟩
      · rw [key_rl] at h; exact SeqAt.EqAt.str_int x t j u _ _ _ _ h
      · rw [key_rr] at h; exact wpAny_eqBool_str h
  «strs» := fun k x t v h => by
    rcases keyIs_shape h with ⟨i, u, rfl, e⟩ | ⟨y, u, rfl, e⟩
    · exact nomatch e
    · injection e with e1 _
      subst e1
      cases v <;> rfl
theorem mixKind_int (prog : Program) (w : World) (i : Int) (t : Tok) : (mixKind prog w).is (.inl i) (.int i t) = true := keyIs_int i t
theorem mixKind_str (prog : Program) (w : World) (x : Str) (t : Tok) : (mixKind prog w).is (.inr x) (.str x t) = true := keyIs_str x t
end L2
namespace L2
open PySem PySem.Spec PyProof.Rows
inductive V where
  | non | bl (b : Bool) | int (i : Int) | str (x : Str) | byt (b : Array UInt8) | flt (b : UInt64) | ref (a : Addr) | ty (n : String)
  deriving DecidableEq
def RelV : V → Value → Prop
  | .non, u => u = Value.none
  | .bl b, u => u = Value.bool b
  | .int i, u => ∃ t, u = Value.int i t
  | .str x, u => ∃ t, u = Value.str x t
  | .byt b, u => ∃ t, u = Value.bytes b t
  | .flt b, u => ∃ t, u = Value.float b t
  | .ref a, u => u = Value.ref a
  | .ty n, u => u = Value.type n
abbrev Vals : List V → List Value → Prop := Paired RelV
theorem Vals.length {xs : List V} {us : List Value} (r : Vals xs us) : xs.length = us.length := Paired.length r
theorem Vals.get : ∀ {xs : List V} {us : List Value} {i : Nat} {x : V}, Vals xs us → xs[i]? = some x → ∃ u, us[i]? = some u ∧ RelV x u
  | _, _, _, _, .nil, e => by simp at e
  | _, _, 0, _, .cons r _, e => by simp at e; subst e; exact ⟨_, rfl, r⟩
  | _, _, i + 1, x, .cons _ t, e => by
    obtain ⟨u, h1, h2⟩ := Vals.get (i := i) (x := x) t (by simpa using e)
    exact ⟨u, by simpa using h1, h2⟩
theorem Vals.append : ∀ {xs ys : List V} {us ws : List Value}, Vals xs us → Vals ys ws → Vals (xs ++ ys) (us ++ ws)
  | _, _, _, _, .nil, s => s
  | _, _, _, _, .cons r t, s => .cons r (Vals.append t s)
theorem Vals.take : ∀ {xs : List V} {us : List Value} (n : Nat), Vals xs us → Vals (xs.take n) (us.take n)
  | _, _, 0, _ => .nil
  | _, _, _ + 1, .nil => .nil
  | _, _, n + 1, .cons r t => .cons r (Vals.take n t)
theorem Vals.drop : ∀ {xs : List V} {us : List Value} (n : Nat), Vals xs us → Vals (xs.drop n) (us.drop n)
  | _, _, 0, r => r
  | _, _, _ + 1, .nil => .nil
  | _, _, n + 1, .cons _ t => Vals.drop n t
def RelO : Option V → Option Value → Prop
  | some v, some u => RelV v u
  | none, none => True
  | _, _ => False
def KV {κ : Type} : List (κ × V) → List (κ × Value) → Prop := Paired fun (p : κ × V) (q : κ × Value) => p.1 = q.1 ∧ RelV p.2 q.2
def kV : Key → V
  | .inl i => .int i
  | .inr x => .str x
inductive HO where
  /-- a list -/
  | lst (xs : List V)
  /-- a tuple (never changes) -/
  | tup (xs : List V)
  /-- a dict whose keys are ints and texts; one whose keys are tuples of ints and texts (the empty one is both) -/
  | dK (kvs : List (Key × V)) | dT (kvs : List (List Key × V))
  /-- a set of ints: its members, its size -/
  | set (S : Int → Bool) (n : Nat)
  /-- an instance of the class at C, its dict at dx, its attributes -/
  | ins (C dx : Addr) (fs : List (Str × V))
  /-- the dict of the instance at x -/
  | own (x : Addr)
  /-- the dict of an exception -/
  | xd (fs : List (Str × V))
  /-- a bound method, f of x -/
  | met (f x : Addr)
  /-- a range object lo, lo + 1, .. below hi -/
  | rng (lo hi : Int)
  /-- a thing that is known to the object (the script; a dict while a loop walks it): read, never written while it is so -/
  | frz (o : Obj) (u : HO)
  /-- a code object's table -/
  | tbl (ps : Array Value)
  /-- any other thing, by what is true of its one object (a def of one's own: SetO a S n := HO.ext fun h => ..) -/
  | ext (φ : Heap → Prop)
abbrev Hp := Addr → Option HO
def upd (H : Hp) (a : Addr) (o : HO) : Hp := fun b => if b = a then some o else H b
theorem upd_same {H : Hp} {a : Addr} {o : HO} : upd H a o a = some o := by unfold upd; rw [if_pos rfl]
theorem upd_ne {H : Hp} {a b : Addr} {o : HO} (h : b ≠ a) : upd H a o b = H b := by unfold upd; rw [if_neg h]
theorem ne_of {H : Hp} {a b : Addr} {o u : HO} (h : H a = some o) (h' : H b = some u) (d : o ≠ u) : a ≠ b := by
  intro e; subst e; rw [h] at h'; exact d (Option.some.inj h')
theorem ne_of_none {H : Hp} {a b : Addr} {o : HO} (h : H a = some o) (h' : H b = none) : a ≠ b := by
  intro e; subst e; rw [h] at h'; cases h'
section
variable (P : Program) (w : World)
def ObjOk (H : Hp) (h : Heap) (a : Addr) : HO → Prop
  | .lst xs => xs.length ≤ sizeLine ∧ ∃ (its : List Value) (n : Nat), Vals xs its ∧ h.get? a = some { cls := .type "list", data := .seq its.toArray n }
  | .tup xs => xs.length ≤ sizeLine ∧ ∃ its : List Value, Vals xs its ∧ IsTup h a its.toArray
  | .dK kvs => kvs.length ≤ sizeLine ∧ (a == sysModules) = false ∧ ∃ vs, KV kvs vs ∧ h.DictOf (mixKind P w) a vs
  | .dT kvs => kvs.length ≤ sizeLine ∧ (a == sysModules) = false ∧ ∃ xs : List (List Key × Addr × Value),
      Paired (fun (p : List Key × V) (q : List Key × Addr × Value) => p.1 = q.1 ∧ H q.2.1 = some (.tup (p.1.map kV)) ∧ RelV p.2 q.2.2) kvs xs ∧
      ∃ o es ep, h.get? a = some o ∧ o.ExactDict ∧ o.data = .dict es ep ∧ es.toList = xs.map (entryOfKey (tupleKind (mixKind P w))) ∧ (xs.map (·.1)).Nodup
  | .set S n => h.SetOf (intKind P w) a S n
  | .ins C dx fs => H dx = some (.own a) ∧ fs.length ≤ 1000 ∧ dx ≠ a ∧ h.get? a = some (PySem.W.instObj C dx) ∧
      ∃ mA, h.Ns1 dx mA ∧ (∀ f, RelO (fs.lookup f) (mA f)) ∧ PySem.Within mA (fs.map (·.1))
  | .own _ => ∃ o, h.get? a = some o
  | .xd fs => ∃ mA, h.Ns1 a mA ∧ ∀ f, RelO (fs.lookup f) (mA f)
  | .rng lo hi => ∃ t u v, h.get? a = some { cls := .type "range", data := .fields #[.int lo t, .int hi u, .int 1 v] }
  | .frz o u => h.get? a = some o ∧ ObjOk H h a u
  | .tbl ps => h.get? a = some { cls := .none, data := .fields ps }
  | .met f x => h.get? a = some (PySem.W.methodObj (.ref f) (.ref x))
  | .ext φ => φ h ∧ (∃ o, h.get? a = some o) ∧ ∀ h1 h2 : Heap, φ h1 → (∀ o, h1.get? a = some o → h2.get? a = some o) → φ h2
def HOk (H : Hp) (h : Heap) : Prop := ∀ a o, H a = some o → ObjOk P w H h a o
end
section
variable {P : Program} {w : World} {H H' : Hp} {h h' : Heap} {a : Addr} {o : HO}
theorem ObjOk.lt (x : ObjOk P w H h a o) : a < h.objs.size := by
  cases o with
  | lst xs => obtain ⟨_, _, _, _, e⟩ := x; exact Heap.lt_size e
  | tup xs => obtain ⟨_, _, _, p⟩ := x; exact p.lt
  | dK kvs => obtain ⟨_, _, _, _, o, _, _, e, _⟩ := x; exact Heap.lt_size e
  | dT kvs => obtain ⟨_, _, _, _, o, _, _, e, _⟩ := x; exact Heap.lt_size e
  | set S n => obtain ⟨o, _, _, _, e, _⟩ := x; exact Heap.lt_size e
  | ins C dx fs => obtain ⟨_, _, _, e, _⟩ := x; exact Heap.lt_size e
  | own y => obtain ⟨_, e⟩ := x; exact Heap.lt_size e
  | xd fs => obtain ⟨_, ⟨_, _, _, e, _⟩, _⟩ := x; exact Heap.lt_size e
  | rng lo hi => obtain ⟨_, _, _, e⟩ := x; exact Heap.lt_size e
  | frz ob u => obtain ⟨e, _⟩ := x; exact Heap.lt_size e
  | tbl ps => exact Heap.lt_size (show h.get? a = some _ from x)
  | met f y => exact Heap.lt_size (show h.get? a = some _ from x)
  | ext φ => obtain ⟨_, ⟨_, e⟩, _⟩ := x; exact Heap.lt_size e
theorem Paired.mapP {α β : Type} {F G : α → β → Prop} : ∀ {l₁ : List α} {l₂ : List β}, Paired F l₁ l₂ → (∀ a b, F a b → G a b) → Paired G l₁ l₂
  | _, _, .nil, _ => .nil
  | _, _, .cons r t, f => .cons (f _ _ r) (Paired.mapP t f)
theorem ObjOk.stay (x : ObjOk P w H h a o) (k : ∀ b u, (b = a ∨ H b = some (.own a)) → h.get? b = some u → h'.get? b = some u)
    (ho : ∀ b, H b = some (.own a) → H' b = some (.own a)) (ht : ∀ b xs, H b = some (.tup xs) → H' b = some (.tup xs)) : ObjOk P w H' h' a o := by
  induction o with
  | lst xs => obtain ⟨z, its, n, r, e⟩ := x; exact ⟨z, its, n, r, k _ _ (.inl rfl) e⟩
  | tup xs => obtain ⟨z, its, r, ob, e, c⟩ := x; exact ⟨z, its, r, ob, k _ _ (.inl rfl) e, c⟩
  | dK kvs => obtain ⟨z, y, vs, r, ob, es, ep, e, c⟩ := x; exact ⟨z, y, vs, r, ob, es, ep, k _ _ (.inl rfl) e, c⟩
  | dT kvs =>
    obtain ⟨z, y, xs, r, ob, es, ep, e, c⟩ := x
    exact ⟨z, y, xs, Paired.mapP r fun p q z => ⟨z.1, ht _ _ z.2.1, z.2.2⟩, ob, es, ep, k _ _ (.inl rfl) e, c⟩
  | set S n => obtain ⟨ob, es, ep, t, e, c⟩ := x; exact ⟨ob, es, ep, t, k _ _ (.inl rfl) e, c⟩
  | ins C dx fs =>
    obtain ⟨d, z, ne, e, mA, ⟨od, es, ep, e2, c⟩, r⟩ := x
    exact ⟨ho _ d, z, ne, k _ _ (.inl rfl) e, mA, ⟨od, es, ep, k _ _ (.inr d) e2, c⟩, r⟩
  | own y => obtain ⟨ob, e⟩ := x; exact ⟨ob, k _ _ (.inl rfl) e⟩
  | xd fs => obtain ⟨mA, ⟨od, es, ep, e, c⟩, r⟩ := x; exact ⟨mA, ⟨od, es, ep, k _ _ (.inl rfl) e, c⟩, r⟩
  | rng lo hi => obtain ⟨t, u, v, e⟩ := x; exact ⟨t, u, v, k _ _ (.inl rfl) e⟩
  | frz ob u ih => obtain ⟨e, q⟩ := x; exact ⟨k _ _ (.inl rfl) e, ih q⟩
  | tbl ps =>
    have e : h.get? a = some { cls := .none, data := .fields ps } := x
    show h'.get? a = some { cls := .none, data := .fields ps }
    exact k a _ (.inl rfl) e
  | met f y =>
    have e : h.get? a = some (PySem.W.methodObj (.ref f) (.ref y)) := x
    show h'.get? a = some (PySem.W.methodObj (.ref f) (.ref y))
    exact k a _ (.inl rfl) e
  | ext φ => obtain ⟨p, ⟨o, e⟩, st⟩ := x; exact ⟨st _ _ p fun o q => k _ _ (.inl rfl) q, ⟨o, k _ _ (.inl rfl) e⟩, st⟩
theorem HOk.lt (x : HOk P w H h) (e : H a = some o) : a < h.objs.size := (x a o e).lt
theorem HOk.fresh (x : HOk P w H h) (e : h.objs.size ≤ a) : H a = none := by
  cases q : H a with
  | none => rfl
  | some u => exact absurd (Nat.lt_of_lt_of_le (x.lt q) e) (Nat.lt_irrefl _)
theorem HOk.kept (x : HOk P w H h) (k : ∀ b u, h.get? b = some u → h'.get? b = some u) : HOk P w H h' := fun a o e =>
  (x a o e).stay (fun b u _ q => k b u q) (fun _ q => q) fun _ _ q => q
theorem HOk.laid (x : HOk P w H h) (k : ∀ b u, h.get? b = some u → h'.get? b = some u) (hp : h.objs.size ≤ a) (new : ObjOk P w (upd H a o) h' a o) : HOk P w (upd H a o) h' := fun b u e => by
  have hn := x.fresh hp
  by_cases hb : b = a
  · subst hb; rw [upd_same] at e; cases e; exact new
  · rw [upd_ne hb] at e
    exact (x b u e).stay (fun c v _ q => k c v q) (fun c q => by rw [upd_ne (ne_of_none q hn)]; exact q) fun c xs q => by rw [upd_ne (ne_of_none q hn)]; exact q
end
def Rd (H : Hp) (a : Addr) (u : HO) : Prop := H a = some u ∨ ∃ o, H a = some (.frz o u)
theorem Rd.of {H : Hp} {a : Addr} {u : HO} (h : H a = some u) : Rd H a u := .inl h
theorem Rd.ok {P : Program} {w : World} {H : Hp} {h : Heap} {a : Addr} {u : HO} (r : Rd H a u) (x : HOk P w H h) : ObjOk P w H h a u := by
  rcases r with r | ⟨o, r⟩
  · exact x a u r
  · obtain ⟨_, q⟩ := x a _ r
    exact q
def Mut : Option HO → Prop
  | some (.lst _) => True
  | some (.dK _) => True
  | some (.dT _) => True
  | some (.set _ _) => True
  | some (.ins _ _ _) => True
  | some (.ext _) => True
  | _ => False
section
variable {P : Program} {w : World} {H : Hp} {h h' : Heap} {x e : Addr} {o' : HO}
theorem HOk.write (ok : HOk P w H h) (mu : Mut (H x)) (he : e = x ∨ H e = some (.own x)) (k : ∀ b u, b ≠ e → h.get? b = some u → h'.get? b = some u) (heo : ∃ u, h'.get? e = some u)
    (new : ObjOk P w (upd H x o') h' x o') : HOk P w (upd H x o') h' := fun b u q => by
  have nown : ∀ c y, H c = some (.own y) → c ≠ x := fun c y r z => by subst z; rw [r] at mu; exact mu
  have ntup : ∀ c xs, H c = some (.tup xs) → c ≠ x := fun c xs r z => by subst z; rw [r] at mu; exact mu
  by_cases hb : b = x
  · subst hb; rw [upd_same] at q; cases q; exact new
  · rw [upd_ne hb] at q
    by_cases hbe : b = e
    · have q' : H b = some (.own x) := by
        rcases he with z | z
        · exact absurd (hbe.trans z) hb
        · rw [hbe]; exact z
      rw [q] at q'; cases q'
      obtain ⟨v, hv⟩ := heo
      exact ⟨v, by rw [hbe]; exact hv⟩
    · refine (ok b u q).stay (fun c v hc r => k c v ?_ r) (fun c r => by rw [upd_ne (nown c b r)]; exact r) fun c xs r => by rw [upd_ne (ntup c xs r)]; exact r
      rcases hc with rfl | hc
      · exact hbe
      · rintro rfl
        rcases he with z | z
        · exact nown c b hc z
        · rw [hc] at z; cases z; exact hb rfl
end
structure Un (fs ex : List Addr) (H H' : Hp) (h h' : Heap) : Prop where
  keep : ∀ b o, h.get? b = some o → H b = none → b ∉ fs → b ∉ ex → h'.get? b = some o
  slot : ∀ b o, h.get? b = some o → H b = none → b ∈ fs → b ∉ ex → ∃ sl, h'.get? b = some { o with slots := sl }
  free : ∀ b o, h.get? b = some o → H b = none → b ∉ ex → H' b = none
  there : ∀ b o, h.get? b = some o → b ∉ ex → ∃ o', h'.get? b = some o'
  tups : ∀ b xs, H b = some (.tup xs) → H' b = some (.tup xs)
  frzs : ∀ b o u, H b = some (.frz o u) → H' b = some (.frz o u)
  tbls : ∀ b ps, H b = some (.tbl ps) → ∃ more, H' b = some (.tbl (ps ++ more))
section
variable {fs fs' ex ex' : List Addr} {H H1 H2 : Hp} {h h1 h2 h' : Heap} {a x e : Addr} {o : HO}
theorem Un.any (u : Un fs ex H H1 h h1) {b : Addr} {ob : Obj} (q : h.get? b = some ob) (n : H b = none) (hx : b ∉ ex) : ∃ sl, h1.get? b = some { ob with slots := sl } := by
  by_cases hb : b ∈ fs
  · exact u.slot b ob q n hb hx
  · exact ⟨ob.slots, u.keep b ob q n hb hx⟩
theorem Un.kept (k : ∀ b u, h.get? b = some u → h'.get? b = some u) : Un fs ex H H h h' :=
  ⟨fun b ob q _ _ _ => k b ob q, fun b ob q _ _ _ => ⟨ob.slots, k b ob q⟩, fun _ _ _ n _ => n, fun b ob q _ => ⟨ob, k b ob q⟩, fun _ _ q => q, fun _ _ _ q => q, fun _ ps q => ⟨#[], by rw [q]; simp⟩⟩
theorem Un.refl : Un fs ex H H h h := Un.kept fun _ _ q => q
theorem Un.laid (k : ∀ b u, h.get? b = some u → h'.get? b = some u) (hp : h.objs.size ≤ a) (hn : H a = none) : Un fs ex H (upd H a o) h h' where
  keep := fun b u q _ _ _ => k b u q
  slot := fun b u q _ _ _ => ⟨u.slots, k b u q⟩
  free := fun b u q n _ => by rw [upd_ne (Nat.ne_of_lt (Nat.lt_of_lt_of_le (Heap.lt_size q) hp))]; exact n
  there := fun b u q _ => ⟨u, k b u q⟩
  tups := fun b xs q => by rw [upd_ne (ne_of_none q hn)]; exact q
  frzs := fun b u xs q => by rw [upd_ne (ne_of_none q hn)]; exact q
  tbls := fun b ps q => ⟨#[], by rw [upd_ne (ne_of_none q hn), q]; simp⟩
theorem Un.write (mu : Mut (H x)) (he : e = x ∨ H e = some (.own x)) (k : ∀ b u, b ≠ e → h.get? b = some u → h'.get? b = some u) (heo : ∃ u, h'.get? e = some u) : Un fs ex H (upd H x o) h h' := by
  have hx : ∀ b, H b = none → b ≠ x := fun b n z => by subst z; rw [n] at mu; exact mu
  have hb : ∀ b, H b = none → b ≠ e := fun b n z => by
    subst z
    rcases he with r | r
    · exact hx b n r
    · rw [n] at r; cases r
  have hm : ∀ b u, H b = some u → ¬ Mut (some u) → b ≠ x := fun b u q nm z => by subst z; rw [q] at mu; exact nm mu
  refine ⟨fun b u q n _ _ => k b u (hb b n) q, fun b u q n _ _ => ⟨u.slots, k b u (hb b n) q⟩, fun b u q n _ => by rw [upd_ne (hx b n)]; exact n, fun b u q _ => ?_,
    fun b xs q => by rw [upd_ne (hm b _ q fun z => z)]; exact q, fun b u xs q => by rw [upd_ne (hm b _ q fun z => z)]; exact q, fun b ps q => ⟨#[], by rw [upd_ne (hm b _ q fun z => z), q]; simp⟩⟩
  by_cases hbe : b = e
  · subst hbe; exact heo
  · exact ⟨u, k b u hbe q⟩
end
def trk (h : Heap) (H : Hp) : List Addr := (List.range h.objs.size).filter fun a => (H a).isSome
def hidT (h : Heap) (H : Hp) : Heap := PySem.W.hideAll h (trk h H)
theorem hidT_size (h : Heap) (H : Hp) : (hidT h H).objs.size = h.objs.size := PySem.W.hideAll_size _ _
theorem hidT_get {h : Heap} {H : Hp} {b : Addr} {o : Obj} (e : h.get? b = some o) (n : H b = none) : (hidT h H).get? b = some o :=
  PySem.W.hideAll_get _ e fun hm => by
    have q : (H b).isSome = true := (List.mem_filter.mp hm).2
    rw [n] at q; simp at q
theorem of_hidT {h : Heap} {H : Hp} {b : Addr} {o : Obj} (e : (hidT h H).get? b = some o) : h.get? b = some o ∧ H b = none := by
  have e' : h.get? b = some o := PySem.W.of_hideAll (trk h H) e
  refine ⟨e', ?_⟩
  cases q : H b with
  | none => rfl
  | some x =>
    have hm : b ∈ trk h H := List.mem_filter.mpr ⟨List.mem_range.mpr (Heap.lt_size e'), by simp [q]⟩
    have z : (hidT h H).get? b = none := PySem.W.hideAll_none (trk h H) hm
    rw [z] at e; cases e
def allNews (g h : Heap) (L : Addr) : List (Addr × Obj) := (List.range h.objs.size).filterMap fun a => if a = L ∨ (g.get? a).isSome = true then none else (h.get? a).map fun o => (a, o)
def rest (g h : Heap) (L d : Addr) : List (Addr × Obj) := (allNews g h L).filter fun p => decide (p.1 ≠ d)
end L2
namespace L2
open PySem PySem.Spec PyProof.Rows
structure Mod (K : PySem.W.Frag) (mg : Str → Option Value) (base : Heap) : Prop where
  kin : K.In base
  glob : base.Ns mainGlobals mg
  blt : ∃ mb, base.Ns builtinsNs mb ∧ ∀ x : Str, x ≠ "__name__" → mb x = bootBuiltins x
  nolimit : base.NoLimit
structure Cx where
  prog : Program
  w : World
  K : PySem.W.Frag
  mg : Str → Option Value
  base : Heap
  A : Around
  N : List Str
  s₀ : Shared
  H₀ : Hp
  env : Env
  outer : List Env
  stack : List Env
  ex : List Addr
  fn : Str → Bool
  calm : Bool
  pn : List (Addr × Obj)
  xe : Value → Shared → Prop
def frs (l : List Env) : List Addr := l.filterMap (·.frame)
abbrev Cx.fs (X : Cx) : List Addr := frs X.outer
def Vis (sc : Scope) (x : Str) : Prop := sc.names.lookup x = some .local ∨ sc.names.lookup x = some .cell ∨ sc.names.lookup x = some .free
def Loc (sc : Scope) (x : Str) : Prop := sc.names.lookup x = some .local ∨ sc.names.lookup x = some .cell
def Look (env : Env) (h : Heap) (m : Str → Option Value) (x : Str) (u : Value) : Prop :=
  (env.kindOf x = some .local ∧ m x = some u) ∨ ((env.kindOf x = some .cell ∨ env.kindOf x = some .free) ∧ ∃ c, env.cells.lookup x = some c ∧ h.IsCell c (some u))
structure Cx.Ok (X : Cx) : Prop where
  mod : Mod X.K X.mg X.base
  kind : X.env.scope.kind = .function
  glob : X.env.globals = mainGlobals
  blt : X.env.builtins = builtinsNs
  above : X.s₀.heap.objs.size ≤ X.env.locals
  inj : ∀ x y c, X.env.cells.lookup x = some c → X.env.cells.lookup y = some c → x = y
  has : ∀ x, (X.env.kindOf x = some .cell ∨ X.env.kindOf x = some .free) → ∃ c, X.env.cells.lookup x = some c
  cab : ∀ x c, X.fn x = true → X.env.cells.lookup x = some c → X.s₀.heap.objs.size ≤ c
  hd : X.calm = true → X.A.handled = none
  frames : X.A.frames = some X.stack
  stk : X.stack = X.outer ∨ (X.stack = X.env :: X.outer ∧ X.env.frame = some X.env.locals)
  exf : ∀ b ∈ X.ex, b ≠ X.env.locals ∧ ∀ x c, X.env.cells.lookup x = some c → c ≠ b
  bs : ∀ b o, X.base.get? b = some o → X.s₀.heap.get? b = some o ∧ X.H₀ b = none
  bsz : X.base.objs.size ≤ X.s₀.heap.objs.size
  noex : ∀ b o, X.base.get? b = some o → b ∉ X.ex
  exfs : ∀ b ∈ X.ex, b ∉ X.fs
  funs : X.s₀.heap.FunFrames X.base X.outer
  frf : ∀ b ∈ X.fs, X.H₀ b = none
structure Inv (X : Cx) (pins : List (Addr × Obj)) (σ : List (Option V)) (H : Hp) (s : Shared) : Prop where
  ok : X.Ok
  os : s.os = X.s₀.os
  bare : AllBare s.gens
  base : Un X.fs X.ex X.H₀ H X.s₀.heap s.heap
  loc : ∃ m, s.heap.Ns X.env.locals m ∧ ∀ (i : Nat) (x : Str) (v : V), X.N[i]? = some x → σ[i]? = some (some v) → Vis X.env.scope x → ∃ u, RelV v u ∧ Look X.env s.heap m x u
  cell : ∀ x c, X.env.cells.lookup x = some c → ∃ v, s.heap.IsCell c v
  free : H X.env.locals = none
  freeC : ∀ x c, X.env.cells.lookup x = some c → H c = none
  pin : ∀ p ∈ X.pn ++ pins, s.heap.get? p.1 = some p.2 ∧ H p.1 = none ∧ p.1 ≠ X.env.locals ∧ p.1 ∉ X.fs ∧ ∀ v, p.2.data ≠ .cell v
  hok : HOk X.prog X.w H s.heap
  len : σ.length = X.N.length
section
variable {X : Cx} {pins : List (Addr × Obj)} {σ : List (Option V)} {H H' : Hp} {s : Shared} {h' : Heap}
theorem Cx.Ok.nofr (ok : X.Ok) {b : Addr} {o : Obj} (e : X.base.get? b = some o) : b ∉ X.fs := fun hb => by
  have := (ok.funs.mem hb).1
  rw [e] at this; cases this
theorem Inv.bs (I : Inv X pins σ H s) : ∀ b o, X.base.get? b = some o → s.heap.get? b = some o ∧ H b = none := fun b o e =>
  ⟨I.base.keep b o (I.ok.bs b o e).1 (I.ok.bs b o e).2 (I.ok.nofr e) (I.ok.noex b o e), I.base.free b o (I.ok.bs b o e).1 (I.ok.bs b o e).2 (I.ok.noex b o e)⟩
theorem Inv.bk (I : Inv X pins σ H s) : ∀ b o, X.base.get? b = some o → s.heap.get? b = some o := fun b o e => (I.bs b o e).1
theorem Inv.mod (I : Inv X pins σ H s) : Mod X.K X.mg X.base := I.ok.mod
theorem Inv.kIn (I : Inv X pins σ H s) : X.K.In s.heap := I.ok.mod.kin.keeps I.bk
theorem Inv.nolimit (I : Inv X pins σ H s) : s.heap.NoLimit := I.ok.mod.nolimit.keeps I.bk
theorem Inv.fr (I : Inv X pins σ H s) : ∃ m, Fr X.base X.env.locals s.heap m :=
  let ⟨m, hn, _⟩ := I.loc
  ⟨m, hn, I.bk, Nat.le_trans I.ok.bsz I.ok.above⟩
theorem Inv.lt (I : Inv X pins σ H s) : X.env.locals < s.heap.objs.size := let ⟨_, hn, _⟩ := I.loc; hn.lt
theorem Inv.sz (I : Inv X pins σ H s) : X.s₀.heap.objs.size ≤ s.heap.objs.size := Nat.le_trans I.ok.above (Nat.le_of_lt I.lt)
theorem Inv.nofs (I : Inv X pins σ H s) {a : Addr} (h : s.heap.objs.size ≤ a) : a ∉ X.fs := fun hb => by
  obtain ⟨_, o, ho, _⟩ := I.ok.funs.mem hb
  exact absurd (Nat.lt_of_lt_of_le (Heap.lt_size ho) (Nat.le_trans I.sz h)) (Nat.lt_irrefl _)
theorem Inv.cne (I : Inv X pins σ H s) : ∀ x c, X.env.cells.lookup x = some c → c ≠ X.env.locals := fun x c e z => by
  obtain ⟨v, o, ho, hd⟩ := I.cell x c e
  obtain ⟨m, ⟨o', es, ep, ho', hd', _⟩, _⟩ := I.loc
  rw [z, ho'] at ho; cases ho; rw [hd'] at hd; cases hd
theorem Inv.funs (I : Inv X pins σ H s) : s.heap.FunFrames X.base X.outer := by
  have all : ∀ (l : List Env), (∀ b ∈ frs l, b ∈ X.fs) → X.s₀.heap.FunFrames X.base l → s.heap.FunFrames X.base l := by
    intro l
    induction l with
    | nil => intro _ _; trivial
    | cons env r ih =>
      intro hs hl
      obtain ⟨hk, ⟨L, o, hf, hn, ho, hd⟩, hr⟩ := hl
      have hL : L ∈ X.fs := hs L (by unfold frs; rw [List.filterMap_cons, hf]; exact List.mem_cons_self)
      obtain ⟨sl, e⟩ := I.base.slot L o ho (I.ok.frf L hL) hL fun z => I.ok.exfs L z hL
      exact ⟨hk, ⟨L, _, hf, hn, e, hd⟩, ih (fun b hb => hs b (by unfold frs; rw [List.filterMap_cons, hf]; exact List.mem_cons_of_mem _ hb)) hr⟩
  exact all X.outer (fun _ hb => hb) I.ok.funs
theorem Inv.stack (I : Inv X pins σ H s) : s.heap.FunFrames X.base X.stack := by
  rcases I.ok.stk with e | ⟨e, hf⟩
  · rw [e]; exact I.funs
  · rw [e]
    obtain ⟨m, hn, _⟩ := I.loc
    refine .cons (by rw [I.ok.kind]; decide) hf hn ?_ I.funs
    exact Heap.get?_none_of_le (Nat.le_trans I.ok.bsz I.ok.above)
theorem Inv.stkSub (I : Inv X pins σ H s) : ∀ b ∈ frs X.stack, b ∈ X.env.locals :: X.fs := fun b hb => by
  rcases I.ok.stk with e | ⟨e, hf⟩
  · rw [e] at hb; exact List.mem_cons_of_mem _ hb
  · rw [e] at hb
    unfold frs at hb
    rw [List.filterMap_cons, hf] at hb
    exact hb
theorem Inv.stkFree (I : Inv X pins σ H s) : ∀ b ∈ frs X.stack, H b = none := fun b hb => by
  rcases List.mem_cons.mp (I.stkSub b hb) with e | hb
  · rw [e]; exact I.free
  · obtain ⟨_, o, ho, _⟩ := I.ok.funs.mem hb
    exact I.base.free b o ho (I.ok.frf b hb) fun z => I.ok.exfs b z hb
theorem Inv.step {g' : Array GenState} {t' : Nat} {d' : Drawn} {ch : List Addr} (I : Inv X pins σ H s)
    (hch : ∀ b ∈ ch, (b ∈ X.ex ∨ X.s₀.heap.objs.size ≤ b) ∧ b ≠ X.env.locals ∧ (∀ x c, X.env.cells.lookup x = some c → c ≠ b) ∧ ∀ p ∈ X.pn ++ pins, p.1 ≠ b)
    (keep : ∀ b o, b ≠ X.env.locals → b ∉ X.fs → b ∉ ch → s.heap.get? b = some o → H b = none → h'.get? b = some o)
    (slot : ∀ b o, b ≠ X.env.locals → b ∈ X.fs → b ∉ ch → s.heap.get? b = some o → H b = none → ∃ sl, h'.get? b = some { o with slots := sl }) (free : ∀ b o, b ∉ ch → s.heap.get? b = some o → H b = none → H' b = none)
    (there : ∀ b o, b ∉ ch → s.heap.get? b = some o → ∃ o', h'.get? b = some o')
    (tups : ∀ b xs, H b = some (.tup xs) → H' b = some (.tup xs)) (frzs : ∀ b o u, H b = some (.frz o u) → H' b = some (.frz o u)) (tbls : ∀ b ps, H b = some (.tbl ps) → ∃ more, H' b = some (.tbl (ps ++ more)))
    (ns : ∀ m, s.heap.Ns X.env.locals m → h'.Ns X.env.locals m) (hok : HOk X.prog X.w H' h') (hg : AllBare g') :
    Inv X pins σ H' { s with heap := h', gens := g', drawn := d', toks := t' } := by
  have neL : ∀ b o, X.s₀.heap.get? b = some o → b ≠ X.env.locals := fun b o e => Nat.ne_of_lt (Nat.lt_of_lt_of_le (Heap.lt_size e) I.ok.above)
  have neC : ∀ b o, X.s₀.heap.get? b = some o → b ∉ X.ex → b ∉ ch := fun b o e hx hb => by
    rcases (hch b hb).1 with z | z
    · exact hx z
    · exact absurd (Nat.lt_of_lt_of_le (Heap.lt_size e) z) (Nat.lt_irrefl _)
  have cellK : ∀ x c, X.env.cells.lookup x = some c → ∀ v, s.heap.IsCell c v → h'.IsCell c v := fun x c e v ⟨o, ho, hd⟩ => by
    have nch : c ∉ ch := fun z => (hch c z).2.2.1 x c e rfl
    by_cases hc : c ∈ X.fs
    · obtain ⟨sl, q⟩ := slot c o (I.cne x c e) hc nch ho (I.freeC x c e)
      exact ⟨_, q, hd⟩
    · exact ⟨o, keep c o (I.cne x c e) hc nch ho (I.freeC x c e), hd⟩
  refine ⟨I.ok, I.os, hg, ⟨fun b o e n hb hx => ?_, fun b o e n hb hx => ?_, fun b o e n hx => ?_, fun b o e hx => ?_, fun b xs e => tups b xs (I.base.tups b xs e), fun b o xs e => frzs b o xs (I.base.frzs b o xs e), fun b ps e => ?_⟩, ?_, fun x c e => ?_, ?_, fun x c e => ?_, fun p hp => ?_, hok, I.len⟩
  · exact keep b o (neL b o e) hb (neC b o e hx) (I.base.keep b o e n hb hx) (I.base.free b o e n hx)
  · obtain ⟨sl, e1⟩ := I.base.slot b o e n hb hx
    obtain ⟨sl', e2⟩ := slot b _ (neL b o e) hb (neC b o e hx) e1 (I.base.free b o e n hx)
    exact ⟨sl', e2⟩
  · obtain ⟨o', e1⟩ := I.base.there b o e hx
    exact free b o' (neC b o e hx) e1 (I.base.free b o e n hx)
  · obtain ⟨o', e1⟩ := I.base.there b o e hx
    exact there b o' (neC b o e hx) e1
  · obtain ⟨m1, e1⟩ := I.base.tbls b ps e
    obtain ⟨m2, e2⟩ := tbls b _ e1
    exact ⟨m1 ++ m2, by rw [e2, Array.append_assoc]⟩
  · obtain ⟨m, hn, hl⟩ := I.loc
    refine ⟨m, ns m hn, fun i x v e1 e2 e3 => ?_⟩
    obtain ⟨u, r, l⟩ := hl i x v e1 e2 e3
    refine ⟨u, r, ?_⟩
    rcases l with l | ⟨k, c, e, z⟩
    · exact .inl l
    · exact .inr ⟨k, c, e, cellK x c e _ z⟩
  · obtain ⟨v, z⟩ := I.cell x c e
    exact ⟨v, cellK x c e v z⟩
  · obtain ⟨m, ⟨o, _, _, ho, _⟩, _⟩ := I.loc
    exact free _ o (fun z => (hch _ z).2.1 rfl) ho I.free
  · obtain ⟨v, o, ho, hd⟩ := I.cell x c e
    exact free c o (fun z => (hch c z).2.2.1 x c e rfl) ho (I.freeC x c e)
  · obtain ⟨e, n, ne, nf, d⟩ := I.pin p hp
    have nch : p.1 ∉ ch := fun z => (hch p.1 z).2.2.2 p hp rfl
    exact ⟨keep p.1 p.2 ne nf nch e n, free p.1 p.2 nch e n, ne, nf, d⟩
theorem Inv.un {t' : Nat} (I : Inv X pins σ H s) (u : Un X.fs [] H H' s.heap h') (hok : HOk X.prog X.w H' h') : Inv X pins σ H' { s with heap := h', toks := t' } := by
  obtain ⟨m, ⟨o, es, ep, ho, r⟩, _⟩ := id I.loc
  obtain ⟨sl, hL⟩ := u.any ho I.free (by simp)
  exact I.step (g' := s.gens) (d' := s.drawn) (ch := []) (fun _ z => nomatch z) (fun b o _ hb _ e n => u.keep b o e n hb (by simp)) (fun b o _ hb _ e n => u.slot b o e n hb (by simp)) (fun b o _ e n => u.free b o e n (by simp)) (fun b o _ e => u.there b o e (by simp)) u.tups u.frzs u.tbls (fun m' hm => by
    obtain ⟨o', es', ep', ho', r'⟩ := hm
    rw [ho] at ho'; cases ho'
    exact ⟨_, es', ep', hL, r'⟩) hok I.bare
theorem Inv.call {g' : Array GenState} {t' : Nat} {d' : Drawn} {ch : List Addr} (I : Inv X pins σ H s) (u : Un (frs X.stack) ch H H' s.heap h') (hok : HOk X.prog X.w H' h') (hg : AllBare g')
    (hch : ∀ b ∈ ch, (b ∈ X.ex ∨ X.s₀.heap.objs.size ≤ b) ∧ b ≠ X.env.locals ∧ (∀ x c, X.env.cells.lookup x = some c → c ≠ b) ∧ ∀ p ∈ X.pn ++ pins, p.1 ≠ b) :
    Inv X pins σ H' { s with heap := h', gens := g', drawn := d', toks := t' } := by
  obtain ⟨m, ⟨o, es, ep, ho, r⟩, _⟩ := id I.loc
  obtain ⟨sl, hL⟩ := u.any ho I.free fun z => (hch _ z).2.1 rfl
  exact I.step (ch := ch) hch (fun b o hL hb hc e n => u.keep b o e n (fun z => (List.mem_cons.mp (I.stkSub b z)).elim hL hb) hc) (fun b o _ _ hc e n => u.any e n hc) (fun b o hc e n => u.free b o e n hc) (fun b o hc e => u.there b o e hc) u.tups u.frzs u.tbls (fun m' hm => by
    obtain ⟨o', es', ep', ho', r'⟩ := hm
    rw [ho] at ho'; cases ho'
    exact ⟨_, es', ep', hL, r'⟩) hok hg
theorem Inv.turned {t' : Nat} {it : Addr} (I : Inv X pins σ H s) (k : ∀ b o, b ≠ it → s.heap.get? b = some o → h'.get? b = some o) (hn : H it = none) (hL : it ≠ X.env.locals)
    (h1 : it ∈ X.ex ∨ X.s₀.heap.objs.size ≤ it) (h2 : ∀ x c, X.env.cells.lookup x = some c → c ≠ it) (h3 : ∀ p ∈ X.pn ++ pins, p.1 ≠ it) : Inv X pins σ H { s with heap := h', toks := t' } := by
  have nit : ∀ b u, H b = some u → b ≠ it := fun b u e z => by rw [z, hn] at e; cases e
  refine I.step (g' := s.gens) (d' := s.drawn) (ch := [it]) (fun b hb => ?_) (fun b o _ _ hc e _ => k b o (fun z => hc (by simp [z])) e) (fun b o _ _ hc e _ => ⟨o.slots, k b o (fun z => hc (by simp [z])) e⟩) (fun _ _ _ _ n => n)
    (fun b o hc e => ⟨o, k b o (fun z => hc (by simp [z])) e⟩) (fun _ _ e => e) (fun _ _ _ e => e) (fun b ps e => ⟨#[], by rw [e]; simp⟩) (fun m hm => ?_) (fun b u e => ?_) I.bare
  · have e : b = it := by simpa using hb
    subst e
    exact ⟨h1, hL, h2, h3⟩
  · obtain ⟨o, es, ep, ho, r⟩ := hm
    exact ⟨o, es, ep, k _ o (Ne.symm hL) ho, r⟩
  · refine (I.hok b u e).stay (fun c v hc q => k c v ?_ q) (fun _ q => q) fun _ _ q => q
    rcases hc with z | z
    · rw [z]; exact nit b u e
    · exact nit c _ z
theorem Inv.tok (I : Inv X pins σ H s) (t : Nat) : Inv X pins σ H { s with toks := t } := I.un (h' := s.heap) (t' := t) Un.refl I.hok
theorem Inv.kept {t' : Nat} (I : Inv X pins σ H s) (k : ∀ b u, s.heap.get? b = some u → h'.get? b = some u) : Inv X pins σ H { s with heap := h', toks := t' } := I.un (Un.kept k) (I.hok.kept k)
theorem Inv.laid {a : Addr} {o : HO} {t' : Nat} (I : Inv X pins σ H s) (k : ∀ b u, s.heap.get? b = some u → h'.get? b = some u) (hp : s.heap.objs.size ≤ a) (new : ObjOk X.prog X.w (upd H a o) h' a o) :
    Inv X pins σ (upd H a o) { s with heap := h', toks := t' } := I.un (Un.laid k hp (I.hok.fresh hp)) (I.hok.laid k hp new)
theorem Inv.write {x e : Addr} {o : HO} {t' : Nat} (I : Inv X pins σ H s) (mu : Mut (H x)) (he : e = x ∨ H e = some (.own x)) (k : ∀ b u, b ≠ e → s.heap.get? b = some u → h'.get? b = some u) (heo : ∃ u, h'.get? e = some u)
    (new : ObjOk X.prog X.w (upd H x o) h' x o) : Inv X pins σ (upd H x o) { s with heap := h', toks := t' } := I.un (Un.write mu he k heo) (I.hok.write mu he k heo new)
theorem Inv.weak {σ' : List (Option V)} (I : Inv X pins σ H s) (hl : σ'.length = σ.length) (w : ∀ (i : Nat) v, σ'[i]? = some (some v) → σ[i]? = some (some v)) : Inv X pins σ' H s :=
  ⟨I.ok, I.os, I.bare, I.base, let ⟨m, hn, hl'⟩ := I.loc; ⟨m, hn, fun i x v e1 e2 e3 => hl' i x v e1 (w i v e2) e3⟩, I.cell, I.free, I.freeC, I.pin, I.hok, hl.trans I.len⟩
theorem Inv.pins_of {pins' : List (Addr × Obj)} (I : Inv X pins σ H s) (h : ∀ p ∈ pins', s.heap.get? p.1 = some p.2 ∧ H p.1 = none ∧ p.1 ≠ X.env.locals ∧ p.1 ∉ X.fs ∧ ∀ v, p.2.data ≠ .cell v) : Inv X pins' σ H s :=
  ⟨I.ok, I.os, I.bare, I.base, I.loc, I.cell, I.free, I.freeC, fun p hp => (List.mem_append.mp hp).elim (fun z => I.pin p (List.mem_append_left _ z)) (h p), I.hok, I.len⟩
theorem nodup_ix {N : List Str} (hN : N.Nodup) {i j : Nat} {x : Str} (a : N[i]? = some x) (b : N[j]? = some x) : i = j := by
  obtain ⟨h1, e1⟩ := List.getElem?_eq_some_iff.mp a
  obtain ⟨h2, e2⟩ := List.getElem?_eq_some_iff.mp b
  exact (List.getElem_inj hN).mp (e1.trans e2.symm)
theorem store_ok2 {M : Model} {A : Around} {E : Value → Shared → Prop} {i : Nat} {x : Str} {v : V} {u : Value} {Q : Unit → Shared → Prop} (I : Inv X pins σ H s) (hN : X.N.Nodup) (hi : X.N[i]? = some x) (hx : Loc X.env.scope x) (r : RelV v u)
    (h : ∀ s', Inv X pins (σ.set i (some v)) H s' → (∃ a, Heap.SameBut a s.heap s'.heap ∧ (a = X.env.locals ∨ X.env.cells.lookup x = some a)) → Q () s') (hf : X.fn x = true ∨ X.env.scope.names.lookup x = some .local := by first | exact .inl rfl | exact .inr rfl | assumption) : wpAny M A (storeName X.env x u) Q E s := by
  obtain ⟨m, hn, hl⟩ := id I.loc
  have hcls : (X.env.scope.kind == .class || (X.env.scope.kind == .module && X.env.locals != X.env.globals)) = false := by rw [I.ok.kind]; rfl
  have hiσ : i < σ.length := by rw [I.len]; exact (List.getElem?_eq_some_iff.mp hi).1
  have cne := I.cne
  have tracked : ∀ {a : Addr} {h' : Heap}, (∃ o, s.heap.get? a = some o ∧ H a = none) → Heap.SameBut a s.heap h' → HOk X.prog X.w H h' := fun {a h'} ha hs b ob e => by
    obtain ⟨_, _, hfree⟩ := ha
    refine (I.hok b ob e).stay (fun c w' hc q => (hs.2 c ?_).trans q) (fun _ q => q) fun _ _ q => q
    rintro rfl
    rcases hc with rfl | hc
    · rw [hfree] at e; cases e
    · rw [hfree] at hc; cases hc
  rcases hx with hk | hk
  · refine wpAny_storeName_local hk hn (fun h' hn' hs => ?_) hcls
    obtain ⟨oL, _, _, hoL, _⟩ := id hn
    refine h _ ⟨I.ok, I.os, I.bare, ⟨fun b o e n hb hx => ?_, fun b o e n hb hx => ?_, I.base.free, fun b o e hx => ?_, I.base.tups, I.base.frzs, I.base.tbls⟩, ⟨_, hn', fun j y v' e1 e2 e3 => ?_⟩, fun y c e => ?_, I.free, I.freeC, fun p hp => ?_, tracked ⟨oL, hoL, I.free⟩ hs, by simpa using I.len⟩ ⟨_, hs, .inl rfl⟩
    · exact (hs.2 b (Nat.ne_of_lt (Nat.lt_of_lt_of_le (Heap.lt_size e) I.ok.above))).trans (I.base.keep b o e n hb hx)
    · obtain ⟨sl, e1⟩ := I.base.slot b o e n hb hx
      exact ⟨sl, (hs.2 b (Nat.ne_of_lt (Nat.lt_of_lt_of_le (Heap.lt_size e) I.ok.above))).trans e1⟩
    · obtain ⟨o', e1⟩ := I.base.there b o e hx
      exact ⟨o', (hs.2 b (Nat.ne_of_lt (Nat.lt_of_lt_of_le (Heap.lt_size e) I.ok.above))).trans e1⟩
    · by_cases hj : j = i
      · subst hj
        rw [hi] at e1; cases e1
        rw [List.getElem?_set_self hiσ] at e2
        cases e2
        exact ⟨u, r, .inl ⟨hk, by simp⟩⟩
      · rw [List.getElem?_set_ne (Ne.symm hj)] at e2
        obtain ⟨u', r', q⟩ := hl j y v' e1 e2 e3
        refine ⟨u', r', ?_⟩
        rcases q with ⟨k, e⟩ | ⟨k, c, e, z⟩
        · refine .inl ⟨k, ?_⟩
          have : y ≠ x := fun e => hj (nodup_ix hN e1 (e ▸ hi))
          simp [this, e]
        · exact .inr ⟨k, c, e, z.sameBut hs (cne y c e)⟩
    · obtain ⟨w', z⟩ := I.cell y c e
      exact ⟨w', z.sameBut hs (cne y c e)⟩
    · obtain ⟨e, n, ne, nf, d⟩ := I.pin p hp
      exact ⟨(hs.2 p.1 ne).trans e, n, ne, nf, d⟩
  · have hfn : X.fn x = true := by
      rcases hf with z | z
      · exact z
      · rw [z] at hk; cases hk
    obtain ⟨c, hc⟩ := I.ok.has x (.inl hk)
    obtain ⟨w', z⟩ := I.cell x c hc
    refine wpAny_storeName_cell I.ok.kind hk hc z (fun h' hc' hs => ?_)
    obtain ⟨oc, hoc, hocd⟩ := id z
    refine h { s with heap := h' } ⟨I.ok, I.os, I.bare, ⟨fun b o e n hb hx => ?_, fun b o e n hb hx => ?_, I.base.free, fun b o e hx => ?_, I.base.tups, I.base.frzs, I.base.tbls⟩, ⟨m, hn.sameBut hs (Ne.symm (cne x c hc)), fun j y v' e1 e2 e3 => ?_⟩, fun y c' e => ?_, I.free, I.freeC, fun p hp => ?_, tracked ⟨oc, hoc, I.freeC x c hc⟩ hs, by simpa using I.len⟩ ⟨c, hs, .inr hc⟩
    · exact (hs.2 b (Nat.ne_of_lt (Nat.lt_of_lt_of_le (Heap.lt_size e) (I.ok.cab x c hfn hc)))).trans (I.base.keep b o e n hb hx)
    · obtain ⟨sl, e1⟩ := I.base.slot b o e n hb hx
      exact ⟨sl, (hs.2 b (Nat.ne_of_lt (Nat.lt_of_lt_of_le (Heap.lt_size e) (I.ok.cab x c hfn hc)))).trans e1⟩
    · obtain ⟨o', e1⟩ := I.base.there b o e hx
      exact ⟨o', (hs.2 b (Nat.ne_of_lt (Nat.lt_of_lt_of_le (Heap.lt_size e) (I.ok.cab x c hfn hc)))).trans e1⟩
    · by_cases hj : j = i
      · subst hj
        rw [hi] at e1; cases e1
        rw [List.getElem?_set_self hiσ] at e2
        cases e2
        exact ⟨u, r, .inr ⟨.inl hk, c, hc, hc'⟩⟩
      · rw [List.getElem?_set_ne (Ne.symm hj)] at e2
        obtain ⟨u', r', q⟩ := hl j y v' e1 e2 e3
        refine ⟨u', r', ?_⟩
        rcases q with q | ⟨k, c', e, z'⟩
        · exact .inl q
        · refine .inr ⟨k, c', e, z'.sameBut hs ?_⟩
          rintro rfl
          exact hj (nodup_ix hN e1 (I.ok.inj _ _ _ e hc ▸ hi))
    · by_cases hcc : c' = c
      · subst hcc; exact ⟨_, hc'⟩
      · obtain ⟨w2, z2⟩ := I.cell y c' e
        exact ⟨w2, z2.sameBut hs hcc⟩
    · obtain ⟨e, n, ne, nf, d⟩ := I.pin p hp
      refine ⟨(hs.2 p.1 ?_).trans e, n, ne, nf, d⟩
      intro q
      rw [q, hoc] at e
      have q' : oc = p.2 := Option.some.inj e
      exact d w' (by rw [← q']; exact hocd)
theorem store_ok {M : Model} {A : Around} {E : Value → Shared → Prop} {i : Nat} {x : Str} {v : V} {u : Value} {Q : Unit → Shared → Prop} (I : Inv X pins σ H s) (hN : X.N.Nodup) (hi : X.N[i]? = some x) (hx : Loc X.env.scope x) (r : RelV v u)
    (h : ∀ s', Inv X pins (σ.set i (some v)) H s' → Q () s') (hf : X.fn x = true ∨ X.env.scope.names.lookup x = some .local := by first | exact .inl rfl | exact .inr rfl | assumption) : wpAny M A (storeName X.env x u) Q E s :=
  store_ok2 I hN hi hx r (fun s' I' _ => h s' I') hf
theorem Inv.call' {s' : Shared} {ch : List Addr} (I : Inv X pins σ H s) (ho : s'.os = s.os) (u : Un (frs X.stack) ch H H' s.heap s'.heap) (hok : HOk X.prog X.w H' s'.heap) (hg : AllBare s'.gens)
    (hch : ∀ b ∈ ch, (b ∈ X.ex ∨ X.s₀.heap.objs.size ≤ b) ∧ b ≠ X.env.locals ∧ (∀ x c, X.env.cells.lookup x = some c → c ≠ b) ∧ ∀ p ∈ X.pn ++ pins, p.1 ≠ b) : Inv X pins σ H' s' := by
  obtain ⟨h', g', d', t', o'⟩ := s'
  have e : o' = s.os := ho
  subst e
  exact I.call (g' := g') (t' := t') (d' := d') u hok hg hch
end
abbrev XK := Value → Option Addr → Hp → Prop
abbrev St := List (Option V)
abbrev VK := V → Hp → Prop
abbrev TE := St → Hp → VK → Prop
abbrev TT := St → Hp → (Bool → Hp → Prop) → Prop
abbrev TA := St → Hp → (List V → Hp → Prop) → Prop
structure Ends where
  nx : St → Hp → Prop
  rt : VK
  bk : St → Hp → Prop := fun _ _ => False
  ct : St → Hp → Prop := fun _ _ => False
abbrev TS := Ends → St → Hp → Prop
def EP (X : Cx) (pins : List (Addr × Obj)) (σ : St) (Q : VK) (u : Value) (s' : Shared) : Prop := ∃ v H', Inv X pins σ H' s' ∧ RelV v u ∧ Q v H'
def TP (X : Cx) (pins : List (Addr × Obj)) (σ : St) (Q : Bool → Hp → Prop) (b : Bool) (s' : Shared) : Prop := ∃ H', Inv X pins σ H' s' ∧ Q b H'
def AP (X : Cx) (pins : List (Addr × Obj)) (σ : St) (Q : List V → Hp → Prop) (us : List Value) (s' : Shared) : Prop := ∃ vs H', Inv X pins σ H' s' ∧ Vals vs us ∧ Q vs H'
def SP (X : Cx) (pins : List (Addr × Obj)) (D : Ends) (f : Flow) (s' : Shared) : Prop :=
  match f with
  | .next => ∃ σ' H', Inv X pins σ' H' s' ∧ D.nx σ' H'
  | .brk => ∃ σ' H', Inv X pins σ' H' s' ∧ D.bk σ' H'
  | .cont => ∃ σ' H', Inv X pins σ' H' s' ∧ D.ct σ' H'
  | .ret u => ∃ v σ' H', Inv X pins σ' H' s' ∧ RelV v u ∧ D.rt v H'
def PE (X : Cx) (e : Expr) (t : TE) : Prop :=
  ∀ (pins : List (Addr × Obj)) (s : Shared) (σ : St) (H : Hp) (Q : VK), Inv X pins σ H s → t σ H Q → wpAny (model X.prog X.w) X.A (eval e X.env) (EP X pins σ Q) X.xe s
def PT (X : Cx) (e : Expr) (t : TT) : Prop :=
  ∀ (pins : List (Addr × Obj)) (s : Shared) (σ : St) (H : Hp) (Q : Bool → Hp → Prop), Inv X pins σ H s → t σ H Q → wpAny (model X.prog X.w) X.A (isTrue e X.env (eval e X.env)) (TP X pins σ Q) X.xe s
def PW (X : Cx) (e : Expr) (t : TT) : Prop :=
  ∀ (whole : Sem Value) (pins : List (Addr × Obj)) (s : Shared) (σ : St) (H : Hp) (Q : Bool → Hp → Prop), Inv X pins σ H s → t σ H Q → wpAny (model X.prog X.w) X.A (isTrue e X.env whole) (TP X pins σ Q) X.xe s
theorem PW.pt {X : Cx} {e : Expr} {t : TT} (h : PW X e t) : PT X e t := h _
def PA (X : Cx) (es : List Expr) (t : TA) : Prop :=
  ∀ (pos : Pos) (pins : List (Addr × Obj)) (s : Shared) (σ : St) (H : Hp) (Q : List V → Hp → Prop), Inv X pins σ H s → t σ H Q → wpAny (model X.prog X.w) X.A (spliced (backTo pos (starEach es X.env))) (AP X pins σ Q) X.xe s
def PS (X : Cx) (st : Stmt) (t : TS) : Prop :=
  ∀ (pins : List (Addr × Obj)) (s : Shared) (σ : St) (H : Hp) (D : Ends), Inv X pins σ H s → t D σ H → wpAny (model X.prog X.w) X.A (exec st X.env) (SP X pins D) X.xe s
def PSs (X : Cx) (st : List Stmt) (t : TS) : Prop :=
  ∀ (pins : List (Addr × Obj)) (s : Shared) (σ : St) (H : Hp) (D : Ends), Inv X pins σ H s → t D σ H → wpAny (model X.prog X.w) X.A (execs st X.env) (SP X pins D) X.xe s
theorem thn {α : Type} {t : Sem α} {Q Q' : α → Shared → Prop} {M : Model} {A : Around} {E : Value → Shared → Prop} {s : Shared} (h : wpAny M A t Q E s) (hQ : ∀ a s, Q a s → Q' a s) : wpAny M A t Q' E s := wpAny_mono h hQ fun _ _ x => x
end L2
namespace L2
open PySem PySem.Spec PyProof.Rows
section
variable {X : Cx}
def tVar (i : Nat) : TE := fun σ H Q => ∃ v, σ[i]? = some (some v) ∧ Q v H
def tC (v : V) : TE := fun _ H Q => Q v H
theorem pe_var {i : Nat} {x : Str} {pos : Pos} (hN : X.N[i]? = some x) (hv : Vis X.env.scope x) (hd : (x == ("__debug__" : Str)) = false := by decide) (hcd : (x == ("__classdict__" : Str)) = false := by decide) : PE X (.Name x pos) (tVar i) := by
  intro pins s σ H Q I h
  obtain ⟨v, e, h⟩ := h
  obtain ⟨m, hn, hl⟩ := I.loc
  obtain ⟨u, r, l⟩ := hl i x v hN e hv
  have fin : EP X pins σ Q u s := ⟨v, H, I, r, h⟩
  rcases l with ⟨hk, hm⟩ | ⟨hk, c, hc, hcell⟩
  · exact wpAny_Name (wpAny_loadName_local I.ok.kind hk hn hm fin) hd
  · rcases hk with hk | hk
    · exact wpAny_Name (wpAny_loadName_cell I.ok.kind hk hc hcell fin) hd
    · exact wpAny_Name (wpAny_loadName_free I.ok.kind hk hc hcell fin hcd) hd
theorem pe_int {i j pos} : PE X (.Constant (.int i) j pos) (tC (.int i)) := fun _ _ _ H _ I h => wpAny_Constant_int ⟨.int i, H, I.tok _, ⟨_, rfl⟩, h⟩
theorem pe_bl {b j pos} : PE X (.Constant (.bool b) j pos) (tC (.bl b)) := fun _ _ _ H _ I h => Constant_bool ⟨.bl b, H, I, rfl, h⟩
theorem pe_non {j pos} : PE X (.Constant .none j pos) (tC .non) := fun _ _ _ H _ I h => Constant_none ⟨.non, H, I, rfl, h⟩
theorem pe_str {x j pos} : PE X (.Constant (.str x) j pos) (tC (.str x)) := fun _ _ _ H _ I h => Calls.Constant_str ⟨.str x, H, I.tok _, ⟨_, rfl⟩, h⟩
def Gl (X : Cx) (x : Str) : Prop := X.env.kindOf x = some .globalImplicit
theorem ld_glob {E : Value → Shared → Prop} {pins : List (Addr × Obj)} {s : Shared} {σ : St} {H : Hp} {x : Str} {u : Value} {pos : Pos} {Q : Value → Shared → Prop} (I : Inv X pins σ H s) (hg : Gl X x) (hm : X.mg x = some u) (h : Q u s)
    (hd : (x == ("__debug__" : Str)) = false := by decide) : wpAny (model X.prog X.w) X.A (eval (.Name x pos) X.env) Q E s :=
  Calls.Name_function_global I.ok.kind hg (Calls.loadGlobal_global (by rw [I.ok.glob]; exact I.mod.glob.keeps I.bk) hm h) hd
theorem ld_blt {E : Value → Shared → Prop} {pins : List (Addr × Obj)} {s : Shared} {σ : St} {H : Hp} {x : Str} {u : Value} {pos : Pos} {Q : Value → Shared → Prop} (I : Inv X pins σ H s) (hg : Gl X x) (hm : X.mg x = none) (hv : bootBuiltins x = some u) (h : Q u s)
    (hn : x ≠ "__name__" := by decide) (hd : (x == ("__debug__" : Str)) = false := by decide) : wpAny (model X.prog X.w) X.A (eval (.Name x pos) X.env) Q E s := by
  obtain ⟨mb, h1, h2⟩ := I.mod.blt
  exact Calls.Name_function_global I.ok.kind hg (Calls.loadGlobal_builtin (by rw [I.ok.glob]; exact I.mod.glob.keeps I.bk) hm (by rw [I.ok.blt]; exact h1.keeps I.bk) ((h2 x hn).trans hv) h) hd
theorem pe_glob {x : Str} {v : V} {u : Value} {pos : Pos} (hg : Gl X x) (hm : X.mg x = some u) (r : RelV v u) (hd : (x == ("__debug__" : Str)) = false := by decide) : PE X (.Name x pos) (tC v) :=
  fun _ _ _ H _ I h => ld_glob I hg hm ⟨v, H, I, r, h⟩ hd
theorem pe_bltn {x : Str} {v : V} {u : Value} {pos : Pos} (hg : Gl X x) (hm : X.mg x = none) (hv : bootBuiltins x = some u) (r : RelV v u) (hn : x ≠ "__name__" := by decide) (hd : (x == ("__debug__" : Str)) = false := by decide) : PE X (.Name x pos) (tC v) :=
  fun _ _ _ H _ I h => ld_blt I hg hm hv ⟨v, H, I, r, h⟩ hn hd
variable {a b : Expr} {ta tb : TE} {pos : Pos}
def tB (t : TE) : TT := fun σ H Q => t σ H fun x H1 => ∃ c, x = .bl c ∧ Q c H1
theorem pt_val {e : Expr} {t : TE} (h : PE X e t) (he : ∀ whole, isTrue e X.env whole = (do let v ← whole; standAt e.pos; holding [v] (truthy v)) := by intro _; rfl) : PT X e (tB t) := by
  intro pins s σ H Q I hw
  refine isTrue_plain (thn (h pins s σ H _ I hw) fun v s1 ⟨x, H1, I1, r1, q1⟩ => ?_) (he _)
  obtain ⟨d, rfl, q⟩ := q1
  cases r1
  exact wpAny_truthy_bool ⟨H1, I1, q⟩
variable {tA tB' : TT} {rest : List Expr}
def tAnd (t u : TT) : TT := fun σ H Q => t σ H fun c H1 => if c = true then u σ H1 Q else Q false H1
def tOr (t u : TT) : TT := fun σ H Q => t σ H fun c H1 => if c = true then Q true H1 else u σ H1 Q
def tNot (t : TT) : TT := fun σ H Q => t σ H fun c H1 => Q (!c) H1
theorem pw_and1 (ha : PT X a tA) : PW X (.BoolOp .And [a] pos) tA := by
  intro wh pins s σ H Q I h
  refine isTrue_and (thn (ha pins s σ H Q I h) fun c s1 e => ?_)
  cases c with
  | true => exact isTrue_and_nil e
  | false => exact e
theorem pw_or1 (ha : PT X a tA) : PW X (.BoolOp .Or [a] pos) tA := by
  intro wh pins s σ H Q I h
  refine isTrue_or (thn (ha pins s σ H Q I h) fun c s1 e => ?_)
  cases c with
  | false => exact isTrue_or_nil e
  | true => exact e
theorem pw_and (ha : PT X a tA) (hb : PW X (.BoolOp .And (b :: rest) pos) tB') : PW X (.BoolOp .And (a :: b :: rest) pos) (tAnd tA tB') := by
  intro wh pins s σ H Q I h
  refine isTrue_and (thn (ha pins s σ H _ I h) fun c s1 ⟨H1, I1, q1⟩ => ?_)
  cases c with
  | true => exact hb wh pins s1 σ H1 Q I1 q1
  | false => exact ⟨H1, I1, q1⟩
theorem pw_or (ha : PT X a tA) (hb : PW X (.BoolOp .Or (b :: rest) pos) tB') : PW X (.BoolOp .Or (a :: b :: rest) pos) (tOr tA tB') := by
  intro wh pins s σ H Q I h
  refine isTrue_or (thn (ha pins s σ H _ I h) fun c s1 ⟨H1, I1, q1⟩ => ?_)
  cases c with
  | true => exact ⟨H1, I1, q1⟩
  | false => exact hb wh pins s1 σ H1 Q I1 q1
theorem pt_not (ha : PT X a tA) : PT X (.UnaryOp .Not a pos) (tNot tA) := by
  intro pins s σ H Q I h
  exact isTrue_not (ha pins s σ H (fun c H1 => Q (!c) H1) I h)
def tAndV (ta tb : TE) : TE := fun σ H Q => ta σ H fun x H1 => ∃ c, x = .bl c ∧ if c = true then tb σ H1 Q else Q (.bl false) H1
def tNotV (ta : TE) : TE := fun σ H Q => ta σ H fun x H1 => ∃ c, x = .bl c ∧ Q (.bl (!c)) H1
theorem pe_one {op} {t : TE} (h : PE X a t) : PE X (.BoolOp op [a] pos) t := fun pins s σ H Q I hw => BoolOp_one (h pins s σ H Q I hw)
theorem pe_and (ha : PE X a ta) (hb : PE X (.BoolOp .And (b :: rest) pos) tb) : PE X (.BoolOp .And (a :: b :: rest) pos) (tAndV ta tb) := by
  intro pins s σ H Q I h
  refine BoolOp_and (thn (ha pins s σ H _ I h) fun v s1 ⟨x, H1, I1, r1, q1⟩ => ?_)
  obtain ⟨c, rfl, q1⟩ := q1
  cases r1
  refine wpAny_truthy_bool ?_
  cases c with
  | true => exact hb pins s1 σ H1 Q I1 q1
  | false => exact ⟨.bl false, H1, I1, rfl, q1⟩
theorem pe_not (ha : PE X a ta) : PE X (.UnaryOp .Not a pos) (tNotV ta) := by
  intro pins s σ H Q I h
  refine UnaryOp_ (thn (ha pins s σ H _ I h) fun v s1 ⟨x, H1, I1, r1, q1⟩ => ?_)
  obtain ⟨c, rfl, q1⟩ := q1
  cases r1
  exact not_of (wpAny_truthy_bool ⟨.bl (!c), H1, I1, rfl, q1⟩)
def tIf (t : TT) (ta tb : TE) : TE := fun σ H Q => t σ H fun c H1 => if c = true then ta σ H1 Q else tb σ H1 Q
theorem pe_ifExp {c : Expr} (hc : PT X c tA) (ha : PE X a ta) (hb : PE X b tb) : PE X (.IfExp c a b pos) (tIf tA ta tb) := by
  intro pins s σ H Q I h
  refine wpAny_IfExp (thn (hc pins s σ H _ I h) fun d s1 ⟨H1, I1, q1⟩ => ?_)
  cases d with
  | true => exact ha pins s1 σ H1 Q I1 q1
  | false => exact hb pins s1 σ H1 Q I1 q1
end
end L2
namespace L2
open PySem PySem.Spec PyProof.Rows
def SqL (K : PySem.W.Frag) (H : Hp) (a : Addr) (xs : List V) : Prop :=
  Rd H a (.lst xs) ∨
    ∃ (o : Obj) (its : Array Value) (n : Nat), K.lookup a = some o ∧ o.cls = .type "list" ∧ o.dict = none ∧ o.data = .seq its n ∧ its.size ≤ sizeLine ∧ Vals xs its.toList
def SqT (K : PySem.W.Frag) (H : Hp) (a : Addr) (xs : List V) : Prop :=
  Rd H a (.tup xs) ∨
    ∃ (o : Obj) (its : Array Value) (n : Nat), K.lookup a = some o ∧ o.cls = .type "tuple" ∧ o.data = .seq its n ∧ its.size ≤ sizeLine ∧ Vals xs its.toList
def absV : Value → Option V
  | .none => some .non
  | .bool b => some (.bl b)
  | .int i _ => some (.int i)
  | .str x _ => some (.str x)
  | .bytes b _ => some (.byt b)
  | .float b _ => some (.flt b)
  | .ref a => some (.ref a)
  | .type n => some (.ty n)
  | _ => none
theorem RelV.abs {x : V} {u : Value} (r : RelV x u) : absV u = some x := by
  cases x with
  | non => cases r; rfl
  | bl _ => cases r; rfl
  | int _ => obtain ⟨t, rfl⟩ := r; rfl
  | str _ => obtain ⟨t, rfl⟩ := r; rfl
  | byt _ => obtain ⟨t, rfl⟩ := r; rfl
  | flt _ => obtain ⟨t, rfl⟩ := r; rfl
  | ref _ => cases r; rfl
  | ty _ => cases r; rfl
theorem RelV.inj {x y : V} {u : Value} (r : RelV x u) (q : RelV y u) : x = y := Option.some.inj (r.abs.symm.trans q.abs)
theorem Vals.inj : ∀ {xs ys : List V} {us : List Value}, Vals xs us → Vals ys us → xs = ys
  | _, _, _, .nil, .nil => rfl
  | _, _, _, .cons r t, .cons r' t' => by rw [r.inj r', Vals.inj t t']
section
variable {X : Cx} {pins : List (Addr × Obj)} {σ : St} {H : Hp} {s : Shared} {a : Addr} {xs ys : List V}
theorem SqL.of {K : PySem.W.Frag} (h : H a = some (.lst xs)) : SqL K H a xs := .inl (.inl h)
theorem SqT.of {K : PySem.W.Frag} (h : H a = some (.tup xs)) : SqT K H a xs := .inl (.inl h)
theorem Inv.list (I : Inv X pins σ H s) (h : SqL X.K H a xs) : ∃ its : List Value, Vals xs its ∧ PlainL s.heap a its.toArray ∧ xs.length ≤ sizeLine := by
  rcases h with h | ⟨o, its, n, hk, hc, hd, hs, hz, r⟩
  · obtain ⟨z, its, n, r, e⟩ := h.ok I.hok
    exact ⟨its, r, ⟨_, n, e, rfl, rfl, rfl⟩, z⟩
  · refine ⟨its.toList, r, ⟨o, n, I.kIn a o hk, hc, hd, by simpa using hs⟩, ?_⟩
    have e := r.length
    simp only [Array.length_toList] at e
    omega
theorem Inv.tuple (I : Inv X pins σ H s) (h : SqT X.K H a xs) : ∃ its : List Value, Vals xs its ∧ IsTup s.heap a its.toArray ∧ xs.length ≤ sizeLine := by
  rcases h with h | ⟨o, its, n, hk, hc, hs, hz, r⟩
  · obtain ⟨z, its, r, p⟩ := h.ok I.hok
    exact ⟨its, r, p, z⟩
  · refine ⟨its.toList, r, ⟨o, I.kIn a o hk, hc, n, by simpa using hs⟩, ?_⟩
    have e := r.length
    simp only [Array.length_toList] at e
    omega
theorem Inv.list_inj (I : Inv X pins σ H s) (h : SqL X.K H a xs) (h' : SqL X.K H a ys) : xs = ys := by
  obtain ⟨its, r, ⟨o, n, e, _, _, d⟩, _⟩ := I.list h
  obtain ⟨its', r', ⟨o', n', e', _, _, d'⟩, _⟩ := I.list h'
  rw [e] at e'; cases e'
  rw [d] at d'
  injection d' with d1 _
  have : its = its' := by simpa using congrArg Array.toList d1
  subst this
  exact r.inj r'
theorem Inv.tuple_inj (I : Inv X pins σ H s) (h : SqT X.K H a xs) (h' : SqT X.K H a ys) : xs = ys := by
  obtain ⟨its, r, ⟨o, e, _, n, d⟩, _⟩ := I.tuple h
  obtain ⟨its', r', ⟨o', e', _, n', d'⟩, _⟩ := I.tuple h'
  rw [e] at e'; cases e'
  rw [d] at d'
  injection d' with d1 _
  have : its = its' := by simpa using congrArg Array.toList d1
  subst this
  exact r.inj r'
end
abbrev Cx.wish (X : Cx) (E : Value → Shared → Prop) : Cx := { X with xe := E }
abbrev Cx.nox (X : Cx) : Cx := X.wish fun _ _ => False
theorem Cx.Ok.wish {X : Cx} (ok : X.Ok) (E : Value → Shared → Prop) : (X.wish E).Ok :=
  ⟨ok.mod, ok.kind, ok.glob, ok.blt, ok.above, ok.inj, ok.has, ok.cab, ok.hd, ok.frames, ok.stk, ok.exf, ok.bs, ok.bsz, ok.noex, ok.exfs, ok.funs, ok.frf⟩
theorem Cx.Ok.unwish {X : Cx} {E : Value → Shared → Prop} (ok : (X.wish E).Ok) : X.Ok :=
  ⟨ok.mod, ok.kind, ok.glob, ok.blt, ok.above, ok.inj, ok.has, ok.cab, ok.hd, ok.frames, ok.stk, ok.exf, ok.bs, ok.bsz, ok.noex, ok.exfs, ok.funs, ok.frf⟩
section
variable {X : Cx} {pins : List (Addr × Obj)} {σ : St} {H : Hp} {s : Shared} {E : Value → Shared → Prop}
theorem Inv.wish (I : Inv X pins σ H s) (E : Value → Shared → Prop) : Inv (X.wish E) pins σ H s := ⟨I.ok.wish E, I.os, I.bare, I.base, I.loc, I.cell, I.free, I.freeC, I.pin, I.hok, I.len⟩
theorem Inv.unwish (I : Inv (X.wish E) pins σ H s) : Inv X pins σ H s := ⟨I.ok.unwish, I.os, I.bare, I.base, I.loc, I.cell, I.free, I.freeC, I.pin, I.hok, I.len⟩
theorem SP.unwish {D : Ends} {f : Flow} {s' : Shared} (h : SP (X.wish E) pins D f s') : SP X pins D f s' := by
  cases f with
  | next => obtain ⟨σ', H', I, q⟩ := h; exact ⟨σ', H', I.unwish, q⟩
  | brk => obtain ⟨σ', H', I, q⟩ := h; exact ⟨σ', H', I.unwish, q⟩
  | cont => obtain ⟨σ', H', I, q⟩ := h; exact ⟨σ', H', I.unwish, q⟩
  | ret u => obtain ⟨v, σ', H', I, r, q⟩ := h; exact ⟨v, σ', H', I.unwish, r, q⟩
theorem PSs.nox {st : List Stmt} {t : TS} (h : PSs X.nox st t) : PSs X st t := fun pins s σ H D I hw =>
  wpAny_mono (h pins s σ H D (I.wish _) hw) (fun _ _ q => q.unwish) fun _ _ z => False.elim z
end
section
variable {X : Cx} {st : Stmt} {rest : List Stmt} {t u : TS} {e : Expr} {te : TE} {pos : Pos}
def tNext : TS := fun D σ H => D.nx σ H
def tSeq (t u : TS) : TS := fun D σ H => t { D with nx := u D } σ H
theorem pss_nil : PSs X [] tNext := fun _ _ σ H _ I h => wpAny_execs_nil ⟨σ, H, I, h⟩
theorem pss_cons (h1 : PS X st t) (h2 : PSs X rest u) : PSs X (st :: rest) (tSeq t u) := by
  intro pins s σ H D I h
  refine wpAny_execs_cons (thn (h1 pins s σ H { D with nx := u D } I h) fun f s1 q => ?_)
  cases f with
  | next =>
    obtain ⟨σ', H', I', q⟩ := q
    exact h2 pins s1 σ' H' D I' q
  | ret v => exact q
  | brk => exact q
  | cont => exact q
theorem pss_one (h1 : PS X st t) : PSs X [st] t := by
  intro pins s σ H D I h
  refine wpAny_execs_cons (thn (h1 pins s σ H D I h) fun f s1 q => ?_)
  cases f with
  | next => exact wpAny_execs_nil q
  | ret v => exact q
  | brk => exact q
  | cont => exact q
theorem Inv.quiet {pins : List (Addr × Obj)} {σ : St} {H : Hp} {s : Shared} (I : Inv X pins σ H s) : interactive X.env = false := by simp [interactive, I.ok.kind]
def tDrop (te : TE) : TS := fun D σ H => te σ H fun _ H1 => D.nx σ H1
theorem ps_expr (he : PE X e te) (hs : swapsWith e none pos.line X.env = pure false := by rfl) : PS X (.Expr e pos) (tDrop te) := by
  intro pins s σ H D I h
  exact wpAny_Expr_any (thn (he pins s σ H _ I h) fun v s1 ⟨x, H1, I1, r1, q1⟩ => ⟨σ, H1, I1, q1⟩) I.quiet hs
def tRet (te : TE) : TS := fun D σ H => te σ H D.rt
theorem ps_ret (he : PE X e te) : PS X (.Return (some e) pos) (tRet te) := by
  intro pins s σ H D I h
  exact wpAny_Return_some (thn (he pins s σ H _ I h) fun v s1 ⟨x, H1, I1, r1, q1⟩ => ⟨x, σ, H1, I1, r1, q1⟩)
def tIfS (c : TT) (t u : TS) : TS := fun D σ H => c σ H fun b H1 => if b = true then t D σ H1 else u D σ H1
theorem ps_if {c : Expr} {a b : List Stmt} {tc : TT} (hc : PT X c tc) (ha : PSs X a t) (hb : PSs X b u) : PS X (.If c a b pos) (tIfS tc t u) := by
  intro pins s σ H D I h
  refine wpAny_If (thn (hc pins s σ H _ I h) fun d s1 ⟨H1, I1, q1⟩ => ?_)
  cases d with
  | true => exact ha pins s1 σ H1 D I1 q1
  | false => exact hb pins s1 σ H1 D I1 q1
end
abbrev TG := V → St → Hp → (St → Hp → Prop) → Prop
abbrev TGs := List V → St → Hp → (St → Hp → Prop) → Prop
def PG (X : Cx) (target : Expr) (t : TG) : Prop :=
  ∀ (pins : List (Addr × Obj)) (s : Shared) (σ : St) (H : Hp) (v : V) (u : Value) (Q : St → Hp → Prop), Inv X pins σ H s → RelV v u → t v σ H Q →
    wpAny (model X.prog X.w) X.A (assign target X.env u) (fun _ s' => ∃ σ' H', Inv X pins σ' H' s' ∧ Q σ' H') X.xe s
def PGs (X : Cx) (ts : List Expr) (t : TGs) : Prop :=
  ∀ (pins : List (Addr × Obj)) (s : Shared) (σ : St) (H : Hp) (vs : List V) (us : List Value) (Q : St → Hp → Prop), Inv X pins σ H s → Vals vs us → t vs σ H Q →
    wpAny (model X.prog X.w) X.A (assignInOrder ((assignEach ts X.env).map (·.2)) us) (fun _ s' => ∃ σ' H', Inv X pins σ' H' s' ∧ Q σ' H') X.xe s
section
variable {X : Cx} {pos : Pos}
def gName (i : Nat) : TG := fun v σ H Q => Q (σ.set i (some v)) H
theorem pg_name {i : Nat} {x : Str} (hN : X.N.Nodup) (hi : X.N[i]? = some x) (hx : Loc X.env.scope x) (hf : X.fn x = true ∨ X.env.scope.names.lookup x = some .local := by first | exact .inl rfl | exact .inr rfl | assumption) : PG X (.Name x pos) (gName i) := by
  intro pins s σ H v u Q I r h
  exact wpAny_assign_Name (store_ok I hN hi hx r (fun s' I' => ⟨_, H, I', h⟩) hf)
def gNil : TGs := fun vs σ H Q => vs = [] ∧ Q σ H
def gCons (t : TG) (u : TGs) : TGs := fun vs σ H Q => ∃ v r, vs = v :: r ∧ t v σ H fun σ' H' => u r σ' H' Q
theorem pgs_nil : PGs X [] gNil := by
  intro pins s σ H vs us Q I r h
  obtain ⟨e, h⟩ := h
  subst e
  cases r
  exact assignInOrder_nil ⟨σ, H, I, h⟩
theorem pgs_cons {e : Expr} {es : List Expr} {t : TG} {u : TGs} (h1 : PG X e t) (h2 : PGs X es u)
    (hs : (assignEach (e :: es) X.env).map (·.2) = assign e X.env :: (assignEach es X.env).map (·.2) := by rfl) : PGs X (e :: es) (gCons t u) := by
  intro pins s σ H vs us Q I r h
  obtain ⟨v, vr, e1, h⟩ := h
  subst e1
  cases r with
  | cons r rr =>
    rw [hs]
    refine assignInOrder_cons (thn (h1 pins s σ H _ _ _ I r h) fun _ s1 ⟨σ1, H1, I1, q1⟩ => ?_)
    exact h2 pins s1 σ1 H1 _ _ Q I1 rr q1
def gTup (K : PySem.W.Frag) (n : Nat) (t : TGs) : TG := fun v σ H Q => ∃ a xs, v = .ref a ∧ SqT K H a xs ∧ xs.length = n ∧ t xs σ H Q
theorem pg_tup {es : List Expr} {k : Nat} {t : TGs} {n : Nat} (hc : X.calm = true) (h : PGs X es t)
    (hn : (assignEach es X.env).length = n := by rfl) (hst : (assignEach es X.env).findIdx? (·.1) = none := by rfl) : PG X (.Tuple es k pos) (gTup X.K n t) := by
  intro pins s σ H v u Q I r hw
  obtain ⟨a, xs, e1, hq, hl, hw⟩ := hw
  subst e1
  cases r
  obtain ⟨its, rv, ht, hz⟩ := I.tuple hq
  refine assign_Tuple_tuple (I.ok.hd hc) ht (by simp [hn, ← hl, rv.length]) hst fun h' hx => ?_
  have I1 : Inv X pins σ H { s with heap := h' } := I.kept (t' := s.toks) fun b o e => hx b o (Nat.ne_of_lt (Heap.lt_size e)) e
  exact h pins _ σ H xs _ Q I1 (by simpa using rv) hw
def tAsg (te : TE) (g : TG) : TS := fun D σ H => te σ H fun x H1 => g x σ H1 D.nx
theorem ps_asg {tg e : Expr} {te : TE} {g : TG} (he : PE X e te) (hg : PG X tg g) (hs : swapsWithSole [tg] e pos.line X.env = pure false := by rfl) (hw : swappedStores [tg] e X.env = pure none := by rfl)
    (h1 : (assignEach [tg] X.env).map (·.2) = [assign tg X.env] := by rfl) : PS X (.Assign [tg] e pos) (tAsg te g) := by
  intro pins s σ H D I h
  refine wpAny_Assign_stores (thn (he pins s σ H _ I h) fun v s1 ⟨x, H1, I1, r1, q1⟩ => ?_) hs hw
  rw [h1]
  exact thn (hg pins s1 σ H1 x v _ I1 r1 q1) fun _ s2 q => q
theorem ps_set {i : Nat} {x : Str} {e : Expr} {te : TE} {pos' : Pos} (hN : X.N.Nodup) (hi : X.N[i]? = some x) (hx : Loc X.env.scope x) (he : PE X e te) (hs : swapsWith e (some (.Name x pos')) pos.line X.env = pure false := by rfl) (hf : X.fn x = true ∨ X.env.scope.names.lookup x = some .local := by first | exact .inl rfl | exact .inr rfl | assumption) :
    PS X (.Assign [.Name x pos'] e pos) (tAsg te (gName i)) := by
  intro pins s σ H D I h
  refine wpAny_Assign_Name (thn (he pins s σ H _ I h) fun v s1 ⟨y, H1, I1, r1, q1⟩ => ?_) hs
  exact store_ok I1 hN hi hx r1 (fun s2 I2 => ⟨_, H1, I2, q1⟩) hf
def tPar (i j : Nat) (ta : TA) : TS := fun D σ H => ta σ H fun vs H1 => ∃ v w, vs = [v, w] ∧ D.nx ((σ.set i (some v)).set j (some w)) H1
theorem ps_par {i j : Nat} {x y : Str} {a b : Expr} {ta : TA} {px py pt : Pos} {kt k2 pt2} (hc : X.calm = true) (hN : X.N.Nodup) (hi : X.N[i]? = some x) (hj : X.N[j]? = some y) (hij : i ≠ j)
    (hx : X.env.scope.names.lookup x = some .local) (hy : X.env.scope.names.lookup y = some .local) (ha : PA X [a, b] ta)
    (hw : swappedStores [.Tuple [.Name x px, .Name y py] kt pt] (.Tuple [a, b] k2 pt2) X.env = pure (some [x, y]))
    (hs : swapsWithSole [.Tuple [.Name x px, .Name y py] kt pt] (.Tuple [a, b] k2 pt2) pos.line X.env = pure false := by rfl) :
    PS X (.Assign [.Tuple [.Name x px, .Name y py] kt pt] (.Tuple [a, b] k2 pt2) pos) (tPar i j ta) := by
  intro pins s σ H D I h
  rw [exec_Assign_arm]
  refine wpAny_bind (wpAny_standAt ?_)
  rw [hs]
  refine wpAny_bind (wpAny_pure ?_)
  rw [if_neg (by decide)]
  refine wpAny_bind (Tuple_ (thn (ha _ pins s σ H _ I h) fun us s1 ⟨vs, H1, I1, r1, q1⟩ => ?_))
  obtain ⟨v, w, e1, q1⟩ := q1
  subst e1
  obtain ⟨u1, u2, rfl, rv, rw'⟩ : ∃ u1 u2, us = [u1, u2] ∧ RelV v u1 ∧ RelV w u2 := by
    cases r1 with
    | cons p q =>
      cases q with
      | cons p' q' =>
        cases q'
        exact ⟨_, _, rfl, p, p'⟩
  refine wpAny_newObj_type ?_ (by show 2 ≤ sizeLine; decide)
  have I2 : Inv X pins σ H1 { s1 with heap := s1.heap.push { cls := .type "tuple", data := .seq [u1, u2].toArray } } := I1.kept (t' := s1.toks) fun b o e => Heap.get?_push_of_some _ e
  rw [hw]
  refine wpAny_bind (wpAny_pure ?_)
  show wpAny (model X.prog X.w) X.A (do rule "assign.swapped-stores"; let items ← unpackItems (.ref s1.heap.objs.size) 2 none; assignInOrder [fun v => bindName X.env y v, fun v => bindName X.env x v] items.reverse; pure Flow.next) _ _ _
  refine wpAny_bind (wpAny_rule (wpAny_bind (unpackItems_tuple (items := #[u1, u2]) (I.ok.hd hc) (IsTup.new s1.heap _) fun h' hx' => ?_)))
  have I3 := I2.kept (h' := h') (t' := s1.toks) fun b o e => hx' b o (Nat.ne_of_lt (Heap.lt_size e)) e
  show wpAny _ _ (assignInOrder [fun v => bindName X.env y v, fun v => bindName X.env x v] [u2, u1] >>= fun _ => pure Flow.next) _ _ _
  refine wpAny_bind (assignInOrder_cons (wpAny_bindName (store_ok I3 hN hj (.inl hy) rw' (fun s2 I4 => ?_) (.inr hy))))
  refine assignInOrder_cons (wpAny_bindName (store_ok I4 hN hi (.inl hx) rv (fun s3 I5 => assignInOrder_nil (wpAny_pure ?_)) (.inr hx)))
  rw [List.set_comm _ _ (Ne.symm hij)] at I5
  exact ⟨_, H1, I5, q1⟩
end
section
variable {X : Cx} {pos : Pos}
def tWhile (c : TT) (tb : TS) : TS := fun D σ H => ∃ W : Nat → St → Hp → Prop, (∃ m, W m σ H) ∧ ∀ m σ H, W m σ H →
  c σ H fun b H1 => if b = true then ∃ N : St → Hp → Prop, (∀ σ' H', N σ' H' → ∃ m', m' < m ∧ W m' σ' H') ∧ tb { D with nx := N, ct := N, bk := D.nx } σ H1 else D.nx σ H1
theorem ps_while {c : Expr} {body : List Stmt} {tc : TT} {tb : TS} (hp : PassesOwn (model X.prog X.w) X.A X.env X.xe) (hc : PT X c tc) (hb : PSs X body tb) : PS X (.While c body [] pos) (tWhile tc tb) := by
  intro pins s σ H D I h
  obtain ⟨W, ⟨m0, w0⟩, turn⟩ := h
  refine wpAny_While (codeAny_whileLoop (fun n s' => ∃ σ' H', Inv X pins σ' H' s' ∧ W n σ' H') ?_ m0 ⟨σ, H, I, w0⟩)
  rintro n s1 ⟨σ1, H1, I1, w1⟩
  refine wpAny_passesOwn hp (thn (hc pins s1 σ1 H1 _ I1 (turn n σ1 H1 w1)) fun b s2 ⟨H2, I2, q2⟩ => ?_)
  cases b with
  | true =>
    obtain ⟨N, hN, q2⟩ := q2
    rw [if_pos rfl]
    refine wpAny_passesOwn hp (thn (hb pins s2 σ1 H2 _ I2 q2) fun f s3 q3 => ?_)
    cases f with
    | next =>
      obtain ⟨σ3, H3, I3, n3⟩ := q3
      obtain ⟨m', hm, w3⟩ := hN σ3 H3 n3
      exact ⟨m', hm, σ3, H3, I3, w3⟩
    | cont =>
      obtain ⟨σ3, H3, I3, n3⟩ := q3
      obtain ⟨m', hm, w3⟩ := hN σ3 H3 n3
      exact ⟨m', hm, σ3, H3, I3, w3⟩
    | brk => exact q3
    | ret v => exact q3
  | false =>
    rw [if_neg Bool.false_ne_true]
    exact wpAny_execs_nil ⟨σ1, H2, I2, q2⟩
end
structure It where
  go : Nat → Hp → Prop
  yld : Nat → Hp → V → Hp → Prop
  stop : Nat → Hp → Prop
def FpOk (X : Cx) (pins : List (Addr × Obj)) (H : Hp) (b : Addr) : Prop :=
  H b = none ∧ b ≠ X.env.locals ∧ b ∉ X.fs ∧ (b ∈ X.ex ∨ X.s₀.heap.objs.size ≤ b) ∧ (∀ x c, X.env.cells.lookup x = some c → c ≠ b) ∧ ∀ p ∈ X.pn ++ pins, p.1 ≠ b
theorem Inv.fpOk {X : Cx} {pins : List (Addr × Obj)} {σ : St} {H H' : Hp} {s : Shared} {b : Addr} (I : Inv X pins σ H s) (hb : s.heap.objs.size ≤ b) (hn : H' b = none) : FpOk X pins H' b := by
  refine ⟨hn, Nat.ne_of_gt (Nat.lt_of_lt_of_le I.lt hb), I.nofs hb, .inr (Nat.le_trans I.sz hb), fun x c e z => ?_, fun p hp z => ?_⟩
  · obtain ⟨v, q⟩ := I.cell x c e
    exact absurd (Nat.lt_of_lt_of_le q.lt (by rw [z]; exact hb)) (Nat.lt_irrefl _)
  · exact absurd (Nat.lt_of_lt_of_le (Heap.lt_size (I.pin p hp).1) (by rw [z]; exact hb)) (Nat.lt_irrefl _)
structure Turn (P : Program) (w : World) (K : PySem.W.Frag) (tg : Expr) (J : It) (fp : List Addr) (it : Addr) (tn : Nat → Heap → Prop) : Prop where
  mem : it ∈ fp
  obj : ∀ i h, tn i h → ∀ b ∈ fp, ∃ o, h.get? b = some o ∧ ∀ v, o.data ≠ .cell v
  keep : ∀ i h h', tn i h → (∀ b ∈ fp, ∀ o, h.get? b = some o → h'.get? b = some o) → tn i h'
  item : ∀ (X : Cx), X.prog = P → X.w = w → X.K = K → X.calm = true → ∀ (i : Nat) (pins : List (Addr × Obj)) (s : Shared) (σ : St) (H : Hp) (E : Value → Shared → Prop), Inv X pins σ H s → (∀ b ∈ fp, FpOk X pins H b) → tn i s.heap → J.go i H →
    wpAny (model P w) X.A (pyNext (.ref it)) (fun r s1 => ∃ u, r = some u ∧
      wpAny (model P w) X.A (letOwnedTupleGo tg (.ref it) u) (fun _ s2 => ∃ x H', Inv X pins σ H' s2 ∧ RelV x u ∧ J.yld i H x H' ∧ tn (i + 1) s2.heap ∧ ∀ b ∈ fp, H' b = none) E s1) E s
  done : ∀ (X : Cx), X.prog = P → X.w = w → X.K = K → X.calm = true → ∀ (i : Nat) (pins : List (Addr × Obj)) (s : Shared) (σ : St) (H : Hp) (E : Value → Shared → Prop), Inv X pins σ H s → (∀ b ∈ fp, FpOk X pins H b) → tn i s.heap → J.stop i H →
    wpAny (model P w) X.A (pyNext (.ref it)) (fun r s1 => r = none ∧ Inv X pins σ H s1) E s
  self : ∀ (A : Around) (i : Nat) (s : Shared) (Q : Value → Shared → Prop) (E : Value → Shared → Prop), tn i s.heap → Q (.ref it) s → wpAny (model P w) A (pyIter (.ref it)) Q E s
abbrev TI := St → Hp → (It → Hp → Prop) → Prop
def PIE (X : Cx) (pins : List (Addr × Obj)) (σ : St) (tg : Expr) (R : It → Hp → Prop) (itv : Value) (s2 : Shared) : Prop :=
  ∃ (it : Addr) (fp : List Addr) (tn : Nat → Heap → Prop) (J : It) (H' : Hp), itv = .ref it ∧ Inv X pins σ H' s2 ∧ Turn X.prog X.w X.K tg J fp it tn ∧ tn 0 s2.heap ∧ (∀ b ∈ fp, FpOk X pins H' b) ∧ R J H'
def PI (X : Cx) (tg iter : Expr) (wi : TI) : Prop :=
  ∀ (pins : List (Addr × Obj)) (s : Shared) (σ : St) (H : Hp) (R : It → Hp → Prop), Inv X pins σ H s → wi σ H R →
    wpAny (model X.prog X.w) X.A (eval iter X.env) (fun v s1 => wpAny (model X.prog X.w) X.A (pyIter v) (PIE X pins σ tg R) X.xe s1) X.xe s
theorem go_of {M : Model} {A : Around} {E : Value → Shared → Prop} {s : Shared} {tg : Expr} {it : Addr} {u : Value} {o : Obj} {n : String} {vs : Array Value} {Q : Unit → Shared → Prop} (ho : s.heap.get? it = some o) (hc : o.cls = .type n) (hd : o.data = .fields vs)
    (hn : ["enumerate", "zip", "dict_itemiterator", "dict_reverseitemiterator", "odict_iterator", "itertools.zip_longest", "itertools.pairwise"].contains n = false) (hQ : Q () s) : wpAny M A (letOwnedTupleGo tg (.ref it) u) Q E s := by
  unfold letOwnedTupleGo
  cases tg <;> first
    | exact wpAny_pure hQ
    | (cases u <;> first
        | exact wpAny_pure hQ
        | (refine wpAny_bind (wpAny_load ho ?_)
           rw [hc, hd]
           show wpAny M A (if (["enumerate", "zip", "dict_itemiterator", "dict_reverseitemiterator", "odict_iterator", "itertools.zip_longest", "itertools.pairwise"].contains n && vs[0]? == some (rawInt _)) = true then _ else _) Q E s
           rw [if_neg (by intro h; rw [hn, Bool.false_and] at h; cases h)]
           exact wpAny_pure hQ))
def Itl (K : PySem.W.Frag) (a : Addr) : It :=
  ⟨fun i H => ∃ xs x, SqL K H a xs ∧ xs[i]? = some x, fun i H x H' => H' = H ∧ ∀ xs, SqL K H a xs → xs[i]? = some x, fun i H => ∃ xs, SqL K H a xs ∧ xs.length ≤ i⟩
def Itt (K : PySem.W.Frag) (a : Addr) : It :=
  ⟨fun i H => ∃ xs x, SqT K H a xs ∧ xs[i]? = some x, fun i H x H' => H' = H ∧ ∀ xs, SqT K H a xs → xs[i]? = some x, fun i H => ∃ xs, SqT K H a xs ∧ xs.length ≤ i⟩
def Itr (lo : Int) (n : Nat) : It := ⟨fun i _ => i < n, fun i H x H' => H' = H ∧ x = .int (lo + i), fun i _ => n ≤ i⟩
theorem turn_list {P : Program} {w : World} {K : PySem.W.Frag} {tg : Expr} (a it : Addr) : Turn P w K tg (Itl K a) [it] it (fun i h => h.IsListIter it a i) where
  mem := by simp
  obj := fun i h st b hb => by
    have e : b = it := by simpa using hb
    subst e
    obtain ⟨o, e, c, d⟩ := st
    exact ⟨o, e, fun v z => by rw [d] at z; cases z⟩
  keep := fun i h h' st k => st.at fun o e => k it (by simp) o e
  item := by
    intro X hP hw hK hc i pins s σ H E I hf st hg
    subst hP hw hK
    obtain ⟨xs, x, hq, hx⟩ := hg
    obtain ⟨its, rv, p, hz⟩ := I.list hq
    obtain ⟨u, hu, ru⟩ := rv.get hx
    obtain ⟨f0, f1, f2, f3, f4, f5⟩ := hf it (by simp)
    refine wpAny_pyNext_list_item st p.isList (x := u) (by simpa using hu) fun h' st' sb => ?_
    have I1 : Inv X pins σ H { s with heap := h' } := I.turned (t' := s.toks) (fun b o hb e => (sb.2 b hb).trans e) f0 f1 f3 f4 f5
    obtain ⟨o, e, c, d⟩ := id st'
    exact ⟨u, rfl, go_of (s := { s with heap := h' }) e c d (by decide) ⟨x, H, I1, ru, ⟨rfl, fun ys hy => by rw [I.list_inj hy hq]; exact hx⟩, st', fun b hb => (hf b hb).1⟩⟩
  done := by
    intro X hP hw hK hc i pins s σ H E I hf st hg
    subst hP hw hK
    obtain ⟨xs, hq, hx⟩ := hg
    obtain ⟨its, rv, p, hz⟩ := I.list hq
    obtain ⟨f0, f1, f2, f3, f4, f5⟩ := hf it (by simp)
    have hl := rv.length
    exact wpAny_pyNext_list_end (I.ok.hd hc) st p.isList (by simp; omega) fun h' eb => ⟨rfl, I.turned (t' := s.toks) (fun b o hb e => eb b o hb e) f0 f1 f3 f4 f5⟩
  self := fun _ _ _ _ _ st h => wpAny_pyIter_listiter st h
theorem turn_tuple {P : Program} {w : World} {K : PySem.W.Frag} {tg : Expr} (a it : Addr) : Turn P w K tg (Itt K a) [it] it (fun i h => h.IsTupleIter it a i) where
  mem := by simp
  obj := fun i h st b hb => by
    have e : b = it := by simpa using hb
    subst e
    obtain ⟨o, e, c, d⟩ := st
    exact ⟨o, e, fun v z => by rw [d] at z; cases z⟩
  keep := fun i h h' st k => st.at fun o e => k it (by simp) o e
  item := by
    intro X hP hw hK hc i pins s σ H E I hf st hg
    subst hP hw hK
    obtain ⟨xs, x, hq, hx⟩ := hg
    obtain ⟨its, rv, p, hz⟩ := I.tuple hq
    obtain ⟨u, hu, ru⟩ := rv.get hx
    obtain ⟨f0, f1, f2, f3, f4, f5⟩ := hf it (by simp)
    refine wpAny_pyNext_tuple_item st (show s.heap.IsTuple a its.toArray from p) (x := u) (by simpa using hu) fun h' st' sb => ?_
    have I1 : Inv X pins σ H { s with heap := h' } := I.turned (t' := s.toks) (fun b o hb e => (sb.2 b hb).trans e) f0 f1 f3 f4 f5
    obtain ⟨o, e, c, d⟩ := id st'
    exact ⟨u, rfl, go_of (s := { s with heap := h' }) e c d (by decide) ⟨x, H, I1, ru, ⟨rfl, fun ys hy => by rw [I.tuple_inj hy hq]; exact hx⟩, st', fun b hb => (hf b hb).1⟩⟩
  done := by
    intro X hP hw hK hc i pins s σ H E I hf st hg
    subst hP hw hK
    obtain ⟨xs, hq, hx⟩ := hg
    obtain ⟨its, rv, p, hz⟩ := I.tuple hq
    obtain ⟨f0, f1, f2, f3, f4, f5⟩ := hf it (by simp)
    have hl := rv.length
    exact wpAny_pyNext_tuple_end (I.ok.hd hc) st (show s.heap.IsTuple a its.toArray from p) (by simp; omega) fun h' eb => ⟨rfl, I.turned (t' := s.toks) (fun b o hb e => eb b o hb e) f0 f1 f3 f4 f5⟩
  self := fun _ _ _ _ _ st h => wpAny_pyIter_tupleiter st h
theorem turn_range {P : Program} {w : World} {K : PySem.W.Frag} {tg : Expr} (it : Addr) (lo : Int) (n : Nat) : Turn P w K tg (Itr lo n) [it] it (fun i h => IsRangeIter h it (lo + (i : Nat) * 1) ((n : Int) - (i : Nat)) 1) where
  mem := by simp
  obj := fun i h st b hb => by
    have e : b = it := by simpa using hb
    subst e
    exact ⟨_, st, fun v z => by
      have z' : Data.fields _ = Data.cell v := z
      cases z'⟩
  keep := fun i h h' st k => k it (by simp) _ st
  item := by
    intro X hP hw hK hc i pins s σ H E I hf st hg
    subst hP hw hK
    obtain ⟨f0, f1, f2, f3, f4, f5⟩ := hf it (by simp)
    have W := Walks.range (prog := X.prog) (w := X.w) (I.ok.hd hc) it lo 1 n
    refine W.item i s _ _ hg st fun v h' tk hv st' kk => ?_
    obtain ⟨t, rfl⟩ := hv
    have I1 : Inv X pins σ H { s with heap := h', toks := tk } := I.turned (fun b o hb e => kk b o (by simpa using hb) e) f0 f1 f3 f4 f5
    refine ⟨_, rfl, go_of (s := { s with heap := h', toks := tk }) (n := "range_iterator") st' rfl rfl (by decide) ⟨.int (lo + i), H, I1, ⟨t, ?_⟩, ⟨rfl, rfl⟩, st', fun b hb => (hf b hb).1⟩⟩
    rw [Int.mul_one]
  done := by
    intro X hP hw hK hc i pins s σ H E I hf st hg
    subst hP hw hK
    obtain ⟨f0, f1, f2, f3, f4, f5⟩ := hf it (by simp)
    exact wpAny_pyNext_range_end (I.ok.hd hc) st (by have : n ≤ i := hg; omega) fun h' eb => ⟨rfl, I.turned (t' := s.toks) (fun b o hb e => eb b o hb e) f0 f1 f3 f4 f5⟩
  self := fun _ _ _ _ _ st h => wpAny_pyIter_rangeiter st h
end L2
namespace L2
open PySem PySem.Spec PyProof.Rows
section
variable {X : Cx} {tg : Expr}
def iList (K : PySem.W.Frag) (tl : TE) : TI := fun σ H R => tl σ H fun x H1 => ∃ a, x = .ref a ∧ (∃ xs, SqL K H1 a xs) ∧ R (Itl K a) H1
def iTup (K : PySem.W.Frag) (tl : TE) : TI := fun σ H R => tl σ H fun x H1 => ∃ a, x = .ref a ∧ (∃ xs, SqT K H1 a xs) ∧ R (Itt K a) H1
theorem pi_list {l : Expr} {tl : TE} (hl : PE X l tl) : PI X tg l (iList X.K tl) := by
  intro pins s σ H R I h
  refine thn (hl pins s σ H _ I h) fun v s1 ⟨x, H1, I1, r1, q1⟩ => ?_
  obtain ⟨a, e, ⟨xs, hq⟩, q⟩ := q1
  subst e
  cases r1
  obtain ⟨its, rv, p, hz⟩ := I1.list hq
  refine wpAny_pyIter_list p.isList ?_
  refine ⟨s1.heap.objs.size, [s1.heap.objs.size], _, _, H1, rfl, I1.kept (t' := s1.toks) fun b o e => Heap.get?_push_of_some _ e, turn_list a _, ⟨_, Heap.get?_push_size _ rfl, rfl, rfl⟩, fun b hb => ?_, q⟩
  have e : b = s1.heap.objs.size := by simpa using hb
  subst e
  exact I1.fpOk (Nat.le_refl _) (I1.hok.fresh (Nat.le_refl _))
theorem pi_tup {l : Expr} {tl : TE} (hl : PE X l tl) : PI X tg l (iTup X.K tl) := by
  intro pins s σ H R I h
  refine thn (hl pins s σ H _ I h) fun v s1 ⟨x, H1, I1, r1, q1⟩ => ?_
  obtain ⟨a, e, ⟨xs, hq⟩, q⟩ := q1
  subst e
  cases r1
  obtain ⟨its, rv, p, hz⟩ := I1.tuple hq
  refine wpAny_pyIter_tuple (show s1.heap.IsTuple a its.toArray from p) ?_
  refine ⟨s1.heap.objs.size, [s1.heap.objs.size], _, _, H1, rfl, I1.kept (t' := s1.toks) fun b o e => Heap.get?_push_of_some _ e, turn_tuple a _, ⟨_, Heap.get?_push_size _ rfl, rfl, rfl⟩, fun b hb => ?_, q⟩
  have e : b = s1.heap.objs.size := by simpa using hb
  subst e
  exact I1.fpOk (Nat.le_refl _) (I1.hok.fresh (Nat.le_refl _))
theorem range_it {pins : List (Addr × Obj)} {σ : St} {H : Hp} {s : Shared} {R : It → Hp → Prop} {E : Value → Shared → Prop} {lo hi : Int} {t u v : Tok} {tk : Nat} (I : Inv X pins σ H s) (h1 : -(2 ^ 62) ≤ lo) (h2 : lo < 2 ^ 62) (h3 : -(2 ^ 62) ≤ hi) (h4 : hi < 2 ^ 62)
    (q : R (Itr lo (hi - lo).toNat) H) : wpAny (model X.prog X.w) X.A (pyIter (.ref s.heap.objs.size)) (PIE X pins σ tg R) E { s with heap := s.heap.push { cls := .type "range", data := .fields #[.int lo t, .int hi u, .int 1 v] }, toks := tk } := by
  refine wpAny_pyIter_range (IsRange.new ..) (small_one h1 h2 h3 h4) ?_
  have I1 : Inv X pins σ H { s with heap := s.heap.push { cls := .type "range", data := .fields #[.int lo t, .int hi u, .int 1 v] }, toks := tk } := I.kept fun b o e => Heap.get?_push_of_some _ e
  refine ⟨(s.heap.push { cls := .type "range", data := .fields #[.int lo t, .int hi u, .int 1 v] }).objs.size, [(s.heap.push { cls := .type "range", data := .fields #[.int lo t, .int hi u, .int 1 v] }).objs.size], _, _, H, rfl,
    I1.kept (t' := tk) fun b o e => Heap.get?_push_of_some _ e, turn_range _ lo (hi - lo).toNat, ?_, fun b hb => ?_, q⟩
  · have e1 : lo + ((0 : Nat) : Int) * 1 = lo := by simp
    have e2 : (((hi - lo).toNat : Nat) : Int) - ((0 : Nat) : Int) = Builtin.Range.rangeSize lo hi 1 := by rw [rangeSize_one]; split <;> omega
    show IsRangeIter _ _ (lo + ((0 : Nat) : Int) * 1) ((((hi - lo).toNat : Nat) : Int) - ((0 : Nat) : Int)) 1
    rw [e1, e2]
    exact Heap.get?_push_size _ rfl
  · have e : b = (s.heap.push { cls := .type "range", data := .fields #[.int lo t, .int hi u, .int 1 v] }).objs.size := by simpa using hb
    subst e
    exact I1.fpOk (Nat.le_refl _) (I1.hok.fresh (Nat.le_refl _))
def iRng1 (ta : TA) : TI := fun σ H R => ta σ H fun vs H1 => ∃ j : Int, vs = [.int j] ∧ -(2 ^ 62) ≤ j ∧ j < 2 ^ 62 ∧ R (Itr 0 j.toNat) H1
theorem pi_range1 {a : Expr} {ta : TA} {p pos : Pos} (hg : Gl X "range") (hm : X.mg "range" = none) (ha : PA X [a] ta) (hs : starEach [a] X.env = [(false, eval a X.env)] := by rfl) : PI X tg (.Call (.Name "range" p) [a] [] pos) (iRng1 ta) := by
  intro pins s σ H R I h
  refine Call_ (ld_blt I hg hm boot_range (PyProof.Rows.callWith_type1 (thn (ha pos pins s σ H _ I h) fun us s1 ⟨vs, H1, I1, r1, q1⟩ => ?_) hs rfl))
  obtain ⟨j, e, q1, q2, q⟩ := q1
  subst e
  cases r1 with
  | cons r rr =>
    cases rr
    obtain ⟨t, rfl⟩ := r
    exact call_range_1 (range_it I1 (by omega) (by omega) q1 q2 (by simpa using q))
def tFor (wi : TI) (g : TG) (tb : TS) : TS := fun D σ H => wi σ H fun J H1 => ∃ W : Nat → Nat → St → Hp → Prop, (∃ m, W 0 m σ H1) ∧ ∀ i m σ H, W i m σ H →
  (J.stop i H ∧ D.nx σ H) ∨ (J.go i H ∧ ∃ N : St → Hp → Prop, (∀ σ' H', N σ' H' → ∃ m', m' < m ∧ W (i + 1) m' σ' H') ∧ ∀ x H', J.yld i H x H' → g x σ H' fun σ2 H2 => tb { D with nx := N, ct := N, bk := D.nx } σ2 H2)
def pinsAt (fp : List Addr) (h : Heap) : List (Addr × Obj) := fp.filterMap fun b => (h.get? b).map fun o => (b, o)
theorem mem_pinsAt {fp : List Addr} {h : Heap} {b : Addr} {o : Obj} (hb : b ∈ fp) (e : h.get? b = some o) : (b, o) ∈ pinsAt fp h := List.mem_filterMap.mpr ⟨b, hb, by rw [e]; rfl⟩
theorem of_pinsAt {fp : List Addr} {h : Heap} {p : Addr × Obj} (hp : p ∈ pinsAt fp h) : p.1 ∈ fp ∧ h.get? p.1 = some p.2 := by
  obtain ⟨b, hb, e⟩ := List.mem_filterMap.mp hp
  cases q : h.get? b with
  | none => rw [q] at e; cases e
  | some o =>
    rw [q] at e
    have e' : (b, o) = p := Option.some.inj e
    subst e'
    exact ⟨hb, q⟩
theorem Inv.pinned {pins : List (Addr × Obj)} {σ : St} {H : Hp} {s : Shared} {fp : List Addr} (I : Inv X pins σ H s) (hf : ∀ b ∈ fp, FpOk X pins H b) (ho : ∀ b ∈ fp, ∃ o, s.heap.get? b = some o ∧ ∀ v, o.data ≠ .cell v) : Inv X (pins ++ pinsAt fp s.heap) σ H s :=
  I.pins_of fun p hp => (List.mem_append.mp hp).elim (fun z => I.pin p (List.mem_append_right _ z)) fun z => by
    obtain ⟨hb, e⟩ := of_pinsAt z
    obtain ⟨f0, f1, f2, _⟩ := hf p.1 hb
    obtain ⟨o, e', d⟩ := ho p.1 hb
    rw [e] at e'; cases e'
    exact ⟨e, f0, f1, f2, d⟩
theorem Inv.unpinned {pins pl : List (Addr × Obj)} {σ : St} {H : Hp} {s : Shared} (I : Inv X (pins ++ pl) σ H s) : Inv X pins σ H s := I.pins_of fun p hp => I.pin p (List.mem_append_right _ (List.mem_append_left _ hp))
theorem ps_for {iter : Expr} {body : List Stmt} {wi : TI} {g : TG} {tb : TS} {pos : Pos} (hp : PassesOwn (model X.prog X.w) X.A X.env X.xe) (hc : X.calm = true) (hi : PI X tg iter wi) (hg : PG X tg g) (hb : PSs X body tb)
    (hs : ∀ x, foldedSetIterable iter X.env x = pure x := by intro _; rfl) : PS X (.For tg iter body [] pos) (tFor wi g tb) := by
  intro pins s σ H D I h
  refine wpAny_For (thn (hi pins s σ H _ I h) fun v s1 h1 => thn h1 fun itv s2 h2 => ?_) hs
  obtain ⟨it, fp, tn, J, H2, e, I2, T, st2, f2, W, ⟨m0, w0⟩, turn⟩ := h2
  subst e
  -- what stays true of the iterator's objects through the loop
  have stat : ∀ {H' : Hp}, (∀ b ∈ fp, H' b = none) → ∀ b ∈ fp, FpOk X pins H' b := fun hn b hb => ⟨hn b hb, (f2 b hb).2⟩
  refine codeAny_forLoop_any (fun n s' => ∃ i σ' H', Inv X pins σ' H' s' ∧ tn i s'.heap ∧ (∀ b ∈ fp, H' b = none) ∧ W i n σ' H') ?_ m0 ⟨0, σ, H2, I2, st2, fun b hb => (f2 b hb).1, w0⟩
  rintro n s3 ⟨i, σ3, H3, I3, st3, fr3, w3⟩
  rcases turn i n σ3 H3 w3 with ⟨stop, qn⟩ | ⟨go, N, hN, step⟩
  · refine wpAny_passesOwn hp (thn (T.done X rfl rfl rfl hc i pins s3 σ3 H3 X.xe I3 (stat fr3) st3 stop) fun r s4 ⟨hr, I4⟩ => ?_)
    subst hr
    exact wpAny_execs_nil ⟨σ3, H3, I4, qn⟩
  · refine wpAny_passesOwn hp (thn (T.item X rfl rfl rfl hc i pins s3 σ3 H3 X.xe I3 (stat fr3) st3 go) fun r s4 ⟨u, hr, h4⟩ => ?_)
    subst hr
    refine wpAny_passesOwn hp (thn h4 fun _ s5 ⟨x, H5, I5, r5, y5, st5, fr5⟩ => ?_)
    have I5' := I5.pinned (stat fr5) (T.obj _ _ st5)
    refine wpAny_passesOwn hp (thn (hg _ s5 σ3 H5 x u _ I5' r5 (step x H5 y5)) fun _ s6 ⟨σ6, H6, I6, q6⟩ => ?_)
    refine wpAny_passesOwn hp (thn (hb _ s6 σ6 H6 _ I6 q6) fun f s7 q7 => ?_)
    have again : ∀ {σ7 : St} {H7 : Hp}, Inv X (pins ++ pinsAt fp s5.heap) σ7 H7 s7 → N σ7 H7 → ∃ m, m < n ∧ ∃ i σ' H', Inv X pins σ' H' s7 ∧ tn i s7.heap ∧ (∀ b ∈ fp, H' b = none) ∧ W i m σ' H' := fun {σ7 H7} I7 n7 => by
      obtain ⟨m', hm, w7⟩ := hN σ7 H7 n7
      refine ⟨m', hm, i + 1, σ7, H7, I7.unpinned, T.keep _ _ _ st5 fun b hb o e => (I7.pin (b, o) (List.mem_append_right _ (List.mem_append_right _ (mem_pinsAt hb e)))).1, fun b hb => ?_, w7⟩
      obtain ⟨o, e, d⟩ := T.obj _ _ st5 b hb
      exact (I7.pin (b, o) (List.mem_append_right _ (List.mem_append_right _ (mem_pinsAt hb e)))).2.1
    cases f with
    | next => obtain ⟨σ7, H7, I7, n7⟩ := q7; exact again I7 n7
    | cont => obtain ⟨σ7, H7, I7, n7⟩ := q7; exact again I7 n7
    | brk => obtain ⟨σ7, H7, I7, q7⟩ := q7; exact ⟨σ7, H7, I7.unpinned, q7⟩
    | ret v => obtain ⟨x7, σ7, H7, I7, r7, q7⟩ := q7; exact ⟨x7, σ7, H7, I7.unpinned, r7, q7⟩
end
end L2
namespace L2
open PySem PySem.Spec PyProof.Rows
abbrev R2 := V → V → Hp → VK → Prop
def OpR (X : Cx) (f : Value → Value → Sem Value) (r : R2) : Prop :=
  ∀ (pins : List (Addr × Obj)) (s : Shared) (σ : St) (H : Hp) (x y : V) (v u : Value) (Q : VK), Inv X pins σ H s → RelV x v → RelV y u → r x y H Q →
    wpAny (model X.prog X.w) X.A (f v u) (EP X pins σ Q) X.xe s
def UnR (X : Cx) (f : Value → Sem Value) (r : V → Hp → VK → Prop) : Prop :=
  ∀ (pins : List (Addr × Obj)) (s : Shared) (σ : St) (H : Hp) (x : V) (v : Value) (Q : VK), Inv X pins σ H s → RelV x v → r x H Q →
    wpAny (model X.prog X.w) X.A (f v) (EP X pins σ Q) X.xe s
def CallR (X : Cx) (f : Value) (r : List V → Hp → VK → Prop) : Prop :=
  ∀ (pins : List (Addr × Obj)) (s : Shared) (σ : St) (H : Hp) (xs : List V) (us : List Value) (Q : VK), Inv X pins σ H s → Vals xs us → r xs H Q →
    wpAny (model X.prog X.w) X.A (call f us) (EP X pins σ Q) X.xe s
def TruR (X : Cx) (r : V → Hp → (Bool → Hp → Prop) → Prop) : Prop :=
  ∀ (pins : List (Addr × Obj)) (s : Shared) (σ : St) (H : Hp) (x : V) (v : Value) (Q : Bool → Hp → Prop), Inv X pins σ H s → RelV x v → r x H Q →
    wpAny (model X.prog X.w) X.A (truthy v) (TP X pins σ Q) X.xe s
def tOp (r : R2) (ta tb : TE) : TE := fun σ H Q => ta σ H fun x H1 => tb σ H1 fun y H2 => r x y H2 Q
def tUn (r : V → Hp → VK → Prop) (ta : TE) : TE := fun σ H Q => ta σ H fun x H1 => r x H1 Q
def rI (C : Int → Int → Prop) (g : Int → Int → V) : R2 := fun x y H Q => ∃ i j, x = .int i ∧ y = .int j ∧ C i j ∧ Q (g i j) H
def rI0 (g : Int → Int → V) : R2 := fun x y H Q => ∃ i j, x = .int i ∧ y = .int j ∧ Q (g i j) H
def rU (g : Int → V) : V → Hp → VK → Prop := fun x H Q => ∃ i, x = .int i ∧ Q (g i) H
section
variable {X : Cx} {a b c : Expr} {ta tb tc : TE} {pos : Pos}
theorem binT (ha : PE X a ta) (hb : PE X b tb) {pins : List (Addr × Obj)} {s : Shared} {σ : St} {H : Hp} {R : V → V → Hp → Prop} (I : Inv X pins σ H s)
    (h : ta σ H fun x H1 => tb σ H1 fun y H2 => R x y H2) {Q : Value → Shared → Prop} {f : Value → Value → Sem Value}
    (hf : ∀ v u s2 x y H2, Inv X pins σ H2 s2 → RelV x v → RelV y u → R x y H2 → wpAny (model X.prog X.w) X.A (f v u) Q X.xe s2) :
    wpAny (model X.prog X.w) X.A (eval a X.env) (fun v s₁ => wpAny (model X.prog X.w) X.A (eval b X.env) (fun u s₂ => wpAny (model X.prog X.w) X.A (f v u) Q X.xe s₂) X.xe s₁) X.xe s := by
  refine thn (ha pins s σ H _ I h) fun v s1 ⟨x, H1, I1, r1, q1⟩ => ?_
  refine thn (hb pins s1 σ H1 _ I1 q1) fun u s2 ⟨y, H2, I2, r2, q2⟩ => ?_
  exact hf v u s2 x y H2 I2 r1 r2 q2
theorem pe_op {op : Operator} {r : R2} (ho : OpR X (binaryOp op) r) (ha : PE X a ta) (hb : PE X b tb) : PE X (.BinOp a op b pos) (tOp r ta tb) := by
  intro pins s σ H Q I h
  exact wpAny_BinOp (binT ha hb I h fun v u s2 x y H2 I2 rx ry q => ho pins s2 σ H2 x y v u Q I2 rx ry q)
theorem pe_un {op : UnaryOp} {r : V → Hp → VK → Prop} (ho : UnR X (unaryOp op) r) (ha : PE X a ta) : PE X (.UnaryOp op a pos) (tUn r ta) := by
  intro pins s σ H Q I h
  exact UnaryOp_ (thn (ha pins s σ H _ I h) fun v s1 ⟨x, H1, I1, r1, q1⟩ => ho pins s1 σ H1 x v Q I1 r1 q1)
theorem opI {f : Value → Value → Sem Value} {C : Int → Int → Prop} {g : Int → Int → Int}
    (rule : ∀ (i j : Int) (t u : Tok) (s : Shared) (Q : Value → Shared → Prop) (E : Value → Shared → Prop), C i j → Q (.int (g i j) s.toks) { s with toks := s.toks + 1 } → wpAny (model X.prog X.w) X.A (f (.int i t) (.int j u)) Q E s) :
    OpR X f (rI C fun i j => .int (g i j)) := by
  intro pins s σ H x y v u Q I rx ry h
  obtain ⟨i, j, rfl, rfl, hc, q⟩ := h
  obtain ⟨t, rfl⟩ := rx
  obtain ⟨t', rfl⟩ := ry
  exact rule i j t t' s _ _ hc ⟨.int (g i j), H, I.tok _, ⟨_, rfl⟩, q⟩
theorem opI0 {f : Value → Value → Sem Value} {g : Int → Int → Int}
    (rule : ∀ (i j : Int) (t u : Tok) (s : Shared) (Q : Value → Shared → Prop) (E : Value → Shared → Prop), Q (.int (g i j) s.toks) { s with toks := s.toks + 1 } → wpAny (model X.prog X.w) X.A (f (.int i t) (.int j u)) Q E s) :
    OpR X f (rI0 fun i j => .int (g i j)) := by
  intro pins s σ H x y v u Q I rx ry h
  obtain ⟨i, j, rfl, rfl, q⟩ := h
  obtain ⟨t, rfl⟩ := rx
  obtain ⟨t', rfl⟩ := ry
  exact rule i j t t' s _ _ ⟨.int (g i j), H, I.tok _, ⟨_, rfl⟩, q⟩
theorem opB0 {f : Value → Value → Sem Value} {g : Int → Int → Bool}
    (rule : ∀ (i j : Int) (t u : Tok) (s : Shared) (Q : Value → Shared → Prop) (E : Value → Shared → Prop), Q (.bool (g i j)) s → wpAny (model X.prog X.w) X.A (f (.int i t) (.int j u)) Q E s) :
    OpR X f (rI0 fun i j => .bl (g i j)) := by
  intro pins s σ H x y v u Q I rx ry h
  obtain ⟨i, j, rfl, rfl, q⟩ := h
  obtain ⟨t, rfl⟩ := rx
  obtain ⟨t', rfl⟩ := ry
  exact rule i j t t' s _ _ ⟨.bl (g i j), H, I, rfl, q⟩
def CDiv (i j : Int) : Prop := 0 < j ∧ j < 1073741824
theorem op_add : OpR X (binaryOp .Add) (rI0 fun i j => .int (i + j)) := opI0 fun _ _ _ _ _ _ _ q => add_int q
theorem op_sub : OpR X (binaryOp .Sub) (rI0 fun i j => .int (i - j)) := opI0 fun _ _ _ _ _ _ _ q => sub_int q
theorem op_fdiv : OpR X (binaryOp .FloorDiv) (rI CDiv fun i j => .int (i / j)) := opI fun i j _ _ _ _ _ hc q => by
  have h1 : (0 : Int) < j := hc.1
  have h2 : j < 1073741824 := hc.2
  exact floordiv_int (by omega) (by rw [Int.fdiv_eq_ediv_of_nonneg i (by omega)]; exact q) (.inl (PyProof.noPylong_small (by omega)))
theorem op_mod : OpR X (binaryOp .Mod) (rI (fun _ j => 0 < j) fun i j => .int (i % j)) := opI fun i j _ _ _ _ _ hc q => by
  have h1 : (0 : Int) < j := hc
  exact mod_int' (by omega) (by rw [Int.fmod_eq_emod_of_nonneg i (by omega)]; exact q)
theorem unI {f : Value → Sem Value} {g : Int → Int}
    (rule : ∀ (i : Int) (t : Tok) (s : Shared) (Q : Value → Shared → Prop) (E : Value → Shared → Prop), Q (.int (g i) s.toks) { s with toks := s.toks + 1 } → wpAny (model X.prog X.w) X.A (f (.int i t)) Q E s) :
    UnR X f (rU fun i => .int (g i)) := by
  intro pins s σ H x v Q I rx h
  obtain ⟨i, rfl, q⟩ := h
  obtain ⟨t, rfl⟩ := rx
  exact rule i t s _ _ ⟨.int (g i), H, I.tok _, ⟨_, rfl⟩, q⟩
theorem un_neg : UnR X (unaryOp .USub) (rU fun i => .int (-i)) := unI fun _ _ _ _ _ q => neg_int q
end
def scal : V → V → Bool
  | .non, .non => true | .non, .int _ => true | .int _, .non => true | .non, .bl _ => true | .bl _, .non => true | .non, .str _ => true | .str _, .non => true
  | .int _, .int _ => true | .bl _, .bl _ => true | .str _, .str _ => true | .byt _, .byt _ => true
  | .int _, .str _ => true | .str _, .int _ => true | .bl _, .str _ => true | .str _, .bl _ => true
  | _, _ => false
def rEq : R2 := fun x y H Q => scal x y = true ∧ Q (.bl (decide (x = y))) H
def rNe : R2 := fun x y H Q => scal x y = true ∧ Q (.bl (!decide (x = y))) H
theorem dec_int {i j : Int} : decide (V.int i = V.int j) = (i == j) := by
  rw [Bool.eq_iff_iff]
  simp
theorem dec_bl {i j : Bool} : decide (V.bl i = V.bl j) = (i == j) := by
  rw [Bool.eq_iff_iff]
  simp
theorem dec_str {i j : Str} : decide (V.str i = V.str j) = (i == j) := by
  rw [Bool.eq_iff_iff]
  simp
theorem dec_byt {i j : Array UInt8} : decide (V.byt i = V.byt j) = (i.toList == j.toList) := by
  rw [Bool.eq_iff_iff]
  cases i
  cases j
  simp
section
variable {X : Cx} {a b c : Expr} {ta tb tc : TE} {pos : Pos}
theorem fin_bl {pins : List (Addr × Obj)} {σ : St} {H : Hp} {s : Shared} {Q : VK} {k k' : Bool} (I : Inv X pins σ H s) (q : Q (.bl k) H) (e : k = k') : EP X pins σ Q (.bool k') s := by
  subst e
  exact ⟨.bl k, H, I, rfl, q⟩
theorem op_eq : OpR X (compareOp .Eq) rEq := by
  intro pins s σ H x y v u Q I rx ry h
  obtain ⟨hs, q⟩ := h
  cases x with
  | non =>
    cases rx
    cases y with
    | non => cases ry; exact PySem.EqNone.eq_none_none (fin_bl I q (by simp))
    | bl j => cases ry; exact PySem.EqNone.eq_none_bool (fin_bl I q (by simp))
    | int j => obtain ⟨t', rfl⟩ := ry; exact PySem.EqNone.eq_none_int (fin_bl I q (by simp))
    | str j => obtain ⟨t', rfl⟩ := ry; exact PySem.EqNone.eq_none_str (fin_bl I q (by simp))
    | _ => exact absurd (show false = true from hs) Bool.false_ne_true
  | bl i =>
    cases rx
    cases y with
    | non => cases ry; exact PySem.EqNone.eq_bool_none (fin_bl I q (by simp))
    | bl j => cases ry; exact eq_bool (fin_bl I q dec_bl)
    | str j => obtain ⟨t', rfl⟩ := ry; exact PySem.EqMixed.eq_bool_str (fin_bl I q (by simp))
    | _ => exact absurd (show false = true from hs) Bool.false_ne_true
  | int i =>
    obtain ⟨t, rfl⟩ := rx
    cases y with
    | non => cases ry; exact PySem.EqNone.eq_int_none (fin_bl I q (by simp))
    | int j => obtain ⟨t', rfl⟩ := ry; exact eq_int (fin_bl I q dec_int)
    | str j => obtain ⟨t', rfl⟩ := ry; exact PySem.EqMixed.eq_int_str (fin_bl I q (by simp))
    | _ => exact absurd (show false = true from hs) Bool.false_ne_true
  | str i =>
    obtain ⟨t, rfl⟩ := rx
    cases y with
    | non => cases ry; exact PySem.EqNone.eq_str_none (fin_bl I q (by simp))
    | bl j => cases ry; exact PySem.EqMixed.eq_str_bool (fin_bl I q (by simp))
    | int j => obtain ⟨t', rfl⟩ := ry; exact PySem.EqMixed.eq_str_int (fin_bl I q (by simp))
    | str j => obtain ⟨t', rfl⟩ := ry; exact eq_str (fin_bl I q dec_str)
    | _ => exact absurd (show false = true from hs) Bool.false_ne_true
  | byt i =>
    obtain ⟨t, rfl⟩ := rx
    cases y with
    | byt j => obtain ⟨t', rfl⟩ := ry; exact PySem.W.eq_bytes (fin_bl I q dec_byt)
    | _ => exact absurd (show false = true from hs) Bool.false_ne_true
  | _ => cases y <;> exact absurd (show false = true from hs) Bool.false_ne_true
theorem op_ne : OpR X (compareOp .NotEq) rNe := by
  intro pins s σ H x y v u Q I rx ry h
  obtain ⟨hs, q⟩ := h
  cases x with
  | non =>
    cases rx
    cases y with
    | non => cases ry; exact PySem.EqNone.ne_none_none (fin_bl I q (by simp))
    | bl j => cases ry; exact PySem.EqNone.ne_none_bool (fin_bl I q (by simp))
    | int j => obtain ⟨t', rfl⟩ := ry; exact PySem.EqNone.ne_none_int (fin_bl I q (by simp))
    | str j => obtain ⟨t', rfl⟩ := ry; exact PySem.EqNone.ne_none_str (fin_bl I q (by simp))
    | _ => exact absurd (show false = true from hs) Bool.false_ne_true
  | bl i =>
    cases rx
    cases y with
    | non => cases ry; exact PySem.EqNone.ne_bool_none (fin_bl I q (by simp))
    | bl j => cases ry; exact ne_bool (fin_bl I q (congrArg not dec_bl))
    | str j => obtain ⟨t', rfl⟩ := ry; exact PySem.EqMixed.ne_bool_str (fin_bl I q (by simp))
    | _ => exact absurd (show false = true from hs) Bool.false_ne_true
  | int i =>
    obtain ⟨t, rfl⟩ := rx
    cases y with
    | non => cases ry; exact PySem.EqNone.ne_int_none (fin_bl I q (by simp))
    | int j => obtain ⟨t', rfl⟩ := ry; exact ne_int (fin_bl I q (congrArg not dec_int))
    | str j => obtain ⟨t', rfl⟩ := ry; exact PySem.EqMixed.ne_int_str (fin_bl I q (by simp))
    | _ => exact absurd (show false = true from hs) Bool.false_ne_true
  | str i =>
    obtain ⟨t, rfl⟩ := rx
    cases y with
    | non => cases ry; exact PySem.EqNone.ne_str_none (fin_bl I q (by simp))
    | bl j => cases ry; exact PySem.EqMixed.ne_str_bool (fin_bl I q (by simp))
    | int j => obtain ⟨t', rfl⟩ := ry; exact PySem.EqMixed.ne_str_int (fin_bl I q (by simp))
    | str j => obtain ⟨t', rfl⟩ := ry; exact ne_str (fin_bl I q (congrArg not dec_str))
    | _ => exact absurd (show false = true from hs) Bool.false_ne_true
  | byt i =>
    obtain ⟨t, rfl⟩ := rx
    cases y with
    | byt j => obtain ⟨t', rfl⟩ := ry; exact PySem.W.ne_bytes (fin_bl I q (congrArg not dec_byt))
    | _ => exact absurd (show false = true from hs) Bool.false_ne_true
  | _ => cases y <;> exact absurd (show false = true from hs) Bool.false_ne_true
theorem op_lt : OpR X (compareOp .Lt) (rI0 fun i j => .bl (decide (i < j))) := opB0 fun _ _ _ _ _ _ _ q => lt_int q
theorem op_le : OpR X (compareOp .LtE) (rI0 fun i j => .bl (decide (i ≤ j))) := opB0 fun _ _ _ _ _ _ _ q => le_int q
theorem op_gt : OpR X (compareOp .Gt) (rI0 fun i j => .bl (decide (j < i))) := opB0 fun _ _ _ _ _ _ _ q => gt_int q
theorem op_isN : OpR X (compareOp .Is) (fun x y H Q => y = .non ∧ Q (.bl (decide (x = .non))) H) := by
  intro pins s σ H x y v u Q I rx ry h
  obtain ⟨rfl, q⟩ := h
  cases ry
  refine is_none_gen (fin_bl I q ?_)
  cases x <;> first
    | (cases rx; rfl)
    | (obtain ⟨t, rfl⟩ := rx; rfl)
theorem OpR.or {f : Value → Value → Sem Value} {r r' : R2} (h : OpR X f r) (h' : OpR X f r') : OpR X f (fun x y H Q => r x y H Q ∨ r' x y H Q) := by
  intro pins s σ H x y v u Q I rx ry q
  rcases q with q | q
  · exact h pins s σ H x y v u Q I rx ry q
  · exact h' pins s σ H x y v u Q I rx ry q
theorem nomark (b : Expr) {op : CmpOp} (h : op ≠ .In := by decide) (h2 : op ≠ .NotIn := by decide) : behindInMarks op b = false := by
  have e1 : (op == CmpOp.In) = false := by cases op <;> first | rfl | exact absurd rfl h
  have e2 : (op == CmpOp.NotIn) = false := by cases op <;> first | rfl | exact absurd rfl h2
  cases b <;> simp [behindInMarks, e1, e2]
theorem pe_cmpR {op : CmpOp} {r : R2} (ho : OpR X (compareOp op) r) (ha : PE X a ta) (hb : PE X b tb) (hm : behindInMarks op b = false) : PE X (.Compare a [op] [b] pos) (tOp r ta tb) := by
  intro pins s σ H Q I h
  exact wpAny_Compare1 (binT ha hb I h fun v u s2 x y H2 I2 rx ry q => ho pins s2 σ H2 x y v u Q I2 rx ry q) hm
def tTest (t : TE) : TT := fun σ H Q => t σ H fun x H' => ∃ k, x = .bl k ∧ Q k H'
theorem pt_cmpR {op : CmpOp} {r : R2} (ho : OpR X (compareOp op) r) (ha : PE X a ta) (hb : PE X b tb) (hm : behindInMarks op b = false) : PT X (.Compare a [op] [b] pos) (tTest (tOp r ta tb)) := by
  intro pins s σ H Q I h
  refine wpAny_isTrue_Compare1 (thn (ha pins s σ H _ I h) fun v s1 ⟨x, H1, I1, r1, q1⟩ => thn (hb pins s1 σ H1 _ I1 q1) fun u s2 ⟨y, H2, I2, r2, q2⟩ =>
    thn (ho pins s2 σ H2 x y v u _ I2 r1 r2 q2) fun c s3 ⟨z, H3, I3, r3, k, e, q3⟩ => ?_) hm
  subst e
  cases r3
  exact wpAny_truthy_bool ⟨H3, I3, q3⟩
def tChain (r r' : R2) (ta tb tc : TE) : TE := fun σ H Q => ta σ H fun x H1 => tb σ H1 fun y H2 => r x y H2 fun z H3 => ∃ k, z = .bl k ∧
  (if k = true then tc σ H3 fun w' H4 => r' y w' H4 Q else Q (.bl false) H3)
theorem pt_chain {op op' : CmpOp} {r r' : R2} (ho : OpR X (compareOp op) r) (ho' : OpR X (compareOp op') r') (ha : PE X a ta) (hb : PE X b tb) (hc : PE X c tc)
    (hm : lastMarks [op, op'] [b, c] = false := by with_unfolding_all rfl) : PT X (.Compare a [op, op'] [b, c] pos) (tTest (tChain r r' ta tb tc)) := by
  intro pins s σ H Q I h
  refine isTrue_chain (thn (ha pins s σ H _ I h) fun v s1 ⟨x, H1, I1, r1, q1⟩ => test_link (thn (hb pins s1 σ H1 _ I1 q1) fun u s2 ⟨y, H2, I2, r2, q2⟩ =>
    thn (ho pins s2 σ H2 x y v u _ I2 r1 r2 q2) fun d s3 ⟨z, H3, I3, r3, k, e, q3⟩ => ?_)) hm
  subst e
  cases r3
  refine wpAny_truthy_bool ?_
  cases k with
  | false =>
    obtain ⟨k', e', q'⟩ := q3
    cases e'
    exact ite_ff ⟨H3, I3, q'⟩
  | true =>
    refine ite_tt (test_last (thn (hc pins s3 σ H3 _ I3 q3) fun w' s4 ⟨z', H4, I4, r4, q4⟩ => thn (ho' pins s4 σ H4 y z' u w' _ I4 r2 r4 q4) fun d' s5 ⟨z2, H5, I5, r5, k2, e2, q5⟩ => ?_))
    subst e2
    cases r5
    exact wpAny_truthy_bool ⟨H5, I5, q5⟩
def TruV (K : PySem.W.Frag) (x : V) (H : Hp) (k : Bool) : Prop :=
  match x with
  | .non => k = false
  | .bl b => k = b
  | .int i => k = (i != 0)
  | .str y => y.length ≤ sizeLine ∧ k = ((y.length : Int) != 0)
  | .byt y => y.size ≤ sizeLine ∧ k = ((y.size : Int) != 0)
  | .ref p => (∃ xs, SqL K H p xs ∧ k = !xs.isEmpty) ∨ (∃ xs, SqT K H p xs ∧ k = !xs.isEmpty) ∨ ∃ kvs, H p = some (.dK kvs) ∧ k = !kvs.isEmpty
  | _ => False
theorem isEmpty_kv {κ : Type} {kvs : List (κ × V)} {vs : List (κ × Value)} (r : KV kvs vs) : (!vs.isEmpty) = !kvs.isEmpty := by
  cases r <;> rfl
theorem isEmpty_of {xs : List V} {its : List Value} (r : Vals xs its) : (!its.toArray.isEmpty) = !xs.isEmpty := by
  cases r <;> simp
theorem line63 : (sizeLine : Nat) < 2 ^ 63 := by rw [sizeLine_eq]; decide
theorem tru_ok : TruR X (fun x H Q => ∃ k, TruV X.K x H k ∧ Q k H) := by
  intro pins s σ H x v Q I rx h
  obtain ⟨k, e, q⟩ := h
  have hl := line63
  have hs : sizeLine = 16777216 := sizeLine_eq
  cases x with
  | non =>
    cases rx
    have e' : k = false := e
    subst e'
    exact truthy_none ⟨H, I, q⟩
  | bl b =>
    cases rx
    have e' : k = b := e
    subst e'
    exact wpAny_truthy_bool ⟨H, I, q⟩
  | int i =>
    obtain ⟨t, rfl⟩ := rx
    have e' : k = (i != 0) := e
    subst e'
    exact PySem.P.truthy_int ⟨H, I, q⟩
  | str y =>
    obtain ⟨t, rfl⟩ := rx
    obtain ⟨hy, e'⟩ : y.length ≤ sizeLine ∧ k = ((y.length : Int) != 0) := e
    subst e'
    exact PySem.P.truthy_str (by omega) ⟨H, I.tok _, q⟩
  | byt y =>
    obtain ⟨t, rfl⟩ := rx
    obtain ⟨hy, e'⟩ : y.size ≤ sizeLine ∧ k = ((y.size : Int) != 0) := e
    subst e'
    exact PySem.W.truthy_bytes (by omega) ⟨H, I.tok _, q⟩
  | ref p =>
    cases rx
    have e' : (∃ xs, SqL X.K H p xs ∧ k = !xs.isEmpty) ∨ (∃ xs, SqT X.K H p xs ∧ k = !xs.isEmpty) ∨ ∃ kvs, H p = some (.dK kvs) ∧ k = !kvs.isEmpty := e
    rcases e' with ⟨xs, hx, e'⟩ | ⟨xs, hx, e'⟩ | ⟨kvs, hx, e'⟩
    · subst e'
      obtain ⟨its, r, pl, hz⟩ := I.list hx
      have hlen := r.length
      exact wpAny_truthy_list pl.isList (by simp only [List.size_toArray]; omega) ⟨H, I.tok _, by rw [isEmpty_of r]; exact q⟩
    · subst e'
      obtain ⟨its, r, pl, hz⟩ := I.tuple hx
      have hlen := r.length
      exact truthy_tuple pl (by simp only [List.size_toArray]; omega) ⟨H, I.tok _, by rw [isEmpty_of r]; exact q⟩
    · subst e'
      obtain ⟨hz, hS, vs, r, m⟩ : kvs.length ≤ sizeLine ∧ (p == sysModules) = false ∧ ∃ vs, KV kvs vs ∧ s.heap.DictOf (mixKind X.prog X.w) p vs := I.hok p _ hx
      have hlen : kvs.length = vs.length := Paired.length r
      exact wpAny_truthy_dict hS m (by omega) ⟨H, I.tok _, by rw [isEmpty_kv r]; exact q⟩
  | _ => exact (show False from e).elim
theorem pt_truth (ha : PE X a ta) (he : ∀ whole, isTrue a X.env whole = (do let v ← whole; standAt a.pos; holding [v] (truthy v))) :
    PT X a (fun σ H Q => ta σ H fun x H' => ∃ k, TruV X.K x H' k ∧ Q k H') := by
  intro pins s σ H Q I h
  exact isTrue_plain (thn (ha pins s σ H _ I h) fun v s1 ⟨x, H1, I1, r1, q1⟩ => tru_ok pins s1 σ H1 x v Q I1 r1 q1) (he _)
theorem op_add_str : OpR X (binaryOp .Add) (fun x y H Q => ∃ i j, x = .str i ∧ y = .str j ∧ i.length + j.length ≤ sizeLine ∧ Q (.str (i ++ j)) H) := by
  intro pins s σ H x y v u Q I rx ry h
  obtain ⟨i, j, rfl, rfl, hz, q⟩ := h
  obtain ⟨t, rfl⟩ := rx
  obtain ⟨t', rfl⟩ := ry
  exact add_str (fun t' tk => ⟨.str (i ++ j), H, I.tok _, ⟨_, rfl⟩, q⟩) hz
theorem vals1 {x : V} {us : List Value} (r : Vals [x] us) : ∃ u, us = [u] ∧ RelV x u := by
  cases r with
  | cons r1 r2 => cases r2; exact ⟨_, rfl, r1⟩
theorem vals2 {x y : V} {us : List Value} (r : Vals [x, y] us) : ∃ u w', us = [u, w'] ∧ RelV x u ∧ RelV y w' := by
  cases r with
  | cons r1 r2 =>
    cases r2 with
    | cons r3 r4 => cases r4; exact ⟨_, _, rfl, r1, r3⟩
theorem call_abs : CallR X (.builtin "abs") (fun xs H Q => ∃ i, xs = [.int i] ∧ Q (.int (if i < 0 then -i else i)) H) := by
  intro pins s σ H xs us Q I r h
  obtain ⟨i, rfl, q⟩ := h
  obtain ⟨u, rfl, t, rfl⟩ := vals1 r
  exact call_abs_int fun u tk => ⟨.int (if i < 0 then -i else i), H, I.tok _, ⟨_, rfl⟩, q⟩
theorem call_max2 (hc : X.calm = true) : CallR X (.builtin "max") (fun xs H Q => ∃ i j, xs = [.int i, .int j] ∧ Q (.int (if j > i then j else i)) H) := by
  intro pins s σ H xs us Q I r h
  obtain ⟨i, j, rfl, q⟩ := h
  obtain ⟨u, w', rfl, ⟨t, rfl⟩, ⟨t', rfl⟩⟩ := vals2 r
  refine max_two_ints (I.ok.hd hc) fun h' tk k => ⟨_, H, I.kept k, ?_, q⟩
  by_cases hj : j > i
  · rw [if_pos hj, if_pos hj]; exact ⟨_, rfl⟩
  · rw [if_neg hj, if_neg hj]; exact ⟨_, rfl⟩
end
end L2
namespace L2
open PySem PySem.Spec PyProof.Rows
structure ObjM (h : Heap) (x dx C : Addr) (mA : Str → Option Value) : Prop where
  obj : h.get? x = some (PySem.W.instObj C dx)
  ns : h.Ns1 dx mA
  ne : dx ≠ x
theorem lookIn_ns {h : Heap} {dx : Addr} {mA : Str → Option Value} (n : h.Ns1 dx mA) : ∃ od, h.get? dx = some od ∧ ∀ name, PySem.W.lookIn name od = some (mA name) := by
  obtain ⟨o, es, ep, ho, hd, hk, _, hm⟩ := n
  refine ⟨o, ho, fun name => ?_⟩
  have e := hm name
  unfold nsFind findBy at e
  rw [← Array.find?_toList] at e
  unfold PySem.W.lookIn
  rw [hd]
  dsimp only
  split
  · rename_i y q
    rw [q] at e
    exact congrArg some e
  · rename_i q
    rw [q] at e
    have a : es.toList.any (·.refKey) = false := by
      rw [List.any_eq_false]
      intro y hy
      obtain ⟨z, t, hkey⟩ := hk y (Array.mem_toList_iff.mp hy)
      simp [DictEntry.refKey, hkey]
    have a' : ¬ es.toList.any (·.refKey) = true := by rw [a]; exact Bool.false_ne_true
    rw [if_neg a']
    exact congrArg some e
theorem ObjM.look {h : Heap} {x dx C : Addr} {mA : Str → Option Value} (I : ObjM h x dx C mA) : ∃ od, PySem.W.InstAt h x (PySem.W.instObj C dx) C (some od) ∧ ∀ name, PySem.W.lookIn name od = some (mA name) :=
  let ⟨od, ho, hl⟩ := lookIn_ns I.ns
  ⟨od, ⟨I.obj, rfl, rfl, ho⟩, hl⟩
section
variable {prog : Program} {w : World} {A : Around} {E : Value → Shared → Prop} {s : Shared} {K : PySem.W.Frag} {x dx C f : Addr} {mA : Str → Option Value} {name : Str} {v : Value}
theorem get_map {expr : Bool} {Q : Value → Shared → Prop} (X : K.In s.heap) (I : ObjM s.heap x dx C mA) (hg : PySem.W.plainGet K C name = true) (hh : PySem.W.hasDictIn K C = true)
    (ha : PySem.W.findIn K (.ref C) name = some none) (hv : mA name = some v) (hv' : PySem.W.handedIn v = true) (h : Q v { s with toks := s.toks + 1 }) :
    wpAny (model prog w) A (getAttr (.ref x) name expr) Q E s := by
  obtain ⟨od, J, hl⟩ := I.look
  exact PySem.W.get_value X J (PySem.W.plainGet_of hg).1 (PySem.W.findObj_own hh ha rfl (by rw [hl, hv])) hv' h
theorem set_map {ns : List Str} {Q : Unit → Shared → Prop} (X : K.In s.heap) (I : ObjM s.heap x dx C mA)
    (hs : PySem.W.findIn K (.ref C) "__setattr__" = some (some (.builtin "object.__setattr__"))) (hp : PySem.W.plainOver K C = true) (ht : PySem.W.takerIn K C name = some none) (hh : PySem.W.hasDictIn K C = true)
    (hw : PySem.Within mA ns) (hsz : ns.length ≤ sizeLine)
    (h : ∀ h', ObjM h' x dx C (fun y => if y = name then some v else mA y) → Heap.SameBut dx s.heap h' → Q () { s with heap := h', toks := s.toks + 2 }) :
    wpAny (model prog w) A (setAttr (.ref x) name v) Q E s := by
  obtain ⟨od, J, hl⟩ := I.look
  refine PySem.W.set_plain X J hs (PySem.W.osa_open (s := { s with toks := s.toks + 1 }) (r := none) X J hp ht fun b => ?_)
  obtain ⟨cd, hc, hd'⟩ := PySem.W.any_some hh
  have hx : s.heap.get? x = some ⟨.ref C, some dx, .plain, #[]⟩ := I.obj
  refine wpAny_bind (wpAny_pure (wpAny_bind (wpAny_bind (wpAny_loadPart hx (wpAny_bind (PySem.W.Looks.here (s := { s with toks := s.toks + 1 }) (PySem.W.looks_clsIn X hc) ?_))))))
  rw [hd']
  refine wpAny_pure (a := some dx) (wpAny_bind (wpAny_pure (wpAny_bind ?_)))
  refine wpAny_nsSet1 (s := { s with toks := s.toks + 1 }) I.ns fun h' hn2 hs2 => ?_
  obtain ⟨oD, esD, epD, hoD, hdD, hcD⟩ := hn2.count (PySem.Within.cons name v hw)
  refine wpAny_bind (wpAny_lookBehind hoD (by rw [hdD]; exact pastItsLine_dict (Nat.le_trans hcD (by rw [List.length_cons]; omega))) ?_)
  exact wpAny_pure (h _ ⟨(hs2.2 _ (Ne.symm I.ne)).trans I.obj, hn2, I.ne⟩ hs2)
theorem make_map {R : Result → Shared → Prop} {vs : List Value} {kw : List (Str × Value)} (X : K.In s.heap) (hm : PySem.W.makesIn K C = true)
    (hi : PySem.W.findIn K (.ref C) "__init__" = some (some (.ref f))) (hf : PySem.W.typeIn K (.ref f) = some (.type "function"))
    (h : codeAny (model prog w) (A.under (.builtin "type.__call__" ⟨.ref C :: vs, kw⟩)) (.call (.ref f) ⟨.ref (s.heap.objs.size + 1) :: vs, kw⟩) (PySem.W.InitBack (s.heap.objs.size + 1) R)
      { s with heap := (s.heap.push PySem.W.emptyDict).push (PySem.W.instObj C s.heap.objs.size) }) :
    codeAny (model prog w) A (.call (.ref C) ⟨vs, kw⟩) R s := by
  obtain ⟨hh, g, d, t, os⟩ := s
  exact PySem.W.make_core (PySem.W.makes_of X hm) (PySem.W.looks_findIn X hi) (fun self => PySem.W.bind_fn X self hf) (.inl rfl) h
end
def putF (f : Str) (v : V) : List (Str × V) → List (Str × V)
  | [] => [(f, v)]
  | (g, x) :: r => if g = f then (g, v) :: r else (g, x) :: putF f v r
theorem lookup_putF (f g : Str) (v : V) : ∀ fs : List (Str × V), (putF f v fs).lookup g = if g = f then some v else fs.lookup g
  | [] => by
    show List.lookup g [(f, v)] = _
    by_cases h : g = f
    · have hb : (g == f) = true := beq_iff_eq.mpr h
      simp only [List.lookup, hb, if_pos h]
    · have hb : (g == f) = false := beq_eq_false_iff_ne.mpr h
      simp only [List.lookup, hb, if_neg h]
  | (k, x) :: r => by
    have ih := lookup_putF f g v r
    rw [show putF f v ((k, x) :: r) = (if k = f then (k, v) :: r else (k, x) :: putF f v r) from rfl]
    by_cases hk : k = f
    · rw [if_pos hk]
      by_cases h : g = k
      · have hb : (g == k) = true := beq_iff_eq.mpr h
        simp only [List.lookup, hb, if_pos (h.trans hk)]
      · have hb : (g == k) = false := beq_eq_false_iff_ne.mpr h
        simp only [List.lookup, hb, if_neg (fun e : g = f => h (e.trans hk.symm))]
    · rw [if_neg hk]
      by_cases h : g = k
      · have hb : (g == k) = true := beq_iff_eq.mpr h
        simp only [List.lookup, hb, if_neg (fun e : g = f => hk (h.symm.trans e))]
      · have hb : (g == k) = false := beq_eq_false_iff_ne.mpr h
        simp only [List.lookup, hb]
        exact ih
theorem keys_putF (f : Str) (v : V) : ∀ fs : List (Str × V), f ∈ (putF f v fs).map (·.1) ∧ ∀ g, g ∈ fs.map (·.1) → g ∈ (putF f v fs).map (·.1)
  | [] => ⟨by simp [putF], fun g h => by simp at h⟩
  | (k, x) :: r => by
    obtain ⟨i1, i2⟩ := keys_putF f v r
    rw [show putF f v ((k, x) :: r) = (if k = f then (k, v) :: r else (k, x) :: putF f v r) from rfl]
    by_cases hk : k = f
    · rw [if_pos hk]
      subst hk
      exact ⟨by simp, fun g h => by simpa using h⟩
    · rw [if_neg hk]
      refine ⟨?_, fun g h => ?_⟩
      · rw [List.map_cons]
        exact List.mem_cons_of_mem _ i1
      · rw [List.map_cons] at h ⊢
        rcases List.mem_cons.mp h with e | e
        · exact List.mem_cons.mpr (.inl e)
        · exact List.mem_cons_of_mem _ (i2 g e)
theorem length_putF (f : Str) (v : V) : ∀ fs : List (Str × V), (putF f v fs).length ≤ fs.length + 1
  | [] => by simp [putF]
  | (k, x) :: r => by
    have ih := length_putF f v r
    rw [show putF f v ((k, x) :: r) = (if k = f then (k, v) :: r else (k, x) :: putF f v r) from rfl]
    by_cases hk : k = f
    · rw [if_pos hk, List.length_cons, List.length_cons]; omega
    · rw [if_neg hk, List.length_cons, List.length_cons]; omega
theorem RelO.some_of {v : V} {o : Option Value} (r : RelO (some v) o) : ∃ u, o = some u ∧ RelV v u := by
  cases o with
  | none => exact (show False from r).elim
  | some u => exact ⟨u, rfl, r⟩
theorem handed_of {v : V} {u : Value} (r : RelV v u) : PySem.W.handedIn u = true := by
  cases v with
  | non => cases (show u = Value.none from r); rfl
  | bl b => cases (show u = Value.bool b from r); rfl
  | int i => obtain ⟨t, e⟩ := (show ∃ t, u = Value.int i t from r); cases e; rfl
  | str x => obtain ⟨t, e⟩ := (show ∃ t, u = Value.str x t from r); cases e; rfl
  | byt b => obtain ⟨t, e⟩ := (show ∃ t, u = Value.bytes b t from r); cases e; rfl
  | flt b => obtain ⟨t, e⟩ := (show ∃ t, u = Value.float b t from r); cases e; rfl
  | ref a => cases (show u = Value.ref a from r); rfl
  | ty n => cases (show u = Value.type n from r); rfl
section
variable {P : Program} {w : World} {H H' : Hp} {h h' : Heap} {a C dx : Addr} {fs fs' : List (Str × V)}
theorem ins_get (hok : HOk P w H h) (e : H a = some (.ins C dx fs)) : ∃ mA, ObjM h a dx C mA ∧ (∀ f, RelO (fs.lookup f) (mA f)) ∧ PySem.Within mA (fs.map (·.1)) ∧ fs.length ≤ 1000 ∧ H dx = some (.own a) := by
  obtain ⟨d, z, ne, ob, mA, n, r, q⟩ := (show ObjOk P w H h a (.ins C dx fs) from hok a _ e)
  exact ⟨mA, ⟨ob, n, ne⟩, r, q, z, d⟩
end
structure Cls (K : PySem.W.Frag) (C : Addr) : Prop where
  pg : PySem.W.plainGet K C Str.empty = true
  hd : PySem.W.hasDictIn K C = true
  po : PySem.W.plainOver K C = true
  sa : PySem.W.findIn K (.ref C) "__setattr__" = some (some (.builtin "object.__setattr__"))
theorem Cls.get {K : PySem.W.Frag} {C : Addr} (c : Cls K C) (f : Str) : PySem.W.plainGet K C f = true := c.pg
def NoAttr (K : PySem.W.Frag) (C : Addr) (f : Str) : Prop := PySem.W.findIn K (.ref C) f = some none
theorem NoAttr.taker {K : PySem.W.Frag} {C : Addr} {f : Str} (n : NoAttr K C f) : PySem.W.takerIn K C f = some none := by
  unfold PySem.W.takerIn
  rw [show PySem.W.findIn K (.ref C) f = some none from n]
  rfl
section
variable {X : Cx} {pins : List (Addr × Obj)} {σ : St} {H : Hp} {s : Shared} {a C dx : Addr} {fs : List (Str × V)} {f : Str} {v : V} {A : Around} {E : Value → Shared → Prop}
theorem getattr_ok {b : Bool} {Q : Value → Shared → Prop} (I : Inv X pins σ H s) (e : H a = some (.ins C dx fs)) (c : Cls X.K C) (n : NoAttr X.K C f) (l : fs.lookup f = some v)
    (h : ∀ u s', Inv X pins σ H s' → RelV v u → Q u s') : wpAny (model X.prog X.w) A (getAttr (.ref a) f b) Q E s := by
  obtain ⟨mA, O, r, _, _, _⟩ := ins_get I.hok e
  obtain ⟨u, hu, ru⟩ := RelO.some_of (v := v) (o := mA f) (by rw [← l]; exact r f)
  exact get_map I.kIn O (c.get f) c.hd n hu (handed_of ru) (h u _ (I.tok _) ru)
theorem setattr_ok {y : V} {u : Value} {Q : Unit → Shared → Prop} (I : Inv X pins σ H s) (e : H a = some (.ins C dx fs)) (c : Cls X.K C) (n : NoAttr X.K C f) (hl : fs.length < 1000) (ry : RelV y u)
    (h : ∀ s', Inv X pins σ (upd H a (.ins C dx (putF f y fs))) s' → Q () s') : wpAny (model X.prog X.w) A (setAttr (.ref a) f u) Q E s := by
  obtain ⟨mA, O, r, wi, _, ho⟩ := ins_get I.hok e
  have hz : (fs.map (·.1)).length ≤ sizeLine := by rw [List.length_map, sizeLine_eq]; omega
  refine set_map I.kIn O c.sa c.po n.taker c.hd wi hz fun h' O' sb => h _ ?_
  have hd : ∃ o, h'.get? dx = some o := let ⟨o, _, _, e', _⟩ := O'.ns; ⟨o, e'⟩
  refine I.write (x := a) (e := dx) (by rw [e]; exact True.intro) (.inr ho) (fun b q hb z => (sb.2 b hb).trans z) hd ?_
  refine ⟨by rw [upd_ne O.ne]; exact ho, ?_, O.ne, O'.obj, _, O'.ns, fun g => ?_, fun g hg => ?_⟩
  · have := length_putF f y fs; omega
  · show RelO ((putF f y fs).lookup g) (if g = f then some u else mA g)
    rw [lookup_putF]
    by_cases q : g = f
    · rw [if_pos q, if_pos q]; exact ry
    · rw [if_neg q, if_neg q]; exact r g
  · by_cases q : g = f
    · rw [q]; exact (keys_putF f y fs).1
    · refine (keys_putF f y fs).2 g (wi g fun z => hg ?_)
      show (if g = f then some u else mA g) = none
      rw [if_neg q]; exact z
theorem Inv.made (I : Inv X pins σ H s) : Inv X pins σ (upd (upd H s.heap.objs.size (.own (s.heap.objs.size + 1))) (s.heap.objs.size + 1) (.ins C s.heap.objs.size []))
    { s with heap := (s.heap.push PySem.W.emptyDict).push (PySem.W.instObj C s.heap.objs.size) } := by
  have e1 : (s.heap.push PySem.W.emptyDict).get? s.heap.objs.size = some PySem.W.emptyDict := Heap.get?_push_size s.heap rfl
  have e2 : ((s.heap.push PySem.W.emptyDict).push (PySem.W.instObj C s.heap.objs.size)).get? (s.heap.objs.size + 1) = some (PySem.W.instObj C s.heap.objs.size) := by
    have := Heap.get?_push_size (s.heap.push PySem.W.emptyDict) (o := PySem.W.instObj C s.heap.objs.size) rfl
    rwa [Heap.size_push] at this
  have e3 : (s.heap.push PySem.W.emptyDict).Ns s.heap.objs.size (fun _ => none) := ⟨PySem.W.emptyDict, #[], _, e1, rfl, (fun e he => absurd he (by simp)), fun _ => rfl⟩
  have I1 := I.laid (a := s.heap.objs.size) (o := .own (s.heap.objs.size + 1)) (h' := s.heap.push PySem.W.emptyDict) (t' := s.toks) (fun b u q => Heap.get?_push_of_some _ q) (Nat.le_refl _) ⟨_, e1⟩
  refine I1.laid (a := s.heap.objs.size + 1) (o := .ins C s.heap.objs.size []) (t' := s.toks) (fun b u q => Heap.get?_push_of_some _ q) (Nat.le_of_eq (Heap.size_push _ _)) ?_
  have ne : s.heap.objs.size ≠ s.heap.objs.size + 1 := Nat.ne_of_lt (Nat.lt_succ_self _)
  refine ⟨by rw [upd_ne ne, upd_same], Nat.zero_le _, ne, e2, fun _ => none, (Heap.Ns1.of_empty e3).at fun o q => Heap.get?_push_of_some _ q, fun _ => True.intro, fun y hy => absurd rfl hy⟩
theorem attr_of {prog : Program} {w : World} {env : Env} {e : Expr} {f : Str} {pos : Pos} {s : Shared} {Q : Value → Shared → Prop} (hb : attributeBase e f env (eval e env) = eval e env)
    (h : wpAny (model prog w) A (eval e env) (fun o s₁ => wpAny (model prog w) A (getAttr o f true) Q E s₁) E s) : wpAny (model prog w) A (eval (.Attribute e f pos) env) Q E s :=
  Attribute_any_ h (by rw [arm_eval_Attribute, hb])
end
def tFld (K : PySem.W.Frag) (ta : TE) (f : Str) : TE := fun σ H Q => ta σ H fun x H1 => ∃ a C dx fs v, x = .ref a ∧ H1 a = some (.ins C dx fs) ∧ Cls K C ∧ NoAttr K C f ∧ fs.lookup f = some v ∧ Q v H1
def sFld (K : PySem.W.Frag) (ta tv : TE) (f : Str) : TS := fun D σ H => tv σ H fun y H1 => ta σ H1 fun x H2 => ∃ a C dx fs, x = .ref a ∧ H2 a = some (.ins C dx fs) ∧ Cls K C ∧ NoAttr K C f ∧ fs.length < 1000 ∧
  D.nx σ (upd H2 a (.ins C dx (putF f y fs)))
section
variable {X : Cx} {o e value : Expr} {f : Str} {pos pos' tpos : Pos} {ta tv : TE}
theorem pe_fld (he : PE X e ta) (hb : attributeBase e f X.env (eval e X.env) = eval e X.env) : PE X (.Attribute e f pos) (tFld X.K ta f) := by
  intro pins s σ H Q I h
  refine attr_of hb (thn (he pins s σ H _ I h) fun u s1 ⟨x, H1, I1, rx, a, C, dx, fs, v, ex, ea, c, n, l, q⟩ => ?_)
  subst ex
  obtain rfl : u = Value.ref a := rx
  exact getattr_ok I1 ea c n l fun u' s2 I2 ru => ⟨v, H1, I2, ru, q⟩
theorem ps_fld (ha : PE X o ta) (hv : PE X value tv) (hs : swapsWith value (some (.Attribute o f pos')) pos.line X.env = pure false) : PS X (.Assign [.Attribute o f pos'] value pos) (sFld X.K ta tv f) := by
  intro pins s σ H D I h
  refine plainObj_wpAny_Assign_Attribute (thn (hv pins s σ H _ I h) fun u s1 ⟨y, H1, I1, ry, q⟩ => thn (ha pins s1 σ H1 _ I1 q) fun ov s2 ⟨x, H2, I2, rx, a, C, dx, fs, ex, ea, c, n, l, q2⟩ => ?_) hs
  subst ex
  obtain rfl : ov = Value.ref a := rx
  exact setattr_ok I2 ea c n l ry fun s3 I3 => ⟨σ, _, I3, q2⟩
end
section
variable {X : Cx} {pins : List (Addr × Obj)} {σ : St} {H : Hp} {s : Shared} {A : Around} {E : Value → Shared → Prop} {Q : Value → Shared → Prop} {c : Value} {b : Bool}
inductive TyOf (K : PySem.W.Frag) (H : Hp) : V → Value → Prop where
  | non : TyOf K H .non (.type "NoneType")
  | bl (x : Bool) : TyOf K H (.bl x) (.type "bool")
  | int (i : Int) : TyOf K H (.int i) (.type "int")
  | str (x : Str) : TyOf K H (.str x) (.type "str")
  | flt (x : UInt64) : TyOf K H (.flt x) (.type "float")
  | lst {a : Addr} {xs : List V} (e : H a = some (.lst xs)) : TyOf K H (.ref a) (.type "list")
  | frz {a : Addr} {o : Obj} {xs : List V} (e : H a = some (.frz o (.lst xs))) : TyOf K H (.ref a) (.type "list")
  | tup {a : Addr} {xs : List V} (e : H a = some (.tup xs)) : TyOf K H (.ref a) (.type "tuple")
  | dK {a : Addr} {kvs : List (Key × V)} (e : H a = some (.dK kvs)) : TyOf K H (.ref a) (.type "dict")
  | dT {a : Addr} {kvs : List (List Key × V)} (e : H a = some (.dT kvs)) : TyOf K H (.ref a) (.type "dict")
  | ins {a C dx : Addr} {fs : List (Str × V)} (e : H a = some (.ins C dx fs)) (cl : Cls K C) (ha : PySem.W.findIn K (.ref C) "__class__" = some (some (.builtin "object.__class__")))
      (hn : PySem.W.specialIn K (.builtin "object.__class__") "__get__" = some (some (.builtin "getset_descriptor.__get__"))) (htk : PySem.W.takesIn K (.builtin "object.__class__") = some true)
      (hm : PySem.W.mroIn K C (.type "object") = some true) : TyOf K H (.ref a) (.ref C)
theorem isinst_ok {x : V} {u t : Value} (I : Inv X pins σ H s) (rx : RelV x u) (ty : TyOf X.K H x t) (e : PySem.W.kitOne X.K t c = some b) (h : ∀ tk, Q (.bool b) { s with toks := tk }) :
    wpAny (model X.prog X.w) A (call (.builtin "isinstance") [u, c]) Q E s := by
  cases ty with
  | non => cases (show u = Value.none from rx); exact PySem.W.kia_one PySem.W.kitx_none I.kIn True.intro e (fun z => nomatch z) h
  | bl y => cases (show u = Value.bool y from rx); exact PySem.W.kia_one PySem.W.kitx_bool I.kIn True.intro e (fun z => nomatch z) h
  | int i => obtain ⟨t, q⟩ := (show ∃ t, u = Value.int i t from rx); cases q; exact PySem.W.kia_one PySem.W.kitx_int I.kIn True.intro e (fun z => nomatch z) h
  | str y => obtain ⟨t, q⟩ := (show ∃ t, u = Value.str y t from rx); cases q; exact PySem.W.kia_one PySem.W.kitx_str I.kIn True.intro e (fun z => nomatch z) h
  | flt y => obtain ⟨t, q⟩ := (show ∃ t, u = Value.float y t from rx); cases q; exact PySem.W.kia_one PySem.W.kitx_float I.kIn True.intro e (fun z => nomatch z) h
  | @lst a xs ea =>
    cases (show u = Value.ref a from rx)
    obtain ⟨_, _, n, _, h1⟩ := (show ObjOk X.prog X.w H s.heap a (.lst xs) from I.hok a _ ea)
    exact PySem.W.kia_one PySem.W.kitx_list I.kIn ⟨_, h1, rfl⟩ e (fun z => nomatch z) h
  | @frz a ob xs ea =>
    cases (show u = Value.ref a from rx)
    obtain ⟨_, _, _, n, _, h1⟩ := (show ObjOk X.prog X.w H s.heap a (.frz ob (.lst xs)) from I.hok a _ ea)
    exact PySem.W.kia_one PySem.W.kitx_list I.kIn ⟨_, h1, rfl⟩ e (fun z => nomatch z) h
  | @tup a xs ea =>
    cases (show u = Value.ref a from rx)
    obtain ⟨_, _, _, p⟩ := (show ObjOk X.prog X.w H s.heap a (.tup xs) from I.hok a _ ea)
    obtain ⟨o, h1, h2, _⟩ := p
    exact PySem.W.kia_one PySem.W.kitx_tuple I.kIn ⟨o, h1, h2⟩ e (fun z => nomatch z) h
  | @dK a kvs ea =>
    cases (show u = Value.ref a from rx)
    obtain ⟨_, _, vs, _, p⟩ := (show ObjOk X.prog X.w H s.heap a (.dK kvs) from I.hok a _ ea)
    obtain ⟨o, es, ep, h1, h2, _⟩ := p
    exact PySem.W.kia_one PySem.W.kitx_dict I.kIn ⟨o, h1, h2.1⟩ e (fun z => nomatch z) h
  | @dT a kvs ea =>
    cases (show u = Value.ref a from rx)
    obtain ⟨_, _, xs, _, o, es, ep, h1, h2, _⟩ := (show ObjOk X.prog X.w H s.heap a (.dT kvs) from I.hok a _ ea)
    exact PySem.W.kia_one PySem.W.kitx_dict I.kIn ⟨o, h1, h2.1⟩ e (fun z => nomatch z) h
  | @ins a C dx fs ea cl ha hn htk hm =>
    cases (show u = Value.ref a from rx)
    obtain ⟨mA, O, _⟩ := ins_get I.hok ea
    obtain ⟨od, J, _⟩ := O.look
    exact PySem.W.kia_one (PySem.W.kitx_own (cl.get _) cl.hd ha hn htk hm) I.kIn J e (fun z => nomatch z) h
end
end L2
namespace L2
open PySem PySem.Spec PyProof.Rows
structure Room (k : Nat) (A : Around) : Prop where
  hd : A.handled = none
  dp : A.depth + 3 * k + 5 < recursionLimit
  un : A.units + 16 * k + 200 < cLine
theorem Room.mono {j k : Nat} {A : Around} (r : Room k A) (h : j ≤ k) : Room j A := ⟨r.hd, by have := r.dp; omega, by have := r.un; omega⟩
theorem Room.deeper {k : Nat} {A : Around} (r : Room (k + 1) A) (env : Env) : Room k (A.deeper env) :=
  ⟨r.hd, by have := r.dp; show A.depth + 1 + 3 * k + 5 < _; omega, by have := r.un; show A.units + 3 + 16 * k + 200 < _; omega⟩
theorem make_depth {A : Around} {C : Addr} {us : List Value} {kw : List (Str × Value)} : (A.under (.builtin "type.__call__" ⟨.ref C :: us, kw⟩)).depth = A.depth + 1 := by
  first | rfl | simp [Around.under, Code.weight, Code.isCreation, Code.isGuard, Code.isCaller, Code.frames, Code.isFrame, guardIds]
theorem make_units {A : Around} {C : Addr} {us : List Value} {kw : List (Str × Value)} : (A.under (.builtin "type.__call__" ⟨.ref C :: us, kw⟩)).units = A.units + 1 := by
  first | rfl | simp [Around.under, Code.cUnits, Code.frames, Code.isFrame]
theorem Room.make {k : Nat} {A : Around} (r : Room (k + 1) A) (C : Addr) (us : List Value) (kw : List (Str × Value)) : Room k (A.under (.builtin "type.__call__" ⟨.ref C :: us, kw⟩)) :=
  ⟨r.hd, by have := r.dp; rw [make_depth]; omega, by have := r.un; rw [make_units]; omega⟩
theorem Room.depth {k : Nat} {A : Around} (r : Room k A) : A.depth < recursionLimit := by have := r.dp; omega
theorem Room.units {k : Nat} {A : Around} (r : Room k A) : A.units + 64 < cLine := by have := r.un; omega
def tNil : TA := fun _ H Q => Q [] H
def tCons (ta : TE) (tr : TA) : TA := fun σ H Q => ta σ H fun x H1 => tr σ H1 fun xs H2 => Q (x :: xs) H2
section
variable {X : Cx} {e : Expr} {es : List Expr} {te : TE} {t : TA} {pos : Pos}
theorem pa_nil : PA X [] tNil := fun _ _ _ _ H Q I h => Calls.spliced_nil ⟨[], H, I, .nil, h⟩
theorem pa_cons (ha : PE X e te) (hr : PA X es t) (hs : starEach (e :: es) X.env = (false, eval e X.env) :: starEach es X.env := by rfl) : PA X (e :: es) (tCons te t) := by
  intro pos pins s σ H Q I h
  rw [hs]
  show wpAny _ _ (spliced ((false, eval e X.env) :: backTo pos (starEach es X.env))) _ _ s
  refine Calls.spliced_cons (thn (ha pins s σ H _ I h) fun u s1 ⟨x, H1, I1, r1, q1⟩ => ?_)
  exact thn (hr pos pins s1 σ H1 _ I1 q1) fun us s2 ⟨xs, H2, I2, r2, q2⟩ => ⟨x :: xs, H2, I2, .cons r1 r2, q2⟩
def tTup (t : TA) : TE := fun σ H Q => t σ H fun xs H1 => xs.length ≤ sizeLine ∧ ∀ p, H1 p = none → Q (.ref p) (upd H1 p (.tup xs))
def tLst (t : TA) : TE := fun σ H Q => t σ H fun xs H1 => xs.length ≤ sizeLine ∧ ∀ p, H1 p = none → Q (.ref p) (upd H1 p (.lst xs))
theorem pe_tup {x1} (h : PA X es t) : PE X (.Tuple es x1 pos) (tTup t) := by
  intro pins s σ H Q I hq
  refine wpAny_Tuple_spliced (thn (h pos pins s σ H _ I hq) fun us s1 ⟨xs, H1, I1, r, z, q⟩ => ⟨by rw [← r.length]; exact z, ?_⟩)
  have hf : H1 s1.heap.objs.size = none := I1.hok.fresh (Nat.le_refl _)
  refine ⟨.ref s1.heap.objs.size, upd H1 s1.heap.objs.size (.tup xs), I1.laid (t' := s1.toks) (fun b u e => Heap.get?_push_of_some _ e) (Nat.le_refl _) ?_, rfl, q _ hf⟩
  exact ⟨z, us, r, ⟨_, Heap.get?_push_size _ rfl, rfl, _, rfl⟩⟩
theorem pe_lst (h : PA X es t) : PE X (.List es pos) (tLst t) := by
  intro pins s σ H Q I hq
  refine wpAny_List_spliced (thn (h pos pins s σ H _ I hq) fun us s1 ⟨xs, H1, I1, r, z, q⟩ => ⟨by rw [← r.length]; exact z, ?_⟩)
  have hf : H1 s1.heap.objs.size = none := I1.hok.fresh (Nat.le_refl _)
  refine ⟨.ref s1.heap.objs.size, upd H1 s1.heap.objs.size (.lst xs), I1.laid (t' := s1.toks) (fun b u e => Heap.get?_push_of_some _ e) (Nat.le_refl _) ?_, rfl, q _ hf⟩
  exact ⟨z, us, 0, r, Heap.get?_push_size _ rfl⟩
end
abbrev Sp := List V → Hp → VK → XK → Prop
abbrev CXT := List Env → Hp → Shared → XK → Value → Shared → Prop
structure Env0 (P : Program) (w : World) (K : PySem.W.Frag) (mg : Str → Option Value) (base : Heap) (A : Around) (outer : List Env) (s : Shared) (H : Hp) : Prop where
  frames : A.frames = some outer
  mod : Mod K mg base
  bs : ∀ b o, base.get? b = some o → s.heap.get? b = some o ∧ H b = none
  bsz : base.objs.size ≤ s.heap.objs.size
  funs : s.heap.FunFrames base outer
  frf : ∀ b ∈ frs outer, H b = none
  hok : HOk P w H s.heap
  bare : AllBare s.gens
def CE (outer : List Env) (P : Program) (w : World) (H : Hp) (s : Shared) (Q : VK) (u : Value) (s' : Shared) : Prop :=
  ∃ v H', s'.os = s.os ∧ AllBare s'.gens ∧ Un (frs outer) [] H H' s.heap s'.heap ∧ HOk P w H' s'.heap ∧ RelV v u ∧ Q v H'
def CR (CX : CXT) (outer : List Env) (P : Program) (w : World) (H : Hp) (s : Shared) (Q : VK) (E : XK) (r : Result) (s' : Shared) : Prop :=
  match r with
  | .ok (.ret u) => CE outer P w H s Q u s'
  | .ok _ => False
  | .error e => CX outer H s E e s'
structure FnOk (P : Program) (w : World) (K : PySem.W.Frag) (mg : Str → Option Value) (base : Heap) (CX : CXT) (k : Nat) (f : Addr) (fd : FuncData) (ps : List Str) (sp : Sp) : Prop where
  len : ∀ vs H Q E, sp vs H Q E → vs.length = ps.length
  run : ∀ (A : Around) (outer : List Env) (s : Shared) (H : Hp) (args : Args) (us : List Value) (vs : List V) (Q : VK) (E : XK), Room k A → Env0 P w K mg base A outer s H → BindsTo s fd args (ps.zip us) → Vals vs us → sp vs H Q E →
    codeAny (model P w) A (.call (.ref f) args) (CR CX outer P w H s Q E) s
theorem Env0.make {P : Program} {w : World} {K : PySem.W.Frag} {mg : Str → Option Value} {base : Heap} {A : Around} {outer : List Env} {s : Shared} {H : Hp} (e : Env0 P w K mg base A outer s H) (C : Addr) (us : List Value) (kw : List (Str × Value)) :
    Env0 P w K mg base (A.under (.builtin "type.__call__" ⟨.ref C :: us, kw⟩)) outer s H := ⟨by first | exact e.frames | (simpa [Around.under, Code.envs, Code.isFrame, pushEnvs] using e.frames), e.mod, e.bs, e.bsz, e.funs, e.frf, e.hok, e.bare⟩
section
variable {X : Cx} {pins : List (Addr × Obj)} {σ : St} {H : Hp} {s s' : Shared}
theorem Inv.env0 (I : Inv X pins σ H s) : Env0 X.prog X.w X.K X.mg X.base X.A X.stack s H :=
  ⟨I.ok.frames, I.ok.mod, I.bs, Nat.le_trans I.ok.bsz I.sz, I.stack, I.stkFree, I.hok, I.bare⟩
theorem Inv.after {Q : VK} {u : Value} (I : Inv X pins σ H s) (h : CE X.stack X.prog X.w H s Q u s') : EP X pins σ Q u s' := by
  obtain ⟨v, H', os, bare, un, hok, r, q⟩ := h
  obtain ⟨hh, g, d, t, os'⟩ := s'
  obtain rfl : os' = s.os := os
  exact ⟨v, H', I.call (h' := hh) (g' := g) (d' := d) (t' := t) (ch := []) un hok bare (fun b z => absurd z (by simp)), r, q⟩
end
def tCall (sp : Sp) (dvs : List V) (E : XK) (t : TA) : TE := fun σ H Q => t σ H fun vs H1 => sp (vs ++ dvs) H1 Q E
def tMake (C : Addr) (sp : Sp) (dvs : List V) (E : XK) (t : TA) : TE := fun σ H Q => t σ H fun vs H1 => ∀ x dx, H1 x = none → H1 dx = none → dx ≠ x →
  sp (.ref x :: (vs ++ dvs)) (upd (upd H1 dx (.own x)) x (.ins C dx [])) (fun v H2 => v = .non ∧ Q (.ref x) H2) E
def Binds (K : PySem.W.Frag) (fd : FuncData) (ps : List Str) (ds : List Value) : Prop :=
  ∀ (s : Shared) (us : List Value), K.In s.heap → (us ++ ds).length = ps.length → BindsTo s fd ⟨us, []⟩ (ps.zip (us ++ ds))
theorem Binds.all {K : PySem.W.Frag} {fd : FuncData} {ps : List Str} (h : ∀ us : List Value, us.length = ps.length → bindArgs fd ⟨us, []⟩ = pure (ps.zip us)) : Binds K fd ps [] := fun s us _ hl => by
  rw [List.append_nil] at hl ⊢
  exact .of_eq (h us hl)
def Passes (CX : CXT) (X : Cx) (E : XK) : Prop := ∀ (pins : List (Addr × Obj)) (σ : St) (H : Hp) (s : Shared) (e : Value) (s' : Shared), Inv X pins σ H s → CX X.stack H s E e s' → X.xe e s'
section
variable {X : Cx} {CX : CXT} {k : Nat} {f C : Addr} {fd : FuncData} {ps : List Str} {sp : Sp} {dvs : List V} {ds : List Value} {E : XK} {x m : Str} {p pos apos : Pos} {e o : Expr} {es : List Expr} {ta : TE} {t : TA}
theorem run_fn {pins : List (Addr × Obj)} {σ : St} {H : Hp} {s : Shared} {Q : VK} {us : List Value} {vs : List V} (F : FnOk X.prog X.w X.K X.mg X.base CX k f fd ps sp) (hr : Room k X.A) (hb : Binds X.K fd ps ds) (hd : Vals dvs ds) (hx : Passes CX X E)
    (I : Inv X pins σ H s) (r : Vals vs us) (h : sp (vs ++ dvs) H Q E) : wpAny (model X.prog X.w) X.A (call (.ref f) us) (EP X pins σ Q) X.xe s := by
  have r2 : Vals (vs ++ dvs) (us ++ ds) := r.append hd
  have hl : (us ++ ds).length = ps.length := by rw [← r2.length]; exact F.len _ _ _ _ h
  refine wpAny_call (codeAny_mono (F.run X.A X.stack s H ⟨us, []⟩ (us ++ ds) (vs ++ dvs) Q E hr I.env0 (hb s us I.kIn hl) r2 h) fun r s' hq => ?_)
  cases r with
  | error e => exact hx pins σ H s e s' I hq
  | ok fl =>
    cases fl with
    | ret u => exact I.after hq
    | next => exact False.elim hq
    | brk => exact False.elim hq
    | cont => exact False.elim hq
theorem pe_call (F : FnOk X.prog X.w X.K X.mg X.base CX k f fd ps sp) (hr : Room k X.A) (hg : Gl X x) (hm : X.mg x = some (.ref f)) (hk : PySem.W.keepIn X.K (.ref f) = true) (hb : Binds X.K fd ps ds) (hd : Vals dvs ds) (hx : Passes CX X E)
    (ha : PA X (e :: es) t) (hdb : (x == ("__debug__" : Str)) = false := by decide) (he : starEach (e :: es) X.env = (false, eval e X.env) :: starEach es X.env := by rfl) (hpl : (backTo pos (starEach es X.env)).any (·.1) = false := by rfl) :
    PE X (.Call (.Name x p) (e :: es) [] pos) (tCall sp dvs E t) := by
  intro pins s σ H Q I h
  refine wpAny_Call_Name_kw (ld_glob I hg hm ?_ hdb)
  refine PySem.W.callWith_K (h₀ := X.base) I.ok.mod.kin hk (thn (ha pos pins s σ H _ I h) fun us s1 ⟨vs, H1, I1, r, q⟩ => ⟨I1.kIn, ?_⟩) he hpl
  exact run_fn F hr hb hd hx I1 r q
structure Mk (K : PySem.W.Frag) (C f : Addr) : Prop where
  makes : PySem.W.makesIn K C = true
  init : PySem.W.findIn K (.ref C) "__init__" = some (some (.ref f))
  fn : PySem.W.isFn K (.ref f) = true
  kp : PySem.W.keepIn K (.ref C) = true
theorem run_make {pins : List (Addr × Obj)} {σ : St} {H : Hp} {s : Shared} {Q : VK} {us : List Value} {vs : List V} (M : Mk X.K C f) (F : FnOk X.prog X.w X.K X.mg X.base CX k f fd ps sp) (hr : Room (k + 1) X.A) (hb : Binds X.K fd ps ds) (hd : Vals dvs ds)
    (hx : Passes CX X E) (I : Inv X pins σ H s) (r : Vals vs us)
    (h : ∀ x dx, H x = none → H dx = none → dx ≠ x → sp (.ref x :: (vs ++ dvs)) (upd (upd H dx (.own x)) x (.ins C dx [])) (fun v H2 => v = .non ∧ Q (.ref x) H2) E) :
    wpAny (model X.prog X.w) X.A (call (.ref C) us) (EP X pins σ Q) X.xe s := by
  have hq := h (s.heap.objs.size + 1) s.heap.objs.size (I.hok.fresh (Nat.le_succ _)) (I.hok.fresh (Nat.le_refl _)) (Nat.ne_of_lt (Nat.lt_succ_self _))
  have I2 := Inv.made (C := C) I
  have r2 : Vals (V.ref (s.heap.objs.size + 1) :: (vs ++ dvs)) (Value.ref (s.heap.objs.size + 1) :: (us ++ ds)) := .cons rfl (r.append hd)
  have hl : (Value.ref (s.heap.objs.size + 1) :: us ++ ds).length = ps.length := by
    have e := r2.length
    rw [F.len _ _ _ _ hq] at e
    exact e.symm
  refine wpAny_call (make_map (f := f) I.kIn M.makes M.init (beq_iff_eq.mp M.fn) (codeAny_mono (F.run _ X.stack _ _ ⟨Value.ref (s.heap.objs.size + 1) :: us, []⟩ (Value.ref (s.heap.objs.size + 1) :: (us ++ ds)) _ _ E (hr.make C us [])
    (I2.env0.make C us []) (hb _ (Value.ref (s.heap.objs.size + 1) :: us) I2.kIn hl) r2 hq) fun r s' hq' => ?_))
  cases r with
  | error e => exact hx pins σ _ _ e s' I2 hq'
  | ok fl =>
    cases fl with
    | ret u =>
      obtain ⟨v, H', I3, rv, ev, q3⟩ := I2.after hq'
      subst ev
      exact ⟨rv, ⟨V.ref (s.heap.objs.size + 1), H', I3, rfl, q3⟩⟩
    | next => exact False.elim hq'
    | brk => exact False.elim hq'
    | cont => exact False.elim hq'
theorem pe_make (M : Mk X.K C f) (F : FnOk X.prog X.w X.K X.mg X.base CX k f fd ps sp) (hr : Room (k + 1) X.A) (hg : Gl X x) (hm : X.mg x = some (.ref C)) (hb : Binds X.K fd ps ds) (hd : Vals dvs ds) (hx : Passes CX X E)
    (ha : PA X (e :: es) t) (hdb : (x == ("__debug__" : Str)) = false := by decide) (he : starEach (e :: es) X.env = (false, eval e X.env) :: starEach es X.env := by rfl) (hpl : (backTo pos (starEach es X.env)).any (·.1) = false := by rfl) :
    PE X (.Call (.Name x p) (e :: es) [] pos) (tMake C sp dvs E t) := by
  intro pins s σ H Q I h
  refine wpAny_Call_Name_kw (ld_glob I hg hm ?_ hdb)
  refine PySem.W.callWith_K (h₀ := X.base) I.ok.mod.kin M.kp (thn (ha pos pins s σ H _ I h) fun us s1 ⟨vs, H1, I1, r, q⟩ => ⟨I1.kIn, ?_⟩) he hpl
  exact run_make M F hr hb hd hx I1 r q
end
section
variable {X : Cx} {CX : CXT} {k : Nat} {f C : Addr} {fd : FuncData} {ps ks : List Str} {sp : Sp} {E : XK} {x m : Str} {p pos apos kpos : Pos} {e o : Expr} {es : List Expr} {kws : List Keyword} {te ta : TE} {t tk : TA} {nm : Option Str}
variable {g : List Value → List Value → List Value} {gV : List V → List V → List V}
end
structure FnScope (N P : List Str) (sc : Scope) : Prop where
  kind : sc.kind = .function
  co : sc.isCoroutine = false
  gen : sc.isGenerator = false
  nd : N.Nodup
  pre : N.take P.length = P
  par : ∀ x ∈ P, sc.names.lookup x = some .local ∨ sc.names.lookup x = some .cell
  nofree : ∀ y ∈ sc.names, y.2 ≠ .free
theorem bindL_out {kindOf : Str → Option NameKind} {x : Str} : ∀ {binds : List (Str × Value)} {m : Str → Option Value}, (∀ v, (x, v) ∉ binds) → bindL kindOf binds m x = m x
  | [], _, _ => rfl
  | (n, v) :: r, m, h => by
    unfold bindL
    rw [bindL_out fun w hw => h w (List.mem_cons_of_mem _ hw)]
    split
    · have : x ≠ n := by rintro rfl; exact h v List.mem_cons_self
      simp [this]
    · rfl
theorem bindC_out {kindOf : Str → Option NameKind} {x : Str} : ∀ {binds : List (Str × Value)} {m : Str → Option Value}, (∀ v, (x, v) ∉ binds) → bindC kindOf binds m x = m x
  | [], _, _ => rfl
  | (n, v) :: r, m, h => by
    unfold bindC
    rw [bindC_out fun w hw => h w (List.mem_cons_of_mem _ hw)]
    split
    · rfl
    · have : x ≠ n := by rintro rfl; exact h v List.mem_cons_self
      simp [this]
theorem bindL_get {kindOf : Str → Option NameKind} {x : Str} {v : Value} : ∀ {P : List Str} {vs : List Value} {i : Nat} {m : Str → Option Value}, P.Nodup → P[i]? = some x → vs[i]? = some v → kindOf x = some .local →
    bindL kindOf (P.zip vs) m x = some v
  | [], _, _, _, _, h, _, _ => by simp at h
  | _ :: _, [], _, _, _, _, h, _ => by simp at h
  | p :: P, w :: vs, 0, m, nd, h1, h2, hk => by
    simp at h1 h2; subst h1; subst h2
    show bindL kindOf ((p, w) :: P.zip vs) m p = _
    unfold bindL
    rw [bindL_out fun v hv => (List.nodup_cons.mp nd).1 (List.of_mem_zip hv).1, if_pos hk]
    simp
  | p :: P, w :: vs, i + 1, m, nd, h1, h2, hk => by
    show bindL kindOf ((p, w) :: P.zip vs) m x = _
    unfold bindL
    exact bindL_get (i := i) (List.nodup_cons.mp nd).2 (by simpa using h1) (by simpa using h2) hk
theorem bindC_get {kindOf : Str → Option NameKind} {x : Str} {v : Value} : ∀ {P : List Str} {vs : List Value} {i : Nat} {m : Str → Option Value}, P.Nodup → P[i]? = some x → vs[i]? = some v → kindOf x ≠ some .local →
    bindC kindOf (P.zip vs) m x = some v
  | [], _, _, _, _, h, _, _ => by simp at h
  | _ :: _, [], _, _, _, _, h, _ => by simp at h
  | p :: P, w :: vs, 0, m, nd, h1, h2, hk => by
    simp at h1 h2; subst h1; subst h2
    show bindC kindOf ((p, w) :: P.zip vs) m p = _
    unfold bindC
    rw [bindC_out fun v hv => (List.nodup_cons.mp nd).1 (List.of_mem_zip hv).1, if_neg hk]
    simp
  | p :: P, w :: vs, i + 1, m, nd, h1, h2, hk => by
    show bindC kindOf ((p, w) :: P.zip vs) m x = _
    unfold bindC
    exact bindC_get (i := i) (List.nodup_cons.mp nd).2 (by simpa using h1) (by simpa using h2) hk
def start (N : List Str) (vs : List V) : St := vs.map some ++ List.replicate (N.length - vs.length) none
def cxOf (CX : CXT) (P : Program) (w : World) (K : PySem.W.Frag) (mg : Str → Option Value) (base : Heap) (N : List Str) (qual : Str) (scope : Scope) (f : Addr) (cd : Value) (A : Around) (outer : List Env) (s : Shared) (H : Hp) (E : XK) : Cx where
  prog := P
  w := w
  K := K
  mg := mg
  base := base
  A := A.deeper (envOfC qual scope s.heap.objs.size f cd)
  N := N
  s₀ := s
  H₀ := H
  env := envOfC qual scope s.heap.objs.size f cd
  outer := outer
  stack := envOfC qual scope s.heap.objs.size f cd :: outer
  ex := []
  calm := true
  fn := fun _ => true
  pn := []
  xe := fun e s' => wpAny (model P w) (A.deeper (envOfC qual scope s.heap.objs.size f cd)) (leaving (envOfC qual scope s.heap.objs.size f cd) e) (fun _ s'' => CX outer H s E e s'') (fun e' s'' => CX outer H s E e' s'') s'
theorem cell_has {sc : Scope} {n : Nat} {x : Str} (h : sc.names.lookup x = some .cell) : ∃ c, (cellsFrom n sc.names []).lookup x = some c := by
  have q := PySem.W.cellsFrom_some sc.names n [] (.inl h)
  exact Option.isSome_iff_exists.mp q
theorem inv_start {CX : CXT} {P : Program} {w : World} {K : PySem.W.Frag} {mg : Str → Option Value} {base : Heap} {N ps : List Str} {qual : Str} {scope : Scope} {f : Addr} {cd : Value} {A : Around} {outer : List Env} {s s1 : Shared} {H : Hp} {E : XK} {us : List Value} {vs : List V}
    (S : FnScope N ps scope) (hd : A.handled = none) (e0 : Env0 P w K mg base A outer s H) (hl : vs.length = ps.length) (r : Vals vs us)
    (x : InCallC s s.heap.objs.size (bindL (envOfC qual scope s.heap.objs.size f cd).kindOf (ps.zip us) fun _ => none) (cellsFrom (s.heap.objs.size + 1) scope.names []) (bindC (envOfC qual scope s.heap.objs.size f cd).kindOf (ps.zip us) fun _ => none) s1) :
    Inv (cxOf CX P w K mg base N qual scope f cd A outer s H E) [] (start N vs) H s1 := by
  have hpl : ps.length ≤ N.length := by have := congrArg List.length S.pre; rw [List.length_take] at this; omega
  obtain ⟨h1, tk, rfl, hk⟩ := x.done
  have noA : ∀ b : Addr, b ∉ (cxOf CX P w K mg base N qual scope f cd A outer s H E).ex := fun b z => absurd (show b ∈ ([] : List Addr) from z) (by simp)
  refine ⟨⟨e0.mod, S.kind, rfl, rfl, Nat.le_refl _, fun y z c h1 h2 => ?_, fun y hy => ?_, fun y c _ h => ?_, fun _ => hd, Around.frames_deeper e0.frames, .inr ⟨rfl, rfl⟩, fun b z => absurd z (noA b), e0.bs, e0.bsz, fun b _ _ => noA b, fun b z => absurd z (noA b), e0.funs, e0.frf⟩,
    rfl, e0.bare, Un.kept hk, ⟨_, x.toInCall.ns, fun i y v h1 h2 h3 => ?_⟩, fun y c h => ⟨_, x.cell y c h⟩, e0.hok.fresh (Nat.le_refl _), fun y c h => ?_, fun p hp => absurd (show p ∈ ([] : List (Addr × Obj)) from hp) (by simp), e0.hok.kept hk, ?_⟩
  · exact name_of_addr x.apart (PySem.mem_of_lookup h1) (PySem.mem_of_lookup h2)
  · have hy : scope.names.lookup y = some .cell ∨ scope.names.lookup y = some .free := hy
    rcases hy with hy | hy
    · exact cell_has hy
    · exact absurd rfl (S.nofree _ (PySem.mem_of_lookup hy))
  · exact Nat.le_of_lt (x.above y c (PySem.mem_of_lookup h))
  · have hi : i < vs.length := by
      unfold start at h2
      by_cases hi : i < vs.length
      · exact hi
      · rw [List.getElem?_append_right (by simpa using hi)] at h2
        rw [List.getElem?_replicate] at h2
        split at h2 <;> cases h2
    have ha : vs[i]? = some v := by
      unfold start at h2
      rw [List.getElem?_append_left (by simpa using hi), List.getElem?_map] at h2
      cases e : vs[i]? with
      | none => rw [e] at h2; cases h2
      | some a => rw [e] at h2; cases h2; rfl
    obtain ⟨u, hu, rv⟩ := r.get ha
    have hp : ps[i]? = some y := by
      rw [← S.pre, List.getElem?_take_of_lt (by omega)]; exact h1
    have ndP : ps.Nodup := by rw [← S.pre]; exact S.nd.sublist (List.take_sublist _ _)
    refine ⟨u, rv, ?_⟩
    rcases S.par y (List.mem_of_getElem? hp) with k | k
    · exact .inl ⟨k, bindL_get ndP hp hu k⟩
    · obtain ⟨c, e⟩ := cell_has (n := s.heap.objs.size + 1) k
      refine .inr ⟨.inl k, c, e, ?_⟩
      have q := x.cell y c e
      rw [bindC_get ndP hp hu (by show scope.names.lookup y ≠ _; rw [k]; decide)] at q
      exact q
  · exact e0.hok.fresh (Nat.le_of_lt (x.above y c (PySem.mem_of_lookup h)))
  · unfold start
    show _ = N.length
    rw [List.length_append, List.length_map, List.length_replicate]
    omega
theorem fn_of {CX : CXT} {P : Program} {w : World} {K : PySem.W.Frag} {mg : Str → Option Value} {base : Heap} {k : Nat} {f : Addr} {name qual : Str} {params : Arguments} {body : List Stmt} {scope : Scope} {dV kV doc pm cdv ct oc : Value} {an od : Option Addr}
    {osl : Array (Option Value)} {N ps : List Str} {sp : Sp} (lk : K.lookup f = some ⟨oc, od, .func (PySem.W.fnOf name qual params body scope dV kV doc pm an cdv ct), osl⟩) (hcd : PySem.W.codeIn K cdv qual = true) (S : FnScope N ps scope)
    (len : ∀ vs H Q E, sp vs H Q E → vs.length = ps.length)
    (hbody : ∀ (A : Around) (outer : List Env) (s : Shared) (H : Hp) (vs : List V) (Q : VK) (E : XK), Room k (A.deeper (envOfC qual scope s.heap.objs.size f cdv)) → sp vs H Q E →
      ∃ t, PSs (cxOf CX P w K mg base N qual scope f cdv A outer s H E) body t ∧ t { nx := fun _ H' => Q .non H', rt := Q } (start N vs) H) :
    FnOk P w K mg base CX (k + 1) f (PySem.W.fnOf name qual params body scope dV kV doc pm an cdv ct) ps sp := by
  refine ⟨len, fun A outer s H args us vs Q E hr e0 hb r hsp => ?_⟩
  have hl := len _ _ _ _ hsp
  have KX : K.In s.heap := e0.mod.kin.keeps fun b o e => (e0.bs b o e).1
  have lim : s.heap.NoLimit := e0.mod.nolimit.keeps fun b o e => (e0.bs b o e).1
  have hkind : ∀ y ∈ ps.zip us, scope.names.lookup y.1 = some .local ∨ (scope.names.lookup y.1 = some .cell ∧ ((cellsFrom (s.heap.objs.size + 1) scope.names []).lookup y.1).isSome = true) := fun ⟨n, v⟩ hy => by
    rcases S.par n (List.of_mem_zip hy).1 with q | q
    · exact .inl q
    · exact .inr ⟨q, PySem.W.cellsFrom_some _ _ _ (.inl q)⟩
  refine codeAny_call_function hr.depth (KX _ _ lk) rfl S.co S.gen rfl (PySem.W.codeRec_of KX hcd) (hb _ _ _ _ ?_)
  refine wpAny_newFunctionEnv_cells S.kind hkind fun env he s1 x => ?_
  subst he
  refine ⟨lim.keeps x.toInCall.keep, codeAny_func ?_⟩
  obtain ⟨t, ht, hq⟩ := hbody A outer s H vs Q E (hr.deeper _) hsp
  have I : Inv (cxOf CX P w K mg base N qual scope f cdv A outer s H E) [] (start N vs) H s1 := inv_start S hr.hd e0 hl r x
  refine wpAny_mono (ht [] s1 (start N vs) H _ I hq) (fun fl s' hs => ?_) fun e s' hs => hs
  have fin : ∀ {σ' : St} {H' : Hp} {v : V} {u : Value}, Inv (cxOf CX P w K mg base N qual scope f cdv A outer s H E) [] σ' H' s' → RelV v u → Q v H' → CE outer P w H s Q u s' :=
    fun {σ' H' v u} J rv q => ⟨v, H', J.os, J.bare, J.base, J.hok, rv, q⟩
  cases fl with
  | ret u =>
    obtain ⟨v, σ', H', J, rv, q⟩ := hs
    exact fin J rv q
  | next =>
    obtain ⟨σ', H', J, q⟩ := hs
    exact fin (v := V.non) (u := Value.none) J rfl q
  | brk =>
    obtain ⟨_, _, _, q⟩ := hs
    exact False.elim q
  | cont =>
    obtain ⟨_, _, _, q⟩ := hs
    exact False.elim q
end L2
namespace L2
open PySem PySem.Spec PyProof.Rows
section
variable {X : Cx} {x : Str} {p pos : Pos} {e : Expr} {es : List Expr} {t : TA} {id T : String} {r : List V → Hp → VK → Prop}
def tCB (r : List V → Hp → VK → Prop) (t : TA) : TE := fun σ H Q => t σ H fun vs H1 => r vs H1 Q
theorem pe_callB (hc : CallR X (.builtin id) r) (hg : Gl X x) (hm : X.mg x = none) (hv : bootBuiltins x = some (.builtin id)) (ha : PA X (e :: es) t) (hn : x ≠ "__name__" := by decide) (hdb : (x == ("__debug__" : Str)) = false := by decide)
    (he : starEach (e :: es) X.env = (false, eval e X.env) :: starEach es X.env := by rfl) (hpl : (backTo pos (starEach es X.env)).any (·.1) = false := by rfl) : PE X (.Call (.Name x p) (e :: es) [] pos) (tCB r t) := by
  intro pins s σ H Q I h
  refine wpAny_Call_Name_kw (ld_blt I hg hm hv ?_ hn hdb)
  exact PyProof.Rows.callWith_builtin1 (thn (ha pos pins s σ H _ I h) fun us s1 ⟨vs, H1, I1, r1, q1⟩ => hc pins s1 σ H1 vs us Q I1 r1 q1) he hpl
theorem pe_callTy (hc : CallR X (.type T) r) (hg : Gl X x) (hm : X.mg x = none) (hv : bootBuiltins x = some (.type T)) (ha : PA X (e :: es) t) (hn : x ≠ "__name__" := by decide) (hdb : (x == ("__debug__" : Str)) = false := by decide)
    (he : starEach (e :: es) X.env = (false, eval e X.env) :: starEach es X.env := by rfl) (hpl : (backTo pos (starEach es X.env)).any (·.1) = false := by rfl) : PE X (.Call (.Name x p) (e :: es) [] pos) (tCB r t) := by
  intro pins s σ H Q I h
  refine wpAny_Call_Name_kw (ld_blt I hg hm hv ?_ hn hdb)
  exact PyProof.Rows.callWith_type1 (thn (ha pos pins s σ H _ I h) fun us s1 ⟨vs, H1, I1, r1, q1⟩ => hc pins s1 σ H1 vs us Q I1 r1 q1) he hpl
end
end L2
namespace HT
open PySem PyProof.Rows
section
open PySem.SeqAt
open PySem.AutoSeq1 (wpAny_loadPart')
open PySem.MeetsSeq PySem.MeetsSeq2 PySem.MeetsSeq3
end
section
variable {prog : Program} {w : World} {A : Around} {E : Value → Shared → Prop} {s : Shared}
theorem cat_tup {t b : Addr} {vs ws : List Value} {Q : Value → Shared → Prop} (ht : IsTup s.heap t vs.toArray) (hb : IsTup s.heap b ws.toArray) (hv : vs ≠ [])
    (h1 : ws = [] → Q (.ref t) s) (h2 : ws ≠ [] → Q (.ref s.heap.objs.size) { s with heap := s.heap.push { cls := .type "tuple", data := .seq (vs ++ ws).toArray } })
    (hsz : vs.length + ws.length ≤ sizeLine) : wpAny (model prog w) A (binaryOp .Add (.ref t) (.ref b)) Q E s := by
  obtain ⟨⟨cls, dd, data, sl⟩, ho, hc, n, hd⟩ := id ht
  obtain ⟨⟨cls2, dd2, data2, sl2⟩, ho2, hc2, n2, hd2⟩ := id hb
  simp only at hc hd hc2 hd2
  subst hc hd hc2 hd2
  have e : vs.toArray ++ ws.toArray = (vs ++ ws).toArray := by simp
  by_cases hw : ws = []
  · exact concat_meets ⟨_, ho, rfl⟩ ⟨_, ho2, rfl⟩ noFill_tuple_add seq_tuple_add PySem.F.slot_tuple_add PySem.F.entry_tuple_add (PySem.F.args_tuple_add_2 _ _)
      (tuple_addW1 t b vs.toArray ws.toArray n n2 dd dd2 sl sl2 (by simpa using hv) (by simp [hw])) ⟨ho, ho2, h1 hw⟩
  · refine concat_meets ⟨_, ho, rfl⟩ ⟨_, ho2, rfl⟩ noFill_tuple_add seq_tuple_add PySem.F.slot_tuple_add PySem.F.entry_tuple_add (PySem.F.args_tuple_add_2 _ _)
      (tuple_addW2 t b vs.toArray ws.toArray n n2 dd dd2 sl sl2 (by simpa using hv) (by simpa using hw) (by rw [List.size_toArray, List.size_toArray]; exact hsz)) ⟨ho, ho2, ?_⟩
    rw [e]
    exact h2 hw
def sIx (n d : Nat) : Option Int → Nat
  | none => d
  | some v => if v < 0 then (v + (n : Int)).toNat else min v.toNat n
theorem sIx_none (n d : Nat) : sIx n d none = d := rfl
theorem sIx_nat (n d k : Nat) : sIx n d (some (k : Int)) = min k n := by
  show (if (k : Int) < 0 then ((k : Int) + (n : Int)).toNat else min (k : Int).toNat n) = min k n
  rw [if_neg (by omega), Int.toNat_natCast]
theorem sIx_le (n d : Nat) (hd : d ≤ n) (o : Option Int) : sIx n d o ≤ n := by
  cases o with
  | none => exact hd
  | some v =>
    show (if v < 0 then (v + (n : Int)).toNat else min v.toNat n) ≤ n
    by_cases hv : v < 0
    · rw [if_pos hv]; omega
    · rw [if_neg hv]; exact Nat.min_le_right _ _
theorem clip_eq (v : Int) (n d : Nat) : (if v < 0 then max (v + (n : Int)) 0 else min v (n : Int)) = ((sIx n d (some v) : Nat) : Int) := by
  show (if v < 0 then max (v + (n : Int)) 0 else min v (n : Int)) = (((if v < 0 then (v + (n : Int)).toNat else min v.toNat n) : Nat) : Int)
  by_cases hv : v < 0
  · simp only [if_pos hv]; omega
  · simp only [if_neg hv]; omega
theorem adjust_gen (lo hi : Option Int) (n : Nat) : Builtin.Slice.sliceAdjust lo hi 1 (n : Int) = (((sIx n 0 lo : Nat) : Int), ((sIx n n hi : Nat) : Int)) := by
  have h1 : ¬ ((1 : Int) < 0) := by omega
  unfold Builtin.Slice.sliceAdjust
  simp only [h1, if_false]
  refine Prod.ext ?_ ?_
  · cases lo with
    | none => rfl
    | some v => exact clip_eq v n 0
  · cases hi with
    | none => rfl
    | some v => exact clip_eq v n n
theorem places_gen (i j : Nat) : Builtin.Slice.slicePlaces (i : Int) (j : Int) 1 = j - i := by
  unfold Builtin.Slice.slicePlaces
  have h1 : (1 : Int) > 0 := by omega
  simp only [h1, if_true, Int.ediv_one]
  split <;> omega
theorem slicePart_ {v : Value} {o : Option Int} {Q : Option Int → Shared → Prop} (p : IsPart v o) (h : Q o s) : wpAny (model prog w) A (Builtin.Slice.slicePartIndex v) Q E s := by
  cases p with
  | none => exact slicePart_none h
  | int i t => exact slicePart_int h
theorem sliceApplied_gen {sl : Addr} {vl vu : Value} {lo hi : Option Int} {n : Nat} {Q : Int × Int × Nat → Shared → Prop} (hs : s.heap.IsSliceOf sl vl vu .none) (pl : IsPart vl lo) (pu : IsPart vu hi)
    (h : Q (((sIx n 0 lo : Nat) : Int), 1, sIx n n hi - sIx n 0 lo) s) : wpAny (model prog w) A (Builtin.Slice.sliceApplied (.ref sl) (pure (n : Int))) Q E s := by
  obtain ⟨os, hos, hcs, hds⟩ := id hs
  unfold Builtin.Slice.sliceApplied Builtin.Slice.sliceFields
  refine wpAny_bind (wpAny_bind (wpAny_field hos hds (x := vl) rfl (wpAny_bind (wpAny_field hos hds (x := vu) rfl (wpAny_bind (wpAny_field hos hds (x := .none) rfl (wpAny_pure ?_)))))))
  refine wpAny_bind (slicePart_none ?_)
  show wpAny _ _ (if ((1 : Int) == 0) = true then _ else _) _ _ s
  rw [if_neg (by decide)]
  refine wpAny_bind (slicePart_ pl (wpAny_bind (slicePart_ pu (wpAny_bind (wpAny_pure ?_)))))
  show wpAny _ _ (match Builtin.Slice.sliceAdjust lo hi 1 (n : Int) with | (lo, hi) => pure (lo, (1 : Int), Builtin.Slice.slicePlaces lo hi 1)) _ _ s
  rw [adjust_gen lo hi n]
  show wpAny _ _ (pure (((sIx n 0 lo : Nat) : Int), (1 : Int), Builtin.Slice.slicePlaces ((sIx n 0 lo : Nat) : Int) ((sIx n n hi : Nat) : Int) 1)) _ _ s
  rw [places_gen]
  exact wpAny_pure h
theorem pick_gen (xs : Array Value) (i k : Nat) : ((List.range k).filterMap fun (m : Nat) => xs[((i : Int) + (m : Int) * 1).toNat]?).toArray = ((xs.toList.drop i).take k).toArray := by
  have e : (fun (m : Nat) => xs[((i : Int) + (m : Int) * 1).toNat]?) = fun m => xs[i + m]? := by
    funext m
    have : ((i : Int) + (m : Int) * 1).toNat = i + m := by omega
    rw [this]
  rw [e]
  have := pick_run xs i k
  rw [List.filterMap_map] at this
  have e2 : ((fun x => xs[x]?) ∘ fun x => i + x) = fun m => xs[i + m]? := rfl
  rw [e2] at this
  rw [this]
theorem getItem_tuple_cut {t sl : Addr} {items : Array Value} {vl vu : Value} {lo hi : Option Int} {Q : Value → Shared → Prop} (ht : IsTup s.heap t items) (hs : s.heap.IsSliceOf sl vl vu .none) (pl : IsPart vl lo) (pu : IsPart vu hi)
    (hw : ¬ (sIx items.size 0 lo = 0 ∧ sIx items.size items.size hi = items.size))
    (h : Q (.ref s.heap.objs.size) { s with heap := s.heap.push { cls := .type "tuple", data := .seq ((items.toList.drop (sIx items.size 0 lo)).take (sIx items.size items.size hi - sIx items.size 0 lo)).toArray } })
    (hsz : items.size ≤ sizeLine) : wpAny (model prog w) A (getItem (.ref t) (.ref sl)) Q E s := by
  have htake : sizeOk (.seq ((items.toList.drop (sIx items.size 0 lo)).take (sIx items.size items.size hi - sIx items.size 0 lo)).toArray) := by
    show ((items.toList.drop (sIx items.size 0 lo)).take (sIx items.size items.size hi - sIx items.size 0 lo)).toArray.size ≤ sizeLine
    rw [List.size_toArray, List.length_take, List.length_drop, Array.length_toList]
    omega
  have hj : sIx items.size items.size hi ≤ items.size := sIx_le _ _ (Nat.le_refl _) hi
  obtain ⟨os, hos, hcs, hds⟩ := id hs
  have hTs : s.TypeIs (.ref sl) "slice" := ⟨os, hos, hcs⟩
  unfold getItem
  try with_reducible refine wpAny_holding ?_
  first | refine wpAny_bind (wpAny_pure ?_) | skip
  refine wpAny_bind (wpAny_sequenceKey ht.typeIs (by decide) ?_)
  refine wpAny_bind (wpAny_callSpecial?_slot (name := Str.ofString "__getitem__") ht.typeIs PyProof.Rows.slot_tuple_getitem
    (wpAny_call_entry PyProof.Rows.slot_tuple_getitem ht.typeIs entry_tuple_getitem ?_ (args_tuple_getitem _ _)))
  show wpAny _ _ (Builtin.Tuple.tupleItemsOf (.ref t) >>= _) _ _ s
  refine wpAny_bind (tupleItemsOf_ ht ?_)
  refine wpAny_bind (wpAny_typeOf hTs ?_)
  rw [if_pos (by decide)]
  refine wpAny_bind (sliceApplied_gen hs pl pu ?_)
  have hno : ¬ ((((sIx items.size 0 lo : Nat) : Int) == 0 && (1 : Int) == 1 && (sIx items.size items.size hi - sIx items.size 0 lo) == items.size) = true) := by
    intro q
    rw [Bool.and_eq_true, Bool.and_eq_true] at q
    have q1 : ((sIx items.size 0 lo : Nat) : Int) = 0 := eq_of_beq q.1.1
    have q2 : sIx items.size items.size hi - sIx items.size 0 lo = items.size := eq_of_beq q.2
    exact hw ⟨by omega, by omega⟩
  show wpAny _ _ (if (((sIx items.size 0 lo : Nat) : Int) == 0 && (1 : Int) == 1 && (sIx items.size items.size hi - sIx items.size 0 lo) == items.size) = true then _ else _) _ _ s
  rw [if_neg hno, pick_gen]
  first
    | exact wpAny_bind (m := Builtin.Tuple.tupleExact _) (wpAny_newObj_type (wpAny_pure ⟨_, rfl, wpAny_pure h⟩) htake)
    | exact wpAny_bind (m := Builtin.Tuple.tupleExact _) (wpAny_newObj_type (wpAny_bind (wpAny_pure (wpAny_pure ⟨_, rfl, wpAny_pure h⟩))) htake)
    | exact wpAny_bind (wpAny_bind (m := Builtin.Tuple.tupleExact _) (wpAny_newObj_type (wpAny_pure (wpAny_pure ⟨_, rfl, wpAny_pure h⟩)) htake))
    | exact wpAny_bind (wpAny_bind (m := Builtin.Tuple.tupleExact _) (wpAny_newObj_type (wpAny_pure ⟨_, rfl, wpAny_pure h⟩) htake))
end
end HT
namespace L2
open PySem PySem.Spec PyProof.Rows
abbrev TO := St → Hp → (Option Int → Hp → Prop) → Prop
def PO (X : Cx) (e : Option Expr) (t : TO) : Prop :=
  ∀ (pins : List (Addr × Obj)) (s : Shared) (σ : St) (H : Hp) (Q : Option Int → Hp → Prop), Inv X pins σ H s → t σ H Q →
    wpAny (model X.prog X.w) X.A (evalPart e X.env) (fun u s' => ∃ o H', Inv X pins σ H' s' ∧ IsPart u o ∧ Q o H') X.xe s
def tNoPart : TO := fun _ H Q => Q none H
def tPart (t : TE) : TO := fun σ H Q => t σ H fun x H1 => ∃ i, x = .int i ∧ Q (some i) H1
theorem intsAre_of {ns : List Int} : ∀ {us : List Value}, Vals (ns.map V.int) us → IntsAre us ns := by
  induction ns with
  | nil => intro us r; rw [List.map_nil] at r; cases r; exact .nil
  | cons n ns ih =>
    intro us r
    rw [List.map_cons] at r
    cases r with
    | cons r1 r2 =>
      obtain ⟨t, e⟩ := r1
      subst e
      exact .cons n t (ih r2)
section
variable {X : Cx} {e : Expr} {te : TE} {lo hi : Option Expr} {tl th : TO} {pos p2 : Pos}
theorem po_none : PO X none tNoPart := by
  intro pins s σ H Q I h
  rw [evalPart_none]
  exact wpAny_pure ⟨none, H, I, .none, h⟩
theorem po_some (h : PE X e te) : PO X (some e) (tPart te) := by
  intro pins s σ H Q I hw
  rw [evalPart_some]
  refine thn (h pins s σ H _ I hw) fun u s1 ⟨x, H1, I1, r1, q1⟩ => ?_
  obtain ⟨i, rfl, q⟩ := q1
  obtain ⟨t, rfl⟩ := r1
  exact ⟨some i, H1, I1, .int i t, q⟩
def SlR (X : Cx) (r : V → Option Int → Option Int → Hp → VK → Prop) : Prop :=
  ∀ (pins : List (Addr × Obj)) (s : Shared) (σ : St) (H : Hp) (x : V) (v vl vu : Value) (lo hi : Option Int) (sl : Addr) (Q : VK), Inv X pins σ H s → RelV x v → s.heap.IsSliceOf sl vl vu .none → IsPart vl lo → IsPart vu hi → r x lo hi H Q →
    ∃ T id, typeLookup (.type T) "__getitem__" = pure (some (.builtin id)) ∧ s.TypeIs v T ∧ wpAny (model X.prog X.w) X.A (getItem v (.ref sl)) (EP X pins σ Q) X.xe s
theorem SlR.or {r r' : V → Option Int → Option Int → Hp → VK → Prop} (h : SlR X r) (h' : SlR X r') : SlR X (fun x lo hi H Q => r x lo hi H Q ∨ r' x lo hi H Q) := by
  intro pins s σ H x v vl vu lo hi sl Q I rx hs pl pu q
  rcases q with q | q
  · exact h pins s σ H x v vl vu lo hi sl Q I rx hs pl pu q
  · exact h' pins s σ H x v vl vu lo hi sl Q I rx hs pl pu q
def tSl (r : V → Option Int → Option Int → Hp → VK → Prop) (te : TE) (tl th : TO) : TE := fun σ H Q => te σ H fun x H1 => tl σ H1 fun l H2 => th σ H2 fun u H3 => r x l u H3 Q
theorem pe_slice {r : V → Option Int → Option Int → Hp → VK → Prop} (hr : SlR X r) (he : PE X e te) (hl : PO X lo tl) (hu : PO X hi th) : PE X (.Subscript e (.Slice lo hi none p2) pos) (tSl r te tl th) := by
  intro pins s σ H Q I h
  refine Subscript_ (thn (he pins s σ H _ I h) fun v s1 ⟨x, H1, I1, r1, q1⟩ => ?_)
  refine wpAny_Slice (thn (hl pins s1 σ H1 _ I1 q1) fun vl s2 ⟨l, H2, I2, pl, q2⟩ => thn (hu pins s2 σ H2 _ I2 q2) fun vu s3 ⟨u, H3, I3, pu, q3⟩ => ?_)
  rw [evalPart_none]
  refine wpAny_pure ?_
  have I4 : Inv X pins σ H3 { s3 with heap := s3.heap.push { cls := .type "slice", data := .fields #[vl, vu, .none] } } := I3.kept (t' := s3.toks) fun b ob q => Heap.get?_push_of_some _ q
  obtain ⟨T, id, hT, ht, hg⟩ := hr pins { s3 with heap := s3.heap.push { cls := .type "slice", data := .fields #[vl, vu, .none] } } σ H3 x v vl vu l u s3.heap.objs.size Q I4 r1 (Heap.IsSliceOf.new ..) pl pu q3
  show wpAny (model X.prog X.w) X.A (subscriptTail e (.Slice lo hi none p2) v (.ref s3.heap.objs.size)) (EP X pins σ Q) X.xe { s3 with heap := s3.heap.push { cls := .type "slice", data := .fields #[vl, vu, .none] } }
  exact tail_any (ops := [.ref s3.heap.objs.size, v]) ht hT hg (by with_unfolding_all rfl)
def cutV (xs : List V) (lo hi : Option Int) : List V := (xs.drop (HT.sIx xs.length 0 lo)).take (HT.sIx xs.length xs.length hi - HT.sIx xs.length 0 lo)
theorem cutV_length (xs : List V) (lo hi : Option Int) : (cutV xs lo hi).length ≤ xs.length := by
  unfold cutV
  rw [List.length_take, List.length_drop]
  omega
def rSlT (K : PySem.W.Frag) : V → Option Int → Option Int → Hp → VK → Prop := fun x lo hi H Q => ∃ a xs, x = .ref a ∧ SqT K H a xs ∧
  ¬ (HT.sIx xs.length 0 lo = 0 ∧ HT.sIx xs.length xs.length hi = xs.length) ∧ ∀ p, H p = none → Q (.ref p) (upd H p (.tup (cutV xs lo hi)))
theorem sl_tup : SlR X (rSlT X.K) := by
  intro pins s σ H x v vl vu lo hi sl Q I rx hs pl pu h
  obtain ⟨a, xs, rfl, hx, hw, q⟩ := h
  cases rx
  obtain ⟨its, r, ht, hz⟩ := I.tuple hx
  have hlen : its.toArray.size = xs.length := by rw [List.size_toArray]; exact r.length.symm
  refine ⟨"tuple", _, PyProof.Rows.slot_tuple_getitem.lookup, ht.typeIs, ?_⟩
  refine HT.getItem_tuple_cut ht hs pl pu (by rw [hlen]; exact hw) ?_ (by rw [hlen]; exact hz)
  rw [hlen]
  refine ⟨.ref s.heap.objs.size, _, I.laid (t' := s.toks) (o := .tup (cutV xs lo hi)) (fun b ob q => Heap.get?_push_of_some _ q) (Nat.le_refl _) ?_, rfl, q _ (I.hok.fresh (Nat.le_refl _))⟩
  exact ⟨Nat.le_trans (cutV_length xs lo hi) hz, _, (r.drop (HT.sIx xs.length 0 lo)).take (HT.sIx xs.length xs.length hi - HT.sIx xs.length 0 lo), IsTup.new _ _⟩
def rCatT (K : PySem.W.Frag) : R2 := fun x y H Q => ∃ a b xs ys, x = .ref a ∧ y = .ref b ∧ SqT K H a xs ∧ SqT K H b ys ∧ xs ≠ [] ∧ xs.length + ys.length ≤ sizeLine ∧
  (ys = [] → Q (.ref a) H) ∧ (ys ≠ [] → ∀ p, H p = none → Q (.ref p) (upd H p (.tup (xs ++ ys))))
theorem Vals.nil_iff {xs : List V} {us : List Value} (r : Vals xs us) : us = [] ↔ xs = [] := by
  cases r with
  | nil => simp
  | cons _ _ => simp
theorem op_catT : OpR X (binaryOp .Add) (rCatT X.K) := by
  intro pins s σ H x y v u Q I rx ry h
  obtain ⟨a, b, xs, ys, rfl, rfl, ha, hb, hx, hz, q1, q2⟩ := h
  cases rx
  cases ry
  obtain ⟨its, r1, p1, _⟩ := I.tuple ha
  obtain ⟨its2, r2, p2, _⟩ := I.tuple hb
  refine HT.cat_tup p1 p2 (fun z => hx (r1.nil_iff.mp z)) (fun z => ⟨.ref a, H, I, rfl, q1 (r2.nil_iff.mp z)⟩) (fun z => ?_) (by rw [← r1.length, ← r2.length]; exact hz)
  refine ⟨.ref s.heap.objs.size, _, I.laid (t' := s.toks) (o := .tup (xs ++ ys)) (fun b ob q => Heap.get?_push_of_some _ q) (Nat.le_refl _) ?_, rfl, q2 (fun w => z (r2.nil_iff.mpr w)) _ (I.hok.fresh (Nat.le_refl _))⟩
  exact ⟨by rw [List.length_append]; exact hz, _, r1.append r2, IsTup.new _ _⟩
end
end L2
namespace L2
open PySem PySem.Spec PyProof.Rows
def ixN (n : Nat) (i : Int) : Option Nat := if 0 ≤ i then (if i < n then some i.toNat else none) else if -(n : Int) ≤ i then some (i + n).toNat else none
def atI {α : Type} (xs : List α) (i : Int) : Option α := (ixN xs.length i).bind fun j => xs[j]?
theorem ixN_seq {n : Nat} {i : Int} {j : Nat} (h : ixN n i = some j) : seqIndex? i n = some j ∧ j < n ∧ -(n : Int) ≤ i ∧ i < n := by
  unfold ixN at h
  by_cases h0 : 0 ≤ i
  · rw [if_pos h0] at h
    by_cases h1 : i < n
    · rw [if_pos h1] at h
      have e : i.toNat = j := Option.some.inj h
      exact ⟨by rw [seqIndex_of h0 h1, e], by omega, by omega, h1⟩
    · rw [if_neg h1] at h; cases h
  · rw [if_neg h0] at h
    by_cases h1 : -(n : Int) ≤ i
    · rw [if_pos h1] at h
      have e : (i + n).toNat = j := Option.some.inj h
      exact ⟨by rw [seqIndex_neg (by omega) h1, e], by omega, h1, by omega⟩
    · rw [if_neg h1] at h; cases h
theorem atI_get {α : Type} {xs : List α} {i : Int} {v : α} (h : atI xs i = some v) : ∃ j, seqIndex? i xs.length = some j ∧ xs[j]? = some v ∧ j < xs.length ∧ -(xs.length : Int) ≤ i ∧ i < xs.length := by
  unfold atI at h
  cases e : ixN xs.length i with
  | none => rw [e] at h; cases h
  | some j =>
    rw [e] at h
    obtain ⟨h1, h2, h3, h4⟩ := ixN_seq e
    exact ⟨j, h1, h, h2, h3, h4⟩
def PlainIx (b : Expr) : Prop := ∀ o i, subscripted b false o i = operate [o, i] (getItem o i)
def IxR (X : Cx) (r : R2) : Prop :=
  ∀ (value slice : Expr) (pins : List (Addr × Obj)) (s : Shared) (σ : St) (H : Hp) (x y : V) (v u : Value) (Q : VK), Inv X pins σ H s → RelV x v → RelV y u → r x y H Q →
    subscripted slice false v u = operate [v, u] (getItem v u) → wpAny (model X.prog X.w) X.A (subscriptTail value slice v u) (EP X pins σ Q) X.xe s
def MtR (X : Cx) (id : String) (r : V → List V → Hp → VK → Prop) : Prop :=
  ∀ (pins : List (Addr × Obj)) (s : Shared) (σ : St) (H : Hp) (x : V) (xs : List V) (v : Value) (us : List Value) (Q : VK), Inv X pins σ H s → RelV x v → Vals xs us → r x xs H Q →
    wpAny (model X.prog X.w) X.A (call (.builtin id) (v :: us)) (EP X pins σ Q) X.xe s
section
variable {X : Cx} {a b : Expr} {ta tb : TE} {pos : Pos}
theorem IxR.or {r r' : R2} (h : IxR X r) (h' : IxR X r') : IxR X (fun x y H Q => r x y H Q ∨ r' x y H Q) := by
  intro value slice pins s σ H x y v u Q I rx ry q hs
  rcases q with q | q
  · exact h value slice pins s σ H x y v u Q I rx ry q hs
  · exact h' value slice pins s σ H x y v u Q I rx ry q hs
theorem pe_ix {r : R2} (hr : IxR X r) (ha : PE X a ta) (hb : PE X b tb) (hs : PlainIx b) : PE X (.Subscript a b pos) (tOp r ta tb) := by
  intro pins s σ H Q I h
  exact Subscript_ (binT ha hb I h fun v u s2 x y H2 I2 rx ry q => hr a b pins s2 σ H2 x y v u Q I2 rx ry q (hs _ _))
def rIxL (K : PySem.W.Frag) : R2 := fun x y H Q => ∃ p xs i v, x = .ref p ∧ y = .int i ∧ SqL K H p xs ∧ atI xs i = some v ∧ Q v H
def rIxT (K : PySem.W.Frag) : R2 := fun x y H Q => ∃ p xs i v, x = .ref p ∧ y = .int i ∧ SqT K H p xs ∧ atI xs i = some v ∧ Q v H
def rIxS : R2 := fun x y H Q => ∃ z i c, x = .str z ∧ y = .int i ∧ z.length ≤ sizeLine ∧ atI z.cps.toList i = some c ∧ Q (.str ⟨#[c]⟩) H
theorem ix_list : IxR X (rIxL X.K) := by
  intro value slice pins s σ H x y v u Q I rx ry h hs
  obtain ⟨p, xs, i, z, rfl, rfl, hq, he, q⟩ := h
  cases rx
  obtain ⟨t, rfl⟩ := ry
  obtain ⟨its, r, pl, hz⟩ := I.list hq
  obtain ⟨j, h1, h2, h3, h4, h5⟩ := atI_get he
  obtain ⟨w, ew, rw'⟩ := r.get h2
  have hl := r.length
  have hn := line63
  have fin : EP X pins σ Q w s := ⟨z, H, I, rw', q⟩
  by_cases h0 : 0 ≤ i
  · have hj : i.toNat = j := by
      rw [seqIndex_of h0 h5] at h1
      exact Option.some.inj h1
    exact item_listR pl.isList h0 (by omega) (by rw [hj]; simpa using ew) fin hs
  · have hj : (i + (its.toArray.size : Int)).toNat = j := by
      rw [seqIndex_neg (by omega) h4] at h1
      rw [List.size_toArray, ← hl]
      exact Option.some.inj h1
    exact subscriptTail_builtinR (x := w) pl.isList.typeIs slot_list_getitem.lookup
      (wpAny_getItem_list_neg (Q := fun r s' => r = w ∧ EP X pins σ Q r s') pl.isList (by omega) (by rw [List.size_toArray] <;> omega) (by omega) (by rw [hj]; simpa using ew) ⟨rfl, fin⟩) hs
theorem ix_tup : IxR X (rIxT X.K) := by
  intro value slice pins s σ H x y v u Q I rx ry h hs
  obtain ⟨p, xs, i, z, rfl, rfl, hq, he, q⟩ := h
  cases rx
  obtain ⟨t, rfl⟩ := ry
  obtain ⟨its, r, pl, hz⟩ := I.tuple hq
  obtain ⟨j, h1, h2, h3, h4, h5⟩ := atI_get he
  obtain ⟨w, ew, rw'⟩ := r.get h2
  have hl := r.length
  have hn := line63
  have fin : EP X pins σ Q w s := ⟨z, H, I, rw', q⟩
  exact subscriptTail_builtinR (x := w) pl.typeIs slot_tuple_getitem.lookup
    (getItem_tuple (j := j) (Q := fun r s' => r = w ∧ EP X pins σ Q r s') pl (by omega) (by omega) (by rw [List.size_toArray, ← hl]; exact h1) (by simpa using ew) ⟨rfl, fin⟩) hs
theorem ix_str : IxR X rIxS := by
  intro value slice pins s σ H x y v u Q I rx ry h hs
  obtain ⟨z, i, c, rfl, rfl, hz, he, q⟩ := h
  obtain ⟨t, rfl⟩ := rx
  obtain ⟨t', rfl⟩ := ry
  obtain ⟨j, h1, h2, h3, h4, h5⟩ := atI_get he
  have hl : z.cps.toList.length = z.length := by simp [Str.length]
  rw [hl] at h1 h4 h5
  have hn := line63
  exact tail_any (typeIs_str s z t) slot_str_getitem.lookup (getItem_str (c := c) (by
    have e1 : decide (i < -(2 ^ 63 : Int)) = false := decide_eq_false (by omega)
    have e2 : decide (i ≥ 2 ^ 63) = false := decide_eq_false (by omega)
    rw [e1, e2, Bool.or_false]) (by rw [h1]; simpa using h2) ⟨.str ⟨#[c]⟩, H, I.tok _, ⟨_, rfl⟩, q⟩) hs
def rIx (K : PySem.W.Frag) : R2 := fun x y H Q => rIxL K x y H Q ∨ rIxT K x y H Q ∨ rIxS x y H Q
theorem ix_seq : IxR X (rIx X.K) := ix_list.or (ix_tup.or ix_str)
theorem slice_bounds (lo hi : Option Int) (n : Nat) : (sliceBounds lo hi none n).1 = ((HT.sIx n 0 lo : Nat) : Int) ∧ (sliceBounds lo hi none n).2.1 = ((HT.sIx n n hi : Nat) : Int) ∧ (sliceBounds lo hi none n).2.2 = 1 := by
  refine ⟨?_, ?_, rfl⟩
  · cases lo with
    | none => simp [sliceBounds, HT.sIx]
    | some i =>
      simp only [sliceBounds, HT.sIx, Option.getD_none, show (1 : Int) > 0 by decide, if_true]
      by_cases h : i < 0
      · simp only [h, if_true] <;> omega
      · simp only [h, if_false] <;> omega
  · cases hi with
    | none => simp [sliceBounds, HT.sIx]
    | some i =>
      simp only [sliceBounds, HT.sIx, Option.getD_none, show (1 : Int) > 0 by decide, if_true]
      by_cases h : i < 0
      · simp only [h, if_true] <;> omega
      · simp only [h, if_false] <;> omega
theorem slicePick_cut (its : List Value) (lo hi : Option Int) : slicePick its.toArray lo hi none = ((its.drop (HT.sIx its.length 0 lo)).take (HT.sIx its.length its.length hi - HT.sIx its.length 0 lo)).toArray := by
  obtain ⟨h1, h2, h3⟩ := slice_bounds lo hi its.toArray.size
  unfold slicePick
  rw [h1, h2, h3]
  simp only [sliceRange_one, pick_run, List.size_toArray] <;> rfl
def rSlL (K : PySem.W.Frag) : V → Option Int → Option Int → Hp → VK → Prop := fun x lo hi H Q => ∃ a xs, x = .ref a ∧ SqL K H a xs ∧ ∀ p, H p = none → Q (.ref p) (upd H p (.lst (cutV xs lo hi)))
theorem sl_list : SlR X (rSlL X.K) := by
  intro pins s σ H x v vl vu lo hi sl Q I rx hs pl pu h
  obtain ⟨a, xs, rfl, hx, q⟩ := h
  cases rx
  obtain ⟨its, r, ht, hz⟩ := I.list hx
  have hlen := r.length
  refine ⟨"list", _, slot_list_getitem.lookup, ht.isList.typeIs, ?_⟩
  refine wpAny_getItem_list_slice ht.isList hs pl pu .none (by simp) ?_ (by rw [List.size_toArray] <;> omega)
  rw [slicePick_cut, ← hlen]
  refine ⟨.ref s.heap.objs.size, _, I.laid (t' := s.toks) (o := .lst (cutV xs lo hi)) (fun b ob q => Heap.get?_push_of_some _ q) (Nat.le_refl _) ?_, rfl, q _ (I.hok.fresh (Nat.le_refl _))⟩
  exact ⟨Nat.le_trans (cutV_length xs lo hi) hz, _, 0, (r.drop (HT.sIx xs.length 0 lo)).take (HT.sIx xs.length xs.length hi - HT.sIx xs.length 0 lo), Heap.get?_push_size _ rfl⟩
def flatV : V → Bool
  | .non => true
  | .bl _ => true
  | .int _ => true
  | .str _ => true
  | _ => false
def eqV : V → V → Bool
  | .non, .non => true
  | .bl a, .bl b => a == b
  | .bl a, .int b => (if a then 1 else 0) == b
  | .int a, .bl b => a == (if b then 1 else 0)
  | .int a, .int b => a == b
  | .str a, .str b => a == b
  | _, _ => false
theorem eqAt_V {A : Around} {s : Shared} {y x : V} {u v : Value} (ry : RelV y u) (rx : RelV x v) (fy : flatV y = true) (fx : flatV x = true) : SeqAt.EqAt A s u v (eqV y x) := by
  cases y with
  | non =>
    cases ry
    cases x with
    | non => cases rx; exact SeqAt.EqAt.same _
    | bl b => cases rx; exact SeqAt.EqAt.none_bool b
    | int b => obtain ⟨t, rfl⟩ := rx; exact SeqAt.EqAt.none_int b t
    | str b => obtain ⟨t, rfl⟩ := rx; exact SeqAt.EqAt.none_str b t
    | _ => exact absurd (show false = true from fx) Bool.false_ne_true
  | bl a =>
    cases ry
    cases x with
    | non => cases rx; exact SeqAt.EqAt.bool_none a
    | bl b => cases rx; exact SeqAt.EqAt.bool_bool a b
    | int b => obtain ⟨t, rfl⟩ := rx; exact SeqAt.EqAt.bool_int a b t
    | str b => obtain ⟨t, rfl⟩ := rx; exact SeqAt.EqAt.bool_str a b t
    | _ => exact absurd (show false = true from fx) Bool.false_ne_true
  | int a =>
    obtain ⟨t', rfl⟩ := ry
    cases x with
    | non => cases rx; exact SeqAt.EqAt.int_none a t'
    | bl b => cases rx; exact SeqAt.EqAt.int_bool a t' b
    | int b => obtain ⟨t, rfl⟩ := rx; exact SeqAt.EqAt.int_int a t' b t
    | str b => obtain ⟨t, rfl⟩ := rx; exact SeqAt.EqAt.int_str a t' b t
    | _ => exact absurd (show false = true from fx) Bool.false_ne_true
  | str a =>
    obtain ⟨t', rfl⟩ := ry
    cases x with
    | non => cases rx; exact SeqAt.EqAt.str_none a t'
    | bl b => cases rx; exact SeqAt.EqAt.str_bool a t' b
    | int b => obtain ⟨t, rfl⟩ := rx; exact SeqAt.EqAt.str_int a t' b t
    | str b => obtain ⟨t, rfl⟩ := rx; exact SeqAt.EqAt.str_str a t' b t
    | _ => exact absurd (show false = true from fx) Bool.false_ne_true
  | _ => exact absurd (show false = true from fy) Bool.false_ne_true
theorem call_len_seq : CallR X (.builtin "len") (fun xs H Q => ∃ p ys, xs = [.ref p] ∧ (SqL X.K H p ys ∨ SqT X.K H p ys) ∧ Q (.int ys.length) H) := by
  intro pins s σ H xs us Q I r h
  obtain ⟨p, ys, rfl, hq, q⟩ := h
  obtain ⟨u, rfl, rx⟩ := vals1 r
  cases rx
  have hn := line63
  rcases hq with hq | hq
  · obtain ⟨its, r', pl, hz⟩ := I.list hq
    have hlen := r'.length
    exact Calls.call_len_list pl.isList (by simp only [List.size_toArray] <;> omega) ⟨.int ys.length, H, I.tok _, ⟨s.toks + 1, by rw [List.size_toArray, hlen]⟩, q⟩
  · obtain ⟨its, r', pl, hz⟩ := I.tuple hq
    have hlen := r'.length
    exact len_tuple pl (by simp only [List.size_toArray] <;> omega) ⟨.int ys.length, H, I.tok _, ⟨s.toks + 1, by rw [List.size_toArray, hlen]⟩, q⟩
theorem call_len_str : CallR X (.builtin "len") (fun xs H Q => ∃ z, xs = [.str z] ∧ z.length ≤ sizeLine ∧ Q (.int z.length) H) := by
  intro pins s σ H xs us Q I r h
  obtain ⟨z, rfl, hz, q⟩ := h
  obtain ⟨u, rfl, t, rfl⟩ := vals1 r
  have hn := line63
  exact len_str (by omega) ⟨.int z.length, H, I.tok _, ⟨_, rfl⟩, q⟩
theorem CallR.or {f : Value} {r r' : List V → Hp → VK → Prop} (h : CallR X f r) (h' : CallR X f r') : CallR X f (fun xs H Q => r xs H Q ∨ r' xs H Q) := by
  intro pins s σ H xs us Q I rs q
  rcases q with q | q
  · exact h pins s σ H xs us Q I rs q
  · exact h' pins s σ H xs us Q I rs q
theorem call_list_of : CallR X (.type "list") (fun xs H Q => ∃ p ys, xs = [.ref p] ∧ (SqL X.K H p ys ∨ SqT X.K H p ys) ∧ ∀ l, H l = none → Q (.ref l) (upd H l (.lst ys))) := by
  intro pins s σ H xs us Q I r h
  obtain ⟨p, ys, rfl, hq, q⟩ := h
  obtain ⟨u, rfl, rx⟩ := vals1 r
  cases rx
  have fin : ∀ (its : List Value), Vals ys its → ys.length ≤ sizeLine → ∀ (h' : Heap) (c' : Nat), (∀ b o', s.heap.get? b = some o' → h'.get? b = some o') →
      h'.get? s.heap.objs.size = some { cls := .type "list", dict := none, data := .seq its.toArray c', slots := #[] } → EP X pins σ Q (.ref s.heap.objs.size) { s with heap := h' } := fun its r' hz h' c' kp e =>
    ⟨.ref s.heap.objs.size, _, I.laid (t' := s.toks) kp (Nat.le_refl _) (show ObjOk X.prog X.w _ h' _ (.lst ys) from ⟨hz, its, c', r', e⟩), rfl, q _ (I.hok.fresh (Nat.le_refl _))⟩
  rcases hq with hq | hq
  · obtain ⟨its, r', pl, hz⟩ := I.list hq
    have hlen := r'.length
    obtain ⟨o, ho, hc, n, hd⟩ := pl.isList
    exact call_list_seq p (.inl rfl) ho hc hd (fun h' c' kp e => fin its r' hz h' c' kp e) (by simp only [List.size_toArray] <;> omega)
  · obtain ⟨its, r', pl, hz⟩ := I.tuple hq
    have hlen := r'.length
    obtain ⟨o, ho, hc, n, hd⟩ := pl
    exact call_list_seq p (.inr rfl) ho hc hd (fun h' c' kp e => fin its r' hz h' c' kp e) (by simp only [List.size_toArray] <;> omega)
def tyV (K : PySem.W.Frag) (T : String) (x : V) (H : Hp) : Prop := match x with
  | .str _ => T = "str"
  | .int _ => T = "int"
  | .ref p => (T = "list" ∧ ∃ xs, SqL K H p xs) ∨ (T = "tuple" ∧ ∃ o, K.lookup p = some o ∧ o.cls = .type "tuple" ∧ o.dict = none) ∨
      (T = "dict" ∧ ((∃ kvs, H p = some (.dK kvs)) ∨ ∃ kvs, H p = some (.dT kvs))) ∨ (T = "set" ∧ ∃ S n, H p = some (.set S n))
  | _ => False
theorem tyV_is {pins : List (Addr × Obj)} {σ : St} {H : Hp} {s : Shared} {T : String} {x : V} {v : Value} (I : Inv X pins σ H s) (r : RelV x v) (ty : tyV X.K T x H) :
    s.TypeIs v T ∧ ∀ a, v = .ref a → ∃ ob, s.heap.get? a = some ob ∧ ob.dict = none := by
  cases x with
  | str z =>
    obtain ⟨t, rfl⟩ := r
    cases (show T = "str" from ty)
    exact ⟨typeIs_str s z t, fun _ e => nomatch e⟩
  | int i =>
    obtain ⟨t, rfl⟩ := r
    cases (show T = "int" from ty)
    exact ⟨typeIs_int s i t, fun _ e => nomatch e⟩
  | ref p =>
    cases r
    rcases ty with ⟨rfl, xs, hq⟩ | ⟨rfl, o, hk, hc, hd⟩ | ⟨rfl, hk⟩ | ⟨rfl, S, n, hk⟩
    · obtain ⟨its, _, pl, _⟩ := I.list hq
      refine ⟨pl.isList.typeIs, fun a e => ?_⟩
      cases e
      obtain ⟨o, n, e, c, hd, _⟩ := pl
      exact ⟨o, e, hd⟩
    · refine ⟨⟨o, I.kIn p o hk, hc⟩, fun a e => ?_⟩
      cases e
      exact ⟨o, I.kIn _ o hk, hd⟩
    · have z : ∃ o, s.heap.get? p = some o ∧ o.ExactDict := by
        rcases hk with ⟨kvs, hk⟩ | ⟨kvs, hk⟩
        · obtain ⟨_, _, _, _, o, _, _, e, ex, _⟩ := I.hok p _ hk
          exact ⟨o, e, ex⟩
        · obtain ⟨_, _, _, _, o, _, _, e, ex, _⟩ := I.hok p _ hk
          exact ⟨o, e, ex⟩
      obtain ⟨o, e, ex⟩ := z
      refine ⟨⟨o, e, ex.1⟩, fun a e2 => ?_⟩
      cases e2
      exact ⟨o, e, ex.2.1⟩
    · obtain ⟨o, _, _, _, e, ex, _⟩ := I.hok p _ hk
      refine ⟨⟨o, e, ex.1⟩, fun a e2 => ?_⟩
      cases e2
      exact ⟨o, e, ex.2.1⟩
  | _ => exact False.elim ty
def tBM (K : PySem.W.Frag) (T : String) (r : V → List V → Hp → VK → Prop) (to : TE) (t : TA) : TE := fun σ H Q => to σ H fun x H1 => tyV K T x H1 ∧ t σ H1 fun xs H2 => r x xs H2 Q
variable {o e : Expr} {es : List Expr} {to : TE} {t : TA} {name : Str} {apos cpos : Pos} {T id : String} {r : V → List V → Hp → VK → Prop}
theorem pe_bm (pa : PlainAttrs T) (slot : Slot T name id) (hty : typeOf (.builtin id) = pure (.type "method_descriptor")) (hm : MtR X id r) (ho : PE X o to) (ha : PA X (e :: es) t)
    (hbase : attributeBase o name X.env (eval o X.env) = eval o X.env := by rfl)
    (hfew : ((backTo cpos (starEach (e :: es) X.env)).all (fun x => !x.1) && (backToKw cpos (keywordEach [] X.env)).all (fun x => x.1.isSome)
      && decide ((e :: es).length + ([] : List Keyword).length + (if ([] : List Keyword).isEmpty then 0 else 1) < 30)) = true := by rfl)
    (hline : (apos.endLine == cpos.line) = true := by rfl) (hs : starEach (e :: es) X.env = (false, eval e X.env) :: starEach es X.env := by rfl) (hplain : (backTo cpos (starEach es X.env)).any (·.1) = false := by rfl) :
    PE X (.Call (.Attribute o name apos) (e :: es) [] cpos) (tBM X.K T r to t) := by
  intro pins s σ H Q I h
  refine wpAny_Call_method_late hbase hfew hline rfl (thn (ho pins s σ H _ I h) fun v s1 ⟨x, H1, I1, r1, ty, q1⟩ => ?_)
  obtain ⟨h1, h2⟩ := tyV_is I1 r1 ty
  refine ⟨T, id, pa, slot, hty, h1, h2, ?_⟩
  have hA := ha cpos pins s1 σ H1 _ I1 q1
  rw [hs] at hA ⊢
  refine Calls.callWith_builtin (by show (false || (backTo cpos (starEach es X.env)).any (·.1)) = false; rw [hplain] <;> rfl) (Calls.evalArgs_plain ?_)
  exact thn hA fun us s2 ⟨vs, H2, I2, r2, q2⟩ => hm pins s2 σ H2 x vs v us Q I2 r1 r2 q2
/- xs.append(e), list.index on a module's tuple .. are MtR facts of 06m -/
end
end L2
namespace L2
open PySem PySem.Spec PyProof.Rows
def MtM (X : Cx) (id : String) (r : V → List V → Hp → VK → Prop) : Prop :=
  ∀ (pins : List (Addr × Obj)) (s : Shared) (σ : St) (H : Hp) (x : V) (xs : List V) (v : Value) (us : List Value) (Q : VK), Inv X pins σ H s → RelV x v → Vals xs us → r x xs H Q →
    wpAny (model X.prog X.w) X.A (call (.builtin id) (v :: us)) (EP X pins σ Q) X.xe s
theorem Vals.one : ∀ {x : V} {us : List Value}, Vals [x] us → ∃ u, us = [u] ∧ RelV x u
  | _, _, .cons r .nil => ⟨_, rfl, r⟩
theorem Vals.two : ∀ {x y : V} {us : List Value}, Vals [x, y] us → ∃ u v, us = [u, v] ∧ RelV x u ∧ RelV y v
  | _, _, _, .cons r (.cons q .nil) => ⟨_, _, rfl, r, q⟩
theorem Vals.zero : ∀ {us : List Value}, Vals [] us → us = []
  | _, .nil => rfl
theorem Vals.rep {xs : List V} {us : List Value} (h : Vals xs us) : ∀ k : Nat, Vals (List.replicate k xs).flatten (List.replicate k us).flatten
  | 0 => .nil
  | k + 1 => by
    rw [List.replicate_succ, List.replicate_succ, List.flatten_cons, List.flatten_cons]
    exact Vals.append h (Vals.rep h k)
theorem foldl_rep (its : List Value) : ∀ (k : Nat) (acc : List Value),
    List.foldl (fun x1 x2 => x1 ++ x2) acc.toArray (List.replicate k its.toArray) = (acc ++ (List.replicate k its).flatten).toArray
  | 0, acc => by simp
  | k + 1, acc => by
    have e : acc.toArray ++ its.toArray = (acc ++ its).toArray := by simp
    have e2 : (acc ++ its) ++ (List.replicate k its).flatten = acc ++ (List.replicate (k + 1) its).flatten := by
      rw [List.replicate_succ, List.flatten_cons, List.append_assoc]
    rw [← e2, ← foldl_rep its k (acc ++ its), ← e, List.replicate_succ, List.foldl_cons]
section
variable {X : Cx} {pins : List (Addr × Obj)} {σ : St} {H : Hp} {s : Shared} {l b : Addr} {xs ys zs : List V}
theorem Inv.lset {its its' : List Value} {n : Nat} {f : Array Value → Array Value} {t' : Nat} (I : Inv X pins σ H s) (hH : H l = some (.lst xs))
    (e : s.heap.get? l = some { cls := .type "list", data := .seq its.toArray n }) (hf : f its.toArray = its'.toArray) (hv : Vals ys its') (hz : ys.length ≤ sizeLine) :
    Inv X pins σ (upd H l (.lst ys)) { s with heap := s.heap.update l (Obj.mapSeq f), toks := t' } := by
  have q := PySem.IsL.update e f
  rw [hf] at q
  refine I.write (x := l) (e := l) (by rw [hH]; exact trivial) (.inl rfl) (fun b' u hb hu => (Heap.get?_update_other s.heap (Obj.mapSeq f) (Ne.symm hb)).trans hu) ⟨_, q⟩ ?_
  exact ⟨hz, its', _, hv, q⟩
theorem Inv.lnew {its : List Value} {t' : Nat} (I : Inv X pins σ H s) (hv : Vals ys its) (hz : ys.length ≤ sizeLine) :
    Inv X pins σ (upd H s.heap.objs.size (.lst ys)) { s with heap := s.heap.push { cls := .type "list", data := .seq its.toArray }, toks := t' } :=
  I.laid (fun _ _ q => Heap.get?_push_of_some _ q) (Nat.le_refl _) ⟨hz, its, 0, hv, Heap.get?_push_size _ rfl⟩
theorem Inv.fresh (I : Inv X pins σ H s) : H s.heap.objs.size = none := I.hok.fresh (Nat.le_refl _)
theorem Inv.lstM (I : Inv X pins σ H s) (hH : H l = some (.lst xs)) : xs.length ≤ sizeLine ∧ ∃ (its : List Value) (n : Nat), Vals xs its ∧ xs.length = its.length ∧ s.heap.get? l = some { cls := .type "list", data := .seq its.toArray n } := by
  obtain ⟨z, its, n, r, e⟩ := I.hok l _ hH
  exact ⟨z, its, n, r, r.length, e⟩
theorem notLongL {n : Nat} (h : n ≤ sizeLine) : Builtin.List.listTooLong n = false := by
  unfold Builtin.List.listTooLong
  exact decide_eq_false (by omega)
end
section
variable {X : Cx}
def rAppend : V → List V → Hp → VK → Prop := fun x vs H Q => ∃ l xs y, x = .ref l ∧ vs = [y] ∧ H l = some (.lst xs) ∧ xs.length < sizeLine ∧ Q .non (upd H l (.lst (xs ++ [y])))
theorem mt_append : MtM X "list.append" rAppend := by
  intro pins s σ H x vs v us Q I rx rv h
  obtain ⟨l, xs, y, rfl, rfl, hH, hz, q⟩ := h
  cases rx
  obtain ⟨u, rfl, ru⟩ := rv.one
  obtain ⟨z, its, n, r, hl, e⟩ := I.lstM hH
  refine call_meets F.slot_list_append ⟨_, e, rfl⟩ F.entry_list_append (F.args_list_append_2 _ _) (PySem.list_append l its.toArray n u (by rw [List.size_toArray]; omega)) ⟨e, ?_⟩
  refine ⟨.non, _, I.lset (its' := its ++ [u]) hH e (by simp) (r.append (.cons ru .nil)) ?_, rfl, q⟩
  rw [List.length_append, List.length_singleton]
  omega
def rCat : R2 := fun x y H Q => ∃ l b xs zs, x = .ref l ∧ y = .ref b ∧ H l = some (.lst xs) ∧ H b = some (.lst zs) ∧ xs.length + zs.length ≤ sizeLine ∧ ∀ p, H p = none → Q (.ref p) (upd H p (.lst (xs ++ zs)))
theorem op_cat : OpR X (binaryOp .Add) rCat := by
  intro pins s σ H x y v u Q I rx ry h
  obtain ⟨l, b, xs, zs, rfl, rfl, hH, hB, hz, q⟩ := h
  cases rx
  cases ry
  obtain ⟨z, its, n, r, hl, e⟩ := I.lstM hH
  obtain ⟨z2, its2, n2, r2, hl2, e2⟩ := I.lstM hB
  refine PySem.P.add_list e e2 ?_ (by rw [List.size_toArray, List.size_toArray]; omega)
  have ea : its.toArray ++ its2.toArray = (its ++ its2).toArray := by simp
  rw [ea]
  exact ⟨.ref _, _, I.lnew (t' := s.toks) (r.append r2) (by rw [List.length_append]; omega), rfl, q _ I.fresh⟩
def rRep : R2 := fun x y H Q => ∃ l k xs, x = .ref l ∧ y = .int k ∧ H l = some (.lst xs) ∧ -(2 ^ 63) ≤ k ∧ k < 2 ^ 63 ∧ xs.length * k.toNat ≤ sizeLine ∧
  ∀ p, H p = none → Q (.ref p) (upd H p (.lst (List.replicate k.toNat xs).flatten))
theorem len_rep {α : Type} (xs : List α) (k : Nat) : (List.replicate k xs).flatten.length = k * xs.length := by
  induction k with
  | zero => simp
  | succ k ih => rw [List.replicate_succ, List.flatten_cons, List.length_append, ih, Nat.succ_mul, Nat.add_comm]
theorem op_rep : OpR X (binaryOp .Mult) rRep := by
  intro pins s σ H x y v u Q I rx ry h
  obtain ⟨l, k, xs, rfl, rfl, hH, h1, h2, hz, q⟩ := h
  cases rx
  obtain ⟨t, rfl⟩ := ry
  obtain ⟨z, its, n, r, hl, e⟩ := I.lstM hH
  have hlen : its.toArray.size * k.toNat ≤ sizeLine := by rw [List.size_toArray, ← hl]; exact hz
  have hcap : ¬ its.toArray.size * k.toNat > (2 ^ 63 - 1) / 8 := by
    have : (sizeLine : Nat) ≤ (2 ^ 63 - 1) / 8 := by decide
    omega
  have hfit : ¬ (!Builtin.List.listFitsIndex k) = true := by
    rw [fitsIndex_both h1 h2]
    exact Bool.false_ne_true
  have hlong : ¬ Builtin.List.listTooLong (its.toArray.size * k.toNat) = true := by
    rw [notLongL hlen]
    exact Bool.false_ne_true
  have hnew : List.foldl (fun x1 x2 => x1 ++ x2) #[] (List.replicate (if its.toArray.isEmpty = true then 0 else k.toNat) its.toArray) = (List.replicate k.toNat its).flatten.toArray := by
    have f0 : ∀ m : Nat, List.foldl (fun x1 x2 => x1 ++ x2) #[] (List.replicate m its.toArray) = (List.replicate m its).flatten.toArray := fun m => by
      have := foldl_rep its m []
      rw [List.nil_append] at this
      exact this
    rw [f0]
    cases its with
    | nil => simp
    | cons a r' => rw [if_neg (by simp)]
  refine wpAny_binaryOp_repeat_ref (T := "list") (U := "int") (by decide) ⟨_, e, rfl⟩ (fun s' => typeIs_int s' k t) noFill_list_mul F.fills_int_mul F.slot_int_rmul repeat_list F.slot_int_index.lookup
    (call_meets F.slot_int_rmul (typeIs_int s k t) F.entry_int_rmul (F.args_int_rmul_2 _ _) (int___rmul___int_list k t l its.toArray n)
      ⟨e, rfl, ⟨_, e, rfl⟩, call_meets F.slot_list_mul ⟨_, e, rfl⟩ F.entry_list_mul (F.args_list_mul_2 _ _) (AutoListH.list___mul___list_int_3 l its.toArray n k t hfit hcap hlong) ⟨e, ?_⟩⟩)
  rw [hnew]
  exact ⟨.ref _, _, I.lnew (t' := s.toks) (r.rep k.toNat) (by rw [len_rep, Nat.mul_comm]; exact hz), rfl, q _ I.fresh⟩
end
section
variable {prog : Program} {w : World} {A : Around} {E : Value → Shared → Prop} {s : Shared}
end
section
variable {X : Cx}
end
end L2
namespace Att
open PySem PySem.W PySem.Calls PyProof.Rows
theorem ints_of_wellAll {P : Params} {h : Heap} : ∀ (ns : List Int) (vs : List Value), WellAll P h vs (ns.map WData.int) → IntsAre vs ns := by
  intro ns
  induction ns with
  | nil =>
    intro vs w
    rw [List.map_nil] at w
    cases w
    exact .nil
  | cons n ns ih =>
    intro vs w
    rw [List.map_cons] at w
    cases w with
    | cons a b =>
      cases a
      exact .cons _ _ (ih _ b)
theorem script_of {l : OpenLaw} {n : Nat} (hn : l.most = some n) {P : Params} {h : Heap} {args : List WData} {vals : List Value}
    (hpre : l.row.toRowW.claim.pre args = true) (hwl : WellAll P h vals args) :
    ∃ a vs ns, vals = [Value.ref a] ∧ args = [WData.list (ns.map WData.int)] ∧ h.get? a = some { cls := .type "list", data := .seq vs.toArray } ∧ IntsAre vs ns ∧ ns.length ≤ n := by
  have hsh : WShape.hasAll [] args [.list .int] = true := (pre_splitW hpre).1
  have hc : l.pre.holds [] { args := args } = true := (pre_splitW hpre).2
  obtain ⟨d, r, rfl, h1, h2⟩ := hasAllW_cons hsh
  obtain rfl := hasAllW_nil h2
  obtain ⟨xs, rfl, h3⟩ := hasW_list h1
  obtain ⟨ns, rfl⟩ := items_int h3
  have hlen : ns.length ≤ n := by
    unfold OpenLaw.pre at hc
    have h4 : (WTm.not (.lt (.lit (.int (n : Int))) (.len (.arg 0)))).holds [] { args := [.list (ns.map .int)] } = true := by
      have h4 := (holds_andW hc).1
      rw [hn] at h4
      exact h4
    have h5 := condW_of h4 (w_not (w_lt w_lit (w_len_list (w_arg rfl))))
    rw [List.length_map] at h5
    refine Nat.le_of_not_lt fun q => ?_
    have q' : (n : Int) < ((ns.length : Nat) : Int) := by omega
    first
      | (rw [decide_eq_true q'] at h5; exact absurd h5 (by decide))
      | (simp at h5; omega)
  cases hwl with
  | cons w1 w2 =>
    cases w2
    cases w1 with
    | list ho hall => exact ⟨_, _, ns, rfl, rfl, ho, ints_of_wellAll ns _ hall, hlen⟩
theorem post_true (l : OpenLaw) (args : List WData) : l.row.toRowW.claim.post args (.bool true) args = true :=
  postW_of (r := l.row.toRowW) (X := (true == true))
    (show WShape.has [] (.bool true) .bool = true by first | rfl | decide | simp [WShape.has, WShape.arms, WShape.armsAll])
    (show (WTm.eq .res (.lit (.bool true))).value [] { args := args, res := some (.bool true), after := args } = some (.bool (true == true)) from w_eq_bool (w_res rfl) w_lit) rfl
theorem attach_call {l : OpenLaw} {n : Nat} {q : Program} {loose : List Str} {XP : (Str → Option Value) → Heap → Prop} {YP : World → Heap → Prop} {d : DefRec}
    (hn : l.most = some n) (hdf : d.params.defaults = [])
    (call : ∀ (w : World) (s₀ s₁ : Shared) (mg mb : Str → Option Value) (fa : Addr) (o : Obj) (pm cd doc : Value) (a : Addr) (vs : List Value) (ns : List Int),
      Ground q loose [] XP w s₀ mg mb s₁.heap → YP w s₁.heap →
      s₁.heap.get? fa = some o → o.data = .func (docDef d.name d.params d.body d.scope pm cd doc) → s₁.heap.CodeRec cd d.name → mg d.name = some (.ref fa) →
      s₁.heap.get? a = some { cls := .type "list", data := .seq vs.toArray } → IntsAre vs ns → ns.length ≤ n → s₁.gens = #[] →
      codeAny (model l.prog w) callerA (.call (.ref fa) ⟨[.ref a], []⟩) (fun r s' => r = .ok (.ret (.bool true)) ∧ OldK s₁.heap s'.heap ∧ s'.os = s₁.os ∧ AllBare s'.gens) s₁) :
    WalkO q loose XP YP l.row.toRowW d [] (fun f vs => PySem.call f vs) := by
  intro w s₀ s₁ mg mb G Y fa o pm cd doc dV kV ho hd hcd hD hmg hg args vals as hpre hlay hrd hwl hlo
  obtain rfl : dV = .none := Dflts.none hD hdf
  obtain rfl : kV = .none := Dflts.noKw hD
  obtain ⟨a, vs, ns, rfl, rfl, hobj, hints, hlen⟩ := script_of hn hpre hwl
  refine enter_call (codeAny_mono (call w s₀ s₁ mg mb fa o pm cd doc a vs ns G Y ho (fd_plain hd) hcd hmg hobj hints hlen hg) fun r s' hq => ?_)
  obtain ⟨rfl, h2, h3, h4⟩ := hq
  exact ⟨.inl ⟨.bool true, .bool true, [], rfl, fun _ => rfl, .bool true, post_true l _, fun _ => ⟨List.Pairwise.nil, fun _ hm => (nomatch hm)⟩⟩, h2, h3, h4⟩
section
variable {prog : Program} {w : World} {A : Around} {E : Value → Shared → Prop} {s : Shared} {K : Frag}
end
end Att
namespace L2
open PySem PySem.Spec PyProof.Rows
theorem vals_ints : ∀ {vs : List Value} {ns : List Int}, IntsAre vs ns → Vals (ns.map V.int) vs
  | _, _, .nil => .nil
  | _, _, .cons n t h => .cons ⟨t, rfl⟩ (vals_ints h)
def Only (H : Hp) : Prop := ∀ b, H b = none ∨ ∃ o xs, H b = some (.frz o (.lst xs))
theorem law_call {P : Program} {w : World} {K : PySem.W.Frag} {mg mb : Str → Option Value} {CX : CXT} {k : Nat} {fa a : Addr} {fd : FuncData} {x : Str} {sp : Sp} {s₁ : Shared} {vs : List Value} {ns : List Int}
    (KX : K.In s₁.heap) (hns : s₁.heap.Ns mainGlobals mg) (hb : s₁.heap.Ns builtinsNs mb) (hbb : ∀ x : Str, x ≠ "__name__" → mb x = bootBuiltins x) (hlim : s₁.heap.NoLimit) (hg : s₁.gens = #[])
    (ha : s₁.heap.get? a = some { cls := .type "list", data := .seq vs.toArray }) (hi : IntsAre vs ns) (hl : ns.length ≤ sizeLine) (hr : Room k callerA)
    (F : ∀ base : Heap, K.In base → base.Ns mainGlobals mg → FnOk P w K mg base CX k fa fd [x] sp) (hbind : ∀ (s : Shared) (u : Value), BindsTo s fd ⟨[u], []⟩ [(x, u)])
    (hsp : ∀ H : Hp, Only H → SqL K H a (ns.map V.int) → sp [.ref a] H (fun v _ => v = .bl true) fun _ _ _ => False)
    (hCX : ∀ H e s', CX [] H s₁ (fun _ _ _ => False) e s' → False) :
    codeAny (model P w) callerA (.call (.ref fa) ⟨[.ref a], []⟩) (fun r s' => r = .ok (.ret (.bool true)) ∧ OldK s₁.heap s'.heap ∧ s'.os = s₁.os ∧ AllBare s'.gens) s₁ := by
  have rv := vals_ints hi
  have lenV := hi.length
  -- from an abstract heap in which nothing but the script may be tracked
  have core : ∀ H : Hp, Only H → SqL K H a (ns.map V.int) → HOk P w H s₁.heap → (∀ b, H b ≠ none → b = a) → (H a ≠ none → K.lookup a = none) →
      codeAny (model P w) callerA (.call (.ref fa) ⟨[.ref a], []⟩) (fun r s' => r = .ok (.ret (.bool true)) ∧ OldK s₁.heap s'.heap ∧ s'.os = s₁.os ∧ AllBare s'.gens) s₁ := by
    intro H hO hS hok hA hK
    have base_of : ∀ {b : Addr} {o : Obj}, s₁.heap.get? b = some o → H b = none → (hidT s₁.heap H).get? b = some o := fun e n => hidT_get e n
    have noA : ∀ {b : Addr} {o : Obj} {es : Array DictEntry} {ep : Nat}, s₁.heap.get? b = some o → o.data = .dict es ep → H b = none := fun {b o es ep} e d => by
      cases q : H b with
      | none => rfl
      | some u =>
        have e' : b = a := hA b (by rw [q]; simp)
        subst e'
        rw [ha] at e; cases e
        have d' : Data.seq vs.toArray _ = Data.dict es ep := d
        cases d'
    have nsK : ∀ {b : Addr} {m : Str → Option Value}, s₁.heap.Ns b m → (hidT s₁.heap H).Ns b m := fun {b m} ⟨o, es, ep, e, d, r⟩ => ⟨o, es, ep, base_of e (noA e d), d, r⟩
    have hKb : K.In (hidT s₁.heap H) := fun b o e => base_of (KX b o e) (by
      cases q : H b with
      | none => rfl
      | some u =>
        have e' : b = a := hA b (by rw [q]; simp)
        subst e'
        rw [hK (by rw [q]; simp)] at e; cases e)
    have hM : Mod K mg (hidT s₁.heap H) := ⟨hKb, nsK hns, ⟨mb, nsK hb, hbb⟩, let ⟨mc, h1, h2⟩ := hlim; ⟨mc, nsK h1, h2⟩⟩
    have e0 : Env0 P w K mg (hidT s₁.heap H) callerA [] s₁ H := ⟨rfl, hM, fun b o e => of_hidT e, Nat.le_of_eq (hidT_size _ _), trivial, fun b hb => absurd (show b ∈ ([] : List Addr) from hb) (by simp), hok, .of_eq hg⟩
    refine codeAny_mono ((F _ hKb (nsK hns)).run callerA [] s₁ H ⟨[.ref a], []⟩ [.ref a] [.ref a] _ _ hr e0 (hbind s₁ (.ref a)) (.cons rfl .nil) (hsp H hO hS)) fun r s' h => ?_
    cases r with
    | error e => exact (hCX H e s' h).elim
    | ok fl =>
      cases fl with
      | next => exact False.elim h
      | brk => exact False.elim h
      | cont => exact False.elim h
      | ret u =>
        obtain ⟨v, H', os, bare, un, hok', r', q⟩ := h
        have q' : v = .bl true := q
        subst q'
        obtain rfl : u = Value.bool true := r'
        refine ⟨rfl, OldK.of_keep fun b o e => ?_, os, bare⟩
        cases q : H b with
        | none => exact un.keep b o e q (by intro z; exact absurd (show b ∈ ([] : List Addr) from z) (by simp)) (by simp)
        | some u =>
          rcases hO b with z | ⟨ob, xs, z⟩
          · rw [q] at z; cases z
          · have z2 := un.frzs b ob _ z
            obtain ⟨e1, _⟩ := hok b _ z
            obtain ⟨e2, _⟩ := hok' b _ z2
            rw [e] at e1; cases e1
            exact e2
  cases hk : K.lookup a with
  | some o =>
    -- the script is one of the module's own objects
    have e := KX a o hk
    rw [ha] at e
    cases e
    refine core (fun _ => none) (fun _ => .inl rfl) (.inr ⟨_, vs.toArray, _, hk, rfl, rfl, rfl, by rw [List.size_toArray, lenV]; exact hl, by simpa using rv⟩) (fun b u z => by have z' : (none : Option HO) = some u := z; cases z') (fun b z => absurd rfl z) fun z => absurd rfl z
  | none =>
    refine core (fun b => if b = a then some (.frz { cls := .type "list", data := .seq vs.toArray } (.lst (ns.map V.int))) else none) (fun b => ?_) (.inl (.inr ⟨{ cls := .type "list", data := .seq vs.toArray }, if_pos rfl⟩)) (fun b u z => ?_) (fun b z => ?_) fun _ => hk
    · by_cases hb : b = a
      · exact .inr ⟨_, _, if_pos hb⟩
      · exact .inl (if_neg hb)
    · by_cases hb : b = a
      · have z' := (if_pos hb).symm.trans z
        cases z'
        subst hb
        exact ⟨ha, by rw [List.length_map]; exact hl, vs, _, rv, ha⟩
      · have z' := (if_neg hb).symm.trans z
        cases z'
    · by_cases hb : b = a
      · exact hb
      · exact absurd (if_neg hb) z
end L2
namespace L2
open PySem PySem.Spec PyProof.Rows
abbrev KOf {K : PySem.W.Frag} {h : Heap} (_ : K.In h) : PySem.W.Frag := K
theorem walk_of {l : PySem.W.OpenLaw} {n k : Nat} {q : Program} {loose : List Str} {XP : (Str → Option Value) → Heap → Prop} {YP : World → Heap → Prop} {d : DefRec} {K : Params → PySem.W.Frag} {CX : World → CXT} {sp : World → Sp} {x : Str}
    (hn : l.most = some n) (hn2 : n ≤ sizeLine) (hdf : d.params.defaults = []) (hr : Room k callerA)
    (hY : ∀ (w : World) (h : Heap), YP w h → (K w.params).In h)
    (F : ∀ (w : World) (mg : Str → Option Value) (fa : Addr) (h : Heap), (K w.params).In h → h.Ns mainGlobals mg → mg d.name = some (.ref fa) →
      ∃ fd : FuncData, (∀ (s : Shared) (u : Value), BindsTo s fd ⟨[u], []⟩ [(x, u)]) ∧
        ∀ base : Heap, (K w.params).In base → base.Ns mainGlobals mg → FnOk l.prog w (K w.params) mg base (CX w) k fa fd [x] (sp w))
    (hsp : ∀ (w : World) (H : Hp) (a : Addr) (ns : List Int), ns.length ≤ n → Only H → SqL (K w.params) H a (ns.map V.int) → sp w [.ref a] H (fun v _ => v = .bl true) fun _ _ _ => False)
    (hCX : ∀ (w : World) (H : Hp) (s : Shared) (e : Value) (s' : Shared), CX w [] H s (fun _ _ _ => False) e s' → False) :
    PySem.W.WalkO q loose XP YP l.row.toRowW d [] (fun f vs => PySem.call f vs) := by
  refine Att.attach_call hn hdf fun w s₀ s₁ mg mb fa o pm cd doc a vs ns G Y ho hd hcd hmg hobj hints hlen hg => ?_
  have KX := hY w _ Y
  obtain ⟨fd, hb, hF⟩ := F w mg fa _ KX G.T.g hmg
  exact law_call KX G.T.g G.T.b G.T.builtins G.T.nolimit hg hobj hints (Nat.le_trans hlen hn2) hr hF hb (fun H hO hS => hsp w H a ns hlen hO hS) fun H e s' => hCX w H s₁ e s'
end L2
/- THE LAST THEOREM (shape; LID, My.* are yours):
   My.Adr: a structure of the addresses that your layer names (classes, functions); My.Txt K t: a structure (Prop) of the equations over K;
   My.txt_mk : {K} {implicit addresses ..} (e1 : nsIn K mainGlobals "law" = some (some (.ref f))) (e2 : K.lookup f = some ⟨oc, od, .func (fnOf "law" "law" params body scope dV kV doc pm an cdv ct), sl⟩) (e3 : codeIn K cdv "law" = true) .. : ∃ t, My.Txt K t

set_option maxRecDepth 100000 in
set_option maxHeartbeats 0 in
theorem PySem.Challenge.cw_LID_holds : PySem.Challenge.rw_LID.Holds := by
  w_on; o_law; k_head; (case hw => w_witness2)
  k_fill
  refine L2.walk_of (l := PySem.Challenge.rw_LID) (n := 63) (k := 40) (x := "script") (CX := fun w => ..) (sp := fun _ => My.sp_law) rfl (by decide) rfl ⟨rfl, by decide, by decide⟩ (fun w h Y => PySem.W.kIn_of Y) ?F ?S ?C
  case F =>
    intro w mg fa h KX G hmg
    have T : ∃ t, My.Txt (L2.KOf KX) t := by
      dsimp only [L2.KOf]                          -- K must stand as «<heap const> w.params» for k_is
      refine' My.txt_mk ?e1 ?e2 ?e3 ..
      (case e1 => PySem.W.k_is)                    -- in the order: a name -> its address -> its object -> its parts
      (case e2 => PySem.W.k_is)
      ..
    obtain ⟨t, T⟩ := T
    have e0 := hmg.symm.trans (PySem.W.mg_of KX G T.law)
    cases e0                                       -- fa is the law's own address
    exact ⟨_, fun s u => .of_eq rfl, fun base kb nb => My.law_fn T kb nb⟩     -- if «.of_eq rfl» comes too early: refine' ⟨_, ?b, fun base kb nb => My.law_fn T kb nb⟩; exact fun s u => .of_eq rfl
  case S => exact fun w H a ns hl hO hS => ..
  case C => exact ..
(the tactic k_is has no namespace: write k_is) -/
namespace L2
open PySem PySem.Spec PyProof.Rows
def inClass (s : Stmt) (j : Nat) : Stmt := match s with
  | .ClassDef _ _ _ body _ _ _ _ _ _ _ => body.getD j (.Pass ⟨0, 0, 0, 0⟩)
  | _ => .Pass ⟨0, 0, 0, 0⟩
def defArgs (s : Stmt) : Arguments := match s with
  | .FunctionDef _ a _ _ _ _ _ _ _ _ => a
  | _ => { posonlyargs := [], args := [], vararg := none, kwonlyargs := [], kw_defaults := [], kwarg := none, defaults := [] }
def defBody (s : Stmt) : List Stmt := match s with
  | .FunctionDef _ _ b _ _ _ _ _ _ _ => b
  | _ => []
def defScope (s : Stmt) : Scope := match s with
  | .FunctionDef _ _ _ _ _ _ sc _ _ _ => sc
  | _ => { kind := .function, names := [], isGenerator := false, isCoroutine := false }
abbrev CX0 : CXT := fun _ _ _ _ _ _ => False
abbrev E0 : XK := fun _ _ _ => False
theorem pass0 {X : Cx} : Passes CX0 X E0 := fun _ _ _ _ _ _ _ h => h.elim
structure Fun (K : PySem.W.Frag) (x qual : Str) (st : Stmt) (f : Addr) (fd : FuncData) : Prop where
  ex : ∃ (oc : Value) (od : Option Addr) (kV doc pm : Value) (an : Option Addr) (cdv ct : Value) (osl : Array (Option Value)),
    fd = PySem.W.fnOf x qual (defArgs st) (defBody st) (defScope st) .none kV doc pm an cdv ct ∧ K.lookup f = some ⟨oc, od, .func fd, osl⟩ ∧ PySem.W.codeIn K cdv qual = true
  kp : PySem.W.keepIn K (.ref f) = true
section
variable {P : Program} {w : World} {K : PySem.W.Frag} {mg : Str → Option Value} {base : Heap}
theorem Fun.ok {x qual : Str} {st : Stmt} {f : Addr} {fd : FuncData} {N ps : List Str} {k : Nat} {sp : Sp} (F : Fun K x qual st f fd) (S : FnScope N ps (defScope st)) (len : ∀ vs H Q E, sp vs H Q E → vs.length = ps.length)
    (hbody : ∀ (cdv : Value) (A : Around) (outer : List Env) (s : Shared) (H : Hp) (vs : List V) (Q : VK) (E : XK), Room k (A.deeper (envOfC qual (defScope st) s.heap.objs.size f cdv)) → sp vs H Q E →
      ∃ t, PSs (cxOf CX0 P w K mg base N qual (defScope st) f cdv A outer s H E).nox (defBody st) t ∧ t { nx := fun _ H' => Q .non H', rt := Q } (start N vs) H) : FnOk P w K mg base CX0 (k + 1) f fd ps sp := by
  obtain ⟨oc, od, kV, doc, pm, an, cdv, ct, osl, rfl, lk, hcd⟩ := F.ex
  refine fn_of lk hcd S len fun A outer s H vs Q E hr hsp => ?_
  obtain ⟨t, h, q⟩ := hbody cdv A outer s H vs Q E hr hsp
  exact ⟨t, h.nox, q⟩
theorem Fun.binds {x qual : Str} {st : Stmt} {f : Addr} {fd : FuncData} {ps : List Str} (F : Fun K x qual st f fd)
    (h : ∀ (kV doc pm : Value) (an : Option Addr) (cdv ct : Value) (us : List Value), us.length = ps.length → bindArgs (PySem.W.fnOf x qual (defArgs st) (defBody st) (defScope st) .none kV doc pm an cdv ct) ⟨us, []⟩ = pure (ps.zip us)) : Binds K fd ps [] := by
  obtain ⟨oc, od, kV, doc, pm, an, cdv, ct, osl, rfl, lk, hcd⟩ := F.ex
  exact .all (h kV doc pm an cdv ct)
theorem fun_mk {x qual : Str} {st : Stmt} {f : Addr} {oc : Value} {od an : Option Addr} {osl : Array (Option Value)} {kV doc pm cdv ct : Value} (l : K.lookup f = some ⟨oc, od, .func (PySem.W.fnOf x qual (defArgs st) (defBody st) (defScope st) .none kV doc pm an cdv ct), osl⟩)
    (c : PySem.W.codeIn K cdv qual = true) (k : PySem.W.keepIn K (.ref f) = true) : Fun K x qual st f (PySem.W.fnOf x qual (defArgs st) (defBody st) (defScope st) .none kV doc pm an cdv ct) := ⟨⟨oc, od, kV, doc, pm, an, cdv, ct, osl, rfl, l, c⟩, k⟩
end
section
variable {X : Cx}
theorem pv (i : Nat) {x : Str} {pos : Pos} (hN : X.N[i]? = some x := by rfl) (hv : Vis X.env.scope x := by first | exact Or.inl rfl | exact Or.inr (Or.inl rfl) | exact Or.inr (Or.inr rfl)) (hd : (x == ("__debug__" : Str)) = false := by decide)
    (hcd : (x == ("__classdict__" : Str)) = false := by decide) : PE X (.Name x pos) (tVar i) := pe_var hN hv hd hcd
end
def Same (H H' : Hp) : Prop := ∀ b o, H b = some o → H' b = some o
theorem Same.refl (H : Hp) : Same H H := fun _ _ h => h
theorem Same.trans {H H1 H2 : Hp} (a : Same H H1) (b : Same H1 H2) : Same H H2 := fun c o h => b c o (a c o h)
theorem Same.free {H H' : Hp} (e : Same H H') {l : Addr} (h : H' l = Option.none) : H l = Option.none := by
  cases q : H l with
  | none => rfl
  | some o =>
    rw [e l o q] at h
    cases h
theorem Same.seq {K : PySem.W.Frag} {H H' : Hp} {a : Addr} {xs : List V} (e : Same H H') (h : SqL K H a xs) : SqL K H' a xs := by
  rcases h with (h | ⟨o, h⟩) | h
  · exact .inl (.inl (e _ _ h))
  · exact .inl (.inr ⟨o, e _ _ h⟩)
  · exact .inr h
end L2
set_option maxHeartbeats 4000000
namespace Fr
def G (a b : Int) : Int := ((Int.gcd a b : Nat) : Int)
def part (a b : Int) : Int := if b < 0 then -G a b else G a b
def mk (a b : Int) : Int × Int := (a.fdiv (part a b), b.fdiv (part a b))
def low (a b : Int) : Int × Int := (a.fdiv (G a b), b.fdiv (G a b))
theorem low_mk {a b : Int} (h : 0 < b) : mk a b = low a b := by
  have e : part a b = G a b := by unfold part; rw [if_neg (by omega)]
  unfold mk low; rw [e]
theorem G_pos {a b : Int} (h : b ≠ 0) : 0 < G a b := by
  unfold G
  have : 0 < Int.gcd a b := Int.gcd_pos_of_ne_zero_right a h
  omega
theorem G_step {a b : Int} (h : 0 < b) : G b (a % b) = G a b := by
  unfold G
  have e : Int.gcd b (a % b) = Int.gcd a b := by
    have ea : a % b + b * (a / b) = a := Int.emod_add_mul_ediv a b
    have := Int.gcd_add_mul_left_left b (a % b) (a / b)
    rw [ea] at this
    rw [this, Int.gcd_comm]
  rw [e]
theorem G_zero {a : Int} (h : 0 ≤ a) : G a 0 = a := by
  unfold G
  rw [Int.gcd_zero_right]
  omega
theorem G_le {a b : Int} (h : b ≠ 0) : (G a b).natAbs ≤ b.natAbs := by
  unfold G
  have : Int.gcd a b ∣ b.natAbs := by
    have := Int.gcd_dvd_right a b
    exact Int.natAbs_dvd_natAbs.mpr this
  have h2 := Nat.le_of_dvd (by omega) this
  simpa using h2
theorem part_ne {a b : Int} (h : b ≠ 0) : part a b ≠ 0 := by
  have := G_pos (a := a) h
  unfold part; split <;> omega
theorem mk_facts {a b : Int} (h : b ≠ 0) : ∃ k : Int, k ≠ 0 ∧ a = k * (mk a b).1 ∧ b = k * (mk a b).2 ∧ 0 < (mk a b).2 ∧ Int.gcd (mk a b).1 (mk a b).2 = 1 := by
  have hg := G_pos (a := a) h
  have hk := part_ne (a := a) h
  have d1 : part a b ∣ a := by
    unfold part; split
    · exact Int.neg_dvd.mpr (Int.gcd_dvd_left a b)
    · exact Int.gcd_dvd_left a b
  have d2 : part a b ∣ b := by
    unfold part; split
    · exact Int.neg_dvd.mpr (Int.gcd_dvd_right a b)
    · exact Int.gcd_dvd_right a b
  have hn : (part a b).natAbs = Int.gcd a b := by
    unfold part G; split <;> simp
  obtain ⟨p, hp⟩ := d1
  obtain ⟨q, hq⟩ := d2
  have e1 : (mk a b).1 = p := by
    show a.fdiv (part a b) = p
    generalize part a b = k at *
    rw [hp]; exact Int.mul_fdiv_cancel_left p hk
  have e2 : (mk a b).2 = q := by
    show b.fdiv (part a b) = q
    generalize part a b = k at *
    rw [hq]; exact Int.mul_fdiv_cancel_left q hk
  refine ⟨part a b, hk, by rw [e1]; exact hp, by rw [e2]; exact hq, ?_, ?_⟩
  · rw [e2]
    unfold part at hq
    split at hq
    · rename_i hb
      rcases Int.lt_trichotomy q 0 with z | z | z
      · exfalso
        have : 0 < -G a b * q := Int.mul_pos_of_neg_of_neg (by omega) z
        omega
      · subst z; omega
      · exact z
    · rename_i hb
      rcases Int.lt_trichotomy q 0 with z | z | z
      · exfalso
        have : G a b * q < 0 := Int.mul_neg_of_pos_of_neg hg z
        omega
      · subst z; omega
      · exact z
  · rw [e1, e2]
    have hg2 : 0 < Int.gcd a b := Int.gcd_pos_of_ne_zero_right a h
    have key : Int.gcd a b = Int.gcd a b * Int.gcd p q := by
      have e : Int.gcd (part a b * p) (part a b * q) = (part a b).natAbs * Int.gcd p q := Int.gcd_mul_left (part a b) p q
      rw [hn] at e
      rw [← e, ← hp, ← hq]
    have := Nat.eq_of_mul_eq_mul_left hg2 (show Int.gcd a b * Int.gcd p q = Int.gcd a b * 1 by omega)
    exact this
end Fr
namespace L2
open PySem PySem.Spec PyProof.Rows
abbrev bits (i : Int) : Nat := Builtin.Int.intBits i
def CDivB (_ j : Int) : Prop := j ≠ 0 ∧ bits j ≤ 8000
theorem CDivB.ok {i j : Int} (h : CDivB i j) : Builtin.divisionGoesByPylong i j = false := by
  refine PyProof.noPylong_of_log2 ?_
  have h2 : bits j ≤ 8000 := h.2
  unfold bits Builtin.Int.intBits at h2
  have h1 : ¬ j = 0 := h.1
  split at h2
  · rename_i z; exact absurd (by simpa using z) h1
  · omega
section
variable {X : Cx} {a b c : Expr} {ta tb tc : TE} {pos : Pos}
theorem op_mulB : OpR X (binaryOp .Mult) (rI IntMulOk fun i j => .int (i * j)) := opI fun _ _ _ _ _ _ _ hc q => mul_int q hc
theorem op_fdivB : OpR X (binaryOp .FloorDiv) (rI CDivB fun i j => .int (i.fdiv j)) := opI fun _ _ _ _ _ _ _ hc q => floordiv_int hc.1 q (.inl hc.ok)
def eqVs (xs ys : List V) : Bool := (List.range (min xs.length ys.length)).all (fun j => eqV (xs.getD j .non) (ys.getD j .non)) && xs.length == ys.length
def rEqT (K : PySem.W.Frag) : R2 := fun x y H Q => ∃ a b xs ys, x = .ref a ∧ y = .ref b ∧ SqT K H a xs ∧ SqT K H b ys ∧ xs.all flatV = true ∧ ys.all flatV = true ∧ Q (.bl (eqVs xs ys)) H
theorem getD_rel {xs : List V} {us : List Value} (r : Vals xs us) {j : Nat} (h : j < us.length) : RelV (xs.getD j .non) us[j] := by
  have hl := r.length
  have hx : j < xs.length := by omega
  obtain ⟨u, e, q⟩ := r.get (i := j) (x := xs[j]) (by rw [List.getElem?_eq_getElem hx])
  rw [List.getElem?_eq_getElem h] at e
  cases e
  rw [List.getD_eq_getElem?_getD, List.getElem?_eq_getElem hx]
  exact q
theorem all_getD {p : V → Bool} {xs : List V} (h : xs.all p = true) {j : Nat} (hj : j < xs.length) : p (xs.getD j .non) = true := by
  rw [List.getD_eq_getElem?_getD, List.getElem?_eq_getElem hj]
  exact List.all_eq_true.mp h _ (List.getElem_mem hj)
theorem op_eqT (hu : X.A.units < cLine) : OpR X (compareOp .Eq) (rEqT X.K) := by
  intro pins s σ H x y v u Q I rx ry h
  obtain ⟨p, q, xs, ys, rfl, rfl, h1, h2, f1, f2, k⟩ := h
  cases rx
  cases ry
  obtain ⟨its, r, pl, hz⟩ := I.tuple h1
  obtain ⟨its2, r2, pl2, hz2⟩ := I.tuple h2
  have l1 := r.length
  have l2 := r2.length
  refine SeqAt.eq_tupleAt (e := fun j => eqV (xs.getD j .non) (ys.getD j .non)) pl pl2 hu (fun j g1 g2 => ?_) ⟨.bl _, H, I, rfl, ?_⟩
  · have g1' : j < its.length := by simpa using g1
    have g2' : j < its2.length := by simpa using g2
    have e := eqAt_V (A := X.A.in1) (s := s) (getD_rel r g1') (getD_rel r2 g2') (all_getD f1 (by omega)) (all_getD f2 (by omega))
    simpa using e
  · have e : ((List.range (min its.toArray.size its2.toArray.size)).all (fun j => eqV (xs.getD j .non) (ys.getD j .non)) && its.toArray.size == its2.toArray.size) = eqVs xs ys := by
      unfold eqVs
      rw [List.size_toArray, List.size_toArray, l1, l2]
    rw [e]
    exact k
theorem call_isT : CallR X (.builtin "isinstance") (fun xs H Q => ∃ x T t k, xs = [x, .ty T] ∧ TyOf X.K H x t ∧ PySem.W.kitOne X.K t (.type T) = some k ∧ Q (.bl k) H) := by
  intro pins s σ H xs us Q I r h
  obtain ⟨x, T, t, k, rfl, ty, e, q⟩ := h
  obtain ⟨u, v, rfl, rx, rv⟩ := Vals.two r
  cases rv
  exact isinst_ok I rx ty e fun tk => ⟨.bl k, H, I.tok _, rfl, q⟩
end
section
variable {X : Cx} {a b c : Expr} {ta tb tc : TE} {pos : Pos}
theorem op_eqI : OpR X (compareOp .Eq) (rI0 fun i j => .bl (decide (i = j))) := opB0 fun _ _ _ _ _ _ _ q => eq_int (by rw [Bool.beq_eq_decide_eq]; exact q)
theorem op_neI : OpR X (compareOp .NotEq) (rI0 fun i j => .bl (!decide (i = j))) := opB0 fun _ _ _ _ _ _ _ q => ne_int (by rw [bne, Bool.beq_eq_decide_eq]; exact q)
def rAddS : R2 := fun x y H Q => ∃ i j, x = .str i ∧ y = .str j ∧ i.length + j.length ≤ sizeLine ∧ Q (.str (i ++ j)) H
def rAddG : R2 := fun x y H Q => rI0 (fun i j => .int (i + j)) x y H Q ∨ rAddS x y H Q ∨ rCat x y H Q
theorem op_addG : OpR X (binaryOp .Add) rAddG := op_add.or ((show OpR X (binaryOp .Add) rAddS from op_add_str).or op_cat)
theorem lenG : CallR X (.builtin "len") (fun xs H Q => (∃ p ys, xs = [.ref p] ∧ (SqL X.K H p ys ∨ SqT X.K H p ys) ∧ Q (.int ys.length) H) ∨ ∃ z, xs = [.str z] ∧ z.length ≤ sizeLine ∧ Q (.int z.length) H) := call_len_seq.or call_len_str
end
theorem b_abs : bootBuiltins "abs" = some (.builtin "abs") := by decide +kernel
theorem b_len : bootBuiltins "len" = some (.builtin "len") := by decide +kernel
theorem b_isinstance : bootBuiltins "isinstance" = some (.builtin "isinstance") := by decide +kernel
theorem b_max : bootBuiltins "max" = some (.builtin "max") := by decide +kernel
theorem b_int : bootBuiltins "int" = some (.type "int") := by decide +kernel
theorem b_bool : bootBuiltins "bool" = some (.type "bool") := by decide +kernel
theorem b_tuple : bootBuiltins "tuple" = some (.type "tuple") := by decide +kernel
theorem b_list : bootBuiltins "list" = some (.type "list") := by decide +kernel
theorem b_str : bootBuiltins "str" = some (.type "str") := by decide +kernel
structure Got (P : Program) (w : World) (K : PySem.W.Frag) (mg : Str → Option Value) (base : Heap) (k : Nat) (x : Str) (ps : List Str) (sp : Sp) : Prop where
  ex : ∃ f fd, FnOk P w K mg base CX0 k f fd ps sp ∧ Binds K fd ps [] ∧ PySem.W.keepIn K (.ref f) = true ∧ mg x = some (.ref f)
section
variable {X : Cx} {k n : Nat} {x : Str} {ps : List Str} {sp : Sp} {p pos : Pos} {e : Expr} {es : List Expr} {t : TA}
theorem pe_go (g : Got X.prog X.w X.K X.mg X.base k x ps sp) (hr : Room n X.A) (hk : k ≤ n) (hg : Gl X x) (ha : PA X (e :: es) t) (hdb : (x == ("__debug__" : Str)) = false := by decide)
    (he : starEach (e :: es) X.env = (false, eval e X.env) :: starEach es X.env := by rfl) (hpl : (backTo pos (starEach es X.env)).any (·.1) = false := by rfl) :
    PE X (.Call (.Name x p) (e :: es) [] pos) (tCall sp [] E0 t) := by
  obtain ⟨f, fd, F, hb, hkp, hm⟩ := g.ex
  exact pe_call F (hr.mono hk) hg hm hkp hb .nil pass0 ha hdb he hpl
end
end L2
namespace L2
open PySem PySem.Spec PyProof.Rows
mutual
inductive RdD (K : PySem.W.Frag) (H : Hp) : V → PyData → Prop where
  | non : RdD K H .non .none
  | bl (b : Bool) : RdD K H (.bl b) (.bool b)
  | int (i : Int) : RdD K H (.int i) (.int i)
  | str (x : Str) : RdD K H (.str x) (.str x)
  | lst {a : Addr} {xs : List V} {ds : List PyData} : SqL K H a xs → RdDs K H xs ds → RdD K H (.ref a) (.list ds)
  | tup {a : Addr} {xs : List V} {ds : List PyData} : SqT K H a xs → RdDs K H xs ds → RdD K H (.ref a) (.tuple ds)
inductive RdDs (K : PySem.W.Frag) (H : Hp) : List V → List PyData → Prop where
  | nil : RdDs K H [] []
  | cons {x : V} {xs : List V} {d : PyData} {ds : List PyData} : RdD K H x d → RdDs K H xs ds → RdDs K H (x :: xs) (d :: ds)
end
section
variable {X : Cx} {pins : List (Addr × Obj)} {σ : St} {H : Hp} {s : Shared} {h' : Heap}
theorem RdD.reads (I : Inv X pins σ H s) {x : V} {d : PyData} {u : Value} (q : RdD X.K H x d) : RelV x u → ∃ as, Reads s.heap u d as :=
  RdD.rec (motive_1 := fun x d _ => ∀ u : Value, RelV x u → ∃ as, Reads s.heap u d as) (motive_2 := fun xs ds _ => ∀ us : List Value, Vals xs us → ∃ as, ReadsAll s.heap us ds as)
    (fun u r => by cases r; exact ⟨_, .none⟩) (fun b u r => by cases r; exact ⟨_, .bool b⟩) (fun i u r => by obtain ⟨t, rfl⟩ := r; exact ⟨_, .int i t⟩) (fun x u r => by obtain ⟨t, rfl⟩ := r; exact ⟨_, .str x t⟩)
    (fun h _ ih u r => by
      cases r
      obtain ⟨its, rv, ⟨o, n, e, c, _, d⟩, _⟩ := I.list h
      obtain ⟨as, ra⟩ := ih its rv
      exact ⟨_, .list e c d (by simpa using ra)⟩)
    (fun h _ ih u r => by
      cases r
      obtain ⟨its, rv, ⟨o, e, c, n, d⟩, _⟩ := I.tuple h
      obtain ⟨as, ra⟩ := ih its rv
      exact ⟨_, .tuple e c d (by simpa using ra)⟩)
    (fun us r => by cases r; exact ⟨_, .nil⟩)
    (fun _ _ h t us r => by
      cases r with
      | cons r rs =>
        obtain ⟨as, ra⟩ := h _ r
        obtain ⟨bs, rb⟩ := t _ rs
        exact ⟨_, .cons ra rb⟩) q u
def rEqD (K : PySem.W.Frag) (neg : Bool) : R2 := fun x y H Q => ∃ d e, RdD K H x d ∧ RdD K H y e ∧ SeqAt.shaped d = true ∧ SeqAt.shaped e = true ∧ Q (.bl (if neg then !(PyData.eqv d e) else PyData.eqv d e)) H
theorem op_eqD (hu : X.A.units + 64 < cLine) : OpR X (compareOp .Eq) (rEqD X.K false) := by
  intro pins s σ H x y v u Q I rx ry h
  obtain ⟨d, e, h1, h2, s1, s2, q⟩ := h
  obtain ⟨as, ra⟩ := h1.reads I rx
  obtain ⟨bs, rb⟩ := h2.reads I ry
  exact eq_dataH ra rb s1 s2 hu ⟨.bl _, H, I, rfl, q⟩
theorem op_neD (hu : X.A.units + 64 < cLine) : OpR X (compareOp .NotEq) (rEqD X.K true) := by
  intro pins s σ H x y v u Q I rx ry h
  obtain ⟨d, e, h1, h2, s1, s2, q⟩ := h
  obtain ⟨as, ra⟩ := h1.reads I rx
  obtain ⟨bs, rb⟩ := h2.reads I ry
  exact ne_dataH ra rb s1 s2 hu ⟨.bl _, H, I, rfl, q⟩
theorem Inv.turnedNew {t' : Nat} {ch : List Addr} {T : Addr} {o : HO} (I : Inv X pins σ H s) (k : ∀ b o, b ∉ ch → s.heap.get? b = some o → h'.get? b = some o) (hf : ∀ b ∈ ch, FpOk X pins H b)
    (hT : s.heap.objs.size ≤ T) (new : ObjOk X.prog X.w (upd H T o) h' T o) : Inv X pins σ (upd H T o) { s with heap := h', toks := t' } := by
  have hn : H T = none := I.hok.fresh hT
  have nch : ∀ b u, H b = some u → b ∉ ch := fun b u e z => by rw [(hf b z).1] at e; cases e
  refine I.step (g' := s.gens) (d' := s.drawn) (ch := ch) (fun b hb => ⟨(hf b hb).2.2.2.1, (hf b hb).2.1, (hf b hb).2.2.2.2.1, (hf b hb).2.2.2.2.2⟩)
    (fun b o _ _ hc e _ => k b o hc e) (fun b o _ _ hc e _ => ⟨o.slots, k b o hc e⟩)
    (fun b o _ e n => by rw [upd_ne (Nat.ne_of_lt (Nat.lt_of_lt_of_le (Heap.lt_size e) hT))]; exact n)
    (fun b o hc e => ⟨o, k b o hc e⟩)
    (fun b xs e => by rw [upd_ne (ne_of_none e hn)]; exact e) (fun b o u e => by rw [upd_ne (ne_of_none e hn)]; exact e)
    (fun b ps e => ⟨#[], by rw [upd_ne (ne_of_none e hn), e]; simp⟩) (fun m hm => ?_) (fun b u e => ?_) I.bare
  · obtain ⟨ob, es, ep, ho, r⟩ := hm
    exact ⟨ob, es, ep, k _ ob (fun z => (hf _ z).2.1 rfl) ho, r⟩
  · by_cases hb : b = T
    · subst hb; rw [upd_same] at e; cases e; exact new
    · rw [upd_ne hb] at e
      refine (I.hok b u e).stay (fun c v hc q => k c v ?_ q) (fun c q => by rw [upd_ne (ne_of_none q hn)]; exact q) fun c xs q => by rw [upd_ne (ne_of_none q hn)]; exact q
      rcases hc with z | z
      · rw [z]; exact nch b u e
      · exact nch c _ z
theorem Inv.turnedL {t' : Nat} {ch : List Addr} (I : Inv X pins σ H s) (k : ∀ b o, b ∉ ch → s.heap.get? b = some o → h'.get? b = some o) (hf : ∀ b ∈ ch, FpOk X pins H b) :
    Inv X pins σ H { s with heap := h', toks := t' } := by
  have nch : ∀ b u, H b = some u → b ∉ ch := fun b u e z => by rw [(hf b z).1] at e; cases e
  refine I.step (g' := s.gens) (d' := s.drawn) (ch := ch) (fun b hb => ⟨(hf b hb).2.2.2.1, (hf b hb).2.1, (hf b hb).2.2.2.2.1, (hf b hb).2.2.2.2.2⟩)
    (fun b o _ _ hc e _ => k b o hc e) (fun b o _ _ hc e _ => ⟨o.slots, k b o hc e⟩) (fun _ _ _ _ n => n)
    (fun b o hc e => ⟨o, k b o hc e⟩) (fun _ _ e => e) (fun _ _ _ e => e) (fun b ps e => ⟨#[], by rw [e]; simp⟩) (fun m hm => ?_) (fun b u e => ?_) I.bare
  · obtain ⟨ob, es, ep, ho, r⟩ := hm
    exact ⟨ob, es, ep, k _ ob (fun z => (hf _ z).2.1 rfl) ho, r⟩
  · refine (I.hok b u e).stay (fun c v hc q => k c v ?_ q) (fun _ q => q) fun _ _ q => q
    rcases hc with z | z
    · rw [z]; exact nch b u e
    · exact nch c _ z
def Itz (K : PySem.W.Frag) (l1 l2 : Addr) : It :=
  ⟨fun i H => ∃ xs ys, SqL K H l1 xs ∧ SqL K H l2 ys ∧ i < xs.length ∧ i < ys.length,
   fun i H x H' => ∃ T a b, H T = none ∧ x = .ref T ∧ H' = upd H T (.tup [a, b]) ∧ (∀ xs, SqL K H l1 xs → xs[i]? = some a) ∧ (∀ ys, SqL K H l2 ys → ys[i]? = some b),
   fun i H => ∃ xs ys, SqL K H l1 xs ∧ SqL K H l2 ys ∧ (xs.length ≤ i ∨ ys.length ≤ i)⟩
def ZipSt (z TI TO i1 i2 l1 l2 : Addr) (i : Nat) (h : Heap) : Prop := IsZip h z TI TO .none ∧ IsPair h TI (.ref i1) (.ref i2) ∧ (∃ a b, IsPair h TO a b) ∧ h.IsListIter i1 l1 i ∧ h.IsListIter i2 l2 i
theorem turn_zip {P : Program} {w : World} {K : PySem.W.Frag} {elts : List Expr} {kk : Nat} {tpos : Pos} (z TI TO i1 i2 l1 l2 : Addr) (D : ZipApart z TI TO i1 i2 l1 l2) :
    Turn P w K (.Tuple elts kk tpos) (Itz K l1 l2) [z, TI, TO, i1, i2] z (ZipSt z TI TO i1 i2 l1 l2) where
  mem := by simp
  obj := fun i h st b hb => by
    obtain ⟨hz, hTI, ⟨a, c, hTO⟩, ⟨o1, e1, _, d1⟩, ⟨o2, e2, _, d2⟩⟩ := st
    simp only [List.mem_cons, List.not_mem_nil, or_false] at hb
    rcases hb with rfl | rfl | rfl | rfl | rfl
    · exact ⟨_, hz, fun v q => by cases (show Data.fields _ = Data.cell v from q)⟩
    · exact ⟨_, hTI, fun v q => by cases (show Data.seq _ _ = Data.cell v from q)⟩
    · exact ⟨_, hTO, fun v q => by cases (show Data.seq _ _ = Data.cell v from q)⟩
    · exact ⟨_, e1, fun v q => by rw [d1] at q; cases q⟩
    · exact ⟨_, e2, fun v q => by rw [d2] at q; cases q⟩
  keep := fun i h h' st k => by
    obtain ⟨hz, hTI, ⟨a, c, hTO⟩, h1, h2⟩ := st
    exact ⟨k z (by simp) _ hz, k TI (by simp) _ hTI, ⟨a, c, k TO (by simp) _ hTO⟩, h1.at fun o e => k i1 (by simp) o e, h2.at fun o e => k i2 (by simp) o e⟩
  item := by
    intro X hP hw hK hc i pins s σ H E I hf st hg
    subst hP hw hK
    obtain ⟨xs, ys, q1, q2, g1, g2⟩ := hg
    obtain ⟨its1, r1, p1, z1⟩ := I.list q1
    obtain ⟨its2, r2, p2, z2⟩ := I.list q2
    obtain ⟨u1, e1, ru1⟩ := r1.get (List.getElem?_eq_getElem g1)
    obtain ⟨u2, e2, ru2⟩ := r2.get (List.getElem?_eq_getElem g2)
    obtain ⟨hz, hTI, ⟨a, c, hTO⟩, h1, h2⟩ := st
    refine wpAny_pyNext_zip_item D hz hTI hTO h1 h2 p1.isList p2.isList (x := u1) (y := u2) (by simpa using e1) (by simpa using e2) fun h1' a1 a2 a3 a4 a5 a6 hk => ⟨_, rfl, ?_⟩
    refine wpAny_letOwnedTupleGo_zip a1 fun h2' hz' hs' => ?_
    have lt : ∀ {c o}, s.heap.get? c = some o → s.heap.objs.size ≠ c := fun e => Nat.ne_of_gt (Heap.lt_size e)
    have Tz : s.heap.objs.size ≠ z := lt hz
    have kz : ∀ b o, b ≠ z → h1'.get? b = some o → h2'.get? b = some o := fun b o hb e => hs'.extBut _ _ hb e
    have I' : Inv X pins σ (upd H s.heap.objs.size (.tup [xs[i], ys[i]])) { s with heap := h2' } := by
      refine I.turnedNew (t' := s.toks) (ch := [z, TO, i1, i2]) (fun b o hb e => ?_) (fun b hb => hf b (by
        simp only [List.mem_cons, List.not_mem_nil, or_false] at hb ⊢
        rcases hb with rfl | rfl | rfl | rfl <;> simp)) (Nat.le_refl _) ?_
      · simp only [List.mem_cons, List.not_mem_nil, or_false, not_or] at hb
        exact kz b o hb.1 (hk b o hb.1 hb.2.1 hb.2.2.1 hb.2.2.2 e)
      · exact ⟨(by show 2 ≤ sizeLine; decide), [u1, u2], .cons ru1 (.cons ru2 .nil), _, kz _ _ Tz a5, rfl, _, rfl⟩
    refine ⟨.ref s.heap.objs.size, _, I', rfl, ⟨s.heap.objs.size, xs[i], ys[i], I.hok.fresh (Nat.le_refl _), rfl, rfl, fun xs' q' => ?_, fun ys' q' => ?_⟩, ⟨hz', ?_, ⟨_, _, kz _ _ D.TOz a2⟩, ?_, ?_⟩, fun b hb => ?_⟩
    · rw [I.list_inj q' q1]; exact List.getElem?_eq_getElem g1
    · rw [I.list_inj q' q2]; exact List.getElem?_eq_getElem g2
    · exact kz _ _ D.TIz (hk _ _ D.TIz D.TITO D.TIi1 D.TIi2 hTI)
    · exact a3.at fun o e => kz _ _ D.i1z e
    · exact a4.at fun o e => kz _ _ D.i2z e
    · have n := (hf b hb).1
      simp only [List.mem_cons, List.not_mem_nil, or_false] at hb
      have ob : ∃ o, s.heap.get? b = some o := by
        obtain ⟨o1, x1, _⟩ := h1
        obtain ⟨o2, x2, _⟩ := h2
        rcases hb with rfl | rfl | rfl | rfl | rfl
        · exact ⟨_, hz⟩
        · exact ⟨_, hTI⟩
        · exact ⟨_, hTO⟩
        · exact ⟨_, x1⟩
        · exact ⟨_, x2⟩
      obtain ⟨o, eo⟩ := ob
      rw [upd_ne (Ne.symm (lt eo))]
      exact n
  done := by
    intro X hP hw hK hc i pins s σ H E I hf st hg
    subst hP hw hK
    obtain ⟨xs, ys, q1, q2, g⟩ := hg
    obtain ⟨its1, r1, p1, z1⟩ := I.list q1
    obtain ⟨its2, r2, p2, z2⟩ := I.list q2
    obtain ⟨hz, hTI, ⟨a, c, hTO⟩, h1, h2⟩ := st
    have l1' := r1.length
    have l2' := r2.length
    have hend : its1.toArray[i]? = none ∨ its2.toArray[i]? = none := by
      rcases g with g | g
      · exact .inl (Array.getElem?_eq_none (by rw [List.size_toArray]; omega))
      · exact .inr (Array.getElem?_eq_none (by rw [List.size_toArray]; omega))
    refine wpAny_pyNext_zip_end (I.ok.hd hc) D hz hTI hTO h1 h2 p1.isList p2.isList hend fun h' hk => ⟨rfl, ?_⟩
    refine I.turnedL (t' := s.toks) (ch := [z, TO, i1, i2]) (fun b o hb e => ?_) (fun b hb => hf b (by
        simp only [List.mem_cons, List.not_mem_nil, or_false] at hb ⊢
        rcases hb with rfl | rfl | rfl | rfl <;> simp))
    simp only [List.mem_cons, List.not_mem_nil, or_false, not_or] at hb
    exact hk b o hb.1 hb.2.1 hb.2.2.1 hb.2.2.2 e
  self := fun _ _ _ _ _ st h => wpAny_pyIter_zip st.1 h
end
def iZip (K : PySem.W.Frag) (ta : TA) : TI := fun σ H R => ta σ H fun vs H1 => ∃ l1 l2 xs ys, vs = [.ref l1, .ref l2] ∧ SqL K H1 l1 xs ∧ SqL K H1 l2 ys ∧ R (Itz K l1 l2) H1
theorem zip_apart {n l1 l2 : Nat} (h1 : l1 < n) (h2 : l2 < n) : ZipApart (n + 4) (n + 2) (n + 3) n (n + 1) l1 l2 := by
  constructor <;> first | exact Nat.ne_of_lt (by omega) | exact Nat.ne_of_gt (by omega)
theorem pi_zip {X : Cx} {a b : Expr} {ta : TA} {p pos tpos : Pos} {elts : List Expr} {kk : Nat} (hg : Gl X "zip") (hm : X.mg "zip" = none) (ha : PA X [a, b] ta) (hs : starEach [a, b] X.env = [(false, eval a X.env), (false, eval b X.env)] := by rfl) (hs2 : starEach [b] X.env = [(false, eval b X.env)] := by rfl) :
    PI X (.Tuple elts kk tpos) (.Call (.Name "zip" p) [a, b] [] pos) (iZip X.K ta) := by
  intro pins s σ H R I h
  refine Call_ (ld_blt I hg hm (show bootBuiltins "zip" = some (.type "zip") from by decide +kernel) (PyProof.Rows.callWith_type1 (thn (ha pos pins s σ H _ I h) fun us s1 ⟨vs, H1, I1, r1, q1⟩ => ?_) (by rw [hs, hs2]) (by rw [hs2]; rfl)))
  obtain ⟨l1, l2, xs, ys, e, q1, q2, q⟩ := q1
  subst e
  obtain ⟨u1, u2, rfl, ru1, ru2⟩ := r1.two
  cases ru1
  cases ru2
  obtain ⟨its1, v1, p1, z1⟩ := I1.list q1
  obtain ⟨its2, v2, p2, z2⟩ := I1.list q2
  have b1 : l1 < s1.heap.objs.size := by obtain ⟨o, n, e, _⟩ := p1; exact Heap.lt_size e
  have b2 : l2 < s1.heap.objs.size := by obtain ⟨o, n, e, _⟩ := p2; exact Heap.lt_size e
  refine call_zip_2 p1.isList p2.isList fun h' hz hTI hTO h1 h2 sz hk => ?_
  have D := zip_apart b1 b2
  refine wpAny_pyIter_zip hz ?_
  refine ⟨_, _, ZipSt _ _ _ _ _ _ _, _, H1, rfl, I1.kept (t' := s1.toks) hk, turn_zip _ _ _ _ _ _ _ D, ⟨hz, hTI, ⟨_, _, hTO⟩, h1, h2⟩, fun b hb => ?_, q⟩
  have hb' : s1.heap.objs.size ≤ b := by
    simp only [List.mem_cons, List.not_mem_nil, or_false] at hb
    rcases hb with rfl | rfl | rfl | rfl | rfl
    · exact Nat.le_add_right _ _
    · exact Nat.le_add_right _ _
    · exact Nat.le_add_right _ _
    · exact Nat.le_refl _
    · exact Nat.le_add_right _ _
  exact I1.fpOk hb' (I1.hok.fresh hb')
section
variable {X : Cx}
def rEqG (K : PySem.W.Frag) : R2 := fun x y H Q => rI0 (fun i j => .bl (decide (i = j))) x y H Q ∨ rEqT K x y H Q ∨ rEq x y H Q ∨ rEqD K false x y H Q
theorem op_eqG (hu : X.A.units + 64 < cLine) : OpR X (compareOp .Eq) (rEqG X.K) := op_eqI.or ((op_eqT (by omega)).or (op_eq.or (op_eqD hu)))
def rNeG (K : PySem.W.Frag) : R2 := fun x y H Q => rI0 (fun i j => .bl (!decide (i = j))) x y H Q ∨ rNe x y H Q ∨ rEqD K true x y H Q
theorem op_neG (hu : X.A.units + 64 < cLine) : OpR X (compareOp .NotEq) (rNeG X.K) := op_neI.or (op_ne.or (op_neD hu))
end
end L2
namespace L2
open PySem PySem.Spec PyProof.Rows
theorem forIn_fold {α β : Type} {f : α → β → Sem (ForInStep β)} (g : β → α → β) : ∀ (l : List α) (b : β), (∀ x ∈ l, ∀ c, f x c = pure (.yield (g c x))) → forIn l b f = pure (l.foldl g b)
  | [], _, _ => rfl
  | x :: l, b, h => by
    rw [List.forIn_cons, h x List.mem_cons_self, pure_bind]
    exact forIn_fold g l (g b x) fun y hy => h y (List.mem_cons_of_mem _ hy)
def clStep (cells : List (Str × Addr)) (cs : List (Str × Addr)) (x : Str × NameKind) : List (Str × Addr) := if (x.2 == NameKind.free) = true then (x.1, (cells.lookup x.1).getD 0) :: cs else cs
theorem cl_from {cells : List (Str × Addr)} : ∀ (names : List (Str × NameKind)) (cs : List (Str × Addr)), (∀ x ∈ names, x.2 = NameKind.free → ∃ c, cells.lookup x.1 = some c) → (∀ x c, cs.lookup x = some c → cells.lookup x = some c) →
    (∀ x c, (names.foldl (clStep cells) cs).lookup x = some c → cells.lookup x = some c) ∧ (∀ x, ((∃ c, cs.lookup x = some c) ∨ (x, NameKind.free) ∈ names) → ∃ c, (names.foldl (clStep cells) cs).lookup x = some c)
  | [], cs, _, h => ⟨h, fun x q => by
      rcases q with q | q
      · exact q
      · cases q⟩
  | (n, k) :: r, cs, hf, h => by
    have step : ∀ x c, (clStep cells cs (n, k)).lookup x = some c → cells.lookup x = some c := fun x c e => by
      unfold clStep at e
      by_cases hk : ((n, k).2 == NameKind.free) = true
      · rw [if_pos hk] at e
        obtain ⟨c0, hc0⟩ := hf (n, k) List.mem_cons_self (by simpa using hk)
        by_cases hx : x = n
        · subst hx
          rw [List.lookup_cons_self] at e
          rw [hc0] at e ⊢
          exact e
        · have : (x == n) = false := by simpa using hx
          rw [List.lookup_cons, this] at e
          exact h x c e
      · rw [if_neg hk] at e
        exact h x c e
    obtain ⟨a, b⟩ := cl_from r (clStep cells cs (n, k)) (fun x hx => hf x (List.mem_cons_of_mem _ hx)) step
    refine ⟨a, fun x q => b x ?_⟩
    rcases q with ⟨c, q⟩ | q
    · left
      unfold clStep
      by_cases hk : ((n, k).2 == NameKind.free) = true
      · rw [if_pos hk]
        by_cases hx : x = n
        · subst hx; exact ⟨_, List.lookup_cons_self⟩
        · have : (x == n) = false := by simpa using hx
          exact ⟨c, by rw [List.lookup_cons, this]; exact q⟩
      · rw [if_neg hk]; exact ⟨c, q⟩
    · rcases List.mem_cons.mp q with q | q
      · left
        cases q
        unfold clStep
        rw [if_pos (by rfl)]
        exact ⟨_, List.lookup_cons_self⟩
      · exact .inr q
theorem closure_ok {scope : Scope} {env : Env} (h : ∀ x ∈ scope.names, x.2 = NameKind.free → ∃ c, env.cells.lookup x.1 = some c) :
    ∃ cl, closureFor scope env = pure cl ∧ (∀ x c, cl.lookup x = some c → env.cells.lookup x = some c) ∧ (∀ x, (x, NameKind.free) ∈ scope.names → ∃ c, cl.lookup x = some c) := by
  obtain ⟨a, b⟩ := cl_from (cells := env.cells) scope.names [] h (fun x c e => by simp at e)
  refine ⟨_, ?_, a, fun x q => b x (.inr q)⟩
  simp only [closureFor]
  rw [forIn_fold (clStep env.cells) _ _ (fun x hx c => by
    obtain ⟨n, kind⟩ := x
    unfold clStep
    cases hk : (kind == NameKind.free) with
    | false => simp only [hk, Bool.false_eq_true, if_false]
    | true =>
      obtain ⟨c0, hc0⟩ := h (n, kind) hx (by simpa using hk)
      simp only [hk, if_true, cellOf]
      rw [show List.lookup n env.cells = some c0 from hc0]
      rfl)]
  rfl
def cxComp (X : Cx) (scope : Scope) (N : List Str) (cl : List (Str × Addr)) (C : Addr) (s₀ : Shared) (H₀ : Hp) (ex : List Addr) : Cx where
  prog := X.prog
  w := X.w
  K := X.K
  mg := X.mg
  base := X.base
  A := X.A
  N := N
  s₀ := s₀
  H₀ := H₀
  env := compEnvC scope cl C X.env
  outer := X.stack
  stack := X.stack
  ex := ex
  fn := fun _ => false
  calm := X.calm
  pn := []
  xe := fun _ _ => False
def PIfs (X : Cx) (ifs : List Expr) (t : TT) : Prop := ∀ (pins : List (Addr × Obj)) (s : Shared) (σ : St) (H : Hp) (Q : Bool → Hp → Prop), Inv X pins σ H s → t σ H Q →
  wpAny (model X.prog X.w) X.A (forIn ifs true fun c r => if r = true then do let ok ← isTrue c X.env (eval c X.env); pure (ForInStep.yield ok) else pure (ForInStep.yield r)) (TP X pins σ Q) X.xe s
def tYes : TT := fun _ H Q => Q true H
theorem pif_nil {X : Cx} : PIfs X [] tYes := fun _ _ _ H _ I h => wpAny_tests_nil ⟨H, I, h⟩
theorem pif_one {X : Cx} {c : Expr} {t : TT} (h : PT X c t) : PIfs X [c] t := fun pins s σ H Q I q => wpAny_tests_one (h pins s σ H Q I q)
def inSt (cap : List Nat) (x : Option V) (σ : St) : St := x :: cap.map fun i => (σ[i]?).join
def compBody (J : It) (tc : TT) (te : TE) (cap : List Nat) (σ : St) (Q : VK) (H1 : Hp) : Prop := ∀ acc, H1 acc = none → ∃ W : Nat → Nat → Hp → Prop, (∃ m, W 0 m (upd H1 acc (.lst []))) ∧ ∀ i m H, W i m H →
  (J.stop i H ∧ Q (.ref acc) H) ∨ (J.go i H ∧ ∀ x H', J.yld i H x H' → tc (inSt cap (some x) σ) H' fun b H3 => if b = true then te (inSt cap (some x) σ) H3 fun y H4 => ∃ ys, H4 acc = some (.lst ys) ∧ ys.length < sizeLine ∧ ∃ m', m' < m ∧ W (i + 1) m' (upd H4 acc (.lst (ys ++ [y]))) else ∃ m', m' < m ∧ W (i + 1) m' H3)
def tComp (wi : TI) (tc : TT) (te : TE) (cap : List Nat) : TE := fun σ H Q => wi σ H fun J H1 => compBody J tc te cap σ Q H1
theorem lookup_relabel_free {env : Env} : ∀ {names : List (Str × NameKind)} {x : Str}, names.lookup x = some .free →
    (names.map fun (n, k) => if (k == NameKind.free && env.scope.kind == .function && env.kindOf n == some .cell) then (n, NameKind.cell) else (n, k)).lookup x = some .cell ∨
    (names.map fun (n, k) => if (k == NameKind.free && env.scope.kind == .function && env.kindOf n == some .cell) then (n, NameKind.cell) else (n, k)).lookup x = some .free
  | [], _, h => by simp at h
  | (n, k) :: r, x, h => by
    have ih := @lookup_relabel_free env r x
    show List.lookup x ((if (k == NameKind.free && env.scope.kind == .function && env.kindOf n == some .cell) = true then (n, NameKind.cell) else (n, k)) :: _) = _ ∨
      List.lookup x ((if (k == NameKind.free && env.scope.kind == .function && env.kindOf n == some .cell) = true then (n, NameKind.cell) else (n, k)) :: _) = _
    cases hx : x == n with
    | true =>
      simp only [List.lookup_cons, hx] at h
      cases h
      by_cases hc : (NameKind.free == NameKind.free && env.scope.kind == .function && env.kindOf n == some .cell) = true
      · rw [if_pos hc]; left; simp [List.lookup_cons, hx]
      · rw [if_neg hc]; right; simp [List.lookup_cons, hx]
    | false =>
      simp only [List.lookup_cons, hx] at h
      by_cases hc : (k == NameKind.free && env.scope.kind == .function && env.kindOf n == some .cell) = true
      · rw [if_pos hc]; simp only [List.lookup_cons, hx]; exact ih h
      · rw [if_neg hc]; simp only [List.lookup_cons, hx]; exact ih h
theorem of_relabel {env : Env} : ∀ {names : List (Str × NameKind)} {x : Str}, (∀ y ∈ names, y.2 ≠ .cell) →
    ((names.map fun (n, k) => if (k == NameKind.free && env.scope.kind == .function && env.kindOf n == some .cell) then (n, NameKind.cell) else (n, k)).lookup x = some .cell ∨
    (names.map fun (n, k) => if (k == NameKind.free && env.scope.kind == .function && env.kindOf n == some .cell) then (n, NameKind.cell) else (n, k)).lookup x = some .free) → (x, NameKind.free) ∈ names
  | [], _, _, h => by simp at h
  | (n, k) :: r, x, hcell, h => by
    have ih := @of_relabel env r x (fun y hy => hcell y (List.mem_cons_of_mem _ hy))
    have hk := hcell (n, k) List.mem_cons_self
    cases hx : x == n with
    | true =>
      have e : x = n := by simpa using hx
      subst e
      by_cases hc : (k == NameKind.free && env.scope.kind == .function && env.kindOf x == some .cell) = true
      · have : k = .free := by
          rw [Bool.and_eq_true, Bool.and_eq_true] at hc
          simpa using hc.1.1
        subst this
        exact List.mem_cons_self
      · have h' : List.lookup x ((if (k == NameKind.free && env.scope.kind == .function && env.kindOf x == some .cell) = true then (x, NameKind.cell) else (x, k)) :: (r.map fun (n, k) => if (k == NameKind.free && env.scope.kind == .function && env.kindOf n == some .cell) then (n, NameKind.cell) else (n, k))) = some .cell ∨
          List.lookup x ((if (k == NameKind.free && env.scope.kind == .function && env.kindOf x == some .cell) = true then (x, NameKind.cell) else (x, k)) :: (r.map fun (n, k) => if (k == NameKind.free && env.scope.kind == .function && env.kindOf n == some .cell) then (n, NameKind.cell) else (n, k))) = some .free := h
        rw [if_neg hc, List.lookup_cons_self] at h'
        rcases h' with h' | h'
        · exact absurd (Option.some.inj h') hk
        · have := Option.some.inj h'
          subst this
          exact List.mem_cons_self
    | false =>
      refine List.mem_cons_of_mem _ (ih ?_)
      have h' : List.lookup x ((if (k == NameKind.free && env.scope.kind == .function && env.kindOf n == some .cell) = true then (n, NameKind.cell) else (n, k)) :: (r.map fun (n, k) => if (k == NameKind.free && env.scope.kind == .function && env.kindOf n == some .cell) then (n, NameKind.cell) else (n, k))) = some .cell ∨
          List.lookup x ((if (k == NameKind.free && env.scope.kind == .function && env.kindOf n == some .cell) = true then (n, NameKind.cell) else (n, k)) :: (r.map fun (n, k) => if (k == NameKind.free && env.scope.kind == .function && env.kindOf n == some .cell) then (n, NameKind.cell) else (n, k))) = some .free := h
      by_cases hc : (k == NameKind.free && env.scope.kind == .function && env.kindOf n == some .cell) = true
      · rw [if_pos hc] at h'; simp only [List.lookup_cons, hx] at h'; exact h'
      · rw [if_neg hc] at h'; simp only [List.lookup_cons, hx] at h'; exact h'
section
variable {X : Cx} {pins : List (Addr × Obj)} {σ : St} {H : Hp} {s : Shared}
structure CompScope (X : Cx) (scope : Scope) (x : Str) (cn : List Str) (cap : List Nat) : Prop where
  kind : scope.kind = .function
  names : ∀ y ∈ scope.names, y.2 = .local → scope.names.lookup y.1 = some .local
  cell : ∀ y ∈ scope.names, y.2 ≠ .cell
  own : scope.names.lookup x = some .local
  free : ∀ y ∈ scope.names, y.2 = .free → X.env.kindOf y.1 = some .cell ∨ X.env.kindOf y.1 = some .free
  cap : cap.map (fun i => X.N[i]?) = cn.map some
  capf : ∀ y ∈ cn, scope.names.lookup y = some .free
  capo : ∀ y ∈ cn, X.env.scope.names.lookup y = some .cell ∨ X.env.scope.names.lookup y = some .free
  nd : (x :: cn).Nodup
theorem comp_ok {scope : Scope} {x : Str} {cn : List Str} {cap : List Nat} {cl : List (Str × Addr)} {C : Addr} {fp : List Addr} (S : CompScope X scope x cn cap) (I : Inv X pins σ H s) (hf : ∀ b ∈ fp, FpOk X pins H b) (hlt : ∀ b ∈ fp, b < s.heap.objs.size)
    (hc1 : ∀ y c, cl.lookup y = some c → X.env.cells.lookup y = some c) (hc2 : ∀ y, (y, NameKind.free) ∈ scope.names → ∃ c, cl.lookup y = some c) (hC : s.heap.objs.size ≤ C) : (cxComp X scope (x :: cn) cl C s H fp).Ok where
  mod := I.ok.mod
  kind := S.kind
  glob := I.ok.glob
  blt := I.ok.blt
  above := hC
  inj := fun y z c h1 h2 => I.ok.inj y z c (hc1 y c h1) (hc1 z c h2)
  has := fun y h => hc2 y (of_relabel (env := X.env) S.cell h)
  cab := fun y c h => by cases (show false = true from h)
  hd := I.ok.hd
  frames := I.ok.frames
  stk := .inl rfl
  exf := fun b hb => ⟨Nat.ne_of_lt (Nat.lt_of_lt_of_le (hlt b hb) hC), fun y c h => (hf b hb).2.2.2.2.1 y c (hc1 y c h)⟩
  bs := I.bs
  bsz := Nat.le_trans I.ok.bsz I.sz
  noex := fun b o e hb => by
    rcases (hf b hb).2.2.2.1 with z | z
    · exact I.ok.noex b o e z
    · have h1 := Heap.lt_size e
      exact absurd (Nat.lt_of_lt_of_le h1 (Nat.le_trans I.ok.bsz z)) (Nat.lt_irrefl _)
  exfs := fun b hb z => by
    rcases List.mem_cons.mp (I.stkSub b z) with q | q
    · exact (hf b hb).2.1 q
    · exact (hf b hb).2.2.1 q
  funs := I.stack
  frf := I.stkFree
theorem map_get {α β : Type} {l : List α} {f : α → Option β} {m : List β} (h : l.map f = m.map some) : ∀ {j : Nat} {y : β}, m[j]? = some y → ∃ i, l[j]? = some i ∧ f i = some y := by
  intro j y e
  have h2 := congrArg (fun z => z[j]?) h
  simp only [List.getElem?_map] at h2
  rw [e] at h2
  cases q : l[j]? with
  | none => rw [q] at h2; cases h2
  | some i =>
    rw [q] at h2
    exact ⟨i, rfl, by simpa using h2⟩
theorem comp_core {elt iter : Expr} {x : Str} {px : Pos} {ifs : List Expr} {scope : Scope} {pos : Pos} {wi : TI} {tc : TT} {te : TE} (cn : List Str) (cap : List Nat) (S : CompScope X scope x cn cap) (hc : X.calm = true)
    (hi : PI X (.Name x px) iter wi) (hin : ∀ cl C s₀ H₀ ex, PIfs (cxComp X scope (x :: cn) cl C s₀ H₀ ex) ifs tc) (he : ∀ cl C s₀ H₀ ex, PE (cxComp X scope (x :: cn) cl C s₀ H₀ ex) elt te)
    (hs : ∀ z, foldedSetIterable iter X.env z = pure z) {use : Option (Value → Sem Unit)} {Q : VK} {Q' : Value → Shared → Prop} {pins : List (Addr × Obj)} {s : Shared} {σ : St} {H : Hp} (I : Inv X pins σ H s) (h : tComp wi tc te cap σ H Q)
    (fin : ∀ (d C : Addr) (H' : Hp) (s' : Shared) (m : _), Inv X pins σ H' s' → FpOk X pins H' C → s'.heap.Ns C m → Q (.ref d) H' → ∀ r, compPost (model X.prog X.w) X.A X.xe use Q' (.ref d) C (.ok r) s') :
    wpAny (model X.prog X.w) X.A (comprehension (.ListComp elt [⟨.Name x px, iter, ifs, 0⟩] scope pos) scope X.env (firstIterPos [⟨.Name x px, iter, ifs, 0⟩] pos) (newList []) false (firstIter [⟨.Name x px, iter, ifs, 0⟩] X.env) use) Q' X.xe s := by
  obtain ⟨cl, hclos, hc1, hc2⟩ := closure_ok (scope := scope) (env := X.env) fun y hy hk => I.ok.has y.1 (S.free y hy hk)
  refine wpAny_comprehension_free (use := use) rfl hs hclos S.kind S.names (thn (hi pins s σ H _ I h) fun v s1 h1 => thn h1 fun itv s2 h2 => ?_)
  obtain ⟨it, fp, tn, J, H2, e, I2, T, st2, f2, q2⟩ := h2
  subst e
  have hlt : ∀ b ∈ fp, b < s2.heap.objs.size := fun b hb => by
    obtain ⟨o, e, _⟩ := T.obj _ _ st2 b hb
    exact Heap.lt_size e
  refine wpAny_newObj_type (wpAny_newFunctionEnv S.cell (by intro y hy; simp at hy) (fun h₁ hns₁ hsb₁ => ?_) S.kind)
  dsimp only at hns₁ hsb₁ ⊢
  generalize hP : s2.heap.push { cls := .type "list", dict := none, data := .seq ([] : List Value).toArray } = P2 at hns₁ hsb₁ ⊢
  have hC : P2.objs.size = s2.heap.objs.size + 1 := by rw [← hP, Heap.size_push]
  have hDC : s2.heap.objs.size ≠ P2.objs.size := by rw [hC]; exact Nat.ne_of_lt (Nat.lt_succ_self _)
  have hCle : s2.heap.objs.size ≤ P2.objs.size := by rw [hC]; exact Nat.le_succ _
  have neC : ∀ b, b < s2.heap.objs.size → b ≠ P2.objs.size := fun b hb => by rw [hC]; exact Nat.ne_of_lt (Nat.lt_succ_of_lt hb)
  have old : ∀ b o, s2.heap.get? b = some o → h₁.get? b = some o := fun b o e => hsb₁.extBut b o (neC b (Heap.lt_size e)) (Heap.get?_push_of_some _ (hP ▸ Heap.get?_push_of_some _ e))
  have hacc : h₁.get? s2.heap.objs.size = some { cls := .type "list", dict := none, data := .seq ([] : List Value).toArray } := hsb₁.extBut _ _ hDC (Heap.get?_push_of_some _ (hP ▸ Heap.get?_push_size _ rfl))
  have hD0 : H2 s2.heap.objs.size = none := I2.hok.fresh (Nat.le_refl _)
  have ok' : (cxComp X scope (x :: cn) cl P2.objs.size s2 H2 fp).Ok := comp_ok S I2 f2 hlt hc1 hc2 hCle
  obtain ⟨W, ⟨m0, w0⟩, turn⟩ := q2 _ hD0
  have hok1 : HOk X.prog X.w (upd H2 s2.heap.objs.size (.lst [])) h₁ := I2.hok.laid old (Nat.le_refl _) ⟨Nat.zero_le _, [], _, .nil, hacc⟩
  have un1 : Un (frs X.stack) fp H2 (upd H2 s2.heap.objs.size (.lst [])) s2.heap h₁ := Un.laid old (Nat.le_refl _) hD0
  have I4 : ∀ tk, Inv (cxComp X scope (x :: cn) cl P2.objs.size s2 H2 fp) [] (inSt cap none σ) (upd H2 s2.heap.objs.size (.lst [])) { s2 with heap := h₁, toks := tk } := fun tk => by
    refine ⟨ok', rfl, I2.bare, un1, ⟨_, hns₁, fun i y v e1 e2 e3 => ?_⟩, fun y c e => ?_, ?_, fun y c e => ?_, fun p hp => (nomatch hp), hok1, ?_⟩
    · cases i with
      | zero => cases (show (none : Option V) = some v from Option.some.inj e2)
      | succ j =>
        have e1' : cn[j]? = some y := e1
        have ymem : y ∈ cn := List.mem_of_getElem? e1'
        obtain ⟨i0, ci, ni⟩ := map_get S.cap e1'
        have e2' : (cap.map fun i => (σ[i]?).join)[j]? = some (some v) := e2
        rw [List.getElem?_map, ci] at e2'
        have e3' : (σ[i0]?).join = some v := Option.some.inj e2'
        have e4 : σ[i0]? = some (some v) := by
          cases q : σ[i0]? with
          | none => rw [q] at e3'; cases e3'
          | some o => rw [q] at e3'; exact congrArg some e3'
        obtain ⟨m, hn, hl⟩ := I2.loc
        have vis : Vis X.env.scope y := .inr (S.capo y ymem)
        obtain ⟨u, r, lk⟩ := hl i0 y v ni e4 vis
        refine ⟨u, r, .inr ⟨lookup_relabel_free (env := X.env) (S.capf y ymem), ?_⟩⟩
        rcases lk with ⟨kl, _⟩ | ⟨_, c, ec, hcell⟩
        · rcases S.capo y ymem with z | z
          · have kl' : X.env.scope.names.lookup y = some .local := kl
            rw [z] at kl'; cases kl'
          · have kl' : X.env.scope.names.lookup y = some .local := kl
            rw [z] at kl'; cases kl'
        · have fm : (y, NameKind.free) ∈ scope.names := of_relabel (env := X.env) S.cell (lookup_relabel_free (env := X.env) (S.capf y ymem))
          obtain ⟨c', ec'⟩ := hc2 y fm
          have := hc1 y c' ec'
          rw [ec] at this
          cases this
          obtain ⟨o, ho, hd⟩ := hcell
          exact ⟨c, ec', o, old _ _ ho, hd⟩
    · obtain ⟨v, o, ho, hd⟩ := I2.cell y c (hc1 y c e)
      exact ⟨v, o, old _ _ ho, hd⟩
    · show (upd H2 s2.heap.objs.size (.lst [])) P2.objs.size = none
      rw [upd_ne (Ne.symm hDC)]
      exact I2.hok.fresh hCle
    · obtain ⟨v, o, ho, hd⟩ := I2.cell y c (hc1 y c e)
      rw [upd_ne (Nat.ne_of_lt (Heap.lt_size ho))]
      exact I2.freeC y c (hc1 y c e)
    · show (inSt cap none σ).length = (x :: cn).length
      have := congrArg List.length S.cap
      simp only [List.length_map] at this
      simp [inSt, this]
  have stat : ∀ {H' : Hp}, (∀ b ∈ fp, H' b = none) → ∀ b ∈ fp, FpOk (cxComp X scope (x :: cn) cl P2.objs.size s2 H2 fp) [] H' b := fun hn b hb =>
    ⟨hn b hb, neC b (hlt b hb), ok'.exfs b hb, .inl hb, fun y c e => (ok'.exf b hb).2 y c e, fun p hp => (nomatch hp)⟩
  have pgx : PG (cxComp X scope (x :: cn) cl P2.objs.size s2 H2 fp) (.Name x px) (gName 0) := pg_name (i := 0) S.nd rfl (.inl (lookup_relabel_local (env := X.env) S.own)) (.inr (lookup_relabel_local (env := X.env) S.own))
  have loop : ∀ s₃ : Shared, s₃ = { s2 with heap := h₁, toks := s2.toks + ([] : List (Str × Value)).length } →
      codeAny (model X.prog X.w) X.A (.compLoop (.ListComp elt [⟨.Name x px, iter, ifs, 0⟩] scope pos) 0 (.ref it) (.ref s2.heap.objs.size) (compEnvC scope cl P2.objs.size X.env))
        (compPost (model X.prog X.w) X.A X.xe use Q' (.ref s2.heap.objs.size) P2.objs.size) s₃ := by
    rintro s₃ rfl
    refine codeAny_loop rfl (fun n s' => ∃ i H', Inv (cxComp X scope (x :: cn) cl P2.objs.size s2 H2 fp) [] (inSt cap none σ) H' s' ∧ tn i s'.heap ∧ (∀ b ∈ fp, H' b = none) ∧ W i n H') ?_ m0
      ⟨0, _, I4 _, T.keep _ _ _ st2 fun b hb o e => old b o e, fun b hb => by rw [upd_ne (Nat.ne_of_lt (hlt b hb))]; exact (f2 b hb).1, w0⟩
    rintro n s3 ⟨i, H3, I3, st3, fr3, w3⟩
    show wpAny _ X.A ((compTurn (.ListComp elt [⟨.Name x px, iter, ifs, 0⟩] scope pos) 0 (.ref it) (.ref s2.heap.objs.size) (compEnvC scope cl P2.objs.size X.env)).onRaise (fun x => do noteFrame x (compEnvC scope cl P2.objs.size X.env); theTreesLotGoes x)) _ _ s3
    refine wpAny_noted ?_
    rw [compTurn_list]
    refine wpAny_bind (wpAny_standAt (wpAny_bind ?_))
    rcases turn i n H3 w3 with ⟨stop, qn⟩ | ⟨go, step⟩
    · refine wpAny_mono (T.done (cxComp X scope (x :: cn) cl P2.objs.size s2 H2 fp) rfl rfl rfl hc i [] s3 _ H3 (fun _ _ => False) I3 (stat fr3) st3 stop) (fun r s4 ⟨hr, I5⟩ => ?_) fun _ _ z => z.elim
      subst hr
      refine wpAny_pure ?_
      obtain ⟨m, hn, _⟩ := id I5.loc
      have J : Inv X pins σ H3 s4 := by
        have kp : ∀ b o, b ≠ P2.objs.size → s4.heap.get? b = some o → s4.heap.get? b = some o := fun b o hb e => e
        have b0 := I5.base
        have sm : ∀ b o, s2.heap.get? b = some o → b ≠ P2.objs.size := fun b o e => neC b (Heap.lt_size e)
        refine I2.call' (s' := s4) (ch := fp) I5.os ⟨fun b o e n hb hx => kp _ _ (sm b o e) (b0.keep b o e n hb hx), fun b o e n hb hx => ?_, b0.free, fun b o e hx => ?_, b0.tups, b0.frzs, b0.tbls⟩ (fun b u e => ?_) I5.bare
          fun b hb => ⟨(f2 b hb).2.2.2.1, (f2 b hb).2.1, (f2 b hb).2.2.2.2.1, (f2 b hb).2.2.2.2.2⟩
        · obtain ⟨sl, q⟩ := b0.slot b o e n hb hx
          exact ⟨sl, kp _ _ (sm b o e) q⟩
        · obtain ⟨o', q⟩ := b0.there b o e hx
          exact ⟨o', kp _ _ (sm b o e) q⟩
        · have hfree : H3 P2.objs.size = none := I5.free
          refine (I5.hok b u e).stay (fun c v hc' q => kp c v ?_ q) (fun _ q => q) fun _ _ q => q
          rcases hc' with z | z
          · rw [z]; exact ne_of_none e hfree
          · exact ne_of_none z hfree
      have fC : FpOk X pins H3 P2.objs.size := by
        have q := I2.fpOk hCle (I2.hok.fresh hCle)
        exact ⟨I5.free, q.2⟩
      exact fin _ _ _ _ m J fC hn qn _
    · refine wpAny_mono (T.item (cxComp X scope (x :: cn) cl P2.objs.size s2 H2 fp) rfl rfl rfl hc i [] s3 _ H3 (fun _ _ => False) I3 (stat fr3) st3 go) (fun r s4 ⟨u, hr, h4⟩ => ?_) fun _ _ z => z.elim
      subst hr
      refine wpAny_bind (wpAny_mono h4 (fun _ s5 ⟨xv, H5, I5, r5, y5, st5, fr5⟩ => ?_) fun _ _ z => z.elim)
      have I5' := I5.pinned (stat fr5) (T.obj _ _ st5)
      refine wpAny_bind (wpAny_mono (pgx _ s5 _ H5 xv u (fun σ6 H6 => σ6 = inSt cap (some xv) σ ∧ H6 = H5) I5' r5 ⟨rfl, rfl⟩) (fun _ s6 ⟨σ6, H6, I6, e6, e6'⟩ => ?_) fun _ _ z => z.elim)
      subst e6 e6'
      have again : ∀ {s7 : Shared} {H7 : Hp}, Inv (cxComp X scope (x :: cn) cl P2.objs.size s2 H2 fp) ([] ++ pinsAt fp s5.heap) (inSt cap (some xv) σ) H7 s7 → (∃ m', m' < n ∧ W (i + 1) m' H7) →
          ∃ m, m < n ∧ ∃ i H', Inv (cxComp X scope (x :: cn) cl P2.objs.size s2 H2 fp) [] (inSt cap none σ) H' s7 ∧ tn i s7.heap ∧ (∀ b ∈ fp, H' b = none) ∧ W i m H' := fun {s7 H7} I7 w7 => by
        obtain ⟨m', hm, w7⟩ := w7
        refine ⟨m', hm, i + 1, H7, I7.unpinned.weak rfl fun j v ev => ?_, T.keep _ _ _ st5 fun b hb o e => (I7.pin (b, o) (List.mem_append_right _ (List.mem_append_right _ (mem_pinsAt hb e)))).1, fun b hb => ?_, w7⟩
        · cases j with
          | zero => cases (show (none : Option V) = some v from Option.some.inj ev)
          | succ j => exact ev
        · obtain ⟨o, e, d⟩ := T.obj _ _ st5 b hb
          exact (I7.pin (b, o) (List.mem_append_right _ (List.mem_append_right _ (mem_pinsAt hb e)))).2.1
      refine wpAny_bind (wpAny_mono (hin cl P2.objs.size s2 H2 fp _ s6 _ _ _ I6 (step xv _ y5)) (fun ok s7 ⟨H7, I7, q7⟩ => ?_) fun _ _ z => z.elim)
      cases ok with
      | false =>
        have q7' : ∃ m', m' < n ∧ W (i + 1) m' H7 := by simpa using q7
        exact wpAny_pure ⟨rfl, again I7 q7'⟩
      | true =>
        have q7' := (if_pos rfl).mp q7
        refine wpAny_bind (wpAny_bind (wpAny_mono (he cl P2.objs.size s2 H2 fp _ s7 _ H7 _ I7 q7') (fun yv s8 ⟨y, H8, I8, r8, ys, h8, z8, q8⟩ => ?_) fun _ _ z => z.elim))
        refine wpAny_bind (wpAny_mono (mt_append (X := cxComp X scope (x :: cn) cl P2.objs.size s2 H2 fp) _ s8 _ H8 (.ref s2.heap.objs.size) [y] (.ref s2.heap.objs.size) [yv] (fun _ H9 => ∃ m', m' < n ∧ W (i + 1) m' H9) I8 rfl (.cons r8 .nil) ⟨_, ys, y, rfl, rfl, h8, z8, q8⟩) (fun _ s9 ⟨_, H9, I9, _, q9⟩ => ?_) fun _ _ z => z.elim)
        exact wpAny_pure (wpAny_pure ⟨rfl, again I9 q9⟩)
  exact codeAny_compStart_list (loop _ rfl) (T.self _ 0 _ _ _ (T.keep _ _ _ st2 fun b hb o e => old b o e) (loop _ rfl))
theorem pe_compG {elt iter : Expr} {x : Str} {px : Pos} {ifs : List Expr} {scope : Scope} {pos : Pos} {wi : TI} {tc : TT} {te : TE} (cn : List Str) (cap : List Nat) (S : CompScope X scope x cn cap) (hc : X.calm = true)
    (hi : PI X (.Name x px) iter wi) (hin : ∀ cl C s₀ H₀ ex, PIfs (cxComp X scope (x :: cn) cl C s₀ H₀ ex) ifs tc) (he : ∀ cl C s₀ H₀ ex, PE (cxComp X scope (x :: cn) cl C s₀ H₀ ex) elt te)
    (hs : ∀ z, foldedSetIterable iter X.env z = pure z := by intro _; rfl) : PE X (.ListComp elt [⟨.Name x px, iter, ifs, 0⟩] scope pos) (tComp wi tc te cap) := by
  intro pins s σ H Q I h
  rw [eval_ListComp]
  refine comp_core cn cap S hc hi hin he hs I h fun d C H' s' m J fC hn qn r => ⟨m, hn, fun h' hsb => ⟨.ref d, H', ?_, rfl, qn⟩⟩
  refine J.turnedL (t' := s'.toks) (ch := [C]) (fun b o hb e => hsb.extBut b o (by simpa using hb) e) (fun b hb => ?_)
  cases List.mem_singleton.mp hb
  exact fC
end
end L2
namespace L2
open PySem PySem.Spec PyProof.Rows
section
variable {X : Cx}
def rSlS : V → Option Int → Option Int → Hp → VK → Prop := fun x lo hi H Q => ∃ z, x = .str z ∧ z.length ≤ sizeLine ∧ Q (.str (Txt.slice z lo hi)) H
theorem sl_str : SlR X rSlS := by
  intro pins s σ H x v vl vu lo hi sl Q I rx hs pl pu h
  obtain ⟨z, rfl, hz, q⟩ := h
  obtain ⟨t, rfl⟩ := rx
  refine ⟨"str", _, F.slot_str_getitem.lookup, typeIs_str _ _ _, ?_⟩
  cases pl with
  | none =>
    cases pu with
    | none => exact wpAny_getItem_str_slice (l := none) (u := none) (st := none) hs rfl (post_val_or_str ⟨Nat.le_trans (Txt.slice_le z _ _) hz, fun t' k => ⟨.str _, H, I.tok k, ⟨_, rfl⟩, q⟩⟩)
    | int j uj => exact wpAny_getItem_str_slice (l := none) (u := some (j, uj)) (st := none) hs rfl (post_val_or_str ⟨Nat.le_trans (Txt.slice_le z _ _) hz, fun t' k => ⟨.str _, H, I.tok k, ⟨_, rfl⟩, q⟩⟩)
  | int i ui =>
    cases pu with
    | none => exact wpAny_getItem_str_slice (l := some (i, ui)) (u := none) (st := none) hs rfl (post_val_or_str ⟨Nat.le_trans (Txt.slice_le z _ _) hz, fun t' k => ⟨.str _, H, I.tok k, ⟨_, rfl⟩, q⟩⟩)
    | int j uj => exact wpAny_getItem_str_slice (l := some (i, ui)) (u := some (j, uj)) (st := none) hs rfl (post_val_or_str ⟨Nat.le_trans (Txt.slice_le z _ _) hz, fun t' k => ⟨.str _, H, I.tok k, ⟨_, rfl⟩, q⟩⟩)
def rSlX (K : PySem.W.Frag) : V → Option Int → Option Int → Hp → VK → Prop := fun x lo hi H Q => rSlL K x lo hi H Q ∨ rSlT K x lo hi H Q ∨ rSlS x lo hi H Q
theorem slX : SlR X (rSlX X.K) := sl_list.or (sl_tup.or sl_str)
def rMulS : R2 := fun x y H Q => ∃ a n, x = .str a ∧ y = .int n ∧ a.length ≤ 16 ∧ 0 ≤ n ∧ n ≤ 1000000 ∧ Q (.str (Txt.mul a n)) H
theorem op_mulS : OpR X (binaryOp .Mult) rMulS := by
  intro pins s σ H x y v u Q I rx ry h
  obtain ⟨a, n, rfl, rfl, h1, h2, h3, q⟩ := h
  obtain ⟨t, rfl⟩ := rx
  obtain ⟨t', rfl⟩ := ry
  exact SB.mul (mulOk_of 16 1048576 h1 (by omega) (by omega) (by decide) (by decide)) fun t' k => ⟨.str _, H, I.tok _, ⟨_, rfl⟩, q⟩
def rMulX : R2 := fun x y H Q => rI IntMulOk (fun i j => .int (i * j)) x y H Q ∨ rRep x y H Q ∨ rMulS x y H Q
theorem op_mulX : OpR X (binaryOp .Mult) rMulX := op_mulB.or (op_rep.or op_mulS)
def Its (z : Str) : It := ⟨fun i _ => i < z.cps.size, fun i H x H' => H' = H ∧ ∃ c, z.cps.toList[i]? = some c ∧ x = .str ⟨#[c]⟩, fun i _ => i = z.cps.size⟩
theorem turn_str {P : Program} {w : World} {K : PySem.W.Frag} {tg : Expr} {T : String} {z : Str} {t : Tok} (it : Addr) (hT : ["enumerate", "zip", "dict_itemiterator", "dict_reverseitemiterator", "odict_iterator", "itertools.zip_longest", "itertools.pairwise"].contains T = false)
    (W : ∀ A : Around, A.handled = none → Walks P w A it [it] [it] z.cps.size (SignAt z) (fun i h => h.IsStrIter it T z t i)) (W0 : ∀ (A : Around) (i : Nat) (s : Shared) (Q : Value → Shared → Prop) (E : Value → Shared → Prop), s.heap.IsStrIter it T z t i → Q (.ref it) s → wpAny (model P w) A (pyIter (.ref it)) Q E s) :
    Turn P w K tg (Its z) [it] it (fun i h => h.IsStrIter it T z t i) where
  mem := by simp
  obj := fun i h st b hb => by
    have e : b = it := by simpa using hb
    subst e
    obtain ⟨o, e, c, d⟩ := st
    exact ⟨o, e, fun v q => by rw [d] at q; cases q⟩
  keep := fun i h h' st k => by
    obtain ⟨o, e, c, d⟩ := st
    exact ⟨o, k it (by simp) o e, c, d⟩
  item := by
    intro X hP hw hK hc i pins s σ H E I hf st hg
    subst hP hw hK
    obtain ⟨f0, f1, f2, f3, f4, f5⟩ := hf it (by simp)
    refine (W X.A (I.ok.hd hc)).item i s _ _ hg st fun v h' tk hv st' kk => ?_
    obtain ⟨c, u, hc', rfl⟩ := hv
    have I1 : Inv X pins σ H { s with heap := h', toks := tk } := I.turned (fun b o hb e => kk b o (by simpa using hb) e) f0 f1 f3 f4 f5
    obtain ⟨o, e, hcl, hd⟩ := id st'
    refine ⟨_, rfl, go_of (s := { s with heap := h', toks := tk }) e hcl hd hT ⟨.str ⟨#[c]⟩, H, I1, ⟨u, rfl⟩, ⟨rfl, c, ?_, rfl⟩, st', fun b hb => (hf b hb).1⟩⟩
    rw [← hc']; simp
  done := by
    intro X hP hw hK hc i pins s σ H E I hf st hg
    subst hP hw hK
    obtain ⟨f0, f1, f2, f3, f4, f5⟩ := hf it (by simp)
    have hg' : i = z.cps.size := hg
    subst hg'
    exact (W X.A (I.ok.hd hc)).done s _ _ st fun h' tk hk => ⟨rfl, I.turned (fun b o hb e => hk b o (by simpa using hb) e) f0 f1 f3 f4 f5⟩
  self := fun A i s Q E st h => W0 A i s Q E st h
def iStr (te : TE) : TI := fun σ H R => te σ H fun x H1 => ∃ z, x = .str z ∧ R (Its z) H1
theorem pi_str {tg e : Expr} {te : TE} (he : PE X e te) : PI X tg e (iStr te) := by
  intro pins s σ H R I h
  refine thn (he pins s σ H _ I h) fun v s1 ⟨x, H1, I1, r1, z, ez, q⟩ => ?_
  subst ez
  obtain ⟨t, rfl⟩ := r1
  have fin : ∀ (T : String), (["enumerate", "zip", "dict_itemiterator", "dict_reverseitemiterator", "odict_iterator", "itertools.zip_longest", "itertools.pairwise"].contains T = false) →
      (∀ A : Around, A.handled = none → Walks X.prog X.w A s1.heap.objs.size [s1.heap.objs.size] [s1.heap.objs.size] z.cps.size (SignAt z) (fun i h => h.IsStrIter s1.heap.objs.size T z t i)) →
      (∀ (A : Around) (i : Nat) (s : Shared) (Q : Value → Shared → Prop) (E : Value → Shared → Prop), s.heap.IsStrIter s1.heap.objs.size T z t i → Q (.ref s1.heap.objs.size) s → wpAny (model X.prog X.w) A (pyIter (.ref s1.heap.objs.size)) Q E s) →
      PIE X pins σ tg R (.ref s1.heap.objs.size) { s1 with heap := s1.heap.push { cls := .type T, data := .fields #[.str z t, .int 0 0] } } := fun T hT W W0 => by
    refine ⟨s1.heap.objs.size, [s1.heap.objs.size], _, Its z, H1, rfl, I1.kept (t' := s1.toks) fun b o e => Heap.get?_push_of_some _ e, turn_str s1.heap.objs.size hT W W0, ⟨_, Heap.get?_push_size _ rfl, rfl, rfl⟩, fun b hb => ?_, q⟩
    have e : b = s1.heap.objs.size := by simpa using hb
    subst e
    exact I1.fpOk (Nat.le_refl _) (I1.hok.fresh (Nat.le_refl _))
  cases ha : z.cps.all (· < 128)
  · exact wpAny_pyIter_wide ha (fin "str_iterator" (by decide) (fun A hA => Walks.strWide hA _ z t) fun A i s Q E st h => wpAny_pyIter_striter_wide st h)
  · exact wpAny_pyIter_ascii ha (fin "str_ascii_iterator" (by decide) (fun A hA => Walks.strAscii hA _ z t) fun A i s Q E st h => wpAny_pyIter_striter_ascii st h)
theorem pi_or {tg e : Expr} {wi wi' : TI} (h : PI X tg e wi) (h' : PI X tg e wi') : PI X tg e (fun σ H R => wi σ H R ∨ wi' σ H R) := by
  intro pins s σ H R I q
  rcases q with q | q
  · exact h pins s σ H R I q
  · exact h' pins s σ H R I q
end
end L2
namespace L2
open PySem PySem.Spec PyProof.Rows
section
variable {P : Program} {w : World} {K : PySem.W.Frag} {mg : Str → Option Value} {base : Heap}
end
section
variable {X : Cx} {k n : Nat} {x : Str} {ps : List Str} {sp : Sp} {p pos : Pos} {e : Expr} {es : List Expr} {t : TA} {dvs : List V}
structure CompC (fsc : Scope) (N : List Str) (scope : Scope) (x : Str) (cn : List Str) (cap : List Nat) : Prop where
  kind : scope.kind = .function
  names : ∀ y ∈ scope.names, y.2 = .local → scope.names.lookup y.1 = some .local
  cell : ∀ y ∈ scope.names, y.2 ≠ .cell
  own : scope.names.lookup x = some .local
  free : ∀ y ∈ scope.names, y.2 = .free → fsc.names.lookup y.1 = some .cell ∨ fsc.names.lookup y.1 = some .free
  cap : cap.map (fun i => N[i]?) = cn.map some
  capf : ∀ y ∈ cn, scope.names.lookup y = some .free
  capo : ∀ y ∈ cn, fsc.names.lookup y = some .cell ∨ fsc.names.lookup y = some .free
  nd : (x :: cn).Nodup
theorem CompC.to {fsc : Scope} {N : List Str} {scope : Scope} {cn : List Str} {cap : List Nat} (c : CompC fsc N scope x cn cap) (e1 : X.env.scope = fsc) (e2 : X.N = N) : CompScope X scope x cn cap := by
  subst e1 e2
  exact ⟨c.kind, c.names, c.cell, c.own, c.free, c.cap, c.capf, c.capo, c.nd⟩
end
section
variable {X : Cx} {K : PySem.W.Frag}
theorem ix_seqK (h : X.K = K) : IxR X (rIx K) := by
  subst h; exact ix_seq
theorem op_eqGK (h : X.K = K) (hu : X.A.units + 64 < cLine) : OpR X (compareOp .Eq) (rEqG K) := by
  subst h; exact op_eqG hu
end
end L2
namespace Tx
open PySem
abbrev cs (x : Str) : List Nat := x.cps.toList
theorem ext {x y : Str} (h : cs x = cs y) : x = y := PyProof.Rows.ext_toList h
def dig (c : Nat) : Bool := decide (48 ≤ c) && decide (c ≤ 57)
def low (c : Nat) : Bool := decide (97 ≤ c) && decide (c ≤ 122)
def val (l : List Nat) : Int := l.foldl (fun (v : Int) (c : Nat) => v * 10 + ((c : Int) - 48)) 0
def numL : List Nat → Option Int
  | [] => none
  | c :: r => if (c :: r).length ≤ 60 ∧ (c :: r).all dig = true ∧ (r = [] ∨ c ≠ 48) then some (val (c :: r)) else none
def row (p : Nat → Bool) (m : Int) (x : Str) : Bool := decide (1 ≤ x.length) && decide ((x.length : Int) ≤ m) && (cs x).all p
end Tx
namespace Tx
open PySem
def rd (neg : Bool) (b : List Nat) (o : Option (List Nat × List Nat)) : Option (Int × Int) := match o with
  | none => match numL b with
    | none => none
    | some a => if neg = true ∧ a = 0 then none else some ((if neg then -a else a), 1)
  | some (A, B) => match numL A, numL B with
    | some a, some d => if d < 2 ∨ (neg = true ∧ a = 0) ∨ Fr.G a d ≠ 1 then none else some ((if neg then -a else a), d)
    | _, _ => none
end Tx
namespace L2
open PySem PySem.Spec PyProof.Rows
section
variable {X : Cx}
end
section
variable {prog : Program} {w : World} {A : Around} {E : Value → Shared → Prop} {s : Shared} {it l : Addr} {its : Array Value}
end
end L2
namespace L2
open PySem PySem.Spec PyProof.Rows
section
variable {X : Cx}
abbrev rSubI : R2 := rI0 fun i j => .int (i - j)
abbrev rFdiv : R2 := rI CDiv fun i j => .int (i / j)
abbrev rFdivB : R2 := rI CDivB fun i j => .int (i.fdiv j)
abbrev rMod : R2 := rI (fun _ j => 0 < j) fun i j => .int (i % j)
abbrev rLt : R2 := rI0 fun i j => .bl (decide (i < j))
abbrev rLe : R2 := rI0 fun i j => .bl (decide (i ≤ j))
abbrev rGt : R2 := rI0 fun i j => .bl (decide (j < i))
abbrev rNeg : V → Hp → VK → Prop := rU fun i => .int (-i)
abbrev rAbs : List V → Hp → VK → Prop := fun xs H Q => ∃ i, xs = [.int i] ∧ Q (.int (if i < 0 then -i else i)) H
abbrev rLen (K : PySem.W.Frag) : List V → Hp → VK → Prop := fun xs H Q => (∃ p ys, xs = [.ref p] ∧ (SqL K H p ys ∨ SqT K H p ys) ∧ Q (.int ys.length) H) ∨ ∃ z, xs = [.str z] ∧ z.length ≤ sizeLine ∧ Q (.int z.length) H
abbrev rIsT (K : PySem.W.Frag) : List V → Hp → VK → Prop := fun xs H Q => ∃ x T t k, xs = [x, .ty T] ∧ TyOf K H x t ∧ PySem.W.kitOne K t (.type T) = some k ∧ Q (.bl k) H
abbrev rMax2 : List V → Hp → VK → Prop := fun xs H Q => ∃ i j, xs = [.int i, .int j] ∧ Q (.int (if j > i then j else i)) H
abbrev rListOf (K : PySem.W.Frag) : List V → Hp → VK → Prop := fun xs H Q => ∃ p ys, xs = [.ref p] ∧ (SqL K H p ys ∨ SqT K H p ys) ∧ ∀ l, H l = none → Q (.ref l) (upd H l (.lst ys))
end
end L2
namespace L2
open PySem PySem.Spec PyProof.Rows
section
variable {prog : Program} {w : World} {A : Around} {E : Value → Shared → Prop} {s : Shared} {K : PySem.W.Frag} {x C : Addr} {ox : Obj} {od : Option Obj} {name : Str}
end
section
variable {X : Cx} {pins : List (Addr × Obj)} {σ : St} {H : Hp} {s : Shared} {e C dx : Addr} {d : Option Addr} {fs : List (Str × V)} {f : Str}
end
end L2
namespace L2
open PySem PySem.Spec PyProof.Rows
section
variable {prog : Program} {w : World} {A : Around} {E : Value → Shared → Prop} {s : Shared} {K : PySem.W.Frag} {x C : Addr} {d : Option Addr} {vs : Array Value} {sl : Array (Option Value)}
end
end L2
namespace L2
open PySem PySem.Spec PyProof.Rows
section
variable {prog : Program} {w : World} {M : Model} {A : Around} {E : Value → Shared → Prop} {R : Result → Shared → Prop} {h : Heap} {g : Array GenState} {d : Drawn} {t : Nat} {os : OsState} {K : PySem.W.Frag}
variable {nm q : Str} {C N : Addr} {bs bm : List Value} {hdct : Bool} {sn : List Str} {sub : List Value} {ab : Bool} {col : Option Bool} {dd : Option Addr} {k0 k1 k2 k3 k5 : Option Value} {rest : List Value}
end
section
variable {X : Cx} {CX : CXT} {k : Nat} {f C : Addr} {fd : FuncData} {ps : List Str} {sp : Sp} {dvs : List V} {ds : List Value} {E : XK} {x : Str} {p pos : Pos} {e : Expr} {es : List Expr} {t : TA}
end
end L2
namespace L2
open PySem PySem.Spec PyProof.Rows
section
variable {prog : Program} {w : World} {A : Around} {E : Value → Shared → Prop} {s : Shared} {K : PySem.W.Frag} {x C : Addr} {ox : Obj} {od : Option Obj} {name : Str}
end
section
variable {X : Cx}
end
section
variable {prog : Program} {w : World} {A : Around} {E : Value → Shared → Prop} {h : Heap} {g : Array GenState} {d : Drawn} {t : Nat} {os : OsState} {K : PySem.W.Frag}
variable {nm q : Str} {C N : Addr} {bs bm : List Value} {hdct : Bool} {sn : List Str} {sub : List Value} {ab : Bool} {col : Option Bool} {dd : Option Addr} {k0 k1 k2 k3 k5 : Option Value} {v : Value}
end
end L2
namespace L2
open PySem PySem.Spec PyProof.Rows
end L2
namespace L2
open PySem PySem.Spec PyProof.Rows
def clA (K : PySem.W.Frag) (x : Str) : Addr := match PySem.W.nsIn K mainGlobals x with
  | some (some (.ref a)) => a
  | _ => 0
theorem clA_of {K : PySem.W.Frag} {x : Str} {a : Addr} (h : PySem.W.nsIn K mainGlobals x = some (some (.ref a))) : clA K x = a := by
  unfold clA
  rw [h]
section
variable {K : PySem.W.Frag} {C D : Addr} {cd cd' : ClassData}
structure KObj (K : PySem.W.Frag) (C : Addr) (cd : ClassData) : Prop where
  cls : PySem.W.clsIn K C = some cd
  type : PySem.W.typeIn K (.ref C) = some (.type "type")
  mro : ∃ bm, cd.mro = .ref C :: bm
theorem KObj.sub (x : KObj K C cd) (v : Value) : PySem.W.subIn K (.ref C) v = some (cd.mro.contains v) := by
  obtain ⟨bm, hm⟩ := x.mro
  show PySem.W.mroIn K C v = _
  unfold PySem.W.mroIn
  rw [x.cls, Option.bind_some, hm]
  rfl
theorem KObj.kit (x : KObj K C cd) (y : KObj K D cd') : PySem.W.kitOne K (.ref C) (.ref D) = some (cd.mro.contains (.ref D)) := by
  unfold PySem.W.kitOne
  by_cases q : (Value.ref C == Value.ref D) = true
  · have e : C = D := Value.ref.inj (beq_iff_eq.mp q)
    subst e
    obtain ⟨bm, hm⟩ := x.mro
    rw [if_pos q, hm, List.contains_cons, q, Bool.true_or]
  · rw [if_neg q]
    unfold PySem.W.kitCls
    dsimp only
    rw [y.cls, y.type, x.sub]
    rw [if_pos (by rw [beq_self_eq_true]; rfl)]
end
inductive Pts (K : PySem.W.Frag) : List Str → List Addr → Prop
  | nil : Pts K [] []
  | cons {n : Str} {ns : List Str} {C : Addr} {Cs : List Addr} {cd : ClassData} : PySem.W.nsIn K mainGlobals n = some (some (.ref C)) → KObj K C cd → Pts K ns Cs → Pts K (n :: ns) (C :: Cs)
section
variable {K : PySem.W.Frag} {C : Addr} {cd : ClassData}
theorem kit_all {ms : List Str} (x : KObj K C cd) {ns : List Str} {Cs : List Addr} (p : Pts K ns Cs) : (Cs.map fun D => cd.mro.contains (.ref D)) = ns.map ms.contains → ∀ n ∈ ns, PySem.W.kitOne K (.ref C) (.ref (clA K n)) = some (ms.contains n) := by
  induction p with
  | nil => intro _ n h; cases h
  | cons a y p ih =>
    intro e n h
    have e' := List.cons.inj e
    rcases List.mem_cons.mp h with rfl | h
    · rw [clA_of a, x.kit y]
      exact congrArg some e'.1
    · exact ih e'.2 n h
theorem na_nil : ∀ f ∈ ([] : List Str), NoAttr K C f := fun _ h => by cases h
theorem na_cons {f : Str} {fs : List Str} (h : PySem.W.findIn K (.ref C) f = some none) (t : ∀ g ∈ fs, NoAttr K C g) : ∀ g ∈ f :: fs, NoAttr K C g := fun g hg => by
  rcases List.mem_cons.mp hg with rfl | hg
  · exact h
  · exact t g hg
end
section
variable {X : Cx} {k n : Nat} {x : Str} {ps : List Str} {sp : Sp} {p pos : Pos} {e : Expr} {es : List Expr} {t : TA}
end
end L2
namespace L2
open PySem PySem.Spec PyProof.Rows
def KeepS (σ σ' : St) : Prop := σ.length = σ'.length ∧ ∀ (j : Nat) (v : V), σ[j]? = some (some v) → σ'[j]? = some (some v)
def inStT (kx : Nat) (cap : List Nat) (σ : St) : St := List.replicate kx none ++ cap.map fun i => (σ[i]?).join
def compBodyT (J : It) (kx : Nat) (g : TG) (tc : TT) (te : TE) (cap : List Nat) (σ : St) (Q : VK) (H1 : Hp) : Prop := ∀ acc, H1 acc = none → ∃ W : Nat → Nat → Hp → Prop, (∃ m, W 0 m (upd H1 acc (.lst []))) ∧ ∀ i m H, W i m H →
  (J.stop i H ∧ Q (.ref acc) H) ∨ (J.go i H ∧ ∀ x H', J.yld i H x H' → g x (inStT kx cap σ) H' fun σ2 H2 => KeepS (inStT kx cap σ) σ2 ∧ tc σ2 H2 fun b H3 => if b = true then te σ2 H3 fun y H4 => ∃ ys, H4 acc = some (.lst ys) ∧ ys.length < sizeLine ∧ ∃ m', m' < m ∧ W (i + 1) m' (upd H4 acc (.lst (ys ++ [y]))) else ∃ m', m' < m ∧ W (i + 1) m' H3)
def tCompT (wi : TI) (kx : Nat) (g : TG) (tc : TT) (te : TE) (cap : List Nat) : TE := fun σ H Q => wi σ H fun J H1 => compBodyT J kx g tc te cap σ Q H1
section
variable {X : Cx} {pins : List (Addr × Obj)} {σ : St} {H : Hp} {s : Shared}
structure CompScopeT (X : Cx) (scope : Scope) (xs : List Str) (cn : List Str) (cap : List Nat) : Prop where
  kind : scope.kind = .function
  names : ∀ y ∈ scope.names, y.2 = .local → scope.names.lookup y.1 = some .local
  cell : ∀ y ∈ scope.names, y.2 ≠ .cell
  own : ∀ y ∈ xs, scope.names.lookup y = some .local
  free : ∀ y ∈ scope.names, y.2 = .free → X.env.kindOf y.1 = some .cell ∨ X.env.kindOf y.1 = some .free
  cap : cap.map (fun i => X.N[i]?) = cn.map some
  capf : ∀ y ∈ cn, scope.names.lookup y = some .free
  capo : ∀ y ∈ cn, X.env.scope.names.lookup y = some .cell ∨ X.env.scope.names.lookup y = some .free
  nd : (xs ++ cn).Nodup
theorem comp_okT {scope : Scope} {xs : List Str} {cn : List Str} {cap : List Nat} {cl : List (Str × Addr)} {C : Addr} {fp : List Addr} (S : CompScopeT X scope xs cn cap) (I : Inv X pins σ H s) (hf : ∀ b ∈ fp, FpOk X pins H b) (hlt : ∀ b ∈ fp, b < s.heap.objs.size)
    (hc1 : ∀ y c, cl.lookup y = some c → X.env.cells.lookup y = some c) (hc2 : ∀ y, (y, NameKind.free) ∈ scope.names → ∃ c, cl.lookup y = some c) (hC : s.heap.objs.size ≤ C) : (cxComp X scope (xs ++ cn) cl C s H fp).Ok where
  mod := I.ok.mod
  kind := S.kind
  glob := I.ok.glob
  blt := I.ok.blt
  above := hC
  inj := fun y z c h1 h2 => I.ok.inj y z c (hc1 y c h1) (hc1 z c h2)
  has := fun y h => hc2 y (of_relabel (env := X.env) S.cell h)
  cab := fun y c h => by cases (show false = true from h)
  hd := I.ok.hd
  frames := I.ok.frames
  stk := .inl rfl
  exf := fun b hb => ⟨Nat.ne_of_lt (Nat.lt_of_lt_of_le (hlt b hb) hC), fun y c h => (hf b hb).2.2.2.2.1 y c (hc1 y c h)⟩
  bs := I.bs
  bsz := Nat.le_trans I.ok.bsz I.sz
  noex := fun b o e hb => by
    rcases (hf b hb).2.2.2.1 with z | z
    · exact I.ok.noex b o e z
    · have h1 := Heap.lt_size e
      exact absurd (Nat.lt_of_lt_of_le h1 (Nat.le_trans I.ok.bsz z)) (Nat.lt_irrefl _)
  exfs := fun b hb z => by
    rcases List.mem_cons.mp (I.stkSub b z) with q | q
    · exact (hf b hb).2.1 q
    · exact (hf b hb).2.2.1 q
  funs := I.stack
  frf := I.stkFree
theorem pe_compT {elt iter tg : Expr} {xs : List Str} {kx : Nat} {g : TG} {ifs : List Expr} {scope : Scope} {pos : Pos} {wi : TI} {tc : TT} {te : TE} (cn : List Str) (cap : List Nat) (S : CompScopeT X scope xs cn cap) (hc : X.calm = true)
    (hkx : xs.length = kx) (hg : ∀ cl C s₀ H₀ ex, PG (cxComp X scope (xs ++ cn) cl C s₀ H₀ ex) tg g)
    (hi : PI X tg iter wi) (hin : ∀ cl C s₀ H₀ ex, PIfs (cxComp X scope (xs ++ cn) cl C s₀ H₀ ex) ifs tc) (he : ∀ cl C s₀ H₀ ex, PE (cxComp X scope (xs ++ cn) cl C s₀ H₀ ex) elt te)
    (hs : ∀ z, foldedSetIterable iter X.env z = pure z := by intro _; rfl) : PE X (.ListComp elt [⟨tg, iter, ifs, 0⟩] scope pos) (tCompT wi kx g tc te cap) := by
  intro pins s σ H Q I h
  obtain ⟨cl, hclos, hc1, hc2⟩ := closure_ok (scope := scope) (env := X.env) fun y hy hk => I.ok.has y.1 (S.free y hy hk)
  rw [eval_ListComp]
  refine wpAny_comprehension_free (use := none) rfl hs hclos S.kind S.names (thn (hi pins s σ H _ I h) fun v s1 h1 => thn h1 fun itv s2 h2 => ?_)
  obtain ⟨it, fp, tn, J, H2, e, I2, T, st2, f2, q2⟩ := h2
  subst e
  have hlt : ∀ b ∈ fp, b < s2.heap.objs.size := fun b hb => by
    obtain ⟨o, e, _⟩ := T.obj _ _ st2 b hb
    exact Heap.lt_size e
  refine wpAny_newObj_type (wpAny_newFunctionEnv S.cell (by intro y hy; simp at hy) (fun h₁ hns₁ hsb₁ => ?_) S.kind)
  dsimp only at hns₁ hsb₁ ⊢
  generalize hP : s2.heap.push { cls := .type "list", dict := none, data := .seq ([] : List Value).toArray } = P2 at hns₁ hsb₁ ⊢
  have hC : P2.objs.size = s2.heap.objs.size + 1 := by rw [← hP, Heap.size_push]
  have hDC : s2.heap.objs.size ≠ P2.objs.size := by rw [hC]; exact Nat.ne_of_lt (Nat.lt_succ_self _)
  have hCle : s2.heap.objs.size ≤ P2.objs.size := by rw [hC]; exact Nat.le_succ _
  have neC : ∀ b, b < s2.heap.objs.size → b ≠ P2.objs.size := fun b hb => by rw [hC]; exact Nat.ne_of_lt (Nat.lt_succ_of_lt hb)
  have old : ∀ b o, s2.heap.get? b = some o → h₁.get? b = some o := fun b o e => hsb₁.extBut b o (neC b (Heap.lt_size e)) (Heap.get?_push_of_some _ (hP ▸ Heap.get?_push_of_some _ e))
  have hacc : h₁.get? s2.heap.objs.size = some { cls := .type "list", dict := none, data := .seq ([] : List Value).toArray } := hsb₁.extBut _ _ hDC (Heap.get?_push_of_some _ (hP ▸ Heap.get?_push_size _ rfl))
  have hD0 : H2 s2.heap.objs.size = none := I2.hok.fresh (Nat.le_refl _)
  have ok' : (cxComp X scope (xs ++ cn) cl P2.objs.size s2 H2 fp).Ok := comp_okT S I2 f2 hlt hc1 hc2 hCle
  obtain ⟨W, ⟨m0, w0⟩, turn⟩ := q2 _ hD0
  have hok1 : HOk X.prog X.w (upd H2 s2.heap.objs.size (.lst [])) h₁ := I2.hok.laid old (Nat.le_refl _) ⟨Nat.zero_le _, [], _, .nil, hacc⟩
  have un1 : Un (frs X.stack) fp H2 (upd H2 s2.heap.objs.size (.lst [])) s2.heap h₁ := Un.laid old (Nat.le_refl _) hD0
  have I4 : ∀ tk, Inv (cxComp X scope (xs ++ cn) cl P2.objs.size s2 H2 fp) [] (inStT kx cap σ) (upd H2 s2.heap.objs.size (.lst [])) { s2 with heap := h₁, toks := tk } := fun tk => by
    refine ⟨ok', rfl, I2.bare, un1, ⟨_, hns₁, fun i y v e1 e2 e3 => ?_⟩, fun y c e => ?_, ?_, fun y c e => ?_, fun p hp => (nomatch hp), hok1, ?_⟩
    · by_cases hik : i < kx
      · have e2' : (List.replicate kx (none : Option V) ++ cap.map fun i => (σ[i]?).join)[i]? = some (some v) := e2
        rw [List.getElem?_append_left (by rw [List.length_replicate]; exact hik), List.getElem?_replicate, if_pos hik] at e2'
        cases Option.some.inj e2'
      · have e1'' : (xs ++ cn)[i]? = some y := e1
        have e1' : cn[i - kx]? = some y := by
          rw [List.getElem?_append_right (by rw [hkx]; exact Nat.le_of_not_lt hik), hkx] at e1''
          exact e1''
        have ymem : y ∈ cn := List.mem_of_getElem? e1'
        obtain ⟨i0, ci, ni⟩ := map_get S.cap e1'
        have e2'' : (List.replicate kx (none : Option V) ++ cap.map fun i => (σ[i]?).join)[i]? = some (some v) := e2
        have e2' : (cap.map fun i => (σ[i]?).join)[i - kx]? = some (some v) := by
          rw [List.getElem?_append_right (by rw [List.length_replicate]; exact Nat.le_of_not_lt hik), List.length_replicate] at e2''
          exact e2''
        rw [List.getElem?_map, ci] at e2'
        have e3' : (σ[i0]?).join = some v := Option.some.inj e2'
        have e4 : σ[i0]? = some (some v) := by
          cases q : σ[i0]? with
          | none => rw [q] at e3'; cases e3'
          | some o => rw [q] at e3'; exact congrArg some e3'
        obtain ⟨m, hn, hl⟩ := I2.loc
        have vis : Vis X.env.scope y := .inr (S.capo y ymem)
        obtain ⟨u, r, lk⟩ := hl i0 y v ni e4 vis
        refine ⟨u, r, .inr ⟨lookup_relabel_free (env := X.env) (S.capf y ymem), ?_⟩⟩
        rcases lk with ⟨kl, _⟩ | ⟨_, c, ec, hcell⟩
        · rcases S.capo y ymem with z | z
          · have kl' : X.env.scope.names.lookup y = some .local := kl
            rw [z] at kl'; cases kl'
          · have kl' : X.env.scope.names.lookup y = some .local := kl
            rw [z] at kl'; cases kl'
        · have fm : (y, NameKind.free) ∈ scope.names := of_relabel (env := X.env) S.cell (lookup_relabel_free (env := X.env) (S.capf y ymem))
          obtain ⟨c', ec'⟩ := hc2 y fm
          have := hc1 y c' ec'
          rw [ec] at this
          cases this
          obtain ⟨o, ho, hd⟩ := hcell
          exact ⟨c, ec', o, old _ _ ho, hd⟩
    · obtain ⟨v, o, ho, hd⟩ := I2.cell y c (hc1 y c e)
      exact ⟨v, o, old _ _ ho, hd⟩
    · show (upd H2 s2.heap.objs.size (.lst [])) P2.objs.size = none
      rw [upd_ne (Ne.symm hDC)]
      exact I2.hok.fresh hCle
    · obtain ⟨v, o, ho, hd⟩ := I2.cell y c (hc1 y c e)
      rw [upd_ne (Nat.ne_of_lt (Heap.lt_size ho))]
      exact I2.freeC y c (hc1 y c e)
    · show (inStT kx cap σ).length = (xs ++ cn).length
      have := congrArg List.length S.cap
      simp only [List.length_map] at this
      simp [inStT, this, hkx]
  have stat : ∀ {H' : Hp}, (∀ b ∈ fp, H' b = none) → ∀ b ∈ fp, FpOk (cxComp X scope (xs ++ cn) cl P2.objs.size s2 H2 fp) [] H' b := fun hn b hb =>
    ⟨hn b hb, neC b (hlt b hb), ok'.exfs b hb, .inl hb, fun y c e => (ok'.exf b hb).2 y c e, fun p hp => (nomatch hp)⟩
  have loop : ∀ s₃ : Shared, s₃ = { s2 with heap := h₁, toks := s2.toks + ([] : List (Str × Value)).length } →
      codeAny (model X.prog X.w) X.A (.compLoop (.ListComp elt [⟨tg, iter, ifs, 0⟩] scope pos) 0 (.ref it) (.ref s2.heap.objs.size) (compEnvC scope cl P2.objs.size X.env))
        (compPost (model X.prog X.w) X.A X.xe none (EP X pins σ Q) (.ref s2.heap.objs.size) P2.objs.size) s₃ := by
    rintro s₃ rfl
    refine codeAny_loop rfl (fun n s' => ∃ i H', Inv (cxComp X scope (xs ++ cn) cl P2.objs.size s2 H2 fp) [] (inStT kx cap σ) H' s' ∧ tn i s'.heap ∧ (∀ b ∈ fp, H' b = none) ∧ W i n H') ?_ m0
      ⟨0, _, I4 _, T.keep _ _ _ st2 fun b hb o e => old b o e, fun b hb => by rw [upd_ne (Nat.ne_of_lt (hlt b hb))]; exact (f2 b hb).1, w0⟩
    rintro n s3 ⟨i, H3, I3, st3, fr3, w3⟩
    show wpAny _ X.A ((compTurn (.ListComp elt [⟨tg, iter, ifs, 0⟩] scope pos) 0 (.ref it) (.ref s2.heap.objs.size) (compEnvC scope cl P2.objs.size X.env)).onRaise (fun x => do noteFrame x (compEnvC scope cl P2.objs.size X.env); theTreesLotGoes x)) _ _ s3
    refine wpAny_noted ?_
    rw [compTurn_list]
    refine wpAny_bind (wpAny_standAt (wpAny_bind ?_))
    rcases turn i n H3 w3 with ⟨stop, qn⟩ | ⟨go, step⟩
    · refine wpAny_mono (T.done (cxComp X scope (xs ++ cn) cl P2.objs.size s2 H2 fp) rfl rfl rfl hc i [] s3 _ H3 (fun _ _ => False) I3 (stat fr3) st3 stop) (fun r s4 ⟨hr, I5⟩ => ?_) fun _ _ z => z.elim
      subst hr
      refine wpAny_pure ?_
      obtain ⟨m, hn, _⟩ := id I5.loc
      refine ⟨m, hn, fun h' hsb => ⟨.ref s2.heap.objs.size, H3, ?_, rfl, qn⟩⟩
      have kp : ∀ b o, b ≠ P2.objs.size → s4.heap.get? b = some o → h'.get? b = some o := fun b o hb e => hsb.extBut b o hb e
      have b0 := I5.base
      have sm : ∀ b o, s2.heap.get? b = some o → b ≠ P2.objs.size := fun b o e => neC b (Heap.lt_size e)
      refine I2.call' (s' := { s4 with heap := h' }) (ch := fp) I5.os ⟨fun b o e n hb hx => kp _ _ (sm b o e) (b0.keep b o e n hb hx), fun b o e n hb hx => ?_, b0.free, fun b o e hx => ?_, b0.tups, b0.frzs, b0.tbls⟩ (fun b u e => ?_) I5.bare
        fun b hb => ⟨(f2 b hb).2.2.2.1, (f2 b hb).2.1, (f2 b hb).2.2.2.2.1, (f2 b hb).2.2.2.2.2⟩
      · obtain ⟨sl, q⟩ := b0.slot b o e n hb hx
        exact ⟨sl, kp _ _ (sm b o e) q⟩
      · obtain ⟨o', q⟩ := b0.there b o e hx
        exact ⟨o', kp _ _ (sm b o e) q⟩
      · have hfree : H3 P2.objs.size = none := I5.free
        refine (I5.hok b u e).stay (fun c v hc' q => kp c v ?_ q) (fun _ q => q) fun _ _ q => q
        rcases hc' with z | z
        · rw [z]; exact ne_of_none e hfree
        · exact ne_of_none z hfree
    · refine wpAny_mono (T.item (cxComp X scope (xs ++ cn) cl P2.objs.size s2 H2 fp) rfl rfl rfl hc i [] s3 _ H3 (fun _ _ => False) I3 (stat fr3) st3 go) (fun r s4 ⟨u, hr, h4⟩ => ?_) fun _ _ z => z.elim
      subst hr
      refine wpAny_bind (wpAny_mono h4 (fun _ s5 ⟨xv, H5, I5, r5, y5, st5, fr5⟩ => ?_) fun _ _ z => z.elim)
      have I5' := I5.pinned (stat fr5) (T.obj _ _ st5)
      refine wpAny_bind (wpAny_mono (hg cl P2.objs.size s2 H2 fp _ s5 _ H5 xv u _ I5' r5 (step xv _ y5)) (fun _ s6 ⟨σ6, H6, I6, ks, q6⟩ => ?_) fun _ _ z => z.elim)
      have again : ∀ {s7 : Shared} {H7 : Hp}, Inv (cxComp X scope (xs ++ cn) cl P2.objs.size s2 H2 fp) ([] ++ pinsAt fp s5.heap) σ6 H7 s7 → (∃ m', m' < n ∧ W (i + 1) m' H7) →
          ∃ m, m < n ∧ ∃ i H', Inv (cxComp X scope (xs ++ cn) cl P2.objs.size s2 H2 fp) [] (inStT kx cap σ) H' s7 ∧ tn i s7.heap ∧ (∀ b ∈ fp, H' b = none) ∧ W i m H' := fun {s7 H7} I7 w7 => by
        obtain ⟨m', hm, w7⟩ := w7
        refine ⟨m', hm, i + 1, H7, I7.unpinned.weak ks.1 ks.2, T.keep _ _ _ st5 fun b hb o e => (I7.pin (b, o) (List.mem_append_right _ (List.mem_append_right _ (mem_pinsAt hb e)))).1, fun b hb => ?_, w7⟩
        · obtain ⟨o, e, d⟩ := T.obj _ _ st5 b hb
          exact (I7.pin (b, o) (List.mem_append_right _ (List.mem_append_right _ (mem_pinsAt hb e)))).2.1
      refine wpAny_bind (wpAny_mono (hin cl P2.objs.size s2 H2 fp _ s6 _ _ _ I6 q6) (fun ok s7 ⟨H7, I7, q7⟩ => ?_) fun _ _ z => z.elim)
      cases ok with
      | false =>
        have q7' : ∃ m', m' < n ∧ W (i + 1) m' H7 := by simpa using q7
        exact wpAny_pure ⟨rfl, again I7 q7'⟩
      | true =>
        have q7' := (if_pos rfl).mp q7
        refine wpAny_bind (wpAny_bind (wpAny_mono (he cl P2.objs.size s2 H2 fp _ s7 _ H7 _ I7 q7') (fun yv s8 ⟨y, H8, I8, r8, ys, h8, z8, q8⟩ => ?_) fun _ _ z => z.elim))
        refine wpAny_bind (wpAny_mono (mt_append (X := cxComp X scope (xs ++ cn) cl P2.objs.size s2 H2 fp) _ s8 _ H8 (.ref s2.heap.objs.size) [y] (.ref s2.heap.objs.size) [yv] (fun _ H9 => ∃ m', m' < n ∧ W (i + 1) m' H9) I8 rfl (.cons r8 .nil) ⟨_, ys, y, rfl, rfl, h8, z8, q8⟩) (fun _ s9 ⟨_, H9, I9, _, q9⟩ => ?_) fun _ _ z => z.elim)
        exact wpAny_pure (wpAny_pure ⟨rfl, again I9 q9⟩)
  exact codeAny_compStart_list (loop _ rfl) (T.self _ 0 _ _ _ (T.keep _ _ _ st2 fun b hb o e => old b o e) (loop _ rfl))
end
end L2
namespace L2
open PySem PySem.Spec PyProof.Rows
section
variable {X : Cx} {pins : List (Addr × Obj)} {σ : St} {H : Hp} {s : Shared}
def rIsC (K : PySem.W.Frag) : List V → Hp → VK → Prop := fun xs H Q => ∃ x c t k, xs = [x, .ref c] ∧ TyOf K H x t ∧ PySem.W.kitOne K t (.ref c) = some k ∧ Q (.bl k) H
theorem call_isC : CallR X (.builtin "isinstance") (rIsC X.K) := by
  intro pins s σ H xs us Q I r h
  obtain ⟨x, c, t, k, rfl, ty, e, q⟩ := h
  obtain ⟨u, v, rfl, rx, rv⟩ := Vals.two r
  cases rv
  exact isinst_ok I rx ty e fun tk => ⟨.bl k, H, I.tok _, rfl, q⟩
end
structure PKd (K : PySem.W.Frag) (ns : List Str) (C : Addr) (ms fs : List Str) : Prop where
  cls : Cls K C
  ca : PySem.W.findIn K (.ref C) "__class__" = some (some (.builtin "object.__class__"))
  cg : PySem.W.specialIn K (.builtin "object.__class__") "__get__" = some (some (.builtin "getset_descriptor.__get__"))
  ct : PySem.W.takesIn K (.builtin "object.__class__") = some true
  top : PySem.W.mroIn K C (.type "object") = some true
  sub : ∀ T : String, (Value.type T == .type "object") = false → PySem.W.subIn K (.ref C) (.type T) = some false
  kit : ∀ n ∈ ns, PySem.W.kitOne K (.ref C) (.ref (clA K n)) = some (ms.contains n)
  na : ∀ f ∈ fs, NoAttr K C f
section
variable {K : PySem.W.Frag} {C : Addr} {cd : ClassData} {ns ms fs : List Str}
theorem PKd.ty {H : Hp} {a dx : Addr} {gs : List (Str × V)} (p : PKd K ns C ms fs) (e : H a = some (.ins C dx gs)) : TyOf K H (.ref a) (.ref C) := .ins e p.cls p.ca p.cg p.ct p.top
theorem PKd.notT (p : PKd K ns C ms fs) (T : String) (h : (Value.type T == .type "object") = false := by decide) (hm : PySem.W.kitMeta T = true := by decide +kernel) : PySem.W.kitOne K (.ref C) (.type T) = some false := by
  unfold PySem.W.kitOne PySem.W.kitCls
  rw [if_neg (by intro q; cases beq_iff_eq.mp q)]
  dsimp only
  rw [if_pos hm]
  exact p.sub T h
theorem pkd_mk {x : Str} {dd : Option Addr} {sl : Array (Option Value)} {Cs : List Addr} (hn : PySem.W.nsIn K mainGlobals x = some (some (.ref C))) (l : K.lookup C = some ⟨.type "type", dd, .cls cd, sl⟩) (hm : cd.mro = [.ref C, .type "object"]) (p : Pts K ns Cs) (e : (Cs.map fun D => cd.mro.contains (.ref D)) = ns.map ms.contains)
    (pg : PySem.W.plainGet K C Str.empty = true) (hd : PySem.W.hasDictIn K C = true) (po : PySem.W.plainOver K C = true) (sa : PySem.W.findIn K (.ref C) "__setattr__" = some (some (.builtin "object.__setattr__")))
    (ca : PySem.W.findIn K (.ref C) "__class__" = some (some (.builtin "object.__class__"))) (cg : PySem.W.specialIn K (.builtin "object.__class__") "__get__" = some (some (.builtin "getset_descriptor.__get__"))) (ct : PySem.W.takesIn K (.builtin "object.__class__") = some true)
    (na : ∀ f ∈ fs, NoAttr K C f) : PKd K ns (clA K x) ms fs := by
  rw [clA_of hn]
  have hc : PySem.W.clsIn K C = some cd := by
    unfold PySem.W.clsIn
    rw [l]
  have ht : PySem.W.typeIn K (.ref C) = some (.type "type") := by
    show (K.lookup C).map (·.cls) = _
    rw [l]
    rfl
  have o : KObj K C cd := ⟨hc, ht, _, hm⟩
  refine ⟨⟨pg, hd, po, sa⟩, ca, cg, ct, ?_, fun T hT => ?_, kit_all o p e, na⟩
  · have := o.sub (.type "object")
    rw [hm] at this
    exact this.trans (by rw [List.contains_cons, List.contains_cons, beq_self_eq_true, Bool.true_or, Bool.or_true])
  · rw [o.sub, hm, List.contains_cons, List.contains_cons, hT, Bool.false_or, List.contains_nil, Bool.or_false]
    rfl
theorem kobj_mk {dd : Option Addr} {sl : Array (Option Value)} (l : K.lookup C = some ⟨.type "type", dd, .cls cd, sl⟩) (hm : cd.mro = [.ref C, .type "object"]) : KObj K C cd := ⟨by unfold PySem.W.clsIn; rw [l], by show (K.lookup C).map (·.cls) = _; rw [l]; rfl, _, hm⟩
theorem mk_mk {x : Str} {f : Addr} (hn : PySem.W.nsIn K mainGlobals x = some (some (.ref C))) (mi : PySem.W.makesIn K C = true) (hi : PySem.W.findIn K (.ref C) "__init__" = some (some (.ref f))) (hf : PySem.W.isFn K (.ref f) = true) (kp : PySem.W.keepIn K (.ref C) = true) : Mk K (clA K x) f := by
  rw [clA_of hn]
  exact ⟨mi, hi, hf, kp⟩
end
structure GotP (P : Program) (w : World) (K : PySem.W.Frag) (mg : Str → Option Value) (base : Heap) (k : Nat) (x : Str) (ps : List Str) (sp : Sp) : Prop where
  ex : ∃ f fd, Mk K (clA K x) f ∧ FnOk P w K mg base CX0 k f fd ps sp ∧ Binds K fd ps [] ∧ mg x = some (.ref (clA K x))
section
variable {X : Cx} {k n : Nat} {x : Str} {ps : List Str} {sp : Sp} {p pos : Pos} {e : Expr} {es : List Expr} {t : TA}
theorem pe_mkP (g : GotP X.prog X.w X.K X.mg X.base k x ps sp) (hr : Room n X.A) (hk : k + 1 ≤ n) (hg : Gl X x) (ha : PA X (e :: es) t) (hdb : (x == ("__debug__" : Str)) = false := by decide)
    (he : starEach (e :: es) X.env = (false, eval e X.env) :: starEach es X.env := by rfl) (hpl : (backTo pos (starEach es X.env)).any (·.1) = false := by rfl) :
    PE X (.Call (.Name x p) (e :: es) [] pos) (tMake (clA X.K x) sp [] E0 t) := by
  obtain ⟨f, fd, M, F, hb, hm⟩ := g.ex
  exact pe_make M F (hr.mono hk) hg hm hb .nil pass0 ha hdb he hpl
end
structure CompCT (fsc : Scope) (N : List Str) (scope : Scope) (xs : List Str) (cn : List Str) (cap : List Nat) : Prop where
  kind : scope.kind = .function
  names : ∀ y ∈ scope.names, y.2 = .local → scope.names.lookup y.1 = some .local
  cell : ∀ y ∈ scope.names, y.2 ≠ .cell
  own : ∀ y ∈ xs, scope.names.lookup y = some .local
  free : ∀ y ∈ scope.names, y.2 = .free → fsc.names.lookup y.1 = some .cell ∨ fsc.names.lookup y.1 = some .free
  cap : cap.map (fun i => N[i]?) = cn.map some
  capf : ∀ y ∈ cn, scope.names.lookup y = some .free
  capo : ∀ y ∈ cn, fsc.names.lookup y = some .cell ∨ fsc.names.lookup y = some .free
  nd : (xs ++ cn).Nodup
theorem CompCT.to {X : Cx} {fsc : Scope} {N : List Str} {scope : Scope} {xs cn : List Str} {cap : List Nat} (c : CompCT fsc N scope xs cn cap) (e1 : X.env.scope = fsc) (e2 : X.N = N) : CompScopeT X scope xs cn cap := by
  subst e1 e2
  exact ⟨c.kind, c.names, c.cell, c.own, c.free, c.cap, c.capf, c.capo, c.nd⟩
theorem pg_comp {X : Cx} {scope : Scope} {xs cn : List Str} {cap : List Nat} {cl : List (Str × Addr)} {C : Addr} {s₀ : Shared} {H₀ : Hp} {ex : List Addr} {y : Str} {pos : Pos} (S : CompScopeT X scope xs cn cap) (i : Nat) (hi : (xs ++ cn)[i]? = some y) (hm : y ∈ xs) :
    PG (cxComp X scope (xs ++ cn) cl C s₀ H₀ ex) (.Name y pos) (gName i) := pg_name (i := i) S.nd hi (.inl (lookup_relabel_local (env := X.env) (S.own y hm))) (.inr (lookup_relabel_local (env := X.env) (S.own y hm)))
section
variable {X : Cx} {K : PySem.W.Frag} {e : Expr} {f : Str} {pos : Pos} {ta : TE}
theorem pe_fldK (h : X.K = K) (he : PE X e ta) (hb : attributeBase e f X.env (eval e X.env) = eval e X.env) : PE X (.Attribute e f pos) (tFld K ta f) := by
  subst h; exact pe_fld he hb
theorem call_isCK (h : X.K = K) : CallR X (.builtin "isinstance") (rIsC K) := by
  subst h; exact call_isC
theorem pg_tupK {es : List Expr} {k : Nat} {t : TGs} {n : Nat} (h : X.K = K) (hc : X.calm = true) (hs : PGs X es t)
    (hn : (assignEach es X.env).length = n := by rfl) (hst : (assignEach es X.env).findIdx? (·.1) = none := by rfl) : PG X (.Tuple es k pos) (gTup K n t) := by
  subst h; exact pg_tup hc hs hn hst
theorem pe_clK {x : Str} (h : X.K = K) (hg : Gl X x) (hm : X.mg x = some (.ref (clA K x))) (hd : (x == ("__debug__" : Str)) = false := by decide) : PE X (.Name x pos) (tC (.ref (clA K x))) := pe_glob hg hm rfl hd
end
end L2
namespace L2
open PySem PySem.Spec PyProof.Rows
section
variable {X : Cx}
def rSum (K : PySem.W.Frag) : List V → Hp → VK → Prop := fun xs H Q => ∃ l ns, xs = [.ref l] ∧ SqL K H l (List.map V.int ns) ∧ Q (.int ns.sum) H
theorem call_sum_ints (hc : X.calm = true) : CallR X (.builtin "sum") (rSum X.K) := by
  intro pins s σ H xs us Q I r h
  obtain ⟨l, ns, rfl, hS, q⟩ := h
  obtain ⟨u, rfl, ru⟩ := r.one
  cases ru
  obtain ⟨its, rv, pl, hz⟩ := I.list hS
  have hi := intsAre_of rv
  obtain ⟨ys, hx⟩ := hi.allInts.items
  have hl' : s.heap.IsList l (intItems ys) := hx ▸ pl.isList
  refine sum_intListG (I.ok.hd hc) hl' fun h' tk t' hk => ?_
  have e1 : ns = ys.toList.map (·.1) := by
    rw [← nums_intItems, ← hx]
    exact (show numsOf its.toArray.toList = ns from hi.numsOf).symm
  have e2 : preSum (numAt ys) ys.size = ns.sum := by
    rw [preSum_eq, List.take_of_length_le (by simp), e1]
  rw [e2]
  exact ⟨.int _, H, I.kept hk, ⟨_, rfl⟩, q⟩
end
theorem b_sum : bootBuiltins "sum" = some (.builtin "sum") := by decide +kernel
end L2
namespace L2
open PySem PySem.Spec PyProof.Rows
section
variable {prog : Program} {w : World} {A : Around} {E : Value → Shared → Prop} {s : Shared}
end
section
variable {prog : Program} {w : World} {A : Around} {E : Value → Shared → Prop} {s : Shared}
end
end L2
namespace L2
open PySem PySem.Spec PyProof.Rows
end L2
namespace L2
open PySem PySem.Spec PyProof.Rows
section
variable {X : Cx} {pins : List (Addr × Obj)} {σ : St} {H : Hp} {s : Shared}
theorem ps_compG {elt iter : Expr} {x : Str} {px : Pos} {ifs : List Expr} {scope : Scope} {pos : Pos} {wi : TI} {tc : TT} {te : TE} (cn : List Str) (cap : List Nat) (S : CompScope X scope x cn cap) (hc : X.calm = true)
    (hi : PI X (.Name x px) iter wi) (hin : ∀ cl C s₀ H₀ ex, PIfs (cxComp X scope (x :: cn) cl C s₀ H₀ ex) ifs tc) (he : ∀ cl C s₀ H₀ ex, PE (cxComp X scope (x :: cn) cl C s₀ H₀ ex) elt te)
    {y : Str} {py : Pos} {apos : Pos} (iy : Nat) (hN : X.N.Nodup) (hiy : X.N[iy]? = some y) (hxy : Loc X.env.scope y) (hsw : swapsWith (.ListComp elt [⟨.Name x px, iter, ifs, 0⟩] scope pos) (some (.Name y py)) apos.line X.env = pure true := by rfl) (hfy : X.fn y = true ∨ X.env.scope.names.lookup y = some .local := by first | exact .inl rfl | exact .inr rfl | assumption)
    (hs : ∀ z, foldedSetIterable iter X.env z = pure z := by intro _; rfl) : PS X (.Assign [.Name y py] (.ListComp elt [⟨.Name x px, iter, ifs, 0⟩] scope pos) apos) (tAsg (tComp wi tc te cap) (gName iy)) := by
  intro pins s σ H D I h
  rw [exec_Assign_Name_used _ _ _ _ hsw]
  refine wpAny_bind (wpAny_standAt (wpAny_bind ?_))
  show wpAny _ _ (comprehension (.ListComp elt [⟨.Name x px, iter, ifs, 0⟩] scope pos) scope X.env (firstIterPos [⟨.Name x px, iter, ifs, 0⟩] pos) (newList []) false (firstIter [⟨.Name x px, iter, ifs, 0⟩] X.env) (some (assign (.Name y py) X.env)) >>= fun _ => pure ()) _ _ _
  refine wpAny_bind (wpAny_mono (Q := fun _ s' => ∃ σ' H', Inv X pins σ' H' s' ∧ D.nx σ' H') ?_ (fun _ s' q => wpAny_pure (wpAny_pure q)) fun _ _ z => z)
  refine comp_core cn cap S hc hi hin he hs I h fun d C H3 s4 m J fC hn qn r => ?_
  refine wpAny_assign_Name (store_ok2 J hN hiy hxy (v := .ref d) rfl (fun s5 I6 hh1 => ?_) hfy)
  obtain ⟨a, sb, ha⟩ := hh1
  have nC : C ≠ a := by
    rcases ha with ha | ha
    · rw [ha]; exact fC.2.1
    · exact (fC.2.2.2.2.1 _ _ ha).symm
  obtain ⟨oC, esC, epC, hoC, rC⟩ := hn
  refine ⟨m, ⟨oC, esC, epC, sb.extBut _ _ nC hoC, rC⟩, fun h' hsb => ⟨_, H3, ?_, qn⟩⟩
  refine I6.turnedL (t' := s5.toks) (ch := [C]) (fun b o hb e => hsb.extBut b o (by simpa using hb) e) (fun b hb => ?_)
  cases List.mem_singleton.mp hb
  exact fC
end
end L2
namespace L2
open PySem PySem.Spec PyProof.Rows
section
variable {X : Cx}
def rCatT0 (K : PySem.W.Frag) : R2 := fun x y H Q => ∃ a b ys, x = .ref a ∧ y = .ref b ∧ SqT K H a [] ∧ SqT K H b ys ∧ Q (.ref b) H
theorem op_catT0 : OpR X (binaryOp .Add) (rCatT0 X.K) := by
  intro pins s σ H x y v u Q I rx ry h
  obtain ⟨a, b, ys, rfl, rfl, ha, hb, q⟩ := h
  cases rx
  cases ry
  obtain ⟨its, r1, p1, _⟩ := I.tuple ha
  obtain ⟨its2, r2, p2, _⟩ := I.tuple hb
  have hv : its = [] := r1.nil_iff.mpr rfl
  obtain ⟨⟨cls, dd, data, sl⟩, ho, hc, n, hd⟩ := id p1
  obtain ⟨⟨cls2, dd2, data2, sl2⟩, ho2, hc2, n2, hd2⟩ := id p2
  simp only at hc hd hc2 hd2
  subst hc hd hc2 hd2
  exact concat_meets ⟨_, ho, rfl⟩ ⟨_, ho2, rfl⟩ noFill_tuple_add seq_tuple_add PySem.F.slot_tuple_add PySem.F.entry_tuple_add (PySem.F.args_tuple_add_2 _ _)
    (tuple_addW0 a b its.toArray its2.toArray n n2 dd dd2 sl sl2 (by simp [hv])) ⟨ho, ho2, ⟨.ref b, H, I, rfl, q⟩⟩
def rAddP (K : PySem.W.Frag) : R2 := fun x y H Q => rAddG x y H Q ∨ (rCatT K x y H Q ∨ rCatT0 K x y H Q)
theorem op_addP : OpR X (binaryOp .Add) (rAddP X.K) := op_addG.or (op_catT.or op_catT0)
abbrev rIsP : R2 := fun x y H Q => (y = .non ∧ Q (.bl (decide (x = .non))) H) ∨ ∃ b, y = .bl b ∧ Q (.bl (decide (x = .bl b))) H
theorem op_isB : OpR X (compareOp .Is) (fun x y H Q => ∃ b, y = .bl b ∧ Q (.bl (decide (x = .bl b))) H) := by
  intro pins s σ H x y v u Q I rx ry h
  obtain ⟨b, rfl, q⟩ := h
  cases ry
  have fin : ∀ v, compareOp .Is v (.bool b) = pure (.bool (v == .bool b)) → (v == .bool b) = decide (x = .bl b) → wpAny (model X.prog X.w) X.A (compareOp .Is v (.bool b)) (EP X pins σ Q) X.xe s := fun v e1 e2 => by
    rw [e1]
    exact wpAny_pure (fin_bl I q e2.symm)
  cases x <;> first
    | (cases rx; exact fin _ rfl (by first | rfl | (rename_i c; cases c <;> cases b <;> rfl)))
    | (obtain ⟨t, rfl⟩ := rx; exact fin _ rfl rfl)
theorem op_isP : OpR X (compareOp .Is) rIsP := op_isN.or op_isB
end
end L2
namespace L2
open PySem PySem.Spec PyProof.Rows
section
variable {prog : Program} {w : World} {A : Around} {E : Value → Shared → Prop} {s : Shared} {it l : Addr} {its : Array Value}
end
end L2
namespace L2
open PySem PySem.Spec PyProof.Rows
section
variable {κ : Type} [DecidableEq κ]
def valV (kvs : List (κ × V)) (k : κ) : Option V := (kvs.find? fun kv => decide (kv.1 = k)).map (·.2)
def putK (kvs : List (κ × V)) (k : κ) (v : V) : List (κ × V) :=
  if (kvs.any fun kv => decide (kv.1 = k)) = true then kvs.map (fun kv => if kv.1 = k then (kv.1, v) else kv) else kvs ++ [(k, v)]
theorem valV_pos {p : κ × V} {r : List (κ × V)} {k : κ} (e : p.1 = k) : valV (p :: r) k = some p.2 := by simp [valV, List.find?_cons, e]
theorem valV_neg {p : κ × V} {r : List (κ × V)} {k : κ} (e : ¬ p.1 = k) : valV (p :: r) k = valV r k := by simp [valV, List.find?_cons, e]
theorem valV_any (k : κ) : ∀ kvs : List (κ × V), (kvs.any fun kv => decide (kv.1 = k)) = (valV kvs k).isSome
  | [] => rfl
  | p :: r => by
    rw [List.any_cons]
    by_cases e : p.1 = k
    · simp only [valV_pos e, decide_eq_true e, Bool.true_or, Option.isSome_some]
    · rw [valV_neg e, decide_eq_false e, Bool.false_or]; exact valV_any k r
theorem length_putK (kvs : List (κ × V)) (k : κ) (v : V) : (putK kvs k v).length ≤ kvs.length + 1 := by
  unfold putK
  split
  · rw [List.length_map]; omega
  · rw [List.length_append, List.length_cons, List.length_nil]; omega
theorem RelO.isSome_eq {o : Option V} {u : Option Value} (r : RelO o u) : o.isSome = u.isSome := by
  cases o with
  | none => cases u with
    | none => rfl
    | some _ => exact (show False from r).elim
  | some _ => cases u with
    | none => exact (show False from r).elim
    | some _ => rfl
theorem KV.any {kvs : List (κ × V)} {vs : List (κ × Value)} (r : KV kvs vs) (k : κ) : (kvs.any fun kv => decide (kv.1 = k)) = vs.any fun kv => decide (kv.1 = k) := by
  unfold KV at r
  induction r with
  | nil => rfl
  | cons h t ih => rw [List.any_cons, List.any_cons, ih, h.1]
theorem KV.repl {kvs : List (κ × V)} {vs : List (κ × Value)} (r : KV kvs vs) (k : κ) {y : V} {u : Value} (ry : RelV y u) :
    KV (kvs.map fun kv => if kv.1 = k then (kv.1, y) else kv) (vs.map fun kv => if kv.1 = k then (kv.1, u) else kv) := by
  unfold KV at r ⊢
  induction r with
  | nil => exact .nil
  | @cons p q ps qs h t ih =>
    rw [List.map_cons, List.map_cons]
    refine .cons ?_ ih
    obtain ⟨h1, h2⟩ := h
    by_cases e : p.1 = k
    · rw [if_pos e, if_pos (h1.symm.trans e)]; exact ⟨h1, ry⟩
    · rw [if_neg e, if_neg (fun z => e (h1.trans z))]; exact ⟨h1, h2⟩
theorem KV.put {kvs : List (κ × V)} {vs : List (κ × Value)} (r : KV kvs vs) (k : κ) {y : V} {u : Value} (ry : RelV y u) : KV (putK kvs k y) (stored vs k u) := by
  unfold putK stored
  rw [r.any k]
  by_cases e : (vs.any fun kv => decide (kv.1 = k)) = true
  · rw [if_pos e, if_pos e]; exact r.repl k ry
  · rw [if_neg e, if_neg e]; exact Paired.snoc r ⟨rfl, ry⟩
theorem KV.length {kvs : List (κ × V)} {vs : List (κ × Value)} (r : KV kvs vs) : kvs.length = vs.length := Paired.length r
end
theorem kV_is {P : Program} {w : World} {k : Key} {u : Value} (r : RelV (kV k) u) : (mixKind P w).is k u = true := by
  cases k with
  | inl i => obtain ⟨t, e⟩ := (show ∃ t, u = Value.int i t from r); subst e; exact mixKind_int P w i t
  | inr x => obtain ⟨t, e⟩ := (show ∃ t, u = Value.str x t from r); subst e; exact mixKind_str P w x t
theorem items_are {P : Program} {w : World} : ∀ {ks : List Key} {us : List Value}, Vals (ks.map kV) us → ItemsAre (mixKind P w) ks us
  | [], _, r => by rw [List.map_nil] at r; cases r; exact .nil
  | k :: ks, _, r => by
    rw [List.map_cons] at r
    cases r with
    | cons h t => exact .cons (kV_is h) (items_are t)
abbrev KT (H : Hp) : List (List Key × V) → List (List Key × Addr × Value) → Prop := Paired fun p q => p.1 = q.1 ∧ H q.2.1 = some (.tup (p.1.map kV)) ∧ RelV p.2 q.2.2
theorem KT.val {H : Hp} {kvs : List (List Key × V)} {xs : List (List Key × Addr × Value)} (r : KT H kvs xs) (k : List Key) : RelO (valV kvs k) ((atKey xs k).map (·.2)) := by
  induction r with
  | nil => exact True.intro
  | @cons p q ps qs h t ih =>
    obtain ⟨h1, _, h2⟩ := h
    by_cases e : p.1 = k
    · have e' : q.1 = k := h1.symm.trans e
      have b : atKey (q :: qs) k = some q.2 := by simp [atKey, List.find?_cons, e']
      rw [valV_pos e, b]; exact h2
    · have e' : ¬ q.1 = k := fun z => e (h1.trans z)
      have b : atKey (q :: qs) k = atKey qs k := by simp [atKey, List.find?_cons, e']
      rw [valV_neg e, b]; exact ih
theorem KT.repl {H : Hp} {kvs : List (List Key × V)} {xs : List (List Key × Addr × Value)} (r : KT H kvs xs) (k : List Key) {y : V} {u : Value} (ry : RelV y u) :
    KT H (kvs.map fun kv => if kv.1 = k then (kv.1, y) else kv) (xs.map (putAt k u)) := by
  induction r with
  | nil => exact .nil
  | @cons p q ps qs h t ih =>
    rw [List.map_cons, List.map_cons]
    refine .cons ?_ ih
    obtain ⟨h1, h2, h3⟩ := h
    unfold putAt
    by_cases e : p.1 = k
    · rw [if_pos e, if_pos (h1.symm.trans e)]; exact ⟨h1, h2, ry⟩
    · rw [if_neg e, if_neg (fun z => e (h1.trans z))]; exact ⟨h1, h2, h3⟩
theorem KT.put {H : Hp} {kvs : List (List Key × V)} {xs : List (List Key × Addr × Value)} (r : KT H kvs xs) (k : List Key) {b : Addr} {y : V} {u : Value} (hb : H b = some (.tup (k.map kV))) (ry : RelV y u) :
    KT H (putK kvs k y) (storedH xs k b u) := by
  have e : (kvs.any fun kv => decide (kv.1 = k)) = (atKey xs k).isSome := by
    rw [valV_any, (r.val k).isSome_eq, Option.isSome_map]
  unfold putK storedH
  rw [e]
  by_cases q : (atKey xs k).isSome = true
  · rw [if_pos q, if_pos q]; exact r.repl k ry
  · rw [if_neg q, if_neg q]; exact Paired.snoc r ⟨rfl, hb, ry⟩
theorem KT.keeps {H H' : Hp} {kvs : List (List Key × V)} {xs : List (List Key × Addr × Value)} (r : KT H kvs xs) (ht : ∀ b ys, H b = some (.tup ys) → H' b = some (.tup ys)) : KT H' kvs xs :=
  Paired.mapP r fun _ _ z => ⟨z.1, ht _ _ z.2.1, z.2.2⟩
section
variable {P : Program} {w : World} {H : Hp} {h : Heap} {a : Addr}
theorem rd_of {u : HO} (ok : HOk P w H h) (e : Rd H a u) : ObjOk P w H h a u := e.ok ok
theorem dk_rd {kvs : List (Key × V)} (ok : HOk P w H h) (e : Rd H a (.dK kvs)) : kvs.length ≤ sizeLine ∧ (a == sysModules) = false ∧ ∃ vs, KV kvs vs ∧ h.DictOf (mixKind P w) a vs :=
  show ObjOk P w H h a (.dK kvs) from rd_of ok e
theorem dk_of {kvs : List (Key × V)} (ok : HOk P w H h) (e : H a = some (.dK kvs)) : kvs.length ≤ sizeLine ∧ (a == sysModules) = false ∧ ∃ vs, KV kvs vs ∧ h.DictOf (mixKind P w) a vs := dk_rd ok (.inl e)
theorem key_of {ks : List Key} (ok : HOk P w H h) (e : H a = some (.tup (ks.map kV))) : (tupleKind (mixKind P w)).is h ks a := by
  obtain ⟨_, its, r, o, h1, h2, n, h3⟩ := (show ObjOk P w H h a (.tup (ks.map kV)) from ok a _ e)
  exact ⟨o, its.toArray, n, h1, h2, h3, by simpa using items_are r⟩
theorem dt_rd {kvs : List (List Key × V)} (ok : HOk P w H h) (e : Rd H a (.dT kvs)) : kvs.length ≤ sizeLine ∧ (a == sysModules) = false ∧
    ∃ xs, KT H kvs xs ∧ h.DictOfH (tupleKind (mixKind P w)) a xs := by
  obtain ⟨z, y, xs, r, o, es, ep, h1, h2, h3, h4, h5⟩ := (show ObjOk P w H h a (.dT kvs) from rd_of ok e)
  refine ⟨z, y, xs, r, o, es, ep, h1, h2, h3, h4, fun x hx => ?_, h5⟩
  have all : ∀ {l : List (List Key × V)} {m : List (List Key × Addr × Value)}, KT H l m → ∀ x ∈ m, (tupleKind (mixKind P w)).is h x.1 x.2.1 := by
    intro l m q
    induction q with
    | nil => intro x hx; exact nomatch hx
    | @cons p q ps qs hq t ih =>
      intro x hx
      rcases List.mem_cons.mp hx with e | hx
      · subst e
        exact key_of ok (by rw [← hq.1]; exact hq.2.1)
      · exact ih x hx
  exact all r x hx
theorem dt_of {kvs : List (List Key × V)} (ok : HOk P w H h) (e : H a = some (.dT kvs)) : kvs.length ≤ sizeLine ∧ (a == sysModules) = false ∧
    ∃ xs, KT H kvs xs ∧ h.DictOfH (tupleKind (mixKind P w)) a xs := dt_rd ok (.inl e)
end
def DPut (H : Hp) (a : Addr) (y v : V) (H' : Hp) : Prop :=
  (∃ kvs k, H a = some (.dK kvs) ∧ y = kV k ∧ kvs.length < sizeLine ∧ H' = upd H a (.dK (putK kvs k v))) ∨
  ∃ kvs k b, H a = some (.dT kvs) ∧ y = .ref b ∧ H b = some (.tup (k.map kV)) ∧ kvs.length < sizeLine ∧ H' = upd H a (.dT (putK kvs k v))
theorem DPut.k {H : Hp} {a : Addr} {kvs : List (Key × V)} {k : Key} {v : V} (e : H a = some (.dK kvs)) (hl : kvs.length < sizeLine) : DPut H a (kV k) v (upd H a (.dK (putK kvs k v))) := .inl ⟨kvs, k, e, rfl, hl, rfl⟩
theorem DPut.t {H : Hp} {a b : Addr} {kvs : List (List Key × V)} {k : List Key} {v : V} (e : H a = some (.dT kvs)) (eb : H b = some (.tup (k.map kV))) (hl : kvs.length < sizeLine) :
    DPut H a (.ref b) v (upd H a (.dT (putK kvs k v))) := .inr ⟨kvs, k, b, e, rfl, eb, hl, rfl⟩
section
variable {X : Cx} {pins : List (Addr × Obj)} {σ : St} {H : Hp} {s : Shared} {a : Addr} {y v : V} {u r : Value} {o : Option V} {A : Around} {E : Value → Shared → Prop}
theorem Inv.big (I : Inv X pins σ H s) : sysModules < s.heap.objs.size := by
  have h : mainGlobals < s.heap.objs.size := (I.mod.glob.keeps I.bk).lt
  exact Nat.lt_trans (by decide) h
theorem d_write {h' : Heap} {t' : Nat} {ob : HO} (I : Inv X pins σ H s) (mu : Mut (H a)) (hs : Heap.SameBut a s.heap h') (he : ∃ q, h'.get? a = some q) (new : ObjOk X.prog X.w (upd H a ob) h' a ob) :
    Inv X pins σ (upd H a ob) { s with heap := h', toks := t' } :=
  I.write (x := a) (e := a) mu (.inl rfl) (fun b q hb z => (hs.2 b hb).trans z) he new
theorem dk_new {P : Program} {w : World} {H' : Hp} {h' : Heap} {kvs : List (Key × V)} {vs : List (Key × Value)} (z : kvs.length ≤ sizeLine) (hd : (a == sysModules) = false) (rel : KV kvs vs) (dd : h'.DictOf (mixKind P w) a vs) :
    ObjOk P w H' h' a (.dK kvs) := ⟨z, hd, vs, rel, dd⟩
theorem d_setItem {H' : Hp} {Q : Unit → Shared → Prop} (hu : A.units + 1 < cLine) (I : Inv X pins σ H s) (g : DPut H a y v H') (ry : RelV y u) (rv : RelV v r) (h : ∀ s', Inv X pins σ H' s' → Q () s') :
    wpAny (model X.prog X.w) A (setItem (.ref a) u r) Q E s := by
  rcases g with ⟨kvs, k, e, ey, l, eH⟩ | ⟨kvs, k, b, e, ey, eb, l, eH⟩
  · subst ey eH
    obtain ⟨z, hd, vs, rel, dd⟩ := dk_of I.hok e
    have hz : vs.length ≤ sizeLine := by rw [← rel.length]; exact z
    have hl : (putK kvs k v).length ≤ sizeLine := by have := length_putK kvs k v; omega
    refine wpAny_setItem_pairs (hsz := hz) (kV_is ry) dd fun h' dd' hs => h _ ?_
    have he : ∃ q, h'.get? a = some q := let ⟨q, _, _, hq, _⟩ := dd'; ⟨q, hq⟩
    exact d_write I (by rw [e]; exact True.intro) hs he (dk_new hl hd (rel.put k rv) dd')
  · subst ey eH
    cases (show u = Value.ref b from ry)
    obtain ⟨z, hd, xs, rel, dd⟩ := dt_of I.hok e
    have hz : xs.length ≤ sizeLine := by rw [← Paired.length rel]; exact z
    have hl : (putK kvs k v).length ≤ sizeLine := by have := length_putK kvs k v; omega
    refine wpAny_setItem_heap (hsz := hz) (tupleKind_room_in1 hu) (key_of I.hok eb) dd fun h' dd' hs => h _ ?_
    obtain ⟨q, es, ep, hq, h2, h3, h4, _, h5⟩ := dd'
    refine d_write I (by rw [e]; exact True.intro) hs ⟨q, hq⟩ ⟨hl, hd, _, (rel.put k eb rv).keeps fun c ys ec => ?_, q, es, ep, hq, h2, h3, h4, h5⟩
    rw [upd_ne (ne_of ec e (fun z => nomatch z))]
    exact ec
end
section
variable {X : Cx} {pins : List (Addr × Obj)} {σ : St} {H : Hp} {s : Shared} {a : Addr} {kvs : List (Key × V)} {k : Key} {u : Value} {A : Around} {E : Value → Shared → Prop}
end
def sDPut (td ty tv : TE) : TS := fun D σ H => tv σ H fun v H1 => td σ H1 fun x H2 => ty σ H2 fun y H3 => ∃ a H4, x = .ref a ∧ DPut H3 a y v H4 ∧ D.nx σ H4
section
variable {X : Cx} {o i e value : Expr} {pos pos' tpos : Pos} {td ty tv : TE}
theorem ps_dput (hu : X.A.units + 1 < cLine) (ho : PE X o td) (hi : PE X i ty) (hv : PE X value tv) (hs : swapsWith value (some (.Subscript o i pos')) pos.line X.env = pure false) :
    PS X (.Assign [.Subscript o i pos'] value pos) (sDPut td ty tv) := by
  intro pins s σ H D I h
  refine wpAny_Assign_Subscript (thn (hv pins s σ H _ I h) fun r s1 ⟨v, H1, I1, rv, q1⟩ => thn (ho pins s1 σ H1 _ I1 q1) fun u s2 ⟨x, H2, I2, rx, q2⟩ => thn (hi pins s2 σ H2 _ I2 q2) fun iv s3 ⟨y, H3, I3, ry, a, H4, ex, g, q3⟩ => ?_) hs
  subst ex
  obtain rfl : u = Value.ref a := rx
  exact d_setItem hu I3 g ry rv fun s4 I4 => ⟨σ, H4, I4, q3⟩
end
theorem dt_empty {P : Program} {w : World} {H : Hp} (h : Heap) (hb : sysModules < h.objs.size) : ObjOk P w H (h.push { cls := .type "dict", data := .dict #[] }) h.objs.size (.dT []) :=
  ⟨Nat.zero_le _, beq_eq_false_iff_ne.mpr (Ne.symm (Nat.ne_of_lt hb)), [], .nil, _, #[], 0, Heap.get?_push_size _ rfl, ⟨rfl, rfl, rfl⟩, rfl, rfl, List.nodup_nil⟩
def tDNewT : TE := fun _ H Q => ∀ p, H p = none → Q (.ref p) (upd H p (.dT []))
section
variable {X : Cx} {pos : Pos}
theorem pe_dnewT : PE X (.Dict [] [] pos) tDNewT := fun pins s σ H Q I h =>
  wpAny_Dict_empty ⟨.ref s.heap.objs.size, _, I.laid (a := s.heap.objs.size) (o := .dT []) (t' := s.toks) (fun _ _ q => Heap.get?_push_of_some _ q) (Nat.le_refl _) (dt_empty s.heap I.big), rfl, h _ (I.hok.fresh (Nat.le_refl _))⟩
end
section
variable {X : Cx} {pins : List (Addr × Obj)} {σ : St} {H : Hp} {s : Shared} {a : Addr} {y d : V} {u r : Value} {o : Option V} {A : Around} {E : Value → Shared → Prop}
end
section
variable {X : Cx} {o e f : Expr} {apos cpos : Pos} {td ty tx : TE}
end
section
variable {X : Cx} {pins : List (Addr × Obj)} {σ : St} {H : Hp} {s : Shared} {a : Addr} {kvs : List (Key × V)} {A : Around} {E : Value → Shared → Prop}
end
section
variable {X : Cx} {pins : List (Addr × Obj)} {σ : St} {H : Hp} {s : Shared} {a : Addr} {y : V} {u : Value} {A : Around} {E : Value → Shared → Prop}
end
end L2
namespace L2
open PySem PySem.Spec PyProof.Rows
def DE (h : Heap) (a : Addr) (es : Array DictEntry) (ep : Nat) : Prop := ∃ o, h.get? a = some o ∧ o.ExactDict ∧ o.data = .dict es ep
section
variable {prog : Program} {w : World} {A : Around} {E : Value → Shared → Prop} {s : Shared} {a it : Addr} {es : Array DictEntry} {ep i : Nat}
theorem DE.ty (h : DE s.heap a es ep) : s.TypeIs (.ref a) "dict" := let ⟨o, e, x, _⟩ := h; ⟨o, e, x.1⟩
theorem DE.on {h h' : Heap} (d : DE h a es ep) (k : ∀ o, h.get? a = some o → h'.get? a = some o) : DE h' a es ep := let ⟨o, e, r⟩ := d; ⟨o, k o e, r⟩
theorem DE.lt {h : Heap} (d : DE h a es ep) : a < h.objs.size := let ⟨_, e, _⟩ := d; Heap.lt_size e
abbrev kitO (d : Addr) (n ep : Nat) : Obj := { cls := .type "dict_keyiterator", data := .fields #[.ref d, .int 0 0, .int n 0, .int ep 0] }
theorem de_iter {Q : Value → Shared → Prop} (no : (a == sysModules) = false) (d : DE s.heap a es ep) (q : Q (.ref s.heap.objs.size) { s with heap := s.heap.push (kitO a es.size ep) }) : wpAny (model prog w) A (pyIter (.ref a)) Q E s := by
  have T := d.ty
  obtain ⟨o, e, _, ed⟩ := d
  refine wpAny_pyIter_slot T F.slot_dict_iter (wpAny_call_entry F.slot_dict_iter T F.entry_dict_iter (by
    unfold Builtin.«dict.__iter__» Builtin.Dict.dictSlotNone
    refine wpAny_bind (wpAny_bind (wpAny_notOrdered_dict T (by
      show wpAny _ _ (pure (Value.ref a)) _ _ s
      refine wpAny_pure (by
        show wpAny _ _ (Builtin.Dict.showsAll a >>= _) _ _ s
        unfold Builtin.Dict.showsAll
        rw [no, if_neg Bool.false_ne_true]
        refine wpAny_bind (wpAny_pure (wpAny_bind (wpAny_dictEntries e ed (wpAny_bind (wpAny_dictEpoch e ed ?_)))))
        exact wpAny_bind (wpAny_newObj_type (wpAny_pure ⟨_, rfl, "dict_keyiterator", _, ⟨_, Heap.get?_push_size _ rfl, rfl⟩, F.slot_dict_keyiterator_next.lookup, by simpa [rawInt] using q⟩))))))) (F.args_dict_iter_1 _))
theorem de_next {Q : Option Value → Shared → Prop} (st : s.heap.IsKeyIter it a i es.size ep) (d : DE s.heap a es ep) (hi : i < es.size)
    (q : ∀ h', h'.IsKeyIter it a (i + 1) es.size ep → Heap.SameBut it s.heap h' → Q (some es[i].key) { s with heap := h' }) : wpAny (model prog w) A (pyNext (.ref it)) Q E s := by
  have T := st.typeIs
  obtain ⟨o, e, ec, ed⟩ := id st
  obtain ⟨od, f, _, fd⟩ := id d
  have own0 : Builtin.Dict_items.ownsTuple "dict_keyiterator" = false := by decide
  have st' : (s.heap.update it (Obj.mapFields (·.setIfInBounds 1 (rawInt ((i : Int) + 1))))).IsKeyIter it a (i + 1) es.size ep :=
    ⟨_, Heap.get?_update_self _ e (Obj.isFreed_of_fields (Obj.data_mapFields ed _)), (Obj.cls_mapFields ..).trans ec, by rw [Obj.data_mapFields ed]; simp [rawInt]⟩
  unfold pyNext
  refine wpAny_bind (wpAny_attempt (wpAny_callSpecial?_slot (name := Str.ofString "__next__") T F.slot_dict_keyiterator_next (wpAny_call_entry F.slot_dict_keyiterator_next T F.entry_dict_keyiterator_next ?_ (F.args_dict_keyiterator_next_1 _))))
  refine wpAny_bind (wpAny_pure (wpAny_bind (wpAny_bind ?_)))
  (first | refine wpAny_bind (wpAny_typeNameOfWhole_keyiter T (wpAny_pure (wpAny_bind (wpAny_fieldsOf e ed ?_)))) | refine wpAny_bind (wpAny_typeNameOf_keyiter T (wpAny_pure (wpAny_bind (wpAny_fieldsOf e ed ?_)))))
  rw [own0]
  show wpAny _ _ (if (Value.ref a == Value.none) = true then _ else _) _ _ s
  rw [if_neg (fun z : (Value.ref a == Value.none) = true => Bool.false_ne_true z)]
  refine wpAny_bind (wpAny_pure (wpAny_bind (wpAny_dictEntries f fd ?_)))
  rw [if_neg (by simp)]
  refine wpAny_bind (wpAny_pure (wpAny_bind (wpAny_dictEpoch f fd ?_)))
  rw [if_neg (by simp)]
  refine wpAny_pure ?_
  simp only [show ¬ ((i : Int) < 0) from by omega, if_false, Int.toNat_natCast, Array.getElem?_eq_getElem hi]
  refine wpAny_bind ?_
  (first | refine wpAny_bind (wpAny_typeNameOfWhole_keyiter T (wpAny_pure (wpAny_bind (wpAny_isOneOf_keyiter T ?_)))) | refine wpAny_bind (wpAny_typeNameOf_keyiter T (wpAny_pure (wpAny_bind (wpAny_isOneOf_keyiter T ?_)))))
  show wpAny _ _ (setField (.ref it) 1 (rawInt ((i : Int) + 1)) >>= _) _ _ s
  refine wpAny_bind (wpAny_setField e ed (by simp) (wpAny_bind (wpAny_holding ?_)))
  refine wpAny_bind (wpAny_isOneOf_keyiter (s := { s with heap := s.heap.update it (Obj.mapFields (·.setIfInBounds 1 (rawInt ((i : Int) + 1)))) }) st'.typeIs ?_)
  show wpAny _ _ (pure es[i].key) _ _ _
  exact wpAny_pure (wpAny_pure ⟨_, rfl, wpAny_pure (q _ st' (Heap.SameBut.update ..))⟩)
theorem de_last {Q : Option Value → Shared → Prop} (hh : A.handled = none) (st : s.heap.IsKeyIter it a es.size es.size ep) (d : DE s.heap a es ep) (q : ∀ h', Heap.ExtBut it s.heap h' → Q none { s with heap := h' }) : wpAny (model prog w) A (pyNext (.ref it)) Q E s := by
  have T := st.typeIs
  obtain ⟨o, e, ec, ed⟩ := id st
  obtain ⟨od, f, _, fd⟩ := id d
  have own0 : Builtin.Dict_items.ownsTuple "dict_keyiterator" = false := by decide
  unfold pyNext
  refine wpAny_bind (wpAny_attempt (wpAny_callSpecial?_slot (name := Str.ofString "__next__") T F.slot_dict_keyiterator_next (wpAny_call_entry F.slot_dict_keyiterator_next T F.entry_dict_keyiterator_next ?_ (F.args_dict_keyiterator_next_1 _))))
  refine wpAny_bind (wpAny_pure (wpAny_bind (wpAny_bind ?_)))
  (first | refine wpAny_bind (wpAny_typeNameOfWhole_keyiter T (wpAny_pure (wpAny_bind (wpAny_fieldsOf e ed ?_)))) | refine wpAny_bind (wpAny_typeNameOf_keyiter T (wpAny_pure (wpAny_bind (wpAny_fieldsOf e ed ?_)))))
  rw [own0]
  show wpAny _ _ (if (Value.ref a == Value.none) = true then _ else _) _ _ s
  rw [if_neg (fun z : (Value.ref a == Value.none) = true => Bool.false_ne_true z)]
  refine wpAny_bind (wpAny_pure (wpAny_bind (wpAny_dictEntries f fd ?_)))
  rw [if_neg (by simp)]
  refine wpAny_bind (wpAny_pure (wpAny_bind (wpAny_dictEpoch f fd ?_)))
  rw [if_neg (by simp)]
  refine wpAny_pure ?_
  simp only [show ¬ (((es.size : Nat) : Int) < 0) from by omega, if_false, Int.toNat_natCast, Array.getElem?_eq_none (Nat.le_refl es.size)]
  refine wpAny_bind ?_
  (first | refine wpAny_bind (wpAny_typeNameOfWhole_keyiter T (wpAny_pure ?_)) | refine wpAny_bind (wpAny_typeNameOf_keyiter T (wpAny_pure ?_)))
  show wpAny _ _ (setField (.ref it) 0 .none >>= _) _ _ s
  refine wpAny_bind (wpAny_setField e ed (by simp) ?_)
  show wpAny _ _ (newExc (.type "StopIteration") [] >>= _) _ _ _
  refine wpAny_bind ?_
  simp only [newExc, newTuple]
  refine wpAny_bind (wpAny_newObj_type ?_ (by size_fits))
  refine wpAny_bind (m := firstArgMember _ _) (wpAny_of_eq (a := Value.none) (by first | rfl | (simp only [firstArgMember]; rfl)) (wpAny_newObj_type ?_ (by size_fits)))
  simp only [raiseNew]
  refine wpAny_bind (wpAny_handled ?_)
  rw [show A.in1.handled = none from hh]
  refine wpAny_bind (wpAny_pure (wpAny_throw ?_)); refine wpAny_bind (wpAny_isInstance (T := "StopIteration") (b := true) ⟨_, Heap.get?_push_size _ rfl, rfl⟩ isSubtype_stop ?_)
  exact wpAny_pure (q _ (((Heap.SameBut.update ..).extBut.push _).push _))
theorem de_walks (hh : A.handled = none) (I d : Addr) (hne : d ≠ I) (es : Array DictEntry) (ep : Nat) :
    Walks prog w A I [I, d] [I] es.size (fun i v => ∃ e, es[i]? = some e ∧ v = e.key) (fun i h => h.IsKeyIter I d i es.size ep ∧ DE h d es ep) where
  sub := fun b hb => by simp at hb; simp [hb]
  frame := fun _ _ _ st hk => ⟨st.1.at fun o e => hk I (by simp) o e, st.2.on fun o e => hk d (by simp) o e⟩
  item := fun i s Q E hi st hQ => by
    refine de_next st.1 st.2 hi fun h' hit' hs' => ?_
    refine hQ _ h' s.toks ⟨es[i], Array.getElem?_eq_getElem hi, rfl⟩ ⟨hit', st.2.on fun o e => hs'.extBut d o hne e⟩ fun b o hb e => ?_
    exact hs'.extBut b o (fun z => hb (by simp [z])) e
  done := fun s Q E st hQ => de_last hh st.1 st.2 fun h' he' => hQ h' s.toks fun b o hb e => he' b o (fun z => hb (by simp [z])) e
  self := fun _ _ _ _ st hQ => wpAny_pyIter_keyiter st.1 hQ
theorem de_src (no : (a == sysModules) = false) : PySem.W.KdlSrc prog w "dict" a a es.size (fun i v => ∃ e, es[i]? = some e ∧ v = e.key) (fun h => DE h a es ep) where
  type := fun _ d => d.ty
  there := fun _ d => ⟨d.lt, d.lt⟩
  keep := fun _ _ d hk => d.on fun o e => hk a (.inl rfl) o e
  notList := by decide
  notTuple := by decide
  hint := fun _ _ _ _ d q => PySem.W.kdl_hint_dict d.ty q
  iter := fun _ _ hh d => ⟨_, _, (fun _ _ q => de_iter no d q), de_walks hh _ a (Nat.ne_of_lt d.lt) es ep, ⟨⟨_, Heap.get?_push_size _ rfl, rfl, rfl⟩, d.on fun _ e => Heap.get?_push_of_some _ e⟩⟩
end
def rListT : List V → Hp → VK → Prop := fun xs H Q => ∃ (a : Addr) (kvs : List (List Key × V)), xs = [.ref a] ∧ H a = some (.dT kvs) ∧ ∀ (l : Addr) (bs : List Addr), H l = none → bs.length = kvs.length → (∀ (j : Nat) (b : Addr) (k : List Key × V), bs[j]? = some b → kvs[j]? = some k → H b = some (.tup (k.1.map kV))) → Q (.ref l) (upd H l (.lst (bs.map V.ref)))
theorem vals_of : ∀ {xs : List V} {us : List Value}, xs.length = us.length → (∀ (j : Nat) (v : V) (u : Value), xs[j]? = some v → us[j]? = some u → RelV v u) → Vals xs us
  | [], [], _, _ => .nil
  | x :: xs, u :: us, h, k => .cons (k 0 x u rfl rfl) (vals_of (by simpa using h) fun j v w h1 h2 => k (j + 1) v w (by simpa using h1) (by simpa using h2))
  | [], _ :: _, h, _ => by simp at h
  | _ :: _, [], h, _ => by simp at h
theorem kt_at {H : Hp} {kvs : List (List Key × V)} {xs : List (List Key × Addr × Value)} (r : KT H kvs xs) : ∀ (j : Nat) (k : List Key × V) (x : List Key × Addr × Value), kvs[j]? = some k → xs[j]? = some x → H x.2.1 = some (.tup (k.1.map kV)) := by
  unfold KT at r
  induction r with
  | nil => intro j k x h; simp at h
  | cons h t ih =>
    intro j k x h1 h2
    cases j with
    | zero => cases h1; cases h2; exact h.2.1
    | succ j => exact ih j k x (by simpa using h1) (by simpa using h2)
theorem call_list_dT {X : Cx} (hc : X.calm = true) : CallR X (.type "list") rListT := by
  intro pins s σ H xs us Q I r h
  obtain ⟨a, kvs, rfl, ha, q⟩ := h
  obtain ⟨u, rfl, ru⟩ := vals1 r
  cases ru
  obtain ⟨hz, no, ys, rel, o, es, ep, ho, hx, hd, he, hn⟩ := (show ObjOk X.prog X.w H s.heap a (.dT kvs) from I.hok a _ ha)
  have hl := Paired.length rel
  have hs : es.size = ys.length := by rw [← Array.length_toList, he, List.length_map]
  refine PySem.W.kdl_call (de_src (es := es) (ep := ep) no) (I.ok.hd hc) ⟨o, ho, hx, hd⟩ (by rw [hs, ← hl]; exact hz) fun h' tk acc c hk hS hacc => ?_
  obtain ⟨m1, m2⟩ := hacc
  have hval : Vals ((ys.map fun y => y.2.1).map V.ref) acc.toList := by
    refine vals_of (by have : acc.toList.length = acc.size := Array.length_toList; rw [List.length_map, List.length_map, this, m1, hs]) fun j v u hv hu => ?_
    rw [List.getElem?_map, List.getElem?_map] at hv
    obtain ⟨b, hb, rfl⟩ := Option.map_eq_some_iff.mp hv
    obtain ⟨y, hy, rfl⟩ := Option.map_eq_some_iff.mp hb
    obtain ⟨e, e1, rfl⟩ := m2 j u (by rw [← Array.getElem?_toList]; exact hu)
    rw [← Array.getElem?_toList, he, List.getElem?_map, hy] at e1
    cases e1
    rfl
  refine ⟨.ref s.heap.objs.size, _, I.laid (t' := tk) hk (Nat.le_refl _) (show ObjOk X.prog X.w _ h' _ (.lst ((ys.map fun y => y.2.1).map V.ref)) from ⟨by rw [List.length_map, List.length_map, ← hl]; exact hz, acc.toList, c, hval, by rw [Array.toArray_toList]; exact hS⟩), rfl, q _ _ (I.hok.fresh (Nat.le_refl _)) (by rw [List.length_map, hl]) fun j b k hb hk' => ?_⟩
  rw [List.getElem?_map] at hb
  obtain ⟨y, hy, rfl⟩ := Option.map_eq_some_iff.mp hb
  exact kt_at rel j k y hk' hy
end L2
namespace L2
open PySem PySem.Spec PyProof.Rows
section
variable {X : Cx} {a b c d : Expr} {ta tb tc td : TE} {pos : Pos}
theorem range_anyB : ∀ bs : List Bool, (List.range bs.length).any (fun i => (bs[i]?).getD true) = bs.any id
  | [] => rfl
  | b :: bs => by
    rw [List.length_cons, List.range_succ_eq_map, List.any_cons, List.any_map, List.any_cons]
    have := range_anyB bs
    simp only [Function.comp_def, List.getElem?_cons_succ] at *
    rw [this]
    rfl
def rAny (K : PySem.W.Frag) : List V → Hp → VK → Prop := fun xs H Q => ∃ (l : Addr) (bs : List Bool), xs = [.ref l] ∧ SqL K H l (bs.map V.bl) ∧ Q (.bl (bs.any id)) H
theorem call_any_list (hc : X.calm = true) : CallR X (.builtin "any") (rAny X.K) := by
  intro pins s σ H xs us Q I r h
  obtain ⟨l, bs, rfl, hS, q⟩ := h
  obtain ⟨u, rfl, ru⟩ := r.one
  cases ru
  obtain ⟨its, rv, pl, hz⟩ := I.list hS
  have hl := rv.length
  rw [List.length_map] at hl
  have hlt : l < s.heap.objs.size := by obtain ⟨o, n, e, _⟩ := pl; exact Heap.lt_size e
  refine call_any_walk (wpAny_pyIter_list pl.isList ?_)
  refine ⟨s.heap.objs.size, [s.heap.objs.size, l], [s.heap.objs.size], its.toArray.size, _, _, fun i => (bs[i]?).getD true, rfl, Walks.list (A := X.A.in1) (I.ok.hd hc) _ l (Nat.ne_of_lt hlt) its.toArray,
    ⟨⟨_, Heap.get?_push_size _ rfl, rfl, rfl⟩, pl.isList.push _⟩, fun i v s' Q' E' hP hQ => ?_, fun h' tk hk => ?_⟩
  · have hP' : its[i]? = some v := by simpa using hP
    have hi : i < its.length := (List.getElem?_eq_some_iff.mp hP').1
    obtain ⟨u, e1, e2⟩ := rv.get (i := i) (x := .bl bs[i]) (by rw [List.getElem?_map, List.getElem?_eq_getElem (by omega)]; rfl)
    rw [hP'] at e1
    cases e1
    cases e2
    have e3 : bs[i]? = some bs[i] := List.getElem?_eq_getElem (by omega)
    simp only [e3, Option.getD_some] at hQ
    exact wpAny_truthy_bool hQ
  · have e : ((List.range its.toArray.size).any fun i => (bs[i]?).getD true) = bs.any id := by
      rw [List.size_toArray, ← hl]; exact range_anyB bs
    rw [e]
    have kp : ∀ b x, s.heap.get? b = some x → h'.get? b = some x := fun b x e => hk b x (fun hm => by rw [List.mem_singleton.mp hm] at e; exact Nat.lt_irrefl _ (Heap.lt_size e)) (Heap.get?_push_of_some _ e)
    exact ⟨.bl _, H, I.kept kp, rfl, q⟩
end
theorem uscons {us : List Value} {n : Nat} (h : us.length = n + 1) : ∃ a r, us = a :: r := by
  cases us with
  | nil => cases h
  | cons a r => exact ⟨a, r, rfl⟩
theorem us1 {us : List Value} (h : us.length = 1) : ∃ a, us = [a] := by
  obtain ⟨a, us, rfl⟩ := uscons h
  exact ⟨a, by rw [List.eq_nil_of_length_eq_zero (Nat.succ.inj h)]⟩
theorem us2 {us : List Value} (h : us.length = 2) : ∃ a b, us = [a, b] := by
  obtain ⟨a, us, rfl⟩ := uscons h
  obtain ⟨b, rfl⟩ := us1 (Nat.succ.inj h)
  exact ⟨a, b, rfl⟩
theorem us3 {us : List Value} (h : us.length = 3) : ∃ a b c, us = [a, b, c] := by
  obtain ⟨a, us, rfl⟩ := uscons h
  obtain ⟨b, c, rfl⟩ := us2 (Nat.succ.inj h)
  exact ⟨a, b, c, rfl⟩
theorem us4 {us : List Value} (h : us.length = 4) : ∃ a b c d, us = [a, b, c, d] := by
  obtain ⟨a, us, rfl⟩ := uscons h
  obtain ⟨b, c, d, rfl⟩ := us3 (Nat.succ.inj h)
  exact ⟨a, b, c, d, rfl⟩
theorem us5 {us : List Value} (h : us.length = 5) : ∃ a b c d e, us = [a, b, c, d, e] := by
  obtain ⟨a, us, rfl⟩ := uscons h
  obtain ⟨b, c, d, e, rfl⟩ := us4 (Nat.succ.inj h)
  exact ⟨a, b, c, d, e, rfl⟩
theorem us6 {us : List Value} (h : us.length = 6) : ∃ a b c d e f, us = [a, b, c, d, e, f] := by
  obtain ⟨a, us, rfl⟩ := uscons h
  obtain ⟨b, c, d, e, f, rfl⟩ := us5 (Nat.succ.inj h)
  exact ⟨a, b, c, d, e, f, rfl⟩
theorem b_any : bootBuiltins "any" = some (.builtin "any") := by decide +kernel
end L2
namespace PD
open PySem L2
inductive Cl where
  | Open | Bridge | Road | Cart | Trip | Day
  deriving DecidableEq
inductive Fl where
  | length | name | bears | wide | most | pieces | rounds | shuts | speed | wheels | cart | way | start | crossings | ended | road | loads | sends
  deriving DecidableEq
def Cl.s : Cl → Str
  | .Open => "Open" | .Bridge => "Bridge" | .Road => "Road" | .Cart => "Cart" | .Trip => "Trip" | .Day => "Day"
def Fl.s : Fl → Str
  | .length => "length" | .name => "name" | .bears => "bears" | .wide => "wide" | .most => "most" | .pieces => "pieces" | .rounds => "rounds" | .shuts => "shuts"
  | .speed => "speed" | .wheels => "wheels" | .cart => "cart" | .way => "way" | .start => "start" | .crossings => "crossings" | .ended => "ended" | .road => "road" | .loads => "loads" | .sends => "sends"
def Cl.fs : Cl → List Fl
  | .Open => [.length] | .Bridge => [.name, .length, .bears, .wide, .most] | .Road => [.pieces, .rounds, .shuts] | .Cart => [.name, .speed, .wheels]
  | .Trip => [.cart, .way, .start, .crossings, .ended] | .Day => [.road, .loads, .sends]
inductive D where
  | non | bl (b : Bool) | int (i : Int) | str (x : Str)
  | tup (xs : List D) | kt (xs : List D) | lst (xs : List D) | fz (xs : List D)
  | ob (c : Cl) (fs : List (Fl × D))
  | dk (ks : List Key) (ds : List D) | dt (ks : List (List Key)) (ds : List D)
def CF (K : PySem.W.Frag) (ns : List Str) (c : Cl) : Prop := PKd K ns (clA K c.s) [c.s] (c.fs.map Fl.s)
def KT (K : PySem.W.Frag) (a : Addr) (xs : List V) : Prop := ∃ (o : Obj) (its : Array Value) (n : Nat), K.lookup a = some o ∧ o.cls = .type "tuple" ∧ o.data = .seq its n ∧ its.size ≤ sizeLine ∧ Vals xs its.toList
def FZ (K : PySem.W.Frag) (H : Hp) (a : Addr) (xs : List V) : Prop := (∃ o : Obj, H a = some (.frz o (.lst xs))) ∨ ∃ (o : Obj) (its : Array Value) (n : Nat), K.lookup a = some o ∧ o.cls = .type "list" ∧ o.dict = none ∧ o.data = .seq its n ∧ its.size ≤ sizeLine ∧ Vals xs its.toList
mutual
/-- a value reads as a datum; L: the lists that may be read -/
inductive Rd (K : PySem.W.Frag) (ns : List Str) (L : Addr → Prop) (H : Hp) : V → D → Prop
  | non : Rd K ns L H .non .non
  | bl (b : Bool) : Rd K ns L H (.bl b) (.bl b)
  | int (i : Int) : Rd K ns L H (.int i) (.int i)
  | str (x : Str) : Rd K ns L H (.str x) (.str x)
  | tup {a : Addr} {vs : List V} {ds : List D} (e : H a = some (.tup vs)) (r : Rds K ns L H vs ds) : Rd K ns L H (.ref a) (.tup ds)
  | kt {a : Addr} {vs : List V} {ds : List D} (e : KT K a vs) (r : Rds K ns L H vs ds) : Rd K ns L H (.ref a) (.kt ds)
  | lst {a : Addr} {vs : List V} {ds : List D} (l : L a) (e : H a = some (.lst vs)) (r : Rds K ns L H vs ds) : Rd K ns L H (.ref a) (.lst ds)
  | fz {a : Addr} {vs : List V} {ds : List D} (e : FZ K H a vs) (r : Rds K ns L H vs ds) : Rd K ns L H (.ref a) (.fz ds)
  | ob {a dx : Addr} {gs : List (Str × V)} {c : Cl} {fs : List (Fl × D)} (l : L a) (e : H a = some (.ins (clA K c.s) dx gs)) (k : CF K ns c) (r : Rfs K ns L H gs fs) : Rd K ns L H (.ref a) (.ob c fs)
  | dk {a : Addr} {kvs : List (Key × V)} {ds : List D} (l : L a) (e : H a = some (.dK kvs)) (r : Rds K ns L H (kvs.map (·.2)) ds) : Rd K ns L H (.ref a) (.dk (kvs.map (·.1)) ds)
  | dt {a : Addr} {kvs : List (List Key × V)} {ds : List D} (l : L a) (e : H a = some (.dT kvs)) (r : Rds K ns L H (kvs.map (·.2)) ds) : Rd K ns L H (.ref a) (.dt (kvs.map (·.1)) ds)
inductive Rds (K : PySem.W.Frag) (ns : List Str) (L : Addr → Prop) (H : Hp) : List V → List D → Prop
  | nil : Rds K ns L H [] []
  | cons {v : V} {d : D} {vs : List V} {ds : List D} (h : Rd K ns L H v d) (t : Rds K ns L H vs ds) : Rds K ns L H (v :: vs) (d :: ds)
inductive Rfs (K : PySem.W.Frag) (ns : List Str) (L : Addr → Prop) (H : Hp) : List (Str × V) → List (Fl × D) → Prop
  | nil {gs : List (Str × V)} : Rfs K ns L H gs []
  | cons {gs : List (Str × V)} {f : Fl} {v : V} {d : D} {fs : List (Fl × D)} (e : gs.lookup f.s = some v) (h : Rd K ns L H v d) (t : Rfs K ns L H gs fs) : Rfs K ns L H gs ((f, d) :: fs)
end
def isMut : HO → Bool
  | .lst _ => true
  | .ins _ _ _ => true
  | .dK _ => true
  | .dT _ => true
  | _ => false
def KeepL (L : Addr → Prop) (H H' : Hp) : Prop := ∀ a o, H a = some o → (isMut o = true → L a) → H' a = some o
section
variable {K : PySem.W.Frag} {ns : List Str} {L L' : Addr → Prop} {H H' H'' : Hp}
theorem KeepL.of (h : Same H H') : KeepL L H H' := fun a o e _ => h a o e
theorem KeepL.refl : KeepL L H H := fun _ _ e _ => e
theorem Rd.mono2 (hL : ∀ a o, H a = some o → L a → L' a) (hk : KeepL L H H') {v : V} {d : D} (h : Rd K ns L H v d) : Rd K ns L' H' v d := Rd.rec (motive_1 := fun v d _ => Rd K ns L' H' v d) (motive_2 := fun vs ds _ => Rds K ns L' H' vs ds) (motive_3 := fun gs fs _ => Rfs K ns L' H' gs fs) .non .bl .int .str (fun e _ ih => .tup (hk _ _ e fun z => by cases z) ih) (fun e _ ih => .kt e ih) (fun l e _ ih => .lst (hL _ _ e l) (hk _ _ e fun _ => l) ih) (fun e _ ih => .fz (e.imp (fun z => z.elim fun o z => ⟨o, hk _ _ z fun z => by cases z⟩) id) ih) (fun l e k _ ih => .ob (hL _ _ e l) (hk _ _ e fun _ => l) k ih) (fun l e _ ih => .dk (hL _ _ e l) (hk _ _ e fun _ => l) ih) (fun l e _ ih => .dt (hL _ _ e l) (hk _ _ e fun _ => l) ih) .nil (fun _ _ h t => .cons h t) .nil (fun e _ _ h t => .cons e h t) h
theorem Rds.mono2 (hL : ∀ a o, H a = some o → L a → L' a) (hk : KeepL L H H') {vs : List V} {ds : List D} (h : Rds K ns L H vs ds) : Rds K ns L' H' vs ds := Rds.rec (motive_1 := fun v d _ => Rd K ns L' H' v d) (motive_2 := fun vs ds _ => Rds K ns L' H' vs ds) (motive_3 := fun gs fs _ => Rfs K ns L' H' gs fs) .non .bl .int .str (fun e _ ih => .tup (hk _ _ e fun z => by cases z) ih) (fun e _ ih => .kt e ih) (fun l e _ ih => .lst (hL _ _ e l) (hk _ _ e fun _ => l) ih) (fun e _ ih => .fz (e.imp (fun z => z.elim fun o z => ⟨o, hk _ _ z fun z => by cases z⟩) id) ih) (fun l e k _ ih => .ob (hL _ _ e l) (hk _ _ e fun _ => l) k ih) (fun l e _ ih => .dk (hL _ _ e l) (hk _ _ e fun _ => l) ih) (fun l e _ ih => .dt (hL _ _ e l) (hk _ _ e fun _ => l) ih) .nil (fun _ _ h t => .cons h t) .nil (fun e _ _ h t => .cons e h t) h
theorem Rfs.mono2 (hL : ∀ a o, H a = some o → L a → L' a) (hk : KeepL L H H') {gs : List (Str × V)} {fs : List (Fl × D)} (h : Rfs K ns L H gs fs) : Rfs K ns L' H' gs fs := Rfs.rec (motive_1 := fun v d _ => Rd K ns L' H' v d) (motive_2 := fun vs ds _ => Rds K ns L' H' vs ds) (motive_3 := fun gs fs _ => Rfs K ns L' H' gs fs) .non .bl .int .str (fun e _ ih => .tup (hk _ _ e fun z => by cases z) ih) (fun e _ ih => .kt e ih) (fun l e _ ih => .lst (hL _ _ e l) (hk _ _ e fun _ => l) ih) (fun e _ ih => .fz (e.imp (fun z => z.elim fun o z => ⟨o, hk _ _ z fun z => by cases z⟩) id) ih) (fun l e k _ ih => .ob (hL _ _ e l) (hk _ _ e fun _ => l) k ih) (fun l e _ ih => .dk (hL _ _ e l) (hk _ _ e fun _ => l) ih) (fun l e _ ih => .dt (hL _ _ e l) (hk _ _ e fun _ => l) ih) .nil (fun _ _ h t => .cons h t) .nil (fun e _ _ h t => .cons e h t) h
theorem Rd.mono (hL : ∀ a, L a → L' a) (hk : KeepL L H H') {v : V} {d : D} (h : Rd K ns L H v d) : Rd K ns L' H' v d := h.mono2 (fun a _ _ => hL a) hk
theorem Rds.mono (hL : ∀ a, L a → L' a) (hk : KeepL L H H') {vs : List V} {ds : List D} (h : Rds K ns L H vs ds) : Rds K ns L' H' vs ds := h.mono2 (fun a _ _ => hL a) hk
theorem Rfs.mono (hL : ∀ a, L a → L' a) (hk : KeepL L H H') {gs : List (Str × V)} {fs : List (Fl × D)} (h : Rfs K ns L H gs fs) : Rfs K ns L' H' gs fs := h.mono2 (fun a _ _ => hL a) hk
abbrev Nw (L : Addr → Prop) (H : Hp) : Addr → Prop := fun a => L a ∨ H a = none
theorem back {a : Addr} (S : Same H H') (h : H' a = none) : H a = none := by
  cases e : H a with
  | none => rfl
  | some o => rw [S _ _ e] at h; cases h
theorem nw2 (S : Same H H') {a : Addr} (h : Nw (Nw L H) H' a) : Nw L H a := h.elim id fun q => .inr (back S q)
theorem Rd.nw {v : V} {d : D} (h : Rd K ns L H v d) : Rd K ns (Nw L H) H v d := h.mono (fun _ => .inl) .refl
theorem Rd.same {v : V} {d : D} (h : Rd K ns L H v d) (S : Same H H') : Rd K ns L H' v d := h.mono (fun _ q => q) (.of S)
theorem Rds.same {v : List V} {d : List D} (h : Rds K ns L H v d) (S : Same H H') : Rds K ns L H' v d := h.mono (fun _ q => q) (.of S)
theorem Rds.nilL {ds : List D} (h : Rds K ns L H [] ds) : ds = [] := by cases h; rfl
theorem Rds.consL {v : V} {vs : List V} {ds : List D} (h : Rds K ns L H (v :: vs) ds) : ∃ d es, ds = d :: es ∧ Rd K ns L H v d ∧ Rds K ns L H vs es := by
  cases h with
  | cons h t => exact ⟨_, _, rfl, h, t⟩
theorem Rds.len {vs : List V} {ds : List D} (h : Rds K ns L H vs ds) : vs.length = ds.length := by
  induction vs generalizing ds with
  | nil => rw [h.nilL]; rfl
  | cons v vs ih =>
    obtain ⟨d, es, rfl, a, t⟩ := h.consL
    exact congrArg Nat.succ (ih t)
theorem Rds.get {vs : List V} {ds : List D} {i : Nat} {d : D} (h : Rds K ns L H vs ds) (e : ds[i]? = some d) : ∃ v, vs[i]? = some v ∧ Rd K ns L H v d := by
  induction vs generalizing ds i with
  | nil => rw [h.nilL] at e; cases e
  | cons v vs ih =>
    obtain ⟨c, es, rfl, a, t⟩ := h.consL
    cases i with
    | zero => cases e; exact ⟨_, rfl, a⟩
    | succ i => exact ih t e
theorem Rds.append {vs ws : List V} {ds es : List D} (h : Rds K ns L H vs ds) (s : Rds K ns L H ws es) : Rds K ns L H (vs ++ ws) (ds ++ es) := by
  induction vs generalizing ds with
  | nil => rw [h.nilL]; exact s
  | cons v vs ih =>
    obtain ⟨d, es, rfl, a, t⟩ := h.consL
    exact .cons a (ih t)
theorem Rds.drop {vs : List V} {ds : List D} (n : Nat) (h : Rds K ns L H vs ds) : Rds K ns L H (vs.drop n) (ds.drop n) := by
  induction vs generalizing ds n with
  | nil => rw [h.nilL, List.drop_nil, List.drop_nil]; exact .nil
  | cons v vs ih =>
    obtain ⟨d, es, rfl, a, t⟩ := h.consL
    cases n with
    | zero => exact h
    | succ n => exact ih n t
theorem Rds.take {vs : List V} {ds : List D} (n : Nat) (h : Rds K ns L H vs ds) : Rds K ns L H (vs.take n) (ds.take n) := by
  induction vs generalizing ds n with
  | nil => rw [h.nilL, List.take_nil, List.take_nil]; exact .nil
  | cons v vs ih =>
    obtain ⟨d, es, rfl, a, t⟩ := h.consL
    cases n with
    | zero => exact .nil
    | succ n => exact .cons a (ih n t)
theorem same_new0 {p : Addr} (h : H p = none) (o : HO) : Same H (upd H p o) := fun b u q => by rw [upd_ne (ne_of_none q h)]; exact q
theorem isEmpty_len {α β : Type} : ∀ {xs : List α} {ys : List β}, xs.length = ys.length → xs.isEmpty = ys.isEmpty
  | [], [], _ => rfl
  | _ :: _, _ :: _, _ => rfl
  | [], _ :: _, h => by cases h
  | _ :: _, [], h => by cases h
def RdO (K : PySem.W.Frag) (ns : List Str) (L : Addr → Prop) (H : Hp) : HO → D → Prop
  | .lst vs, .lst ds => Rds K ns L H vs ds
  | .dK kvs, .dk ks ds => kvs.map (·.1) = ks ∧ Rds K ns L H (kvs.map (·.2)) ds
  | .dT kvs, .dt ks ds => kvs.map (·.1) = ks ∧ Rds K ns L H (kvs.map (·.2)) ds
  | _, _ => False
theorem RdO.case {o : HO} {d : D} (h : RdO K ns L H o d) : (∃ vs ds, o = .lst vs ∧ d = .lst ds ∧ Rds K ns L H vs ds) ∨ (∃ kvs ds, o = .dK kvs ∧ d = .dk (kvs.map (·.1)) ds ∧ Rds K ns L H (kvs.map (·.2)) ds) ∨ ∃ kvs ds, o = .dT kvs ∧ d = .dt (kvs.map (·.1)) ds ∧ Rds K ns L H (kvs.map (·.2)) ds := by
  cases o with
  | lst vs => cases d <;> first | exact h.elim | exact .inl ⟨_, _, rfl, rfl, h⟩
  | dK kvs => cases d <;> first | exact h.elim | exact .inr (.inl ⟨_, _, rfl, by rw [h.1], h.2⟩)
  | dT kvs => cases d <;> first | exact h.elim | exact .inr (.inr ⟨_, _, rfl, by rw [h.1], h.2⟩)
  | _ => exact h.elim
theorem RdO.rd {o : HO} {d : D} {a : Addr} (h : RdO K ns L H o d) (l : L a) (e : H a = some o) : Rd K ns L H (.ref a) d := by
  rcases h.case with ⟨vs, ds, rfl, rfl, r⟩ | ⟨kvs, ds, rfl, rfl, r⟩ | ⟨kvs, ds, rfl, rfl, r⟩
  · exact .lst l e r
  · exact .dk l e r
  · exact .dt l e r
theorem RdO.map {L' : Addr → Prop} {H' : Hp} {o : HO} {d : D} (h : RdO K ns L H o d) (f : ∀ {vs : List V} {ds : List D}, Rds K ns L H vs ds → Rds K ns L' H' vs ds) : RdO K ns L' H' o d := by
  rcases h.case with ⟨vs, ds, rfl, rfl, r⟩ | ⟨kvs, ds, rfl, rfl, r⟩ | ⟨kvs, ds, rfl, rfl, r⟩
  · exact f r
  · exact ⟨rfl, f r⟩
  · exact ⟨rfl, f r⟩
theorem RdO.mono (hL : ∀ a, L a → L' a) (hk : KeepL L H H') {o : HO} {d : D} (h : RdO K ns L H o d) : RdO K ns L' H' o d := h.map fun r => r.mono hL hk
theorem RdO.mono2 (hL : ∀ a o, H a = some o → L a → L' a) (hk : KeepL L H H') {o : HO} {d : D} (h : RdO K ns L H o d) : RdO K ns L' H' o d := h.map fun r => r.mono2 hL hk
theorem RdO.same {o : HO} {d : D} (h : RdO K ns L H o d) (S : Same H H') : RdO K ns L H' o d := h.map fun r => r.same S
theorem RdO.mut {o : HO} {d : D} (h : RdO K ns L H o d) : isMut o = true := by
  rcases h.case with ⟨vs, ds, rfl, rfl, r⟩ | ⟨kvs, ds, rfl, rfl, r⟩ | ⟨kvs, ds, rfl, rfl, r⟩ <;> rfl
theorem SqT.kt {a : Addr} {xs : List V} (h : KT K a xs) : SqT K H a xs := .inr h
theorem SqL.fz {a : Addr} {xs : List V} (h : FZ K H a xs) : SqL K H a xs := h.elim (fun z => .inl (.inr z)) .inr
theorem FZ.mono {a : Addr} {xs : List V} (h : FZ K H a xs) (hk : KeepL L H H') : FZ K H' a xs := h.imp (fun ⟨o, z⟩ => ⟨o, hk _ _ z fun z => by cases z⟩) id
end
mutual
def D.flat : D → Bool
  | .lst _ => false
  | .tup xs => flats xs
  | .kt xs => flats xs
  | .fz xs => flats xs
  | .ob _ _ => false
  | .dk _ _ => false
  | .dt _ _ => false
  | _ => true
def flats : List D → Bool
  | [] => true
  | d :: r => d.flat && flats r
end
section
variable {K : PySem.W.Frag} {ns : List Str} {L L' : Addr → Prop} {H H' H'' : Hp}
theorem Rd.flat {v : V} {d : D} (r : Rd K ns L H v d) : d.flat = true → Rd K ns L' H v d := Rd.rec (motive_1 := fun v d _ => d.flat = true → Rd K ns L' H v d) (motive_2 := fun vs ds _ => flats ds = true → Rds K ns L' H vs ds) (motive_3 := fun _ _ _ => True) (fun _ => .non) (fun b _ => .bl b) (fun i _ => .int i) (fun x _ => .str x) (fun e _ ih h => .tup e (ih (by simpa [D.flat] using h))) (fun e _ ih h => .kt e (ih (by simpa [D.flat] using h))) (fun _ _ _ _ h => by simp [D.flat] at h) (fun e _ ih h => .fz e (ih (by simpa [D.flat] using h))) (fun _ _ _ _ _ h => by simp [D.flat] at h) (fun _ _ _ _ h => by simp [D.flat] at h) (fun _ _ _ _ h => by simp [D.flat] at h) (fun _ => .nil) (fun _ _ h t q => by rw [flats, Bool.and_eq_true] at q; exact .cons (h q.1) (t q.2)) trivial (fun _ _ _ _ _ => trivial) r
theorem Rds.flat {vs : List V} {ds : List D} (r : Rds K ns L H vs ds) : flats ds = true → Rds K ns L' H vs ds := Rds.rec (motive_1 := fun v d _ => d.flat = true → Rd K ns L' H v d) (motive_2 := fun vs ds _ => flats ds = true → Rds K ns L' H vs ds) (motive_3 := fun _ _ _ => True) (fun _ => .non) (fun b _ => .bl b) (fun i _ => .int i) (fun x _ => .str x) (fun e _ ih h => .tup e (ih (by simpa [D.flat] using h))) (fun e _ ih h => .kt e (ih (by simpa [D.flat] using h))) (fun _ _ _ _ h => by simp [D.flat] at h) (fun e _ ih h => .fz e (ih (by simpa [D.flat] using h))) (fun _ _ _ _ _ h => by simp [D.flat] at h) (fun _ _ _ _ h => by simp [D.flat] at h) (fun _ _ _ _ h => by simp [D.flat] at h) (fun _ => .nil) (fun _ _ h t q => by rw [flats, Bool.and_eq_true] at q; exact .cons (h q.1) (t q.2)) trivial (fun _ _ _ _ _ => trivial) r
end
end PD
namespace PD
open PySem L2
abbrev Env := List (Option D)
abbrev VF := Env → Option D
abbrev AF := Env → Option (List D)
abbrev BF := Env → Option Bool
def vD (i : Nat) : VF := fun env => (env[i]?).join
def cD (d : D) : VF := fun _ => some d
def oD (g : D → D → Option D) (fa fb : VF) : VF := fun env => (fa env).bind fun a => (fb env).bind fun b => g a b
def uD (g : D → Option D) (fa : VF) : VF := fun env => (fa env).bind g
def aNil : AF := fun _ => some []
def aCons (fa : VF) (fr : AF) : AF := fun env => (fa env).bind fun a => (fr env).bind fun r => some (a :: r)
def tupD (fa : AF) : VF := fun env => (fa env).bind fun ds => some (.tup ds)
def lstD (fa : AF) : VF := fun env => (fa env).bind fun ds => some (.lst ds)
def callD (g : List D → Option D) (fa : AF) : VF := fun env => (fa env).bind g
def bD (f : VF) : BF := fun env => (f env).bind fun | .bl b => some b | _ => none
def truD : D → Option Bool
  | .non => some false
  | .bl b => some b
  | .int i => some (i != 0)
  | .lst xs => some (!xs.isEmpty)
  | .fz xs => some (!xs.isEmpty)
  | .tup xs => some (!xs.isEmpty)
  | .kt xs => some (!xs.isEmpty)
  | _ => none
def trD (f : VF) : BF := fun env => (f env).bind truD
def andB (a b : BF) : BF := fun env => (a env).bind fun x => if x = true then b env else some false
def orB (a b : BF) : BF := fun env => (a env).bind fun x => if x = true then some true else b env
def notB (a : BF) : BF := fun env => (a env).bind fun x => some (!x)
def andD (a b : VF) : VF := fun env => (a env).bind fun | .bl x => if x = true then b env else some (.bl false) | _ => none
def orD (a b : VF) : VF := fun env => (a env).bind fun | .bl x => if x = true then some (.bl true) else b env | _ => none
def notD (a : VF) : VF := fun env => (a env).bind fun | .bl x => some (.bl (!x)) | _ => none
def ifD (c : BF) (a b : VF) : VF := fun env => (c env).bind fun x => if x = true then a env else b env
def yesB : BF := fun _ => some true
section
variable (K : PySem.W.Frag) (ns : List Str)
def EnvR (L : Addr → Prop) (env : Env) (σ : St) (H : Hp) : Prop := ∀ (i : Nat) (d : D), env[i]? = some (some d) → ∃ v, σ[i]? = some (some v) ∧ Rd K ns L H v d
def PuE (t : TE) (f : VF) : Prop := ∀ (L : Addr → Prop) (env : Env) (σ : St) (H : Hp) (Q : VK) (d : D), EnvR K ns L env σ H → f env = some d → (∀ v H', Same H H' → Rd K ns (Nw L H) H' v d → Q v H') → t σ H Q
def PuF (t : TE) (f : VF) : Prop := ∀ (L : Addr → Prop) (env : Env) (σ : St) (H : Hp) (Q : VK) (d : D), EnvR K ns L env σ H → f env = some d →
  (∀ p vs ds H', d = .lst ds → Same H H' → H p = none → H' p = some (.lst vs) → Rds K ns (fun a => Nw L H a ∧ a ≠ p) H' vs ds → Q (.ref p) H') → t σ H Q
def PuA (n : Nat) (t : TA) (f : AF) : Prop := ∀ (L : Addr → Prop) (env : Env) (σ : St) (H : Hp) (Q : List V → Hp → Prop) (ds : List D), EnvR K ns L env σ H → f env = some ds → (∀ vs H', ds.length = n → Same H H' → Rds K ns (Nw L H) H' vs ds → Q vs H') → t σ H Q
def PuT (t : TT) (f : BF) : Prop := ∀ (L : Addr → Prop) (env : Env) (σ : St) (H : Hp) (Q : Bool → Hp → Prop) (b : Bool), EnvR K ns L env σ H → f env = some b → (∀ H', Same H H' → Q b H') → t σ H Q
def R2P (r : R2) (g : D → D → Option D) : Prop := ∀ (L : Addr → Prop) (H : Hp) (x y : V) (a b d : D) (Q : VK), Rd K ns L H x a → Rd K ns L H y b → g a b = some d → (∀ v H', Same H H' → Rd K ns (Nw L H) H' v d → Q v H') → r x y H Q
def UnP (r : V → Hp → VK → Prop) (g : D → Option D) : Prop := ∀ (L : Addr → Prop) (H : Hp) (x : V) (a d : D) (Q : VK), Rd K ns L H x a → g a = some d → (∀ v H', Same H H' → Rd K ns (Nw L H) H' v d → Q v H') → r x H Q
def CaP (r : List V → Hp → VK → Prop) (g : List D → Option D) : Prop := ∀ (L : Addr → Prop) (H : Hp) (xs : List V) (as : List D) (d : D) (Q : VK), Rds K ns L H xs as → g as = some d → (∀ v H', Same H H' → Rd K ns (Nw L H) H' v d → Q v H') → r xs H Q
def CaF (r : List V → Hp → VK → Prop) (g : List D → Option D) : Prop := ∀ (L : Addr → Prop) (H : Hp) (xs : List V) (as : List D) (d : D) (Q : VK), Rds K ns L H xs as → g as = some d →
  (∀ p vs ds H', d = .lst ds → Same H H' → H p = none → H' p = some (.lst vs) → Rds K ns (fun a => Nw L H a ∧ a ≠ p) H' vs ds → Q (.ref p) H') → r xs H Q
end
theorem bl_inv {β : Type} {z : D} {f : Bool → Option β} {y : β} (h : (match z with | .bl x => f x | _ => none) = some y) : ∃ x, z = .bl x ∧ f x = some y := by
  cases z with
  | bl x => exact ⟨x, rfl, h⟩
  | _ => cases h
section
variable {K : PySem.W.Frag} {ns : List Str}
theorem Rd.blI {L : Addr → Prop} {H : Hp} {x : V} {b : Bool} (r : Rd K ns L H x (.bl b)) : x = .bl b := by cases r; rfl
theorem Rd.strI {L : Addr → Prop} {H : Hp} {x : V} {b : Str} (r : Rd K ns L H x (.str b)) : x = .str b := by cases r; rfl
theorem Rd.intI {L : Addr → Prop} {H : Hp} {x : V} {b : Int} (r : Rd K ns L H x (.int b)) : x = .int b := by cases r; rfl
theorem Rd.tupI {L : Addr → Prop} {H : Hp} {x : V} {ds : List D} (r : Rd K ns L H x (.tup ds)) : ∃ a vs, x = .ref a ∧ H a = some (.tup vs) ∧ Rds K ns L H vs ds := by
  cases r with
  | tup e r => exact ⟨_, _, rfl, e, r⟩
theorem Rd.lstI {L : Addr → Prop} {H : Hp} {x : V} {ds : List D} (r : Rd K ns L H x (.lst ds)) : ∃ a vs, x = .ref a ∧ L a ∧ H a = some (.lst vs) ∧ Rds K ns L H vs ds := by
  cases r with
  | lst l e r => exact ⟨_, _, rfl, l, e, r⟩
theorem EnvR.same {L : Addr → Prop} {env : Env} {σ : St} {H H' : Hp} (h : EnvR K ns L env σ H) (S : Same H H') : EnvR K ns L env σ H' := fun i d e => by
  obtain ⟨v, q, r⟩ := h i d e
  exact ⟨v, q, r.same S⟩
theorem EnvR.nw {L : Addr → Prop} {env : Env} {σ : St} {H H' : Hp} (h : EnvR K ns L env σ H) (S : Same H H') : EnvR K ns (Nw L H) env σ H' := fun i d e => by
  obtain ⟨v, q, r⟩ := h i d e
  exact ⟨v, q, r.nw.same S⟩
theorem bnd {α β : Type} {o : Option α} {g : α → Option β} {y : β} (h : o.bind g = some y) : ∃ x, o = some x ∧ g x = some y := by
  cases o with
  | none => cases h
  | some x => exact ⟨x, rfl, h⟩
theorem PuF.pe {t : TE} {f : VF} (h : PuF K ns t f) : PuE K ns t f := fun L env σ H Q d he hf k =>
  h L env σ H Q d he hf fun p vs ds H' e S hn hp r => by
    subst e
    exact k _ _ S (.lst (.inr hn) hp (r.mono (fun _ q => q.1) .refl))
theorem pu_var (i : Nat) : PuE K ns (tVar i) (vD i) := by
  intro L env σ H Q d he hf k
  have e : env[i]? = some (some d) := by
    unfold vD at hf
    cases q : env[i]? with
    | none => rw [q] at hf; cases hf
    | some o => rw [q] at hf; exact congrArg some hf
  obtain ⟨v, q, r⟩ := he i d e
  exact ⟨v, q, k v H (Same.refl _) r.nw⟩
theorem pu_int (i : Int) : PuE K ns (tC (.int i)) (cD (.int i)) := fun L env σ H Q d he hf k => by cases hf; exact k _ _ (Same.refl _) (.int i)
theorem pu_bl (i : Bool) : PuE K ns (tC (.bl i)) (cD (.bl i)) := fun L env σ H Q d he hf k => by cases hf; exact k _ _ (Same.refl _) (.bl i)
theorem pu_non : PuE K ns (tC .non) (cD .non) := fun L env σ H Q d he hf k => by cases hf; exact k _ _ (Same.refl _) .non
theorem pu_str (i : Str) : PuE K ns (tC (.str i)) (cD (.str i)) := fun L env σ H Q d he hf k => by cases hf; exact k _ _ (Same.refl _) (.str i)
theorem pu_op {r : R2} {g : D → D → Option D} {ta tb : TE} {fa fb : VF} (hr : R2P K ns r g) (ha : PuE K ns ta fa) (hb : PuE K ns tb fb) : PuE K ns (tOp r ta tb) (oD g fa fb) := by
  intro L env σ H Q d he hf k
  obtain ⟨a, ea, hf⟩ := bnd hf
  obtain ⟨b, eb, hf⟩ := bnd hf
  refine ha L env σ H _ a he ea fun x H1 S1 rx => hb (Nw L H) env σ H1 _ b (he.nw S1) eb fun y H2 S2 ry => ?_
  refine hr (Nw (Nw L H) H1) H2 x y a b d Q (rx.mono (fun _ => .inl) (.of S2)) ry hf fun v H3 S3 rv => k v H3 (S1.trans (S2.trans S3)) (rv.mono (fun q hq => ?_) .refl)
  exact nw2 S1 (nw2 S2 hq)
theorem pu_un {r : V → Hp → VK → Prop} {g : D → Option D} {ta : TE} {fa : VF} (hr : UnP K ns r g) (ha : PuE K ns ta fa) : PuE K ns (tUn r ta) (uD g fa) := by
  intro L env σ H Q d he hf k
  obtain ⟨a, ea, hf⟩ := bnd hf
  exact ha L env σ H _ a he ea fun x H1 S1 rx => hr (Nw L H) H1 x a d Q rx hf fun v H3 S3 rv => k v H3 (S1.trans S3) (rv.mono (fun q hq => nw2 S1 hq) .refl)
theorem pa_nilD : PuA K ns 0 tNil aNil := fun L env σ H Q ds he hf k => by cases hf; exact k _ _ rfl (Same.refl _) .nil
theorem pa_consD {n : Nat} {ta : TE} {fa : VF} {tr : TA} {fr : AF} (ha : PuE K ns ta fa) (hr : PuA K ns n tr fr) : PuA K ns (n + 1) (tCons ta tr) (aCons fa fr) := by
  intro L env σ H Q ds he hf k
  obtain ⟨a, ea, hf⟩ := bnd hf
  obtain ⟨r, er, hf⟩ := bnd hf
  cases hf
  refine ha L env σ H _ a he ea fun x H1 S1 rx => hr (Nw L H) env σ H1 _ r (he.nw S1) er fun ys H2 hl S2 ry => ?_
  exact k _ H2 (congrArg Nat.succ hl) (S1.trans S2) (.cons (rx.mono (fun _ q => q) (.of S2)) (ry.mono (fun q hq => nw2 S1 hq) .refl))
theorem pu_tup {n : Nat} {t : TA} {f : AF} (h : PuA K ns n t f) (hn : n ≤ sizeLine := by decide) : PuE K ns (tTup t) (tupD f) := by
  intro L env σ H Q d he hf k
  obtain ⟨a, ea, hf⟩ := bnd hf
  cases hf
  refine h L env σ H _ a he ea fun vs H1 hl S1 rx => ⟨by rw [rx.len, hl]; exact hn, fun p hp => ?_⟩
  have N := same_new0 hp (.tup vs)
  exact k _ _ (S1.trans N) (.tup upd_same (rx.same N))
theorem pu_lst {n : Nat} {t : TA} {f : AF} (h : PuA K ns n t f) (hn : n ≤ sizeLine := by decide) : PuF K ns (tLst t) (lstD f) := by
  intro L env σ H Q d he hf k
  obtain ⟨a, ea, hf⟩ := bnd hf
  cases hf
  refine h L env σ H _ a he ea fun vs H1 hl S1 rx => ⟨by rw [rx.len, hl]; exact hn, fun p hp => ?_⟩
  have N := same_new0 hp (.lst vs)
  refine k p vs a _ rfl (S1.trans N) (back S1 hp) upd_same (rx.mono2 (fun a xs e q => ⟨q, fun z => ?_⟩) (.of N))
  subst z
  rw [hp] at e
  cases e
theorem pu_call {n : Nat} {r : List V → Hp → VK → Prop} {g : List D → Option D} {t : TA} {f : AF} (hr : CaP K ns r g) (h : PuA K ns n t f) : PuE K ns (tCB r t) (callD g f) := by
  intro L env σ H Q d he hf k
  obtain ⟨a, ea, hf⟩ := bnd hf
  exact h L env σ H _ a he ea fun xs H1 _ S1 rx => hr (Nw L H) H1 xs a d Q rx hf fun v H3 S3 rv => k v H3 (S1.trans S3) (rv.mono (fun q hq => nw2 S1 hq) .refl)
theorem pu_callF {n : Nat} {r : List V → Hp → VK → Prop} {g : List D → Option D} {t : TA} {f : AF} (hr : CaF K ns r g) (h : PuA K ns n t f) : PuF K ns (tCB r t) (callD g f) := by
  intro L env σ H Q d he hf k
  obtain ⟨a, ea, hf⟩ := bnd hf
  exact h L env σ H _ a he ea fun xs H1 _ S1 rx => hr (Nw L H) H1 xs a d Q rx hf fun p vs ds H3 e S3 hp h3 rv => k p vs ds H3 e (S1.trans S3) (back S1 hp) h3 (rv.mono (fun q hq => ⟨nw2 S1 hq.1, hq.2⟩) .refl)
theorem pt_bD {t : TE} {f : VF} (h : PuE K ns t f) : PuT K ns (tB t) (bD f) := by
  intro L env σ H Q b he hf k
  obtain ⟨d, ed, hf⟩ := bnd hf
  refine h L env σ H _ d he ed fun v H1 S1 r => ?_
  obtain ⟨c, rfl, hf⟩ := bl_inv hf
  cases hf
  exact ⟨_, r.blI, k _ S1⟩
theorem pt_tD {t : TE} {f : VF} (h : PuE K ns t f) : PuT K ns (tTest t) (bD f) := pt_bD h
theorem pt_trD {t : TE} {f : VF} (h : PuE K ns t f) : PuT K ns (fun σ H Q => t σ H fun x H' => ∃ k, TruV K x H' k ∧ Q k H') (trD f) := by
  intro L env σ H Q b he hf k
  obtain ⟨d, ed, hf⟩ := bnd hf
  refine h L env σ H _ d he ed fun v H1 S1 r => ?_
  cases r with
  | non => cases hf; exact ⟨_, rfl, k _ S1⟩
  | bl b => cases hf; exact ⟨_, rfl, k _ S1⟩
  | int i => cases hf; exact ⟨_, rfl, k _ S1⟩
  | str x => cases hf
  | tup e r => cases hf; exact ⟨_, .inr (.inl ⟨_, SqT.of e, by rw [isEmpty_len r.len]⟩), k _ S1⟩
  | kt e r => cases hf; exact ⟨_, .inr (.inl ⟨_, SqT.kt e, by rw [isEmpty_len r.len]⟩), k _ S1⟩
  | lst l e r => cases hf; exact ⟨_, .inl ⟨_, SqL.of e, by rw [isEmpty_len r.len]⟩, k _ S1⟩
  | fz e r => cases hf; exact ⟨_, .inl ⟨_, SqL.fz e, by rw [isEmpty_len r.len]⟩, k _ S1⟩
  | ob l e _ r => cases hf
  | dk l e r => cases hf
  | dt l e r => cases hf
theorem pt_yes : PuT K ns tYes yesB := fun L env σ H Q b he hf k => by cases hf; exact k _ (Same.refl _)
theorem pt_andD {t u : TT} {f g : BF} (h : PuT K ns t f) (h2 : PuT K ns u g) : PuT K ns (tAnd t u) (andB f g) := by
  intro L env σ H Q b he hf k
  obtain ⟨x, ex, hf⟩ := bnd hf
  refine h L env σ H _ x he ex fun H1 S1 => ?_
  cases x with
  | false =>
    rw [if_neg Bool.false_ne_true] at hf ⊢
    cases hf
    exact k _ S1
  | true =>
    rw [if_pos rfl] at hf ⊢
    exact h2 _ env σ H1 _ b (he.nw S1) hf fun H2 S2 => k _ (S1.trans S2)
theorem pt_orD {t u : TT} {f g : BF} (h : PuT K ns t f) (h2 : PuT K ns u g) : PuT K ns (tOr t u) (orB f g) := by
  intro L env σ H Q b he hf k
  obtain ⟨x, ex, hf⟩ := bnd hf
  refine h L env σ H _ x he ex fun H1 S1 => ?_
  cases x with
  | true =>
    rw [if_pos rfl] at hf ⊢
    cases hf
    exact k _ S1
  | false =>
    rw [if_neg Bool.false_ne_true] at hf ⊢
    exact h2 _ env σ H1 _ b (he.nw S1) hf fun H2 S2 => k _ (S1.trans S2)
theorem pt_notD {t : TT} {f : BF} (h : PuT K ns t f) : PuT K ns (tNot t) (notB f) := by
  intro L env σ H Q b he hf k
  obtain ⟨x, ex, hf⟩ := bnd hf
  cases hf
  exact h L env σ H _ x he ex fun H1 S1 => k _ S1
theorem pu_not {t : TE} {f : VF} (h : PuE K ns t f) : PuE K ns (tNotV t) (notD f) := by
  intro L env σ H Q b he hf k
  obtain ⟨x, ex, hf⟩ := bnd hf
  refine h L env σ H _ x he ex fun v H1 S1 r => ?_
  obtain ⟨c, rfl, hf⟩ := bl_inv hf
  cases hf
  exact ⟨_, r.blI, k _ _ S1 (.bl _)⟩
theorem pu_and {t u : TE} {f g : VF} (h : PuE K ns t f) (h2 : PuE K ns u g) : PuE K ns (tAndV t u) (andD f g) := by
  intro L env σ H Q b he hf k
  obtain ⟨x, ex, hf⟩ := bnd hf
  refine h L env σ H _ x he ex fun v H1 S1 r => ?_
  obtain ⟨c, rfl, hf⟩ := bl_inv hf
  refine ⟨c, r.blI, ?_⟩
  cases c with
  | false =>
    rw [if_neg Bool.false_ne_true]
    cases hf
    exact k _ _ S1 (.bl _)
  | true =>
    rw [if_pos rfl]
    exact h2 _ env σ H1 _ b (he.nw S1) hf fun v H2 S2 r => k _ _ (S1.trans S2) (r.mono (fun q hq => nw2 S1 hq) .refl)
theorem pu_if {t : TT} {ta tb : TE} {c : BF} {f g : VF} (h : PuT K ns t c) (h1 : PuE K ns ta f) (h2 : PuE K ns tb g) : PuE K ns (tIf t ta tb) (ifD c f g) := by
  intro L env σ H Q b he hf k
  obtain ⟨x, ex, hf⟩ := bnd hf
  refine h L env σ H _ x he ex fun H1 S1 => ?_
  cases x with
  | true =>
    rw [if_pos rfl] at hf ⊢
    exact h1 _ env σ H1 _ b (he.nw S1) hf fun v H2 S2 r => k _ _ (S1.trans S2) (r.mono (fun q hq => nw2 S1 hq) .refl)
  | false =>
    rw [if_neg Bool.false_ne_true] at hf ⊢
    exact h2 _ env σ H1 _ b (he.nw S1) hf fun v H2 S2 r => k _ _ (S1.trans S2) (r.mono (fun q hq => nw2 S1 hq) .refl)
end
end PD
namespace PD
open PySem L2
abbrev big : Int := 18446744073709551616
def ii (g : Int → Int → Option D) : D → D → Option D
  | .int i, .int j => g i j
  | _, _ => none
def addD : D → D → Option D
  | .int i, .int j => some (.int (i + j))
  | .str a, .str b => if a.length + b.length ≤ 1000000 then some (.str (a ++ b)) else none
  | .lst a, .lst b => if a.length + b.length ≤ 1000000 then some (.lst (a ++ b)) else none
  | .tup a, .tup b => if a.length + b.length ≤ 1000000 then some (.tup (a ++ b)) else none
  | _, _ => none
def catD : D → D → Option D
  | .lst a, .lst b => if a.length + b.length ≤ 1000000 then some (.lst (a ++ b)) else none
  | _, _ => none
def subD : D → D → Option D := ii fun i j => some (.int (i - j))
def mulD : D → D → Option D
  | .int i, .int j => if (-big < i ∧ i < big) ∨ (-big < j ∧ j < big) then some (.int (i * j)) else none
  | .str a, .int n => if a.length ≤ 16 ∧ 0 ≤ n ∧ n ≤ 1000000 then some (.str (Txt.mul a n)) else none
  | _, _ => none
def fdivC : D → D → Option D := ii fun i j => if 0 < j ∧ j < 1073741824 then some (.int (i / j)) else none
def fdivD : D → D → Option D := ii fun i j => if 0 < j ∧ j < big then some (.int (i / j)) else none
def modD : D → D → Option D := ii fun i j => if 0 < j then some (.int (i % j)) else none
def ltD : D → D → Option D := ii fun i j => some (.bl (decide (i < j)))
def leD : D → D → Option D := ii fun i j => some (.bl (decide (i ≤ j)))
def gtD : D → D → Option D := ii fun i j => some (.bl (decide (j < i)))
mutual
def toPy : D → Option PyData
  | .non => some .none
  | .bl b => some (.bool b)
  | .int i => some (.int i)
  | .str x => some (.str x)
  | .lst xs => (toPys xs).map .list
  | .fz xs => (toPys xs).map .list
  | .tup xs => (toPys xs).map .tuple
  | .kt xs => (toPys xs).map .tuple
  | .ob _ _ => none
  | .dk _ _ => none
  | .dt _ _ => none
def toPys : List D → Option (List PyData)
  | [] => some []
  | d :: r => (toPy d).bind fun x => (toPys r).map (x :: ·)
end
def eqX (d e : D) : Option Bool := (toPy d).bind fun x => (toPy e).bind fun y => if SeqAt.shaped x = true ∧ SeqAt.shaped y = true then some (PyData.eqv x y) else none
def eqB : D → D → Option Bool
  | .int i, .int j => some (decide (i = j))
  | .str i, .str j => some (decide (i = j))
  | .bl i, .bl j => some (decide (i = j))
  | d, e => eqX d e
def eqD (d e : D) : Option D := (eqB d e).map .bl
def neD (d e : D) : Option D := (eqB d e).map fun b => .bl (!b)
def D.isN : D → Bool
  | .non => true
  | _ => false
def D.isB (b : Bool) : D → Bool
  | .bl c => decide (c = b)
  | _ => false
def isD : D → D → Option D
  | a, .non => some (.bl a.isN)
  | a, .bl b => some (.bl (a.isB b))
  | _, _ => none
def seqOf : D → Option (List D)
  | .lst xs => some xs
  | .fz xs => some xs
  | .tup xs => some xs
  | .kt xs => some xs
  | _ => none
def ixD : D → D → Option D
  | .str z, .int i => if z.length ≤ 1000000 then (atI z.cps.toList i).map fun c => .str ⟨#[c]⟩ else none
  | d, .int i => (seqOf d).bind fun xs => atI xs i
  | _, _ => none
def cutD (xs : List D) (lo hi : Option Int) : List D := (xs.drop (HT.sIx xs.length 0 lo)).take (HT.sIx xs.length xs.length hi - HT.sIx xs.length 0 lo)
def slDD : D → Option Int → Option Int → Option D
  | .lst xs, lo, hi => some (.lst (cutD xs lo hi))
  | .fz xs, lo, hi => some (.lst (cutD xs lo hi))
  | .tup xs, lo, hi => if HT.sIx xs.length 0 lo = 0 ∧ HT.sIx xs.length xs.length hi = xs.length then none else some (.tup (cutD xs lo hi))
  | .str z, lo, hi => if z.length ≤ 1000000 then some (.str (Txt.slice z lo hi)) else none
  | _, _, _ => none
abbrev OF := Env → Option (Option Int)
def noO : OF := fun _ => some none
def atO (f : VF) : OF := fun env => (f env).bind fun | .int i => some (some i) | _ => none
def slD (g : D → Option Int → Option Int → Option D) (f : VF) (lo hi : OF) : VF := fun env => (f env).bind fun d => (lo env).bind fun l => (hi env).bind fun h => g d l h
def negD : D → Option D
  | .int i => some (.int (-i))
  | _ => none
def absD : List D → Option D
  | [.int i] => some (.int (if i < 0 then -i else i))
  | _ => none
def lenD : List D → Option D
  | [.str z] => if z.length ≤ 1000000 then some (.int z.length) else none
  | [d] => (seqOf d).map fun xs => .int xs.length
  | _ => none
def max2D : List D → Option D
  | [.int i, .int j] => some (.int (if j > i then j else i))
  | _ => none
def blS : List D → Option (List Bool)
  | [] => some []
  | .bl b :: r => (blS r).map (b :: ·)
  | _ => none
def inS : List D → Option (List Int)
  | [] => some []
  | .int b :: r => (inS r).map (b :: ·)
  | _ => none
def sumD : List D → Option D
  | [.lst xs] => (inS xs).map fun bs => .int bs.sum
  | _ => none
def listD : List D → Option D
  | [d] => (seqOf d).map .lst
  | _ => none
def D.ty : D → String
  | .non => "NoneType" | .bl _ => "bool" | .int _ => "int" | .str _ => "str" | .lst _ => "list" | .tup _ => "tuple" | .fz _ => "list" | .kt _ => "" | .ob _ _ => "object" | .dk _ _ => "dict" | .dt _ _ => "dict"
def kits (t T : String) : Bool := t == T || (t == "bool" && T == "int")
def isT (T : String) : List D → Option D
  | [.kt _] => none
  | [.fz _] => none
  | [.dk _ _] => none
  | [.dt _ _] => none
  | [d] => some (.bl (kits d.ty T))
  | _ => none
def isC (c : Cl) : List D → Option D
  | [.ob c' _] => some (.bl (decide (c' = c)))
  | _ => none
def getF (f : Fl) : D → Option D
  | .ob c fs => if f ∈ c.fs then fs.lookup f else none
  | _ => none
section
variable {K : PySem.W.Frag} {ns : List Str}
theorem ii_inv {g : Int → Int → Option D} {L : Addr → Prop} {H : Hp} {x y : V} {a b d : D} (rx : Rd K ns L H x a) (ry : Rd K ns L H y b) (hf : ii g a b = some d) : ∃ i j, x = .int i ∧ y = .int j ∧ g i j = some d := by
  cases rx <;> first | (cases hf; done) | (cases ry <;> first | (cases hf; done) | skip)
  exact ⟨_, _, rfl, rfl, hf⟩
theorem r2_add : R2P K ns (rAddP K) addD := by
  intro L H x y a b d Q rx ry hf k
  unfold addD at hf
  split at hf
  · cases hf
    exact .inl (.inl ⟨_, _, rx.intI, ry.intI, k _ _ (Same.refl _) (.int _)⟩)
  · split at hf
    · cases hf
      rename_i h
      exact .inl (.inr (.inl ⟨_, _, rx.strI, ry.strI, Nat.le_trans h (by decide), k _ _ (Same.refl _) (.str _)⟩))
    · cases hf
  · split at hf
    · cases hf
      rename_i h
      obtain ⟨p1, v1, rfl, l1, e1, r1⟩ := rx.lstI
      obtain ⟨p2, v2, rfl, l2, e2, r2⟩ := ry.lstI
      refine .inl (.inr (.inr ⟨_, _, _, _, rfl, rfl, e1, e2, by rw [r1.len, r2.len]; exact Nat.le_trans h (by decide), fun p hp => k _ _ (same_new0 hp _) (.lst (.inr hp) upd_same ?_)⟩))
      exact (r1.append r2).mono (fun _ => .inl) (.of (same_new0 hp _))
    · cases hf
  · split at hf
    · cases hf
      rename_i h
      obtain ⟨p1, v1, rfl, e1, r1⟩ := rx.tupI
      obtain ⟨p2, v2, rfl, e2, r2⟩ := ry.tupI
      have hl : ∀ {n m : Nat}, n + m ≤ 1000000 → n + m ≤ sizeLine := fun q => Nat.le_trans q (by decide)
      cases r1 with
      | nil => exact .inr (.inr ⟨_, _, _, rfl, rfl, SqT.of e1, SqT.of e2, k _ _ (Same.refl _) (Rd.tup e2 r2).nw⟩)
      | cons h1 t1 =>
        have r1 := Rds.cons h1 t1
        refine .inr (.inl ⟨_, _, _, _, rfl, rfl, SqT.of e1, SqT.of e2, List.cons_ne_nil _ _, by rw [r1.len, r2.len]; exact hl h, fun z => ?_, fun _ p hp => k _ _ (same_new0 hp _) (.tup upd_same ((r1.append r2).mono (fun _ => .inl) (.of (same_new0 hp _))))⟩)
        subst z
        cases r2
        rw [List.append_nil] at k
        exact k _ _ (Same.refl _) (Rd.tup e1 r1).nw
    · cases hf
  · cases hf
def R2F (K : PySem.W.Frag) (ns : List Str) (r : R2) (g : D → D → Option D) : Prop := ∀ (L : Addr → Prop) (H : Hp) (x y : V) (a b d : D) (Q : VK), Rd K ns L H x a → Rd K ns L H y b → g a b = some d →
  (∀ p vs ds H', d = .lst ds → Same H H' → H p = none → H' p = some (.lst vs) → Rds K ns (fun a => Nw L H a ∧ a ≠ p) H' vs ds → Q (.ref p) H') → r x y H Q
theorem new_rds {L : Addr → Prop} {H : Hp} {p : Addr} {vs : List V} {ds : List D} {o : HO} (r : Rds K ns L H vs ds) (hp : H p = none) : Rds K ns (fun a => Nw L H a ∧ a ≠ p) (upd H p o) vs ds :=
  r.mono2 (fun a xs e q => ⟨.inl q, ne_of_none e hp⟩) (.of (same_new0 hp _))
theorem r2_cat : R2F K ns (rAddP K) catD := by
  intro L H x y a b d Q rx ry hf k
  cases rx <;> first | (cases hf; done) | (cases ry <;> first | (cases hf; done) | skip)
  rename_i l1 e1 r1 _ _ _ l2 e2 r2
  dsimp only [catD] at hf
  split at hf
  · cases hf
    rename_i h
    exact .inl (.inr (.inr ⟨_, _, _, _, rfl, rfl, e1, e2, by rw [r1.len, r2.len]; exact Nat.le_trans h (by decide), fun p hp => k _ _ _ _ rfl (same_new0 hp _) hp upd_same (new_rds (r1.append r2) hp)⟩))
  · cases hf
theorem pu_opF {r : R2} {g : D → D → Option D} {ta tb : TE} {fa fb : VF} (hr : R2F K ns r g) (ha : PuE K ns ta fa) (hb : PuE K ns tb fb) : PuF K ns (tOp r ta tb) (oD g fa fb) := by
  intro L env σ H Q d he hf k
  obtain ⟨a, ea, hf⟩ := bnd hf
  obtain ⟨b, eb, hf⟩ := bnd hf
  refine ha L env σ H _ a he ea fun x H1 S1 rx => hb (Nw L H) env σ H1 _ b (he.nw S1) eb fun y H2 S2 ry => ?_
  exact hr (Nw (Nw L H) H1) H2 x y a b d Q (rx.mono (fun _ => .inl) (.of S2)) ry hf fun p vs ds H3 e S3 hp h3 rv => k p vs ds H3 e (S1.trans (S2.trans S3)) (back S1 (back S2 hp)) h3 (rv.mono (fun q hq => ⟨nw2 S1 (nw2 S2 hq.1), hq.2⟩) .refl)
theorem r2_sub : R2P K ns rSubI subD := by
  intro L H x y a b d Q rx ry hf k
  obtain ⟨i, j, rfl, rfl, hf⟩ := ii_inv rx ry hf
  cases hf
  exact ⟨_, _, rfl, rfl, k _ _ (Same.refl _) (.int _)⟩
theorem r2_mul : R2P K ns rMulX mulD := by
  intro L H x y a b d Q rx ry hf k
  unfold mulD at hf
  split at hf
  · split at hf
    · cases hf
      rename_i h
      refine .inl ⟨_, _, rx.intI, ry.intI, ?_, k _ _ (Same.refl _) (.int _)⟩
      rcases h with h | h
      · exact IntMulOk.of_left (intBits_le_64 h.1 h.2)
      · exact IntMulOk.of_right (intBits_le_64 h.1 h.2)
    · cases hf
  · split at hf
    · cases hf
      rename_i h
      exact .inr (.inr ⟨_, _, rx.strI, ry.intI, h.1, h.2.1, h.2.2, k _ _ (Same.refl _) (.str _)⟩)
    · cases hf
  · cases hf
theorem r2_fdivC : R2P K ns rFdiv fdivC := by
  intro L H x y a b d Q rx ry hf k
  obtain ⟨i, j, rfl, rfl, hf⟩ := ii_inv rx ry hf
  split at hf
  · cases hf
    rename_i h
    exact ⟨_, _, rfl, rfl, h, k _ _ (Same.refl _) (.int _)⟩
  · cases hf
theorem r2_fdiv : R2P K ns rFdivB fdivD := by
  intro L H x y a b d Q rx ry hf k
  obtain ⟨i, j, rfl, rfl, hf⟩ := ii_inv rx ry hf
  split at hf
  · cases hf
    rename_i h
    refine ⟨_, _, rfl, rfl, ⟨by omega, Nat.le_trans (intBits_le_64 (by have := h.1; show (-18446744073709551616 : Int) < _; omega) h.2) (by decide)⟩, ?_⟩
    show Q (V.int (i.fdiv j)) H
    rw [Int.fdiv_eq_ediv_of_nonneg _ (by have := h.1; omega)]
    exact k _ _ (Same.refl _) (.int _)
  · cases hf
theorem r2_mod : R2P K ns rMod modD := by
  intro L H x y a b d Q rx ry hf k
  obtain ⟨i, j, rfl, rfl, hf⟩ := ii_inv rx ry hf
  split at hf
  · cases hf
    rename_i h
    exact ⟨_, _, rfl, rfl, h, k _ _ (Same.refl _) (.int _)⟩
  · cases hf
theorem r2_lt : R2P K ns rLt ltD := by
  intro L H x y a b d Q rx ry hf k
  obtain ⟨i, j, rfl, rfl, hf⟩ := ii_inv rx ry hf
  cases hf
  exact ⟨_, _, rfl, rfl, k _ _ (Same.refl _) (.bl _)⟩
theorem r2_le : R2P K ns rLe leD := by
  intro L H x y a b d Q rx ry hf k
  obtain ⟨i, j, rfl, rfl, hf⟩ := ii_inv rx ry hf
  cases hf
  exact ⟨_, _, rfl, rfl, k _ _ (Same.refl _) (.bl _)⟩
theorem r2_gt : R2P K ns rGt gtD := by
  intro L H x y a b d Q rx ry hf k
  obtain ⟨i, j, rfl, rfl, hf⟩ := ii_inv rx ry hf
  cases hf
  exact ⟨_, _, rfl, rfl, k _ _ (Same.refl _) (.bl _)⟩
theorem Rd.py {L : Addr → Prop} {H : Hp} {v : V} {d : D} {y : PyData} (r : Rd K ns L H v d) : toPy d = some y → RdD K H v y := Rd.rec (motive_1 := fun v d _ => ∀ y, toPy d = some y → RdD K H v y) (motive_2 := fun vs ds _ => ∀ ys, toPys ds = some ys → RdDs K H vs ys) (motive_3 := fun _ _ _ => True) (fun y e => by cases e; exact .non) (fun b y e => by cases e; exact .bl b) (fun i y e => by cases e; exact .int i) (fun x y e => by cases e; exact .str x) (fun h _ ih y e => by rw [toPy] at e; obtain ⟨z, ez, rfl⟩ := Option.map_eq_some_iff.mp e; exact .tup (SqT.of h) (ih z ez)) (fun h _ ih y e => by rw [toPy] at e; obtain ⟨z, ez, rfl⟩ := Option.map_eq_some_iff.mp e; exact .tup (SqT.kt h) (ih z ez)) (fun l h _ ih y e => by rw [toPy] at e; obtain ⟨z, ez, rfl⟩ := Option.map_eq_some_iff.mp e; exact .lst (SqL.of h) (ih z ez)) (fun h _ ih y e => by rw [toPy] at e; obtain ⟨z, ez, rfl⟩ := Option.map_eq_some_iff.mp e; exact .lst (SqL.fz h) (ih z ez)) (fun _ _ _ _ _ y e => by rw [toPy] at e; cases e) (fun _ _ _ _ y e => by rw [toPy] at e; cases e) (fun _ _ _ _ y e => by rw [toPy] at e; cases e) (fun ys e => by cases e; exact .nil) (fun _ _ ih it ys e => by rw [toPys] at e; obtain ⟨x, ex, e⟩ := bnd e; obtain ⟨z, ez, rfl⟩ := Option.map_eq_some_iff.mp e; exact .cons (ih x ex) (it z ez)) trivial (fun _ _ _ _ _ => trivial) r y
theorem eqX_ok {L : Addr → Prop} {H : Hp} {x y : V} {d e : D} {b : Bool} (rx : Rd K ns L H x d) (ry : Rd K ns L H y e) (h : eqX d e = some b) : ∃ p q, RdD K H x p ∧ RdD K H y q ∧ SeqAt.shaped p = true ∧ SeqAt.shaped q = true ∧ PyData.eqv p q = b := by
  obtain ⟨p, ep, h⟩ := bnd h
  obtain ⟨q, eq, h⟩ := bnd h
  split at h
  · rename_i hs
    exact ⟨p, q, rx.py ep, ry.py eq, hs.1, hs.2, Option.some.inj h⟩
  · cases h
theorem eqB_ok {L : Addr → Prop} {H : Hp} {x y : V} {a b : D} {c : Bool} (rx : Rd K ns L H x a) (ry : Rd K ns L H y b) (hc : eqB a b = some c) : (∃ i j : Int, x = .int i ∧ y = .int j ∧ c = decide (i = j)) ∨ (∃ i j : Str, x = .str i ∧ y = .str j ∧ c = decide (i = j)) ∨ (∃ i j : Bool, x = .bl i ∧ y = .bl j ∧ c = decide (i = j)) ∨ ∃ p q, RdD K H x p ∧ RdD K H y q ∧ SeqAt.shaped p = true ∧ SeqAt.shaped q = true ∧ PyData.eqv p q = c := by
  unfold eqB at hc
  split at hc
  · cases hc
    exact .inl ⟨_, _, rx.intI, ry.intI, rfl⟩
  · cases hc
    exact .inr (.inl ⟨_, _, rx.strI, ry.strI, rfl⟩)
  · cases hc
    exact .inr (.inr (.inl ⟨_, _, rx.blI, ry.blI, rfl⟩))
  · exact .inr (.inr (.inr (eqX_ok rx ry hc)))
theorem str_dec {i j : Str} : decide (V.str i = V.str j) = decide (i = j) := by simp
theorem bl_dec {i j : Bool} : decide (V.bl i = V.bl j) = decide (i = j) := by simp
theorem r2_eq : R2P K ns (rEqG K) eqD := by
  intro L H x y a b d Q rx ry hf k
  obtain ⟨c, hc, rfl⟩ := Option.map_eq_some_iff.mp hf
  rcases eqB_ok rx ry hc with ⟨i, j, rfl, rfl, rfl⟩ | ⟨i, j, rfl, rfl, rfl⟩ | ⟨i, j, rfl, rfl, rfl⟩ | ⟨p, q, r1, r2, s1, s2, rfl⟩
  · exact .inl ⟨_, _, rfl, rfl, k _ _ (Same.refl _) (.bl _)⟩
  · exact .inr (.inr (.inl ⟨rfl, by rw [str_dec]; exact k _ _ (Same.refl _) (.bl _)⟩))
  · exact .inr (.inr (.inl ⟨rfl, by rw [bl_dec]; exact k _ _ (Same.refl _) (.bl _)⟩))
  · exact .inr (.inr (.inr ⟨p, q, r1, r2, s1, s2, k _ _ (Same.refl _) (.bl _)⟩))
theorem r2_ne : R2P K ns (rNeG K) neD := by
  intro L H x y a b d Q rx ry hf k
  obtain ⟨c, hc, rfl⟩ := Option.map_eq_some_iff.mp hf
  rcases eqB_ok rx ry hc with ⟨i, j, rfl, rfl, rfl⟩ | ⟨i, j, rfl, rfl, rfl⟩ | ⟨i, j, rfl, rfl, rfl⟩ | ⟨p, q, r1, r2, s1, s2, rfl⟩
  · exact .inl ⟨_, _, rfl, rfl, k _ _ (Same.refl _) (.bl _)⟩
  · exact .inr (.inl ⟨rfl, by rw [str_dec]; exact k _ _ (Same.refl _) (.bl _)⟩)
  · exact .inr (.inl ⟨rfl, by rw [bl_dec]; exact k _ _ (Same.refl _) (.bl _)⟩)
  · exact .inr (.inr ⟨p, q, r1, r2, s1, s2, k _ _ (Same.refl _) (.bl _)⟩)
theorem isN_ok {L : Addr → Prop} {H : Hp} {x : V} {a : D} (r : Rd K ns L H x a) : decide (x = V.non) = a.isN := by cases r <;> rfl
theorem isB_ok {L : Addr → Prop} {H : Hp} {x : V} {a : D} {b : Bool} (r : Rd K ns L H x a) : decide (x = V.bl b) = a.isB b := by cases r <;> first | rfl | exact bl_dec
theorem r2_is : R2P K ns rIsP isD := by
  intro L H x y a b d Q rx ry hf k
  unfold isD at hf
  split at hf
  · cases hf
    cases ry
    exact .inl ⟨rfl, by rw [isN_ok rx]; exact k _ _ (Same.refl _) (.bl _)⟩
  · cases hf
    exact .inr ⟨_, ry.blI, by rw [isB_ok rx]; exact k _ _ (Same.refl _) (.bl _)⟩
  · cases hf
theorem seq_ok {L : Addr → Prop} {H : Hp} {x : V} {d : D} {xs : List D} (r : Rd K ns L H x d) (h : seqOf d = some xs) : ∃ p vs, x = .ref p ∧ (SqL K H p vs ∨ SqT K H p vs) ∧ Rds K ns L H vs xs := by
  cases r <;> first | (cases h; done) | skip
  · rename_i e r; cases h; exact ⟨_, _, rfl, .inr (SqT.of e), r⟩
  · rename_i e r; cases h; exact ⟨_, _, rfl, .inr (SqT.kt e), r⟩
  · rename_i l e r; cases h; exact ⟨_, _, rfl, .inl (SqL.of e), r⟩
  · rename_i e r; cases h; exact ⟨_, _, rfl, .inl (SqL.fz e), r⟩
theorem ix_get {α β : Type} {xs : List α} {ys : List β} {i : Int} {y : β} (hl : xs.length = ys.length) (h : atI ys i = some y) : ∃ j : Nat, ys[j]? = some y ∧ atI xs i = xs[j]? := by
  unfold atI at h ⊢
  obtain ⟨j, ej, e⟩ := bnd h
  rw [hl, ej]
  exact ⟨j, e, rfl⟩
theorem r2_ix : R2P K ns (rIx K) ixD := by
  intro L H x y a b d Q rx ry hf k
  unfold ixD at hf
  split at hf
  · cases rx; cases ry
    split at hf
    · rename_i z i h
      obtain ⟨c, hc, rfl⟩ := Option.map_eq_some_iff.mp hf
      exact .inr (.inr ⟨_, _, c, rfl, rfl, Nat.le_trans h (by decide), hc, k _ _ (Same.refl _) (.str _)⟩)
    · cases hf
  · cases ry
    obtain ⟨xs, es, hf⟩ := bnd hf
    obtain ⟨p, vs, rfl, sq, rs⟩ := seq_ok rx es
    obtain ⟨j, ej, e⟩ := ix_get rs.len hf
    obtain ⟨v, ev, rv⟩ := rs.get ej
    rcases sq with sq | sq
    · exact .inl ⟨p, vs, _, v, rfl, rfl, sq, e.trans ev, k _ _ (Same.refl _) rv.nw⟩
    · exact .inr (.inl ⟨p, vs, _, v, rfl, rfl, sq, e.trans ev, k _ _ (Same.refl _) rv.nw⟩)
  · cases hf
theorem un_neg' : UnP K ns rNeg negD := by
  intro L H x a d Q rx hf k
  cases rx <;> first | (cases hf; done) | skip
  cases hf
  exact ⟨_, rfl, k _ _ (Same.refl _) (.int _)⟩
theorem one_of {L : Addr → Prop} {H : Hp} {xs : List V} {d : D} (r : Rds K ns L H xs [d]) : ∃ x, xs = [x] ∧ Rd K ns L H x d := by
  cases r with
  | cons h t => cases t; exact ⟨_, rfl, h⟩
theorem two_of {L : Addr → Prop} {H : Hp} {xs : List V} {d e : D} (r : Rds K ns L H xs [d, e]) : ∃ x y, xs = [x, y] ∧ Rd K ns L H x d ∧ Rd K ns L H y e := by
  cases r with
  | cons h t => obtain ⟨y, rfl, q⟩ := one_of t; exact ⟨_, _, rfl, h, q⟩
theorem ca_abs : CaP K ns rAbs absD := by
  intro L H xs as d Q rx hf k
  unfold absD at hf
  split at hf
  · cases hf
    obtain ⟨x, rfl, r⟩ := one_of rx
    cases r
    exact ⟨_, rfl, k _ _ (Same.refl _) (.int _)⟩
  · cases hf
theorem ca_len : CaP K ns (rLen K) lenD := by
  intro L H xs as d Q rx hf k
  unfold lenD at hf
  split at hf
  · obtain ⟨x, rfl, r⟩ := one_of rx
    cases r
    split at hf
    · rename_i h
      cases hf
      exact .inr ⟨_, rfl, Nat.le_trans h (by decide), k _ _ (Same.refl _) (.int _)⟩
    · cases hf
  · obtain ⟨x, rfl, r⟩ := one_of rx
    obtain ⟨ys, ey, rfl⟩ := Option.map_eq_some_iff.mp hf
    obtain ⟨p, vs, rfl, sq, rs⟩ := seq_ok r ey
    have := k (.int vs.length) H (Same.refl _) (by rw [rs.len]; exact .int _)
    exact .inl ⟨p, vs, rfl, sq, this⟩
  · cases hf
theorem ca_max2 : CaP K ns rMax2 max2D := by
  intro L H xs as d Q rx hf k
  unfold max2D at hf
  split at hf
  · cases hf
    obtain ⟨x, y, rfl, r, r'⟩ := two_of rx
    cases r; cases r'
    exact ⟨_, _, rfl, k _ _ (Same.refl _) (.int _)⟩
  · cases hf
theorem bls_ok {L : Addr → Prop} {H : Hp} {vs : List V} {ds : List D} {bs : List Bool} (r : Rds K ns L H vs ds) (e : blS ds = some bs) : vs = bs.map V.bl := by
  induction vs generalizing ds bs with
  | nil => rw [r.nilL] at e; cases e; rfl
  | cons v vs ih =>
    obtain ⟨d, es, rfl, h, t⟩ := r.consL
    cases h <;> first | (cases e; done) | skip
    obtain ⟨z, ez, rfl⟩ := Option.map_eq_some_iff.mp e
    rw [ih t ez]
    rfl
theorem ins_ok {L : Addr → Prop} {H : Hp} {vs : List V} {ds : List D} {bs : List Int} (r : Rds K ns L H vs ds) (e : inS ds = some bs) : vs = bs.map V.int := by
  induction vs generalizing ds bs with
  | nil => rw [r.nilL] at e; cases e; rfl
  | cons v vs ih =>
    obtain ⟨d, es, rfl, h, t⟩ := r.consL
    cases h <;> first | (cases e; done) | skip
    obtain ⟨z, ez, rfl⟩ := Option.map_eq_some_iff.mp e
    rw [ih t ez]
    rfl
theorem ca_sum : CaP K ns (rSum K) sumD := by
  intro L H xs as d Q rx hf k
  unfold sumD at hf
  split at hf
  · obtain ⟨x, rfl, r⟩ := one_of rx
    obtain ⟨bs, eb, rfl⟩ := Option.map_eq_some_iff.mp hf
    cases r with
    | lst l e r => exact ⟨_, bs, rfl, by rw [← ins_ok r eb]; exact SqL.of e, k _ _ (Same.refl _) (.int _)⟩
  · cases hf
theorem ca_list : CaF K ns (rListOf K) listD := by
  intro L H xs as d Q rx hf k
  unfold listD at hf
  split at hf
  · obtain ⟨x, rfl, r⟩ := one_of rx
    obtain ⟨ys, ey, rfl⟩ := Option.map_eq_some_iff.mp hf
    obtain ⟨p, vs, rfl, sq, rs⟩ := seq_ok r ey
    exact ⟨p, vs, rfl, sq, fun l hl => k _ _ _ _ rfl (same_new0 hl _) hl upd_same (new_rds rs hl)⟩
  · cases hf
def PuO (K : PySem.W.Frag) (ns : List Str) (t : TO) (f : OF) : Prop := ∀ (L : Addr → Prop) (env : Env) (σ : St) (H : Hp) (Q : Option Int → Hp → Prop) (o : Option Int), EnvR K ns L env σ H → f env = some o → (∀ H', Same H H' → Q o H') → t σ H Q
theorem po_no : PuO K ns tNoPart noO := fun L env σ H Q o he hf k => by cases hf; exact k _ (Same.refl _)
theorem po_at {t : TE} {f : VF} (h : PuE K ns t f) : PuO K ns (tPart t) (atO f) := by
  intro L env σ H Q o he hf k
  obtain ⟨d, ed, hf⟩ := bnd hf
  refine h L env σ H _ d he ed fun v H1 S1 r => ?_
  cases r <;> first | (cases hf; done) | skip
  cases hf
  exact ⟨_, rfl, k _ S1⟩
theorem cut_rds {L : Addr → Prop} {H : Hp} {vs : List V} {ds : List D} (r : Rds K ns L H vs ds) (lo hi : Option Int) : Rds K ns L H (cutV vs lo hi) (cutD ds lo hi) := by
  unfold cutV cutD
  rw [r.len]
  exact (r.drop _).take _
theorem pu_sl {t : TE} {f : VF} {tl th : TO} {fl fh : OF} (h : PuE K ns t f) (hl : PuO K ns tl fl) (hh : PuO K ns th fh) : PuE K ns (tSl (rSlX K) t tl th) (slD slDD f fl fh) := by
  intro L env σ H Q d he hf k
  obtain ⟨a, ea, hf⟩ := bnd hf
  obtain ⟨lo, el, hf⟩ := bnd hf
  obtain ⟨hi, ehi, hf⟩ := bnd hf
  refine h L env σ H _ a he ea fun x H1 S1 rx => hl (Nw L H) env σ H1 _ lo (he.nw S1) el fun H2 S2 => hh (Nw L H) env σ H2 _ hi (he.nw (S1.trans S2)) ehi fun H3 S3 => ?_
  have S13 := S2.trans S3
  have rx3 := rx.same S13
  have SS := S1.trans S13
  have fin : ∀ {p : Addr} {o : HO} {a : Addr}, H3 p = none → Nw (Nw L H) H3 a → Nw L H a := fun {p o a} _ q => nw2 SS q
  cases rx3 with
  | str z =>
    dsimp only [slDD] at hf
    split at hf
    case isTrue hq =>
      cases hf
      exact .inr (.inr ⟨_, rfl, Nat.le_trans hq (by decide), k _ _ SS (.str _)⟩)
    case isFalse => cases hf
  | tup e r =>
    dsimp only [slDD] at hf
    split at hf
    case isTrue => cases hf
    case isFalse hn =>
      cases hf
      refine .inr (.inl ⟨_, _, rfl, SqT.of e, by rw [r.len]; exact hn, fun p hp => k _ _ (SS.trans (same_new0 hp _)) (.tup upd_same ((cut_rds r _ _).mono (fun _ q => q) (.of (same_new0 hp _))))⟩)
  | lst l e r =>
    cases hf
    exact .inl ⟨_, _, rfl, SqL.of e, fun p hp => k _ _ (SS.trans (same_new0 hp _)) (.lst (.inr (back SS hp)) upd_same ((cut_rds r _ _).mono (fun _ q => q) (.of (same_new0 hp _))))⟩
  | fz e r =>
    cases hf
    exact .inl ⟨_, _, rfl, SqL.fz e, fun p hp => k _ _ (SS.trans (same_new0 hp _)) (.lst (.inr (back SS hp)) upd_same ((cut_rds r _ _).mono (fun _ q => q) (.of (same_new0 hp _))))⟩
  | _ => cases hf
theorem rfs_get {L : Addr → Prop} {H : Hp} : ∀ {gs : List (Str × V)} {fs : List (Fl × D)} {f : Fl} {d : D}, Rfs K ns L H gs fs → fs.lookup f = some d → ∃ v, gs.lookup f.s = some v ∧ Rd K ns L H v d
  | _, _, _, _, .nil, e => by cases e
  | _, _, f, d, .cons (f := g) h r t, e => by
    rw [List.lookup_cons] at e
    by_cases q : f = g
    · subst q
      rw [beq_self_eq_true] at e
      cases e
      exact ⟨_, h, r⟩
    · rw [beq_eq_false_iff_ne.mpr q] at e
      exact rfs_get t e
theorem pu_fld {t : TE} {h : VF} (f : Fl) (p : PuE K ns t h) : PuE K ns (tFld K t f.s) (uD (getF f) h) := by
  intro L env σ H Q d he hf k
  obtain ⟨a, ea, hf⟩ := bnd hf
  refine p L env σ H _ a he ea fun x H1 S1 rx => ?_
  cases rx <;> first | (cases hf; done) | skip
  rename_i l e c r
  dsimp only [getF] at hf
  split at hf
  · rename_i hm
    obtain ⟨v, ev, rv⟩ := rfs_get r hf
    exact ⟨_, _, _, _, v, rfl, e, c.cls, c.na _ (List.mem_map_of_mem hm), ev, k _ _ S1 rv⟩
  · cases hf
end
end PD
namespace PD
open PySem L2
section
variable (K : PySem.W.Frag) (ns : List Str)
def ItP (J : It) (ds : List D) (L : Addr → Prop) (H1 : Hp) : Prop := ∀ (L2 : Addr → Prop) (i : Nat) (H : Hp), (∀ a o, H1 a = some o → L a → L2 a) → KeepL L2 H1 H →
  (∀ d, ds[i]? = some d → J.go i H ∧ ∀ x H', J.yld i H x H' → Same H H' ∧ Rd K ns (Nw L2 H) H' x d) ∧ (ds.length = i → J.stop i H)
def PuI (wi : TI) (f : AF) : Prop := ∀ (L : Addr → Prop) (env : Env) (σ : St) (H : Hp) (R : It → Hp → Prop) (ds : List D), EnvR K ns L env σ H → f env = some ds → (∀ J H', Same H H' → ItP K ns J ds (Nw L H) H' → R J H') → wi σ H R
end
def itemsD : D → Option (List D)
  | .lst xs => some xs
  | .fz xs => some xs
  | .tup xs => some xs
  | .kt xs => some xs
  | .str z => some (z.cps.toList.map fun c => .str ⟨#[c]⟩)
  | _ => none
def itD (f : VF) : AF := fun env => (f env).bind itemsD
def rng1D : List D → Option (List D)
  | [.int j] => if -1000000 < j ∧ j < 1000000 then some ((List.range j.toNat).map fun (i : Nat) => D.int (0 + (i : Int))) else none
  | _ => none
def iaD (g : List D → Option (List D)) (f : AF) : AF := fun env => (f env).bind g
def enumG (xs : List D) : List D := xs.mapIdx fun i d => .tup [.int i, d]
def enumD : List D → Option (List D)
  | [.lst xs] => some (enumG xs)
  | _ => none
def zipG (xs ys : List D) : List D := List.zipWith (fun a b => D.tup [a, b]) xs ys
def zipL : List D → Option (List D)
  | [.lst xs, .lst ys] => some (zipG xs ys)
  | _ => none
theorem zipL_inv {as ds : List D} (h : zipL as = some ds) : ∃ xs ys, as = [.lst xs, .lst ys] ∧ some (zipG xs ys) = some ds := by
  unfold zipL at h
  split at h
  · exact ⟨_, _, rfl, h⟩
  · cases h
def compD (fc : BF) (fe : VF) (caps : Env) : List D → Option (List D)
  | [] => some []
  | x :: xs => (fc (some x :: caps)).bind fun b => if b = true then (fe (some x :: caps)).bind fun y => (compD fc fe caps xs).map (y :: ·) else compD fc fe caps xs
def capsD (cap : List Nat) (env : Env) : Env := cap.map fun i => (env[i]?).join
def compF (fi : AF) (fc : BF) (fe : VF) (cap : List Nat) : VF := fun env => (fi env).bind fun ds => if ds.length < 1000000 then (compD fc fe (capsD cap env) ds).map .lst else none
section
variable {K : PySem.W.Frag} {ns : List Str}
theorem it_list {L : Addr → Prop} {H1 : Hp} {a : Addr} {vs : List V} {ds : List D} (l : L a) (e : H1 a = some (.lst vs)) (r : Rds K ns L H1 vs ds) : ItP K ns (Itl K a) ds L H1 := by
  intro L2 i H hL hk
  have l2 := hL _ _ e l
  have e2 := hk _ _ e fun _ => l2
  have r2 := r.mono2 hL (H' := H) (fun b o eb hb => hk b o eb fun z => hL _ _ eb (hb z))
  refine ⟨fun d hd => ?_, fun hi => ⟨vs, SqL.of e2, by rw [r.len]; omega⟩⟩
  obtain ⟨v, ev, rv⟩ := r2.get hd
  refine ⟨⟨vs, v, SqL.of e2, ev⟩, fun x H' y => ?_⟩
  obtain ⟨rfl, y⟩ := y
  have := y _ (SqL.of e2)
  rw [ev] at this
  cases this
  exact ⟨Same.refl _, rv.nw⟩
theorem it_fz {L : Addr → Prop} {H1 : Hp} {a : Addr} {vs : List V} {ds : List D} (e : FZ K H1 a vs) (r : Rds K ns L H1 vs ds) : ItP K ns (Itl K a) ds L H1 := by
  intro L2 i H hL hk
  have e2 := e.mono hk
  have r2 := r.mono2 hL (H' := H) (fun b o eb hb => hk b o eb fun z => hL _ _ eb (hb z))
  refine ⟨fun d hd => ?_, fun hi => ⟨vs, SqL.fz e2, by rw [r.len]; omega⟩⟩
  obtain ⟨v, ev, rv⟩ := r2.get hd
  refine ⟨⟨vs, v, SqL.fz e2, ev⟩, fun x H' y => ?_⟩
  obtain ⟨rfl, y⟩ := y
  have := y _ (SqL.fz e2)
  rw [ev] at this
  cases this
  exact ⟨Same.refl _, rv.nw⟩
theorem it_tup {L : Addr → Prop} {H1 : Hp} {a : Addr} {vs : List V} {ds : List D} (e : ∀ H, KeepL (fun _ => True) H1 H → SqT K H a vs) (e' : ∀ L2 H, KeepL L2 H1 H → SqT K H a vs) (r : Rds K ns L H1 vs ds) : ItP K ns (Itt K a) ds L H1 := by
  intro L2 i H hL hk
  have e2 := e' L2 H hk
  have r2 := r.mono2 hL (H' := H) (fun b o eb hb => hk b o eb fun z => hL _ _ eb (hb z))
  refine ⟨fun d hd => ?_, fun hi => ⟨vs, e2, by rw [r.len]; omega⟩⟩
  obtain ⟨v, ev, rv⟩ := r2.get hd
  refine ⟨⟨vs, v, e2, ev⟩, fun x H' y => ?_⟩
  obtain ⟨rfl, y⟩ := y
  have := y _ e2
  rw [ev] at this
  cases this
  exact ⟨Same.refl _, rv.nw⟩
theorem it_str {L : Addr → Prop} {H1 : Hp} {z : Str} : ItP K ns (Its z) (z.cps.toList.map fun c => .str ⟨#[c]⟩) L H1 := by
  intro L2 i H hL hk
  refine ⟨fun d hd => ?_, fun hi => by show i = z.cps.size; rw [← hi, List.length_map, Array.length_toList]⟩
  rw [List.getElem?_map] at hd
  obtain ⟨c, hc, rfl⟩ := Option.map_eq_some_iff.mp hd
  have hl := (List.getElem?_eq_some_iff.mp hc).1
  refine ⟨by show i < z.cps.size; simpa using hl, fun x H' y => ?_⟩
  obtain ⟨rfl, c', hc', rfl⟩ := y
  rw [hc] at hc'
  cases hc'
  exact ⟨Same.refl _, .str _⟩
theorem pi_any {t : TE} {f : VF} (h : PuE K ns t f) : PuI K ns (fun σ H R => iList K t σ H R ∨ (iTup K t σ H R ∨ iStr t σ H R)) (itD f) := by
  intro L env σ H R ds he hf k
  obtain ⟨d, ed, hf⟩ := bnd hf
  cases d <;> first | (cases hf; done) | skip
  · refine .inr (.inr (h L env σ H _ _ he ed fun v H1 S1 r => ?_))
    cases hf
    cases r
    exact ⟨_, rfl, k _ _ S1 it_str⟩
  · refine .inr (.inl (h L env σ H _ _ he ed fun v H1 S1 r => ?_))
    cases hf
    cases r with
    | tup e r => exact ⟨_, rfl, ⟨_, SqT.of e⟩, k _ _ S1 (it_tup (fun H hk => SqT.of (hk _ _ e fun z => by cases z)) (fun L2 H hk => SqT.of (hk _ _ e fun z => by cases z)) r)⟩
  · refine .inr (.inl (h L env σ H _ _ he ed fun v H1 S1 r => ?_))
    cases hf
    cases r with
    | kt e r => exact ⟨_, rfl, ⟨_, SqT.kt e⟩, k _ _ S1 (it_tup (fun H hk => SqT.kt e) (fun L2 H hk => SqT.kt e) r)⟩
  · refine .inl (h L env σ H _ _ he ed fun v H1 S1 r => ?_)
    cases hf
    cases r with
    | lst l e r => exact ⟨_, rfl, ⟨_, SqL.of e⟩, k _ _ S1 (it_list l e r)⟩
  · refine .inl (h L env σ H _ _ he ed fun v H1 S1 r => ?_)
    cases hf
    cases r with
    | fz e r => exact ⟨_, rfl, ⟨_, SqL.fz e⟩, k _ _ S1 (it_fz e r)⟩
theorem it_rng {L : Addr → Prop} {H1 : Hp} {lo : Int} {n : Nat} : ItP K ns (Itr lo n) ((List.range n).map fun (k : Nat) => D.int (lo + (k : Int))) L H1 := by
  intro L2 i H hL hk
  refine ⟨fun d hd => ?_, fun hi => by show n ≤ i; rw [← hi]; simp⟩
  rw [List.getElem?_map] at hd
  obtain ⟨c, hc, rfl⟩ := Option.map_eq_some_iff.mp hd
  obtain ⟨hl, hc⟩ := List.getElem?_eq_some_iff.mp hc
  rw [List.getElem_range] at hc
  subst hc
  refine ⟨by show i < n; simpa using hl, fun x H' y => ?_⟩
  obtain ⟨rfl, rfl⟩ := y
  exact ⟨Same.refl _, .int _⟩
theorem pi_rng1 {n : Nat} {t : TA} {f : AF} (h : PuA K ns n t f) : PuI K ns (iRng1 t) (iaD rng1D f) := by
  intro L env σ H R ds he hf k
  obtain ⟨as, ea, hf⟩ := bnd hf
  refine h L env σ H _ as he ea fun vs H1 _ S1 r => ?_
  unfold rng1D at hf
  split at hf
  · obtain ⟨x, rfl, q⟩ := one_of r
    cases q
    split at hf
    · rename_i hb
      cases hf
      exact ⟨_, rfl, by have := hb.1; omega, by have := hb.2; omega, k _ _ S1 it_rng⟩
    · cases hf
  · cases hf
theorem pi_zipL {n : Nat} {t : TA} {f : AF} (h : PuA K ns n t f) : PuI K ns (iZip K t) (iaD zipL f) := by
  intro L env σ H R ds he hf k
  obtain ⟨as, ea, hf⟩ := bnd hf
  obtain ⟨xs, ys, rfl, hf⟩ := zipL_inv hf
  refine (h L env σ H _ _ he ea fun vs H1 _ S1 r => ?_)
  obtain ⟨x, y, rfl, q, q'⟩ := two_of r
  clear r
  cases hf
  cases q with
  | @lst p us _ l e r =>
    cases q' with
    | @lst p' us' _ l' e' r' =>
      refine ⟨_, _, _, _, rfl, SqL.of e, SqL.of e', k _ _ S1 ?_⟩
      intro L2 i H hL hk
      have l2 := hL _ _ e l
      have e2 := hk _ _ e fun _ => l2
      have l2' := hL _ _ e' l'
      have e2' := hk _ _ e' fun _ => l2'
      have kk : KeepL _ H1 H := fun b o eb hb => hk b o eb fun z => hL _ _ eb (hb z)
      have r2 := r.mono2 hL kk
      have r2' := r'.mono2 hL kk
      refine ⟨fun d hd => ?_, fun hi => ⟨us, us', SqL.of e2, SqL.of e2', by unfold zipG at hi; rw [List.length_zipWith] at hi; rw [r.len, r'.len]; omega⟩⟩
      unfold zipG at hd
      rw [List.getElem?_zipWith] at hd
      cases hx : xs[i]? with
      | none => rw [hx] at hd; cases hd
      | some c =>
        cases hy : ys[i]? with
        | none => rw [hx, hy] at hd; cases hd
        | some c' =>
          rw [hx, hy] at hd
          cases hd
          obtain ⟨v, ev, rv⟩ := r2.get hx
          obtain ⟨v', ev', rv'⟩ := r2'.get hy
          refine ⟨⟨us, us', SqL.of e2, SqL.of e2', (List.getElem?_eq_some_iff.mp ev).1, (List.getElem?_eq_some_iff.mp ev').1⟩, fun x H' y => ?_⟩
          obtain ⟨T, a, b, hT, rfl, rfl, y, y'⟩ := y
          have h1 := y _ (SqL.of e2)
          have h2 := y' _ (SqL.of e2')
          rw [ev] at h1
          rw [ev'] at h2
          cases h1
          cases h2
          have N := same_new0 hT (.tup [v, v'])
          exact ⟨N, .tup upd_same (.cons (rv.nw.same N) (.cons (rv'.nw.same N) .nil))⟩
theorem caps_ok {L : Addr → Prop} {env : Env} {σ : St} {H : Hp} {x : V} {d : D} {cap : List Nat} (he : EnvR K ns L env σ H) (hx : Rd K ns L H x d) : EnvR K ns L (some d :: capsD cap env) (inSt cap (some x) σ) H := by
  intro i d' e
  cases i with
  | zero => cases e; exact ⟨x, rfl, hx⟩
  | succ i =>
    have e' : (capsD cap env)[i]? = some (some d') := e
    unfold capsD at e'
    rw [List.getElem?_map] at e'
    obtain ⟨c, hc, e'⟩ := Option.map_eq_some_iff.mp e'
    cases q : env[c]? with
    | none => rw [q] at e'; cases e'
    | some o =>
      rw [q] at e'
      have e2 : o = some d' := e'
      subst e2
      obtain ⟨v, hv, r⟩ := he c d' q
      refine ⟨v, ?_, r⟩
      show (cap.map fun i => (σ[i]?).join)[i]? = _
      rw [List.getElem?_map, hc]
      show some ((σ[c]?).join) = _
      rw [hv]
      rfl
theorem EnvR.mono2 {L L' : Addr → Prop} {env : Env} {σ : St} {H H' : Hp} (h : EnvR K ns L env σ H) (hL : ∀ a o, H a = some o → L a → L' a) (hk : KeepL L H H') : EnvR K ns L' env σ H' := fun i d e => by
  obtain ⟨v, q, r⟩ := h i d e
  exact ⟨v, q, r.mono2 hL hk⟩
abbrev Lx (L : Addr → Prop) (H : Hp) (acc : Addr) : Addr → Prop := fun a => Nw L H a ∧ a ≠ acc
theorem pu_comp {wi : TI} {tc : TT} {te : TE} {fi : AF} {fc : BF} {fe : VF} {cap : List Nat} (hi : PuI K ns wi fi) (hc : PuT K ns tc fc) (he : PuE K ns te fe) : PuF K ns (tComp wi tc te cap) (compF fi fc fe cap) := by
  intro L env σ H Q d hE hf k
  obtain ⟨ds, ei, hf⟩ := bnd hf
  split at hf
  case isFalse => cases hf
  rename_i hn
  obtain ⟨out, eo, rfl⟩ := Option.map_eq_some_iff.mp hf
  refine hi L env σ H _ ds hE ei fun J H1 S1 it => ?_
  intro acc ha
  have hacc : H acc = none := back S1 ha
  have E1 : EnvR K ns (Lx L H acc) env σ H1 := (hE.mono2 (L' := Lx L H acc) (fun a o e l => ⟨.inl l, ne_of_none e hacc⟩) .refl).same S1
  refine ⟨fun i m H2 => m = ds.length - i ∧ i ≤ ds.length ∧ Same H1 H2 ∧ ∃ ys dn rest, H2 acc = some (.lst ys) ∧ Rds K ns (Lx L H acc) H2 ys dn ∧ ys.length ≤ i ∧ compD fc fe (capsD cap env) (ds.drop i) = some rest ∧ dn ++ rest = out, ⟨_, rfl, Nat.zero_le _, same_new0 ha _, [], [], out, upd_same, .nil, Nat.le_refl _, by rw [List.drop_zero]; exact eo, rfl⟩, ?_⟩
  rintro i m H2 ⟨rfl, hle, S2, ys, dn, rest, ea, rd, hy, ec, ed⟩
  obtain ⟨go, stop⟩ := it (Lx L H acc) i H2 (fun a o e l => ⟨l, ne_of_none e ha⟩) (.of S2)
  by_cases hlt : i < ds.length
  · obtain ⟨g, yl⟩ := go ds[i] (List.getElem?_eq_getElem hlt)
    refine .inr ⟨g, fun x H3 y => ?_⟩
    obtain ⟨S3, rx⟩ := yl x H3 y
    have ea3 := S3 _ _ ea
    have E3 : EnvR K ns (Lx L H acc) (some ds[i] :: capsD cap env) (inSt cap (some x) σ) H3 := caps_ok ((E1.same S2).same S3) (rx.mono2 (fun a o e l => by
      rcases l with l | l
      · exact l
      · exact ⟨.inr (back (S1.trans S2) l), fun z => by rw [z, ea] at l; cases l⟩) .refl)
    rw [List.drop_eq_getElem_cons hlt] at ec
    obtain ⟨b, eb, ec⟩ := bnd ec
    refine hc _ _ _ _ _ b E3 eb fun H4 S4 => ?_
    have ea4 := S4 _ _ ea3
    cases b with
    | false =>
      rw [if_neg Bool.false_ne_true] at ec ⊢
      exact ⟨ds.length - (i + 1), by omega, rfl, hlt, S2.trans (S3.trans S4), ys, dn, rest, ea4, rd.same (S3.trans S4), by omega, ec, ed⟩
    | true =>
      rw [if_pos rfl] at ec ⊢
      obtain ⟨y, ey, ec⟩ := bnd ec
      obtain ⟨rest', er, rfl⟩ := Option.map_eq_some_iff.mp ec
      refine he _ _ _ _ _ y (E3.same S4) ey fun v H5 S5 rv => ?_
      have ea5 := S5 _ _ ea4
      have SS := S3.trans (S4.trans S5)
      have up : ∀ {L3 : Addr → Prop}, ¬ L3 acc → KeepL L3 H5 (upd H5 acc (.lst (ys ++ [v]))) := fun {L3} hl a o e hm => by
        by_cases z : a = acc
        · subst z
          rw [ea5] at e
          cases e
          exact absurd (hm rfl) hl
        · rw [upd_ne z]; exact e
      have rv2 : Rd K ns (Lx L H acc) H5 v y := rv.mono2 (fun a o e l => by
        rcases l with l | l
        · exact l
        · exact ⟨.inr (back (S1.trans (S2.trans (S3.trans S4))) l), fun z => by rw [z, ea4] at l; cases l⟩) .refl
      refine ⟨ys, ea5, Nat.lt_of_le_of_lt hy (Nat.lt_trans hlt (Nat.lt_trans hn (by decide))), ds.length - (i + 1), by omega, rfl, hlt, fun a o e => ?_, ys ++ [v], dn ++ [y], rest', upd_same, ?_, ?_, er, by rw [← ed]; simp⟩
      · rw [upd_ne (ne_of_none e ha)]
        exact SS _ _ (S2 _ _ e)
      · exact ((rd.same SS).append (.cons rv2 .nil)).mono (fun _ q => q) (up fun q => q.2 rfl)
      · rw [List.length_append, List.length_singleton]; omega
  · have hi' : ds.length = i := by omega
    refine .inl ⟨stop hi', ?_⟩
    rw [List.drop_of_length_le (by omega)] at ec
    cases ec
    rw [List.append_nil] at ed
    subst ed
    exact k acc ys dn H2 rfl (S1.trans S2) hacc ea rd
end
end PD
namespace PD
open PySem L2
inductive Out where
  | nx (e : Env) | rt (d : D) | bk (e : Env) | ct (e : Env)
abbrev SF := Env → Option Out
def seqS (F G : SF) : SF := fun env => (F env).bind fun | .nx e => G e | o => some o
def nxS : SF := fun env => some (.nx env)
def retS (f : VF) : SF := fun env => (f env).bind fun d => some (.rt d)
def ifS (c : BF) (F G : SF) : SF := fun env => (c env).bind fun x => if x = true then F env else G env
def maskD (fl : List Bool) (env : Env) : Env := List.zipWith (fun b o => if b = true then none else o) fl env
abbrev mk (fl : List Bool) {α : Type} (f : Env → α) : Env → α := fun env => f (maskD fl env)
def setS (i : Nat) (f : VF) : SF := fun env => (f env).bind fun d => some (.nx (env.set i (some d)))
def ownAt (i : Nat) (env : Env) : Option (List D) := (env[i]?).join.bind fun | .lst xs => some xs | _ => none
def appS (i : Nat) (f : VF) : SF := fun env => (f env).bind fun d => (ownAt i env).bind fun xs => if xs.length < 1000000 then some (.nx (env.set i (some (.lst (xs ++ [d]))))) else none
def appW (i : Nat) (f : VF) : SF := fun env => (f env).bind fun d => if d.flat = true then (ownAt i env).bind fun xs => if xs.length < 1000000 then some (.nx (env.set i (some (.lst (xs ++ [d]))))) else none else none
abbrev GF := D → Env → Option Env
def nmG (i : Nat) : GF := fun d env => some (env.set i (some d))
def setsG : List Nat → List D → Env → Option Env
  | [], [], env => some env
  | i :: is, d :: ds, env => setsG is ds (env.set i (some d))
  | _, _, _ => none
def tupG (is : List Nat) : GF := fun d env => match d with
  | .tup ds => setsG is ds env
  | .kt ds => setsG is ds env
  | _ => none
def asgS (f : VF) (g : GF) : SF := fun env => (f env).bind fun d => (g d env).bind fun e => some (.nx e)
def forD (g : GF) (b : SF) : List D → SF
  | [], env => some (.nx env)
  | x :: xs, env => (g x env).bind fun e => (b e).bind fun
    | .nx e => forD g b xs e
    | .ct e => forD g b xs e
    | .bk e => some (.nx e)
    | .rt d => some (.rt d)
def forS (fi : AF) (g : GF) (b : SF) : SF := fun env => (fi env).bind fun ds => forD g b ds env
def whN (c : BF) (b : SF) : Nat → SF
  | 0, _ => none
  | n + 1, env => (c env).bind fun x => if x = true then (b env).bind fun
    | .nx e => whN c b n e
    | .ct e => whN c b n e
    | .bk e => some (.nx e)
    | .rt d => some (.rt d)
    else some (.nx env)
def whS (c : BF) (b : SF) : SF := whN c b 1000000
theorem whN_up {c : BF} {b : SF} : ∀ {n m : Nat} {env : Env} {o : Out}, whN c b n env = some o → n ≤ m → whN c b m env = some o
  | 0, _, _, _, h, _ => by cases h
  | n + 1, 0, _, _, _, hm => by omega
  | n + 1, m + 1, env, o, h, hm => by
    rw [whN] at h ⊢
    obtain ⟨x, ex, h⟩ := bnd h
    rw [ex]
    show (if x = true then _ else _) = _
    cases x with
    | false => exact h
    | true =>
      rw [if_pos rfl] at h ⊢
      obtain ⟨r, er, h⟩ := bnd h
      rw [er]
      cases r with
      | nx e => exact whN_up (n := n) (m := m) h (by omega)
      | ct e => exact whN_up (n := n) (m := m) h (by omega)
      | bk e => exact h
      | rt d => exact h
theorem whS_of {c : BF} {b : SF} {n : Nat} {env : Env} {o : Out} (h : whN c b n env = some o) (hn : n ≤ 1000000 := by omega) : whS c b env = some o := whN_up h hn
section
variable (K : PySem.W.Frag) (ns : List Str)
abbrev Lm (L0 : Addr → Prop) (H0 : Hp) (O : List (Option Addr)) : Addr → Prop := fun a => Nw L0 H0 a ∧ some a ∉ O
structure Iv (fl : List Bool) (L0 : Addr → Prop) (H0 : Hp) (O : List (Option Addr)) (env : Env) (σ : St) (H : Hp) : Prop where
  sm : Same H0 H
  fl : O.map Option.isSome = fl
  ln : σ.length = O.length
  le : env.length = O.length
  rd : ∀ (i : Nat) (d : D), env[i]? = some (some d) → O[i]? = some none → ∃ v, σ[i]? = some (some v) ∧ Rd K ns (Lm L0 H0 O) H v d
  ow : ∀ (i : Nat) (p : Addr), O[i]? = some (some p) → H0 p = none ∧ σ[i]? = some (some (.ref p)) ∧ ∃ o d, env[i]? = some (some d) ∧ H p = some o ∧ RdO K ns (Lm L0 H0 O) H o d
  inj : ∀ (i j : Nat) (p : Addr), O[i]? = some (some p) → O[j]? = some (some p) → i = j
structure Step (O : List (Option Addr)) (H : Hp) (O' : List (Option Addr)) (H' : Hp) : Prop where
  ow : ∀ p, some p ∈ O' → some p ∈ O ∨ H p = none
  kp : ∀ a o, H a = some o → some a ∉ O → H' a = some o
  dm : ∀ a, H' a = none → H a = none
def Res (fr : Bool) (L0 : Addr → Prop) (H0 H' : Hp) (v : V) (d : D) : Prop :=
  if fr = true then ∃ p us ds, v = .ref p ∧ d = .lst ds ∧ H0 p = none ∧ H' p = some (.lst us) ∧ Rds K ns (fun a => Nw L0 H0 a ∧ a ≠ p) H' us ds else Rd K ns (Nw L0 H0) H' v d
def Fin (fr : Bool) (lf fl : List Bool) (L0 : Addr → Prop) (H0 : Hp) (O : List (Option Addr)) (H : Hp) (E : Ends) : Option Out → Prop
  | some (.nx e) => ∀ O' σ' H', Step O H O' H' → Iv K ns fl L0 H0 O' e σ' H' → E.nx σ' H'
  | some (.bk e) => ∀ O' σ' H', Step O H O' H' → Iv K ns lf L0 H0 O' e σ' H' → E.bk σ' H'
  | some (.ct e) => ∀ O' σ' H', Step O H O' H' → Iv K ns lf L0 H0 O' e σ' H' → E.ct σ' H'
  | some (.rt d) => ∀ v H', Same H0 H' → Res K ns fr L0 H0 H' v d → E.rt v H'
  | none => False
def PuS (fr : Bool) (lf fl : List Bool) (t : TS) (F : SF) (fl' : List Bool) : Prop := ∀ (L0 : Addr → Prop) (H0 : Hp) (O : List (Option Addr)) (env : Env) (σ : St) (H : Hp) (E : Ends), Iv K ns fl L0 H0 O env σ H → Fin K ns fr lf fl' L0 H0 O H E (F env) → t E σ H
def PuG (fl : List Bool) (g : TG) (G : GF) : Prop := ∀ (L0 : Addr → Prop) (H0 : Hp) (O : List (Option Addr)) (env e : Env) (σ : St) (H : Hp) (x : V) (d : D) (Q : St → Hp → Prop), Iv K ns fl L0 H0 O env σ H → Rd K ns (Lm L0 H0 O) H x d → G d env = some e → (∀ σ', Iv K ns fl L0 H0 O e σ' H → Q σ' H) → g x σ H Q
end
section
variable {K : PySem.W.Frag} {ns : List Str} {fr : Bool} {lf fl fl' fl'' : List Bool} {L0 : Addr → Prop} {H0 H H' H'' : Hp} {O O' O'' : List (Option Addr)} {env : Env} {σ : St}
theorem Step.refl : Step O H O H := ⟨fun _ h => .inl h, fun _ _ e _ => e, fun _ h => h⟩
theorem Step.trans (a : Step O H O' H') (b : Step O' H' O'' H'') : Step O H O'' H'' where
  ow p h := by
    rcases b.ow p h with h | h
    · exact a.ow p h
    · exact .inr (a.dm _ h)
  kp c o e h := b.kp c o (a.kp c o e h) fun q => by
    rcases a.ow c q with q | q
    · exact h q
    · rw [e] at q; cases q
  dm c h := a.dm c (b.dm c h)
theorem Step.same (S : Same H H') : Step O H O H' := ⟨fun _ h => .inl h, fun _ _ e _ => S _ _ e, fun _ h => back S h⟩
theorem Iv.same (I : Iv K ns fl L0 H0 O env σ H) (S : Same H H') : Iv K ns fl L0 H0 O env σ H' where
  sm := I.sm.trans S
  fl := I.fl
  ln := I.ln
  le := I.le
  rd i d e h := by
    obtain ⟨v, q, r⟩ := I.rd i d e h
    exact ⟨v, q, r.same S⟩
  ow i p h := by
    obtain ⟨h0, q, vs, ds, e, hp, r⟩ := I.ow i p h
    exact ⟨h0, q, vs, ds, e, S _ _ hp, r.same S⟩
  inj := I.inj
theorem Iv.own_in (I : Iv K ns fl L0 H0 O env σ H) {p : Addr} (h : some p ∈ O) : ∃ o, H p = some o ∧ isMut o = true := by
  obtain ⟨i, hi, e⟩ := List.getElem_of_mem h
  obtain ⟨_, _, vs, _, _, hp, hr⟩ := I.ow i p (by rw [List.getElem?_eq_getElem hi, e])
  exact ⟨vs, hp, hr.mut⟩
theorem Iv.new_m (I : Iv K ns fl L0 H0 O env σ H) {a : Addr} (h : H a = none) : Lm L0 H0 O a := ⟨.inr (back I.sm h), fun q => by
  obtain ⟨vs, e, _⟩ := I.own_in q
  rw [h] at e
  cases e⟩
theorem Iv.nwm (I : Iv K ns fl L0 H0 O env σ H) {a : Addr} (h : Nw (Lm L0 H0 O) H a) : Lm L0 H0 O a := h.elim id I.new_m
theorem Iv.weak (I : Iv K ns fl L0 H0 O env σ H) : EnvR K ns (Nw L0 H0) env σ H := fun i d e => by
  have hi : i < O.length := by rw [← I.le]; exact (List.getElem?_eq_some_iff.mp e).1
  cases q : O[i]? with
  | none => rw [List.getElem?_eq_getElem hi] at q; cases q
  | some o =>
    cases o with
    | none =>
      obtain ⟨v, hv, r⟩ := I.rd i d e q
      exact ⟨v, hv, r.mono (fun _ z => z.1) .refl⟩
    | some p =>
      obtain ⟨h0, hs, vs, ds, e', hp, r⟩ := I.ow i p q
      rw [e] at e'
      cases e'
      exact ⟨_, hs, (r.mono (fun _ z => z.1) .refl).rd (.inr h0) hp⟩
theorem mask_get {i : Nat} {d : D} (h : (maskD fl env)[i]? = some (some d)) : fl[i]? = some false ∧ env[i]? = some (some d) := by
  unfold maskD at h
  rw [List.getElem?_zipWith] at h
  cases e1 : fl[i]? with
  | none => rw [e1] at h; cases h
  | some b =>
    cases e2 : env[i]? with
    | none => rw [e1, e2] at h; cases h
    | some o =>
      rw [e1, e2] at h
      cases b with
      | true => cases h
      | false => exact ⟨rfl, by cases h; rfl⟩
theorem Iv.flag (I : Iv K ns fl L0 H0 O env σ H) {i : Nat} {b : Bool} (h : fl[i]? = some b) : ∃ o, O[i]? = some o ∧ o.isSome = b := by
  rw [← I.fl, List.getElem?_map] at h
  obtain ⟨o, ho, e⟩ := Option.map_eq_some_iff.mp h
  exact ⟨o, ho, e⟩
theorem Iv.free (I : Iv K ns fl L0 H0 O env σ H) {i : Nat} (h : fl[i]? = some false) : O[i]? = some none := by
  obtain ⟨o, ho, e⟩ := I.flag h
  cases o with
  | none => exact ho
  | some p => cases e
theorem Iv.owned (I : Iv K ns fl L0 H0 O env σ H) {i : Nat} (h : fl[i]? = some true) : ∃ p, O[i]? = some (some p) := by
  obtain ⟨o, ho, e⟩ := I.flag h
  cases o with
  | none => cases e
  | some p => exact ⟨p, ho⟩
theorem Iv.strict (I : Iv K ns fl L0 H0 O env σ H) : EnvR K ns (Lm L0 H0 O) (maskD fl env) σ H := fun i d e => by
  obtain ⟨h1, h2⟩ := mask_get e
  exact I.rd i d h2 (I.free h1)
theorem mem_set_none {i : Nat} {a : Addr} (h : some a ∈ O.set i none) : some a ∈ O := by
  rcases List.mem_or_eq_of_mem_set h with q | q
  · exact q
  · cases q
theorem Iv.store (I : Iv K ns fl L0 H0 O env σ H) {i : Nat} {v : V} {d : D} (r : Rd K ns (Lm L0 H0 O) H v d) : Iv K ns (fl.set i false) L0 H0 (O.set i none) (env.set i (some d)) (σ.set i (some v)) H := by
  have up : ∀ a, Lm L0 H0 O a → Lm L0 H0 (O.set i none) a := fun a h => ⟨h.1, fun q => h.2 (mem_set_none q)⟩
  refine ⟨I.sm, by rw [← I.fl, List.map_set]; rfl, by simp [I.ln], by simp [I.le], fun j d' e h => ?_, fun j p h => ?_, fun j k p h1 h2 => ?_⟩
  · rw [List.getElem?_set] at e
    rw [List.getElem?_set]
    split at e
    · rename_i z
      rw [if_pos z]
      split at e
      · rename_i hl
        cases e
        rw [if_pos (by rw [I.ln, ← I.le]; exact hl)]
        exact ⟨v, rfl, r.mono up .refl⟩
      · cases e
    · rename_i z
      rw [if_neg z]
      rw [List.getElem?_set, if_neg z] at h
      obtain ⟨v', q, r'⟩ := I.rd j d' e h
      exact ⟨v', q, r'.mono up .refl⟩
  · rw [List.getElem?_set] at h
    split at h
    · split at h <;> cases h
    · rename_i z
      obtain ⟨h0, hs, vs, ds, e, hp, r'⟩ := I.ow j p h
      exact ⟨h0, by rw [List.getElem?_set, if_neg z]; exact hs, vs, ds, by rw [List.getElem?_set, if_neg z]; exact e, hp, r'.mono up .refl⟩
  · rw [List.getElem?_set] at h1 h2
    split at h1
    · split at h1 <;> cases h1
    · split at h2
      · split at h2 <;> cases h2
      · exact I.inj j k p h1 h2
theorem Step.give (i : Nat) : Step O H (O.set i none) H := ⟨fun _ h => .inl (mem_set_none h), fun _ _ e _ => e, fun _ h => h⟩
theorem Iv.takeO (I : Iv K ns fl L0 H0 O env σ H) {i : Nat} {p : Addr} {vs : HO} {ds : D} (S : Same H H') (hp : H p = none) (e : H' p = some vs) (r : RdO K ns (fun a => Nw (Lm L0 H0 O) H a ∧ a ≠ p) H' vs ds) (hi : i < O.length) :
    Iv K ns (fl.set i true) L0 H0 (O.set i (some p)) (env.set i (some ds)) (σ.set i (some (.ref p))) H' := by
  have up : ∀ a o, H a = some o → Lm L0 H0 O a → Lm L0 H0 (O.set i (some p)) a := fun a o ea h => ⟨h.1, fun q => by
    rcases List.mem_or_eq_of_mem_set q with q | q
    · exact h.2 q
    · cases q
      rw [hp] at ea
      cases ea⟩
  have np : some p ∉ O := fun q => by
    obtain ⟨vs, e, _⟩ := I.own_in q
    rw [hp] at e
    cases e
  refine ⟨I.sm.trans S, by rw [← I.fl, List.map_set]; rfl, by simp [I.ln], by simp [I.le], fun j d' e' h => ?_, fun j p' h => ?_, fun j k p' h1 h2 => ?_⟩
  · by_cases z : i = j
    · subst z
      rw [List.getElem?_set, if_pos rfl, if_pos hi] at h
      cases h
    · rw [List.getElem?_set, if_neg z] at h
      rw [List.getElem?_set, if_neg z] at e' ⊢
      obtain ⟨v', q, r'⟩ := I.rd j d' e' h
      exact ⟨v', q, r'.mono2 up (.of S)⟩
  · by_cases z : i = j
    · subst z
      rw [List.getElem?_set, if_pos rfl, if_pos hi] at h
      cases h
      refine ⟨back I.sm hp, by rw [List.getElem?_set, if_pos rfl, if_pos (by rw [I.ln]; exact hi)], vs, ds, by rw [List.getElem?_set, if_pos rfl, if_pos (by rw [I.le]; exact hi)], e, r.mono (fun a q => ?_) .refl⟩
      have := I.nwm q.1
      refine ⟨this.1, fun z => ?_⟩
      rcases List.mem_or_eq_of_mem_set z with z | z
      · exact this.2 z
      · cases z
        exact q.2 rfl
    · rw [List.getElem?_set, if_neg z] at h
      obtain ⟨h0, hs, us, es, e', hp', r'⟩ := I.ow j p' h
      exact ⟨h0, by rw [List.getElem?_set, if_neg z]; exact hs, us, es, by rw [List.getElem?_set, if_neg z]; exact e', S _ _ hp', r'.mono2 up (.of S)⟩
  · rw [List.getElem?_set] at h1 h2
    by_cases zj : i = j
    · subst zj
      rw [if_pos rfl, if_pos hi] at h1
      cases h1
      by_cases zk : i = k
      · exact zk
      · rw [if_neg zk] at h2
        exact absurd (List.mem_of_getElem? h2) np
    · rw [if_neg zj] at h1
      by_cases zk : i = k
      · subst zk
        rw [if_pos rfl, if_pos hi] at h2
        cases h2
        exact absurd (List.mem_of_getElem? h1) np
      · rw [if_neg zk] at h2
        exact I.inj j k p' h1 h2
theorem Iv.take (I : Iv K ns fl L0 H0 O env σ H) {i : Nat} {p : Addr} {vs : List V} {ds : List D} (S : Same H H') (hp : H p = none) (e : H' p = some (.lst vs)) (r : Rds K ns (fun a => Nw (Lm L0 H0 O) H a ∧ a ≠ p) H' vs ds) (hi : i < O.length) :
    Iv K ns (fl.set i true) L0 H0 (O.set i (some p)) (env.set i (some (.lst ds))) (σ.set i (some (.ref p))) H' := I.takeO (vs := .lst vs) (ds := .lst ds) S hp e r hi
theorem Step.take {i : Nat} {p : Addr} (S : Same H H') (hp : H p = none) : Step O H (O.set i (some p)) H' := ⟨fun q h => by
  rcases List.mem_or_eq_of_mem_set h with h | h
  · exact .inl h
  · cases h
    exact .inr hp, fun _ _ e _ => S _ _ e, fun _ h => back S h⟩
theorem Iv.alterO (I : Iv K ns fl L0 H0 O env σ H) {i : Nat} {p : Addr} {vs : HO} {ds : D} (ho : O[i]? = some (some p)) (r : RdO K ns (Lm L0 H0 O) H vs ds) :
    Iv K ns fl L0 H0 O (env.set i (some ds)) σ (upd H p vs) := by
  obtain ⟨h0, hs, us, es, e, hp, ru⟩ := I.ow i p ho
  have np : ¬ Lm L0 H0 O p := fun q => q.2 (List.mem_of_getElem? ho)
  have kp : KeepL (Lm L0 H0 O) H (upd H p vs) := fun a o ea hm => by
    by_cases z : a = p
    · subst z
      rw [hp] at ea
      cases ea
      exact absurd (hm ru.mut) np
    · rw [upd_ne z]; exact ea
  refine ⟨fun b o eb => ?_, I.fl, I.ln, by simp [I.le], fun j d' e' h => ?_, fun j p' h => ?_, I.inj⟩
  · rw [upd_ne (ne_of_none eb h0)]
    exact I.sm _ _ eb
  · rw [List.getElem?_set] at e'
    split at e'
    · rename_i z
      subst z
      rw [ho] at h
      cases h
    · obtain ⟨v', q, r'⟩ := I.rd j d' e' h
      exact ⟨v', q, r'.mono (fun _ q => q) kp⟩
  · obtain ⟨h0', hs', us', es', e2, hp', r'⟩ := I.ow j p' h
    by_cases z : i = j
    · subst z
      rw [ho] at h
      cases h
      exact ⟨h0, hs, vs, ds, by rw [List.getElem?_set, if_pos rfl, if_pos (List.getElem?_eq_some_iff.mp e).1], upd_same, r.mono (fun _ q => q) kp⟩
    · have pp : p' ≠ p := fun q => by
        subst q
        exact z (I.inj i j p' ho h)
      exact ⟨h0', hs', us', es', by rw [List.getElem?_set, if_neg z]; exact e2, by rw [upd_ne pp]; exact hp', r'.mono (fun _ q => q) kp⟩
theorem Iv.alter (I : Iv K ns fl L0 H0 O env σ H) {i : Nat} {p : Addr} {vs : List V} {ds : List D} (ho : O[i]? = some (some p)) (r : Rds K ns (Lm L0 H0 O) H vs ds) :
    Iv K ns fl L0 H0 O (env.set i (some (.lst ds))) σ (upd H p (.lst vs)) := I.alterO (vs := .lst vs) (ds := .lst ds) ho r
theorem Step.alter {p : Addr} {vs : HO} (h : some p ∈ O) : Step O H O (upd H p vs) := ⟨fun _ q => .inl q, fun a o e hn => by rw [upd_ne fun z => hn (by rw [z]; exact h)]; exact e, fun a q => by
  by_cases z : a = p
  · subst z
    rw [upd_same] at q
    cases q
  · rw [upd_ne z] at q
    exact q⟩
theorem Fin.mono {E E' : Ends} {o : Option Out} (T : Step O H O' H') (h : Fin K ns fr lf fl' L0 H0 O H E o) (hr : E.rt = E'.rt) (hn : E.nx = E'.nx) (hb : E.bk = E'.bk) (hc : E.ct = E'.ct) : Fin K ns fr lf fl' L0 H0 O' H' E' o := by
  cases o with
  | none => exact h
  | some o =>
    cases o with
    | nx e => intro O2 σ2 H2 T2 I2; rw [← hn]; exact h O2 σ2 H2 (T.trans T2) I2
    | rt d => intro v H2 S2 r2; rw [← hr]; exact h v H2 S2 r2
    | bk e => intro O2 σ2 H2 T2 I2; rw [← hb]; exact h O2 σ2 H2 (T.trans T2) I2
    | ct e => intro O2 σ2 H2 T2 I2; rw [← hc]; exact h O2 σ2 H2 (T.trans T2) I2
theorem s_seq {t u : TS} {F G : SF} (a : PuS K ns fr lf fl t F fl') (b : PuS K ns fr lf fl' u G fl'') : PuS K ns fr lf fl (tSeq t u) (seqS F G) fl'' := by
  intro L0 H0 O env σ H E I h
  refine a L0 H0 O env σ H _ I ?_
  unfold seqS at h
  cases e : F env with
  | none => rw [e] at h; exact h
  | some o =>
    rw [e] at h
    cases o with
    | nx e2 => exact fun O' σ' H' T I' => b L0 H0 O' e2 σ' H' E I' (Fin.mono T h rfl rfl rfl rfl)
    | rt d => exact h
    | bk e => exact h
    | ct e => exact h
theorem s_next : PuS K ns fr lf fl tNext nxS fl := fun L0 H0 O env σ H E I h => h O σ H .refl I
def gives : List Nat → List Bool → List Bool
  | [], fl => fl
  | i :: r, fl => gives r (fl.set i false)
theorem s_ret {t : TE} {f : VF} (h : PuE K ns t f) : PuS K ns false lf fl (tRet t) (retS f) fl' := by
  intro L0 H0 O env σ H E I k
  unfold retS at k
  cases e : f env with
  | none => rw [e] at k; exact k.elim
  | some d =>
    rw [e] at k
    exact h _ env σ H _ d I.weak e fun v H' S r => k v H' (I.sm.trans S) (r.mono (fun _ q => nw2 I.sm q) .refl)
theorem s_retF {t : TE} {f : VF} (h : PuF K ns t f) : PuS K ns true lf fl (tRet t) (retS f) fl' := by
  intro L0 H0 O env σ H E I k
  unfold retS at k
  cases e : f env with
  | none => rw [e] at k; exact k.elim
  | some d =>
    rw [e] at k
    exact h _ env σ H _ d I.weak e fun p vs ds H' ed S hp hl r => k _ H' (I.sm.trans S) ⟨p, vs, ds, rfl, ed, back I.sm hp, hl, r.mono (fun _ q => ⟨nw2 I.sm q.1, q.2⟩) .refl⟩
def retO (i : Nat) : SF := fun env => (ownAt i env).bind fun xs => some (.rt (.lst xs))
theorem s_retO (i : Nat) (hi : fl[i]? = some true) : PuS K ns true lf fl (tRet (tVar i)) (retO i) fl' := by
  intro L0 H0 O env σ H E I k
  obtain ⟨p, ho⟩ := I.owned hi
  obtain ⟨h0, hs, o, d, e, hp, r⟩ := I.ow i p ho
  unfold retO ownAt at k
  rw [e] at k
  rcases r.case with ⟨vs, ds, rfl, rfl, r⟩ | ⟨kvs, ds, rfl, rfl, r⟩ | ⟨kvs, ds, rfl, rfl, r⟩
  rotate_left
  · exact k.elim
  · exact k.elim
  exact ⟨_, hs, k _ H I.sm ⟨p, vs, ds, rfl, rfl, h0, hp, r.mono (fun a q => ⟨q.1, fun z => q.2 (z ▸ List.mem_of_getElem? ho)⟩) .refl⟩⟩
theorem s_if {c : TT} {t u : TS} {fc : BF} {F G : SF} (h : PuT K ns c fc) (a : PuS K ns fr lf fl t F fl') (b : PuS K ns fr lf fl u G fl') : PuS K ns fr lf fl (tIfS c t u) (ifS fc F G) fl' := by
  intro L0 H0 O env σ H E I k
  unfold ifS at k
  cases e : fc env with
  | none => rw [e] at k; exact k.elim
  | some x =>
    rw [e] at k
    refine h _ env σ H _ x I.weak e fun H' S => ?_
    cases x with
    | true =>
      rw [if_pos rfl]
      exact a _ _ _ _ _ _ _ (I.same S) (Fin.mono (.same S) k rfl rfl rfl rfl)
    | false =>
      rw [if_neg Bool.false_ne_true]
      exact b _ _ _ _ _ _ _ (I.same S) (Fin.mono (.same S) k rfl rfl rfl rfl)
theorem s_set (i : Nat) {t : TE} {f : VF} (h : PuE K ns t f) : PuS K ns fr lf fl (tAsg t (gName i)) (setS i (mk fl f)) (fl.set i false) := by
  intro L0 H0 O env σ H E I k
  unfold setS mk at k
  cases e : f (maskD fl env) with
  | none => rw [e] at k; exact k.elim
  | some d =>
    rw [e] at k
    refine h _ (maskD fl env) σ H _ d I.strict e fun v H' S r => ?_
    exact k _ _ H' ((Step.same S).trans (.give i)) ((I.same S).store (r.mono (fun _ q => I.nwm q) .refl))
theorem s_new (i : Nat) {t : TE} {f : VF} (h : PuF K ns t f) (hi : i < fl.length) : PuS K ns fr lf fl (tAsg t (gName i)) (setS i (mk fl f)) (fl.set i true) := by
  intro L0 H0 O env σ H E I k
  unfold setS mk at k
  cases e : f (maskD fl env) with
  | none => rw [e] at k; exact k.elim
  | some d =>
    rw [e] at k
    refine h _ (maskD fl env) σ H _ d I.strict e fun p vs ds H' ed S hp hl r => ?_
    subst ed
    exact k _ _ H' (.take S hp) (I.take S hp hl r (by rw [← I.fl, List.length_map] at hi; exact hi))
theorem own_of (I : Iv K ns fl L0 H0 O env σ H) {i : Nat} (hi : fl[i]? = some true) : ownAt i env = none ∨ ∃ p vs ds, O[i]? = some (some p) ∧ σ[i]? = some (some (.ref p)) ∧ ownAt i env = some ds ∧ H p = some (.lst vs) ∧ Rds K ns (Lm L0 H0 O) H vs ds := by
  obtain ⟨p, ho⟩ := I.owned hi
  obtain ⟨h0, hs, o, d, e, hp, r⟩ := I.ow i p ho
  rcases r.case with ⟨vs, ds, rfl, rfl, r⟩ | ⟨kvs, ds, rfl, rfl, r⟩ | ⟨kvs, ds, rfl, rfl, r⟩
  · exact .inr ⟨p, vs, ds, ho, hs, by unfold ownAt; rw [e]; rfl, hp, r⟩
  · exact .inl (by unfold ownAt; rw [e]; rfl)
  · exact .inl (by unfold ownAt; rw [e]; rfl)
theorem Fin.no {E : Ends} {A : Prop} {o : Option Out} (h : Fin K ns fr lf fl L0 H0 O H E o) (e : o = none) : A := by subst e; exact h.elim
theorem bind_no {α β : Type} {o : Option α} : (o.bind fun _ => (none : Option β)) = none := by cases o <;> rfl
theorem s_app (i : Nat) {t : TE} {f : VF} (h : PuE K ns t f) (hi : fl[i]? = some true) : PuS K ns fr lf fl (tDrop (tBM K "list" rAppend (tVar i) (tCons t tNil))) (appS i (mk fl f)) fl := by
  intro L0 H0 O env σ H E I k
  rcases own_of I hi with hn | ⟨p, vs, ds, ho, hs, hd, hp, r⟩
  · exact Fin.no k (by unfold appS; rw [hn]; exact bind_no)
  unfold appS mk at k
  cases e : f (maskD fl env) with
  | none => rw [e] at k; exact k.elim
  | some d =>
    rw [e] at k
    have k' : Fin K ns fr lf fl L0 H0 O H E ((ownAt i env).bind fun xs => if xs.length < 1000000 then some (.nx (env.set i (some (.lst (xs ++ [d]))))) else none) := k
    rw [hd] at k'
    have k2 : Fin K ns fr lf fl L0 H0 O H E (if ds.length < 1000000 then some (.nx (env.set i (some (.lst (ds ++ [d]))))) else none) := k'
    by_cases hl : ds.length < 1000000
    · rw [if_pos hl] at k2
      refine ⟨_, hs, .inl ⟨rfl, _, SqL.of hp⟩, h _ (maskD fl env) σ H _ d I.strict e fun v H' S rv => ⟨p, vs, v, rfl, rfl, S _ _ hp, by rw [r.len]; exact Nat.lt_trans hl (by decide), ?_⟩⟩
      have I' := I.same S
      exact k2 _ _ _ ((Step.same S).trans (.alter (List.mem_of_getElem? ho))) (I'.alter ho ((r.same S).append (.cons (rv.mono (fun _ q => I.nwm q) .refl) .nil)))
    · rw [if_neg hl] at k2
      exact k2.elim
theorem s_appW (i : Nat) {t : TE} {f : VF} (h : PuE K ns t f) (hi : fl[i]? = some true) : PuS K ns fr lf fl (tDrop (tBM K "list" rAppend (tVar i) (tCons t tNil))) (appW i f) fl := by
  intro L0 H0 O env σ H E I k
  rcases own_of I hi with hn | ⟨p, vs, ds, ho, hs, hd, hp, r⟩
  · exact Fin.no k (by unfold appW; rw [hn]; cases f env with | none => rfl | some d => exact ite_self none)
  unfold appW at k
  cases e : f env with
  | none => rw [e] at k; exact k.elim
  | some d =>
    rw [e] at k
    have k' : Fin K ns fr lf fl L0 H0 O H E (if d.flat = true then (ownAt i env).bind fun xs => if xs.length < 1000000 then some (.nx (env.set i (some (.lst (xs ++ [d]))))) else none else none) := k
    by_cases hfl : d.flat = true
    · rw [if_pos hfl, hd] at k'
      have k2 : Fin K ns fr lf fl L0 H0 O H E (if ds.length < 1000000 then some (.nx (env.set i (some (.lst (ds ++ [d]))))) else none) := k'
      by_cases hl : ds.length < 1000000
      · rw [if_pos hl] at k2
        refine ⟨_, hs, .inl ⟨rfl, _, SqL.of hp⟩, h _ env σ H _ d I.weak e fun v H' S rv => ⟨p, vs, v, rfl, rfl, S _ _ hp, by rw [r.len]; exact Nat.lt_trans hl (by decide), ?_⟩⟩
        have I' := I.same S
        exact k2 _ _ _ ((Step.same S).trans (.alter (List.mem_of_getElem? ho))) (I'.alter ho ((r.same S).append (.cons (rv.flat hfl) .nil)))
      · rw [if_neg hl] at k2
        exact k2.elim
    · rw [if_neg hfl] at k'
      exact k'.elim
theorem set_same {α : Type} : ∀ {l : List α} {i : Nat} {x : α}, l[i]? = some x → l.set i x = l
  | [], _, _, h => by simp at h
  | _ :: _, 0, _, h => by cases h; rfl
  | _ :: l, i + 1, _, h => congrArg _ (set_same (l := l) (i := i) h)
theorem g_name (i : Nat) (hi : fl[i]? = some false) : PuG K ns fl (gName i) (nmG i) := by
  intro L0 H0 O env e σ H x d Q I r hg k
  cases hg
  have ho := I.free hi
  have := I.store (i := i) r
  have e1 : fl.set i false = fl := set_same hi
  have e2 : O.set i none = O := set_same ho
  rw [e1, e2] at this
  exact k _ this
theorem s_asg {t : TE} {f : VF} {g : TG} {G : GF} (h : PuE K ns t f) (hg : PuG K ns fl g G) : PuS K ns fr lf fl (tAsg t g) (asgS (mk fl f) G) fl := by
  intro L0 H0 O env σ H E I k
  unfold asgS mk at k
  cases e : f (maskD fl env) with
  | none => rw [e] at k; exact k.elim
  | some d =>
    rw [e] at k
    have k' : Fin K ns fr lf fl L0 H0 O H E ((G d env).bind fun e => some (.nx e)) := k
    cases e2 : G d env with
    | none => rw [e2] at k'; exact k'.elim
    | some en =>
      rw [e2] at k'
      refine h _ (maskD fl env) σ H _ d I.strict e fun v H' S r => ?_
      exact hg L0 H0 O env en σ H' v d _ (I.same S) (r.mono (fun _ q => I.nwm q) .refl) e2 fun σ' I' => k' _ _ _ (.same S) I'
theorem s_for {wi : TI} {g : TG} {t : TS} {fi : AF} {G : GF} {b : SF} {lf0 : List Bool} (hi : PuI K ns wi fi) (hg : PuG K ns fl g G) (hb : PuS K ns fr fl fl t b fl) : PuS K ns fr lf0 fl (tFor wi g t) (forS (mk fl fi) G b) fl := by
  intro L0 H0 O env σ H E I k
  unfold forS mk at k
  cases e : fi (maskD fl env) with
  | none => rw [e] at k; exact k.elim
  | some ds =>
    rw [e] at k
    have k1 : Fin K ns fr lf0 fl L0 H0 O H E (forD G b ds env) := k
    refine hi _ (maskD fl env) σ H _ ds I.strict e fun J H1 S1 it => ?_
    refine ⟨fun i m σ2 H2 => m = ds.length - i ∧ i ≤ ds.length ∧ ∃ O2 e2, Step O H1 O2 H2 ∧ Iv K ns fl L0 H0 O2 e2 σ2 H2 ∧ Fin K ns fr lf0 fl L0 H0 O2 H2 E (forD G b (ds.drop i) e2), ⟨_, rfl, Nat.zero_le _, O, env, .refl, I.same S1, by rw [List.drop_zero]; exact Fin.mono (.same S1) k1 rfl rfl rfl rfl⟩, ?_⟩
    rintro i m σ2 H2 ⟨rfl, hle, O2, e2, T2, I2, k2⟩
    have lm : ∀ a o, H1 a = some o → Nw (Lm L0 H0 O) H a → Lm L0 H0 O2 a ∧ some a ∉ O := fun a o ea hl => by
      have := I.nwm hl
      refine ⟨⟨this.1, fun q => ?_⟩, this.2⟩
      rcases T2.ow a q with q | q
      · exact this.2 q
      · rw [ea] at q; cases q
    have kp : KeepL (fun a => Lm L0 H0 O2 a ∧ some a ∉ O) H1 H2 := fun a o ea hm => by
      refine T2.kp a o ea fun hq => ?_
      obtain ⟨vs, hv, hmu⟩ := (I.same S1).own_in hq
      rw [ea] at hv
      cases hv
      exact (hm hmu).2 hq
    obtain ⟨go, stop⟩ := it (fun a => Lm L0 H0 O2 a ∧ some a ∉ O) i H2 lm kp
    by_cases hlt : i < ds.length
    · obtain ⟨gg, yl⟩ := go ds[i] (List.getElem?_eq_getElem hlt)
      rw [List.drop_eq_getElem_cons hlt, forD] at k2
      refine .inr ⟨gg, fun σ' H' => ∃ m', m' < ds.length - i ∧ m' = ds.length - (i + 1) ∧ i + 1 ≤ ds.length ∧ ∃ O2 e2, Step O H1 O2 H' ∧ Iv K ns fl L0 H0 O2 e2 σ' H' ∧ Fin K ns fr lf0 fl L0 H0 O2 H' E (forD G b (ds.drop (i + 1)) e2), fun σ' H' h => h, fun x H3 y => ?_⟩
      obtain ⟨S3, rx⟩ := yl x H3 y
      have I3 := I2.same S3
      cases eg : G ds[i] e2 with
      | none => rw [eg] at k2; exact k2.elim
      | some e3 =>
        rw [eg] at k2
        refine hg L0 H0 O2 e2 e3 σ2 H3 x ds[i] _ I3 (rx.mono (fun _ q => q.elim (fun z => z.1) I2.new_m) .refl) eg fun σ3 I4 => ?_
        refine hb L0 H0 O2 e3 σ3 H3 _ I4 ?_
        have T3 : Step O2 H2 O2 H3 := .same S3
        have k3 : Fin K ns fr lf0 fl L0 H0 O2 H2 E ((b e3).bind fun
          | .nx e => forD G b (ds.drop (i + 1)) e
          | .ct e => forD G b (ds.drop (i + 1)) e
          | .bk e => some (.nx e)
          | .rt d => some (.rt d)) := k2
        cases ebd : b e3 with
        | none => rw [ebd] at k3; exact k3.elim
        | some o =>
          rw [ebd] at k3
          cases o with
          | nx e4 => exact fun O5 σ5 H5 T5 I5 => ⟨ds.length - (i + 1), by omega, rfl, hlt, O5, e4, T2.trans (T3.trans T5), I5, Fin.mono (T3.trans T5) k3 rfl rfl rfl rfl⟩
          | ct e4 => exact fun O5 σ5 H5 T5 I5 => ⟨ds.length - (i + 1), by omega, rfl, hlt, O5, e4, T2.trans (T3.trans T5), I5, Fin.mono (T3.trans T5) k3 rfl rfl rfl rfl⟩
          | bk e4 => exact fun O5 σ5 H5 T5 I5 => k3 O5 σ5 H5 (T3.trans T5) I5
          | rt d => exact k3
    · have hi' : ds.length = i := by omega
      refine .inl ⟨stop hi', ?_⟩
      rw [List.drop_of_length_le (by omega)] at k2
      exact k2 O2 σ2 H2 .refl I2
end
end PD
namespace PD
open PySem L2
section
variable {K : PySem.W.Frag} {ns : List Str} {fr : Bool} {lf fl fl' fl'' : List Bool} {L0 : Addr → Prop} {H0 H H' H'' : Hp} {O O' O'' : List (Option Addr)} {env : Env} {σ : St}
def PuGs (K : PySem.W.Frag) (ns : List Str) (fl : List Bool) (g : TGs) (is : List Nat) : Prop := ∀ (L0 : Addr → Prop) (H0 : Hp) (O : List (Option Addr)) (env e : Env) (σ : St) (H : Hp) (xs : List V) (ds : List D) (Q : St → Hp → Prop), Iv K ns fl L0 H0 O env σ H → Rds K ns (Lm L0 H0 O) H xs ds → setsG is ds env = some e → (∀ σ', Iv K ns fl L0 H0 O e σ' H → Q σ' H) → g xs σ H Q
theorem gs_nil : PuGs K ns fl gNil [] := by
  intro L0 H0 O env e σ H xs ds Q I r hg k
  cases r with
  | nil => cases hg; exact ⟨rfl, k _ I⟩
  | cons h t => cases hg
theorem gs_cons {i : Nat} {is : List Nat} {g : TGs} (hi : fl[i]? = some false) (h : PuGs K ns fl g is) : PuGs K ns fl (gCons (gName i) g) (i :: is) := by
  intro L0 H0 O env e σ H xs ds Q I r hg k
  cases r with
  | nil => cases hg
  | cons rv rt =>
    refine ⟨_, _, rfl, ?_⟩
    exact g_name i hi L0 H0 O env _ σ H _ _ _ I rv rfl fun σ' I' => h L0 H0 O _ e σ' H _ _ Q I' rt hg k
theorem setsG_len : ∀ {is : List Nat} {ds : List D} {env e : Env}, setsG is ds env = some e → ds.length = is.length
  | [], [], _, _, _ => rfl
  | _ :: is, _ :: ds, _, _, h => congrArg Nat.succ (setsG_len (is := is) (ds := ds) h)
  | [], _ :: _, _, _, h => by cases h
  | _ :: _, [], _, _, h => by cases h
theorem g_tup {n : Nat} {is : List Nat} {g : TGs} (h : PuGs K ns fl g is) (hn : is.length = n := by rfl) : PuG K ns fl (gTup K n g) (tupG is) := by
  intro L0 H0 O env e σ H x d Q I r hg k
  cases r <;> first | (cases hg; done) | skip
  · rename_i e1 r
    exact ⟨_, _, rfl, SqT.of e1, by rw [r.len, setsG_len hg, hn], h L0 H0 O env e σ H _ _ Q I r hg k⟩
  · rename_i e1 r
    exact ⟨_, _, rfl, SqT.kt e1, by rw [r.len, setsG_len hg, hn], h L0 H0 O env e σ H _ _ Q I r hg k⟩
theorem s_while {c : TT} {t : TS} {fc : BF} {b : SF} {lf0 : List Bool} (hc : PuT K ns c fc) (hb : PuS K ns fr fl fl t b fl) : PuS K ns fr lf0 fl (tWhile c t) (whS fc b) fl := by
  intro L0 H0 O env σ H E I k
  unfold whS at k
  refine ⟨fun m σ2 H2 => ∃ O2 e2, Step O H O2 H2 ∧ Iv K ns fl L0 H0 O2 e2 σ2 H2 ∧ Fin K ns fr lf0 fl L0 H0 O2 H2 E (whN fc b m e2), ⟨1000000, O, env, .refl, I, k⟩, ?_⟩
  rintro m σ2 H2 ⟨O2, e2, T2, I2, k2⟩
  cases m with
  | zero => exact k2.elim
  | succ m =>
    rw [whN] at k2
    cases ec : fc e2 with
    | none => rw [ec] at k2; exact k2.elim
    | some x =>
      rw [ec] at k2
      refine hc _ e2 σ2 H2 _ x I2.weak ec fun H3 S3 => ?_
      cases x with
      | false =>
        rw [if_neg Bool.false_ne_true]
        exact k2 O2 σ2 H3 (.same S3) (I2.same S3)
      | true =>
        rw [if_pos rfl]
        have T3 : Step O2 H2 O2 H3 := .same S3
        refine ⟨fun σ' H' => ∃ m', m' < m + 1 ∧ ∃ O2 e2, Step O H O2 H' ∧ Iv K ns fl L0 H0 O2 e2 σ' H' ∧ Fin K ns fr lf0 fl L0 H0 O2 H' E (whN fc b m' e2), fun σ' H' h => h, ?_⟩
        refine hb L0 H0 O2 e2 σ2 H3 _ (I2.same S3) ?_
        have k3 : Fin K ns fr lf0 fl L0 H0 O2 H2 E ((b e2).bind fun
          | .nx e => whN fc b m e
          | .ct e => whN fc b m e
          | .bk e => some (.nx e)
          | .rt d => some (.rt d)) := k2
        cases ebd : b e2 with
        | none => rw [ebd] at k3; exact k3.elim
        | some o =>
          rw [ebd] at k3
          cases o with
          | nx e4 => exact fun O5 σ5 H5 T5 I5 => ⟨m, by omega, O5, e4, T2.trans (T3.trans T5), I5, Fin.mono (T3.trans T5) k3 rfl rfl rfl rfl⟩
          | ct e4 => exact fun O5 σ5 H5 T5 I5 => ⟨m, by omega, O5, e4, T2.trans (T3.trans T5), I5, Fin.mono (T3.trans T5) k3 rfl rfl rfl rfl⟩
          | bk e4 => exact fun O5 σ5 H5 T5 I5 => k3 O5 σ5 H5 (T3.trans T5) I5
          | rt d => exact k3
end
theorem ex_of {α : Type} (a : α) : ∃ x, x = a := ⟨a, rfl⟩
noncomputable def sealed {α : Type} (a : α) : α := Classical.choose (ex_of a)
theorem seal_eq {α : Type} (a : α) : sealed a = a := Classical.choose_spec (ex_of a)
def startD (n : Nat) (ds : List D) : Env := ds.map some ++ List.replicate (n - ds.length) none
def runD (n : Nat) (b : SF) (ds : List D) : Option D := (b (startD n ds)).bind fun
  | .rt d => some d
  | .nx _ => some .non
  | _ => none
def runF (n : Nat) (b : SF) (ds : List D) : Option D := (b (startD n ds)).bind fun
  | .rt d => some d
  | _ => none
def spP (K : PySem.W.Frag) (ns : List Str) (fr : Bool) (n : Nat) (F : List D → Option D) : Sp := fun vs H Q _ => ∃ (L : Addr → Prop) (ds : List D) (d : D), ds.length = n ∧ Rds K ns L H vs ds ∧ F ds = some d ∧ ∀ v H', Same H H' → Res K ns fr L H H' v d → Q v H'
section
variable {K : PySem.W.Frag} {ns : List Str} {fr : Bool} {fl' : List Bool}
theorem spP_len {n : Nat} {F : List D → Option D} {vs : List V} {H : Hp} {Q : VK} {E : XK} (h : spP K ns fr n F vs H Q E) : vs.length = n := by
  obtain ⟨L, ds, d, hl, r, _⟩ := h
  rw [r.len, hl]
theorem start_iv {L : Addr → Prop} {H : Hp} {vs : List V} {ds : List D} {n : Nat} {N : List Str} (r : Rds K ns L H vs ds) (hN : N.length = n) (hn : ds.length ≤ n) : Iv K ns (List.replicate n false) L H (List.replicate n none) (startD n ds) (start N vs) H := by
  have nm : ∀ a : Addr, some a ∉ List.replicate n (none : Option Addr) := fun a h => by
    have := List.eq_of_mem_replicate h
    cases this
  refine ⟨Same.refl _, by simp, by unfold L2.start; simp [r.len]; omega, by unfold startD; simp; omega, fun i d e _ => ?_, fun i p h => ?_, fun i j p h => ?_⟩
  · unfold startD at e
    have hi : i < ds.length := by
      by_cases hi : i < ds.length
      · exact hi
      · rw [List.getElem?_append_right (by simp; omega)] at e
        have := List.eq_of_mem_replicate (List.mem_of_getElem? e)
        cases this
    rw [List.getElem?_append_left (by simpa using hi), List.getElem?_map] at e
    obtain ⟨d', hd, e⟩ := Option.map_eq_some_iff.mp e
    cases e
    obtain ⟨v, hv, rv⟩ := r.get hd
    refine ⟨v, ?_, rv.mono (fun a q => ⟨.inl q, nm a⟩) .refl⟩
    unfold L2.start
    rw [List.getElem?_append_left (by simp [r.len]; exact hi), List.getElem?_map, hv]
    rfl
  · exact absurd (List.mem_of_getElem? h) (nm p)
  · exact absurd (List.mem_of_getElem? h) (nm p)
theorem run_ok {t : TS} {b : SF} {n m : Nat} {N : List Str} {vs : List V} {H : Hp} {Q : VK} {E : XK} (h : PuS K ns false [] (List.replicate n false) t b fl') (hN : N.length = n) (hm : m ≤ n) (s : spP K ns false m (runD n b) vs H Q E) : t { nx := fun _ H' => Q .non H', rt := Q } (start N vs) H := by
  obtain ⟨L, ds, d, hl, r, hf, k⟩ := s
  refine h L H _ _ _ _ _ (start_iv r hN (by omega)) ?_
  unfold runD at hf
  cases e : b (startD n ds) with
  | none => rw [e] at hf; cases hf
  | some o =>
    rw [e] at hf
    cases o with
    | nx e2 => cases hf; exact fun O' σ' H' _ I' => k _ _ I'.sm .non
    | rt d2 => cases hf; exact k
    | bk e2 => cases hf
    | ct e2 => cases hf
theorem run_okF {t : TS} {b : SF} {n m : Nat} {N : List Str} {vs : List V} {H : Hp} {Q : VK} {E : XK} (h : PuS K ns true [] (List.replicate n false) t b fl') (hN : N.length = n) (hm : m ≤ n) (s : spP K ns true m (runF n b) vs H Q E) : t { nx := fun _ H' => Q .non H', rt := Q } (start N vs) H := by
  obtain ⟨L, ds, d, hl, r, hf, k⟩ := s
  refine h L H _ _ _ _ _ (start_iv r hN (by omega)) ?_
  unfold runF at hf
  cases e : b (startD n ds) with
  | none => rw [e] at hf; cases hf
  | some o =>
    rw [e] at hf
    cases o with
    | rt d2 => cases hf; exact k
    | nx e2 => cases hf
    | bk e2 => cases hf
    | ct e2 => cases hf
theorem pu_fn {n : Nat} {F : List D → Option D} {t : TA} {f : AF} {E : XK} (h : PuA K ns n t f) : PuE K ns (tCall (spP K ns false n F) [] E t) (callD F f) := by
  intro L env σ H Q d he hf k
  obtain ⟨a, ea, hf⟩ := bnd hf
  refine h L env σ H _ a he ea fun xs H1 hl S1 rx => ⟨Nw L H, a, d, hl, by rw [List.append_nil]; exact rx, hf, fun v H2 S2 r => k v H2 (S1.trans S2) (Rd.mono (fun _ q => nw2 S1 q) .refl (show Rd K ns (Nw (Nw L H) H1) H2 v d from r))⟩
theorem pu_fnF {n : Nat} {F : List D → Option D} {t : TA} {f : AF} {E : XK} (h : PuA K ns n t f) : PuF K ns (tCall (spP K ns true n F) [] E t) (callD F f) := by
  intro L env σ H Q d he hf k
  obtain ⟨a, ea, hf⟩ := bnd hf
  refine h L env σ H _ a he ea fun xs H1 hl S1 rx => ⟨Nw L H, a, d, hl, by rw [List.append_nil]; exact rx, hf, fun v H2 S2 r => ?_⟩
  obtain ⟨p, us, ds, rfl, ed, hp, hl2, rr⟩ := (show ∃ p us ds, v = .ref p ∧ d = .lst ds ∧ H1 p = none ∧ H2 p = some (.lst us) ∧ Rds K ns (fun a => Nw (Nw L H) H1 a ∧ a ≠ p) H2 us ds from r)
  exact k p us ds H2 ed (S1.trans S2) (back S1 hp) hl2 (rr.mono (fun _ q => ⟨nw2 S1 q.1, q.2⟩) .refl)
theorem law_sp {F : List D → Option D} {vs : List V} {H : Hp} {Q : VK} {E : XK} {a : Addr} {xs : List Int} (e : vs = [.ref a]) (hs : SqL K H a (xs.map V.int)) (hF : ∀ d, (d = .lst (xs.map D.int) ∨ d = .fz (xs.map D.int)) → F [d] = some (.bl true)) (k : ∀ H', Q (.bl true) H') : spP K ns false 1 F vs H Q E := by
  have rd : Rds K ns (fun _ => True) H (xs.map V.int) (xs.map D.int) := by
    clear hs hF
    induction xs with
    | nil => exact .nil
    | cons x r ih => exact .cons (.int x) ih
  subst e
  have fin : ∀ v H', Same H H' → Res K ns false (fun _ => True) H H' v (.bl true) → Q v H' := fun v H' S r => by
    have r' : Rd K ns (Nw (fun _ => True) H) H' v (.bl true) := r
    cases r'
    exact k H'
  rcases hs with (h | h) | h
  · exact ⟨fun _ => True, [.lst (xs.map D.int)], _, rfl, .cons (.lst trivial h rd) .nil, hF _ (.inl rfl), fin⟩
  · exact ⟨fun _ => True, [.fz (xs.map D.int)], _, rfl, .cons (.fz (.inl h) rd) .nil, hF _ (.inr rfl), fin⟩
  · exact ⟨fun _ => True, [.fz (xs.map D.int)], _, rfl, .cons (.fz (.inr h) rd) .nil, hF _ (.inr rfl), fin⟩
end
end PD
namespace PD
open PySem L2
theorem kit_tt {K : PySem.W.Frag} {A B : String} {b : Bool} (hn : (Value.type A == Value.type B) = false := by decide +kernel) (h1 : PySem.W.kitMeta B = true := by decide +kernel) (h2 : ((fastBuiltinMro A).map (·.contains (Value.type B))) = some b := by decide +kernel) : PySem.W.kitOne K (.type A) (.type B) = some b := by
  show (if (Value.type A == Value.type B) = true then some true else if PySem.W.kitMeta B = true then PySem.W.subIn K (.type A) (.type B) else none) = some b
  rw [hn, if_neg Bool.false_ne_true, if_pos h1]
  exact h2
section
variable {K : PySem.W.Frag} {ns : List Str}
def okT (T : String) : Bool := T == "int" || T == "bool" || T == "str" || T == "list" || T == "tuple"
theorem kit_int {d : D} (h1 : ∀ xs, d ≠ .kt xs) (h3 : ∀ c fs, d ≠ .ob c fs) : PySem.W.kitOne K (.type d.ty) (.type "int") = some (kits d.ty "int") := by
  cases d <;> first | exact absurd rfl (h1 _) | exact absurd rfl (h3 _ _) | rfl | exact kit_tt
theorem kit_bool {d : D} (h1 : ∀ xs, d ≠ .kt xs) (h3 : ∀ c fs, d ≠ .ob c fs) : PySem.W.kitOne K (.type d.ty) (.type "bool") = some (kits d.ty "bool") := by
  cases d <;> first | exact absurd rfl (h1 _) | exact absurd rfl (h3 _ _) | rfl | exact kit_tt
theorem kit_str {d : D} (h1 : ∀ xs, d ≠ .kt xs) (h3 : ∀ c fs, d ≠ .ob c fs) : PySem.W.kitOne K (.type d.ty) (.type "str") = some (kits d.ty "str") := by
  cases d <;> first | exact absurd rfl (h1 _) | exact absurd rfl (h3 _ _) | rfl | exact kit_tt
theorem kit_list {d : D} (h1 : ∀ xs, d ≠ .kt xs) (h3 : ∀ c fs, d ≠ .ob c fs) : PySem.W.kitOne K (.type d.ty) (.type "list") = some (kits d.ty "list") := by
  cases d <;> first | exact absurd rfl (h1 _) | exact absurd rfl (h3 _ _) | rfl | exact kit_tt
theorem kit_tuple {d : D} (h1 : ∀ xs, d ≠ .kt xs) (h3 : ∀ c fs, d ≠ .ob c fs) : PySem.W.kitOne K (.type d.ty) (.type "tuple") = some (kits d.ty "tuple") := by
  cases d <;> first | exact absurd rfl (h1 _) | exact absurd rfl (h3 _ _) | rfl | exact kit_tt
theorem kit_T {T : String} (h : okT T = true) {d : D} (h1 : ∀ xs, d ≠ .kt xs) (h3 : ∀ c fs, d ≠ .ob c fs) : PySem.W.kitOne K (.type d.ty) (.type T) = some (kits d.ty T) := by
  unfold okT at h
  simp only [Bool.or_eq_true, beq_iff_eq] at h
  rcases h with (((h | h) | h) | h) | h <;> subst h
  · exact kit_int h1 h3
  · exact kit_bool h1 h3
  · exact kit_str h1 h3
  · exact kit_list h1 h3
  · exact kit_tuple h1 h3
theorem not_T {T : String} (h : okT T = true) {C : Addr} {ms fs : List Str} (p : PKd K ns C ms fs) : PySem.W.kitOne K (.ref C) (.type T) = some false := by
  unfold okT at h
  simp only [Bool.or_eq_true, beq_iff_eq] at h
  rcases h with (((h | h) | h) | h) | h <;> subst h <;> exact p.notT _
theorem pu_isT {t : TE} {f : VF} (T : String) (hT : okT T = true) (h : PuE K ns t f) : PuE K ns (tCB (rIsT K) (tCons t (tCons (tC (.ty T)) tNil))) (callD (isT T) (aCons f aNil)) := by
  intro L env σ H Q d he hf k
  obtain ⟨as, eas, hf⟩ := bnd hf
  obtain ⟨a, ea, e2⟩ := bnd eas
  cases e2
  clear eas
  refine h L env σ H _ a he ea fun x H1 S1 r => ?_
  cases r with
  | @ob a dx gs c fs l e kk r =>
    cases hf
    have e0 : kits (D.ob c fs).ty T = false := by
      unfold okT at hT
      simp only [Bool.or_eq_true, beq_iff_eq] at hT
      show kits "object" T = false
      rcases hT with (((h | h) | h) | h) | h <;> subst h <;> decide
    rw [e0] at k
    exact ⟨_, _, _, _, rfl, PKd.ty kk e, not_T hT kk, k _ _ S1 (.bl _)⟩
  | kt e r => cases hf
  | fz e r => cases hf
  | dk l e r => cases hf
  | dt l e r => cases hf
  | non => cases hf; exact ⟨_, _, _, _, rfl, .non, kit_T hT (d := .non) (fun _ z => by cases z) (fun _ _ z => by cases z), k _ _ S1 (.bl _)⟩
  | bl b => cases hf; exact ⟨_, _, _, _, rfl, .bl b, kit_T hT (d := .bl b) (fun _ z => by cases z) (fun _ _ z => by cases z), k _ _ S1 (.bl _)⟩
  | int b => cases hf; exact ⟨_, _, _, _, rfl, .int b, kit_T hT (d := .int b) (fun _ z => by cases z) (fun _ _ z => by cases z), k _ _ S1 (.bl _)⟩
  | str b => cases hf; exact ⟨_, _, _, _, rfl, .str b, kit_T hT (d := .str b) (fun _ z => by cases z) (fun _ _ z => by cases z), k _ _ S1 (.bl _)⟩
  | @tup a vs ds e r => cases hf; exact ⟨_, _, _, _, rfl, .tup e, kit_T hT (d := .tup ds) (fun _ z => by cases z) (fun _ _ z => by cases z), k _ _ S1 (.bl _)⟩
  | @lst a vs ds l e r => cases hf; exact ⟨_, _, _, _, rfl, .lst e, kit_T hT (d := .lst ds) (fun _ z => by cases z) (fun _ _ z => by cases z), k _ _ S1 (.bl _)⟩
def Cl.un (x : Str) : Option Cl := if x = "Open" then some .Open else if x = "Bridge" then some .Bridge else if x = "Road" then some .Road else if x = "Cart" then some .Cart else if x = "Trip" then some .Trip else if x = "Day" then some .Day else none
theorem Cl.un_s (c : Cl) : Cl.un c.s = some c := by cases c <;> decide
theorem Cl.inj {c d : Cl} (h : c.s = d.s) : c = d := Option.some.inj (by rw [← Cl.un_s c, ← Cl.un_s d, h])
theorem pu_isC {t : TE} {f : VF} (c : Cl) (hm : c.s ∈ ns) (h : PuE K ns t f) : PuE K ns (tCB (rIsC K) (tCons t (tCons (tC (.ref (clA K c.s))) tNil))) (callD (isC c) (aCons f aNil)) := by
  intro L env σ H Q d he hf k
  obtain ⟨as, eas, hf⟩ := bnd hf
  obtain ⟨a, ea, e2⟩ := bnd eas
  cases e2
  clear eas
  refine h L env σ H _ a he ea fun x H1 S1 r => ?_
  cases r with
  | @ob a2 dx gs c' fs l e kk r =>
    cases hf
    refine ⟨_, _, _, _, rfl, PKd.ty kk e, kk.kit _ hm, ?_⟩
    have : ([c'.s].contains c.s) = decide (c' = c) := by
      rw [List.contains_cons, List.contains_nil, Bool.or_false]
      by_cases z : c' = c
      · subst z; simp
      · rw [decide_eq_false z]
        exact beq_eq_false_iff_ne.mpr fun q => z (Cl.inj q.symm)
    rw [this]
    exact k _ _ S1 (.bl _)
  | _ => cases hf
def makeD (c : Cl) (I : List D → Option (List (Fl × D))) (f : AF) : VF := fun env => (f env).bind fun ds => (I ds).map (.ob c)
def initF : List (Fl × VF) → Env → Option (List (Fl × D))
  | [], _ => some []
  | (f, e) :: r, env => (e env).bind fun d => (initF r env).map ((f, d) :: ·)
def initD (l : List (Fl × VF)) (ds : List D) : Option (List (Fl × D)) := initF l (none :: ds.map some)
def spI (K : PySem.W.Frag) (ns : List Str) (c : Cl) (n : Nat) (I : List D → Option (List (Fl × D))) : Sp := fun vs H Q _ => ∃ (x dx : Addr) (us : List V) (L : Addr → Prop) (ds : List D) (fs : List (Fl × D)), vs = .ref x :: us ∧ ds.length = n ∧ H x = some (.ins (clA K c.s) dx []) ∧ ¬ L x ∧ CF K ns c ∧ Rds K ns L H us ds ∧ I ds = some fs ∧
  ∀ H' gs, (∀ b o, b ≠ x → H b = some o → H' b = some o) → H' x = some (.ins (clA K c.s) dx gs) → Rfs K ns (Nw L H) H' gs fs → Q .non H'
theorem pu_make {n : Nat} {I : List D → Option (List (Fl × D))} {t : TA} {f : AF} {E : XK} (c : Cl) (d : CF K ns c) (h : PuA K ns n t f) : PuE K ns (tMake (clA K c.s) (spI K ns c n I) [] E t) (makeD c I f) := by
  intro L env σ H Q r he hf k
  obtain ⟨as, ea, hf⟩ := bnd hf
  obtain ⟨fs, ef, rfl⟩ := Option.map_eq_some_iff.mp hf
  refine h L env σ H _ as he ea fun vs H1 hl S1 rv x dx hx hd hne => ?_
  have up : ∀ b o, H1 b = some o → upd (upd H1 dx (.own x)) x (.ins (clA K c.s) dx []) b = some o := fun b o e => by rw [upd_ne (ne_of_none e hx), upd_ne (ne_of_none e hd)]; exact e
  refine ⟨x, dx, vs, fun a => Nw L H a ∧ a ≠ x, as, fs, by rw [List.append_nil], hl, upd_same, fun q => q.2 rfl, d, rv.mono2 (fun a o e l => ⟨l, ne_of_none e hx⟩) (.of up), ef, fun H' gs kp e' rf => ⟨rfl, ?_⟩⟩
  have up2 : Same H1 H' := fun b o e => kp b o (ne_of_none e hx) (up b o e)
  refine k _ _ (S1.trans up2) (.ob (.inr (back S1 hx)) e' d (rf.mono2 (fun a o e l => ?_) .refl))
  rcases l with l | l
  · exact l.1
  · refine .inr (back S1 ?_)
    cases z : H1 a with
    | none => rfl
    | some o' => rw [up a o' z] at l; cases l
def Fl.un (x : Str) : Option Fl := ([.length, .name, .bears, .wide, .most, .pieces, .rounds, .shuts, .speed, .wheels, .cart, .way, .start, .crossings, .ended, .road, .loads, .sends] : List Fl).find? fun f => decide (f.s = x)
theorem Fl.un_s (f : Fl) : Fl.un f.s = some f := by cases f <;> decide
theorem Fl.inj {c d : Fl} (h : c.s = d.s) : c = d := Option.some.inj (by rw [← Fl.un_s c, ← Fl.un_s d, h])
def PuN (K : PySem.W.Frag) (ns : List Str) (C : Addr) (t : TS) (l : List (Fl × VF)) : Prop := ∀ (L : Addr → Prop) (env : Env) (σ : St) (H : Hp) (E : Ends) (x dx : Addr) (gs : List (Str × V)) (fs fs' : List (Fl × D)), σ[0]? = some (some (.ref x)) → H x = some (.ins C dx gs) → ¬ L x → Cls K C → (∀ f ∈ l, NoAttr K C f.1.s) → gs.length + l.length < 900 → (fs.map Prod.fst ++ l.map Prod.fst).Nodup → EnvR K ns L env σ H → Rfs K ns L H gs fs → initF l env = some fs' →
  (∀ H' gs', (∀ b o, b ≠ x → H b = some o → H' b = some o) → H' x = some (.ins C dx gs') → gs'.length ≤ gs.length + l.length → Rfs K ns (Nw L H) H' gs' (fs ++ fs') → E.nx σ H') → t E σ H
theorem putF_len {f : Str} {v : V} : ∀ {gs : List (Str × V)}, (putF f v gs).length ≤ gs.length + 1
  | [] => Nat.le_refl _
  | (g, x) :: r => by
    unfold putF
    split
    · exact Nat.le_succ _
    · exact Nat.succ_le_succ putF_len
theorem rfs_put {L : Addr → Prop} {H : Hp} {f : Fl} {v : V} {gs : List (Str × V)} {fs : List (Fl × D)} (h : Rfs K ns L H gs fs) : f ∉ fs.map Prod.fst → Rfs K ns L H (putF f.s v gs) fs := by
  induction fs with
  | nil => intro _; exact .nil
  | cons g fs ih =>
    intro hn
    cases h with
    | cons e h t =>
      refine .cons ?_ h (ih t fun q => hn (List.mem_cons_of_mem _ q))
      rw [lookup_putF, if_neg fun z => hn (by rw [Fl.inj z]; exact List.mem_cons_self)]
      exact e
theorem rfs_app {L : Addr → Prop} {H : Hp} {gs : List (Str × V)} {fs es : List (Fl × D)} (h : Rfs K ns L H gs fs) (s : Rfs K ns L H gs es) : Rfs K ns L H gs (fs ++ es) := by
  induction fs with
  | nil => exact s
  | cons g fs ih =>
    cases h with
    | cons e h t => exact .cons e h (ih t)
theorem pn_one {C : Addr} {te : TE} {fe : VF} (f : Fl) (h : PuE K ns te fe) : PuN K ns C (sFld K (tVar 0) te f.s) [(f, fe)] := by
  intro L env σ H E x dx gs fs fs' hs hx hl cl na hlen nd he rf hi k
  obtain ⟨d, ed, hi⟩ := bnd hi
  cases hi
  refine h L env σ H _ d he ed fun v H1 S1 rv => ⟨_, hs, x, C, dx, gs, rfl, S1 _ _ hx, cl, na _ (List.mem_singleton.mpr rfl), by simp only [List.length_singleton] at hlen; omega, ?_⟩
  have np : ¬ Nw L H x := fun q => q.elim hl fun z => by rw [hx] at z; cases z
  have kp : KeepL (Nw L H) H1 (upd H1 x (.ins C dx (putF f.s v gs))) := fun a o e hm => by
    by_cases z : a = x
    · subst z
      rw [S1 _ _ hx] at e
      cases e
      exact absurd (hm rfl) np
    · rw [upd_ne z]; exact e
  have nf : f ∉ fs.map Prod.fst := fun q => by
    have := (List.nodup_append.mp nd).2.2 _ q f (List.mem_singleton.mpr rfl)
    exact this rfl
  refine k _ _ (fun b o hb e => by rw [upd_ne hb]; exact S1 _ _ e) upd_same (by simpa using putF_len) ?_
  refine rfs_app ((rfs_put rf nf).mono (fun _ => .inl) (fun a o e hm => ?_)) (.cons (by rw [lookup_putF, if_pos rfl]) (rv.mono (fun _ q => q) kp) .nil)
  exact kp a o (S1 _ _ e) fun q => .inl (hm q)
theorem pn_seq {C : Addr} {t u : TS} {a : Fl × VF} {r : List (Fl × VF)} (h1 : PuN K ns C t [a]) (h2 : PuN K ns C u r) : PuN K ns C (tSeq t u) (a :: r) := by
  intro L env σ H E x dx gs fs fs' hs hx hl cl na hlen nd he rf hi k
  obtain ⟨f, fe⟩ := a
  obtain ⟨d, ed, hi⟩ := bnd hi
  obtain ⟨rest, er, rfl⟩ := Option.map_eq_some_iff.mp hi
  have nd' : (fs.map Prod.fst ++ [f]).Nodup ∧ ((fs ++ [(f, d)]).map Prod.fst ++ r.map Prod.fst).Nodup := by
    rw [List.map_cons] at nd
    have e : fs.map Prod.fst ++ f :: r.map Prod.fst = (fs.map Prod.fst ++ [f]) ++ r.map Prod.fst := by simp
    rw [e] at nd
    exact ⟨(List.nodup_append.mp nd).1, by simpa using nd⟩
  refine h1 L env σ H _ x dx gs fs [(f, d)] hs hx hl cl (fun g hg => na g (by rw [List.mem_singleton.mp hg]; exact List.mem_cons_self)) (by simp only [List.length_cons] at hlen; simp only [List.length_singleton]; omega) nd'.1 he rf (by show (fe env).bind _ = _; rw [ed]; rfl) fun H1 gs1 kp1 hx1 hl1 rf1 => ?_
  have np : ¬ Nw L H x := fun q => q.elim hl fun z => by rw [hx] at z; cases z
  have hk : KeepL L H H1 := fun a o e hm => by
    by_cases z : a = x
    · subst z
      rw [hx] at e
      cases e
      exact absurd (hm rfl) hl
    · exact kp1 a o z e
  refine h2 (Nw L H) env σ H1 E x dx gs1 (fs ++ [(f, d)]) rest hs hx1 np cl (fun g hg => na g (List.mem_cons_of_mem _ hg)) (by simp only [List.length_cons, List.length_nil] at hlen hl1 ⊢; omega) nd'.2 (fun i d' e => by
    obtain ⟨v, q, rr⟩ := he i d' e
    exact ⟨v, q, rr.mono (fun _ => .inl) hk⟩) rf1 er fun H2 gs2 kp2 hx2 hl2 rf2 => ?_
  refine k H2 gs2 (fun b o hb e => kp2 b o hb (kp1 b o hb e)) hx2 (by simp only [List.length_cons, List.length_nil] at hl1 hl2 ⊢; omega) ?_
  rw [List.append_assoc] at rf2
  refine rf2.mono (fun a q => ?_) .refl
  rcases q with q | q
  · exact q
  · by_cases z : a = x
    · subst z; rw [hx1] at q; cases q
    · refine .inr ?_
      cases w : H a with
      | none => rfl
      | some o => rw [kp1 a o z w] at q; cases q
theorem init_ok {c : Cl} {t : TS} {l : List (Fl × VF)} {n : Nat} {N : List Str} {vs : List V} {H : Hp} {Q : VK} {E : XK} (h : PuN K ns (clA K c.s) t l) (hf : l.map Prod.fst = c.fs) (hN : N.length = n + 1) (s : spI K ns c n (initD l) vs H Q E) : t { nx := fun _ H' => Q .non H', rt := Q } (start N vs) H := by
  obtain ⟨x, dx, us, L, ds, fs, rfl, hl, hx, nl, cf, r, ei, k⟩ := s
  have hlen : l.length < 800 := by
    have := congrArg List.length hf
    rw [List.length_map] at this
    rw [this]
    cases c <;> decide
  have nd : (l.map Prod.fst).Nodup := by rw [hf]; cases c <;> decide
  have st : start N (.ref x :: us) = some (.ref x) :: us.map some := by
    unfold L2.start
    have : N.length - (V.ref x :: us).length = 0 := by rw [List.length_cons, r.len]; omega
    rw [this]
    simp
  rw [st]
  refine h L (none :: ds.map some) _ H _ x dx [] [] fs rfl hx nl cf.cls (fun f hf' => cf.na _ ?_) (by show 0 + l.length < 900; omega) (by simpa using nd) (fun i d e => ?_) .nil ei fun H' gs kp hx' _ rf => k H' gs kp hx' (by simpa using rf)
  · rw [← hf, List.map_map]
    exact List.mem_map.mpr ⟨f, hf', rfl⟩
  · cases i with
    | zero => cases e
    | succ i =>
      have e' : (ds.map some)[i]? = some (some d) := e
      rw [List.getElem?_map] at e'
      obtain ⟨d', hd, e'⟩ := Option.map_eq_some_iff.mp e'
      cases e'
      obtain ⟨v, hv, rv⟩ := r.get hd
      exact ⟨v, by show (us.map some)[i]? = _; rw [List.getElem?_map, hv]; rfl, rv⟩
theorem spI_len {c : Cl} {n : Nat} {I : List D → Option (List (Fl × D))} {vs : List V} {H : Hp} {Q : VK} {E : XK} (h : spI K ns c n I vs H Q E) : vs.length = n + 1 := by
  obtain ⟨x, dx, us, L, ds, fs, rfl, hl, _, _, _, r, _⟩ := h
  rw [List.length_cons, r.len, hl]
def gRow : Nat → Nat → TGs
  | _, 0 => gNil
  | j, n + 1 => gCons (gName j) (gRow (j + 1) n)
theorem gRow_ok {Q : St → Hp → Prop} {H : Hp} {c : St} : ∀ (n : Nat) (pre xs : List V), xs.length = n → Q ((pre ++ xs).map some ++ c) H → gRow pre.length n xs (pre.map some ++ (List.replicate n none ++ c)) H Q
  | 0, pre, [], _, q => ⟨rfl, by simpa using q⟩
  | n + 1, pre, x :: xs, hl, q => by
    refine ⟨x, xs, rfl, ?_⟩
    show gRow (pre.length + 1) n xs ((pre.map some ++ (List.replicate (n + 1) none ++ c)).set pre.length (some x)) H Q
    have e : (pre.map some ++ (List.replicate (n + 1) none ++ c)).set pre.length (some x) = (pre ++ [x]).map some ++ (List.replicate n none ++ c) := by
      rw [List.set_append_right _ _ (by simp)]
      simp [List.replicate_succ]
    rw [e]
    have := gRow_ok (Q := Q) (H := H) (c := c) n (pre ++ [x]) xs (by simpa using hl) (by simpa using q)
    simpa using this
def compTD (kx : Nat) (fc : BF) (fe : VF) (caps : Env) : List D → Option (List D)
  | [] => some []
  | .tup ds :: xs => if ds.length = kx then (fc (ds.map some ++ caps)).bind fun b => if b = true then (fe (ds.map some ++ caps)).bind fun y => (compTD kx fc fe caps xs).map (y :: ·) else compTD kx fc fe caps xs else none
  | _ => none
def compT (kx : Nat) (fi : AF) (fc : BF) (fe : VF) (cap : List Nat) : VF := fun env => (fi env).bind fun ds => if ds.length < 1000000 then (compTD kx fc fe (capsD cap env) ds).map .lst else none
theorem capsT_ok {L : Addr → Prop} {env : Env} {σ : St} {H : Hp} {xs : List V} {ds : List D} {cap : List Nat} (he : EnvR K ns L env σ H) (hx : Rds K ns L H xs ds) : EnvR K ns L (ds.map some ++ capsD cap env) (xs.map some ++ cap.map fun i => (σ[i]?).join) H := by
  intro i d e
  by_cases hi : i < ds.length
  · rw [List.getElem?_append_left (by simpa using hi), List.getElem?_map] at e
    obtain ⟨d', hd, e⟩ := Option.map_eq_some_iff.mp e
    cases e
    obtain ⟨v, hv, rv⟩ := hx.get hd
    exact ⟨v, by rw [List.getElem?_append_left (by rw [List.length_map, hx.len]; exact hi), List.getElem?_map, hv]; rfl, rv⟩
  · rw [List.getElem?_append_right (by simpa using hi), List.length_map] at e
    have q := caps_ok (cap := cap) (x := .non) he .non (i - ds.length + 1) d e
    obtain ⟨v, hv, rv⟩ := q
    refine ⟨v, ?_, rv⟩
    rw [List.getElem?_append_right (by rw [List.length_map, hx.len]; omega), List.length_map, hx.len]
    exact hv
theorem pu_compT {kx : Nat} {wi : TI} {tc : TT} {te : TE} {fi : AF} {fc : BF} {fe : VF} {cap : List Nat} (hi : PuI K ns wi fi) (hc : PuT K ns tc fc) (he : PuE K ns te fe) : PuF K ns (tCompT wi kx (gTup K kx (gRow 0 kx)) tc te cap) (compT kx fi fc fe cap) := by
  intro L env σ H Q d hE hf k
  obtain ⟨ds, ei, hf⟩ := bnd hf
  split at hf
  case isFalse => cases hf
  rename_i hn
  obtain ⟨out, eo, rfl⟩ := Option.map_eq_some_iff.mp hf
  refine hi L env σ H _ ds hE ei fun J H1 S1 it => ?_
  intro acc ha
  have hacc : H acc = none := back S1 ha
  have E1 : EnvR K ns (Lx L H acc) env σ H1 := (hE.mono2 (L' := Lx L H acc) (fun a o e l => ⟨.inl l, ne_of_none e hacc⟩) .refl).same S1
  refine ⟨fun i m H2 => m = ds.length - i ∧ i ≤ ds.length ∧ Same H1 H2 ∧ ∃ ys dn rest, H2 acc = some (.lst ys) ∧ Rds K ns (Lx L H acc) H2 ys dn ∧ ys.length ≤ i ∧ compTD kx fc fe (capsD cap env) (ds.drop i) = some rest ∧ dn ++ rest = out, ⟨_, rfl, Nat.zero_le _, same_new0 ha _, [], [], out, upd_same, .nil, Nat.le_refl _, by rw [List.drop_zero]; exact eo, rfl⟩, ?_⟩
  rintro i m H2 ⟨rfl, hle, S2, ys, dn, rest, ea, rd, hy, ec, ed⟩
  obtain ⟨go, stop⟩ := it (Lx L H acc) i H2 (fun a o e l => ⟨l, ne_of_none e ha⟩) (.of S2)
  by_cases hlt : i < ds.length
  · obtain ⟨g, yl⟩ := go ds[i] (List.getElem?_eq_getElem hlt)
    refine .inr ⟨g, fun x H3 y => ?_⟩
    obtain ⟨S3, rx⟩ := yl x H3 y
    have ea3 := S3 _ _ ea
    have rx2 : Rd K ns (Lx L H acc) H3 x ds[i] := rx.mono2 (fun a o e l => by
      rcases l with l | l
      · exact l
      · exact ⟨.inr (back (S1.trans S2) l), fun z => by rw [z, ea] at l; cases l⟩) .refl
    rw [List.drop_eq_getElem_cons hlt] at ec
    generalize ds[i] = di at rx2 ec
    cases di <;> first | (cases ec; done) | skip
    rename_i es
    rw [compTD] at ec
    split at ec
    case isFalse => cases ec
    rename_i hk
    cases rx2 with
    | tup et rt =>
      rename_i ta vs
      have hvl : vs.length = kx := by rw [rt.len, hk]
      refine ⟨_, vs, rfl, SqT.of et, hvl, ?_⟩
      have base : gRow 0 kx vs (List.replicate kx none ++ cap.map fun i => (σ[i]?).join) H3 = gRow ([] : List V).length kx vs (([] : List V).map some ++ (List.replicate kx none ++ cap.map fun i => (σ[i]?).join)) H3 := rfl
      show gRow 0 kx vs (List.replicate kx none ++ cap.map fun i => (σ[i]?).join) H3 _
      rw [base]
      refine gRow_ok kx [] vs hvl ⟨⟨by simp [inStT, hvl], fun j v hj => ?_⟩, ?_⟩
      · unfold inStT at hj
        by_cases hjk : j < kx
        · rw [List.getElem?_append_left (by simpa using hjk)] at hj
          have := List.eq_of_mem_replicate (List.mem_of_getElem? hj)
          cases this
        · rw [List.getElem?_append_right (by simpa using hjk), List.length_replicate] at hj
          rw [List.nil_append, List.getElem?_append_right (by rw [List.length_map, hvl]; omega), List.length_map, hvl]
          exact hj
      have E3 : EnvR K ns (Lx L H acc) (es.map some ++ capsD cap env) (([] ++ vs).map some ++ cap.map fun i => (σ[i]?).join) H3 := capsT_ok ((E1.same S2).same S3) rt
      obtain ⟨b, eb, ec⟩ := bnd ec
      refine hc _ _ _ _ _ b E3 eb fun H4 S4 => ?_
      have ea4 := S4 _ _ ea3
      cases b with
      | false =>
        rw [if_neg Bool.false_ne_true] at ec ⊢
        exact ⟨ds.length - (i + 1), by omega, rfl, hlt, S2.trans (S3.trans S4), ys, dn, rest, ea4, rd.same (S3.trans S4), by omega, ec, ed⟩
      | true =>
        rw [if_pos rfl] at ec ⊢
        obtain ⟨y, ey, ec⟩ := bnd ec
        obtain ⟨rest', er, rfl⟩ := Option.map_eq_some_iff.mp ec
        refine he _ _ _ _ _ y (E3.same S4) ey fun v H5 S5 rv => ?_
        have ea5 := S5 _ _ ea4
        have SS := S3.trans (S4.trans S5)
        have up : ∀ {L3 : Addr → Prop}, ¬ L3 acc → KeepL L3 H5 (upd H5 acc (.lst (ys ++ [v]))) := fun {L3} hl a o e hm => by
          by_cases z : a = acc
          · subst z
            rw [ea5] at e
            cases e
            exact absurd (hm rfl) hl
          · rw [upd_ne z]; exact e
        have rv2 : Rd K ns (Lx L H acc) H5 v y := rv.mono2 (fun a o e l => by
          rcases l with l | l
          · exact l
          · exact ⟨.inr (back (S1.trans (S2.trans (S3.trans S4))) l), fun z => by rw [z, ea4] at l; cases l⟩) .refl
        refine ⟨ys, ea5, Nat.lt_of_le_of_lt hy (Nat.lt_trans hlt (Nat.lt_trans hn (by decide))), ds.length - (i + 1), by omega, rfl, hlt, fun a o e => ?_, ys ++ [v], dn ++ [y], rest', upd_same, ?_, ?_, er, by rw [← ed]; simp⟩
        · rw [upd_ne (ne_of_none e ha)]
          exact SS _ _ (S2 _ _ e)
        · exact ((rd.same SS).append (.cons rv2 .nil)).mono (fun _ q => q) (up fun q => q.2 rfl)
        · rw [List.length_append, List.length_singleton]; omega
  · have hi' : ds.length = i := by omega
    refine .inl ⟨stop hi', ?_⟩
    rw [List.drop_of_length_le (by omega)] at ec
    cases ec
    rw [List.append_nil] at ed
    subst ed
    exact k acc ys dn H2 rfl (S1.trans S2) hacc ea rd
end
end PD
namespace PD
open PySem L2
section
variable {K : PySem.W.Frag} {ns : List Str}
theorem oS {t : TE} {g : D → D → Option D} {a b : VF} (h : PuE K ns t (oD g a b)) : PuE K ns t (oD (sealed g) a b) := by rw [seal_eq]; exact h
theorem oSF {t : TE} {g : D → D → Option D} {a b : VF} (h : PuF K ns t (oD g a b)) : PuF K ns t (oD (sealed g) a b) := by rw [seal_eq]; exact h
theorem uS {t : TE} {g : D → Option D} {a : VF} (h : PuE K ns t (uD g a)) : PuE K ns t (uD (sealed g) a) := by rw [seal_eq]; exact h
theorem cS {t : TE} {g : List D → Option D} {a : AF} (h : PuE K ns t (callD g a)) : PuE K ns t (callD (sealed g) a) := by rw [seal_eq]; exact h
theorem cSF {t : TE} {g : List D → Option D} {a : AF} (h : PuF K ns t (callD g a)) : PuF K ns t (callD (sealed g) a) := by rw [seal_eq]; exact h
theorem slS {t : TE} {g : D → Option Int → Option Int → Option D} {a : VF} {b c : OF} (h : PuE K ns t (slD g a b c)) : PuE K ns t (slD (sealed g) a b c) := by rw [seal_eq]; exact h
theorem iS {t : TI} {g : List D → Option (List D)} {a : AF} (h : PuI K ns t (iaD g a)) : PuI K ns t (iaD (sealed g) a) := by rw [seal_eq]; exact h
theorem Iv.store0 {fl : List Bool} {L0 : Addr → Prop} {H0 H : Hp} {O : List (Option Addr)} {env : Env} {σ : St} (I : Iv K ns fl L0 H0 O env σ H) {i : Nat} {v : V} {d : D} (hi : fl[i]? = some false) (r : Rd K ns (Lm L0 H0 O) H v d) : Iv K ns fl L0 H0 O (env.set i (some d)) (σ.set i (some v)) H := by
  have := I.store (i := i) r
  have e1 : fl.set i false = fl := set_same hi
  have e2 : O.set i none = O := set_same (I.free hi)
  rw [e1, e2] at this
  exact this
def parS (i j : Nat) (fa : AF) : SF := fun env => (fa env).bind fun
  | [a, b] => some (.nx ((env.set i (some a)).set j (some b)))
  | _ => none
theorem s_par {fr : Bool} {lf fl : List Bool} (i j : Nat) {t : TA} {f : AF} (h : PuA K ns 2 t f) (hi : fl[i]? = some false) (hj : fl[j]? = some false) : PuS K ns fr lf fl (tPar i j t) (parS i j (mk fl f)) fl := by
  intro L0 H0 O env σ H E I k
  unfold parS mk at k
  cases e : f (maskD fl env) with
  | none => rw [e] at k; exact k.elim
  | some ds =>
    rw [e] at k
    refine h _ (maskD fl env) σ H _ ds I.strict e fun vs H' hl S r => ?_
    match ds, r, hl, k with
    | [a, b], r, _, k =>
      obtain ⟨x, y, rfl, r1, r2⟩ := two_of r
      refine ⟨x, y, rfl, ?_⟩
      have I' := I.same S
      have m1 := r1.mono (L' := Lm L0 H0 O) (fun _ q => I.nwm q) .refl
      have m2 := r2.mono (L' := Lm L0 H0 O) (fun _ q => I.nwm q) .refl
      exact k _ _ _ (.same S) ((I'.store0 hi m1).store0 hj m2)
    | [], _, hl, _ => cases hl
    | [_], _, hl, _ => cases hl
    | _ :: _ :: _ :: _, _, hl, _ => simp at hl
end
end PD
namespace L2
open PySem PySem.Spec PyProof.Rows
section
variable {X : Cx}
theorem hu1 {n : Nat} (h : n + 64 < cLine) : n + 1 < cLine := Nat.lt_of_le_of_lt (by omega) h
theorem pe_goI {P w K mg base k x ps sp n e es t p pos} (g : Got P w K mg base k x ps sp) (e1 : X.prog = P) (e2 : X.w = w) (e3 : X.K = K) (e4 : X.mg = mg) (e5 : X.base = base) (hr : Room n X.A) (hk : k ≤ n) (hg : Gl X x) (ha : PA X (e :: es) t) (hdb : (x == ("__debug__" : Str)) = false := by decide)
    (he : starEach (e :: es) X.env = (false, eval e X.env) :: starEach es X.env := by rfl) (hpl : (backTo pos (starEach es X.env)).any (·.1) = false := by rfl) :
    PE X (.Call (.Name x p) (e :: es) [] pos) (tCall sp [] E0 t) := by
  subst e1 e2 e3 e4 e5
  exact pe_go g hr hk hg ha hdb he hpl
end
end L2
namespace PD
open PySem L2
def keyOf : D → Option Key
  | .int i => some (.inl i)
  | .str s => some (.inr s)
  | _ => none
def keysOf : List D → Option (List Key)
  | [] => some []
  | d :: r => (keyOf d).bind fun k => (keysOf r).map (k :: ·)
def putD {κ : Type} [DecidableEq κ] : List κ → List D → κ → D → List D
  | j :: ks, d :: ds, k, v => (if j = k then v else d) :: putD ks ds k v
  | _, _, _, _ => []
def dputD : D → D → D → Option D
  | .dk ks ds, k, v => (keyOf k).bind fun k => if ks.length < 1000000 then some (if (ks.any fun j => decide (j = k)) = true then .dk ks (putD ks ds k v) else .dk (ks ++ [k]) (ds ++ [v])) else none
  | .dt ks ds, .tup xs, v => (keysOf xs).bind fun k => if ks.length < 1000000 then some (if (ks.any fun j => decide (j = k)) = true then .dt ks (putD ks ds k v) else .dt (ks ++ [k]) (ds ++ [v])) else none
  | _, _, _ => none
section
variable {K : PySem.W.Frag} {ns : List Str} {L : Addr → Prop} {H : Hp}
theorem bind_some' {α β : Type} {a : α} {f : α → Option β} : (some a).bind f = f a := rfl
theorem key_rd {v : V} {d : D} {k : Key} (r : Rd K ns L H v d) (h : keyOf d = some k) : v = kV k := by
  cases r <;> first | (cases h; done) | (cases h; rfl)
theorem keys_rd {vs : List V} {ds : List D} {ks : List Key} (r : Rds K ns L H vs ds) (h : keysOf ds = some ks) : vs = ks.map kV := by
  induction vs generalizing ds ks with
  | nil => rw [r.nilL] at h; cases h; rfl
  | cons v vs ih =>
    obtain ⟨d, es, rfl, a, t⟩ := r.consL
    obtain ⟨k, e1, h⟩ := bnd h
    obtain ⟨l, e2, rfl⟩ := Option.map_eq_some_iff.mp h
    rw [key_rd a e1, ih t e2]
    rfl
theorem put_rd {κ : Type} [DecidableEq κ] (k : κ) {v : V} {d : D} (rv : Rd K ns L H v d) : ∀ {kvs : List (κ × V)} {ds : List D}, Rds K ns L H (kvs.map (·.2)) ds → Rds K ns L H ((kvs.map fun kv => if kv.1 = k then (kv.1, v) else kv).map (·.2)) (putD (kvs.map (·.1)) ds k d)
  | [], _, .nil => .nil
  | (j, w) :: kvs, _, .cons (d := e) (ds := ds) a t => by
    show Rds K ns L H ((if j = k then (j, v) else (j, w)).2 :: _) ((if j = k then d else e) :: _)
    by_cases z : j = k
    · rw [if_pos z, if_pos z]
      exact .cons rv (put_rd k rv t)
    · rw [if_neg z, if_neg z]
      exact .cons a (put_rd k rv t)
theorem put_keys {κ : Type} [DecidableEq κ] (k : κ) {v : V} (kvs : List (κ × V)) : (kvs.map fun kv => if kv.1 = k then (kv.1, v) else kv).map (·.1) = kvs.map (·.1) := by
  rw [List.map_map]
  refine List.map_congr_left fun kv _ => ?_
  show (if kv.1 = k then (kv.1, v) else kv).1 = kv.1
  split <;> rfl
theorem any_keys {κ : Type} [DecidableEq κ] (k : κ) (kvs : List (κ × V)) : (kvs.any fun kv => decide (kv.1 = k)) = ((kvs.map (·.1)).any fun j => decide (j = k)) := by
  rw [List.any_map]
  rfl
def dputW (i : Nat) (fk fv : VF) : SF := fun env => (fv env).bind fun v => (fk env).bind fun k => if v.flat = true then (env[i]?).join.bind fun d => (dputD d k v).bind fun e => some (.nx (env.set i (some e))) else none
theorem s_dput {fr : Bool} {lf fl : List Bool} (i : Nat) {ty tv : TE} {fk fv : VF} (hk : PuE K ns ty fk) (hv : PuE K ns tv fv) (hi : fl[i]? = some true) : PuS K ns fr lf fl (sDPut (tVar i) ty tv) (dputW i fk fv) fl := by
  intro L0 H0 O env σ H E I k
  unfold dputW at k
  cases ev : fv env with
  | none => rw [ev] at k; exact k.elim
  | some v =>
    rw [ev] at k
    cases ek : fk env with
    | none => rw [bind_some', ek] at k; exact k.elim
    | some y =>
      rw [bind_some', ek, bind_some'] at k
      by_cases hfl : v.flat = true
      · rw [if_pos hfl] at k
        obtain ⟨p, ho⟩ := I.owned hi
        refine hv _ env σ H _ v I.weak ev fun w H1 S1 rv => ?_
        have I1 := I.same S1
        obtain ⟨h0, hs, o, d, e, hp, r⟩ := I1.ow i p ho
        refine ⟨_, hs, ?_⟩
        refine hk _ env σ H1 _ y I1.weak ek fun u H2 S2 ry => ?_
        have I2 := I1.same S2
        have hp2 := S2 _ _ hp
        have rv2 : Rd K ns (Lm L0 H0 O) H2 w v := (rv.same S2).flat hfl
        rw [e] at k
        have k : Fin K ns fr lf fl L0 H0 O H E ((dputD d y v).bind fun e => some (.nx (env.set i (some e)))) := k
        have T : ∀ {o' : HO}, Step O H O (upd H2 p o') := fun {o'} => (Step.same (S1.trans S2)).trans (.alter (List.mem_of_getElem? ho))
        rcases (r.same S2).case with ⟨vs, ds, rfl, rfl, r3⟩ | ⟨kvs, ds, rfl, rfl, r3⟩ | ⟨kvs, ds, rfl, rfl, r3⟩
        · exact k.elim
        · cases ej : keyOf y with
          | none => exact Fin.no k (by show ((keyOf y).bind _).bind _ = _; rw [ej]; rfl)
          | some j =>
            have hz := key_rd ry ej
            subst hz
            have k : Fin K ns fr lf fl L0 H0 O H E (((keyOf y).bind fun j => if (kvs.map (·.1)).length < 1000000 then some (if ((kvs.map (·.1)).any fun i => decide (i = j)) = true then D.dk (kvs.map (·.1)) (putD (kvs.map (·.1)) ds j v) else .dk (kvs.map (·.1) ++ [j]) (ds ++ [v])) else none).bind fun e => some (.nx (env.set i (some e)))) := k
            rw [ej, bind_some'] at k
            by_cases hl : (kvs.map (·.1)).length < 1000000
            · rw [if_pos hl, bind_some'] at k
              refine ⟨p, _, rfl, DPut.k hp2 (by rw [List.length_map] at hl; exact Nat.lt_trans hl (by decide)), ?_⟩
              unfold putK
              rw [any_keys]
              by_cases hb : ((kvs.map (·.1)).any fun i => decide (i = j)) = true
              · rw [if_pos hb] at k ⊢
                exact k _ _ _ T (I2.alterO ho ⟨put_keys j kvs, put_rd j rv2 r3⟩)
              · rw [if_neg hb] at k ⊢
                exact k _ _ _ T (I2.alterO ho ⟨by rw [List.map_append]; rfl, by rw [List.map_append]; exact r3.append (.cons rv2 .nil)⟩)
            · rw [if_neg hl] at k
              exact k.elim
        · cases y with
          | tup xs =>
            cases ej : keysOf xs with
            | none => exact Fin.no k (by show ((keysOf xs).bind _).bind _ = _; rw [ej]; rfl)
            | some j =>
              cases ry with
              | @tup b us es eb rb =>
                have hz := keys_rd rb ej
                subst hz
                have k : Fin K ns fr lf fl L0 H0 O H E (((keysOf xs).bind fun j => if (kvs.map (·.1)).length < 1000000 then some (if ((kvs.map (·.1)).any fun i => decide (i = j)) = true then D.dt (kvs.map (·.1)) (putD (kvs.map (·.1)) ds j v) else .dt (kvs.map (·.1) ++ [j]) (ds ++ [v])) else none).bind fun e => some (.nx (env.set i (some e)))) := k
                rw [ej, bind_some'] at k
                by_cases hl : (kvs.map (·.1)).length < 1000000
                · rw [if_pos hl, bind_some'] at k
                  refine ⟨p, _, rfl, DPut.t hp2 eb (by rw [List.length_map] at hl; exact Nat.lt_trans hl (by decide)), ?_⟩
                  unfold putK
                  rw [any_keys]
                  by_cases hb : ((kvs.map (·.1)).any fun i => decide (i = j)) = true
                  · rw [if_pos hb] at k ⊢
                    exact k _ _ _ T (I2.alterO ho ⟨put_keys j kvs, put_rd j rv2 r3⟩)
                  · rw [if_neg hb] at k ⊢
                    exact k _ _ _ T (I2.alterO ho ⟨by rw [List.map_append]; rfl, by rw [List.map_append]; exact r3.append (.cons rv2 .nil)⟩)
                · rw [if_neg hl] at k
                  exact k.elim
          | _ => exact k.elim
      · rw [if_neg hfl] at k
        exact k.elim
theorem s_dnewT {fr : Bool} {lf fl : List Bool} (i : Nat) (hi : i < fl.length) : PuS K ns fr lf fl (tAsg tDNewT (gName i)) (setS i (cD (.dt [] []))) (fl.set i true) := by
  intro L0 H0 O env σ H E I k
  refine fun p hp => ?_
  exact k _ _ _ (.take (same_new0 hp _) hp) (I.takeO (vs := .dT []) (ds := .dt [] []) (same_new0 hp _) hp upd_same ⟨rfl, .nil⟩ (by rw [← I.fl, List.length_map] at hi; exact hi))
def keyD : Key → D
  | .inl i => .int i
  | .inr s => .str s
def dlistT : List D → Option D
  | [.dt ks _] => some (.lst (ks.map fun k => .tup (k.map keyD)))
  | _ => none
theorem keyD_rd (k : Key) : Rd K ns L H (kV k) (keyD k) := by
  cases k with
  | inl i => exact .int i
  | inr s => exact .str s
theorem keysD_rd : ∀ ks : List Key, Rds K ns L H (ks.map kV) (ks.map keyD)
  | [] => .nil
  | k :: ks => .cons (keyD_rd k) (keysD_rd ks)
theorem refs_rd : ∀ {bs : List Addr} {ks : List (List Key)}, bs.length = ks.length → (∀ (j : Nat) (b : Addr) (k : List Key), bs[j]? = some b → ks[j]? = some k → H b = some (.tup (k.map kV))) → Rds K ns L H (bs.map V.ref) (ks.map fun k => D.tup (k.map keyD))
  | [], [], _, _ => .nil
  | b :: bs, k :: ks, h, q => .cons (.tup (q 0 b k rfl rfl) (keysD_rd k)) (refs_rd (by simpa using h) fun j b k h1 h2 => q (j + 1) b k (by simpa using h1) (by simpa using h2))
  | [], _ :: _, h, _ => by simp at h
  | _ :: _, [], h, _ => by simp at h
theorem caf_listT : CaF K ns rListT dlistT := by
  intro L H xs as d Q r hf k
  cases r with
  | nil => cases hf
  | cons h t =>
    cases t with
    | cons _ _ => cases h <;> cases hf
    | nil =>
      cases h with
      | @dt a kvs ds l e r =>
        cases hf
        refine ⟨a, kvs, rfl, e, fun p bs hp hb hk => k p _ _ _ rfl (same_new0 hp _) hp upd_same (refs_rd (by rw [List.length_map]; exact hb) fun j b k h1 h2 => ?_)⟩
        rw [List.getElem?_map] at h2
        obtain ⟨x, hx, rfl⟩ := Option.map_eq_some_iff.mp h2
        exact same_new0 hp _ _ _ (hk j b x h1 hx)
      | _ => cases hf
end
end PD
namespace PD
open PySem L2
def chD (g g' : D → D → Option D) (fa fb fc : VF) : VF := fun env => (fa env).bind fun a => (fb env).bind fun b => (g a b).bind fun
  | .bl x => if x = true then (fc env).bind fun c => g' b c else some (.bl false)
  | _ => none
section
variable {K : PySem.W.Frag} {ns : List Str}
theorem R2P.s {r : R2} {g : D → D → Option D} (h : R2P K ns r g) : R2P K ns r (sealed g) := by rw [seal_eq]; exact h
theorem pu_chain {r r' : R2} {g g' : D → D → Option D} {ta tb tc : TE} {fa fb fc : VF} (hr : R2P K ns r g) (hr' : R2P K ns r' g') (ha : PuE K ns ta fa) (hb : PuE K ns tb fb) (hc : PuE K ns tc fc) : PuE K ns (tChain r r' ta tb tc) (chD (sealed g) (sealed g') fa fb fc) := by
  intro L env σ H Q d he hf k
  obtain ⟨a, ea, hf⟩ := bnd hf
  obtain ⟨b, eb, hf⟩ := bnd hf
  obtain ⟨z, ez, hf⟩ := bnd hf
  refine ha L env σ H _ a he ea fun x H1 S1 rx => hb (Nw L H) env σ H1 _ b (he.nw S1) eb fun y H2 S2 ry => ?_
  refine hr.s (Nw (Nw L H) H1) H2 x y a b z _ (rx.mono (fun _ => .inl) (.of S2)) ry ez fun v H3 S3 rv => ?_
  obtain ⟨c, rfl, hf⟩ := bl_inv hf
  refine ⟨c, rv.blI, ?_⟩
  cases c with
  | false =>
    rw [if_neg Bool.false_ne_true]
    cases hf
    exact k _ _ (S1.trans (S2.trans S3)) (.bl _)
  | true =>
    rw [if_pos rfl]
    obtain ⟨c, ec, hf⟩ := bnd hf
    exact hc (Nw (Nw (Nw L H) H1) H2) env σ H3 _ c (((he.nw S1).nw S2).nw S3) ec fun w H4 S4 rw' =>
      hr'.s (Nw (Nw (Nw (Nw L H) H1) H2) H3) H4 y w b c d Q (ry.mono (fun _ q => .inl (.inl q)) (.of (S3.trans S4))) rw' hf fun v H5 S5 r => k v H5 (S1.trans (S2.trans (S3.trans (S4.trans S5)))) (r.mono (fun q hq => nw2 S1 (nw2 S2 (nw2 S3 (nw2 S4 hq)))) .refl)
def anyD : List D → Option D
  | [.lst xs] => (blS xs).map fun bs => .bl (bs.any id)
  | _ => none
theorem ca_any : CaP K ns (rAny K) anyD := by
  intro L H xs as d Q rx hf k
  unfold anyD at hf
  split at hf
  · obtain ⟨x, rfl, r⟩ := one_of rx
    obtain ⟨bs, eb, rfl⟩ := Option.map_eq_some_iff.mp hf
    cases r with
    | lst l e r => exact ⟨_, bs, rfl, by rw [← bls_ok r eb]; exact SqL.of e, k _ _ (Same.refl _) (.bl _)⟩
  · cases hf
end
end PD
namespace Kl
open PySem L2 PD
def top (i : Nat) : Stmt := PySem.Challenge.pw_ballastway_k27_may_enter.main.body.getD i (.Pass ⟨0, 0, 0, 0⟩)
def kNames : List Str := ["Open", "Bridge", "Road"]
abbrev s_common_part : Stmt := top 1
theorem sc_common_part : FnScope ["one", "other", "rest"] ["one", "other"] (defScope s_common_part) := ⟨rfl, rfl, rfl, by decide +kernel, rfl, by decide +kernel, by decide +kernel⟩
abbrev s_made : Stmt := top 2
theorem sc_made : FnScope ["above", "beneath", "part"] ["above", "beneath"] (defScope s_made) := ⟨rfl, rfl, rfl, by decide +kernel, rfl, by decide +kernel, by decide +kernel⟩
abbrev s_whole : Stmt := top 3
theorem sc_whole : FnScope ["number"] ["number"] (defScope s_whole) := ⟨rfl, rfl, rfl, by decide +kernel, rfl, by decide +kernel, by decide +kernel⟩
abbrev s_plus : Stmt := top 4
theorem sc_plus : FnScope ["one", "other"] ["one", "other"] (defScope s_plus) := ⟨rfl, rfl, rfl, by decide +kernel, rfl, by decide +kernel, by decide +kernel⟩
abbrev s_less : Stmt := top 5
theorem sc_less : FnScope ["one", "other"] ["one", "other"] (defScope s_less) := ⟨rfl, rfl, rfl, by decide +kernel, rfl, by decide +kernel, by decide +kernel⟩
abbrev s_merged : Stmt := top 6
theorem sc_merged : FnScope ["one", "other", "told", "first", "second"] ["one", "other"] (defScope s_merged) := ⟨rfl, rfl, rfl, by decide +kernel, rfl, by decide +kernel, by decide +kernel⟩
abbrev s_in_order : Stmt := top 7
theorem sc_in_order : FnScope ["some", "middle"] ["some"] (defScope s_in_order) := ⟨rfl, rfl, rfl, by decide +kernel, rfl, by decide +kernel, by decide +kernel⟩
abbrev s_offsets_of : Stmt := top 9
theorem sc_offsets_of : FnScope ["wheels", "offsets", "wheel"] ["wheels"] (defScope s_offsets_of) := ⟨rfl, rfl, rfl, by decide +kernel, rfl, by decide +kernel, by decide +kernel⟩
abbrev s_Open_init : Stmt := inClass (top 11) 0
theorem sc_Open_init : FnScope ["self", "length"] ["self", "length"] (defScope s_Open_init) := ⟨rfl, rfl, rfl, by decide +kernel, rfl, by decide +kernel, by decide +kernel⟩
abbrev s_Bridge_init : Stmt := inClass (top 12) 0
theorem sc_Bridge_init : FnScope ["self", "name", "length", "bears", "wide", "most"] ["self", "name", "length", "bears", "wide", "most"] (defScope s_Bridge_init) := ⟨rfl, rfl, rfl, by decide +kernel, rfl, by decide +kernel, by decide +kernel⟩
abbrev s_Road_init : Stmt := inClass (top 13) 0
theorem sc_Road_init : FnScope ["self", "pieces", "rounds", "shuts"] ["self", "pieces", "rounds", "shuts"] (defScope s_Road_init) := ⟨rfl, rfl, rfl, by decide +kernel, rfl, by decide +kernel, by decide +kernel⟩
abbrev s_bridges_of : Stmt := top 14
theorem sc_bridges_of : FnScope ["road"] ["road"] (defScope s_bridges_of) := ⟨rfl, rfl, rfl, by decide +kernel, rfl, by decide +kernel, by decide +kernel⟩
theorem cs_bridges_of_0 : CompC (defScope s_bridges_of) ["road"] ({ kind := PySem.ScopeKind.function, names := [ (PySem.Str.ofString ".0", PySem.NameKind.local), (PySem.Str.ofString "piece", PySem.NameKind.local), (PySem.Str.ofString "isinstance", PySem.NameKind.globalImplicit), (PySem.Str.ofString "Bridge", PySem.NameKind.globalImplicit)], isGenerator := false, isCoroutine := false, more := [] : PySem.Scope }) "piece" [] [] := ⟨rfl, by decide +kernel, by decide +kernel, by decide +kernel, by decide +kernel, by decide +kernel, by decide +kernel, by decide +kernel, by decide +kernel⟩
abbrev s_bridge_of : Stmt := top 15
theorem sc_bridge_of : FnScope ["road", "name"] ["road", "name"] (defScope s_bridge_of) := ⟨rfl, rfl, rfl, by decide +kernel, rfl, by decide +kernel, by decide +kernel⟩
theorem cs_bridge_of_0 : CompC (defScope s_bridge_of) ["road", "name"] ({ kind := PySem.ScopeKind.function, names := [ (PySem.Str.ofString ".0", PySem.NameKind.local), (PySem.Str.ofString "bridge", PySem.NameKind.local), (PySem.Str.ofString "name", PySem.NameKind.free)], isGenerator := false, isCoroutine := false, more := [] : PySem.Scope }) "bridge" ["name"] [1] := ⟨rfl, by decide +kernel, by decide +kernel, by decide +kernel, by decide +kernel, by decide +kernel, by decide +kernel, by decide +kernel, by decide +kernel⟩
abbrev s_shuts_of : Stmt := top 16
theorem sc_shuts_of : FnScope ["road", "name"] ["road", "name"] (defScope s_shuts_of) := ⟨rfl, rfl, rfl, by decide +kernel, rfl, by decide +kernel, by decide +kernel⟩
theorem cs_shuts_of_0 : CompC (defScope s_shuts_of) ["road", "name"] ({ kind := PySem.ScopeKind.function, names := [ (PySem.Str.ofString ".0", PySem.NameKind.local), (PySem.Str.ofString "told", PySem.NameKind.local), (PySem.Str.ofString "name", PySem.NameKind.free)], isGenerator := false, isCoroutine := false, more := [] : PySem.Scope }) "told" ["name"] [1] := ⟨rfl, by decide +kernel, by decide +kernel, by decide +kernel, by decide +kernel, by decide +kernel, by decide +kernel, by decide +kernel, by decide +kernel⟩
abbrev s_driven : Stmt := top 18
theorem sc_driven : FnScope ["moment", "distance", "speed"] ["moment", "distance", "speed"] (defScope s_driven) := ⟨rfl, rfl, rfl, by decide +kernel, rfl, by decide +kernel, by decide +kernel⟩
abbrev s_times_on : Stmt := top 19
theorem sc_times_on : FnScope ["road", "crossing", "length", "speed", "times_told", "offset", "on"] ["road", "crossing"] (defScope s_times_on) := ⟨rfl, rfl, rfl, by decide +kernel, rfl, by decide +kernel, by decide +kernel⟩
abbrev s_stays_of : Stmt := top 21
theorem sc_stays_of : FnScope ["road", "crossings", "name", "stays", "crossing", "times", "wheel"] ["road", "crossings", "name"] (defScope s_stays_of) := ⟨rfl, rfl, rfl, by decide +kernel, rfl, by decide +kernel, by decide +kernel⟩
abbrev s_sums_at : Stmt := top 22
theorem sc_sums_at : FnScope ["stays", "moment", "there"] ["stays", "moment"] (defScope s_sums_at) := ⟨rfl, rfl, rfl, by decide +kernel, rfl, by decide +kernel, by decide +kernel⟩
theorem cs_sums_at_0 : CompC (defScope s_sums_at) ["stays", "moment", "there"] ({ kind := PySem.ScopeKind.function, names := [ (PySem.Str.ofString ".0", PySem.NameKind.local), (PySem.Str.ofString "stay", PySem.NameKind.local), (PySem.Str.ofString "less", PySem.NameKind.globalImplicit), (PySem.Str.ofString "moment", PySem.NameKind.free)], isGenerator := false, isCoroutine := false, more := [] : PySem.Scope }) "stay" ["moment"] [1] := ⟨rfl, by decide +kernel, by decide +kernel, by decide +kernel, by decide +kernel, by decide +kernel, by decide +kernel, by decide +kernel, by decide +kernel⟩
theorem cs_sums_at_1 : CompC (defScope s_sums_at) ["stays", "moment", "there"] ({ kind := PySem.ScopeKind.function, names := [(PySem.Str.ofString ".0", PySem.NameKind.local), (PySem.Str.ofString "stay", PySem.NameKind.local)], isGenerator := false, isCoroutine := false, more := [] : PySem.Scope }) "stay" [] [] := ⟨rfl, by decide +kernel, by decide +kernel, by decide +kernel, by decide +kernel, by decide +kernel, by decide +kernel, by decide +kernel, by decide +kernel⟩
theorem cs_sums_at_2 : CompC (defScope s_sums_at) ["stays", "moment", "there"] ({ kind := PySem.ScopeKind.function, names := [(PySem.Str.ofString ".0", PySem.NameKind.local), (PySem.Str.ofString "stay", PySem.NameKind.local)], isGenerator := false, isCoroutine := false, more := [] : PySem.Scope }) "stay" [] [] := ⟨rfl, by decide +kernel, by decide +kernel, by decide +kernel, by decide +kernel, by decide +kernel, by decide +kernel, by decide +kernel, by decide +kernel⟩
abbrev s_moments_in : Stmt := top 23
theorem sc_moments_in : FnScope ["stays", "moments", "stay"] ["stays"] (defScope s_moments_in) := ⟨rfl, rfl, rfl, by decide +kernel, rfl, by decide +kernel, by decide +kernel⟩
abbrev s_first_greatest : Stmt := top 24
theorem sc_first_greatest : FnScope ["stays", "spot", "greatest", "moment", "sums", "told"] ["stays", "spot"] (defScope s_first_greatest) := ⟨rfl, rfl, rfl, by decide +kernel, rfl, by decide +kernel, by decide +kernel⟩
abbrev s_worst : Stmt := top 25
theorem sc_worst : FnScope ["road", "crossings", "name"] ["road", "crossings", "name"] (defScope s_worst) := ⟨rfl, rfl, rfl, by decide +kernel, rfl, by decide +kernel, by decide +kernel⟩
abbrev s_worst_low : Stmt := top 26
theorem sc_worst_low : FnScope ["road", "crossings", "name"] ["road", "crossings", "name"] (defScope s_worst_low) := ⟨rfl, rfl, rfl, by decide +kernel, rfl, by decide +kernel, by decide +kernel⟩
abbrev s_verdict : Stmt := top 27
theorem sc_verdict : FnScope ["road", "crossings", "name", "bears", "by_highs", "by_lows"] ["road", "crossings", "name"] (defScope s_verdict) := ⟨rfl, rfl, rfl, by decide +kernel, rfl, by decide +kernel, by decide +kernel⟩
abbrev s_meets_shut : Stmt := top 29
theorem sc_meets_shut : FnScope ["times", "shut"] ["times", "shut"] (defScope s_meets_shut) := ⟨rfl, rfl, rfl, by decide +kernel, rfl, by decide +kernel, by decide +kernel⟩
abbrev s_may_enter : Stmt := top 30
theorem sc_may_enter : FnScope ["road", "crossings", "crossing", "name", "times"] ["road", "crossings", "crossing"] (defScope s_may_enter) := ⟨rfl, rfl, rfl, by decide +kernel, rfl, by decide +kernel, by decide +kernel⟩
theorem cs_may_enter_0 : CompC (defScope s_may_enter) ["road", "crossings", "crossing", "name", "times"] ({ kind := PySem.ScopeKind.function, names := [ (PySem.Str.ofString ".0", PySem.NameKind.local), (PySem.Str.ofString "shut", PySem.NameKind.local), (PySem.Str.ofString "meets_shut", PySem.NameKind.globalImplicit), (PySem.Str.ofString "times", PySem.NameKind.free)], isGenerator := false, isCoroutine := false, more := [] : PySem.Scope }) "shut" ["times"] [4] := ⟨rfl, by decide +kernel, by decide +kernel, by decide +kernel, by decide +kernel, by decide +kernel, by decide +kernel, by decide +kernel, by decide +kernel⟩
abbrev s_law_cell_at : Stmt := top 32
theorem sc_law_cell_at : FnScope ["_law_script", "_law_k"] ["_law_script", "_law_k"] (defScope s_law_cell_at) := ⟨rfl, rfl, rfl, by decide +kernel, rfl, by decide +kernel, by decide +kernel⟩
abbrev s_law_mix : Stmt := top 33
theorem sc_law_mix : FnScope ["_law_cell", "_law_factor", "_law_mixed"] ["_law_cell", "_law_factor"] (defScope s_law_mix) := ⟨rfl, rfl, rfl, by decide +kernel, rfl, by decide +kernel, by decide +kernel⟩
abbrev s_law_same : Stmt := top 34
theorem sc_law_same : FnScope ["_law_found", "_law_due", "_law_k"] ["_law_found", "_law_due"] (defScope s_law_same) := ⟨rfl, rfl, rfl, by decide +kernel, rfl, by decide +kernel, by decide +kernel⟩
abbrev s_law_frac : Stmt := top 35
theorem sc_law_frac : FnScope ["_law_above", "_law_beneath", "_law_one", "_law_other"] ["_law_above", "_law_beneath"] (defScope s_law_frac) := ⟨rfl, rfl, rfl, by decide +kernel, rfl, by decide +kernel, by decide +kernel⟩
abbrev s_law_bridges : Stmt := top 38
theorem sc_law_bridges : FnScope ["_law_cell", "_law_count", "_law_letters", "_law_one", "_law_size", "_law_found", "_law_k", "_law_two", "_law_length", "_law_bears", "_law_name"] ["_law_cell", "_law_count"] (defScope s_law_bridges) := ⟨rfl, rfl, rfl, by decide +kernel, rfl, by decide +kernel, by decide +kernel⟩
abbrev s_law_road : Stmt := top 39
theorem sc_law_road : FnScope ["_law_bridges_here", "_law_rounds", "_law_shuts_here", "_law_pieces", "_law_name", "_law_length", "_law_bears", "_law_wide", "_law_most"] ["_law_bridges_here", "_law_rounds", "_law_shuts_here"] (defScope s_law_road) := ⟨rfl, rfl, rfl, by decide +kernel, rfl, by decide +kernel, by decide +kernel⟩
abbrev s_law_wheels : Stmt := top 40
theorem sc_law_wheels : FnScope ["_law_cell", "_law_bears", "_law_one", "_law_many", "_law_wheels_here", "_law_k", "_law_two", "_law_high"] ["_law_cell", "_law_bears"] (defScope s_law_wheels) := ⟨rfl, rfl, rfl, by decide +kernel, rfl, by decide +kernel, by decide +kernel⟩
abbrev s_law_offsets : Stmt := top 41
theorem sc_law_offsets : FnScope ["_law_wheels_here", "_law_at", "_law_found", "_law_gap", "_law_low", "_law_high"] ["_law_wheels_here"] (defScope s_law_offsets) := ⟨rfl, rfl, rfl, by decide +kernel, rfl, by decide +kernel, by decide +kernel⟩
abbrev s_law_part : Stmt := top 42
theorem sc_law_part : FnScope ["_law_time"] ["_law_time"] (defScope s_law_part) := ⟨rfl, rfl, rfl, by decide +kernel, rfl, by decide +kernel, by decide +kernel⟩
abbrev s_law_own_spans : Stmt := top 43
theorem sc_law_own_spans : FnScope ["_law_bridge", "_law_crossing", "_law_name", "_law_entry", "_law_speed", "_law_wheels_here", "_law_found", "_law_offset", "_law_wheel", "_law_on"] ["_law_bridge", "_law_crossing"] (defScope s_law_own_spans) := ⟨rfl, rfl, rfl, by decide +kernel, rfl, by decide +kernel, by decide +kernel⟩
abbrev s_law_spans : Stmt := top 44
theorem sc_law_spans : FnScope ["_law_bridge", "_law_crossings", "_law_found", "_law_crossing"] ["_law_bridge", "_law_crossings"] (defScope s_law_spans) := ⟨rfl, rfl, rfl, by decide +kernel, rfl, by decide +kernel, by decide +kernel⟩
abbrev s_law_highs : Stmt := top 45
theorem sc_law_highs : FnScope ["_law_spans_here", "_law_moment"] ["_law_spans_here", "_law_moment"] (defScope s_law_highs) := ⟨rfl, rfl, rfl, by decide +kernel, rfl, by decide +kernel, by decide +kernel⟩
theorem cs_law_highs_0 : CompCT (defScope s_law_highs) ["_law_spans_here", "_law_moment"] ({ kind := PySem.ScopeKind.function, names := [ (PySem.Str.ofString ".0", PySem.NameKind.local), (PySem.Str.ofString "_law_on", PySem.NameKind.local), (PySem.Str.ofString "_law_off", PySem.NameKind.local), (PySem.Str.ofString "_law_low", PySem.NameKind.local), (PySem.Str.ofString "_law_high", PySem.NameKind.local), (PySem.Str.ofString "_law_moment", PySem.NameKind.free)], isGenerator := false, isCoroutine := false, more := [] : PySem.Scope }) ["_law_on", "_law_off", "_law_low", "_law_high"] ["_law_moment"] [1] := ⟨rfl, by decide +kernel, by decide +kernel, by decide +kernel, by decide +kernel, by decide +kernel, by decide +kernel, by decide +kernel, by decide +kernel⟩
abbrev s_law_close : Stmt := top 46
theorem sc_law_close : FnScope ["_law_cells", "_law_bridges_here", "_law_most", "_law_found", "_law_cell", "_law_one", "_law_bridge", "_law_entry"] ["_law_cells", "_law_bridges_here", "_law_most"] (defScope s_law_close) := ⟨rfl, rfl, rfl, by decide +kernel, rfl, by decide +kernel, by decide +kernel⟩
abbrev s_law_shuts : Stmt := top 47
theorem sc_law_shuts : FnScope ["_law_cell", "_law_bridges_here", "_law_one", "_law_found", "_law_k", "_law_two", "_law_begin"] ["_law_cell", "_law_bridges_here"] (defScope s_law_shuts) := ⟨rfl, rfl, rfl, by decide +kernel, rfl, by decide +kernel, by decide +kernel⟩
abbrev s_law_shut_of : Stmt := top 48
theorem sc_law_shut_of : FnScope ["_law_shuts_here", "_law_name"] ["_law_shuts_here", "_law_name"] (defScope s_law_shut_of) := ⟨rfl, rfl, rfl, by decide +kernel, rfl, by decide +kernel, by decide +kernel⟩
theorem cs_law_shut_of_0 : CompCT (defScope s_law_shut_of) ["_law_shuts_here", "_law_name"] ({ kind := PySem.ScopeKind.function, names := [ (PySem.Str.ofString ".0", PySem.NameKind.local), (PySem.Str.ofString "_law_one", PySem.NameKind.local), (PySem.Str.ofString "_law_begin", PySem.NameKind.local), (PySem.Str.ofString "_law_close_here", PySem.NameKind.local), (PySem.Str.ofString "_law_name", PySem.NameKind.free)], isGenerator := false, isCoroutine := false, more := [] : PySem.Scope }) ["_law_one", "_law_begin", "_law_close_here"] ["_law_name"] [1] := ⟨rfl, by decide +kernel, by decide +kernel, by decide +kernel, by decide +kernel, by decide +kernel, by decide +kernel, by decide +kernel, by decide +kernel⟩
abbrev s_law_allowed : Stmt := top 49
theorem sc_law_allowed : FnScope ["_law_bridge", "_law_shuts_here", "_law_spans_here", "_law_own", "_law_begin", "_law_close_here", "_law_on", "_law_off", "_law_low", "_law_high", "_law_together", "_law_span"] ["_law_bridge", "_law_shuts_here", "_law_spans_here", "_law_own"] (defScope s_law_allowed) := ⟨rfl, rfl, rfl, by decide +kernel, rfl, by decide +kernel, by decide +kernel⟩
abbrev s_law_entries : Stmt := top 50
theorem sc_law_entries : FnScope ["_law_bridge", "_law_shuts_here", "_law_spans_here", "_law_own", "_law_found", "_law_begin", "_law_close_here", "_law_on", "_law_off", "_law_low", "_law_high"] ["_law_bridge", "_law_shuts_here", "_law_spans_here", "_law_own"] (defScope s_law_entries) := ⟨rfl, rfl, rfl, by decide +kernel, rfl, by decide +kernel, by decide +kernel⟩
abbrev s_law : Stmt := top 51
theorem sc_law : FnScope ["_law_script", "_law_cell", "_law_bridges_here", "_law_shuts_here", "_law_road_here", "_law_drawn", "_law_crossings", "_law_kept", "_law_k", "_law_name", "_law_entry", "_law_speed", "_law_wheels_here", "_law_bridge", "_law_spans_here", "_law_own", "_law_entries_here", "_law_some", "_law_step", "_law_moment", "_law_asked", "_law_due"] ["_law_script"] (defScope s_law) := ⟨rfl, rfl, rfl, by decide +kernel, rfl, by decide +kernel, by decide +kernel⟩
theorem cs_law_0 : CompC (defScope s_law) ["_law_script", "_law_cell", "_law_bridges_here", "_law_shuts_here", "_law_road_here", "_law_drawn", "_law_crossings", "_law_kept", "_law_k", "_law_name", "_law_entry", "_law_speed", "_law_wheels_here", "_law_bridge", "_law_spans_here", "_law_own", "_law_entries_here", "_law_some", "_law_step", "_law_moment", "_law_asked", "_law_due"] ({ kind := PySem.ScopeKind.function, names := [ (PySem.Str.ofString ".0", PySem.NameKind.local), (PySem.Str.ofString "_law_one", PySem.NameKind.local), (PySem.Str.ofString "_law_name", PySem.NameKind.free)], isGenerator := false, isCoroutine := false, more := [] : PySem.Scope }) "_law_one" ["_law_name"] [9] := ⟨rfl, by decide +kernel, by decide +kernel, by decide +kernel, by decide +kernel, by decide +kernel, by decide +kernel, by decide +kernel, by decide +kernel⟩
noncomputable def B_law_cell_at : SF :=
    (seqS (ifS (bD (oD (sealed ltD) (vD 1) (callD (sealed lenD) (aCons (vD 0) aNil)))) (retS (oD (sealed ixD) (vD 0) (vD 1)))
    nxS)
    (retS (cD (.int 0))))
noncomputable def F_law_cell_at : List D → Option D := sealed (runD 2 B_law_cell_at)
abbrev sp_law_cell_at (K : PySem.W.Frag) : Sp := spP K kNames false 2 F_law_cell_at
noncomputable def B_law_mix : SF :=
    (seqS (setS 2 (mk [false, false, false] (oD (sealed modD) (oD (sealed addD) (oD (sealed mulD) (vD 0) (vD 1)) (cD (.int 12345))) (cD (.int 2147483647)))))
    (retS (oD (sealed fdivC) (oD (sealed modD) (oD (sealed mulD) (vD 2) (vD 2)) (cD (.int 2147483629))) (cD (.int 3)))))
noncomputable def F_law_mix : List D → Option D := sealed (runD 3 B_law_mix)
abbrev sp_law_mix (K : PySem.W.Frag) : Sp := spP K kNames false 2 F_law_mix
noncomputable def B_law_bridges : SF :=
    (seqS (setS 2 (mk [false, false, false, false, false, false, false, false, false, false, false] (cD (.str (Str.ofString "abcdefghijklmnopqrstuvwxyz")))))
    (seqS (setS 3 (mk [false, false, false, false, false, false, false, false, false, false, false] (callD F_law_mix (aCons (vD 0) (aCons (cD (.int 48271)) aNil)))))
    (seqS (setS 4 (mk [false, false, false, false, false, false, false, false, false, false, false] (oD (sealed addD) (cD (.int 1)) (oD (sealed modD) (vD 3) (cD (.int 12))))))
    (seqS (setS 5 (mk [false, false, false, false, false, false, false, false, false, false, false] (lstD aNil)))
    (seqS (forS (mk [false, false, false, false, false, true, false, false, false, false, false] (iaD (sealed rng1D) (aCons (vD 1) aNil))) (nmG 6)
    (seqS (setS 7 (mk [false, false, false, false, false, true, false, false, false, false, false] (callD F_law_mix (aCons (oD (sealed addD) (vD 0) (oD (sealed mulD) (cD (.int 7)) (vD 6))) (aCons (cD (.int 69621)) aNil)))))
    (seqS (setS 8 (mk [false, false, false, false, false, true, false, false, false, false, false] (oD (sealed ixD) (lstD (aCons (oD (sealed addD) (cD (.int 1)) (oD (sealed modD) (vD 7) (cD (.int 12)))) (aCons (oD (sealed addD) (cD (.int 20)) (oD (sealed modD) (vD 7) (cD (.int 200)))) (aCons (oD (sealed addD) (cD (.int 1)) (oD (sealed modD) (vD 7) (cD (.int 1000)))) aNil)))) (oD (sealed modD) (oD (sealed fdivC) (vD 7) (cD (.int 1000))) (cD (.int 3))))))
    (seqS (setS 9 (mk [false, false, false, false, false, true, false, false, false, false, false] (oD (sealed addD) (cD (.int 10)) (oD (sealed modD) (callD F_law_mix (aCons (oD (sealed addD) (vD 0) (vD 6)) (aCons (cD (.int 39373)) aNil))) (cD (.int 190))))))
    (seqS (setS 10 (mk [false, false, false, false, false, true, false, false, false, false, false] (oD (sealed mulD) (oD (sealed ixD) (vD 2) (oD (sealed modD) (oD (sealed addD) (oD (sealed fdivC) (vD 3) (cD (.int 12))) (vD 6)) (cD (.int 26)))) (vD 4))))
    (appS 5 (mk [false, false, false, false, false, true, false, false, false, false, false] (tupD (aCons (vD 10) (aCons (vD 8) (aCons (vD 9) (aCons (oD (sealed addD) (cD (.int 1)) (oD (sealed modD) (oD (sealed fdivC) (vD 7) (cD (.int 3000))) (cD (.int 200)))) (aCons (cD (.int 10000000)) aNil)))))))))))))
    (retO 5))))))
noncomputable def F_law_bridges : List D → Option D := sealed (runF 11 B_law_bridges)
abbrev sp_law_bridges (K : PySem.W.Frag) : Sp := spP K kNames true 2 F_law_bridges
noncomputable def B_law_shuts : SF :=
    (seqS (setS 2 (mk [false, false, false, false, false, false, false] (callD F_law_mix (aCons (vD 0) (aCons (cD (.int 31337)) aNil)))))
    (seqS (setS 3 (mk [false, false, false, false, false, false, false] (lstD aNil)))
    (seqS (forS (mk [false, false, false, true, false, false, false] (iaD (sealed rng1D) (aCons (oD (sealed modD) (vD 2) (cD (.int 4))) aNil))) (nmG 4)
    (seqS (setS 5 (mk [false, false, false, true, false, false, false] (callD F_law_mix (aCons (oD (sealed addD) (vD 0) (vD 4)) (aCons (cD (.int 22381)) aNil)))))
    (seqS (setS 6 (mk [false, false, false, true, false, false, false] (oD (sealed modD) (vD 5) (cD (.int 120)))))
    (appS 3 (mk [false, false, false, true, false, false, false] (tupD (aCons (oD (sealed ixD) (oD (sealed ixD) (vD 1) (oD (sealed modD) (oD (sealed fdivC) (vD 5) (cD (.int 120))) (callD (sealed lenD) (aCons (vD 1) aNil)))) (cD (.int 0))) (aCons (vD 6) (aCons (oD (sealed addD) (oD (sealed addD) (vD 6) (cD (.int 1))) (oD (sealed modD) (oD (sealed fdivC) (vD 5) (cD (.int 1000))) (cD (.int 60)))) aNil)))))))))
    (retO 3))))
noncomputable def F_law_shuts : List D → Option D := sealed (runF 7 B_law_shuts)
abbrev sp_law_shuts (K : PySem.W.Frag) : Sp := spP K kNames true 2 F_law_shuts
noncomputable def I_Road : List D → Option (List (Fl × D)) := initD [(.pieces, (callD (sealed listD) (aCons (vD 1) aNil))), (.rounds, (callD (sealed listD) (aCons (vD 2) aNil))), (.shuts, (callD (sealed listD) (aCons (vD 3) aNil)))]
abbrev sp_Road_init (K : PySem.W.Frag) : Sp := spI K kNames .Road 3 I_Road
noncomputable def I_Open : List D → Option (List (Fl × D)) := initD [(.length, (vD 1))]
abbrev sp_Open_init (K : PySem.W.Frag) : Sp := spI K kNames .Open 1 I_Open
noncomputable def I_Bridge : List D → Option (List (Fl × D)) := initD [(.name, (vD 1)), (.length, (vD 2)), (.bears, (vD 3)), (.wide, (vD 4)), (.most, (vD 5))]
abbrev sp_Bridge_init (K : PySem.W.Frag) : Sp := spI K kNames .Bridge 5 I_Bridge
noncomputable def B_law_road : SF :=
    (seqS (setS 3 (mk [false, false, false, false, false, false, false, false, false] (lstD (aCons (makeD .Open I_Open (aCons (oD (sealed addD) (cD (.int 200)) (callD (sealed lenD) (aCons (vD 0) aNil))) aNil)) aNil))))
    (seqS (forS (mk [false, false, false, false, false, false, false, false, false] (itD (vD 0))) (tupG [4, 5, 6, 7, 8])
    (setS 3 (mk [false, false, false, false, false, false, false, false, false] (oD (sealed addD) (vD 3) (lstD (aCons (makeD .Bridge I_Bridge (aCons (vD 4) (aCons (vD 5) (aCons (vD 6) (aCons (vD 7) (aCons (vD 8) aNil)))))) (aCons (makeD .Open I_Open (aCons (oD (sealed addD) (cD (.int 200)) (oD (sealed fdivC) (vD 5) (cD (.int 7)))) aNil)) aNil)))))))
    (retS (makeD .Road I_Road (aCons (vD 3) (aCons (vD 1) (aCons (vD 2) aNil)))))))
noncomputable def F_law_road : List D → Option D := sealed (runD 9 B_law_road)
abbrev sp_law_road (K : PySem.W.Frag) : Sp := spP K kNames false 3 F_law_road
noncomputable def B_law_frac : SF :=
    (seqS (setS 2 (mk [false, false, false, false] (callD (sealed absD) (aCons (vD 0) aNil))))
    (seqS (setS 3 (mk [false, false, false, false] (callD (sealed absD) (aCons (vD 1) aNil))))
    (seqS (whS (bD (oD (sealed neD) (vD 3) (cD (.int 0))))
    (parS 2 3 (mk [false, false, false, false] (aCons (vD 3) (aCons (oD (sealed modD) (vD 2) (vD 3)) aNil)))))
    (seqS (ifS (bD (oD (sealed ltD) (vD 1) (cD (.int 0)))) (setS 2 (mk [false, false, false, false] (uD (sealed negD) (vD 2))))
    nxS)
    (retS (tupD (aCons (oD (sealed fdivD) (vD 0) (vD 2)) (aCons (oD (sealed fdivD) (vD 1) (vD 2)) aNil))))))))
noncomputable def F_law_frac : List D → Option D := sealed (runD 4 B_law_frac)
abbrev sp_law_frac (K : PySem.W.Frag) : Sp := spP K kNames false 2 F_law_frac
noncomputable def B_law_wheels : SF :=
    (seqS (setS 2 (mk [false, false, false, false, false, false, false, false] (callD F_law_mix (aCons (vD 0) (aCons (cD (.int 16807)) aNil)))))
    (seqS (setS 3 (mk [false, false, false, false, false, false, false, false] (oD (sealed addD) (cD (.int 1)) (oD (sealed modD) (vD 2) (cD (.int 4))))))
    (seqS (setS 4 (mk [false, false, false, false, false, false, false, false] (lstD aNil)))
    (seqS (forS (mk [false, false, false, false, true, false, false, false] (iaD (sealed rng1D) (aCons (vD 3) aNil))) (nmG 5)
    (seqS (setS 6 (mk [false, false, false, false, true, false, false, false] (callD F_law_mix (aCons (oD (sealed addD) (vD 0) (oD (sealed mulD) (cD (.int 31)) (vD 5))) (aCons (cD (.int 40692)) aNil)))))
    (seqS (setS 7 (mk [false, false, false, false, true, false, false, false] (oD (sealed modD) (vD 6) (oD (sealed addD) (oD (sealed fdivD) (vD 1) (vD 3)) (cD (.int 1))))))
    (seqS (ifS (bD (oD (sealed eqD) (oD (sealed modD) (oD (sealed fdivC) (vD 6) (cD (.int 1000))) (cD (.int 3))) (cD (.int 0)))) (setS 7 (mk [false, false, false, false, true, false, false, false] (oD (sealed fdivD) (vD 1) (vD 3))))
    nxS)
    (appS 4 (mk [false, false, false, false, true, false, false, false] (tupD (aCons (oD (sealed addD) (cD (.int 1)) (oD (sealed modD) (oD (sealed fdivC) (vD 6) (cD (.int 3000))) (cD (.int 40)))) (aCons (oD (sealed subD) (vD 7) (oD (sealed modD) (oD (sealed fdivC) (vD 6) (cD (.int 300000))) (oD (sealed addD) (vD 7) (cD (.int 1))))) (aCons (vD 7) aNil))))))))))
    (retO 4)))))
noncomputable def F_law_wheels : List D → Option D := sealed (runF 8 B_law_wheels)
abbrev sp_law_wheels (K : PySem.W.Frag) : Sp := spP K kNames true 2 F_law_wheels
noncomputable def B_law_close : SF :=
    (seqS (setS 3 (mk [false, false, false, false, false, false, false, false] (lstD aNil)))
    (seqS (forS (mk [false, false, false, true, false, false, false, false] (itD (vD 0))) (nmG 4)
    (seqS (setS 5 (mk [false, false, false, true, false, false, false, false] (callD F_law_mix (aCons (vD 4) (aCons (cD (.int 21569)) aNil)))))
    (seqS (setS 6 (mk [false, false, false, true, false, false, false, false] (oD (sealed ixD) (vD 1) (oD (sealed modD) (oD (sealed fdivC) (vD 5) (cD (.int 7))) (callD (sealed lenD) (aCons (vD 1) aNil))))))
    (seqS (setS 7 (mk [false, false, false, true, false, false, false, false] (callD F_law_frac (aCons (oD (sealed modD) (oD (sealed fdivC) (vD 5) (cD (.int 30))) (cD (.int 40))) (aCons (oD (sealed ixD) (lstD (aCons (cD (.int 1)) (aCons (cD (.int 1)) (aCons (cD (.int 2)) (aCons (cD (.int 3)) (aCons (cD (.int 7)) (aCons (cD (.int 12)) aNil))))))) (oD (sealed modD) (vD 5) (cD (.int 6)))) aNil)))))
    (appS 3 (mk [false, false, false, true, false, false, false, false] (tupD (aCons (oD (sealed ixD) (vD 6) (cD (.int 0))) (aCons (vD 7) (aCons (oD (sealed addD) (cD (.int 1)) (oD (sealed modD) (oD (sealed fdivC) (vD 5) (cD (.int 2000))) (cD (.int 12)))) (aCons (callD F_law_wheels (aCons (vD 4) (aCons (oD (sealed mulD) (vD 2) (oD (sealed ixD) (vD 6) (cD (.int 2)))) aNil))) aNil)))))))))))
    (retO 3)))
noncomputable def F_law_close : List D → Option D := sealed (runF 8 B_law_close)
abbrev sp_law_close (K : PySem.W.Frag) : Sp := spP K kNames true 3 F_law_close
noncomputable def B_law_offsets : SF :=
    (seqS (setS 1 (mk [false, false, false, false, false, false] (cD (.int 0))))
    (seqS (setS 2 (mk [false, false, false, false, false, false] (lstD (aCons (cD (.int 0)) aNil))))
    (seqS (forS (mk [false, false, true, false, false, false] (itD (slD (sealed slDD) (vD 0) (atO (cD (.int 1))) noO))) (tupG [3, 4, 5])
    (seqS (setS 1 (mk [false, false, true, false, false, false] (oD (sealed addD) (vD 1) (vD 3))))
    (appS 2 (mk [false, false, true, false, false, false] (vD 1)))))
    (retO 2))))
noncomputable def F_law_offsets : List D → Option D := sealed (runF 6 B_law_offsets)
abbrev sp_law_offsets (K : PySem.W.Frag) : Sp := spP K kNames true 1 F_law_offsets
noncomputable def B_law_part : SF :=
    (retS (oD (sealed mulD) (oD (sealed ixD) (vD 0) (cD (.int 0))) (oD (sealed fdivD) (cD (.int 27720)) (oD (sealed ixD) (vD 0) (cD (.int 1))))))
noncomputable def F_law_part : List D → Option D := sealed (runD 1 B_law_part)
abbrev sp_law_part (K : PySem.W.Frag) : Sp := spP K kNames false 1 F_law_part
noncomputable def B_law_own_spans : SF :=
    (seqS (asgS (mk [false, false, false, false, false, false, false, false, false, false] (vD 1)) (tupG [2, 3, 4, 5]))
    (seqS (setS 6 (mk [false, false, false, false, false, false, false, false, false, false] (lstD aNil)))
    (seqS (forS (mk [false, false, false, false, false, false, true, false, false, false] (iaD (sealed zipL) (aCons (callD F_law_offsets (aCons (vD 5) aNil)) (aCons (vD 5) aNil)))) (tupG [7, 8])
    (seqS (setS 9 (mk [false, false, false, false, false, false, true, false, false, false] (oD (sealed addD) (callD F_law_part (aCons (vD 3) aNil)) (oD (sealed mulD) (vD 7) (oD (sealed fdivD) (cD (.int 27720)) (vD 4))))))
    (appS 6 (mk [false, false, false, false, false, false, true, false, false, false] (tupD (aCons (vD 9) (aCons (oD (sealed addD) (vD 9) (oD (sealed mulD) (oD (sealed ixD) (vD 0) (cD (.int 1))) (oD (sealed fdivD) (cD (.int 27720)) (vD 4)))) (aCons (oD (sealed ixD) (vD 8) (cD (.int 1))) (aCons (oD (sealed ixD) (vD 8) (cD (.int 2))) aNil)))))))))
    (retO 6))))
noncomputable def F_law_own_spans : List D → Option D := sealed (runF 10 B_law_own_spans)
abbrev sp_law_own_spans (K : PySem.W.Frag) : Sp := spP K kNames true 2 F_law_own_spans
noncomputable def B_law_spans : SF :=
    (seqS (setS 2 (mk [false, false, false, false] (lstD aNil)))
    (seqS (forS (mk [false, false, false, false] (itD (vD 1))) (nmG 3)
    (ifS (bD (oD (sealed eqD) (oD (sealed ixD) (vD 3) (cD (.int 0))) (oD (sealed ixD) (vD 0) (cD (.int 0))))) (setS 2 (mk [false, false, false, false] (oD (sealed addD) (vD 2) (callD F_law_own_spans (aCons (vD 0) (aCons (vD 3) aNil))))))
    nxS))
    (retS (vD 2))))
noncomputable def F_law_spans : List D → Option D := sealed (runD 4 B_law_spans)
abbrev sp_law_spans (K : PySem.W.Frag) : Sp := spP K kNames false 2 F_law_spans
noncomputable def B_law_shut_of : SF :=
    (retS (compT 3 (itD (vD 0)) (bD (oD (sealed eqD) (vD 0) (vD 3))) (tupD (aCons (vD 1) (aCons (vD 2) aNil))) [1]))
noncomputable def F_law_shut_of : List D → Option D := sealed (runF 2 B_law_shut_of)
abbrev sp_law_shut_of (K : PySem.W.Frag) : Sp := spP K kNames true 2 F_law_shut_of
noncomputable def B_law_entries : SF :=
    (seqS (setS 4 (mk [false, false, false, false, false, false, false, false, false, false, false] (lstD (aCons (oD (sealed ixD) (oD (sealed ixD) (vD 3) (cD (.int 0))) (cD (.int 0))) aNil))))
    (seqS (forS (mk [false, false, false, false, false, false, false, false, false, false, false] (itD (callD F_law_shut_of (aCons (vD 1) (aCons (oD (sealed ixD) (vD 0) (cD (.int 0))) aNil))))) (tupG [5, 6])
    (setS 4 (mk [false, false, false, false, false, false, false, false, false, false, false] (oD (sealed addD) (vD 4) (lstD (aCons (oD (sealed addD) (oD (sealed subD) (oD (sealed mulD) (cD (.int 27720)) (vD 5)) (oD (sealed ixD) (oD (sealed ixD) (vD 3) (uD (sealed negD) (cD (.int 1)))) (cD (.int 1)))) (oD (sealed ixD) (oD (sealed ixD) (vD 3) (cD (.int 0))) (cD (.int 0)))) (aCons (oD (sealed addD) (oD (sealed subD) (oD (sealed mulD) (cD (.int 27720)) (vD 6)) (oD (sealed ixD) (oD (sealed ixD) (vD 3) (uD (sealed negD) (cD (.int 1)))) (cD (.int 0)))) (oD (sealed ixD) (oD (sealed ixD) (vD 3) (cD (.int 0))) (cD (.int 0)))) (aCons (oD (sealed mulD) (cD (.int 27720)) (vD 6)) aNil))))))))
    (seqS (forS (mk [false, false, false, false, false, false, false, false, false, false, false] (itD (vD 2))) (tupG [7, 8, 9, 10])
    (setS 4 (mk [false, false, false, false, false, false, false, false, false, false, false] (oD (sealed addD) (vD 4) (lstD (aCons (oD (sealed addD) (oD (sealed subD) (vD 8) (oD (sealed ixD) (oD (sealed ixD) (vD 3) (uD (sealed negD) (cD (.int 1)))) (cD (.int 0)))) (oD (sealed ixD) (oD (sealed ixD) (vD 3) (cD (.int 0))) (cD (.int 0)))) (aCons (oD (sealed addD) (oD (sealed subD) (vD 7) (oD (sealed ixD) (oD (sealed ixD) (vD 3) (uD (sealed negD) (cD (.int 1)))) (cD (.int 1)))) (oD (sealed ixD) (oD (sealed ixD) (vD 3) (cD (.int 0))) (cD (.int 0)))) (aCons (vD 8) aNil))))))))
    (retS (vD 4)))))
noncomputable def F_law_entries : List D → Option D := sealed (runD 11 B_law_entries)
abbrev sp_law_entries (K : PySem.W.Frag) : Sp := spP K kNames false 4 F_law_entries
noncomputable def B_law_highs : SF :=
    (retS (callD (sealed sumD) (aCons (compT 4 (itD (vD 0)) (bD (chD (sealed leD) (sealed ltD) (vD 0) (vD 4) (vD 1))) (vD 3) [1]) aNil)))
noncomputable def F_law_highs : List D → Option D := sealed (runD 2 B_law_highs)
abbrev sp_law_highs (K : PySem.W.Frag) : Sp := spP K kNames false 2 F_law_highs
noncomputable def B_law_allowed : SF :=
    (seqS (forS (mk [false, false, false, false, false, false, false, false, false, false, false, false] (itD (callD F_law_shut_of (aCons (vD 1) (aCons (oD (sealed ixD) (vD 0) (cD (.int 0))) aNil))))) (tupG [4, 5])
    (forS (mk [false, false, false, false, false, false, false, false, false, false, false, false] (itD (vD 3))) (tupG [6, 7, 8, 9])
    (ifS (andB (bD (oD (sealed ltD) (vD 6) (oD (sealed mulD) (cD (.int 27720)) (vD 5)))) (bD (oD (sealed ltD) (oD (sealed mulD) (cD (.int 27720)) (vD 4)) (vD 7)))) (retS (cD (.bl false)))
    nxS)))
    (seqS (setS 10 (mk [false, false, false, false, false, false, false, false, false, false, false, false] (oD (sealed addD) (vD 2) (vD 3))))
    (seqS (forS (mk [false, false, false, false, false, false, false, false, false, false, false, false] (itD (vD 10))) (nmG 11)
    (ifS (bD (oD (sealed gtD) (callD F_law_highs (aCons (vD 10) (aCons (oD (sealed ixD) (vD 11) (cD (.int 0))) aNil))) (oD (sealed ixD) (vD 0) (cD (.int 2))))) (retS (cD (.bl false)))
    nxS))
    (retS (cD (.bl true))))))
noncomputable def F_law_allowed : List D → Option D := sealed (runD 12 B_law_allowed)
abbrev sp_law_allowed (K : PySem.W.Frag) : Sp := spP K kNames false 4 F_law_allowed
noncomputable def B_law_same (F_law_same : List D → Option D) : SF :=
    (seqS (ifS (bD (oD (sealed isD) (vD 1) (cD .non))) (retS (oD (sealed isD) (vD 0) (cD .non)))
    nxS)
    (seqS (ifS (bD (oD (sealed isD) (vD 1) (cD (.bl true)))) (retS (oD (sealed isD) (vD 0) (cD (.bl true))))
    nxS)
    (seqS (ifS (bD (oD (sealed isD) (vD 1) (cD (.bl false)))) (retS (oD (sealed isD) (vD 0) (cD (.bl false))))
    nxS)
    (seqS (ifS (bD (callD (sealed (isT "int")) (aCons (vD 1) aNil))) (retS (andD (callD (sealed (isT "int")) (aCons (vD 0) aNil)) (andD (notD (callD (sealed (isT "bool")) (aCons (vD 0) aNil))) (oD (sealed eqD) (vD 0) (vD 1)))))
    nxS)
    (seqS (ifS (bD (callD (sealed (isT "str")) (aCons (vD 1) aNil))) (retS (andD (callD (sealed (isT "str")) (aCons (vD 0) aNil)) (oD (sealed eqD) (vD 0) (vD 1))))
    nxS)
    (seqS (ifS (andB (bD (callD (sealed (isT "list")) (aCons (vD 1) aNil))) (notB (bD (callD (sealed (isT "list")) (aCons (vD 0) aNil))))) (retS (cD (.bl false)))
    nxS)
    (seqS (ifS (andB (bD (callD (sealed (isT "tuple")) (aCons (vD 1) aNil))) (notB (bD (callD (sealed (isT "tuple")) (aCons (vD 0) aNil))))) (retS (cD (.bl false)))
    nxS)
    (seqS (ifS (bD (oD (sealed neD) (callD (sealed lenD) (aCons (vD 0) aNil)) (callD (sealed lenD) (aCons (vD 1) aNil)))) (retS (cD (.bl false)))
    nxS)
    (seqS (forS (mk [false, false, false] (iaD (sealed rng1D) (aCons (callD (sealed lenD) (aCons (vD 1) aNil)) aNil))) (nmG 2)
    (ifS (notB (bD (callD F_law_same (aCons (oD (sealed ixD) (vD 0) (vD 2)) (aCons (oD (sealed ixD) (vD 1) (vD 2)) aNil))))) (retS (cD (.bl false)))
    nxS))
    (retS (cD (.bl true))))))))))))
noncomputable def R_law_same : Nat → List D → Option D
  | 0 => fun _ => none
  | n + 1 => sealed (runD 3 (B_law_same (R_law_same n)))
noncomputable abbrev F_law_same : List D → Option D := R_law_same 12
abbrev sp_law_same (K : PySem.W.Frag) : Sp := spP K kNames false 2 F_law_same
noncomputable def B_offsets_of : SF :=
    (seqS (setS 1 (mk [false, false, false] (lstD aNil)))
    (seqS (forS (mk [false, true, false] (itD (vD 0))) (nmG 2)
    (appW 1 (ifD (trD (vD 1)) (oD (sealed addD) (oD (sealed ixD) (vD 1) (uD (sealed negD) (cD (.int 1)))) (oD (sealed ixD) (vD 2) (cD (.int 0)))) (cD (.int 0)))))
    (retO 1)))
noncomputable def F_offsets_of : List D → Option D := sealed (runF 3 B_offsets_of)
abbrev sp_offsets_of (K : PySem.W.Frag) : Sp := spP K kNames true 1 F_offsets_of
noncomputable def B_bridges_of : SF :=
    (retS (compF (itD (uD (sealed (getF .pieces)) (vD 0))) (bD (callD (sealed (isC .Bridge)) (aCons (vD 0) aNil))) (vD 0) []))
noncomputable def F_bridges_of : List D → Option D := sealed (runF 1 B_bridges_of)
abbrev sp_bridges_of (K : PySem.W.Frag) : Sp := spP K kNames true 1 F_bridges_of
noncomputable def B_bridge_of : SF :=
    (retS (oD (sealed ixD) (compF (itD (callD F_bridges_of (aCons (vD 0) aNil))) (bD (oD (sealed eqD) (uD (sealed (getF .name)) (vD 0)) (vD 1))) (vD 0) [1]) (cD (.int 0))))
noncomputable def F_bridge_of : List D → Option D := sealed (runD 2 B_bridge_of)
abbrev sp_bridge_of (K : PySem.W.Frag) : Sp := spP K kNames false 2 F_bridge_of
noncomputable def B_common_part : SF :=
    (seqS (setS 0 (mk [false, false, false] (callD (sealed absD) (aCons (vD 0) aNil))))
    (seqS (setS 1 (mk [false, false, false] (callD (sealed absD) (aCons (vD 1) aNil))))
    (seqS (whS (bD (oD (sealed neD) (vD 1) (cD (.int 0))))
    (seqS (setS 2 (mk [false, false, false] (oD (sealed modD) (vD 0) (vD 1))))
    (seqS (setS 0 (mk [false, false, false] (vD 1)))
    (setS 1 (mk [false, false, false] (vD 2))))))
    (retS (vD 0)))))
noncomputable def F_common_part : List D → Option D := sealed (runD 3 B_common_part)
abbrev sp_common_part (K : PySem.W.Frag) : Sp := spP K kNames false 2 F_common_part
noncomputable def B_made : SF :=
    (seqS (setS 2 (mk [false, false, false] (callD F_common_part (aCons (vD 0) (aCons (vD 1) aNil)))))
    (seqS (ifS (bD (oD (sealed ltD) (vD 1) (cD (.int 0)))) (setS 2 (mk [false, false, false] (uD (sealed negD) (vD 2))))
    nxS)
    (retS (tupD (aCons (oD (sealed fdivD) (vD 0) (vD 2)) (aCons (oD (sealed fdivD) (vD 1) (vD 2)) aNil))))))
noncomputable def F_made : List D → Option D := sealed (runD 3 B_made)
abbrev sp_made (K : PySem.W.Frag) : Sp := spP K kNames false 2 F_made
noncomputable def B_plus : SF :=
    (retS (callD F_made (aCons (oD (sealed addD) (oD (sealed mulD) (oD (sealed ixD) (vD 0) (cD (.int 0))) (oD (sealed ixD) (vD 1) (cD (.int 1)))) (oD (sealed mulD) (oD (sealed ixD) (vD 1) (cD (.int 0))) (oD (sealed ixD) (vD 0) (cD (.int 1))))) (aCons (oD (sealed mulD) (oD (sealed ixD) (vD 0) (cD (.int 1))) (oD (sealed ixD) (vD 1) (cD (.int 1)))) aNil))))
noncomputable def F_plus : List D → Option D := sealed (runD 2 B_plus)
abbrev sp_plus (K : PySem.W.Frag) : Sp := spP K kNames false 2 F_plus
noncomputable def B_driven : SF :=
    (retS (callD F_plus (aCons (vD 0) (aCons (callD F_made (aCons (vD 1) (aCons (vD 2) aNil))) aNil))))
noncomputable def F_driven : List D → Option D := sealed (runD 3 B_driven)
abbrev sp_driven (K : PySem.W.Frag) : Sp := spP K kNames false 3 F_driven
noncomputable def B_times_on : SF :=
    (seqS (setS 2 (mk [false, false, false, false, false, false, false] (uD (sealed (getF .length)) (callD F_bridge_of (aCons (vD 0) (aCons (oD (sealed ixD) (vD 1) (cD (.int 0))) aNil))))))
    (seqS (setS 3 (mk [false, false, false, false, false, false, false] (oD (sealed ixD) (vD 1) (cD (.int 2)))))
    (seqS (setS 4 (mk [false, false, false, false, false, false, false] (lstD aNil)))
    (seqS (forS (mk [false, false, false, false, true, false, false] (itD (callD F_offsets_of (aCons (oD (sealed ixD) (vD 1) (cD (.int 3))) aNil)))) (nmG 5)
    (seqS (setS 6 (mk [false, false, false, false, true, false, false] (callD F_driven (aCons (oD (sealed ixD) (vD 1) (cD (.int 1))) (aCons (vD 5) (aCons (vD 3) aNil))))))
    (appS 4 (mk [false, false, false, false, true, false, false] (tupD (aCons (vD 6) (aCons (callD F_driven (aCons (vD 6) (aCons (vD 2) (aCons (vD 3) aNil)))) aNil)))))))
    (retO 4)))))
noncomputable def F_times_on : List D → Option D := sealed (runF 7 B_times_on)
abbrev sp_times_on (K : PySem.W.Frag) : Sp := spP K kNames true 2 F_times_on
noncomputable def B_less : SF :=
    (retS (oD (sealed ltD) (oD (sealed mulD) (oD (sealed ixD) (vD 0) (cD (.int 0))) (oD (sealed ixD) (vD 1) (cD (.int 1)))) (oD (sealed mulD) (oD (sealed ixD) (vD 1) (cD (.int 0))) (oD (sealed ixD) (vD 0) (cD (.int 1))))))
noncomputable def F_less : List D → Option D := sealed (runD 2 B_less)
abbrev sp_less (K : PySem.W.Frag) : Sp := spP K kNames false 2 F_less
noncomputable def B_merged : SF :=
    (seqS (setS 2 (mk [false, false, false, false, false] (lstD aNil)))
    (seqS (setS 3 (mk [false, false, true, false, false] (cD (.int 0))))
    (seqS (setS 4 (mk [false, false, true, false, false] (cD (.int 0))))
    (seqS (whS (andB (bD (oD (sealed ltD) (vD 3) (callD (sealed lenD) (aCons (vD 0) aNil)))) (bD (oD (sealed ltD) (vD 4) (callD (sealed lenD) (aCons (vD 1) aNil)))))
    (ifS (bD (callD F_less (aCons (oD (sealed ixD) (vD 1) (vD 4)) (aCons (oD (sealed ixD) (vD 0) (vD 3)) aNil)))) (seqS (appS 2 (mk [false, false, true, false, false] (oD (sealed ixD) (vD 1) (vD 4))))
    (setS 4 (mk [false, false, true, false, false] (oD (sealed addD) (vD 4) (cD (.int 1))))))
    (seqS (appS 2 (mk [false, false, true, false, false] (oD (sealed ixD) (vD 0) (vD 3))))
    (setS 3 (mk [false, false, true, false, false] (oD (sealed addD) (vD 3) (cD (.int 1))))))))
    (retS (oD (sealed catD) (oD (sealed addD) (vD 2) (slD (sealed slDD) (vD 0) (atO (vD 3)) noO)) (slD (sealed slDD) (vD 1) (atO (vD 4)) noO)))))))
noncomputable def F_merged : List D → Option D := sealed (runF 5 B_merged)
abbrev sp_merged (K : PySem.W.Frag) : Sp := spP K kNames true 2 F_merged
noncomputable def B_in_order (F_in_order : List D → Option D) : SF :=
    (seqS (ifS (bD (oD (sealed ltD) (callD (sealed lenD) (aCons (vD 0) aNil)) (cD (.int 2)))) (retS (callD (sealed listD) (aCons (vD 0) aNil)))
    nxS)
    (seqS (setS 1 (mk [false, false] (oD (sealed fdivC) (callD (sealed lenD) (aCons (vD 0) aNil)) (cD (.int 2)))))
    (retS (callD F_merged (aCons (callD F_in_order (aCons (slD (sealed slDD) (vD 0) noO (atO (vD 1))) aNil)) (aCons (callD F_in_order (aCons (slD (sealed slDD) (vD 0) (atO (vD 1)) noO) aNil)) aNil))))))
noncomputable def R_in_order : Nat → List D → Option D
  | 0 => fun _ => none
  | n + 1 => sealed (runF 2 (B_in_order (R_in_order n)))
noncomputable abbrev F_in_order : List D → Option D := R_in_order 8
abbrev sp_in_order (K : PySem.W.Frag) : Sp := spP K kNames true 1 F_in_order
noncomputable def B_moments_in : SF :=
    (seqS (setS 1 (cD (.dt [] [])))
    (seqS (forS (mk [false, true, false] (itD (vD 0))) (nmG 2)
    (dputW 1 (oD (sealed ixD) (vD 2) (cD (.int 0))) (cD (.bl true))))
    (retS (callD F_in_order (aCons (callD (sealed dlistT) (aCons (vD 1) aNil)) aNil)))))
noncomputable def F_moments_in : List D → Option D := sealed (runF 3 B_moments_in)
abbrev sp_moments_in (K : PySem.W.Frag) : Sp := spP K kNames true 1 F_moments_in
noncomputable def B_sums_at : SF :=
    (seqS (setS 2 (mk [false, false, false] (compF (itD (vD 0)) (andB (notB (bD (callD F_less (aCons (vD 1) (aCons (oD (sealed ixD) (vD 0) (cD (.int 0))) aNil))))) (bD (callD F_less (aCons (vD 1) (aCons (oD (sealed ixD) (vD 0) (cD (.int 1))) aNil))))) (vD 0) [1])))
    (retS (tupD (aCons (callD (sealed sumD) (aCons (compF (itD (vD 2)) yesB (oD (sealed ixD) (vD 0) (cD (.int 2))) []) aNil)) (aCons (callD (sealed sumD) (aCons (compF (itD (vD 2)) yesB (oD (sealed ixD) (vD 0) (cD (.int 3))) []) aNil)) aNil)))))
noncomputable def F_sums_at : List D → Option D := sealed (runD 3 B_sums_at)
abbrev sp_sums_at (K : PySem.W.Frag) : Sp := spP K kNames false 2 F_sums_at
noncomputable def B_first_greatest : SF :=
    (seqS (setS 2 (mk [false, false, false, false, false, false] (cD .non)))
    (seqS (forS (mk [false, false, false, false, false, false] (itD (callD F_moments_in (aCons (vD 0) aNil)))) (nmG 3)
    (seqS (setS 4 (mk [false, false, false, false, false, false] (callD F_sums_at (aCons (vD 0) (aCons (vD 3) aNil)))))
    (seqS (setS 5 (mk [false, false, false, false, false, false] (tupD (aCons (vD 3) (aCons (oD (sealed ixD) (vD 4) (cD (.int 0))) (aCons (oD (sealed ixD) (vD 4) (cD (.int 1))) aNil))))))
    (ifS (orB (bD (oD (sealed isD) (vD 2) (cD .non))) (bD (oD (sealed gtD) (oD (sealed ixD) (vD 5) (vD 1)) (oD (sealed ixD) (vD 2) (vD 1))))) (setS 2 (mk [false, false, false, false, false, false] (vD 5)))
    nxS))))
    (retS (vD 2))))
noncomputable def F_first_greatest : List D → Option D := sealed (runD 6 B_first_greatest)
abbrev sp_first_greatest (K : PySem.W.Frag) : Sp := spP K kNames false 2 F_first_greatest
noncomputable def B_stays_of : SF :=
    (seqS (setS 3 (mk [false, false, false, false, false, false, false] (lstD aNil)))
    (seqS (forS (mk [false, false, false, true, false, false, false] (itD (vD 1))) (nmG 4)
    (ifS (bD (oD (sealed eqD) (oD (sealed ixD) (vD 4) (cD (.int 0))) (vD 2))) (forS (mk [false, false, false, true, false, false, false] (iaD (sealed zipL) (aCons (callD F_times_on (aCons (vD 0) (aCons (vD 4) aNil))) (aCons (oD (sealed ixD) (vD 4) (cD (.int 3))) aNil)))) (tupG [5, 6])
    (appS 3 (mk [false, false, false, true, false, false, false] (tupD (aCons (oD (sealed ixD) (vD 5) (cD (.int 0))) (aCons (oD (sealed ixD) (vD 5) (cD (.int 1))) (aCons (oD (sealed ixD) (vD 6) (cD (.int 1))) (aCons (oD (sealed ixD) (vD 6) (cD (.int 2))) aNil))))))))
    nxS))
    (retO 3)))
noncomputable def F_stays_of : List D → Option D := sealed (runF 7 B_stays_of)
abbrev sp_stays_of (K : PySem.W.Frag) : Sp := spP K kNames true 3 F_stays_of
noncomputable def B_worst : SF :=
    (retS (callD F_first_greatest (aCons (callD F_stays_of (aCons (vD 0) (aCons (vD 1) (aCons (vD 2) aNil)))) (aCons (cD (.int 2)) aNil))))
noncomputable def F_worst : List D → Option D := sealed (runD 3 B_worst)
abbrev sp_worst (K : PySem.W.Frag) : Sp := spP K kNames false 3 F_worst
noncomputable def B_worst_low : SF :=
    (retS (callD F_first_greatest (aCons (callD F_stays_of (aCons (vD 0) (aCons (vD 1) (aCons (vD 2) aNil)))) (aCons (cD (.int 1)) aNil))))
noncomputable def F_worst_low : List D → Option D := sealed (runD 3 B_worst_low)
abbrev sp_worst_low (K : PySem.W.Frag) : Sp := spP K kNames false 3 F_worst_low
noncomputable def B_verdict : SF :=
    (seqS (setS 3 (mk [false, false, false, false, false, false] (uD (sealed (getF .bears)) (callD F_bridge_of (aCons (vD 0) (aCons (vD 2) aNil))))))
    (seqS (setS 4 (mk [false, false, false, false, false, false] (callD F_worst (aCons (vD 0) (aCons (vD 1) (aCons (vD 2) aNil))))))
    (seqS (setS 5 (mk [false, false, false, false, false, false] (callD F_worst_low (aCons (vD 0) (aCons (vD 1) (aCons (vD 2) aNil))))))
    (seqS (ifS (bD (oD (sealed isD) (vD 4) (cD .non))) (retS (tupD (aCons (cD (.str (Str.ofString "safe"))) (aCons (cD .non) aNil))))
    nxS)
    (seqS (ifS (bD (oD (sealed gtD) (oD (sealed ixD) (vD 5) (cD (.int 1))) (vD 3))) (retS (tupD (aCons (cD (.str (Str.ofString "over"))) (aCons (oD (sealed ixD) (vD 5) (cD (.int 0))) aNil))))
    nxS)
    (seqS (ifS (bD (oD (sealed gtD) (oD (sealed ixD) (vD 4) (cD (.int 2))) (vD 3))) (retS (tupD (aCons (cD (.str (Str.ofString "may"))) (aCons (oD (sealed ixD) (vD 4) (cD (.int 0))) aNil))))
    nxS)
    (retS (tupD (aCons (cD (.str (Str.ofString "safe"))) (aCons (oD (sealed ixD) (vD 4) (cD (.int 0))) aNil))))))))))
noncomputable def F_verdict : List D → Option D := sealed (runD 6 B_verdict)
abbrev sp_verdict (K : PySem.W.Frag) : Sp := spP K kNames false 3 F_verdict
noncomputable def B_whole : SF :=
    (retS (tupD (aCons (vD 0) (aCons (cD (.int 1)) aNil))))
noncomputable def F_whole : List D → Option D := sealed (runD 1 B_whole)
abbrev sp_whole (K : PySem.W.Frag) : Sp := spP K kNames false 1 F_whole
noncomputable def B_meets_shut : SF :=
    (retS (andD (callD F_less (aCons (oD (sealed ixD) (vD 0) (cD (.int 0))) (aCons (callD F_whole (aCons (oD (sealed ixD) (vD 1) (cD (.int 1))) aNil)) aNil))) (callD F_less (aCons (callD F_whole (aCons (oD (sealed ixD) (vD 1) (cD (.int 0))) aNil)) (aCons (oD (sealed ixD) (vD 0) (cD (.int 1))) aNil)))))
noncomputable def F_meets_shut : List D → Option D := sealed (runD 2 B_meets_shut)
abbrev sp_meets_shut (K : PySem.W.Frag) : Sp := spP K kNames false 2 F_meets_shut
noncomputable def B_shuts_of : SF :=
    (retS (compF (itD (uD (sealed (getF .shuts)) (vD 0))) (bD (oD (sealed eqD) (oD (sealed ixD) (vD 0) (cD (.int 0))) (vD 1))) (tupD (aCons (oD (sealed ixD) (vD 0) (cD (.int 1))) (aCons (oD (sealed ixD) (vD 0) (cD (.int 2))) aNil))) [1]))
noncomputable def F_shuts_of : List D → Option D := sealed (runF 2 B_shuts_of)
abbrev sp_shuts_of (K : PySem.W.Frag) : Sp := spP K kNames true 2 F_shuts_of
noncomputable def B_may_enter : SF :=
    (seqS (setS 3 (mk [false, false, false, false, false] (oD (sealed ixD) (vD 2) (cD (.int 0)))))
    (seqS (ifS (bD (oD (sealed neD) (oD (sealed ixD) (callD F_verdict (aCons (vD 0) (aCons (oD (sealed addD) (vD 1) (lstD (aCons (vD 2) aNil))) (aCons (vD 3) aNil)))) (cD (.int 0))) (cD (.str (Str.ofString "safe"))))) (retS (cD (.bl false)))
    nxS)
    (seqS (forS (mk [false, false, false, false, false] (itD (callD F_times_on (aCons (vD 0) (aCons (vD 2) aNil))))) (nmG 4)
    (ifS (bD (callD (sealed anyD) (aCons (compF (itD (callD F_shuts_of (aCons (vD 0) (aCons (vD 3) aNil)))) yesB (callD F_meets_shut (aCons (vD 1) (aCons (vD 0) aNil))) [4]) aNil))) (retS (cD (.bl false)))
    nxS))
    (retS (cD (.bl true))))))
noncomputable def F_may_enter : List D → Option D := sealed (runD 5 B_may_enter)
abbrev sp_may_enter (K : PySem.W.Frag) : Sp := spP K kNames false 3 F_may_enter
noncomputable def B_law : SF :=
    (seqS (setS 1 (mk [false, false, false, false, false, false, false, false, false, false, false, false, false, false, false, false, false, false, false, false, false, false] (callD F_law_cell_at (aCons (vD 0) (aCons (cD (.int 0)) aNil)))))
    (seqS (setS 2 (mk [false, false, false, false, false, false, false, false, false, false, false, false, false, false, false, false, false, false, false, false, false, false] (callD F_law_bridges (aCons (vD 1) (aCons (oD (sealed addD) (cD (.int 1)) (oD (sealed modD) (callD F_law_mix (aCons (vD 1) (aCons (cD (.int 39373)) aNil))) (cD (.int 2)))) aNil)))))
    (seqS (setS 3 (mk [false, false, false, false, false, false, false, false, false, false, false, false, false, false, false, false, false, false, false, false, false, false] (callD F_law_shuts (aCons (vD 1) (aCons (vD 2) aNil)))))
    (seqS (setS 4 (mk [false, false, false, false, false, false, false, false, false, false, false, false, false, false, false, false, false, false, false, false, false, false] (callD F_law_road (aCons (vD 2) (aCons (lstD aNil) (aCons (vD 3) aNil))))))
    (seqS (setS 5 (mk [false, false, false, false, false, false, false, false, false, false, false, false, false, false, false, false, false, false, false, false, false, false] (callD F_law_mix (aCons (callD F_law_cell_at (aCons (vD 0) (aCons (cD (.int 1)) aNil))) (aCons (cD (.int 48271)) aNil)))))
    (seqS (setS 6 (mk [false, false, false, false, false, false, false, false, false, false, false, false, false, false, false, false, false, false, false, false, false, false] (callD F_law_close (aCons (slD (sealed slDD) (vD 0) (atO (cD (.int 2))) (atO (oD (sealed addD) (cD (.int 2)) (oD (sealed modD) (vD 5) (cD (.int 5)))))) (aCons (vD 2) (aCons (cD (.int 1)) aNil))))))
    (seqS (setS 7 (mk [false, false, false, false, false, false, false, false, false, false, false, false, false, false, false, false, false, false, false, false, false, false] (callD (sealed listD) (aCons (vD 6) aNil))))
    (seqS (forS (mk [false, false, false, false, false, false, false, false, false, false, false, false, false, false, false, false, false, false, false, false, false, false] (iaD (sealed rng1D) (aCons (cD (.int 4)) aNil))) (nmG 8)
    (seqS (asgS (mk [false, false, false, false, false, false, false, false, false, false, false, false, false, false, false, false, false, false, false, false, false, false] (oD (sealed ixD) (callD F_law_close (aCons (lstD (aCons (oD (sealed addD) (vD 5) (vD 8)) aNil)) (aCons (vD 2) (aCons (oD (sealed addD) (cD (.int 1)) (oD (sealed modD) (vD 8) (cD (.int 2)))) aNil)))) (cD (.int 0)))) (tupG [9, 10, 11, 12]))
    (seqS (setS 13 (mk [false, false, false, false, false, false, false, false, false, false, false, false, false, false, false, false, false, false, false, false, false, false] (oD (sealed ixD) (compF (itD (vD 2)) (bD (oD (sealed eqD) (oD (sealed ixD) (vD 0) (cD (.int 0))) (vD 1))) (vD 0) [9]) (cD (.int 0)))))
    (seqS (setS 14 (mk [false, false, false, false, false, false, false, false, false, false, false, false, false, false, false, false, false, false, false, false, false, false] (callD F_law_spans (aCons (vD 13) (aCons (vD 6) aNil)))))
    (seqS (setS 15 (mk [false, false, false, false, false, false, false, false, false, false, false, false, false, false, false, false, false, false, false, false, false, false] (callD F_law_own_spans (aCons (vD 13) (aCons (tupD (aCons (vD 9) (aCons (vD 10) (aCons (vD 11) (aCons (vD 12) aNil))))) aNil)))))
    (seqS (setS 16 (mk [false, false, false, false, false, false, false, false, false, false, false, false, false, false, false, false, false, false, false, false, false, false] (callD F_law_entries (aCons (vD 13) (aCons (vD 3) (aCons (vD 14) (aCons (vD 15) aNil)))))))
    (seqS (setS 17 (mk [false, false, false, false, false, false, false, false, false, false, false, false, false, false, false, false, false, false, false, false, false, false] (oD (sealed ixD) (vD 16) (oD (sealed modD) (oD (sealed addD) (oD (sealed fdivC) (vD 5) (cD (.int 7))) (oD (sealed mulD) (cD (.int 5)) (vD 8))) (callD (sealed lenD) (aCons (vD 16) aNil))))))
    (forS (mk [false, false, false, false, false, false, false, false, false, false, false, false, false, false, false, false, false, false, false, false, false, false] (itD (lstD (aCons (cD (.int 0)) (aCons (uD (sealed negD) (cD (.int 3))) (aCons (cD (.int 3)) aNil)))))) (nmG 18)
    (seqS (setS 19 (mk [false, false, false, false, false, false, false, false, false, false, false, false, false, false, false, false, false, false, false, false, false, false] (callD (sealed max2D) (aCons (cD (.int 0)) (aCons (oD (sealed addD) (vD 17) (vD 18)) aNil)))))
    (seqS (setS 20 (mk [false, false, false, false, false, false, false, false, false, false, false, false, false, false, false, false, false, false, false, false, false, false] (tupD (aCons (vD 9) (aCons (callD F_law_frac (aCons (vD 19) (aCons (cD (.int 27720)) aNil))) (aCons (vD 11) (aCons (vD 12) aNil)))))))
    (seqS (setS 21 (mk [false, false, false, false, false, false, false, false, false, false, false, false, false, false, false, false, false, false, false, false, false, false] (callD F_law_allowed (aCons (vD 13) (aCons (vD 3) (aCons (vD 14) (aCons (callD F_law_own_spans (aCons (vD 13) (aCons (vD 20) aNil))) aNil)))))))
    (ifS (notB (bD (callD F_law_same (aCons (callD F_may_enter (aCons (vD 4) (aCons (vD 6) (aCons (vD 20) aNil)))) (aCons (vD 21) aNil))))) (retS (cD (.bl false)))
    nxS))))))))))))
    (retS (oD (sealed eqD) (vD 6) (vD 7)))))))))))
noncomputable def F_law : List D → Option D := sealed (runD 22 B_law)
open PD
theorem mulD_ii {i j : Int} (h : (-18446744073709551616 < i ∧ i < 18446744073709551616) ∨ (-18446744073709551616 < j ∧ j < 18446744073709551616)) : sealed mulD (.int i) (.int j) = some (.int (i * j)) := by rw [seal_eq]; exact if_pos h
theorem modD_ii {i j : Int} (h : 0 < j) : sealed modD (.int i) (.int j) = some (.int (i % j)) := by rw [seal_eq]; exact if_pos h
theorem fdivC_ii {i j : Int} (h : 0 < j ∧ j < 1073741824) : sealed fdivC (.int i) (.int j) = some (.int (i / j)) := by rw [seal_eq]; exact if_pos h
theorem fdivD_ii {i j : Int} (h : 0 < j ∧ j < 18446744073709551616) : sealed fdivD (.int i) (.int j) = some (.int (i / j)) := by rw [seal_eq]; exact if_pos h
theorem addD_ii {i j : Int} : sealed addD (.int i) (.int j) = some (.int (i + j)) := by rw [seal_eq]; exact rfl
theorem subD_ii {i j : Int} : sealed subD (.int i) (.int j) = some (.int (i - j)) := by rw [seal_eq]; exact rfl
theorem ltD_ii {i j : Int} : sealed ltD (.int i) (.int j) = some (.bl (decide (i < j))) := by rw [seal_eq]; exact rfl
theorem leD_ii {i j : Int} : sealed leD (.int i) (.int j) = some (.bl (decide (i ≤ j))) := by rw [seal_eq]; exact rfl
theorem gtD_ii {i j : Int} : sealed gtD (.int i) (.int j) = some (.bl (decide (j < i))) := by rw [seal_eq]; exact rfl
theorem eqD_ii {i j : Int} : sealed eqD (.int i) (.int j) = some (.bl (decide (i = j))) := by rw [seal_eq]; exact rfl
theorem eqD_ss {i j : Str} : sealed eqD (.str i) (.str j) = some (.bl (decide (i = j))) := by rw [seal_eq]; exact rfl
theorem neD_ii {i j : Int} : sealed neD (.int i) (.int j) = some (.bl (!decide (i = j))) := by rw [seal_eq]; exact rfl
theorem negD_i {i : Int} : sealed negD (.int i) = some (.int (-i)) := by rw [seal_eq]; exact rfl
theorem ixD_l {xs : List D} {i : Int} : sealed ixD (.lst xs) (.int i) = atI xs i := by rw [seal_eq]; exact rfl
theorem ixD_t {xs : List D} {i : Int} : sealed ixD (.tup xs) (.int i) = atI xs i := by rw [seal_eq]; exact rfl
theorem ixD_f {xs : List D} {i : Int} : sealed ixD (.fz xs) (.int i) = atI xs i := by rw [seal_eq]; exact rfl
theorem atI_nat' {α : Type} {xs : List α} {n : Nat} (h : n < xs.length) : atI xs (n : Int) = xs[n]? := by
  unfold atI ixN
  rw [if_pos (by omega), if_pos (by omega)]
  rfl
theorem atI_of {α : Type} {xs : List α} {i : Int} {n : Nat} {x : α} (hi : i = n) (h : xs[n]? = some x) : atI xs i = some x := by
  subst hi
  rw [atI_nat' (List.getElem?_eq_some_iff.mp h).1, h]
theorem vD_z {o : Option D} {r : PD.Env} : vD 0 (o :: r) = o := rfl
theorem vD_s {n : Nat} {o : Option D} {r : PD.Env} : vD (n + 1) (o :: r) = vD n r := rfl
theorem maskD_f {fl : List Bool} {o : Option D} {r : PD.Env} : maskD (false :: fl) (o :: r) = o :: maskD fl r := rfl
theorem maskD_t {fl : List Bool} {o : Option D} {r : PD.Env} : maskD (true :: fl) (o :: r) = none :: maskD fl r := rfl
theorem maskD_n {r : PD.Env} : maskD [] r = [] := rfl
theorem own_z {xs : List D} {r : PD.Env} : ownAt 0 (some (.lst xs) :: r) = some xs := rfl
theorem own_s {n : Nat} {o : Option D} {r : PD.Env} : ownAt (n + 1) (o :: r) = ownAt n r := rfl
theorem enumD_l {xs : List D} : sealed enumD [.lst xs] = some (enumG xs) := by rw [seal_eq]; exact rfl
theorem zipL_l {xs ys : List D} : sealed zipL [.lst xs, .lst ys] = some (zipG xs ys) := by rw [seal_eq]; exact rfl
theorem lenD_l {xs : List D} : sealed lenD [.lst xs] = some (.int xs.length) := by rw [seal_eq]; rfl
theorem lenD_t {xs : List D} : sealed lenD [.tup xs] = some (.int xs.length) := by rw [seal_eq]; rfl
theorem bindS {α β : Type} {a : α} {f : α → Option β} : (some a).bind f = f a := rfl
theorem ite_tt {α : Type} {a b : α} : (if true = true then a else b) = a := rfl
theorem ite_ff {α : Type} {a b : α} : (if false = true then a else b) = b := rfl
theorem seqS_nx {F G : SF} {e e1 : PD.Env} (h : F e = some (.nx e1)) : seqS F G e = G e1 := by unfold seqS; rw [h]; rfl
theorem run_rt {n : Nat} {b : SF} {ds : List D} {d : D} (h : b (startD n ds) = some (.rt d)) : runD n b ds = some d := by unfold runD; rw [h]; rfl
theorem runF_rt {n : Nat} {b : SF} {ds : List D} {d : D} (h : b (startD n ds) = some (.rt d)) : runF n b ds = some d := by unfold runF; rw [h]; rfl
theorem mlo {a k : Int} (h : 0 < k := by decide) : 0 ≤ a % k := Int.emod_nonneg _ (Int.ne_of_gt h)
theorem mhi {a k : Int} (h : 0 < k := by decide) : a % k < k := Int.emod_lt_of_pos _ h
theorem mge {a k c m : Int} (h : 0 < k := by decide) (h2 : m ≤ c := by decide) : m ≤ c + a % k := by
  have := mlo (a := a) h
  omega
theorem mle {a k c m : Int} (h : 0 < k := by decide) (h2 : c + k ≤ m + 1 := by decide) : c + a % k ≤ m := by
  have := mhi (a := a) h
  omega
theorem ipos {a : Int} (h : 1 ≤ a) : 0 < a := h
theorem inn {a : Int} (h : 1 ≤ a) : 0 ≤ a := Int.le_of_lt h
theorem ilt {a m n : Int} (h : a ≤ m) (h2 : m < n := by decide) : a < n := Int.lt_of_le_of_lt h h2
theorem ile {a m n : Int} (h : a ≤ m) (h2 : m ≤ n := by decide) : a ≤ n := Int.le_trans h h2
theorem ipz {b : Int} (h : 0 ≤ b) (h0 : ¬ b = 0) : 0 < b := by omega
theorem ine {b : Int} (h : 0 < b) : b ≠ 0 := Int.ne_of_gt h
theorem inl0 {b : Int} (h : 0 < b) : ¬ b < 0 := fun q => Int.lt_irrefl _ (Int.lt_trans h q)
theorem inn1 {b : Int} (h : 0 ≤ b) : 0 < b + 1 := Int.lt_add_one_of_le h
theorem itn {i : Int} (h : 0 ≤ i) : i = ((i.toNat : Nat) : Int) := (Int.toNat_of_nonneg h).symm
theorem nub {n m : Nat} {a k c : Int} (h : c + a % k = (n : Int)) (hk : 0 < k := by decide) (h2 : c + k ≤ (m : Int) + 1 := by decide) : n ≤ m := by
  have := mhi (a := a) hk
  omega
theorem nlb {n m : Nat} {a k c : Int} (h : c + a % k = (n : Int)) (hk : 0 < k := by decide) (h2 : (m : Int) ≤ c := by decide) : m ≤ n := by
  have := mlo (a := a) hk
  omega
theorem nif {i n : Nat} (h : ¬ i < n) : ¬ ((i : Int) < (n : Int)) := fun q => h (Int.ofNat_lt.mp q)
theorem nit {i n : Nat} (h : i < n) : (i : Int) < (n : Int) := Int.ofNat_lt.mpr h
theorem nsub {a j m n : Nat} (h : a + (m - j) ≤ n + 1) (hj : j < m) : a + (m - (j + 1)) ≤ n := by omega
theorem nsub' {a j m n : Nat} (h : (m - j) + a ≤ n + 1) (hj : j < m) : (m - (j + 1)) + a ≤ n := by omega
theorem nlt {a m n : Nat} (h : a ≤ m) (h2 : m < n := by decide) : a < n := Nat.lt_of_le_of_lt h h2
theorem nle {a m n : Nat} (h : a ≤ m) (h2 : m ≤ n := by decide) : a ≤ n := Nat.le_trans h h2
theorem nll {a m n : Nat} (h : a < m) (h2 : m ≤ n := by decide) : a < n := Nat.lt_of_lt_of_le h h2
theorem nla {a b m n : Nat} (h : a + b < m) (h2 : m ≤ n := by decide) : a < n := Nat.lt_of_le_of_lt (Nat.le_add_right a b) (Nat.lt_of_lt_of_le h h2)
set_option compiler.extract_closed false
local macro_rules | `(tactic| o_reads) => `(tactic| first | decide | exact .inl (by decide) | exact .inr (by decide) | omega)
local macro_rules | `(tactic| o_shape) => `(tactic| first | decide | exact mlo | exact mhi | exact mge | exact mle | assumption | exact Nat.le_refl _ | exact ipos (by assumption) | exact inn (by assumption) | exact ilt (by assumption) | exact ile (by assumption) | exact nlt (by assumption) | exact nle (by assumption) | exact nll (by assumption) | exact nla (by assumption) | exact ine (by assumption) | exact ine (ipos (by assumption)) | exact ipz (by assumption) (by assumption) | exact Int.le_of_lt (by assumption) | exact inl0 (by assumption) | exact inn1 (by assumption) | exact ine (inn1 (by assumption)) | exact itn (by assumption) | exact itn mge | exact nsub (by assumption) (by assumption) | exact nsub' (by assumption) (by assumption) | omega)
local macro_rules | `(tactic| k_search ($a, $bs,*)) => `(tactic| simp (disch := o_reads) only [$a:term, $[$bs:term],*, slD, atO, noO, iaD, itD, enumD_l, zipL_l, lenD_l, lenD_t, forS, runD, runF, seqS, setS, retO, appS, appW, asgS, nmG, tupG, setsG, retS, ifS, nxS, bD, mk, maskD_f, maskD_t, maskD_n, own_z, own_s, oD, uD, vD_z, vD_s, cD, callD, aCons, aNil, tupD, lstD, andB, orB, notB, andD, orD, notD, bindS, ite_tt, ite_ff, if_true, if_false, List.set_cons_zero, List.set_cons_succ, List.length_map, List.length_range, List.length_append, List.length_cons, List.length_nil, mulD_ii, modD_ii, fdivC_ii, fdivD_ii, addD_ii, subD_ii, ltD_ii, leD_ii, gtD_ii, eqD_ii, eqD_ss, neD_ii, negD_i])
local macro_rules | `(tactic| k_search ($a)) => `(tactic| k_search ($a, bindS))
local macro_rules | `(tactic| ktf_call $t) => `(tactic| refine (seqS_nx (by k_search $t; try rfl)).trans ?_)
theorem forD_inv {g : GF} {b : SF} (Pv : Nat → PD.Env → Prop) : ∀ {ds : List D} {env : PD.Env} (k : Nat), Pv k env → (∀ i d e, ds[i]? = some d → Pv (k + i) e → ∃ e1, g d e = some e1 ∧ ∃ e2, b e1 = some (.nx e2) ∧ Pv (k + i + 1) e2) → ∃ e', forD g b ds env = some (.nx e') ∧ Pv (k + ds.length) e'
  | [], env, k, h0, _ => ⟨env, rfl, h0⟩
  | d :: ds, env, k, h0, hs => by
    obtain ⟨e1, h1, e2, h2, p2⟩ := hs 0 d env rfl h0
    obtain ⟨e', h3, p3⟩ := forD_inv (g := g) (b := b) Pv (ds := ds) (env := e2) (k + 1) p2 (fun i d e hd hp => by
      obtain ⟨f1, q1, f2, q2, q3⟩ := hs (i + 1) d e hd (by rw [show k + (i + 1) = k + 1 + i from by omega]; exact hp)
      exact ⟨f1, q1, f2, q2, by rw [show k + 1 + i + 1 = k + (i + 1) + 1 from by omega]; exact q3⟩)
    refine ⟨e', ?_, by rw [List.length_cons, show k + (ds.length + 1) = k + 1 + ds.length from by omega]; exact p3⟩
    rw [forD, h1, bindS, h2, bindS]
    exact h3
theorem forD_end {g : GF} {b : SF} {ds : List D} {env : PD.Env} (Pv : Nat → PD.Env → Prop) (h0 : Pv 0 env) (hs : ∀ i d e, ds[i]? = some d → Pv i e → ∃ e1, g d e = some e1 ∧ ∃ e2, b e1 = some (.nx e2) ∧ Pv (i + 1) e2) : ∃ e', forD g b ds env = some (.nx e') ∧ Pv ds.length e' := by
  obtain ⟨e', h1, h2⟩ := forD_inv (g := g) (b := b) Pv 0 h0 (fun i d e hd hp => by rw [Nat.zero_add] at hp ⊢; exact hs i d e hd hp)
  exact ⟨e', h1, by rw [Nat.zero_add] at h2; exact h2⟩
theorem comp_map {fc : BF} {fe : VF} {caps : PD.Env} {α : Type} {mk : α → D} {f : α → D} : ∀ {xs : List α}, (∀ x ∈ xs, fc (some (mk x) :: caps) = some true ∧ fe (some (mk x) :: caps) = some (f x)) → compD fc fe caps (xs.map mk) = some (xs.map f)
  | [], _ => rfl
  | x :: xs, h => by
    obtain ⟨h1, h2⟩ := h x List.mem_cons_self
    rw [List.map_cons, compD, h1, bindS, ite_tt, h2, bindS, comp_map fun y hy => h y (List.mem_cons_of_mem _ hy)]
    rfl
theorem comp_sel {fc : BF} {fe : VF} {caps : PD.Env} {α : Type} {mk : α → D} {p : α → Bool} {f : α → D} : ∀ {xs : List α}, (∀ x ∈ xs, fc (some (mk x) :: caps) = some (p x) ∧ (p x = true → fe (some (mk x) :: caps) = some (f x))) → compD fc fe caps (xs.map mk) = some ((xs.filter p).map f)
  | [], _ => rfl
  | x :: xs, h => by
    obtain ⟨h1, h2⟩ := h x List.mem_cons_self
    rw [List.map_cons, compD, h1, bindS, comp_sel fun y hy => h y (List.mem_cons_of_mem _ hy)]
    cases e : p x with
    | true => rw [ite_tt, h2 e, bindS, List.filter_cons_of_pos (by simpa using e)]; rfl
    | false => rw [ite_ff, List.filter_cons_of_neg (by simp [e])]
theorem inS_map : ∀ {xs : List Int}, inS (xs.map D.int) = some xs
  | [] => rfl
  | x :: xs => by rw [List.map_cons, inS, inS_map]; rfl
theorem blS_map : ∀ {xs : List Bool}, blS (xs.map D.bl) = some xs
  | [] => rfl
  | x :: xs => by rw [List.map_cons, blS, blS_map]; rfl
theorem reps_list (c : Nat) : ∀ (k : Nat) (acc : Array Nat), ((List.replicate k #[c]).foldl (· ++ ·) acc).toList = acc.toList ++ List.replicate k c
  | 0, acc => by simp
  | k + 1, acc => by
    rw [List.replicate_succ, List.foldl_cons, reps_list c k, Array.toList_append, List.append_assoc]
    rfl
theorem cs_mul (c : Nat) (n : Int) : Tx.cs (Txt.mul ⟨#[c]⟩ n) = List.replicate n.toNat c := by
  unfold Txt.mul
  by_cases h1 : n < 1
  · rw [if_pos h1, show n.toNat = 0 by o_shape]
    rfl
  · rw [if_neg h1]
    by_cases h2 : n = 1
    · subst h2; rfl
    · have e : (n == 1 || (⟨#[c]⟩ : Str).length == 0) = false := by
        rw [show (n == 1) = false from by simpa using h2]
        rfl
      rw [e, if_neg Bool.false_ne_true]
      show ((List.replicate n.toNat #[c]).foldl (· ++ ·) #[]).toList = _
      rw [reps_list]
      rfl
structure Br where
  name : Str
  length : Int
  bears : Int
  wide : Int
  most : Int
def Br.t (b : Br) : D := .tup [.str "bridge", .str b.name, .int b.length, .int b.bears, .int b.wide, .int b.most]
def Br.o (b : Br) : D := .ob .Bridge [(.name, .str b.name), (.length, .int b.length), (.bears, .int b.bears), (.wide, .int b.wide), (.most, .int b.most)]
structure Br.WF (b : Br) : Prop where
  l1 : 1 ≤ b.length
  l2 : b.length ≤ 1000
  b1 : 1 ≤ b.bears
  b2 : b.bears ≤ 10000000
  w1 : 1 ≤ b.wide
  w2 : b.wide ≤ 200
  m1 : 1 ≤ b.most
  m2 : b.most ≤ 10000000
def opT (l : Int) : D := .tup [.str "open", .int l]
def opO (l : Int) : D := .ob .Open [(.length, .int l)]
inductive Pc where
  | op (l : Int) | br (b : Br)
def Pc.t : Pc → D
  | .op l => opT l
  | .br b => b.t
def Pc.o : Pc → D
  | .op l => opO l
  | .br b => b.o
def Pc.isB : Pc → Bool
  | .br _ => true
  | _ => false
def rdT (r : Str × Int) : D := .tup [.str r.1, .int r.2]
def shT (r : Str × Int × Int) : D := .tup [.str r.1, .int r.2.1, .int r.2.2]
structure Rod where
  first : Int
  bs : List (Br × Int)
  rounds : List (Str × Int)
  shuts : List (Str × Int × Int)
def bsP : List (Br × Int) → List Pc
  | [] => []
  | (b, o) :: r => .br b :: .op o :: bsP r
def Rod.pcs (R : Rod) : List Pc := .op R.first :: bsP R.bs
def Rod.o (R : Rod) : D := .ob .Road [(.pieces, .lst (R.pcs.map Pc.o)), (.rounds, .lst (R.rounds.map rdT)), (.shuts, .lst (R.shuts.map shT))]
theorem pick {xs : List D} {i n : Int} {Pv : D → Prop} (h0 : 0 ≤ i) (h1 : i < xs.length) (h : ∀ x ∈ xs, Pv x) : ∃ x, atI xs i = some x ∧ Pv x := by
  have hk : i.toNat < xs.length := by o_shape
  exact ⟨xs[i.toNat], atI_of (n := i.toNat) (by o_shape) (List.getElem?_eq_getElem hk), h _ (List.getElem_mem hk)⟩
def IntIn (a b : Int) (d : D) : Prop := ∃ i, d = .int i ∧ a ≤ i ∧ i ≤ b
theorem let_at {i : Int} (h0 : 0 ≤ i) (h1 : i < 26) : ∃ c, sealed ixD (.str (Str.ofString "abcdefghijklmnopqrstuvwxyz")) (.int i) = some (.str ⟨#[c]⟩) ∧ (c : Int) = 97 + i := by
  have all : ∀ k : Nat, k < 26 → (Str.ofString "abcdefghijklmnopqrstuvwxyz").cps.toList[k]? = some (97 + k) := by decide +kernel
  have q := atI_of (i := i) (n := i.toNat) (by o_shape) (all i.toNat (by o_shape))
  refine ⟨97 + i.toNat, ?_, by o_shape⟩
  have e : sealed ixD (.str (Str.ofString "abcdefghijklmnopqrstuvwxyz")) (.int i) = if (Str.ofString "abcdefghijklmnopqrstuvwxyz").length ≤ 1000000 then (atI (Str.ofString "abcdefghijklmnopqrstuvwxyz").cps.toList i).map fun c => D.str ⟨#[c]⟩ else none := by rw [seal_eq]; rfl
  rw [e, if_pos (by decide +kernel), q]
  rfl
theorem mulD_s {a : Str} {n : Int} (h : a.length ≤ 16 ∧ 0 ≤ n ∧ n ≤ 1000000) : sealed mulD (.str a) (.int n) = some (.str (Txt.mul a n)) := by rw [seal_eq]; exact if_pos h
theorem rng1_of {j : Int} (h : -1000000 < j ∧ j < 1000000) : sealed rng1D [.int j] = some ((List.range j.toNat).map fun (i : Nat) => D.int (0 + (i : Int))) := by rw [seal_eq]; exact if_pos h
theorem bsP_app : ∀ (bs : List (Br × Int)) (b : Br) (o : Int), bsP (bs ++ [(b, o)]) = bsP bs ++ [.br b, .op o]
  | [], _, _ => rfl
  | (c, p) :: r, b, o => by
    show Pc.br c :: .op p :: bsP (r ++ [(b, o)]) = _
    rw [bsP_app r b o]
    rfl
theorem bsP_len : ∀ bs : List (Br × Int), (bsP bs).length = 2 * bs.length
  | [] => rfl
  | (c, p) :: r => by
    show (bsP r).length + 1 + 1 = 2 * (r.length + 1)
    rw [bsP_len r]
    omega
def cutL {α : Type} (xs : List α) (lo hi : Option Int) : List α := (xs.drop (HT.sIx xs.length 0 lo)).take (HT.sIx xs.length xs.length hi - HT.sIx xs.length 0 lo)
theorem cutD_map {α : Type} {f : α → D} {xs : List α} {lo hi : Option Int} : cutD (xs.map f) lo hi = (cutL xs lo hi).map f := by
  unfold cutD cutL
  rw [List.length_map, List.map_take, List.map_drop]
theorem cutL_len {α : Type} {xs : List α} {a b : Nat} : (cutL xs (some (a : Int)) (some (b : Int))).length ≤ b - a := by
  unfold cutL
  rw [HT.sIx_nat, HT.sIx_nat]
  refine Nat.le_trans (List.length_take_le _ _) ?_
  rcases Nat.le_total a xs.length with h | h
  · rw [Nat.min_eq_left h]
    exact Nat.sub_le_sub_right (Nat.min_le_left _ _) _
  · rw [Nat.min_eq_right h]
    exact Nat.le_trans (Nat.le_of_eq (Nat.sub_eq_zero_of_le (Nat.min_le_right _ _))) (Nat.zero_le _)
inductive Good : Nat → D → Prop
  | non (k : Nat) : Good (k + 1) .non
  | bl (k : Nat) (b : Bool) : Good (k + 1) (.bl b)
  | int (k : Nat) (i : Int) : Good (k + 1) (.int i)
  | str (k : Nat) (s : Str) : Good (k + 1) (.str s)
  | lst {k : Nat} {xs : List D} (h : ∀ x ∈ xs, Good k x) (l : xs.length < 1000000) : Good (k + 1) (.lst xs)
  | tup {k : Nat} {xs : List D} (h : ∀ x ∈ xs, Good k x) (l : xs.length < 1000000) : Good (k + 1) (.tup xs)
theorem s_isC {c c' : Cl} {fs : List (Fl × D)} {b : Bool} (h : decide (c' = c) = b) : sealed (isC c) [.ob c' fs] = some (.bl b) := by
  rw [seal_eq, ← h]
  rfl
theorem isT_i {T : String} {i : Int} : sealed (isT T) [.int i] = some (.bl (kits "int" T)) := by rw [seal_eq]; rfl
theorem isT_s {T : String} {i : Str} : sealed (isT T) [.str i] = some (.bl (kits "str" T)) := by rw [seal_eq]; rfl
theorem isT_l {T : String} {i : List D} : sealed (isT T) [.lst i] = some (.bl (kits "list" T)) := by rw [seal_eq]; rfl
theorem isT_t {T : String} {i : List D} : sealed (isT T) [.tup i] = some (.bl (kits "tuple" T)) := by rw [seal_eq]; rfl
theorem isD_i {i : Int} : sealed isD (.int i) .non = some (.bl false) := by rw [seal_eq]; rfl
theorem isD_s {i : Str} : sealed isD (.str i) .non = some (.bl false) := by rw [seal_eq]; rfl
theorem isD_b {i : Bool} : sealed isD (.bl i) .non = some (.bl false) := by rw [seal_eq]; rfl
theorem isD_n : sealed isD .non .non = some (.bl true) := by rw [seal_eq]; rfl
theorem isD_l {i : List D} : sealed isD (.lst i) .non = some (.bl false) := by rw [seal_eq]; rfl
theorem isD_t {i : List D} : sealed isD (.tup i) .non = some (.bl false) := by rw [seal_eq]; rfl
theorem k_is : kits "int" "str" = false := by decide
theorem k_ii : kits "int" "int" = true := by decide
theorem k_ib : kits "int" "bool" = false := by decide
theorem k_ss : kits "str" "str" = true := by decide
theorem k_si : kits "str" "int" = false := by decide
theorem k_li : kits "list" "int" = false := by decide
theorem k_ls : kits "list" "str" = false := by decide
theorem k_lt : kits "list" "tuple" = false := by decide
theorem k_ti : kits "tuple" "int" = false := by decide
theorem k_ts : kits "tuple" "str" = false := by decide
theorem k_tl : kits "tuple" "list" = false := by decide
theorem k_ll : kits "list" "list" = true := by decide
theorem k_tt : kits "tuple" "tuple" = true := by decide
theorem ix0 {a : D} {r : List D} : atI (a :: r) 0 = some a := by
  have := atI_nat' (xs := a :: r) (n := 0) (by simp)
  exact this
theorem atI_num {xs : List D} {i : Int} {n : Nat} {x : D} (h : xs[n]? = some x) (hi : i = n := by rfl) : atI xs i = some x := atI_of hi h
theorem I_op {l : Int} : I_Open [.int l] = some [(.length, .int l)] := rfl
theorem I_br {b : Br} : I_Bridge [.str b.name, .int b.length, .int b.bears, .int b.wide, .int b.most] = some [(.name, .str b.name), (.length, .int b.length), (.bears, .int b.bears), (.wide, .int b.wide), (.most, .int b.most)] := rfl
theorem list_l {xs : List D} : sealed listD [.lst xs] = some (.lst xs) := by rw [seal_eq]; rfl
theorem I_rd {a b c : List D} : I_Road [.lst a, .lst b, .lst c] = some [(.pieces, .lst a), (.rounds, .lst b), (.shuts, .lst c)] := by
  show initF [(.pieces, callD (sealed listD) (aCons (vD 1) aNil)), (.rounds, callD (sealed listD) (aCons (vD 2) aNil)), (.shuts, callD (sealed listD) (aCons (vD 3) aNil))] [none, some (.lst a), some (.lst b), some (.lst c)] = _
  simp only [initF, callD, aCons, aNil, vD_z, vD_s, bindS, list_l, Option.map_some]
theorem get_l {c : Cl} {fs : List (Fl × D)} {f : Fl} {d : D} (h : getF f (.ob c fs) = some d) : sealed (getF f) (.ob c fs) = some d := by rw [seal_eq]; exact h
theorem g_pieces {R : Rod} : sealed (getF .pieces) R.o = some (.lst (R.pcs.map Pc.o)) := get_l rfl
theorem g_shuts {R : Rod} : sealed (getF .shuts) R.o = some (.lst (R.shuts.map shT)) := get_l rfl
theorem bsP_fil : ∀ bs : List (Br × Int), (bsP bs).filter Pc.isB = bs.map fun x => Pc.br x.1
  | [] => rfl
  | (b, o) :: r => by
    show Pc.br b :: (bsP r).filter Pc.isB = _
    rw [bsP_fil r]
    rfl
theorem F_bridges {R : Rod} (pl : R.pcs.length < 1000) : F_bridges_of [R.o] = some (.lst (R.bs.map fun x => x.1.o)) := by
  rw [F_bridges_of, seal_eq]
  refine runF_rt ?_
  show B_bridges_of [some R.o] = _
  unfold B_bridges_of
  have hc : compF (itD (uD (sealed (getF .pieces)) (vD 0))) (bD (callD (sealed (isC .Bridge)) (aCons (vD 0) aNil))) (vD 0) [] [some R.o] = some (.lst (R.bs.map fun x => x.1.o)) := by
    unfold compF
    simp only [itD, uD, vD_z, bindS, g_pieces, itemsD]
    rw [if_pos (by rw [List.length_map]; o_shape), comp_sel (p := Pc.isB) (f := Pc.o)]
    · show some (D.lst ((((Pc.op R.first :: bsP R.bs).filter Pc.isB)).map Pc.o)) = _
      rw [List.filter_cons_of_neg (by exact Bool.false_ne_true), bsP_fil, List.map_map]
      rfl
    · intro p _
      refine ⟨?_, fun _ => rfl⟩
      have c1 : sealed (isC .Bridge) [p.o] = some (.bl p.isB) := by cases p <;> exact s_isC (by first | decide | rfl)
      simp only [bD, callD, aCons, aNil, vD_z, bindS, c1]
  unfold retS
  rw [hc]
  rfl
theorem absD_i {i : Int} : sealed absD [.int i] = some (.int (if i < 0 then -i else i)) := by rw [seal_eq]; rfl
def frD (p : Int × Int) : D := .tup [.int p.1, .int p.2]
theorem half_mod {b r : Int} (h0 : 0 < r) (h1 : r ≤ b) : 2 * (b % r) < b := by
  have m0 := Int.emod_lt_of_pos b h0
  have e := Int.emod_add_mul_ediv b r
  have q : 1 ≤ b / r := by rw [Int.le_ediv_iff_mul_le h0]; o_shape
  have p : r * 1 ≤ r * (b / r) := Int.mul_le_mul_of_nonneg_left q (by o_shape)
  omega
theorem gcd_end {a b : Int} {o : Option D} (k : Nat) (ha : 0 ≤ a) (hb : b = 0) : whN (bD (oD (sealed neD) (vD 1) (cD (.int 0))))
    (seqS (setS 2 (mk [false, false, false] (oD (sealed modD) (vD 0) (vD 1))))
    (seqS (setS 0 (mk [false, false, false] (vD 1)))
    (setS 1 (mk [false, false, false] (vD 2))))) (k + 1) [some (.int a), some (.int b), o] = some (.nx [some (.int (Fr.G a b)), some (.int 0), o]) := by
  subst hb
  rw [whN]
  have e : Fr.G a 0 = a := Fr.G_zero ha
  rw [e]
  k_search (decide_true, Bool.not_true, Bool.false_eq_true)
theorem gcd_go {a b : Int} {o : Option D} (k : Nat) (hb : 0 < b) : whN (bD (oD (sealed neD) (vD 1) (cD (.int 0))))
    (seqS (setS 2 (mk [false, false, false] (oD (sealed modD) (vD 0) (vD 1))))
    (seqS (setS 0 (mk [false, false, false] (vD 1)))
    (setS 1 (mk [false, false, false] (vD 2))))) (k + 1) [some (.int a), some (.int b), o] = whN (bD (oD (sealed neD) (vD 1) (cD (.int 0))))
    (seqS (setS 2 (mk [false, false, false] (oD (sealed modD) (vD 0) (vD 1))))
    (seqS (setS 0 (mk [false, false, false] (vD 1)))
    (setS 1 (mk [false, false, false] (vD 2))))) k [some (.int b), some (.int (a % b)), some (.int (a % b))] := by
  rw [whN]
  have hne : ¬ (b = 0) := by o_shape
  k_search (hne, decide_false, Bool.not_false)
theorem wh_gcd : ∀ (k : Nat) (a b : Int) (o : Option D), 0 ≤ a → 0 ≤ b → b < 2 ^ k → ∃ o', whN (bD (oD (sealed neD) (vD 1) (cD (.int 0))))
    (seqS (setS 2 (mk [false, false, false] (oD (sealed modD) (vD 0) (vD 1))))
    (seqS (setS 0 (mk [false, false, false] (vD 1)))
    (setS 1 (mk [false, false, false] (vD 2))))) (2 * k + 1) [some (.int a), some (.int b), o] = some (.nx [some (.int (Fr.G a b)), some (.int 0), o'])
  | 0, a, b, o, ha, hb, hk => ⟨o, gcd_end 0 ha (by rw [Int.pow_zero] at hk; o_shape)⟩
  | k + 1, a, b, o, ha, hb, hk => by
    by_cases h0 : b = 0
    · exact ⟨o, gcd_end _ ha h0⟩
    have m0 : 0 ≤ a % b := Int.emod_nonneg _ h0
    have m1 : a % b < b := Int.emod_lt_of_pos _ (by o_shape)
    have g1 : Fr.G b (a % b) = Fr.G a b := Fr.G_step (by o_shape)
    by_cases h1 : a % b = 0
    · refine ⟨some (.int (a % b)), ?_⟩
      rw [show 2 * (k + 1) + 1 = 2 * k + 1 + 1 + 1 from rfl, gcd_go _ (by o_shape), gcd_end _ hb h1, g1]
    · have hh := half_mod (b := b) (r := a % b) (by o_shape) (by o_shape)
      have g2 : Fr.G (a % b) (b % (a % b)) = Fr.G b (a % b) := Fr.G_step (by o_shape)
      obtain ⟨o', ih⟩ := wh_gcd k (a % b) (b % (a % b)) (some (.int (b % (a % b)))) m0 (Int.emod_nonneg _ h1) (by rw [Int.pow_succ] at hk; o_shape)
      refine ⟨o', ?_⟩
      rw [show 2 * (k + 1) + 1 = 2 * k + 1 + 1 + 1 from rfl, gcd_go _ (by o_shape), gcd_go _ (by o_shape), ih, g2, g1]
theorem abs_n {a : Int} : sealed absD [.int a] = some (.int ((a.natAbs : Nat) : Int)) := by
  rw [absD_i]
  congr 2
  split <;> omega
theorem G_nat {a b : Int} : Fr.G ((a.natAbs : Nat) : Int) ((b.natAbs : Nat) : Int) = Fr.G a b := by
  unfold Fr.G
  simp [Int.gcd]
theorem F_gcd {a b : Int} (hb : b.natAbs < 1000000000000000000) : F_common_part [.int a, .int b] = some (.int (Fr.G a b)) := by
  rw [F_common_part, seal_eq]
  refine run_rt ?_
  show B_common_part [some (.int a), some (.int b), none] = _
  unfold B_common_part
  obtain ⟨o', h⟩ := wh_gcd 60 ((a.natAbs : Nat) : Int) ((b.natAbs : Nat) : Int) none (by omega) (by omega) (by omega)
  have hw := whS_of h (by omega)
  rw [G_nat] at hw
  ktf_call (abs_n)
  ktf_call (abs_n)
  ktf_call (hw)
  k_search (hw)
theorem low_div {a b : Int} (hb : 0 < b) : Fr.low a b = (a / Fr.G a b, b / Fr.G a b) := by
  have := Fr.G_pos (a := a) (b := b) (by o_shape)
  unfold Fr.low
  rw [Int.fdiv_eq_ediv_of_nonneg _ (by o_shape), Int.fdiv_eq_ediv_of_nonneg _ (by o_shape)]
theorem F_made_ok {a b : Int} (hb : 0 < b) (hb2 : b < 1000000000000000000) : F_made [.int a, .int b] = some (frD (Fr.low a b)) := by
  rw [F_made, seal_eq]
  refine run_rt ?_
  show B_made [some (.int a), some (.int b), none] = _
  unfold B_made
  have hg := F_gcd (a := a) (b := b) (by o_shape)
  have g1 := Fr.G_pos (a := a) (b := b) (by o_shape)
  have g2 := Fr.G_le (a := a) (b := b) (by o_shape)
  rw [low_div hb, frD]
  generalize Fr.G a b = g at *
  have hlt : ¬ b < 0 := by o_shape
  ktf_call (hg)
  ktf_call (decide_eq_false hlt, Bool.false_eq_true)
  k_search (hg)
theorem gcd2_end {x y : D} {a b : Int} (k : Nat) (ha : 0 ≤ a) (hb : b = 0) : whN (bD (oD (sealed neD) (vD 3) (cD (.int 0))))
    (parS 2 3 (mk [false, false, false, false] (aCons (vD 3) (aCons (oD (sealed modD) (vD 2) (vD 3)) aNil)))) (k + 1) [some x, some y, some (.int a), some (.int b)] = some (.nx [some x, some y, some (.int (Fr.G a b)), some (.int 0)]) := by
  subst hb
  rw [whN]
  have e : Fr.G a 0 = a := Fr.G_zero ha
  rw [e]
  k_search (decide_true, Bool.not_true, Bool.false_eq_true)
theorem gcd2_go {x y : D} {a b : Int} (k : Nat) (hb : 0 < b) : whN (bD (oD (sealed neD) (vD 3) (cD (.int 0))))
    (parS 2 3 (mk [false, false, false, false] (aCons (vD 3) (aCons (oD (sealed modD) (vD 2) (vD 3)) aNil)))) (k + 1) [some x, some y, some (.int a), some (.int b)] = whN (bD (oD (sealed neD) (vD 3) (cD (.int 0))))
    (parS 2 3 (mk [false, false, false, false] (aCons (vD 3) (aCons (oD (sealed modD) (vD 2) (vD 3)) aNil)))) k [some x, some y, some (.int b), some (.int (a % b))] := by
  rw [whN]
  have hne : ¬ (b = 0) := by o_shape
  k_search (parS, hne, decide_false, Bool.not_false)
theorem wh_gcd2 (x y : D) : ∀ (k : Nat) (a b : Int), 0 ≤ a → 0 ≤ b → b < 2 ^ k → whN (bD (oD (sealed neD) (vD 3) (cD (.int 0))))
    (parS 2 3 (mk [false, false, false, false] (aCons (vD 3) (aCons (oD (sealed modD) (vD 2) (vD 3)) aNil)))) (2 * k + 1) [some x, some y, some (.int a), some (.int b)] = some (.nx [some x, some y, some (.int (Fr.G a b)), some (.int 0)])
  | 0, a, b, ha, hb, hk => gcd2_end 0 ha (by rw [Int.pow_zero] at hk; o_shape)
  | k + 1, a, b, ha, hb, hk => by
    by_cases h0 : b = 0
    · exact gcd2_end _ ha h0
    have m0 : 0 ≤ a % b := Int.emod_nonneg _ h0
    have m1 : a % b < b := Int.emod_lt_of_pos _ (by o_shape)
    have g1 : Fr.G b (a % b) = Fr.G a b := Fr.G_step (by o_shape)
    by_cases h1 : a % b = 0
    · rw [show 2 * (k + 1) + 1 = 2 * k + 1 + 1 + 1 from rfl, gcd2_go _ (by o_shape), gcd2_end _ hb h1, g1]
    · have hh := half_mod (b := b) (r := a % b) (by o_shape) (by o_shape)
      have g2 : Fr.G (a % b) (b % (a % b)) = Fr.G b (a % b) := Fr.G_step (by o_shape)
      have ih := wh_gcd2 x y k (a % b) (b % (a % b)) m0 (Int.emod_nonneg _ h1) (by rw [Int.pow_succ] at hk; o_shape)
      rw [show 2 * (k + 1) + 1 = 2 * k + 1 + 1 + 1 from rfl, gcd2_go _ (by o_shape), gcd2_go _ (by o_shape), ih, g2, g1]
theorem F_lfrac {a b : Int} (hb : 0 < b) (hb2 : b < 1000000000000000000) : F_law_frac [.int a, .int b] = some (frD (Fr.low a b)) := by
  rw [F_law_frac, seal_eq]
  refine run_rt ?_
  show B_law_frac [some (.int a), some (.int b), none, none] = _
  unfold B_law_frac
  have h := wh_gcd2 (.int a) (.int b) 60 ((a.natAbs : Nat) : Int) ((b.natAbs : Nat) : Int) (by omega) (by omega) (by omega)
  have hw := whS_of h (by omega)
  rw [G_nat] at hw
  have g1 := Fr.G_pos (a := a) (b := b) (by o_shape)
  have g2 := Fr.G_le (a := a) (b := b) (by o_shape)
  rw [low_div hb, frD]
  generalize Fr.G a b = g at *
  have hlt : ¬ b < 0 := by o_shape
  ktf_call (abs_n)
  ktf_call (abs_n)
  ktf_call (hw)
  ktf_call (decide_eq_false hlt, Bool.false_eq_true)
  k_search (hw)
def addQ (p q : Int × Int) : Int × Int := Fr.low (p.1 * q.2 + q.1 * p.2) (p.2 * q.2)
structure Qok (B : Int) (p : Int × Int) : Prop where
  pos : 0 < p.2
  le : p.2 ≤ B
theorem fr_at0 {p : Int × Int} : atI [D.int p.1, .int p.2] 0 = some (.int p.1) := ix0
theorem fr_at1 {p : Int × Int} : atI [D.int p.1, .int p.2] 1 = some (.int p.2) := atI_num (n := 1) rfl
theorem F_plus_ok {p q : Int × Int} {A B : Int} (hp : Qok A p) (hq : Qok B q) (hA : A < 1000000000) (hB : B < 1000000000) (hAB : A * B < 1000000000000000000) : F_plus [frD p, frD q] = some (frD (addQ p q)) := by
  rw [F_plus, seal_eq]
  refine run_rt ?_
  show B_plus [some (frD p), some (frD q)] = _
  unfold B_plus
  have b0 : 0 < p.2 * q.2 := Int.mul_pos hp.pos hq.pos
  have b1 : p.2 * q.2 < 1000000000000000000 := Int.lt_of_le_of_lt (Int.mul_le_mul hp.le hq.le (Int.le_of_lt hq.pos) (Int.le_trans (Int.le_of_lt hp.pos) hp.le)) hAB
  have hm := F_made_ok (a := p.1 * q.2 + q.1 * p.2) b0 b1
  have p0 := hp.pos
  have p1 := hp.le
  have q0 := hq.pos
  have q1 := hq.le
  unfold addQ
  unfold frD at hm ⊢
  k_search (ixD_t, fr_at0, fr_at1, hm)
theorem low_ok {a b : Int} (hb : 0 < b) : Qok b (Fr.low a b) := by
  have g1 := Fr.G_pos (a := a) (b := b) (by o_shape)
  rw [low_div hb]
  have hd : Fr.G a b ∣ b := by unfold Fr.G; exact Int.gcd_dvd_right a b
  refine ⟨?_, ?_⟩
  · show 0 < b / Fr.G a b
    exact Int.ediv_pos_of_pos_of_dvd hb (Int.le_of_lt g1) hd
  · show b / Fr.G a b ≤ b
    exact Int.ediv_le_self _ (Int.le_of_lt hb)
theorem addQ_ok {p q : Int × Int} {A B : Int} (hp : Qok A p) (hq : Qok B q) : Qok (A * B) (addQ p q) := by
  have b0 : 0 < p.2 * q.2 := Int.mul_pos hp.pos hq.pos
  have h := low_ok (a := p.1 * q.2 + q.1 * p.2) b0
  exact ⟨h.pos, Int.le_trans h.le (Int.mul_le_mul hp.le hq.le (Int.le_of_lt hq.pos) (Int.le_trans (Int.le_of_lt hp.pos) hp.le))⟩
def SOk (s : Str) : Prop := PyData.canLay0 (.str s) = true
theorem sok_of {s : Str} (h : ∀ c ∈ Tx.cs s, c < 1114112) : SOk s := by
  show (s.cps.all _) = true
  rw [← Array.all_toList, List.all_eq_true]
  intro c hc
  exact decide_eq_true (h c hc)
inductive Nums : Nat → D → Prop
  | int (k : Nat) (i : Int) : Nums k (.int i)
  | str (k : Nat) {s : Str} (h : SOk s) : Nums k (.str s)
  | bl (k : Nat) (b : Bool) : Nums k (.bl b)
  | non (k : Nat) : Nums k .non
  | lst {k : Nat} {xs : List D} (h : ∀ x ∈ xs, Nums k x) : Nums (k + 1) (.lst xs)
  | tup {k : Nat} {xs : List D} (h : ∀ x ∈ xs, Nums k x) : Nums (k + 1) (.tup xs)
theorem nums_all {k : Nat} (ih : ∀ d, Nums k d → ∃ y, toPy d = some y ∧ PyData.canLay0 y = true ∧ PyData.depth y ≤ k) : ∀ xs : List D, (∀ x ∈ xs, Nums k x) → ∃ ys, toPys xs = some ys ∧ PyData.canLayAll0 ys = true ∧ PyData.depthAll ys ≤ k
  | [], _ => ⟨[], rfl, rfl, Nat.zero_le _⟩
  | x :: xs, h => by
    obtain ⟨y, h1, h2, h3⟩ := ih x (h x List.mem_cons_self)
    obtain ⟨ys, g1, g2, g3⟩ := nums_all ih xs fun z hz => h z (List.mem_cons_of_mem _ hz)
    refine ⟨y :: ys, by rw [toPys, h1, g1]; rfl, ?_, ?_⟩
    · show (PyData.canLay0 y && PyData.canLayAll0 ys) = true
      rw [h2, g2]
      rfl
    · show max (PyData.depth y) (PyData.depthAll ys) ≤ k
      omega
theorem nums_py : ∀ (k : Nat) (d : D), Nums k d → ∃ y, toPy d = some y ∧ PyData.canLay0 y = true ∧ PyData.depth y ≤ k
  | k, _, .int _ i => ⟨.int i, rfl, rfl, Nat.zero_le _⟩
  | k, _, .str _ h => ⟨.str _, rfl, h, Nat.zero_le _⟩
  | k, _, .bl _ i => ⟨.bool i, rfl, rfl, Nat.zero_le _⟩
  | k, _, .non _ => ⟨.none, rfl, rfl, Nat.zero_le _⟩
  | k + 1, _, .lst (xs := xs) h => by
    obtain ⟨ys, h1, h2, h3⟩ := nums_all (nums_py k) xs h
    exact ⟨.list ys, by rw [toPy, h1]; rfl, h2, Nat.succ_le_succ h3⟩
  | k + 1, _, .tup (xs := xs) h => by
    obtain ⟨ys, h1, h2, h3⟩ := nums_all (nums_py k) xs h
    exact ⟨.tuple ys, by rw [toPy, h1]; rfl, h2, Nat.succ_le_succ h3⟩
theorem eqX_self {k : Nat} {d : D} (h : Nums k d) (hk : k ≤ 64) : eqX d d = some true := by
  obtain ⟨y, h1, h2, h3⟩ := nums_py k d h
  unfold eqX
  rw [h1, bindS, bindS]
  have s : SeqAt.shaped y = true := by
    unfold SeqAt.shaped
    rw [h2, decide_eq_true (by o_shape)]
    rfl
  rw [if_pos ⟨s, s⟩, PySem.SeqAt.eqv_refl y h2]
theorem eqD_lst {k : Nat} {xs : List D} (h : Nums k (.lst xs)) (hk : k ≤ 64) : sealed eqD (.lst xs) (.lst xs) = some (.bl true) := by
  rw [seal_eq]
  show (eqX (.lst xs) (.lst xs)).map _ = _
  rw [eqX_self h hk]
  rfl
def mix2 (c f : Int) : Int := ((c * f + 12345) % 2147483647) * ((c * f + 12345) % 2147483647) % 2147483629 / 3
theorem mix2_nn (c f : Int) : 0 ≤ mix2 c f := by unfold mix2; o_shape
theorem F_mx {c f : Int} (h0 : 0 ≤ f) (h1 : f < 1000000) : F_law_mix [.int c, .int f] = some (.int (mix2 c f)) := by
  rw [F_law_mix, seal_eq]
  refine run_rt ?_
  show B_law_mix [some (.int c), some (.int f), none] = _
  unfold B_law_mix mix2
  have m1 : 0 ≤ (c * f + 12345) % 2147483647 := Int.emod_nonneg _ (by o_shape)
  have m2 : (c * f + 12345) % 2147483647 < 2147483647 := Int.emod_lt_of_pos _ (by o_shape)
  ktf_call (h1)
  generalize (c * f + 12345) % 2147483647 = m at m1 m2 ⊢
  k_search (h1)
def Br.t5 (b : Br) : D := .tup [.str b.name, .int b.length, .int b.bears, .int b.wide, .int b.most]
structure Br.W5 (b : Br) : Prop where
  l1 : 1 ≤ b.length
  l2 : b.length ≤ 1000
  b1 : 10 ≤ b.bears
  b2 : b.bears ≤ 199
  n0 : SOk b.name
abbrev bgE (c n : Int) (one : Int) (acc : List D) (o6 o7 o8 o9 o10 : Option D) : PD.Env := [some (.int c), some (.int n), some (.str (Str.ofString "abcdefghijklmnopqrstuvwxyz")), some (.int one), some (.int (1 + one % 12)), some (.lst acc), o6, o7, o8, o9, o10]
def NmD (bs : List Br) : Prop := ∀ b ∈ bs, bs.find? (fun d => decide (d.name = b.name)) = some b
theorem nmD_of {bs : List Br} (h : ∀ (i j : Nat) (b d : Br), bs[i]? = some b → bs[j]? = some d → b.name = d.name → i = j) : NmD bs := by
  intro b hb
  obtain ⟨i, hi⟩ := List.mem_iff_getElem?.mp hb
  cases e : bs.find? (fun d => decide (d.name = b.name)) with
  | none =>
    have := List.find?_eq_none.mp e b hb
    simp at this
  | some d =>
    have hn : d.name = b.name := by have := List.find?_some e; simpa using this
    obtain ⟨j, hj⟩ := List.mem_iff_getElem?.mp (List.mem_of_find?_eq_some e)
    have := h j i d b hj hi hn
    subst this
    rw [hj] at hi
    exact hi
def Lt (one : Int) (bs : List Br) : Prop := ∀ (k : Nat) (b : Br), bs[k]? = some b → ∃ ch : Nat, (ch : Int) = 97 + (one / 12 + (k : Int)) % 26 ∧ b.name = Txt.mul ⟨#[ch]⟩ (1 + one % 12)
def NmI (bs : List Br) : Prop := ∀ (i j : Nat) (b d : Br), bs[i]? = some b → bs[j]? = some d → b.name = d.name → i = j
theorem Lt.nd {one : Int} {bs : List Br} (h : Lt one bs) (h0 : 0 ≤ one) (hl : bs.length ≤ 26) : NmI bs := fun i j b d hi hj hn => by
  obtain ⟨c1, e1, n1⟩ := h i b hi
  obtain ⟨c2, e2, n2⟩ := h j d hj
  have il := (List.getElem?_eq_some_iff.mp hi).1
  have jl := (List.getElem?_eq_some_iff.mp hj).1
  rw [n1, n2] at hn
  have q := congrArg Tx.cs hn
  rw [cs_mul, cs_mul] at q
  obtain ⟨z, hz⟩ : ∃ z : Nat, one % 12 = (z : Int) := ⟨_, itn mlo⟩
  obtain ⟨m, hm⟩ : ∃ m, (1 + one % 12).toNat = m + 1 := ⟨z, by rw [hz, Int.add_comm]; rfl⟩
  rw [hm, List.replicate_succ, List.replicate_succ] at q
  have := (List.cons.inj q).1
  omega
theorem F_bgs0 {c : Int} {n : Nat} (hn : n ≤ 26) : ∃ bs : List Br, bs.length = n ∧ (∀ b ∈ bs, b.W5) ∧ NmI bs ∧ F_law_bridges [.int c, .int (n : Int)] = some (.lst (bs.map Br.t5)) := by
  have h1 := F_mx (c := c) (f := 48271) (by o_shape) (by o_shape)
  have nn := mix2_nn c 48271
  generalize mix2 c 48271 = one at h1 nn
  obtain ⟨e', hloop, bs, o6, o7, o8, o9, o10, hl, hb, hlt, rfl⟩ := forD_end (g := nmG 6) (b := (seqS (setS 7 (mk [false, false, false, false, false, true, false, false, false, false, false] (callD F_law_mix (aCons (oD (sealed addD) (vD 0) (oD (sealed mulD) (cD (.int 7)) (vD 6))) (aCons (cD (.int 69621)) aNil))))) (seqS (setS 8 (mk [false, false, false, false, false, true, false, false, false, false, false] (oD (sealed ixD) (lstD (aCons (oD (sealed addD) (cD (.int 1)) (oD (sealed modD) (vD 7) (cD (.int 12)))) (aCons (oD (sealed addD) (cD (.int 20)) (oD (sealed modD) (vD 7) (cD (.int 200)))) (aCons (oD (sealed addD) (cD (.int 1)) (oD (sealed modD) (vD 7) (cD (.int 1000)))) aNil)))) (oD (sealed modD) (oD (sealed fdivC) (vD 7) (cD (.int 1000))) (cD (.int 3)))))) (seqS (setS 9 (mk [false, false, false, false, false, true, false, false, false, false, false] (oD (sealed addD) (cD (.int 10)) (oD (sealed modD) (callD F_law_mix (aCons (oD (sealed addD) (vD 0) (vD 6)) (aCons (cD (.int 39373)) aNil))) (cD (.int 190)))))) (seqS (setS 10 (mk [false, false, false, false, false, true, false, false, false, false, false] (oD (sealed mulD) (oD (sealed ixD) (vD 2) (oD (sealed modD) (oD (sealed addD) (oD (sealed fdivC) (vD 3) (cD (.int 12))) (vD 6)) (cD (.int 26)))) (vD 4)))) (appS 5 (mk [false, false, false, false, false, true, false, false, false, false, false] (tupD (aCons (vD 10) (aCons (vD 8) (aCons (vD 9) (aCons (oD (sealed addD) (cD (.int 1)) (oD (sealed modD) (oD (sealed fdivC) (vD 7) (cD (.int 3000))) (cD (.int 200)))) (aCons (cD (.int 10000000)) aNil))))))))))))) (ds := (List.range n).map fun (i : Nat) => D.int (0 + (i : Int)))
    (env := bgE c n one [] none none none none none)
    (fun i e => ∃ bs o6 o7 o8 o9 o10, bs.length = i ∧ (∀ b ∈ bs, b.W5) ∧ Lt one bs ∧ e = bgE c n one (bs.map Br.t5) o6 o7 o8 o9 o10)
    ⟨[], none, none, none, none, none, rfl, fun b h => absurd h List.not_mem_nil, (fun k b h => by cases h), rfl⟩ (by
      rintro i d e hd ⟨bs, o6, o7, o8, o9, o10, hl, hb, hlt, rfl⟩
      rw [List.getElem?_map] at hd
      obtain ⟨k, hk, rfl⟩ := Option.map_eq_some_iff.mp hd
      obtain ⟨hk8, hk⟩ := List.getElem?_eq_some_iff.mp hk
      rw [List.getElem_range] at hk
      subst hk
      have hin : i < n := by simpa using hk8
      have h2 := F_mx (c := c + 7 * (i : Int)) (f := 69621) (by o_shape) (by o_shape)
      have nn2 := mix2_nn (c + 7 * (i : Int)) 69621
      have h3 := F_mx (c := c + (i : Int)) (f := 39373) (by o_shape) (by o_shape)
      have nn3 := mix2_nn (c + (i : Int)) 39373
      generalize mix2 (c + 7 * (i : Int)) 69621 = two at h2 nn2
      generalize mix2 (c + (i : Int)) 39373 = thr at h3 nn3
      obtain ⟨x, hx, l, rfl, l1, l2⟩ := pick (n := 5) (xs := [.int (1 + two % 12), .int (20 + two % 200), .int (1 + two % 1000)]) (i := two / 1000 % 3) (Pv := IntIn 1 1000) (by o_shape) (by show two / 1000 % 3 < 3; o_shape) (by
        intro x hx
        simp only [List.mem_cons, List.not_mem_nil, or_false] at hx
        rcases hx with rfl | rfl | rfl <;> exact ⟨_, rfl, by o_shape, by o_shape⟩)
      obtain ⟨ch, hch, hcv⟩ := let_at (i := (one / 12 + (i : Int)) % 26) (by o_shape) (by o_shape)
      have hmul := mulD_s (a := (⟨#[ch]⟩ : Str)) (n := 1 + one % 12) ⟨by show 1 ≤ 16; o_shape, by o_shape, by o_shape⟩
      have q : bs.length < 1000000 := by rw [hl]; exact Nat.lt_trans hin (nlt hn)
      refine ⟨_, rfl, bgE c n one ((bs ++ [Br.mk (Txt.mul ⟨#[ch]⟩ (1 + one % 12)) l (10 + thr % 190) (1 + two / 3000 % 200) 10000000]).map Br.t5) (some (.int (0 + (i : Int)))) (some (.int two)) (some (.int l)) (some (.int (10 + thr % 190))) (some (.str (Txt.mul ⟨#[ch]⟩ (1 + one % 12)))), ?_, bs ++ [Br.mk (Txt.mul ⟨#[ch]⟩ (1 + one % 12)) l (10 + thr % 190) (1 + two / 3000 % 200) 10000000], _, _, _, _, _, by simp [hl], fun b h => ?_, fun k b h => ?_, rfl⟩
      · generalize hk7 : c + 7 * (i : Int) = k7 at h2
        generalize hk1 : c + (i : Int) = k1 at h3
        ktf_call (Int.zero_add, hk7, h2)
        ktf_call (hx, ixD_l)
        ktf_call (Int.zero_add, hk1, h3)
        ktf_call (Int.zero_add, hch, hmul)
        k_search (bgE, Int.zero_add, q, List.map_append, List.map_cons, List.map_nil, Br.t5)
      · rcases List.mem_append.mp h with h | h
        · exact hb b h
        · cases List.mem_singleton.mp h
          exact ⟨l1, l2, by show 10 ≤ 10 + thr % 190; o_shape, by show 10 + thr % 190 ≤ 199; o_shape, sok_of fun x hx => by rw [cs_mul] at hx; rw [(List.mem_replicate.mp hx).2]; exact Int.ofNat_lt.mp (show ((ch : Nat) : Int) < ((1114112 : Nat) : Int) from by rw [hcv]; exact Int.lt_of_le_of_lt (mle (m := 122)) (by decide))⟩
      · by_cases hk : k < bs.length
        · rw [List.getElem?_append_left hk] at h
          exact hlt k b h
        · rw [List.getElem?_append_right (Nat.not_lt.mp hk)] at h
          have hz : k - bs.length = 0 := by
            have := (List.getElem?_eq_some_iff.mp h).1
            simp at this
            omega
          rw [hz] at h
          cases h
          exact ⟨ch, by rw [hcv, show k = i from by o_shape], rfl⟩
      )
  rw [List.length_map, List.length_range] at hl
  refine ⟨bs, hl, hb, hlt.nd nn (by rw [hl]; exact hn), ?_⟩
  rw [F_law_bridges, seal_eq]
  refine runF_rt ?_
  show B_law_bridges [some (.int c), some (.int n), none, none, none, none, none, none, none, none, none] = _
  unfold B_law_bridges
  have hr : sealed rng1D [.int (n : Int)] = some ((List.range n).map fun (i : Nat) => D.int (0 + (i : Int))) := by
    have := rng1_of (j := (n : Int)) (by o_shape)
    rw [Int.toNat_natCast] at this
    exact this
  rw [bgE] at hloop
  ktf_call (h1)
  ktf_call (h1)
  ktf_call (h1)
  ktf_call (h1)
  ktf_call (hr, hloop)
  k_search (h1)
theorem F_bgs {c : Int} {n : Nat} (hn : n ≤ 26) : ∃ bs : List Br, bs.length = n ∧ (∀ b ∈ bs, b.W5) ∧ NmD bs ∧ F_law_bridges [.int c, .int (n : Int)] = some (.lst (bs.map Br.t5)) := by
  obtain ⟨bs, h1, h2, h3, h4⟩ := F_bgs0 (c := c) hn
  exact ⟨bs, h1, h2, nmD_of h3, h4⟩
def rod5 (bs : List Br) (sh : List (Str × Int × Int)) : Rod := ⟨200 + (bs.length : Int), bs.map fun b => (b, 200 + b.length / 7), [], sh⟩
theorem F_rd5 {sh : List (Str × Int × Int)} {bs : List Br} (hl : bs.length ≤ 6) : F_law_road [.lst (bs.map Br.t5), .lst [], .lst (sh.map shT)] = some (rod5 bs sh).o := by
  rw [F_law_road, seal_eq]
  refine run_rt ?_
  show B_law_road [some (.lst (bs.map Br.t5)), some (.lst []), some (.lst (sh.map shT)), none, none, none, none, none, none] = _
  unfold B_law_road
  obtain ⟨e', hloop, o4, o5, o6, o7, o8, rfl⟩ := forD_end (g := tupG [4, 5, 6, 7, 8]) (b := (setS 3 (mk [false, false, false, false, false, false, false, false, false] (oD (sealed addD) (vD 3) (lstD (aCons (makeD .Bridge I_Bridge (aCons (vD 4) (aCons (vD 5) (aCons (vD 6) (aCons (vD 7) (aCons (vD 8) aNil)))))) (aCons (makeD .Open I_Open (aCons (oD (sealed addD) (cD (.int 200)) (oD (sealed fdivC) (vD 5) (cD (.int 7)))) aNil)) aNil))))))) (ds := bs.map Br.t5)
    (env := [some (.lst (bs.map Br.t5)), some (.lst []), some (.lst (sh.map shT)), some (.lst [opO (200 + (bs.length : Int))]), none, none, none, none, none])
    (fun i e => ∃ o4 o5 o6 o7 o8, e = [some (.lst (bs.map Br.t5)), some (.lst []), some (.lst (sh.map shT)), some (.lst ((Pc.op (200 + (bs.length : Int)) :: bsP ((bs.take i).map fun b => (b, 200 + b.length / 7))).map Pc.o)), o4, o5, o6, o7, o8])
    ⟨none, none, none, none, none, rfl⟩ (by
      rintro i d e hd ⟨o4, o5, o6, o7, o8, rfl⟩
      rw [List.getElem?_map] at hd
      obtain ⟨b, hb, rfl⟩ := Option.map_eq_some_iff.mp hd
      have hi := (List.getElem?_eq_some_iff.mp hb).1
      refine ⟨_, rfl, ?_⟩
      have hcat : sealed addD (.lst ((Pc.op (200 + (bs.length : Int)) :: bsP ((bs.take i).map fun b => (b, 200 + b.length / 7))).map Pc.o)) (.lst [b.o, opO (200 + b.length / 7)]) = some (.lst ((Pc.op (200 + (bs.length : Int)) :: bsP ((bs.take (i + 1)).map fun b => (b, 200 + b.length / 7))).map Pc.o)) := by
        rw [seal_eq]
        show (if _ then _ else _) = _
        rw [if_pos (by
          rw [List.length_map, List.length_cons, bsP_len, List.length_map, List.length_take]
          show _ + 2 ≤ _
          omega)]
        rw [List.take_add_one, hb, Option.toList_some, List.map_append (l₁ := List.take i bs)]
        show some (D.lst (_ ++ _)) = some (D.lst ((Pc.op _ :: bsP (_ ++ [(b, 200 + b.length / 7)])).map Pc.o))
        rw [bsP_app]
        simp [Pc.o]
      refine ⟨[some (.lst (bs.map Br.t5)), some (.lst []), some (.lst (sh.map shT)), some (.lst ((Pc.op (200 + (bs.length : Int)) :: bsP ((bs.take (i + 1)).map fun b => (b, 200 + b.length / 7))).map Pc.o)), some (.str b.name), some (.int b.length), some (.int b.bears), some (.int b.wide), some (.int b.most)], ?_, _, _, _, _, _, rfl⟩
      have mk1 : makeD .Bridge I_Bridge (aCons (vD 4) (aCons (vD 5) (aCons (vD 6) (aCons (vD 7) (aCons (vD 8) aNil))))) [some (.lst (bs.map Br.t5)), some (.lst []), some (.lst (sh.map shT)), some (.lst ((Pc.op (200 + (bs.length : Int)) :: bsP ((bs.take i).map fun b => (b, 200 + b.length / 7))).map Pc.o)), some (.str b.name), some (.int b.length), some (.int b.bears), some (.int b.wide), some (.int b.most)] = some b.o := by
        simp only [makeD, aCons, aNil, vD_z, vD_s, bindS, I_br, Option.map_some]
        rfl
      have mk2 : makeD .Open I_Open (aCons (oD (sealed addD) (cD (.int 200)) (oD (sealed fdivC) (vD 5) (cD (.int 7)))) aNil) [some (.lst (bs.map Br.t5)), some (.lst []), some (.lst (sh.map shT)), some (.lst ((Pc.op (200 + (bs.length : Int)) :: bsP ((bs.take i).map fun b => (b, 200 + b.length / 7))).map Pc.o)), some (.str b.name), some (.int b.length), some (.int b.bears), some (.int b.wide), some (.int b.most)] = some (opO (200 + b.length / 7)) := by
        have := fdivC_ii (i := b.length) (j := 7) (by o_shape)
        simp only [makeD, aCons, aNil, vD_z, vD_s, oD, cD, bindS, this, addD_ii, I_op, Option.map_some]
        rfl
      k_search (mk1, mk2, hcat)
      )
  rw [List.length_map, List.take_of_length_le (Nat.le_refl _)] at hloop
  have hmk : makeD .Open I_Open (aCons (oD (sealed addD) (cD (.int 200)) (callD (sealed lenD) (aCons (vD 0) aNil))) aNil) [some (.lst (bs.map Br.t5)), some (.lst []), some (.lst (sh.map shT)), none, none, none, none, none, none] = some (opO (200 + (bs.length : Int))) := by
    simp only [makeD, aCons, aNil, vD_z, vD_s, oD, cD, callD, bindS, lenD_l, List.length_map, addD_ii, I_op, Option.map_some]
    rfl
  have hR : makeD .Road I_Road (aCons (vD 3) (aCons (vD 1) (aCons (vD 2) aNil))) [some (.lst (bs.map Br.t5)), some (.lst []), some (.lst (sh.map shT)), some (.lst ((Pc.op (200 + (bs.length : Int)) :: bsP (bs.map fun b => (b, 200 + b.length / 7))).map Pc.o)), o4, o5, o6, o7, o8] = some (rod5 bs sh).o := by
    simp only [makeD, aCons, aNil, vD_z, vD_s, bindS, I_rd, Option.map_some]
    rfl
  ktf_call (hmk)
  ktf_call (itemsD, hloop)
  k_search (hR)
theorem rod5_len {sh : List (Str × Int × Int)} {bs : List Br} (hl : bs.length ≤ 6) : (rod5 bs sh).pcs.length < 1000 := by
  show (bsP _).length + 1 < 1000
  rw [bsP_len]
  show 2 * (bs.map _).length + 1 < 1000
  rw [List.length_map]
  omega
theorem F_bof {sh : List (Str × Int × Int)} {bs : List Br} {n : Str} {b : Br} (hl : bs.length ≤ 6) (hf : bs.find? (fun c => decide (c.name = n)) = some b) : F_bridge_of [(rod5 bs sh).o, .str n] = some b.o := by
  rw [F_bridge_of, seal_eq]
  refine run_rt ?_
  show B_bridge_of [some (rod5 bs sh).o, some (.str n)] = _
  unfold B_bridge_of
  have hb := F_bridges (rod5_len (sh := sh) hl)
  have e : (rod5 bs sh).bs.map (fun x => x.1.o) = bs.map Br.o := by
    show (bs.map _).map _ = _
    rw [List.map_map]
    rfl
  rw [e] at hb
  have hcomp : compF (itD (callD F_bridges_of (aCons (vD 0) aNil))) (bD (oD (sealed eqD) (uD (sealed (getF .name)) (vD 0)) (vD 1))) (vD 0) [1] [some (rod5 bs sh).o, some (.str n)] = some (.lst ((bs.filter fun c => decide (c.name = n)).map Br.o)) := by
    unfold compF
    simp only [itD, callD, aCons, aNil, vD_z, vD_s, bindS, hb, itemsD]
    rw [if_pos (by rw [List.length_map]; o_shape), comp_sel (p := fun c : Br => decide (c.name = n)) (f := Br.o)]
    · rfl
    · intro c _
      refine ⟨?_, fun _ => rfl⟩
      show bD _ [some c.o, some (.str n)] = _
      have g1 : sealed (getF .name) c.o = some (.str c.name) := get_l rfl
      simp only [bD, oD, uD, vD_z, vD_s, bindS, g1, eqD_ss]
  have hix : atI ((bs.filter fun c => decide (c.name = n)).map Br.o) 0 = some b.o := by
    have h0 : (bs.filter fun c => decide (c.name = n))[0]? = some b := by rw [← List.head?_eq_getElem?, List.head?_filter]; exact hf
    exact atI_num (n := 0) (by rw [List.getElem?_map, h0]; rfl)
  unfold retS
  simp only [oD, cD, hcomp, bindS, ixD_l, hix]
structure Wh where
  gap : Int
  low : Int
  high : Int
def Wh.t (w : Wh) : D := .tup [.int w.gap, .int w.low, .int w.high]
structure Wh.WF (w : Wh) (m : Int) : Prop where
  g1 : 1 ≤ w.gap
  g2 : w.gap ≤ 40
  l0 : 0 ≤ w.low
  lh : w.low ≤ w.high
  hm : w.high ≤ m
abbrev whE (c bears one : Int) (many : Int) (acc : List D) (o5 o6 o7 : Option D) : PD.Env := [some (.int c), some (.int bears), some (.int one), some (.int many), some (.lst acc), o5, o6, o7]
theorem F_whs {c bears : Int} (hb : 0 ≤ bears) (hb2 : bears < 1000000) : ∃ ws : List Wh, 1 ≤ ws.length ∧ ws.length ≤ 4 ∧ (∀ w ∈ ws, w.WF bears) ∧ F_law_wheels [.int c, .int bears] = some (.lst (ws.map Wh.t)) := by
  have h1 := F_mx (c := c) (f := 16807) (by o_shape) (by o_shape)
  have nn := mix2_nn c 16807
  generalize mix2 c 16807 = one at h1 nn
  obtain ⟨n, hn⟩ : ∃ n : Nat, 1 + one % 4 = (n : Int) := ⟨(1 + one % 4).toNat, by o_shape⟩
  have n1 : 1 ≤ n := nlb hn
  have n4 : n ≤ 4 := nub hn
  obtain ⟨e', hloop, ws, o5, o6, o7, hl, hw, rfl⟩ := forD_end (g := nmG 5) (b := (seqS (setS 6 (mk [false, false, false, false, true, false, false, false] (callD F_law_mix (aCons (oD (sealed addD) (vD 0) (oD (sealed mulD) (cD (.int 31)) (vD 5))) (aCons (cD (.int 40692)) aNil))))) (seqS (setS 7 (mk [false, false, false, false, true, false, false, false] (oD (sealed modD) (vD 6) (oD (sealed addD) (oD (sealed fdivD) (vD 1) (vD 3)) (cD (.int 1)))))) (seqS (ifS (bD (oD (sealed eqD) (oD (sealed modD) (oD (sealed fdivC) (vD 6) (cD (.int 1000))) (cD (.int 3))) (cD (.int 0)))) (setS 7 (mk [false, false, false, false, true, false, false, false] (oD (sealed fdivD) (vD 1) (vD 3)))) nxS) (appS 4 (mk [false, false, false, false, true, false, false, false] (tupD (aCons (oD (sealed addD) (cD (.int 1)) (oD (sealed modD) (oD (sealed fdivC) (vD 6) (cD (.int 3000))) (cD (.int 40)))) (aCons (oD (sealed subD) (vD 7) (oD (sealed modD) (oD (sealed fdivC) (vD 6) (cD (.int 300000))) (oD (sealed addD) (vD 7) (cD (.int 1))))) (aCons (vD 7) aNil)))))))))) (ds := (List.range n).map fun (i : Nat) => D.int (0 + (i : Int)))
    (env := whE c bears one n [] none none none)
    (fun i e => ∃ ws o5 o6 o7, ws.length = i ∧ (∀ w ∈ ws, w.WF bears) ∧ e = whE c bears one n (ws.map Wh.t) o5 o6 o7)
    ⟨[], none, none, none, rfl, fun b h => absurd h List.not_mem_nil, rfl⟩ (by
      rintro i d e hd ⟨ws, o5, o6, o7, hl, hw, rfl⟩
      rw [List.getElem?_map] at hd
      obtain ⟨k, hk, rfl⟩ := Option.map_eq_some_iff.mp hd
      obtain ⟨hk8, hk⟩ := List.getElem?_eq_some_iff.mp hk
      rw [List.getElem_range] at hk
      subst hk
      have hin : i < n := by simpa using hk8
      have h2 := F_mx (c := c + 31 * (i : Int)) (f := 40692) (by o_shape) (by o_shape)
      have nn2 := mix2_nn (c + 31 * (i : Int)) 40692
      generalize mix2 (c + 31 * (i : Int)) 40692 = two at h2 nn2
      generalize hk31 : c + 31 * (i : Int) = k31 at h2
      have q : ws.length < 1000000 := by rw [hl]; exact Nat.lt_trans hin (nlt n4)
      have d1 : 0 ≤ bears / (n : Int) := Int.ediv_nonneg hb (Int.natCast_nonneg n)
      have d2 : bears / (n : Int) ≤ bears := Int.ediv_le_self _ hb
      have hfd := fdivD_ii (i := bears) (j := (n : Int)) ⟨(Int.ofNat_lt (n := 0)).mpr n1, ilt (Int.ofNat_le.mpr n4)⟩
      generalize bears / (n : Int) = part at d1 d2 hfd
      have e1 : 0 ≤ two % (part + 1) := Int.emod_nonneg _ (by o_shape)
      have e2 : two % (part + 1) < part + 1 := Int.emod_lt_of_pos _ (by o_shape)
      have fin : ∀ hi : Int, 0 ≤ hi → hi ≤ bears → Wh.WF ⟨1 + two / 3000 % 40, hi - two / 300000 % (hi + 1), hi⟩ bears := fun hi a b => by
        have f1 : 0 ≤ two / 300000 % (hi + 1) := Int.emod_nonneg _ (by o_shape)
        have f2 : two / 300000 % (hi + 1) < hi + 1 := Int.emod_lt_of_pos _ (by o_shape)
        exact ⟨by show 1 ≤ 1 + two / 3000 % 40; o_shape, by show 1 + two / 3000 % 40 ≤ 40; o_shape, by show 0 ≤ hi - two / 300000 % (hi + 1); exact Int.sub_nonneg.mpr (Int.le_of_lt_add_one f2), by show hi - two / 300000 % (hi + 1) ≤ hi; exact Int.sub_le_self _ f1, b⟩
      have mem : ∀ {w0 : Wh}, w0.WF bears → ∀ w ∈ ws ++ [w0], w.WF bears := fun {w0} h0 w h => by
        rcases List.mem_append.mp h with h | h
        · exact hw w h
        · cases List.mem_singleton.mp h; exact h0
      refine ⟨_, rfl, ?_⟩
      by_cases h3 : two / 1000 % 3 = 0
      · refine ⟨whE c bears one n ((ws ++ [Wh.mk (1 + two / 3000 % 40) (part - two / 300000 % (part + 1)) part]).map Wh.t) (some (.int (0 + (i : Int)))) (some (.int two)) (some (.int part)), ?_, ws ++ [Wh.mk (1 + two / 3000 % 40) (part - two / 300000 % (part + 1)) part], _, _, _, by simp [hl], mem (fin part d1 d2), rfl⟩
        ktf_call (Int.zero_add, hk31, h2)
        ktf_call (hfd)
        ktf_call (h3, decide_true, hfd)
        k_search (whE, Int.zero_add, q, List.map_append, List.map_cons, List.map_nil, Wh.t)
      · refine ⟨whE c bears one n ((ws ++ [Wh.mk (1 + two / 3000 % 40) (two % (part + 1) - two / 300000 % (two % (part + 1) + 1)) (two % (part + 1))]).map Wh.t) (some (.int (0 + (i : Int)))) (some (.int two)) (some (.int (two % (part + 1)))), ?_, ws ++ [Wh.mk (1 + two / 3000 % 40) (two % (part + 1) - two / 300000 % (two % (part + 1) + 1)) (two % (part + 1))], _, _, _, by simp [hl], mem (fin _ e1 (Int.le_trans (Int.le_of_lt_add_one e2) d2)), rfl⟩
        ktf_call (Int.zero_add, hk31, h2)
        ktf_call (hfd)
        ktf_call (h3, decide_false, hfd)
        generalize two % (part + 1) = hi at e1 e2 ⊢
        k_search (whE, Int.zero_add, q, List.map_append, List.map_cons, List.map_nil, Wh.t)
      )
  rw [List.length_map, List.length_range] at hl
  refine ⟨ws, by rw [hl]; exact n1, by rw [hl]; exact n4, hw, ?_⟩
  rw [F_law_wheels, seal_eq]
  refine runF_rt ?_
  show B_law_wheels [some (.int c), some (.int bears), none, none, none, none, none, none] = _
  unfold B_law_wheels
  have hr : sealed rng1D [.int (n : Int)] = some ((List.range n).map fun (i : Nat) => D.int (0 + (i : Int))) := by
    have := rng1_of (j := (n : Int)) (by o_shape)
    rw [Int.toNat_natCast] at this
    exact this
  rw [whE] at hloop
  ktf_call (h1)
  ktf_call (hn)
  ktf_call (hn)
  ktf_call (hr, hloop)
  k_search (hn)
def offG (a : Int) : List Wh → List Int
  | [] => []
  | w :: r => (a + w.gap) :: offG (a + w.gap) r
def offZ : List Wh → List Int
  | [] => []
  | _ :: r => 0 :: offG 0 r
theorem wh_at0 {w : Wh} : atI [D.int w.gap, .int w.low, .int w.high] 0 = some (.int w.gap) := ix0
theorem F_loff {w0 : Wh} {ws : List Wh} (hl : ws.length < 1000) : F_law_offsets [.lst ((w0 :: ws).map Wh.t)] = some (.lst ((offZ (w0 :: ws)).map .int)) := by
  rw [F_law_offsets, seal_eq]
  refine runF_rt ?_
  show B_law_offsets [some (.lst ((w0 :: ws).map Wh.t)), none, none, none, none, none] = _
  unfold B_law_offsets
  have main : ∀ (vs : List Wh) (a : Int) (acc : List Int) (o3 o4 o5 : Option D), acc.length + vs.length < 100000 → ∃ a' q3 q4 q5, forD (tupG [3, 4, 5]) ((seqS (setS 1 (mk [false, false, true, false, false, false] (oD (sealed addD) (vD 1) (vD 3)))) (appS 2 (mk [false, false, true, false, false, false] (vD 1))))) (vs.map Wh.t) [some (.lst ((w0 :: ws).map Wh.t)), some (.int a), some (.lst (acc.map .int)), o3, o4, o5] = some (.nx [some (.lst ((w0 :: ws).map Wh.t)), some (.int a'), some (.lst ((acc ++ offG a vs).map .int)), q3, q4, q5]) := by
    intro vs
    induction vs with
    | nil => intro a acc o3 o4 o5 _; exact ⟨a, o3, o4, o5, by rw [offG, List.append_nil]; rfl⟩
    | cons w vs ih =>
      intro a acc o3 o4 o5 hlen
      obtain ⟨a', p3, p4, p5, h⟩ := ih (a + w.gap) (acc ++ [a + w.gap]) (some (.int w.gap)) (some (.int w.low)) (some (.int w.high)) (by rw [List.length_append, List.length_singleton]; rw [List.length_cons] at hlen; o_shape)
      refine ⟨a', p3, p4, p5, ?_⟩
      rw [List.append_assoc] at h
      rw [List.map_cons, forD]
      have hb : ((seqS (setS 1 (mk [false, false, true, false, false, false] (oD (sealed addD) (vD 1) (vD 3)))) (appS 2 (mk [false, false, true, false, false, false] (vD 1))))) [some (.lst ((w0 :: ws).map Wh.t)), some (.int a), some (.lst (acc.map .int)), some (.int w.gap), some (.int w.low), some (.int w.high)] = some (.nx [some (.lst ((w0 :: ws).map Wh.t)), some (.int (a + w.gap)), some (.lst ((acc ++ [a + w.gap]).map .int)), some (.int w.gap), some (.int w.low), some (.int w.high)]) := by
        have q : acc.length < 1000000 := by o_shape
        k_search (q, List.map_append, List.map_cons, List.map_nil)
      simp only [Wh.t, tupG, setsG, List.set_cons_zero, List.set_cons_succ, bindS, hb]
      exact h
  obtain ⟨a', o3, o4, o5, h⟩ := main ws 0 [0] none none none (by simp; o_shape)
  have hcut : sealed slDD (.lst ((w0 :: ws).map Wh.t)) (some 1) none = some (.lst (ws.map Wh.t)) := by
    rw [seal_eq]
    show some (D.lst (cutD _ _ _)) = _
    have := cutD_map (f := Wh.t) (xs := w0 :: ws) (lo := some ((1 : Nat) : Int)) (hi := none)
    have e : ((1 : Nat) : Int) = 1 := rfl
    rw [e] at this
    rw [this]
    have c1 : cutL (w0 :: ws) (some ((1 : Nat) : Int)) none = ws := by
      unfold cutL
      rw [HT.sIx_nat, HT.sIx_none]
      have : min 1 (w0 :: ws).length = 1 := by rw [List.length_cons]; o_shape
      rw [this]
      simp
    rw [e] at c1
    rw [c1]
  ktf_call (hcut)
  ktf_call (hcut)
  have hz : ([0] : List Int).map D.int = [.int 0] := rfl
  rw [hz] at h
  ktf_call (itemsD, hcut, h)
  k_search (offZ, List.singleton_append)
theorem offG_last : ∀ (ws : List Wh) (a : Int) (acc : List Int), acc.getLast? = some a → (acc ++ offG a ws).length = acc.length + ws.length := by
  intro ws
  induction ws with
  | nil => intro a acc _; simp [offG]
  | cons w ws ih => intro a acc h; rw [offG, ← List.singleton_append, ← List.append_assoc, ih (a + w.gap) (acc ++ [a + w.gap]) (by simp)]; simp; o_shape
theorem last_at {acc : List Int} {a : Int} (h : acc.getLast? = some a) : atI (acc.map D.int) (-1) = some (.int a) := by
  have hne : 1 ≤ acc.length := by
    cases acc with
    | nil => cases h
    | cons x r => simp
  unfold atI ixN
  rw [if_neg (by o_shape), if_pos (by rw [List.length_map]; o_shape), List.length_map]
  show (acc.map D.int)[((-1 : Int) + (acc.length : Int)).toNat]? = _
  rw [show ((-1 : Int) + (acc.length : Int)).toNat = acc.length - 1 from by o_shape, List.getElem?_map, ← List.getLast?_eq_getElem?, h]
  rfl
theorem F_offs {ws : List Wh} (hl : ws.length < 1000) : F_offsets_of [.lst (ws.map Wh.t)] = some (.lst ((offZ ws).map .int)) := by
  rw [F_offsets_of, seal_eq]
  refine runF_rt ?_
  show B_offsets_of [some (.lst (ws.map Wh.t)), none, none] = _
  unfold B_offsets_of
  have main : ∀ (vs : List Wh) (a : Int) (acc : List Int) (o2 : Option D), acc.getLast? = some a → acc.length + vs.length < 100000 → ∃ q2, forD (nmG 2) ((appW 1 (ifD (trD (vD 1)) (oD (sealed addD) (oD (sealed ixD) (vD 1) (uD (sealed negD) (cD (.int 1)))) (oD (sealed ixD) (vD 2) (cD (.int 0)))) (cD (.int 0))))) (vs.map Wh.t) [some (.lst (ws.map Wh.t)), some (.lst (acc.map .int)), o2] = some (.nx [some (.lst (ws.map Wh.t)), some (.lst ((acc ++ offG a vs).map .int)), q2]) := by
    intro vs
    induction vs with
    | nil => intro a acc o2 _ _; exact ⟨o2, by rw [offG, List.append_nil]; rfl⟩
    | cons w vs ih =>
      intro a acc o2 hlast hlen
      obtain ⟨q2, h⟩ := ih (a + w.gap) (acc ++ [a + w.gap]) (some w.t) (by simp) (by rw [List.length_append, List.length_singleton]; rw [List.length_cons] at hlen; o_shape)
      refine ⟨q2, ?_⟩
      rw [List.append_assoc] at h
      rw [List.map_cons, forD]
      have hb : ((appW 1 (ifD (trD (vD 1)) (oD (sealed addD) (oD (sealed ixD) (vD 1) (uD (sealed negD) (cD (.int 1)))) (oD (sealed ixD) (vD 2) (cD (.int 0)))) (cD (.int 0))))) [some (.lst (ws.map Wh.t)), some (.lst (acc.map .int)), some w.t] = some (.nx [some (.lst (ws.map Wh.t)), some (.lst ((acc ++ [a + w.gap]).map .int)), some w.t]) := by
        have q : acc.length < 1000000 := by o_shape
        have tr : truD (.lst (acc.map D.int)) = some true := by
          cases acc with
          | nil => cases hlast
          | cons x r => rfl
        have hx := last_at hlast
        k_search (ifD, trD, tr, ixD_l, hx, Wh.t, ixD_t, wh_at0, D.flat, q, List.map_append, List.map_cons, List.map_nil)
      simp only [nmG, List.set_cons_zero, List.set_cons_succ, bindS, hb]
      exact h
  cases ws with
  | nil =>
    k_search (itemsD, List.map_nil, forD, offZ)
  | cons w ws =>
    obtain ⟨q2, h⟩ := main ws 0 [0] (some w.t) rfl (by simp at hl ⊢; o_shape)
    have hb : ((appW 1 (ifD (trD (vD 1)) (oD (sealed addD) (oD (sealed ixD) (vD 1) (uD (sealed negD) (cD (.int 1)))) (oD (sealed ixD) (vD 2) (cD (.int 0)))) (cD (.int 0))))) [some (.lst ((w :: ws).map Wh.t)), some (.lst []), some w.t] = some (.nx [some (.lst ((w :: ws).map Wh.t)), some (.lst [.int 0]), some w.t]) := by
      have tr : truD (.lst []) = some false := rfl
      have q : (0 : Nat) < 1000000 := by decide
      k_search (ifD, trD, tr, Bool.false_eq_true, D.flat, q, List.nil_append)
    have hz : ([0] : List Int).map D.int = [.int 0] := rfl
    rw [hz] at h
    have hloop : forD (nmG 2) ((appW 1 (ifD (trD (vD 1)) (oD (sealed addD) (oD (sealed ixD) (vD 1) (uD (sealed negD) (cD (.int 1)))) (oD (sealed ixD) (vD 2) (cD (.int 0)))) (cD (.int 0))))) ((w :: ws).map Wh.t) [some (.lst ((w :: ws).map Wh.t)), some (.lst []), none] = some (.nx [some (.lst ((w :: ws).map Wh.t)), some (.lst ((0 :: offG 0 ws).map .int)), q2]) := by
      conv => lhs; rw [List.map_cons, forD]
      rw [List.map_cons] at hb h
      simp only [nmG, List.set_cons_zero, List.set_cons_succ, bindS, hb]
      exact h
    ktf_call (hl)
    ktf_call (itemsD, hloop)
    k_search (offZ)
def tm (e : Int × Int) (v len o : Int) : (Int × Int) × (Int × Int) := (addQ e (Fr.low o v), addQ (addQ e (Fr.low o v)) (Fr.low len v))
def tmD (t : (Int × Int) × (Int × Int)) : D := .tup [frD t.1, frD t.2]
theorem F_driven_ok {p : Int × Int} {A d v : Int} (hp : Qok A p) (hA : A < 10000000) (v1 : 1 ≤ v) (v2 : v ≤ 12) : F_driven [frD p, .int d, .int v] = some (frD (addQ p (Fr.low d v))) := by
  rw [F_driven, seal_eq]
  refine run_rt ?_
  show B_driven [some (frD p), some (.int d), some (.int v)] = _
  unfold B_driven
  have hv := low_ok (a := d) (b := v) (by o_shape)
  have h1 := F_made_ok (a := d) (b := v) (by o_shape) (by o_shape)
  have hAv : A * v < 1000000000 := by
    have : A * v ≤ A * 12 := Int.mul_le_mul_of_nonneg_left v2 (Int.le_trans (Int.le_of_lt hp.pos) hp.le)
    omega
  have h2 := F_plus_ok hp hv (by o_shape) (by o_shape) (by o_shape)
  k_search (h1, h2)
structure Cr where
  b : Br
  e : Int × Int
  v : Int
  ws : List Wh
def Cr.t (c : Cr) : D := .tup [.str c.b.name, frD c.e, .int c.v, .lst (c.ws.map Wh.t)]
structure Cr.WF (c : Cr) (bs : List Br) : Prop where
  f : bs.find? (fun d => decide (d.name = c.b.name)) = some c.b
  e : Qok 27720 c.e
  v1 : 1 ≤ c.v
  v2 : c.v ≤ 12
  w1 : 1 ≤ c.ws.length
  w4 : c.ws.length ≤ 4
def Cr.tms (c : Cr) : List ((Int × Int) × (Int × Int)) := (offZ c.ws).map (tm c.e c.v c.b.length)
theorem cr0 {c : Cr} : atI [D.str c.b.name, frD c.e, .int c.v, .lst (c.ws.map Wh.t)] 0 = some (.str c.b.name) := ix0
theorem cr1 {c : Cr} : atI [D.str c.b.name, frD c.e, .int c.v, .lst (c.ws.map Wh.t)] 1 = some (frD c.e) := atI_num (n := 1) rfl
theorem cr2 {c : Cr} : atI [D.str c.b.name, frD c.e, .int c.v, .lst (c.ws.map Wh.t)] 2 = some (.int c.v) := atI_num (n := 2) rfl
theorem cr3 {c : Cr} : atI [D.str c.b.name, frD c.e, .int c.v, .lst (c.ws.map Wh.t)] 3 = some (.lst (c.ws.map Wh.t)) := atI_num (n := 3) rfl
theorem offZ_len {ws : List Wh} : (offZ ws).length = ws.length := by
  cases ws with
  | nil => rfl
  | cons w ws =>
    have := offG_last ws 0 [0] rfl
    rw [List.singleton_append] at this
    show (0 :: offG 0 ws).length = _
    rw [this]
    simp
    omega
theorem F_times {sh : List (Str × Int × Int)} {bs : List Br} {c : Cr} (hl : bs.length ≤ 6) (wf : c.WF bs) : F_times_on [(rod5 bs sh).o, c.t] = some (.lst (c.tms.map tmD)) := by
  rw [F_times_on, seal_eq]
  refine runF_rt ?_
  show B_times_on [some (rod5 bs sh).o, some c.t, none, none, none, none, none] = _
  unfold B_times_on
  have h0 := F_bof (sh := sh) hl wf.f
  have w4 := wf.w4
  have hoff := F_offs (ws := c.ws) (by o_shape)
  have g1 : sealed (getF .length) c.b.o = some (.int c.b.length) := get_l rfl
  obtain ⟨e', hloop, o5, o6, rfl⟩ := forD_end (g := nmG 5) (b := (seqS (setS 6 (mk [false, false, false, false, true, false, false] (callD F_driven (aCons (oD (sealed ixD) (vD 1) (cD (.int 1))) (aCons (vD 5) (aCons (vD 3) aNil)))))) (appS 4 (mk [false, false, false, false, true, false, false] (tupD (aCons (vD 6) (aCons (callD F_driven (aCons (vD 6) (aCons (vD 2) (aCons (vD 3) aNil)))) aNil))))))) (ds := (offZ c.ws).map D.int) (env := [some (rod5 bs sh).o, some c.t, some (.int c.b.length), some (.int c.v), some (.lst []), none, none])
    (fun i e => ∃ o5 o6, e = [some (rod5 bs sh).o, some c.t, some (.int c.b.length), some (.int c.v), some (.lst ((((offZ c.ws).take i).map (tm c.e c.v c.b.length)).map tmD)), o5, o6]) ⟨none, none, rfl⟩ (by
      rintro i d e hd ⟨o5, o6, rfl⟩
      rw [List.getElem?_map] at hd
      obtain ⟨o, ho, rfl⟩ := Option.map_eq_some_iff.mp hd
      have hi := (List.getElem?_eq_some_iff.mp ho).1
      rw [offZ_len] at hi
      have d1 := F_driven_ok (d := o) wf.e (by o_shape) wf.v1 wf.v2
      have hv := low_ok (a := o) (b := c.v) (by have := wf.v1; o_shape)
      have ok2 : Qok 332640 (addQ c.e (Fr.low o c.v)) := by
        have := addQ_ok wf.e hv
        exact ⟨this.pos, Int.le_trans this.le (by have := wf.v2; o_shape)⟩
      have d2 := F_driven_ok (d := c.b.length) ok2 (by o_shape) wf.v1 wf.v2
      have q : ((offZ c.ws).take i).length < 1000000 := by rw [List.length_take]; exact Nat.lt_of_le_of_lt (Nat.min_le_left _ _) (Nat.lt_trans hi (nlt w4))
      refine ⟨_, rfl, [some (rod5 bs sh).o, some c.t, some (.int c.b.length), some (.int c.v), some (.lst ((((offZ c.ws).take (i + 1)).map (tm c.e c.v c.b.length)).map tmD)), some (.int o), some (frD (addQ c.e (Fr.low o c.v)))], ?_, _, _, rfl⟩
      rw [List.take_add_one, ho, Option.toList_some, List.map_append, List.map_append]
      ktf_call (Cr.t, ixD_t, cr1, d1)
      k_search (Cr.t, d2, q, tm, tmD, List.map_cons, List.map_nil)
      )
  rw [List.length_map, List.take_of_length_le (Nat.le_refl _)] at hloop
  rw [Cr.t] at hloop ⊢
  ktf_call (Cr.t, ixD_t, cr0, h0, g1)
  ktf_call (ixD_t, cr2)
  ktf_call (cr2)
  ktf_call (ixD_t, cr3, hoff, itemsD, hloop)
  k_search (Cr.tms)
theorem t5_0 {b : Br} : atI [D.str b.name, .int b.length, .int b.bears, .int b.wide, .int b.most] 0 = some (.str b.name) := ix0
theorem t5_1 {b : Br} : atI [D.str b.name, .int b.length, .int b.bears, .int b.wide, .int b.most] 1 = some (.int b.length) := atI_num (n := 1) rfl
theorem t5_2 {b : Br} : atI [D.str b.name, .int b.length, .int b.bears, .int b.wide, .int b.most] 2 = some (.int b.bears) := atI_num (n := 2) rfl
theorem find_at {bs : List Br} {k : Nat} {b : Br} (h : bs[k]? = some b) : ∃ c, bs.find? (fun d => decide (d.name = b.name)) = some c ∧ c.name = b.name := by
  cases e : bs.find? (fun d => decide (d.name = b.name)) with
  | none =>
    have := List.find?_eq_none.mp e b (List.mem_of_getElem? h)
    simp at this
  | some c => exact ⟨c, rfl, by have := List.find?_some e; simpa using this⟩
theorem find_comp {bs : List Br} {n : Str} {b : Br} (hl : bs.length ≤ 6) (hf : bs.find? (fun c => decide (c.name = n)) = some b) {fc : BF} {caps : PD.Env} (hc : ∀ c : Br, fc (some c.t5 :: caps) = some (decide (c.name = n))) : ∃ xs, compD fc (vD 0) caps (bs.map Br.t5) = some xs ∧ atI xs 0 = some b.t5 := by
  refine ⟨(bs.filter fun c => decide (c.name = n)).map Br.t5, comp_sel fun c _ => ⟨hc c, fun _ => rfl⟩, ?_⟩
  have h0 : (bs.filter fun c => decide (c.name = n))[0]? = some b := by rw [← List.head?_eq_getElem?, List.head?_filter]; exact hf
  exact atI_num (n := 0) (by rw [List.getElem?_map, h0]; rfl)
theorem F_close {bs : List Br} (hl : 1 ≤ bs.length) (hw : ∀ b ∈ bs, b.W5) {most : Int} (m1 : 1 ≤ most) (m2 : most ≤ 1000) : ∀ {cs : List Int}, cs.length ≤ 100 → ∃ crs : List Cr, crs.length = cs.length ∧ (∀ c ∈ crs, c.WF bs ∧ c.e.1 ≤ 600 ∧ 0 ≤ c.e.1 ∧ Qok 12 c.e ∧ ∀ w ∈ c.ws, w.WF (most * 199)) ∧ F_law_close [.lst (cs.map .int), .lst (bs.map Br.t5), .int most] = some (.lst (crs.map Cr.t)) := by
  intro cs hcl
  obtain ⟨e', hloop, crs, o4, o5, o6, o7, hlen, hcr, rfl⟩ := forD_end (g := nmG 4) (b := (seqS (setS 5 (mk [false, false, false, true, false, false, false, false] (callD F_law_mix (aCons (vD 4) (aCons (cD (.int 21569)) aNil))))) (seqS (setS 6 (mk [false, false, false, true, false, false, false, false] (oD (sealed ixD) (vD 1) (oD (sealed modD) (oD (sealed fdivC) (vD 5) (cD (.int 7))) (callD (sealed lenD) (aCons (vD 1) aNil)))))) (seqS (setS 7 (mk [false, false, false, true, false, false, false, false] (callD F_law_frac (aCons (oD (sealed modD) (oD (sealed fdivC) (vD 5) (cD (.int 30))) (cD (.int 40))) (aCons (oD (sealed ixD) (lstD (aCons (cD (.int 1)) (aCons (cD (.int 1)) (aCons (cD (.int 2)) (aCons (cD (.int 3)) (aCons (cD (.int 7)) (aCons (cD (.int 12)) aNil))))))) (oD (sealed modD) (vD 5) (cD (.int 6)))) aNil))))) (appS 3 (mk [false, false, false, true, false, false, false, false] (tupD (aCons (oD (sealed ixD) (vD 6) (cD (.int 0))) (aCons (vD 7) (aCons (oD (sealed addD) (cD (.int 1)) (oD (sealed modD) (oD (sealed fdivC) (vD 5) (cD (.int 2000))) (cD (.int 12)))) (aCons (callD F_law_wheels (aCons (vD 4) (aCons (oD (sealed mulD) (vD 2) (oD (sealed ixD) (vD 6) (cD (.int 2)))) aNil))) aNil))))))))))) (ds := cs.map D.int) (env := [some (.lst (cs.map .int)), some (.lst (bs.map Br.t5)), some (.int most), some (.lst []), none, none, none, none])
    (fun i e => ∃ crs o4 o5 o6 o7, crs.length = i ∧ (∀ c ∈ crs, c.WF bs ∧ c.e.1 ≤ 600 ∧ 0 ≤ c.e.1 ∧ Qok 12 c.e ∧ ∀ w ∈ c.ws, w.WF (most * 199)) ∧ e = [some (.lst (cs.map .int)), some (.lst (bs.map Br.t5)), some (.int most), some (.lst (crs.map Cr.t)), o4, o5, o6, o7])
    ⟨[], none, none, none, none, rfl, fun b h => absurd h List.not_mem_nil, rfl⟩ (by
      rintro i d e hd ⟨crs, o4, o5, o6, o7, hlen, hcr, rfl⟩
      rw [List.getElem?_map] at hd
      obtain ⟨c, hc, rfl⟩ := Option.map_eq_some_iff.mp hd
      have hi := (List.getElem?_eq_some_iff.mp hc).1
      have h1 := F_mx (c := c) (f := 21569) (by o_shape) (by o_shape)
      have nn := mix2_nn c 21569
      generalize mix2 c 21569 = one at h1 nn
      have j1 : 0 ≤ one / 7 % (bs.length : Int) := Int.emod_nonneg _ (Int.ne_of_gt ((Int.ofNat_lt (n := 0)).mpr hl))
      have j2 : one / 7 % (bs.length : Int) < bs.length := Int.emod_lt_of_pos _ ((Int.ofNat_lt (n := 0)).mpr hl)
      obtain ⟨k, hk⟩ : ∃ k : Nat, one / 7 % (bs.length : Int) = (k : Int) := ⟨(one / 7 % (bs.length : Int)).toNat, by o_shape⟩
      have hkb : k < bs.length := by rw [hk] at j2; exact Int.ofNat_lt.mp j2
      obtain ⟨b, hb⟩ : ∃ b, bs[k]? = some b := ⟨bs[k], List.getElem?_eq_getElem hkb⟩
      have bw := hw b (List.mem_of_getElem? hb)
      have hbx : atI (bs.map Br.t5) (k : Int) = some b.t5 := atI_of rfl (by rw [List.getElem?_map, hb]; rfl)
      obtain ⟨fb, hfb, hfn⟩ := find_at hb
      obtain ⟨x, hx, dv, rfl, d1, d2⟩ := pick (n := 5) (xs := [.int 1, .int 1, .int 2, .int 3, .int 7, .int 12]) (i := one % 6) (Pv := IntIn 1 12) (by o_shape) (by show one % 6 < 6; o_shape) (by
        intro x hx
        simp only [List.mem_cons, List.not_mem_nil, or_false] at hx
        rcases hx with rfl | rfl | rfl | rfl | rfl | rfl <;> exact ⟨_, rfl, by o_shape, by o_shape⟩)
      have hfr := F_lfrac (a := one / 30 % 40) (b := dv) (by o_shape) (by o_shape)
      have hq := low_ok (a := one / 30 % 40) (b := dv) (by o_shape)
      have mb0 : 0 ≤ most * b.bears := Int.mul_nonneg (by o_shape) (Int.le_trans (by decide) bw.b1)
      have mb1 : most * b.bears ≤ most * 199 := Int.mul_le_mul_of_nonneg_left bw.b2 (by o_shape)
      have mb2 : most * 199 ≤ 1000 * 199 := Int.mul_le_mul_of_nonneg_right m2 (by o_shape)
      obtain ⟨ws, w1, w4, hws, hwh⟩ := F_whs (c := c) (bears := most * b.bears) mb0 (Int.lt_of_le_of_lt mb1 (Int.lt_of_le_of_lt mb2 (by decide)))
      have low1 : (Fr.low (one / 30 % 40) dv).1 ≤ 600 ∧ 0 ≤ (Fr.low (one / 30 % 40) dv).1 := by
        rw [low_div (by o_shape)]
        have g1 := Fr.G_pos (a := one / 30 % 40) (b := dv) (by o_shape)
        have a1 : (one / 30 % 40) / Fr.G (one / 30 % 40) dv ≤ one / 30 % 40 := Int.ediv_le_self _ mlo
        have a2 : 0 ≤ (one / 30 % 40) / Fr.G (one / 30 % 40) dv := Int.ediv_nonneg mlo (Int.le_of_lt g1)
        exact ⟨by show (one / 30 % 40) / Fr.G (one / 30 % 40) dv ≤ 600; exact Int.le_trans a1 (Int.le_trans (Int.le_of_lt mhi) (by decide)), a2⟩
      have q : crs.length < 1000000 := by rw [hlen]; exact Nat.lt_trans hi (nlt hcl)
      have hnew : (Cr.mk fb (Fr.low (one / 30 % 40) dv) (1 + one / 2000 % 12) ws).t = .tup [.str b.name, frD (Fr.low (one / 30 % 40) dv), .int (1 + one / 2000 % 12), .lst (ws.map Wh.t)] := by show D.tup _ = _; rw [hfn]
      refine ⟨_, rfl, [some (.lst (cs.map .int)), some (.lst (bs.map Br.t5)), some (.int most), some (.lst ((crs ++ [Cr.mk fb (Fr.low (one / 30 % 40) dv) (1 + one / 2000 % 12) ws]).map Cr.t)), some (.int c), some (.int one), some b.t5, some (frD (Fr.low (one / 30 % 40) dv))], ?_, crs ++ [Cr.mk fb (Fr.low (one / 30 % 40) dv) (1 + one / 2000 % 12) ws], _, _, _, _, by simp [hlen], fun z hz => ?_, rfl⟩
      · rw [List.map_append, List.map_cons, List.map_nil, hnew]
        generalize hpq : Fr.low (one / 30 % 40) dv = pq at *
        ktf_call (h1)
        ktf_call (List.length_map, hk, ixD_l, hbx)
        ktf_call (ixD_l, hx, hfr)
        k_search (Br.t5, ixD_t, t5_0, t5_2, hwh, q)
      · rcases List.mem_append.mp hz with hz | hz
        · exact hcr z hz
        · cases List.mem_singleton.mp hz
          refine ⟨⟨by rw [hfn]; exact hfb, ⟨hq.pos, Int.le_trans hq.le (by o_shape)⟩, by show 1 ≤ 1 + one / 2000 % 12; o_shape, by show 1 + one / 2000 % 12 ≤ 12; o_shape, w1, w4⟩, low1.1, low1.2, ⟨hq.pos, Int.le_trans hq.le d2⟩, fun w hw => ?_⟩
          have := hws w hw
          exact ⟨this.g1, this.g2, this.l0, this.lh, Int.le_trans this.hm mb1⟩
      )
  rw [List.length_map] at hlen
  refine ⟨crs, hlen, hcr, ?_⟩
  rw [F_law_close, seal_eq]
  refine runF_rt ?_
  show B_law_close [some (.lst (cs.map .int)), some (.lst (bs.map Br.t5)), some (.int most), none, none, none, none, none] = _
  unfold B_law_close
  ktf_call (hcl)
  ktf_call (itemsD, hloop)
  k_search (hcl)
theorem isD_x {d : D} {b c : Bool} (h : d.isB b = c) : sealed isD d (.bl b) = some (.bl c) := by
  rw [seal_eq, ← h]
  cases d <;> rfl
theorem same_r : ∀ (k m : Nat) (d : D), Good k d → k ≤ m → R_law_same m [d, d] = some (.bl true)
  | 0, _, _, g, _ => by cases g
  | k + 1, 0, _, _, h => by o_shape
  | k + 1, m + 1, d, g, hm => by
    show sealed (runD 3 (B_law_same (R_law_same m))) [d, d] = _
    rw [seal_eq]
    refine run_rt ?_
    show B_law_same _ [some d, some d, none] = _
    unfold B_law_same
    have seqc : ∀ xs, (d = .lst xs ∨ d = .tup xs) → xs.length < 1000000 → (∀ x ∈ xs, Good k x) → ∃ o, forD (nmG 2) (ifS (notB (bD (callD (R_law_same m) (aCons (oD (sealed ixD) (vD 0) (vD 2)) (aCons (oD (sealed ixD) (vD 1) (vD 2)) aNil))))) (retS (cD (.bl false))) nxS) ((List.range xs.length).map fun (i : Nat) => D.int (0 + (i : Int))) [some d, some d, none] = some (.nx [some d, some d, o]) := fun xs hd hl h => by
      obtain ⟨e', h1, o, rfl⟩ := forD_end (g := nmG 2) (b := ifS (notB (bD (callD (R_law_same m) (aCons (oD (sealed ixD) (vD 0) (vD 2)) (aCons (oD (sealed ixD) (vD 1) (vD 2)) aNil))))) (retS (cD (.bl false))) nxS) (ds := (List.range xs.length).map fun (i : Nat) => D.int (0 + (i : Int))) (env := [some d, some d, none]) (fun _ e => ∃ o, e = [some d, some d, o]) ⟨none, rfl⟩ (by
        rintro i y e hy ⟨o, rfl⟩
        rw [List.getElem?_map] at hy
        obtain ⟨j, hj, rfl⟩ := Option.map_eq_some_iff.mp hy
        obtain ⟨hj8, hj⟩ := List.getElem?_eq_some_iff.mp hj
        rw [List.getElem_range] at hj
        subst hj
        have hi : i < xs.length := by simpa using hj8
        have hx : sealed ixD d (.int (i : Int)) = some xs[i] := by
          rcases hd with rfl | rfl
          · rw [ixD_l]; exact atI_of rfl (List.getElem?_eq_getElem hi)
          · rw [ixD_t]; exact atI_of rfl (List.getElem?_eq_getElem hi)
        have hs := same_r k m xs[i] (h _ (List.getElem_mem hi)) (by o_shape)
        refine ⟨_, rfl, [some d, some d, some (.int (0 + (i : Int)))], ?_, _, rfl⟩
        generalize R_law_same m = G at hs ⊢
        k_search (Int.zero_add, hx, hs, Bool.not_true, Bool.false_eq_true)
        )
      exact ⟨o, h1⟩
    generalize R_law_same m = G at seqc
    cases g with
    | non =>
      k_search (isD_n)
    | bl _ b =>
      cases b with
      | true =>
        k_search (isD_b, isD_x (d := .bl true) (b := true) (c := true) rfl, Bool.false_eq_true)
      | false =>
        k_search (isD_b, isD_x (d := .bl false) (b := true) (c := false) rfl, isD_x (d := .bl false) (b := false) (c := true) rfl, Bool.false_eq_true)
    | int _ i =>
      k_search (isD_i, isD_x (d := .int i) (b := true) (c := false) rfl, isD_x (d := .int i) (b := false) (c := false) rfl, isT_i, k_ii, k_ib, Bool.not_false, Bool.false_eq_true, decide_true)
    | str _ s =>
      k_search (isD_s, isD_x (d := .str s) (b := true) (c := false) rfl, isD_x (d := .str s) (b := false) (c := false) rfl, isT_s, k_si, k_ss, Bool.false_eq_true, decide_true)
    | @lst _ xs h l =>
      obtain ⟨o, hf⟩ := seqc xs (.inl rfl) l h
      have hr : sealed rng1D [.int (xs.length : Int)] = some ((List.range xs.length).map fun (i : Nat) => D.int (0 + (i : Int))) := by
        have := rng1_of (j := (xs.length : Int)) (by o_shape)
        rw [Int.toNat_natCast] at this
        exact this
      k_search (isD_l, isD_x (d := .lst xs) (b := true) (c := false) rfl, isD_x (d := .lst xs) (b := false) (c := false) rfl, isT_l, k_li, k_ls, k_ll, k_lt, Bool.not_true, Bool.false_eq_true, decide_true, hr, hf)
    | @tup _ xs h l =>
      obtain ⟨o, hf⟩ := seqc xs (.inr rfl) l h
      have hr : sealed rng1D [.int (xs.length : Int)] = some ((List.range xs.length).map fun (i : Nat) => D.int (0 + (i : Int))) := by
        have := rng1_of (j := (xs.length : Int)) (by o_shape)
        rw [Int.toNat_natCast] at this
        exact this
      k_search (isD_t, isD_x (d := .tup xs) (b := true) (c := false) rfl, isD_x (d := .tup xs) (b := false) (c := false) rfl, isT_t, k_ti, k_ts, k_tl, k_tt, Bool.not_true, Bool.false_eq_true, decide_true, hr, hf)
theorem same_ok {d : D} {k : Nat} (g : Good k d) (hk : k ≤ 12 := by o_shape) : F_law_same [d, d] = some (.bl true) := same_r k 12 d g hk
theorem nums_ws {ws : List Wh} : Nums 2 (.lst (ws.map Wh.t)) := .lst fun x hx => by
  obtain ⟨w, _, rfl⟩ := List.mem_map.mp hx
  exact .tup fun y hy => by
    simp only [List.mem_cons, List.not_mem_nil, or_false] at hy
    rcases hy with rfl | rfl | rfl <;> exact .int _ _
def ltQ (p q : Int × Int) : Bool := decide (p.1 * q.2 < q.1 * p.2)
theorem F_less_ok {p q : Int × Int} {A B : Int} (hp : Qok A p) (hq : Qok B q) (hA : A < 1000000000000000000) (hB : B < 1000000000000000000) : F_less [frD p, frD q] = some (.bl (ltQ p q)) := by
  rw [F_less, seal_eq]
  refine run_rt ?_
  show B_less [some (frD p), some (frD q)] = _
  unfold B_less ltQ
  have p0 := hp.pos
  have p1 := hp.le
  have q0 := hq.pos
  have q1 := hq.le
  unfold frD
  k_search (ixD_t, fr_at0, fr_at1)
structure Sy where
  on : Int × Int
  off : Int × Int
  low : Int
  high : Int
def Sy.t (s : Sy) : D := .tup [frD s.on, frD s.off, .int s.low, .int s.high]
theorem sy0 {s : Sy} : atI [frD s.on, frD s.off, .int s.low, .int s.high] 0 = some (frD s.on) := ix0
theorem sy1 {s : Sy} : atI [frD s.on, frD s.off, .int s.low, .int s.high] 1 = some (frD s.off) := atI_num (n := 1) rfl
theorem sy2 {s : Sy} : atI [frD s.on, frD s.off, .int s.low, .int s.high] 2 = some (.int s.low) := atI_num (n := 2) rfl
theorem sy3 {s : Sy} : atI [frD s.on, frD s.off, .int s.low, .int s.high] 3 = some (.int s.high) := atI_num (n := 3) rfl
def syOf (t : (Int × Int) × (Int × Int)) (w : Wh) : Sy := ⟨t.1, t.2, w.low, w.high⟩
def Cr.sys (c : Cr) : List Sy := List.zipWith syOf c.tms c.ws
def sysOf (crs : List Cr) (n : Str) : List Sy := crs.flatMap fun c => if c.b.name = n then c.sys else []
theorem sysOf_cons {c : Cr} {crs : List Cr} {n : Str} : sysOf (c :: crs) n = (if c.b.name = n then c.sys else []) ++ sysOf crs n := List.flatMap_cons
theorem tms_len {c : Cr} : c.tms.length = c.ws.length := by unfold Cr.tms; rw [List.length_map, offZ_len]
theorem sys_len {c : Cr} : c.sys.length = c.ws.length := by unfold Cr.sys; rw [List.length_zipWith, tms_len]; o_shape
theorem tm0 {t : (Int × Int) × (Int × Int)} : atI [frD t.1, frD t.2] 0 = some (frD t.1) := ix0
theorem tm1 {t : (Int × Int) × (Int × Int)} : atI [frD t.1, frD t.2] 1 = some (frD t.2) := atI_num (n := 1) rfl
theorem wh1 {w : Wh} : atI [D.int w.gap, .int w.low, .int w.high] 1 = some (.int w.low) := atI_num (n := 1) rfl
theorem wh2 {w : Wh} : atI [D.int w.gap, .int w.low, .int w.high] 2 = some (.int w.high) := atI_num (n := 2) rfl
theorem sysOf_len {bs : List Br} : ∀ {crs : List Cr} {n : Str}, (∀ c ∈ crs, c.WF bs) → (sysOf crs n).length ≤ 4 * crs.length
  | [], _, _ => Nat.zero_le _
  | c :: crs, n, h => by
    have ih := sysOf_len (n := n) (fun d hd => h d (List.mem_cons_of_mem _ hd))
    have w4 := (h c List.mem_cons_self).w4
    rw [sysOf_cons, List.length_append, List.length_cons]
    have : (if c.b.name = n then c.sys else []).length ≤ 4 := by
      split
      · rw [sys_len]; exact w4
      · exact Nat.zero_le _
    omega
theorem F_stays {sh : List (Str × Int × Int)} {bs : List Br} {n : Str} {crs : List Cr} (hl : bs.length ≤ 6) (hw : ∀ c ∈ crs, c.WF bs) (hc : crs.length < 1000) : F_stays_of [(rod5 bs sh).o, .lst (crs.map Cr.t), .str n] = some (.lst ((sysOf crs n).map Sy.t)) := by
  rw [F_stays_of, seal_eq]
  refine runF_rt ?_
  show B_stays_of [some (rod5 bs sh).o, some (.lst (crs.map Cr.t)), some (.str n), none, none, none, none] = _
  unfold B_stays_of
  have inner : ∀ (c : Cr) (ts : List ((Int × Int) × (Int × Int))) (ws : List Wh) (acc : List Sy) (o5 o6 : Option D), acc.length + ws.length < 100000 → ∃ q5 q6, forD (tupG [5, 6]) ((appS 3 (mk [false, false, false, true, false, false, false] (tupD (aCons (oD (sealed ixD) (vD 5) (cD (.int 0))) (aCons (oD (sealed ixD) (vD 5) (cD (.int 1))) (aCons (oD (sealed ixD) (vD 6) (cD (.int 1))) (aCons (oD (sealed ixD) (vD 6) (cD (.int 2))) aNil)))))))) (zipG (ts.map tmD) (ws.map Wh.t)) [some (rod5 bs sh).o, some (.lst (crs.map Cr.t)), some (.str n), some (.lst (acc.map Sy.t)), some c.t, o5, o6] = some (.nx [some (rod5 bs sh).o, some (.lst (crs.map Cr.t)), some (.str n), some (.lst ((acc ++ List.zipWith syOf ts ws).map Sy.t)), some c.t, q5, q6]) := by
    intro c ts
    induction ts with
    | nil => intro ws acc o5 o6 _; exact ⟨o5, o6, by rw [List.zipWith_nil_left, List.append_nil]; rfl⟩
    | cons t ts ih =>
      intro ws acc o5 o6 hlen
      cases ws with
      | nil => exact ⟨o5, o6, by rw [List.zipWith_nil_right, List.append_nil]; rfl⟩
      | cons w ws =>
        rw [List.length_cons] at hlen
        obtain ⟨q5, q6, h⟩ := ih ws (acc ++ [syOf t w]) (some (tmD t)) (some w.t) (by rw [List.length_append, List.length_singleton, Nat.add_assoc, Nat.add_comm 1]; exact hlen)
        refine ⟨q5, q6, ?_⟩
        rw [List.append_assoc] at h
        have hb : ((appS 3 (mk [false, false, false, true, false, false, false] (tupD (aCons (oD (sealed ixD) (vD 5) (cD (.int 0))) (aCons (oD (sealed ixD) (vD 5) (cD (.int 1))) (aCons (oD (sealed ixD) (vD 6) (cD (.int 1))) (aCons (oD (sealed ixD) (vD 6) (cD (.int 2))) aNil)))))))) [some (rod5 bs sh).o, some (.lst (crs.map Cr.t)), some (.str n), some (.lst (acc.map Sy.t)), some c.t, some (tmD t), some w.t] = some (.nx [some (rod5 bs sh).o, some (.lst (crs.map Cr.t)), some (.str n), some (.lst ((acc ++ [syOf t w]).map Sy.t)), some c.t, some (tmD t), some w.t]) := by
          have q : acc.length < 1000000 := by o_shape
          k_search (tmD, Wh.t, ixD_t, tm0, tm1, wh1, wh2, q, List.map_append, List.map_cons, List.map_nil, Sy.t, syOf)
        show forD _ _ (D.tup [tmD t, w.t] :: zipG (ts.map tmD) (ws.map Wh.t)) _ = _
        rw [forD]
        simp only [tupG, setsG, List.set_cons_zero, List.set_cons_succ, bindS, hb]
        exact h
  have outer : ∀ (ds : List Cr) (acc : List Sy) (o4 o5 o6 : Option D), (∀ c ∈ ds, c.WF bs) → acc.length + 4 * ds.length < 90000 → ∃ q4 q5 q6, forD (nmG 4) ((ifS (bD (oD (sealed eqD) (oD (sealed ixD) (vD 4) (cD (.int 0))) (vD 2))) (forS (mk [false, false, false, true, false, false, false] (iaD (sealed zipL) (aCons (callD F_times_on (aCons (vD 0) (aCons (vD 4) aNil))) (aCons (oD (sealed ixD) (vD 4) (cD (.int 3))) aNil)))) (tupG [5, 6]) (appS 3 (mk [false, false, false, true, false, false, false] (tupD (aCons (oD (sealed ixD) (vD 5) (cD (.int 0))) (aCons (oD (sealed ixD) (vD 5) (cD (.int 1))) (aCons (oD (sealed ixD) (vD 6) (cD (.int 1))) (aCons (oD (sealed ixD) (vD 6) (cD (.int 2))) aNil)))))))) nxS)) (ds.map Cr.t) [some (rod5 bs sh).o, some (.lst (crs.map Cr.t)), some (.str n), some (.lst (acc.map Sy.t)), o4, o5, o6] = some (.nx [some (rod5 bs sh).o, some (.lst (crs.map Cr.t)), some (.str n), some (.lst ((acc ++ sysOf ds n).map Sy.t)), q4, q5, q6]) := by
    intro ds
    induction ds with
    | nil => intro acc o4 o5 o6 _ _; exact ⟨o4, o5, o6, by rw [sysOf, List.flatMap_nil, List.append_nil]; rfl⟩
    | cons c ds ih =>
      intro acc o4 o5 o6 hd hlen
      rw [List.length_cons] at hlen
      have wf := hd c List.mem_cons_self
      have w4 := wf.w4
      have hb : ∃ q5 q6, ((ifS (bD (oD (sealed eqD) (oD (sealed ixD) (vD 4) (cD (.int 0))) (vD 2))) (forS (mk [false, false, false, true, false, false, false] (iaD (sealed zipL) (aCons (callD F_times_on (aCons (vD 0) (aCons (vD 4) aNil))) (aCons (oD (sealed ixD) (vD 4) (cD (.int 3))) aNil)))) (tupG [5, 6]) (appS 3 (mk [false, false, false, true, false, false, false] (tupD (aCons (oD (sealed ixD) (vD 5) (cD (.int 0))) (aCons (oD (sealed ixD) (vD 5) (cD (.int 1))) (aCons (oD (sealed ixD) (vD 6) (cD (.int 1))) (aCons (oD (sealed ixD) (vD 6) (cD (.int 2))) aNil)))))))) nxS)) [some (rod5 bs sh).o, some (.lst (crs.map Cr.t)), some (.str n), some (.lst (acc.map Sy.t)), some c.t, o5, o6] = some (.nx [some (rod5 bs sh).o, some (.lst (crs.map Cr.t)), some (.str n), some (.lst ((acc ++ if c.b.name = n then c.sys else []).map Sy.t)), some c.t, q5, q6]) := by
        have c0 : sealed ixD c.t (.int 0) = some (.str c.b.name) := by rw [Cr.t, ixD_t, cr0]
        have c3 : sealed ixD c.t (.int 3) = some (.lst (c.ws.map Wh.t)) := by rw [Cr.t, ixD_t, cr3]
        by_cases hn : c.b.name = n
        · obtain ⟨q5, q6, h⟩ := inner c c.tms c.ws acc o5 o6 (by o_shape)
          have ht := F_times (sh := sh) hl wf
          refine ⟨q5, q6, ?_⟩
          rw [if_pos hn]
          have hn2 : decide (c.b.name = n) = true := decide_eq_true hn
          k_search (c0, hn2, ht, c3, h, Cr.sys)
        · refine ⟨o5, o6, ?_⟩
          rw [if_neg hn, List.append_nil]
          have hn2 : decide (c.b.name = n) = false := decide_eq_false hn
          k_search (c0, hn2, Bool.false_eq_true)
      obtain ⟨q5, q6, hb⟩ := hb
      obtain ⟨p4, p5, p6, h⟩ := ih (acc ++ if c.b.name = n then c.sys else []) (some c.t) q5 q6 (fun d h => hd d (List.mem_cons_of_mem _ h)) (by
        have : (if c.b.name = n then c.sys else []).length ≤ 4 := by
          split
          · rw [sys_len]; exact w4
          · exact Nat.zero_le _
        rw [List.length_append]
        omega)
      refine ⟨p4, p5, p6, ?_⟩
      rw [sysOf_cons, ← List.append_assoc, List.map_cons, forD]
      simp only [nmG, List.set_cons_zero, List.set_cons_succ, bindS, hb]
      exact h
  obtain ⟨q4, q5, q6, h⟩ := outer crs [] none none none hw (by simp; o_shape)
  rw [List.nil_append, List.map_nil] at h
  ktf_call (hl)
  ktf_call (itemsD, h)
  k_search (hl)
def Sy.at (m : Int × Int) (s : Sy) : Bool := !ltQ m s.on && ltQ m s.off
def lowAt (m : Int × Int) (ss : List Sy) : Int := ((ss.filter (Sy.at m)).map Sy.low).sum
def highAt (m : Int × Int) (ss : List Sy) : Int := ((ss.filter (Sy.at m)).map Sy.high).sum
structure Sy.Ok (s : Sy) : Prop where
  on : Qok 100000000 s.on
  off : Qok 100000000 s.off
def sumT (m : Int × Int) (ss : List Sy) : D := .tup [.int (lowAt m ss), .int (highAt m ss)]
theorem sumD_l {xs : List Int} : sealed sumD [.lst (xs.map D.int)] = some (.int xs.sum) := by
  rw [seal_eq]
  show (inS _).map _ = _
  rw [inS_map]
  rfl
theorem F_sums {m : Int × Int} {ss : List Sy} {A : Int} (hm : Qok A m) (hA : A < 1000000000000000000) (hs : ∀ s ∈ ss, s.Ok) (hl : ss.length < 100000) : F_sums_at [.lst (ss.map Sy.t), frD m] = some (sumT m ss) := by
  rw [F_sums_at, seal_eq]
  refine run_rt ?_
  show B_sums_at [some (.lst (ss.map Sy.t)), some (frD m), none] = _
  unfold B_sums_at
  have hf : (ss.filter (Sy.at m)).length ≤ ss.length := List.length_filter_le _ _
  have c1 : compF (itD (vD 0)) (andB (notB (bD (callD F_less (aCons (vD 1) (aCons (oD (sealed ixD) (vD 0) (cD (.int 0))) aNil))))) (bD (callD F_less (aCons (vD 1) (aCons (oD (sealed ixD) (vD 0) (cD (.int 1))) aNil))))) (vD 0) [1] [some (.lst (ss.map Sy.t)), some (frD m), none] = some (.lst ((ss.filter (Sy.at m)).map Sy.t)) := by
    unfold compF
    simp only [itD, vD_z, vD_s, bindS, itemsD]
    rw [if_pos (by rw [List.length_map]; o_shape)]
    show Option.map _ (compD _ _ [some (frD m)] _) = _
    rw [comp_sel (p := Sy.at m) (f := Sy.t)]
    · rfl
    · intro s hs0
      refine ⟨?_, fun _ => rfl⟩
      have ok := hs s hs0
      have l1 := F_less_ok hm ok.on hA (by o_shape)
      have l2 := F_less_ok hm ok.off hA (by o_shape)
      unfold Sy.at
      cases e : ltQ m s.on with
      | true =>
        rw [e] at l1
        k_search (Sy.t, ixD_t, sy0, sy1, l1, l2, Bool.not_true, Bool.not_false, Bool.true_and, Bool.false_and, Bool.false_eq_true)
      | false =>
        rw [e] at l1
        k_search (Sy.t, ixD_t, sy0, sy1, l1, l2, Bool.not_true, Bool.not_false, Bool.true_and, Bool.false_and, Bool.false_eq_true)
  generalize hG : ss.filter (Sy.at m) = gs at c1 hf
  have c2 : compF (itD (vD 2)) yesB (oD (sealed ixD) (vD 0) (cD (.int 2))) [] [some (.lst (ss.map Sy.t)), some (frD m), some (.lst (gs.map Sy.t))] = some (.lst ((gs.map Sy.low).map D.int)) := by
    unfold compF
    simp only [itD, vD_z, vD_s, bindS, itemsD]
    rw [if_pos (by rw [List.length_map]; o_shape)]
    show Option.map _ (compD _ _ [] _) = _
    rw [List.map_map, comp_map (f := D.int ∘ Sy.low)]
    · rfl
    · intro s _
      refine ⟨rfl, ?_⟩
      k_search (Sy.t, ixD_t, sy2, Function.comp)
  have c3 : compF (itD (vD 2)) yesB (oD (sealed ixD) (vD 0) (cD (.int 3))) [] [some (.lst (ss.map Sy.t)), some (frD m), some (.lst (gs.map Sy.t))] = some (.lst ((gs.map Sy.high).map D.int)) := by
    unfold compF
    simp only [itD, vD_z, vD_s, bindS, itemsD]
    rw [if_pos (by rw [List.length_map]; o_shape)]
    show Option.map _ (compD _ _ [] _) = _
    rw [List.map_map, comp_map (f := D.int ∘ Sy.high)]
    · rfl
    · intro s _
      refine ⟨rfl, ?_⟩
      k_search (Sy.t, ixD_t, sy3, Function.comp)
  have e1 : lowAt m ss = (gs.map Sy.low).sum := by unfold lowAt; rw [hG]
  have e2 : highAt m ss = (gs.map Sy.high).sum := by unfold highAt; rw [hG]
  unfold sumT
  rw [e1, e2]
  ktf_call (c1)
  k_search (c2, c3, sumD_l)
theorem tm_ok {c : Cr} {bs : List Br} (wf : c.WF bs) : ∀ t ∈ c.tms, Qok 332640 t.1 ∧ Qok 3991680 t.2 := by
  intro t ht
  unfold Cr.tms at ht
  obtain ⟨o, _, rfl⟩ := List.mem_map.mp ht
  have v1 := wf.v1
  have v2 := wf.v2
  have hv := low_ok (a := o) (b := c.v) (by o_shape)
  have hv2 := low_ok (a := c.b.length) (b := c.v) (by o_shape)
  have a1 := addQ_ok wf.e hv
  have ok2 : Qok 332640 (addQ c.e (Fr.low o c.v)) := ⟨a1.pos, Int.le_trans a1.le (by o_shape)⟩
  have a2 := addQ_ok ok2 hv2
  exact ⟨ok2, a2.pos, Int.le_trans a2.le (by o_shape)⟩
theorem mem_zipW {α β γ : Type} {f : α → β → γ} : ∀ {xs : List α} {ys : List β} {z : γ}, z ∈ List.zipWith f xs ys → ∃ x ∈ xs, ∃ y ∈ ys, z = f x y
  | [], _, _, h => by rw [List.zipWith_nil_left] at h; cases h
  | _ :: _, [], _, h => by rw [List.zipWith_nil_right] at h; cases h
  | x :: xs, y :: ys, z, h => by
    rw [List.zipWith_cons_cons] at h
    rcases List.mem_cons.mp h with rfl | h
    · exact ⟨x, List.mem_cons_self, y, List.mem_cons_self, rfl⟩
    · obtain ⟨a, ha, b, hb, e⟩ := mem_zipW h
      exact ⟨a, List.mem_cons_of_mem _ ha, b, List.mem_cons_of_mem _ hb, e⟩
theorem sys_ok {c : Cr} {bs : List Br} (wf : c.WF bs) : ∀ s ∈ c.sys, s.Ok := by
  intro s hs
  obtain ⟨t, ht, w, _, rfl⟩ := mem_zipW hs
  have := tm_ok wf t ht
  exact ⟨⟨this.1.pos, Int.le_trans this.1.le (by o_shape)⟩, ⟨this.2.pos, Int.le_trans this.2.le (by o_shape)⟩⟩
theorem sysOf_ok {bs : List Br} {crs : List Cr} {n : Str} (hw : ∀ c ∈ crs, c.WF bs) : ∀ s ∈ sysOf crs n, s.Ok := by
  intro s hs
  obtain ⟨c, hc, h⟩ := List.mem_flatMap.mp hs
  split at h
  · exact sys_ok (hw c hc) s h
  · cases h
def cellZ (xs : List Int) (k : Nat) : Int := if h : k < xs.length then xs[k] else 0
theorem F_cellat {xs : List Int} {d : D} (hd : d = .lst (xs.map D.int) ∨ d = .fz (xs.map D.int)) (k : Nat) : F_law_cell_at [d, .int k] = some (.int (cellZ xs k)) := by
  have hl : sealed lenD [d] = some (.int xs.length) := by rw [seal_eq]; rcases hd with rfl | rfl <;> simp [lenD, seqOf]
  rw [F_law_cell_at, seal_eq]
  show (B_law_cell_at [some d, some (.int k)]).bind _ = _
  unfold B_law_cell_at
  by_cases h : k < xs.length
  · have hi : sealed ixD d (.int k) = some (.int (cellZ xs k)) := by
      rcases hd with rfl | rfl
      · rw [ixD_l]
        exact atI_of rfl (by rw [List.getElem?_map, List.getElem?_eq_getElem h]; simp [cellZ, h])
      · rw [ixD_f]
        exact atI_of rfl (by rw [List.getElem?_map, List.getElem?_eq_getElem h]; simp [cellZ, h])
    have hlt : ((k : Int) < (xs.length : Int)) := by o_shape
    k_search (hl, hi, decide_eq_true hlt)
  · have hz : cellZ xs k = 0 := by simp [cellZ, h]
    have hlt : ¬ ((k : Int) < (xs.length : Int)) := by o_shape
    k_search (hl, hz, decide_eq_false hlt, Bool.false_eq_true)
theorem cut_ok {xs : List Int} {d : D} (hd : d = .lst (xs.map D.int) ∨ d = .fz (xs.map D.int)) (a b : Nat) : ∃ ys : List Int, ys.length ≤ b - a ∧ sealed slDD d (some (a : Int)) (some (b : Int)) = some (.lst (ys.map D.int)) := by
  refine ⟨cutL xs (some (a : Int)) (some (b : Int)), cutL_len, ?_⟩
  rw [seal_eq]
  rcases hd with rfl | rfl
  · show some (D.lst (cutD _ _ _)) = _
    rw [← cutD_map]
  · show some (D.lst (cutD _ _ _)) = _
    rw [← cutD_map]
theorem Cr.WF.same {c : Cr} {bs : List Br} {b : Br} (wf : c.WF bs) (nd : NmD bs) (hb : b ∈ bs) (h : c.b.name = b.name) : c.b = b := by
  have h1 := wf.f
  rw [h, nd b hb] at h1
  exact (Option.some.inj h1).symm
theorem sy_cons {m : Int × Int} {s : Sy} {ss : List Sy} : lowAt m (s :: ss) = (if s.at m = true then s.low else 0) + lowAt m ss ∧ highAt m (s :: ss) = (if s.at m = true then s.high else 0) + highAt m ss := by
  unfold lowAt highAt
  by_cases h : s.at m = true
  · rw [List.filter_cons_of_pos h, if_pos h, if_pos h]
    exact ⟨List.sum_cons, List.sum_cons⟩
  · rw [List.filter_cons_of_neg h, if_neg h, if_neg h]
    exact ⟨(Int.zero_add _).symm, (Int.zero_add _).symm⟩
theorem nums_crs {bs : List Br} {crs : List Cr} (hb : ∀ b ∈ bs, b.W5) (hw : ∀ c ∈ crs, c.WF bs) : Nums 4 (.lst (crs.map Cr.t)) := .lst fun x hx => by
  obtain ⟨c, hc, rfl⟩ := List.mem_map.mp hx
  have sk : SOk c.b.name := (hb c.b (List.mem_of_find?_eq_some (hw c hc).f)).n0
  exact .tup fun y hy => by
    simp only [List.mem_cons, List.not_mem_nil, or_false] at hy
    rcases hy with rfl | rfl | rfl | rfl
    · exact .str _ sk
    · exact .tup fun z hz => by
        simp only [List.mem_cons, List.not_mem_nil, or_false] at hz
        rcases hz with rfl | rfl <;> exact .int _ _
    · exact .int _ _
    · exact nums_ws
abbrev Qs := List (Int × Int)
def insQ (x : Int × Int) (xs : Qs) (g : Qs → Qs) : Qs → Qs
  | [] => x :: xs
  | y :: ys => if ltQ y x = true then y :: insQ x xs g ys else x :: g (y :: ys)
def mrgQ : Qs → Qs → Qs
  | [] => fun ys => ys
  | x :: xs => insQ x xs (mrgQ xs)
theorem mrgQ_nl {ys : Qs} : mrgQ [] ys = ys := rfl
theorem mrgQ_nr {xs : Qs} : mrgQ xs [] = xs := by cases xs <;> rfl
theorem mrgQ_cons {x y : Int × Int} {xs ys : Qs} : mrgQ (x :: xs) (y :: ys) = if ltQ y x = true then y :: mrgQ (x :: xs) ys else x :: mrgQ xs (y :: ys) := rfl
theorem mrgQ_mem {a : Int × Int} : ∀ (n : Nat) (xs ys : Qs), xs.length + ys.length ≤ n → (a ∈ mrgQ xs ys ↔ a ∈ xs ∨ a ∈ ys)
  | _, [], ys, _ => by rw [mrgQ_nl]; simp
  | _, x :: xs, [], _ => by rw [mrgQ_nr]; simp
  | 0, x :: xs, y :: ys, h => by simp at h
  | n + 1, x :: xs, y :: ys, h => by
    rw [mrgQ_cons]
    simp only [List.length_cons] at h
    split
    · rw [List.mem_cons, mrgQ_mem n (x :: xs) ys (by simp only [List.length_cons]; o_shape), List.mem_cons (l := ys)]
      grind
    · rw [List.mem_cons, mrgQ_mem n xs (y :: ys) (by simp only [List.length_cons]; o_shape), List.mem_cons (l := xs)]
      grind
theorem mrgQ_len : ∀ (n : Nat) (xs ys : Qs), xs.length + ys.length ≤ n → (mrgQ xs ys).length = xs.length + ys.length
  | _, [], ys, _ => by rw [mrgQ_nl]; simp
  | _, x :: xs, [], _ => by rw [mrgQ_nr]; simp
  | 0, x :: xs, y :: ys, h => by simp at h
  | n + 1, x :: xs, y :: ys, h => by
    rw [mrgQ_cons]
    simp only [List.length_cons] at h
    split
    · rw [List.length_cons, mrgQ_len n (x :: xs) ys (by simp only [List.length_cons]; o_shape)]
      simp only [List.length_cons]
      omega
    · rw [List.length_cons, mrgQ_len n xs (y :: ys) (by simp only [List.length_cons]; o_shape)]
      simp only [List.length_cons]
      omega
def ordQ : Nat → Qs → Qs
  | 0, xs => xs
  | n + 1, xs => if xs.length < 2 then xs else mrgQ (ordQ n (xs.take (xs.length / 2))) (ordQ n (xs.drop (xs.length / 2)))
theorem ordQ_mem {a : Int × Int} : ∀ (n : Nat) (xs : Qs), a ∈ ordQ n xs ↔ a ∈ xs
  | 0, xs => Iff.rfl
  | n + 1, xs => by
    unfold ordQ
    split
    · exact Iff.rfl
    · rw [mrgQ_mem _ _ _ (Nat.le_refl _), ordQ_mem n, ordQ_mem n, ← List.mem_append, List.take_append_drop]
theorem ordQ_len : ∀ (n : Nat) (xs : Qs), (ordQ n xs).length = xs.length
  | 0, xs => rfl
  | n + 1, xs => by
    unfold ordQ
    split
    · rfl
    · rw [mrgQ_len _ _ _ (Nat.le_refl _), ordQ_len n, ordQ_len n, ← List.length_append, List.take_append_drop]
theorem cut_from {α : Type} {f : α → D} {xs : List α} {k : Nat} : sealed slDD (.lst (xs.map f)) (some (k : Int)) none = some (.lst ((xs.drop k).map f)) := by
  rw [seal_eq]
  show some (D.lst (cutD _ _ _)) = _
  unfold cutD
  rw [HT.sIx_nat, HT.sIx_none, List.length_map, List.map_drop]
  congr 2
  by_cases h : k ≤ xs.length
  · rw [Nat.min_eq_left h, List.take_of_length_le (by rw [List.length_drop, List.length_map]; o_shape)]
  · rw [Nat.min_eq_right (by o_shape), List.drop_eq_nil_of_le (by rw [List.length_map]; o_shape), List.drop_eq_nil_of_le (by rw [List.length_map]; o_shape), List.take_nil]
theorem cut_to {α : Type} {f : α → D} {xs : List α} {k : Nat} : sealed slDD (.lst (xs.map f)) none (some (k : Int)) = some (.lst ((xs.take k).map f)) := by
  rw [seal_eq]
  show some (D.lst (cutD _ _ _)) = _
  unfold cutD
  rw [HT.sIx_nat, HT.sIx_none, List.length_map, List.drop_zero, Nat.sub_zero, List.map_take]
  congr 2
  by_cases h : k ≤ xs.length
  · rw [Nat.min_eq_left h]
  · rw [Nat.min_eq_right (by o_shape), List.take_of_length_le (by rw [List.length_map]; o_shape), List.take_of_length_le (by rw [List.length_map]; o_shape)]
theorem add_l {α : Type} {f : α → D} {xs ys : List α} (h : xs.length + ys.length ≤ 1000000) : sealed addD (.lst (xs.map f)) (.lst (ys.map f)) = some (.lst ((xs ++ ys).map f)) := by
  rw [seal_eq]
  show (if _ then _ else _) = _
  rw [if_pos (by rw [List.length_map, List.length_map]; exact h), List.map_append]
theorem cat_l {α : Type} {f : α → D} {xs ys : List α} (h : xs.length + ys.length ≤ 1000000) : sealed catD (.lst (xs.map f)) (.lst (ys.map f)) = some (.lst ((xs ++ ys).map f)) := by
  rw [seal_eq]
  show (if _ then _ else _) = _
  rw [if_pos (by rw [List.length_map, List.length_map]; exact h), List.map_append]
theorem ix_map {α : Type} {f : α → D} {xs : List α} {i : Nat} {x : α} (h : xs[i]? = some x) : sealed ixD (.lst (xs.map f)) (.int (i : Int)) = some (f x) := by
  rw [ixD_l]
  exact atI_of rfl (by rw [List.getElem?_map, h]; rfl)
theorem wh_mrg (xs ys : Qs) (gx : ∀ p ∈ xs, Qok 100000000 p) (gy : ∀ p ∈ ys, Qok 100000000 p) : ∀ (n i j : Nat) (acc : Qs), (xs.length - i) + (ys.length - j) ≤ n → acc.length + n < 1000000 →
    ∃ i' j' acc', whN (andB (bD (oD (sealed ltD) (vD 3) (callD (sealed lenD) (aCons (vD 0) aNil)))) (bD (oD (sealed ltD) (vD 4) (callD (sealed lenD) (aCons (vD 1) aNil))))) ((ifS (bD (callD F_less (aCons (oD (sealed ixD) (vD 1) (vD 4)) (aCons (oD (sealed ixD) (vD 0) (vD 3)) aNil)))) (seqS (appS 2 (mk [false, false, true, false, false] (oD (sealed ixD) (vD 1) (vD 4)))) (setS 4 (mk [false, false, true, false, false] (oD (sealed addD) (vD 4) (cD (.int 1)))))) (seqS (appS 2 (mk [false, false, true, false, false] (oD (sealed ixD) (vD 0) (vD 3)))) (setS 3 (mk [false, false, true, false, false] (oD (sealed addD) (vD 3) (cD (.int 1)))))))) (n + 1) [some (.lst (xs.map frD)), some (.lst (ys.map frD)), some (.lst (acc.map frD)), some (.int (i : Int)), some (.int (j : Int))] = some (.nx [some (.lst (xs.map frD)), some (.lst (ys.map frD)), some (.lst (acc'.map frD)), some (.int ((i' : Nat) : Int)), some (.int ((j' : Nat) : Int))]) ∧ acc' ++ xs.drop i' ++ ys.drop j' = acc ++ mrgQ (xs.drop i) (ys.drop j) := by
  intro n
  induction n with
  | zero =>
    intro i j acc hn ha
    have hi0 : xs.length ≤ i := Nat.le_of_sub_eq_zero (Nat.eq_zero_of_add_eq_zero_right (Nat.le_zero.mp hn))
    have hi : xs.drop i = [] := List.drop_eq_nil_of_le hi0
    have hlt : ¬ ((i : Int) < (xs.length : Int)) := nif (Nat.not_lt.mpr hi0)
    refine ⟨i, j, acc, ?_, by rw [hi, mrgQ_nl, List.append_nil]⟩
    rw [whN]
    k_search (decide_eq_false hlt, Bool.false_eq_true)
  | succ n ih =>
    intro i j acc hn ha
    by_cases hi : i < xs.length
    · have hlt : decide ((i : Int) < (xs.length : Int)) = true := decide_eq_true (nit hi)
      by_cases hj : j < ys.length
      · have hjt : decide ((j : Int) < (ys.length : Int)) = true := decide_eq_true (nit hj)
        have ex := ix_map (f := frD) (List.getElem?_eq_getElem hi)
        have ey := ix_map (f := frD) (List.getElem?_eq_getElem hj)
        have dx := List.drop_eq_getElem_cons hi
        have dy := List.drop_eq_getElem_cons hj
        have hle := F_less_ok (gy _ (List.getElem_mem hj)) (gx _ (List.getElem_mem hi)) (by o_shape) (by o_shape)
        rw [dx, dy, mrgQ_cons, ← dx, ← dy]
        have q : acc.length < 1000000 := by o_shape
        have cx : (i : Int) + 1 = ((i + 1 : Nat) : Int) := rfl
        have cy : (j : Int) + 1 = ((j + 1 : Nat) : Int) := rfl
        generalize xs[i] = x at *
        generalize ys[j] = y at *
        cases e : ltQ y x with
        | true =>
          rw [e] at hle
          obtain ⟨i', j', acc', h1, h2⟩ := ih i (j + 1) (acc ++ [y]) (by o_shape) (by rw [List.length_append, List.length_singleton, Nat.add_assoc, Nat.add_comm 1 n]; exact ha)
          refine ⟨i', j', acc', ?_, by rw [h2, if_pos rfl, List.append_assoc]; rfl⟩
          rw [List.map_append, List.map_cons, List.map_nil] at h1
          rw [whN]
          k_search (hlt, hjt, ex, ey, hle, q, cx, cy, h1)
        | false =>
          rw [e] at hle
          obtain ⟨i', j', acc', h1, h2⟩ := ih (i + 1) j (acc ++ [x]) (by o_shape) (by rw [List.length_append, List.length_singleton, Nat.add_assoc, Nat.add_comm 1 n]; exact ha)
          refine ⟨i', j', acc', ?_, by rw [h2, if_neg Bool.false_ne_true, List.append_assoc]; rfl⟩
          rw [List.map_append, List.map_cons, List.map_nil] at h1
          rw [whN]
          k_search (hlt, hjt, ex, ey, hle, q, cx, cy, h1, Bool.false_eq_true)
      · have hd : ys.drop j = [] := List.drop_eq_nil_of_le (Nat.not_lt.mp hj)
        have hjt : ¬ ((j : Int) < (ys.length : Int)) := by o_shape
        refine ⟨i, j, acc, ?_, by rw [hd, mrgQ_nr, List.append_nil]⟩
        rw [whN]
        k_search (hlt, decide_eq_false hjt, Bool.false_eq_true)
    · have hd : xs.drop i = [] := List.drop_eq_nil_of_le (Nat.not_lt.mp hi)
      have hlt : ¬ ((i : Int) < (xs.length : Int)) := by o_shape
      refine ⟨i, j, acc, ?_, by rw [hd, mrgQ_nl, List.append_nil]⟩
      rw [whN]
      k_search (decide_eq_false hlt, Bool.false_eq_true)
theorem F_mrg {xs ys : Qs} (gx : ∀ p ∈ xs, Qok 100000000 p) (gy : ∀ p ∈ ys, Qok 100000000 p) (hl : xs.length + ys.length < 10000) : F_merged [.lst (xs.map frD), .lst (ys.map frD)] = some (.lst ((mrgQ xs ys).map frD)) := by
  rw [F_merged, seal_eq]
  refine runF_rt ?_
  show B_merged [some (.lst (xs.map frD)), some (.lst (ys.map frD)), none, none, none] = _
  unfold B_merged
  obtain ⟨i, j, acc, h1, h2⟩ := wh_mrg xs ys gx gy (xs.length + ys.length) 0 0 [] (by o_shape) (by show 0 + _ < _; o_shape)
  have hw := whS_of h1 (by omega)
  have hlen := congrArg List.length h2
  rw [List.length_append, List.length_append, List.length_append, List.drop_zero, List.drop_zero, mrgQ_len _ _ _ (Nat.le_refl _), List.length_nil] at hlen
  have a1 := add_l (f := frD) (xs := acc) (ys := xs.drop i) (by o_shape)
  have a2 := cat_l (f := frD) (xs := acc ++ xs.drop i) (ys := ys.drop j) (by rw [List.length_append]; o_shape)
  rw [h2, List.drop_zero, List.drop_zero, List.nil_append] at a2
  rw [List.map_nil] at hw
  have e0 : ((0 : Nat) : Int) = 0 := rfl
  rw [e0] at hw
  ktf_call (hl)
  ktf_call (hl)
  ktf_call (hl)
  ktf_call (hw)
  k_search (cut_from, a1, a2)
theorem ordQ_small {n : Nat} {xs : Qs} (h : xs.length < 2) : ordQ n xs = xs := by
  cases n with
  | zero => rfl
  | succ n => unfold ordQ; rw [if_pos h]
theorem F_ord : ∀ (n : Nat) (xs : Qs), xs.length ≤ 2 ^ n → xs.length < 5000 → (∀ p ∈ xs, Qok 100000000 p) → R_in_order (n + 1) [.lst (xs.map frD)] = some (.lst ((ordQ n xs).map frD)) := by
  intro n
  induction n with
  | zero =>
    intro xs h _ _
    rw [Nat.pow_zero] at h
    show sealed (runF 2 (B_in_order (R_in_order 0))) _ = _
    rw [seal_eq]
    refine runF_rt ?_
    show B_in_order _ [some (.lst (xs.map frD)), none] = _
    unfold B_in_order
    rw [ordQ_small (Nat.lt_succ_of_le h)]
    have hlt : decide ((xs.length : Int) < 2) = true := decide_eq_true (show ((xs.length : Nat) : Int) < ((2 : Nat) : Int) from nit (Nat.lt_succ_of_le h))
    generalize R_in_order 0 = G
    k_search (hlt, list_l)
  | succ n ih =>
    intro xs h hl g
    rw [Nat.pow_succ] at h
    show sealed (runF 2 (B_in_order (R_in_order (n + 1)))) _ = _
    rw [seal_eq]
    refine runF_rt ?_
    show B_in_order _ [some (.lst (xs.map frD)), none] = _
    unfold B_in_order
    by_cases hs : xs.length < 2
    · rw [ordQ_small hs]
      have hlt : decide ((xs.length : Int) < 2) = true := decide_eq_true (show ((xs.length : Nat) : Int) < ((2 : Nat) : Int) from nit hs)
      generalize R_in_order (n + 1) = G
      k_search (hlt, list_l)
    · have hlt : decide ((xs.length : Int) < 2) = false := decide_eq_false (show ¬ ((xs.length : Nat) : Int) < ((2 : Nat) : Int) from nif hs)
      have hm : (xs.length : Int) / 2 = ((xs.length / 2 : Nat) : Int) := rfl
      have i1 := ih (xs.take (xs.length / 2)) (by rw [List.length_take]; exact Nat.le_trans (Nat.min_le_left _ _) (Nat.div_le_of_le_mul (by rw [Nat.mul_comm]; exact h))) (by rw [List.length_take]; exact Nat.lt_of_le_of_lt (Nat.min_le_right _ _) hl) (fun p hp => g p (List.mem_of_mem_take hp))
      have i2 := ih (xs.drop (xs.length / 2)) (by rw [List.length_drop]; omega) (by rw [List.length_drop]; exact Nat.lt_of_le_of_lt (Nat.sub_le _ _) hl) (fun p hp => g p (List.mem_of_mem_drop hp))
      have hmg := F_mrg (xs := ordQ n (xs.take (xs.length / 2))) (ys := ordQ n (xs.drop (xs.length / 2))) (fun p hp => g p (List.mem_of_mem_take ((ordQ_mem n _).mp hp))) (fun p hp => g p (List.mem_of_mem_drop ((ordQ_mem n _).mp hp))) (by rw [ordQ_len, ordQ_len, List.length_take, List.length_drop]; exact Nat.lt_of_le_of_lt (Nat.add_le_add (Nat.min_le_right _ _) (Nat.sub_le _ _)) (Nat.add_lt_add hl hl))
      have e : ordQ (n + 1) xs = mrgQ (ordQ n (xs.take (xs.length / 2))) (ordQ n (xs.drop (xs.length / 2))) := by
        show (if _ then _ else _) = _
        rw [if_neg hs]
      rw [e]
      generalize R_in_order (n + 1) = G at *
      generalize mrgQ (ordQ n (xs.take (xs.length / 2))) (ordQ n (xs.drop (xs.length / 2))) = R at *
      ktf_call (hlt, Bool.false_eq_true)
      ktf_call (hm)
      k_search (cut_to, cut_from, i1, i2, hmg)
def ddA (acc : Qs) (p : Int × Int) : Qs := if p ∈ acc then acc else acc ++ [p]
def ddL (xs : Qs) : Qs := xs.foldl ddA []
theorem ddA_mem {acc : Qs} {p a : Int × Int} : a ∈ ddA acc p ↔ a ∈ acc ∨ a = p := by
  unfold ddA
  split <;> grind
theorem ddF_mem {a : Int × Int} : ∀ (xs acc : Qs), a ∈ xs.foldl ddA acc ↔ a ∈ acc ∨ a ∈ xs
  | [], acc => by simp
  | x :: xs, acc => by rw [List.foldl_cons, ddF_mem xs, ddA_mem, List.mem_cons]; grind
theorem ddF_len : ∀ (xs acc : Qs), (xs.foldl ddA acc).length ≤ acc.length + xs.length
  | [], acc => Nat.le_refl _
  | x :: xs, acc => by
    rw [List.foldl_cons]
    have h1 := ddF_len xs (ddA acc x)
    have h2 : (ddA acc x).length ≤ acc.length + 1 := by unfold ddA; split <;> simp
    rw [List.length_cons]
    omega
def momQ (ss : List Sy) : Qs := ordQ 7 (ddL (ss.map Sy.on))
theorem momQ_mem {ss : List Sy} {a : Int × Int} : a ∈ momQ ss ↔ ∃ s ∈ ss, s.on = a := by
  unfold momQ ddL
  rw [ordQ_mem, ddF_mem]
  simp
def kQ (p : Int × Int) : List Key := [.inl p.1, .inl p.2]
theorem kQ_any {acc : Qs} {p : Int × Int} : ((acc.map kQ).any fun j => decide (j = kQ p)) = decide (p ∈ acc) := by
  rw [List.any_map]
  induction acc with
  | nil => simp
  | cons a acc ih =>
    rw [List.any_cons, ih]
    have : (decide (kQ a = kQ p)) = decide (p = a) := by
      congr 1
      unfold kQ
      obtain ⟨a1, a2⟩ := a
      obtain ⟨p1, p2⟩ := p
      simp
      grind
    show (decide (kQ a = kQ p) || _) = _
    rw [this]
    simp [List.mem_cons, Bool.decide_or]
theorem dput_q {acc : Qs} {ds : List D} {p : Int × Int} (h : acc.length < 1000000) : ∃ ds', dputD (.dt (acc.map kQ) ds) (frD p) (.bl true) = some (.dt ((ddA acc p).map kQ) ds') := by
  have e : dputD (.dt (acc.map kQ) ds) (frD p) (.bl true) = if (acc.map kQ).length < 1000000 then some (if ((acc.map kQ).any fun j => decide (j = kQ p)) = true then .dt (acc.map kQ) (putD (acc.map kQ) ds (kQ p) (.bl true)) else .dt (acc.map kQ ++ [kQ p]) (ds ++ [.bl true])) else none := rfl
  rw [e]
  by_cases hp : p ∈ acc
  · refine ⟨putD (acc.map kQ) ds (kQ p) (.bl true), ?_⟩
    rw [if_pos (by rw [List.length_map]; exact h), kQ_any, if_pos (decide_eq_true hp)]
    unfold ddA
    rw [if_pos hp]
  · refine ⟨ds ++ [.bl true], ?_⟩
    rw [if_pos (by rw [List.length_map]; exact h), kQ_any, if_neg (by simpa using hp)]
    unfold ddA
    rw [if_neg hp, List.map_append]
    rfl
theorem F_moms {ss : List Sy} (hl : ss.length ≤ 128) (hs : ∀ s ∈ ss, s.Ok) : F_moments_in [.lst (ss.map Sy.t)] = some (.lst ((momQ ss).map frD)) := by
  rw [F_moments_in, seal_eq]
  refine runF_rt ?_
  show B_moments_in [some (.lst (ss.map Sy.t)), none, none] = _
  unfold B_moments_in
  have loop : ∀ (ts : List Sy) (acc : Qs) (ds : List D) (o : Option D), acc.length + ts.length < 1000 → ∃ ds' o', forD (nmG 2) ((dputW 1 (oD (sealed ixD) (vD 2) (cD (.int 0))) (cD (.bl true)))) (ts.map Sy.t) [some (.lst (ss.map Sy.t)), some (.dt (acc.map kQ) ds), o] = some (.nx [some (.lst (ss.map Sy.t)), some (.dt (((ts.map Sy.on).foldl ddA acc).map kQ) ds'), o']) := by
    intro ts
    induction ts with
    | nil => intro acc ds o _; exact ⟨ds, o, rfl⟩
    | cons t ts ih =>
      intro acc ds o hlen
      rw [List.length_cons] at hlen
      obtain ⟨ds1, hp⟩ := dput_q (acc := acc) (ds := ds) (p := t.on) (by o_shape)
      obtain ⟨ds', o', h⟩ := ih (ddA acc t.on) ds1 (some t.t) (by
        have : (ddA acc t.on).length ≤ acc.length + 1 := by unfold ddA; split <;> simp
        omega)
      refine ⟨ds', o', ?_⟩
      have hb : ((dputW 1 (oD (sealed ixD) (vD 2) (cD (.int 0))) (cD (.bl true)))) [some (.lst (ss.map Sy.t)), some (.dt (acc.map kQ) ds), some t.t] = some (.nx [some (.lst (ss.map Sy.t)), some (.dt ((ddA acc t.on).map kQ) ds1), some t.t]) := by
        have h0 : sealed ixD t.t (.int 0) = some (frD t.on) := by rw [Sy.t, ixD_t, sy0]
        unfold dputW
        have e2 : oD (sealed ixD) (vD 2) (cD (.int 0)) [some (.lst (ss.map Sy.t)), some (.dt (acc.map kQ) ds), some t.t] = some (frD t.on) := by
          k_search (h0)
        show Option.bind (some (D.bl true)) _ = _
        rw [bindS, e2, bindS]
        show Option.bind (dputD (.dt (acc.map kQ) ds) (frD t.on) (.bl true)) _ = _
        rw [hp]
        rfl
      rw [List.map_cons, List.map_cons, List.foldl_cons, forD]
      simp only [nmG, List.set_cons_zero, List.set_cons_succ, bindS, hb]
      exact h
  obtain ⟨ds', o', h⟩ := loop ss [] [] none (by simp; o_shape)
  rw [List.map_nil] at h
  have hq : ∀ p ∈ ddL (ss.map Sy.on), Qok 100000000 p := fun p hp => by
    rcases (ddF_mem (ss.map Sy.on) []).mp hp with h0 | h0
    · cases h0
    · obtain ⟨s, hs0, rfl⟩ := List.mem_map.mp h0
      exact (hs s hs0).on
  have hlen : (ddL (ss.map Sy.on)).length ≤ 128 := by
    have := ddF_len (ss.map Sy.on) []
    rw [List.length_map] at this
    show (List.foldl ddA [] (ss.map Sy.on)).length ≤ 128
    simp at this
    omega
  have ho := F_ord 7 (ddL (ss.map Sy.on)) hlen (by o_shape) hq
  have hd : sealed dlistT [.dt ((ddL (ss.map Sy.on)).map kQ) ds'] = some (.lst ((ddL (ss.map Sy.on)).map frD)) := by
    rw [seal_eq]
    show some (D.lst (((ddL (ss.map Sy.on)).map kQ).map fun k => .tup (k.map keyD))) = _
    rw [List.map_map]
    rfl
  have ho2 : F_in_order [.lst ((ddL (ss.map Sy.on)).map frD)] = some (.lst ((momQ ss).map frD)) := ho
  generalize F_in_order = G at ho2 ⊢
  have h2 : forD (nmG 2) ((dputW 1 (oD (sealed ixD) (vD 2) (cD (.int 0))) (cD (.bl true)))) (ss.map Sy.t) [some (.lst (ss.map Sy.t)), some (.dt [] []), none] = some (.nx [some (.lst (ss.map Sy.t)), some (.dt ((ddL (ss.map Sy.on)).map kQ) ds'), o']) := h
  ktf_call (hl)
  refine (seqS_nx (by simp only [forS, mk, itD, maskD_f, maskD_t, maskD_n, vD_z, bindS, itemsD]; exact h2)).trans ?_
  k_search (hd, ho2)
def bestQ (f : Int × Int → Int) : Qs → Option (Int × Int) → Option (Int × Int)
  | [], o => o
  | m :: ms, none => bestQ f ms (some m)
  | m :: ms, some g => bestQ f ms (some (if f g < f m then m else g))
theorem bestQ_mem {f : Int × Int → Int} : ∀ {ms : Qs} {o : Option (Int × Int)} {r : Int × Int}, bestQ f ms o = some r → r ∈ ms ∨ o = some r
  | [], _, _, h => .inr h
  | m :: ms, none, r, h => by
    rcases bestQ_mem (ms := ms) h with h | h
    · exact .inl (List.mem_cons_of_mem _ h)
    · cases h; exact .inl List.mem_cons_self
  | m :: ms, some g, r, h => by
    rcases bestQ_mem (ms := ms) h with h | h
    · exact .inl (List.mem_cons_of_mem _ h)
    · split at h
      · cases h; exact .inl List.mem_cons_self
      · exact .inr h
def tld (ss : List Sy) (m : Int × Int) : D := .tup [frD m, .int (lowAt m ss), .int (highAt m ss)]
def oT (ss : List Sy) : Option (Int × Int) → D
  | none => .non
  | some m => tld ss m
theorem tld0 {ss : List Sy} {m : Int × Int} : sealed ixD (tld ss m) (.int 0) = some (frD m) := by rw [tld, ixD_t]; exact ix0
theorem tld1 {ss : List Sy} {m : Int × Int} : sealed ixD (tld ss m) (.int 1) = some (.int (lowAt m ss)) := by rw [tld, ixD_t]; exact atI_num (n := 1) rfl
theorem tld2 {ss : List Sy} {m : Int × Int} : sealed ixD (tld ss m) (.int 2) = some (.int (highAt m ss)) := by rw [tld, ixD_t]; exact atI_num (n := 2) rfl
theorem sum0 {ss : List Sy} {m : Int × Int} : sealed ixD (sumT m ss) (.int 0) = some (.int (lowAt m ss)) := by rw [sumT, ixD_t]; exact ix0
theorem sum1 {ss : List Sy} {m : Int × Int} : sealed ixD (sumT m ss) (.int 1) = some (.int (highAt m ss)) := by rw [sumT, ixD_t]; exact atI_num (n := 1) rfl
theorem F_fg {ss : List Sy} {sp : Int} {f : Int × Int → Int} (hl : ss.length ≤ 128) (hs : ∀ s ∈ ss, s.Ok) (hf : ∀ m, sealed ixD (tld ss m) (.int sp) = some (.int (f m))) : F_first_greatest [.lst (ss.map Sy.t), .int sp] = some (oT ss (bestQ f (momQ ss) none)) := by
  rw [F_first_greatest, seal_eq]
  refine run_rt ?_
  show B_first_greatest [some (.lst (ss.map Sy.t)), some (.int sp), none, none, none, none] = _
  unfold B_first_greatest
  have loop : ∀ (ms : Qs) (o : Option (Int × Int)) (o3 o4 o5 : Option D), (∀ m ∈ ms, Qok 100000000 m) → ∃ q3 q4 q5, forD (nmG 3) ((seqS (setS 4 (mk [false, false, false, false, false, false] (callD F_sums_at (aCons (vD 0) (aCons (vD 3) aNil))))) (seqS (setS 5 (mk [false, false, false, false, false, false] (tupD (aCons (vD 3) (aCons (oD (sealed ixD) (vD 4) (cD (.int 0))) (aCons (oD (sealed ixD) (vD 4) (cD (.int 1))) aNil)))))) (ifS (orB (bD (oD (sealed isD) (vD 2) (cD .non))) (bD (oD (sealed gtD) (oD (sealed ixD) (vD 5) (vD 1)) (oD (sealed ixD) (vD 2) (vD 1))))) (setS 2 (mk [false, false, false, false, false, false] (vD 5))) nxS)))) (ms.map frD) [some (.lst (ss.map Sy.t)), some (.int sp), some (oT ss o), o3, o4, o5] = some (.nx [some (.lst (ss.map Sy.t)), some (.int sp), some (oT ss (bestQ f ms o)), q3, q4, q5]) := by
    intro ms
    induction ms with
    | nil => intro o o3 o4 o5 _; exact ⟨o3, o4, o5, rfl⟩
    | cons m ms ih =>
      intro o o3 o4 o5 hm
      have hsum := F_sums (hm m List.mem_cons_self) (by o_shape) hs (by o_shape)
      obtain ⟨q3, q4, q5, h⟩ := ih (match o with | none => some m | some g => some (if f g < f m then m else g)) (some (frD m)) (some (sumT m ss)) (some (tld ss m)) (fun u hu => hm u (List.mem_cons_of_mem _ hu))
      refine ⟨q3, q4, q5, ?_⟩
      have hb : ((seqS (setS 4 (mk [false, false, false, false, false, false] (callD F_sums_at (aCons (vD 0) (aCons (vD 3) aNil))))) (seqS (setS 5 (mk [false, false, false, false, false, false] (tupD (aCons (vD 3) (aCons (oD (sealed ixD) (vD 4) (cD (.int 0))) (aCons (oD (sealed ixD) (vD 4) (cD (.int 1))) aNil)))))) (ifS (orB (bD (oD (sealed isD) (vD 2) (cD .non))) (bD (oD (sealed gtD) (oD (sealed ixD) (vD 5) (vD 1)) (oD (sealed ixD) (vD 2) (vD 1))))) (setS 2 (mk [false, false, false, false, false, false] (vD 5))) nxS)))) [some (.lst (ss.map Sy.t)), some (.int sp), some (oT ss o), some (frD m), o4, o5] = some (.nx [some (.lst (ss.map Sy.t)), some (.int sp), some (oT ss (match o with | none => some m | some g => some (if f g < f m then m else g))), some (frD m), some (sumT m ss), some (tld ss m)]) := by
        have ht : D.tup [frD m, .int (lowAt m ss), .int (highAt m ss)] = tld ss m := rfl
        cases o with
        | none =>
          have hn : sealed isD (oT ss none) .non = some (.bl true) := isD_n
          have e : oT ss (some m) = tld ss m := rfl
          k_search (hsum, sum0, sum1, hn, ht, e)
        | some g =>
          have hn : sealed isD (oT ss (some g)) .non = some (.bl false) := isD_t
          have hg : sealed ixD (oT ss (some g)) (.int sp) = some (.int (f g)) := hf g
          by_cases c : f g < f m
          · have e : oT ss (some (if f g < f m then m else g)) = tld ss m := by rw [if_pos c]; rfl
            k_search (hsum, sum0, sum1, hn, ht, hf m, hg, decide_eq_true c, Bool.false_eq_true, e)
          · have e : oT ss (some (if f g < f m then m else g)) = oT ss (some g) := by rw [if_neg c]
            k_search (hsum, sum0, sum1, hn, ht, hf m, hg, decide_eq_false c, Bool.false_eq_true, e)
      rw [List.map_cons, forD]
      simp only [nmG, List.set_cons_zero, List.set_cons_succ, bindS, hb]
      cases o <;> exact h
  have hm : ∀ m ∈ momQ ss, Qok 100000000 m := fun m hm => by
    obtain ⟨s, h0, rfl⟩ := momQ_mem.mp hm
    exact (hs s h0).on
  obtain ⟨q3, q4, q5, h⟩ := loop (momQ ss) none none none none hm
  have hmo := F_moms hl hs
  have h' : forD (nmG 3) ((seqS (setS 4 (mk [false, false, false, false, false, false] (callD F_sums_at (aCons (vD 0) (aCons (vD 3) aNil))))) (seqS (setS 5 (mk [false, false, false, false, false, false] (tupD (aCons (vD 3) (aCons (oD (sealed ixD) (vD 4) (cD (.int 0))) (aCons (oD (sealed ixD) (vD 4) (cD (.int 1))) aNil)))))) (ifS (orB (bD (oD (sealed isD) (vD 2) (cD .non))) (bD (oD (sealed gtD) (oD (sealed ixD) (vD 5) (vD 1)) (oD (sealed ixD) (vD 2) (vD 1))))) (setS 2 (mk [false, false, false, false, false, false] (vD 5))) nxS)))) ((momQ ss).map frD) [some (.lst (ss.map Sy.t)), some (.int sp), some .non, none, none, none] = some (.nx [some (.lst (ss.map Sy.t)), some (.int sp), some (oT ss (bestQ f (momQ ss) none)), q3, q4, q5]) := h
  ktf_call (hl)
  ktf_call (hmo, itemsD, h')
  k_search (hl)
theorem F_wst {sh : List (Str × Int × Int)} {bs : List Br} {n : Str} {crs : List Cr} (hl : bs.length ≤ 6) (hw : ∀ c ∈ crs, c.WF bs) (hc : crs.length ≤ 32) : F_worst [(rod5 bs sh).o, .lst (crs.map Cr.t), .str n] = some (oT (sysOf crs n) (bestQ (fun m => highAt m (sysOf crs n)) (momQ (sysOf crs n)) none)) := by
  rw [F_worst, seal_eq]
  refine run_rt ?_
  show B_worst [some (rod5 bs sh).o, some (.lst (crs.map Cr.t)), some (.str n)] = _
  unfold B_worst
  have h1 := F_stays (sh := sh) (n := n) hl hw (by o_shape)
  have l4 := sysOf_len (n := n) hw
  have h2 := F_fg (ss := sysOf crs n) (sp := 2) (by o_shape) (sysOf_ok hw) (fun m => tld2)
  k_search (h1, h2)
theorem F_wstl {sh : List (Str × Int × Int)} {bs : List Br} {n : Str} {crs : List Cr} (hl : bs.length ≤ 6) (hw : ∀ c ∈ crs, c.WF bs) (hc : crs.length ≤ 32) : F_worst_low [(rod5 bs sh).o, .lst (crs.map Cr.t), .str n] = some (oT (sysOf crs n) (bestQ (fun m => lowAt m (sysOf crs n)) (momQ (sysOf crs n)) none)) := by
  rw [F_worst_low, seal_eq]
  refine run_rt ?_
  show B_worst_low [some (rod5 bs sh).o, some (.lst (crs.map Cr.t)), some (.str n)] = _
  unfold B_worst_low
  have h1 := F_stays (sh := sh) (n := n) hl hw (by o_shape)
  have l4 := sysOf_len (n := n) hw
  have h2 := F_fg (ss := sysOf crs n) (sp := 1) (by o_shape) (sysOf_ok hw) (fun m => tld1)
  k_search (h1, h2)
theorem bestQ_is {g : Int × Int → Int} : ∀ {ms : Qs} {m : Int × Int}, ∃ r, bestQ g ms (some m) = some r
  | [], m => ⟨m, rfl⟩
  | _ :: xs, _ => bestQ_is (ms := xs)
theorem bestQ_two {f g : Int × Int → Int} {ms : Qs} {h : Int × Int} (e : bestQ f ms none = some h) : ∃ l, bestQ g ms none = some l := by
  cases ms with
  | nil => cases e
  | cons m ms => exact bestQ_is
def verD (ss : List Sy) (k : Int) : D :=
  match bestQ (fun m => highAt m ss) (momQ ss) none, bestQ (fun m => lowAt m ss) (momQ ss) none with
  | some h, some l => if k < lowAt l ss then .tup [.str (Str.ofString "over"), frD l] else if k < highAt h ss then .tup [.str (Str.ofString "may"), frD h] else .tup [.str (Str.ofString "safe"), frD h]
  | _, _ => .tup [.str (Str.ofString "safe"), .non]
theorem verD_some {ss : List Sy} {k : Int} {h l : Int × Int} (eh : bestQ (fun m => highAt m ss) (momQ ss) none = some h) (el : bestQ (fun m => lowAt m ss) (momQ ss) none = some l) : verD ss k = if k < lowAt l ss then .tup [.str (Str.ofString "over"), frD l] else if k < highAt h ss then .tup [.str (Str.ofString "may"), frD h] else .tup [.str (Str.ofString "safe"), frD h] := by
  unfold verD
  rw [eh, el]
theorem oT_some {ss : List Sy} {m : Int × Int} : oT ss (some m) = tld ss m := rfl
theorem oT_none {ss : List Sy} : oT ss none = .non := rfl
theorem tld_n {ss : List Sy} {m : Int × Int} : sealed isD (tld ss m) .non = some (.bl false) := isD_t
theorem F_verd {sh : List (Str × Int × Int)} {bs : List Br} {b : Br} {crs : List Cr} (hl : bs.length ≤ 6) (nd : NmD bs) (hb : b ∈ bs) (hw : ∀ c ∈ crs, c.WF bs) (hc : crs.length ≤ 32) : F_verdict [(rod5 bs sh).o, .lst (crs.map Cr.t), .str b.name] = some (verD (sysOf crs b.name) b.bears) := by
  rw [F_verdict, seal_eq]
  refine run_rt ?_
  show B_verdict [some (rod5 bs sh).o, some (.lst (crs.map Cr.t)), some (.str b.name), none, none, none] = _
  unfold B_verdict verD
  have hbo := F_bof (sh := sh) (n := b.name) hl (nd b hb)
  have hbe : sealed (getF .bears) b.o = some (.int b.bears) := get_l rfl
  have h5 := F_wst (sh := sh) (n := b.name) hl hw hc
  have h6 := F_wstl (sh := sh) (n := b.name) hl hw hc
  generalize sysOf crs b.name = ss at *
  cases eh : bestQ (fun m => highAt m ss) (momQ ss) none with
  | none =>
    rw [eh, oT_none] at h5
    ktf_call (hbo, hbe)
    ktf_call (h5)
    ktf_call (h6)
    k_search (isD_n)
  | some h =>
    obtain ⟨l, el⟩ := bestQ_two (g := fun m => lowAt m ss) eh
    rw [eh, oT_some] at h5
    rw [el, oT_some] at h6
    rw [el]
    ktf_call (hbo, hbe)
    ktf_call (h5)
    ktf_call (h6)
    ktf_call (tld_n, Bool.false_eq_true)
    show _ = some (Out.rt (if _ then _ else _))
    by_cases c1 : b.bears < lowAt l ss
    · rw [if_pos c1]
      k_search (tld1, tld0, decide_eq_true c1)
    · rw [if_neg c1]
      ktf_call (tld1, decide_eq_false c1, Bool.false_eq_true)
      by_cases c2 : b.bears < highAt h ss
      · rw [if_pos c2]
        k_search (tld2, tld0, decide_eq_true c2)
      · rw [if_neg c2]
        k_search (tld2, tld0, decide_eq_false c2, Bool.false_eq_true)
theorem bestQ_max {f : Int × Int → Int} : ∀ {ms : Qs} {o : Option (Int × Int)} {r : Int × Int}, bestQ f ms o = some r → (∀ m ∈ ms, f m ≤ f r) ∧ ∀ g, o = some g → f g ≤ f r
  | [], o, r, h => ⟨fun m hm => absurd hm List.not_mem_nil, fun g e => by rw [e] at h; cases h; exact Int.le_refl _⟩
  | m :: ms, none, r, h => by
    obtain ⟨h1, h2⟩ := bestQ_max (ms := ms) h
    refine ⟨fun u hu => ?_, fun g e => by cases e⟩
    rcases List.mem_cons.mp hu with rfl | hu
    · exact h2 _ rfl
    · exact h1 u hu
  | m :: ms, some g, r, h => by
    obtain ⟨h1, h2⟩ := bestQ_max (ms := ms) h
    have h3 := h2 _ rfl
    refine ⟨fun u hu => ?_, fun g' e => ?_⟩
    · rcases List.mem_cons.mp hu with rfl | hu
      · split at h3 <;> omega
      · exact h1 u hu
    · cases e
      split at h3 <;> omega
def prt (q : Int × Int) : Int := q.1 * (27720 / q.2)
structure Dv (q : Int × Int) : Prop where
  pos : 0 < q.2
  dv : q.2 ∣ 27720
theorem Dv.ex {q : Int × Int} (h : Dv q) : ∃ a, 27720 = q.2 * a ∧ 27720 / q.2 = a := by
  obtain ⟨a, ha⟩ := h.dv
  have p := h.pos
  exact ⟨a, ha, by rw [ha]; exact Int.mul_ediv_cancel_left a (by o_shape)⟩
theorem Dv.le {q : Int × Int} (h : Dv q) : Qok 27720 q := ⟨h.pos, Int.le_of_dvd (by o_shape) h.dv⟩
theorem low_prt {x y z : Int} (hy : 0 < y) (h : x * 27720 = z * y) : Dv (Fr.low x y) ∧ prt (Fr.low x y) = z := by
  obtain ⟨k, k0, h1, h2, h3, h4⟩ := Fr.mk_facts (a := x) (b := y) (by o_shape)
  rw [Fr.low_mk hy] at h1 h2 h3 h4
  generalize Fr.low x y = p at *
  have e : p.1 * 27720 = z * p.2 := by
    have : k * (p.1 * 27720) = k * (z * p.2) := by
      have a1 : k * (p.1 * 27720) = x * 27720 := by rw [h1]; grind
      have a2 : k * (z * p.2) = z * y := by rw [h2]; grind
      rw [a1, a2, h]
    exact Int.eq_of_mul_eq_mul_left k0 this
  have hd : p.2 ∣ 27720 := by
    have a : p.2 ∣ p.1 * 27720 := ⟨z, by rw [e]; grind⟩
    have b : Int.gcd p.2 p.1 = 1 := by rw [Int.gcd_comm]; exact h4
    have c := Int.natAbs_dvd_natAbs.mpr a
    rw [Int.natAbs_mul] at c
    exact Int.natAbs_dvd_natAbs.mp (Nat.Coprime.dvd_of_dvd_mul_left b c)
  have dv : Dv p := ⟨h3, hd⟩
  obtain ⟨a, ha, hb⟩ := dv.ex
  refine ⟨dv, ?_⟩
  unfold prt
  rw [hb]
  have : p.2 * (p.1 * a) = p.2 * z := by
    have c1 : p.2 * (p.1 * a) = p.1 * (p.2 * a) := by grind
    rw [c1, ← ha, e]
    grind
  exact Int.eq_of_mul_eq_mul_left (by o_shape) this
theorem prt_add {p q : Int × Int} (hp : Dv p) (hq : Dv q) : Dv (addQ p q) ∧ prt (addQ p q) = prt p + prt q := by
  obtain ⟨a, a1, a2⟩ := hp.ex
  obtain ⟨b, b1, b2⟩ := hq.ex
  refine low_prt (Int.mul_pos hp.pos hq.pos) ?_
  unfold prt
  rw [a2, b2]
  have c1 : (p.1 * q.2 + q.1 * p.2) * 27720 = p.1 * q.2 * 27720 + q.1 * p.2 * 27720 := by grind
  have c2 : p.1 * q.2 * 27720 = p.1 * q.2 * (p.2 * a) := by rw [← a1]
  have c3 : q.1 * p.2 * 27720 = q.1 * p.2 * (q.2 * b) := by rw [← b1]
  rw [c1, c2, c3]
  grind
theorem prt_low {o v : Int} (hv : 0 < v) (dv : v ∣ 27720) : Dv (Fr.low o v) ∧ prt (Fr.low o v) = o * (27720 / v) := by
  refine low_prt hv ?_
  have := Int.ediv_mul_cancel dv
  have c : o * (27720 / v) * v = o * (27720 / v * v) := by grind
  rw [c, this]
theorem prt_lt {p q : Int × Int} (hp : Dv p) (hq : Dv q) : ltQ p q = decide (prt p < prt q) := by
  obtain ⟨a, a1, a2⟩ := hp.ex
  obtain ⟨b, b1, b2⟩ := hq.ex
  have p0 := hp.pos
  have q0 := hq.pos
  have a0 : 0 < a := Int.pos_of_mul_pos_right (a := p.2) (by rw [← a1]; o_shape) (by o_shape)
  have b0 : 0 < b := Int.pos_of_mul_pos_right (a := q.2) (by rw [← b1]; o_shape) (by o_shape)
  unfold ltQ prt
  rw [a2, b2]
  have ab : 0 < a * b := Int.mul_pos a0 b0
  have e1 : p.1 * q.2 * (a * b) = p.1 * a * 27720 := by
    have : p.1 * q.2 * (a * b) = p.1 * a * (q.2 * b) := by grind
    rw [this, ← b1]
  have e2 : q.1 * p.2 * (a * b) = q.1 * b * 27720 := by
    have : q.1 * p.2 * (a * b) = q.1 * b * (p.2 * a) := by grind
    rw [this, ← a1]
  congr 1
  refine propext ⟨fun h => ?_, fun h => ?_⟩
  · have := Int.mul_lt_mul_of_pos_right h ab
    rw [e1, e2] at this
    omega
  · have : p.1 * q.2 * (a * b) < q.1 * p.2 * (a * b) := by rw [e1, e2]; o_shape
    exact Int.lt_of_mul_lt_mul_right this (Int.le_of_lt ab)
theorem dv12 {v : Int} (h1 : 1 ≤ v) (h2 : v ≤ 12) : v ∣ 27720 := by
  have : v = 1 ∨ v = 2 ∨ v = 3 ∨ v = 4 ∨ v = 5 ∨ v = 6 ∨ v = 7 ∨ v = 8 ∨ v = 9 ∨ v = 10 ∨ v = 11 ∨ v = 12 := by o_shape
  rcases this with rfl | rfl | rfl | rfl | rfl | rfl | rfl | rfl | rfl | rfl | rfl | rfl <;> decide
theorem dv_of {q : Int × Int} (h : Qok 12 q) : Dv q := ⟨h.pos, dv12 (by have := h.pos; o_shape) h.le⟩
structure Sy.Dd (s : Sy) : Prop where
  on : Dv s.on
  off : Dv s.off
theorem tm_prt {e : Int × Int} {v len o : Int} (he : Dv e) (v1 : 1 ≤ v) (v2 : v ≤ 12) : Dv (tm e v len o).1 ∧ Dv (tm e v len o).2 ∧ prt (tm e v len o).1 = prt e + o * (27720 / v) ∧ prt (tm e v len o).2 = prt e + o * (27720 / v) + len * (27720 / v) := by
  have d := dv12 v1 v2
  have a := prt_low (o := o) (v := v) (by o_shape) d
  have b := prt_low (o := len) (v := v) (by o_shape) d
  have c := prt_add he a.1
  have f := prt_add c.1 b.1
  exact ⟨c.1, f.1, by show prt (addQ e (Fr.low o v)) = _; rw [c.2, a.2], by show prt (addQ (addQ e (Fr.low o v)) (Fr.low len v)) = _; rw [f.2, c.2, a.2, b.2]⟩
theorem sys_dd {c : Cr} {bs : List Br} (wf : c.WF bs) (he : Dv c.e) : ∀ s ∈ c.sys, s.Dd := by
  intro s hs
  obtain ⟨t, ht, w, _, rfl⟩ := mem_zipW hs
  unfold Cr.tms at ht
  obtain ⟨o, _, rfl⟩ := List.mem_map.mp ht
  have := tm_prt (len := c.b.length) (o := o) he wf.v1 wf.v2
  exact ⟨this.1, this.2.1⟩
theorem sysOf_dd {bs : List Br} {crs : List Cr} {n : Str} (hw : ∀ c ∈ crs, c.WF bs) (he : ∀ c ∈ crs, Dv c.e) : ∀ s ∈ sysOf crs n, s.Dd := by
  intro s hs
  obtain ⟨c, hc, h⟩ := List.mem_flatMap.mp hs
  split at h
  · exact sys_dd (hw c hc) (he c hc) s h
  · cases h
def spT (s : Sy) : D := .tup [.int (prt s.on), .int (prt s.off), .int s.low, .int s.high]
theorem forD_all {α : Type} {mk : α → D} {g : GF} {b : SF} {Pv : PD.Env → Prop} {p : α → Bool} : ∀ {xs : List α} {env : PD.Env}, Pv env → (∀ x ∈ xs, ∀ e, Pv e → ∃ e1, g (mk x) e = some e1 ∧ ((p x = true ∧ ∃ e2, b e1 = some (.nx e2) ∧ Pv e2) ∨ (p x = false ∧ b e1 = some (.rt (.bl false))))) → (xs.all p = true ∧ ∃ e', forD g b (xs.map mk) env = some (.nx e') ∧ Pv e') ∨ (xs.all p = false ∧ forD g b (xs.map mk) env = some (.rt (.bl false)))
  | [], env, h0, _ => .inl ⟨rfl, env, rfl, h0⟩
  | x :: xs, env, h0, hs => by
    obtain ⟨e1, h1, h2 | h2⟩ := hs x List.mem_cons_self env h0
    · obtain ⟨hp, e2, h3, p2⟩ := h2
      rcases forD_all (xs := xs) p2 (fun y hy => hs y (List.mem_cons_of_mem _ hy)) with ⟨a1, e', a2, a3⟩ | ⟨a1, a2⟩
      · refine .inl ⟨by rw [List.all_cons, hp, a1]; rfl, e', ?_, a3⟩
        rw [List.map_cons, forD, h1, bindS, h3, bindS]
        exact a2
      · refine .inr ⟨by rw [List.all_cons, hp, a1]; rfl, ?_⟩
        rw [List.map_cons, forD, h1, bindS, h3, bindS]
        exact a2
    · refine .inr ⟨by rw [List.all_cons, h2.1]; rfl, ?_⟩
      rw [List.map_cons, forD, h1, bindS, h2.2, bindS]
theorem seqS_rt {F G : SF} {e : PD.Env} {d : D} (h : F e = some (.rt d)) : seqS F G e = some (.rt d) := by unfold seqS; rw [h]; rfl
theorem F_lpart {q : Int × Int} (h : Dv q) : F_law_part [frD q] = some (.int (prt q)) := by
  rw [F_law_part, seal_eq]
  refine run_rt ?_
  show B_law_part [some (frD q)] = _
  unfold B_law_part prt frD
  have p0 := h.pos
  have p1 := h.le.le
  have r0 : 0 ≤ 27720 / q.2 := Int.ediv_nonneg (by o_shape) (by o_shape)
  have r1 : 27720 / q.2 ≤ 27720 := Int.ediv_le_self _ (by o_shape)
  have hd := fdivD_ii (i := 27720) (j := q.2) (by o_shape)
  generalize 27720 / q.2 = r at *
  k_search (ixD_t, fr_at0, fr_at1, hd)
def spOf (c : Cr) (o : Int) (w : Wh) : Sy := syOf (tm c.e c.v c.b.length o) w
theorem F_lown {bs : List Br} {c : Cr} {b : Br} (wf : c.WF bs) (he : Dv c.e) (hl : b.length = c.b.length) : F_law_own_spans [b.t5, c.t] = some (.lst (c.sys.map spT)) := by
  rw [F_law_own_spans, seal_eq]
  refine runF_rt ?_
  show B_law_own_spans [some b.t5, some c.t, none, none, none, none, none, none, none, none] = _
  unfold B_law_own_spans
  have v1 := wf.v1
  have v2 := wf.v2
  have w1 := wf.w1
  have w4 := wf.w4
  have hoff : F_law_offsets [.lst (c.ws.map Wh.t)] = some (.lst ((offZ c.ws).map .int)) := by
    cases e : c.ws with
    | nil => rw [e] at w1; simp at w1
    | cons w ws => exact F_loff (by rw [e] at w4; simp at w4; o_shape)
  have hp := F_lpart he
  have r0 : 0 ≤ 27720 / c.v := Int.ediv_nonneg (by o_shape) (by o_shape)
  have r1 : 27720 / c.v ≤ 27720 := Int.ediv_le_self _ (by o_shape)
  have hdv := fdivD_ii (i := 27720) (j := c.v) (by o_shape)
  have b1 : sealed ixD b.t5 (.int 1) = some (.int c.b.length) := by rw [Br.t5, ixD_t, t5_1, hl]
  have htp := fun o => tm_prt (len := c.b.length) (o := o) he v1 v2
  have es : ∀ o w, spT (spOf c o w) = .tup [.int (prt c.e + o * (27720 / c.v)), .int (prt c.e + o * (27720 / c.v) + c.b.length * (27720 / c.v)), .int w.low, .int w.high] := fun o w => by
    show D.tup [.int (prt (tm c.e c.v c.b.length o).1), .int (prt (tm c.e c.v c.b.length o).2), _, _] = _
    rw [(htp o).2.2.1, (htp o).2.2.2]
    rfl
  have inner : ∀ (os : List Int) (ws : List Wh) (acc : List Sy) (o7 o8 o9 : Option D), acc.length + ws.length < 10000 → ∃ q7 q8 q9, forD (tupG [7, 8]) ((seqS (setS 9 (mk [false, false, false, false, false, false, true, false, false, false] (oD (sealed addD) (callD F_law_part (aCons (vD 3) aNil)) (oD (sealed mulD) (vD 7) (oD (sealed fdivD) (cD (.int 27720)) (vD 4)))))) (appS 6 (mk [false, false, false, false, false, false, true, false, false, false] (tupD (aCons (vD 9) (aCons (oD (sealed addD) (vD 9) (oD (sealed mulD) (oD (sealed ixD) (vD 0) (cD (.int 1))) (oD (sealed fdivD) (cD (.int 27720)) (vD 4)))) (aCons (oD (sealed ixD) (vD 8) (cD (.int 1))) (aCons (oD (sealed ixD) (vD 8) (cD (.int 2))) aNil))))))))) (zipG (os.map D.int) (ws.map Wh.t)) [some b.t5, some c.t, some (.str c.b.name), some (frD c.e), some (.int c.v), some (.lst (c.ws.map Wh.t)), some (.lst (acc.map spT)), o7, o8, o9] = some (.nx [some b.t5, some c.t, some (.str c.b.name), some (frD c.e), some (.int c.v), some (.lst (c.ws.map Wh.t)), some (.lst ((acc ++ List.zipWith (spOf c) os ws).map spT)), q7, q8, q9]) := by
    intro os
    induction os with
    | nil => intro ws acc o7 o8 o9 _; exact ⟨o7, o8, o9, by rw [List.zipWith_nil_left, List.append_nil]; rfl⟩
    | cons o os ih =>
      intro ws acc o7 o8 o9 hlen
      cases ws with
      | nil => exact ⟨o7, o8, o9, by rw [List.zipWith_nil_right, List.append_nil]; rfl⟩
      | cons w ws =>
        rw [List.length_cons] at hlen
        obtain ⟨q7, q8, q9, h⟩ := ih ws (acc ++ [spOf c o w]) (some (.int o)) (some w.t) (some (.int (prt c.e + o * (27720 / c.v)))) (by rw [List.length_append, List.length_singleton]; o_shape)
        refine ⟨q7, q8, q9, ?_⟩
        rw [List.append_assoc] at h
        have hb : ((seqS (setS 9 (mk [false, false, false, false, false, false, true, false, false, false] (oD (sealed addD) (callD F_law_part (aCons (vD 3) aNil)) (oD (sealed mulD) (vD 7) (oD (sealed fdivD) (cD (.int 27720)) (vD 4)))))) (appS 6 (mk [false, false, false, false, false, false, true, false, false, false] (tupD (aCons (vD 9) (aCons (oD (sealed addD) (vD 9) (oD (sealed mulD) (oD (sealed ixD) (vD 0) (cD (.int 1))) (oD (sealed fdivD) (cD (.int 27720)) (vD 4)))) (aCons (oD (sealed ixD) (vD 8) (cD (.int 1))) (aCons (oD (sealed ixD) (vD 8) (cD (.int 2))) aNil))))))))) [some b.t5, some c.t, some (.str c.b.name), some (frD c.e), some (.int c.v), some (.lst (c.ws.map Wh.t)), some (.lst (acc.map spT)), some (.int o), some w.t, o9] = some (.nx [some b.t5, some c.t, some (.str c.b.name), some (frD c.e), some (.int c.v), some (.lst (c.ws.map Wh.t)), some (.lst ((acc ++ [spOf c o w]).map spT)), some (.int o), some w.t, some (.int (prt c.e + o * (27720 / c.v)))]) := by
          have q : acc.length < 1000000 := by o_shape
          have x1 : sealed ixD w.t (.int 1) = some (.int w.low) := by rw [Wh.t, ixD_t, wh1]
          have x2 : sealed ixD w.t (.int 2) = some (.int w.high) := by rw [Wh.t, ixD_t, wh2]
          rw [List.map_append, List.map_cons, List.map_nil, es]
          generalize 27720 / c.v = r at *
          ktf_call (hp, hdv)
          k_search (b1, hdv, x1, x2, q)
        show forD _ _ (D.tup [.int o, w.t] :: zipG (os.map D.int) (ws.map Wh.t)) _ = _
        rw [forD]
        simp only [tupG, setsG, List.set_cons_zero, List.set_cons_succ, bindS, hb]
        exact h
  obtain ⟨q7, q8, q9, h⟩ := inner (offZ c.ws) c.ws [] none none none (by simp; o_shape)
  rw [List.nil_append, List.map_nil] at h
  have ez : List.zipWith (spOf c) (offZ c.ws) c.ws = c.sys := by
    show _ = List.zipWith syOf ((offZ c.ws).map (tm c.e c.v c.b.length)) c.ws
    rw [List.zipWith_map_left]
    rfl
  rw [ez] at h
  rw [Cr.t] at h ⊢
  ktf_call (hoff)
  ktf_call (hoff)
  ktf_call (hoff, h)
  k_search (hoff)
theorem F_lspans {bs : List Br} {b : Br} {crs : List Cr} (nd : NmD bs) (hb : b ∈ bs) (hw : ∀ c ∈ crs, c.WF bs) (he : ∀ c ∈ crs, Dv c.e) (hc : crs.length ≤ 32) : F_law_spans [b.t5, .lst (crs.map Cr.t)] = some (.lst ((sysOf crs b.name).map spT)) := by
  rw [F_law_spans, seal_eq]
  first | refine run_rt ?_ | refine runF_rt ?_
  show B_law_spans [some b.t5, some (.lst (crs.map Cr.t)), none, none] = _
  unfold B_law_spans
  have b0 : sealed ixD b.t5 (.int 0) = some (.str b.name) := by rw [Br.t5, ixD_t, t5_0]
  have outer : ∀ (ds : List Cr) (acc : List Sy) (o3 : Option D), (∀ c ∈ ds, c.WF bs) → (∀ c ∈ ds, Dv c.e) → acc.length + 4 * ds.length < 9000 → ∃ q3, forD (nmG 3) ((ifS (bD (oD (sealed eqD) (oD (sealed ixD) (vD 3) (cD (.int 0))) (oD (sealed ixD) (vD 0) (cD (.int 0))))) (setS 2 (mk [false, false, false, false] (oD (sealed addD) (vD 2) (callD F_law_own_spans (aCons (vD 0) (aCons (vD 3) aNil)))))) nxS)) (ds.map Cr.t) [some b.t5, some (.lst (crs.map Cr.t)), some (.lst (acc.map spT)), o3] = some (.nx [some b.t5, some (.lst (crs.map Cr.t)), some (.lst ((acc ++ sysOf ds b.name).map spT)), q3]) := by
    intro ds
    induction ds with
    | nil => intro acc o3 _ _ _; exact ⟨o3, by rw [sysOf, List.flatMap_nil, List.append_nil]; rfl⟩
    | cons c ds ih =>
      intro acc o3 hd hde hlen
      rw [List.length_cons] at hlen
      have wf := hd c List.mem_cons_self
      have w4 := wf.w4
      have c0 : sealed ixD c.t (.int 0) = some (.str c.b.name) := by rw [Cr.t, ixD_t, cr0]
      have hle : (if c.b.name = b.name then c.sys else []).length ≤ 4 := by
        split
        · rw [sys_len]; exact w4
        · exact Nat.zero_le _
      have hb2 : ((ifS (bD (oD (sealed eqD) (oD (sealed ixD) (vD 3) (cD (.int 0))) (oD (sealed ixD) (vD 0) (cD (.int 0))))) (setS 2 (mk [false, false, false, false] (oD (sealed addD) (vD 2) (callD F_law_own_spans (aCons (vD 0) (aCons (vD 3) aNil)))))) nxS)) [some b.t5, some (.lst (crs.map Cr.t)), some (.lst (acc.map spT)), some c.t] = some (.nx [some b.t5, some (.lst (crs.map Cr.t)), some (.lst ((acc ++ if c.b.name = b.name then c.sys else []).map spT)), some c.t]) := by
        by_cases hn : c.b.name = b.name
        · rw [if_pos hn] at hle ⊢
          have ho := F_lown (b := b) wf (hde c List.mem_cons_self) (by rw [← wf.same nd hb hn])
          have ad := add_l (f := spT) (xs := acc) (ys := c.sys) (by o_shape)
          k_search (c0, b0, decide_eq_true hn, ho, ad)
        · rw [if_neg hn, List.append_nil]
          k_search (c0, b0, decide_eq_false hn, Bool.false_eq_true)
      obtain ⟨q3, h⟩ := ih (acc ++ if c.b.name = b.name then c.sys else []) (some c.t) (fun d h => hd d (List.mem_cons_of_mem _ h)) (fun d h => hde d (List.mem_cons_of_mem _ h)) (by rw [List.length_append]; o_shape)
      refine ⟨q3, ?_⟩
      rw [sysOf_cons, ← List.append_assoc, List.map_cons, forD]
      simp only [nmG, List.set_cons_zero, List.set_cons_succ, bindS, hb2]
      exact h
  obtain ⟨q3, h⟩ := outer crs [] none hw he (by simp; o_shape)
  rw [List.nil_append, List.map_nil] at h
  ktf_call (hc)
  ktf_call (itemsD, h)
  k_search (hc)
theorem F_lhighs {ss : List Sy} {m : Int × Int} (hm : Dv m) (hs : ∀ s ∈ ss, s.Dd) (hl : ss.length < 10000) : F_law_highs [.lst (ss.map spT), .int (prt m)] = some (.int (highAt m ss)) := by
  rw [F_law_highs, seal_eq]
  refine run_rt ?_
  show B_law_highs [some (.lst (ss.map spT)), some (.int (prt m))] = _
  unfold B_law_highs
  have go : ∀ ts : List Sy, (∀ s ∈ ts, s.Dd) → compTD 4 (bD (chD (sealed leD) (sealed ltD) (vD 0) (vD 4) (vD 1))) (vD 3) [some (.int (prt m))] (ts.map spT) = some (((ts.filter (Sy.at m)).map Sy.high).map D.int) := by
    intro ts
    induction ts with
    | nil => intro _; rfl
    | cons s ts ih =>
      intro h
      have d := h s List.mem_cons_self
      have ih := ih fun x hx => h x (List.mem_cons_of_mem _ hx)
      rw [List.map_cons]
      show compTD 4 _ _ _ (.tup [.int (prt s.on), .int (prt s.off), .int s.low, .int s.high] :: ts.map spT) = _
      rw [compTD, if_pos (show [D.int (prt s.on), .int (prt s.off), .int s.low, .int s.high].length = 4 from rfl), ih]
      have ec : bD (chD (sealed leD) (sealed ltD) (vD 0) (vD 4) (vD 1)) ([D.int (prt s.on), .int (prt s.off), .int s.low, .int s.high].map some ++ [some (.int (prt m))]) = some (s.at m) := by
        show bD _ [some (.int (prt s.on)), some (.int (prt s.off)), some (.int s.low), some (.int s.high), some (.int (prt m))] = _
        unfold Sy.at
        rw [prt_lt hm d.on, prt_lt hm d.off]
        by_cases c1 : prt s.on ≤ prt m
        · have c2 : ¬ prt m < prt s.on := by o_shape
          rw [decide_eq_false c2]
          k_search (chD, decide_eq_true c1, Bool.not_false, Bool.true_and)
        · have c2 : prt m < prt s.on := by o_shape
          rw [decide_eq_true c2]
          k_search (chD, decide_eq_false c1, Bool.false_eq_true, Bool.not_true, Bool.false_and)
      rw [ec, bindS]
      cases e : s.at m with
      | true => rw [ite_tt, List.filter_cons_of_pos e]; rfl
      | false => rw [ite_ff, List.filter_cons_of_neg (by simp [e])]
  have hc : compT 4 (itD (vD 0)) (bD (chD (sealed leD) (sealed ltD) (vD 0) (vD 4) (vD 1))) (vD 3) [1] [some (.lst (ss.map spT)), some (.int (prt m))] = some (.lst (((ss.filter (Sy.at m)).map Sy.high).map D.int)) := by
    unfold compT
    simp only [itD, vD_z, bindS, itemsD]
    rw [if_pos (by rw [List.length_map]; o_shape)]
    show Option.map _ (compTD _ _ _ [some (.int (prt m))] _) = _
    rw [go ss hs]
    rfl
  unfold highAt
  k_search (hc, sumD_l)
def shOf (sh : List (Str × Int × Int)) (n : Str) : List (Int × Int) := (sh.filter fun r => decide (r.1 = n)).map (·.2)
def prD (p : Int × Int) : D := .tup [.int p.1, .int p.2]
theorem F_lshutof {sh : List (Str × Int × Int)} {n : Str} (hl : sh.length < 1000) : F_law_shut_of [.lst (sh.map shT), .str n] = some (.lst ((shOf sh n).map prD)) := by
  rw [F_law_shut_of, seal_eq]
  first | refine runF_rt ?_ | refine run_rt ?_
  show B_law_shut_of [some (.lst (sh.map shT)), some (.str n)] = _
  unfold B_law_shut_of
  have go : ∀ ts : List (Str × Int × Int), compTD 3 (bD (oD (sealed eqD) (vD 0) (vD 3))) (tupD (aCons (vD 1) (aCons (vD 2) aNil))) [some (.str n)] (ts.map shT) = some ((shOf ts n).map prD) := by
    intro ts
    induction ts with
    | nil => rfl
    | cons s ts ih =>
      rw [List.map_cons]
      show compTD 3 _ _ _ (.tup [.str s.1, .int s.2.1, .int s.2.2] :: ts.map shT) = _
      rw [compTD, if_pos (show [D.str s.1, .int s.2.1, .int s.2.2].length = 3 from rfl), ih]
      have ec : bD (oD (sealed eqD) (vD 0) (vD 3)) ([D.str s.1, .int s.2.1, .int s.2.2].map some ++ [some (.str n)]) = some (decide (s.1 = n)) := by
        show bD _ [some (.str s.1), some (.int s.2.1), some (.int s.2.2), some (.str n)] = _
        k_search (hl)
      rw [ec, bindS]
      unfold shOf
      by_cases e : s.1 = n
      · rw [decide_eq_true e, ite_tt, List.filter_cons_of_pos (by simpa using e)]
        rfl
      · rw [decide_eq_false e, ite_ff, List.filter_cons_of_neg (by simpa using e)]
  have hc : compT 3 (itD (vD 0)) (bD (oD (sealed eqD) (vD 0) (vD 3))) (tupD (aCons (vD 1) (aCons (vD 2) aNil))) [1] [some (.lst (sh.map shT)), some (.str n)] = some (.lst ((shOf sh n).map prD)) := by
    unfold compT
    simp only [itD, vD_z, bindS, itemsD]
    rw [if_pos (by rw [List.length_map]; o_shape)]
    show Option.map _ (compTD _ _ _ [some (.str n)] _) = _
    rw [go sh]
    rfl
  k_search (hc)
theorem F_shof {bs : List Br} {sh : List (Str × Int × Int)} {n : Str} (hl : sh.length < 1000) : F_shuts_of [(rod5 bs sh).o, .str n] = some (.lst ((shOf sh n).map prD)) := by
  rw [F_shuts_of, seal_eq]
  first | refine runF_rt ?_ | refine run_rt ?_
  show B_shuts_of [some (rod5 bs sh).o, some (.str n)] = _
  unfold B_shuts_of
  have hg : sealed (getF .shuts) (rod5 bs sh).o = some (.lst (sh.map shT)) := g_shuts
  have hc : compF (itD (uD (sealed (getF .shuts)) (vD 0))) (bD (oD (sealed eqD) (oD (sealed ixD) (vD 0) (cD (.int 0))) (vD 1))) (tupD (aCons (oD (sealed ixD) (vD 0) (cD (.int 1))) (aCons (oD (sealed ixD) (vD 0) (cD (.int 2))) aNil))) [1] [some (rod5 bs sh).o, some (.str n)] = some (.lst ((shOf sh n).map prD)) := by
    unfold compF
    simp only [itD, uD, vD_z, bindS, hg, itemsD]
    rw [if_pos (by rw [List.length_map]; o_shape)]
    show Option.map _ (compD _ _ [some (.str n)] _) = _
    rw [comp_sel (p := fun r => decide (r.1 = n)) (f := fun r => prD r.2)]
    · unfold shOf
      rw [List.map_map]
      rfl
    · intro r _
      have x0 : sealed ixD (shT r) (.int 0) = some (.str r.1) := by rw [shT, ixD_t]; exact ix0
      have x1 : sealed ixD (shT r) (.int 1) = some (.int r.2.1) := by rw [shT, ixD_t]; exact atI_num (n := 1) rfl
      have x2 : sealed ixD (shT r) (.int 2) = some (.int r.2.2) := by rw [shT, ixD_t]; exact atI_num (n := 2) rfl
      refine ⟨?_, fun _ => ?_⟩
      · skip
        k_search (x0)
      · skip
        k_search (x1, x2, prD)
  k_search (hc)
def meet (p : Int × Int) (a b : Int) : Bool := decide (a < 27720 * p.2) && decide (27720 * p.1 < b)
theorem F_lallow {b : Br} {sh : List (Str × Int × Int)} {ss own : List Sy} (hl : sh.length < 1000) (hs : ∀ s ∈ ss ++ own, s.Dd) (h1 : (ss ++ own).length < 1000) : F_law_allowed [b.t5, .lst (sh.map shT), .lst (ss.map spT), .lst (own.map spT)] = some (.bl (((shOf sh b.name).all fun p => own.all fun s => !meet p (prt s.on) (prt s.off)) && (ss ++ own).all fun s => decide (highAt s.on (ss ++ own) ≤ b.bears))) := by
  rw [F_law_allowed, seal_eq]
  refine run_rt ?_
  show B_law_allowed [some b.t5, some (.lst (sh.map shT)), some (.lst (ss.map spT)), some (.lst (own.map spT)), none, none, none, none, none, none, none, none] = _
  unfold B_law_allowed
  have b0 : sealed ixD b.t5 (.int 0) = some (.str b.name) := by rw [Br.t5, ixD_t, t5_0]
  have b2 : sealed ixD b.t5 (.int 2) = some (.int b.bears) := by rw [Br.t5, ixD_t, t5_2]
  have hsf := F_lshutof (n := b.name) hl
  have first := forD_all (mk := prD) (g := tupG [4, 5]) (b := (forS (mk [false, false, false, false, false, false, false, false, false, false, false, false] (itD (vD 3))) (tupG [6, 7, 8, 9]) (ifS (andB (bD (oD (sealed ltD) (vD 6) (oD (sealed mulD) (cD (.int 27720)) (vD 5)))) (bD (oD (sealed ltD) (oD (sealed mulD) (cD (.int 27720)) (vD 4)) (vD 7)))) (retS (cD (.bl false))) nxS))) (xs := shOf sh b.name) (env := [some b.t5, some (.lst (sh.map shT)), some (.lst (ss.map spT)), some (.lst (own.map spT)), none, none, none, none, none, none, none, none]) (p := fun p => own.all fun s => !meet p (prt s.on) (prt s.off))
    (Pv := fun e => ∃ o4 o5 o6 o7 o8 o9, e = [some b.t5, some (.lst (sh.map shT)), some (.lst (ss.map spT)), some (.lst (own.map spT)), o4, o5, o6, o7, o8, o9, none, none]) ⟨_, _, _, _, _, _, rfl⟩ (by
      rintro p _ e ⟨o4, o5, o6, o7, o8, o9, rfl⟩
      refine ⟨_, rfl, ?_⟩
      have second := forD_all (mk := spT) (g := tupG [6, 7, 8, 9]) (b := (ifS (andB (bD (oD (sealed ltD) (vD 6) (oD (sealed mulD) (cD (.int 27720)) (vD 5)))) (bD (oD (sealed ltD) (oD (sealed mulD) (cD (.int 27720)) (vD 4)) (vD 7)))) (retS (cD (.bl false))) nxS)) (xs := own) (env := [some b.t5, some (.lst (sh.map shT)), some (.lst (ss.map spT)), some (.lst (own.map spT)), some (.int p.1), some (.int p.2), o6, o7, o8, o9, none, none]) (p := fun s => !meet p (prt s.on) (prt s.off))
        (Pv := fun e => ∃ o6 o7 o8 o9, e = [some b.t5, some (.lst (sh.map shT)), some (.lst (ss.map spT)), some (.lst (own.map spT)), some (.int p.1), some (.int p.2), o6, o7, o8, o9, none, none]) ⟨_, _, _, _, rfl⟩ (by
          rintro s _ e ⟨o6, o7, o8, o9, rfl⟩
          refine ⟨_, rfl, ?_⟩
          unfold meet
          by_cases k1 : prt s.on < 27720 * p.2
          · by_cases k2 : 27720 * p.1 < prt s.off
            · refine .inr ⟨by rw [decide_eq_true k1, decide_eq_true k2]; rfl, ?_⟩
              k_search (decide_eq_true k1, decide_eq_true k2)
            · refine .inl ⟨by rw [decide_eq_true k1, decide_eq_false k2]; rfl, [some b.t5, some (.lst (sh.map shT)), some (.lst (ss.map spT)), some (.lst (own.map spT)), some (.int p.1), some (.int p.2), some (.int (prt s.on)), some (.int (prt s.off)), some (.int s.low), some (.int s.high), none, none], ?_, _, _, _, _, rfl⟩
              k_search (decide_eq_true k1, decide_eq_false k2, Bool.false_eq_true)
          · refine .inl ⟨by rw [decide_eq_false k1]; rfl, [some b.t5, some (.lst (sh.map shT)), some (.lst (ss.map spT)), some (.lst (own.map spT)), some (.int p.1), some (.int p.2), some (.int (prt s.on)), some (.int (prt s.off)), some (.int s.low), some (.int s.high), none, none], ?_, _, _, _, _, rfl⟩
            k_search (decide_eq_false k1, Bool.false_eq_true)
          )
      rcases second with ⟨a1, e', a2, q6, q7, q8, q9, rfl⟩ | ⟨a1, a2⟩
      · refine .inl ⟨a1, [some b.t5, some (.lst (sh.map shT)), some (.lst (ss.map spT)), some (.lst (own.map spT)), some (.int p.1), some (.int p.2), q6, q7, q8, q9, none, none], ?_, _, _, _, _, _, _, rfl⟩
        k_search (itemsD, a2)
      · refine .inr ⟨a1, ?_⟩
        k_search (itemsD, a2)
      )
  rcases first with ⟨a1, e', a2, o4, o5, o6, o7, o8, o9, rfl⟩ | ⟨a1, a2⟩
  · have ad := add_l (f := spT) (xs := ss) (ys := own) (by rw [← List.length_append]; o_shape)
    have third := forD_all (mk := spT) (g := nmG 11) (b := (ifS (bD (oD (sealed gtD) (callD F_law_highs (aCons (vD 10) (aCons (oD (sealed ixD) (vD 11) (cD (.int 0))) aNil))) (oD (sealed ixD) (vD 0) (cD (.int 2))))) (retS (cD (.bl false))) nxS)) (xs := ss ++ own) (env := [some b.t5, some (.lst (sh.map shT)), some (.lst (ss.map spT)), some (.lst (own.map spT)), o4, o5, o6, o7, o8, o9, some (.lst ((ss ++ own).map spT)), none]) (p := fun s => decide (highAt s.on (ss ++ own) ≤ b.bears))
      (Pv := fun e => ∃ o11, e = [some b.t5, some (.lst (sh.map shT)), some (.lst (ss.map spT)), some (.lst (own.map spT)), o4, o5, o6, o7, o8, o9, some (.lst ((ss ++ own).map spT)), o11]) ⟨_, rfl⟩ (by
        rintro s hsm e ⟨o11, rfl⟩
        refine ⟨_, rfl, ?_⟩
        have hh := F_lhighs (hs s hsm).on hs (by o_shape)
        have s0 : sealed ixD (spT s) (.int 0) = some (.int (prt s.on)) := by rw [spT, ixD_t]; exact ix0
        generalize highAt s.on (ss ++ own) = hi at *
        by_cases k1 : b.bears < hi
        · refine .inr ⟨decide_eq_false (by o_shape), ?_⟩
          k_search (s0, hh, b2, decide_eq_true k1)
        · refine .inl ⟨decide_eq_true (by o_shape), [some b.t5, some (.lst (sh.map shT)), some (.lst (ss.map spT)), some (.lst (own.map spT)), o4, o5, o6, o7, o8, o9, some (.lst ((ss ++ own).map spT)), some (spT s)], ?_, _, rfl⟩
          k_search (s0, hh, b2, decide_eq_false k1, Bool.false_eq_true)
        )
    rw [a1, Bool.true_and]
    rcases third with ⟨d1, e', d2, o11, rfl⟩ | ⟨d1, d2⟩
    · rw [d1]
      ktf_call (b0, hsf, itemsD, a2)
      ktf_call (ad)
      ktf_call (itemsD, d2)
      k_search (hl)
    · rw [d1]
      ktf_call (b0, hsf, itemsD, a2)
      ktf_call (ad)
      refine seqS_rt ?_
      k_search (itemsD, d2)
  · rw [a1, Bool.false_and]
    refine seqS_rt ?_
    k_search (b0, hsf, itemsD, a2)
theorem F_whl {i : Int} : F_whole [.int i] = some (frD (i, 1)) := by
  rw [F_whole, seal_eq]
  refine run_rt ?_
  show B_whole [some (.int i)] = _
  unfold B_whole frD
  k_search (bindS)
theorem F_mshut {t : (Int × Int) × (Int × Int)} {p : Int × Int} (h1 : Qok 100000000 t.1) (h2 : Qok 100000000 t.2) : F_meets_shut [tmD t, prD p] = some (.bl (ltQ t.1 (p.2, 1) && ltQ (p.1, 1) t.2)) := by
  rw [F_meets_shut, seal_eq]
  refine run_rt ?_
  show B_meets_shut [some (tmD t), some (prD p)] = _
  unfold B_meets_shut
  have t0 : sealed ixD (tmD t) (.int 0) = some (frD t.1) := by rw [tmD, ixD_t, tm0]
  have t1 : sealed ixD (tmD t) (.int 1) = some (frD t.2) := by rw [tmD, ixD_t, tm1]
  have p0 : sealed ixD (prD p) (.int 0) = some (.int p.1) := by rw [prD, ixD_t]; exact ix0
  have p1 : sealed ixD (prD p) (.int 1) = some (.int p.2) := by rw [prD, ixD_t]; exact atI_num (n := 1) rfl
  have o1 : Qok 1 (p.2, (1 : Int)) := ⟨by show (0 : Int) < 1; o_shape, by show (1 : Int) ≤ 1; o_shape⟩
  have o2 : Qok 1 (p.1, (1 : Int)) := ⟨by show (0 : Int) < 1; o_shape, by show (1 : Int) ≤ 1; o_shape⟩
  have l1 := F_less_ok h1 o1 (by o_shape) (by o_shape)
  have l2 := F_less_ok o2 h2 (by o_shape) (by o_shape)
  cases e : ltQ t.1 (p.2, 1) with
  | true =>
    rw [e] at l1
    k_search (t0, t1, p0, p1, F_whl, l1, l2, Bool.true_and)
  | false =>
    rw [e] at l1
    k_search (t0, t1, p0, p1, F_whl, l1, l2, Bool.false_and, Bool.false_eq_true)
theorem low_high {m : Int × Int} : ∀ {ss : List Sy}, (∀ s ∈ ss, s.low ≤ s.high) → lowAt m ss ≤ highAt m ss
  | [], _ => Int.le_refl _
  | s :: ss, h => by
    have ih := low_high (m := m) (ss := ss) fun t ht => h t (List.mem_cons_of_mem _ ht)
    have h0 := h s List.mem_cons_self
    rw [sy_cons.1, sy_cons.2]
    split <;> omega
theorem bestQ_none {f : Int × Int → Int} {ms : Qs} (h : bestQ f ms none = none) : ms = [] := by
  cases ms with
  | nil => rfl
  | cons m ms =>
    obtain ⟨r, e⟩ := bestQ_is (g := f) (ms := ms) (m := m)
    have h' : bestQ f ms (some m) = none := h
    rw [e] at h'
    cases h'
theorem ver_word {ss : List Sy} {k : Int} (lh : ∀ s ∈ ss, s.low ≤ s.high) : ∃ wd x, verD ss k = .tup [.str wd, x] ∧ decide (wd = Str.ofString "safe") = ss.all fun s => decide (highAt s.on ss ≤ k) := by
  have hn : ∀ {m}, m ∈ momQ ss → k < highAt m ss → (ss.all fun s => decide (highAt s.on ss ≤ k)) = false := fun {m} hm h => by
    obtain ⟨s, hs, rfl⟩ := momQ_mem.mp hm
    rw [List.all_eq_false]
    exact ⟨s, hs, by simp; o_shape⟩
  cases eh : bestQ (fun m => highAt m ss) (momQ ss) none with
  | none =>
    have e := bestQ_none eh
    have e2 : ss = [] := by
      cases ss with
      | nil => rfl
      | cons s ss =>
        have := momQ_mem (ss := s :: ss).mpr ⟨s, List.mem_cons_self, rfl⟩
        rw [e] at this
        cases this
    refine ⟨Str.ofString "safe", .non, ?_, ?_⟩
    · unfold verD
      rw [eh]
    · rw [e2]
      exact decide_eq_true rfl
  | some h =>
    obtain ⟨l, el⟩ := bestQ_two (g := fun m => lowAt m ss) eh
    have hm : h ∈ momQ ss := by
      rcases bestQ_mem eh with x | x
      · exact x
      · cases x
    have lm : l ∈ momQ ss := by
      rcases bestQ_mem el with x | x
      · exact x
      · cases x
    rw [verD_some eh el]
    by_cases k1 : k < lowAt l ss
    · rw [if_pos k1, hn lm (Int.lt_of_lt_of_le k1 (low_high lh))]
      exact ⟨_, _, rfl, by decide +kernel⟩
    · rw [if_neg k1]
      by_cases k2 : k < highAt h ss
      · rw [if_pos k2, hn hm k2]
        exact ⟨_, _, rfl, by decide +kernel⟩
      · rw [if_neg k2]
        refine ⟨_, _, rfl, ?_⟩
        rw [decide_eq_true rfl]
        symm
        rw [List.all_eq_true]
        intro s hs
        have := (bestQ_max eh).1 s.on (momQ_mem.mpr ⟨s, hs, rfl⟩)
        exact decide_eq_true (by o_shape)
theorem anyD_l {xs : List Bool} : sealed anyD [.lst (xs.map D.bl)] = some (.bl (xs.any id)) := by
  rw [seal_eq]
  show (blS _).map _ = _
  rw [blS_map]
  rfl
def mayB (bs : List Br) (sh : List (Str × Int × Int)) (crs : List Cr) (c : Cr) : Bool := ((sysOf (crs ++ [c]) c.b.name).all fun s => decide (highAt s.on (sysOf (crs ++ [c]) c.b.name) ≤ c.b.bears)) && c.tms.all fun t => !((shOf sh c.b.name).map fun p => ltQ t.1 (p.2, 1) && ltQ (p.1, 1) t.2).any id
theorem sysOf_lh {bs : List Br} {crs : List Cr} {n : Str} (hw : ∀ c ∈ crs, ∀ w ∈ c.ws, w.low ≤ w.high) : ∀ s ∈ sysOf crs n, s.low ≤ s.high := by
  intro s hs
  obtain ⟨c, hc, h⟩ := List.mem_flatMap.mp hs
  split at h
  · obtain ⟨t, ht, w, hwm, rfl⟩ := mem_zipW h
    exact hw c hc w hwm
  · cases h
theorem F_may {bs : List Br} {sh : List (Str × Int × Int)} {crs : List Cr} {c : Cr} (hl : bs.length ≤ 6) (nd : NmD bs) (hb : c.b ∈ bs) (hw : ∀ x ∈ crs, x.WF bs) (wf : c.WF bs) (hc : crs.length ≤ 30) (hsh : sh.length < 1000) (lh : ∀ x ∈ crs ++ [c], ∀ w ∈ x.ws, w.low ≤ w.high) : F_may_enter [(rod5 bs sh).o, .lst (crs.map Cr.t), c.t] = some (.bl (mayB bs sh crs c)) := by
  rw [F_may_enter, seal_eq]
  refine run_rt ?_
  show B_may_enter [some (rod5 bs sh).o, some (.lst (crs.map Cr.t)), some c.t, none, none] = _
  unfold B_may_enter mayB
  have c0 : sealed ixD c.t (.int 0) = some (.str c.b.name) := by rw [Cr.t, ixD_t, cr0]
  have hw2 : ∀ x ∈ crs ++ [c], x.WF bs := fun x hx => by
    rcases List.mem_append.mp hx with hx | hx
    · exact hw x hx
    · cases List.mem_singleton.mp hx; exact wf
  have hv := F_verd (sh := sh) hl nd hb hw2 (by rw [List.length_append, List.length_singleton]; o_shape)
  obtain ⟨wd, x, ev, es⟩ := ver_word (ss := sysOf (crs ++ [c]) c.b.name) (k := c.b.bears) (sysOf_lh (bs := bs) lh)
  rw [ev] at hv
  rw [← es]
  have x0 : sealed ixD (.tup [.str wd, x]) (.int 0) = some (.str wd) := by rw [ixD_t]; exact ix0
  have ad := add_l (f := Cr.t) (xs := crs) (ys := [c]) (by rw [List.length_singleton]; o_shape)
  rw [List.map_cons, List.map_nil] at ad
  have neS : ∀ {i j : Str}, sealed neD (.str i) (.str j) = some (.bl (!decide (i = j))) := by intro i j; rw [seal_eq]; exact rfl
  ktf_call (c0)
  by_cases hs : wd = Str.ofString "safe"
  · rw [decide_eq_true hs, Bool.true_and]
    ktf_call (ad, hv, x0, neS, decide_eq_true hs, Bool.not_true, Bool.false_eq_true)
    have ht := F_times (sh := sh) hl wf
    have hok := tm_ok wf
    have loop := forD_all (mk := tmD) (g := nmG 4) (b := (ifS (bD (callD (sealed anyD) (aCons (compF (itD (callD F_shuts_of (aCons (vD 0) (aCons (vD 3) aNil)))) yesB (callD F_meets_shut (aCons (vD 1) (aCons (vD 0) aNil))) [4]) aNil))) (retS (cD (.bl false))) nxS)) (xs := c.tms) (env := [some (rod5 bs sh).o, some (.lst (crs.map Cr.t)), some c.t, some (.str c.b.name), none]) (p := fun t => !((shOf sh c.b.name).map fun p => ltQ t.1 (p.2, 1) && ltQ (p.1, 1) t.2).any id)
      (Pv := fun e => ∃ o, e = [some (rod5 bs sh).o, some (.lst (crs.map Cr.t)), some c.t, some (.str c.b.name), o]) ⟨_, rfl⟩ (by
        rintro t htm e ⟨o, rfl⟩
        refine ⟨_, rfl, ?_⟩
        have hso := F_shof (bs := bs) (n := c.b.name) hsh
        have hlen : (shOf sh c.b.name).length ≤ sh.length := by
          unfold shOf
          rw [List.length_map]
          exact List.length_filter_le _ _
        have hcm : compF (itD (callD F_shuts_of (aCons (vD 0) (aCons (vD 3) aNil)))) yesB (callD F_meets_shut (aCons (vD 1) (aCons (vD 0) aNil))) [4] [some (rod5 bs sh).o, some (.lst (crs.map Cr.t)), some c.t, some (.str c.b.name), some (tmD t)] = some (.lst (((shOf sh c.b.name).map fun p => ltQ t.1 (p.2, 1) && ltQ (p.1, 1) t.2).map D.bl)) := by
          unfold compF
          simp only [itD, callD, aCons, aNil, vD_z, vD_s, bindS, hso, itemsD]
          rw [if_pos (by rw [List.length_map]; o_shape)]
          show Option.map _ (compD _ _ [some (tmD t)] _) = _
          rw [List.map_map, comp_map (f := D.bl ∘ fun p => ltQ t.1 (p.2, 1) && ltQ (p.1, 1) t.2)]
          · rfl
          · intro p _
            have ok := hok t htm
            have hms := F_mshut (t := t) (p := p) ⟨ok.1.pos, Int.le_trans ok.1.le (by o_shape)⟩ ⟨ok.2.pos, Int.le_trans ok.2.le (by o_shape)⟩
            refine ⟨rfl, ?_⟩
            k_search (hms, Function.comp)
        cases e : ((shOf sh c.b.name).map fun p => ltQ t.1 (p.2, 1) && ltQ (p.1, 1) t.2).any id with
        | true =>
          have an := anyD_l (xs := (shOf sh c.b.name).map fun p => ltQ t.1 (p.2, 1) && ltQ (p.1, 1) t.2)
          rw [e] at an
          refine .inr ⟨rfl, ?_⟩
          k_search (hcm, an)
        | false =>
          have an := anyD_l (xs := (shOf sh c.b.name).map fun p => ltQ t.1 (p.2, 1) && ltQ (p.1, 1) t.2)
          rw [e] at an
          refine .inl ⟨rfl, [some (rod5 bs sh).o, some (.lst (crs.map Cr.t)), some c.t, some (.str c.b.name), some (tmD t)], ?_, _, rfl⟩
          k_search (hcm, an, Bool.false_eq_true)
        )
    rcases loop with ⟨d1, e', d2, o, rfl⟩ | ⟨d1, d2⟩
    · rw [d1]
      ktf_call (ht, itemsD, d2)
      k_search (hl)
    · rw [d1]
      refine seqS_rt ?_
      k_search (ht, itemsD, d2)
  · rw [decide_eq_false hs, Bool.false_and]
    refine seqS_rt ?_
    k_search (ad, hv, x0, neS, decide_eq_false hs, Bool.not_false)
theorem zipW_tm : ∀ {ts : List ((Int × Int) × (Int × Int))} {ws : List Wh}, ts.length = ws.length → (List.zipWith syOf ts ws).map (fun s => (s.on, s.off)) = ts
  | [], _, _ => rfl
  | t :: ts, [], h => by simp at h
  | t :: ts, w :: ws, h => by
    rw [List.zipWith_cons_cons, List.map_cons, zipW_tm (by simpa using h)]
    rfl
theorem may_all {bs : List Br} {sh : List (Str × Int × Int)} {crs : List Cr} {c : Cr} (wf : c.WF bs) (he : Dv c.e) : mayB bs sh crs c = (((shOf sh c.b.name).all fun p => c.sys.all fun s => !meet p (prt s.on) (prt s.off)) && (sysOf crs c.b.name ++ c.sys).all fun s => decide (highAt s.on (sysOf crs c.b.name ++ c.sys) ≤ c.b.bears)) := by
  have es : sysOf (crs ++ [c]) c.b.name = sysOf crs c.b.name ++ c.sys := by
    show (crs ++ [c]).flatMap _ = _
    rw [List.flatMap_append]
    show sysOf crs c.b.name ++ ([c].flatMap _) = _
    rw [List.flatMap_cons, List.flatMap_nil, List.append_nil, if_pos rfl]
  unfold mayB
  rw [es, Bool.and_comm]
  congr 1
  have et : c.tms = c.sys.map fun s => (s.on, s.off) := (zipW_tm tms_len).symm
  rw [et, List.all_map]
  have dd := sys_dd wf he
  have e1 : ∀ i : Int, Dv (i, (1 : Int)) := fun i => ⟨by show (0 : Int) < 1; o_shape, by show (1 : Int) ∣ 27720; decide⟩
  have e2 : ∀ i : Int, prt (i, (1 : Int)) = 27720 * i := fun i => by show i * (27720 / 1) = _; o_shape
  rw [Bool.eq_iff_iff, List.all_eq_true, List.all_eq_true]
  constructor
  · intro h p hp
    rw [List.all_eq_true]
    intro s hs
    have h1 := h s hs
    have h2 : (((shOf sh c.b.name).map fun p => ltQ s.on (p.2, 1) && ltQ (p.1, 1) s.off).any id) = false := by simpa using h1
    rw [List.any_eq_false] at h2
    have h3 := h2 _ (List.mem_map.mpr ⟨p, hp, rfl⟩)
    rw [prt_lt (dd s hs).on (e1 _), prt_lt (e1 _) (dd s hs).off, e2, e2] at h3
    unfold meet
    have h4 : (decide (prt s.on < 27720 * p.2) && decide (27720 * p.1 < prt s.off)) = false := Bool.eq_false_iff.mpr h3
    rw [h4]
    rfl
  · intro h s hs
    show (!_) = true
    rw [Bool.not_eq_true', List.any_eq_false]
    intro x hx
    obtain ⟨p, hp, rfl⟩ := List.mem_map.mp hx
    have h1 := List.all_eq_true.mp (h p hp) s hs
    rw [prt_lt (dd s hs).on (e1 _), prt_lt (e1 _) (dd s hs).off, e2, e2]
    unfold meet at h1
    rw [Bool.not_eq_true'] at h1
    exact Bool.eq_false_iff.mp h1
theorem F_lshuts {c : Int} {bs : List Br} (hl : 1 ≤ bs.length) (h6 : bs.length ≤ 6) : ∃ sh : List (Str × Int × Int), sh.length ≤ 3 ∧ F_law_shuts [.int c, .lst (bs.map Br.t5)] = some (.lst (sh.map shT)) := by
  have h1 := F_mx (c := c) (f := 31337) (by o_shape) (by o_shape)
  have nn := mix2_nn c 31337
  generalize mix2 c 31337 = one at h1 nn
  obtain ⟨n, hn⟩ : ∃ n : Nat, one % 4 = (n : Int) := ⟨(one % 4).toNat, by o_shape⟩
  obtain ⟨e', hloop, sh, o4, o5, o6, hln, rfl⟩ := forD_end (g := nmG 4) (b := (seqS (setS 5 (mk [false, false, false, true, false, false, false] (callD F_law_mix (aCons (oD (sealed addD) (vD 0) (vD 4)) (aCons (cD (.int 22381)) aNil))))) (seqS (setS 6 (mk [false, false, false, true, false, false, false] (oD (sealed modD) (vD 5) (cD (.int 120))))) (appS 3 (mk [false, false, false, true, false, false, false] (tupD (aCons (oD (sealed ixD) (oD (sealed ixD) (vD 1) (oD (sealed modD) (oD (sealed fdivC) (vD 5) (cD (.int 120))) (callD (sealed lenD) (aCons (vD 1) aNil)))) (cD (.int 0))) (aCons (vD 6) (aCons (oD (sealed addD) (oD (sealed addD) (vD 6) (cD (.int 1))) (oD (sealed modD) (oD (sealed fdivC) (vD 5) (cD (.int 1000))) (cD (.int 60)))) aNil))))))))) (ds := (List.range n).map fun (i : Nat) => D.int (0 + (i : Int))) (env := [some (.int c), some (.lst (bs.map Br.t5)), some (.int one), some (.lst []), none, none, none])
    (fun i e => ∃ sh : List (Str × Int × Int), ∃ o4 o5 o6, sh.length = i ∧ e = [some (.int c), some (.lst (bs.map Br.t5)), some (.int one), some (.lst (sh.map shT)), o4, o5, o6]) ⟨[], none, none, none, rfl, rfl⟩ (by
      rintro i d e hd ⟨sh, o4, o5, o6, hln, rfl⟩
      rw [List.getElem?_map] at hd
      obtain ⟨k, hk, rfl⟩ := Option.map_eq_some_iff.mp hd
      obtain ⟨hk8, hk⟩ := List.getElem?_eq_some_iff.mp hk
      rw [List.getElem_range] at hk
      subst hk
      have hin : i < n := by simpa using hk8
      have h2 := F_mx (c := c + (i : Int)) (f := 22381) (by o_shape) (by o_shape)
      have nn2 := mix2_nn (c + (i : Int)) 22381
      generalize mix2 (c + (i : Int)) 22381 = two at h2 nn2
      have j1 : 0 ≤ two / 120 % (bs.length : Int) := Int.emod_nonneg _ (by o_shape)
      have j2 : two / 120 % (bs.length : Int) < bs.length := Int.emod_lt_of_pos _ (by o_shape)
      obtain ⟨k, hk⟩ : ∃ k : Nat, two / 120 % (bs.length : Int) = (k : Int) := ⟨(two / 120 % (bs.length : Int)).toNat, by o_shape⟩
      obtain ⟨b, hb⟩ : ∃ b, bs[k]? = some b := ⟨bs[k]'(by o_shape), List.getElem?_eq_getElem (by o_shape)⟩
      have hbx := ix_map (f := Br.t5) hb
      have b0 : sealed ixD b.t5 (.int 0) = some (.str b.name) := by rw [Br.t5, ixD_t, t5_0]
      have q : sh.length < 1000000 := by o_shape
      refine ⟨_, rfl, [some (.int c), some (.lst (bs.map Br.t5)), some (.int one), some (.lst ((sh ++ [(b.name, two % 120, two % 120 + 1 + two / 1000 % 60)]).map shT)), some (.int (0 + (i : Int))), some (.int two), some (.int (two % 120))], ?_, sh ++ [(b.name, two % 120, two % 120 + 1 + two / 1000 % 60)], _, _, _, by simp [hln], rfl⟩
      generalize hk1 : c + (i : Int) = k1 at h2
      rw [List.map_append, List.map_cons, List.map_nil]
      have e : shT (b.name, two % 120, two % 120 + 1 + two / 1000 % 60) = .tup [.str b.name, .int (two % 120), .int (two % 120 + 1 + two / 1000 % 60)] := rfl
      rw [e]
      ktf_call (Int.zero_add, hk1, h2)
      ktf_call (bindS)
      k_search (Int.zero_add, hk, hbx, b0, q)
      )
  rw [List.length_map, List.length_range] at hln
  refine ⟨sh, by o_shape, ?_⟩
  rw [F_law_shuts, seal_eq]
  refine runF_rt ?_
  show B_law_shuts [some (.int c), some (.lst (bs.map Br.t5)), none, none, none, none, none] = _
  unfold B_law_shuts
  have hr : sealed rng1D [.int (n : Int)] = some ((List.range n).map fun (i : Nat) => D.int (0 + (i : Int))) := by
    have := rng1_of (j := (n : Int)) (by o_shape)
    rw [Int.toNat_natCast] at this
    exact this
  ktf_call (h1)
  ktf_call (h1)
  ktf_call (hn, hr, hloop)
  k_search (h1)
theorem ix_last {α : Type} {f : α → D} {xs : List α} {x : α} (h : xs.getLast? = some x) : sealed ixD (.lst (xs.map f)) (.int (-1)) = some (f x) := by
  have hne : 1 ≤ xs.length := by
    cases xs with
    | nil => cases h
    | cons x r => simp
  rw [ixD_l]
  unfold atI ixN
  rw [if_neg (by o_shape), if_pos (by rw [List.length_map]; o_shape), List.length_map]
  show (xs.map f)[((-1 : Int) + (xs.length : Int)).toNat]? = _
  rw [show ((-1 : Int) + (xs.length : Int)).toNat = xs.length - 1 from by o_shape, List.getElem?_map, ← List.getLast?_eq_getElem?, h]
  rfl
theorem add_i {es : List Int} {a b c : Int} (h : es.length < 1000) : sealed addD (.lst (es.map D.int)) (.lst [.int a, .int b, .int c]) = some (.lst ((es ++ [a, b, c]).map D.int)) := add_l (f := D.int) (xs := es) (ys := [a, b, c]) (by show _ + 3 ≤ _; o_shape)
theorem F_lentr {b : Br} {sh : List (Str × Int × Int)} {ss own : List Sy} (hl : sh.length ≤ 3) (h1 : ss.length < 200) (h0 : 1 ≤ own.length) : ∃ es : List Int, 1 ≤ es.length ∧ F_law_entries [b.t5, .lst (sh.map shT), .lst (ss.map spT), .lst (own.map spT)] = some (.lst (es.map D.int)) := by
  have b0 : sealed ixD b.t5 (.int 0) = some (.str b.name) := by rw [Br.t5, ixD_t, t5_0]
  have hsf := F_lshutof (sh := sh) (n := b.name) (by o_shape)
  have hlen : (shOf sh b.name).length ≤ sh.length := by
    unfold shOf
    rw [List.length_map]
    exact List.length_filter_le _ _
  obtain ⟨s0, e0⟩ : ∃ s0, own[0]? = some s0 := ⟨own[0]'(by o_shape), List.getElem?_eq_getElem (by o_shape)⟩
  obtain ⟨sl, el⟩ : ∃ sl, own.getLast? = some sl := by
    cases e : own.getLast? with
    | none => rw [List.getLast?_eq_none_iff] at e; rw [e] at h0; simp at h0
    | some t => exact ⟨t, rfl⟩
  have x0 := ix_map (f := spT) e0
  have i0 : ((0 : Nat) : Int) = 0 := rfl
  rw [i0] at x0
  have xl := ix_last (f := spT) el
  have y0 : sealed ixD (spT s0) (.int 0) = some (.int (prt s0.on)) := by rw [spT, ixD_t]; exact ix0
  have z0 : sealed ixD (spT sl) (.int 0) = some (.int (prt sl.on)) := by rw [spT, ixD_t]; exact ix0
  have z1 : sealed ixD (spT sl) (.int 1) = some (.int (prt sl.off)) := by rw [spT, ixD_t]; exact atI_num (n := 1) rfl
  generalize prt s0.on = a0 at *
  generalize prt sl.on = l0 at *
  generalize prt sl.off = l1 at *
  obtain ⟨e', hloop, es, o5, o6, hes, rfl⟩ := forD_end (g := tupG [5, 6]) (b := (setS 4 (mk [false, false, false, false, false, false, false, false, false, false, false] (oD (sealed addD) (vD 4) (lstD (aCons (oD (sealed addD) (oD (sealed subD) (oD (sealed mulD) (cD (.int 27720)) (vD 5)) (oD (sealed ixD) (oD (sealed ixD) (vD 3) (uD (sealed negD) (cD (.int 1)))) (cD (.int 1)))) (oD (sealed ixD) (oD (sealed ixD) (vD 3) (cD (.int 0))) (cD (.int 0)))) (aCons (oD (sealed addD) (oD (sealed subD) (oD (sealed mulD) (cD (.int 27720)) (vD 6)) (oD (sealed ixD) (oD (sealed ixD) (vD 3) (uD (sealed negD) (cD (.int 1)))) (cD (.int 0)))) (oD (sealed ixD) (oD (sealed ixD) (vD 3) (cD (.int 0))) (cD (.int 0)))) (aCons (oD (sealed mulD) (cD (.int 27720)) (vD 6)) aNil)))))))) (ds := (shOf sh b.name).map prD) (env := [some b.t5, some (.lst (sh.map shT)), some (.lst (ss.map spT)), some (.lst (own.map spT)), some (.lst [.int a0]), none, none, none, none, none, none])
    (fun i e => ∃ es : List Int, ∃ o5 o6, es.length = 1 + 3 * i ∧ e = [some b.t5, some (.lst (sh.map shT)), some (.lst (ss.map spT)), some (.lst (own.map spT)), some (.lst (es.map D.int)), o5, o6, none, none, none, none]) ⟨[a0], none, none, rfl, rfl⟩ (by
      rintro i d e hd ⟨es, o5, o6, hes, rfl⟩
      rw [List.getElem?_map] at hd
      obtain ⟨p, hp, rfl⟩ := Option.map_eq_some_iff.mp hd
      have hi := (List.getElem?_eq_some_iff.mp hp).1
      have ad := fun a b c => add_i (es := es) (a := a) (b := b) (c := c) (by o_shape)
      refine ⟨_, rfl, [some b.t5, some (.lst (sh.map shT)), some (.lst (ss.map spT)), some (.lst (own.map spT)), some (.lst ((es ++ [27720 * p.1 - l1 + a0, 27720 * p.2 - l0 + a0, 27720 * p.2]).map D.int)), some (.int p.1), some (.int p.2), none, none, none, none], ?_, _, _, _, by simp [hes]; o_shape, rfl⟩
      k_search (xl, x0, y0, z0, z1, ad)
      )
  rw [List.length_map] at hes
  obtain ⟨e', hloop2, es2, o7, o8, o9, o10, hes2, rfl⟩ := forD_end (g := tupG [7, 8, 9, 10]) (b := (setS 4 (mk [false, false, false, false, false, false, false, false, false, false, false] (oD (sealed addD) (vD 4) (lstD (aCons (oD (sealed addD) (oD (sealed subD) (vD 8) (oD (sealed ixD) (oD (sealed ixD) (vD 3) (uD (sealed negD) (cD (.int 1)))) (cD (.int 0)))) (oD (sealed ixD) (oD (sealed ixD) (vD 3) (cD (.int 0))) (cD (.int 0)))) (aCons (oD (sealed addD) (oD (sealed subD) (vD 7) (oD (sealed ixD) (oD (sealed ixD) (vD 3) (uD (sealed negD) (cD (.int 1)))) (cD (.int 1)))) (oD (sealed ixD) (oD (sealed ixD) (vD 3) (cD (.int 0))) (cD (.int 0)))) (aCons (vD 8) aNil)))))))) (ds := ss.map spT) (env := [some b.t5, some (.lst (sh.map shT)), some (.lst (ss.map spT)), some (.lst (own.map spT)), some (.lst (es.map D.int)), o5, o6, none, none, none, none])
    (fun i e => ∃ es : List Int, ∃ o7 o8 o9 o10, es.length = 1 + 3 * (shOf sh b.name).length + 3 * i ∧ e = [some b.t5, some (.lst (sh.map shT)), some (.lst (ss.map spT)), some (.lst (own.map spT)), some (.lst (es.map D.int)), o5, o6, o7, o8, o9, o10]) ⟨es, none, none, none, none, by o_shape, rfl⟩ (by
      rintro i d e hd ⟨es, o7, o8, o9, o10, hes, rfl⟩
      rw [List.getElem?_map] at hd
      obtain ⟨s, hp, rfl⟩ := Option.map_eq_some_iff.mp hd
      have hi := (List.getElem?_eq_some_iff.mp hp).1
      have ad := fun a b c => add_i (es := es) (a := a) (b := b) (c := c) (by o_shape)
      refine ⟨_, rfl, [some b.t5, some (.lst (sh.map shT)), some (.lst (ss.map spT)), some (.lst (own.map spT)), some (.lst ((es ++ [prt s.off - l0 + a0, prt s.on - l1 + a0, prt s.off]).map D.int)), o5, o6, some (.int (prt s.on)), some (.int (prt s.off)), some (.int s.low), some (.int s.high)], ?_, _, _, _, _, _, by simp [hes]; o_shape, rfl⟩
      k_search (xl, x0, y0, z0, z1, ad)
      )
  refine ⟨es2, by o_shape, ?_⟩
  rw [F_law_entries, seal_eq]
  first | refine run_rt ?_ | refine runF_rt ?_
  show B_law_entries [some b.t5, some (.lst (sh.map shT)), some (.lst (ss.map spT)), some (.lst (own.map spT)), none, none, none, none, none, none, none] = _
  unfold B_law_entries
  ktf_call (x0, y0)
  ktf_call (b0, hsf, itemsD, hloop)
  ktf_call (itemsD, hloop2)
  k_search (bindS)
theorem max2_i {i j : Int} : sealed max2D [.int i, .int j] = some (.int (if j > i then j else i)) := by rw [seal_eq]; rfl
theorem law_true (xs : List Int) (hx : xs.length ≤ 63) (d : D) (hd : d = .lst (xs.map D.int) ∨ d = .fz (xs.map D.int)) : F_law [d] = some (.bl true) := by
  rw [F_law, seal_eq]
  refine run_rt ?_
  show B_law [some d, none, none, none, none, none, none, none, none, none, none, none, none, none, none, none, none, none, none, none, none, none] = _
  unfold B_law
  have c0 := F_cellat hd 0
  have c1 := F_cellat hd 1
  generalize cellZ xs 0 = c at c0
  generalize cellZ xs 1 = c' at c1
  have e0 : (((0 : Nat) : Int)) = 0 := rfl
  have e1 : (((1 : Nat) : Int)) = 1 := rfl
  rw [e0] at c0
  rw [e1] at c1
  have h1 := F_mx (c := c) (f := 39373) (by o_shape) (by o_shape)
  have nn := mix2_nn c 39373
  generalize mix2 c 39373 = mm at h1 nn
  obtain ⟨n, hn⟩ : ∃ n : Nat, 1 + mm % 2 = (n : Int) := ⟨(1 + mm % 2).toNat, by o_shape⟩
  obtain ⟨bs, bl, bw, nd, hb⟩ := F_bgs (c := c) (n := n) (by o_shape)
  have hl6 : bs.length ≤ 6 := by o_shape
  have hl1 : 1 ≤ bs.length := by o_shape
  obtain ⟨sh, shl, hsh⟩ := F_lshuts (c := c) hl1 hl6
  have hr := F_rd5 (sh := sh) hl6
  have h2 := F_mx (c := c') (f := 48271) (by o_shape) (by o_shape)
  have nn2 := mix2_nn c' 48271
  generalize mix2 c' 48271 = m2 at h2 nn2
  obtain ⟨n2, hn2⟩ : ∃ n2 : Nat, 2 + m2 % 5 = (n2 : Int) := ⟨(2 + m2 % 5).toNat, by o_shape⟩
  obtain ⟨ys, yl, hsl⟩ := cut_ok hd 2 n2
  have e2 : (((2 : Nat) : Int)) = 2 := rfl
  rw [e2] at hsl
  obtain ⟨crs, crl, crw, hcr⟩ := F_close hl1 bw (most := 1) (by o_shape) (by o_shape) (cs := ys) (by o_shape)
  have wf : ∀ x ∈ crs, x.WF bs := fun x h => (crw x h).1
  have wd : ∀ x ∈ crs, Dv x.e := fun x h => dv_of (crw x h).2.2.2.1
  have wl : ∀ x ∈ crs, ∀ w ∈ x.ws, w.low ≤ w.high := fun x h w hw => ((crw x h).2.2.2.2 w hw).lh
  have cl : crs.length ≤ 4 := by o_shape
  obtain ⟨e', hloop, p8, p9, p10, p11, p12, p13, p14, p15, p16, p17, p18, p19, p20, p21, rfl⟩ := forD_end (g := nmG 8) (b := (seqS (asgS (mk [false, false, false, false, false, false, false, false, false, false, false, false, false, false, false, false, false, false, false, false, false, false] (oD (sealed ixD) (callD F_law_close (aCons (lstD (aCons (oD (sealed addD) (vD 5) (vD 8)) aNil)) (aCons (vD 2) (aCons (oD (sealed addD) (cD (.int 1)) (oD (sealed modD) (vD 8) (cD (.int 2)))) aNil)))) (cD (.int 0)))) (tupG [9, 10, 11, 12])) (seqS (setS 13 (mk [false, false, false, false, false, false, false, false, false, false, false, false, false, false, false, false, false, false, false, false, false, false] (oD (sealed ixD) (compF (itD (vD 2)) (bD (oD (sealed eqD) (oD (sealed ixD) (vD 0) (cD (.int 0))) (vD 1))) (vD 0) [9]) (cD (.int 0))))) (seqS (setS 14 (mk [false, false, false, false, false, false, false, false, false, false, false, false, false, false, false, false, false, false, false, false, false, false] (callD F_law_spans (aCons (vD 13) (aCons (vD 6) aNil))))) (seqS (setS 15 (mk [false, false, false, false, false, false, false, false, false, false, false, false, false, false, false, false, false, false, false, false, false, false] (callD F_law_own_spans (aCons (vD 13) (aCons (tupD (aCons (vD 9) (aCons (vD 10) (aCons (vD 11) (aCons (vD 12) aNil))))) aNil))))) (seqS (setS 16 (mk [false, false, false, false, false, false, false, false, false, false, false, false, false, false, false, false, false, false, false, false, false, false] (callD F_law_entries (aCons (vD 13) (aCons (vD 3) (aCons (vD 14) (aCons (vD 15) aNil))))))) (seqS (setS 17 (mk [false, false, false, false, false, false, false, false, false, false, false, false, false, false, false, false, false, false, false, false, false, false] (oD (sealed ixD) (vD 16) (oD (sealed modD) (oD (sealed addD) (oD (sealed fdivC) (vD 5) (cD (.int 7))) (oD (sealed mulD) (cD (.int 5)) (vD 8))) (callD (sealed lenD) (aCons (vD 16) aNil)))))) (forS (mk [false, false, false, false, false, false, false, false, false, false, false, false, false, false, false, false, false, false, false, false, false, false] (itD (lstD (aCons (cD (.int 0)) (aCons (uD (sealed negD) (cD (.int 3))) (aCons (cD (.int 3)) aNil)))))) (nmG 18) (seqS (setS 19 (mk [false, false, false, false, false, false, false, false, false, false, false, false, false, false, false, false, false, false, false, false, false, false] (callD (sealed max2D) (aCons (cD (.int 0)) (aCons (oD (sealed addD) (vD 17) (vD 18)) aNil))))) (seqS (setS 20 (mk [false, false, false, false, false, false, false, false, false, false, false, false, false, false, false, false, false, false, false, false, false, false] (tupD (aCons (vD 9) (aCons (callD F_law_frac (aCons (vD 19) (aCons (cD (.int 27720)) aNil))) (aCons (vD 11) (aCons (vD 12) aNil))))))) (seqS (setS 21 (mk [false, false, false, false, false, false, false, false, false, false, false, false, false, false, false, false, false, false, false, false, false, false] (callD F_law_allowed (aCons (vD 13) (aCons (vD 3) (aCons (vD 14) (aCons (callD F_law_own_spans (aCons (vD 13) (aCons (vD 20) aNil))) aNil))))))) (ifS (notB (bD (callD F_law_same (aCons (callD F_may_enter (aCons (vD 4) (aCons (vD 6) (aCons (vD 20) aNil)))) (aCons (vD 21) aNil))))) (retS (cD (.bl false))) nxS)))))))))))) (ds := (List.range 4).map fun (i : Nat) => D.int (0 + (i : Int))) (env := [some d, some (.int c), some (.lst (bs.map Br.t5)), some (.lst (sh.map shT)), some (rod5 bs sh).o, some (.int m2), some (.lst (crs.map Cr.t)), some (.lst (crs.map Cr.t)), none, none, none, none, none, none, none, none, none, none, none, none, none, none])
    (fun _ e => ∃ p8 p9 p10 p11 p12 p13 p14 p15 p16 p17 p18 p19 p20 p21, e = [some d, some (.int c), some (.lst (bs.map Br.t5)), some (.lst (sh.map shT)), some (rod5 bs sh).o, some (.int m2), some (.lst (crs.map Cr.t)), some (.lst (crs.map Cr.t)), p8, p9, p10, p11, p12, p13, p14, p15, p16, p17, p18, p19, p20, p21]) ⟨_, _, _, _, _, _, _, _, _, _, _, _, _, _, rfl⟩ (by
      rintro i y e hy ⟨p8, p9, p10, p11, p12, p13, p14, p15, p16, p17, p18, p19, p20, p21, rfl⟩
      rw [List.getElem?_map] at hy
      obtain ⟨k, hk, rfl⟩ := Option.map_eq_some_iff.mp hy
      have ki : (0 : Int) + (k : Int) = (k : Int) := Int.zero_add _
      rw [ki]
      obtain ⟨cs1, l1, w1, hc1⟩ := F_close hl1 bw (most := 1 + (k : Int) % 2) (by o_shape) (by o_shape) (cs := [m2 + (k : Int)]) (by simp)
      obtain ⟨cr, rfl⟩ : ∃ cr, cs1 = [cr] := by
        cases cs1 with
        | nil => simp at l1
        | cons a r => cases r with
          | nil => exact ⟨a, rfl⟩
          | cons b r => simp at l1
      have w1 := w1 cr List.mem_cons_self
      have crwf := w1.1
      have crb : cr.b ∈ bs := List.mem_of_find?_eq_some crwf.f
      have hcx : sealed ixD (.lst [cr.t]) (.int 0) = some cr.t := by rw [ixD_l]; exact ix0
      have hc1' : F_law_close [.lst [.int (m2 + (k : Int))], .lst (bs.map Br.t5), .int (1 + (k : Int) % 2)] = some (.lst [cr.t]) := hc1
      obtain ⟨fs, hfs, hf0⟩ := find_comp hl6 crwf.f (fc := bD (oD (sealed eqD) (oD (sealed ixD) (vD 0) (cD (.int 0))) (vD 1))) (caps := [some (.str cr.b.name)]) (fun b => by
        unfold Br.t5
        k_search (ixD_t, t5_0)
        )
      have hsp := F_lspans nd crb wf wd (by o_shape)
      have how := F_lown (b := cr.b) crwf (dv_of w1.2.2.2.1) rfl
      have l4 := sysOf_len (n := cr.b.name) wf
      have ol := sys_len (c := cr)
      have ow1 := crwf.w1
      have ow4 := crwf.w4
      obtain ⟨es, esl, hen⟩ := F_lentr (b := cr.b) (sh := sh) (ss := sysOf crs cr.b.name) (own := cr.sys) shl (by o_shape) (by o_shape)
      have q1 : 0 ≤ (m2 / 7 + 5 * (k : Int)) % (es.length : Int) := Int.emod_nonneg _ (by o_shape)
      have q2 : (m2 / 7 + 5 * (k : Int)) % (es.length : Int) < es.length := Int.emod_lt_of_pos _ (by o_shape)
      obtain ⟨j, hj⟩ : ∃ j : Nat, (m2 / 7 + 5 * (k : Int)) % (es.length : Int) = (j : Int) := ⟨((m2 / 7 + 5 * (k : Int)) % (es.length : Int)).toNat, by o_shape⟩
      obtain ⟨sm, hsm⟩ : ∃ sm, es[j]? = some sm := ⟨es[j]'(by o_shape), List.getElem?_eq_getElem (by o_shape)⟩
      have hsx := ix_map (f := D.int) hsm
      obtain ⟨e3, hin, q18, q19, q20, q21, rfl⟩ := forD_end (g := nmG 18) (b := (seqS (setS 19 (mk [false, false, false, false, false, false, false, false, false, false, false, false, false, false, false, false, false, false, false, false, false, false] (callD (sealed max2D) (aCons (cD (.int 0)) (aCons (oD (sealed addD) (vD 17) (vD 18)) aNil))))) (seqS (setS 20 (mk [false, false, false, false, false, false, false, false, false, false, false, false, false, false, false, false, false, false, false, false, false, false] (tupD (aCons (vD 9) (aCons (callD F_law_frac (aCons (vD 19) (aCons (cD (.int 27720)) aNil))) (aCons (vD 11) (aCons (vD 12) aNil))))))) (seqS (setS 21 (mk [false, false, false, false, false, false, false, false, false, false, false, false, false, false, false, false, false, false, false, false, false, false] (callD F_law_allowed (aCons (vD 13) (aCons (vD 3) (aCons (vD 14) (aCons (callD F_law_own_spans (aCons (vD 13) (aCons (vD 20) aNil))) aNil))))))) (ifS (notB (bD (callD F_law_same (aCons (callD F_may_enter (aCons (vD 4) (aCons (vD 6) (aCons (vD 20) aNil)))) (aCons (vD 21) aNil))))) (retS (cD (.bl false))) nxS))))) (ds := [D.int 0, .int (-3), .int 3]) (env := [some d, some (.int c), some (.lst (bs.map Br.t5)), some (.lst (sh.map shT)), some (rod5 bs sh).o, some (.int m2), some (.lst (crs.map Cr.t)), some (.lst (crs.map Cr.t)), some (.int (k : Int)), some (.str cr.b.name), some (frD cr.e), some (.int cr.v), some (.lst (cr.ws.map Wh.t)), some cr.b.t5, some (.lst ((sysOf crs cr.b.name).map spT)), some (.lst (cr.sys.map spT)), some (.lst (es.map D.int)), some (.int sm), p18, p19, p20, p21])
        (fun _ e => ∃ p18 p19 p20 p21, e = [some d, some (.int c), some (.lst (bs.map Br.t5)), some (.lst (sh.map shT)), some (rod5 bs sh).o, some (.int m2), some (.lst (crs.map Cr.t)), some (.lst (crs.map Cr.t)), some (.int (k : Int)), some (.str cr.b.name), some (frD cr.e), some (.int cr.v), some (.lst (cr.ws.map Wh.t)), some cr.b.t5, some (.lst ((sysOf crs cr.b.name).map spT)), some (.lst (cr.sys.map spT)), some (.lst (es.map D.int)), some (.int sm), p18, p19, p20, p21]) ⟨_, _, _, _, rfl⟩ (by
          rintro i y e hy ⟨p18, p19, p20, p21, rfl⟩
          obtain ⟨st, rfl⟩ : ∃ st : Int, y = .int st := by
            have := List.mem_of_getElem? hy
            simp only [List.mem_cons, List.not_mem_nil, or_false] at this
            rcases this with rfl | rfl | rfl <;> exact ⟨_, rfl⟩
          obtain ⟨mo, hmo⟩ : ∃ mo : Int, (if sm + st > 0 then sm + st else 0) = mo := ⟨_, rfl⟩
          have hmx := max2_i (i := 0) (j := sm + st)
          rw [hmo] at hmx
          have fr := F_lfrac (a := mo) (b := 27720) (by o_shape) (by o_shape)
          have fp := prt_low (o := mo) (v := 27720) (by o_shape) (by decide)
          obtain ⟨ca, hca⟩ : ∃ ca : Cr, ca = ⟨cr.b, Fr.low mo 27720, cr.v, cr.ws⟩ := ⟨_, rfl⟩
          have cawf : ca.WF bs := by subst hca; exact ⟨crwf.f, fp.1.le, crwf.v1, crwf.v2, crwf.w1, crwf.w4⟩
          have cae : Dv ca.e := by subst hca; exact fp.1
          have cab : ca.b = cr.b := by subst hca; rfl
          have caw : ca.ws = cr.ws := by subst hca; rfl
          have cat : ca.t = .tup [.str cr.b.name, frD (Fr.low mo 27720), .int cr.v, .lst (cr.ws.map Wh.t)] := by subst hca; rfl
          have ho2 := F_lown (b := cr.b) cawf cae (by rw [cab])
          have hal := F_lallow (b := cr.b) (sh := sh) (ss := sysOf crs cr.b.name) (own := ca.sys) (by o_shape) (fun s hs => by
            rcases List.mem_append.mp hs with hs | hs
            · exact sysOf_dd wf wd s hs
            · exact sys_dd cawf cae s hs) (by rw [List.length_append, sys_len, caw]; o_shape)
          have hma := F_may (sh := sh) hl6 nd (by rw [cab]; exact crb) wf cawf (by o_shape) (by o_shape) (fun x hx w hw => by
            rcases List.mem_append.mp hx with hx | hx
            · exact wl x hx w hw
            · cases List.mem_singleton.mp hx
              rw [caw] at hw
              exact (w1.2.2.2.2 w hw).lh)
          rw [may_all cawf cae, cab] at hma
          generalize (((shOf sh cr.b.name).all fun p => ca.sys.all fun s => !meet p (prt s.on) (prt s.off)) && (sysOf crs cr.b.name ++ ca.sys).all fun s => decide (highAt s.on (sysOf crs cr.b.name ++ ca.sys) ≤ cr.b.bears)) = T at hal hma
          have s := same_ok (.bl 0 T)
          rw [cat] at ho2 hma
          generalize hG : F_law_same = G at s ⊢
          generalize Fr.low mo 27720 = lo at *
          refine ⟨_, rfl, [some d, some (.int c), some (.lst (bs.map Br.t5)), some (.lst (sh.map shT)), some (rod5 bs sh).o, some (.int m2), some (.lst (crs.map Cr.t)), some (.lst (crs.map Cr.t)), some (.int (k : Int)), some (.str cr.b.name), some (frD cr.e), some (.int cr.v), some (.lst (cr.ws.map Wh.t)), some cr.b.t5, some (.lst ((sysOf crs cr.b.name).map spT)), some (.lst (cr.sys.map spT)), some (.lst (es.map D.int)), some (.int sm), some (.int st), some (.int mo), some (.tup [.str cr.b.name, frD lo, .int cr.v, .lst (cr.ws.map Wh.t)]), some (.bl T)], ?_, _, _, _, _, rfl⟩
          ktf_call (hmx)
          ktf_call (fr)
          ktf_call (ho2, hal)
          k_search (hma, s, Bool.not_true, Bool.false_eq_true)
          )
      refine ⟨_, rfl, [some d, some (.int c), some (.lst (bs.map Br.t5)), some (.lst (sh.map shT)), some (rod5 bs sh).o, some (.int m2), some (.lst (crs.map Cr.t)), some (.lst (crs.map Cr.t)), some (.int (k : Int)), some (.str cr.b.name), some (frD cr.e), some (.int cr.v), some (.lst (cr.ws.map Wh.t)), some cr.b.t5, some (.lst ((sysOf crs cr.b.name).map spT)), some (.lst (cr.sys.map spT)), some (.lst (es.map D.int)), some (.int sm), q18, q19, q20, q21], ?_, _, _, _, _, _, _, _, _, _, _, _, _, _, _, rfl⟩
      have hfd : compF (itD (vD 2)) (bD (oD (sealed eqD) (oD (sealed ixD) (vD 0) (cD (.int 0))) (vD 1))) (vD 0) [9] [some d, some (.int c), some (.lst (bs.map Br.t5)), some (.lst (sh.map shT)), some (rod5 bs sh).o, some (.int m2), some (.lst (crs.map Cr.t)), some (.lst (crs.map Cr.t)), some (.int (k : Int)), some (.str cr.b.name), some (frD cr.e), some (.int cr.v), some (.lst (cr.ws.map Wh.t)), p13, p14, p15, p16, p17, p18, p19, p20, p21] = some (.lst fs) := by
        unfold compF
        simp only [itD, vD_z, vD_s, bindS, itemsD]
        rw [if_pos (by rw [List.length_map]; o_shape)]
        show Option.map _ (compD _ _ [some (.str cr.b.name)] _) = _
        rw [hfs]
        rfl
      rw [Cr.t] at how hcx hc1'
      ktf_call (hc1', hcx)
      ktf_call (hfd, ixD_l, hf0)
      ktf_call (hsp)
      ktf_call (how)
      ktf_call (hen)
      ktf_call (hj, hsx)
      k_search (itemsD, hin)
      )
  have hrg : sealed rng1D [.int 4] = some ((List.range 4).map fun (i : Nat) => D.int (0 + (i : Int))) := rng1_of (j := 4) (by o_shape)
  have heq := eqD_lst (nums_crs bw wf) (by o_shape)
  ktf_call (c0)
  ktf_call (h1, hn, hb)
  ktf_call (hsh)
  ktf_call (hr)
  ktf_call (c1, h2)
  ktf_call (hn2, hsl, hcr)
  ktf_call (list_l)
  ktf_call (hrg, hloop)
  k_search (heq)
def sp_law (K : PySem.W.Frag) : Sp := fun vs H Q _ => ∃ (a : Addr) (ns : List Int), vs = [.ref a] ∧ SqL K H a (ns.map V.int) ∧ ns.length ≤ 63 ∧ ∀ H', Q (.bl true) H'
section
variable {P : Program} {w : World} {K : PySem.W.Frag} {mg : Str → Option Value} {base : Heap}
theorem ok_law_cell_at {f : Addr} {fd : FuncData} (F : Fun K "_law_cell_at" "_law_cell_at" s_law_cell_at f fd) (z_len : mg "len" = none) :
    FnOk P w K mg base CX0 1 f fd ["_law_script", "_law_k"] (sp_law_cell_at K) := by
  refine F.ok sc_law_cell_at (fun vs H Q E h => spP_len h) (fun cdv A outer s H vs Q E hr h => ?_)
  have hu := hr.units
  have h : spP K kNames false 2 (runD 2 B_law_cell_at) vs H Q E := by rw [← seal_eq (runD 2 B_law_cell_at)]; exact h
  refine ⟨_, (pss_cons (ps_if (pt_cmpR op_lt (pv 1) (pe_callB lenG rfl z_len b_len (pa_cons (pv 0) pa_nil)) (nomark _)) (pss_one (ps_ret (pe_ix ix_seq (pv 0) (pv 1) (fun _ _ => rfl)))) pss_nil)
      (pss_one (ps_ret pe_int))), ?_⟩
  exact run_ok (K := K) (ns := kNames) (fl' := []) (n := 2) (b := B_law_cell_at)
    (s_seq (s_if (pt_tD (oS (pu_op r2_lt (pu_var 1) (cS (pu_call ca_len (pa_consD (pu_var 0) pa_nilD)))))) (s_ret (oS (pu_op r2_ix (pu_var 0) (pu_var 1))))
    s_next)
    (s_ret (pu_int _))) rfl (by decide) h
theorem ok_law_mix {f : Addr} {fd : FuncData} (F : Fun K "_law_mix" "_law_mix" s_law_mix f fd)  :
    FnOk P w K mg base CX0 1 f fd ["_law_cell", "_law_factor"] (sp_law_mix K) := by
  refine F.ok sc_law_mix (fun vs H Q E h => spP_len h) (fun cdv A outer s H vs Q E hr h => ?_)
  have hu := hr.units
  have h : spP K kNames false 2 (runD 3 B_law_mix) vs H Q E := by rw [← seal_eq (runD 3 B_law_mix)]; exact h
  refine ⟨_, (pss_cons (ps_set (i := 2) sc_law_mix.nd rfl (by first | exact Or.inl rfl | exact Or.inr rfl) (pe_op op_mod (pe_op op_addP (pe_op op_mulX (pv 0) (pv 1)) pe_int) pe_int))
      (pss_one (ps_ret (pe_op op_fdiv (pe_op op_mod (pe_op op_mulX (pv 2) (pv 2)) pe_int) pe_int)))), ?_⟩
  exact run_ok (K := K) (ns := kNames) (fl' := []) (n := 3) (b := B_law_mix)
    (s_seq (s_set 2 (oS (pu_op r2_mod (oS (pu_op r2_add (oS (pu_op r2_mul (pu_var 0) (pu_var 1))) (pu_int _))) (pu_int _))))
    (s_ret (oS (pu_op r2_fdivC (oS (pu_op r2_mod (oS (pu_op r2_mul (pu_var 2) (pu_var 2))) (pu_int _))) (pu_int _))))) rfl (by decide) h
theorem ok_law_bridges {f : Addr} {fd : FuncData} (F : Fun K "_law_bridges" "_law_bridges" s_law_bridges f fd) (g_law_mix : Got P w K mg base 1 "_law_mix" ["_law_cell", "_law_factor"] (sp_law_mix K)) (z_range : mg "range" = none) :
    FnOk P w K mg base CX0 2 f fd ["_law_cell", "_law_count"] (sp_law_bridges K) := by
  refine F.ok sc_law_bridges (fun vs H Q E h => spP_len h) (fun cdv A outer s H vs Q E hr h => ?_)
  have hu := hr.units
  have h : spP K kNames true 2 (runF 11 B_law_bridges) vs H Q E := by rw [← seal_eq (runF 11 B_law_bridges)]; exact h
  refine ⟨_, (pss_cons (ps_set (i := 2) sc_law_bridges.nd rfl (by first | exact Or.inl rfl | exact Or.inr rfl) pe_str)
      (pss_cons (ps_set (i := 3) sc_law_bridges.nd rfl (by first | exact Or.inl rfl | exact Or.inr rfl) (pe_go g_law_mix hr (by first | decide | omega) rfl (pa_cons (pv 0) (pa_cons pe_int pa_nil))))
      (pss_cons (ps_set (i := 4) sc_law_bridges.nd rfl (by first | exact Or.inl rfl | exact Or.inr rfl) (pe_op op_addP pe_int (pe_op op_mod (pv 3) pe_int)))
      (pss_cons (ps_set (i := 5) sc_law_bridges.nd rfl (by first | exact Or.inl rfl | exact Or.inr rfl) (pe_lst pa_nil))
      (pss_cons (ps_for PassesOwn.never rfl (pi_range1 rfl z_range (pa_cons (pv 1) pa_nil)) (pg_name (i := 6) sc_law_bridges.nd rfl (by first | exact Or.inl rfl | exact Or.inr rfl)) (pss_cons (ps_set (i := 7) sc_law_bridges.nd rfl (by first | exact Or.inl rfl | exact Or.inr rfl) (pe_go g_law_mix hr (by first | decide | omega) rfl (pa_cons (pe_op op_addP (pv 0) (pe_op op_mulX pe_int (pv 6))) (pa_cons pe_int pa_nil))))
      (pss_cons (ps_set (i := 8) sc_law_bridges.nd rfl (by first | exact Or.inl rfl | exact Or.inr rfl) (pe_ix ix_seq (pe_lst (pa_cons (pe_op op_addP pe_int (pe_op op_mod (pv 7) pe_int)) (pa_cons (pe_op op_addP pe_int (pe_op op_mod (pv 7) pe_int)) (pa_cons (pe_op op_addP pe_int (pe_op op_mod (pv 7) pe_int)) pa_nil)))) (pe_op op_mod (pe_op op_fdiv (pv 7) pe_int) pe_int) (fun _ _ => rfl)))
      (pss_cons (ps_set (i := 9) sc_law_bridges.nd rfl (by first | exact Or.inl rfl | exact Or.inr rfl) (pe_op op_addP pe_int (pe_op op_mod (pe_go g_law_mix hr (by first | decide | omega) rfl (pa_cons (pe_op op_addP (pv 0) (pv 6)) (pa_cons pe_int pa_nil))) pe_int)))
      (pss_cons (ps_set (i := 10) sc_law_bridges.nd rfl (by first | exact Or.inl rfl | exact Or.inr rfl) (pe_op op_mulX (pe_ix ix_seq (pv 2) (pe_op op_mod (pe_op op_addP (pe_op op_fdiv (pv 3) pe_int) (pv 6)) pe_int) (fun _ _ => rfl)) (pv 4)))
      (pss_one (ps_expr (pe_bm PySem.F.plainAttrs_list PySem.F.slot_list_append PySem.F.type_list_append mt_append (pv 5) (pa_cons (pe_tup (pa_cons (pv 10) (pa_cons (pv 8) (pa_cons (pv 9) (pa_cons (pe_op op_addP pe_int (pe_op op_mod (pe_op op_fdiv (pv 7) pe_int) pe_int)) (pa_cons pe_int pa_nil)))))) pa_nil)))))))))
      (pss_one (ps_ret (pv 5)))))))), ?_⟩
  exact run_okF (K := K) (ns := kNames) (fl' := []) (n := 11) (b := B_law_bridges)
    (s_seq (s_set 2 (pu_str _))
    (s_seq (s_set 3 (pu_fn (pa_consD (pu_var 0) (pa_consD (pu_int _) pa_nilD))))
    (s_seq (s_set 4 (oS (pu_op r2_add (pu_int _) (oS (pu_op r2_mod (pu_var 3) (pu_int _))))))
    (s_seq (s_new 5 (pu_lst pa_nilD) (by decide))
    (s_seq (s_for (iS (pi_rng1 (pa_consD (pu_var 1) pa_nilD))) (g_name 6 rfl)
    (s_seq (s_set 7 (pu_fn (pa_consD (oS (pu_op r2_add (pu_var 0) (oS (pu_op r2_mul (pu_int _) (pu_var 6))))) (pa_consD (pu_int _) pa_nilD))))
    (s_seq (s_set 8 (oS (pu_op r2_ix (PuF.pe (pu_lst (pa_consD (oS (pu_op r2_add (pu_int _) (oS (pu_op r2_mod (pu_var 7) (pu_int _))))) (pa_consD (oS (pu_op r2_add (pu_int _) (oS (pu_op r2_mod (pu_var 7) (pu_int _))))) (pa_consD (oS (pu_op r2_add (pu_int _) (oS (pu_op r2_mod (pu_var 7) (pu_int _))))) pa_nilD))))) (oS (pu_op r2_mod (oS (pu_op r2_fdivC (pu_var 7) (pu_int _))) (pu_int _))))))
    (s_seq (s_set 9 (oS (pu_op r2_add (pu_int _) (oS (pu_op r2_mod (pu_fn (pa_consD (oS (pu_op r2_add (pu_var 0) (pu_var 6))) (pa_consD (pu_int _) pa_nilD))) (pu_int _))))))
    (s_seq (s_set 10 (oS (pu_op r2_mul (oS (pu_op r2_ix (pu_var 2) (oS (pu_op r2_mod (oS (pu_op r2_add (oS (pu_op r2_fdivC (pu_var 3) (pu_int _))) (pu_var 6))) (pu_int _))))) (pu_var 4))))
    (s_app 5 (pu_tup (pa_consD (pu_var 10) (pa_consD (pu_var 8) (pa_consD (pu_var 9) (pa_consD (oS (pu_op r2_add (pu_int _) (oS (pu_op r2_mod (oS (pu_op r2_fdivC (pu_var 7) (pu_int _))) (pu_int _))))) (pa_consD (pu_int _) pa_nilD)))))) rfl))))))
    (s_retO 5 rfl)))))) rfl (by decide) h
theorem ok_law_shuts {f : Addr} {fd : FuncData} (F : Fun K "_law_shuts" "_law_shuts" s_law_shuts f fd) (g_law_mix : Got P w K mg base 1 "_law_mix" ["_law_cell", "_law_factor"] (sp_law_mix K)) (z_range : mg "range" = none) (z_len : mg "len" = none) :
    FnOk P w K mg base CX0 2 f fd ["_law_cell", "_law_bridges_here"] (sp_law_shuts K) := by
  refine F.ok sc_law_shuts (fun vs H Q E h => spP_len h) (fun cdv A outer s H vs Q E hr h => ?_)
  have hu := hr.units
  have h : spP K kNames true 2 (runF 7 B_law_shuts) vs H Q E := by rw [← seal_eq (runF 7 B_law_shuts)]; exact h
  refine ⟨_, (pss_cons (ps_set (i := 2) sc_law_shuts.nd rfl (by first | exact Or.inl rfl | exact Or.inr rfl) (pe_go g_law_mix hr (by first | decide | omega) rfl (pa_cons (pv 0) (pa_cons pe_int pa_nil))))
      (pss_cons (ps_set (i := 3) sc_law_shuts.nd rfl (by first | exact Or.inl rfl | exact Or.inr rfl) (pe_lst pa_nil))
      (pss_cons (ps_for PassesOwn.never rfl (pi_range1 rfl z_range (pa_cons (pe_op op_mod (pv 2) pe_int) pa_nil)) (pg_name (i := 4) sc_law_shuts.nd rfl (by first | exact Or.inl rfl | exact Or.inr rfl)) (pss_cons (ps_set (i := 5) sc_law_shuts.nd rfl (by first | exact Or.inl rfl | exact Or.inr rfl) (pe_go g_law_mix hr (by first | decide | omega) rfl (pa_cons (pe_op op_addP (pv 0) (pv 4)) (pa_cons pe_int pa_nil))))
      (pss_cons (ps_set (i := 6) sc_law_shuts.nd rfl (by first | exact Or.inl rfl | exact Or.inr rfl) (pe_op op_mod (pv 5) pe_int))
      (pss_one (ps_expr (pe_bm PySem.F.plainAttrs_list PySem.F.slot_list_append PySem.F.type_list_append mt_append (pv 3) (pa_cons (pe_tup (pa_cons (pe_ix ix_seq (pe_ix ix_seq (pv 1) (pe_op op_mod (pe_op op_fdiv (pv 5) pe_int) (pe_callB lenG rfl z_len b_len (pa_cons (pv 1) pa_nil))) (fun _ _ => rfl)) pe_int (fun _ _ => rfl)) (pa_cons (pv 6) (pa_cons (pe_op op_addP (pe_op op_addP (pv 6) pe_int) (pe_op op_mod (pe_op op_fdiv (pv 5) pe_int) pe_int)) pa_nil)))) pa_nil)))))))
      (pss_one (ps_ret (pv 3)))))), ?_⟩
  exact run_okF (K := K) (ns := kNames) (fl' := []) (n := 7) (b := B_law_shuts)
    (s_seq (s_set 2 (pu_fn (pa_consD (pu_var 0) (pa_consD (pu_int _) pa_nilD))))
    (s_seq (s_new 3 (pu_lst pa_nilD) (by decide))
    (s_seq (s_for (iS (pi_rng1 (pa_consD (oS (pu_op r2_mod (pu_var 2) (pu_int _))) pa_nilD))) (g_name 4 rfl)
    (s_seq (s_set 5 (pu_fn (pa_consD (oS (pu_op r2_add (pu_var 0) (pu_var 4))) (pa_consD (pu_int _) pa_nilD))))
    (s_seq (s_set 6 (oS (pu_op r2_mod (pu_var 5) (pu_int _))))
    (s_app 3 (pu_tup (pa_consD (oS (pu_op r2_ix (oS (pu_op r2_ix (pu_var 1) (oS (pu_op r2_mod (oS (pu_op r2_fdivC (pu_var 5) (pu_int _))) (cS (pu_call ca_len (pa_consD (pu_var 1) pa_nilD))))))) (pu_int _))) (pa_consD (pu_var 6) (pa_consD (oS (pu_op r2_add (oS (pu_op r2_add (pu_var 6) (pu_int _))) (oS (pu_op r2_mod (oS (pu_op r2_fdivC (pu_var 5) (pu_int _))) (pu_int _))))) pa_nilD)))) rfl))))
    (s_retO 3 rfl)))) rfl (by decide) h
theorem ok_Road_init {f : Addr} {fd : FuncData} (F : Fun K "__init__" "Road.__init__" s_Road_init f fd) (z_list : mg "list" = none) :
    FnOk P w K mg base CX0 1 f fd ["self", "pieces", "rounds", "shuts"] (sp_Road_init K) := by
  refine F.ok sc_Road_init (fun vs H Q E h => spI_len h) (fun cdv A outer s H vs Q E hr h => ?_)
  have hu := hr.units
  refine ⟨_, (pss_cons (ps_fld (f := "pieces") (pv 0) (pe_callTy call_list_of rfl z_list b_list (pa_cons (pv 1) pa_nil)) rfl)
      (pss_cons (ps_fld (f := "rounds") (pv 0) (pe_callTy call_list_of rfl z_list b_list (pa_cons (pv 2) pa_nil)) rfl)
      (pss_one (ps_fld (f := "shuts") (pv 0) (pe_callTy call_list_of rfl z_list b_list (pa_cons (pv 3) pa_nil)) rfl)))), ?_⟩
  exact init_ok (K := K) (ns := kNames) (c := .Road) (pn_seq (pn_one .pieces (PuF.pe (cSF (pu_callF ca_list (pa_consD (pu_var 1) pa_nilD))))) (pn_seq (pn_one .rounds (PuF.pe (cSF (pu_callF ca_list (pa_consD (pu_var 2) pa_nilD))))) (pn_one .shuts (PuF.pe (cSF (pu_callF ca_list (pa_consD (pu_var 3) pa_nilD))))))) rfl rfl h
theorem ok_Open_init {f : Addr} {fd : FuncData} (F : Fun K "__init__" "Open.__init__" s_Open_init f fd)  :
    FnOk P w K mg base CX0 1 f fd ["self", "length"] (sp_Open_init K) := by
  refine F.ok sc_Open_init (fun vs H Q E h => spI_len h) (fun cdv A outer s H vs Q E hr h => ?_)
  have hu := hr.units
  refine ⟨_, (pss_one (ps_fld (f := "length") (pv 0) (pv 1) rfl)), ?_⟩
  exact init_ok (K := K) (ns := kNames) (c := .Open) (pn_one .length (pu_var 1)) rfl rfl h
theorem ok_Bridge_init {f : Addr} {fd : FuncData} (F : Fun K "__init__" "Bridge.__init__" s_Bridge_init f fd)  :
    FnOk P w K mg base CX0 1 f fd ["self", "name", "length", "bears", "wide", "most"] (sp_Bridge_init K) := by
  refine F.ok sc_Bridge_init (fun vs H Q E h => spI_len h) (fun cdv A outer s H vs Q E hr h => ?_)
  have hu := hr.units
  refine ⟨_, (pss_cons (ps_fld (f := "name") (pv 0) (pv 1) rfl)
      (pss_cons (ps_fld (f := "length") (pv 0) (pv 2) rfl)
      (pss_cons (ps_fld (f := "bears") (pv 0) (pv 3) rfl)
      (pss_cons (ps_fld (f := "wide") (pv 0) (pv 4) rfl)
      (pss_one (ps_fld (f := "most") (pv 0) (pv 5) rfl)))))), ?_⟩
  exact init_ok (K := K) (ns := kNames) (c := .Bridge) (pn_seq (pn_one .name (pu_var 1)) (pn_seq (pn_one .length (pu_var 2)) (pn_seq (pn_one .bears (pu_var 3)) (pn_seq (pn_one .wide (pu_var 4)) (pn_one .most (pu_var 5)))))) rfl rfl h
theorem ok_law_road {f : Addr} {fd : FuncData} (F : Fun K "_law_road" "_law_road" s_law_road f fd) (m_Road : GotP P w K mg base 1 "Road" ["self", "pieces", "rounds", "shuts"] (sp_Road_init K)) (d_Road : PKd K kNames (clA K "Road") ["Road"] ["pieces", "rounds", "shuts"]) (m_Open : GotP P w K mg base 1 "Open" ["self", "length"] (sp_Open_init K)) (d_Open : PKd K kNames (clA K "Open") ["Open"] ["length"]) (m_Bridge : GotP P w K mg base 1 "Bridge" ["self", "name", "length", "bears", "wide", "most"] (sp_Bridge_init K)) (d_Bridge : PKd K kNames (clA K "Bridge") ["Bridge"] ["name", "length", "bears", "wide", "most"]) (z_len : mg "len" = none) :
    FnOk P w K mg base CX0 3 f fd ["_law_bridges_here", "_law_rounds", "_law_shuts_here"] (sp_law_road K) := by
  refine F.ok sc_law_road (fun vs H Q E h => spP_len h) (fun cdv A outer s H vs Q E hr h => ?_)
  have hu := hr.units
  have h : spP K kNames false 3 (runD 9 B_law_road) vs H Q E := by rw [← seal_eq (runD 9 B_law_road)]; exact h
  refine ⟨_, (pss_cons (ps_set (i := 3) sc_law_road.nd rfl (by first | exact Or.inl rfl | exact Or.inr rfl) (pe_lst (pa_cons (pe_mkP m_Open hr (by decide) rfl (pa_cons (pe_op op_addP pe_int (pe_callB lenG rfl z_len b_len (pa_cons (pv 0) pa_nil))) pa_nil)) pa_nil)))
      (pss_cons (ps_for PassesOwn.never rfl (pi_or (pi_list (pv 0)) (pi_or (pi_tup (pv 0)) (pi_str (pv 0)))) (pg_tup rfl (pgs_cons (pg_name (i := 4) sc_law_road.nd rfl (by first | exact Or.inl rfl | exact Or.inr rfl)) (pgs_cons (pg_name (i := 5) sc_law_road.nd rfl (by first | exact Or.inl rfl | exact Or.inr rfl)) (pgs_cons (pg_name (i := 6) sc_law_road.nd rfl (by first | exact Or.inl rfl | exact Or.inr rfl)) (pgs_cons (pg_name (i := 7) sc_law_road.nd rfl (by first | exact Or.inl rfl | exact Or.inr rfl)) (pgs_cons (pg_name (i := 8) sc_law_road.nd rfl (by first | exact Or.inl rfl | exact Or.inr rfl)) pgs_nil)))))) (pss_one (ps_set (i := 3) sc_law_road.nd rfl (by first | exact Or.inl rfl | exact Or.inr rfl) (pe_op op_addP (pv 3) (pe_lst (pa_cons (pe_mkP m_Bridge hr (by decide) rfl (pa_cons (pv 4) (pa_cons (pv 5) (pa_cons (pv 6) (pa_cons (pv 7) (pa_cons (pv 8) pa_nil)))))) (pa_cons (pe_mkP m_Open hr (by decide) rfl (pa_cons (pe_op op_addP pe_int (pe_op op_fdiv (pv 5) pe_int)) pa_nil)) pa_nil)))))))
      (pss_one (ps_ret (pe_mkP m_Road hr (by decide) rfl (pa_cons (pv 3) (pa_cons (pv 1) (pa_cons (pv 2) pa_nil)))))))), ?_⟩
  exact run_ok (K := K) (ns := kNames) (fl' := []) (n := 9) (b := B_law_road)
    (s_seq (s_set 3 (PuF.pe (pu_lst (pa_consD (pu_make .Open d_Open (pa_consD (oS (pu_op r2_add (pu_int _) (cS (pu_call ca_len (pa_consD (pu_var 0) pa_nilD))))) pa_nilD)) pa_nilD))))
    (s_seq (s_for (pi_any (pu_var 0)) (g_tup (gs_cons (i := 4) rfl (gs_cons (i := 5) rfl (gs_cons (i := 6) rfl (gs_cons (i := 7) rfl (gs_cons (i := 8) rfl gs_nil))))))
    (s_set 3 (oS (pu_op r2_add (pu_var 3) (PuF.pe (pu_lst (pa_consD (pu_make .Bridge d_Bridge (pa_consD (pu_var 4) (pa_consD (pu_var 5) (pa_consD (pu_var 6) (pa_consD (pu_var 7) (pa_consD (pu_var 8) pa_nilD)))))) (pa_consD (pu_make .Open d_Open (pa_consD (oS (pu_op r2_add (pu_int _) (oS (pu_op r2_fdivC (pu_var 5) (pu_int _))))) pa_nilD)) pa_nilD))))))))
    (s_ret (pu_make .Road d_Road (pa_consD (pu_var 3) (pa_consD (pu_var 1) (pa_consD (pu_var 2) pa_nilD))))))) rfl (by decide) h
theorem ok_law_frac {f : Addr} {fd : FuncData} (F : Fun K "_law_frac" "_law_frac" s_law_frac f fd) (z_abs : mg "abs" = none) :
    FnOk P w K mg base CX0 1 f fd ["_law_above", "_law_beneath"] (sp_law_frac K) := by
  refine F.ok sc_law_frac (fun vs H Q E h => spP_len h) (fun cdv A outer s H vs Q E hr h => ?_)
  have hu := hr.units
  have h : spP K kNames false 2 (runD 4 B_law_frac) vs H Q E := by rw [← seal_eq (runD 4 B_law_frac)]; exact h
  refine ⟨_, (pss_cons (ps_set (i := 2) sc_law_frac.nd rfl (by first | exact Or.inl rfl | exact Or.inr rfl) (pe_callB call_abs rfl z_abs b_abs (pa_cons (pv 0) pa_nil)))
      (pss_cons (ps_set (i := 3) sc_law_frac.nd rfl (by first | exact Or.inl rfl | exact Or.inr rfl) (pe_callB call_abs rfl z_abs b_abs (pa_cons (pv 1) pa_nil)))
      (pss_cons (ps_while PassesOwn.never (pt_cmpR (op_neG hu) (pv 3) pe_int (nomark _)) (pss_one (ps_par (i := 2) (j := 3) rfl sc_law_frac.nd rfl rfl (by decide) rfl rfl (pa_cons (pv 3) (pa_cons (pe_op op_mod (pv 2) (pv 3)) pa_nil)) rfl)))
      (pss_cons (ps_if (pt_cmpR op_lt (pv 1) pe_int (nomark _)) (pss_one (ps_set (i := 2) sc_law_frac.nd rfl (by first | exact Or.inl rfl | exact Or.inr rfl) (pe_un un_neg (pv 2)))) pss_nil)
      (pss_one (ps_ret (pe_tup (pa_cons (pe_op op_fdivB (pv 0) (pv 2)) (pa_cons (pe_op op_fdivB (pv 1) (pv 2)) pa_nil))))))))), ?_⟩
  exact run_ok (K := K) (ns := kNames) (fl' := []) (n := 4) (b := B_law_frac)
    (s_seq (s_set 2 (cS (pu_call ca_abs (pa_consD (pu_var 0) pa_nilD))))
    (s_seq (s_set 3 (cS (pu_call ca_abs (pa_consD (pu_var 1) pa_nilD))))
    (s_seq (s_while (pt_tD (oS (pu_op r2_ne (pu_var 3) (pu_int _))))
    (s_par 2 3 (pa_consD (pu_var 3) (pa_consD (oS (pu_op r2_mod (pu_var 2) (pu_var 3))) pa_nilD)) rfl rfl))
    (s_seq (s_if (pt_tD (oS (pu_op r2_lt (pu_var 1) (pu_int _)))) (s_set 2 (uS (pu_un un_neg' (pu_var 2))))
    s_next)
    (s_ret (pu_tup (pa_consD (oS (pu_op r2_fdiv (pu_var 0) (pu_var 2))) (pa_consD (oS (pu_op r2_fdiv (pu_var 1) (pu_var 2))) pa_nilD)))))))) rfl (by decide) h
theorem ok_law_wheels {f : Addr} {fd : FuncData} (F : Fun K "_law_wheels" "_law_wheels" s_law_wheels f fd) (g_law_mix : Got P w K mg base 1 "_law_mix" ["_law_cell", "_law_factor"] (sp_law_mix K)) (z_range : mg "range" = none) :
    FnOk P w K mg base CX0 2 f fd ["_law_cell", "_law_bears"] (sp_law_wheels K) := by
  refine F.ok sc_law_wheels (fun vs H Q E h => spP_len h) (fun cdv A outer s H vs Q E hr h => ?_)
  have hu := hr.units
  have h : spP K kNames true 2 (runF 8 B_law_wheels) vs H Q E := by rw [← seal_eq (runF 8 B_law_wheels)]; exact h
  refine ⟨_, (pss_cons (ps_set (i := 2) sc_law_wheels.nd rfl (by first | exact Or.inl rfl | exact Or.inr rfl) (pe_go g_law_mix hr (by first | decide | omega) rfl (pa_cons (pv 0) (pa_cons pe_int pa_nil))))
      (pss_cons (ps_set (i := 3) sc_law_wheels.nd rfl (by first | exact Or.inl rfl | exact Or.inr rfl) (pe_op op_addP pe_int (pe_op op_mod (pv 2) pe_int)))
      (pss_cons (ps_set (i := 4) sc_law_wheels.nd rfl (by first | exact Or.inl rfl | exact Or.inr rfl) (pe_lst pa_nil))
      (pss_cons (ps_for PassesOwn.never rfl (pi_range1 rfl z_range (pa_cons (pv 3) pa_nil)) (pg_name (i := 5) sc_law_wheels.nd rfl (by first | exact Or.inl rfl | exact Or.inr rfl)) (pss_cons (ps_set (i := 6) sc_law_wheels.nd rfl (by first | exact Or.inl rfl | exact Or.inr rfl) (pe_go g_law_mix hr (by first | decide | omega) rfl (pa_cons (pe_op op_addP (pv 0) (pe_op op_mulX pe_int (pv 5))) (pa_cons pe_int pa_nil))))
      (pss_cons (ps_set (i := 7) sc_law_wheels.nd rfl (by first | exact Or.inl rfl | exact Or.inr rfl) (pe_op op_mod (pv 6) (pe_op op_addP (pe_op op_fdivB (pv 1) (pv 3)) pe_int)))
      (pss_cons (ps_if (pt_cmpR (op_eqG hu) (pe_op op_mod (pe_op op_fdiv (pv 6) pe_int) pe_int) pe_int (nomark _)) (pss_one (ps_set (i := 7) sc_law_wheels.nd rfl (by first | exact Or.inl rfl | exact Or.inr rfl) (pe_op op_fdivB (pv 1) (pv 3)))) pss_nil)
      (pss_one (ps_expr (pe_bm PySem.F.plainAttrs_list PySem.F.slot_list_append PySem.F.type_list_append mt_append (pv 4) (pa_cons (pe_tup (pa_cons (pe_op op_addP pe_int (pe_op op_mod (pe_op op_fdiv (pv 6) pe_int) pe_int)) (pa_cons (pe_op op_sub (pv 7) (pe_op op_mod (pe_op op_fdiv (pv 6) pe_int) (pe_op op_addP (pv 7) pe_int))) (pa_cons (pv 7) pa_nil)))) pa_nil))))))))
      (pss_one (ps_ret (pv 4))))))), ?_⟩
  exact run_okF (K := K) (ns := kNames) (fl' := []) (n := 8) (b := B_law_wheels)
    (s_seq (s_set 2 (pu_fn (pa_consD (pu_var 0) (pa_consD (pu_int _) pa_nilD))))
    (s_seq (s_set 3 (oS (pu_op r2_add (pu_int _) (oS (pu_op r2_mod (pu_var 2) (pu_int _))))))
    (s_seq (s_new 4 (pu_lst pa_nilD) (by decide))
    (s_seq (s_for (iS (pi_rng1 (pa_consD (pu_var 3) pa_nilD))) (g_name 5 rfl)
    (s_seq (s_set 6 (pu_fn (pa_consD (oS (pu_op r2_add (pu_var 0) (oS (pu_op r2_mul (pu_int _) (pu_var 5))))) (pa_consD (pu_int _) pa_nilD))))
    (s_seq (s_set 7 (oS (pu_op r2_mod (pu_var 6) (oS (pu_op r2_add (oS (pu_op r2_fdiv (pu_var 1) (pu_var 3))) (pu_int _))))))
    (s_seq (s_if (pt_tD (oS (pu_op r2_eq (oS (pu_op r2_mod (oS (pu_op r2_fdivC (pu_var 6) (pu_int _))) (pu_int _))) (pu_int _)))) (s_set 7 (oS (pu_op r2_fdiv (pu_var 1) (pu_var 3))))
    s_next)
    (s_app 4 (pu_tup (pa_consD (oS (pu_op r2_add (pu_int _) (oS (pu_op r2_mod (oS (pu_op r2_fdivC (pu_var 6) (pu_int _))) (pu_int _))))) (pa_consD (oS (pu_op r2_sub (pu_var 7) (oS (pu_op r2_mod (oS (pu_op r2_fdivC (pu_var 6) (pu_int _))) (oS (pu_op r2_add (pu_var 7) (pu_int _))))))) (pa_consD (pu_var 7) pa_nilD)))) rfl)))))
    (s_retO 4 rfl))))) rfl (by decide) h
theorem ok_law_close {f : Addr} {fd : FuncData} (F : Fun K "_law_close" "_law_close" s_law_close f fd) (g_law_mix : Got P w K mg base 1 "_law_mix" ["_law_cell", "_law_factor"] (sp_law_mix K)) (g_law_frac : Got P w K mg base 1 "_law_frac" ["_law_above", "_law_beneath"] (sp_law_frac K)) (g_law_wheels : Got P w K mg base 2 "_law_wheels" ["_law_cell", "_law_bears"] (sp_law_wheels K)) (z_len : mg "len" = none) :
    FnOk P w K mg base CX0 3 f fd ["_law_cells", "_law_bridges_here", "_law_most"] (sp_law_close K) := by
  refine F.ok sc_law_close (fun vs H Q E h => spP_len h) (fun cdv A outer s H vs Q E hr h => ?_)
  have hu := hr.units
  have h : spP K kNames true 3 (runF 8 B_law_close) vs H Q E := by rw [← seal_eq (runF 8 B_law_close)]; exact h
  refine ⟨_, (pss_cons (ps_set (i := 3) sc_law_close.nd rfl (by first | exact Or.inl rfl | exact Or.inr rfl) (pe_lst pa_nil))
      (pss_cons (ps_for PassesOwn.never rfl (pi_or (pi_list (pv 0)) (pi_or (pi_tup (pv 0)) (pi_str (pv 0)))) (pg_name (i := 4) sc_law_close.nd rfl (by first | exact Or.inl rfl | exact Or.inr rfl)) (pss_cons (ps_set (i := 5) sc_law_close.nd rfl (by first | exact Or.inl rfl | exact Or.inr rfl) (pe_go g_law_mix hr (by first | decide | omega) rfl (pa_cons (pv 4) (pa_cons pe_int pa_nil))))
      (pss_cons (ps_set (i := 6) sc_law_close.nd rfl (by first | exact Or.inl rfl | exact Or.inr rfl) (pe_ix ix_seq (pv 1) (pe_op op_mod (pe_op op_fdiv (pv 5) pe_int) (pe_callB lenG rfl z_len b_len (pa_cons (pv 1) pa_nil))) (fun _ _ => rfl)))
      (pss_cons (ps_set (i := 7) sc_law_close.nd rfl (by first | exact Or.inl rfl | exact Or.inr rfl) (pe_go g_law_frac hr (by first | decide | omega) rfl (pa_cons (pe_op op_mod (pe_op op_fdiv (pv 5) pe_int) pe_int) (pa_cons (pe_ix ix_seq (pe_lst (pa_cons pe_int (pa_cons pe_int (pa_cons pe_int (pa_cons pe_int (pa_cons pe_int (pa_cons pe_int pa_nil))))))) (pe_op op_mod (pv 5) pe_int) (fun _ _ => rfl)) pa_nil))))
      (pss_one (ps_expr (pe_bm PySem.F.plainAttrs_list PySem.F.slot_list_append PySem.F.type_list_append mt_append (pv 3) (pa_cons (pe_tup (pa_cons (pe_ix ix_seq (pv 6) pe_int (fun _ _ => rfl)) (pa_cons (pv 7) (pa_cons (pe_op op_addP pe_int (pe_op op_mod (pe_op op_fdiv (pv 5) pe_int) pe_int)) (pa_cons (pe_go g_law_wheels hr (by first | decide | omega) rfl (pa_cons (pv 4) (pa_cons (pe_op op_mulX (pv 2) (pe_ix ix_seq (pv 6) pe_int (fun _ _ => rfl))) pa_nil))) pa_nil))))) pa_nil))))))))
      (pss_one (ps_ret (pv 3))))), ?_⟩
  exact run_okF (K := K) (ns := kNames) (fl' := []) (n := 8) (b := B_law_close)
    (s_seq (s_new 3 (pu_lst pa_nilD) (by decide))
    (s_seq (s_for (pi_any (pu_var 0)) (g_name 4 rfl)
    (s_seq (s_set 5 (pu_fn (pa_consD (pu_var 4) (pa_consD (pu_int _) pa_nilD))))
    (s_seq (s_set 6 (oS (pu_op r2_ix (pu_var 1) (oS (pu_op r2_mod (oS (pu_op r2_fdivC (pu_var 5) (pu_int _))) (cS (pu_call ca_len (pa_consD (pu_var 1) pa_nilD))))))))
    (s_seq (s_set 7 (pu_fn (pa_consD (oS (pu_op r2_mod (oS (pu_op r2_fdivC (pu_var 5) (pu_int _))) (pu_int _))) (pa_consD (oS (pu_op r2_ix (PuF.pe (pu_lst (pa_consD (pu_int _) (pa_consD (pu_int _) (pa_consD (pu_int _) (pa_consD (pu_int _) (pa_consD (pu_int _) (pa_consD (pu_int _) pa_nilD)))))))) (oS (pu_op r2_mod (pu_var 5) (pu_int _))))) pa_nilD))))
    (s_app 3 (pu_tup (pa_consD (oS (pu_op r2_ix (pu_var 6) (pu_int _))) (pa_consD (pu_var 7) (pa_consD (oS (pu_op r2_add (pu_int _) (oS (pu_op r2_mod (oS (pu_op r2_fdivC (pu_var 5) (pu_int _))) (pu_int _))))) (pa_consD (PuF.pe (pu_fnF (pa_consD (pu_var 4) (pa_consD (oS (pu_op r2_mul (pu_var 2) (oS (pu_op r2_ix (pu_var 6) (pu_int _))))) pa_nilD)))) pa_nilD))))) rfl)))))
    (s_retO 3 rfl))) rfl (by decide) h
theorem ok_law_offsets {f : Addr} {fd : FuncData} (F : Fun K "_law_offsets" "_law_offsets" s_law_offsets f fd)  :
    FnOk P w K mg base CX0 1 f fd ["_law_wheels_here"] (sp_law_offsets K) := by
  refine F.ok sc_law_offsets (fun vs H Q E h => spP_len h) (fun cdv A outer s H vs Q E hr h => ?_)
  have hu := hr.units
  have h : spP K kNames true 1 (runF 6 B_law_offsets) vs H Q E := by rw [← seal_eq (runF 6 B_law_offsets)]; exact h
  refine ⟨_, (pss_cons (ps_set (i := 1) sc_law_offsets.nd rfl (by first | exact Or.inl rfl | exact Or.inr rfl) pe_int)
      (pss_cons (ps_set (i := 2) sc_law_offsets.nd rfl (by first | exact Or.inl rfl | exact Or.inr rfl) (pe_lst (pa_cons pe_int pa_nil)))
      (pss_cons (ps_for PassesOwn.never rfl (pi_or (pi_list (pe_slice slX (pv 0) (po_some pe_int) po_none)) (pi_or (pi_tup (pe_slice slX (pv 0) (po_some pe_int) po_none)) (pi_str (pe_slice slX (pv 0) (po_some pe_int) po_none)))) (pg_tup rfl (pgs_cons (pg_name (i := 3) sc_law_offsets.nd rfl (by first | exact Or.inl rfl | exact Or.inr rfl)) (pgs_cons (pg_name (i := 4) sc_law_offsets.nd rfl (by first | exact Or.inl rfl | exact Or.inr rfl)) (pgs_cons (pg_name (i := 5) sc_law_offsets.nd rfl (by first | exact Or.inl rfl | exact Or.inr rfl)) pgs_nil)))) (pss_cons (ps_set (i := 1) sc_law_offsets.nd rfl (by first | exact Or.inl rfl | exact Or.inr rfl) (pe_op op_addP (pv 1) (pv 3)))
      (pss_one (ps_expr (pe_bm PySem.F.plainAttrs_list PySem.F.slot_list_append PySem.F.type_list_append mt_append (pv 2) (pa_cons (pv 1) pa_nil))))))
      (pss_one (ps_ret (pv 2)))))), ?_⟩
  exact run_okF (K := K) (ns := kNames) (fl' := []) (n := 6) (b := B_law_offsets)
    (s_seq (s_set 1 (pu_int _))
    (s_seq (s_new 2 (pu_lst (pa_consD (pu_int _) pa_nilD)) (by decide))
    (s_seq (s_for (pi_any (slS (pu_sl (pu_var 0) (po_at (pu_int _)) po_no))) (g_tup (gs_cons (i := 3) rfl (gs_cons (i := 4) rfl (gs_cons (i := 5) rfl gs_nil))))
    (s_seq (s_set 1 (oS (pu_op r2_add (pu_var 1) (pu_var 3))))
    (s_app 2 (pu_var 1) rfl)))
    (s_retO 2 rfl)))) rfl (by decide) h
theorem ok_law_part {f : Addr} {fd : FuncData} (F : Fun K "_law_part" "_law_part" s_law_part f fd)  :
    FnOk P w K mg base CX0 1 f fd ["_law_time"] (sp_law_part K) := by
  refine F.ok sc_law_part (fun vs H Q E h => spP_len h) (fun cdv A outer s H vs Q E hr h => ?_)
  have hu := hr.units
  have h : spP K kNames false 1 (runD 1 B_law_part) vs H Q E := by rw [← seal_eq (runD 1 B_law_part)]; exact h
  refine ⟨_, (pss_one (ps_ret (pe_op op_mulX (pe_ix ix_seq (pv 0) pe_int (fun _ _ => rfl)) (pe_op op_fdivB pe_int (pe_ix ix_seq (pv 0) pe_int (fun _ _ => rfl)))))), ?_⟩
  exact run_ok (K := K) (ns := kNames) (fl' := []) (n := 1) (b := B_law_part)
    (s_ret (oS (pu_op r2_mul (oS (pu_op r2_ix (pu_var 0) (pu_int _))) (oS (pu_op r2_fdiv (pu_int _) (oS (pu_op r2_ix (pu_var 0) (pu_int _)))))))) rfl (by decide) h
theorem ok_law_own_spans {f : Addr} {fd : FuncData} (F : Fun K "_law_own_spans" "_law_own_spans" s_law_own_spans f fd) (g_law_offsets : Got P w K mg base 1 "_law_offsets" ["_law_wheels_here"] (sp_law_offsets K)) (g_law_part : Got P w K mg base 1 "_law_part" ["_law_time"] (sp_law_part K)) (z_zip : mg "zip" = none) :
    FnOk P w K mg base CX0 2 f fd ["_law_bridge", "_law_crossing"] (sp_law_own_spans K) := by
  refine F.ok sc_law_own_spans (fun vs H Q E h => spP_len h) (fun cdv A outer s H vs Q E hr h => ?_)
  have hu := hr.units
  have h : spP K kNames true 2 (runF 10 B_law_own_spans) vs H Q E := by rw [← seal_eq (runF 10 B_law_own_spans)]; exact h
  refine ⟨_, (pss_cons (ps_asg (pv 1) (pg_tup rfl (pgs_cons (pg_name (i := 2) sc_law_own_spans.nd rfl (by first | exact Or.inl rfl | exact Or.inr rfl)) (pgs_cons (pg_name (i := 3) sc_law_own_spans.nd rfl (by first | exact Or.inl rfl | exact Or.inr rfl)) (pgs_cons (pg_name (i := 4) sc_law_own_spans.nd rfl (by first | exact Or.inl rfl | exact Or.inr rfl)) (pgs_cons (pg_name (i := 5) sc_law_own_spans.nd rfl (by first | exact Or.inl rfl | exact Or.inr rfl)) pgs_nil))))))
      (pss_cons (ps_set (i := 6) sc_law_own_spans.nd rfl (by first | exact Or.inl rfl | exact Or.inr rfl) (pe_lst pa_nil))
      (pss_cons (ps_for PassesOwn.never rfl (pi_zip rfl z_zip (pa_cons (pe_go g_law_offsets hr (by first | decide | omega) rfl (pa_cons (pv 5) pa_nil)) (pa_cons (pv 5) pa_nil))) (pg_tup rfl (pgs_cons (pg_name (i := 7) sc_law_own_spans.nd rfl (by first | exact Or.inl rfl | exact Or.inr rfl)) (pgs_cons (pg_name (i := 8) sc_law_own_spans.nd rfl (by first | exact Or.inl rfl | exact Or.inr rfl)) pgs_nil))) (pss_cons (ps_set (i := 9) sc_law_own_spans.nd rfl (by first | exact Or.inl rfl | exact Or.inr rfl) (pe_op op_addP (pe_go g_law_part hr (by first | decide | omega) rfl (pa_cons (pv 3) pa_nil)) (pe_op op_mulX (pv 7) (pe_op op_fdivB pe_int (pv 4)))))
      (pss_one (ps_expr (pe_bm PySem.F.plainAttrs_list PySem.F.slot_list_append PySem.F.type_list_append mt_append (pv 6) (pa_cons (pe_tup (pa_cons (pv 9) (pa_cons (pe_op op_addP (pv 9) (pe_op op_mulX (pe_ix ix_seq (pv 0) pe_int (fun _ _ => rfl)) (pe_op op_fdivB pe_int (pv 4)))) (pa_cons (pe_ix ix_seq (pv 8) pe_int (fun _ _ => rfl)) (pa_cons (pe_ix ix_seq (pv 8) pe_int (fun _ _ => rfl)) pa_nil))))) pa_nil))))))
      (pss_one (ps_ret (pv 6)))))), ?_⟩
  exact run_okF (K := K) (ns := kNames) (fl' := []) (n := 10) (b := B_law_own_spans)
    (s_seq (s_asg (pu_var 1) (g_tup (gs_cons (i := 2) rfl (gs_cons (i := 3) rfl (gs_cons (i := 4) rfl (gs_cons (i := 5) rfl gs_nil))))))
    (s_seq (s_new 6 (pu_lst pa_nilD) (by decide))
    (s_seq (s_for (iS (pi_zipL (pa_consD (PuF.pe (pu_fnF (pa_consD (pu_var 5) pa_nilD))) (pa_consD (pu_var 5) pa_nilD)))) (g_tup (gs_cons (i := 7) rfl (gs_cons (i := 8) rfl gs_nil)))
    (s_seq (s_set 9 (oS (pu_op r2_add (pu_fn (pa_consD (pu_var 3) pa_nilD)) (oS (pu_op r2_mul (pu_var 7) (oS (pu_op r2_fdiv (pu_int _) (pu_var 4))))))))
    (s_app 6 (pu_tup (pa_consD (pu_var 9) (pa_consD (oS (pu_op r2_add (pu_var 9) (oS (pu_op r2_mul (oS (pu_op r2_ix (pu_var 0) (pu_int _))) (oS (pu_op r2_fdiv (pu_int _) (pu_var 4))))))) (pa_consD (oS (pu_op r2_ix (pu_var 8) (pu_int _))) (pa_consD (oS (pu_op r2_ix (pu_var 8) (pu_int _))) pa_nilD))))) rfl)))
    (s_retO 6 rfl)))) rfl (by decide) h
theorem ok_law_spans {f : Addr} {fd : FuncData} (F : Fun K "_law_spans" "_law_spans" s_law_spans f fd) (g_law_own_spans : Got P w K mg base 2 "_law_own_spans" ["_law_bridge", "_law_crossing"] (sp_law_own_spans K)) :
    FnOk P w K mg base CX0 3 f fd ["_law_bridge", "_law_crossings"] (sp_law_spans K) := by
  refine F.ok sc_law_spans (fun vs H Q E h => spP_len h) (fun cdv A outer s H vs Q E hr h => ?_)
  have hu := hr.units
  have h : spP K kNames false 2 (runD 4 B_law_spans) vs H Q E := by rw [← seal_eq (runD 4 B_law_spans)]; exact h
  refine ⟨_, (pss_cons (ps_set (i := 2) sc_law_spans.nd rfl (by first | exact Or.inl rfl | exact Or.inr rfl) (pe_lst pa_nil))
      (pss_cons (ps_for PassesOwn.never rfl (pi_or (pi_list (pv 1)) (pi_or (pi_tup (pv 1)) (pi_str (pv 1)))) (pg_name (i := 3) sc_law_spans.nd rfl (by first | exact Or.inl rfl | exact Or.inr rfl)) (pss_one (ps_if (pt_cmpR (op_eqG hu) (pe_ix ix_seq (pv 3) pe_int (fun _ _ => rfl)) (pe_ix ix_seq (pv 0) pe_int (fun _ _ => rfl)) (nomark _)) (pss_one (ps_set (i := 2) sc_law_spans.nd rfl (by first | exact Or.inl rfl | exact Or.inr rfl) (pe_op op_addP (pv 2) (pe_go g_law_own_spans hr (by first | decide | omega) rfl (pa_cons (pv 0) (pa_cons (pv 3) pa_nil)))))) pss_nil)))
      (pss_one (ps_ret (pv 2))))), ?_⟩
  exact run_ok (K := K) (ns := kNames) (fl' := []) (n := 4) (b := B_law_spans)
    (s_seq (s_set 2 (PuF.pe (pu_lst pa_nilD)))
    (s_seq (s_for (pi_any (pu_var 1)) (g_name 3 rfl)
    (s_if (pt_tD (oS (pu_op r2_eq (oS (pu_op r2_ix (pu_var 3) (pu_int _))) (oS (pu_op r2_ix (pu_var 0) (pu_int _)))))) (s_set 2 (oS (pu_op r2_add (pu_var 2) (PuF.pe (pu_fnF (pa_consD (pu_var 0) (pa_consD (pu_var 3) pa_nilD)))))))
    s_next))
    (s_ret (pu_var 2)))) rfl (by decide) h
theorem ok_law_shut_of {f : Addr} {fd : FuncData} (F : Fun K "_law_shut_of" "_law_shut_of" s_law_shut_of f fd)  :
    FnOk P w K mg base CX0 1 f fd ["_law_shuts_here", "_law_name"] (sp_law_shut_of K) := by
  refine F.ok sc_law_shut_of (fun vs H Q E h => spP_len h) (fun cdv A outer s H vs Q E hr h => ?_)
  have hu := hr.units
  have h : spP K kNames true 2 (runF 2 B_law_shut_of) vs H Q E := by rw [← seal_eq (runF 2 B_law_shut_of)]; exact h
  refine ⟨_, (pss_one (ps_ret (pe_compT ["_law_name"] [1] (CompCT.to cs_law_shut_of_0 rfl rfl) rfl rfl (fun _ _ _ _ _ => (pg_tupK (K := K) (n := 3) rfl rfl (pgs_cons (pg_comp (CompCT.to cs_law_shut_of_0 rfl rfl) 0 rfl (by decide)) (pgs_cons (pg_comp (CompCT.to cs_law_shut_of_0 rfl rfl) 1 rfl (by decide)) (pgs_cons (pg_comp (CompCT.to cs_law_shut_of_0 rfl rfl) 2 rfl (by decide)) pgs_nil))))) (pi_or (pi_list (pv 0)) (pi_or (pi_tup (pv 0)) (pi_str (pv 0)))) (fun _ _ _ _ _ => (pif_one (pt_cmpR (op_eqGK (K := K) rfl (by exact hu)) (pv 0) (pv 3) (nomark _)))) (fun _ _ _ _ _ => (pe_tup (pa_cons (pv 1) (pa_cons (pv 2) pa_nil))))))), ?_⟩
  exact run_okF (K := K) (ns := kNames) (fl' := []) (n := 2) (b := B_law_shut_of)
    (s_retF (pu_compT (pi_any (pu_var 0)) (pt_tD (oS (pu_op r2_eq (pu_var 0) (pu_var 3)))) (pu_tup (pa_consD (pu_var 1) (pa_consD (pu_var 2) pa_nilD))))) rfl (by decide) h
theorem ok_law_entries {f : Addr} {fd : FuncData} (F : Fun K "_law_entries" "_law_entries" s_law_entries f fd) (g_law_shut_of : Got P w K mg base 1 "_law_shut_of" ["_law_shuts_here", "_law_name"] (sp_law_shut_of K)) :
    FnOk P w K mg base CX0 2 f fd ["_law_bridge", "_law_shuts_here", "_law_spans_here", "_law_own"] (sp_law_entries K) := by
  refine F.ok sc_law_entries (fun vs H Q E h => spP_len h) (fun cdv A outer s H vs Q E hr h => ?_)
  have hu := hr.units
  have h : spP K kNames false 4 (runD 11 B_law_entries) vs H Q E := by rw [← seal_eq (runD 11 B_law_entries)]; exact h
  refine ⟨_, (pss_cons (ps_set (i := 4) sc_law_entries.nd rfl (by first | exact Or.inl rfl | exact Or.inr rfl) (pe_lst (pa_cons (pe_ix ix_seq (pe_ix ix_seq (pv 3) pe_int (fun _ _ => rfl)) pe_int (fun _ _ => rfl)) pa_nil)))
      (pss_cons (ps_for PassesOwn.never rfl (pi_or (pi_list (pe_go g_law_shut_of hr (by first | decide | omega) rfl (pa_cons (pv 1) (pa_cons (pe_ix ix_seq (pv 0) pe_int (fun _ _ => rfl)) pa_nil)))) (pi_or (pi_tup (pe_go g_law_shut_of hr (by first | decide | omega) rfl (pa_cons (pv 1) (pa_cons (pe_ix ix_seq (pv 0) pe_int (fun _ _ => rfl)) pa_nil)))) (pi_str (pe_go g_law_shut_of hr (by first | decide | omega) rfl (pa_cons (pv 1) (pa_cons (pe_ix ix_seq (pv 0) pe_int (fun _ _ => rfl)) pa_nil)))))) (pg_tup rfl (pgs_cons (pg_name (i := 5) sc_law_entries.nd rfl (by first | exact Or.inl rfl | exact Or.inr rfl)) (pgs_cons (pg_name (i := 6) sc_law_entries.nd rfl (by first | exact Or.inl rfl | exact Or.inr rfl)) pgs_nil))) (pss_one (ps_set (i := 4) sc_law_entries.nd rfl (by first | exact Or.inl rfl | exact Or.inr rfl) (pe_op op_addP (pv 4) (pe_lst (pa_cons (pe_op op_addP (pe_op op_sub (pe_op op_mulX pe_int (pv 5)) (pe_ix ix_seq (pe_ix ix_seq (pv 3) (pe_un un_neg pe_int) (fun _ _ => rfl)) pe_int (fun _ _ => rfl))) (pe_ix ix_seq (pe_ix ix_seq (pv 3) pe_int (fun _ _ => rfl)) pe_int (fun _ _ => rfl))) (pa_cons (pe_op op_addP (pe_op op_sub (pe_op op_mulX pe_int (pv 6)) (pe_ix ix_seq (pe_ix ix_seq (pv 3) (pe_un un_neg pe_int) (fun _ _ => rfl)) pe_int (fun _ _ => rfl))) (pe_ix ix_seq (pe_ix ix_seq (pv 3) pe_int (fun _ _ => rfl)) pe_int (fun _ _ => rfl))) (pa_cons (pe_op op_mulX pe_int (pv 6)) pa_nil))))))))
      (pss_cons (ps_for PassesOwn.never rfl (pi_or (pi_list (pv 2)) (pi_or (pi_tup (pv 2)) (pi_str (pv 2)))) (pg_tup rfl (pgs_cons (pg_name (i := 7) sc_law_entries.nd rfl (by first | exact Or.inl rfl | exact Or.inr rfl)) (pgs_cons (pg_name (i := 8) sc_law_entries.nd rfl (by first | exact Or.inl rfl | exact Or.inr rfl)) (pgs_cons (pg_name (i := 9) sc_law_entries.nd rfl (by first | exact Or.inl rfl | exact Or.inr rfl)) (pgs_cons (pg_name (i := 10) sc_law_entries.nd rfl (by first | exact Or.inl rfl | exact Or.inr rfl)) pgs_nil))))) (pss_one (ps_set (i := 4) sc_law_entries.nd rfl (by first | exact Or.inl rfl | exact Or.inr rfl) (pe_op op_addP (pv 4) (pe_lst (pa_cons (pe_op op_addP (pe_op op_sub (pv 8) (pe_ix ix_seq (pe_ix ix_seq (pv 3) (pe_un un_neg pe_int) (fun _ _ => rfl)) pe_int (fun _ _ => rfl))) (pe_ix ix_seq (pe_ix ix_seq (pv 3) pe_int (fun _ _ => rfl)) pe_int (fun _ _ => rfl))) (pa_cons (pe_op op_addP (pe_op op_sub (pv 7) (pe_ix ix_seq (pe_ix ix_seq (pv 3) (pe_un un_neg pe_int) (fun _ _ => rfl)) pe_int (fun _ _ => rfl))) (pe_ix ix_seq (pe_ix ix_seq (pv 3) pe_int (fun _ _ => rfl)) pe_int (fun _ _ => rfl))) (pa_cons (pv 8) pa_nil))))))))
      (pss_one (ps_ret (pv 4)))))), ?_⟩
  exact run_ok (K := K) (ns := kNames) (fl' := []) (n := 11) (b := B_law_entries)
    (s_seq (s_set 4 (PuF.pe (pu_lst (pa_consD (oS (pu_op r2_ix (oS (pu_op r2_ix (pu_var 3) (pu_int _))) (pu_int _))) pa_nilD))))
    (s_seq (s_for (pi_any (PuF.pe (pu_fnF (pa_consD (pu_var 1) (pa_consD (oS (pu_op r2_ix (pu_var 0) (pu_int _))) pa_nilD))))) (g_tup (gs_cons (i := 5) rfl (gs_cons (i := 6) rfl gs_nil)))
    (s_set 4 (oS (pu_op r2_add (pu_var 4) (PuF.pe (pu_lst (pa_consD (oS (pu_op r2_add (oS (pu_op r2_sub (oS (pu_op r2_mul (pu_int _) (pu_var 5))) (oS (pu_op r2_ix (oS (pu_op r2_ix (pu_var 3) (uS (pu_un un_neg' (pu_int _))))) (pu_int _))))) (oS (pu_op r2_ix (oS (pu_op r2_ix (pu_var 3) (pu_int _))) (pu_int _))))) (pa_consD (oS (pu_op r2_add (oS (pu_op r2_sub (oS (pu_op r2_mul (pu_int _) (pu_var 6))) (oS (pu_op r2_ix (oS (pu_op r2_ix (pu_var 3) (uS (pu_un un_neg' (pu_int _))))) (pu_int _))))) (oS (pu_op r2_ix (oS (pu_op r2_ix (pu_var 3) (pu_int _))) (pu_int _))))) (pa_consD (oS (pu_op r2_mul (pu_int _) (pu_var 6))) pa_nilD)))))))))
    (s_seq (s_for (pi_any (pu_var 2)) (g_tup (gs_cons (i := 7) rfl (gs_cons (i := 8) rfl (gs_cons (i := 9) rfl (gs_cons (i := 10) rfl gs_nil)))))
    (s_set 4 (oS (pu_op r2_add (pu_var 4) (PuF.pe (pu_lst (pa_consD (oS (pu_op r2_add (oS (pu_op r2_sub (pu_var 8) (oS (pu_op r2_ix (oS (pu_op r2_ix (pu_var 3) (uS (pu_un un_neg' (pu_int _))))) (pu_int _))))) (oS (pu_op r2_ix (oS (pu_op r2_ix (pu_var 3) (pu_int _))) (pu_int _))))) (pa_consD (oS (pu_op r2_add (oS (pu_op r2_sub (pu_var 7) (oS (pu_op r2_ix (oS (pu_op r2_ix (pu_var 3) (uS (pu_un un_neg' (pu_int _))))) (pu_int _))))) (oS (pu_op r2_ix (oS (pu_op r2_ix (pu_var 3) (pu_int _))) (pu_int _))))) (pa_consD (pu_var 8) pa_nilD)))))))))
    (s_ret (pu_var 4))))) rfl (by decide) h
theorem ok_law_highs {f : Addr} {fd : FuncData} (F : Fun K "_law_highs" "_law_highs" s_law_highs f fd) (z_sum : mg "sum" = none) :
    FnOk P w K mg base CX0 1 f fd ["_law_spans_here", "_law_moment"] (sp_law_highs K) := by
  refine F.ok sc_law_highs (fun vs H Q E h => spP_len h) (fun cdv A outer s H vs Q E hr h => ?_)
  have hu := hr.units
  have h : spP K kNames false 2 (runD 2 B_law_highs) vs H Q E := by rw [← seal_eq (runD 2 B_law_highs)]; exact h
  refine ⟨_, (pss_one (ps_ret (pe_callB (call_sum_ints rfl) rfl z_sum b_sum (pa_cons (pe_compT ["_law_moment"] [1] (CompCT.to cs_law_highs_0 rfl rfl) rfl rfl (fun _ _ _ _ _ => (pg_tupK (K := K) (n := 4) rfl rfl (pgs_cons (pg_comp (CompCT.to cs_law_highs_0 rfl rfl) 0 rfl (by decide)) (pgs_cons (pg_comp (CompCT.to cs_law_highs_0 rfl rfl) 1 rfl (by decide)) (pgs_cons (pg_comp (CompCT.to cs_law_highs_0 rfl rfl) 2 rfl (by decide)) (pgs_cons (pg_comp (CompCT.to cs_law_highs_0 rfl rfl) 3 rfl (by decide)) pgs_nil)))))) (pi_or (pi_list (pv 0)) (pi_or (pi_tup (pv 0)) (pi_str (pv 0)))) (fun _ _ _ _ _ => (pif_one (pt_chain op_le op_lt (pv 0) (pv 4) (pv 1)))) (fun _ _ _ _ _ => (pv 3))) pa_nil)))), ?_⟩
  exact run_ok (K := K) (ns := kNames) (fl' := []) (n := 2) (b := B_law_highs)
    (s_ret (cS (pu_call ca_sum (pa_consD (PuF.pe (pu_compT (pi_any (pu_var 0)) (pt_tD (pu_chain r2_le r2_lt (pu_var 0) (pu_var 4) (pu_var 1))) (pu_var 3))) pa_nilD)))) rfl (by decide) h
theorem ok_law_allowed {f : Addr} {fd : FuncData} (F : Fun K "_law_allowed" "_law_allowed" s_law_allowed f fd) (g_law_shut_of : Got P w K mg base 1 "_law_shut_of" ["_law_shuts_here", "_law_name"] (sp_law_shut_of K)) (g_law_highs : Got P w K mg base 1 "_law_highs" ["_law_spans_here", "_law_moment"] (sp_law_highs K)) :
    FnOk P w K mg base CX0 2 f fd ["_law_bridge", "_law_shuts_here", "_law_spans_here", "_law_own"] (sp_law_allowed K) := by
  refine F.ok sc_law_allowed (fun vs H Q E h => spP_len h) (fun cdv A outer s H vs Q E hr h => ?_)
  have hu := hr.units
  have h : spP K kNames false 4 (runD 12 B_law_allowed) vs H Q E := by rw [← seal_eq (runD 12 B_law_allowed)]; exact h
  refine ⟨_, (pss_cons (ps_for PassesOwn.never rfl (pi_or (pi_list (pe_go g_law_shut_of hr (by first | decide | omega) rfl (pa_cons (pv 1) (pa_cons (pe_ix ix_seq (pv 0) pe_int (fun _ _ => rfl)) pa_nil)))) (pi_or (pi_tup (pe_go g_law_shut_of hr (by first | decide | omega) rfl (pa_cons (pv 1) (pa_cons (pe_ix ix_seq (pv 0) pe_int (fun _ _ => rfl)) pa_nil)))) (pi_str (pe_go g_law_shut_of hr (by first | decide | omega) rfl (pa_cons (pv 1) (pa_cons (pe_ix ix_seq (pv 0) pe_int (fun _ _ => rfl)) pa_nil)))))) (pg_tup rfl (pgs_cons (pg_name (i := 4) sc_law_allowed.nd rfl (by first | exact Or.inl rfl | exact Or.inr rfl)) (pgs_cons (pg_name (i := 5) sc_law_allowed.nd rfl (by first | exact Or.inl rfl | exact Or.inr rfl)) pgs_nil))) (pss_one (ps_for PassesOwn.never rfl (pi_or (pi_list (pv 3)) (pi_or (pi_tup (pv 3)) (pi_str (pv 3)))) (pg_tup rfl (pgs_cons (pg_name (i := 6) sc_law_allowed.nd rfl (by first | exact Or.inl rfl | exact Or.inr rfl)) (pgs_cons (pg_name (i := 7) sc_law_allowed.nd rfl (by first | exact Or.inl rfl | exact Or.inr rfl)) (pgs_cons (pg_name (i := 8) sc_law_allowed.nd rfl (by first | exact Or.inl rfl | exact Or.inr rfl)) (pgs_cons (pg_name (i := 9) sc_law_allowed.nd rfl (by first | exact Or.inl rfl | exact Or.inr rfl)) pgs_nil))))) (pss_one (ps_if (PW.pt (pw_and (pt_cmpR op_lt (pv 6) (pe_op op_mulX pe_int (pv 5)) (nomark _)) (pw_and1 (pt_cmpR op_lt (pe_op op_mulX pe_int (pv 4)) (pv 7) (nomark _))))) (pss_one (ps_ret pe_bl)) pss_nil)))))
      (pss_cons (ps_set (i := 10) sc_law_allowed.nd rfl (by first | exact Or.inl rfl | exact Or.inr rfl) (pe_op op_addP (pv 2) (pv 3)))
      (pss_cons (ps_for PassesOwn.never rfl (pi_or (pi_list (pv 10)) (pi_or (pi_tup (pv 10)) (pi_str (pv 10)))) (pg_name (i := 11) sc_law_allowed.nd rfl (by first | exact Or.inl rfl | exact Or.inr rfl)) (pss_one (ps_if (pt_cmpR op_gt (pe_go g_law_highs hr (by first | decide | omega) rfl (pa_cons (pv 10) (pa_cons (pe_ix ix_seq (pv 11) pe_int (fun _ _ => rfl)) pa_nil))) (pe_ix ix_seq (pv 0) pe_int (fun _ _ => rfl)) (nomark _)) (pss_one (ps_ret pe_bl)) pss_nil)))
      (pss_one (ps_ret pe_bl))))), ?_⟩
  exact run_ok (K := K) (ns := kNames) (fl' := []) (n := 12) (b := B_law_allowed)
    (s_seq (s_for (pi_any (PuF.pe (pu_fnF (pa_consD (pu_var 1) (pa_consD (oS (pu_op r2_ix (pu_var 0) (pu_int _))) pa_nilD))))) (g_tup (gs_cons (i := 4) rfl (gs_cons (i := 5) rfl gs_nil)))
    (s_for (pi_any (pu_var 3)) (g_tup (gs_cons (i := 6) rfl (gs_cons (i := 7) rfl (gs_cons (i := 8) rfl (gs_cons (i := 9) rfl gs_nil)))))
    (s_if (pt_andD (pt_tD (oS (pu_op r2_lt (pu_var 6) (oS (pu_op r2_mul (pu_int _) (pu_var 5)))))) (pt_tD (oS (pu_op r2_lt (oS (pu_op r2_mul (pu_int _) (pu_var 4))) (pu_var 7))))) (s_ret (pu_bl _))
    s_next)))
    (s_seq (s_set 10 (oS (pu_op r2_add (pu_var 2) (pu_var 3))))
    (s_seq (s_for (pi_any (pu_var 10)) (g_name 11 rfl)
    (s_if (pt_tD (oS (pu_op r2_gt (pu_fn (pa_consD (pu_var 10) (pa_consD (oS (pu_op r2_ix (pu_var 11) (pu_int _))) pa_nilD))) (oS (pu_op r2_ix (pu_var 0) (pu_int _)))))) (s_ret (pu_bl _))
    s_next))
    (s_ret (pu_bl _))))) rfl (by decide) h
theorem fn_none_law_same {P : Program} {w : World} {K : PySem.W.Frag} {mg : Str → Option Value} {base : Heap} {f : Addr} {fd : FuncData} {ps : List Str} {n : Nat} : FnOk P w K mg base CX0 0 f fd ps (spP K kNames false n fun _ => none) := ⟨fun vs H Q E h => (by obtain ⟨_, _, _, _, _, z, _⟩ := h; cases z), fun A outer s H args us vs Q E _ _ _ _ h => (by obtain ⟨_, _, _, _, _, z, _⟩ := h; cases z)⟩
theorem rec_all_law_same {P : Program} {w : World} {K : PySem.W.Frag} {mg : Str → Option Value} {base : Heap} {fu : Addr} {du : FuncData} (Fu : Fun K "_law_same" "_law_same" s_law_same fu du) (bu : Binds K du ["_law_found", "_law_due"] []) (ku : PySem.W.keepIn K (.ref fu) = true) (mu : mg "_law_same" = some (.ref fu)) (z_bool : mg "bool" = none) (z_int : mg "int" = none) (z_isinstance : mg "isinstance" = none) (z_len : mg "len" = none) (z_list : mg "list" = none) (z_range : mg "range" = none) (z_str : mg "str" = none) (z_tuple : mg "tuple" = none) : ∀ n : Nat, Got P w K mg base (n) "_law_same" ["_law_found", "_law_due"] (spP K kNames false 2 (R_law_same n))
  | 0 => ⟨⟨_, _, fn_none_law_same, bu, ku, mu⟩⟩
  | n + 1 => by
    have g_law_same := rec_all_law_same (P := P) (w := w) (base := base) Fu bu ku mu z_bool z_int z_isinstance z_len z_list z_range z_str z_tuple n
    have h0 : FnOk P w K mg base CX0 (n + 1) fu du ["_law_found", "_law_due"] (spP K kNames false 2 (R_law_same (n + 1))) := by
      refine Fu.ok sc_law_same (fun vs H Q E h => spP_len h) (fun cdv A outer s H vs Q E hr h => ?_)
      have hu := hr.units
      simp only [R_law_same, seal_eq] at h
      refine ⟨_, (pss_cons (ps_if (pt_cmpR op_isP (pv 1) pe_non (nomark _)) (pss_one (ps_ret (pe_cmpR op_isP (pv 0) pe_non (nomark _)))) pss_nil)
              (pss_cons (ps_if (pt_cmpR op_isP (pv 1) pe_bl (nomark _)) (pss_one (ps_ret (pe_cmpR op_isP (pv 0) pe_bl (nomark _)))) pss_nil)
              (pss_cons (ps_if (pt_cmpR op_isP (pv 1) pe_bl (nomark _)) (pss_one (ps_ret (pe_cmpR op_isP (pv 0) pe_bl (nomark _)))) pss_nil)
              (pss_cons (ps_if (pt_val (pe_callB call_isT rfl z_isinstance b_isinstance (pa_cons (pv 1) (pa_cons (pe_bltn (v := .ty "int") rfl z_int b_int rfl) pa_nil)))) (pss_one (ps_ret (pe_and (pe_callB call_isT rfl z_isinstance b_isinstance (pa_cons (pv 0) (pa_cons (pe_bltn (v := .ty "int") rfl z_int b_int rfl) pa_nil))) (pe_and (pe_not (pe_callB call_isT rfl z_isinstance b_isinstance (pa_cons (pv 0) (pa_cons (pe_bltn (v := .ty "bool") rfl z_bool b_bool rfl) pa_nil)))) (pe_one (pe_cmpR (op_eqG hu) (pv 0) (pv 1) (nomark _))))))) pss_nil)
              (pss_cons (ps_if (pt_val (pe_callB call_isT rfl z_isinstance b_isinstance (pa_cons (pv 1) (pa_cons (pe_bltn (v := .ty "str") rfl z_str b_str rfl) pa_nil)))) (pss_one (ps_ret (pe_and (pe_callB call_isT rfl z_isinstance b_isinstance (pa_cons (pv 0) (pa_cons (pe_bltn (v := .ty "str") rfl z_str b_str rfl) pa_nil))) (pe_one (pe_cmpR (op_eqG hu) (pv 0) (pv 1) (nomark _)))))) pss_nil)
              (pss_cons (ps_if (PW.pt (pw_and (pt_val (pe_callB call_isT rfl z_isinstance b_isinstance (pa_cons (pv 1) (pa_cons (pe_bltn (v := .ty "list") rfl z_list b_list rfl) pa_nil)))) (pw_and1 (pt_not (pt_val (pe_callB call_isT rfl z_isinstance b_isinstance (pa_cons (pv 0) (pa_cons (pe_bltn (v := .ty "list") rfl z_list b_list rfl) pa_nil)))))))) (pss_one (ps_ret pe_bl)) pss_nil)
              (pss_cons (ps_if (PW.pt (pw_and (pt_val (pe_callB call_isT rfl z_isinstance b_isinstance (pa_cons (pv 1) (pa_cons (pe_bltn (v := .ty "tuple") rfl z_tuple b_tuple rfl) pa_nil)))) (pw_and1 (pt_not (pt_val (pe_callB call_isT rfl z_isinstance b_isinstance (pa_cons (pv 0) (pa_cons (pe_bltn (v := .ty "tuple") rfl z_tuple b_tuple rfl) pa_nil)))))))) (pss_one (ps_ret pe_bl)) pss_nil)
              (pss_cons (ps_if (pt_cmpR (op_neG hu) (pe_callB lenG rfl z_len b_len (pa_cons (pv 0) pa_nil)) (pe_callB lenG rfl z_len b_len (pa_cons (pv 1) pa_nil)) (nomark _)) (pss_one (ps_ret pe_bl)) pss_nil)
              (pss_cons (ps_for PassesOwn.never rfl (pi_range1 rfl z_range (pa_cons (pe_callB lenG rfl z_len b_len (pa_cons (pv 1) pa_nil)) pa_nil)) (pg_name (i := 2) sc_law_same.nd rfl (by first | exact Or.inl rfl | exact Or.inr rfl)) (pss_one (ps_if (pt_not (pt_val (pe_go g_law_same hr (by first | decide | omega) rfl (pa_cons (pe_ix ix_seq (pv 0) (pv 2) (fun _ _ => rfl)) (pa_cons (pe_ix ix_seq (pv 1) (pv 2) (fun _ _ => rfl)) pa_nil))))) (pss_one (ps_ret pe_bl)) pss_nil)))
              (pss_one (ps_ret pe_bl))))))))))), ?_⟩
      exact run_ok (K := K) (ns := kNames) (fl' := []) (n := 3) (b := B_law_same (R_law_same n))
            (s_seq (s_if (pt_tD (oS (pu_op r2_is (pu_var 1) pu_non))) (s_ret (oS (pu_op r2_is (pu_var 0) pu_non)))
            s_next)
            (s_seq (s_if (pt_tD (oS (pu_op r2_is (pu_var 1) (pu_bl _)))) (s_ret (oS (pu_op r2_is (pu_var 0) (pu_bl _))))
            s_next)
            (s_seq (s_if (pt_tD (oS (pu_op r2_is (pu_var 1) (pu_bl _)))) (s_ret (oS (pu_op r2_is (pu_var 0) (pu_bl _))))
            s_next)
            (s_seq (s_if (pt_bD (cS (pu_isT "int" (by decide) (pu_var 1)))) (s_ret (pu_and (cS (pu_isT "int" (by decide) (pu_var 0))) (pu_and (pu_not (cS (pu_isT "bool" (by decide) (pu_var 0)))) (oS (pu_op r2_eq (pu_var 0) (pu_var 1))))))
            s_next)
            (s_seq (s_if (pt_bD (cS (pu_isT "str" (by decide) (pu_var 1)))) (s_ret (pu_and (cS (pu_isT "str" (by decide) (pu_var 0))) (oS (pu_op r2_eq (pu_var 0) (pu_var 1)))))
            s_next)
            (s_seq (s_if (pt_andD (pt_bD (cS (pu_isT "list" (by decide) (pu_var 1)))) (pt_notD (pt_bD (cS (pu_isT "list" (by decide) (pu_var 0)))))) (s_ret (pu_bl _))
            s_next)
            (s_seq (s_if (pt_andD (pt_bD (cS (pu_isT "tuple" (by decide) (pu_var 1)))) (pt_notD (pt_bD (cS (pu_isT "tuple" (by decide) (pu_var 0)))))) (s_ret (pu_bl _))
            s_next)
            (s_seq (s_if (pt_tD (oS (pu_op r2_ne (cS (pu_call ca_len (pa_consD (pu_var 0) pa_nilD))) (cS (pu_call ca_len (pa_consD (pu_var 1) pa_nilD)))))) (s_ret (pu_bl _))
            s_next)
            (s_seq (s_for (iS (pi_rng1 (pa_consD (cS (pu_call ca_len (pa_consD (pu_var 1) pa_nilD))) pa_nilD))) (g_name 2 rfl)
            (s_if (pt_notD (pt_bD (pu_fn (pa_consD (oS (pu_op r2_ix (pu_var 0) (pu_var 2))) (pa_consD (oS (pu_op r2_ix (pu_var 1) (pu_var 2))) pa_nilD))))) (s_ret (pu_bl _))
            s_next))
            (s_ret (pu_bl _))))))))))) rfl (by decide) h
    exact ⟨⟨_, _, h0, bu, ku, mu⟩⟩
theorem ok_offsets_of {f : Addr} {fd : FuncData} (F : Fun K "offsets_of" "offsets_of" s_offsets_of f fd)  :
    FnOk P w K mg base CX0 1 f fd ["wheels"] (sp_offsets_of K) := by
  refine F.ok sc_offsets_of (fun vs H Q E h => spP_len h) (fun cdv A outer s H vs Q E hr h => ?_)
  have hu := hr.units
  have h : spP K kNames true 1 (runF 3 B_offsets_of) vs H Q E := by rw [← seal_eq (runF 3 B_offsets_of)]; exact h
  refine ⟨_, (pss_cons (ps_set (i := 1) sc_offsets_of.nd rfl (by first | exact Or.inl rfl | exact Or.inr rfl) (pe_lst pa_nil))
      (pss_cons (ps_for PassesOwn.never rfl (pi_or (pi_list (pv 0)) (pi_or (pi_tup (pv 0)) (pi_str (pv 0)))) (pg_name (i := 2) sc_offsets_of.nd rfl (by first | exact Or.inl rfl | exact Or.inr rfl)) (pss_one (ps_expr (pe_bm PySem.F.plainAttrs_list PySem.F.slot_list_append PySem.F.type_list_append mt_append (pv 1) (pa_cons (pe_ifExp (pt_truth (pv 1) (fun _ => rfl)) (pe_op op_addP (pe_ix ix_seq (pv 1) (pe_un un_neg pe_int) (fun _ _ => rfl)) (pe_ix ix_seq (pv 2) pe_int (fun _ _ => rfl))) pe_int) pa_nil)))))
      (pss_one (ps_ret (pv 1))))), ?_⟩
  exact run_okF (K := K) (ns := kNames) (fl' := []) (n := 3) (b := B_offsets_of)
    (s_seq (s_new 1 (pu_lst pa_nilD) (by decide))
    (s_seq (s_for (pi_any (pu_var 0)) (g_name 2 rfl)
    (s_appW 1 (pu_if (pt_trD (pu_var 1)) (oS (pu_op r2_add (oS (pu_op r2_ix (pu_var 1) (uS (pu_un un_neg' (pu_int _))))) (oS (pu_op r2_ix (pu_var 2) (pu_int _))))) (pu_int _)) rfl))
    (s_retO 1 rfl))) rfl (by decide) h
theorem ok_bridges_of {f : Addr} {fd : FuncData} (F : Fun K "bridges_of" "bridges_of" s_bridges_of f fd) (d_Bridge : PKd K kNames (clA K "Bridge") ["Bridge"] ["name", "length", "bears", "wide", "most"]) (n_Bridge : mg "Bridge" = some (.ref (clA K "Bridge"))) (z_isinstance : mg "isinstance" = none) :
    FnOk P w K mg base CX0 1 f fd ["road"] (sp_bridges_of K) := by
  refine F.ok sc_bridges_of (fun vs H Q E h => spP_len h) (fun cdv A outer s H vs Q E hr h => ?_)
  have hu := hr.units
  have h : spP K kNames true 1 (runF 1 B_bridges_of) vs H Q E := by rw [← seal_eq (runF 1 B_bridges_of)]; exact h
  refine ⟨_, (pss_one (ps_ret (pe_compG [] [] (CompC.to cs_bridges_of_0 rfl rfl) rfl (pi_or (pi_list (pe_fld (f := "pieces") (pv 0) rfl)) (pi_or (pi_tup (pe_fld (f := "pieces") (pv 0) rfl)) (pi_str (pe_fld (f := "pieces") (pv 0) rfl)))) (fun _ _ _ _ _ => (pif_one (pt_val (pe_callB (call_isCK (K := K) rfl) rfl z_isinstance b_isinstance (pa_cons (pv 0) (pa_cons (pe_clK (K := K) rfl rfl n_Bridge) pa_nil)))))) (fun _ _ _ _ _ => (pv 0))))), ?_⟩
  exact run_okF (K := K) (ns := kNames) (fl' := []) (n := 1) (b := B_bridges_of)
    (s_retF (pu_comp (pi_any (uS (pu_fld .pieces (pu_var 0)))) (pt_bD (cS (pu_isC .Bridge (by decide) (pu_var 0)))) (pu_var 0))) rfl (by decide) h
theorem ok_bridge_of {f : Addr} {fd : FuncData} (F : Fun K "bridge_of" "bridge_of" s_bridge_of f fd) (g_bridges_of : Got P w K mg base 1 "bridges_of" ["road"] (sp_bridges_of K)) :
    FnOk P w K mg base CX0 2 f fd ["road", "name"] (sp_bridge_of K) := by
  refine F.ok sc_bridge_of (fun vs H Q E h => spP_len h) (fun cdv A outer s H vs Q E hr h => ?_)
  have hu := hr.units
  have h : spP K kNames false 2 (runD 2 B_bridge_of) vs H Q E := by rw [← seal_eq (runD 2 B_bridge_of)]; exact h
  refine ⟨_, (pss_one (ps_ret (pe_ix ix_seq (pe_compG ["name"] [1] (CompC.to cs_bridge_of_0 rfl rfl) rfl (pi_or (pi_list (pe_go g_bridges_of hr (by first | decide | omega) rfl (pa_cons (pv 0) pa_nil))) (pi_or (pi_tup (pe_go g_bridges_of hr (by first | decide | omega) rfl (pa_cons (pv 0) pa_nil))) (pi_str (pe_go g_bridges_of hr (by first | decide | omega) rfl (pa_cons (pv 0) pa_nil))))) (fun _ _ _ _ _ => (pif_one (pt_cmpR (op_eqGK (K := K) rfl (by exact hu)) (pe_fldK (K := K) rfl (f := "name") (pv 0) rfl) (pv 1) (nomark _)))) (fun _ _ _ _ _ => (pv 0))) pe_int (fun _ _ => rfl)))), ?_⟩
  exact run_ok (K := K) (ns := kNames) (fl' := []) (n := 2) (b := B_bridge_of)
    (s_ret (oS (pu_op r2_ix (PuF.pe (pu_comp (pi_any (PuF.pe (pu_fnF (pa_consD (pu_var 0) pa_nilD)))) (pt_tD (oS (pu_op r2_eq (uS (pu_fld .name (pu_var 0))) (pu_var 1)))) (pu_var 0))) (pu_int _)))) rfl (by decide) h
theorem ok_common_part {f : Addr} {fd : FuncData} (F : Fun K "common_part" "common_part" s_common_part f fd) (z_abs : mg "abs" = none) :
    FnOk P w K mg base CX0 1 f fd ["one", "other"] (sp_common_part K) := by
  refine F.ok sc_common_part (fun vs H Q E h => spP_len h) (fun cdv A outer s H vs Q E hr h => ?_)
  have hu := hr.units
  have h : spP K kNames false 2 (runD 3 B_common_part) vs H Q E := by rw [← seal_eq (runD 3 B_common_part)]; exact h
  refine ⟨_, (pss_cons (ps_set (i := 0) sc_common_part.nd rfl (by first | exact Or.inl rfl | exact Or.inr rfl) (pe_callB call_abs rfl z_abs b_abs (pa_cons (pv 0) pa_nil)))
      (pss_cons (ps_set (i := 1) sc_common_part.nd rfl (by first | exact Or.inl rfl | exact Or.inr rfl) (pe_callB call_abs rfl z_abs b_abs (pa_cons (pv 1) pa_nil)))
      (pss_cons (ps_while PassesOwn.never (pt_cmpR (op_neG hu) (pv 1) pe_int (nomark _)) (pss_cons (ps_set (i := 2) sc_common_part.nd rfl (by first | exact Or.inl rfl | exact Or.inr rfl) (pe_op op_mod (pv 0) (pv 1)))
      (pss_cons (ps_set (i := 0) sc_common_part.nd rfl (by first | exact Or.inl rfl | exact Or.inr rfl) (pv 1))
      (pss_one (ps_set (i := 1) sc_common_part.nd rfl (by first | exact Or.inl rfl | exact Or.inr rfl) (pv 2))))))
      (pss_one (ps_ret (pv 0)))))), ?_⟩
  exact run_ok (K := K) (ns := kNames) (fl' := []) (n := 3) (b := B_common_part)
    (s_seq (s_set 0 (cS (pu_call ca_abs (pa_consD (pu_var 0) pa_nilD))))
    (s_seq (s_set 1 (cS (pu_call ca_abs (pa_consD (pu_var 1) pa_nilD))))
    (s_seq (s_while (pt_tD (oS (pu_op r2_ne (pu_var 1) (pu_int _))))
    (s_seq (s_set 2 (oS (pu_op r2_mod (pu_var 0) (pu_var 1))))
    (s_seq (s_set 0 (pu_var 1))
    (s_set 1 (pu_var 2)))))
    (s_ret (pu_var 0))))) rfl (by decide) h
theorem ok_made {f : Addr} {fd : FuncData} (F : Fun K "made" "made" s_made f fd) (g_common_part : Got P w K mg base 1 "common_part" ["one", "other"] (sp_common_part K)) :
    FnOk P w K mg base CX0 2 f fd ["above", "beneath"] (sp_made K) := by
  refine F.ok sc_made (fun vs H Q E h => spP_len h) (fun cdv A outer s H vs Q E hr h => ?_)
  have hu := hr.units
  have h : spP K kNames false 2 (runD 3 B_made) vs H Q E := by rw [← seal_eq (runD 3 B_made)]; exact h
  refine ⟨_, (pss_cons (ps_set (i := 2) sc_made.nd rfl (by first | exact Or.inl rfl | exact Or.inr rfl) (pe_go g_common_part hr (by first | decide | omega) rfl (pa_cons (pv 0) (pa_cons (pv 1) pa_nil))))
      (pss_cons (ps_if (pt_cmpR op_lt (pv 1) pe_int (nomark _)) (pss_one (ps_set (i := 2) sc_made.nd rfl (by first | exact Or.inl rfl | exact Or.inr rfl) (pe_un un_neg (pv 2)))) pss_nil)
      (pss_one (ps_ret (pe_tup (pa_cons (pe_op op_fdivB (pv 0) (pv 2)) (pa_cons (pe_op op_fdivB (pv 1) (pv 2)) pa_nil))))))), ?_⟩
  exact run_ok (K := K) (ns := kNames) (fl' := []) (n := 3) (b := B_made)
    (s_seq (s_set 2 (pu_fn (pa_consD (pu_var 0) (pa_consD (pu_var 1) pa_nilD))))
    (s_seq (s_if (pt_tD (oS (pu_op r2_lt (pu_var 1) (pu_int _)))) (s_set 2 (uS (pu_un un_neg' (pu_var 2))))
    s_next)
    (s_ret (pu_tup (pa_consD (oS (pu_op r2_fdiv (pu_var 0) (pu_var 2))) (pa_consD (oS (pu_op r2_fdiv (pu_var 1) (pu_var 2))) pa_nilD)))))) rfl (by decide) h
theorem ok_plus {f : Addr} {fd : FuncData} (F : Fun K "plus" "plus" s_plus f fd) (g_made : Got P w K mg base 2 "made" ["above", "beneath"] (sp_made K)) :
    FnOk P w K mg base CX0 3 f fd ["one", "other"] (sp_plus K) := by
  refine F.ok sc_plus (fun vs H Q E h => spP_len h) (fun cdv A outer s H vs Q E hr h => ?_)
  have hu := hr.units
  have h : spP K kNames false 2 (runD 2 B_plus) vs H Q E := by rw [← seal_eq (runD 2 B_plus)]; exact h
  refine ⟨_, (pss_one (ps_ret (pe_go g_made hr (by first | decide | omega) rfl (pa_cons (pe_op op_addP (pe_op op_mulX (pe_ix ix_seq (pv 0) pe_int (fun _ _ => rfl)) (pe_ix ix_seq (pv 1) pe_int (fun _ _ => rfl))) (pe_op op_mulX (pe_ix ix_seq (pv 1) pe_int (fun _ _ => rfl)) (pe_ix ix_seq (pv 0) pe_int (fun _ _ => rfl)))) (pa_cons (pe_op op_mulX (pe_ix ix_seq (pv 0) pe_int (fun _ _ => rfl)) (pe_ix ix_seq (pv 1) pe_int (fun _ _ => rfl))) pa_nil))))), ?_⟩
  exact run_ok (K := K) (ns := kNames) (fl' := []) (n := 2) (b := B_plus)
    (s_ret (pu_fn (pa_consD (oS (pu_op r2_add (oS (pu_op r2_mul (oS (pu_op r2_ix (pu_var 0) (pu_int _))) (oS (pu_op r2_ix (pu_var 1) (pu_int _))))) (oS (pu_op r2_mul (oS (pu_op r2_ix (pu_var 1) (pu_int _))) (oS (pu_op r2_ix (pu_var 0) (pu_int _))))))) (pa_consD (oS (pu_op r2_mul (oS (pu_op r2_ix (pu_var 0) (pu_int _))) (oS (pu_op r2_ix (pu_var 1) (pu_int _))))) pa_nilD)))) rfl (by decide) h
theorem ok_driven {f : Addr} {fd : FuncData} (F : Fun K "driven" "driven" s_driven f fd) (g_plus : Got P w K mg base 3 "plus" ["one", "other"] (sp_plus K)) (g_made : Got P w K mg base 2 "made" ["above", "beneath"] (sp_made K)) :
    FnOk P w K mg base CX0 4 f fd ["moment", "distance", "speed"] (sp_driven K) := by
  refine F.ok sc_driven (fun vs H Q E h => spP_len h) (fun cdv A outer s H vs Q E hr h => ?_)
  have hu := hr.units
  have h : spP K kNames false 3 (runD 3 B_driven) vs H Q E := by rw [← seal_eq (runD 3 B_driven)]; exact h
  refine ⟨_, (pss_one (ps_ret (pe_go g_plus hr (by first | decide | omega) rfl (pa_cons (pv 0) (pa_cons (pe_go g_made hr (by first | decide | omega) rfl (pa_cons (pv 1) (pa_cons (pv 2) pa_nil))) pa_nil))))), ?_⟩
  exact run_ok (K := K) (ns := kNames) (fl' := []) (n := 3) (b := B_driven)
    (s_ret (pu_fn (pa_consD (pu_var 0) (pa_consD (pu_fn (pa_consD (pu_var 1) (pa_consD (pu_var 2) pa_nilD))) pa_nilD)))) rfl (by decide) h
theorem ok_times_on {f : Addr} {fd : FuncData} (F : Fun K "times_on" "times_on" s_times_on f fd) (g_offsets_of : Got P w K mg base 1 "offsets_of" ["wheels"] (sp_offsets_of K)) (g_bridge_of : Got P w K mg base 2 "bridge_of" ["road", "name"] (sp_bridge_of K)) (g_driven : Got P w K mg base 4 "driven" ["moment", "distance", "speed"] (sp_driven K)) :
    FnOk P w K mg base CX0 5 f fd ["road", "crossing"] (sp_times_on K) := by
  refine F.ok sc_times_on (fun vs H Q E h => spP_len h) (fun cdv A outer s H vs Q E hr h => ?_)
  have hu := hr.units
  have h : spP K kNames true 2 (runF 7 B_times_on) vs H Q E := by rw [← seal_eq (runF 7 B_times_on)]; exact h
  refine ⟨_, (pss_cons (ps_set (i := 2) sc_times_on.nd rfl (by first | exact Or.inl rfl | exact Or.inr rfl) (pe_fld (f := "length") (pe_go g_bridge_of hr (by first | decide | omega) rfl (pa_cons (pv 0) (pa_cons (pe_ix ix_seq (pv 1) pe_int (fun _ _ => rfl)) pa_nil))) rfl))
      (pss_cons (ps_set (i := 3) sc_times_on.nd rfl (by first | exact Or.inl rfl | exact Or.inr rfl) (pe_ix ix_seq (pv 1) pe_int (fun _ _ => rfl)))
      (pss_cons (ps_set (i := 4) sc_times_on.nd rfl (by first | exact Or.inl rfl | exact Or.inr rfl) (pe_lst pa_nil))
      (pss_cons (ps_for PassesOwn.never rfl (pi_or (pi_list (pe_go g_offsets_of hr (by first | decide | omega) rfl (pa_cons (pe_ix ix_seq (pv 1) pe_int (fun _ _ => rfl)) pa_nil))) (pi_or (pi_tup (pe_go g_offsets_of hr (by first | decide | omega) rfl (pa_cons (pe_ix ix_seq (pv 1) pe_int (fun _ _ => rfl)) pa_nil))) (pi_str (pe_go g_offsets_of hr (by first | decide | omega) rfl (pa_cons (pe_ix ix_seq (pv 1) pe_int (fun _ _ => rfl)) pa_nil))))) (pg_name (i := 5) sc_times_on.nd rfl (by first | exact Or.inl rfl | exact Or.inr rfl)) (pss_cons (ps_set (i := 6) sc_times_on.nd rfl (by first | exact Or.inl rfl | exact Or.inr rfl) (pe_go g_driven hr (by first | decide | omega) rfl (pa_cons (pe_ix ix_seq (pv 1) pe_int (fun _ _ => rfl)) (pa_cons (pv 5) (pa_cons (pv 3) pa_nil)))))
      (pss_one (ps_expr (pe_bm PySem.F.plainAttrs_list PySem.F.slot_list_append PySem.F.type_list_append mt_append (pv 4) (pa_cons (pe_tup (pa_cons (pv 6) (pa_cons (pe_go g_driven hr (by first | decide | omega) rfl (pa_cons (pv 6) (pa_cons (pv 2) (pa_cons (pv 3) pa_nil)))) pa_nil))) pa_nil))))))
      (pss_one (ps_ret (pv 4))))))), ?_⟩
  exact run_okF (K := K) (ns := kNames) (fl' := []) (n := 7) (b := B_times_on)
    (s_seq (s_set 2 (uS (pu_fld .length (pu_fn (pa_consD (pu_var 0) (pa_consD (oS (pu_op r2_ix (pu_var 1) (pu_int _))) pa_nilD))))))
    (s_seq (s_set 3 (oS (pu_op r2_ix (pu_var 1) (pu_int _))))
    (s_seq (s_new 4 (pu_lst pa_nilD) (by decide))
    (s_seq (s_for (pi_any (PuF.pe (pu_fnF (pa_consD (oS (pu_op r2_ix (pu_var 1) (pu_int _))) pa_nilD)))) (g_name 5 rfl)
    (s_seq (s_set 6 (pu_fn (pa_consD (oS (pu_op r2_ix (pu_var 1) (pu_int _))) (pa_consD (pu_var 5) (pa_consD (pu_var 3) pa_nilD)))))
    (s_app 4 (pu_tup (pa_consD (pu_var 6) (pa_consD (pu_fn (pa_consD (pu_var 6) (pa_consD (pu_var 2) (pa_consD (pu_var 3) pa_nilD)))) pa_nilD))) rfl)))
    (s_retO 4 rfl))))) rfl (by decide) h
theorem ok_less {f : Addr} {fd : FuncData} (F : Fun K "less" "less" s_less f fd)  :
    FnOk P w K mg base CX0 1 f fd ["one", "other"] (sp_less K) := by
  refine F.ok sc_less (fun vs H Q E h => spP_len h) (fun cdv A outer s H vs Q E hr h => ?_)
  have hu := hr.units
  have h : spP K kNames false 2 (runD 2 B_less) vs H Q E := by rw [← seal_eq (runD 2 B_less)]; exact h
  refine ⟨_, (pss_one (ps_ret (pe_cmpR op_lt (pe_op op_mulX (pe_ix ix_seq (pv 0) pe_int (fun _ _ => rfl)) (pe_ix ix_seq (pv 1) pe_int (fun _ _ => rfl))) (pe_op op_mulX (pe_ix ix_seq (pv 1) pe_int (fun _ _ => rfl)) (pe_ix ix_seq (pv 0) pe_int (fun _ _ => rfl))) (nomark _)))), ?_⟩
  exact run_ok (K := K) (ns := kNames) (fl' := []) (n := 2) (b := B_less)
    (s_ret (oS (pu_op r2_lt (oS (pu_op r2_mul (oS (pu_op r2_ix (pu_var 0) (pu_int _))) (oS (pu_op r2_ix (pu_var 1) (pu_int _))))) (oS (pu_op r2_mul (oS (pu_op r2_ix (pu_var 1) (pu_int _))) (oS (pu_op r2_ix (pu_var 0) (pu_int _)))))))) rfl (by decide) h
theorem ok_merged {f : Addr} {fd : FuncData} (F : Fun K "merged" "merged" s_merged f fd) (g_less : Got P w K mg base 1 "less" ["one", "other"] (sp_less K)) (z_len : mg "len" = none) :
    FnOk P w K mg base CX0 2 f fd ["one", "other"] (sp_merged K) := by
  refine F.ok sc_merged (fun vs H Q E h => spP_len h) (fun cdv A outer s H vs Q E hr h => ?_)
  have hu := hr.units
  have h : spP K kNames true 2 (runF 5 B_merged) vs H Q E := by rw [← seal_eq (runF 5 B_merged)]; exact h
  refine ⟨_, (pss_cons (ps_set (i := 2) sc_merged.nd rfl (by first | exact Or.inl rfl | exact Or.inr rfl) (pe_lst pa_nil))
      (pss_cons (ps_set (i := 3) sc_merged.nd rfl (by first | exact Or.inl rfl | exact Or.inr rfl) pe_int)
      (pss_cons (ps_set (i := 4) sc_merged.nd rfl (by first | exact Or.inl rfl | exact Or.inr rfl) pe_int)
      (pss_cons (ps_while PassesOwn.never (PW.pt (pw_and (pt_cmpR op_lt (pv 3) (pe_callB lenG rfl z_len b_len (pa_cons (pv 0) pa_nil)) (nomark _)) (pw_and1 (pt_cmpR op_lt (pv 4) (pe_callB lenG rfl z_len b_len (pa_cons (pv 1) pa_nil)) (nomark _))))) (pss_one (ps_if (pt_val (pe_go g_less hr (by first | decide | omega) rfl (pa_cons (pe_ix ix_seq (pv 1) (pv 4) (fun _ _ => rfl)) (pa_cons (pe_ix ix_seq (pv 0) (pv 3) (fun _ _ => rfl)) pa_nil)))) (pss_cons (ps_expr (pe_bm PySem.F.plainAttrs_list PySem.F.slot_list_append PySem.F.type_list_append mt_append (pv 2) (pa_cons (pe_ix ix_seq (pv 1) (pv 4) (fun _ _ => rfl)) pa_nil)))
      (pss_one (ps_set (i := 4) sc_merged.nd rfl (by first | exact Or.inl rfl | exact Or.inr rfl) (pe_op op_addP (pv 4) pe_int)))) (pss_cons (ps_expr (pe_bm PySem.F.plainAttrs_list PySem.F.slot_list_append PySem.F.type_list_append mt_append (pv 2) (pa_cons (pe_ix ix_seq (pv 0) (pv 3) (fun _ _ => rfl)) pa_nil)))
      (pss_one (ps_set (i := 3) sc_merged.nd rfl (by first | exact Or.inl rfl | exact Or.inr rfl) (pe_op op_addP (pv 3) pe_int)))))))
      (pss_one (ps_ret (pe_op op_addP (pe_op op_addP (pv 2) (pe_slice slX (pv 0) (po_some (pv 3)) po_none)) (pe_slice slX (pv 1) (po_some (pv 4)) po_none)))))))), ?_⟩
  exact run_okF (K := K) (ns := kNames) (fl' := []) (n := 5) (b := B_merged)
    (s_seq (s_new 2 (pu_lst pa_nilD) (by decide))
    (s_seq (s_set 3 (pu_int _))
    (s_seq (s_set 4 (pu_int _))
    (s_seq (s_while (pt_andD (pt_tD (oS (pu_op r2_lt (pu_var 3) (cS (pu_call ca_len (pa_consD (pu_var 0) pa_nilD)))))) (pt_tD (oS (pu_op r2_lt (pu_var 4) (cS (pu_call ca_len (pa_consD (pu_var 1) pa_nilD)))))))
    (s_if (pt_bD (pu_fn (pa_consD (oS (pu_op r2_ix (pu_var 1) (pu_var 4))) (pa_consD (oS (pu_op r2_ix (pu_var 0) (pu_var 3))) pa_nilD)))) (s_seq (s_app 2 (oS (pu_op r2_ix (pu_var 1) (pu_var 4))) rfl)
    (s_set 4 (oS (pu_op r2_add (pu_var 4) (pu_int _)))))
    (s_seq (s_app 2 (oS (pu_op r2_ix (pu_var 0) (pu_var 3))) rfl)
    (s_set 3 (oS (pu_op r2_add (pu_var 3) (pu_int _)))))))
    (s_retF (oSF (pu_opF r2_cat (oS (pu_op r2_add (pu_var 2) (slS (pu_sl (pu_var 0) (po_at (pu_var 3)) po_no)))) (slS (pu_sl (pu_var 1) (po_at (pu_var 4)) po_no))))))))) rfl (by decide) h
theorem fn_none_in_order {P : Program} {w : World} {K : PySem.W.Frag} {mg : Str → Option Value} {base : Heap} {f : Addr} {fd : FuncData} {ps : List Str} {n : Nat} : FnOk P w K mg base CX0 2 f fd ps (spP K kNames true n fun _ => none) := ⟨fun vs H Q E h => (by obtain ⟨_, _, _, _, _, z, _⟩ := h; cases z), fun A outer s H args us vs Q E _ _ _ _ h => (by obtain ⟨_, _, _, _, _, z, _⟩ := h; cases z)⟩
theorem rec_all_in_order {P : Program} {w : World} {K : PySem.W.Frag} {mg : Str → Option Value} {base : Heap} {fu : Addr} {du : FuncData} (Fu : Fun K "in_order" "in_order" s_in_order fu du) (bu : Binds K du ["some"] []) (ku : PySem.W.keepIn K (.ref fu) = true) (mu : mg "in_order" = some (.ref fu)) (g_merged : Got P w K mg base 2 "merged" ["one", "other"] (sp_merged K)) (z_len : mg "len" = none) (z_list : mg "list" = none) : ∀ n : Nat, Got P w K mg base (n + 2) "in_order" ["some"] (spP K kNames true 1 (R_in_order n))
  | 0 => ⟨⟨_, _, fn_none_in_order, bu, ku, mu⟩⟩
  | n + 1 => by
    have g_in_order := rec_all_in_order (P := P) (w := w) (base := base) Fu bu ku mu g_merged z_len z_list n
    have h0 : FnOk P w K mg base CX0 (n + 1 + 2) fu du ["some"] (spP K kNames true 1 (R_in_order (n + 1))) := by
      refine Fu.ok sc_in_order (fun vs H Q E h => spP_len h) (fun cdv A outer s H vs Q E hr h => ?_)
      have hu := hr.units
      simp only [R_in_order, seal_eq] at h
      refine ⟨_, (pss_cons (ps_if (pt_cmpR op_lt (pe_callB lenG rfl z_len b_len (pa_cons (pv 0) pa_nil)) pe_int (nomark _)) (pss_one (ps_ret (pe_callTy call_list_of rfl z_list b_list (pa_cons (pv 0) pa_nil)))) pss_nil)
              (pss_cons (ps_set (i := 1) sc_in_order.nd rfl (by first | exact Or.inl rfl | exact Or.inr rfl) (pe_op op_fdiv (pe_callB lenG rfl z_len b_len (pa_cons (pv 0) pa_nil)) pe_int))
              (pss_one (ps_ret (pe_go g_merged hr (by first | decide | omega) rfl (pa_cons (pe_go g_in_order hr (by first | decide | omega) rfl (pa_cons (pe_slice slX (pv 0) po_none (po_some (pv 1))) pa_nil)) (pa_cons (pe_go g_in_order hr (by first | decide | omega) rfl (pa_cons (pe_slice slX (pv 0) (po_some (pv 1)) po_none) pa_nil)) pa_nil))))))), ?_⟩
      exact run_okF (K := K) (ns := kNames) (fl' := []) (n := 2) (b := B_in_order (R_in_order n))
            (s_seq (s_if (pt_tD (oS (pu_op r2_lt (cS (pu_call ca_len (pa_consD (pu_var 0) pa_nilD))) (pu_int _)))) (s_retF (cSF (pu_callF ca_list (pa_consD (pu_var 0) pa_nilD))))
            s_next)
            (s_seq (s_set 1 (oS (pu_op r2_fdivC (cS (pu_call ca_len (pa_consD (pu_var 0) pa_nilD))) (pu_int _))))
            (s_retF (pu_fnF (pa_consD (PuF.pe (pu_fnF (pa_consD (slS (pu_sl (pu_var 0) po_no (po_at (pu_var 1)))) pa_nilD))) (pa_consD (PuF.pe (pu_fnF (pa_consD (slS (pu_sl (pu_var 0) (po_at (pu_var 1)) po_no)) pa_nilD))) pa_nilD)))))) rfl (by decide) h
    exact ⟨⟨_, _, h0, bu, ku, mu⟩⟩
theorem ok_moments_in {f : Addr} {fd : FuncData} (F : Fun K "moments_in" "moments_in" s_moments_in f fd) (g_in_order : Got P w K mg base 10 "in_order" ["some"] (sp_in_order K)) (z_list : mg "list" = none) :
    FnOk P w K mg base CX0 11 f fd ["stays"] (sp_moments_in K) := by
  refine F.ok sc_moments_in (fun vs H Q E h => spP_len h) (fun cdv A outer s H vs Q E hr h => ?_)
  have hu := hr.units
  have h : spP K kNames true 1 (runF 3 B_moments_in) vs H Q E := by rw [← seal_eq (runF 3 B_moments_in)]; exact h
  refine ⟨_, (pss_cons (ps_set (i := 1) sc_moments_in.nd rfl (by first | exact Or.inl rfl | exact Or.inr rfl) pe_dnewT)
      (pss_cons (ps_for PassesOwn.never rfl (pi_or (pi_list (pv 0)) (pi_or (pi_tup (pv 0)) (pi_str (pv 0)))) (pg_name (i := 2) sc_moments_in.nd rfl (by first | exact Or.inl rfl | exact Or.inr rfl)) (pss_one (ps_dput (hu1 hu) (pv 1) (pe_ix ix_seq (pv 2) pe_int (fun _ _ => rfl)) pe_bl rfl)))
      (pss_one (ps_ret (pe_go g_in_order hr (by first | decide | omega) rfl (pa_cons (pe_callTy (call_list_dT rfl) rfl z_list b_list (pa_cons (pv 1) pa_nil)) pa_nil)))))), ?_⟩
  exact run_okF (K := K) (ns := kNames) (fl' := []) (n := 3) (b := B_moments_in)
    (s_seq (s_dnewT 1 (by decide))
    (s_seq (s_for (pi_any (pu_var 0)) (g_name 2 rfl)
    (s_dput 1 (oS (pu_op r2_ix (pu_var 2) (pu_int _))) (pu_bl _) rfl))
    (s_retF (pu_fnF (pa_consD (PuF.pe (cSF (pu_callF caf_listT (pa_consD (pu_var 1) pa_nilD)))) pa_nilD))))) rfl (by decide) h
theorem ok_sums_at {f : Addr} {fd : FuncData} (F : Fun K "sums_at" "sums_at" s_sums_at f fd) (g_less : Got P w K mg base 1 "less" ["one", "other"] (sp_less K)) (z_sum : mg "sum" = none) :
    FnOk P w K mg base CX0 2 f fd ["stays", "moment"] (sp_sums_at K) := by
  refine F.ok sc_sums_at (fun vs H Q E h => spP_len h) (fun cdv A outer s H vs Q E hr h => ?_)
  have hu := hr.units
  have h : spP K kNames false 2 (runD 3 B_sums_at) vs H Q E := by rw [← seal_eq (runD 3 B_sums_at)]; exact h
  refine ⟨_, (pss_cons (ps_compG ["moment"] [1] (CompC.to cs_sums_at_0 rfl rfl) rfl (pi_or (pi_list (pv 0)) (pi_or (pi_tup (pv 0)) (pi_str (pv 0)))) (fun _ _ _ _ _ => (pif_one (PW.pt (pw_and (pt_not (pt_val (pe_goI g_less (by rfl) (by rfl) (by rfl) (by rfl) (by rfl) (by exact hr) (by first | decide | omega) rfl (pa_cons (pv 1) (pa_cons (pe_ix (ix_seqK (K := K) rfl) (pv 0) pe_int (fun _ _ => rfl)) pa_nil))))) (pw_and1 (pt_val (pe_goI g_less (by rfl) (by rfl) (by rfl) (by rfl) (by rfl) (by exact hr) (by first | decide | omega) rfl (pa_cons (pv 1) (pa_cons (pe_ix (ix_seqK (K := K) rfl) (pv 0) pe_int (fun _ _ => rfl)) pa_nil))))))))) (fun _ _ _ _ _ => (pv 0)) 2 sc_sums_at.nd rfl (by first | exact Or.inl rfl | exact Or.inr rfl))
      (pss_one (ps_ret (pe_tup (pa_cons (pe_callB (call_sum_ints rfl) rfl z_sum b_sum (pa_cons (pe_compG [] [] (CompC.to cs_sums_at_1 rfl rfl) rfl (pi_or (pi_list (pv 2)) (pi_or (pi_tup (pv 2)) (pi_str (pv 2)))) (fun _ _ _ _ _ => pif_nil) (fun _ _ _ _ _ => (pe_ix (ix_seqK (K := K) rfl) (pv 0) pe_int (fun _ _ => rfl)))) pa_nil)) (pa_cons (pe_callB (call_sum_ints rfl) rfl z_sum b_sum (pa_cons (pe_compG [] [] (CompC.to cs_sums_at_2 rfl rfl) rfl (pi_or (pi_list (pv 2)) (pi_or (pi_tup (pv 2)) (pi_str (pv 2)))) (fun _ _ _ _ _ => pif_nil) (fun _ _ _ _ _ => (pe_ix (ix_seqK (K := K) rfl) (pv 0) pe_int (fun _ _ => rfl)))) pa_nil)) pa_nil)))))), ?_⟩
  exact run_ok (K := K) (ns := kNames) (fl' := []) (n := 3) (b := B_sums_at)
    (s_seq (s_set 2 (PuF.pe (pu_comp (pi_any (pu_var 0)) (pt_andD (pt_notD (pt_bD (pu_fn (pa_consD (pu_var 1) (pa_consD (oS (pu_op r2_ix (pu_var 0) (pu_int _))) pa_nilD))))) (pt_bD (pu_fn (pa_consD (pu_var 1) (pa_consD (oS (pu_op r2_ix (pu_var 0) (pu_int _))) pa_nilD))))) (pu_var 0))))
    (s_ret (pu_tup (pa_consD (cS (pu_call ca_sum (pa_consD (PuF.pe (pu_comp (pi_any (pu_var 2)) pt_yes (oS (pu_op r2_ix (pu_var 0) (pu_int _))))) pa_nilD))) (pa_consD (cS (pu_call ca_sum (pa_consD (PuF.pe (pu_comp (pi_any (pu_var 2)) pt_yes (oS (pu_op r2_ix (pu_var 0) (pu_int _))))) pa_nilD))) pa_nilD))))) rfl (by decide) h
theorem ok_first_greatest {f : Addr} {fd : FuncData} (F : Fun K "first_greatest" "first_greatest" s_first_greatest f fd) (g_moments_in : Got P w K mg base 11 "moments_in" ["stays"] (sp_moments_in K)) (g_sums_at : Got P w K mg base 2 "sums_at" ["stays", "moment"] (sp_sums_at K)) :
    FnOk P w K mg base CX0 12 f fd ["stays", "spot"] (sp_first_greatest K) := by
  refine F.ok sc_first_greatest (fun vs H Q E h => spP_len h) (fun cdv A outer s H vs Q E hr h => ?_)
  have hu := hr.units
  have h : spP K kNames false 2 (runD 6 B_first_greatest) vs H Q E := by rw [← seal_eq (runD 6 B_first_greatest)]; exact h
  refine ⟨_, (pss_cons (ps_set (i := 2) sc_first_greatest.nd rfl (by first | exact Or.inl rfl | exact Or.inr rfl) pe_non)
      (pss_cons (ps_for PassesOwn.never rfl (pi_or (pi_list (pe_go g_moments_in hr (by first | decide | omega) rfl (pa_cons (pv 0) pa_nil))) (pi_or (pi_tup (pe_go g_moments_in hr (by first | decide | omega) rfl (pa_cons (pv 0) pa_nil))) (pi_str (pe_go g_moments_in hr (by first | decide | omega) rfl (pa_cons (pv 0) pa_nil))))) (pg_name (i := 3) sc_first_greatest.nd rfl (by first | exact Or.inl rfl | exact Or.inr rfl)) (pss_cons (ps_set (i := 4) sc_first_greatest.nd rfl (by first | exact Or.inl rfl | exact Or.inr rfl) (pe_go g_sums_at hr (by first | decide | omega) rfl (pa_cons (pv 0) (pa_cons (pv 3) pa_nil))))
      (pss_cons (ps_set (i := 5) sc_first_greatest.nd rfl (by first | exact Or.inl rfl | exact Or.inr rfl) (pe_tup (pa_cons (pv 3) (pa_cons (pe_ix ix_seq (pv 4) pe_int (fun _ _ => rfl)) (pa_cons (pe_ix ix_seq (pv 4) pe_int (fun _ _ => rfl)) pa_nil)))))
      (pss_one (ps_if (PW.pt (pw_or (pt_cmpR op_isP (pv 2) pe_non (nomark _)) (pw_or1 (pt_cmpR op_gt (pe_ix ix_seq (pv 5) (pv 1) (fun _ _ => rfl)) (pe_ix ix_seq (pv 2) (pv 1) (fun _ _ => rfl)) (nomark _))))) (pss_one (ps_set (i := 2) sc_first_greatest.nd rfl (by first | exact Or.inl rfl | exact Or.inr rfl) (pv 5))) pss_nil)))))
      (pss_one (ps_ret (pv 2))))), ?_⟩
  exact run_ok (K := K) (ns := kNames) (fl' := []) (n := 6) (b := B_first_greatest)
    (s_seq (s_set 2 pu_non)
    (s_seq (s_for (pi_any (PuF.pe (pu_fnF (pa_consD (pu_var 0) pa_nilD)))) (g_name 3 rfl)
    (s_seq (s_set 4 (pu_fn (pa_consD (pu_var 0) (pa_consD (pu_var 3) pa_nilD))))
    (s_seq (s_set 5 (pu_tup (pa_consD (pu_var 3) (pa_consD (oS (pu_op r2_ix (pu_var 4) (pu_int _))) (pa_consD (oS (pu_op r2_ix (pu_var 4) (pu_int _))) pa_nilD)))))
    (s_if (pt_orD (pt_tD (oS (pu_op r2_is (pu_var 2) pu_non))) (pt_tD (oS (pu_op r2_gt (oS (pu_op r2_ix (pu_var 5) (pu_var 1))) (oS (pu_op r2_ix (pu_var 2) (pu_var 1))))))) (s_set 2 (pu_var 5))
    s_next))))
    (s_ret (pu_var 2)))) rfl (by decide) h
theorem ok_stays_of {f : Addr} {fd : FuncData} (F : Fun K "stays_of" "stays_of" s_stays_of f fd) (g_times_on : Got P w K mg base 5 "times_on" ["road", "crossing"] (sp_times_on K)) (z_zip : mg "zip" = none) :
    FnOk P w K mg base CX0 6 f fd ["road", "crossings", "name"] (sp_stays_of K) := by
  refine F.ok sc_stays_of (fun vs H Q E h => spP_len h) (fun cdv A outer s H vs Q E hr h => ?_)
  have hu := hr.units
  have h : spP K kNames true 3 (runF 7 B_stays_of) vs H Q E := by rw [← seal_eq (runF 7 B_stays_of)]; exact h
  refine ⟨_, (pss_cons (ps_set (i := 3) sc_stays_of.nd rfl (by first | exact Or.inl rfl | exact Or.inr rfl) (pe_lst pa_nil))
      (pss_cons (ps_for PassesOwn.never rfl (pi_or (pi_list (pv 1)) (pi_or (pi_tup (pv 1)) (pi_str (pv 1)))) (pg_name (i := 4) sc_stays_of.nd rfl (by first | exact Or.inl rfl | exact Or.inr rfl)) (pss_one (ps_if (pt_cmpR (op_eqG hu) (pe_ix ix_seq (pv 4) pe_int (fun _ _ => rfl)) (pv 2) (nomark _)) (pss_one (ps_for PassesOwn.never rfl (pi_zip rfl z_zip (pa_cons (pe_go g_times_on hr (by first | decide | omega) rfl (pa_cons (pv 0) (pa_cons (pv 4) pa_nil))) (pa_cons (pe_ix ix_seq (pv 4) pe_int (fun _ _ => rfl)) pa_nil))) (pg_tup rfl (pgs_cons (pg_name (i := 5) sc_stays_of.nd rfl (by first | exact Or.inl rfl | exact Or.inr rfl)) (pgs_cons (pg_name (i := 6) sc_stays_of.nd rfl (by first | exact Or.inl rfl | exact Or.inr rfl)) pgs_nil))) (pss_one (ps_expr (pe_bm PySem.F.plainAttrs_list PySem.F.slot_list_append PySem.F.type_list_append mt_append (pv 3) (pa_cons (pe_tup (pa_cons (pe_ix ix_seq (pv 5) pe_int (fun _ _ => rfl)) (pa_cons (pe_ix ix_seq (pv 5) pe_int (fun _ _ => rfl)) (pa_cons (pe_ix ix_seq (pv 6) pe_int (fun _ _ => rfl)) (pa_cons (pe_ix ix_seq (pv 6) pe_int (fun _ _ => rfl)) pa_nil))))) pa_nil)))))) pss_nil)))
      (pss_one (ps_ret (pv 3))))), ?_⟩
  exact run_okF (K := K) (ns := kNames) (fl' := []) (n := 7) (b := B_stays_of)
    (s_seq (s_new 3 (pu_lst pa_nilD) (by decide))
    (s_seq (s_for (pi_any (pu_var 1)) (g_name 4 rfl)
    (s_if (pt_tD (oS (pu_op r2_eq (oS (pu_op r2_ix (pu_var 4) (pu_int _))) (pu_var 2)))) (s_for (iS (pi_zipL (pa_consD (PuF.pe (pu_fnF (pa_consD (pu_var 0) (pa_consD (pu_var 4) pa_nilD)))) (pa_consD (oS (pu_op r2_ix (pu_var 4) (pu_int _))) pa_nilD)))) (g_tup (gs_cons (i := 5) rfl (gs_cons (i := 6) rfl gs_nil)))
    (s_app 3 (pu_tup (pa_consD (oS (pu_op r2_ix (pu_var 5) (pu_int _))) (pa_consD (oS (pu_op r2_ix (pu_var 5) (pu_int _))) (pa_consD (oS (pu_op r2_ix (pu_var 6) (pu_int _))) (pa_consD (oS (pu_op r2_ix (pu_var 6) (pu_int _))) pa_nilD))))) rfl))
    s_next))
    (s_retO 3 rfl))) rfl (by decide) h
theorem ok_worst {f : Addr} {fd : FuncData} (F : Fun K "worst" "worst" s_worst f fd) (g_first_greatest : Got P w K mg base 12 "first_greatest" ["stays", "spot"] (sp_first_greatest K)) (g_stays_of : Got P w K mg base 6 "stays_of" ["road", "crossings", "name"] (sp_stays_of K)) :
    FnOk P w K mg base CX0 13 f fd ["road", "crossings", "name"] (sp_worst K) := by
  refine F.ok sc_worst (fun vs H Q E h => spP_len h) (fun cdv A outer s H vs Q E hr h => ?_)
  have hu := hr.units
  have h : spP K kNames false 3 (runD 3 B_worst) vs H Q E := by rw [← seal_eq (runD 3 B_worst)]; exact h
  refine ⟨_, (pss_one (ps_ret (pe_go g_first_greatest hr (by first | decide | omega) rfl (pa_cons (pe_go g_stays_of hr (by first | decide | omega) rfl (pa_cons (pv 0) (pa_cons (pv 1) (pa_cons (pv 2) pa_nil)))) (pa_cons pe_int pa_nil))))), ?_⟩
  exact run_ok (K := K) (ns := kNames) (fl' := []) (n := 3) (b := B_worst)
    (s_ret (pu_fn (pa_consD (PuF.pe (pu_fnF (pa_consD (pu_var 0) (pa_consD (pu_var 1) (pa_consD (pu_var 2) pa_nilD))))) (pa_consD (pu_int _) pa_nilD)))) rfl (by decide) h
theorem ok_worst_low {f : Addr} {fd : FuncData} (F : Fun K "worst_low" "worst_low" s_worst_low f fd) (g_first_greatest : Got P w K mg base 12 "first_greatest" ["stays", "spot"] (sp_first_greatest K)) (g_stays_of : Got P w K mg base 6 "stays_of" ["road", "crossings", "name"] (sp_stays_of K)) :
    FnOk P w K mg base CX0 13 f fd ["road", "crossings", "name"] (sp_worst_low K) := by
  refine F.ok sc_worst_low (fun vs H Q E h => spP_len h) (fun cdv A outer s H vs Q E hr h => ?_)
  have hu := hr.units
  have h : spP K kNames false 3 (runD 3 B_worst_low) vs H Q E := by rw [← seal_eq (runD 3 B_worst_low)]; exact h
  refine ⟨_, (pss_one (ps_ret (pe_go g_first_greatest hr (by first | decide | omega) rfl (pa_cons (pe_go g_stays_of hr (by first | decide | omega) rfl (pa_cons (pv 0) (pa_cons (pv 1) (pa_cons (pv 2) pa_nil)))) (pa_cons pe_int pa_nil))))), ?_⟩
  exact run_ok (K := K) (ns := kNames) (fl' := []) (n := 3) (b := B_worst_low)
    (s_ret (pu_fn (pa_consD (PuF.pe (pu_fnF (pa_consD (pu_var 0) (pa_consD (pu_var 1) (pa_consD (pu_var 2) pa_nilD))))) (pa_consD (pu_int _) pa_nilD)))) rfl (by decide) h
theorem ok_verdict {f : Addr} {fd : FuncData} (F : Fun K "verdict" "verdict" s_verdict f fd) (g_worst : Got P w K mg base 13 "worst" ["road", "crossings", "name"] (sp_worst K)) (g_worst_low : Got P w K mg base 13 "worst_low" ["road", "crossings", "name"] (sp_worst_low K)) (g_bridge_of : Got P w K mg base 2 "bridge_of" ["road", "name"] (sp_bridge_of K)) :
    FnOk P w K mg base CX0 14 f fd ["road", "crossings", "name"] (sp_verdict K) := by
  refine F.ok sc_verdict (fun vs H Q E h => spP_len h) (fun cdv A outer s H vs Q E hr h => ?_)
  have hu := hr.units
  have h : spP K kNames false 3 (runD 6 B_verdict) vs H Q E := by rw [← seal_eq (runD 6 B_verdict)]; exact h
  refine ⟨_, (pss_cons (ps_set (i := 3) sc_verdict.nd rfl (by first | exact Or.inl rfl | exact Or.inr rfl) (pe_fld (f := "bears") (pe_go g_bridge_of hr (by first | decide | omega) rfl (pa_cons (pv 0) (pa_cons (pv 2) pa_nil))) rfl))
      (pss_cons (ps_set (i := 4) sc_verdict.nd rfl (by first | exact Or.inl rfl | exact Or.inr rfl) (pe_go g_worst hr (by first | decide | omega) rfl (pa_cons (pv 0) (pa_cons (pv 1) (pa_cons (pv 2) pa_nil)))))
      (pss_cons (ps_set (i := 5) sc_verdict.nd rfl (by first | exact Or.inl rfl | exact Or.inr rfl) (pe_go g_worst_low hr (by first | decide | omega) rfl (pa_cons (pv 0) (pa_cons (pv 1) (pa_cons (pv 2) pa_nil)))))
      (pss_cons (ps_if (pt_cmpR op_isP (pv 4) pe_non (nomark _)) (pss_one (ps_ret (pe_tup (pa_cons pe_str (pa_cons pe_non pa_nil))))) pss_nil)
      (pss_cons (ps_if (pt_cmpR op_gt (pe_ix ix_seq (pv 5) pe_int (fun _ _ => rfl)) (pv 3) (nomark _)) (pss_one (ps_ret (pe_tup (pa_cons pe_str (pa_cons (pe_ix ix_seq (pv 5) pe_int (fun _ _ => rfl)) pa_nil))))) pss_nil)
      (pss_cons (ps_if (pt_cmpR op_gt (pe_ix ix_seq (pv 4) pe_int (fun _ _ => rfl)) (pv 3) (nomark _)) (pss_one (ps_ret (pe_tup (pa_cons pe_str (pa_cons (pe_ix ix_seq (pv 4) pe_int (fun _ _ => rfl)) pa_nil))))) pss_nil)
      (pss_one (ps_ret (pe_tup (pa_cons pe_str (pa_cons (pe_ix ix_seq (pv 4) pe_int (fun _ _ => rfl)) pa_nil))))))))))), ?_⟩
  exact run_ok (K := K) (ns := kNames) (fl' := []) (n := 6) (b := B_verdict)
    (s_seq (s_set 3 (uS (pu_fld .bears (pu_fn (pa_consD (pu_var 0) (pa_consD (pu_var 2) pa_nilD))))))
    (s_seq (s_set 4 (pu_fn (pa_consD (pu_var 0) (pa_consD (pu_var 1) (pa_consD (pu_var 2) pa_nilD)))))
    (s_seq (s_set 5 (pu_fn (pa_consD (pu_var 0) (pa_consD (pu_var 1) (pa_consD (pu_var 2) pa_nilD)))))
    (s_seq (s_if (pt_tD (oS (pu_op r2_is (pu_var 4) pu_non))) (s_ret (pu_tup (pa_consD (pu_str _) (pa_consD pu_non pa_nilD))))
    s_next)
    (s_seq (s_if (pt_tD (oS (pu_op r2_gt (oS (pu_op r2_ix (pu_var 5) (pu_int _))) (pu_var 3)))) (s_ret (pu_tup (pa_consD (pu_str _) (pa_consD (oS (pu_op r2_ix (pu_var 5) (pu_int _))) pa_nilD))))
    s_next)
    (s_seq (s_if (pt_tD (oS (pu_op r2_gt (oS (pu_op r2_ix (pu_var 4) (pu_int _))) (pu_var 3)))) (s_ret (pu_tup (pa_consD (pu_str _) (pa_consD (oS (pu_op r2_ix (pu_var 4) (pu_int _))) pa_nilD))))
    s_next)
    (s_ret (pu_tup (pa_consD (pu_str _) (pa_consD (oS (pu_op r2_ix (pu_var 4) (pu_int _))) pa_nilD)))))))))) rfl (by decide) h
theorem ok_whole {f : Addr} {fd : FuncData} (F : Fun K "whole" "whole" s_whole f fd)  :
    FnOk P w K mg base CX0 1 f fd ["number"] (sp_whole K) := by
  refine F.ok sc_whole (fun vs H Q E h => spP_len h) (fun cdv A outer s H vs Q E hr h => ?_)
  have hu := hr.units
  have h : spP K kNames false 1 (runD 1 B_whole) vs H Q E := by rw [← seal_eq (runD 1 B_whole)]; exact h
  refine ⟨_, (pss_one (ps_ret (pe_tup (pa_cons (pv 0) (pa_cons pe_int pa_nil))))), ?_⟩
  exact run_ok (K := K) (ns := kNames) (fl' := []) (n := 1) (b := B_whole)
    (s_ret (pu_tup (pa_consD (pu_var 0) (pa_consD (pu_int _) pa_nilD)))) rfl (by decide) h
theorem ok_meets_shut {f : Addr} {fd : FuncData} (F : Fun K "meets_shut" "meets_shut" s_meets_shut f fd) (g_less : Got P w K mg base 1 "less" ["one", "other"] (sp_less K)) (g_whole : Got P w K mg base 1 "whole" ["number"] (sp_whole K)) :
    FnOk P w K mg base CX0 2 f fd ["times", "shut"] (sp_meets_shut K) := by
  refine F.ok sc_meets_shut (fun vs H Q E h => spP_len h) (fun cdv A outer s H vs Q E hr h => ?_)
  have hu := hr.units
  have h : spP K kNames false 2 (runD 2 B_meets_shut) vs H Q E := by rw [← seal_eq (runD 2 B_meets_shut)]; exact h
  refine ⟨_, (pss_one (ps_ret (pe_and (pe_go g_less hr (by first | decide | omega) rfl (pa_cons (pe_ix ix_seq (pv 0) pe_int (fun _ _ => rfl)) (pa_cons (pe_go g_whole hr (by first | decide | omega) rfl (pa_cons (pe_ix ix_seq (pv 1) pe_int (fun _ _ => rfl)) pa_nil)) pa_nil))) (pe_one (pe_go g_less hr (by first | decide | omega) rfl (pa_cons (pe_go g_whole hr (by first | decide | omega) rfl (pa_cons (pe_ix ix_seq (pv 1) pe_int (fun _ _ => rfl)) pa_nil)) (pa_cons (pe_ix ix_seq (pv 0) pe_int (fun _ _ => rfl)) pa_nil))))))), ?_⟩
  exact run_ok (K := K) (ns := kNames) (fl' := []) (n := 2) (b := B_meets_shut)
    (s_ret (pu_and (pu_fn (pa_consD (oS (pu_op r2_ix (pu_var 0) (pu_int _))) (pa_consD (pu_fn (pa_consD (oS (pu_op r2_ix (pu_var 1) (pu_int _))) pa_nilD)) pa_nilD))) (pu_fn (pa_consD (pu_fn (pa_consD (oS (pu_op r2_ix (pu_var 1) (pu_int _))) pa_nilD)) (pa_consD (oS (pu_op r2_ix (pu_var 0) (pu_int _))) pa_nilD))))) rfl (by decide) h
theorem ok_shuts_of {f : Addr} {fd : FuncData} (F : Fun K "shuts_of" "shuts_of" s_shuts_of f fd)  :
    FnOk P w K mg base CX0 1 f fd ["road", "name"] (sp_shuts_of K) := by
  refine F.ok sc_shuts_of (fun vs H Q E h => spP_len h) (fun cdv A outer s H vs Q E hr h => ?_)
  have hu := hr.units
  have h : spP K kNames true 2 (runF 2 B_shuts_of) vs H Q E := by rw [← seal_eq (runF 2 B_shuts_of)]; exact h
  refine ⟨_, (pss_one (ps_ret (pe_compG ["name"] [1] (CompC.to cs_shuts_of_0 rfl rfl) rfl (pi_or (pi_list (pe_fld (f := "shuts") (pv 0) rfl)) (pi_or (pi_tup (pe_fld (f := "shuts") (pv 0) rfl)) (pi_str (pe_fld (f := "shuts") (pv 0) rfl)))) (fun _ _ _ _ _ => (pif_one (pt_cmpR (op_eqGK (K := K) rfl (by exact hu)) (pe_ix (ix_seqK (K := K) rfl) (pv 0) pe_int (fun _ _ => rfl)) (pv 1) (nomark _)))) (fun _ _ _ _ _ => (pe_tup (pa_cons (pe_ix (ix_seqK (K := K) rfl) (pv 0) pe_int (fun _ _ => rfl)) (pa_cons (pe_ix (ix_seqK (K := K) rfl) (pv 0) pe_int (fun _ _ => rfl)) pa_nil))))))), ?_⟩
  exact run_okF (K := K) (ns := kNames) (fl' := []) (n := 2) (b := B_shuts_of)
    (s_retF (pu_comp (pi_any (uS (pu_fld .shuts (pu_var 0)))) (pt_tD (oS (pu_op r2_eq (oS (pu_op r2_ix (pu_var 0) (pu_int _))) (pu_var 1)))) (pu_tup (pa_consD (oS (pu_op r2_ix (pu_var 0) (pu_int _))) (pa_consD (oS (pu_op r2_ix (pu_var 0) (pu_int _))) pa_nilD))))) rfl (by decide) h
theorem ok_may_enter {f : Addr} {fd : FuncData} (F : Fun K "may_enter" "may_enter" s_may_enter f fd) (g_times_on : Got P w K mg base 5 "times_on" ["road", "crossing"] (sp_times_on K)) (g_verdict : Got P w K mg base 14 "verdict" ["road", "crossings", "name"] (sp_verdict K)) (g_meets_shut : Got P w K mg base 2 "meets_shut" ["times", "shut"] (sp_meets_shut K)) (g_shuts_of : Got P w K mg base 1 "shuts_of" ["road", "name"] (sp_shuts_of K)) (z_any : mg "any" = none) :
    FnOk P w K mg base CX0 15 f fd ["road", "crossings", "crossing"] (sp_may_enter K) := by
  refine F.ok sc_may_enter (fun vs H Q E h => spP_len h) (fun cdv A outer s H vs Q E hr h => ?_)
  have hu := hr.units
  have h : spP K kNames false 3 (runD 5 B_may_enter) vs H Q E := by rw [← seal_eq (runD 5 B_may_enter)]; exact h
  refine ⟨_, (pss_cons (ps_set (i := 3) sc_may_enter.nd rfl (by first | exact Or.inl rfl | exact Or.inr rfl) (pe_ix ix_seq (pv 2) pe_int (fun _ _ => rfl)))
      (pss_cons (ps_if (pt_cmpR (op_neG hu) (pe_ix ix_seq (pe_go g_verdict hr (by first | decide | omega) rfl (pa_cons (pv 0) (pa_cons (pe_op op_addP (pv 1) (pe_lst (pa_cons (pv 2) pa_nil))) (pa_cons (pv 3) pa_nil)))) pe_int (fun _ _ => rfl)) pe_str (nomark _)) (pss_one (ps_ret pe_bl)) pss_nil)
      (pss_cons (ps_for PassesOwn.never rfl (pi_or (pi_list (pe_go g_times_on hr (by first | decide | omega) rfl (pa_cons (pv 0) (pa_cons (pv 2) pa_nil)))) (pi_or (pi_tup (pe_go g_times_on hr (by first | decide | omega) rfl (pa_cons (pv 0) (pa_cons (pv 2) pa_nil)))) (pi_str (pe_go g_times_on hr (by first | decide | omega) rfl (pa_cons (pv 0) (pa_cons (pv 2) pa_nil)))))) (pg_name (i := 4) sc_may_enter.nd rfl (by first | exact Or.inl rfl | exact Or.inr rfl)) (pss_one (ps_if (pt_val (pe_callB (call_any_list rfl) rfl z_any b_any (pa_cons (pe_compG ["times"] [4] (CompC.to cs_may_enter_0 rfl rfl) rfl (pi_or (pi_list (pe_go g_shuts_of hr (by first | decide | omega) rfl (pa_cons (pv 0) (pa_cons (pv 3) pa_nil)))) (pi_or (pi_tup (pe_go g_shuts_of hr (by first | decide | omega) rfl (pa_cons (pv 0) (pa_cons (pv 3) pa_nil)))) (pi_str (pe_go g_shuts_of hr (by first | decide | omega) rfl (pa_cons (pv 0) (pa_cons (pv 3) pa_nil)))))) (fun _ _ _ _ _ => pif_nil) (fun _ _ _ _ _ => (pe_goI g_meets_shut (by rfl) (by rfl) (by rfl) (by rfl) (by rfl) (by exact hr) (by first | decide | omega) rfl (pa_cons (pv 1) (pa_cons (pv 0) pa_nil))))) pa_nil))) (pss_one (ps_ret pe_bl)) pss_nil)))
      (pss_one (ps_ret pe_bl))))), ?_⟩
  exact run_ok (K := K) (ns := kNames) (fl' := []) (n := 5) (b := B_may_enter)
    (s_seq (s_set 3 (oS (pu_op r2_ix (pu_var 2) (pu_int _))))
    (s_seq (s_if (pt_tD (oS (pu_op r2_ne (oS (pu_op r2_ix (pu_fn (pa_consD (pu_var 0) (pa_consD (oS (pu_op r2_add (pu_var 1) (PuF.pe (pu_lst (pa_consD (pu_var 2) pa_nilD))))) (pa_consD (pu_var 3) pa_nilD)))) (pu_int _))) (pu_str _)))) (s_ret (pu_bl _))
    s_next)
    (s_seq (s_for (pi_any (PuF.pe (pu_fnF (pa_consD (pu_var 0) (pa_consD (pu_var 2) pa_nilD))))) (g_name 4 rfl)
    (s_if (pt_bD (cS (pu_call ca_any (pa_consD (PuF.pe (pu_comp (pi_any (PuF.pe (pu_fnF (pa_consD (pu_var 0) (pa_consD (pu_var 3) pa_nilD))))) pt_yes (pu_fn (pa_consD (pu_var 1) (pa_consD (pu_var 0) pa_nilD))))) pa_nilD)))) (s_ret (pu_bl _))
    s_next))
    (s_ret (pu_bl _))))) rfl (by decide) h
theorem ok_law {f : Addr} {fd : FuncData} (F : Fun K "law" "law" s_law f fd) (g_law_cell_at : Got P w K mg base 1 "_law_cell_at" ["_law_script", "_law_k"] (sp_law_cell_at K)) (g_law_bridges : Got P w K mg base 2 "_law_bridges" ["_law_cell", "_law_count"] (sp_law_bridges K)) (g_law_shuts : Got P w K mg base 2 "_law_shuts" ["_law_cell", "_law_bridges_here"] (sp_law_shuts K)) (g_law_road : Got P w K mg base 3 "_law_road" ["_law_bridges_here", "_law_rounds", "_law_shuts_here"] (sp_law_road K)) (g_law_mix : Got P w K mg base 1 "_law_mix" ["_law_cell", "_law_factor"] (sp_law_mix K)) (g_law_close : Got P w K mg base 3 "_law_close" ["_law_cells", "_law_bridges_here", "_law_most"] (sp_law_close K)) (g_law_spans : Got P w K mg base 3 "_law_spans" ["_law_bridge", "_law_crossings"] (sp_law_spans K)) (g_law_own_spans : Got P w K mg base 2 "_law_own_spans" ["_law_bridge", "_law_crossing"] (sp_law_own_spans K)) (g_law_entries : Got P w K mg base 2 "_law_entries" ["_law_bridge", "_law_shuts_here", "_law_spans_here", "_law_own"] (sp_law_entries K)) (g_law_allowed : Got P w K mg base 2 "_law_allowed" ["_law_bridge", "_law_shuts_here", "_law_spans_here", "_law_own"] (sp_law_allowed K)) (g_law_frac : Got P w K mg base 1 "_law_frac" ["_law_above", "_law_beneath"] (sp_law_frac K)) (g_law_same : Got P w K mg base 12 "_law_same" ["_law_found", "_law_due"] (sp_law_same K)) (g_may_enter : Got P w K mg base 15 "may_enter" ["road", "crossings", "crossing"] (sp_may_enter K)) (z_list : mg "list" = none) (z_range : mg "range" = none) (z_max : mg "max" = none) (z_len : mg "len" = none) :
    FnOk P w K mg base CX0 16 f fd ["_law_script"] (sp_law K) := by
  refine F.ok sc_law (fun vs H Q E h => by obtain ⟨a, ns, rfl, _⟩ := h; rfl) (fun cdv A outer s H vs Q E hr h => ?_)
  obtain ⟨a, ns, e, hS, hlen, k⟩ := h
  have h : spP K kNames false 1 F_law vs H Q E := law_sp e hS (law_true ns hlen) k
  have hu := hr.units
  simp only [F_law, seal_eq] at h
  refine ⟨_, (pss_cons (ps_set (i := 1) sc_law.nd rfl (by first | exact Or.inl rfl | exact Or.inr rfl) (pe_go g_law_cell_at hr (by first | decide | omega) rfl (pa_cons (pv 0) (pa_cons pe_int pa_nil))))
      (pss_cons (ps_set (i := 2) sc_law.nd rfl (by first | exact Or.inl rfl | exact Or.inr rfl) (pe_go g_law_bridges hr (by first | decide | omega) rfl (pa_cons (pv 1) (pa_cons (pe_op op_addP pe_int (pe_op op_mod (pe_go g_law_mix hr (by first | decide | omega) rfl (pa_cons (pv 1) (pa_cons pe_int pa_nil))) pe_int)) pa_nil))))
      (pss_cons (ps_set (i := 3) sc_law.nd rfl (by first | exact Or.inl rfl | exact Or.inr rfl) (pe_go g_law_shuts hr (by first | decide | omega) rfl (pa_cons (pv 1) (pa_cons (pv 2) pa_nil))))
      (pss_cons (ps_set (i := 4) sc_law.nd rfl (by first | exact Or.inl rfl | exact Or.inr rfl) (pe_go g_law_road hr (by first | decide | omega) rfl (pa_cons (pv 2) (pa_cons (pe_lst pa_nil) (pa_cons (pv 3) pa_nil)))))
      (pss_cons (ps_set (i := 5) sc_law.nd rfl (by first | exact Or.inl rfl | exact Or.inr rfl) (pe_go g_law_mix hr (by first | decide | omega) rfl (pa_cons (pe_go g_law_cell_at hr (by first | decide | omega) rfl (pa_cons (pv 0) (pa_cons pe_int pa_nil))) (pa_cons pe_int pa_nil))))
      (pss_cons (ps_set (i := 6) sc_law.nd rfl (by first | exact Or.inl rfl | exact Or.inr rfl) (pe_go g_law_close hr (by first | decide | omega) rfl (pa_cons (pe_slice slX (pv 0) (po_some pe_int) (po_some (pe_op op_addP pe_int (pe_op op_mod (pv 5) pe_int)))) (pa_cons (pv 2) (pa_cons pe_int pa_nil)))))
      (pss_cons (ps_set (i := 7) sc_law.nd rfl (by first | exact Or.inl rfl | exact Or.inr rfl) (pe_callTy call_list_of rfl z_list b_list (pa_cons (pv 6) pa_nil)))
      (pss_cons (ps_for PassesOwn.never rfl (pi_range1 rfl z_range (pa_cons pe_int pa_nil)) (pg_name (i := 8) sc_law.nd rfl (by first | exact Or.inl rfl | exact Or.inr rfl)) (pss_cons (ps_asg (pe_ix ix_seq (pe_go g_law_close hr (by first | decide | omega) rfl (pa_cons (pe_lst (pa_cons (pe_op op_addP (pv 5) (pv 8)) pa_nil)) (pa_cons (pv 2) (pa_cons (pe_op op_addP pe_int (pe_op op_mod (pv 8) pe_int)) pa_nil)))) pe_int (fun _ _ => rfl)) (pg_tup rfl (pgs_cons (pg_name (i := 9) sc_law.nd rfl (by first | exact Or.inl rfl | exact Or.inr rfl)) (pgs_cons (pg_name (i := 10) sc_law.nd rfl (by first | exact Or.inl rfl | exact Or.inr rfl)) (pgs_cons (pg_name (i := 11) sc_law.nd rfl (by first | exact Or.inl rfl | exact Or.inr rfl)) (pgs_cons (pg_name (i := 12) sc_law.nd rfl (by first | exact Or.inl rfl | exact Or.inr rfl)) pgs_nil))))))
      (pss_cons (ps_set (i := 13) sc_law.nd rfl (by first | exact Or.inl rfl | exact Or.inr rfl) (pe_ix ix_seq (pe_compG ["_law_name"] [9] (CompC.to cs_law_0 rfl rfl) rfl (pi_or (pi_list (pv 2)) (pi_or (pi_tup (pv 2)) (pi_str (pv 2)))) (fun _ _ _ _ _ => (pif_one (pt_cmpR (op_eqGK (K := K) rfl (by exact hu)) (pe_ix (ix_seqK (K := K) rfl) (pv 0) pe_int (fun _ _ => rfl)) (pv 1) (nomark _)))) (fun _ _ _ _ _ => (pv 0))) pe_int (fun _ _ => rfl)))
      (pss_cons (ps_set (i := 14) sc_law.nd rfl (by first | exact Or.inl rfl | exact Or.inr rfl) (pe_go g_law_spans hr (by first | decide | omega) rfl (pa_cons (pv 13) (pa_cons (pv 6) pa_nil))))
      (pss_cons (ps_set (i := 15) sc_law.nd rfl (by first | exact Or.inl rfl | exact Or.inr rfl) (pe_go g_law_own_spans hr (by first | decide | omega) rfl (pa_cons (pv 13) (pa_cons (pe_tup (pa_cons (pv 9) (pa_cons (pv 10) (pa_cons (pv 11) (pa_cons (pv 12) pa_nil))))) pa_nil))))
      (pss_cons (ps_set (i := 16) sc_law.nd rfl (by first | exact Or.inl rfl | exact Or.inr rfl) (pe_go g_law_entries hr (by first | decide | omega) rfl (pa_cons (pv 13) (pa_cons (pv 3) (pa_cons (pv 14) (pa_cons (pv 15) pa_nil))))))
      (pss_cons (ps_set (i := 17) sc_law.nd rfl (by first | exact Or.inl rfl | exact Or.inr rfl) (pe_ix ix_seq (pv 16) (pe_op op_mod (pe_op op_addP (pe_op op_fdiv (pv 5) pe_int) (pe_op op_mulX pe_int (pv 8))) (pe_callB lenG rfl z_len b_len (pa_cons (pv 16) pa_nil))) (fun _ _ => rfl)))
      (pss_one (ps_for PassesOwn.never rfl (pi_or (pi_list (pe_lst (pa_cons pe_int (pa_cons (pe_un un_neg pe_int) (pa_cons pe_int pa_nil))))) (pi_or (pi_tup (pe_lst (pa_cons pe_int (pa_cons (pe_un un_neg pe_int) (pa_cons pe_int pa_nil))))) (pi_str (pe_lst (pa_cons pe_int (pa_cons (pe_un un_neg pe_int) (pa_cons pe_int pa_nil))))))) (pg_name (i := 18) sc_law.nd rfl (by first | exact Or.inl rfl | exact Or.inr rfl)) (pss_cons (ps_set (i := 19) sc_law.nd rfl (by first | exact Or.inl rfl | exact Or.inr rfl) (pe_callB (call_max2 rfl) rfl z_max b_max (pa_cons pe_int (pa_cons (pe_op op_addP (pv 17) (pv 18)) pa_nil))))
      (pss_cons (ps_set (i := 20) sc_law.nd rfl (by first | exact Or.inl rfl | exact Or.inr rfl) (pe_tup (pa_cons (pv 9) (pa_cons (pe_go g_law_frac hr (by first | decide | omega) rfl (pa_cons (pv 19) (pa_cons pe_int pa_nil))) (pa_cons (pv 11) (pa_cons (pv 12) pa_nil))))))
      (pss_cons (ps_set (i := 21) sc_law.nd rfl (by first | exact Or.inl rfl | exact Or.inr rfl) (pe_go g_law_allowed hr (by first | decide | omega) rfl (pa_cons (pv 13) (pa_cons (pv 3) (pa_cons (pv 14) (pa_cons (pe_go g_law_own_spans hr (by first | decide | omega) rfl (pa_cons (pv 13) (pa_cons (pv 20) pa_nil))) pa_nil))))))
      (pss_one (ps_if (pt_not (pt_val (pe_go g_law_same hr (by first | decide | omega) rfl (pa_cons (pe_go g_may_enter hr (by first | decide | omega) rfl (pa_cons (pv 4) (pa_cons (pv 6) (pa_cons (pv 20) pa_nil)))) (pa_cons (pv 21) pa_nil))))) (pss_one (ps_ret pe_bl)) pss_nil))))))))))))))
      (pss_one (ps_ret (pe_cmpR (op_eqG hu) (pv 6) (pv 7) (nomark _)))))))))))), ?_⟩
  exact run_ok (K := K) (ns := kNames) (fl' := []) (n := 22) (b := B_law)
    (s_seq (s_set 1 (pu_fn (pa_consD (pu_var 0) (pa_consD (pu_int _) pa_nilD))))
    (s_seq (s_set 2 (PuF.pe (pu_fnF (pa_consD (pu_var 1) (pa_consD (oS (pu_op r2_add (pu_int _) (oS (pu_op r2_mod (pu_fn (pa_consD (pu_var 1) (pa_consD (pu_int _) pa_nilD))) (pu_int _))))) pa_nilD)))))
    (s_seq (s_set 3 (PuF.pe (pu_fnF (pa_consD (pu_var 1) (pa_consD (pu_var 2) pa_nilD)))))
    (s_seq (s_set 4 (pu_fn (pa_consD (pu_var 2) (pa_consD (PuF.pe (pu_lst pa_nilD)) (pa_consD (pu_var 3) pa_nilD)))))
    (s_seq (s_set 5 (pu_fn (pa_consD (pu_fn (pa_consD (pu_var 0) (pa_consD (pu_int _) pa_nilD))) (pa_consD (pu_int _) pa_nilD))))
    (s_seq (s_set 6 (PuF.pe (pu_fnF (pa_consD (slS (pu_sl (pu_var 0) (po_at (pu_int _)) (po_at (oS (pu_op r2_add (pu_int _) (oS (pu_op r2_mod (pu_var 5) (pu_int _)))))))) (pa_consD (pu_var 2) (pa_consD (pu_int _) pa_nilD))))))
    (s_seq (s_set 7 (PuF.pe (cSF (pu_callF ca_list (pa_consD (pu_var 6) pa_nilD)))))
    (s_seq (s_for (iS (pi_rng1 (pa_consD (pu_int _) pa_nilD))) (g_name 8 rfl)
    (s_seq (s_asg (oS (pu_op r2_ix (PuF.pe (pu_fnF (pa_consD (PuF.pe (pu_lst (pa_consD (oS (pu_op r2_add (pu_var 5) (pu_var 8))) pa_nilD))) (pa_consD (pu_var 2) (pa_consD (oS (pu_op r2_add (pu_int _) (oS (pu_op r2_mod (pu_var 8) (pu_int _))))) pa_nilD))))) (pu_int _))) (g_tup (gs_cons (i := 9) rfl (gs_cons (i := 10) rfl (gs_cons (i := 11) rfl (gs_cons (i := 12) rfl gs_nil))))))
    (s_seq (s_set 13 (oS (pu_op r2_ix (PuF.pe (pu_comp (pi_any (pu_var 2)) (pt_tD (oS (pu_op r2_eq (oS (pu_op r2_ix (pu_var 0) (pu_int _))) (pu_var 1)))) (pu_var 0))) (pu_int _))))
    (s_seq (s_set 14 (pu_fn (pa_consD (pu_var 13) (pa_consD (pu_var 6) pa_nilD))))
    (s_seq (s_set 15 (PuF.pe (pu_fnF (pa_consD (pu_var 13) (pa_consD (pu_tup (pa_consD (pu_var 9) (pa_consD (pu_var 10) (pa_consD (pu_var 11) (pa_consD (pu_var 12) pa_nilD))))) pa_nilD)))))
    (s_seq (s_set 16 (pu_fn (pa_consD (pu_var 13) (pa_consD (pu_var 3) (pa_consD (pu_var 14) (pa_consD (pu_var 15) pa_nilD))))))
    (s_seq (s_set 17 (oS (pu_op r2_ix (pu_var 16) (oS (pu_op r2_mod (oS (pu_op r2_add (oS (pu_op r2_fdivC (pu_var 5) (pu_int _))) (oS (pu_op r2_mul (pu_int _) (pu_var 8))))) (cS (pu_call ca_len (pa_consD (pu_var 16) pa_nilD))))))))
    (s_for (pi_any (PuF.pe (pu_lst (pa_consD (pu_int _) (pa_consD (uS (pu_un un_neg' (pu_int _))) (pa_consD (pu_int _) pa_nilD)))))) (g_name 18 rfl)
    (s_seq (s_set 19 (cS (pu_call ca_max2 (pa_consD (pu_int _) (pa_consD (oS (pu_op r2_add (pu_var 17) (pu_var 18))) pa_nilD)))))
    (s_seq (s_set 20 (pu_tup (pa_consD (pu_var 9) (pa_consD (pu_fn (pa_consD (pu_var 19) (pa_consD (pu_int _) pa_nilD))) (pa_consD (pu_var 11) (pa_consD (pu_var 12) pa_nilD))))))
    (s_seq (s_set 21 (pu_fn (pa_consD (pu_var 13) (pa_consD (pu_var 3) (pa_consD (pu_var 14) (pa_consD (PuF.pe (pu_fnF (pa_consD (pu_var 13) (pa_consD (pu_var 20) pa_nilD)))) pa_nilD))))))
    (s_if (pt_notD (pt_bD (pu_fn (pa_consD (pu_fn (pa_consD (pu_var 4) (pa_consD (pu_var 6) (pa_consD (pu_var 20) pa_nilD)))) (pa_consD (pu_var 21) pa_nilD))))) (s_ret (pu_bl _))
    s_next))))))))))))
    (s_ret (oS (pu_op r2_eq (pu_var 6) (pu_var 7)))))))))))) rfl (by decide) h
end
theorem all_mk {l : PySem.W.OpenLaw} {w : World} {K : PySem.W.Frag} {h : Heap} {mg : Str → Option Value} {fa f0 f1 f2 f3 f4 f5 f6 f7 f8 f9 f10 f11 f12 f13 f14 f15 f16 f17 f18 f19 f20 f21 f22 f23 f24 f25 f26 f27 f28 f29 f30 f31 f32 f33 f34 f35 f36 f37 f38 f39 f40 f41 f42 : Addr} (X : K.In h) (G : h.Ns mainGlobals mg) (hfa : mg "law" = some (.ref fa))
    {od0 an0 od1 an1 od2 an2 od3 an3 od4 an4 od5 an5 od6 an6 od7 an7 od8 an8 od9 an9 od10 an10 od11 an11 od12 an12 od13 an13 od14 an14 od15 an15 od16 an16 od17 an17 od18 an18 od19 an19 od20 an20 od21 an21 od22 an22 od23 an23 od24 an24 od25 an25 od26 an26 od27 an27 od28 an28 od29 an29 od30 an30 od31 an31 od32 an32 od33 an33 od34 an34 od35 an35 od36 an36 od37 an37 od38 an38 od39 an39 od40 an40 od41 an41 od42 an42 : Option Addr} {sl0 sl1 sl2 sl3 sl4 sl5 sl6 sl7 sl8 sl9 sl10 sl11 sl12 sl13 sl14 sl15 sl16 sl17 sl18 sl19 sl20 sl21 sl22 sl23 sl24 sl25 sl26 sl27 sl28 sl29 sl30 sl31 sl32 sl33 sl34 sl35 sl36 sl37 sl38 sl39 sl40 sl41 sl42 : Array (Option Value)} {oc0 kV0 dc0 pm0 cd0 ct0 oc1 kV1 dc1 pm1 cd1 ct1 oc2 kV2 dc2 pm2 cd2 ct2 oc3 kV3 dc3 pm3 cd3 ct3 oc4 kV4 dc4 pm4 cd4 ct4 oc5 kV5 dc5 pm5 cd5 ct5 oc6 kV6 dc6 pm6 cd6 ct6 oc7 kV7 dc7 pm7 cd7 ct7 oc8 kV8 dc8 pm8 cd8 ct8 oc9 kV9 dc9 pm9 cd9 ct9 oc10 kV10 dc10 pm10 cd10 ct10 oc11 kV11 dc11 pm11 cd11 ct11 oc12 kV12 dc12 pm12 cd12 ct12 oc13 kV13 dc13 pm13 cd13 ct13 oc14 kV14 dc14 pm14 cd14 ct14 oc15 kV15 dc15 pm15 cd15 ct15 oc16 kV16 dc16 pm16 cd16 ct16 oc17 kV17 dc17 pm17 cd17 ct17 oc18 kV18 dc18 pm18 cd18 ct18 oc19 kV19 dc19 pm19 cd19 ct19 oc20 kV20 dc20 pm20 cd20 ct20 oc21 kV21 dc21 pm21 cd21 ct21 oc22 kV22 dc22 pm22 cd22 ct22 oc23 kV23 dc23 pm23 cd23 ct23 oc24 kV24 dc24 pm24 cd24 ct24 oc25 kV25 dc25 pm25 cd25 ct25 oc26 kV26 dc26 pm26 cd26 ct26 oc27 kV27 dc27 pm27 cd27 ct27 oc28 kV28 dc28 pm28 cd28 ct28 oc29 kV29 dc29 pm29 cd29 ct29 oc30 kV30 dc30 pm30 cd30 ct30 oc31 kV31 dc31 pm31 cd31 ct31 oc32 kV32 dc32 pm32 cd32 ct32 oc33 kV33 dc33 pm33 cd33 ct33 oc34 kV34 dc34 pm34 cd34 ct34 oc35 kV35 dc35 pm35 cd35 ct35 oc36 kV36 dc36 pm36 cd36 ct36 oc37 kV37 dc37 pm37 cd37 ct37 oc38 kV38 dc38 pm38 cd38 ct38 oc39 kV39 dc39 pm39 cd39 ct39 oc40 kV40 dc40 pm40 cd40 ct40 oc41 kV41 dc41 pm41 cd41 ct41 oc42 kV42 dc42 pm42 cd42 ct42 : Value}
    {C0 C1 C2 : Addr} {xd0 xd1 xd2 : Option Addr} {xc0 xc1 xc2 : ClassData} {xs0 xs1 xs2 : Array (Option Value)}
    (x0 : PySem.W.nsIn K mainGlobals "Open" = some (some (.ref C0))) (xl0 : K.lookup C0 = some ⟨.type "type", xd0, .cls xc0, xs0⟩)
    (xi0 : PySem.W.findIn K (.ref C0) "__init__" = some (some (.ref f5)))
    (x1 : PySem.W.nsIn K mainGlobals "Bridge" = some (some (.ref C1))) (xl1 : K.lookup C1 = some ⟨.type "type", xd1, .cls xc1, xs1⟩)
    (xi1 : PySem.W.findIn K (.ref C1) "__init__" = some (some (.ref f6)))
    (x2 : PySem.W.nsIn K mainGlobals "Road" = some (some (.ref C2))) (xl2 : K.lookup C2 = some ⟨.type "type", xd2, .cls xc2, xs2⟩)
    (xi2 : PySem.W.findIn K (.ref C2) "__init__" = some (some (.ref f4)))
    (xo0 : xc0.mro = [.ref C0, .type "object"]) (xk0 : ([C0, C1, C2].map fun D => xc0.mro.contains (.ref D)) = kNames.map (List.contains (α := Str) ["Open"]))
    (xa0 : PySem.W.plainGet K C0 Str.empty = true) (xb0 : PySem.W.hasDictIn K C0 = true) (xg0 : PySem.W.plainOver K C0 = true) (xe0 : PySem.W.findIn K (.ref C0) "__setattr__" = some (some (.builtin "object.__setattr__"))) (xf0 : PySem.W.findIn K (.ref C0) "__class__" = some (some (.builtin "object.__class__")))
    (xm0 : PySem.W.makesIn K C0 = true) (xn0 : PySem.W.isFn K (.ref f5) = true) (xp0 : PySem.W.keepIn K (.ref C0) = true)
    (xna0_0 : PySem.W.findIn K (.ref C0) "length" = some none)
    (xo1 : xc1.mro = [.ref C1, .type "object"]) (xk1 : ([C0, C1, C2].map fun D => xc1.mro.contains (.ref D)) = kNames.map (List.contains (α := Str) ["Bridge"]))
    (xa1 : PySem.W.plainGet K C1 Str.empty = true) (xb1 : PySem.W.hasDictIn K C1 = true) (xg1 : PySem.W.plainOver K C1 = true) (xe1 : PySem.W.findIn K (.ref C1) "__setattr__" = some (some (.builtin "object.__setattr__"))) (xf1 : PySem.W.findIn K (.ref C1) "__class__" = some (some (.builtin "object.__class__")))
    (xm1 : PySem.W.makesIn K C1 = true) (xn1 : PySem.W.isFn K (.ref f6) = true) (xp1 : PySem.W.keepIn K (.ref C1) = true)
    (xna1_0 : PySem.W.findIn K (.ref C1) "name" = some none)
    (xna1_1 : PySem.W.findIn K (.ref C1) "length" = some none)
    (xna1_2 : PySem.W.findIn K (.ref C1) "bears" = some none)
    (xna1_3 : PySem.W.findIn K (.ref C1) "wide" = some none)
    (xna1_4 : PySem.W.findIn K (.ref C1) "most" = some none)
    (xo2 : xc2.mro = [.ref C2, .type "object"]) (xk2 : ([C0, C1, C2].map fun D => xc2.mro.contains (.ref D)) = kNames.map (List.contains (α := Str) ["Road"]))
    (xa2 : PySem.W.plainGet K C2 Str.empty = true) (xb2 : PySem.W.hasDictIn K C2 = true) (xg2 : PySem.W.plainOver K C2 = true) (xe2 : PySem.W.findIn K (.ref C2) "__setattr__" = some (some (.builtin "object.__setattr__"))) (xf2 : PySem.W.findIn K (.ref C2) "__class__" = some (some (.builtin "object.__class__")))
    (xm2 : PySem.W.makesIn K C2 = true) (xn2 : PySem.W.isFn K (.ref f4) = true) (xp2 : PySem.W.keepIn K (.ref C2) = true)
    (xna2_0 : PySem.W.findIn K (.ref C2) "pieces" = some none)
    (xna2_1 : PySem.W.findIn K (.ref C2) "rounds" = some none)
    (xna2_2 : PySem.W.findIn K (.ref C2) "shuts" = some none)
    (xcg : PySem.W.specialIn K (.builtin "object.__class__") "__get__" = some (some (.builtin "getset_descriptor.__get__"))) (xct : PySem.W.takesIn K (.builtin "object.__class__") = some true)
    (a0 : PySem.W.nsIn K mainGlobals "_law_cell_at" = some (some (.ref f0))) (l0 : K.lookup f0 = some ⟨oc0, od0, .func (PySem.W.fnOf "_law_cell_at" "_law_cell_at" (defArgs s_law_cell_at) (defBody s_law_cell_at) (defScope s_law_cell_at) .none kV0 dc0 pm0 an0 cd0 ct0), sl0⟩) (c0 : PySem.W.codeIn K cd0 "_law_cell_at" = true) (k0 : PySem.W.keepIn K (.ref f0) = true)
    (a1 : PySem.W.nsIn K mainGlobals "_law_mix" = some (some (.ref f1))) (l1 : K.lookup f1 = some ⟨oc1, od1, .func (PySem.W.fnOf "_law_mix" "_law_mix" (defArgs s_law_mix) (defBody s_law_mix) (defScope s_law_mix) .none kV1 dc1 pm1 an1 cd1 ct1), sl1⟩) (c1 : PySem.W.codeIn K cd1 "_law_mix" = true) (k1 : PySem.W.keepIn K (.ref f1) = true)
    (a2 : PySem.W.nsIn K mainGlobals "_law_bridges" = some (some (.ref f2))) (l2 : K.lookup f2 = some ⟨oc2, od2, .func (PySem.W.fnOf "_law_bridges" "_law_bridges" (defArgs s_law_bridges) (defBody s_law_bridges) (defScope s_law_bridges) .none kV2 dc2 pm2 an2 cd2 ct2), sl2⟩) (c2 : PySem.W.codeIn K cd2 "_law_bridges" = true) (k2 : PySem.W.keepIn K (.ref f2) = true)
    (a3 : PySem.W.nsIn K mainGlobals "_law_shuts" = some (some (.ref f3))) (l3 : K.lookup f3 = some ⟨oc3, od3, .func (PySem.W.fnOf "_law_shuts" "_law_shuts" (defArgs s_law_shuts) (defBody s_law_shuts) (defScope s_law_shuts) .none kV3 dc3 pm3 an3 cd3 ct3), sl3⟩) (c3 : PySem.W.codeIn K cd3 "_law_shuts" = true) (k3 : PySem.W.keepIn K (.ref f3) = true)
    (l4 : K.lookup f4 = some ⟨oc4, od4, .func (PySem.W.fnOf "__init__" "Road.__init__" (defArgs s_Road_init) (defBody s_Road_init) (defScope s_Road_init) .none kV4 dc4 pm4 an4 cd4 ct4), sl4⟩) (c4 : PySem.W.codeIn K cd4 "Road.__init__" = true) (k4 : PySem.W.keepIn K (.ref f4) = true)
    (l5 : K.lookup f5 = some ⟨oc5, od5, .func (PySem.W.fnOf "__init__" "Open.__init__" (defArgs s_Open_init) (defBody s_Open_init) (defScope s_Open_init) .none kV5 dc5 pm5 an5 cd5 ct5), sl5⟩) (c5 : PySem.W.codeIn K cd5 "Open.__init__" = true) (k5 : PySem.W.keepIn K (.ref f5) = true)
    (l6 : K.lookup f6 = some ⟨oc6, od6, .func (PySem.W.fnOf "__init__" "Bridge.__init__" (defArgs s_Bridge_init) (defBody s_Bridge_init) (defScope s_Bridge_init) .none kV6 dc6 pm6 an6 cd6 ct6), sl6⟩) (c6 : PySem.W.codeIn K cd6 "Bridge.__init__" = true) (k6 : PySem.W.keepIn K (.ref f6) = true)
    (a7 : PySem.W.nsIn K mainGlobals "_law_road" = some (some (.ref f7))) (l7 : K.lookup f7 = some ⟨oc7, od7, .func (PySem.W.fnOf "_law_road" "_law_road" (defArgs s_law_road) (defBody s_law_road) (defScope s_law_road) .none kV7 dc7 pm7 an7 cd7 ct7), sl7⟩) (c7 : PySem.W.codeIn K cd7 "_law_road" = true) (k7 : PySem.W.keepIn K (.ref f7) = true)
    (a8 : PySem.W.nsIn K mainGlobals "_law_frac" = some (some (.ref f8))) (l8 : K.lookup f8 = some ⟨oc8, od8, .func (PySem.W.fnOf "_law_frac" "_law_frac" (defArgs s_law_frac) (defBody s_law_frac) (defScope s_law_frac) .none kV8 dc8 pm8 an8 cd8 ct8), sl8⟩) (c8 : PySem.W.codeIn K cd8 "_law_frac" = true) (k8 : PySem.W.keepIn K (.ref f8) = true)
    (a9 : PySem.W.nsIn K mainGlobals "_law_wheels" = some (some (.ref f9))) (l9 : K.lookup f9 = some ⟨oc9, od9, .func (PySem.W.fnOf "_law_wheels" "_law_wheels" (defArgs s_law_wheels) (defBody s_law_wheels) (defScope s_law_wheels) .none kV9 dc9 pm9 an9 cd9 ct9), sl9⟩) (c9 : PySem.W.codeIn K cd9 "_law_wheels" = true) (k9 : PySem.W.keepIn K (.ref f9) = true)
    (a10 : PySem.W.nsIn K mainGlobals "_law_close" = some (some (.ref f10))) (l10 : K.lookup f10 = some ⟨oc10, od10, .func (PySem.W.fnOf "_law_close" "_law_close" (defArgs s_law_close) (defBody s_law_close) (defScope s_law_close) .none kV10 dc10 pm10 an10 cd10 ct10), sl10⟩) (c10 : PySem.W.codeIn K cd10 "_law_close" = true) (k10 : PySem.W.keepIn K (.ref f10) = true)
    (a11 : PySem.W.nsIn K mainGlobals "_law_offsets" = some (some (.ref f11))) (l11 : K.lookup f11 = some ⟨oc11, od11, .func (PySem.W.fnOf "_law_offsets" "_law_offsets" (defArgs s_law_offsets) (defBody s_law_offsets) (defScope s_law_offsets) .none kV11 dc11 pm11 an11 cd11 ct11), sl11⟩) (c11 : PySem.W.codeIn K cd11 "_law_offsets" = true) (k11 : PySem.W.keepIn K (.ref f11) = true)
    (a12 : PySem.W.nsIn K mainGlobals "_law_part" = some (some (.ref f12))) (l12 : K.lookup f12 = some ⟨oc12, od12, .func (PySem.W.fnOf "_law_part" "_law_part" (defArgs s_law_part) (defBody s_law_part) (defScope s_law_part) .none kV12 dc12 pm12 an12 cd12 ct12), sl12⟩) (c12 : PySem.W.codeIn K cd12 "_law_part" = true) (k12 : PySem.W.keepIn K (.ref f12) = true)
    (a13 : PySem.W.nsIn K mainGlobals "_law_own_spans" = some (some (.ref f13))) (l13 : K.lookup f13 = some ⟨oc13, od13, .func (PySem.W.fnOf "_law_own_spans" "_law_own_spans" (defArgs s_law_own_spans) (defBody s_law_own_spans) (defScope s_law_own_spans) .none kV13 dc13 pm13 an13 cd13 ct13), sl13⟩) (c13 : PySem.W.codeIn K cd13 "_law_own_spans" = true) (k13 : PySem.W.keepIn K (.ref f13) = true)
    (a14 : PySem.W.nsIn K mainGlobals "_law_spans" = some (some (.ref f14))) (l14 : K.lookup f14 = some ⟨oc14, od14, .func (PySem.W.fnOf "_law_spans" "_law_spans" (defArgs s_law_spans) (defBody s_law_spans) (defScope s_law_spans) .none kV14 dc14 pm14 an14 cd14 ct14), sl14⟩) (c14 : PySem.W.codeIn K cd14 "_law_spans" = true) (k14 : PySem.W.keepIn K (.ref f14) = true)
    (a15 : PySem.W.nsIn K mainGlobals "_law_shut_of" = some (some (.ref f15))) (l15 : K.lookup f15 = some ⟨oc15, od15, .func (PySem.W.fnOf "_law_shut_of" "_law_shut_of" (defArgs s_law_shut_of) (defBody s_law_shut_of) (defScope s_law_shut_of) .none kV15 dc15 pm15 an15 cd15 ct15), sl15⟩) (c15 : PySem.W.codeIn K cd15 "_law_shut_of" = true) (k15 : PySem.W.keepIn K (.ref f15) = true)
    (a16 : PySem.W.nsIn K mainGlobals "_law_entries" = some (some (.ref f16))) (l16 : K.lookup f16 = some ⟨oc16, od16, .func (PySem.W.fnOf "_law_entries" "_law_entries" (defArgs s_law_entries) (defBody s_law_entries) (defScope s_law_entries) .none kV16 dc16 pm16 an16 cd16 ct16), sl16⟩) (c16 : PySem.W.codeIn K cd16 "_law_entries" = true) (k16 : PySem.W.keepIn K (.ref f16) = true)
    (a17 : PySem.W.nsIn K mainGlobals "_law_highs" = some (some (.ref f17))) (l17 : K.lookup f17 = some ⟨oc17, od17, .func (PySem.W.fnOf "_law_highs" "_law_highs" (defArgs s_law_highs) (defBody s_law_highs) (defScope s_law_highs) .none kV17 dc17 pm17 an17 cd17 ct17), sl17⟩) (c17 : PySem.W.codeIn K cd17 "_law_highs" = true) (k17 : PySem.W.keepIn K (.ref f17) = true)
    (a18 : PySem.W.nsIn K mainGlobals "_law_allowed" = some (some (.ref f18))) (l18 : K.lookup f18 = some ⟨oc18, od18, .func (PySem.W.fnOf "_law_allowed" "_law_allowed" (defArgs s_law_allowed) (defBody s_law_allowed) (defScope s_law_allowed) .none kV18 dc18 pm18 an18 cd18 ct18), sl18⟩) (c18 : PySem.W.codeIn K cd18 "_law_allowed" = true) (k18 : PySem.W.keepIn K (.ref f18) = true)
    (a19 : PySem.W.nsIn K mainGlobals "_law_same" = some (some (.ref f19))) (l19 : K.lookup f19 = some ⟨oc19, od19, .func (PySem.W.fnOf "_law_same" "_law_same" (defArgs s_law_same) (defBody s_law_same) (defScope s_law_same) .none kV19 dc19 pm19 an19 cd19 ct19), sl19⟩) (c19 : PySem.W.codeIn K cd19 "_law_same" = true) (k19 : PySem.W.keepIn K (.ref f19) = true)
    (a20 : PySem.W.nsIn K mainGlobals "offsets_of" = some (some (.ref f20))) (l20 : K.lookup f20 = some ⟨oc20, od20, .func (PySem.W.fnOf "offsets_of" "offsets_of" (defArgs s_offsets_of) (defBody s_offsets_of) (defScope s_offsets_of) .none kV20 dc20 pm20 an20 cd20 ct20), sl20⟩) (c20 : PySem.W.codeIn K cd20 "offsets_of" = true) (k20 : PySem.W.keepIn K (.ref f20) = true)
    (a21 : PySem.W.nsIn K mainGlobals "bridges_of" = some (some (.ref f21))) (l21 : K.lookup f21 = some ⟨oc21, od21, .func (PySem.W.fnOf "bridges_of" "bridges_of" (defArgs s_bridges_of) (defBody s_bridges_of) (defScope s_bridges_of) .none kV21 dc21 pm21 an21 cd21 ct21), sl21⟩) (c21 : PySem.W.codeIn K cd21 "bridges_of" = true) (k21 : PySem.W.keepIn K (.ref f21) = true)
    (a22 : PySem.W.nsIn K mainGlobals "bridge_of" = some (some (.ref f22))) (l22 : K.lookup f22 = some ⟨oc22, od22, .func (PySem.W.fnOf "bridge_of" "bridge_of" (defArgs s_bridge_of) (defBody s_bridge_of) (defScope s_bridge_of) .none kV22 dc22 pm22 an22 cd22 ct22), sl22⟩) (c22 : PySem.W.codeIn K cd22 "bridge_of" = true) (k22 : PySem.W.keepIn K (.ref f22) = true)
    (a23 : PySem.W.nsIn K mainGlobals "common_part" = some (some (.ref f23))) (l23 : K.lookup f23 = some ⟨oc23, od23, .func (PySem.W.fnOf "common_part" "common_part" (defArgs s_common_part) (defBody s_common_part) (defScope s_common_part) .none kV23 dc23 pm23 an23 cd23 ct23), sl23⟩) (c23 : PySem.W.codeIn K cd23 "common_part" = true) (k23 : PySem.W.keepIn K (.ref f23) = true)
    (a24 : PySem.W.nsIn K mainGlobals "made" = some (some (.ref f24))) (l24 : K.lookup f24 = some ⟨oc24, od24, .func (PySem.W.fnOf "made" "made" (defArgs s_made) (defBody s_made) (defScope s_made) .none kV24 dc24 pm24 an24 cd24 ct24), sl24⟩) (c24 : PySem.W.codeIn K cd24 "made" = true) (k24 : PySem.W.keepIn K (.ref f24) = true)
    (a25 : PySem.W.nsIn K mainGlobals "plus" = some (some (.ref f25))) (l25 : K.lookup f25 = some ⟨oc25, od25, .func (PySem.W.fnOf "plus" "plus" (defArgs s_plus) (defBody s_plus) (defScope s_plus) .none kV25 dc25 pm25 an25 cd25 ct25), sl25⟩) (c25 : PySem.W.codeIn K cd25 "plus" = true) (k25 : PySem.W.keepIn K (.ref f25) = true)
    (a26 : PySem.W.nsIn K mainGlobals "driven" = some (some (.ref f26))) (l26 : K.lookup f26 = some ⟨oc26, od26, .func (PySem.W.fnOf "driven" "driven" (defArgs s_driven) (defBody s_driven) (defScope s_driven) .none kV26 dc26 pm26 an26 cd26 ct26), sl26⟩) (c26 : PySem.W.codeIn K cd26 "driven" = true) (k26 : PySem.W.keepIn K (.ref f26) = true)
    (a27 : PySem.W.nsIn K mainGlobals "times_on" = some (some (.ref f27))) (l27 : K.lookup f27 = some ⟨oc27, od27, .func (PySem.W.fnOf "times_on" "times_on" (defArgs s_times_on) (defBody s_times_on) (defScope s_times_on) .none kV27 dc27 pm27 an27 cd27 ct27), sl27⟩) (c27 : PySem.W.codeIn K cd27 "times_on" = true) (k27 : PySem.W.keepIn K (.ref f27) = true)
    (a28 : PySem.W.nsIn K mainGlobals "less" = some (some (.ref f28))) (l28 : K.lookup f28 = some ⟨oc28, od28, .func (PySem.W.fnOf "less" "less" (defArgs s_less) (defBody s_less) (defScope s_less) .none kV28 dc28 pm28 an28 cd28 ct28), sl28⟩) (c28 : PySem.W.codeIn K cd28 "less" = true) (k28 : PySem.W.keepIn K (.ref f28) = true)
    (a29 : PySem.W.nsIn K mainGlobals "merged" = some (some (.ref f29))) (l29 : K.lookup f29 = some ⟨oc29, od29, .func (PySem.W.fnOf "merged" "merged" (defArgs s_merged) (defBody s_merged) (defScope s_merged) .none kV29 dc29 pm29 an29 cd29 ct29), sl29⟩) (c29 : PySem.W.codeIn K cd29 "merged" = true) (k29 : PySem.W.keepIn K (.ref f29) = true)
    (a30 : PySem.W.nsIn K mainGlobals "in_order" = some (some (.ref f30))) (l30 : K.lookup f30 = some ⟨oc30, od30, .func (PySem.W.fnOf "in_order" "in_order" (defArgs s_in_order) (defBody s_in_order) (defScope s_in_order) .none kV30 dc30 pm30 an30 cd30 ct30), sl30⟩) (c30 : PySem.W.codeIn K cd30 "in_order" = true) (k30 : PySem.W.keepIn K (.ref f30) = true)
    (a31 : PySem.W.nsIn K mainGlobals "moments_in" = some (some (.ref f31))) (l31 : K.lookup f31 = some ⟨oc31, od31, .func (PySem.W.fnOf "moments_in" "moments_in" (defArgs s_moments_in) (defBody s_moments_in) (defScope s_moments_in) .none kV31 dc31 pm31 an31 cd31 ct31), sl31⟩) (c31 : PySem.W.codeIn K cd31 "moments_in" = true) (k31 : PySem.W.keepIn K (.ref f31) = true)
    (a32 : PySem.W.nsIn K mainGlobals "sums_at" = some (some (.ref f32))) (l32 : K.lookup f32 = some ⟨oc32, od32, .func (PySem.W.fnOf "sums_at" "sums_at" (defArgs s_sums_at) (defBody s_sums_at) (defScope s_sums_at) .none kV32 dc32 pm32 an32 cd32 ct32), sl32⟩) (c32 : PySem.W.codeIn K cd32 "sums_at" = true) (k32 : PySem.W.keepIn K (.ref f32) = true)
    (a33 : PySem.W.nsIn K mainGlobals "first_greatest" = some (some (.ref f33))) (l33 : K.lookup f33 = some ⟨oc33, od33, .func (PySem.W.fnOf "first_greatest" "first_greatest" (defArgs s_first_greatest) (defBody s_first_greatest) (defScope s_first_greatest) .none kV33 dc33 pm33 an33 cd33 ct33), sl33⟩) (c33 : PySem.W.codeIn K cd33 "first_greatest" = true) (k33 : PySem.W.keepIn K (.ref f33) = true)
    (a34 : PySem.W.nsIn K mainGlobals "stays_of" = some (some (.ref f34))) (l34 : K.lookup f34 = some ⟨oc34, od34, .func (PySem.W.fnOf "stays_of" "stays_of" (defArgs s_stays_of) (defBody s_stays_of) (defScope s_stays_of) .none kV34 dc34 pm34 an34 cd34 ct34), sl34⟩) (c34 : PySem.W.codeIn K cd34 "stays_of" = true) (k34 : PySem.W.keepIn K (.ref f34) = true)
    (a35 : PySem.W.nsIn K mainGlobals "worst" = some (some (.ref f35))) (l35 : K.lookup f35 = some ⟨oc35, od35, .func (PySem.W.fnOf "worst" "worst" (defArgs s_worst) (defBody s_worst) (defScope s_worst) .none kV35 dc35 pm35 an35 cd35 ct35), sl35⟩) (c35 : PySem.W.codeIn K cd35 "worst" = true) (k35 : PySem.W.keepIn K (.ref f35) = true)
    (a36 : PySem.W.nsIn K mainGlobals "worst_low" = some (some (.ref f36))) (l36 : K.lookup f36 = some ⟨oc36, od36, .func (PySem.W.fnOf "worst_low" "worst_low" (defArgs s_worst_low) (defBody s_worst_low) (defScope s_worst_low) .none kV36 dc36 pm36 an36 cd36 ct36), sl36⟩) (c36 : PySem.W.codeIn K cd36 "worst_low" = true) (k36 : PySem.W.keepIn K (.ref f36) = true)
    (a37 : PySem.W.nsIn K mainGlobals "verdict" = some (some (.ref f37))) (l37 : K.lookup f37 = some ⟨oc37, od37, .func (PySem.W.fnOf "verdict" "verdict" (defArgs s_verdict) (defBody s_verdict) (defScope s_verdict) .none kV37 dc37 pm37 an37 cd37 ct37), sl37⟩) (c37 : PySem.W.codeIn K cd37 "verdict" = true) (k37 : PySem.W.keepIn K (.ref f37) = true)
    (a38 : PySem.W.nsIn K mainGlobals "whole" = some (some (.ref f38))) (l38 : K.lookup f38 = some ⟨oc38, od38, .func (PySem.W.fnOf "whole" "whole" (defArgs s_whole) (defBody s_whole) (defScope s_whole) .none kV38 dc38 pm38 an38 cd38 ct38), sl38⟩) (c38 : PySem.W.codeIn K cd38 "whole" = true) (k38 : PySem.W.keepIn K (.ref f38) = true)
    (a39 : PySem.W.nsIn K mainGlobals "meets_shut" = some (some (.ref f39))) (l39 : K.lookup f39 = some ⟨oc39, od39, .func (PySem.W.fnOf "meets_shut" "meets_shut" (defArgs s_meets_shut) (defBody s_meets_shut) (defScope s_meets_shut) .none kV39 dc39 pm39 an39 cd39 ct39), sl39⟩) (c39 : PySem.W.codeIn K cd39 "meets_shut" = true) (k39 : PySem.W.keepIn K (.ref f39) = true)
    (a40 : PySem.W.nsIn K mainGlobals "shuts_of" = some (some (.ref f40))) (l40 : K.lookup f40 = some ⟨oc40, od40, .func (PySem.W.fnOf "shuts_of" "shuts_of" (defArgs s_shuts_of) (defBody s_shuts_of) (defScope s_shuts_of) .none kV40 dc40 pm40 an40 cd40 ct40), sl40⟩) (c40 : PySem.W.codeIn K cd40 "shuts_of" = true) (k40 : PySem.W.keepIn K (.ref f40) = true)
    (a41 : PySem.W.nsIn K mainGlobals "may_enter" = some (some (.ref f41))) (l41 : K.lookup f41 = some ⟨oc41, od41, .func (PySem.W.fnOf "may_enter" "may_enter" (defArgs s_may_enter) (defBody s_may_enter) (defScope s_may_enter) .none kV41 dc41 pm41 an41 cd41 ct41), sl41⟩) (c41 : PySem.W.codeIn K cd41 "may_enter" = true) (k41 : PySem.W.keepIn K (.ref f41) = true)
    (a42 : PySem.W.nsIn K mainGlobals "law" = some (some (.ref f42))) (l42 : K.lookup f42 = some ⟨oc42, od42, .func (PySem.W.fnOf "law" "law" (defArgs s_law) (defBody s_law) (defScope s_law) .none kV42 dc42 pm42 an42 cd42 ct42), sl42⟩) (c42 : PySem.W.codeIn K cd42 "law" = true) (k42 : PySem.W.keepIn K (.ref f42) = true)
    (zz0 : PySem.W.nsIn K mainGlobals "len" = some none)
    (zz1 : PySem.W.nsIn K mainGlobals "range" = some none)
    (zz2 : PySem.W.nsIn K mainGlobals "list" = some none)
    (zz3 : PySem.W.nsIn K mainGlobals "abs" = some none)
    (zz4 : PySem.W.nsIn K mainGlobals "zip" = some none)
    (zz5 : PySem.W.nsIn K mainGlobals "sum" = some none)
    (zz6 : PySem.W.nsIn K mainGlobals "isinstance" = some none)
    (zz7 : PySem.W.nsIn K mainGlobals "int" = some none)
    (zz8 : PySem.W.nsIn K mainGlobals "str" = some none)
    (zz9 : PySem.W.nsIn K mainGlobals "tuple" = some none)
    (zz10 : PySem.W.nsIn K mainGlobals "bool" = some none)
    (zz11 : PySem.W.nsIn K mainGlobals "any" = some none)
    (zz12 : PySem.W.nsIn K mainGlobals "max" = some none)
    :
    ∃ fd : FuncData, (∀ (s : Shared) (v : Value), BindsTo s fd ⟨[v], []⟩ [("_law_script", v)]) ∧ ∀ base : Heap, K.In base → base.Ns mainGlobals mg → FnOk l.prog w K mg base CX0 16 fa fd ["_law_script"] (sp_law K) := by
  have e := hfa.symm.trans (PySem.W.mg_of X G a42)
  cases e
  have F0 := fun_mk (st := s_law_cell_at) l0 c0 k0
  have F1 := fun_mk (st := s_law_mix) l1 c1 k1
  have F2 := fun_mk (st := s_law_bridges) l2 c2 k2
  have F3 := fun_mk (st := s_law_shuts) l3 c3 k3
  have F4 := fun_mk (st := s_Road_init) l4 c4 k4
  have F5 := fun_mk (st := s_Open_init) l5 c5 k5
  have F6 := fun_mk (st := s_Bridge_init) l6 c6 k6
  have F7 := fun_mk (st := s_law_road) l7 c7 k7
  have F8 := fun_mk (st := s_law_frac) l8 c8 k8
  have F9 := fun_mk (st := s_law_wheels) l9 c9 k9
  have F10 := fun_mk (st := s_law_close) l10 c10 k10
  have F11 := fun_mk (st := s_law_offsets) l11 c11 k11
  have F12 := fun_mk (st := s_law_part) l12 c12 k12
  have F13 := fun_mk (st := s_law_own_spans) l13 c13 k13
  have F14 := fun_mk (st := s_law_spans) l14 c14 k14
  have F15 := fun_mk (st := s_law_shut_of) l15 c15 k15
  have F16 := fun_mk (st := s_law_entries) l16 c16 k16
  have F17 := fun_mk (st := s_law_highs) l17 c17 k17
  have F18 := fun_mk (st := s_law_allowed) l18 c18 k18
  have F19 := fun_mk (st := s_law_same) l19 c19 k19
  have F20 := fun_mk (st := s_offsets_of) l20 c20 k20
  have F21 := fun_mk (st := s_bridges_of) l21 c21 k21
  have F22 := fun_mk (st := s_bridge_of) l22 c22 k22
  have F23 := fun_mk (st := s_common_part) l23 c23 k23
  have F24 := fun_mk (st := s_made) l24 c24 k24
  have F25 := fun_mk (st := s_plus) l25 c25 k25
  have F26 := fun_mk (st := s_driven) l26 c26 k26
  have F27 := fun_mk (st := s_times_on) l27 c27 k27
  have F28 := fun_mk (st := s_less) l28 c28 k28
  have F29 := fun_mk (st := s_merged) l29 c29 k29
  have F30 := fun_mk (st := s_in_order) l30 c30 k30
  have F31 := fun_mk (st := s_moments_in) l31 c31 k31
  have F32 := fun_mk (st := s_sums_at) l32 c32 k32
  have F33 := fun_mk (st := s_first_greatest) l33 c33 k33
  have F34 := fun_mk (st := s_stays_of) l34 c34 k34
  have F35 := fun_mk (st := s_worst) l35 c35 k35
  have F36 := fun_mk (st := s_worst_low) l36 c36 k36
  have F37 := fun_mk (st := s_verdict) l37 c37 k37
  have F38 := fun_mk (st := s_whole) l38 c38 k38
  have F39 := fun_mk (st := s_meets_shut) l39 c39 k39
  have F40 := fun_mk (st := s_shuts_of) l40 c40 k40
  have F41 := fun_mk (st := s_may_enter) l41 c41 k41
  have F42 := fun_mk (st := s_law) l42 c42 k42
  have z_len := PySem.W.mg_none_of X G zz0
  have z_range := PySem.W.mg_none_of X G zz1
  have z_list := PySem.W.mg_none_of X G zz2
  have z_abs := PySem.W.mg_none_of X G zz3
  have z_zip := PySem.W.mg_none_of X G zz4
  have z_sum := PySem.W.mg_none_of X G zz5
  have z_isinstance := PySem.W.mg_none_of X G zz6
  have z_int := PySem.W.mg_none_of X G zz7
  have z_str := PySem.W.mg_none_of X G zz8
  have z_tuple := PySem.W.mg_none_of X G zz9
  have z_bool := PySem.W.mg_none_of X G zz10
  have z_any := PySem.W.mg_none_of X G zz11
  have z_max := PySem.W.mg_none_of X G zz12
  have o0 : KObj K C0 xc0 := kobj_mk xl0 xo0
  have n_Open : mg "Open" = some (.ref (clA K "Open")) := by rw [clA_of x0]; exact PySem.W.mg_of X G x0
  have o1 : KObj K C1 xc1 := kobj_mk xl1 xo1
  have n_Bridge : mg "Bridge" = some (.ref (clA K "Bridge")) := by rw [clA_of x1]; exact PySem.W.mg_of X G x1
  have o2 : KObj K C2 xc2 := kobj_mk xl2 xo2
  have n_Road : mg "Road" = some (.ref (clA K "Road")) := by rw [clA_of x2]; exact PySem.W.mg_of X G x2
  have pts : Pts K kNames [C0, C1, C2] := .cons x0 o0 (.cons x1 o1 (.cons x2 o2 (.nil)))
  have d_Open : PKd K kNames (clA K "Open") ["Open"] ["length"] := pkd_mk x0 xl0 xo0 pts xk0 xa0 xb0 xg0 xe0 xf0 xcg xct (na_cons xna0_0 na_nil)
  have d_Bridge : PKd K kNames (clA K "Bridge") ["Bridge"] ["name", "length", "bears", "wide", "most"] := pkd_mk x1 xl1 xo1 pts xk1 xa1 xb1 xg1 xe1 xf1 xcg xct (na_cons xna1_0 (na_cons xna1_1 (na_cons xna1_2 (na_cons xna1_3 (na_cons xna1_4 na_nil)))))
  have d_Road : PKd K kNames (clA K "Road") ["Road"] ["pieces", "rounds", "shuts"] := pkd_mk x2 xl2 xo2 pts xk2 xa2 xb2 xg2 xe2 xf2 xcg xct (na_cons xna2_0 (na_cons xna2_1 (na_cons xna2_2 na_nil)))
  refine ⟨PySem.W.fnOf "law" "law" (defArgs s_law) (defBody s_law) (defScope s_law) .none kV42 dc42 pm42 an42 cd42 ct42, fun s v => .of_eq rfl, fun base _ _ => ?_⟩
  have b0 := F0.binds (ps := ["_law_script", "_law_k"]) fun _ _ _ _ _ _ us hl => by obtain ⟨_, _, rfl⟩ := us2 hl; rfl
  have g_law_cell_at : Got l.prog w K mg base 1 "_law_cell_at" ["_law_script", "_law_k"] (sp_law_cell_at K) := ⟨⟨_, _, ok_law_cell_at F0 z_len, b0, k0, PySem.W.mg_of X G a0⟩⟩
  have b1 := F1.binds (ps := ["_law_cell", "_law_factor"]) fun _ _ _ _ _ _ us hl => by obtain ⟨_, _, rfl⟩ := us2 hl; rfl
  have g_law_mix : Got l.prog w K mg base 1 "_law_mix" ["_law_cell", "_law_factor"] (sp_law_mix K) := ⟨⟨_, _, ok_law_mix F1 , b1, k1, PySem.W.mg_of X G a1⟩⟩
  have b2 := F2.binds (ps := ["_law_cell", "_law_count"]) fun _ _ _ _ _ _ us hl => by obtain ⟨_, _, rfl⟩ := us2 hl; rfl
  have g_law_bridges : Got l.prog w K mg base 2 "_law_bridges" ["_law_cell", "_law_count"] (sp_law_bridges K) := ⟨⟨_, _, ok_law_bridges F2 g_law_mix z_range, b2, k2, PySem.W.mg_of X G a2⟩⟩
  have b3 := F3.binds (ps := ["_law_cell", "_law_bridges_here"]) fun _ _ _ _ _ _ us hl => by obtain ⟨_, _, rfl⟩ := us2 hl; rfl
  have g_law_shuts : Got l.prog w K mg base 2 "_law_shuts" ["_law_cell", "_law_bridges_here"] (sp_law_shuts K) := ⟨⟨_, _, ok_law_shuts F3 g_law_mix z_range z_len, b3, k3, PySem.W.mg_of X G a3⟩⟩
  have b4 := F4.binds (ps := ["self", "pieces", "rounds", "shuts"]) fun _ _ _ _ _ _ us hl => by obtain ⟨_, _, _, _, rfl⟩ := us4 hl; rfl
  have m_Road : GotP l.prog w K mg base 1 "Road" ["self", "pieces", "rounds", "shuts"] (sp_Road_init K) := ⟨⟨_, _, mk_mk x2 xm2 xi2 xn2 xp2, ok_Road_init F4 z_list, b4, n_Road⟩⟩
  have b5 := F5.binds (ps := ["self", "length"]) fun _ _ _ _ _ _ us hl => by obtain ⟨_, _, rfl⟩ := us2 hl; rfl
  have m_Open : GotP l.prog w K mg base 1 "Open" ["self", "length"] (sp_Open_init K) := ⟨⟨_, _, mk_mk x0 xm0 xi0 xn0 xp0, ok_Open_init F5 , b5, n_Open⟩⟩
  have b6 := F6.binds (ps := ["self", "name", "length", "bears", "wide", "most"]) fun _ _ _ _ _ _ us hl => by obtain ⟨_, _, _, _, _, _, rfl⟩ := us6 hl; rfl
  have m_Bridge : GotP l.prog w K mg base 1 "Bridge" ["self", "name", "length", "bears", "wide", "most"] (sp_Bridge_init K) := ⟨⟨_, _, mk_mk x1 xm1 xi1 xn1 xp1, ok_Bridge_init F6 , b6, n_Bridge⟩⟩
  have b7 := F7.binds (ps := ["_law_bridges_here", "_law_rounds", "_law_shuts_here"]) fun _ _ _ _ _ _ us hl => by obtain ⟨_, _, _, rfl⟩ := us3 hl; rfl
  have g_law_road : Got l.prog w K mg base 3 "_law_road" ["_law_bridges_here", "_law_rounds", "_law_shuts_here"] (sp_law_road K) := ⟨⟨_, _, ok_law_road F7 m_Road d_Road m_Open d_Open m_Bridge d_Bridge z_len, b7, k7, PySem.W.mg_of X G a7⟩⟩
  have b8 := F8.binds (ps := ["_law_above", "_law_beneath"]) fun _ _ _ _ _ _ us hl => by obtain ⟨_, _, rfl⟩ := us2 hl; rfl
  have g_law_frac : Got l.prog w K mg base 1 "_law_frac" ["_law_above", "_law_beneath"] (sp_law_frac K) := ⟨⟨_, _, ok_law_frac F8 z_abs, b8, k8, PySem.W.mg_of X G a8⟩⟩
  have b9 := F9.binds (ps := ["_law_cell", "_law_bears"]) fun _ _ _ _ _ _ us hl => by obtain ⟨_, _, rfl⟩ := us2 hl; rfl
  have g_law_wheels : Got l.prog w K mg base 2 "_law_wheels" ["_law_cell", "_law_bears"] (sp_law_wheels K) := ⟨⟨_, _, ok_law_wheels F9 g_law_mix z_range, b9, k9, PySem.W.mg_of X G a9⟩⟩
  have b10 := F10.binds (ps := ["_law_cells", "_law_bridges_here", "_law_most"]) fun _ _ _ _ _ _ us hl => by obtain ⟨_, _, _, rfl⟩ := us3 hl; rfl
  have g_law_close : Got l.prog w K mg base 3 "_law_close" ["_law_cells", "_law_bridges_here", "_law_most"] (sp_law_close K) := ⟨⟨_, _, ok_law_close F10 g_law_mix g_law_frac g_law_wheels z_len, b10, k10, PySem.W.mg_of X G a10⟩⟩
  have b11 := F11.binds (ps := ["_law_wheels_here"]) fun _ _ _ _ _ _ us hl => by obtain ⟨_, rfl⟩ := us1 hl; rfl
  have g_law_offsets : Got l.prog w K mg base 1 "_law_offsets" ["_law_wheels_here"] (sp_law_offsets K) := ⟨⟨_, _, ok_law_offsets F11 , b11, k11, PySem.W.mg_of X G a11⟩⟩
  have b12 := F12.binds (ps := ["_law_time"]) fun _ _ _ _ _ _ us hl => by obtain ⟨_, rfl⟩ := us1 hl; rfl
  have g_law_part : Got l.prog w K mg base 1 "_law_part" ["_law_time"] (sp_law_part K) := ⟨⟨_, _, ok_law_part F12 , b12, k12, PySem.W.mg_of X G a12⟩⟩
  have b13 := F13.binds (ps := ["_law_bridge", "_law_crossing"]) fun _ _ _ _ _ _ us hl => by obtain ⟨_, _, rfl⟩ := us2 hl; rfl
  have g_law_own_spans : Got l.prog w K mg base 2 "_law_own_spans" ["_law_bridge", "_law_crossing"] (sp_law_own_spans K) := ⟨⟨_, _, ok_law_own_spans F13 g_law_offsets g_law_part z_zip, b13, k13, PySem.W.mg_of X G a13⟩⟩
  have b14 := F14.binds (ps := ["_law_bridge", "_law_crossings"]) fun _ _ _ _ _ _ us hl => by obtain ⟨_, _, rfl⟩ := us2 hl; rfl
  have g_law_spans : Got l.prog w K mg base 3 "_law_spans" ["_law_bridge", "_law_crossings"] (sp_law_spans K) := ⟨⟨_, _, ok_law_spans F14 g_law_own_spans, b14, k14, PySem.W.mg_of X G a14⟩⟩
  have b15 := F15.binds (ps := ["_law_shuts_here", "_law_name"]) fun _ _ _ _ _ _ us hl => by obtain ⟨_, _, rfl⟩ := us2 hl; rfl
  have g_law_shut_of : Got l.prog w K mg base 1 "_law_shut_of" ["_law_shuts_here", "_law_name"] (sp_law_shut_of K) := ⟨⟨_, _, ok_law_shut_of F15 , b15, k15, PySem.W.mg_of X G a15⟩⟩
  have b16 := F16.binds (ps := ["_law_bridge", "_law_shuts_here", "_law_spans_here", "_law_own"]) fun _ _ _ _ _ _ us hl => by obtain ⟨_, _, _, _, rfl⟩ := us4 hl; rfl
  have g_law_entries : Got l.prog w K mg base 2 "_law_entries" ["_law_bridge", "_law_shuts_here", "_law_spans_here", "_law_own"] (sp_law_entries K) := ⟨⟨_, _, ok_law_entries F16 g_law_shut_of, b16, k16, PySem.W.mg_of X G a16⟩⟩
  have b17 := F17.binds (ps := ["_law_spans_here", "_law_moment"]) fun _ _ _ _ _ _ us hl => by obtain ⟨_, _, rfl⟩ := us2 hl; rfl
  have g_law_highs : Got l.prog w K mg base 1 "_law_highs" ["_law_spans_here", "_law_moment"] (sp_law_highs K) := ⟨⟨_, _, ok_law_highs F17 z_sum, b17, k17, PySem.W.mg_of X G a17⟩⟩
  have b18 := F18.binds (ps := ["_law_bridge", "_law_shuts_here", "_law_spans_here", "_law_own"]) fun _ _ _ _ _ _ us hl => by obtain ⟨_, _, _, _, rfl⟩ := us4 hl; rfl
  have g_law_allowed : Got l.prog w K mg base 2 "_law_allowed" ["_law_bridge", "_law_shuts_here", "_law_spans_here", "_law_own"] (sp_law_allowed K) := ⟨⟨_, _, ok_law_allowed F18 g_law_shut_of g_law_highs, b18, k18, PySem.W.mg_of X G a18⟩⟩
  have b19 := F19.binds (ps := ["_law_found", "_law_due"]) fun _ _ _ _ _ _ us hl => by obtain ⟨_, _, rfl⟩ := us2 hl; rfl
  have g_law_same := rec_all_law_same (P := l.prog) (w := w) (base := base) F19 b19 k19 (PySem.W.mg_of X G a19) z_bool z_int z_isinstance z_len z_list z_range z_str z_tuple 12
  have b20 := F20.binds (ps := ["wheels"]) fun _ _ _ _ _ _ us hl => by obtain ⟨_, rfl⟩ := us1 hl; rfl
  have g_offsets_of : Got l.prog w K mg base 1 "offsets_of" ["wheels"] (sp_offsets_of K) := ⟨⟨_, _, ok_offsets_of F20 , b20, k20, PySem.W.mg_of X G a20⟩⟩
  have b21 := F21.binds (ps := ["road"]) fun _ _ _ _ _ _ us hl => by obtain ⟨_, rfl⟩ := us1 hl; rfl
  have g_bridges_of : Got l.prog w K mg base 1 "bridges_of" ["road"] (sp_bridges_of K) := ⟨⟨_, _, ok_bridges_of F21 d_Bridge n_Bridge z_isinstance, b21, k21, PySem.W.mg_of X G a21⟩⟩
  have b22 := F22.binds (ps := ["road", "name"]) fun _ _ _ _ _ _ us hl => by obtain ⟨_, _, rfl⟩ := us2 hl; rfl
  have g_bridge_of : Got l.prog w K mg base 2 "bridge_of" ["road", "name"] (sp_bridge_of K) := ⟨⟨_, _, ok_bridge_of F22 g_bridges_of, b22, k22, PySem.W.mg_of X G a22⟩⟩
  have b23 := F23.binds (ps := ["one", "other"]) fun _ _ _ _ _ _ us hl => by obtain ⟨_, _, rfl⟩ := us2 hl; rfl
  have g_common_part : Got l.prog w K mg base 1 "common_part" ["one", "other"] (sp_common_part K) := ⟨⟨_, _, ok_common_part F23 z_abs, b23, k23, PySem.W.mg_of X G a23⟩⟩
  have b24 := F24.binds (ps := ["above", "beneath"]) fun _ _ _ _ _ _ us hl => by obtain ⟨_, _, rfl⟩ := us2 hl; rfl
  have g_made : Got l.prog w K mg base 2 "made" ["above", "beneath"] (sp_made K) := ⟨⟨_, _, ok_made F24 g_common_part, b24, k24, PySem.W.mg_of X G a24⟩⟩
  have b25 := F25.binds (ps := ["one", "other"]) fun _ _ _ _ _ _ us hl => by obtain ⟨_, _, rfl⟩ := us2 hl; rfl
  have g_plus : Got l.prog w K mg base 3 "plus" ["one", "other"] (sp_plus K) := ⟨⟨_, _, ok_plus F25 g_made, b25, k25, PySem.W.mg_of X G a25⟩⟩
  have b26 := F26.binds (ps := ["moment", "distance", "speed"]) fun _ _ _ _ _ _ us hl => by obtain ⟨_, _, _, rfl⟩ := us3 hl; rfl
  have g_driven : Got l.prog w K mg base 4 "driven" ["moment", "distance", "speed"] (sp_driven K) := ⟨⟨_, _, ok_driven F26 g_plus g_made, b26, k26, PySem.W.mg_of X G a26⟩⟩
  have b27 := F27.binds (ps := ["road", "crossing"]) fun _ _ _ _ _ _ us hl => by obtain ⟨_, _, rfl⟩ := us2 hl; rfl
  have g_times_on : Got l.prog w K mg base 5 "times_on" ["road", "crossing"] (sp_times_on K) := ⟨⟨_, _, ok_times_on F27 g_offsets_of g_bridge_of g_driven, b27, k27, PySem.W.mg_of X G a27⟩⟩
  have b28 := F28.binds (ps := ["one", "other"]) fun _ _ _ _ _ _ us hl => by obtain ⟨_, _, rfl⟩ := us2 hl; rfl
  have g_less : Got l.prog w K mg base 1 "less" ["one", "other"] (sp_less K) := ⟨⟨_, _, ok_less F28 , b28, k28, PySem.W.mg_of X G a28⟩⟩
  have b29 := F29.binds (ps := ["one", "other"]) fun _ _ _ _ _ _ us hl => by obtain ⟨_, _, rfl⟩ := us2 hl; rfl
  have g_merged : Got l.prog w K mg base 2 "merged" ["one", "other"] (sp_merged K) := ⟨⟨_, _, ok_merged F29 g_less z_len, b29, k29, PySem.W.mg_of X G a29⟩⟩
  have b30 := F30.binds (ps := ["some"]) fun _ _ _ _ _ _ us hl => by obtain ⟨_, rfl⟩ := us1 hl; rfl
  have g_in_order := rec_all_in_order (P := l.prog) (w := w) (base := base) F30 b30 k30 (PySem.W.mg_of X G a30) g_merged z_len z_list 8
  have b31 := F31.binds (ps := ["stays"]) fun _ _ _ _ _ _ us hl => by obtain ⟨_, rfl⟩ := us1 hl; rfl
  have g_moments_in : Got l.prog w K mg base 11 "moments_in" ["stays"] (sp_moments_in K) := ⟨⟨_, _, ok_moments_in F31 g_in_order z_list, b31, k31, PySem.W.mg_of X G a31⟩⟩
  have b32 := F32.binds (ps := ["stays", "moment"]) fun _ _ _ _ _ _ us hl => by obtain ⟨_, _, rfl⟩ := us2 hl; rfl
  have g_sums_at : Got l.prog w K mg base 2 "sums_at" ["stays", "moment"] (sp_sums_at K) := ⟨⟨_, _, ok_sums_at F32 g_less z_sum, b32, k32, PySem.W.mg_of X G a32⟩⟩
  have b33 := F33.binds (ps := ["stays", "spot"]) fun _ _ _ _ _ _ us hl => by obtain ⟨_, _, rfl⟩ := us2 hl; rfl
  have g_first_greatest : Got l.prog w K mg base 12 "first_greatest" ["stays", "spot"] (sp_first_greatest K) := ⟨⟨_, _, ok_first_greatest F33 g_moments_in g_sums_at, b33, k33, PySem.W.mg_of X G a33⟩⟩
  have b34 := F34.binds (ps := ["road", "crossings", "name"]) fun _ _ _ _ _ _ us hl => by obtain ⟨_, _, _, rfl⟩ := us3 hl; rfl
  have g_stays_of : Got l.prog w K mg base 6 "stays_of" ["road", "crossings", "name"] (sp_stays_of K) := ⟨⟨_, _, ok_stays_of F34 g_times_on z_zip, b34, k34, PySem.W.mg_of X G a34⟩⟩
  have b35 := F35.binds (ps := ["road", "crossings", "name"]) fun _ _ _ _ _ _ us hl => by obtain ⟨_, _, _, rfl⟩ := us3 hl; rfl
  have g_worst : Got l.prog w K mg base 13 "worst" ["road", "crossings", "name"] (sp_worst K) := ⟨⟨_, _, ok_worst F35 g_first_greatest g_stays_of, b35, k35, PySem.W.mg_of X G a35⟩⟩
  have b36 := F36.binds (ps := ["road", "crossings", "name"]) fun _ _ _ _ _ _ us hl => by obtain ⟨_, _, _, rfl⟩ := us3 hl; rfl
  have g_worst_low : Got l.prog w K mg base 13 "worst_low" ["road", "crossings", "name"] (sp_worst_low K) := ⟨⟨_, _, ok_worst_low F36 g_first_greatest g_stays_of, b36, k36, PySem.W.mg_of X G a36⟩⟩
  have b37 := F37.binds (ps := ["road", "crossings", "name"]) fun _ _ _ _ _ _ us hl => by obtain ⟨_, _, _, rfl⟩ := us3 hl; rfl
  have g_verdict : Got l.prog w K mg base 14 "verdict" ["road", "crossings", "name"] (sp_verdict K) := ⟨⟨_, _, ok_verdict F37 g_worst g_worst_low g_bridge_of, b37, k37, PySem.W.mg_of X G a37⟩⟩
  have b38 := F38.binds (ps := ["number"]) fun _ _ _ _ _ _ us hl => by obtain ⟨_, rfl⟩ := us1 hl; rfl
  have g_whole : Got l.prog w K mg base 1 "whole" ["number"] (sp_whole K) := ⟨⟨_, _, ok_whole F38 , b38, k38, PySem.W.mg_of X G a38⟩⟩
  have b39 := F39.binds (ps := ["times", "shut"]) fun _ _ _ _ _ _ us hl => by obtain ⟨_, _, rfl⟩ := us2 hl; rfl
  have g_meets_shut : Got l.prog w K mg base 2 "meets_shut" ["times", "shut"] (sp_meets_shut K) := ⟨⟨_, _, ok_meets_shut F39 g_less g_whole, b39, k39, PySem.W.mg_of X G a39⟩⟩
  have b40 := F40.binds (ps := ["road", "name"]) fun _ _ _ _ _ _ us hl => by obtain ⟨_, _, rfl⟩ := us2 hl; rfl
  have g_shuts_of : Got l.prog w K mg base 1 "shuts_of" ["road", "name"] (sp_shuts_of K) := ⟨⟨_, _, ok_shuts_of F40 , b40, k40, PySem.W.mg_of X G a40⟩⟩
  have b41 := F41.binds (ps := ["road", "crossings", "crossing"]) fun _ _ _ _ _ _ us hl => by obtain ⟨_, _, _, rfl⟩ := us3 hl; rfl
  have g_may_enter : Got l.prog w K mg base 15 "may_enter" ["road", "crossings", "crossing"] (sp_may_enter K) := ⟨⟨_, _, ok_may_enter F41 g_times_on g_verdict g_meets_shut g_shuts_of z_any, b41, k41, PySem.W.mg_of X G a41⟩⟩
  exact ok_law (P := l.prog) (w := w) (base := base) F42 g_law_cell_at g_law_bridges g_law_shuts g_law_road g_law_mix g_law_close g_law_spans g_law_own_spans g_law_entries g_law_allowed g_law_frac g_law_same g_may_enter z_list z_range z_max z_len
theorem walk {l : PySem.W.OpenLaw} {q : Program} {loose : List Str} {XP : (Str → Option Value) → Heap → Prop} {YP : World → Heap → Prop} {d : DefRec} {K : Params → PySem.W.Frag} (hn : l.most = some 63) (hdf : d.params.defaults = [])
    (hY : ∀ (w : World) (h : Heap), YP w h → (K w.params).In h)
    (F : ∀ (w : World) (mg : Str → Option Value) (fa : Addr) (h : Heap), (K w.params).In h → h.Ns mainGlobals mg → mg d.name = some (.ref fa) →
      ∃ fd : FuncData, (∀ (s : Shared) (u : Value), BindsTo s fd ⟨[u], []⟩ [("_law_script", u)]) ∧ ∀ base : Heap, (K w.params).In base → base.Ns mainGlobals mg → FnOk l.prog w (K w.params) mg base CX0 16 fa fd ["_law_script"] (sp_law (K w.params))) :
    PySem.W.WalkO q loose XP YP l.row.toRowW d [] (fun f vs => PySem.call f vs) :=
  L2.walk_of (n := 63) (k := 16) (x := "_law_script") (CX := fun _ => CX0) (sp := fun w => sp_law (K w.params)) hn (by decide) hdf ⟨rfl, by decide, by decide⟩ hY F (fun _ _ a ns hl _ hS => ⟨a, ns, rfl, hS, hl, fun _ => rfl⟩) fun _ _ _ _ _ z => z
end Kl
namespace PySem.W.Fast
theorem tw11952015705622616414 : True := ⟨⟩
theorem tw5694873041206945079 : True := ⟨⟩
theorem tw9485495358473348082 : True := ⟨⟩
theorem tw6301769610686600219 : True := ⟨⟩
theorem tw5700345812592816540 : True := ⟨⟩
theorem tw9091158714067694069 : True := ⟨⟩
theorem tw15430043176542261100 : True := ⟨⟩
theorem tw4828582660511702324 : True := ⟨⟩
theorem tw9310305222592166457 : True := ⟨⟩
theorem tw15729453631833082610 : True := ⟨⟩
theorem tw15860548868148309735 : True := ⟨⟩
theorem tw18070711267161620106 : True := ⟨⟩
theorem tw2175587105053439867 : True := ⟨⟩
theorem tw14846393800775274987 : True := ⟨⟩
theorem tw5369159882391750053 : True := ⟨⟩
theorem tw15040424317696166958 : True := ⟨⟩
theorem tw11086930873995852391 : True := ⟨⟩
theorem tw17882032658198976738 : True := ⟨⟩
theorem tw10137964146349018217 : True := ⟨⟩
theorem tw12665929254919697045 : True := ⟨⟩
theorem tw9076040191565355221 : True := ⟨⟩
theorem tw4277891979529554363 : True := ⟨⟩
theorem tw18366946046414078098 : True := ⟨⟩
theorem tw2381052691551480378 : True := ⟨⟩
theorem tw8369863101972090380 : True := ⟨⟩
theorem tw10327395839481307346 : True := ⟨⟩
theorem tw15774661136806680435 : True := ⟨⟩
theorem tw10774013358750628586 : True := ⟨⟩
theorem tw12031231900415034263 : True := ⟨⟩
theorem tw2836396010272360914 : True := ⟨⟩
theorem tw3195415728531394190 : True := ⟨⟩
theorem tw1855211821034255142 : True := ⟨⟩
theorem tw17101836662183258600 : True := ⟨⟩
theorem tw6258840606760027486 : True := ⟨⟩
theorem tw15030685806144109952 : True := ⟨⟩
theorem tw4113441410957328988 : True := ⟨⟩
theorem tw10143504186841538154 : True := ⟨⟩
theorem tw16052994753037613920 : True := ⟨⟩
theorem tw7764590214621681361 : True := ⟨⟩
theorem tw1567494199674812241 : True := ⟨⟩
theorem tw10565632963873854756 : True := ⟨⟩
theorem tw10002626237099704433 : True := ⟨⟩
theorem tw17480576793052364202 : True := ⟨⟩
theorem tw9041819874165302331 : True := ⟨⟩
theorem tw15987321957077719492 : True := ⟨⟩
theorem tw4470025494439313294 : True := ⟨⟩
theorem tw18189113309639961987 : True := ⟨⟩
theorem tw591629514293639981 : True := ⟨⟩
theorem tw1685888807605226713 : True := ⟨⟩
theorem tw18134343789059761755 : True := ⟨⟩
theorem tw15116642195249435422 : True := ⟨⟩
theorem tw15457914739277615789 : True := ⟨⟩
theorem tw10971172349955295660 : True := ⟨⟩
theorem tw258459606905695959 : True := ⟨⟩
theorem tw5024933104192139415 : True := ⟨⟩
theorem tw13562919010027157749 : True := ⟨⟩
theorem tw16454884150328222573 : True := ⟨⟩
theorem tw6888958146029343760 : True := ⟨⟩
theorem tw10359680917492805866 : True := ⟨⟩
theorem tw15084800583548927362 : True := ⟨⟩
theorem tw13513385175565193812 : True := ⟨⟩
theorem tw15375422211929143109 : True := ⟨⟩
theorem tw8735426848456376353 : True := ⟨⟩
theorem tw13821726142953241399 : True := ⟨⟩
theorem tw18301117621138476402 : True := ⟨⟩
theorem tw1356185845638723992 : True := ⟨⟩
theorem tw17758540946398818505 : True := ⟨⟩
theorem tw13198884135917374406 : True := ⟨⟩
theorem tw16980526794732003751 : True := ⟨⟩
theorem tw13343905198281120951 : True := ⟨⟩
theorem tw17929919341604712563 : True := ⟨⟩
theorem tw14580624689391142001 : True := ⟨⟩
theorem tw8050671710019430631 : True := ⟨⟩
theorem tw15329028976487944209 : True := ⟨⟩
theorem tw13744799855193459731 : True := ⟨⟩
theorem tw13364924555732400247 : True := ⟨⟩
theorem tw11616128396605613712 : True := ⟨⟩
theorem tw13873372319552989431 : True := ⟨⟩
theorem tw4165732660247778127 : True := ⟨⟩
theorem tw16751577963542173309 : True := ⟨⟩
theorem tw9883106540903067069 : True := ⟨⟩
theorem tw2308244790198829932 : True := ⟨⟩
theorem tw13053598882029503987 : True := ⟨⟩
theorem tw1693863495932516725 : True := ⟨⟩
theorem tw15502779816802005759 : True := ⟨⟩
theorem tw10357086571028835061 : True := ⟨⟩
theorem tw16981924868779259996 : True := ⟨⟩
theorem tw11106042735659083252 : True := ⟨⟩
theorem tw8472705517283867033 : True := ⟨⟩
theorem tw16297703045369848500 : True := ⟨⟩
theorem tw11728122491980950023 : True := ⟨⟩
theorem tw8683553903721867745 : True := ⟨⟩
theorem tw9938831110875201665 : True := ⟨⟩
theorem tw11080001086780119040 : True := ⟨⟩
theorem tw8651004725981922066 : True := ⟨⟩
theorem tw16520854183003389497 : True := ⟨⟩
theorem tw8684473407368315780 : True := ⟨⟩
theorem tw10259200243809398815 : True := ⟨⟩
theorem tw12180508485660265644 : True := ⟨⟩
theorem tw4521669247935736204 : True := ⟨⟩
theorem tw7424152560202099960 : True := ⟨⟩
theorem tw5653882755088488312 : True := ⟨⟩
theorem tw14365037608742003000 : True := ⟨⟩
theorem tw12661949549746502508 : True := ⟨⟩
theorem tw4644106971410567717 : True := ⟨⟩
theorem tw4138258526525583301 : True := ⟨⟩
theorem tw623579315865914733 : True := ⟨⟩
theorem tw4999194231459741129 : True := ⟨⟩
theorem tw15514658478636104459 : True := ⟨⟩
theorem tw11429940034449133967 : True := ⟨⟩
theorem tw217404949450149774 : True := ⟨⟩
theorem tw2966005131276196300 : True := ⟨⟩
theorem tw6833386704283674878 : True := ⟨⟩
theorem tw6212041394455670292 : True := ⟨⟩
theorem tw1237832134100982553 : True := ⟨⟩
theorem tw2546431773641429906 : True := ⟨⟩
theorem tw11681958739741704165 : True := ⟨⟩
theorem tw9000455796361424488 : True := ⟨⟩
theorem tw1370225970648600247 : True := ⟨⟩
theorem tw1104712174812966208 : True := ⟨⟩
theorem tw16297954698784634716 : True := ⟨⟩
theorem tw8008429713166349425 : True := ⟨⟩
theorem tw5886804941073189122 : True := ⟨⟩
theorem tw6653551922239149400 : True := ⟨⟩
theorem tw3596993926704659168 : True := ⟨⟩
theorem tw10344954352154051769 : True := ⟨⟩
theorem tw15644994678835235105 : True := ⟨⟩
theorem tw13203925087079502940 : True := ⟨⟩
theorem tw387662224164621227 : True := ⟨⟩
theorem tw4179483296659396418 : True := ⟨⟩
theorem tw16822895178014375790 : True := ⟨⟩
theorem tw3013979736018220917 : True := ⟨⟩
theorem tw902609083046472106 : True := ⟨⟩
theorem tw3797127304631157552 : True := ⟨⟩
theorem tw2269245708802572882 : True := ⟨⟩
theorem tw12911621350104178453 : True := ⟨⟩
theorem tw14761473112020279970 : True := ⟨⟩
theorem tw17498204059280728365 : True := ⟨⟩
theorem tw11213705668772237976 : True := ⟨⟩
theorem tw9949680809981888918 : True := ⟨⟩
theorem tw6164686404473848819 : True := ⟨⟩
theorem tw2859409124511579860 : True := ⟨⟩
theorem tw6416031041543694170 : True := ⟨⟩
theorem tw9364717085282657395 : True := ⟨⟩
theorem tw2714069866249729140 : True := ⟨⟩
theorem tw4196584896378059319 : True := ⟨⟩
theorem tw16643274709123665054 : True := ⟨⟩
theorem tw13823508133948426488 : True := ⟨⟩
theorem tw8771714586672249569 : True := ⟨⟩
theorem tw15399696792107047692 : True := ⟨⟩
theorem tw18228343918170052443 : True := ⟨⟩
theorem tw11447272858717784279 : True := ⟨⟩
theorem tw17224644997929683809 : True := ⟨⟩
theorem tw6271250791627077905 : True := ⟨⟩
theorem tw7205292383493262184 : True := ⟨⟩
theorem tw10690509618097774456 : True := ⟨⟩
theorem tw5156712230074913320 : True := ⟨⟩
theorem tw1238668955784423511 : True := ⟨⟩
theorem tw7669798288124893432 : True := ⟨⟩
theorem tw15993241517171390330 : True := ⟨⟩
theorem tw13570058825835123715 : True := ⟨⟩
theorem tw2983803760102747869 : True := ⟨⟩
theorem tw8572249835271274596 : True := ⟨⟩
theorem tw2848377731336140171 : True := ⟨⟩
theorem tw7817294800649034107 : True := ⟨⟩
theorem tw9012347314874846201 : True := ⟨⟩
theorem tw831141070515676770 : True := ⟨⟩
theorem tw10954086928823517973 : True := ⟨⟩
theorem tw15327861455590022250 : True := ⟨⟩
theorem tw8364676532354397741 : True := ⟨⟩
theorem tw7577196469628661760 : True := ⟨⟩
theorem tw16052393368115824830 : True := ⟨⟩
theorem tw13057655941012644110 : True := ⟨⟩
theorem tw7698543176428532408 : True := ⟨⟩
theorem tw7124597923885103231 : True := ⟨⟩
theorem tw17682613541092438539 : True := ⟨⟩
theorem tw12204315289124549149 : True := ⟨⟩
theorem tw12295805214582160238 : True := ⟨⟩
theorem tw16741721642225801570 : True := ⟨⟩
theorem tw15854111214407786328 : True := ⟨⟩
theorem tw13502181069913753665 : True := ⟨⟩
theorem tw9588615788221634496 : True := ⟨⟩
theorem tw3791445533975856242 : True := ⟨⟩
theorem tw6928375077890679036 : True := ⟨⟩
theorem tw6982214687289236069 : True := ⟨⟩
theorem tw967805582322890709 : True := ⟨⟩
theorem tw15556472092334929353 : True := ⟨⟩
theorem tw5752035938030881149 : True := ⟨⟩
theorem tw6219524890432921348 : True := ⟨⟩
theorem tw1103590204908947059 : True := ⟨⟩
theorem tw6914062816985492867 : True := ⟨⟩
theorem tw4891620373221999854 : True := ⟨⟩
theorem tw13711512601792414415 : True := ⟨⟩
theorem tw5832087182507944171 : True := ⟨⟩
theorem tw12457434663183026072 : True := ⟨⟩
theorem tw11081888344121237754 : True := ⟨⟩
theorem tw518428596903073465 : True := ⟨⟩
theorem tw11666837967460791570 : True := ⟨⟩
theorem tw6791179023960910662 : True := ⟨⟩
theorem tw358338647850314424 : True := ⟨⟩
theorem tw12845145047697464338 : True := ⟨⟩
theorem tw7114182667119879606 : True := ⟨⟩
theorem tw9758321199283480809 : True := ⟨⟩
theorem tw3806242129857186671 : True := ⟨⟩
theorem tw2211623637784471194 : True := ⟨⟩
theorem tw457793329847457837 : True := ⟨⟩
theorem tw3002842452158263927 : True := ⟨⟩
theorem tw10982701046480987778 : True := ⟨⟩
theorem tw16367100323015021578 : True := ⟨⟩
theorem tw10331362808964559769 : True := ⟨⟩
theorem tw12619139018262416530 : True := ⟨⟩
theorem tw13632318598811912720 : True := ⟨⟩
theorem tw12348769588468388410 : True := ⟨⟩
theorem tw10156940961131114484 : True := ⟨⟩
theorem tw7240629791052866884 : True := ⟨⟩
theorem tw4496558257877469573 : True := ⟨⟩
theorem tw9295599521665682461 : True := ⟨⟩
theorem tw17125389908505231058 : True := ⟨⟩
theorem tw6515748577938080485 : True := ⟨⟩
theorem tw4073431272583099531 : True := ⟨⟩
theorem tw5796644640303740102 : True := ⟨⟩
theorem tw16641623309065856890 : True := ⟨⟩
theorem tw16108010822373844716 : True := ⟨⟩
theorem tw7086102787796178867 : True := ⟨⟩
theorem tw5697705061238162838 : True := ⟨⟩
theorem tw3821320064653696207 : True := ⟨⟩
theorem tw3576988750065575579 : True := ⟨⟩
theorem tw17207216752376480179 : True := ⟨⟩
theorem tw6673378216496900785 : True := ⟨⟩
theorem tw16580531707218124754 : True := ⟨⟩
theorem tw8759429001899276273 : True := ⟨⟩
theorem tw7862499088608354348 : True := ⟨⟩
theorem tw3461078071171392294 : True := ⟨⟩
theorem tw10616605076341959956 : True := ⟨⟩
theorem tw1340753559385825485 : True := ⟨⟩
theorem tw354649909983821284 : True := ⟨⟩
theorem tw4351232883082303195 : True := ⟨⟩
theorem tw2532567065362083561 : True := ⟨⟩
theorem tw11363915246516025545 : True := ⟨⟩
theorem tw4153272385872247725 : True := ⟨⟩
theorem tw11275293291543942124 : True := ⟨⟩
theorem tw9540389548235233689 : True := ⟨⟩
theorem tw1645796013415934925 : True := ⟨⟩
theorem tw7415397923283166764 : True := ⟨⟩
theorem tw1738848664398975966 : True := ⟨⟩
theorem tw16884564728576721420 : True := ⟨⟩
theorem tw8526976788332531397 : True := ⟨⟩
theorem tw3874722688892279201 : True := ⟨⟩
theorem tw15195705499046766167 : True := ⟨⟩
theorem tw15509261773260331677 : True := ⟨⟩
theorem tw12319497010448910467 : True := ⟨⟩
theorem tw4342568132894515424 : True := ⟨⟩
theorem tw13133269071577198860 : True := ⟨⟩
theorem tw1042823788499677947 : True := ⟨⟩
theorem tw4697150887527283978 : True := ⟨⟩
theorem tw5883610444267178559 : True := ⟨⟩
theorem tw5869899763123431800 : True := ⟨⟩
theorem tw10006141812708513132 : True := ⟨⟩
theorem tw8154974233893646831 : True := ⟨⟩
theorem tw10645647718942999672 : True := ⟨⟩
theorem tw15427079680390094973 : True := ⟨⟩
theorem tw5478598532214680400 : True := ⟨⟩
theorem tw15285757874431978559 : True := ⟨⟩
theorem tw395736690052673065 : True := ⟨⟩
theorem tw405226803674793734 : True := ⟨⟩
theorem tw9869993655472088246 : True := ⟨⟩
theorem tw8071344479155889348 : True := ⟨⟩
theorem tw15089835406461277851 : True := ⟨⟩
theorem tw1952718087614048766 : True := ⟨⟩
theorem tw1862458090005717637 : True := ⟨⟩
theorem tw15684601595145529406 : True := ⟨⟩
theorem tw10642052777940681277 : True := ⟨⟩
theorem tw15998957906013415360 : True := ⟨⟩
theorem tw13934441975998109525 : True := ⟨⟩
theorem tw5401490286456234066 : True := ⟨⟩
theorem tw3577435833537465098 : True := ⟨⟩
theorem tw9676421644014868132 : True := ⟨⟩
theorem tw17465778562216963957 : True := ⟨⟩
theorem tw18269542488307647668 : True := ⟨⟩
theorem tw11048901520330087265 : True := ⟨⟩
theorem tw5300277789404572958 : True := ⟨⟩
theorem tw7177536157255344770 : True := ⟨⟩
theorem tw4478433395544140632 : True := ⟨⟩
theorem tw8328280372503645098 : True := ⟨⟩
theorem tw17219034991958550325 : True := ⟨⟩
theorem tw9428651868699981729 : True := ⟨⟩
theorem tw11423774329044133094 : True := ⟨⟩
theorem tw2439156362159679970 : True := ⟨⟩
theorem tw15940344327976211505 : True := ⟨⟩
theorem tw1732015914984331561 : True := ⟨⟩
theorem tw16202771554170840685 : True := ⟨⟩
theorem tw3709852930710516545 : True := ⟨⟩
theorem tw14547456490067720565 : True := ⟨⟩
theorem tw13821595453573230674 : True := ⟨⟩
theorem tw7355838660306585840 : True := ⟨⟩
theorem tw11223558311509084906 : True := ⟨⟩
theorem tw10336832423394528899 : True := ⟨⟩
theorem tw7904941829993341214 : True := ⟨⟩
theorem tw4063279502634947965 : True := ⟨⟩
theorem tw9246581788285481628 : True := ⟨⟩
theorem tw7511260396591814436 : True := ⟨⟩
theorem tw6404174920113007098 : True := ⟨⟩
theorem tw4432997986820094719 : True := ⟨⟩
theorem tw12252742951224640677 : True := ⟨⟩
theorem tw6393735389508131638 : True := ⟨⟩
theorem tw16050971744572787293 : True := ⟨⟩
theorem tw8646632792971626277 : True := ⟨⟩
theorem tw18161131905344524354 : True := ⟨⟩
theorem tw5430655773596389820 : True := ⟨⟩
theorem tw3442146346948263687 : True := ⟨⟩
theorem tw14238834480553457256 : True := ⟨⟩
theorem tw15097773506012376914 : True := ⟨⟩
theorem tw360838921839440530 : True := ⟨⟩
theorem tw5936204234120053000 : True := ⟨⟩
theorem tw14306800577907754249 : True := ⟨⟩
theorem tw15628527073995950529 : True := ⟨⟩
theorem tw973631572475446519 : True := ⟨⟩
theorem tw18205085221235198765 : True := ⟨⟩
theorem tw14186193460531185893 : True := ⟨⟩
theorem tw4910109402388430220 : True := ⟨⟩
theorem tw10588127626171744653 : True := ⟨⟩
theorem tw872451724509809986 : True := ⟨⟩
theorem tw16141753398238421391 : True := ⟨⟩
theorem tw13643636285748252227 : True := ⟨⟩
theorem tw16308544766013630846 : True := ⟨⟩
end PySem.W.Fast
open PySem PySem.W PyProof.Rows
set_option maxRecDepth 100000 in
set_option maxHeartbeats 0 in
theorem PySem.Challenge.cw_ballastway_k27_may_enter_holds : PySem.Challenge.rw_ballastway_k27_may_enter.Holds := by
  w_on; o_law; k_head; (case hw => w_witness2)
  k_fill
  refine Kl.walk (l := PySem.Challenge.rw_ballastway_k27_may_enter) rfl rfl (fun w h Y => PySem.W.kIn_of Y) ?F
  case F =>
    intro w mg fa h KX G hmg
    refine' Kl.all_mk KX G hmg ?x0 ?xl0 ?xi0 ?x1 ?xl1 ?xi1 ?x2 ?xl2 ?xi2 ?xo0 ?xk0 ?xa0 ?xb0 ?xg0 ?xe0 ?xf0 ?xm0 ?xn0 ?xp0 ?xna0_0 ?xo1 ?xk1 ?xa1 ?xb1 ?xg1 ?xe1 ?xf1 ?xm1 ?xn1 ?xp1 ?xna1_0 ?xna1_1 ?xna1_2 ?xna1_3 ?xna1_4 ?xo2 ?xk2 ?xa2 ?xb2 ?xg2 ?xe2 ?xf2 ?xm2 ?xn2 ?xp2 ?xna2_0 ?xna2_1 ?xna2_2 ?xcg ?xct ?a0 ?l0 ?c0 ?k0 ?a1 ?l1 ?c1 ?k1 ?a2 ?l2 ?c2 ?k2 ?a3 ?l3 ?c3 ?k3 ?l4 ?c4 ?k4 ?l5 ?c5 ?k5 ?l6 ?c6 ?k6 ?a7 ?l7 ?c7 ?k7 ?a8 ?l8 ?c8 ?k8 ?a9 ?l9 ?c9 ?k9 ?a10 ?l10 ?c10 ?k10 ?a11 ?l11 ?c11 ?k11 ?a12 ?l12 ?c12 ?k12 ?a13 ?l13 ?c13 ?k13 ?a14 ?l14 ?c14 ?k14 ?a15 ?l15 ?c15 ?k15 ?a16 ?l16 ?c16 ?k16 ?a17 ?l17 ?c17 ?k17 ?a18 ?l18 ?c18 ?k18 ?a19 ?l19 ?c19 ?k19 ?a20 ?l20 ?c20 ?k20 ?a21 ?l21 ?c21 ?k21 ?a22 ?l22 ?c22 ?k22 ?a23 ?l23 ?c23 ?k23 ?a24 ?l24 ?c24 ?k24 ?a25 ?l25 ?c25 ?k25 ?a26 ?l26 ?c26 ?k26 ?a27 ?l27 ?c27 ?k27 ?a28 ?l28 ?c28 ?k28 ?a29 ?l29 ?c29 ?k29 ?a30 ?l30 ?c30 ?k30 ?a31 ?l31 ?c31 ?k31 ?a32 ?l32 ?c32 ?k32 ?a33 ?l33 ?c33 ?k33 ?a34 ?l34 ?c34 ?k34 ?a35 ?l35 ?c35 ?k35 ?a36 ?l36 ?c36 ?k36 ?a37 ?l37 ?c37 ?k37 ?a38 ?l38 ?c38 ?k38 ?a39 ?l39 ?c39 ?k39 ?a40 ?l40 ?c40 ?k40 ?a41 ?l41 ?c41 ?k41 ?a42 ?l42 ?c42 ?k42 ?zz0 ?zz1 ?zz2 ?zz3 ?zz4 ?zz5 ?zz6 ?zz7 ?zz8 ?zz9 ?zz10 ?zz11 ?zz12
    (case x0 => k_is)
    (case xl0 => k_is)
    (case xi0 => k_is)
    (case x1 => k_is)
    (case xl1 => k_is)
    (case xi1 => k_is)
    (case x2 => k_is)
    (case xl2 => k_is)
    (case xi2 => k_is)
    (case xo0 => rfl)
    (case xk0 => decide +kernel)
    (case xa0 => k_is)
    (case xb0 => k_is)
    (case xg0 => k_is)
    (case xe0 => k_is)
    (case xf0 => k_is)
    (case xm0 => k_is)
    (case xn0 => k_is)
    (case xp0 => k_is)
    (case xna0_0 => k_is)
    (case xo1 => rfl)
    (case xk1 => decide +kernel)
    (case xa1 => k_is)
    (case xb1 => k_is)
    (case xg1 => k_is)
    (case xe1 => k_is)
    (case xf1 => k_is)
    (case xm1 => k_is)
    (case xn1 => k_is)
    (case xp1 => k_is)
    (case xna1_0 => k_is)
    (case xna1_1 => k_is)
    (case xna1_2 => k_is)
    (case xna1_3 => k_is)
    (case xna1_4 => k_is)
    (case xo2 => rfl)
    (case xk2 => decide +kernel)
    (case xa2 => k_is)
    (case xb2 => k_is)
    (case xg2 => k_is)
    (case xe2 => k_is)
    (case xf2 => k_is)
    (case xm2 => k_is)
    (case xn2 => k_is)
    (case xp2 => k_is)
    (case xna2_0 => k_is)
    (case xna2_1 => k_is)
    (case xna2_2 => k_is)
    (case xcg => k_is)
    (case xct => k_is)
    (case a0 => k_is)
    (case l0 => k_is)
    (case c0 => k_is)
    (case k0 => k_is)
    (case a1 => k_is)
    (case l1 => k_is)
    (case c1 => k_is)
    (case k1 => k_is)
    (case a2 => k_is)
    (case l2 => k_is)
    (case c2 => k_is)
    (case k2 => k_is)
    (case a3 => k_is)
    (case l3 => k_is)
    (case c3 => k_is)
    (case k3 => k_is)
    (case l4 => k_is)
    (case c4 => k_is)
    (case k4 => k_is)
    (case l5 => k_is)
    (case c5 => k_is)
    (case k5 => k_is)
    (case l6 => k_is)
    (case c6 => k_is)
    (case k6 => k_is)
    (case a7 => k_is)
    (case l7 => k_is)
    (case c7 => k_is)
    (case k7 => k_is)
    (case a8 => k_is)
    (case l8 => k_is)
    (case c8 => k_is)
    (case k8 => k_is)
    (case a9 => k_is)
    (case l9 => k_is)
    (case c9 => k_is)
    (case k9 => k_is)
    (case a10 => k_is)
    (case l10 => k_is)
    (case c10 => k_is)
    (case k10 => k_is)
    (case a11 => k_is)
    (case l11 => k_is)
    (case c11 => k_is)
    (case k11 => k_is)
    (case a12 => k_is)
    (case l12 => k_is)
    (case c12 => k_is)
    (case k12 => k_is)
    (case a13 => k_is)
    (case l13 => k_is)
    (case c13 => k_is)
    (case k13 => k_is)
    (case a14 => k_is)
    (case l14 => k_is)
    (case c14 => k_is)
    (case k14 => k_is)
    (case a15 => k_is)
    (case l15 => k_is)
    (case c15 => k_is)
    (case k15 => k_is)
    (case a16 => k_is)
    (case l16 => k_is)
    (case c16 => k_is)
    (case k16 => k_is)
    (case a17 => k_is)
    (case l17 => k_is)
    (case c17 => k_is)
    (case k17 => k_is)
    (case a18 => k_is)
    (case l18 => k_is)
    (case c18 => k_is)
    (case k18 => k_is)
    (case a19 => k_is)
    (case l19 => k_is)
    (case c19 => k_is)
    (case k19 => k_is)
    (case a20 => k_is)
    (case l20 => k_is)
    (case c20 => k_is)
    (case k20 => k_is)
    (case a21 => k_is)
    (case l21 => k_is)
    (case c21 => k_is)
    (case k21 => k_is)
    (case a22 => k_is)
    (case l22 => k_is)
    (case c22 => k_is)
    (case k22 => k_is)
    (case a23 => k_is)
    (case l23 => k_is)
    (case c23 => k_is)
    (case k23 => k_is)
    (case a24 => k_is)
    (case l24 => k_is)
    (case c24 => k_is)
    (case k24 => k_is)
    (case a25 => k_is)
    (case l25 => k_is)
    (case c25 => k_is)
    (case k25 => k_is)
    (case a26 => k_is)
    (case l26 => k_is)
    (case c26 => k_is)
    (case k26 => k_is)
    (case a27 => k_is)
    (case l27 => k_is)
    (case c27 => k_is)
    (case k27 => k_is)
    (case a28 => k_is)
    (case l28 => k_is)
    (case c28 => k_is)
    (case k28 => k_is)
    (case a29 => k_is)
    (case l29 => k_is)
    (case c29 => k_is)
    (case k29 => k_is)
    (case a30 => k_is)
    (case l30 => k_is)
    (case c30 => k_is)
    (case k30 => k_is)
    (case a31 => k_is)
    (case l31 => k_is)
    (case c31 => k_is)
    (case k31 => k_is)
    (case a32 => k_is)
    (case l32 => k_is)
    (case c32 => k_is)
    (case k32 => k_is)
    (case a33 => k_is)
    (case l33 => k_is)
    (case c33 => k_is)
    (case k33 => k_is)
    (case a34 => k_is)
    (case l34 => k_is)
    (case c34 => k_is)
    (case k34 => k_is)
    (case a35 => k_is)
    (case l35 => k_is)
    (case c35 => k_is)
    (case k35 => k_is)
    (case a36 => k_is)
    (case l36 => k_is)
    (case c36 => k_is)
    (case k36 => k_is)
    (case a37 => k_is)
    (case l37 => k_is)
    (case c37 => k_is)
    (case k37 => k_is)
    (case a38 => k_is)
    (case l38 => k_is)
    (case c38 => k_is)
    (case k38 => k_is)
    (case a39 => k_is)
    (case l39 => k_is)
    (case c39 => k_is)
    (case k39 => k_is)
    (case a40 => k_is)
    (case l40 => k_is)
    (case c40 => k_is)
    (case k40 => k_is)
    (case a41 => k_is)
    (case l41 => k_is)
    (case c41 => k_is)
    (case k41 => k_is)
    (case a42 => k_is)
    (case l42 => k_is)
    (case c42 => k_is)
    (case k42 => k_is)
    (case zz0 => k_is)
    (case zz1 => k_is)
    (case zz2 => k_is)
    (case zz3 => k_is)
    (case zz4 => k_is)
    (case zz5 => k_is)
    (case zz6 => k_is)
    (case zz7 => k_is)
    (case zz8 => k_is)
    (case zz9 => k_is)
    (case zz10 => k_is)
    (case zz11 => k_is)
    (case zz12 => k_is)
