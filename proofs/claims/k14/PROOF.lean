import PyProof.Rows.All
import Wide.All
import OpenK.AllK
import Wide.FinOn
import Lean
import PyProof.EqAt
import PyProof.EqKinds
import PyProof.TupleCall
import PySem.Challenge.RW_ballastway_k14_wheels_close_together
set_option compiler.extract_closed false
set_option Elab.async false
set_option linter.all false
set_option maxRecDepth 100000
namespace L2
open PySem PySem.Spec PyProof.Rows
abbrev Key := Sum Int Str
def keyIs : Key → Value → Bool
  | .inl k, v => Value.isInt k v
  | .inr x, v => Value.isStrOf x v
def keyH (w : World) : Key → Int
  | .inl k => hashInt k
  | .inr x => hashStr w x
theorem keyIs_shape : ∀ {k : Key} {v : Value}, keyIs k v = true → (∃ i t, k = Sum.inl i ∧ v = Value.int i t) ∨ (∃ x t, k = Sum.inr x ∧ v = Value.str x t)
  | .inl i, v, h => by
    obtain ⟨t, e⟩ := Value.isInt_shape (k := i) (v := v) h
    exact .inl ⟨i, t, rfl, e⟩
  | .inr x, v, h => by
    obtain ⟨t, e⟩ := Value.isStrOf_shape (x := x) (v := v) h
    exact .inr ⟨x, t, rfl, e⟩
theorem key_ll (a b : Int) : decide ((Sum.inl a : Key) = Sum.inl b) = (a == b) := by
  by_cases e : a = b
  · subst e; simp
  · have h : ¬ (Sum.inl a : Key) = Sum.inl b := fun q => e (Sum.inl.inj q)
    rw [decide_eq_false h]
    exact (beq_eq_false_iff_ne.mpr e).symm
theorem key_rr (a b : Str) : decide ((Sum.inr a : Key) = Sum.inr b) = decide (a = b) := by
  by_cases e : a = b
  · subst e; simp
  · have h : ¬ (Sum.inr a : Key) = Sum.inr b := fun q => e (Sum.inr.inj q)
    rw [decide_eq_false h, decide_eq_false e]
theorem key_lr (a : Int) (b : Str) : decide ((Sum.inl a : Key) = Sum.inr b) = false := decide_eq_false (fun q => nomatch q)
theorem key_rl (a : Str) (b : Int) : decide ((Sum.inr a : Key) = Sum.inl b) = false := decide_eq_false (fun q => nomatch q)
def mixKind (prog : Program) (w : World) : PySem.KeyKind prog w Key where
  is := keyIs
  hash := keyH w
  inj := fun v a b ha hb => by
    rcases keyIs_shape ha with ⟨i, t, rfl, rfl⟩ | ⟨x, t, rfl, rfl⟩
    · rcases keyIs_shape hb with ⟨j, u, rfl, e⟩ | ⟨y, u, rfl, e⟩
      · injection e with e1 _; rw [e1]
      · exact nomatch e
    · rcases keyIs_shape hb with ⟨j, u, rfl, e⟩ | ⟨y, u, rfl, e⟩
      · exact nomatch e
      · injection e with e1 _; rw [e1]
  byValue := fun k v h => by
    rcases keyIs_shape h with ⟨i, t, rfl, rfl⟩ | ⟨x, t, rfl, rfl⟩ <;> rfl
  pyHash := fun hv h => by
    rcases keyIs_shape hv with ⟨i, t, rfl, rfl⟩ | ⟨x, t, rfl, rfl⟩
    · exact wpAny_pyHash_int h
    · exact wpAny_pyHash_str h
  eqBool := fun hu hv h => by
    rcases keyIs_shape hu with ⟨i, t, rfl, rfl⟩ | ⟨x, t, rfl, rfl⟩
    · rcases keyIs_shape hv with ⟨j, u, rfl, rfl⟩ | ⟨y, u, rfl, rfl⟩
      · rw [key_ll] at h; exact wpAny_eqBool_int h
      · rw [key_lr] at h; exact SeqAt.EqAt.int_str i t y u _ _ _ _ h
    · rcases keyIs_shape hv with ⟨j, u, rfl, rfl⟩ | ⟨y, u, rfl, rfl⟩
      · rw [key_rl] at h; exact SeqAt.EqAt.str_int x t j u _ _ _ _ h
      · rw [key_rr] at h; exact wpAny_eqBool_str h
  «strs» := fun k x t v h => by
    rcases keyIs_shape h with ⟨i, u, rfl, e⟩ | ⟨y, u, rfl, e⟩
    · exact nomatch e
    · injection e with e1 _
      subst e1
      cases v <;> rfl
end L2
namespace L2
open PySem PySem.Spec PyProof.Rows
inductive V where
  | non | bl (b : Bool) | int (i : Int) | str (x : Str) | byt (b : Array UInt8) | flt (b : UInt64) | ref (a : Addr) | ty (n : String)
  deriving DecidableEq
def RelV : V → Value → Prop
  | .non, u => u = Value.none
  | .bl b, u => u = Value.bool b
  | .int i, u => ∃ t, u = Value.int i t
  | .str x, u => ∃ t, u = Value.str x t
  | .byt b, u => ∃ t, u = Value.bytes b t
  | .flt b, u => ∃ t, u = Value.float b t
  | .ref a, u => u = Value.ref a
  | .ty n, u => u = Value.type n
abbrev Vals : List V → List Value → Prop := Paired RelV
theorem Vals.length {xs : List V} {us : List Value} (r : Vals xs us) : xs.length = us.length := Paired.length r
theorem Vals.get : ∀ {xs : List V} {us : List Value} {i : Nat} {x : V}, Vals xs us → xs[i]? = some x → ∃ u, us[i]? = some u ∧ RelV x u
  | _, _, _, _, .nil, e => by simp at e
  | _, _, 0, _, .cons r _, e => by simp at e; subst e; exact ⟨_, rfl, r⟩
  | _, _, i + 1, x, .cons _ t, e => by
    obtain ⟨u, h1, h2⟩ := Vals.get (i := i) (x := x) t (by simpa using e)
    exact ⟨u, by simpa using h1, h2⟩
theorem Vals.set {x : V} {u : Value} (r : RelV x u) : ∀ {xs : List V} {us : List Value} (i : Nat), Vals xs us → Vals (xs.set i x) (us.set i u)
  | _, _, _, .nil => .nil
  | _, _, 0, .cons _ t => .cons r t
  | _, _, i + 1, .cons q t => .cons q (Vals.set r i t)
theorem Vals.append : ∀ {xs ys : List V} {us ws : List Value}, Vals xs us → Vals ys ws → Vals (xs ++ ys) (us ++ ws)
  | _, _, _, _, .nil, s => s
  | _, _, _, _, .cons r t, s => .cons r (Vals.append t s)
theorem Vals.take : ∀ {xs : List V} {us : List Value} (n : Nat), Vals xs us → Vals (xs.take n) (us.take n)
  | _, _, 0, _ => .nil
  | _, _, _ + 1, .nil => .nil
  | _, _, n + 1, .cons r t => .cons r (Vals.take n t)
theorem Vals.drop : ∀ {xs : List V} {us : List Value} (n : Nat), Vals xs us → Vals (xs.drop n) (us.drop n)
  | _, _, 0, r => r
  | _, _, _ + 1, .nil => .nil
  | _, _, n + 1, .cons _ t => Vals.drop n t
def RelO : Option V → Option Value → Prop
  | some v, some u => RelV v u
  | none, none => True
  | _, _ => False
def KV {κ : Type} : List (κ × V) → List (κ × Value) → Prop := Paired fun (p : κ × V) (q : κ × Value) => p.1 = q.1 ∧ RelV p.2 q.2
def kV : Key → V
  | .inl i => .int i
  | .inr x => .str x
inductive HO where
  /-- a list -/
  | lst (xs : List V)
  /-- a tuple (never changes) -/
  | tup (xs : List V)
  /-- a dict whose keys are ints and texts; one whose keys are tuples of ints and texts (the empty one is both) -/
  | dK (kvs : List (Key × V)) | dT (kvs : List (List Key × V))
  /-- a set of ints: its members, its size -/
  | set (S : Int → Bool) (n : Nat)
  /-- an instance of the class at C, its dict at dx, its attributes -/
  | ins (C dx : Addr) (fs : List (Str × V))
  /-- the dict of the instance at x -/
  | own (x : Addr)
  /-- the dict of an exception -/
  | xd (fs : List (Str × V))
  /-- a bound method, f of x -/
  | met (f x : Addr)
  /-- a range object lo, lo + 1, .. below hi -/
  | rng (lo hi : Int)
  /-- a thing that is known to the object (the script; a dict while a loop walks it): read, never written while it is so -/
  | frz (o : Obj) (u : HO)
  /-- a code object's table -/
  | tbl (ps : Array Value)
  /-- any other thing, by what is true of its one object (a def of one's own: SetO a S n := HO.ext fun h => ..) -/
  | ext (φ : Heap → Prop)
abbrev Hp := Addr → Option HO
def upd (H : Hp) (a : Addr) (o : HO) : Hp := fun b => if b = a then some o else H b
theorem upd_same {H : Hp} {a : Addr} {o : HO} : upd H a o a = some o := by unfold upd; rw [if_pos rfl]
theorem upd_ne {H : Hp} {a b : Addr} {o : HO} (h : b ≠ a) : upd H a o b = H b := by unfold upd; rw [if_neg h]
theorem ne_of_none {H : Hp} {a b : Addr} {o : HO} (h : H a = some o) (h' : H b = none) : a ≠ b := by
  intro e; subst e; rw [h] at h'; cases h'
section
variable (P : Program) (w : World)
def ObjOk (H : Hp) (h : Heap) (a : Addr) : HO → Prop
  | .lst xs => xs.length ≤ sizeLine ∧ ∃ (its : List Value) (n : Nat), Vals xs its ∧ h.get? a = some { cls := .type "list", data := .seq its.toArray n }
  | .tup xs => xs.length ≤ sizeLine ∧ ∃ its : List Value, Vals xs its ∧ IsTup h a its.toArray
  | .dK kvs => kvs.length ≤ sizeLine ∧ (a == sysModules) = false ∧ ∃ vs, KV kvs vs ∧ h.DictOf (mixKind P w) a vs
  | .dT kvs => kvs.length ≤ sizeLine ∧ (a == sysModules) = false ∧ ∃ xs : List (List Key × Addr × Value),
      Paired (fun (p : List Key × V) (q : List Key × Addr × Value) => p.1 = q.1 ∧ H q.2.1 = some (.tup (p.1.map kV)) ∧ RelV p.2 q.2.2) kvs xs ∧
      ∃ o es ep, h.get? a = some o ∧ o.ExactDict ∧ o.data = .dict es ep ∧ es.toList = xs.map (entryOfKey (tupleKind (mixKind P w))) ∧ (xs.map (·.1)).Nodup
  | .set S n => h.SetOf (intKind P w) a S n
  | .ins C dx fs => H dx = some (.own a) ∧ fs.length ≤ 1000 ∧ dx ≠ a ∧ h.get? a = some (PySem.W.instObj C dx) ∧
      ∃ mA, h.Ns1 dx mA ∧ (∀ f, RelO (fs.lookup f) (mA f)) ∧ PySem.Within mA (fs.map (·.1))
  | .own _ => ∃ o, h.get? a = some o
  | .xd fs => ∃ mA, h.Ns1 a mA ∧ ∀ f, RelO (fs.lookup f) (mA f)
  | .rng lo hi => ∃ t u v, h.get? a = some { cls := .type "range", data := .fields #[.int lo t, .int hi u, .int 1 v] }
  | .frz o u => h.get? a = some o ∧ ObjOk H h a u
  | .tbl ps => h.get? a = some { cls := .none, data := .fields ps }
  | .met f x => h.get? a = some (PySem.W.methodObj (.ref f) (.ref x))
  | .ext φ => φ h ∧ (∃ o, h.get? a = some o) ∧ ∀ h1 h2 : Heap, φ h1 → (∀ o, h1.get? a = some o → h2.get? a = some o) → φ h2
def HOk (H : Hp) (h : Heap) : Prop := ∀ a o, H a = some o → ObjOk P w H h a o
end
section
variable {P : Program} {w : World} {H H' : Hp} {h h' : Heap} {a : Addr} {o : HO}
theorem ObjOk.lt (x : ObjOk P w H h a o) : a < h.objs.size := by
  cases o with
  | lst xs => obtain ⟨_, _, _, _, e⟩ := x; exact Heap.lt_size e
  | tup xs => obtain ⟨_, _, _, p⟩ := x; exact p.lt
  | dK kvs => obtain ⟨_, _, _, _, o, _, _, e, _⟩ := x; exact Heap.lt_size e
  | dT kvs => obtain ⟨_, _, _, _, o, _, _, e, _⟩ := x; exact Heap.lt_size e
  | set S n => obtain ⟨o, _, _, _, e, _⟩ := x; exact Heap.lt_size e
  | ins C dx fs => obtain ⟨_, _, _, e, _⟩ := x; exact Heap.lt_size e
  | own y => obtain ⟨_, e⟩ := x; exact Heap.lt_size e
  | xd fs => obtain ⟨_, ⟨_, _, _, e, _⟩, _⟩ := x; exact Heap.lt_size e
  | rng lo hi => obtain ⟨_, _, _, e⟩ := x; exact Heap.lt_size e
  | frz ob u => obtain ⟨e, _⟩ := x; exact Heap.lt_size e
  | tbl ps => exact Heap.lt_size (show h.get? a = some _ from x)
  | met f y => exact Heap.lt_size (show h.get? a = some _ from x)
  | ext φ => obtain ⟨_, ⟨_, e⟩, _⟩ := x; exact Heap.lt_size e
theorem Paired.mapP {α β : Type} {F G : α → β → Prop} : ∀ {l₁ : List α} {l₂ : List β}, Paired F l₁ l₂ → (∀ a b, F a b → G a b) → Paired G l₁ l₂
  | _, _, .nil, _ => .nil
  | _, _, .cons r t, f => .cons (f _ _ r) (Paired.mapP t f)
theorem ObjOk.stay (x : ObjOk P w H h a o) (k : ∀ b u, (b = a ∨ H b = some (.own a)) → h.get? b = some u → h'.get? b = some u)
    (ho : ∀ b, H b = some (.own a) → H' b = some (.own a)) (ht : ∀ b xs, H b = some (.tup xs) → H' b = some (.tup xs)) : ObjOk P w H' h' a o := by
  induction o with
  | lst xs => obtain ⟨z, its, n, r, e⟩ := x; exact ⟨z, its, n, r, k _ _ (.inl rfl) e⟩
  | tup xs => obtain ⟨z, its, r, ob, e, c⟩ := x; exact ⟨z, its, r, ob, k _ _ (.inl rfl) e, c⟩
  | dK kvs => obtain ⟨z, y, vs, r, ob, es, ep, e, c⟩ := x; exact ⟨z, y, vs, r, ob, es, ep, k _ _ (.inl rfl) e, c⟩
  | dT kvs =>
    obtain ⟨z, y, xs, r, ob, es, ep, e, c⟩ := x
    exact ⟨z, y, xs, Paired.mapP r fun p q z => ⟨z.1, ht _ _ z.2.1, z.2.2⟩, ob, es, ep, k _ _ (.inl rfl) e, c⟩
  | set S n => obtain ⟨ob, es, ep, t, e, c⟩ := x; exact ⟨ob, es, ep, t, k _ _ (.inl rfl) e, c⟩
  | ins C dx fs =>
    obtain ⟨d, z, ne, e, mA, ⟨od, es, ep, e2, c⟩, r⟩ := x
    exact ⟨ho _ d, z, ne, k _ _ (.inl rfl) e, mA, ⟨od, es, ep, k _ _ (.inr d) e2, c⟩, r⟩
  | own y => obtain ⟨ob, e⟩ := x; exact ⟨ob, k _ _ (.inl rfl) e⟩
  | xd fs => obtain ⟨mA, ⟨od, es, ep, e, c⟩, r⟩ := x; exact ⟨mA, ⟨od, es, ep, k _ _ (.inl rfl) e, c⟩, r⟩
  | rng lo hi => obtain ⟨t, u, v, e⟩ := x; exact ⟨t, u, v, k _ _ (.inl rfl) e⟩
  | frz ob u ih => obtain ⟨e, q⟩ := x; exact ⟨k _ _ (.inl rfl) e, ih q⟩
  | tbl ps =>
    have e : h.get? a = some { cls := .none, data := .fields ps } := x
    show h'.get? a = some { cls := .none, data := .fields ps }
    exact k a _ (.inl rfl) e
  | met f y =>
    have e : h.get? a = some (PySem.W.methodObj (.ref f) (.ref y)) := x
    show h'.get? a = some (PySem.W.methodObj (.ref f) (.ref y))
    exact k a _ (.inl rfl) e
  | ext φ => obtain ⟨p, ⟨o, e⟩, st⟩ := x; exact ⟨st _ _ p fun o q => k _ _ (.inl rfl) q, ⟨o, k _ _ (.inl rfl) e⟩, st⟩
theorem HOk.lt (x : HOk P w H h) (e : H a = some o) : a < h.objs.size := (x a o e).lt
theorem HOk.fresh (x : HOk P w H h) (e : h.objs.size ≤ a) : H a = none := by
  cases q : H a with
  | none => rfl
  | some u => exact absurd (Nat.lt_of_lt_of_le (x.lt q) e) (Nat.lt_irrefl _)
theorem HOk.kept (x : HOk P w H h) (k : ∀ b u, h.get? b = some u → h'.get? b = some u) : HOk P w H h' := fun a o e =>
  (x a o e).stay (fun b u _ q => k b u q) (fun _ q => q) fun _ _ q => q
theorem HOk.laid (x : HOk P w H h) (k : ∀ b u, h.get? b = some u → h'.get? b = some u) (hp : h.objs.size ≤ a) (new : ObjOk P w (upd H a o) h' a o) : HOk P w (upd H a o) h' := fun b u e => by
  have hn := x.fresh hp
  by_cases hb : b = a
  · subst hb; rw [upd_same] at e; cases e; exact new
  · rw [upd_ne hb] at e
    exact (x b u e).stay (fun c v _ q => k c v q) (fun c q => by rw [upd_ne (ne_of_none q hn)]; exact q) fun c xs q => by rw [upd_ne (ne_of_none q hn)]; exact q
end
def Rd (H : Hp) (a : Addr) (u : HO) : Prop := H a = some u ∨ ∃ o, H a = some (.frz o u)
theorem Rd.of {H : Hp} {a : Addr} {u : HO} (h : H a = some u) : Rd H a u := .inl h
theorem Rd.ok {P : Program} {w : World} {H : Hp} {h : Heap} {a : Addr} {u : HO} (r : Rd H a u) (x : HOk P w H h) : ObjOk P w H h a u := by
  rcases r with r | ⟨o, r⟩
  · exact x a u r
  · obtain ⟨_, q⟩ := x a _ r
    exact q
def Mut : Option HO → Prop
  | some (.lst _) => True
  | some (.dK _) => True
  | some (.dT _) => True
  | some (.set _ _) => True
  | some (.ins _ _ _) => True
  | some (.ext _) => True
  | _ => False
section
variable {P : Program} {w : World} {H : Hp} {h h' : Heap} {x e : Addr} {o' : HO}
theorem HOk.write (ok : HOk P w H h) (mu : Mut (H x)) (he : e = x ∨ H e = some (.own x)) (k : ∀ b u, b ≠ e → h.get? b = some u → h'.get? b = some u) (heo : ∃ u, h'.get? e = some u)
    (new : ObjOk P w (upd H x o') h' x o') : HOk P w (upd H x o') h' := fun b u q => by
  have nown : ∀ c y, H c = some (.own y) → c ≠ x := fun c y r z => by subst z; rw [r] at mu; exact mu
  have ntup : ∀ c xs, H c = some (.tup xs) → c ≠ x := fun c xs r z => by subst z; rw [r] at mu; exact mu
  by_cases hb : b = x
  · subst hb; rw [upd_same] at q; cases q; exact new
  · rw [upd_ne hb] at q
    by_cases hbe : b = e
    · have q' : H b = some (.own x) := by
        rcases he with z | z
        · exact absurd (hbe.trans z) hb
        · rw [hbe]; exact z
      rw [q] at q'; cases q'
      obtain ⟨v, hv⟩ := heo
      exact ⟨v, by rw [hbe]; exact hv⟩
    · refine (ok b u q).stay (fun c v hc r => k c v ?_ r) (fun c r => by rw [upd_ne (nown c b r)]; exact r) fun c xs r => by rw [upd_ne (ntup c xs r)]; exact r
      rcases hc with rfl | hc
      · exact hbe
      · rintro rfl
        rcases he with z | z
        · exact nown c b hc z
        · rw [hc] at z; cases z; exact hb rfl
end
structure Un (fs ex : List Addr) (H H' : Hp) (h h' : Heap) : Prop where
  keep : ∀ b o, h.get? b = some o → H b = none → b ∉ fs → b ∉ ex → h'.get? b = some o
  slot : ∀ b o, h.get? b = some o → H b = none → b ∈ fs → b ∉ ex → ∃ sl, h'.get? b = some { o with slots := sl }
  free : ∀ b o, h.get? b = some o → H b = none → b ∉ ex → H' b = none
  there : ∀ b o, h.get? b = some o → b ∉ ex → ∃ o', h'.get? b = some o'
  tups : ∀ b xs, H b = some (.tup xs) → H' b = some (.tup xs)
  frzs : ∀ b o u, H b = some (.frz o u) → H' b = some (.frz o u)
  tbls : ∀ b ps, H b = some (.tbl ps) → ∃ more, H' b = some (.tbl (ps ++ more))
section
variable {fs fs' ex ex' : List Addr} {H H1 H2 : Hp} {h h1 h2 h' : Heap} {a x e : Addr} {o : HO}
theorem Un.any (u : Un fs ex H H1 h h1) {b : Addr} {ob : Obj} (q : h.get? b = some ob) (n : H b = none) (hx : b ∉ ex) : ∃ sl, h1.get? b = some { ob with slots := sl } := by
  by_cases hb : b ∈ fs
  · exact u.slot b ob q n hb hx
  · exact ⟨ob.slots, u.keep b ob q n hb hx⟩
theorem Un.trans (a : Un fs ex H H1 h h1) (b : Un fs ex H1 H2 h1 h2) : Un fs ex H H2 h h2 where
  keep := fun c ob q n hc hx => b.keep c ob (a.keep c ob q n hc hx) (a.free c ob q n hx) hc hx
  slot := fun c ob q n hc hx => by
    obtain ⟨sl, e1⟩ := a.slot c ob q n hc hx
    obtain ⟨sl', e2⟩ := b.slot c _ e1 (a.free c ob q n hx) hc hx
    exact ⟨sl', e2⟩
  free := fun c ob q n hx => by
    obtain ⟨o', e1⟩ := a.there c ob q hx
    exact b.free c o' e1 (a.free c ob q n hx) hx
  there := fun c ob q hx => by
    obtain ⟨o', e1⟩ := a.there c ob q hx
    exact b.there c o' e1 hx
  tups := fun c xs q => b.tups c xs (a.tups c xs q)
  frzs := fun c ob xs q => b.frzs c ob xs (a.frzs c ob xs q)
  tbls := fun c ps q => by
    obtain ⟨m1, e1⟩ := a.tbls c ps q
    obtain ⟨m2, e2⟩ := b.tbls c _ e1
    exact ⟨m1 ++ m2, by rw [e2, Array.append_assoc]⟩
theorem Un.kept (k : ∀ b u, h.get? b = some u → h'.get? b = some u) : Un fs ex H H h h' :=
  ⟨fun b ob q _ _ _ => k b ob q, fun b ob q _ _ _ => ⟨ob.slots, k b ob q⟩, fun _ _ _ n _ => n, fun b ob q _ => ⟨ob, k b ob q⟩, fun _ _ q => q, fun _ _ _ q => q, fun _ ps q => ⟨#[], by rw [q]; simp⟩⟩
theorem Un.refl : Un fs ex H H h h := Un.kept fun _ _ q => q
theorem Un.laid (k : ∀ b u, h.get? b = some u → h'.get? b = some u) (hp : h.objs.size ≤ a) (hn : H a = none) : Un fs ex H (upd H a o) h h' where
  keep := fun b u q _ _ _ => k b u q
  slot := fun b u q _ _ _ => ⟨u.slots, k b u q⟩
  free := fun b u q n _ => by rw [upd_ne (Nat.ne_of_lt (Nat.lt_of_lt_of_le (Heap.lt_size q) hp))]; exact n
  there := fun b u q _ => ⟨u, k b u q⟩
  tups := fun b xs q => by rw [upd_ne (ne_of_none q hn)]; exact q
  frzs := fun b u xs q => by rw [upd_ne (ne_of_none q hn)]; exact q
  tbls := fun b ps q => ⟨#[], by rw [upd_ne (ne_of_none q hn), q]; simp⟩
theorem Un.write (mu : Mut (H x)) (he : e = x ∨ H e = some (.own x)) (k : ∀ b u, b ≠ e → h.get? b = some u → h'.get? b = some u) (heo : ∃ u, h'.get? e = some u) : Un fs ex H (upd H x o) h h' := by
  have hx : ∀ b, H b = none → b ≠ x := fun b n z => by subst z; rw [n] at mu; exact mu
  have hb : ∀ b, H b = none → b ≠ e := fun b n z => by
    subst z
    rcases he with r | r
    · exact hx b n r
    · rw [n] at r; cases r
  have hm : ∀ b u, H b = some u → ¬ Mut (some u) → b ≠ x := fun b u q nm z => by subst z; rw [q] at mu; exact nm mu
  refine ⟨fun b u q n _ _ => k b u (hb b n) q, fun b u q n _ _ => ⟨u.slots, k b u (hb b n) q⟩, fun b u q n _ => by rw [upd_ne (hx b n)]; exact n, fun b u q _ => ?_,
    fun b xs q => by rw [upd_ne (hm b _ q fun z => z)]; exact q, fun b u xs q => by rw [upd_ne (hm b _ q fun z => z)]; exact q, fun b ps q => ⟨#[], by rw [upd_ne (hm b _ q fun z => z), q]; simp⟩⟩
  by_cases hbe : b = e
  · subst hbe; exact heo
  · exact ⟨u, k b u hbe q⟩
theorem Un.mono (u : Un fs ex H H1 h h1) (hs : ∀ b ∈ fs, b ∈ fs') (hx : ∀ b ∈ ex, b ∈ ex') : Un fs' ex' H H1 h h1 :=
  ⟨fun b ob q n hb he => u.keep b ob q n (fun z => hb (hs b z)) fun z => he (hx b z), fun _ _ q n _ he => u.any q n fun z => he (hx _ z), fun b ob q n he => u.free b ob q n fun z => he (hx b z), fun b ob q he => u.there b ob q fun z => he (hx b z), u.tups, u.frzs, u.tbls⟩
end
def trk (h : Heap) (H : Hp) : List Addr := (List.range h.objs.size).filter fun a => (H a).isSome
def hidT (h : Heap) (H : Hp) : Heap := PySem.W.hideAll h (trk h H)
theorem hidT_size (h : Heap) (H : Hp) : (hidT h H).objs.size = h.objs.size := PySem.W.hideAll_size _ _
theorem hidT_get {h : Heap} {H : Hp} {b : Addr} {o : Obj} (e : h.get? b = some o) (n : H b = none) : (hidT h H).get? b = some o :=
  PySem.W.hideAll_get _ e fun hm => by
    have q : (H b).isSome = true := (List.mem_filter.mp hm).2
    rw [n] at q; simp at q
theorem of_hidT {h : Heap} {H : Hp} {b : Addr} {o : Obj} (e : (hidT h H).get? b = some o) : h.get? b = some o ∧ H b = none := by
  have e' : h.get? b = some o := PySem.W.of_hideAll (trk h H) e
  refine ⟨e', ?_⟩
  cases q : H b with
  | none => rfl
  | some x =>
    have hm : b ∈ trk h H := List.mem_filter.mpr ⟨List.mem_range.mpr (Heap.lt_size e'), by simp [q]⟩
    have z : (hidT h H).get? b = none := PySem.W.hideAll_none (trk h H) hm
    rw [z] at e; cases e
def allNews (g h : Heap) (L : Addr) : List (Addr × Obj) := (List.range h.objs.size).filterMap fun a => if a = L ∨ (g.get? a).isSome = true then none else (h.get? a).map fun o => (a, o)
def rest (g h : Heap) (L d : Addr) : List (Addr × Obj) := (allNews g h L).filter fun p => decide (p.1 ≠ d)
end L2
namespace L2
open PySem PySem.Spec PyProof.Rows
structure Mod (K : PySem.W.Frag) (mg : Str → Option Value) (base : Heap) : Prop where
  kin : K.In base
  glob : base.Ns mainGlobals mg
  blt : ∃ mb, base.Ns builtinsNs mb ∧ ∀ x : Str, x ≠ "__name__" → mb x = bootBuiltins x
  nolimit : base.NoLimit
structure Cx where
  prog : Program
  w : World
  K : PySem.W.Frag
  mg : Str → Option Value
  base : Heap
  A : Around
  N : List Str
  s₀ : Shared
  H₀ : Hp
  env : Env
  outer : List Env
  stack : List Env
  ex : List Addr
  fn : Str → Bool
  calm : Bool
  pn : List (Addr × Obj)
  xe : Value → Shared → Prop
def frs (l : List Env) : List Addr := l.filterMap (·.frame)
abbrev Cx.fs (X : Cx) : List Addr := frs X.outer
def Vis (sc : Scope) (x : Str) : Prop := sc.names.lookup x = some .local ∨ sc.names.lookup x = some .cell ∨ sc.names.lookup x = some .free
def Loc (sc : Scope) (x : Str) : Prop := sc.names.lookup x = some .local ∨ sc.names.lookup x = some .cell
def Look (env : Env) (h : Heap) (m : Str → Option Value) (x : Str) (u : Value) : Prop :=
  (env.kindOf x = some .local ∧ m x = some u) ∨ ((env.kindOf x = some .cell ∨ env.kindOf x = some .free) ∧ ∃ c, env.cells.lookup x = some c ∧ h.IsCell c (some u))
structure Cx.Ok (X : Cx) : Prop where
  mod : Mod X.K X.mg X.base
  kind : X.env.scope.kind = .function
  glob : X.env.globals = mainGlobals
  blt : X.env.builtins = builtinsNs
  above : X.s₀.heap.objs.size ≤ X.env.locals
  inj : ∀ x y c, X.env.cells.lookup x = some c → X.env.cells.lookup y = some c → x = y
  has : ∀ x, (X.env.kindOf x = some .cell ∨ X.env.kindOf x = some .free) → ∃ c, X.env.cells.lookup x = some c
  cab : ∀ x c, X.fn x = true → X.env.cells.lookup x = some c → X.s₀.heap.objs.size ≤ c
  hd : X.calm = true → X.A.handled = none
  frames : X.A.frames = some X.stack
  stk : X.stack = X.outer ∨ (X.stack = X.env :: X.outer ∧ X.env.frame = some X.env.locals)
  exf : ∀ b ∈ X.ex, b ≠ X.env.locals ∧ ∀ x c, X.env.cells.lookup x = some c → c ≠ b
  bs : ∀ b o, X.base.get? b = some o → X.s₀.heap.get? b = some o ∧ X.H₀ b = none
  bsz : X.base.objs.size ≤ X.s₀.heap.objs.size
  noex : ∀ b o, X.base.get? b = some o → b ∉ X.ex
  exfs : ∀ b ∈ X.ex, b ∉ X.fs
  funs : X.s₀.heap.FunFrames X.base X.outer
  frf : ∀ b ∈ X.fs, X.H₀ b = none
structure Inv (X : Cx) (pins : List (Addr × Obj)) (σ : List (Option V)) (H : Hp) (s : Shared) : Prop where
  ok : X.Ok
  os : s.os = X.s₀.os
  bare : AllBare s.gens
  base : Un X.fs X.ex X.H₀ H X.s₀.heap s.heap
  loc : ∃ m, s.heap.Ns X.env.locals m ∧ ∀ (i : Nat) (x : Str) (v : V), X.N[i]? = some x → σ[i]? = some (some v) → Vis X.env.scope x → ∃ u, RelV v u ∧ Look X.env s.heap m x u
  cell : ∀ x c, X.env.cells.lookup x = some c → ∃ v, s.heap.IsCell c v
  free : H X.env.locals = none
  freeC : ∀ x c, X.env.cells.lookup x = some c → H c = none
  pin : ∀ p ∈ X.pn ++ pins, s.heap.get? p.1 = some p.2 ∧ H p.1 = none ∧ p.1 ≠ X.env.locals ∧ p.1 ∉ X.fs ∧ ∀ v, p.2.data ≠ .cell v
  hok : HOk X.prog X.w H s.heap
  len : σ.length = X.N.length
section
variable {X : Cx} {pins : List (Addr × Obj)} {σ : List (Option V)} {H H' : Hp} {s : Shared} {h' : Heap}
theorem Cx.Ok.nofr (ok : X.Ok) {b : Addr} {o : Obj} (e : X.base.get? b = some o) : b ∉ X.fs := fun hb => by
  have := (ok.funs.mem hb).1
  rw [e] at this; cases this
theorem Inv.bs (I : Inv X pins σ H s) : ∀ b o, X.base.get? b = some o → s.heap.get? b = some o ∧ H b = none := fun b o e =>
  ⟨I.base.keep b o (I.ok.bs b o e).1 (I.ok.bs b o e).2 (I.ok.nofr e) (I.ok.noex b o e), I.base.free b o (I.ok.bs b o e).1 (I.ok.bs b o e).2 (I.ok.noex b o e)⟩
theorem Inv.bk (I : Inv X pins σ H s) : ∀ b o, X.base.get? b = some o → s.heap.get? b = some o := fun b o e => (I.bs b o e).1
theorem Inv.mod (I : Inv X pins σ H s) : Mod X.K X.mg X.base := I.ok.mod
theorem Inv.kIn (I : Inv X pins σ H s) : X.K.In s.heap := I.ok.mod.kin.keeps I.bk
theorem Inv.nolimit (I : Inv X pins σ H s) : s.heap.NoLimit := I.ok.mod.nolimit.keeps I.bk
theorem Inv.fr (I : Inv X pins σ H s) : ∃ m, Fr X.base X.env.locals s.heap m :=
  let ⟨m, hn, _⟩ := I.loc
  ⟨m, hn, I.bk, Nat.le_trans I.ok.bsz I.ok.above⟩
theorem Inv.lt (I : Inv X pins σ H s) : X.env.locals < s.heap.objs.size := let ⟨_, hn, _⟩ := I.loc; hn.lt
theorem Inv.sz (I : Inv X pins σ H s) : X.s₀.heap.objs.size ≤ s.heap.objs.size := Nat.le_trans I.ok.above (Nat.le_of_lt I.lt)
theorem Inv.nofs (I : Inv X pins σ H s) {a : Addr} (h : s.heap.objs.size ≤ a) : a ∉ X.fs := fun hb => by
  obtain ⟨_, o, ho, _⟩ := I.ok.funs.mem hb
  exact absurd (Nat.lt_of_lt_of_le (Heap.lt_size ho) (Nat.le_trans I.sz h)) (Nat.lt_irrefl _)
theorem Inv.cne (I : Inv X pins σ H s) : ∀ x c, X.env.cells.lookup x = some c → c ≠ X.env.locals := fun x c e z => by
  obtain ⟨v, o, ho, hd⟩ := I.cell x c e
  obtain ⟨m, ⟨o', es, ep, ho', hd', _⟩, _⟩ := I.loc
  rw [z, ho'] at ho; cases ho; rw [hd'] at hd; cases hd
theorem Inv.funs (I : Inv X pins σ H s) : s.heap.FunFrames X.base X.outer := by
  have all : ∀ (l : List Env), (∀ b ∈ frs l, b ∈ X.fs) → X.s₀.heap.FunFrames X.base l → s.heap.FunFrames X.base l := by
    intro l
    induction l with
    | nil => intro _ _; trivial
    | cons env r ih =>
      intro hs hl
      obtain ⟨hk, ⟨L, o, hf, hn, ho, hd⟩, hr⟩ := hl
      have hL : L ∈ X.fs := hs L (by unfold frs; rw [List.filterMap_cons, hf]; exact List.mem_cons_self)
      obtain ⟨sl, e⟩ := I.base.slot L o ho (I.ok.frf L hL) hL fun z => I.ok.exfs L z hL
      exact ⟨hk, ⟨L, _, hf, hn, e, hd⟩, ih (fun b hb => hs b (by unfold frs; rw [List.filterMap_cons, hf]; exact List.mem_cons_of_mem _ hb)) hr⟩
  exact all X.outer (fun _ hb => hb) I.ok.funs
theorem Inv.stack (I : Inv X pins σ H s) : s.heap.FunFrames X.base X.stack := by
  rcases I.ok.stk with e | ⟨e, hf⟩
  · rw [e]; exact I.funs
  · rw [e]
    obtain ⟨m, hn, _⟩ := I.loc
    refine .cons (by rw [I.ok.kind]; decide) hf hn ?_ I.funs
    exact Heap.get?_none_of_le (Nat.le_trans I.ok.bsz I.ok.above)
theorem Inv.stkSub (I : Inv X pins σ H s) : ∀ b ∈ frs X.stack, b ∈ X.env.locals :: X.fs := fun b hb => by
  rcases I.ok.stk with e | ⟨e, hf⟩
  · rw [e] at hb; exact List.mem_cons_of_mem _ hb
  · rw [e] at hb
    unfold frs at hb
    rw [List.filterMap_cons, hf] at hb
    exact hb
theorem Inv.stkFree (I : Inv X pins σ H s) : ∀ b ∈ frs X.stack, H b = none := fun b hb => by
  rcases List.mem_cons.mp (I.stkSub b hb) with e | hb
  · rw [e]; exact I.free
  · obtain ⟨_, o, ho, _⟩ := I.ok.funs.mem hb
    exact I.base.free b o ho (I.ok.frf b hb) fun z => I.ok.exfs b z hb
theorem Inv.step {g' : Array GenState} {t' : Nat} {d' : Drawn} {ch : List Addr} (I : Inv X pins σ H s)
    (hch : ∀ b ∈ ch, (b ∈ X.ex ∨ X.s₀.heap.objs.size ≤ b) ∧ b ≠ X.env.locals ∧ (∀ x c, X.env.cells.lookup x = some c → c ≠ b) ∧ ∀ p ∈ X.pn ++ pins, p.1 ≠ b)
    (keep : ∀ b o, b ≠ X.env.locals → b ∉ X.fs → b ∉ ch → s.heap.get? b = some o → H b = none → h'.get? b = some o)
    (slot : ∀ b o, b ≠ X.env.locals → b ∈ X.fs → b ∉ ch → s.heap.get? b = some o → H b = none → ∃ sl, h'.get? b = some { o with slots := sl }) (free : ∀ b o, b ∉ ch → s.heap.get? b = some o → H b = none → H' b = none)
    (there : ∀ b o, b ∉ ch → s.heap.get? b = some o → ∃ o', h'.get? b = some o')
    (tups : ∀ b xs, H b = some (.tup xs) → H' b = some (.tup xs)) (frzs : ∀ b o u, H b = some (.frz o u) → H' b = some (.frz o u)) (tbls : ∀ b ps, H b = some (.tbl ps) → ∃ more, H' b = some (.tbl (ps ++ more)))
    (ns : ∀ m, s.heap.Ns X.env.locals m → h'.Ns X.env.locals m) (hok : HOk X.prog X.w H' h') (hg : AllBare g') :
    Inv X pins σ H' { s with heap := h', gens := g', drawn := d', toks := t' } := by
  have neL : ∀ b o, X.s₀.heap.get? b = some o → b ≠ X.env.locals := fun b o e => Nat.ne_of_lt (Nat.lt_of_lt_of_le (Heap.lt_size e) I.ok.above)
  have neC : ∀ b o, X.s₀.heap.get? b = some o → b ∉ X.ex → b ∉ ch := fun b o e hx hb => by
    rcases (hch b hb).1 with z | z
    · exact hx z
    · exact absurd (Nat.lt_of_lt_of_le (Heap.lt_size e) z) (Nat.lt_irrefl _)
  have cellK : ∀ x c, X.env.cells.lookup x = some c → ∀ v, s.heap.IsCell c v → h'.IsCell c v := fun x c e v ⟨o, ho, hd⟩ => by
    have nch : c ∉ ch := fun z => (hch c z).2.2.1 x c e rfl
    by_cases hc : c ∈ X.fs
    · obtain ⟨sl, q⟩ := slot c o (I.cne x c e) hc nch ho (I.freeC x c e)
      exact ⟨_, q, hd⟩
    · exact ⟨o, keep c o (I.cne x c e) hc nch ho (I.freeC x c e), hd⟩
  refine ⟨I.ok, I.os, hg, ⟨fun b o e n hb hx => ?_, fun b o e n hb hx => ?_, fun b o e n hx => ?_, fun b o e hx => ?_, fun b xs e => tups b xs (I.base.tups b xs e), fun b o xs e => frzs b o xs (I.base.frzs b o xs e), fun b ps e => ?_⟩, ?_, fun x c e => ?_, ?_, fun x c e => ?_, fun p hp => ?_, hok, I.len⟩
  · exact keep b o (neL b o e) hb (neC b o e hx) (I.base.keep b o e n hb hx) (I.base.free b o e n hx)
  · obtain ⟨sl, e1⟩ := I.base.slot b o e n hb hx
    obtain ⟨sl', e2⟩ := slot b _ (neL b o e) hb (neC b o e hx) e1 (I.base.free b o e n hx)
    exact ⟨sl', e2⟩
  · obtain ⟨o', e1⟩ := I.base.there b o e hx
    exact free b o' (neC b o e hx) e1 (I.base.free b o e n hx)
  · obtain ⟨o', e1⟩ := I.base.there b o e hx
    exact there b o' (neC b o e hx) e1
  · obtain ⟨m1, e1⟩ := I.base.tbls b ps e
    obtain ⟨m2, e2⟩ := tbls b _ e1
    exact ⟨m1 ++ m2, by rw [e2, Array.append_assoc]⟩
  · obtain ⟨m, hn, hl⟩ := I.loc
    refine ⟨m, ns m hn, fun i x v e1 e2 e3 => ?_⟩
    obtain ⟨u, r, l⟩ := hl i x v e1 e2 e3
    refine ⟨u, r, ?_⟩
    rcases l with l | ⟨k, c, e, z⟩
    · exact .inl l
    · exact .inr ⟨k, c, e, cellK x c e _ z⟩
  · obtain ⟨v, z⟩ := I.cell x c e
    exact ⟨v, cellK x c e v z⟩
  · obtain ⟨m, ⟨o, _, _, ho, _⟩, _⟩ := I.loc
    exact free _ o (fun z => (hch _ z).2.1 rfl) ho I.free
  · obtain ⟨v, o, ho, hd⟩ := I.cell x c e
    exact free c o (fun z => (hch c z).2.2.1 x c e rfl) ho (I.freeC x c e)
  · obtain ⟨e, n, ne, nf, d⟩ := I.pin p hp
    have nch : p.1 ∉ ch := fun z => (hch p.1 z).2.2.2 p hp rfl
    exact ⟨keep p.1 p.2 ne nf nch e n, free p.1 p.2 nch e n, ne, nf, d⟩
theorem Inv.un {t' : Nat} (I : Inv X pins σ H s) (u : Un X.fs [] H H' s.heap h') (hok : HOk X.prog X.w H' h') : Inv X pins σ H' { s with heap := h', toks := t' } := by
  obtain ⟨m, ⟨o, es, ep, ho, r⟩, _⟩ := id I.loc
  obtain ⟨sl, hL⟩ := u.any ho I.free (by simp)
  exact I.step (g' := s.gens) (d' := s.drawn) (ch := []) (fun _ z => nomatch z) (fun b o _ hb _ e n => u.keep b o e n hb (by simp)) (fun b o _ hb _ e n => u.slot b o e n hb (by simp)) (fun b o _ e n => u.free b o e n (by simp)) (fun b o _ e => u.there b o e (by simp)) u.tups u.frzs u.tbls (fun m' hm => by
    obtain ⟨o', es', ep', ho', r'⟩ := hm
    rw [ho] at ho'; cases ho'
    exact ⟨_, es', ep', hL, r'⟩) hok I.bare
theorem Inv.call {g' : Array GenState} {t' : Nat} {d' : Drawn} {ch : List Addr} (I : Inv X pins σ H s) (u : Un (frs X.stack) ch H H' s.heap h') (hok : HOk X.prog X.w H' h') (hg : AllBare g')
    (hch : ∀ b ∈ ch, (b ∈ X.ex ∨ X.s₀.heap.objs.size ≤ b) ∧ b ≠ X.env.locals ∧ (∀ x c, X.env.cells.lookup x = some c → c ≠ b) ∧ ∀ p ∈ X.pn ++ pins, p.1 ≠ b) :
    Inv X pins σ H' { s with heap := h', gens := g', drawn := d', toks := t' } := by
  obtain ⟨m, ⟨o, es, ep, ho, r⟩, _⟩ := id I.loc
  obtain ⟨sl, hL⟩ := u.any ho I.free fun z => (hch _ z).2.1 rfl
  exact I.step (ch := ch) hch (fun b o hL hb hc e n => u.keep b o e n (fun z => (List.mem_cons.mp (I.stkSub b z)).elim hL hb) hc) (fun b o _ _ hc e n => u.any e n hc) (fun b o hc e n => u.free b o e n hc) (fun b o hc e => u.there b o e hc) u.tups u.frzs u.tbls (fun m' hm => by
    obtain ⟨o', es', ep', ho', r'⟩ := hm
    rw [ho] at ho'; cases ho'
    exact ⟨_, es', ep', hL, r'⟩) hok hg
theorem Inv.turned {t' : Nat} {it : Addr} (I : Inv X pins σ H s) (k : ∀ b o, b ≠ it → s.heap.get? b = some o → h'.get? b = some o) (hn : H it = none) (hL : it ≠ X.env.locals)
    (h1 : it ∈ X.ex ∨ X.s₀.heap.objs.size ≤ it) (h2 : ∀ x c, X.env.cells.lookup x = some c → c ≠ it) (h3 : ∀ p ∈ X.pn ++ pins, p.1 ≠ it) : Inv X pins σ H { s with heap := h', toks := t' } := by
  have nit : ∀ b u, H b = some u → b ≠ it := fun b u e z => by rw [z, hn] at e; cases e
  refine I.step (g' := s.gens) (d' := s.drawn) (ch := [it]) (fun b hb => ?_) (fun b o _ _ hc e _ => k b o (fun z => hc (by simp [z])) e) (fun b o _ _ hc e _ => ⟨o.slots, k b o (fun z => hc (by simp [z])) e⟩) (fun _ _ _ _ n => n)
    (fun b o hc e => ⟨o, k b o (fun z => hc (by simp [z])) e⟩) (fun _ _ e => e) (fun _ _ _ e => e) (fun b ps e => ⟨#[], by rw [e]; simp⟩) (fun m hm => ?_) (fun b u e => ?_) I.bare
  · have e : b = it := by simpa using hb
    subst e
    exact ⟨h1, hL, h2, h3⟩
  · obtain ⟨o, es, ep, ho, r⟩ := hm
    exact ⟨o, es, ep, k _ o (Ne.symm hL) ho, r⟩
  · refine (I.hok b u e).stay (fun c v hc q => k c v ?_ q) (fun _ q => q) fun _ _ q => q
    rcases hc with z | z
    · rw [z]; exact nit b u e
    · exact nit c _ z
theorem Inv.tok (I : Inv X pins σ H s) (t : Nat) : Inv X pins σ H { s with toks := t } := I.un (h' := s.heap) (t' := t) Un.refl I.hok
theorem Inv.kept {t' : Nat} (I : Inv X pins σ H s) (k : ∀ b u, s.heap.get? b = some u → h'.get? b = some u) : Inv X pins σ H { s with heap := h', toks := t' } := I.un (Un.kept k) (I.hok.kept k)
theorem Inv.laid {a : Addr} {o : HO} {t' : Nat} (I : Inv X pins σ H s) (k : ∀ b u, s.heap.get? b = some u → h'.get? b = some u) (hp : s.heap.objs.size ≤ a) (new : ObjOk X.prog X.w (upd H a o) h' a o) :
    Inv X pins σ (upd H a o) { s with heap := h', toks := t' } := I.un (Un.laid k hp (I.hok.fresh hp)) (I.hok.laid k hp new)
theorem Inv.write {x e : Addr} {o : HO} {t' : Nat} (I : Inv X pins σ H s) (mu : Mut (H x)) (he : e = x ∨ H e = some (.own x)) (k : ∀ b u, b ≠ e → s.heap.get? b = some u → h'.get? b = some u) (heo : ∃ u, h'.get? e = some u)
    (new : ObjOk X.prog X.w (upd H x o) h' x o) : Inv X pins σ (upd H x o) { s with heap := h', toks := t' } := I.un (Un.write mu he k heo) (I.hok.write mu he k heo new)
theorem Inv.weak {σ' : List (Option V)} (I : Inv X pins σ H s) (hl : σ'.length = σ.length) (w : ∀ (i : Nat) v, σ'[i]? = some (some v) → σ[i]? = some (some v)) : Inv X pins σ' H s :=
  ⟨I.ok, I.os, I.bare, I.base, let ⟨m, hn, hl'⟩ := I.loc; ⟨m, hn, fun i x v e1 e2 e3 => hl' i x v e1 (w i v e2) e3⟩, I.cell, I.free, I.freeC, I.pin, I.hok, hl.trans I.len⟩
theorem Inv.pins_of {pins' : List (Addr × Obj)} (I : Inv X pins σ H s) (h : ∀ p ∈ pins', s.heap.get? p.1 = some p.2 ∧ H p.1 = none ∧ p.1 ≠ X.env.locals ∧ p.1 ∉ X.fs ∧ ∀ v, p.2.data ≠ .cell v) : Inv X pins' σ H s :=
  ⟨I.ok, I.os, I.bare, I.base, I.loc, I.cell, I.free, I.freeC, fun p hp => (List.mem_append.mp hp).elim (fun z => I.pin p (List.mem_append_left _ z)) (h p), I.hok, I.len⟩
theorem nodup_ix {N : List Str} (hN : N.Nodup) {i j : Nat} {x : Str} (a : N[i]? = some x) (b : N[j]? = some x) : i = j := by
  obtain ⟨h1, e1⟩ := List.getElem?_eq_some_iff.mp a
  obtain ⟨h2, e2⟩ := List.getElem?_eq_some_iff.mp b
  exact (List.getElem_inj hN).mp (e1.trans e2.symm)
theorem store_ok2 {M : Model} {A : Around} {E : Value → Shared → Prop} {i : Nat} {x : Str} {v : V} {u : Value} {Q : Unit → Shared → Prop} (I : Inv X pins σ H s) (hN : X.N.Nodup) (hi : X.N[i]? = some x) (hx : Loc X.env.scope x) (r : RelV v u)
    (h : ∀ s', Inv X pins (σ.set i (some v)) H s' → (∃ a, Heap.SameBut a s.heap s'.heap ∧ (a = X.env.locals ∨ X.env.cells.lookup x = some a)) → Q () s') (hf : X.fn x = true ∨ X.env.scope.names.lookup x = some .local := by first | exact .inl rfl | exact .inr rfl | assumption) : wpAny M A (storeName X.env x u) Q E s := by
  obtain ⟨m, hn, hl⟩ := id I.loc
  have hcls : (X.env.scope.kind == .class || (X.env.scope.kind == .module && X.env.locals != X.env.globals)) = false := by rw [I.ok.kind]; rfl
  have hiσ : i < σ.length := by rw [I.len]; exact (List.getElem?_eq_some_iff.mp hi).1
  have cne := I.cne
  have tracked : ∀ {a : Addr} {h' : Heap}, (∃ o, s.heap.get? a = some o ∧ H a = none) → Heap.SameBut a s.heap h' → HOk X.prog X.w H h' := fun {a h'} ha hs b ob e => by
    obtain ⟨_, _, hfree⟩ := ha
    refine (I.hok b ob e).stay (fun c w' hc q => (hs.2 c ?_).trans q) (fun _ q => q) fun _ _ q => q
    rintro rfl
    rcases hc with rfl | hc
    · rw [hfree] at e; cases e
    · rw [hfree] at hc; cases hc
  rcases hx with hk | hk
  · refine wpAny_storeName_local hk hn (fun h' hn' hs => ?_) hcls
    obtain ⟨oL, _, _, hoL, _⟩ := id hn
    refine h _ ⟨I.ok, I.os, I.bare, ⟨fun b o e n hb hx => ?_, fun b o e n hb hx => ?_, I.base.free, fun b o e hx => ?_, I.base.tups, I.base.frzs, I.base.tbls⟩, ⟨_, hn', fun j y v' e1 e2 e3 => ?_⟩, fun y c e => ?_, I.free, I.freeC, fun p hp => ?_, tracked ⟨oL, hoL, I.free⟩ hs, by simpa using I.len⟩ ⟨_, hs, .inl rfl⟩
    · exact (hs.2 b (Nat.ne_of_lt (Nat.lt_of_lt_of_le (Heap.lt_size e) I.ok.above))).trans (I.base.keep b o e n hb hx)
    · obtain ⟨sl, e1⟩ := I.base.slot b o e n hb hx
      exact ⟨sl, (hs.2 b (Nat.ne_of_lt (Nat.lt_of_lt_of_le (Heap.lt_size e) I.ok.above))).trans e1⟩
    · obtain ⟨o', e1⟩ := I.base.there b o e hx
      exact ⟨o', (hs.2 b (Nat.ne_of_lt (Nat.lt_of_lt_of_le (Heap.lt_size e) I.ok.above))).trans e1⟩
    · by_cases hj : j = i
      · subst hj
        rw [hi] at e1; cases e1
        rw [List.getElem?_set_self hiσ] at e2
        cases e2
        exact ⟨u, r, .inl ⟨hk, by simp⟩⟩
      · rw [List.getElem?_set_ne (Ne.symm hj)] at e2
        obtain ⟨u', r', q⟩ := hl j y v' e1 e2 e3
        refine ⟨u', r', ?_⟩
        rcases q with ⟨k, e⟩ | ⟨k, c, e, z⟩
        · refine .inl ⟨k, ?_⟩
          have : y ≠ x := fun e => hj (nodup_ix hN e1 (e ▸ hi))
          simp [this, e]
        · exact .inr ⟨k, c, e, z.sameBut hs (cne y c e)⟩
    · obtain ⟨w', z⟩ := I.cell y c e
      exact ⟨w', z.sameBut hs (cne y c e)⟩
    · obtain ⟨e, n, ne, nf, d⟩ := I.pin p hp
      exact ⟨(hs.2 p.1 ne).trans e, n, ne, nf, d⟩
  · have hfn : X.fn x = true := by
      rcases hf with z | z
      · exact z
      · rw [z] at hk; cases hk
    obtain ⟨c, hc⟩ := I.ok.has x (.inl hk)
    obtain ⟨w', z⟩ := I.cell x c hc
    refine wpAny_storeName_cell I.ok.kind hk hc z (fun h' hc' hs => ?_)
    obtain ⟨oc, hoc, hocd⟩ := id z
    refine h { s with heap := h' } ⟨I.ok, I.os, I.bare, ⟨fun b o e n hb hx => ?_, fun b o e n hb hx => ?_, I.base.free, fun b o e hx => ?_, I.base.tups, I.base.frzs, I.base.tbls⟩, ⟨m, hn.sameBut hs (Ne.symm (cne x c hc)), fun j y v' e1 e2 e3 => ?_⟩, fun y c' e => ?_, I.free, I.freeC, fun p hp => ?_, tracked ⟨oc, hoc, I.freeC x c hc⟩ hs, by simpa using I.len⟩ ⟨c, hs, .inr hc⟩
    · exact (hs.2 b (Nat.ne_of_lt (Nat.lt_of_lt_of_le (Heap.lt_size e) (I.ok.cab x c hfn hc)))).trans (I.base.keep b o e n hb hx)
    · obtain ⟨sl, e1⟩ := I.base.slot b o e n hb hx
      exact ⟨sl, (hs.2 b (Nat.ne_of_lt (Nat.lt_of_lt_of_le (Heap.lt_size e) (I.ok.cab x c hfn hc)))).trans e1⟩
    · obtain ⟨o', e1⟩ := I.base.there b o e hx
      exact ⟨o', (hs.2 b (Nat.ne_of_lt (Nat.lt_of_lt_of_le (Heap.lt_size e) (I.ok.cab x c hfn hc)))).trans e1⟩
    · by_cases hj : j = i
      · subst hj
        rw [hi] at e1; cases e1
        rw [List.getElem?_set_self hiσ] at e2
        cases e2
        exact ⟨u, r, .inr ⟨.inl hk, c, hc, hc'⟩⟩
      · rw [List.getElem?_set_ne (Ne.symm hj)] at e2
        obtain ⟨u', r', q⟩ := hl j y v' e1 e2 e3
        refine ⟨u', r', ?_⟩
        rcases q with q | ⟨k, c', e, z'⟩
        · exact .inl q
        · refine .inr ⟨k, c', e, z'.sameBut hs ?_⟩
          rintro rfl
          exact hj (nodup_ix hN e1 (I.ok.inj _ _ _ e hc ▸ hi))
    · by_cases hcc : c' = c
      · subst hcc; exact ⟨_, hc'⟩
      · obtain ⟨w2, z2⟩ := I.cell y c' e
        exact ⟨w2, z2.sameBut hs hcc⟩
    · obtain ⟨e, n, ne, nf, d⟩ := I.pin p hp
      refine ⟨(hs.2 p.1 ?_).trans e, n, ne, nf, d⟩
      intro q
      rw [q, hoc] at e
      have q' : oc = p.2 := Option.some.inj e
      exact d w' (by rw [← q']; exact hocd)
theorem store_ok {M : Model} {A : Around} {E : Value → Shared → Prop} {i : Nat} {x : Str} {v : V} {u : Value} {Q : Unit → Shared → Prop} (I : Inv X pins σ H s) (hN : X.N.Nodup) (hi : X.N[i]? = some x) (hx : Loc X.env.scope x) (r : RelV v u)
    (h : ∀ s', Inv X pins (σ.set i (some v)) H s' → Q () s') (hf : X.fn x = true ∨ X.env.scope.names.lookup x = some .local := by first | exact .inl rfl | exact .inr rfl | assumption) : wpAny M A (storeName X.env x u) Q E s :=
  store_ok2 I hN hi hx r (fun s' I' _ => h s' I') hf
theorem Inv.call' {s' : Shared} {ch : List Addr} (I : Inv X pins σ H s) (ho : s'.os = s.os) (u : Un (frs X.stack) ch H H' s.heap s'.heap) (hok : HOk X.prog X.w H' s'.heap) (hg : AllBare s'.gens)
    (hch : ∀ b ∈ ch, (b ∈ X.ex ∨ X.s₀.heap.objs.size ≤ b) ∧ b ≠ X.env.locals ∧ (∀ x c, X.env.cells.lookup x = some c → c ≠ b) ∧ ∀ p ∈ X.pn ++ pins, p.1 ≠ b) : Inv X pins σ H' s' := by
  obtain ⟨h', g', d', t', o'⟩ := s'
  have e : o' = s.os := ho
  subst e
  exact I.call (g' := g') (t' := t') (d' := d') u hok hg hch
end
abbrev XK := Value → Option Addr → Hp → Prop
abbrev St := List (Option V)
abbrev VK := V → Hp → Prop
abbrev TE := St → Hp → VK → Prop
abbrev TT := St → Hp → (Bool → Hp → Prop) → Prop
abbrev TA := St → Hp → (List V → Hp → Prop) → Prop
structure Ends where
  nx : St → Hp → Prop
  rt : VK
  bk : St → Hp → Prop := fun _ _ => False
  ct : St → Hp → Prop := fun _ _ => False
abbrev TS := Ends → St → Hp → Prop
def EP (X : Cx) (pins : List (Addr × Obj)) (σ : St) (Q : VK) (u : Value) (s' : Shared) : Prop := ∃ v H', Inv X pins σ H' s' ∧ RelV v u ∧ Q v H'
def TP (X : Cx) (pins : List (Addr × Obj)) (σ : St) (Q : Bool → Hp → Prop) (b : Bool) (s' : Shared) : Prop := ∃ H', Inv X pins σ H' s' ∧ Q b H'
def AP (X : Cx) (pins : List (Addr × Obj)) (σ : St) (Q : List V → Hp → Prop) (us : List Value) (s' : Shared) : Prop := ∃ vs H', Inv X pins σ H' s' ∧ Vals vs us ∧ Q vs H'
def SP (X : Cx) (pins : List (Addr × Obj)) (D : Ends) (f : Flow) (s' : Shared) : Prop :=
  match f with
  | .next => ∃ σ' H', Inv X pins σ' H' s' ∧ D.nx σ' H'
  | .brk => ∃ σ' H', Inv X pins σ' H' s' ∧ D.bk σ' H'
  | .cont => ∃ σ' H', Inv X pins σ' H' s' ∧ D.ct σ' H'
  | .ret u => ∃ v σ' H', Inv X pins σ' H' s' ∧ RelV v u ∧ D.rt v H'
def PE (X : Cx) (e : Expr) (t : TE) : Prop :=
  ∀ (pins : List (Addr × Obj)) (s : Shared) (σ : St) (H : Hp) (Q : VK), Inv X pins σ H s → t σ H Q → wpAny (model X.prog X.w) X.A (eval e X.env) (EP X pins σ Q) X.xe s
def PT (X : Cx) (e : Expr) (t : TT) : Prop :=
  ∀ (pins : List (Addr × Obj)) (s : Shared) (σ : St) (H : Hp) (Q : Bool → Hp → Prop), Inv X pins σ H s → t σ H Q → wpAny (model X.prog X.w) X.A (isTrue e X.env (eval e X.env)) (TP X pins σ Q) X.xe s
def PW (X : Cx) (e : Expr) (t : TT) : Prop :=
  ∀ (whole : Sem Value) (pins : List (Addr × Obj)) (s : Shared) (σ : St) (H : Hp) (Q : Bool → Hp → Prop), Inv X pins σ H s → t σ H Q → wpAny (model X.prog X.w) X.A (isTrue e X.env whole) (TP X pins σ Q) X.xe s
theorem PW.pt {X : Cx} {e : Expr} {t : TT} (h : PW X e t) : PT X e t := h _
def PA (X : Cx) (es : List Expr) (t : TA) : Prop :=
  ∀ (pos : Pos) (pins : List (Addr × Obj)) (s : Shared) (σ : St) (H : Hp) (Q : List V → Hp → Prop), Inv X pins σ H s → t σ H Q → wpAny (model X.prog X.w) X.A (spliced (backTo pos (starEach es X.env))) (AP X pins σ Q) X.xe s
def PS (X : Cx) (st : Stmt) (t : TS) : Prop :=
  ∀ (pins : List (Addr × Obj)) (s : Shared) (σ : St) (H : Hp) (D : Ends), Inv X pins σ H s → t D σ H → wpAny (model X.prog X.w) X.A (exec st X.env) (SP X pins D) X.xe s
def PSs (X : Cx) (st : List Stmt) (t : TS) : Prop :=
  ∀ (pins : List (Addr × Obj)) (s : Shared) (σ : St) (H : Hp) (D : Ends), Inv X pins σ H s → t D σ H → wpAny (model X.prog X.w) X.A (execs st X.env) (SP X pins D) X.xe s
theorem thn {α : Type} {t : Sem α} {Q Q' : α → Shared → Prop} {M : Model} {A : Around} {E : Value → Shared → Prop} {s : Shared} (h : wpAny M A t Q E s) (hQ : ∀ a s, Q a s → Q' a s) : wpAny M A t Q' E s := wpAny_mono h hQ fun _ _ x => x
end L2
namespace L2
open PySem PySem.Spec PyProof.Rows
section
variable {X : Cx}
def tVar (i : Nat) : TE := fun σ H Q => ∃ v, σ[i]? = some (some v) ∧ Q v H
def tC (v : V) : TE := fun _ H Q => Q v H
theorem pe_var {i : Nat} {x : Str} {pos : Pos} (hN : X.N[i]? = some x) (hv : Vis X.env.scope x) (hd : (x == ("__debug__" : Str)) = false := by decide) (hcd : (x == ("__classdict__" : Str)) = false := by decide) : PE X (.Name x pos) (tVar i) := by
  intro pins s σ H Q I h
  obtain ⟨v, e, h⟩ := h
  obtain ⟨m, hn, hl⟩ := I.loc
  obtain ⟨u, r, l⟩ := hl i x v hN e hv
  have fin : EP X pins σ Q u s := ⟨v, H, I, r, h⟩
  rcases l with ⟨hk, hm⟩ | ⟨hk, c, hc, hcell⟩
  · exact wpAny_Name (wpAny_loadName_local I.ok.kind hk hn hm fin) hd
  · rcases hk with hk | hk
    · exact wpAny_Name (wpAny_loadName_cell I.ok.kind hk hc hcell fin) hd
    · exact wpAny_Name (wpAny_loadName_free I.ok.kind hk hc hcell fin hcd) hd
theorem pe_int {i j pos} : PE X (.Constant (.int i) j pos) (tC (.int i)) := fun _ _ _ H _ I h => wpAny_Constant_int ⟨.int i, H, I.tok _, ⟨_, rfl⟩, h⟩
theorem pe_bl {b j pos} : PE X (.Constant (.bool b) j pos) (tC (.bl b)) := fun _ _ _ H _ I h => Constant_bool ⟨.bl b, H, I, rfl, h⟩
def Gl (X : Cx) (x : Str) : Prop := X.env.kindOf x = some .globalImplicit
theorem ld_glob {E : Value → Shared → Prop} {pins : List (Addr × Obj)} {s : Shared} {σ : St} {H : Hp} {x : Str} {u : Value} {pos : Pos} {Q : Value → Shared → Prop} (I : Inv X pins σ H s) (hg : Gl X x) (hm : X.mg x = some u) (h : Q u s)
    (hd : (x == ("__debug__" : Str)) = false := by decide) : wpAny (model X.prog X.w) X.A (eval (.Name x pos) X.env) Q E s :=
  Calls.Name_function_global I.ok.kind hg (Calls.loadGlobal_global (by rw [I.ok.glob]; exact I.mod.glob.keeps I.bk) hm h) hd
theorem ld_blt {E : Value → Shared → Prop} {pins : List (Addr × Obj)} {s : Shared} {σ : St} {H : Hp} {x : Str} {u : Value} {pos : Pos} {Q : Value → Shared → Prop} (I : Inv X pins σ H s) (hg : Gl X x) (hm : X.mg x = none) (hv : bootBuiltins x = some u) (h : Q u s)
    (hn : x ≠ "__name__" := by decide) (hd : (x == ("__debug__" : Str)) = false := by decide) : wpAny (model X.prog X.w) X.A (eval (.Name x pos) X.env) Q E s := by
  obtain ⟨mb, h1, h2⟩ := I.mod.blt
  exact Calls.Name_function_global I.ok.kind hg (Calls.loadGlobal_builtin (by rw [I.ok.glob]; exact I.mod.glob.keeps I.bk) hm (by rw [I.ok.blt]; exact h1.keeps I.bk) ((h2 x hn).trans hv) h) hd
theorem pe_bltn {x : Str} {v : V} {u : Value} {pos : Pos} (hg : Gl X x) (hm : X.mg x = none) (hv : bootBuiltins x = some u) (r : RelV v u) (hn : x ≠ "__name__" := by decide) (hd : (x == ("__debug__" : Str)) = false := by decide) : PE X (.Name x pos) (tC v) :=
  fun _ _ _ H _ I h => ld_blt I hg hm hv ⟨v, H, I, r, h⟩ hn hd
variable {a b : Expr} {ta tb : TE} {pos : Pos}
def tB (t : TE) : TT := fun σ H Q => t σ H fun x H1 => ∃ c, x = .bl c ∧ Q c H1
theorem pt_val {e : Expr} {t : TE} (h : PE X e t) (he : ∀ whole, isTrue e X.env whole = (do let v ← whole; standAt e.pos; holding [v] (truthy v)) := by intro _; rfl) : PT X e (tB t) := by
  intro pins s σ H Q I hw
  refine isTrue_plain (thn (h pins s σ H _ I hw) fun v s1 ⟨x, H1, I1, r1, q1⟩ => ?_) (he _)
  obtain ⟨d, rfl, q⟩ := q1
  cases r1
  exact wpAny_truthy_bool ⟨H1, I1, q⟩
variable {tA tB' : TT} {rest : List Expr}
def tOr (t u : TT) : TT := fun σ H Q => t σ H fun c H1 => if c = true then Q true H1 else u σ H1 Q
def tNot (t : TT) : TT := fun σ H Q => t σ H fun c H1 => Q (!c) H1
theorem pw_or1 (ha : PT X a tA) : PW X (.BoolOp .Or [a] pos) tA := by
  intro wh pins s σ H Q I h
  refine isTrue_or (thn (ha pins s σ H Q I h) fun c s1 e => ?_)
  cases c with
  | false => exact isTrue_or_nil e
  | true => exact e
theorem pw_or (ha : PT X a tA) (hb : PW X (.BoolOp .Or (b :: rest) pos) tB') : PW X (.BoolOp .Or (a :: b :: rest) pos) (tOr tA tB') := by
  intro wh pins s σ H Q I h
  refine isTrue_or (thn (ha pins s σ H _ I h) fun c s1 ⟨H1, I1, q1⟩ => ?_)
  cases c with
  | true => exact ⟨H1, I1, q1⟩
  | false => exact hb wh pins s1 σ H1 Q I1 q1
theorem pt_not (ha : PT X a tA) : PT X (.UnaryOp .Not a pos) (tNot tA) := by
  intro pins s σ H Q I h
  exact isTrue_not (ha pins s σ H (fun c H1 => Q (!c) H1) I h)
def tAndV (ta tb : TE) : TE := fun σ H Q => ta σ H fun x H1 => ∃ c, x = .bl c ∧ if c = true then tb σ H1 Q else Q (.bl false) H1
def tNotV (ta : TE) : TE := fun σ H Q => ta σ H fun x H1 => ∃ c, x = .bl c ∧ Q (.bl (!c)) H1
theorem pe_one {op} {t : TE} (h : PE X a t) : PE X (.BoolOp op [a] pos) t := fun pins s σ H Q I hw => BoolOp_one (h pins s σ H Q I hw)
theorem pe_and (ha : PE X a ta) (hb : PE X (.BoolOp .And (b :: rest) pos) tb) : PE X (.BoolOp .And (a :: b :: rest) pos) (tAndV ta tb) := by
  intro pins s σ H Q I h
  refine BoolOp_and (thn (ha pins s σ H _ I h) fun v s1 ⟨x, H1, I1, r1, q1⟩ => ?_)
  obtain ⟨c, rfl, q1⟩ := q1
  cases r1
  refine wpAny_truthy_bool ?_
  cases c with
  | true => exact hb pins s1 σ H1 Q I1 q1
  | false => exact ⟨.bl false, H1, I1, rfl, q1⟩
theorem pe_not (ha : PE X a ta) : PE X (.UnaryOp .Not a pos) (tNotV ta) := by
  intro pins s σ H Q I h
  refine UnaryOp_ (thn (ha pins s σ H _ I h) fun v s1 ⟨x, H1, I1, r1, q1⟩ => ?_)
  obtain ⟨c, rfl, q1⟩ := q1
  cases r1
  exact not_of (wpAny_truthy_bool ⟨.bl (!c), H1, I1, rfl, q1⟩)
def tIf (t : TT) (ta tb : TE) : TE := fun σ H Q => t σ H fun c H1 => if c = true then ta σ H1 Q else tb σ H1 Q
theorem pe_ifExp {c : Expr} (hc : PT X c tA) (ha : PE X a ta) (hb : PE X b tb) : PE X (.IfExp c a b pos) (tIf tA ta tb) := by
  intro pins s σ H Q I h
  refine wpAny_IfExp (thn (hc pins s σ H _ I h) fun d s1 ⟨H1, I1, q1⟩ => ?_)
  cases d with
  | true => exact ha pins s1 σ H1 Q I1 q1
  | false => exact hb pins s1 σ H1 Q I1 q1
end
end L2
namespace L2
open PySem PySem.Spec PyProof.Rows
def SqL (K : PySem.W.Frag) (H : Hp) (a : Addr) (xs : List V) : Prop :=
  Rd H a (.lst xs) ∨
    ∃ (o : Obj) (its : Array Value) (n : Nat), K.lookup a = some o ∧ o.cls = .type "list" ∧ o.dict = none ∧ o.data = .seq its n ∧ its.size ≤ sizeLine ∧ Vals xs its.toList
def SqT (K : PySem.W.Frag) (H : Hp) (a : Addr) (xs : List V) : Prop :=
  Rd H a (.tup xs) ∨
    ∃ (o : Obj) (its : Array Value) (n : Nat), K.lookup a = some o ∧ o.cls = .type "tuple" ∧ o.data = .seq its n ∧ its.size ≤ sizeLine ∧ Vals xs its.toList
def absV : Value → Option V
  | .none => some .non
  | .bool b => some (.bl b)
  | .int i _ => some (.int i)
  | .str x _ => some (.str x)
  | .bytes b _ => some (.byt b)
  | .float b _ => some (.flt b)
  | .ref a => some (.ref a)
  | .type n => some (.ty n)
  | _ => none
theorem RelV.abs {x : V} {u : Value} (r : RelV x u) : absV u = some x := by
  cases x with
  | non => cases r; rfl
  | bl _ => cases r; rfl
  | int _ => obtain ⟨t, rfl⟩ := r; rfl
  | str _ => obtain ⟨t, rfl⟩ := r; rfl
  | byt _ => obtain ⟨t, rfl⟩ := r; rfl
  | flt _ => obtain ⟨t, rfl⟩ := r; rfl
  | ref _ => cases r; rfl
  | ty _ => cases r; rfl
theorem RelV.inj {x y : V} {u : Value} (r : RelV x u) (q : RelV y u) : x = y := Option.some.inj (r.abs.symm.trans q.abs)
theorem Vals.inj : ∀ {xs ys : List V} {us : List Value}, Vals xs us → Vals ys us → xs = ys
  | _, _, _, .nil, .nil => rfl
  | _, _, _, .cons r t, .cons r' t' => by rw [r.inj r', Vals.inj t t']
section
variable {X : Cx} {pins : List (Addr × Obj)} {σ : St} {H : Hp} {s : Shared} {a : Addr} {xs ys : List V}
theorem SqL.of {K : PySem.W.Frag} (h : H a = some (.lst xs)) : SqL K H a xs := .inl (.inl h)
theorem SqT.of {K : PySem.W.Frag} (h : H a = some (.tup xs)) : SqT K H a xs := .inl (.inl h)
theorem Inv.list (I : Inv X pins σ H s) (h : SqL X.K H a xs) : ∃ its : List Value, Vals xs its ∧ PlainL s.heap a its.toArray ∧ xs.length ≤ sizeLine := by
  rcases h with h | ⟨o, its, n, hk, hc, hd, hs, hz, r⟩
  · obtain ⟨z, its, n, r, e⟩ := h.ok I.hok
    exact ⟨its, r, ⟨_, n, e, rfl, rfl, rfl⟩, z⟩
  · refine ⟨its.toList, r, ⟨o, n, I.kIn a o hk, hc, hd, by simpa using hs⟩, ?_⟩
    have e := r.length
    simp only [Array.length_toList] at e
    omega
theorem Inv.tuple (I : Inv X pins σ H s) (h : SqT X.K H a xs) : ∃ its : List Value, Vals xs its ∧ IsTup s.heap a its.toArray ∧ xs.length ≤ sizeLine := by
  rcases h with h | ⟨o, its, n, hk, hc, hs, hz, r⟩
  · obtain ⟨z, its, r, p⟩ := h.ok I.hok
    exact ⟨its, r, p, z⟩
  · refine ⟨its.toList, r, ⟨o, I.kIn a o hk, hc, n, by simpa using hs⟩, ?_⟩
    have e := r.length
    simp only [Array.length_toList] at e
    omega
theorem Inv.list_inj (I : Inv X pins σ H s) (h : SqL X.K H a xs) (h' : SqL X.K H a ys) : xs = ys := by
  obtain ⟨its, r, ⟨o, n, e, _, _, d⟩, _⟩ := I.list h
  obtain ⟨its', r', ⟨o', n', e', _, _, d'⟩, _⟩ := I.list h'
  rw [e] at e'; cases e'
  rw [d] at d'
  injection d' with d1 _
  have : its = its' := by simpa using congrArg Array.toList d1
  subst this
  exact r.inj r'
theorem Inv.tuple_inj (I : Inv X pins σ H s) (h : SqT X.K H a xs) (h' : SqT X.K H a ys) : xs = ys := by
  obtain ⟨its, r, ⟨o, e, _, n, d⟩, _⟩ := I.tuple h
  obtain ⟨its', r', ⟨o', e', _, n', d'⟩, _⟩ := I.tuple h'
  rw [e] at e'; cases e'
  rw [d] at d'
  injection d' with d1 _
  have : its = its' := by simpa using congrArg Array.toList d1
  subst this
  exact r.inj r'
end
abbrev Cx.wish (X : Cx) (E : Value → Shared → Prop) : Cx := { X with xe := E }
abbrev Cx.nox (X : Cx) : Cx := X.wish fun _ _ => False
theorem Cx.Ok.wish {X : Cx} (ok : X.Ok) (E : Value → Shared → Prop) : (X.wish E).Ok :=
  ⟨ok.mod, ok.kind, ok.glob, ok.blt, ok.above, ok.inj, ok.has, ok.cab, ok.hd, ok.frames, ok.stk, ok.exf, ok.bs, ok.bsz, ok.noex, ok.exfs, ok.funs, ok.frf⟩
theorem Cx.Ok.unwish {X : Cx} {E : Value → Shared → Prop} (ok : (X.wish E).Ok) : X.Ok :=
  ⟨ok.mod, ok.kind, ok.glob, ok.blt, ok.above, ok.inj, ok.has, ok.cab, ok.hd, ok.frames, ok.stk, ok.exf, ok.bs, ok.bsz, ok.noex, ok.exfs, ok.funs, ok.frf⟩
section
variable {X : Cx} {pins : List (Addr × Obj)} {σ : St} {H : Hp} {s : Shared} {E : Value → Shared → Prop}
theorem Inv.wish (I : Inv X pins σ H s) (E : Value → Shared → Prop) : Inv (X.wish E) pins σ H s := ⟨I.ok.wish E, I.os, I.bare, I.base, I.loc, I.cell, I.free, I.freeC, I.pin, I.hok, I.len⟩
theorem Inv.unwish (I : Inv (X.wish E) pins σ H s) : Inv X pins σ H s := ⟨I.ok.unwish, I.os, I.bare, I.base, I.loc, I.cell, I.free, I.freeC, I.pin, I.hok, I.len⟩
theorem SP.unwish {D : Ends} {f : Flow} {s' : Shared} (h : SP (X.wish E) pins D f s') : SP X pins D f s' := by
  cases f with
  | next => obtain ⟨σ', H', I, q⟩ := h; exact ⟨σ', H', I.unwish, q⟩
  | brk => obtain ⟨σ', H', I, q⟩ := h; exact ⟨σ', H', I.unwish, q⟩
  | cont => obtain ⟨σ', H', I, q⟩ := h; exact ⟨σ', H', I.unwish, q⟩
  | ret u => obtain ⟨v, σ', H', I, r, q⟩ := h; exact ⟨v, σ', H', I.unwish, r, q⟩
theorem PE.nox {e : Expr} {t : TE} (h : PE X.nox e t) : PE X e t := fun pins s σ H Q I hw =>
  wpAny_mono (h pins s σ H Q (I.wish _) hw) (fun _ _ ⟨v, H', I', r, q⟩ => ⟨v, H', I'.unwish, r, q⟩) fun _ _ z => False.elim z
theorem PT.nox {e : Expr} {t : TT} (h : PT X.nox e t) : PT X e t := fun pins s σ H Q I hw =>
  wpAny_mono (h pins s σ H Q (I.wish _) hw) (fun _ _ ⟨H', I', q⟩ => ⟨H', I'.unwish, q⟩) fun _ _ z => False.elim z
theorem PSs.nox {st : List Stmt} {t : TS} (h : PSs X.nox st t) : PSs X st t := fun pins s σ H D I hw =>
  wpAny_mono (h pins s σ H D (I.wish _) hw) (fun _ _ q => q.unwish) fun _ _ z => False.elim z
end
section
variable {X : Cx} {st : Stmt} {rest : List Stmt} {t u : TS} {e : Expr} {te : TE} {pos : Pos}
def tNext : TS := fun D σ H => D.nx σ H
def tSeq (t u : TS) : TS := fun D σ H => t { D with nx := u D } σ H
theorem pss_nil : PSs X [] tNext := fun _ _ σ H _ I h => wpAny_execs_nil ⟨σ, H, I, h⟩
theorem pss_cons (h1 : PS X st t) (h2 : PSs X rest u) : PSs X (st :: rest) (tSeq t u) := by
  intro pins s σ H D I h
  refine wpAny_execs_cons (thn (h1 pins s σ H { D with nx := u D } I h) fun f s1 q => ?_)
  cases f with
  | next =>
    obtain ⟨σ', H', I', q⟩ := q
    exact h2 pins s1 σ' H' D I' q
  | ret v => exact q
  | brk => exact q
  | cont => exact q
theorem pss_one (h1 : PS X st t) : PSs X [st] t := by
  intro pins s σ H D I h
  refine wpAny_execs_cons (thn (h1 pins s σ H D I h) fun f s1 q => ?_)
  cases f with
  | next => exact wpAny_execs_nil q
  | ret v => exact q
  | brk => exact q
  | cont => exact q
theorem Inv.quiet {pins : List (Addr × Obj)} {σ : St} {H : Hp} {s : Shared} (I : Inv X pins σ H s) : interactive X.env = false := by simp [interactive, I.ok.kind]
def tDrop (te : TE) : TS := fun D σ H => te σ H fun _ H1 => D.nx σ H1
theorem ps_expr (he : PE X e te) (hs : swapsWith e none pos.line X.env = pure false := by rfl) : PS X (.Expr e pos) (tDrop te) := by
  intro pins s σ H D I h
  exact wpAny_Expr_any (thn (he pins s σ H _ I h) fun v s1 ⟨x, H1, I1, r1, q1⟩ => ⟨σ, H1, I1, q1⟩) I.quiet hs
def tRet (te : TE) : TS := fun D σ H => te σ H D.rt
theorem ps_ret (he : PE X e te) : PS X (.Return (some e) pos) (tRet te) := by
  intro pins s σ H D I h
  exact wpAny_Return_some (thn (he pins s σ H _ I h) fun v s1 ⟨x, H1, I1, r1, q1⟩ => ⟨x, σ, H1, I1, r1, q1⟩)
def tIfS (c : TT) (t u : TS) : TS := fun D σ H => c σ H fun b H1 => if b = true then t D σ H1 else u D σ H1
theorem ps_if {c : Expr} {a b : List Stmt} {tc : TT} (hc : PT X c tc) (ha : PSs X a t) (hb : PSs X b u) : PS X (.If c a b pos) (tIfS tc t u) := by
  intro pins s σ H D I h
  refine wpAny_If (thn (hc pins s σ H _ I h) fun d s1 ⟨H1, I1, q1⟩ => ?_)
  cases d with
  | true => exact ha pins s1 σ H1 D I1 q1
  | false => exact hb pins s1 σ H1 D I1 q1
end
abbrev TG := V → St → Hp → (St → Hp → Prop) → Prop
abbrev TGs := List V → St → Hp → (St → Hp → Prop) → Prop
def PG (X : Cx) (target : Expr) (t : TG) : Prop :=
  ∀ (pins : List (Addr × Obj)) (s : Shared) (σ : St) (H : Hp) (v : V) (u : Value) (Q : St → Hp → Prop), Inv X pins σ H s → RelV v u → t v σ H Q →
    wpAny (model X.prog X.w) X.A (assign target X.env u) (fun _ s' => ∃ σ' H', Inv X pins σ' H' s' ∧ Q σ' H') X.xe s
def PGs (X : Cx) (ts : List Expr) (t : TGs) : Prop :=
  ∀ (pins : List (Addr × Obj)) (s : Shared) (σ : St) (H : Hp) (vs : List V) (us : List Value) (Q : St → Hp → Prop), Inv X pins σ H s → Vals vs us → t vs σ H Q →
    wpAny (model X.prog X.w) X.A (assignInOrder ((assignEach ts X.env).map (·.2)) us) (fun _ s' => ∃ σ' H', Inv X pins σ' H' s' ∧ Q σ' H') X.xe s
abbrev TSet := V → V → V → Hp → (Hp → Prop) → Prop
def PSet (X : Cx) (t : TSet) : Prop :=
  ∀ (pins : List (Addr × Obj)) (s : Shared) (σ : St) (H : Hp) (o i v : V) (ov iv u : Value) (Q : Hp → Prop), Inv X pins σ H s → RelV o ov → RelV i iv → RelV v u → t o i v H Q →
    wpAny (model X.prog X.w) X.A (setItem ov iv u) (fun _ s' => ∃ H', Inv X pins σ H' s' ∧ Q H') X.xe s
section
variable {X : Cx} {pos : Pos}
def gName (i : Nat) : TG := fun v σ H Q => Q (σ.set i (some v)) H
theorem pg_name {i : Nat} {x : Str} (hN : X.N.Nodup) (hi : X.N[i]? = some x) (hx : Loc X.env.scope x) (hf : X.fn x = true ∨ X.env.scope.names.lookup x = some .local := by first | exact .inl rfl | exact .inr rfl | assumption) : PG X (.Name x pos) (gName i) := by
  intro pins s σ H v u Q I r h
  exact wpAny_assign_Name (store_ok I hN hi hx r (fun s' I' => ⟨_, H, I', h⟩) hf)
def gNil : TGs := fun vs σ H Q => vs = [] ∧ Q σ H
def gCons (t : TG) (u : TGs) : TGs := fun vs σ H Q => ∃ v r, vs = v :: r ∧ t v σ H fun σ' H' => u r σ' H' Q
theorem pgs_nil : PGs X [] gNil := by
  intro pins s σ H vs us Q I r h
  obtain ⟨e, h⟩ := h
  subst e
  cases r
  exact assignInOrder_nil ⟨σ, H, I, h⟩
theorem pgs_cons {e : Expr} {es : List Expr} {t : TG} {u : TGs} (h1 : PG X e t) (h2 : PGs X es u)
    (hs : (assignEach (e :: es) X.env).map (·.2) = assign e X.env :: (assignEach es X.env).map (·.2) := by rfl) : PGs X (e :: es) (gCons t u) := by
  intro pins s σ H vs us Q I r h
  obtain ⟨v, vr, e1, h⟩ := h
  subst e1
  cases r with
  | cons r rr =>
    rw [hs]
    refine assignInOrder_cons (thn (h1 pins s σ H _ _ _ I r h) fun _ s1 ⟨σ1, H1, I1, q1⟩ => ?_)
    exact h2 pins s1 σ1 H1 _ _ Q I1 rr q1
def gTup (K : PySem.W.Frag) (n : Nat) (t : TGs) : TG := fun v σ H Q => ∃ a xs, v = .ref a ∧ SqT K H a xs ∧ xs.length = n ∧ t xs σ H Q
theorem pg_tup {es : List Expr} {k : Nat} {t : TGs} {n : Nat} (hc : X.calm = true) (h : PGs X es t)
    (hn : (assignEach es X.env).length = n := by rfl) (hst : (assignEach es X.env).findIdx? (·.1) = none := by rfl) : PG X (.Tuple es k pos) (gTup X.K n t) := by
  intro pins s σ H v u Q I r hw
  obtain ⟨a, xs, e1, hq, hl, hw⟩ := hw
  subst e1
  cases r
  obtain ⟨its, rv, ht, hz⟩ := I.tuple hq
  refine assign_Tuple_tuple (I.ok.hd hc) ht (by simp [hn, ← hl, rv.length]) hst fun h' hx => ?_
  have I1 : Inv X pins σ H { s with heap := h' } := I.kept (t' := s.toks) fun b o e => hx b o (Nat.ne_of_lt (Heap.lt_size e)) e
  exact h pins _ σ H xs _ Q I1 (by simpa using rv) hw
def gSub (to ti : TE) (t : TSet) : TG := fun v σ H Q => to σ H fun o H1 => ti σ H1 fun i H2 => t o i v H2 fun H3 => Q σ H3
theorem pg_sub {o i : Expr} {to ti : TE} {t : TSet} (ho : PE X o to) (hi : PE X i ti) (hs : PSet X t)
    (ha : ∀ v, assign (.Subscript o i pos) X.env v = (do
      let ov ← holding [v] (eval o X.env)
      let iv ← holding [v, ov] (eval i X.env)
      standAt pos
      holding [v, ov, iv] (setItem ov iv v)
      release [v, ov, iv] []) := by intro _; rfl) : PG X (.Subscript o i pos) (gSub to ti t) := by
  intro pins s σ H v u Q I r h
  rw [ha]
  refine wpAny_bind (wpAny_holding (thn (ho pins s σ H _ I h) fun ov s1 ⟨x, H1, I1, r1, q1⟩ => ?_))
  refine wpAny_bind (wpAny_holding (thn (hi pins s1 σ H1 _ I1 q1) fun iv s2 ⟨y, H2, I2, r2, q2⟩ => ?_))
  refine wpAny_bind (wpAny_standAt (wpAny_bind (wpAny_holding (thn (hs pins s2 σ H2 x y v ov iv u _ I2 r1 r2 r q2) fun _ s3 ⟨H3, I3, q3⟩ => ?_))))
  exact wpAny_release ⟨σ, H3, I3, q3⟩
def tAsg (te : TE) (g : TG) : TS := fun D σ H => te σ H fun x H1 => g x σ H1 D.nx
theorem ps_asg {tg e : Expr} {te : TE} {g : TG} (he : PE X e te) (hg : PG X tg g) (hs : swapsWithSole [tg] e pos.line X.env = pure false := by rfl) (hw : swappedStores [tg] e X.env = pure none := by rfl)
    (h1 : (assignEach [tg] X.env).map (·.2) = [assign tg X.env] := by rfl) : PS X (.Assign [tg] e pos) (tAsg te g) := by
  intro pins s σ H D I h
  refine wpAny_Assign_stores (thn (he pins s σ H _ I h) fun v s1 ⟨x, H1, I1, r1, q1⟩ => ?_) hs hw
  rw [h1]
  exact thn (hg pins s1 σ H1 x v _ I1 r1 q1) fun _ s2 q => q
theorem ps_set {i : Nat} {x : Str} {e : Expr} {te : TE} {pos' : Pos} (hN : X.N.Nodup) (hi : X.N[i]? = some x) (hx : Loc X.env.scope x) (he : PE X e te) (hs : swapsWith e (some (.Name x pos')) pos.line X.env = pure false := by rfl) (hf : X.fn x = true ∨ X.env.scope.names.lookup x = some .local := by first | exact .inl rfl | exact .inr rfl | assumption) :
    PS X (.Assign [.Name x pos'] e pos) (tAsg te (gName i)) := by
  intro pins s σ H D I h
  refine wpAny_Assign_Name (thn (he pins s σ H _ I h) fun v s1 ⟨y, H1, I1, r1, q1⟩ => ?_) hs
  exact store_ok I1 hN hi hx r1 (fun s2 I2 => ⟨_, H1, I2, q1⟩) hf
end
section
variable {X : Cx} {pos : Pos}
end
structure It where
  go : Nat → Hp → Prop
  yld : Nat → Hp → V → Hp → Prop
  stop : Nat → Hp → Prop
def FpOk (X : Cx) (pins : List (Addr × Obj)) (H : Hp) (b : Addr) : Prop :=
  H b = none ∧ b ≠ X.env.locals ∧ b ∉ X.fs ∧ (b ∈ X.ex ∨ X.s₀.heap.objs.size ≤ b) ∧ (∀ x c, X.env.cells.lookup x = some c → c ≠ b) ∧ ∀ p ∈ X.pn ++ pins, p.1 ≠ b
theorem Inv.fpOk {X : Cx} {pins : List (Addr × Obj)} {σ : St} {H H' : Hp} {s : Shared} {b : Addr} (I : Inv X pins σ H s) (hb : s.heap.objs.size ≤ b) (hn : H' b = none) : FpOk X pins H' b := by
  refine ⟨hn, Nat.ne_of_gt (Nat.lt_of_lt_of_le I.lt hb), I.nofs hb, .inr (Nat.le_trans I.sz hb), fun x c e z => ?_, fun p hp z => ?_⟩
  · obtain ⟨v, q⟩ := I.cell x c e
    exact absurd (Nat.lt_of_lt_of_le q.lt (by rw [z]; exact hb)) (Nat.lt_irrefl _)
  · exact absurd (Nat.lt_of_lt_of_le (Heap.lt_size (I.pin p hp).1) (by rw [z]; exact hb)) (Nat.lt_irrefl _)
structure Turn (P : Program) (w : World) (K : PySem.W.Frag) (tg : Expr) (J : It) (fp : List Addr) (it : Addr) (tn : Nat → Heap → Prop) : Prop where
  mem : it ∈ fp
  obj : ∀ i h, tn i h → ∀ b ∈ fp, ∃ o, h.get? b = some o ∧ ∀ v, o.data ≠ .cell v
  keep : ∀ i h h', tn i h → (∀ b ∈ fp, ∀ o, h.get? b = some o → h'.get? b = some o) → tn i h'
  item : ∀ (X : Cx), X.prog = P → X.w = w → X.K = K → X.calm = true → ∀ (i : Nat) (pins : List (Addr × Obj)) (s : Shared) (σ : St) (H : Hp) (E : Value → Shared → Prop), Inv X pins σ H s → (∀ b ∈ fp, FpOk X pins H b) → tn i s.heap → J.go i H →
    wpAny (model P w) X.A (pyNext (.ref it)) (fun r s1 => ∃ u, r = some u ∧
      wpAny (model P w) X.A (letOwnedTupleGo tg (.ref it) u) (fun _ s2 => ∃ x H', Inv X pins σ H' s2 ∧ RelV x u ∧ J.yld i H x H' ∧ tn (i + 1) s2.heap ∧ ∀ b ∈ fp, H' b = none) E s1) E s
  done : ∀ (X : Cx), X.prog = P → X.w = w → X.K = K → X.calm = true → ∀ (i : Nat) (pins : List (Addr × Obj)) (s : Shared) (σ : St) (H : Hp) (E : Value → Shared → Prop), Inv X pins σ H s → (∀ b ∈ fp, FpOk X pins H b) → tn i s.heap → J.stop i H →
    wpAny (model P w) X.A (pyNext (.ref it)) (fun r s1 => r = none ∧ Inv X pins σ H s1) E s
  self : ∀ (A : Around) (i : Nat) (s : Shared) (Q : Value → Shared → Prop) (E : Value → Shared → Prop), tn i s.heap → Q (.ref it) s → wpAny (model P w) A (pyIter (.ref it)) Q E s
abbrev TI := St → Hp → (It → Hp → Prop) → Prop
def PIE (X : Cx) (pins : List (Addr × Obj)) (σ : St) (tg : Expr) (R : It → Hp → Prop) (itv : Value) (s2 : Shared) : Prop :=
  ∃ (it : Addr) (fp : List Addr) (tn : Nat → Heap → Prop) (J : It) (H' : Hp), itv = .ref it ∧ Inv X pins σ H' s2 ∧ Turn X.prog X.w X.K tg J fp it tn ∧ tn 0 s2.heap ∧ (∀ b ∈ fp, FpOk X pins H' b) ∧ R J H'
def PI (X : Cx) (tg iter : Expr) (wi : TI) : Prop :=
  ∀ (pins : List (Addr × Obj)) (s : Shared) (σ : St) (H : Hp) (R : It → Hp → Prop), Inv X pins σ H s → wi σ H R →
    wpAny (model X.prog X.w) X.A (eval iter X.env) (fun v s1 => wpAny (model X.prog X.w) X.A (pyIter v) (PIE X pins σ tg R) X.xe s1) X.xe s
theorem go_of {M : Model} {A : Around} {E : Value → Shared → Prop} {s : Shared} {tg : Expr} {it : Addr} {u : Value} {o : Obj} {n : String} {vs : Array Value} {Q : Unit → Shared → Prop} (ho : s.heap.get? it = some o) (hc : o.cls = .type n) (hd : o.data = .fields vs)
    (hn : ["enumerate", "zip", "dict_itemiterator", "dict_reverseitemiterator", "odict_iterator", "itertools.zip_longest", "itertools.pairwise"].contains n = false) (hQ : Q () s) : wpAny M A (letOwnedTupleGo tg (.ref it) u) Q E s := by
  unfold letOwnedTupleGo
  cases tg <;> first
    | exact wpAny_pure hQ
    | (cases u <;> first
        | exact wpAny_pure hQ
        | (refine wpAny_bind (wpAny_load ho ?_)
           rw [hc, hd]
           show wpAny M A (if (["enumerate", "zip", "dict_itemiterator", "dict_reverseitemiterator", "odict_iterator", "itertools.zip_longest", "itertools.pairwise"].contains n && vs[0]? == some (rawInt _)) = true then _ else _) Q E s
           rw [if_neg (by intro h; rw [hn, Bool.false_and] at h; cases h)]
           exact wpAny_pure hQ))
def Itl (K : PySem.W.Frag) (a : Addr) : It :=
  ⟨fun i H => ∃ xs x, SqL K H a xs ∧ xs[i]? = some x, fun i H x H' => H' = H ∧ ∀ xs, SqL K H a xs → xs[i]? = some x, fun i H => ∃ xs, SqL K H a xs ∧ xs.length ≤ i⟩
def Itt (K : PySem.W.Frag) (a : Addr) : It :=
  ⟨fun i H => ∃ xs x, SqT K H a xs ∧ xs[i]? = some x, fun i H x H' => H' = H ∧ ∀ xs, SqT K H a xs → xs[i]? = some x, fun i H => ∃ xs, SqT K H a xs ∧ xs.length ≤ i⟩
def Itr (lo : Int) (n : Nat) : It := ⟨fun i _ => i < n, fun i H x H' => H' = H ∧ x = .int (lo + i), fun i _ => n ≤ i⟩
theorem turn_list {P : Program} {w : World} {K : PySem.W.Frag} {tg : Expr} (a it : Addr) : Turn P w K tg (Itl K a) [it] it (fun i h => h.IsListIter it a i) where
  mem := by simp
  obj := fun i h st b hb => by
    have e : b = it := by simpa using hb
    subst e
    obtain ⟨o, e, c, d⟩ := st
    exact ⟨o, e, fun v z => by rw [d] at z; cases z⟩
  keep := fun i h h' st k => st.at fun o e => k it (by simp) o e
  item := by
    intro X hP hw hK hc i pins s σ H E I hf st hg
    subst hP hw hK
    obtain ⟨xs, x, hq, hx⟩ := hg
    obtain ⟨its, rv, p, hz⟩ := I.list hq
    obtain ⟨u, hu, ru⟩ := rv.get hx
    obtain ⟨f0, f1, f2, f3, f4, f5⟩ := hf it (by simp)
    refine wpAny_pyNext_list_item st p.isList (x := u) (by simpa using hu) fun h' st' sb => ?_
    have I1 : Inv X pins σ H { s with heap := h' } := I.turned (t' := s.toks) (fun b o hb e => (sb.2 b hb).trans e) f0 f1 f3 f4 f5
    obtain ⟨o, e, c, d⟩ := id st'
    exact ⟨u, rfl, go_of (s := { s with heap := h' }) e c d (by decide) ⟨x, H, I1, ru, ⟨rfl, fun ys hy => by rw [I.list_inj hy hq]; exact hx⟩, st', fun b hb => (hf b hb).1⟩⟩
  done := by
    intro X hP hw hK hc i pins s σ H E I hf st hg
    subst hP hw hK
    obtain ⟨xs, hq, hx⟩ := hg
    obtain ⟨its, rv, p, hz⟩ := I.list hq
    obtain ⟨f0, f1, f2, f3, f4, f5⟩ := hf it (by simp)
    have hl := rv.length
    exact wpAny_pyNext_list_end (I.ok.hd hc) st p.isList (by simp; omega) fun h' eb => ⟨rfl, I.turned (t' := s.toks) (fun b o hb e => eb b o hb e) f0 f1 f3 f4 f5⟩
  self := fun _ _ _ _ _ st h => wpAny_pyIter_listiter st h
theorem turn_tuple {P : Program} {w : World} {K : PySem.W.Frag} {tg : Expr} (a it : Addr) : Turn P w K tg (Itt K a) [it] it (fun i h => h.IsTupleIter it a i) where
  mem := by simp
  obj := fun i h st b hb => by
    have e : b = it := by simpa using hb
    subst e
    obtain ⟨o, e, c, d⟩ := st
    exact ⟨o, e, fun v z => by rw [d] at z; cases z⟩
  keep := fun i h h' st k => st.at fun o e => k it (by simp) o e
  item := by
    intro X hP hw hK hc i pins s σ H E I hf st hg
    subst hP hw hK
    obtain ⟨xs, x, hq, hx⟩ := hg
    obtain ⟨its, rv, p, hz⟩ := I.tuple hq
    obtain ⟨u, hu, ru⟩ := rv.get hx
    obtain ⟨f0, f1, f2, f3, f4, f5⟩ := hf it (by simp)
    refine wpAny_pyNext_tuple_item st (show s.heap.IsTuple a its.toArray from p) (x := u) (by simpa using hu) fun h' st' sb => ?_
    have I1 : Inv X pins σ H { s with heap := h' } := I.turned (t' := s.toks) (fun b o hb e => (sb.2 b hb).trans e) f0 f1 f3 f4 f5
    obtain ⟨o, e, c, d⟩ := id st'
    exact ⟨u, rfl, go_of (s := { s with heap := h' }) e c d (by decide) ⟨x, H, I1, ru, ⟨rfl, fun ys hy => by rw [I.tuple_inj hy hq]; exact hx⟩, st', fun b hb => (hf b hb).1⟩⟩
  done := by
    intro X hP hw hK hc i pins s σ H E I hf st hg
    subst hP hw hK
    obtain ⟨xs, hq, hx⟩ := hg
    obtain ⟨its, rv, p, hz⟩ := I.tuple hq
    obtain ⟨f0, f1, f2, f3, f4, f5⟩ := hf it (by simp)
    have hl := rv.length
    exact wpAny_pyNext_tuple_end (I.ok.hd hc) st (show s.heap.IsTuple a its.toArray from p) (by simp; omega) fun h' eb => ⟨rfl, I.turned (t' := s.toks) (fun b o hb e => eb b o hb e) f0 f1 f3 f4 f5⟩
  self := fun _ _ _ _ _ st h => wpAny_pyIter_tupleiter st h
theorem turn_range {P : Program} {w : World} {K : PySem.W.Frag} {tg : Expr} (it : Addr) (lo : Int) (n : Nat) : Turn P w K tg (Itr lo n) [it] it (fun i h => IsRangeIter h it (lo + (i : Nat) * 1) ((n : Int) - (i : Nat)) 1) where
  mem := by simp
  obj := fun i h st b hb => by
    have e : b = it := by simpa using hb
    subst e
    exact ⟨_, st, fun v z => by
      have z' : Data.fields _ = Data.cell v := z
      cases z'⟩
  keep := fun i h h' st k => k it (by simp) _ st
  item := by
    intro X hP hw hK hc i pins s σ H E I hf st hg
    subst hP hw hK
    obtain ⟨f0, f1, f2, f3, f4, f5⟩ := hf it (by simp)
    have W := Walks.range (prog := X.prog) (w := X.w) (I.ok.hd hc) it lo 1 n
    refine W.item i s _ _ hg st fun v h' tk hv st' kk => ?_
    obtain ⟨t, rfl⟩ := hv
    have I1 : Inv X pins σ H { s with heap := h', toks := tk } := I.turned (fun b o hb e => kk b o (by simpa using hb) e) f0 f1 f3 f4 f5
    refine ⟨_, rfl, go_of (s := { s with heap := h', toks := tk }) (n := "range_iterator") st' rfl rfl (by decide) ⟨.int (lo + i), H, I1, ⟨t, ?_⟩, ⟨rfl, rfl⟩, st', fun b hb => (hf b hb).1⟩⟩
    rw [Int.mul_one]
  done := by
    intro X hP hw hK hc i pins s σ H E I hf st hg
    subst hP hw hK
    obtain ⟨f0, f1, f2, f3, f4, f5⟩ := hf it (by simp)
    exact wpAny_pyNext_range_end (I.ok.hd hc) st (by have : n ≤ i := hg; omega) fun h' eb => ⟨rfl, I.turned (t' := s.toks) (fun b o hb e => eb b o hb e) f0 f1 f3 f4 f5⟩
  self := fun _ _ _ _ _ st h => wpAny_pyIter_rangeiter st h
end L2
namespace L2
open PySem PySem.Spec PyProof.Rows
section
variable {X : Cx} {tg : Expr}
def iList (K : PySem.W.Frag) (tl : TE) : TI := fun σ H R => tl σ H fun x H1 => ∃ a, x = .ref a ∧ (∃ xs, SqL K H1 a xs) ∧ R (Itl K a) H1
def iTup (K : PySem.W.Frag) (tl : TE) : TI := fun σ H R => tl σ H fun x H1 => ∃ a, x = .ref a ∧ (∃ xs, SqT K H1 a xs) ∧ R (Itt K a) H1
theorem pi_list {l : Expr} {tl : TE} (hl : PE X l tl) : PI X tg l (iList X.K tl) := by
  intro pins s σ H R I h
  refine thn (hl pins s σ H _ I h) fun v s1 ⟨x, H1, I1, r1, q1⟩ => ?_
  obtain ⟨a, e, ⟨xs, hq⟩, q⟩ := q1
  subst e
  cases r1
  obtain ⟨its, rv, p, hz⟩ := I1.list hq
  refine wpAny_pyIter_list p.isList ?_
  refine ⟨s1.heap.objs.size, [s1.heap.objs.size], _, _, H1, rfl, I1.kept (t' := s1.toks) fun b o e => Heap.get?_push_of_some _ e, turn_list a _, ⟨_, Heap.get?_push_size _ rfl, rfl, rfl⟩, fun b hb => ?_, q⟩
  have e : b = s1.heap.objs.size := by simpa using hb
  subst e
  exact I1.fpOk (Nat.le_refl _) (I1.hok.fresh (Nat.le_refl _))
theorem pi_tup {l : Expr} {tl : TE} (hl : PE X l tl) : PI X tg l (iTup X.K tl) := by
  intro pins s σ H R I h
  refine thn (hl pins s σ H _ I h) fun v s1 ⟨x, H1, I1, r1, q1⟩ => ?_
  obtain ⟨a, e, ⟨xs, hq⟩, q⟩ := q1
  subst e
  cases r1
  obtain ⟨its, rv, p, hz⟩ := I1.tuple hq
  refine wpAny_pyIter_tuple (show s1.heap.IsTuple a its.toArray from p) ?_
  refine ⟨s1.heap.objs.size, [s1.heap.objs.size], _, _, H1, rfl, I1.kept (t' := s1.toks) fun b o e => Heap.get?_push_of_some _ e, turn_tuple a _, ⟨_, Heap.get?_push_size _ rfl, rfl, rfl⟩, fun b hb => ?_, q⟩
  have e : b = s1.heap.objs.size := by simpa using hb
  subst e
  exact I1.fpOk (Nat.le_refl _) (I1.hok.fresh (Nat.le_refl _))
theorem range_it {pins : List (Addr × Obj)} {σ : St} {H : Hp} {s : Shared} {R : It → Hp → Prop} {E : Value → Shared → Prop} {lo hi : Int} {t u v : Tok} {tk : Nat} (I : Inv X pins σ H s) (h1 : -(2 ^ 62) ≤ lo) (h2 : lo < 2 ^ 62) (h3 : -(2 ^ 62) ≤ hi) (h4 : hi < 2 ^ 62)
    (q : R (Itr lo (hi - lo).toNat) H) : wpAny (model X.prog X.w) X.A (pyIter (.ref s.heap.objs.size)) (PIE X pins σ tg R) E { s with heap := s.heap.push { cls := .type "range", data := .fields #[.int lo t, .int hi u, .int 1 v] }, toks := tk } := by
  refine wpAny_pyIter_range (IsRange.new ..) (small_one h1 h2 h3 h4) ?_
  have I1 : Inv X pins σ H { s with heap := s.heap.push { cls := .type "range", data := .fields #[.int lo t, .int hi u, .int 1 v] }, toks := tk } := I.kept fun b o e => Heap.get?_push_of_some _ e
  refine ⟨(s.heap.push { cls := .type "range", data := .fields #[.int lo t, .int hi u, .int 1 v] }).objs.size, [(s.heap.push { cls := .type "range", data := .fields #[.int lo t, .int hi u, .int 1 v] }).objs.size], _, _, H, rfl,
    I1.kept (t' := tk) fun b o e => Heap.get?_push_of_some _ e, turn_range _ lo (hi - lo).toNat, ?_, fun b hb => ?_, q⟩
  · have e1 : lo + ((0 : Nat) : Int) * 1 = lo := by simp
    have e2 : (((hi - lo).toNat : Nat) : Int) - ((0 : Nat) : Int) = Builtin.Range.rangeSize lo hi 1 := by rw [rangeSize_one]; split <;> omega
    show IsRangeIter _ _ (lo + ((0 : Nat) : Int) * 1) ((((hi - lo).toNat : Nat) : Int) - ((0 : Nat) : Int)) 1
    rw [e1, e2]
    exact Heap.get?_push_size _ rfl
  · have e : b = (s.heap.push { cls := .type "range", data := .fields #[.int lo t, .int hi u, .int 1 v] }).objs.size := by simpa using hb
    subst e
    exact I1.fpOk (Nat.le_refl _) (I1.hok.fresh (Nat.le_refl _))
def iRng1 (ta : TA) : TI := fun σ H R => ta σ H fun vs H1 => ∃ j : Int, vs = [.int j] ∧ -(2 ^ 62) ≤ j ∧ j < 2 ^ 62 ∧ R (Itr 0 j.toNat) H1
def iRng2 (ta : TA) : TI := fun σ H R => ta σ H fun vs H1 => ∃ i j : Int, vs = [.int i, .int j] ∧ (-(2 ^ 62) ≤ i ∧ i < 2 ^ 62 ∧ -(2 ^ 62) ≤ j ∧ j < 2 ^ 62) ∧ R (Itr i (j - i).toNat) H1
theorem pi_range1 {a : Expr} {ta : TA} {p pos : Pos} (hg : Gl X "range") (hm : X.mg "range" = none) (ha : PA X [a] ta) (hs : starEach [a] X.env = [(false, eval a X.env)] := by rfl) : PI X tg (.Call (.Name "range" p) [a] [] pos) (iRng1 ta) := by
  intro pins s σ H R I h
  refine Call_ (ld_blt I hg hm boot_range (PyProof.Rows.callWith_type1 (thn (ha pos pins s σ H _ I h) fun us s1 ⟨vs, H1, I1, r1, q1⟩ => ?_) hs rfl))
  obtain ⟨j, e, q1, q2, q⟩ := q1
  subst e
  cases r1 with
  | cons r rr =>
    cases rr
    obtain ⟨t, rfl⟩ := r
    exact call_range_1 (range_it I1 (by omega) (by omega) q1 q2 (by simpa using q))
theorem pi_range2 {a b : Expr} {ta : TA} {p pos : Pos} (hg : Gl X "range") (hm : X.mg "range" = none) (ha : PA X [a, b] ta) (hs : starEach [a, b] X.env = [(false, eval a X.env), (false, eval b X.env)] := by rfl) (hs2 : starEach [b] X.env = [(false, eval b X.env)] := by rfl) :
    PI X tg (.Call (.Name "range" p) [a, b] [] pos) (iRng2 ta) := by
  intro pins s σ H R I h
  refine Call_ (ld_blt I hg hm boot_range (PyProof.Rows.callWith_type1 (thn (ha pos pins s σ H _ I h) fun us s1 ⟨vs, H1, I1, r1, q1⟩ => ?_) (by rw [hs, hs2]) (by rw [hs2]; rfl)))
  obtain ⟨i, j, e, ⟨q1, q2, q3, q4⟩, q⟩ := q1
  subst e
  cases r1 with
  | cons r rr =>
    cases rr with
    | cons r' rr =>
      cases rr
      obtain ⟨t, rfl⟩ := r
      obtain ⟨t', rfl⟩ := r'
      exact call_range_2 (range_it I1 q1 q2 q3 q4 q)
def tFor (wi : TI) (g : TG) (tb : TS) : TS := fun D σ H => wi σ H fun J H1 => ∃ W : Nat → Nat → St → Hp → Prop, (∃ m, W 0 m σ H1) ∧ ∀ i m σ H, W i m σ H →
  (J.stop i H ∧ D.nx σ H) ∨ (J.go i H ∧ ∃ N : St → Hp → Prop, (∀ σ' H', N σ' H' → ∃ m', m' < m ∧ W (i + 1) m' σ' H') ∧ ∀ x H', J.yld i H x H' → g x σ H' fun σ2 H2 => tb { D with nx := N, ct := N, bk := D.nx } σ2 H2)
def pinsAt (fp : List Addr) (h : Heap) : List (Addr × Obj) := fp.filterMap fun b => (h.get? b).map fun o => (b, o)
theorem mem_pinsAt {fp : List Addr} {h : Heap} {b : Addr} {o : Obj} (hb : b ∈ fp) (e : h.get? b = some o) : (b, o) ∈ pinsAt fp h := List.mem_filterMap.mpr ⟨b, hb, by rw [e]; rfl⟩
theorem of_pinsAt {fp : List Addr} {h : Heap} {p : Addr × Obj} (hp : p ∈ pinsAt fp h) : p.1 ∈ fp ∧ h.get? p.1 = some p.2 := by
  obtain ⟨b, hb, e⟩ := List.mem_filterMap.mp hp
  cases q : h.get? b with
  | none => rw [q] at e; cases e
  | some o =>
    rw [q] at e
    have e' : (b, o) = p := Option.some.inj e
    subst e'
    exact ⟨hb, q⟩
theorem Inv.pinned {pins : List (Addr × Obj)} {σ : St} {H : Hp} {s : Shared} {fp : List Addr} (I : Inv X pins σ H s) (hf : ∀ b ∈ fp, FpOk X pins H b) (ho : ∀ b ∈ fp, ∃ o, s.heap.get? b = some o ∧ ∀ v, o.data ≠ .cell v) : Inv X (pins ++ pinsAt fp s.heap) σ H s :=
  I.pins_of fun p hp => (List.mem_append.mp hp).elim (fun z => I.pin p (List.mem_append_right _ z)) fun z => by
    obtain ⟨hb, e⟩ := of_pinsAt z
    obtain ⟨f0, f1, f2, _⟩ := hf p.1 hb
    obtain ⟨o, e', d⟩ := ho p.1 hb
    rw [e] at e'; cases e'
    exact ⟨e, f0, f1, f2, d⟩
theorem Inv.unpinned {pins pl : List (Addr × Obj)} {σ : St} {H : Hp} {s : Shared} (I : Inv X (pins ++ pl) σ H s) : Inv X pins σ H s := I.pins_of fun p hp => I.pin p (List.mem_append_right _ (List.mem_append_left _ hp))
theorem ps_for {iter : Expr} {body : List Stmt} {wi : TI} {g : TG} {tb : TS} {pos : Pos} (hp : PassesOwn (model X.prog X.w) X.A X.env X.xe) (hc : X.calm = true) (hi : PI X tg iter wi) (hg : PG X tg g) (hb : PSs X body tb)
    (hs : ∀ x, foldedSetIterable iter X.env x = pure x := by intro _; rfl) : PS X (.For tg iter body [] pos) (tFor wi g tb) := by
  intro pins s σ H D I h
  refine wpAny_For (thn (hi pins s σ H _ I h) fun v s1 h1 => thn h1 fun itv s2 h2 => ?_) hs
  obtain ⟨it, fp, tn, J, H2, e, I2, T, st2, f2, W, ⟨m0, w0⟩, turn⟩ := h2
  subst e
  -- what stays true of the iterator's objects through the loop
  have stat : ∀ {H' : Hp}, (∀ b ∈ fp, H' b = none) → ∀ b ∈ fp, FpOk X pins H' b := fun hn b hb => ⟨hn b hb, (f2 b hb).2⟩
  refine codeAny_forLoop_any (fun n s' => ∃ i σ' H', Inv X pins σ' H' s' ∧ tn i s'.heap ∧ (∀ b ∈ fp, H' b = none) ∧ W i n σ' H') ?_ m0 ⟨0, σ, H2, I2, st2, fun b hb => (f2 b hb).1, w0⟩
  rintro n s3 ⟨i, σ3, H3, I3, st3, fr3, w3⟩
  rcases turn i n σ3 H3 w3 with ⟨stop, qn⟩ | ⟨go, N, hN, step⟩
  · refine wpAny_passesOwn hp (thn (T.done X rfl rfl rfl hc i pins s3 σ3 H3 X.xe I3 (stat fr3) st3 stop) fun r s4 ⟨hr, I4⟩ => ?_)
    subst hr
    exact wpAny_execs_nil ⟨σ3, H3, I4, qn⟩
  · refine wpAny_passesOwn hp (thn (T.item X rfl rfl rfl hc i pins s3 σ3 H3 X.xe I3 (stat fr3) st3 go) fun r s4 ⟨u, hr, h4⟩ => ?_)
    subst hr
    refine wpAny_passesOwn hp (thn h4 fun _ s5 ⟨x, H5, I5, r5, y5, st5, fr5⟩ => ?_)
    have I5' := I5.pinned (stat fr5) (T.obj _ _ st5)
    refine wpAny_passesOwn hp (thn (hg _ s5 σ3 H5 x u _ I5' r5 (step x H5 y5)) fun _ s6 ⟨σ6, H6, I6, q6⟩ => ?_)
    refine wpAny_passesOwn hp (thn (hb _ s6 σ6 H6 _ I6 q6) fun f s7 q7 => ?_)
    have again : ∀ {σ7 : St} {H7 : Hp}, Inv X (pins ++ pinsAt fp s5.heap) σ7 H7 s7 → N σ7 H7 → ∃ m, m < n ∧ ∃ i σ' H', Inv X pins σ' H' s7 ∧ tn i s7.heap ∧ (∀ b ∈ fp, H' b = none) ∧ W i m σ' H' := fun {σ7 H7} I7 n7 => by
      obtain ⟨m', hm, w7⟩ := hN σ7 H7 n7
      refine ⟨m', hm, i + 1, σ7, H7, I7.unpinned, T.keep _ _ _ st5 fun b hb o e => (I7.pin (b, o) (List.mem_append_right _ (List.mem_append_right _ (mem_pinsAt hb e)))).1, fun b hb => ?_, w7⟩
      obtain ⟨o, e, d⟩ := T.obj _ _ st5 b hb
      exact (I7.pin (b, o) (List.mem_append_right _ (List.mem_append_right _ (mem_pinsAt hb e)))).2.1
    cases f with
    | next => obtain ⟨σ7, H7, I7, n7⟩ := q7; exact again I7 n7
    | cont => obtain ⟨σ7, H7, I7, n7⟩ := q7; exact again I7 n7
    | brk => obtain ⟨σ7, H7, I7, q7⟩ := q7; exact ⟨σ7, H7, I7.unpinned, q7⟩
    | ret v => obtain ⟨x7, σ7, H7, I7, r7, q7⟩ := q7; exact ⟨x7, σ7, H7, I7.unpinned, r7, q7⟩
end
end L2
namespace L2
open PySem PySem.Spec PyProof.Rows
abbrev R2 := V → V → Hp → VK → Prop
def OpR (X : Cx) (f : Value → Value → Sem Value) (r : R2) : Prop :=
  ∀ (pins : List (Addr × Obj)) (s : Shared) (σ : St) (H : Hp) (x y : V) (v u : Value) (Q : VK), Inv X pins σ H s → RelV x v → RelV y u → r x y H Q →
    wpAny (model X.prog X.w) X.A (f v u) (EP X pins σ Q) X.xe s
def UnR (X : Cx) (f : Value → Sem Value) (r : V → Hp → VK → Prop) : Prop :=
  ∀ (pins : List (Addr × Obj)) (s : Shared) (σ : St) (H : Hp) (x : V) (v : Value) (Q : VK), Inv X pins σ H s → RelV x v → r x H Q →
    wpAny (model X.prog X.w) X.A (f v) (EP X pins σ Q) X.xe s
def CallR (X : Cx) (f : Value) (r : List V → Hp → VK → Prop) : Prop :=
  ∀ (pins : List (Addr × Obj)) (s : Shared) (σ : St) (H : Hp) (xs : List V) (us : List Value) (Q : VK), Inv X pins σ H s → Vals xs us → r xs H Q →
    wpAny (model X.prog X.w) X.A (call f us) (EP X pins σ Q) X.xe s
def TruR (X : Cx) (r : V → Hp → (Bool → Hp → Prop) → Prop) : Prop :=
  ∀ (pins : List (Addr × Obj)) (s : Shared) (σ : St) (H : Hp) (x : V) (v : Value) (Q : Bool → Hp → Prop), Inv X pins σ H s → RelV x v → r x H Q →
    wpAny (model X.prog X.w) X.A (truthy v) (TP X pins σ Q) X.xe s
def tOp (r : R2) (ta tb : TE) : TE := fun σ H Q => ta σ H fun x H1 => tb σ H1 fun y H2 => r x y H2 Q
def tUn (r : V → Hp → VK → Prop) (ta : TE) : TE := fun σ H Q => ta σ H fun x H1 => r x H1 Q
def rI (C : Int → Int → Prop) (g : Int → Int → V) : R2 := fun x y H Q => ∃ i j, x = .int i ∧ y = .int j ∧ C i j ∧ Q (g i j) H
def rI0 (g : Int → Int → V) : R2 := fun x y H Q => ∃ i j, x = .int i ∧ y = .int j ∧ Q (g i j) H
def rU (g : Int → V) : V → Hp → VK → Prop := fun x H Q => ∃ i, x = .int i ∧ Q (g i) H
section
variable {X : Cx} {a b c : Expr} {ta tb tc : TE} {pos : Pos}
theorem binT (ha : PE X a ta) (hb : PE X b tb) {pins : List (Addr × Obj)} {s : Shared} {σ : St} {H : Hp} {R : V → V → Hp → Prop} (I : Inv X pins σ H s)
    (h : ta σ H fun x H1 => tb σ H1 fun y H2 => R x y H2) {Q : Value → Shared → Prop} {f : Value → Value → Sem Value}
    (hf : ∀ v u s2 x y H2, Inv X pins σ H2 s2 → RelV x v → RelV y u → R x y H2 → wpAny (model X.prog X.w) X.A (f v u) Q X.xe s2) :
    wpAny (model X.prog X.w) X.A (eval a X.env) (fun v s₁ => wpAny (model X.prog X.w) X.A (eval b X.env) (fun u s₂ => wpAny (model X.prog X.w) X.A (f v u) Q X.xe s₂) X.xe s₁) X.xe s := by
  refine thn (ha pins s σ H _ I h) fun v s1 ⟨x, H1, I1, r1, q1⟩ => ?_
  refine thn (hb pins s1 σ H1 _ I1 q1) fun u s2 ⟨y, H2, I2, r2, q2⟩ => ?_
  exact hf v u s2 x y H2 I2 r1 r2 q2
theorem pe_op {op : Operator} {r : R2} (ho : OpR X (binaryOp op) r) (ha : PE X a ta) (hb : PE X b tb) : PE X (.BinOp a op b pos) (tOp r ta tb) := by
  intro pins s σ H Q I h
  exact wpAny_BinOp (binT ha hb I h fun v u s2 x y H2 I2 rx ry q => ho pins s2 σ H2 x y v u Q I2 rx ry q)
theorem pe_un {op : UnaryOp} {r : V → Hp → VK → Prop} (ho : UnR X (unaryOp op) r) (ha : PE X a ta) : PE X (.UnaryOp op a pos) (tUn r ta) := by
  intro pins s σ H Q I h
  exact UnaryOp_ (thn (ha pins s σ H _ I h) fun v s1 ⟨x, H1, I1, r1, q1⟩ => ho pins s1 σ H1 x v Q I1 r1 q1)
theorem opI {f : Value → Value → Sem Value} {C : Int → Int → Prop} {g : Int → Int → Int}
    (rule : ∀ (i j : Int) (t u : Tok) (s : Shared) (Q : Value → Shared → Prop) (E : Value → Shared → Prop), C i j → Q (.int (g i j) s.toks) { s with toks := s.toks + 1 } → wpAny (model X.prog X.w) X.A (f (.int i t) (.int j u)) Q E s) :
    OpR X f (rI C fun i j => .int (g i j)) := by
  intro pins s σ H x y v u Q I rx ry h
  obtain ⟨i, j, rfl, rfl, hc, q⟩ := h
  obtain ⟨t, rfl⟩ := rx
  obtain ⟨t', rfl⟩ := ry
  exact rule i j t t' s _ _ hc ⟨.int (g i j), H, I.tok _, ⟨_, rfl⟩, q⟩
theorem opI0 {f : Value → Value → Sem Value} {g : Int → Int → Int}
    (rule : ∀ (i j : Int) (t u : Tok) (s : Shared) (Q : Value → Shared → Prop) (E : Value → Shared → Prop), Q (.int (g i j) s.toks) { s with toks := s.toks + 1 } → wpAny (model X.prog X.w) X.A (f (.int i t) (.int j u)) Q E s) :
    OpR X f (rI0 fun i j => .int (g i j)) := by
  intro pins s σ H x y v u Q I rx ry h
  obtain ⟨i, j, rfl, rfl, q⟩ := h
  obtain ⟨t, rfl⟩ := rx
  obtain ⟨t', rfl⟩ := ry
  exact rule i j t t' s _ _ ⟨.int (g i j), H, I.tok _, ⟨_, rfl⟩, q⟩
theorem opB0 {f : Value → Value → Sem Value} {g : Int → Int → Bool}
    (rule : ∀ (i j : Int) (t u : Tok) (s : Shared) (Q : Value → Shared → Prop) (E : Value → Shared → Prop), Q (.bool (g i j)) s → wpAny (model X.prog X.w) X.A (f (.int i t) (.int j u)) Q E s) :
    OpR X f (rI0 fun i j => .bl (g i j)) := by
  intro pins s σ H x y v u Q I rx ry h
  obtain ⟨i, j, rfl, rfl, q⟩ := h
  obtain ⟨t, rfl⟩ := rx
  obtain ⟨t', rfl⟩ := ry
  exact rule i j t t' s _ _ ⟨.bl (g i j), H, I, rfl, q⟩
def CDiv (i j : Int) : Prop := 0 < j ∧ j < 1073741824
def CPow (i j : Int) : Prop := 0 ≤ j ∧ j ≤ 1000000 ∧ i.natAbs < 2 ^ 64
theorem two_pow_nn (k : Nat) : (0 : Int) ≤ 2 ^ k := by
  rw [two_pow_cast]
  exact Int.natCast_nonneg _
theorem op_add : OpR X (binaryOp .Add) (rI0 fun i j => .int (i + j)) := opI0 fun _ _ _ _ _ _ _ q => add_int q
theorem op_sub : OpR X (binaryOp .Sub) (rI0 fun i j => .int (i - j)) := opI0 fun _ _ _ _ _ _ _ q => sub_int q
theorem op_fdiv : OpR X (binaryOp .FloorDiv) (rI CDiv fun i j => .int (i / j)) := opI fun i j _ _ _ _ _ hc q => by
  have h1 : (0 : Int) < j := hc.1
  have h2 : j < 1073741824 := hc.2
  exact floordiv_int (by omega) (by rw [Int.fdiv_eq_ediv_of_nonneg i (by omega)]; exact q) (.inl (PyProof.noPylong_small (by omega)))
theorem op_mod : OpR X (binaryOp .Mod) (rI (fun _ j => 0 < j) fun i j => .int (i % j)) := opI fun i j _ _ _ _ _ hc q => by
  have h1 : (0 : Int) < j := hc
  exact mod_int' (by omega) (by rw [Int.fmod_eq_emod_of_nonneg i (by omega)]; exact q)
theorem op_shl : OpR X (binaryOp .LShift) (rI CPow fun i j => .int (i * 2 ^ j.toNat)) := opI fun _ _ _ _ _ _ _ hc q => lshift_int_small hc.1 hc.2.1 hc.2.2 q
theorem op_shr : OpR X (binaryOp .RShift) (rI (fun _ j => 0 ≤ j) fun i j => .int (i / 2 ^ j.toNat)) := opI fun i j _ _ _ _ _ hc q =>
  rshift_int hc (by rw [Int.fdiv_eq_ediv_of_nonneg i (two_pow_nn _)]; exact q)
theorem op_and : OpR X (binaryOp .BitAnd) (rI0 fun i j => .int (Builtin.bitAnd i j)) := opI0 fun _ _ _ _ _ _ _ q => and_int q
theorem unI {f : Value → Sem Value} {g : Int → Int}
    (rule : ∀ (i : Int) (t : Tok) (s : Shared) (Q : Value → Shared → Prop) (E : Value → Shared → Prop), Q (.int (g i) s.toks) { s with toks := s.toks + 1 } → wpAny (model X.prog X.w) X.A (f (.int i t)) Q E s) :
    UnR X f (rU fun i => .int (g i)) := by
  intro pins s σ H x v Q I rx h
  obtain ⟨i, rfl, q⟩ := h
  obtain ⟨t, rfl⟩ := rx
  exact rule i t s _ _ ⟨.int (g i), H, I.tok _, ⟨_, rfl⟩, q⟩
theorem un_neg : UnR X (unaryOp .USub) (rU fun i => .int (-i)) := unI fun _ _ _ _ _ q => neg_int q
end
def scal : V → V → Bool
  | .non, .non => true | .non, .int _ => true | .int _, .non => true | .non, .bl _ => true | .bl _, .non => true | .non, .str _ => true | .str _, .non => true
  | .int _, .int _ => true | .bl _, .bl _ => true | .str _, .str _ => true | .byt _, .byt _ => true
  | .int _, .str _ => true | .str _, .int _ => true | .bl _, .str _ => true | .str _, .bl _ => true
  | _, _ => false
def rEq : R2 := fun x y H Q => scal x y = true ∧ Q (.bl (decide (x = y))) H
def rNe : R2 := fun x y H Q => scal x y = true ∧ Q (.bl (!decide (x = y))) H
theorem dec_int {i j : Int} : decide (V.int i = V.int j) = (i == j) := by
  rw [Bool.eq_iff_iff]
  simp
theorem dec_bl {i j : Bool} : decide (V.bl i = V.bl j) = (i == j) := by
  rw [Bool.eq_iff_iff]
  simp
theorem dec_str {i j : Str} : decide (V.str i = V.str j) = (i == j) := by
  rw [Bool.eq_iff_iff]
  simp
theorem dec_byt {i j : Array UInt8} : decide (V.byt i = V.byt j) = (i.toList == j.toList) := by
  rw [Bool.eq_iff_iff]
  cases i
  cases j
  simp
section
variable {X : Cx} {a b c : Expr} {ta tb tc : TE} {pos : Pos}
theorem fin_bl {pins : List (Addr × Obj)} {σ : St} {H : Hp} {s : Shared} {Q : VK} {k k' : Bool} (I : Inv X pins σ H s) (q : Q (.bl k) H) (e : k = k') : EP X pins σ Q (.bool k') s := by
  subst e
  exact ⟨.bl k, H, I, rfl, q⟩
theorem op_eq : OpR X (compareOp .Eq) rEq := by
  intro pins s σ H x y v u Q I rx ry h
  obtain ⟨hs, q⟩ := h
  cases x with
  | non =>
    cases rx
    cases y with
    | non => cases ry; exact PySem.EqNone.eq_none_none (fin_bl I q (by simp))
    | bl j => cases ry; exact PySem.EqNone.eq_none_bool (fin_bl I q (by simp))
    | int j => obtain ⟨t', rfl⟩ := ry; exact PySem.EqNone.eq_none_int (fin_bl I q (by simp))
    | str j => obtain ⟨t', rfl⟩ := ry; exact PySem.EqNone.eq_none_str (fin_bl I q (by simp))
    | _ => exact absurd (show false = true from hs) Bool.false_ne_true
  | bl i =>
    cases rx
    cases y with
    | non => cases ry; exact PySem.EqNone.eq_bool_none (fin_bl I q (by simp))
    | bl j => cases ry; exact eq_bool (fin_bl I q dec_bl)
    | str j => obtain ⟨t', rfl⟩ := ry; exact PySem.EqMixed.eq_bool_str (fin_bl I q (by simp))
    | _ => exact absurd (show false = true from hs) Bool.false_ne_true
  | int i =>
    obtain ⟨t, rfl⟩ := rx
    cases y with
    | non => cases ry; exact PySem.EqNone.eq_int_none (fin_bl I q (by simp))
    | int j => obtain ⟨t', rfl⟩ := ry; exact eq_int (fin_bl I q dec_int)
    | str j => obtain ⟨t', rfl⟩ := ry; exact PySem.EqMixed.eq_int_str (fin_bl I q (by simp))
    | _ => exact absurd (show false = true from hs) Bool.false_ne_true
  | str i =>
    obtain ⟨t, rfl⟩ := rx
    cases y with
    | non => cases ry; exact PySem.EqNone.eq_str_none (fin_bl I q (by simp))
    | bl j => cases ry; exact PySem.EqMixed.eq_str_bool (fin_bl I q (by simp))
    | int j => obtain ⟨t', rfl⟩ := ry; exact PySem.EqMixed.eq_str_int (fin_bl I q (by simp))
    | str j => obtain ⟨t', rfl⟩ := ry; exact eq_str (fin_bl I q dec_str)
    | _ => exact absurd (show false = true from hs) Bool.false_ne_true
  | byt i =>
    obtain ⟨t, rfl⟩ := rx
    cases y with
    | byt j => obtain ⟨t', rfl⟩ := ry; exact PySem.W.eq_bytes (fin_bl I q dec_byt)
    | _ => exact absurd (show false = true from hs) Bool.false_ne_true
  | _ => cases y <;> exact absurd (show false = true from hs) Bool.false_ne_true
theorem op_ne : OpR X (compareOp .NotEq) rNe := by
  intro pins s σ H x y v u Q I rx ry h
  obtain ⟨hs, q⟩ := h
  cases x with
  | non =>
    cases rx
    cases y with
    | non => cases ry; exact PySem.EqNone.ne_none_none (fin_bl I q (by simp))
    | bl j => cases ry; exact PySem.EqNone.ne_none_bool (fin_bl I q (by simp))
    | int j => obtain ⟨t', rfl⟩ := ry; exact PySem.EqNone.ne_none_int (fin_bl I q (by simp))
    | str j => obtain ⟨t', rfl⟩ := ry; exact PySem.EqNone.ne_none_str (fin_bl I q (by simp))
    | _ => exact absurd (show false = true from hs) Bool.false_ne_true
  | bl i =>
    cases rx
    cases y with
    | non => cases ry; exact PySem.EqNone.ne_bool_none (fin_bl I q (by simp))
    | bl j => cases ry; exact ne_bool (fin_bl I q (congrArg not dec_bl))
    | str j => obtain ⟨t', rfl⟩ := ry; exact PySem.EqMixed.ne_bool_str (fin_bl I q (by simp))
    | _ => exact absurd (show false = true from hs) Bool.false_ne_true
  | int i =>
    obtain ⟨t, rfl⟩ := rx
    cases y with
    | non => cases ry; exact PySem.EqNone.ne_int_none (fin_bl I q (by simp))
    | int j => obtain ⟨t', rfl⟩ := ry; exact ne_int (fin_bl I q (congrArg not dec_int))
    | str j => obtain ⟨t', rfl⟩ := ry; exact PySem.EqMixed.ne_int_str (fin_bl I q (by simp))
    | _ => exact absurd (show false = true from hs) Bool.false_ne_true
  | str i =>
    obtain ⟨t, rfl⟩ := rx
    cases y with
    | non => cases ry; exact PySem.EqNone.ne_str_none (fin_bl I q (by simp))
    | bl j => cases ry; exact PySem.EqMixed.ne_str_bool (fin_bl I q (by simp))
    | int j => obtain ⟨t', rfl⟩ := ry; exact PySem.EqMixed.ne_str_int (fin_bl I q (by simp))
    | str j => obtain ⟨t', rfl⟩ := ry; exact ne_str (fin_bl I q (congrArg not dec_str))
    | _ => exact absurd (show false = true from hs) Bool.false_ne_true
  | byt i =>
    obtain ⟨t, rfl⟩ := rx
    cases y with
    | byt j => obtain ⟨t', rfl⟩ := ry; exact PySem.W.ne_bytes (fin_bl I q (congrArg not dec_byt))
    | _ => exact absurd (show false = true from hs) Bool.false_ne_true
  | _ => cases y <;> exact absurd (show false = true from hs) Bool.false_ne_true
theorem op_lt : OpR X (compareOp .Lt) (rI0 fun i j => .bl (decide (i < j))) := opB0 fun _ _ _ _ _ _ _ q => lt_int q
theorem op_gt : OpR X (compareOp .Gt) (rI0 fun i j => .bl (decide (j < i))) := opB0 fun _ _ _ _ _ _ _ q => gt_int q
theorem OpR.or {f : Value → Value → Sem Value} {r r' : R2} (h : OpR X f r) (h' : OpR X f r') : OpR X f (fun x y H Q => r x y H Q ∨ r' x y H Q) := by
  intro pins s σ H x y v u Q I rx ry q
  rcases q with q | q
  · exact h pins s σ H x y v u Q I rx ry q
  · exact h' pins s σ H x y v u Q I rx ry q
theorem nomark (b : Expr) {op : CmpOp} (h : op ≠ .In := by decide) (h2 : op ≠ .NotIn := by decide) : behindInMarks op b = false := by
  have e1 : (op == CmpOp.In) = false := by cases op <;> first | rfl | exact absurd rfl h
  have e2 : (op == CmpOp.NotIn) = false := by cases op <;> first | rfl | exact absurd rfl h2
  cases b <;> simp [behindInMarks, e1, e2]
theorem pe_cmpR {op : CmpOp} {r : R2} (ho : OpR X (compareOp op) r) (ha : PE X a ta) (hb : PE X b tb) (hm : behindInMarks op b = false) : PE X (.Compare a [op] [b] pos) (tOp r ta tb) := by
  intro pins s σ H Q I h
  exact wpAny_Compare1 (binT ha hb I h fun v u s2 x y H2 I2 rx ry q => ho pins s2 σ H2 x y v u Q I2 rx ry q) hm
def tTest (t : TE) : TT := fun σ H Q => t σ H fun x H' => ∃ k, x = .bl k ∧ Q k H'
theorem pt_cmpR {op : CmpOp} {r : R2} (ho : OpR X (compareOp op) r) (ha : PE X a ta) (hb : PE X b tb) (hm : behindInMarks op b = false) : PT X (.Compare a [op] [b] pos) (tTest (tOp r ta tb)) := by
  intro pins s σ H Q I h
  refine wpAny_isTrue_Compare1 (thn (ha pins s σ H _ I h) fun v s1 ⟨x, H1, I1, r1, q1⟩ => thn (hb pins s1 σ H1 _ I1 q1) fun u s2 ⟨y, H2, I2, r2, q2⟩ =>
    thn (ho pins s2 σ H2 x y v u _ I2 r1 r2 q2) fun c s3 ⟨z, H3, I3, r3, k, e, q3⟩ => ?_) hm
  subst e
  cases r3
  exact wpAny_truthy_bool ⟨H3, I3, q3⟩
def TruV (K : PySem.W.Frag) (x : V) (H : Hp) (k : Bool) : Prop :=
  match x with
  | .non => k = false
  | .bl b => k = b
  | .int i => k = (i != 0)
  | .str y => y.length ≤ sizeLine ∧ k = ((y.length : Int) != 0)
  | .byt y => y.size ≤ sizeLine ∧ k = ((y.size : Int) != 0)
  | .ref p => (∃ xs, SqL K H p xs ∧ k = !xs.isEmpty) ∨ (∃ xs, SqT K H p xs ∧ k = !xs.isEmpty) ∨ ∃ kvs, H p = some (.dK kvs) ∧ k = !kvs.isEmpty
  | _ => False
theorem isEmpty_kv {κ : Type} {kvs : List (κ × V)} {vs : List (κ × Value)} (r : KV kvs vs) : (!vs.isEmpty) = !kvs.isEmpty := by
  cases r <;> rfl
theorem isEmpty_of {xs : List V} {its : List Value} (r : Vals xs its) : (!its.toArray.isEmpty) = !xs.isEmpty := by
  cases r <;> simp
theorem line63 : (sizeLine : Nat) < 2 ^ 63 := by rw [sizeLine_eq]; decide
theorem tru_ok : TruR X (fun x H Q => ∃ k, TruV X.K x H k ∧ Q k H) := by
  intro pins s σ H x v Q I rx h
  obtain ⟨k, e, q⟩ := h
  have hl := line63
  have hs : sizeLine = 16777216 := sizeLine_eq
  cases x with
  | non =>
    cases rx
    have e' : k = false := e
    subst e'
    exact truthy_none ⟨H, I, q⟩
  | bl b =>
    cases rx
    have e' : k = b := e
    subst e'
    exact wpAny_truthy_bool ⟨H, I, q⟩
  | int i =>
    obtain ⟨t, rfl⟩ := rx
    have e' : k = (i != 0) := e
    subst e'
    exact PySem.P.truthy_int ⟨H, I, q⟩
  | str y =>
    obtain ⟨t, rfl⟩ := rx
    obtain ⟨hy, e'⟩ : y.length ≤ sizeLine ∧ k = ((y.length : Int) != 0) := e
    subst e'
    exact PySem.P.truthy_str (by omega) ⟨H, I.tok _, q⟩
  | byt y =>
    obtain ⟨t, rfl⟩ := rx
    obtain ⟨hy, e'⟩ : y.size ≤ sizeLine ∧ k = ((y.size : Int) != 0) := e
    subst e'
    exact PySem.W.truthy_bytes (by omega) ⟨H, I.tok _, q⟩
  | ref p =>
    cases rx
    have e' : (∃ xs, SqL X.K H p xs ∧ k = !xs.isEmpty) ∨ (∃ xs, SqT X.K H p xs ∧ k = !xs.isEmpty) ∨ ∃ kvs, H p = some (.dK kvs) ∧ k = !kvs.isEmpty := e
    rcases e' with ⟨xs, hx, e'⟩ | ⟨xs, hx, e'⟩ | ⟨kvs, hx, e'⟩
    · subst e'
      obtain ⟨its, r, pl, hz⟩ := I.list hx
      have hlen := r.length
      exact wpAny_truthy_list pl.isList (by simp only [List.size_toArray]; omega) ⟨H, I.tok _, by rw [isEmpty_of r]; exact q⟩
    · subst e'
      obtain ⟨its, r, pl, hz⟩ := I.tuple hx
      have hlen := r.length
      exact truthy_tuple pl (by simp only [List.size_toArray]; omega) ⟨H, I.tok _, by rw [isEmpty_of r]; exact q⟩
    · subst e'
      obtain ⟨hz, hS, vs, r, m⟩ : kvs.length ≤ sizeLine ∧ (p == sysModules) = false ∧ ∃ vs, KV kvs vs ∧ s.heap.DictOf (mixKind X.prog X.w) p vs := I.hok p _ hx
      have hlen : kvs.length = vs.length := Paired.length r
      exact wpAny_truthy_dict hS m (by omega) ⟨H, I.tok _, by rw [isEmpty_kv r]; exact q⟩
  | _ => exact (show False from e).elim
theorem pt_truth (ha : PE X a ta) (he : ∀ whole, isTrue a X.env whole = (do let v ← whole; standAt a.pos; holding [v] (truthy v))) :
    PT X a (fun σ H Q => ta σ H fun x H' => ∃ k, TruV X.K x H' k ∧ Q k H') := by
  intro pins s σ H Q I h
  exact isTrue_plain (thn (ha pins s σ H _ I h) fun v s1 ⟨x, H1, I1, r1, q1⟩ => tru_ok pins s1 σ H1 x v Q I1 r1 q1) (he _)
theorem op_add_str : OpR X (binaryOp .Add) (fun x y H Q => ∃ i j, x = .str i ∧ y = .str j ∧ i.length + j.length ≤ sizeLine ∧ Q (.str (i ++ j)) H) := by
  intro pins s σ H x y v u Q I rx ry h
  obtain ⟨i, j, rfl, rfl, hz, q⟩ := h
  obtain ⟨t, rfl⟩ := rx
  obtain ⟨t', rfl⟩ := ry
  exact add_str (fun t' tk => ⟨.str (i ++ j), H, I.tok _, ⟨_, rfl⟩, q⟩) hz
theorem vals1 {x : V} {us : List Value} (r : Vals [x] us) : ∃ u, us = [u] ∧ RelV x u := by
  cases r with
  | cons r1 r2 => cases r2; exact ⟨_, rfl, r1⟩
theorem vals2 {x y : V} {us : List Value} (r : Vals [x, y] us) : ∃ u w', us = [u, w'] ∧ RelV x u ∧ RelV y w' := by
  cases r with
  | cons r1 r2 =>
    cases r2 with
    | cons r3 r4 => cases r4; exact ⟨_, _, rfl, r1, r3⟩
theorem call_abs : CallR X (.builtin "abs") (fun xs H Q => ∃ i, xs = [.int i] ∧ Q (.int (if i < 0 then -i else i)) H) := by
  intro pins s σ H xs us Q I r h
  obtain ⟨i, rfl, q⟩ := h
  obtain ⟨u, rfl, t, rfl⟩ := vals1 r
  exact call_abs_int fun u tk => ⟨.int (if i < 0 then -i else i), H, I.tok _, ⟨_, rfl⟩, q⟩
theorem call_max2 (hc : X.calm = true) : CallR X (.builtin "max") (fun xs H Q => ∃ i j, xs = [.int i, .int j] ∧ Q (.int (if j > i then j else i)) H) := by
  intro pins s σ H xs us Q I r h
  obtain ⟨i, j, rfl, q⟩ := h
  obtain ⟨u, w', rfl, ⟨t, rfl⟩, ⟨t', rfl⟩⟩ := vals2 r
  refine max_two_ints (I.ok.hd hc) fun h' tk k => ⟨_, H, I.kept k, ?_, q⟩
  by_cases hj : j > i
  · rw [if_pos hj, if_pos hj]; exact ⟨_, rfl⟩
  · rw [if_neg hj, if_neg hj]; exact ⟨_, rfl⟩
theorem call_min2 (hc : X.calm = true) : CallR X (.builtin "min") (fun xs H Q => ∃ i j, xs = [.int i, .int j] ∧ Q (.int (if j < i then j else i)) H) := by
  intro pins s σ H xs us Q I r h
  obtain ⟨i, j, rfl, q⟩ := h
  obtain ⟨u, w', rfl, ⟨t, rfl⟩, ⟨t', rfl⟩⟩ := vals2 r
  refine min_two_ints (I.ok.hd hc) fun h' tk k => ⟨_, H, I.kept k, ?_, q⟩
  by_cases hj : j < i
  · rw [if_pos hj, if_pos hj]; exact ⟨_, rfl⟩
  · rw [if_neg hj, if_neg hj]; exact ⟨_, rfl⟩
theorem call_int1 : CallR X (.type "int") (fun xs H Q => (∃ i, xs = [.int i] ∧ Q (.int i) H) ∨ ∃ k, xs = [.bl k] ∧ Q (.int (if k then 1 else 0)) H) := by
  intro pins s σ H xs us Q I r h
  rcases h with ⟨i, rfl, q⟩ | ⟨k, rfl, q⟩
  · obtain ⟨u, rfl, t, rfl⟩ := vals1 r
    exact call_int_int ⟨.int i, H, I, ⟨_, rfl⟩, q⟩
  · obtain ⟨u, rfl, r1⟩ := vals1 r
    cases r1
    exact call_int_bool ⟨.int (if k then 1 else 0), H, I.tok _, ⟨_, rfl⟩, q⟩
end
end L2
namespace L2
open PySem PySem.Spec PyProof.Rows
structure ObjM (h : Heap) (x dx C : Addr) (mA : Str → Option Value) : Prop where
  obj : h.get? x = some (PySem.W.instObj C dx)
  ns : h.Ns1 dx mA
  ne : dx ≠ x
theorem lookIn_ns {h : Heap} {dx : Addr} {mA : Str → Option Value} (n : h.Ns1 dx mA) : ∃ od, h.get? dx = some od ∧ ∀ name, PySem.W.lookIn name od = some (mA name) := by
  obtain ⟨o, es, ep, ho, hd, hk, _, hm⟩ := n
  refine ⟨o, ho, fun name => ?_⟩
  have e := hm name
  unfold nsFind findBy at e
  rw [← Array.find?_toList] at e
  unfold PySem.W.lookIn
  rw [hd]
  dsimp only
  split
  · rename_i y q
    rw [q] at e
    exact congrArg some e
  · rename_i q
    rw [q] at e
    have a : es.toList.any (·.refKey) = false := by
      rw [List.any_eq_false]
      intro y hy
      obtain ⟨z, t, hkey⟩ := hk y (Array.mem_toList_iff.mp hy)
      simp [DictEntry.refKey, hkey]
    have a' : ¬ es.toList.any (·.refKey) = true := by rw [a]; exact Bool.false_ne_true
    rw [if_neg a']
    exact congrArg some e
theorem ObjM.look {h : Heap} {x dx C : Addr} {mA : Str → Option Value} (I : ObjM h x dx C mA) : ∃ od, PySem.W.InstAt h x (PySem.W.instObj C dx) C (some od) ∧ ∀ name, PySem.W.lookIn name od = some (mA name) :=
  let ⟨od, ho, hl⟩ := lookIn_ns I.ns
  ⟨od, ⟨I.obj, rfl, rfl, ho⟩, hl⟩
section
variable {prog : Program} {w : World} {A : Around} {E : Value → Shared → Prop} {s : Shared} {K : PySem.W.Frag} {x dx C f : Addr} {mA : Str → Option Value} {name : Str} {v : Value}
end
section
variable {P : Program} {w : World} {H H' : Hp} {h h' : Heap} {a C dx : Addr} {fs fs' : List (Str × V)}
theorem ins_get (hok : HOk P w H h) (e : H a = some (.ins C dx fs)) : ∃ mA, ObjM h a dx C mA ∧ (∀ f, RelO (fs.lookup f) (mA f)) ∧ PySem.Within mA (fs.map (·.1)) ∧ fs.length ≤ 1000 ∧ H dx = some (.own a) := by
  obtain ⟨d, z, ne, ob, mA, n, r, q⟩ := (show ObjOk P w H h a (.ins C dx fs) from hok a _ e)
  exact ⟨mA, ⟨ob, n, ne⟩, r, q, z, d⟩
end
structure Cls (K : PySem.W.Frag) (C : Addr) : Prop where
  pg : PySem.W.plainGet K C Str.empty = true
  hd : PySem.W.hasDictIn K C = true
  po : PySem.W.plainOver K C = true
  sa : PySem.W.findIn K (.ref C) "__setattr__" = some (some (.builtin "object.__setattr__"))
theorem Cls.get {K : PySem.W.Frag} {C : Addr} (c : Cls K C) (f : Str) : PySem.W.plainGet K C f = true := c.pg
def NoAttr (K : PySem.W.Frag) (C : Addr) (f : Str) : Prop := PySem.W.findIn K (.ref C) f = some none
section
variable {X : Cx} {pins : List (Addr × Obj)} {σ : St} {H : Hp} {s : Shared} {a C dx : Addr} {fs : List (Str × V)} {f : Str} {v : V} {A : Around} {E : Value → Shared → Prop}
theorem Inv.made (I : Inv X pins σ H s) : Inv X pins σ (upd (upd H s.heap.objs.size (.own (s.heap.objs.size + 1))) (s.heap.objs.size + 1) (.ins C s.heap.objs.size []))
    { s with heap := (s.heap.push PySem.W.emptyDict).push (PySem.W.instObj C s.heap.objs.size) } := by
  have e1 : (s.heap.push PySem.W.emptyDict).get? s.heap.objs.size = some PySem.W.emptyDict := Heap.get?_push_size s.heap rfl
  have e2 : ((s.heap.push PySem.W.emptyDict).push (PySem.W.instObj C s.heap.objs.size)).get? (s.heap.objs.size + 1) = some (PySem.W.instObj C s.heap.objs.size) := by
    have := Heap.get?_push_size (s.heap.push PySem.W.emptyDict) (o := PySem.W.instObj C s.heap.objs.size) rfl
    rwa [Heap.size_push] at this
  have e3 : (s.heap.push PySem.W.emptyDict).Ns s.heap.objs.size (fun _ => none) := ⟨PySem.W.emptyDict, #[], _, e1, rfl, (fun e he => absurd he (by simp)), fun _ => rfl⟩
  have I1 := I.laid (a := s.heap.objs.size) (o := .own (s.heap.objs.size + 1)) (h' := s.heap.push PySem.W.emptyDict) (t' := s.toks) (fun b u q => Heap.get?_push_of_some _ q) (Nat.le_refl _) ⟨_, e1⟩
  refine I1.laid (a := s.heap.objs.size + 1) (o := .ins C s.heap.objs.size []) (t' := s.toks) (fun b u q => Heap.get?_push_of_some _ q) (Nat.le_of_eq (Heap.size_push _ _)) ?_
  have ne : s.heap.objs.size ≠ s.heap.objs.size + 1 := Nat.ne_of_lt (Nat.lt_succ_self _)
  refine ⟨by rw [upd_ne ne, upd_same], Nat.zero_le _, ne, e2, fun _ => none, (Heap.Ns1.of_empty e3).at fun o q => Heap.get?_push_of_some _ q, fun _ => True.intro, fun y hy => absurd rfl hy⟩
end
section
variable {X : Cx} {o e value : Expr} {f : Str} {pos pos' tpos : Pos} {ta tv : TE}
end
section
variable {X : Cx} {pins : List (Addr × Obj)} {σ : St} {H : Hp} {s : Shared} {A : Around} {E : Value → Shared → Prop} {Q : Value → Shared → Prop} {c : Value} {b : Bool}
inductive TyOf (K : PySem.W.Frag) (H : Hp) : V → Value → Prop where
  | non : TyOf K H .non (.type "NoneType")
  | bl (x : Bool) : TyOf K H (.bl x) (.type "bool")
  | int (i : Int) : TyOf K H (.int i) (.type "int")
  | str (x : Str) : TyOf K H (.str x) (.type "str")
  | flt (x : UInt64) : TyOf K H (.flt x) (.type "float")
  | lst {a : Addr} {xs : List V} (e : H a = some (.lst xs)) : TyOf K H (.ref a) (.type "list")
  | frz {a : Addr} {o : Obj} {xs : List V} (e : H a = some (.frz o (.lst xs))) : TyOf K H (.ref a) (.type "list")
  | tup {a : Addr} {xs : List V} (e : H a = some (.tup xs)) : TyOf K H (.ref a) (.type "tuple")
  | dK {a : Addr} {kvs : List (Key × V)} (e : H a = some (.dK kvs)) : TyOf K H (.ref a) (.type "dict")
  | dT {a : Addr} {kvs : List (List Key × V)} (e : H a = some (.dT kvs)) : TyOf K H (.ref a) (.type "dict")
  | ins {a C dx : Addr} {fs : List (Str × V)} (e : H a = some (.ins C dx fs)) (cl : Cls K C) (ha : PySem.W.findIn K (.ref C) "__class__" = some (some (.builtin "object.__class__")))
      (hn : PySem.W.specialIn K (.builtin "object.__class__") "__get__" = some (some (.builtin "getset_descriptor.__get__"))) (htk : PySem.W.takesIn K (.builtin "object.__class__") = some true)
      (hm : PySem.W.mroIn K C (.type "object") = some true) : TyOf K H (.ref a) (.ref C)
theorem isinst_ok {x : V} {u t : Value} (I : Inv X pins σ H s) (rx : RelV x u) (ty : TyOf X.K H x t) (e : PySem.W.kitOne X.K t c = some b) (h : ∀ tk, Q (.bool b) { s with toks := tk }) :
    wpAny (model X.prog X.w) A (call (.builtin "isinstance") [u, c]) Q E s := by
  cases ty with
  | non => cases (show u = Value.none from rx); exact PySem.W.kia_one PySem.W.kitx_none I.kIn True.intro e (fun z => nomatch z) h
  | bl y => cases (show u = Value.bool y from rx); exact PySem.W.kia_one PySem.W.kitx_bool I.kIn True.intro e (fun z => nomatch z) h
  | int i => obtain ⟨t, q⟩ := (show ∃ t, u = Value.int i t from rx); cases q; exact PySem.W.kia_one PySem.W.kitx_int I.kIn True.intro e (fun z => nomatch z) h
  | str y => obtain ⟨t, q⟩ := (show ∃ t, u = Value.str y t from rx); cases q; exact PySem.W.kia_one PySem.W.kitx_str I.kIn True.intro e (fun z => nomatch z) h
  | flt y => obtain ⟨t, q⟩ := (show ∃ t, u = Value.float y t from rx); cases q; exact PySem.W.kia_one PySem.W.kitx_float I.kIn True.intro e (fun z => nomatch z) h
  | @lst a xs ea =>
    cases (show u = Value.ref a from rx)
    obtain ⟨_, _, n, _, h1⟩ := (show ObjOk X.prog X.w H s.heap a (.lst xs) from I.hok a _ ea)
    exact PySem.W.kia_one PySem.W.kitx_list I.kIn ⟨_, h1, rfl⟩ e (fun z => nomatch z) h
  | @frz a ob xs ea =>
    cases (show u = Value.ref a from rx)
    obtain ⟨_, _, _, n, _, h1⟩ := (show ObjOk X.prog X.w H s.heap a (.frz ob (.lst xs)) from I.hok a _ ea)
    exact PySem.W.kia_one PySem.W.kitx_list I.kIn ⟨_, h1, rfl⟩ e (fun z => nomatch z) h
  | @tup a xs ea =>
    cases (show u = Value.ref a from rx)
    obtain ⟨_, _, _, p⟩ := (show ObjOk X.prog X.w H s.heap a (.tup xs) from I.hok a _ ea)
    obtain ⟨o, h1, h2, _⟩ := p
    exact PySem.W.kia_one PySem.W.kitx_tuple I.kIn ⟨o, h1, h2⟩ e (fun z => nomatch z) h
  | @dK a kvs ea =>
    cases (show u = Value.ref a from rx)
    obtain ⟨_, _, vs, _, p⟩ := (show ObjOk X.prog X.w H s.heap a (.dK kvs) from I.hok a _ ea)
    obtain ⟨o, es, ep, h1, h2, _⟩ := p
    exact PySem.W.kia_one PySem.W.kitx_dict I.kIn ⟨o, h1, h2.1⟩ e (fun z => nomatch z) h
  | @dT a kvs ea =>
    cases (show u = Value.ref a from rx)
    obtain ⟨_, _, xs, _, o, es, ep, h1, h2, _⟩ := (show ObjOk X.prog X.w H s.heap a (.dT kvs) from I.hok a _ ea)
    exact PySem.W.kia_one PySem.W.kitx_dict I.kIn ⟨o, h1, h2.1⟩ e (fun z => nomatch z) h
  | @ins a C dx fs ea cl ha hn htk hm =>
    cases (show u = Value.ref a from rx)
    obtain ⟨mA, O, _⟩ := ins_get I.hok ea
    obtain ⟨od, J, _⟩ := O.look
    exact PySem.W.kia_one (PySem.W.kitx_own (cl.get _) cl.hd ha hn htk hm) I.kIn J e (fun z => nomatch z) h
end
end L2
namespace L2
open PySem PySem.Spec PyProof.Rows
structure Room (k : Nat) (A : Around) : Prop where
  hd : A.handled = none
  dp : A.depth + 3 * k + 5 < recursionLimit
  un : A.units + 16 * k + 200 < cLine
theorem Room.mono {j k : Nat} {A : Around} (r : Room k A) (h : j ≤ k) : Room j A := ⟨r.hd, by have := r.dp; omega, by have := r.un; omega⟩
theorem Room.deeper {k : Nat} {A : Around} (r : Room (k + 1) A) (env : Env) : Room k (A.deeper env) :=
  ⟨r.hd, by have := r.dp; show A.depth + 1 + 3 * k + 5 < _; omega, by have := r.un; show A.units + 3 + 16 * k + 200 < _; omega⟩
theorem Room.in1 {k : Nat} {A : Around} (r : Room (k + 1) A) : Room k A.in1 :=
  ⟨r.hd, by have := r.dp; show A.depth + 3 * k + 5 < _; omega, by have := r.un; show A.units + 1 + 16 * k + 200 < _; omega⟩
theorem Room.depth {k : Nat} {A : Around} (r : Room k A) : A.depth < recursionLimit := by have := r.dp; omega
theorem Room.units {k : Nat} {A : Around} (r : Room k A) : A.units + 64 < cLine := by have := r.un; omega
def tNil : TA := fun _ H Q => Q [] H
def tCons (ta : TE) (tr : TA) : TA := fun σ H Q => ta σ H fun x H1 => tr σ H1 fun xs H2 => Q (x :: xs) H2
section
variable {X : Cx} {e : Expr} {es : List Expr} {te : TE} {t : TA} {pos : Pos}
theorem pa_nil : PA X [] tNil := fun _ _ _ _ H Q I h => Calls.spliced_nil ⟨[], H, I, .nil, h⟩
theorem pa_cons (ha : PE X e te) (hr : PA X es t) (hs : starEach (e :: es) X.env = (false, eval e X.env) :: starEach es X.env := by rfl) : PA X (e :: es) (tCons te t) := by
  intro pos pins s σ H Q I h
  rw [hs]
  show wpAny _ _ (spliced ((false, eval e X.env) :: backTo pos (starEach es X.env))) _ _ s
  refine Calls.spliced_cons (thn (ha pins s σ H _ I h) fun u s1 ⟨x, H1, I1, r1, q1⟩ => ?_)
  exact thn (hr pos pins s1 σ H1 _ I1 q1) fun us s2 ⟨xs, H2, I2, r2, q2⟩ => ⟨x :: xs, H2, I2, .cons r1 r2, q2⟩
def tTup (t : TA) : TE := fun σ H Q => t σ H fun xs H1 => xs.length ≤ sizeLine ∧ ∀ p, H1 p = none → Q (.ref p) (upd H1 p (.tup xs))
def tLst (t : TA) : TE := fun σ H Q => t σ H fun xs H1 => xs.length ≤ sizeLine ∧ ∀ p, H1 p = none → Q (.ref p) (upd H1 p (.lst xs))
theorem pe_tup {x1} (h : PA X es t) : PE X (.Tuple es x1 pos) (tTup t) := by
  intro pins s σ H Q I hq
  refine wpAny_Tuple_spliced (thn (h pos pins s σ H _ I hq) fun us s1 ⟨xs, H1, I1, r, z, q⟩ => ⟨by rw [← r.length]; exact z, ?_⟩)
  have hf : H1 s1.heap.objs.size = none := I1.hok.fresh (Nat.le_refl _)
  refine ⟨.ref s1.heap.objs.size, upd H1 s1.heap.objs.size (.tup xs), I1.laid (t' := s1.toks) (fun b u e => Heap.get?_push_of_some _ e) (Nat.le_refl _) ?_, rfl, q _ hf⟩
  exact ⟨z, us, r, ⟨_, Heap.get?_push_size _ rfl, rfl, _, rfl⟩⟩
theorem pe_lst (h : PA X es t) : PE X (.List es pos) (tLst t) := by
  intro pins s σ H Q I hq
  refine wpAny_List_spliced (thn (h pos pins s σ H _ I hq) fun us s1 ⟨xs, H1, I1, r, z, q⟩ => ⟨by rw [← r.length]; exact z, ?_⟩)
  have hf : H1 s1.heap.objs.size = none := I1.hok.fresh (Nat.le_refl _)
  refine ⟨.ref s1.heap.objs.size, upd H1 s1.heap.objs.size (.lst xs), I1.laid (t' := s1.toks) (fun b u e => Heap.get?_push_of_some _ e) (Nat.le_refl _) ?_, rfl, q _ hf⟩
  exact ⟨z, us, 0, r, Heap.get?_push_size _ rfl⟩
end
abbrev Sp := List V → Hp → VK → XK → Prop
abbrev CXT := List Env → Hp → Shared → XK → Value → Shared → Prop
structure Env0 (P : Program) (w : World) (K : PySem.W.Frag) (mg : Str → Option Value) (base : Heap) (A : Around) (outer : List Env) (s : Shared) (H : Hp) : Prop where
  frames : A.frames = some outer
  mod : Mod K mg base
  bs : ∀ b o, base.get? b = some o → s.heap.get? b = some o ∧ H b = none
  bsz : base.objs.size ≤ s.heap.objs.size
  funs : s.heap.FunFrames base outer
  frf : ∀ b ∈ frs outer, H b = none
  hok : HOk P w H s.heap
  bare : AllBare s.gens
def CE (outer : List Env) (P : Program) (w : World) (H : Hp) (s : Shared) (Q : VK) (u : Value) (s' : Shared) : Prop :=
  ∃ v H', s'.os = s.os ∧ AllBare s'.gens ∧ Un (frs outer) [] H H' s.heap s'.heap ∧ HOk P w H' s'.heap ∧ RelV v u ∧ Q v H'
def CR (CX : CXT) (outer : List Env) (P : Program) (w : World) (H : Hp) (s : Shared) (Q : VK) (E : XK) (r : Result) (s' : Shared) : Prop :=
  match r with
  | .ok (.ret u) => CE outer P w H s Q u s'
  | .ok _ => False
  | .error e => CX outer H s E e s'
structure FnOk (P : Program) (w : World) (K : PySem.W.Frag) (mg : Str → Option Value) (base : Heap) (CX : CXT) (k : Nat) (f : Addr) (fd : FuncData) (ps : List Str) (sp : Sp) : Prop where
  len : ∀ vs H Q E, sp vs H Q E → vs.length = ps.length
  run : ∀ (A : Around) (outer : List Env) (s : Shared) (H : Hp) (args : Args) (us : List Value) (vs : List V) (Q : VK) (E : XK), Room k A → Env0 P w K mg base A outer s H → BindsTo s fd args (ps.zip us) → Vals vs us → sp vs H Q E →
    codeAny (model P w) A (.call (.ref f) args) (CR CX outer P w H s Q E) s
theorem FnOk.mono {P : Program} {w : World} {K : PySem.W.Frag} {mg : Str → Option Value} {base : Heap} {CX : CXT} {j k : Nat} {f : Addr} {fd : FuncData} {ps : List Str} {sp : Sp} (F : FnOk P w K mg base CX j f fd ps sp) (h : j ≤ k) :
    FnOk P w K mg base CX k f fd ps sp := ⟨F.len, fun A outer s H args us vs Q E hr => F.run A outer s H args us vs Q E (hr.mono h)⟩
theorem FnOk.imp {P : Program} {w : World} {K : PySem.W.Frag} {mg : Str → Option Value} {base : Heap} {CX : CXT} {k : Nat} {f : Addr} {fd : FuncData} {ps : List Str} {sp sp' : Sp} (F : FnOk P w K mg base CX k f fd ps sp)
    (h : ∀ vs H Q E, sp' vs H Q E → sp vs H Q E) : FnOk P w K mg base CX k f fd ps sp' :=
  ⟨fun vs H Q E q => F.len vs H Q E (h _ _ _ _ q), fun A outer s H args us vs Q E hr he hb hv hs => F.run A outer s H args us vs Q E hr he hb hv (h _ _ _ _ hs)⟩
theorem Env0.in1 {P : Program} {w : World} {K : PySem.W.Frag} {mg : Str → Option Value} {base : Heap} {A : Around} {outer : List Env} {s : Shared} {H : Hp} (e : Env0 P w K mg base A outer s H) :
    Env0 P w K mg base A.in1 outer s H := ⟨e.frames, e.mod, e.bs, e.bsz, e.funs, e.frf, e.hok, e.bare⟩
section
variable {X : Cx} {pins : List (Addr × Obj)} {σ : St} {H : Hp} {s s' : Shared}
theorem Inv.env0 (I : Inv X pins σ H s) : Env0 X.prog X.w X.K X.mg X.base X.A X.stack s H :=
  ⟨I.ok.frames, I.ok.mod, I.bs, Nat.le_trans I.ok.bsz I.sz, I.stack, I.stkFree, I.hok, I.bare⟩
theorem Inv.after {Q : VK} {u : Value} (I : Inv X pins σ H s) (h : CE X.stack X.prog X.w H s Q u s') : EP X pins σ Q u s' := by
  obtain ⟨v, H', os, bare, un, hok, r, q⟩ := h
  obtain ⟨hh, g, d, t, os'⟩ := s'
  obtain rfl : os' = s.os := os
  exact ⟨v, H', I.call (h' := hh) (g' := g) (d' := d) (t' := t) (ch := []) un hok bare (fun b z => absurd z (by simp)), r, q⟩
end
def tCall (sp : Sp) (dvs : List V) (E : XK) (t : TA) : TE := fun σ H Q => t σ H fun vs H1 => sp (vs ++ dvs) H1 Q E
def Binds (K : PySem.W.Frag) (fd : FuncData) (ps : List Str) (ds : List Value) : Prop :=
  ∀ (s : Shared) (us : List Value), K.In s.heap → (us ++ ds).length = ps.length → BindsTo s fd ⟨us, []⟩ (ps.zip (us ++ ds))
theorem Binds.all {K : PySem.W.Frag} {fd : FuncData} {ps : List Str} (h : ∀ us : List Value, us.length = ps.length → bindArgs fd ⟨us, []⟩ = pure (ps.zip us)) : Binds K fd ps [] := fun s us _ hl => by
  rw [List.append_nil] at hl ⊢
  exact .of_eq (h us hl)
def Passes (CX : CXT) (X : Cx) (E : XK) : Prop := ∀ (pins : List (Addr × Obj)) (σ : St) (H : Hp) (s : Shared) (e : Value) (s' : Shared), Inv X pins σ H s → CX X.stack H s E e s' → X.xe e s'
section
variable {X : Cx} {CX : CXT} {k : Nat} {f C : Addr} {fd : FuncData} {ps : List Str} {sp : Sp} {dvs : List V} {ds : List Value} {E : XK} {x m : Str} {p pos apos : Pos} {e o : Expr} {es : List Expr} {ta : TE} {t : TA}
theorem run_fn {pins : List (Addr × Obj)} {σ : St} {H : Hp} {s : Shared} {Q : VK} {us : List Value} {vs : List V} (F : FnOk X.prog X.w X.K X.mg X.base CX k f fd ps sp) (hr : Room k X.A) (hb : Binds X.K fd ps ds) (hd : Vals dvs ds) (hx : Passes CX X E)
    (I : Inv X pins σ H s) (r : Vals vs us) (h : sp (vs ++ dvs) H Q E) : wpAny (model X.prog X.w) X.A (call (.ref f) us) (EP X pins σ Q) X.xe s := by
  have r2 : Vals (vs ++ dvs) (us ++ ds) := r.append hd
  have hl : (us ++ ds).length = ps.length := by rw [← r2.length]; exact F.len _ _ _ _ h
  refine wpAny_call (codeAny_mono (F.run X.A X.stack s H ⟨us, []⟩ (us ++ ds) (vs ++ dvs) Q E hr I.env0 (hb s us I.kIn hl) r2 h) fun r s' hq => ?_)
  cases r with
  | error e => exact hx pins σ H s e s' I hq
  | ok fl =>
    cases fl with
    | ret u => exact I.after hq
    | next => exact False.elim hq
    | brk => exact False.elim hq
    | cont => exact False.elim hq
theorem pe_call (F : FnOk X.prog X.w X.K X.mg X.base CX k f fd ps sp) (hr : Room k X.A) (hg : Gl X x) (hm : X.mg x = some (.ref f)) (hk : PySem.W.keepIn X.K (.ref f) = true) (hb : Binds X.K fd ps ds) (hd : Vals dvs ds) (hx : Passes CX X E)
    (ha : PA X (e :: es) t) (hdb : (x == ("__debug__" : Str)) = false := by decide) (he : starEach (e :: es) X.env = (false, eval e X.env) :: starEach es X.env := by rfl) (hpl : (backTo pos (starEach es X.env)).any (·.1) = false := by rfl) :
    PE X (.Call (.Name x p) (e :: es) [] pos) (tCall sp dvs E t) := by
  intro pins s σ H Q I h
  refine wpAny_Call_Name_kw (ld_glob I hg hm ?_ hdb)
  refine PySem.W.callWith_K (h₀ := X.base) I.ok.mod.kin hk (thn (ha pos pins s σ H _ I h) fun us s1 ⟨vs, H1, I1, r, q⟩ => ⟨I1.kIn, ?_⟩) he hpl
  exact run_fn F hr hb hd hx I1 r q
end
def PK (X : Cx) (kws : List Keyword) (t : TA) : Prop :=
  ∀ (pos : Pos) (pins : List (Addr × Obj)) (s : Shared) (σ : St) (H : Hp) (Q : List V → Hp → Prop), Inv X pins σ H s → t σ H Q → wpAny (model X.prog X.w) X.A (evalAll ((backToKw pos (keywordEach kws X.env)).map (·.2))) (AP X pins σ Q) X.xe s
section
variable {X : Cx} {CX : CXT} {k : Nat} {f C : Addr} {fd : FuncData} {ps ks : List Str} {sp : Sp} {E : XK} {x m : Str} {p pos apos kpos : Pos} {e o : Expr} {es : List Expr} {kws : List Keyword} {te ta : TE} {t tk : TA} {nm : Option Str}
theorem pk_nil : PK X [] tNil := fun _ _ _ _ H Q I h => wpAny_evalAll_nil ⟨[], H, I, .nil, h⟩
theorem pk_cons (ha : PE X e te) (hr : PK X kws t) : PK X (⟨nm, e, kpos⟩ :: kws) (tCons te t) := by
  intro pos pins s σ H Q I h
  show wpAny _ _ (evalAll ((do let v ← eval e X.env; standAt pos; pure v) :: (backToKw pos (keywordEach kws X.env)).map (·.2))) _ _ s
  refine wpAny_evalAll_cons (wpAny_bind (thn (ha pins s σ H _ I h) fun u s1 ⟨x, H1, I1, r1, q1⟩ => wpAny_bind (wpAny_standAt (wpAny_pure ?_))))
  exact thn (hr pos pins s1 σ H1 _ I1 q1) fun us s2 ⟨xs, H2, I2, r2, q2⟩ => ⟨x :: xs, H2, I2, .cons r1 r2, q2⟩
variable {g : List Value → List Value → List Value} {gV : List V → List V → List V}
end
structure FnScope (N P : List Str) (sc : Scope) : Prop where
  kind : sc.kind = .function
  co : sc.isCoroutine = false
  gen : sc.isGenerator = false
  nd : N.Nodup
  pre : N.take P.length = P
  par : ∀ x ∈ P, sc.names.lookup x = some .local ∨ sc.names.lookup x = some .cell
  nofree : ∀ y ∈ sc.names, y.2 ≠ .free
theorem bindL_out {kindOf : Str → Option NameKind} {x : Str} : ∀ {binds : List (Str × Value)} {m : Str → Option Value}, (∀ v, (x, v) ∉ binds) → bindL kindOf binds m x = m x
  | [], _, _ => rfl
  | (n, v) :: r, m, h => by
    unfold bindL
    rw [bindL_out fun w hw => h w (List.mem_cons_of_mem _ hw)]
    split
    · have : x ≠ n := by rintro rfl; exact h v List.mem_cons_self
      simp [this]
    · rfl
theorem bindC_out {kindOf : Str → Option NameKind} {x : Str} : ∀ {binds : List (Str × Value)} {m : Str → Option Value}, (∀ v, (x, v) ∉ binds) → bindC kindOf binds m x = m x
  | [], _, _ => rfl
  | (n, v) :: r, m, h => by
    unfold bindC
    rw [bindC_out fun w hw => h w (List.mem_cons_of_mem _ hw)]
    split
    · rfl
    · have : x ≠ n := by rintro rfl; exact h v List.mem_cons_self
      simp [this]
theorem bindL_get {kindOf : Str → Option NameKind} {x : Str} {v : Value} : ∀ {P : List Str} {vs : List Value} {i : Nat} {m : Str → Option Value}, P.Nodup → P[i]? = some x → vs[i]? = some v → kindOf x = some .local →
    bindL kindOf (P.zip vs) m x = some v
  | [], _, _, _, _, h, _, _ => by simp at h
  | _ :: _, [], _, _, _, _, h, _ => by simp at h
  | p :: P, w :: vs, 0, m, nd, h1, h2, hk => by
    simp at h1 h2; subst h1; subst h2
    show bindL kindOf ((p, w) :: P.zip vs) m p = _
    unfold bindL
    rw [bindL_out fun v hv => (List.nodup_cons.mp nd).1 (List.of_mem_zip hv).1, if_pos hk]
    simp
  | p :: P, w :: vs, i + 1, m, nd, h1, h2, hk => by
    show bindL kindOf ((p, w) :: P.zip vs) m x = _
    unfold bindL
    exact bindL_get (i := i) (List.nodup_cons.mp nd).2 (by simpa using h1) (by simpa using h2) hk
theorem bindC_get {kindOf : Str → Option NameKind} {x : Str} {v : Value} : ∀ {P : List Str} {vs : List Value} {i : Nat} {m : Str → Option Value}, P.Nodup → P[i]? = some x → vs[i]? = some v → kindOf x ≠ some .local →
    bindC kindOf (P.zip vs) m x = some v
  | [], _, _, _, _, h, _, _ => by simp at h
  | _ :: _, [], _, _, _, _, h, _ => by simp at h
  | p :: P, w :: vs, 0, m, nd, h1, h2, hk => by
    simp at h1 h2; subst h1; subst h2
    show bindC kindOf ((p, w) :: P.zip vs) m p = _
    unfold bindC
    rw [bindC_out fun v hv => (List.nodup_cons.mp nd).1 (List.of_mem_zip hv).1, if_neg hk]
    simp
  | p :: P, w :: vs, i + 1, m, nd, h1, h2, hk => by
    show bindC kindOf ((p, w) :: P.zip vs) m x = _
    unfold bindC
    exact bindC_get (i := i) (List.nodup_cons.mp nd).2 (by simpa using h1) (by simpa using h2) hk
def start (N : List Str) (vs : List V) : St := vs.map some ++ List.replicate (N.length - vs.length) none
def cxOf (CX : CXT) (P : Program) (w : World) (K : PySem.W.Frag) (mg : Str → Option Value) (base : Heap) (N : List Str) (qual : Str) (scope : Scope) (f : Addr) (cd : Value) (A : Around) (outer : List Env) (s : Shared) (H : Hp) (E : XK) : Cx where
  prog := P
  w := w
  K := K
  mg := mg
  base := base
  A := A.deeper (envOfC qual scope s.heap.objs.size f cd)
  N := N
  s₀ := s
  H₀ := H
  env := envOfC qual scope s.heap.objs.size f cd
  outer := outer
  stack := envOfC qual scope s.heap.objs.size f cd :: outer
  ex := []
  calm := true
  fn := fun _ => true
  pn := []
  xe := fun e s' => wpAny (model P w) (A.deeper (envOfC qual scope s.heap.objs.size f cd)) (leaving (envOfC qual scope s.heap.objs.size f cd) e) (fun _ s'' => CX outer H s E e s'') (fun e' s'' => CX outer H s E e' s'') s'
theorem cell_has {sc : Scope} {n : Nat} {x : Str} (h : sc.names.lookup x = some .cell) : ∃ c, (cellsFrom n sc.names []).lookup x = some c := by
  have q := PySem.W.cellsFrom_some sc.names n [] (.inl h)
  exact Option.isSome_iff_exists.mp q
theorem inv_start {CX : CXT} {P : Program} {w : World} {K : PySem.W.Frag} {mg : Str → Option Value} {base : Heap} {N ps : List Str} {qual : Str} {scope : Scope} {f : Addr} {cd : Value} {A : Around} {outer : List Env} {s s1 : Shared} {H : Hp} {E : XK} {us : List Value} {vs : List V}
    (S : FnScope N ps scope) (hd : A.handled = none) (e0 : Env0 P w K mg base A outer s H) (hl : vs.length = ps.length) (r : Vals vs us)
    (x : InCallC s s.heap.objs.size (bindL (envOfC qual scope s.heap.objs.size f cd).kindOf (ps.zip us) fun _ => none) (cellsFrom (s.heap.objs.size + 1) scope.names []) (bindC (envOfC qual scope s.heap.objs.size f cd).kindOf (ps.zip us) fun _ => none) s1) :
    Inv (cxOf CX P w K mg base N qual scope f cd A outer s H E) [] (start N vs) H s1 := by
  have hpl : ps.length ≤ N.length := by have := congrArg List.length S.pre; rw [List.length_take] at this; omega
  obtain ⟨h1, tk, rfl, hk⟩ := x.done
  have noA : ∀ b : Addr, b ∉ (cxOf CX P w K mg base N qual scope f cd A outer s H E).ex := fun b z => absurd (show b ∈ ([] : List Addr) from z) (by simp)
  refine ⟨⟨e0.mod, S.kind, rfl, rfl, Nat.le_refl _, fun y z c h1 h2 => ?_, fun y hy => ?_, fun y c _ h => ?_, fun _ => hd, Around.frames_deeper e0.frames, .inr ⟨rfl, rfl⟩, fun b z => absurd z (noA b), e0.bs, e0.bsz, fun b _ _ => noA b, fun b z => absurd z (noA b), e0.funs, e0.frf⟩,
    rfl, e0.bare, Un.kept hk, ⟨_, x.toInCall.ns, fun i y v h1 h2 h3 => ?_⟩, fun y c h => ⟨_, x.cell y c h⟩, e0.hok.fresh (Nat.le_refl _), fun y c h => ?_, fun p hp => absurd (show p ∈ ([] : List (Addr × Obj)) from hp) (by simp), e0.hok.kept hk, ?_⟩
  · exact name_of_addr x.apart (PySem.mem_of_lookup h1) (PySem.mem_of_lookup h2)
  · have hy : scope.names.lookup y = some .cell ∨ scope.names.lookup y = some .free := hy
    rcases hy with hy | hy
    · exact cell_has hy
    · exact absurd rfl (S.nofree _ (PySem.mem_of_lookup hy))
  · exact Nat.le_of_lt (x.above y c (PySem.mem_of_lookup h))
  · have hi : i < vs.length := by
      unfold start at h2
      by_cases hi : i < vs.length
      · exact hi
      · rw [List.getElem?_append_right (by simpa using hi)] at h2
        rw [List.getElem?_replicate] at h2
        split at h2 <;> cases h2
    have ha : vs[i]? = some v := by
      unfold start at h2
      rw [List.getElem?_append_left (by simpa using hi), List.getElem?_map] at h2
      cases e : vs[i]? with
      | none => rw [e] at h2; cases h2
      | some a => rw [e] at h2; cases h2; rfl
    obtain ⟨u, hu, rv⟩ := r.get ha
    have hp : ps[i]? = some y := by
      rw [← S.pre, List.getElem?_take_of_lt (by omega)]; exact h1
    have ndP : ps.Nodup := by rw [← S.pre]; exact S.nd.sublist (List.take_sublist _ _)
    refine ⟨u, rv, ?_⟩
    rcases S.par y (List.mem_of_getElem? hp) with k | k
    · exact .inl ⟨k, bindL_get ndP hp hu k⟩
    · obtain ⟨c, e⟩ := cell_has (n := s.heap.objs.size + 1) k
      refine .inr ⟨.inl k, c, e, ?_⟩
      have q := x.cell y c e
      rw [bindC_get ndP hp hu (by show scope.names.lookup y ≠ _; rw [k]; decide)] at q
      exact q
  · exact e0.hok.fresh (Nat.le_of_lt (x.above y c (PySem.mem_of_lookup h)))
  · unfold start
    show _ = N.length
    rw [List.length_append, List.length_map, List.length_replicate]
    omega
theorem fn_of {CX : CXT} {P : Program} {w : World} {K : PySem.W.Frag} {mg : Str → Option Value} {base : Heap} {k : Nat} {f : Addr} {name qual : Str} {params : Arguments} {body : List Stmt} {scope : Scope} {dV kV doc pm cdv ct oc : Value} {an od : Option Addr}
    {osl : Array (Option Value)} {N ps : List Str} {sp : Sp} (lk : K.lookup f = some ⟨oc, od, .func (PySem.W.fnOf name qual params body scope dV kV doc pm an cdv ct), osl⟩) (hcd : PySem.W.codeIn K cdv qual = true) (S : FnScope N ps scope)
    (len : ∀ vs H Q E, sp vs H Q E → vs.length = ps.length)
    (hbody : ∀ (A : Around) (outer : List Env) (s : Shared) (H : Hp) (vs : List V) (Q : VK) (E : XK), Room k (A.deeper (envOfC qual scope s.heap.objs.size f cdv)) → sp vs H Q E →
      ∃ t, PSs (cxOf CX P w K mg base N qual scope f cdv A outer s H E) body t ∧ t { nx := fun _ H' => Q .non H', rt := Q } (start N vs) H) :
    FnOk P w K mg base CX (k + 1) f (PySem.W.fnOf name qual params body scope dV kV doc pm an cdv ct) ps sp := by
  refine ⟨len, fun A outer s H args us vs Q E hr e0 hb r hsp => ?_⟩
  have hl := len _ _ _ _ hsp
  have KX : K.In s.heap := e0.mod.kin.keeps fun b o e => (e0.bs b o e).1
  have lim : s.heap.NoLimit := e0.mod.nolimit.keeps fun b o e => (e0.bs b o e).1
  have hkind : ∀ y ∈ ps.zip us, scope.names.lookup y.1 = some .local ∨ (scope.names.lookup y.1 = some .cell ∧ ((cellsFrom (s.heap.objs.size + 1) scope.names []).lookup y.1).isSome = true) := fun ⟨n, v⟩ hy => by
    rcases S.par n (List.of_mem_zip hy).1 with q | q
    · exact .inl q
    · exact .inr ⟨q, PySem.W.cellsFrom_some _ _ _ (.inl q)⟩
  refine codeAny_call_function hr.depth (KX _ _ lk) rfl S.co S.gen rfl (PySem.W.codeRec_of KX hcd) (hb _ _ _ _ ?_)
  refine wpAny_newFunctionEnv_cells S.kind hkind fun env he s1 x => ?_
  subst he
  refine ⟨lim.keeps x.toInCall.keep, codeAny_func ?_⟩
  obtain ⟨t, ht, hq⟩ := hbody A outer s H vs Q E (hr.deeper _) hsp
  have I : Inv (cxOf CX P w K mg base N qual scope f cdv A outer s H E) [] (start N vs) H s1 := inv_start S hr.hd e0 hl r x
  refine wpAny_mono (ht [] s1 (start N vs) H _ I hq) (fun fl s' hs => ?_) fun e s' hs => hs
  have fin : ∀ {σ' : St} {H' : Hp} {v : V} {u : Value}, Inv (cxOf CX P w K mg base N qual scope f cdv A outer s H E) [] σ' H' s' → RelV v u → Q v H' → CE outer P w H s Q u s' :=
    fun {σ' H' v u} J rv q => ⟨v, H', J.os, J.bare, J.base, J.hok, rv, q⟩
  cases fl with
  | ret u =>
    obtain ⟨v, σ', H', J, rv, q⟩ := hs
    exact fin J rv q
  | next =>
    obtain ⟨σ', H', J, q⟩ := hs
    exact fin (v := V.non) (u := Value.none) J rfl q
  | brk =>
    obtain ⟨_, _, _, q⟩ := hs
    exact False.elim q
  | cont =>
    obtain ⟨_, _, _, q⟩ := hs
    exact False.elim q
end L2
namespace L2
open PySem PySem.Spec PyProof.Rows
section
variable {X : Cx} {x : Str} {p pos : Pos} {e : Expr} {es : List Expr} {t : TA} {id T : String} {r : List V → Hp → VK → Prop}
def tCB (r : List V → Hp → VK → Prop) (t : TA) : TE := fun σ H Q => t σ H fun vs H1 => r vs H1 Q
theorem pe_callB (hc : CallR X (.builtin id) r) (hg : Gl X x) (hm : X.mg x = none) (hv : bootBuiltins x = some (.builtin id)) (ha : PA X (e :: es) t) (hn : x ≠ "__name__" := by decide) (hdb : (x == ("__debug__" : Str)) = false := by decide)
    (he : starEach (e :: es) X.env = (false, eval e X.env) :: starEach es X.env := by rfl) (hpl : (backTo pos (starEach es X.env)).any (·.1) = false := by rfl) : PE X (.Call (.Name x p) (e :: es) [] pos) (tCB r t) := by
  intro pins s σ H Q I h
  refine wpAny_Call_Name_kw (ld_blt I hg hm hv ?_ hn hdb)
  exact PyProof.Rows.callWith_builtin1 (thn (ha pos pins s σ H _ I h) fun us s1 ⟨vs, H1, I1, r1, q1⟩ => hc pins s1 σ H1 vs us Q I1 r1 q1) he hpl
theorem pe_callTy (hc : CallR X (.type T) r) (hg : Gl X x) (hm : X.mg x = none) (hv : bootBuiltins x = some (.type T)) (ha : PA X (e :: es) t) (hn : x ≠ "__name__" := by decide) (hdb : (x == ("__debug__" : Str)) = false := by decide)
    (he : starEach (e :: es) X.env = (false, eval e X.env) :: starEach es X.env := by rfl) (hpl : (backTo pos (starEach es X.env)).any (·.1) = false := by rfl) : PE X (.Call (.Name x p) (e :: es) [] pos) (tCB r t) := by
  intro pins s σ H Q I h
  refine wpAny_Call_Name_kw (ld_blt I hg hm hv ?_ hn hdb)
  exact PyProof.Rows.callWith_type1 (thn (ha pos pins s σ H _ I h) fun us s1 ⟨vs, H1, I1, r1, q1⟩ => hc pins s1 σ H1 vs us Q I1 r1 q1) he hpl
end
end L2
namespace HT
open PySem PyProof.Rows
section
open PySem.SeqAt
open PySem.AutoSeq1 (wpAny_loadPart')
open PySem.MeetsSeq PySem.MeetsSeq2 PySem.MeetsSeq3
end
section
variable {prog : Program} {w : World} {A : Around} {E : Value → Shared → Prop} {s : Shared}
theorem cat_tup {t b : Addr} {vs ws : List Value} {Q : Value → Shared → Prop} (ht : IsTup s.heap t vs.toArray) (hb : IsTup s.heap b ws.toArray) (hv : vs ≠ [])
    (h1 : ws = [] → Q (.ref t) s) (h2 : ws ≠ [] → Q (.ref s.heap.objs.size) { s with heap := s.heap.push { cls := .type "tuple", data := .seq (vs ++ ws).toArray } })
    (hsz : vs.length + ws.length ≤ sizeLine) : wpAny (model prog w) A (binaryOp .Add (.ref t) (.ref b)) Q E s := by
  obtain ⟨⟨cls, dd, data, sl⟩, ho, hc, n, hd⟩ := id ht
  obtain ⟨⟨cls2, dd2, data2, sl2⟩, ho2, hc2, n2, hd2⟩ := id hb
  simp only at hc hd hc2 hd2
  subst hc hd hc2 hd2
  have e : vs.toArray ++ ws.toArray = (vs ++ ws).toArray := by simp
  by_cases hw : ws = []
  · exact concat_meets ⟨_, ho, rfl⟩ ⟨_, ho2, rfl⟩ noFill_tuple_add seq_tuple_add PySem.F.slot_tuple_add PySem.F.entry_tuple_add (PySem.F.args_tuple_add_2 _ _)
      (tuple_addW1 t b vs.toArray ws.toArray n n2 dd dd2 sl sl2 (by simpa using hv) (by simp [hw])) ⟨ho, ho2, h1 hw⟩
  · refine concat_meets ⟨_, ho, rfl⟩ ⟨_, ho2, rfl⟩ noFill_tuple_add seq_tuple_add PySem.F.slot_tuple_add PySem.F.entry_tuple_add (PySem.F.args_tuple_add_2 _ _)
      (tuple_addW2 t b vs.toArray ws.toArray n n2 dd dd2 sl sl2 (by simpa using hv) (by simpa using hw) (by rw [List.size_toArray, List.size_toArray]; exact hsz)) ⟨ho, ho2, ?_⟩
    rw [e]
    exact h2 hw
def sIx (n d : Nat) : Option Int → Nat
  | none => d
  | some v => if v < 0 then (v + (n : Int)).toNat else min v.toNat n
theorem sIx_none (n d : Nat) : sIx n d none = d := rfl
theorem sIx_nat (n d k : Nat) : sIx n d (some (k : Int)) = min k n := by
  show (if (k : Int) < 0 then ((k : Int) + (n : Int)).toNat else min (k : Int).toNat n) = min k n
  rw [if_neg (by omega), Int.toNat_natCast]
theorem sIx_le (n d : Nat) (hd : d ≤ n) (o : Option Int) : sIx n d o ≤ n := by
  cases o with
  | none => exact hd
  | some v =>
    show (if v < 0 then (v + (n : Int)).toNat else min v.toNat n) ≤ n
    by_cases hv : v < 0
    · rw [if_pos hv]; omega
    · rw [if_neg hv]; exact Nat.min_le_right _ _
theorem clip_eq (v : Int) (n d : Nat) : (if v < 0 then max (v + (n : Int)) 0 else min v (n : Int)) = ((sIx n d (some v) : Nat) : Int) := by
  show (if v < 0 then max (v + (n : Int)) 0 else min v (n : Int)) = (((if v < 0 then (v + (n : Int)).toNat else min v.toNat n) : Nat) : Int)
  by_cases hv : v < 0
  · simp only [if_pos hv]; omega
  · simp only [if_neg hv]; omega
theorem adjust_gen (lo hi : Option Int) (n : Nat) : Builtin.Slice.sliceAdjust lo hi 1 (n : Int) = (((sIx n 0 lo : Nat) : Int), ((sIx n n hi : Nat) : Int)) := by
  have h1 : ¬ ((1 : Int) < 0) := by omega
  unfold Builtin.Slice.sliceAdjust
  simp only [h1, if_false]
  refine Prod.ext ?_ ?_
  · cases lo with
    | none => rfl
    | some v => exact clip_eq v n 0
  · cases hi with
    | none => rfl
    | some v => exact clip_eq v n n
theorem places_gen (i j : Nat) : Builtin.Slice.slicePlaces (i : Int) (j : Int) 1 = j - i := by
  unfold Builtin.Slice.slicePlaces
  have h1 : (1 : Int) > 0 := by omega
  simp only [h1, if_true, Int.ediv_one]
  split <;> omega
theorem slicePart_ {v : Value} {o : Option Int} {Q : Option Int → Shared → Prop} (p : IsPart v o) (h : Q o s) : wpAny (model prog w) A (Builtin.Slice.slicePartIndex v) Q E s := by
  cases p with
  | none => exact slicePart_none h
  | int i t => exact slicePart_int h
theorem sliceApplied_gen {sl : Addr} {vl vu : Value} {lo hi : Option Int} {n : Nat} {Q : Int × Int × Nat → Shared → Prop} (hs : s.heap.IsSliceOf sl vl vu .none) (pl : IsPart vl lo) (pu : IsPart vu hi)
    (h : Q (((sIx n 0 lo : Nat) : Int), 1, sIx n n hi - sIx n 0 lo) s) : wpAny (model prog w) A (Builtin.Slice.sliceApplied (.ref sl) (pure (n : Int))) Q E s := by
  obtain ⟨os, hos, hcs, hds⟩ := id hs
  unfold Builtin.Slice.sliceApplied Builtin.Slice.sliceFields
  refine wpAny_bind (wpAny_bind (wpAny_field hos hds (x := vl) rfl (wpAny_bind (wpAny_field hos hds (x := vu) rfl (wpAny_bind (wpAny_field hos hds (x := .none) rfl (wpAny_pure ?_)))))))
  refine wpAny_bind (slicePart_none ?_)
  show wpAny _ _ (if ((1 : Int) == 0) = true then _ else _) _ _ s
  rw [if_neg (by decide)]
  refine wpAny_bind (slicePart_ pl (wpAny_bind (slicePart_ pu (wpAny_bind (wpAny_pure ?_)))))
  show wpAny _ _ (match Builtin.Slice.sliceAdjust lo hi 1 (n : Int) with | (lo, hi) => pure (lo, (1 : Int), Builtin.Slice.slicePlaces lo hi 1)) _ _ s
  rw [adjust_gen lo hi n]
  show wpAny _ _ (pure (((sIx n 0 lo : Nat) : Int), (1 : Int), Builtin.Slice.slicePlaces ((sIx n 0 lo : Nat) : Int) ((sIx n n hi : Nat) : Int) 1)) _ _ s
  rw [places_gen]
  exact wpAny_pure h
theorem pick_gen (xs : Array Value) (i k : Nat) : ((List.range k).filterMap fun (m : Nat) => xs[((i : Int) + (m : Int) * 1).toNat]?).toArray = ((xs.toList.drop i).take k).toArray := by
  have e : (fun (m : Nat) => xs[((i : Int) + (m : Int) * 1).toNat]?) = fun m => xs[i + m]? := by
    funext m
    have : ((i : Int) + (m : Int) * 1).toNat = i + m := by omega
    rw [this]
  rw [e]
  have := pick_run xs i k
  rw [List.filterMap_map] at this
  have e2 : ((fun x => xs[x]?) ∘ fun x => i + x) = fun m => xs[i + m]? := rfl
  rw [e2] at this
  rw [this]
theorem getItem_tuple_cut {t sl : Addr} {items : Array Value} {vl vu : Value} {lo hi : Option Int} {Q : Value → Shared → Prop} (ht : IsTup s.heap t items) (hs : s.heap.IsSliceOf sl vl vu .none) (pl : IsPart vl lo) (pu : IsPart vu hi)
    (hw : ¬ (sIx items.size 0 lo = 0 ∧ sIx items.size items.size hi = items.size))
    (h : Q (.ref s.heap.objs.size) { s with heap := s.heap.push { cls := .type "tuple", data := .seq ((items.toList.drop (sIx items.size 0 lo)).take (sIx items.size items.size hi - sIx items.size 0 lo)).toArray } })
    (hsz : items.size ≤ sizeLine) : wpAny (model prog w) A (getItem (.ref t) (.ref sl)) Q E s := by
  have htake : sizeOk (.seq ((items.toList.drop (sIx items.size 0 lo)).take (sIx items.size items.size hi - sIx items.size 0 lo)).toArray) := by
    show ((items.toList.drop (sIx items.size 0 lo)).take (sIx items.size items.size hi - sIx items.size 0 lo)).toArray.size ≤ sizeLine
    rw [List.size_toArray, List.length_take, List.length_drop, Array.length_toList]
    omega
  have hj : sIx items.size items.size hi ≤ items.size := sIx_le _ _ (Nat.le_refl _) hi
  obtain ⟨os, hos, hcs, hds⟩ := id hs
  have hTs : s.TypeIs (.ref sl) "slice" := ⟨os, hos, hcs⟩
  unfold getItem
  try with_reducible refine wpAny_holding ?_
  first | refine wpAny_bind (wpAny_pure ?_) | skip
  refine wpAny_bind (wpAny_sequenceKey ht.typeIs (by decide) ?_)
  refine wpAny_bind (wpAny_callSpecial?_slot (name := Str.ofString "__getitem__") ht.typeIs PyProof.Rows.slot_tuple_getitem
    (wpAny_call_entry PyProof.Rows.slot_tuple_getitem ht.typeIs entry_tuple_getitem ?_ (args_tuple_getitem _ _)))
  show wpAny _ _ (Builtin.Tuple.tupleItemsOf (.ref t) >>= _) _ _ s
  refine wpAny_bind (tupleItemsOf_ ht ?_)
  refine wpAny_bind (wpAny_typeOf hTs ?_)
  rw [if_pos (by decide)]
  refine wpAny_bind (sliceApplied_gen hs pl pu ?_)
  have hno : ¬ ((((sIx items.size 0 lo : Nat) : Int) == 0 && (1 : Int) == 1 && (sIx items.size items.size hi - sIx items.size 0 lo) == items.size) = true) := by
    intro q
    rw [Bool.and_eq_true, Bool.and_eq_true] at q
    have q1 : ((sIx items.size 0 lo : Nat) : Int) = 0 := eq_of_beq q.1.1
    have q2 : sIx items.size items.size hi - sIx items.size 0 lo = items.size := eq_of_beq q.2
    exact hw ⟨by omega, by omega⟩
  show wpAny _ _ (if (((sIx items.size 0 lo : Nat) : Int) == 0 && (1 : Int) == 1 && (sIx items.size items.size hi - sIx items.size 0 lo) == items.size) = true then _ else _) _ _ s
  rw [if_neg hno, pick_gen]
  first
    | exact wpAny_bind (m := Builtin.Tuple.tupleExact _) (wpAny_newObj_type (wpAny_pure ⟨_, rfl, wpAny_pure h⟩) htake)
    | exact wpAny_bind (m := Builtin.Tuple.tupleExact _) (wpAny_newObj_type (wpAny_bind (wpAny_pure (wpAny_pure ⟨_, rfl, wpAny_pure h⟩))) htake)
    | exact wpAny_bind (wpAny_bind (m := Builtin.Tuple.tupleExact _) (wpAny_newObj_type (wpAny_pure (wpAny_pure ⟨_, rfl, wpAny_pure h⟩)) htake))
    | exact wpAny_bind (wpAny_bind (m := Builtin.Tuple.tupleExact _) (wpAny_newObj_type (wpAny_pure ⟨_, rfl, wpAny_pure h⟩) htake))
end
end HT
namespace L2
open PySem PySem.Spec PyProof.Rows
abbrev TO := St → Hp → (Option Int → Hp → Prop) → Prop
def PO (X : Cx) (e : Option Expr) (t : TO) : Prop :=
  ∀ (pins : List (Addr × Obj)) (s : Shared) (σ : St) (H : Hp) (Q : Option Int → Hp → Prop), Inv X pins σ H s → t σ H Q →
    wpAny (model X.prog X.w) X.A (evalPart e X.env) (fun u s' => ∃ o H', Inv X pins σ H' s' ∧ IsPart u o ∧ Q o H') X.xe s
def tNoPart : TO := fun _ H Q => Q none H
def tPart (t : TE) : TO := fun σ H Q => t σ H fun x H1 => ∃ i, x = .int i ∧ Q (some i) H1
theorem intsAre_of {ns : List Int} : ∀ {us : List Value}, Vals (ns.map V.int) us → IntsAre us ns := by
  induction ns with
  | nil => intro us r; rw [List.map_nil] at r; cases r; exact .nil
  | cons n ns ih =>
    intro us r
    rw [List.map_cons] at r
    cases r with
    | cons r1 r2 =>
      obtain ⟨t, e⟩ := r1
      subst e
      exact .cons n t (ih r2)
section
variable {X : Cx} {e : Expr} {te : TE} {lo hi : Option Expr} {tl th : TO} {pos p2 : Pos}
theorem po_none : PO X none tNoPart := by
  intro pins s σ H Q I h
  rw [evalPart_none]
  exact wpAny_pure ⟨none, H, I, .none, h⟩
theorem po_some (h : PE X e te) : PO X (some e) (tPart te) := by
  intro pins s σ H Q I hw
  rw [evalPart_some]
  refine thn (h pins s σ H _ I hw) fun u s1 ⟨x, H1, I1, r1, q1⟩ => ?_
  obtain ⟨i, rfl, q⟩ := q1
  obtain ⟨t, rfl⟩ := r1
  exact ⟨some i, H1, I1, .int i t, q⟩
def SlR (X : Cx) (r : V → Option Int → Option Int → Hp → VK → Prop) : Prop :=
  ∀ (pins : List (Addr × Obj)) (s : Shared) (σ : St) (H : Hp) (x : V) (v vl vu : Value) (lo hi : Option Int) (sl : Addr) (Q : VK), Inv X pins σ H s → RelV x v → s.heap.IsSliceOf sl vl vu .none → IsPart vl lo → IsPart vu hi → r x lo hi H Q →
    ∃ T id, typeLookup (.type T) "__getitem__" = pure (some (.builtin id)) ∧ s.TypeIs v T ∧ wpAny (model X.prog X.w) X.A (getItem v (.ref sl)) (EP X pins σ Q) X.xe s
theorem SlR.or {r r' : V → Option Int → Option Int → Hp → VK → Prop} (h : SlR X r) (h' : SlR X r') : SlR X (fun x lo hi H Q => r x lo hi H Q ∨ r' x lo hi H Q) := by
  intro pins s σ H x v vl vu lo hi sl Q I rx hs pl pu q
  rcases q with q | q
  · exact h pins s σ H x v vl vu lo hi sl Q I rx hs pl pu q
  · exact h' pins s σ H x v vl vu lo hi sl Q I rx hs pl pu q
def tSl (r : V → Option Int → Option Int → Hp → VK → Prop) (te : TE) (tl th : TO) : TE := fun σ H Q => te σ H fun x H1 => tl σ H1 fun l H2 => th σ H2 fun u H3 => r x l u H3 Q
theorem pe_slice {r : V → Option Int → Option Int → Hp → VK → Prop} (hr : SlR X r) (he : PE X e te) (hl : PO X lo tl) (hu : PO X hi th) : PE X (.Subscript e (.Slice lo hi none p2) pos) (tSl r te tl th) := by
  intro pins s σ H Q I h
  refine Subscript_ (thn (he pins s σ H _ I h) fun v s1 ⟨x, H1, I1, r1, q1⟩ => ?_)
  refine wpAny_Slice (thn (hl pins s1 σ H1 _ I1 q1) fun vl s2 ⟨l, H2, I2, pl, q2⟩ => thn (hu pins s2 σ H2 _ I2 q2) fun vu s3 ⟨u, H3, I3, pu, q3⟩ => ?_)
  rw [evalPart_none]
  refine wpAny_pure ?_
  have I4 : Inv X pins σ H3 { s3 with heap := s3.heap.push { cls := .type "slice", data := .fields #[vl, vu, .none] } } := I3.kept (t' := s3.toks) fun b ob q => Heap.get?_push_of_some _ q
  obtain ⟨T, id, hT, ht, hg⟩ := hr pins { s3 with heap := s3.heap.push { cls := .type "slice", data := .fields #[vl, vu, .none] } } σ H3 x v vl vu l u s3.heap.objs.size Q I4 r1 (Heap.IsSliceOf.new ..) pl pu q3
  show wpAny (model X.prog X.w) X.A (subscriptTail e (.Slice lo hi none p2) v (.ref s3.heap.objs.size)) (EP X pins σ Q) X.xe { s3 with heap := s3.heap.push { cls := .type "slice", data := .fields #[vl, vu, .none] } }
  exact tail_any (ops := [.ref s3.heap.objs.size, v]) ht hT hg (by with_unfolding_all rfl)
def cutV (xs : List V) (lo hi : Option Int) : List V := (xs.drop (HT.sIx xs.length 0 lo)).take (HT.sIx xs.length xs.length hi - HT.sIx xs.length 0 lo)
theorem cutV_length (xs : List V) (lo hi : Option Int) : (cutV xs lo hi).length ≤ xs.length := by
  unfold cutV
  rw [List.length_take, List.length_drop]
  omega
def rSlT (K : PySem.W.Frag) : V → Option Int → Option Int → Hp → VK → Prop := fun x lo hi H Q => ∃ a xs, x = .ref a ∧ SqT K H a xs ∧
  ¬ (HT.sIx xs.length 0 lo = 0 ∧ HT.sIx xs.length xs.length hi = xs.length) ∧ ∀ p, H p = none → Q (.ref p) (upd H p (.tup (cutV xs lo hi)))
theorem sl_tup : SlR X (rSlT X.K) := by
  intro pins s σ H x v vl vu lo hi sl Q I rx hs pl pu h
  obtain ⟨a, xs, rfl, hx, hw, q⟩ := h
  cases rx
  obtain ⟨its, r, ht, hz⟩ := I.tuple hx
  have hlen : its.toArray.size = xs.length := by rw [List.size_toArray]; exact r.length.symm
  refine ⟨"tuple", _, PyProof.Rows.slot_tuple_getitem.lookup, ht.typeIs, ?_⟩
  refine HT.getItem_tuple_cut ht hs pl pu (by rw [hlen]; exact hw) ?_ (by rw [hlen]; exact hz)
  rw [hlen]
  refine ⟨.ref s.heap.objs.size, _, I.laid (t' := s.toks) (o := .tup (cutV xs lo hi)) (fun b ob q => Heap.get?_push_of_some _ q) (Nat.le_refl _) ?_, rfl, q _ (I.hok.fresh (Nat.le_refl _))⟩
  exact ⟨Nat.le_trans (cutV_length xs lo hi) hz, _, (r.drop (HT.sIx xs.length 0 lo)).take (HT.sIx xs.length xs.length hi - HT.sIx xs.length 0 lo), IsTup.new _ _⟩
def rCatT (K : PySem.W.Frag) : R2 := fun x y H Q => ∃ a b xs ys, x = .ref a ∧ y = .ref b ∧ SqT K H a xs ∧ SqT K H b ys ∧ xs ≠ [] ∧ xs.length + ys.length ≤ sizeLine ∧
  (ys = [] → Q (.ref a) H) ∧ (ys ≠ [] → ∀ p, H p = none → Q (.ref p) (upd H p (.tup (xs ++ ys))))
theorem Vals.nil_iff {xs : List V} {us : List Value} (r : Vals xs us) : us = [] ↔ xs = [] := by
  cases r with
  | nil => simp
  | cons _ _ => simp
theorem op_catT : OpR X (binaryOp .Add) (rCatT X.K) := by
  intro pins s σ H x y v u Q I rx ry h
  obtain ⟨a, b, xs, ys, rfl, rfl, ha, hb, hx, hz, q1, q2⟩ := h
  cases rx
  cases ry
  obtain ⟨its, r1, p1, _⟩ := I.tuple ha
  obtain ⟨its2, r2, p2, _⟩ := I.tuple hb
  refine HT.cat_tup p1 p2 (fun z => hx (r1.nil_iff.mp z)) (fun z => ⟨.ref a, H, I, rfl, q1 (r2.nil_iff.mp z)⟩) (fun z => ?_) (by rw [← r1.length, ← r2.length]; exact hz)
  refine ⟨.ref s.heap.objs.size, _, I.laid (t' := s.toks) (o := .tup (xs ++ ys)) (fun b ob q => Heap.get?_push_of_some _ q) (Nat.le_refl _) ?_, rfl, q2 (fun w => z (r2.nil_iff.mpr w)) _ (I.hok.fresh (Nat.le_refl _))⟩
  exact ⟨by rw [List.length_append]; exact hz, _, r1.append r2, IsTup.new _ _⟩
end
end L2
namespace L2
open PySem PySem.Spec PyProof.Rows
def ixN (n : Nat) (i : Int) : Option Nat := if 0 ≤ i then (if i < n then some i.toNat else none) else if -(n : Int) ≤ i then some (i + n).toNat else none
def atI {α : Type} (xs : List α) (i : Int) : Option α := (ixN xs.length i).bind fun j => xs[j]?
theorem ixN_seq {n : Nat} {i : Int} {j : Nat} (h : ixN n i = some j) : seqIndex? i n = some j ∧ j < n ∧ -(n : Int) ≤ i ∧ i < n := by
  unfold ixN at h
  by_cases h0 : 0 ≤ i
  · rw [if_pos h0] at h
    by_cases h1 : i < n
    · rw [if_pos h1] at h
      have e : i.toNat = j := Option.some.inj h
      exact ⟨by rw [seqIndex_of h0 h1, e], by omega, by omega, h1⟩
    · rw [if_neg h1] at h; cases h
  · rw [if_neg h0] at h
    by_cases h1 : -(n : Int) ≤ i
    · rw [if_pos h1] at h
      have e : (i + n).toNat = j := Option.some.inj h
      exact ⟨by rw [seqIndex_neg (by omega) h1, e], by omega, h1, by omega⟩
    · rw [if_neg h1] at h; cases h
theorem atI_get {α : Type} {xs : List α} {i : Int} {v : α} (h : atI xs i = some v) : ∃ j, seqIndex? i xs.length = some j ∧ xs[j]? = some v ∧ j < xs.length ∧ -(xs.length : Int) ≤ i ∧ i < xs.length := by
  unfold atI at h
  cases e : ixN xs.length i with
  | none => rw [e] at h; cases h
  | some j =>
    rw [e] at h
    obtain ⟨h1, h2, h3, h4⟩ := ixN_seq e
    exact ⟨j, h1, h, h2, h3, h4⟩
theorem atI_last {α : Type} (xs : List α) (v : α) : atI (xs ++ [v]) (-1) = some v := by
  have hl : (xs ++ [v]).length = xs.length + 1 := by simp
  have e : ixN (xs ++ [v]).length (-1) = some xs.length := by
    unfold ixN
    rw [hl, if_neg (by decide), if_pos (by omega)]
    congr 1
    omega
  unfold atI
  rw [e]
  show (xs ++ [v])[xs.length]? = some v
  simp
def PlainIx (b : Expr) : Prop := ∀ o i, subscripted b false o i = operate [o, i] (getItem o i)
def IxR (X : Cx) (r : R2) : Prop :=
  ∀ (value slice : Expr) (pins : List (Addr × Obj)) (s : Shared) (σ : St) (H : Hp) (x y : V) (v u : Value) (Q : VK), Inv X pins σ H s → RelV x v → RelV y u → r x y H Q →
    subscripted slice false v u = operate [v, u] (getItem v u) → wpAny (model X.prog X.w) X.A (subscriptTail value slice v u) (EP X pins σ Q) X.xe s
def MtR (X : Cx) (id : String) (r : V → List V → Hp → VK → Prop) : Prop :=
  ∀ (pins : List (Addr × Obj)) (s : Shared) (σ : St) (H : Hp) (x : V) (xs : List V) (v : Value) (us : List Value) (Q : VK), Inv X pins σ H s → RelV x v → Vals xs us → r x xs H Q →
    wpAny (model X.prog X.w) X.A (call (.builtin id) (v :: us)) (EP X pins σ Q) X.xe s
section
variable {X : Cx} {a b : Expr} {ta tb : TE} {pos : Pos}
theorem IxR.or {r r' : R2} (h : IxR X r) (h' : IxR X r') : IxR X (fun x y H Q => r x y H Q ∨ r' x y H Q) := by
  intro value slice pins s σ H x y v u Q I rx ry q hs
  rcases q with q | q
  · exact h value slice pins s σ H x y v u Q I rx ry q hs
  · exact h' value slice pins s σ H x y v u Q I rx ry q hs
theorem MtR.or {id : String} {r r' : V → List V → Hp → VK → Prop} (h : MtR X id r) (h' : MtR X id r') : MtR X id (fun x xs H Q => r x xs H Q ∨ r' x xs H Q) := by
  intro pins s σ H x xs v us Q I rx rs q
  rcases q with q | q
  · exact h pins s σ H x xs v us Q I rx rs q
  · exact h' pins s σ H x xs v us Q I rx rs q
theorem pe_ix {r : R2} (hr : IxR X r) (ha : PE X a ta) (hb : PE X b tb) (hs : PlainIx b) : PE X (.Subscript a b pos) (tOp r ta tb) := by
  intro pins s σ H Q I h
  exact Subscript_ (binT ha hb I h fun v u s2 x y H2 I2 rx ry q => hr a b pins s2 σ H2 x y v u Q I2 rx ry q (hs _ _))
def rIxL (K : PySem.W.Frag) : R2 := fun x y H Q => ∃ p xs i v, x = .ref p ∧ y = .int i ∧ SqL K H p xs ∧ atI xs i = some v ∧ Q v H
def rIxT (K : PySem.W.Frag) : R2 := fun x y H Q => ∃ p xs i v, x = .ref p ∧ y = .int i ∧ SqT K H p xs ∧ atI xs i = some v ∧ Q v H
def rIxS : R2 := fun x y H Q => ∃ z i c, x = .str z ∧ y = .int i ∧ z.length ≤ sizeLine ∧ atI z.cps.toList i = some c ∧ Q (.str ⟨#[c]⟩) H
theorem ix_list : IxR X (rIxL X.K) := by
  intro value slice pins s σ H x y v u Q I rx ry h hs
  obtain ⟨p, xs, i, z, rfl, rfl, hq, he, q⟩ := h
  cases rx
  obtain ⟨t, rfl⟩ := ry
  obtain ⟨its, r, pl, hz⟩ := I.list hq
  obtain ⟨j, h1, h2, h3, h4, h5⟩ := atI_get he
  obtain ⟨w, ew, rw'⟩ := r.get h2
  have hl := r.length
  have hn := line63
  have fin : EP X pins σ Q w s := ⟨z, H, I, rw', q⟩
  by_cases h0 : 0 ≤ i
  · have hj : i.toNat = j := by
      rw [seqIndex_of h0 h5] at h1
      exact Option.some.inj h1
    exact item_listR pl.isList h0 (by omega) (by rw [hj]; simpa using ew) fin hs
  · have hj : (i + (its.toArray.size : Int)).toNat = j := by
      rw [seqIndex_neg (by omega) h4] at h1
      rw [List.size_toArray, ← hl]
      exact Option.some.inj h1
    exact subscriptTail_builtinR (x := w) pl.isList.typeIs slot_list_getitem.lookup
      (wpAny_getItem_list_neg (Q := fun r s' => r = w ∧ EP X pins σ Q r s') pl.isList (by omega) (by rw [List.size_toArray] <;> omega) (by omega) (by rw [hj]; simpa using ew) ⟨rfl, fin⟩) hs
theorem ix_tup : IxR X (rIxT X.K) := by
  intro value slice pins s σ H x y v u Q I rx ry h hs
  obtain ⟨p, xs, i, z, rfl, rfl, hq, he, q⟩ := h
  cases rx
  obtain ⟨t, rfl⟩ := ry
  obtain ⟨its, r, pl, hz⟩ := I.tuple hq
  obtain ⟨j, h1, h2, h3, h4, h5⟩ := atI_get he
  obtain ⟨w, ew, rw'⟩ := r.get h2
  have hl := r.length
  have hn := line63
  have fin : EP X pins σ Q w s := ⟨z, H, I, rw', q⟩
  exact subscriptTail_builtinR (x := w) pl.typeIs slot_tuple_getitem.lookup
    (getItem_tuple (j := j) (Q := fun r s' => r = w ∧ EP X pins σ Q r s') pl (by omega) (by omega) (by rw [List.size_toArray, ← hl]; exact h1) (by simpa using ew) ⟨rfl, fin⟩) hs
theorem ix_str : IxR X rIxS := by
  intro value slice pins s σ H x y v u Q I rx ry h hs
  obtain ⟨z, i, c, rfl, rfl, hz, he, q⟩ := h
  obtain ⟨t, rfl⟩ := rx
  obtain ⟨t', rfl⟩ := ry
  obtain ⟨j, h1, h2, h3, h4, h5⟩ := atI_get he
  have hl : z.cps.toList.length = z.length := by simp [Str.length]
  rw [hl] at h1 h4 h5
  have hn := line63
  exact tail_any (typeIs_str s z t) slot_str_getitem.lookup (getItem_str (c := c) (by
    have e1 : decide (i < -(2 ^ 63 : Int)) = false := decide_eq_false (by omega)
    have e2 : decide (i ≥ 2 ^ 63) = false := decide_eq_false (by omega)
    rw [e1, e2, Bool.or_false]) (by rw [h1]; simpa using h2) ⟨.str ⟨#[c]⟩, H, I.tok _, ⟨_, rfl⟩, q⟩) hs
def rIx (K : PySem.W.Frag) : R2 := fun x y H Q => rIxL K x y H Q ∨ rIxT K x y H Q ∨ rIxS x y H Q
theorem ix_seq : IxR X (rIx X.K) := ix_list.or (ix_tup.or ix_str)
theorem mapSeq_set (its : List Value) (n j : Nat) (u : Value) : Obj.mapSeq (·.setIfInBounds j u) { cls := .type "list", data := .seq its.toArray n } = { cls := .type "list", data := .seq (its.set j u).toArray n } := by
  simp [Obj.mapSeq]
theorem Inv.lst {pins : List (Addr × Obj)} {σ : St} {H : Hp} {s : Shared} {p : Addr} {xs : List V} (I : Inv X pins σ H s) (h : H p = some (.lst xs)) :
    ∃ (its : List Value) (n : Nat), Vals xs its ∧ s.heap.get? p = some { cls := .type "list", data := .seq its.toArray n } ∧ xs.length ≤ sizeLine := by
  obtain ⟨z, its, n, r, e⟩ := I.hok p _ h
  exact ⟨its, n, r, e, z⟩
theorem Inv.lstUpd {pins : List (Addr × Obj)} {σ : St} {H : Hp} {s : Shared} {p : Addr} {xs ys : List V} {its its' : List Value} {n n' : Nat} {f : Obj → Obj} (I : Inv X pins σ H s) (h : H p = some (.lst xs))
    (ho : s.heap.get? p = some { cls := .type "list", data := .seq its.toArray n }) (hf : f { cls := .type "list", data := .seq its.toArray n } = { cls := .type "list", data := .seq its'.toArray n' }) (r : Vals ys its') (hz : ys.length ≤ sizeLine) (t : Nat) :
    Inv X pins σ (upd H p (.lst ys)) { s with heap := s.heap.update p f, toks := t } := by
  have e : (s.heap.update p f).get? p = some { cls := .type "list", data := .seq its'.toArray n' } := by
    rw [Heap.get?_update_self f ho (by rw [hf] <;> rfl), hf]
  refine I.write (x := p) (e := p) (by rw [h]; trivial) (.inl rfl) (fun b u hb q => (Heap.get?_update_other _ _ (Ne.symm hb)).trans q) ⟨_, e⟩ ?_
  exact ⟨hz, its', n', r, e⟩
def rSetL : V → V → V → Hp → (Hp → Prop) → Prop := fun o i v H Q => ∃ p xs k j, o = .ref p ∧ i = .int k ∧ H p = some (.lst xs) ∧ ixN xs.length k = some j ∧ Q (upd H p (.lst (xs.set j v)))
theorem set_list : PSet X rSetL := by
  intro pins s σ H o i v ov iv u Q I ro ri rv h
  obtain ⟨p, xs, k, j, rfl, rfl, hp, hj, q⟩ := h
  cases ro
  obtain ⟨t, rfl⟩ := ri
  obtain ⟨its, n, r, ho, hz⟩ := I.lst hp
  obtain ⟨h1, h2, h3, h4⟩ := ixN_seq hj
  have hl := r.length
  have hn := line63
  have I' : Inv X pins σ (upd H p (.lst (xs.set j v))) { s with heap := s.heap.update p (Obj.mapSeq (·.setIfInBounds j u)) } :=
    I.lstUpd hp ho (mapSeq_set its n j u) (r.set rv j) (by rw [List.length_set]; exact hz) s.toks
  by_cases h0 : 0 ≤ k
  · have hk : k.toNat = j := by
      rw [seqIndex_of h0 h4] at h1
      exact Option.some.inj h1
    exact PySem.W.ki_setAt ho h0 (by omega) (by rw [List.size_toArray, ← hl]; exact h4) (by rw [hk]; exact ⟨_, I', q⟩)
  · have hk : (k + (its.toArray.size : Int)).toNat = j := by
      rw [seqIndex_neg (by omega) h3] at h1
      rw [List.size_toArray, ← hl]
      exact Option.some.inj h1
    exact PySem.W.ki_setBack ho (by omega) (by rw [List.size_toArray, ← hl]; exact h3) (by omega) (by rw [hk]; exact ⟨_, I', q⟩)
theorem slice_bounds (lo hi : Option Int) (n : Nat) : (sliceBounds lo hi none n).1 = ((HT.sIx n 0 lo : Nat) : Int) ∧ (sliceBounds lo hi none n).2.1 = ((HT.sIx n n hi : Nat) : Int) ∧ (sliceBounds lo hi none n).2.2 = 1 := by
  refine ⟨?_, ?_, rfl⟩
  · cases lo with
    | none => simp [sliceBounds, HT.sIx]
    | some i =>
      simp only [sliceBounds, HT.sIx, Option.getD_none, show (1 : Int) > 0 by decide, if_true]
      by_cases h : i < 0
      · simp only [h, if_true] <;> omega
      · simp only [h, if_false] <;> omega
  · cases hi with
    | none => simp [sliceBounds, HT.sIx]
    | some i =>
      simp only [sliceBounds, HT.sIx, Option.getD_none, show (1 : Int) > 0 by decide, if_true]
      by_cases h : i < 0
      · simp only [h, if_true] <;> omega
      · simp only [h, if_false] <;> omega
theorem slicePick_cut (its : List Value) (lo hi : Option Int) : slicePick its.toArray lo hi none = ((its.drop (HT.sIx its.length 0 lo)).take (HT.sIx its.length its.length hi - HT.sIx its.length 0 lo)).toArray := by
  obtain ⟨h1, h2, h3⟩ := slice_bounds lo hi its.toArray.size
  unfold slicePick
  rw [h1, h2, h3]
  simp only [sliceRange_one, pick_run, List.size_toArray] <;> rfl
def rSlL (K : PySem.W.Frag) : V → Option Int → Option Int → Hp → VK → Prop := fun x lo hi H Q => ∃ a xs, x = .ref a ∧ SqL K H a xs ∧ ∀ p, H p = none → Q (.ref p) (upd H p (.lst (cutV xs lo hi)))
theorem sl_list : SlR X (rSlL X.K) := by
  intro pins s σ H x v vl vu lo hi sl Q I rx hs pl pu h
  obtain ⟨a, xs, rfl, hx, q⟩ := h
  cases rx
  obtain ⟨its, r, ht, hz⟩ := I.list hx
  have hlen := r.length
  refine ⟨"list", _, slot_list_getitem.lookup, ht.isList.typeIs, ?_⟩
  refine wpAny_getItem_list_slice ht.isList hs pl pu .none (by simp) ?_ (by rw [List.size_toArray] <;> omega)
  rw [slicePick_cut, ← hlen]
  refine ⟨.ref s.heap.objs.size, _, I.laid (t' := s.toks) (o := .lst (cutV xs lo hi)) (fun b ob q => Heap.get?_push_of_some _ q) (Nat.le_refl _) ?_, rfl, q _ (I.hok.fresh (Nat.le_refl _))⟩
  exact ⟨Nat.le_trans (cutV_length xs lo hi) hz, _, 0, (r.drop (HT.sIx xs.length 0 lo)).take (HT.sIx xs.length xs.length hi - HT.sIx xs.length 0 lo), Heap.get?_push_size _ rfl⟩
def flatV : V → Bool
  | .non => true
  | .bl _ => true
  | .int _ => true
  | .str _ => true
  | _ => false
def eqV : V → V → Bool
  | .non, .non => true
  | .bl a, .bl b => a == b
  | .bl a, .int b => (if a then 1 else 0) == b
  | .int a, .bl b => a == (if b then 1 else 0)
  | .int a, .int b => a == b
  | .str a, .str b => a == b
  | _, _ => false
theorem eqAt_V {A : Around} {s : Shared} {y x : V} {u v : Value} (ry : RelV y u) (rx : RelV x v) (fy : flatV y = true) (fx : flatV x = true) : SeqAt.EqAt A s u v (eqV y x) := by
  cases y with
  | non =>
    cases ry
    cases x with
    | non => cases rx; exact SeqAt.EqAt.same _
    | bl b => cases rx; exact SeqAt.EqAt.none_bool b
    | int b => obtain ⟨t, rfl⟩ := rx; exact SeqAt.EqAt.none_int b t
    | str b => obtain ⟨t, rfl⟩ := rx; exact SeqAt.EqAt.none_str b t
    | _ => exact absurd (show false = true from fx) Bool.false_ne_true
  | bl a =>
    cases ry
    cases x with
    | non => cases rx; exact SeqAt.EqAt.bool_none a
    | bl b => cases rx; exact SeqAt.EqAt.bool_bool a b
    | int b => obtain ⟨t, rfl⟩ := rx; exact SeqAt.EqAt.bool_int a b t
    | str b => obtain ⟨t, rfl⟩ := rx; exact SeqAt.EqAt.bool_str a b t
    | _ => exact absurd (show false = true from fx) Bool.false_ne_true
  | int a =>
    obtain ⟨t', rfl⟩ := ry
    cases x with
    | non => cases rx; exact SeqAt.EqAt.int_none a t'
    | bl b => cases rx; exact SeqAt.EqAt.int_bool a t' b
    | int b => obtain ⟨t, rfl⟩ := rx; exact SeqAt.EqAt.int_int a t' b t
    | str b => obtain ⟨t, rfl⟩ := rx; exact SeqAt.EqAt.int_str a t' b t
    | _ => exact absurd (show false = true from fx) Bool.false_ne_true
  | str a =>
    obtain ⟨t', rfl⟩ := ry
    cases x with
    | non => cases rx; exact SeqAt.EqAt.str_none a t'
    | bl b => cases rx; exact SeqAt.EqAt.str_bool a t' b
    | int b => obtain ⟨t, rfl⟩ := rx; exact SeqAt.EqAt.str_int a t' b t
    | str b => obtain ⟨t, rfl⟩ := rx; exact SeqAt.EqAt.str_str a t' b t
    | _ => exact absurd (show false = true from fx) Bool.false_ne_true
  | _ => exact absurd (show false = true from fy) Bool.false_ne_true
theorem call_len_seq : CallR X (.builtin "len") (fun xs H Q => ∃ p ys, xs = [.ref p] ∧ (SqL X.K H p ys ∨ SqT X.K H p ys) ∧ Q (.int ys.length) H) := by
  intro pins s σ H xs us Q I r h
  obtain ⟨p, ys, rfl, hq, q⟩ := h
  obtain ⟨u, rfl, rx⟩ := vals1 r
  cases rx
  have hn := line63
  rcases hq with hq | hq
  · obtain ⟨its, r', pl, hz⟩ := I.list hq
    have hlen := r'.length
    exact Calls.call_len_list pl.isList (by simp only [List.size_toArray] <;> omega) ⟨.int ys.length, H, I.tok _, ⟨s.toks + 1, by rw [List.size_toArray, hlen]⟩, q⟩
  · obtain ⟨its, r', pl, hz⟩ := I.tuple hq
    have hlen := r'.length
    exact len_tuple pl (by simp only [List.size_toArray] <;> omega) ⟨.int ys.length, H, I.tok _, ⟨s.toks + 1, by rw [List.size_toArray, hlen]⟩, q⟩
theorem call_len_str : CallR X (.builtin "len") (fun xs H Q => ∃ z, xs = [.str z] ∧ z.length ≤ sizeLine ∧ Q (.int z.length) H) := by
  intro pins s σ H xs us Q I r h
  obtain ⟨z, rfl, hz, q⟩ := h
  obtain ⟨u, rfl, t, rfl⟩ := vals1 r
  have hn := line63
  exact len_str (by omega) ⟨.int z.length, H, I.tok _, ⟨_, rfl⟩, q⟩
theorem CallR.or {f : Value} {r r' : List V → Hp → VK → Prop} (h : CallR X f r) (h' : CallR X f r') : CallR X f (fun xs H Q => r xs H Q ∨ r' xs H Q) := by
  intro pins s σ H xs us Q I rs q
  rcases q with q | q
  · exact h pins s σ H xs us Q I rs q
  · exact h' pins s σ H xs us Q I rs q
theorem call_list_of : CallR X (.type "list") (fun xs H Q => ∃ p ys, xs = [.ref p] ∧ (SqL X.K H p ys ∨ SqT X.K H p ys) ∧ ∀ l, H l = none → Q (.ref l) (upd H l (.lst ys))) := by
  intro pins s σ H xs us Q I r h
  obtain ⟨p, ys, rfl, hq, q⟩ := h
  obtain ⟨u, rfl, rx⟩ := vals1 r
  cases rx
  have fin : ∀ (its : List Value), Vals ys its → ys.length ≤ sizeLine → ∀ (h' : Heap) (c' : Nat), (∀ b o', s.heap.get? b = some o' → h'.get? b = some o') →
      h'.get? s.heap.objs.size = some { cls := .type "list", dict := none, data := .seq its.toArray c', slots := #[] } → EP X pins σ Q (.ref s.heap.objs.size) { s with heap := h' } := fun its r' hz h' c' kp e =>
    ⟨.ref s.heap.objs.size, _, I.laid (t' := s.toks) kp (Nat.le_refl _) (show ObjOk X.prog X.w _ h' _ (.lst ys) from ⟨hz, its, c', r', e⟩), rfl, q _ (I.hok.fresh (Nat.le_refl _))⟩
  rcases hq with hq | hq
  · obtain ⟨its, r', pl, hz⟩ := I.list hq
    have hlen := r'.length
    obtain ⟨o, ho, hc, n, hd⟩ := pl.isList
    exact call_list_seq p (.inl rfl) ho hc hd (fun h' c' kp e => fin its r' hz h' c' kp e) (by simp only [List.size_toArray] <;> omega)
  · obtain ⟨its, r', pl, hz⟩ := I.tuple hq
    have hlen := r'.length
    obtain ⟨o, ho, hc, n, hd⟩ := pl
    exact call_list_seq p (.inr rfl) ho hc hd (fun h' c' kp e => fin its r' hz h' c' kp e) (by simp only [List.size_toArray] <;> omega)
def tyV (K : PySem.W.Frag) (T : String) (x : V) (H : Hp) : Prop := match x with
  | .str _ => T = "str"
  | .int _ => T = "int"
  | .ref p => (T = "list" ∧ ∃ xs, SqL K H p xs) ∨ (T = "tuple" ∧ ∃ o, K.lookup p = some o ∧ o.cls = .type "tuple" ∧ o.dict = none) ∨
      (T = "dict" ∧ ((∃ kvs, H p = some (.dK kvs)) ∨ ∃ kvs, H p = some (.dT kvs))) ∨ (T = "set" ∧ ∃ S n, H p = some (.set S n))
  | _ => False
theorem tyV_is {pins : List (Addr × Obj)} {σ : St} {H : Hp} {s : Shared} {T : String} {x : V} {v : Value} (I : Inv X pins σ H s) (r : RelV x v) (ty : tyV X.K T x H) :
    s.TypeIs v T ∧ ∀ a, v = .ref a → ∃ ob, s.heap.get? a = some ob ∧ ob.dict = none := by
  cases x with
  | str z =>
    obtain ⟨t, rfl⟩ := r
    cases (show T = "str" from ty)
    exact ⟨typeIs_str s z t, fun _ e => nomatch e⟩
  | int i =>
    obtain ⟨t, rfl⟩ := r
    cases (show T = "int" from ty)
    exact ⟨typeIs_int s i t, fun _ e => nomatch e⟩
  | ref p =>
    cases r
    rcases ty with ⟨rfl, xs, hq⟩ | ⟨rfl, o, hk, hc, hd⟩ | ⟨rfl, hk⟩ | ⟨rfl, S, n, hk⟩
    · obtain ⟨its, _, pl, _⟩ := I.list hq
      refine ⟨pl.isList.typeIs, fun a e => ?_⟩
      cases e
      obtain ⟨o, n, e, c, hd, _⟩ := pl
      exact ⟨o, e, hd⟩
    · refine ⟨⟨o, I.kIn p o hk, hc⟩, fun a e => ?_⟩
      cases e
      exact ⟨o, I.kIn _ o hk, hd⟩
    · have z : ∃ o, s.heap.get? p = some o ∧ o.ExactDict := by
        rcases hk with ⟨kvs, hk⟩ | ⟨kvs, hk⟩
        · obtain ⟨_, _, _, _, o, _, _, e, ex, _⟩ := I.hok p _ hk
          exact ⟨o, e, ex⟩
        · obtain ⟨_, _, _, _, o, _, _, e, ex, _⟩ := I.hok p _ hk
          exact ⟨o, e, ex⟩
      obtain ⟨o, e, ex⟩ := z
      refine ⟨⟨o, e, ex.1⟩, fun a e2 => ?_⟩
      cases e2
      exact ⟨o, e, ex.2.1⟩
    · obtain ⟨o, _, _, _, e, ex, _⟩ := I.hok p _ hk
      refine ⟨⟨o, e, ex.1⟩, fun a e2 => ?_⟩
      cases e2
      exact ⟨o, e, ex.2.1⟩
  | _ => exact False.elim ty
def tBM (K : PySem.W.Frag) (T : String) (r : V → List V → Hp → VK → Prop) (to : TE) (t : TA) : TE := fun σ H Q => to σ H fun x H1 => tyV K T x H1 ∧ t σ H1 fun xs H2 => r x xs H2 Q
variable {o e : Expr} {es : List Expr} {to : TE} {t : TA} {name : Str} {apos cpos : Pos} {T id : String} {r : V → List V → Hp → VK → Prop}
theorem pe_bm (pa : PlainAttrs T) (slot : Slot T name id) (hty : typeOf (.builtin id) = pure (.type "method_descriptor")) (hm : MtR X id r) (ho : PE X o to) (ha : PA X (e :: es) t)
    (hbase : attributeBase o name X.env (eval o X.env) = eval o X.env := by rfl)
    (hfew : ((backTo cpos (starEach (e :: es) X.env)).all (fun x => !x.1) && (backToKw cpos (keywordEach [] X.env)).all (fun x => x.1.isSome)
      && decide ((e :: es).length + ([] : List Keyword).length + (if ([] : List Keyword).isEmpty then 0 else 1) < 30)) = true := by rfl)
    (hline : (apos.endLine == cpos.line) = true := by rfl) (hs : starEach (e :: es) X.env = (false, eval e X.env) :: starEach es X.env := by rfl) (hplain : (backTo cpos (starEach es X.env)).any (·.1) = false := by rfl) :
    PE X (.Call (.Attribute o name apos) (e :: es) [] cpos) (tBM X.K T r to t) := by
  intro pins s σ H Q I h
  refine wpAny_Call_method_late hbase hfew hline rfl (thn (ho pins s σ H _ I h) fun v s1 ⟨x, H1, I1, r1, ty, q1⟩ => ?_)
  obtain ⟨h1, h2⟩ := tyV_is I1 r1 ty
  refine ⟨T, id, pa, slot, hty, h1, h2, ?_⟩
  have hA := ha cpos pins s1 σ H1 _ I1 q1
  rw [hs] at hA ⊢
  refine Calls.callWith_builtin (by show (false || (backTo cpos (starEach es X.env)).any (·.1)) = false; rw [hplain] <;> rfl) (Calls.evalArgs_plain ?_)
  exact thn hA fun us s2 ⟨vs, H2, I2, r2, q2⟩ => hm pins s2 σ H2 x vs v us Q I2 r1 r2 q2
/- xs.append(e), list.index on a module's tuple .. are MtR facts of 06m -/
end
end L2
namespace L2
open PySem PySem.Spec PyProof.Rows
def MtM (X : Cx) (id : String) (r : V → List V → Hp → VK → Prop) : Prop :=
  ∀ (pins : List (Addr × Obj)) (s : Shared) (σ : St) (H : Hp) (x : V) (xs : List V) (v : Value) (us : List Value) (Q : VK), Inv X pins σ H s → RelV x v → Vals xs us → r x xs H Q →
    wpAny (model X.prog X.w) X.A (call (.builtin id) (v :: us)) (EP X pins σ Q) X.xe s
theorem Vals.one : ∀ {x : V} {us : List Value}, Vals [x] us → ∃ u, us = [u] ∧ RelV x u
  | _, _, .cons r .nil => ⟨_, rfl, r⟩
theorem Vals.two : ∀ {x y : V} {us : List Value}, Vals [x, y] us → ∃ u v, us = [u, v] ∧ RelV x u ∧ RelV y v
  | _, _, _, .cons r (.cons q .nil) => ⟨_, _, rfl, r, q⟩
theorem Vals.zero : ∀ {us : List Value}, Vals [] us → us = []
  | _, .nil => rfl
theorem Vals.rep {xs : List V} {us : List Value} (h : Vals xs us) : ∀ k : Nat, Vals (List.replicate k xs).flatten (List.replicate k us).flatten
  | 0 => .nil
  | k + 1 => by
    rw [List.replicate_succ, List.replicate_succ, List.flatten_cons, List.flatten_cons]
    exact Vals.append h (Vals.rep h k)
theorem foldl_rep (its : List Value) : ∀ (k : Nat) (acc : List Value),
    List.foldl (fun x1 x2 => x1 ++ x2) acc.toArray (List.replicate k its.toArray) = (acc ++ (List.replicate k its).flatten).toArray
  | 0, acc => by simp
  | k + 1, acc => by
    have e : acc.toArray ++ its.toArray = (acc ++ its).toArray := by simp
    have e2 : (acc ++ its) ++ (List.replicate k its).flatten = acc ++ (List.replicate (k + 1) its).flatten := by
      rw [List.replicate_succ, List.flatten_cons, List.append_assoc]
    rw [← e2, ← foldl_rep its k (acc ++ its), ← e, List.replicate_succ, List.foldl_cons]
section
variable {X : Cx} {pins : List (Addr × Obj)} {σ : St} {H : Hp} {s : Shared} {l b : Addr} {xs ys zs : List V}
theorem Inv.lset {its its' : List Value} {n : Nat} {f : Array Value → Array Value} {t' : Nat} (I : Inv X pins σ H s) (hH : H l = some (.lst xs))
    (e : s.heap.get? l = some { cls := .type "list", data := .seq its.toArray n }) (hf : f its.toArray = its'.toArray) (hv : Vals ys its') (hz : ys.length ≤ sizeLine) :
    Inv X pins σ (upd H l (.lst ys)) { s with heap := s.heap.update l (Obj.mapSeq f), toks := t' } := by
  have q := PySem.IsL.update e f
  rw [hf] at q
  refine I.write (x := l) (e := l) (by rw [hH]; exact trivial) (.inl rfl) (fun b' u hb hu => (Heap.get?_update_other s.heap (Obj.mapSeq f) (Ne.symm hb)).trans hu) ⟨_, q⟩ ?_
  exact ⟨hz, its', _, hv, q⟩
theorem Inv.lnew {its : List Value} {t' : Nat} (I : Inv X pins σ H s) (hv : Vals ys its) (hz : ys.length ≤ sizeLine) :
    Inv X pins σ (upd H s.heap.objs.size (.lst ys)) { s with heap := s.heap.push { cls := .type "list", data := .seq its.toArray }, toks := t' } :=
  I.laid (fun _ _ q => Heap.get?_push_of_some _ q) (Nat.le_refl _) ⟨hz, its, 0, hv, Heap.get?_push_size _ rfl⟩
theorem Inv.fresh (I : Inv X pins σ H s) : H s.heap.objs.size = none := I.hok.fresh (Nat.le_refl _)
theorem Inv.lstM (I : Inv X pins σ H s) (hH : H l = some (.lst xs)) : xs.length ≤ sizeLine ∧ ∃ (its : List Value) (n : Nat), Vals xs its ∧ xs.length = its.length ∧ s.heap.get? l = some { cls := .type "list", data := .seq its.toArray n } := by
  obtain ⟨z, its, n, r, e⟩ := I.hok l _ hH
  exact ⟨z, its, n, r, r.length, e⟩
theorem notLongL {n : Nat} (h : n ≤ sizeLine) : Builtin.List.listTooLong n = false := by
  unfold Builtin.List.listTooLong
  exact decide_eq_false (by omega)
end
section
variable {X : Cx}
def rAppend : V → List V → Hp → VK → Prop := fun x vs H Q => ∃ l xs y, x = .ref l ∧ vs = [y] ∧ H l = some (.lst xs) ∧ xs.length < sizeLine ∧ Q .non (upd H l (.lst (xs ++ [y])))
theorem mt_append : MtM X "list.append" rAppend := by
  intro pins s σ H x vs v us Q I rx rv h
  obtain ⟨l, xs, y, rfl, rfl, hH, hz, q⟩ := h
  cases rx
  obtain ⟨u, rfl, ru⟩ := rv.one
  obtain ⟨z, its, n, r, hl, e⟩ := I.lstM hH
  refine call_meets F.slot_list_append ⟨_, e, rfl⟩ F.entry_list_append (F.args_list_append_2 _ _) (PySem.list_append l its.toArray n u (by rw [List.size_toArray]; omega)) ⟨e, ?_⟩
  refine ⟨.non, _, I.lset (its' := its ++ [u]) hH e (by simp) (r.append (.cons ru .nil)) ?_, rfl, q⟩
  rw [List.length_append, List.length_singleton]
  omega
def rCat : R2 := fun x y H Q => ∃ l b xs zs, x = .ref l ∧ y = .ref b ∧ H l = some (.lst xs) ∧ H b = some (.lst zs) ∧ xs.length + zs.length ≤ sizeLine ∧ ∀ p, H p = none → Q (.ref p) (upd H p (.lst (xs ++ zs)))
theorem op_cat : OpR X (binaryOp .Add) rCat := by
  intro pins s σ H x y v u Q I rx ry h
  obtain ⟨l, b, xs, zs, rfl, rfl, hH, hB, hz, q⟩ := h
  cases rx
  cases ry
  obtain ⟨z, its, n, r, hl, e⟩ := I.lstM hH
  obtain ⟨z2, its2, n2, r2, hl2, e2⟩ := I.lstM hB
  refine PySem.P.add_list e e2 ?_ (by rw [List.size_toArray, List.size_toArray]; omega)
  have ea : its.toArray ++ its2.toArray = (its ++ its2).toArray := by simp
  rw [ea]
  exact ⟨.ref _, _, I.lnew (t' := s.toks) (r.append r2) (by rw [List.length_append]; omega), rfl, q _ I.fresh⟩
def rRep : R2 := fun x y H Q => ∃ l k xs, x = .ref l ∧ y = .int k ∧ H l = some (.lst xs) ∧ -(2 ^ 63) ≤ k ∧ k < 2 ^ 63 ∧ xs.length * k.toNat ≤ sizeLine ∧
  ∀ p, H p = none → Q (.ref p) (upd H p (.lst (List.replicate k.toNat xs).flatten))
theorem len_rep {α : Type} (xs : List α) (k : Nat) : (List.replicate k xs).flatten.length = k * xs.length := by
  induction k with
  | zero => simp
  | succ k ih => rw [List.replicate_succ, List.flatten_cons, List.length_append, ih, Nat.succ_mul, Nat.add_comm]
theorem op_rep : OpR X (binaryOp .Mult) rRep := by
  intro pins s σ H x y v u Q I rx ry h
  obtain ⟨l, k, xs, rfl, rfl, hH, h1, h2, hz, q⟩ := h
  cases rx
  obtain ⟨t, rfl⟩ := ry
  obtain ⟨z, its, n, r, hl, e⟩ := I.lstM hH
  have hlen : its.toArray.size * k.toNat ≤ sizeLine := by rw [List.size_toArray, ← hl]; exact hz
  have hcap : ¬ its.toArray.size * k.toNat > (2 ^ 63 - 1) / 8 := by
    have : (sizeLine : Nat) ≤ (2 ^ 63 - 1) / 8 := by decide
    omega
  have hfit : ¬ (!Builtin.List.listFitsIndex k) = true := by
    rw [fitsIndex_both h1 h2]
    exact Bool.false_ne_true
  have hlong : ¬ Builtin.List.listTooLong (its.toArray.size * k.toNat) = true := by
    rw [notLongL hlen]
    exact Bool.false_ne_true
  have hnew : List.foldl (fun x1 x2 => x1 ++ x2) #[] (List.replicate (if its.toArray.isEmpty = true then 0 else k.toNat) its.toArray) = (List.replicate k.toNat its).flatten.toArray := by
    have f0 : ∀ m : Nat, List.foldl (fun x1 x2 => x1 ++ x2) #[] (List.replicate m its.toArray) = (List.replicate m its).flatten.toArray := fun m => by
      have := foldl_rep its m []
      rw [List.nil_append] at this
      exact this
    rw [f0]
    cases its with
    | nil => simp
    | cons a r' => rw [if_neg (by simp)]
  refine wpAny_binaryOp_repeat_ref (T := "list") (U := "int") (by decide) ⟨_, e, rfl⟩ (fun s' => typeIs_int s' k t) noFill_list_mul F.fills_int_mul F.slot_int_rmul repeat_list F.slot_int_index.lookup
    (call_meets F.slot_int_rmul (typeIs_int s k t) F.entry_int_rmul (F.args_int_rmul_2 _ _) (int___rmul___int_list k t l its.toArray n)
      ⟨e, rfl, ⟨_, e, rfl⟩, call_meets F.slot_list_mul ⟨_, e, rfl⟩ F.entry_list_mul (F.args_list_mul_2 _ _) (AutoListH.list___mul___list_int_3 l its.toArray n k t hfit hcap hlong) ⟨e, ?_⟩⟩)
  rw [hnew]
  exact ⟨.ref _, _, I.lnew (t' := s.toks) (r.rep k.toNat) (by rw [len_rep, Nat.mul_comm]; exact hz), rfl, q _ I.fresh⟩
end
section
variable {prog : Program} {w : World} {A : Around} {E : Value → Shared → Prop} {s : Shared}
end
section
variable {X : Cx}
end
end L2
namespace Att
open PySem PySem.W PySem.Calls PyProof.Rows
theorem ints_of_wellAll {P : Params} {h : Heap} : ∀ (ns : List Int) (vs : List Value), WellAll P h vs (ns.map WData.int) → IntsAre vs ns := by
  intro ns
  induction ns with
  | nil =>
    intro vs w
    rw [List.map_nil] at w
    cases w
    exact .nil
  | cons n ns ih =>
    intro vs w
    rw [List.map_cons] at w
    cases w with
    | cons a b =>
      cases a
      exact .cons _ _ (ih _ b)
theorem script_of {l : OpenLaw} {n : Nat} (hn : l.most = some n) {P : Params} {h : Heap} {args : List WData} {vals : List Value}
    (hpre : l.row.toRowW.claim.pre args = true) (hwl : WellAll P h vals args) :
    ∃ a vs ns, vals = [Value.ref a] ∧ args = [WData.list (ns.map WData.int)] ∧ h.get? a = some { cls := .type "list", data := .seq vs.toArray } ∧ IntsAre vs ns ∧ ns.length ≤ n := by
  have hsh : WShape.hasAll [] args [.list .int] = true := (pre_splitW hpre).1
  have hc : l.pre.holds [] { args := args } = true := (pre_splitW hpre).2
  obtain ⟨d, r, rfl, h1, h2⟩ := hasAllW_cons hsh
  obtain rfl := hasAllW_nil h2
  obtain ⟨xs, rfl, h3⟩ := hasW_list h1
  obtain ⟨ns, rfl⟩ := items_int h3
  have hlen : ns.length ≤ n := by
    unfold OpenLaw.pre at hc
    have h4 : (WTm.not (.lt (.lit (.int (n : Int))) (.len (.arg 0)))).holds [] { args := [.list (ns.map .int)] } = true := by
      have h4 := (holds_andW hc).1
      rw [hn] at h4
      exact h4
    have h5 := condW_of h4 (w_not (w_lt w_lit (w_len_list (w_arg rfl))))
    rw [List.length_map] at h5
    refine Nat.le_of_not_lt fun q => ?_
    have q' : (n : Int) < ((ns.length : Nat) : Int) := by omega
    first
      | (rw [decide_eq_true q'] at h5; exact absurd h5 (by decide))
      | (simp at h5; omega)
  cases hwl with
  | cons w1 w2 =>
    cases w2
    cases w1 with
    | list ho hall => exact ⟨_, _, ns, rfl, rfl, ho, ints_of_wellAll ns _ hall, hlen⟩
theorem post_true (l : OpenLaw) (args : List WData) : l.row.toRowW.claim.post args (.bool true) args = true :=
  postW_of (r := l.row.toRowW) (X := (true == true))
    (show WShape.has [] (.bool true) .bool = true by first | rfl | decide | simp [WShape.has, WShape.arms, WShape.armsAll])
    (show (WTm.eq .res (.lit (.bool true))).value [] { args := args, res := some (.bool true), after := args } = some (.bool (true == true)) from w_eq_bool (w_res rfl) w_lit) rfl
theorem attach_call {l : OpenLaw} {n : Nat} {q : Program} {loose : List Str} {XP : (Str → Option Value) → Heap → Prop} {YP : World → Heap → Prop} {d : DefRec}
    (hn : l.most = some n) (hdf : d.params.defaults = [])
    (call : ∀ (w : World) (s₀ s₁ : Shared) (mg mb : Str → Option Value) (fa : Addr) (o : Obj) (pm cd doc : Value) (a : Addr) (vs : List Value) (ns : List Int),
      Ground q loose [] XP w s₀ mg mb s₁.heap → YP w s₁.heap →
      s₁.heap.get? fa = some o → o.data = .func (docDef d.name d.params d.body d.scope pm cd doc) → s₁.heap.CodeRec cd d.name → mg d.name = some (.ref fa) →
      s₁.heap.get? a = some { cls := .type "list", data := .seq vs.toArray } → IntsAre vs ns → ns.length ≤ n → s₁.gens = #[] →
      codeAny (model l.prog w) callerA (.call (.ref fa) ⟨[.ref a], []⟩) (fun r s' => r = .ok (.ret (.bool true)) ∧ OldK s₁.heap s'.heap ∧ s'.os = s₁.os ∧ AllBare s'.gens) s₁) :
    WalkO q loose XP YP l.row.toRowW d [] (fun f vs => PySem.call f vs) := by
  intro w s₀ s₁ mg mb G Y fa o pm cd doc dV kV ho hd hcd hD hmg hg args vals as hpre hlay hrd hwl hlo
  obtain rfl : dV = .none := Dflts.none hD hdf
  obtain rfl : kV = .none := Dflts.noKw hD
  obtain ⟨a, vs, ns, rfl, rfl, hobj, hints, hlen⟩ := script_of hn hpre hwl
  refine enter_call (codeAny_mono (call w s₀ s₁ mg mb fa o pm cd doc a vs ns G Y ho (fd_plain hd) hcd hmg hobj hints hlen hg) fun r s' hq => ?_)
  obtain ⟨rfl, h2, h3, h4⟩ := hq
  exact ⟨.inl ⟨.bool true, .bool true, [], rfl, fun _ => rfl, .bool true, post_true l _, fun _ => ⟨List.Pairwise.nil, fun _ hm => (nomatch hm)⟩⟩, h2, h3, h4⟩
section
variable {prog : Program} {w : World} {A : Around} {E : Value → Shared → Prop} {s : Shared} {K : Frag}
end
end Att
namespace L2
open PySem PySem.Spec PyProof.Rows
theorem vals_ints : ∀ {vs : List Value} {ns : List Int}, IntsAre vs ns → Vals (ns.map V.int) vs
  | _, _, .nil => .nil
  | _, _, .cons n t h => .cons ⟨t, rfl⟩ (vals_ints h)
def Only (H : Hp) : Prop := ∀ b, H b = none ∨ ∃ o xs, H b = some (.frz o (.lst xs))
theorem law_call {P : Program} {w : World} {K : PySem.W.Frag} {mg mb : Str → Option Value} {CX : CXT} {k : Nat} {fa a : Addr} {fd : FuncData} {x : Str} {sp : Sp} {s₁ : Shared} {vs : List Value} {ns : List Int}
    (KX : K.In s₁.heap) (hns : s₁.heap.Ns mainGlobals mg) (hb : s₁.heap.Ns builtinsNs mb) (hbb : ∀ x : Str, x ≠ "__name__" → mb x = bootBuiltins x) (hlim : s₁.heap.NoLimit) (hg : s₁.gens = #[])
    (ha : s₁.heap.get? a = some { cls := .type "list", data := .seq vs.toArray }) (hi : IntsAre vs ns) (hl : ns.length ≤ sizeLine) (hr : Room k callerA)
    (F : ∀ base : Heap, K.In base → base.Ns mainGlobals mg → FnOk P w K mg base CX k fa fd [x] sp) (hbind : ∀ (s : Shared) (u : Value), BindsTo s fd ⟨[u], []⟩ [(x, u)])
    (hsp : ∀ H : Hp, Only H → SqL K H a (ns.map V.int) → sp [.ref a] H (fun v _ => v = .bl true) fun _ _ _ => False)
    (hCX : ∀ H e s', CX [] H s₁ (fun _ _ _ => False) e s' → False) :
    codeAny (model P w) callerA (.call (.ref fa) ⟨[.ref a], []⟩) (fun r s' => r = .ok (.ret (.bool true)) ∧ OldK s₁.heap s'.heap ∧ s'.os = s₁.os ∧ AllBare s'.gens) s₁ := by
  have rv := vals_ints hi
  have lenV := hi.length
  -- from an abstract heap in which nothing but the script may be tracked
  have core : ∀ H : Hp, Only H → SqL K H a (ns.map V.int) → HOk P w H s₁.heap → (∀ b, H b ≠ none → b = a) → (H a ≠ none → K.lookup a = none) →
      codeAny (model P w) callerA (.call (.ref fa) ⟨[.ref a], []⟩) (fun r s' => r = .ok (.ret (.bool true)) ∧ OldK s₁.heap s'.heap ∧ s'.os = s₁.os ∧ AllBare s'.gens) s₁ := by
    intro H hO hS hok hA hK
    have base_of : ∀ {b : Addr} {o : Obj}, s₁.heap.get? b = some o → H b = none → (hidT s₁.heap H).get? b = some o := fun e n => hidT_get e n
    have noA : ∀ {b : Addr} {o : Obj} {es : Array DictEntry} {ep : Nat}, s₁.heap.get? b = some o → o.data = .dict es ep → H b = none := fun {b o es ep} e d => by
      cases q : H b with
      | none => rfl
      | some u =>
        have e' : b = a := hA b (by rw [q]; simp)
        subst e'
        rw [ha] at e; cases e
        have d' : Data.seq vs.toArray _ = Data.dict es ep := d
        cases d'
    have nsK : ∀ {b : Addr} {m : Str → Option Value}, s₁.heap.Ns b m → (hidT s₁.heap H).Ns b m := fun {b m} ⟨o, es, ep, e, d, r⟩ => ⟨o, es, ep, base_of e (noA e d), d, r⟩
    have hKb : K.In (hidT s₁.heap H) := fun b o e => base_of (KX b o e) (by
      cases q : H b with
      | none => rfl
      | some u =>
        have e' : b = a := hA b (by rw [q]; simp)
        subst e'
        rw [hK (by rw [q]; simp)] at e; cases e)
    have hM : Mod K mg (hidT s₁.heap H) := ⟨hKb, nsK hns, ⟨mb, nsK hb, hbb⟩, let ⟨mc, h1, h2⟩ := hlim; ⟨mc, nsK h1, h2⟩⟩
    have e0 : Env0 P w K mg (hidT s₁.heap H) callerA [] s₁ H := ⟨rfl, hM, fun b o e => of_hidT e, Nat.le_of_eq (hidT_size _ _), trivial, fun b hb => absurd (show b ∈ ([] : List Addr) from hb) (by simp), hok, .of_eq hg⟩
    refine codeAny_mono ((F _ hKb (nsK hns)).run callerA [] s₁ H ⟨[.ref a], []⟩ [.ref a] [.ref a] _ _ hr e0 (hbind s₁ (.ref a)) (.cons rfl .nil) (hsp H hO hS)) fun r s' h => ?_
    cases r with
    | error e => exact (hCX H e s' h).elim
    | ok fl =>
      cases fl with
      | next => exact False.elim h
      | brk => exact False.elim h
      | cont => exact False.elim h
      | ret u =>
        obtain ⟨v, H', os, bare, un, hok', r', q⟩ := h
        have q' : v = .bl true := q
        subst q'
        obtain rfl : u = Value.bool true := r'
        refine ⟨rfl, OldK.of_keep fun b o e => ?_, os, bare⟩
        cases q : H b with
        | none => exact un.keep b o e q (by intro z; exact absurd (show b ∈ ([] : List Addr) from z) (by simp)) (by simp)
        | some u =>
          rcases hO b with z | ⟨ob, xs, z⟩
          · rw [q] at z; cases z
          · have z2 := un.frzs b ob _ z
            obtain ⟨e1, _⟩ := hok b _ z
            obtain ⟨e2, _⟩ := hok' b _ z2
            rw [e] at e1; cases e1
            exact e2
  cases hk : K.lookup a with
  | some o =>
    -- the script is one of the module's own objects
    have e := KX a o hk
    rw [ha] at e
    cases e
    refine core (fun _ => none) (fun _ => .inl rfl) (.inr ⟨_, vs.toArray, _, hk, rfl, rfl, rfl, by rw [List.size_toArray, lenV]; exact hl, by simpa using rv⟩) (fun b u z => by have z' : (none : Option HO) = some u := z; cases z') (fun b z => absurd rfl z) fun z => absurd rfl z
  | none =>
    refine core (fun b => if b = a then some (.frz { cls := .type "list", data := .seq vs.toArray } (.lst (ns.map V.int))) else none) (fun b => ?_) (.inl (.inr ⟨{ cls := .type "list", data := .seq vs.toArray }, if_pos rfl⟩)) (fun b u z => ?_) (fun b z => ?_) fun _ => hk
    · by_cases hb : b = a
      · exact .inr ⟨_, _, if_pos hb⟩
      · exact .inl (if_neg hb)
    · by_cases hb : b = a
      · have z' := (if_pos hb).symm.trans z
        cases z'
        subst hb
        exact ⟨ha, by rw [List.length_map]; exact hl, vs, _, rv, ha⟩
      · have z' := (if_neg hb).symm.trans z
        cases z'
    · by_cases hb : b = a
      · exact hb
      · exact absurd (if_neg hb) z
end L2
namespace L2
open PySem PySem.Spec PyProof.Rows
abbrev KOf {K : PySem.W.Frag} {h : Heap} (_ : K.In h) : PySem.W.Frag := K
theorem walk_of {l : PySem.W.OpenLaw} {n k : Nat} {q : Program} {loose : List Str} {XP : (Str → Option Value) → Heap → Prop} {YP : World → Heap → Prop} {d : DefRec} {K : Params → PySem.W.Frag} {CX : World → CXT} {sp : World → Sp} {x : Str}
    (hn : l.most = some n) (hn2 : n ≤ sizeLine) (hdf : d.params.defaults = []) (hr : Room k callerA)
    (hY : ∀ (w : World) (h : Heap), YP w h → (K w.params).In h)
    (F : ∀ (w : World) (mg : Str → Option Value) (fa : Addr) (h : Heap), (K w.params).In h → h.Ns mainGlobals mg → mg d.name = some (.ref fa) →
      ∃ fd : FuncData, (∀ (s : Shared) (u : Value), BindsTo s fd ⟨[u], []⟩ [(x, u)]) ∧
        ∀ base : Heap, (K w.params).In base → base.Ns mainGlobals mg → FnOk l.prog w (K w.params) mg base (CX w) k fa fd [x] (sp w))
    (hsp : ∀ (w : World) (H : Hp) (a : Addr) (ns : List Int), ns.length ≤ n → Only H → SqL (K w.params) H a (ns.map V.int) → sp w [.ref a] H (fun v _ => v = .bl true) fun _ _ _ => False)
    (hCX : ∀ (w : World) (H : Hp) (s : Shared) (e : Value) (s' : Shared), CX w [] H s (fun _ _ _ => False) e s' → False) :
    PySem.W.WalkO q loose XP YP l.row.toRowW d [] (fun f vs => PySem.call f vs) := by
  refine Att.attach_call hn hdf fun w s₀ s₁ mg mb fa o pm cd doc a vs ns G Y ho hd hcd hmg hobj hints hlen hg => ?_
  have KX := hY w _ Y
  obtain ⟨fd, hb, hF⟩ := F w mg fa _ KX G.T.g hmg
  exact law_call KX G.T.g G.T.b G.T.builtins G.T.nolimit hg hobj hints (Nat.le_trans hlen hn2) hr hF hb (fun H hO hS => hsp w H a ns hlen hO hS) fun H e s' => hCX w H s₁ e s'
end L2
/- THE LAST THEOREM (shape; LID, My.* are yours):
   My.Adr: a structure of the addresses that your layer names (classes, functions); My.Txt K t: a structure (Prop) of the equations over K;
   My.txt_mk : {K} {implicit addresses ..} (e1 : nsIn K mainGlobals "law" = some (some (.ref f))) (e2 : K.lookup f = some ⟨oc, od, .func (fnOf "law" "law" params body scope dV kV doc pm an cdv ct), sl⟩) (e3 : codeIn K cdv "law" = true) .. : ∃ t, My.Txt K t

set_option maxRecDepth 100000 in
set_option maxHeartbeats 0 in
theorem PySem.Challenge.cw_LID_holds : PySem.Challenge.rw_LID.Holds := by
  w_on; o_law; k_head; (case hw => w_witness2)
  k_fill
  refine L2.walk_of (l := PySem.Challenge.rw_LID) (n := 63) (k := 40) (x := "script") (CX := fun w => ..) (sp := fun _ => My.sp_law) rfl (by decide) rfl ⟨rfl, by decide, by decide⟩ (fun w h Y => PySem.W.kIn_of Y) ?F ?S ?C
  case F =>
    intro w mg fa h KX G hmg
    have T : ∃ t, My.Txt (L2.KOf KX) t := by
      dsimp only [L2.KOf]                          -- K must stand as «<heap const> w.params» for k_is
      refine' My.txt_mk ?e1 ?e2 ?e3 ..
      (case e1 => PySem.W.k_is)                    -- in the order: a name -> its address -> its object -> its parts
      (case e2 => PySem.W.k_is)
      ..
    obtain ⟨t, T⟩ := T
    have e0 := hmg.symm.trans (PySem.W.mg_of KX G T.law)
    cases e0                                       -- fa is the law's own address
    exact ⟨_, fun s u => .of_eq rfl, fun base kb nb => My.law_fn T kb nb⟩     -- if «.of_eq rfl» comes too early: refine' ⟨_, ?b, fun base kb nb => My.law_fn T kb nb⟩; exact fun s u => .of_eq rfl
  case S => exact fun w H a ns hl hO hS => ..
  case C => exact ..
(the tactic k_is has no namespace: write k_is) -/
namespace L2
open PySem PySem.Spec PyProof.Rows
def defArgs (s : Stmt) : Arguments := match s with
  | .FunctionDef _ a _ _ _ _ _ _ _ _ => a
  | _ => { posonlyargs := [], args := [], vararg := none, kwonlyargs := [], kw_defaults := [], kwarg := none, defaults := [] }
def defBody (s : Stmt) : List Stmt := match s with
  | .FunctionDef _ _ b _ _ _ _ _ _ _ => b
  | _ => []
def defScope (s : Stmt) : Scope := match s with
  | .FunctionDef _ _ _ _ _ _ sc _ _ _ => sc
  | _ => { kind := .function, names := [], isGenerator := false, isCoroutine := false }
abbrev CX0 : CXT := fun _ _ _ _ _ _ => False
abbrev E0 : XK := fun _ _ _ => False
theorem pass0 {X : Cx} : Passes CX0 X E0 := fun _ _ _ _ _ _ _ h => h.elim
structure Fun (K : PySem.W.Frag) (x qual : Str) (st : Stmt) (f : Addr) (fd : FuncData) : Prop where
  ex : ∃ (oc : Value) (od : Option Addr) (kV doc pm : Value) (an : Option Addr) (cdv ct : Value) (osl : Array (Option Value)),
    fd = PySem.W.fnOf x qual (defArgs st) (defBody st) (defScope st) .none kV doc pm an cdv ct ∧ K.lookup f = some ⟨oc, od, .func fd, osl⟩ ∧ PySem.W.codeIn K cdv qual = true
  kp : PySem.W.keepIn K (.ref f) = true
section
variable {P : Program} {w : World} {K : PySem.W.Frag} {mg : Str → Option Value} {base : Heap}
theorem Fun.ok {x qual : Str} {st : Stmt} {f : Addr} {fd : FuncData} {N ps : List Str} {k : Nat} {sp : Sp} (F : Fun K x qual st f fd) (S : FnScope N ps (defScope st)) (len : ∀ vs H Q E, sp vs H Q E → vs.length = ps.length)
    (hbody : ∀ (cdv : Value) (A : Around) (outer : List Env) (s : Shared) (H : Hp) (vs : List V) (Q : VK) (E : XK), Room k (A.deeper (envOfC qual (defScope st) s.heap.objs.size f cdv)) → sp vs H Q E →
      ∃ t, PSs (cxOf CX0 P w K mg base N qual (defScope st) f cdv A outer s H E).nox (defBody st) t ∧ t { nx := fun _ H' => Q .non H', rt := Q } (start N vs) H) : FnOk P w K mg base CX0 (k + 1) f fd ps sp := by
  obtain ⟨oc, od, kV, doc, pm, an, cdv, ct, osl, rfl, lk, hcd⟩ := F.ex
  refine fn_of lk hcd S len fun A outer s H vs Q E hr hsp => ?_
  obtain ⟨t, h, q⟩ := hbody cdv A outer s H vs Q E hr hsp
  exact ⟨t, h.nox, q⟩
theorem Fun.binds {x qual : Str} {st : Stmt} {f : Addr} {fd : FuncData} {ps : List Str} (F : Fun K x qual st f fd)
    (h : ∀ (kV doc pm : Value) (an : Option Addr) (cdv ct : Value) (us : List Value), us.length = ps.length → bindArgs (PySem.W.fnOf x qual (defArgs st) (defBody st) (defScope st) .none kV doc pm an cdv ct) ⟨us, []⟩ = pure (ps.zip us)) : Binds K fd ps [] := by
  obtain ⟨oc, od, kV, doc, pm, an, cdv, ct, osl, rfl, lk, hcd⟩ := F.ex
  exact .all (h kV doc pm an cdv ct)
theorem fun_mk {x qual : Str} {st : Stmt} {f : Addr} {oc : Value} {od an : Option Addr} {osl : Array (Option Value)} {kV doc pm cdv ct : Value} (l : K.lookup f = some ⟨oc, od, .func (PySem.W.fnOf x qual (defArgs st) (defBody st) (defScope st) .none kV doc pm an cdv ct), osl⟩)
    (c : PySem.W.codeIn K cdv qual = true) (k : PySem.W.keepIn K (.ref f) = true) : Fun K x qual st f (PySem.W.fnOf x qual (defArgs st) (defBody st) (defScope st) .none kV doc pm an cdv ct) := ⟨⟨oc, od, kV, doc, pm, an, cdv, ct, osl, rfl, l, c⟩, k⟩
end
section
variable {X : Cx}
theorem pv (i : Nat) {x : Str} {pos : Pos} (hN : X.N[i]? = some x := by rfl) (hv : Vis X.env.scope x := by first | exact Or.inl rfl | exact Or.inr (Or.inl rfl) | exact Or.inr (Or.inr rfl)) (hd : (x == ("__debug__" : Str)) = false := by decide)
    (hcd : (x == ("__classdict__" : Str)) = false := by decide) : PE X (.Name x pos) (tVar i) := pe_var hN hv hd hcd
end
def Same (H H' : Hp) : Prop := ∀ b o, H b = some o → H' b = some o
theorem Same.refl (H : Hp) : Same H H := fun _ _ h => h
theorem Same.trans {H H1 H2 : Hp} (a : Same H H1) (b : Same H1 H2) : Same H H2 := fun c o h => b c o (a c o h)
theorem Same.free {H H' : Hp} (e : Same H H') {l : Addr} (h : H' l = Option.none) : H l = Option.none := by
  cases q : H l with
  | none => rfl
  | some o =>
    rw [e l o q] at h
    cases h
theorem Same.seq {K : PySem.W.Frag} {H H' : Hp} {a : Addr} {xs : List V} (e : Same H H') (h : SqL K H a xs) : SqL K H' a xs := by
  rcases h with (h | ⟨o, h⟩) | h
  · exact .inl (.inl (e _ _ h))
  · exact .inl (.inr ⟨o, e _ _ h⟩)
  · exact .inr h
end L2
set_option maxHeartbeats 4000000
namespace Fr
def G (a b : Int) : Int := ((Int.gcd a b : Nat) : Int)
def part (a b : Int) : Int := if b < 0 then -G a b else G a b
def mk (a b : Int) : Int × Int := (a.fdiv (part a b), b.fdiv (part a b))
def low (a b : Int) : Int × Int := (a.fdiv (G a b), b.fdiv (G a b))
end Fr
namespace L2
open PySem PySem.Spec PyProof.Rows
abbrev bits (i : Int) : Nat := Builtin.Int.intBits i
theorem bits_lt {x : Int} {m : Nat} (h : x.natAbs < 2 ^ m) : bits x ≤ m := intBits_le_iff.mpr h
theorem bits_of {x : Int} {m : Nat} (h0 : 0 ≤ x) (h1 : x < 2 ^ m) : bits x ≤ m := by
  refine bits_lt ?_
  have e : ((x.natAbs : Nat) : Int) = x := by omega
  have : ((x.natAbs : Nat) : Int) < ((2 ^ m : Nat) : Int) := by
    rw [e, Int.natCast_pow]; exact h1
  omega
section
variable {X : Cx} {a b c : Expr} {ta tb tc : TE} {pos : Pos}
theorem op_mulB : OpR X (binaryOp .Mult) (rI IntMulOk fun i j => .int (i * j)) := opI fun _ _ _ _ _ _ _ hc q => mul_int q hc
def eqVs (xs ys : List V) : Bool := (List.range (min xs.length ys.length)).all (fun j => eqV (xs.getD j .non) (ys.getD j .non)) && xs.length == ys.length
def rEqT (K : PySem.W.Frag) : R2 := fun x y H Q => ∃ a b xs ys, x = .ref a ∧ y = .ref b ∧ SqT K H a xs ∧ SqT K H b ys ∧ xs.all flatV = true ∧ ys.all flatV = true ∧ Q (.bl (eqVs xs ys)) H
theorem getD_rel {xs : List V} {us : List Value} (r : Vals xs us) {j : Nat} (h : j < us.length) : RelV (xs.getD j .non) us[j] := by
  have hl := r.length
  have hx : j < xs.length := by omega
  obtain ⟨u, e, q⟩ := r.get (i := j) (x := xs[j]) (by rw [List.getElem?_eq_getElem hx])
  rw [List.getElem?_eq_getElem h] at e
  cases e
  rw [List.getD_eq_getElem?_getD, List.getElem?_eq_getElem hx]
  exact q
theorem all_getD {p : V → Bool} {xs : List V} (h : xs.all p = true) {j : Nat} (hj : j < xs.length) : p (xs.getD j .non) = true := by
  rw [List.getD_eq_getElem?_getD, List.getElem?_eq_getElem hj]
  exact List.all_eq_true.mp h _ (List.getElem_mem hj)
theorem op_eqT (hu : X.A.units < cLine) : OpR X (compareOp .Eq) (rEqT X.K) := by
  intro pins s σ H x y v u Q I rx ry h
  obtain ⟨p, q, xs, ys, rfl, rfl, h1, h2, f1, f2, k⟩ := h
  cases rx
  cases ry
  obtain ⟨its, r, pl, hz⟩ := I.tuple h1
  obtain ⟨its2, r2, pl2, hz2⟩ := I.tuple h2
  have l1 := r.length
  have l2 := r2.length
  refine SeqAt.eq_tupleAt (e := fun j => eqV (xs.getD j .non) (ys.getD j .non)) pl pl2 hu (fun j g1 g2 => ?_) ⟨.bl _, H, I, rfl, ?_⟩
  · have g1' : j < its.length := by simpa using g1
    have g2' : j < its2.length := by simpa using g2
    have e := eqAt_V (A := X.A.in1) (s := s) (getD_rel r g1') (getD_rel r2 g2') (all_getD f1 (by omega)) (all_getD f2 (by omega))
    simpa using e
  · have e : ((List.range (min its.toArray.size its2.toArray.size)).all (fun j => eqV (xs.getD j .non) (ys.getD j .non)) && its.toArray.size == its2.toArray.size) = eqVs xs ys := by
      unfold eqVs
      rw [List.size_toArray, List.size_toArray, l1, l2]
    rw [e]
    exact k
theorem call_isT : CallR X (.builtin "isinstance") (fun xs H Q => ∃ x T t k, xs = [x, .ty T] ∧ TyOf X.K H x t ∧ PySem.W.kitOne X.K t (.type T) = some k ∧ Q (.bl k) H) := by
  intro pins s σ H xs us Q I r h
  obtain ⟨x, T, t, k, rfl, ty, e, q⟩ := h
  obtain ⟨u, v, rfl, rx, rv⟩ := Vals.two r
  cases rv
  exact isinst_ok I rx ty e fun tk => ⟨.bl k, H, I.tok _, rfl, q⟩
end
section
variable {X : Cx} {a b c : Expr} {ta tb tc : TE} {pos : Pos}
theorem op_eqI : OpR X (compareOp .Eq) (rI0 fun i j => .bl (decide (i = j))) := opB0 fun _ _ _ _ _ _ _ q => eq_int (by rw [Bool.beq_eq_decide_eq]; exact q)
theorem op_neI : OpR X (compareOp .NotEq) (rI0 fun i j => .bl (!decide (i = j))) := opB0 fun _ _ _ _ _ _ _ q => ne_int (by rw [bne, Bool.beq_eq_decide_eq]; exact q)
def rAddS : R2 := fun x y H Q => ∃ i j, x = .str i ∧ y = .str j ∧ i.length + j.length ≤ sizeLine ∧ Q (.str (i ++ j)) H
def rAddG : R2 := fun x y H Q => rI0 (fun i j => .int (i + j)) x y H Q ∨ rAddS x y H Q ∨ rCat x y H Q
theorem op_addG : OpR X (binaryOp .Add) rAddG := op_add.or ((show OpR X (binaryOp .Add) rAddS from op_add_str).or op_cat)
theorem lenG : CallR X (.builtin "len") (fun xs H Q => (∃ p ys, xs = [.ref p] ∧ (SqL X.K H p ys ∨ SqT X.K H p ys) ∧ Q (.int ys.length) H) ∨ ∃ z, xs = [.str z] ∧ z.length ≤ sizeLine ∧ Q (.int z.length) H) := call_len_seq.or call_len_str
end
theorem b_abs : bootBuiltins "abs" = some (.builtin "abs") := by decide +kernel
theorem b_len : bootBuiltins "len" = some (.builtin "len") := by decide +kernel
theorem b_isinstance : bootBuiltins "isinstance" = some (.builtin "isinstance") := by decide +kernel
theorem b_max : bootBuiltins "max" = some (.builtin "max") := by decide +kernel
theorem b_int : bootBuiltins "int" = some (.type "int") := by decide +kernel
theorem b_bool : bootBuiltins "bool" = some (.type "bool") := by decide +kernel
theorem b_list : bootBuiltins "list" = some (.type "list") := by decide +kernel
structure Got (P : Program) (w : World) (K : PySem.W.Frag) (mg : Str → Option Value) (base : Heap) (k : Nat) (x : Str) (ps : List Str) (sp : Sp) : Prop where
  ex : ∃ f fd, FnOk P w K mg base CX0 k f fd ps sp ∧ Binds K fd ps [] ∧ PySem.W.keepIn K (.ref f) = true ∧ mg x = some (.ref f)
section
variable {X : Cx} {k n : Nat} {x : Str} {ps : List Str} {sp : Sp} {p pos : Pos} {e : Expr} {es : List Expr} {t : TA}
theorem pe_go (g : Got X.prog X.w X.K X.mg X.base k x ps sp) (hr : Room n X.A) (hk : k ≤ n) (hg : Gl X x) (ha : PA X (e :: es) t) (hdb : (x == ("__debug__" : Str)) = false := by decide)
    (he : starEach (e :: es) X.env = (false, eval e X.env) :: starEach es X.env := by rfl) (hpl : (backTo pos (starEach es X.env)).any (·.1) = false := by rfl) :
    PE X (.Call (.Name x p) (e :: es) [] pos) (tCall sp [] E0 t) := by
  obtain ⟨f, fd, F, hb, hkp, hm⟩ := g.ex
  exact pe_call F (hr.mono hk) hg hm hkp hb .nil pass0 ha hdb he hpl
end
end L2
namespace L2
open PySem PySem.Spec PyProof.Rows
mutual
inductive RdD (K : PySem.W.Frag) (H : Hp) : V → PyData → Prop where
  | non : RdD K H .non .none
  | bl (b : Bool) : RdD K H (.bl b) (.bool b)
  | int (i : Int) : RdD K H (.int i) (.int i)
  | str (x : Str) : RdD K H (.str x) (.str x)
  | lst {a : Addr} {xs : List V} {ds : List PyData} : SqL K H a xs → RdDs K H xs ds → RdD K H (.ref a) (.list ds)
  | tup {a : Addr} {xs : List V} {ds : List PyData} : SqT K H a xs → RdDs K H xs ds → RdD K H (.ref a) (.tuple ds)
inductive RdDs (K : PySem.W.Frag) (H : Hp) : List V → List PyData → Prop where
  | nil : RdDs K H [] []
  | cons {x : V} {xs : List V} {d : PyData} {ds : List PyData} : RdD K H x d → RdDs K H xs ds → RdDs K H (x :: xs) (d :: ds)
end
section
variable {X : Cx} {pins : List (Addr × Obj)} {σ : St} {H : Hp} {s : Shared} {h' : Heap}
theorem RdD.reads (I : Inv X pins σ H s) {x : V} {d : PyData} {u : Value} (q : RdD X.K H x d) : RelV x u → ∃ as, Reads s.heap u d as :=
  RdD.rec (motive_1 := fun x d _ => ∀ u : Value, RelV x u → ∃ as, Reads s.heap u d as) (motive_2 := fun xs ds _ => ∀ us : List Value, Vals xs us → ∃ as, ReadsAll s.heap us ds as)
    (fun u r => by cases r; exact ⟨_, .none⟩) (fun b u r => by cases r; exact ⟨_, .bool b⟩) (fun i u r => by obtain ⟨t, rfl⟩ := r; exact ⟨_, .int i t⟩) (fun x u r => by obtain ⟨t, rfl⟩ := r; exact ⟨_, .str x t⟩)
    (fun h _ ih u r => by
      cases r
      obtain ⟨its, rv, ⟨o, n, e, c, _, d⟩, _⟩ := I.list h
      obtain ⟨as, ra⟩ := ih its rv
      exact ⟨_, .list e c d (by simpa using ra)⟩)
    (fun h _ ih u r => by
      cases r
      obtain ⟨its, rv, ⟨o, e, c, n, d⟩, _⟩ := I.tuple h
      obtain ⟨as, ra⟩ := ih its rv
      exact ⟨_, .tuple e c d (by simpa using ra)⟩)
    (fun us r => by cases r; exact ⟨_, .nil⟩)
    (fun _ _ h t us r => by
      cases r with
      | cons r rs =>
        obtain ⟨as, ra⟩ := h _ r
        obtain ⟨bs, rb⟩ := t _ rs
        exact ⟨_, .cons ra rb⟩) q u
def rEqD (K : PySem.W.Frag) (neg : Bool) : R2 := fun x y H Q => ∃ d e, RdD K H x d ∧ RdD K H y e ∧ SeqAt.shaped d = true ∧ SeqAt.shaped e = true ∧ Q (.bl (if neg then !(PyData.eqv d e) else PyData.eqv d e)) H
theorem op_eqD (hu : X.A.units + 64 < cLine) : OpR X (compareOp .Eq) (rEqD X.K false) := by
  intro pins s σ H x y v u Q I rx ry h
  obtain ⟨d, e, h1, h2, s1, s2, q⟩ := h
  obtain ⟨as, ra⟩ := h1.reads I rx
  obtain ⟨bs, rb⟩ := h2.reads I ry
  exact eq_dataH ra rb s1 s2 hu ⟨.bl _, H, I, rfl, q⟩
theorem op_neD (hu : X.A.units + 64 < cLine) : OpR X (compareOp .NotEq) (rEqD X.K true) := by
  intro pins s σ H x y v u Q I rx ry h
  obtain ⟨d, e, h1, h2, s1, s2, q⟩ := h
  obtain ⟨as, ra⟩ := h1.reads I rx
  obtain ⟨bs, rb⟩ := h2.reads I ry
  exact ne_dataH ra rb s1 s2 hu ⟨.bl _, H, I, rfl, q⟩
mutual
theorem RdD.mono {K : PySem.W.Frag} {H H' : Hp} (S : Same H H') : ∀ {x : V} {d : PyData}, RdD K H x d → RdD K H' x d
  | _, _, .non => .non
  | _, _, .bl b => .bl b
  | _, _, .int i => .int i
  | _, _, .str x => .str x
  | _, _, .lst h q => .lst (S.seq h) (RdDs.mono S q)
  | _, _, .tup h q => .tup (by
      rcases h with (h | ⟨o, h⟩) | h
      · exact .inl (.inl (S _ _ h))
      · exact .inl (.inr ⟨o, S _ _ h⟩)
      · exact .inr h) (RdDs.mono S q)
theorem RdDs.mono {K : PySem.W.Frag} {H H' : Hp} (S : Same H H') : ∀ {xs : List V} {ds : List PyData}, RdDs K H xs ds → RdDs K H' xs ds
  | _, _, .nil => .nil
  | _, _, .cons h t => .cons (RdD.mono S h) (RdDs.mono S t)
end
theorem RdDs.append {K : PySem.W.Frag} {H : Hp} : ∀ {xs ys : List V} {ds es : List PyData}, RdDs K H xs ds → RdDs K H ys es → RdDs K H (xs ++ ys) (ds ++ es)
  | _, _, _, _, .nil, q => q
  | _, _, _, _, .cons h t, q => .cons h (RdDs.append t q)
theorem RdDs.take {K : PySem.W.Frag} {H : Hp} : ∀ (n : Nat) {xs : List V} {ds : List PyData}, RdDs K H xs ds → RdDs K H (xs.take n) (ds.take n)
  | 0, _, _, _ => .nil
  | _ + 1, _, _, .nil => .nil
  | n + 1, _, _, .cons h t => .cons h (RdDs.take n t)
theorem RdDs.drop {K : PySem.W.Frag} {H : Hp} : ∀ (n : Nat) {xs : List V} {ds : List PyData}, RdDs K H xs ds → RdDs K H (xs.drop n) (ds.drop n)
  | 0, _, _, q => q
  | _ + 1, _, _, .nil => .nil
  | n + 1, _, _, .cons _ t => RdDs.drop n t
theorem RdDs.length {K : PySem.W.Frag} {H : Hp} : ∀ {xs : List V} {ds : List PyData}, RdDs K H xs ds → xs.length = ds.length
  | _, _, .nil => rfl
  | _, _, .cons _ t => congrArg (· + 1) (RdDs.length t)
theorem RdDs.get {K : PySem.W.Frag} {H : Hp} : ∀ {xs : List V} {ds : List PyData} {i : Nat} {x : V}, RdDs K H xs ds → xs[i]? = some x → ∃ d, ds[i]? = some d ∧ RdD K H x d
  | _, _, _, _, .nil, e => by simp at e
  | _, _, 0, _, .cons h _, e => by simp at e; subst e; exact ⟨_, rfl, h⟩
  | _, _, i + 1, _, .cons _ t, e => by
    obtain ⟨d, h1, h2⟩ := RdDs.get (i := i) t (by simpa using e)
    exact ⟨d, by simpa using h1, h2⟩
theorem Inv.turnedNew {t' : Nat} {ch : List Addr} {T : Addr} {o : HO} (I : Inv X pins σ H s) (k : ∀ b o, b ∉ ch → s.heap.get? b = some o → h'.get? b = some o) (hf : ∀ b ∈ ch, FpOk X pins H b)
    (hT : s.heap.objs.size ≤ T) (new : ObjOk X.prog X.w (upd H T o) h' T o) : Inv X pins σ (upd H T o) { s with heap := h', toks := t' } := by
  have hn : H T = none := I.hok.fresh hT
  have nch : ∀ b u, H b = some u → b ∉ ch := fun b u e z => by rw [(hf b z).1] at e; cases e
  refine I.step (g' := s.gens) (d' := s.drawn) (ch := ch) (fun b hb => ⟨(hf b hb).2.2.2.1, (hf b hb).2.1, (hf b hb).2.2.2.2.1, (hf b hb).2.2.2.2.2⟩)
    (fun b o _ _ hc e _ => k b o hc e) (fun b o _ _ hc e _ => ⟨o.slots, k b o hc e⟩)
    (fun b o _ e n => by rw [upd_ne (Nat.ne_of_lt (Nat.lt_of_lt_of_le (Heap.lt_size e) hT))]; exact n)
    (fun b o hc e => ⟨o, k b o hc e⟩)
    (fun b xs e => by rw [upd_ne (ne_of_none e hn)]; exact e) (fun b o u e => by rw [upd_ne (ne_of_none e hn)]; exact e)
    (fun b ps e => ⟨#[], by rw [upd_ne (ne_of_none e hn), e]; simp⟩) (fun m hm => ?_) (fun b u e => ?_) I.bare
  · obtain ⟨ob, es, ep, ho, r⟩ := hm
    exact ⟨ob, es, ep, k _ ob (fun z => (hf _ z).2.1 rfl) ho, r⟩
  · by_cases hb : b = T
    · subst hb; rw [upd_same] at e; cases e; exact new
    · rw [upd_ne hb] at e
      refine (I.hok b u e).stay (fun c v hc q => k c v ?_ q) (fun c q => by rw [upd_ne (ne_of_none q hn)]; exact q) fun c xs q => by rw [upd_ne (ne_of_none q hn)]; exact q
      rcases hc with z | z
      · rw [z]; exact nch b u e
      · exact nch c _ z
theorem Inv.turnedL {t' : Nat} {ch : List Addr} (I : Inv X pins σ H s) (k : ∀ b o, b ∉ ch → s.heap.get? b = some o → h'.get? b = some o) (hf : ∀ b ∈ ch, FpOk X pins H b) :
    Inv X pins σ H { s with heap := h', toks := t' } := by
  have nch : ∀ b u, H b = some u → b ∉ ch := fun b u e z => by rw [(hf b z).1] at e; cases e
  refine I.step (g' := s.gens) (d' := s.drawn) (ch := ch) (fun b hb => ⟨(hf b hb).2.2.2.1, (hf b hb).2.1, (hf b hb).2.2.2.2.1, (hf b hb).2.2.2.2.2⟩)
    (fun b o _ _ hc e _ => k b o hc e) (fun b o _ _ hc e _ => ⟨o.slots, k b o hc e⟩) (fun _ _ _ _ n => n)
    (fun b o hc e => ⟨o, k b o hc e⟩) (fun _ _ e => e) (fun _ _ _ e => e) (fun b ps e => ⟨#[], by rw [e]; simp⟩) (fun m hm => ?_) (fun b u e => ?_) I.bare
  · obtain ⟨ob, es, ep, ho, r⟩ := hm
    exact ⟨ob, es, ep, k _ ob (fun z => (hf _ z).2.1 rfl) ho, r⟩
  · refine (I.hok b u e).stay (fun c v hc q => k c v ?_ q) (fun _ q => q) fun _ _ q => q
    rcases hc with z | z
    · rw [z]; exact nch b u e
    · exact nch c _ z
end
section
variable {X : Cx}
def rEqG (K : PySem.W.Frag) : R2 := fun x y H Q => rI0 (fun i j => .bl (decide (i = j))) x y H Q ∨ rEqT K x y H Q ∨ rEq x y H Q ∨ rEqD K false x y H Q
theorem op_eqG (hu : X.A.units + 64 < cLine) : OpR X (compareOp .Eq) (rEqG X.K) := op_eqI.or ((op_eqT (by omega)).or (op_eq.or (op_eqD hu)))
def rNeG (K : PySem.W.Frag) : R2 := fun x y H Q => rI0 (fun i j => .bl (!decide (i = j))) x y H Q ∨ rNe x y H Q ∨ rEqD K true x y H Q
theorem op_neG (hu : X.A.units + 64 < cLine) : OpR X (compareOp .NotEq) (rNeG X.K) := op_neI.or (op_ne.or (op_neD hu))
end
end L2
namespace L2
open PySem PySem.Spec PyProof.Rows
theorem forIn_fold {α β : Type} {f : α → β → Sem (ForInStep β)} (g : β → α → β) : ∀ (l : List α) (b : β), (∀ x ∈ l, ∀ c, f x c = pure (.yield (g c x))) → forIn l b f = pure (l.foldl g b)
  | [], _, _ => rfl
  | x :: l, b, h => by
    rw [List.forIn_cons, h x List.mem_cons_self, pure_bind]
    exact forIn_fold g l (g b x) fun y hy => h y (List.mem_cons_of_mem _ hy)
def clStep (cells : List (Str × Addr)) (cs : List (Str × Addr)) (x : Str × NameKind) : List (Str × Addr) := if (x.2 == NameKind.free) = true then (x.1, (cells.lookup x.1).getD 0) :: cs else cs
theorem cl_from {cells : List (Str × Addr)} : ∀ (names : List (Str × NameKind)) (cs : List (Str × Addr)), (∀ x ∈ names, x.2 = NameKind.free → ∃ c, cells.lookup x.1 = some c) → (∀ x c, cs.lookup x = some c → cells.lookup x = some c) →
    (∀ x c, (names.foldl (clStep cells) cs).lookup x = some c → cells.lookup x = some c) ∧ (∀ x, ((∃ c, cs.lookup x = some c) ∨ (x, NameKind.free) ∈ names) → ∃ c, (names.foldl (clStep cells) cs).lookup x = some c)
  | [], cs, _, h => ⟨h, fun x q => by
      rcases q with q | q
      · exact q
      · cases q⟩
  | (n, k) :: r, cs, hf, h => by
    have step : ∀ x c, (clStep cells cs (n, k)).lookup x = some c → cells.lookup x = some c := fun x c e => by
      unfold clStep at e
      by_cases hk : ((n, k).2 == NameKind.free) = true
      · rw [if_pos hk] at e
        obtain ⟨c0, hc0⟩ := hf (n, k) List.mem_cons_self (by simpa using hk)
        by_cases hx : x = n
        · subst hx
          rw [List.lookup_cons_self] at e
          rw [hc0] at e ⊢
          exact e
        · have : (x == n) = false := by simpa using hx
          rw [List.lookup_cons, this] at e
          exact h x c e
      · rw [if_neg hk] at e
        exact h x c e
    obtain ⟨a, b⟩ := cl_from r (clStep cells cs (n, k)) (fun x hx => hf x (List.mem_cons_of_mem _ hx)) step
    refine ⟨a, fun x q => b x ?_⟩
    rcases q with ⟨c, q⟩ | q
    · left
      unfold clStep
      by_cases hk : ((n, k).2 == NameKind.free) = true
      · rw [if_pos hk]
        by_cases hx : x = n
        · subst hx; exact ⟨_, List.lookup_cons_self⟩
        · have : (x == n) = false := by simpa using hx
          exact ⟨c, by rw [List.lookup_cons, this]; exact q⟩
      · rw [if_neg hk]; exact ⟨c, q⟩
    · rcases List.mem_cons.mp q with q | q
      · left
        cases q
        unfold clStep
        rw [if_pos (by rfl)]
        exact ⟨_, List.lookup_cons_self⟩
      · exact .inr q
theorem closure_ok {scope : Scope} {env : Env} (h : ∀ x ∈ scope.names, x.2 = NameKind.free → ∃ c, env.cells.lookup x.1 = some c) :
    ∃ cl, closureFor scope env = pure cl ∧ (∀ x c, cl.lookup x = some c → env.cells.lookup x = some c) ∧ (∀ x, (x, NameKind.free) ∈ scope.names → ∃ c, cl.lookup x = some c) := by
  obtain ⟨a, b⟩ := cl_from (cells := env.cells) scope.names [] h (fun x c e => by simp at e)
  refine ⟨_, ?_, a, fun x q => b x (.inr q)⟩
  simp only [closureFor]
  rw [forIn_fold (clStep env.cells) _ _ (fun x hx c => by
    obtain ⟨n, kind⟩ := x
    unfold clStep
    cases hk : (kind == NameKind.free) with
    | false => simp only [hk, Bool.false_eq_true, if_false]
    | true =>
      obtain ⟨c0, hc0⟩ := h (n, kind) hx (by simpa using hk)
      simp only [hk, if_true, cellOf]
      rw [show List.lookup n env.cells = some c0 from hc0]
      rfl)]
  rfl
def cxComp (X : Cx) (scope : Scope) (N : List Str) (cl : List (Str × Addr)) (C : Addr) (s₀ : Shared) (H₀ : Hp) (ex : List Addr) : Cx where
  prog := X.prog
  w := X.w
  K := X.K
  mg := X.mg
  base := X.base
  A := X.A
  N := N
  s₀ := s₀
  H₀ := H₀
  env := compEnvC scope cl C X.env
  outer := X.stack
  stack := X.stack
  ex := ex
  fn := fun _ => false
  calm := X.calm
  pn := []
  xe := fun _ _ => False
def PIfs (X : Cx) (ifs : List Expr) (t : TT) : Prop := ∀ (pins : List (Addr × Obj)) (s : Shared) (σ : St) (H : Hp) (Q : Bool → Hp → Prop), Inv X pins σ H s → t σ H Q →
  wpAny (model X.prog X.w) X.A (forIn ifs true fun c r => if r = true then do let ok ← isTrue c X.env (eval c X.env); pure (ForInStep.yield ok) else pure (ForInStep.yield r)) (TP X pins σ Q) X.xe s
def tYes : TT := fun _ H Q => Q true H
theorem pif_nil {X : Cx} : PIfs X [] tYes := fun _ _ _ H _ I h => wpAny_tests_nil ⟨H, I, h⟩
theorem pif_one {X : Cx} {c : Expr} {t : TT} (h : PT X c t) : PIfs X [c] t := fun pins s σ H Q I q => wpAny_tests_one (h pins s σ H Q I q)
def inSt (cap : List Nat) (x : Option V) (σ : St) : St := x :: cap.map fun i => (σ[i]?).join
def compBody (J : It) (tc : TT) (te : TE) (cap : List Nat) (σ : St) (Q : VK) (H1 : Hp) : Prop := ∀ acc, H1 acc = none → ∃ W : Nat → Nat → Hp → Prop, (∃ m, W 0 m (upd H1 acc (.lst []))) ∧ ∀ i m H, W i m H →
  (J.stop i H ∧ Q (.ref acc) H) ∨ (J.go i H ∧ ∀ x H', J.yld i H x H' → tc (inSt cap (some x) σ) H' fun b H3 => if b = true then te (inSt cap (some x) σ) H3 fun y H4 => ∃ ys, H4 acc = some (.lst ys) ∧ ys.length < sizeLine ∧ ∃ m', m' < m ∧ W (i + 1) m' (upd H4 acc (.lst (ys ++ [y]))) else ∃ m', m' < m ∧ W (i + 1) m' H3)
def tComp (wi : TI) (tc : TT) (te : TE) (cap : List Nat) : TE := fun σ H Q => wi σ H fun J H1 => compBody J tc te cap σ Q H1
theorem lookup_relabel_free {env : Env} : ∀ {names : List (Str × NameKind)} {x : Str}, names.lookup x = some .free →
    (names.map fun (n, k) => if (k == NameKind.free && env.scope.kind == .function && env.kindOf n == some .cell) then (n, NameKind.cell) else (n, k)).lookup x = some .cell ∨
    (names.map fun (n, k) => if (k == NameKind.free && env.scope.kind == .function && env.kindOf n == some .cell) then (n, NameKind.cell) else (n, k)).lookup x = some .free
  | [], _, h => by simp at h
  | (n, k) :: r, x, h => by
    have ih := @lookup_relabel_free env r x
    show List.lookup x ((if (k == NameKind.free && env.scope.kind == .function && env.kindOf n == some .cell) = true then (n, NameKind.cell) else (n, k)) :: _) = _ ∨
      List.lookup x ((if (k == NameKind.free && env.scope.kind == .function && env.kindOf n == some .cell) = true then (n, NameKind.cell) else (n, k)) :: _) = _
    cases hx : x == n with
    | true =>
      simp only [List.lookup_cons, hx] at h
      cases h
      by_cases hc : (NameKind.free == NameKind.free && env.scope.kind == .function && env.kindOf n == some .cell) = true
      · rw [if_pos hc]; left; simp [List.lookup_cons, hx]
      · rw [if_neg hc]; right; simp [List.lookup_cons, hx]
    | false =>
      simp only [List.lookup_cons, hx] at h
      by_cases hc : (k == NameKind.free && env.scope.kind == .function && env.kindOf n == some .cell) = true
      · rw [if_pos hc]; simp only [List.lookup_cons, hx]; exact ih h
      · rw [if_neg hc]; simp only [List.lookup_cons, hx]; exact ih h
theorem of_relabel {env : Env} : ∀ {names : List (Str × NameKind)} {x : Str}, (∀ y ∈ names, y.2 ≠ .cell) →
    ((names.map fun (n, k) => if (k == NameKind.free && env.scope.kind == .function && env.kindOf n == some .cell) then (n, NameKind.cell) else (n, k)).lookup x = some .cell ∨
    (names.map fun (n, k) => if (k == NameKind.free && env.scope.kind == .function && env.kindOf n == some .cell) then (n, NameKind.cell) else (n, k)).lookup x = some .free) → (x, NameKind.free) ∈ names
  | [], _, _, h => by simp at h
  | (n, k) :: r, x, hcell, h => by
    have ih := @of_relabel env r x (fun y hy => hcell y (List.mem_cons_of_mem _ hy))
    have hk := hcell (n, k) List.mem_cons_self
    cases hx : x == n with
    | true =>
      have e : x = n := by simpa using hx
      subst e
      by_cases hc : (k == NameKind.free && env.scope.kind == .function && env.kindOf x == some .cell) = true
      · have : k = .free := by
          rw [Bool.and_eq_true, Bool.and_eq_true] at hc
          simpa using hc.1.1
        subst this
        exact List.mem_cons_self
      · have h' : List.lookup x ((if (k == NameKind.free && env.scope.kind == .function && env.kindOf x == some .cell) = true then (x, NameKind.cell) else (x, k)) :: (r.map fun (n, k) => if (k == NameKind.free && env.scope.kind == .function && env.kindOf n == some .cell) then (n, NameKind.cell) else (n, k))) = some .cell ∨
          List.lookup x ((if (k == NameKind.free && env.scope.kind == .function && env.kindOf x == some .cell) = true then (x, NameKind.cell) else (x, k)) :: (r.map fun (n, k) => if (k == NameKind.free && env.scope.kind == .function && env.kindOf n == some .cell) then (n, NameKind.cell) else (n, k))) = some .free := h
        rw [if_neg hc, List.lookup_cons_self] at h'
        rcases h' with h' | h'
        · exact absurd (Option.some.inj h') hk
        · have := Option.some.inj h'
          subst this
          exact List.mem_cons_self
    | false =>
      refine List.mem_cons_of_mem _ (ih ?_)
      have h' : List.lookup x ((if (k == NameKind.free && env.scope.kind == .function && env.kindOf n == some .cell) = true then (n, NameKind.cell) else (n, k)) :: (r.map fun (n, k) => if (k == NameKind.free && env.scope.kind == .function && env.kindOf n == some .cell) then (n, NameKind.cell) else (n, k))) = some .cell ∨
          List.lookup x ((if (k == NameKind.free && env.scope.kind == .function && env.kindOf n == some .cell) = true then (n, NameKind.cell) else (n, k)) :: (r.map fun (n, k) => if (k == NameKind.free && env.scope.kind == .function && env.kindOf n == some .cell) then (n, NameKind.cell) else (n, k))) = some .free := h
      by_cases hc : (k == NameKind.free && env.scope.kind == .function && env.kindOf n == some .cell) = true
      · rw [if_pos hc] at h'; simp only [List.lookup_cons, hx] at h'; exact h'
      · rw [if_neg hc] at h'; simp only [List.lookup_cons, hx] at h'; exact h'
section
variable {X : Cx} {pins : List (Addr × Obj)} {σ : St} {H : Hp} {s : Shared}
structure CompScope (X : Cx) (scope : Scope) (x : Str) (cn : List Str) (cap : List Nat) : Prop where
  kind : scope.kind = .function
  names : ∀ y ∈ scope.names, y.2 = .local → scope.names.lookup y.1 = some .local
  cell : ∀ y ∈ scope.names, y.2 ≠ .cell
  own : scope.names.lookup x = some .local
  free : ∀ y ∈ scope.names, y.2 = .free → X.env.kindOf y.1 = some .cell ∨ X.env.kindOf y.1 = some .free
  cap : cap.map (fun i => X.N[i]?) = cn.map some
  capf : ∀ y ∈ cn, scope.names.lookup y = some .free
  capo : ∀ y ∈ cn, X.env.scope.names.lookup y = some .cell ∨ X.env.scope.names.lookup y = some .free
  nd : (x :: cn).Nodup
theorem comp_ok {scope : Scope} {x : Str} {cn : List Str} {cap : List Nat} {cl : List (Str × Addr)} {C : Addr} {fp : List Addr} (S : CompScope X scope x cn cap) (I : Inv X pins σ H s) (hf : ∀ b ∈ fp, FpOk X pins H b) (hlt : ∀ b ∈ fp, b < s.heap.objs.size)
    (hc1 : ∀ y c, cl.lookup y = some c → X.env.cells.lookup y = some c) (hc2 : ∀ y, (y, NameKind.free) ∈ scope.names → ∃ c, cl.lookup y = some c) (hC : s.heap.objs.size ≤ C) : (cxComp X scope (x :: cn) cl C s H fp).Ok where
  mod := I.ok.mod
  kind := S.kind
  glob := I.ok.glob
  blt := I.ok.blt
  above := hC
  inj := fun y z c h1 h2 => I.ok.inj y z c (hc1 y c h1) (hc1 z c h2)
  has := fun y h => hc2 y (of_relabel (env := X.env) S.cell h)
  cab := fun y c h => by cases (show false = true from h)
  hd := I.ok.hd
  frames := I.ok.frames
  stk := .inl rfl
  exf := fun b hb => ⟨Nat.ne_of_lt (Nat.lt_of_lt_of_le (hlt b hb) hC), fun y c h => (hf b hb).2.2.2.2.1 y c (hc1 y c h)⟩
  bs := I.bs
  bsz := Nat.le_trans I.ok.bsz I.sz
  noex := fun b o e hb => by
    rcases (hf b hb).2.2.2.1 with z | z
    · exact I.ok.noex b o e z
    · have h1 := Heap.lt_size e
      exact absurd (Nat.lt_of_lt_of_le h1 (Nat.le_trans I.ok.bsz z)) (Nat.lt_irrefl _)
  exfs := fun b hb z => by
    rcases List.mem_cons.mp (I.stkSub b z) with q | q
    · exact (hf b hb).2.1 q
    · exact (hf b hb).2.2.1 q
  funs := I.stack
  frf := I.stkFree
theorem map_get {α β : Type} {l : List α} {f : α → Option β} {m : List β} (h : l.map f = m.map some) : ∀ {j : Nat} {y : β}, m[j]? = some y → ∃ i, l[j]? = some i ∧ f i = some y := by
  intro j y e
  have h2 := congrArg (fun z => z[j]?) h
  simp only [List.getElem?_map] at h2
  rw [e] at h2
  cases q : l[j]? with
  | none => rw [q] at h2; cases h2
  | some i =>
    rw [q] at h2
    exact ⟨i, rfl, by simpa using h2⟩
theorem pe_compG {elt iter : Expr} {x : Str} {px : Pos} {ifs : List Expr} {scope : Scope} {pos : Pos} {wi : TI} {tc : TT} {te : TE} (cn : List Str) (cap : List Nat) (S : CompScope X scope x cn cap) (hc : X.calm = true)
    (hi : PI X (.Name x px) iter wi) (hin : ∀ cl C s₀ H₀ ex, PIfs (cxComp X scope (x :: cn) cl C s₀ H₀ ex) ifs tc) (he : ∀ cl C s₀ H₀ ex, PE (cxComp X scope (x :: cn) cl C s₀ H₀ ex) elt te)
    (hs : ∀ z, foldedSetIterable iter X.env z = pure z := by intro _; rfl) : PE X (.ListComp elt [⟨.Name x px, iter, ifs, 0⟩] scope pos) (tComp wi tc te cap) := by
  intro pins s σ H Q I h
  obtain ⟨cl, hclos, hc1, hc2⟩ := closure_ok (scope := scope) (env := X.env) fun y hy hk => I.ok.has y.1 (S.free y hy hk)
  rw [eval_ListComp]
  refine wpAny_comprehension_free (use := none) rfl hs hclos S.kind S.names (thn (hi pins s σ H _ I h) fun v s1 h1 => thn h1 fun itv s2 h2 => ?_)
  obtain ⟨it, fp, tn, J, H2, e, I2, T, st2, f2, q2⟩ := h2
  subst e
  have hlt : ∀ b ∈ fp, b < s2.heap.objs.size := fun b hb => by
    obtain ⟨o, e, _⟩ := T.obj _ _ st2 b hb
    exact Heap.lt_size e
  refine wpAny_newObj_type (wpAny_newFunctionEnv S.cell (by intro y hy; simp at hy) (fun h₁ hns₁ hsb₁ => ?_) S.kind)
  dsimp only at hns₁ hsb₁ ⊢
  generalize hP : s2.heap.push { cls := .type "list", dict := none, data := .seq ([] : List Value).toArray } = P2 at hns₁ hsb₁ ⊢
  have hC : P2.objs.size = s2.heap.objs.size + 1 := by rw [← hP, Heap.size_push]
  have hDC : s2.heap.objs.size ≠ P2.objs.size := by rw [hC]; exact Nat.ne_of_lt (Nat.lt_succ_self _)
  have hCle : s2.heap.objs.size ≤ P2.objs.size := by rw [hC]; exact Nat.le_succ _
  have neC : ∀ b, b < s2.heap.objs.size → b ≠ P2.objs.size := fun b hb => by rw [hC]; exact Nat.ne_of_lt (Nat.lt_succ_of_lt hb)
  have old : ∀ b o, s2.heap.get? b = some o → h₁.get? b = some o := fun b o e => hsb₁.extBut b o (neC b (Heap.lt_size e)) (Heap.get?_push_of_some _ (hP ▸ Heap.get?_push_of_some _ e))
  have hacc : h₁.get? s2.heap.objs.size = some { cls := .type "list", dict := none, data := .seq ([] : List Value).toArray } := hsb₁.extBut _ _ hDC (Heap.get?_push_of_some _ (hP ▸ Heap.get?_push_size _ rfl))
  have hD0 : H2 s2.heap.objs.size = none := I2.hok.fresh (Nat.le_refl _)
  have ok' : (cxComp X scope (x :: cn) cl P2.objs.size s2 H2 fp).Ok := comp_ok S I2 f2 hlt hc1 hc2 hCle
  obtain ⟨W, ⟨m0, w0⟩, turn⟩ := q2 _ hD0
  have hok1 : HOk X.prog X.w (upd H2 s2.heap.objs.size (.lst [])) h₁ := I2.hok.laid old (Nat.le_refl _) ⟨Nat.zero_le _, [], _, .nil, hacc⟩
  have un1 : Un (frs X.stack) fp H2 (upd H2 s2.heap.objs.size (.lst [])) s2.heap h₁ := Un.laid old (Nat.le_refl _) hD0
  have I4 : ∀ tk, Inv (cxComp X scope (x :: cn) cl P2.objs.size s2 H2 fp) [] (inSt cap none σ) (upd H2 s2.heap.objs.size (.lst [])) { s2 with heap := h₁, toks := tk } := fun tk => by
    refine ⟨ok', rfl, I2.bare, un1, ⟨_, hns₁, fun i y v e1 e2 e3 => ?_⟩, fun y c e => ?_, ?_, fun y c e => ?_, fun p hp => (nomatch hp), hok1, ?_⟩
    · cases i with
      | zero => cases (show (none : Option V) = some v from Option.some.inj e2)
      | succ j =>
        have e1' : cn[j]? = some y := e1
        have ymem : y ∈ cn := List.mem_of_getElem? e1'
        obtain ⟨i0, ci, ni⟩ := map_get S.cap e1'
        have e2' : (cap.map fun i => (σ[i]?).join)[j]? = some (some v) := e2
        rw [List.getElem?_map, ci] at e2'
        have e3' : (σ[i0]?).join = some v := Option.some.inj e2'
        have e4 : σ[i0]? = some (some v) := by
          cases q : σ[i0]? with
          | none => rw [q] at e3'; cases e3'
          | some o => rw [q] at e3'; exact congrArg some e3'
        obtain ⟨m, hn, hl⟩ := I2.loc
        have vis : Vis X.env.scope y := .inr (S.capo y ymem)
        obtain ⟨u, r, lk⟩ := hl i0 y v ni e4 vis
        refine ⟨u, r, .inr ⟨lookup_relabel_free (env := X.env) (S.capf y ymem), ?_⟩⟩
        rcases lk with ⟨kl, _⟩ | ⟨_, c, ec, hcell⟩
        · rcases S.capo y ymem with z | z
          · have kl' : X.env.scope.names.lookup y = some .local := kl
            rw [z] at kl'; cases kl'
          · have kl' : X.env.scope.names.lookup y = some .local := kl
            rw [z] at kl'; cases kl'
        · have fm : (y, NameKind.free) ∈ scope.names := of_relabel (env := X.env) S.cell (lookup_relabel_free (env := X.env) (S.capf y ymem))
          obtain ⟨c', ec'⟩ := hc2 y fm
          have := hc1 y c' ec'
          rw [ec] at this
          cases this
          obtain ⟨o, ho, hd⟩ := hcell
          exact ⟨c, ec', o, old _ _ ho, hd⟩
    · obtain ⟨v, o, ho, hd⟩ := I2.cell y c (hc1 y c e)
      exact ⟨v, o, old _ _ ho, hd⟩
    · show (upd H2 s2.heap.objs.size (.lst [])) P2.objs.size = none
      rw [upd_ne (Ne.symm hDC)]
      exact I2.hok.fresh hCle
    · obtain ⟨v, o, ho, hd⟩ := I2.cell y c (hc1 y c e)
      rw [upd_ne (Nat.ne_of_lt (Heap.lt_size ho))]
      exact I2.freeC y c (hc1 y c e)
    · show (inSt cap none σ).length = (x :: cn).length
      have := congrArg List.length S.cap
      simp only [List.length_map] at this
      simp [inSt, this]
  have stat : ∀ {H' : Hp}, (∀ b ∈ fp, H' b = none) → ∀ b ∈ fp, FpOk (cxComp X scope (x :: cn) cl P2.objs.size s2 H2 fp) [] H' b := fun hn b hb =>
    ⟨hn b hb, neC b (hlt b hb), ok'.exfs b hb, .inl hb, fun y c e => (ok'.exf b hb).2 y c e, fun p hp => (nomatch hp)⟩
  have pgx : PG (cxComp X scope (x :: cn) cl P2.objs.size s2 H2 fp) (.Name x px) (gName 0) := pg_name (i := 0) S.nd rfl (.inl (lookup_relabel_local (env := X.env) S.own)) (.inr (lookup_relabel_local (env := X.env) S.own))
  have loop : ∀ s₃ : Shared, s₃ = { s2 with heap := h₁, toks := s2.toks + ([] : List (Str × Value)).length } →
      codeAny (model X.prog X.w) X.A (.compLoop (.ListComp elt [⟨.Name x px, iter, ifs, 0⟩] scope pos) 0 (.ref it) (.ref s2.heap.objs.size) (compEnvC scope cl P2.objs.size X.env))
        (compPost (model X.prog X.w) X.A X.xe none (EP X pins σ Q) (.ref s2.heap.objs.size) P2.objs.size) s₃ := by
    rintro s₃ rfl
    refine codeAny_loop rfl (fun n s' => ∃ i H', Inv (cxComp X scope (x :: cn) cl P2.objs.size s2 H2 fp) [] (inSt cap none σ) H' s' ∧ tn i s'.heap ∧ (∀ b ∈ fp, H' b = none) ∧ W i n H') ?_ m0
      ⟨0, _, I4 _, T.keep _ _ _ st2 fun b hb o e => old b o e, fun b hb => by rw [upd_ne (Nat.ne_of_lt (hlt b hb))]; exact (f2 b hb).1, w0⟩
    rintro n s3 ⟨i, H3, I3, st3, fr3, w3⟩
    show wpAny _ X.A ((compTurn (.ListComp elt [⟨.Name x px, iter, ifs, 0⟩] scope pos) 0 (.ref it) (.ref s2.heap.objs.size) (compEnvC scope cl P2.objs.size X.env)).onRaise (fun x => do noteFrame x (compEnvC scope cl P2.objs.size X.env); theTreesLotGoes x)) _ _ s3
    refine wpAny_noted ?_
    rw [compTurn_list]
    refine wpAny_bind (wpAny_standAt (wpAny_bind ?_))
    rcases turn i n H3 w3 with ⟨stop, qn⟩ | ⟨go, step⟩
    · refine wpAny_mono (T.done (cxComp X scope (x :: cn) cl P2.objs.size s2 H2 fp) rfl rfl rfl hc i [] s3 _ H3 (fun _ _ => False) I3 (stat fr3) st3 stop) (fun r s4 ⟨hr, I5⟩ => ?_) fun _ _ z => z.elim
      subst hr
      refine wpAny_pure ?_
      obtain ⟨m, hn, _⟩ := id I5.loc
      refine ⟨m, hn, fun h' hsb => ⟨.ref s2.heap.objs.size, H3, ?_, rfl, qn⟩⟩
      have kp : ∀ b o, b ≠ P2.objs.size → s4.heap.get? b = some o → h'.get? b = some o := fun b o hb e => hsb.extBut b o hb e
      have b0 := I5.base
      have sm : ∀ b o, s2.heap.get? b = some o → b ≠ P2.objs.size := fun b o e => neC b (Heap.lt_size e)
      refine I2.call' (s' := { s4 with heap := h' }) (ch := fp) I5.os ⟨fun b o e n hb hx => kp _ _ (sm b o e) (b0.keep b o e n hb hx), fun b o e n hb hx => ?_, b0.free, fun b o e hx => ?_, b0.tups, b0.frzs, b0.tbls⟩ (fun b u e => ?_) I5.bare
        fun b hb => ⟨(f2 b hb).2.2.2.1, (f2 b hb).2.1, (f2 b hb).2.2.2.2.1, (f2 b hb).2.2.2.2.2⟩
      · obtain ⟨sl, q⟩ := b0.slot b o e n hb hx
        exact ⟨sl, kp _ _ (sm b o e) q⟩
      · obtain ⟨o', q⟩ := b0.there b o e hx
        exact ⟨o', kp _ _ (sm b o e) q⟩
      · have hfree : H3 P2.objs.size = none := I5.free
        refine (I5.hok b u e).stay (fun c v hc' q => kp c v ?_ q) (fun _ q => q) fun _ _ q => q
        rcases hc' with z | z
        · rw [z]; exact ne_of_none e hfree
        · exact ne_of_none z hfree
    · refine wpAny_mono (T.item (cxComp X scope (x :: cn) cl P2.objs.size s2 H2 fp) rfl rfl rfl hc i [] s3 _ H3 (fun _ _ => False) I3 (stat fr3) st3 go) (fun r s4 ⟨u, hr, h4⟩ => ?_) fun _ _ z => z.elim
      subst hr
      refine wpAny_bind (wpAny_mono h4 (fun _ s5 ⟨xv, H5, I5, r5, y5, st5, fr5⟩ => ?_) fun _ _ z => z.elim)
      have I5' := I5.pinned (stat fr5) (T.obj _ _ st5)
      refine wpAny_bind (wpAny_mono (pgx _ s5 _ H5 xv u (fun σ6 H6 => σ6 = inSt cap (some xv) σ ∧ H6 = H5) I5' r5 ⟨rfl, rfl⟩) (fun _ s6 ⟨σ6, H6, I6, e6, e6'⟩ => ?_) fun _ _ z => z.elim)
      subst e6 e6'
      have again : ∀ {s7 : Shared} {H7 : Hp}, Inv (cxComp X scope (x :: cn) cl P2.objs.size s2 H2 fp) ([] ++ pinsAt fp s5.heap) (inSt cap (some xv) σ) H7 s7 → (∃ m', m' < n ∧ W (i + 1) m' H7) →
          ∃ m, m < n ∧ ∃ i H', Inv (cxComp X scope (x :: cn) cl P2.objs.size s2 H2 fp) [] (inSt cap none σ) H' s7 ∧ tn i s7.heap ∧ (∀ b ∈ fp, H' b = none) ∧ W i m H' := fun {s7 H7} I7 w7 => by
        obtain ⟨m', hm, w7⟩ := w7
        refine ⟨m', hm, i + 1, H7, I7.unpinned.weak rfl fun j v ev => ?_, T.keep _ _ _ st5 fun b hb o e => (I7.pin (b, o) (List.mem_append_right _ (List.mem_append_right _ (mem_pinsAt hb e)))).1, fun b hb => ?_, w7⟩
        · cases j with
          | zero => cases (show (none : Option V) = some v from Option.some.inj ev)
          | succ j => exact ev
        · obtain ⟨o, e, d⟩ := T.obj _ _ st5 b hb
          exact (I7.pin (b, o) (List.mem_append_right _ (List.mem_append_right _ (mem_pinsAt hb e)))).2.1
      refine wpAny_bind (wpAny_mono (hin cl P2.objs.size s2 H2 fp _ s6 _ _ _ I6 (step xv _ y5)) (fun ok s7 ⟨H7, I7, q7⟩ => ?_) fun _ _ z => z.elim)
      cases ok with
      | false =>
        have q7' : ∃ m', m' < n ∧ W (i + 1) m' H7 := by simpa using q7
        exact wpAny_pure ⟨rfl, again I7 q7'⟩
      | true =>
        have q7' := (if_pos rfl).mp q7
        refine wpAny_bind (wpAny_bind (wpAny_mono (he cl P2.objs.size s2 H2 fp _ s7 _ H7 _ I7 q7') (fun yv s8 ⟨y, H8, I8, r8, ys, h8, z8, q8⟩ => ?_) fun _ _ z => z.elim))
        refine wpAny_bind (wpAny_mono (mt_append (X := cxComp X scope (x :: cn) cl P2.objs.size s2 H2 fp) _ s8 _ H8 (.ref s2.heap.objs.size) [y] (.ref s2.heap.objs.size) [yv] (fun _ H9 => ∃ m', m' < n ∧ W (i + 1) m' H9) I8 rfl (.cons r8 .nil) ⟨_, ys, y, rfl, rfl, h8, z8, q8⟩) (fun _ s9 ⟨_, H9, I9, _, q9⟩ => ?_) fun _ _ z => z.elim)
        exact wpAny_pure (wpAny_pure ⟨rfl, again I9 q9⟩)
  exact codeAny_compStart_list (loop _ rfl) (T.self _ 0 _ _ _ (T.keep _ _ _ st2 fun b hb o e => old b o e) (loop _ rfl))
end
end L2
namespace L2
open PySem PySem.Spec PyProof.Rows
section
variable {X : Cx}
def rSlS : V → Option Int → Option Int → Hp → VK → Prop := fun x lo hi H Q => ∃ z, x = .str z ∧ z.length ≤ sizeLine ∧ Q (.str (Txt.slice z lo hi)) H
theorem sl_str : SlR X rSlS := by
  intro pins s σ H x v vl vu lo hi sl Q I rx hs pl pu h
  obtain ⟨z, rfl, hz, q⟩ := h
  obtain ⟨t, rfl⟩ := rx
  refine ⟨"str", _, F.slot_str_getitem.lookup, typeIs_str _ _ _, ?_⟩
  cases pl with
  | none =>
    cases pu with
    | none => exact wpAny_getItem_str_slice (l := none) (u := none) (st := none) hs rfl (post_val_or_str ⟨Nat.le_trans (Txt.slice_le z _ _) hz, fun t' k => ⟨.str _, H, I.tok k, ⟨_, rfl⟩, q⟩⟩)
    | int j uj => exact wpAny_getItem_str_slice (l := none) (u := some (j, uj)) (st := none) hs rfl (post_val_or_str ⟨Nat.le_trans (Txt.slice_le z _ _) hz, fun t' k => ⟨.str _, H, I.tok k, ⟨_, rfl⟩, q⟩⟩)
  | int i ui =>
    cases pu with
    | none => exact wpAny_getItem_str_slice (l := some (i, ui)) (u := none) (st := none) hs rfl (post_val_or_str ⟨Nat.le_trans (Txt.slice_le z _ _) hz, fun t' k => ⟨.str _, H, I.tok k, ⟨_, rfl⟩, q⟩⟩)
    | int j uj => exact wpAny_getItem_str_slice (l := some (i, ui)) (u := some (j, uj)) (st := none) hs rfl (post_val_or_str ⟨Nat.le_trans (Txt.slice_le z _ _) hz, fun t' k => ⟨.str _, H, I.tok k, ⟨_, rfl⟩, q⟩⟩)
def rSlX (K : PySem.W.Frag) : V → Option Int → Option Int → Hp → VK → Prop := fun x lo hi H Q => rSlL K x lo hi H Q ∨ rSlT K x lo hi H Q ∨ rSlS x lo hi H Q
theorem slX : SlR X (rSlX X.K) := sl_list.or (sl_tup.or sl_str)
def rMulS : R2 := fun x y H Q => ∃ a n, x = .str a ∧ y = .int n ∧ a.length ≤ 16 ∧ 0 ≤ n ∧ n ≤ 1000000 ∧ Q (.str (Txt.mul a n)) H
theorem op_mulS : OpR X (binaryOp .Mult) rMulS := by
  intro pins s σ H x y v u Q I rx ry h
  obtain ⟨a, n, rfl, rfl, h1, h2, h3, q⟩ := h
  obtain ⟨t, rfl⟩ := rx
  obtain ⟨t', rfl⟩ := ry
  exact SB.mul (mulOk_of 16 1048576 h1 (by omega) (by omega) (by decide) (by decide)) fun t' k => ⟨.str _, H, I.tok _, ⟨_, rfl⟩, q⟩
def rMulX : R2 := fun x y H Q => rI IntMulOk (fun i j => .int (i * j)) x y H Q ∨ rRep x y H Q ∨ rMulS x y H Q
theorem op_mulX : OpR X (binaryOp .Mult) rMulX := op_mulB.or (op_rep.or op_mulS)
theorem call_int_str : CallR X (.type "int") (fun xs H Q => ∃ x n, xs = [.str x] ∧ PySem.intText? x = some n ∧ x.length ≤ 640 ∧ Q (.int n) H) := by
  intro pins s σ H xs us Q I r h
  obtain ⟨x, n, rfl, hn, hl, q⟩ := h
  obtain ⟨u, rfl, t, rfl⟩ := r.one
  exact PySem.W.KIN.call_text hn hl ⟨.int n, H, I.tok _, ⟨_, rfl⟩, q⟩
theorem call_intX : CallR X (.type "int") (fun xs H Q => ((∃ i, xs = [.int i] ∧ Q (.int i) H) ∨ ∃ k, xs = [.bl k] ∧ Q (.int (if k then 1 else 0)) H) ∨ ∃ x n, xs = [.str x] ∧ PySem.intText? x = some n ∧ x.length ≤ 640 ∧ Q (.int n) H) := call_int1.or call_int_str
theorem range_allB : ∀ bs : List Bool, (List.range bs.length).all (fun i => (bs[i]?).getD true) = bs.all id
  | [] => rfl
  | b :: bs => by
    rw [List.length_cons, List.range_succ_eq_map, List.all_cons, List.all_map, List.all_cons]
    have := range_allB bs
    simp only [Function.comp_def, List.getElem?_cons_succ] at *
    rw [this]
    rfl
theorem call_all_list (hc : X.calm = true) : CallR X (.builtin "all") (fun xs H Q => ∃ (l : Addr) (bs : List Bool), xs = [.ref l] ∧ SqL X.K H l (bs.map V.bl) ∧ Q (.bl (bs.all id)) H) := by
  intro pins s σ H xs us Q I r h
  obtain ⟨l, bs, rfl, hS, q⟩ := h
  obtain ⟨u, rfl, ru⟩ := r.one
  cases ru
  obtain ⟨its, rv, pl, hz⟩ := I.list hS
  have hl := rv.length
  rw [List.length_map] at hl
  have hlt : l < s.heap.objs.size := by obtain ⟨o, n, e, _⟩ := pl; exact Heap.lt_size e
  refine call_all_walk (wpAny_pyIter_list pl.isList ?_)
  refine ⟨s.heap.objs.size, [s.heap.objs.size, l], [s.heap.objs.size], its.toArray.size, _, _, fun i => (bs[i]?).getD true, rfl, Walks.list (A := X.A.in1) (I.ok.hd hc) _ l (Nat.ne_of_lt hlt) its.toArray,
    ⟨⟨_, Heap.get?_push_size _ rfl, rfl, rfl⟩, pl.isList.push _⟩, fun i v s' Q' E' hP hQ => ?_, fun h' tk hk => ?_⟩
  · have hP' : its[i]? = some v := by simpa using hP
    have hi : i < its.length := (List.getElem?_eq_some_iff.mp hP').1
    obtain ⟨u, e1, e2⟩ := rv.get (i := i) (x := .bl bs[i]) (by rw [List.getElem?_map, List.getElem?_eq_getElem (by omega)]; rfl)
    rw [hP'] at e1
    cases e1
    cases e2
    have e3 : bs[i]? = some bs[i] := List.getElem?_eq_getElem (by omega)
    simp only [e3, Option.getD_some] at hQ
    exact wpAny_truthy_bool hQ
  · have e : ((List.range its.toArray.size).all fun i => (bs[i]?).getD true) = bs.all id := by
      rw [List.size_toArray, ← hl]; exact range_allB bs
    rw [e]
    have kp : ∀ b x, s.heap.get? b = some x → h'.get? b = some x := fun b x e => hk b x (fun hm => by rw [List.mem_singleton.mp hm] at e; exact Nat.lt_irrefl _ (Heap.lt_size e)) (Heap.get?_push_of_some _ e)
    exact ⟨.bl _, H, I.kept kp, rfl, q⟩
def Its (z : Str) : It := ⟨fun i _ => i < z.cps.size, fun i H x H' => H' = H ∧ ∃ c, z.cps.toList[i]? = some c ∧ x = .str ⟨#[c]⟩, fun i _ => i = z.cps.size⟩
theorem turn_str {P : Program} {w : World} {K : PySem.W.Frag} {tg : Expr} {T : String} {z : Str} {t : Tok} (it : Addr) (hT : ["enumerate", "zip", "dict_itemiterator", "dict_reverseitemiterator", "odict_iterator", "itertools.zip_longest", "itertools.pairwise"].contains T = false)
    (W : ∀ A : Around, A.handled = none → Walks P w A it [it] [it] z.cps.size (SignAt z) (fun i h => h.IsStrIter it T z t i)) (W0 : ∀ (A : Around) (i : Nat) (s : Shared) (Q : Value → Shared → Prop) (E : Value → Shared → Prop), s.heap.IsStrIter it T z t i → Q (.ref it) s → wpAny (model P w) A (pyIter (.ref it)) Q E s) :
    Turn P w K tg (Its z) [it] it (fun i h => h.IsStrIter it T z t i) where
  mem := by simp
  obj := fun i h st b hb => by
    have e : b = it := by simpa using hb
    subst e
    obtain ⟨o, e, c, d⟩ := st
    exact ⟨o, e, fun v q => by rw [d] at q; cases q⟩
  keep := fun i h h' st k => by
    obtain ⟨o, e, c, d⟩ := st
    exact ⟨o, k it (by simp) o e, c, d⟩
  item := by
    intro X hP hw hK hc i pins s σ H E I hf st hg
    subst hP hw hK
    obtain ⟨f0, f1, f2, f3, f4, f5⟩ := hf it (by simp)
    refine (W X.A (I.ok.hd hc)).item i s _ _ hg st fun v h' tk hv st' kk => ?_
    obtain ⟨c, u, hc', rfl⟩ := hv
    have I1 : Inv X pins σ H { s with heap := h', toks := tk } := I.turned (fun b o hb e => kk b o (by simpa using hb) e) f0 f1 f3 f4 f5
    obtain ⟨o, e, hcl, hd⟩ := id st'
    refine ⟨_, rfl, go_of (s := { s with heap := h', toks := tk }) e hcl hd hT ⟨.str ⟨#[c]⟩, H, I1, ⟨u, rfl⟩, ⟨rfl, c, ?_, rfl⟩, st', fun b hb => (hf b hb).1⟩⟩
    rw [← hc']; simp
  done := by
    intro X hP hw hK hc i pins s σ H E I hf st hg
    subst hP hw hK
    obtain ⟨f0, f1, f2, f3, f4, f5⟩ := hf it (by simp)
    have hg' : i = z.cps.size := hg
    subst hg'
    exact (W X.A (I.ok.hd hc)).done s _ _ st fun h' tk hk => ⟨rfl, I.turned (fun b o hb e => hk b o (by simpa using hb) e) f0 f1 f3 f4 f5⟩
  self := fun A i s Q E st h => W0 A i s Q E st h
def iStr (te : TE) : TI := fun σ H R => te σ H fun x H1 => ∃ z, x = .str z ∧ R (Its z) H1
theorem pi_str {tg e : Expr} {te : TE} (he : PE X e te) : PI X tg e (iStr te) := by
  intro pins s σ H R I h
  refine thn (he pins s σ H _ I h) fun v s1 ⟨x, H1, I1, r1, z, ez, q⟩ => ?_
  subst ez
  obtain ⟨t, rfl⟩ := r1
  have fin : ∀ (T : String), (["enumerate", "zip", "dict_itemiterator", "dict_reverseitemiterator", "odict_iterator", "itertools.zip_longest", "itertools.pairwise"].contains T = false) →
      (∀ A : Around, A.handled = none → Walks X.prog X.w A s1.heap.objs.size [s1.heap.objs.size] [s1.heap.objs.size] z.cps.size (SignAt z) (fun i h => h.IsStrIter s1.heap.objs.size T z t i)) →
      (∀ (A : Around) (i : Nat) (s : Shared) (Q : Value → Shared → Prop) (E : Value → Shared → Prop), s.heap.IsStrIter s1.heap.objs.size T z t i → Q (.ref s1.heap.objs.size) s → wpAny (model X.prog X.w) A (pyIter (.ref s1.heap.objs.size)) Q E s) →
      PIE X pins σ tg R (.ref s1.heap.objs.size) { s1 with heap := s1.heap.push { cls := .type T, data := .fields #[.str z t, .int 0 0] } } := fun T hT W W0 => by
    refine ⟨s1.heap.objs.size, [s1.heap.objs.size], _, Its z, H1, rfl, I1.kept (t' := s1.toks) fun b o e => Heap.get?_push_of_some _ e, turn_str s1.heap.objs.size hT W W0, ⟨_, Heap.get?_push_size _ rfl, rfl, rfl⟩, fun b hb => ?_, q⟩
    have e : b = s1.heap.objs.size := by simpa using hb
    subst e
    exact I1.fpOk (Nat.le_refl _) (I1.hok.fresh (Nat.le_refl _))
  cases ha : z.cps.all (· < 128)
  · exact wpAny_pyIter_wide ha (fin "str_iterator" (by decide) (fun A hA => Walks.strWide hA _ z t) fun A i s Q E st h => wpAny_pyIter_striter_wide st h)
  · exact wpAny_pyIter_ascii ha (fin "str_ascii_iterator" (by decide) (fun A hA => Walks.strAscii hA _ z t) fun A i s Q E st h => wpAny_pyIter_striter_ascii st h)
theorem pi_or {tg e : Expr} {wi wi' : TI} (h : PI X tg e wi) (h' : PI X tg e wi') : PI X tg e (fun σ H R => wi σ H R ∨ wi' σ H R) := by
  intro pins s σ H R I q
  rcases q with q | q
  · exact h pins s σ H R I q
  · exact h' pins s σ H R I q
end
end L2
namespace L2
open PySem PySem.Spec PyProof.Rows
section
variable {P : Program} {w : World} {K : PySem.W.Frag} {mg : Str → Option Value} {base : Heap}
end
section
variable {X : Cx} {k n : Nat} {x : Str} {ps : List Str} {sp : Sp} {p pos : Pos} {e : Expr} {es : List Expr} {t : TA} {dvs : List V}
structure CompC (fsc : Scope) (N : List Str) (scope : Scope) (x : Str) (cn : List Str) (cap : List Nat) : Prop where
  kind : scope.kind = .function
  names : ∀ y ∈ scope.names, y.2 = .local → scope.names.lookup y.1 = some .local
  cell : ∀ y ∈ scope.names, y.2 ≠ .cell
  own : scope.names.lookup x = some .local
  free : ∀ y ∈ scope.names, y.2 = .free → fsc.names.lookup y.1 = some .cell ∨ fsc.names.lookup y.1 = some .free
  cap : cap.map (fun i => N[i]?) = cn.map some
  capf : ∀ y ∈ cn, scope.names.lookup y = some .free
  capo : ∀ y ∈ cn, fsc.names.lookup y = some .cell ∨ fsc.names.lookup y = some .free
  nd : (x :: cn).Nodup
theorem CompC.to {fsc : Scope} {N : List Str} {scope : Scope} {cn : List Str} {cap : List Nat} (c : CompC fsc N scope x cn cap) (e1 : X.env.scope = fsc) (e2 : X.N = N) : CompScope X scope x cn cap := by
  subst e1 e2
  exact ⟨c.kind, c.names, c.cell, c.own, c.free, c.cap, c.capf, c.capo, c.nd⟩
end
section
variable {X : Cx} {K : PySem.W.Frag}
theorem ix_seqK (h : X.K = K) : IxR X (rIx K) := by
  subst h; exact ix_seq
theorem op_eqGK (h : X.K = K) (hu : X.A.units + 64 < cLine) : OpR X (compareOp .Eq) (rEqG K) := by
  subst h; exact op_eqG hu
end
theorem b_all : bootBuiltins "all" = some (.builtin "all") := by decide +kernel
end L2
namespace Tx
open PySem
abbrev cs (x : Str) : List Nat := x.cps.toList
theorem ext {x y : Str} (h : cs x = cs y) : x = y := PyProof.Rows.ext_toList h
def dig (c : Nat) : Bool := decide (48 ≤ c) && decide (c ≤ 57)
def low (c : Nat) : Bool := decide (97 ≤ c) && decide (c ≤ 122)
def val (l : List Nat) : Int := l.foldl (fun (v : Int) (c : Nat) => v * 10 + ((c : Int) - 48)) 0
def numL : List Nat → Option Int
  | [] => none
  | c :: r => if (c :: r).length ≤ 60 ∧ (c :: r).all dig = true ∧ (r = [] ∨ c ≠ 48) then some (val (c :: r)) else none
def row (p : Nat → Bool) (m : Int) (x : Str) : Bool := decide (1 ≤ x.length) && decide ((x.length : Int) ≤ m) && (cs x).all p
end Tx
namespace Tx
open PySem
def rd (neg : Bool) (b : List Nat) (o : Option (List Nat × List Nat)) : Option (Int × Int) := match o with
  | none => match numL b with
    | none => none
    | some a => if neg = true ∧ a = 0 then none else some ((if neg then -a else a), 1)
  | some (A, B) => match numL A, numL B with
    | some a, some d => if d < 2 ∨ (neg = true ∧ a = 0) ∨ Fr.G a d ≠ 1 then none else some ((if neg then -a else a), d)
    | _, _ => none
end Tx
namespace L2
open PySem PySem.Spec PyProof.Rows
section
variable {X : Cx}
end
section
variable {prog : Program} {w : World} {A : Around} {E : Value → Shared → Prop} {s : Shared} {it l : Addr} {its : Array Value}
end
end L2
namespace L2
open PySem PySem.Spec PyProof.Rows
section
variable {X : Cx}
abbrev rSubI : R2 := rI0 fun i j => .int (i - j)
abbrev rFdiv : R2 := rI CDiv fun i j => .int (i / j)
abbrev rMod : R2 := rI (fun _ j => 0 < j) fun i j => .int (i % j)
abbrev rLt : R2 := rI0 fun i j => .bl (decide (i < j))
abbrev rGt : R2 := rI0 fun i j => .bl (decide (j < i))
abbrev rNeg : V → Hp → VK → Prop := rU fun i => .int (-i)
abbrev rAbs : List V → Hp → VK → Prop := fun xs H Q => ∃ i, xs = [.int i] ∧ Q (.int (if i < 0 then -i else i)) H
abbrev rLen (K : PySem.W.Frag) : List V → Hp → VK → Prop := fun xs H Q => (∃ p ys, xs = [.ref p] ∧ (SqL K H p ys ∨ SqT K H p ys) ∧ Q (.int ys.length) H) ∨ ∃ z, xs = [.str z] ∧ z.length ≤ sizeLine ∧ Q (.int z.length) H
abbrev rIsT (K : PySem.W.Frag) : List V → Hp → VK → Prop := fun xs H Q => ∃ x T t k, xs = [x, .ty T] ∧ TyOf K H x t ∧ PySem.W.kitOne K t (.type T) = some k ∧ Q (.bl k) H
abbrev rMax2 : List V → Hp → VK → Prop := fun xs H Q => ∃ i j, xs = [.int i, .int j] ∧ Q (.int (if j > i then j else i)) H
abbrev rMin2 : List V → Hp → VK → Prop := fun xs H Q => ∃ i j, xs = [.int i, .int j] ∧ Q (.int (if j < i then j else i)) H
abbrev rAll (K : PySem.W.Frag) : List V → Hp → VK → Prop := fun xs H Q => ∃ (l : Addr) (bs : List Bool), xs = [.ref l] ∧ SqL K H l (bs.map V.bl) ∧ Q (.bl (bs.all id)) H
abbrev rIntX : List V → Hp → VK → Prop := fun xs H Q => ((∃ i, xs = [.int i] ∧ Q (.int i) H) ∨ ∃ k, xs = [.bl k] ∧ Q (.int (if k then 1 else 0)) H) ∨ ∃ x n, xs = [.str x] ∧ PySem.intText? x = some n ∧ x.length ≤ 640 ∧ Q (.int n) H
abbrev rListOf (K : PySem.W.Frag) : List V → Hp → VK → Prop := fun xs H Q => ∃ p ys, xs = [.ref p] ∧ (SqL K H p ys ∨ SqT K H p ys) ∧ ∀ l, H l = none → Q (.ref l) (upd H l (.lst ys))
end
end L2
namespace L2
open PySem PySem.Spec PyProof.Rows
section
variable {prog : Program} {w : World} {A : Around} {E : Value → Shared → Prop} {s : Shared} {K : PySem.W.Frag} {x C : Addr} {ox : Obj} {od : Option Obj} {name : Str}
end
section
variable {X : Cx} {pins : List (Addr × Obj)} {σ : St} {H : Hp} {s : Shared} {e C dx : Addr} {d : Option Addr} {fs : List (Str × V)} {f : Str}
end
end L2
namespace L2
open PySem PySem.Spec PyProof.Rows
section
variable {prog : Program} {w : World} {A : Around} {E : Value → Shared → Prop} {s : Shared} {K : PySem.W.Frag} {x C : Addr} {d : Option Addr} {vs : Array Value} {sl : Array (Option Value)}
end
end L2
namespace L2
open PySem PySem.Spec PyProof.Rows
section
variable {prog : Program} {w : World} {M : Model} {A : Around} {E : Value → Shared → Prop} {R : Result → Shared → Prop} {h : Heap} {g : Array GenState} {d : Drawn} {t : Nat} {os : OsState} {K : PySem.W.Frag}
variable {nm q : Str} {C N : Addr} {bs bm : List Value} {hdct : Bool} {sn : List Str} {sub : List Value} {ab : Bool} {col : Option Bool} {dd : Option Addr} {k0 k1 k2 k3 k5 : Option Value} {rest : List Value}
end
section
variable {X : Cx} {CX : CXT} {k : Nat} {f C : Addr} {fd : FuncData} {ps : List Str} {sp : Sp} {dvs : List V} {ds : List Value} {E : XK} {x : Str} {p pos : Pos} {e : Expr} {es : List Expr} {t : TA}
end
end L2
namespace L2
open PySem PySem.Spec PyProof.Rows
section
variable {prog : Program} {w : World} {A : Around} {E : Value → Shared → Prop} {s : Shared} {K : PySem.W.Frag} {x C : Addr} {ox : Obj} {od : Option Obj} {name : Str}
end
section
variable {X : Cx}
end
section
variable {prog : Program} {w : World} {A : Around} {E : Value → Shared → Prop} {h : Heap} {g : Array GenState} {d : Drawn} {t : Nat} {os : OsState} {K : PySem.W.Frag}
variable {nm q : Str} {C N : Addr} {bs bm : List Value} {hdct : Bool} {sn : List Str} {sub : List Value} {ab : Bool} {col : Option Bool} {dd : Option Addr} {k0 k1 k2 k3 k5 : Option Value} {v : Value}
end
end L2
namespace L2
open PySem PySem.Spec PyProof.Rows
def Ite (K : PySem.W.Frag) (l : Addr) : It :=
  ⟨fun i H => ∃ xs, SqL K H l xs ∧ i < xs.length,
   fun i H x H' => ∃ T a, H T = none ∧ x = .ref T ∧ H' = upd H T (.tup [.int i, a]) ∧ ∀ xs, SqL K H l xs → xs[i]? = some a,
   fun i H => ∃ xs, SqL K H l xs ∧ xs.length ≤ i⟩
def EnSt (e it l : Addr) (i : Nat) (h : Heap) : Prop := (∃ old, IsEnum h e it i old) ∧ h.IsListIter it l i
theorem turn_enum {P : Program} {w : World} {K : PySem.W.Frag} {elts : List Expr} {kk : Nat} {tpos : Pos} (e it l : Addr) (hei : e ≠ it) : Turn P w K (.Tuple elts kk tpos) (Ite K l) [e, it] e (EnSt e it l) where
  mem := by simp
  obj := fun i h st b hb => by
    obtain ⟨⟨old, he⟩, o1, e1, _, d1⟩ := st
    simp only [List.mem_cons, List.not_mem_nil, or_false] at hb
    rcases hb with rfl | rfl
    · exact ⟨_, he, fun v q => by cases (show Data.fields _ = Data.cell v from q)⟩
    · exact ⟨_, e1, fun v q => by rw [d1] at q; cases q⟩
  keep := fun i h h' st k => by
    obtain ⟨⟨old, he⟩, h1⟩ := st
    exact ⟨⟨old, k e (by simp) _ he⟩, h1.at fun o z => k it (by simp) o z⟩
  item := by
    intro X hP hw hK hc i pins s σ H E I hf st hg
    subst hP hw hK
    obtain ⟨xs, q1, g1⟩ := hg
    obtain ⟨its1, r1, p1, z1⟩ := I.list q1
    obtain ⟨u1, e1, ru1⟩ := r1.get (List.getElem?_eq_getElem g1)
    obtain ⟨⟨old, he⟩, h1⟩ := st
    refine wpAny_pyNext_enum_item he h1 p1.isList (x := u1) (by simpa using e1) hei fun h1' a1 a2 a3 a4 hk => ⟨_, rfl, ?_⟩
    refine wpAny_letOwnedTupleGo_enum a1 fun h2' hz' hs' => ?_
    have lt : ∀ {c o}, s.heap.get? c = some o → s.heap.objs.size ≠ c := fun e => Nat.ne_of_gt (Heap.lt_size e)
    have Te : s.heap.objs.size ≠ e := lt he
    have kz : ∀ b o, b ≠ e → h1'.get? b = some o → h2'.get? b = some o := fun b o hb q => hs'.extBut _ _ hb q
    have I' : Inv X pins σ (upd H s.heap.objs.size (.tup [.int i, xs[i]])) { s with heap := h2', toks := s.toks + 1 } := by
      refine I.turnedNew (t' := s.toks + 1) (ch := [e, it]) (fun b o hb q => ?_) hf (Nat.le_refl _) ?_
      · simp only [List.mem_cons, List.not_mem_nil, or_false, not_or] at hb
        exact kz b o hb.1 (hk b o hb.1 hb.2 q)
      · exact ⟨(by show 2 ≤ sizeLine; decide), [.int i s.toks, u1], .cons ⟨_, rfl⟩ (.cons ru1 .nil), _, kz _ _ Te a3, rfl, _, rfl⟩
    refine ⟨.ref s.heap.objs.size, _, I', rfl, ⟨s.heap.objs.size, xs[i], I.hok.fresh (Nat.le_refl _), rfl, rfl, fun xs' q' => ?_⟩, ⟨⟨_, by simpa using hz'⟩, a2.at fun o q => kz _ _ hei.symm q⟩, fun b hb => ?_⟩
    · rw [I.list_inj q' q1]; exact List.getElem?_eq_getElem g1
    · have n := (hf b hb).1
      simp only [List.mem_cons, List.not_mem_nil, or_false] at hb
      have ob : ∃ o, s.heap.get? b = some o := by
        obtain ⟨o1, x1, _⟩ := h1
        rcases hb with rfl | rfl
        · exact ⟨_, he⟩
        · exact ⟨_, x1⟩
      obtain ⟨o, eo⟩ := ob
      rw [upd_ne (Ne.symm (lt eo))]
      exact n
  done := by
    intro X hP hw hK hc i pins s σ H E I hf st hg
    subst hP hw hK
    obtain ⟨xs, q1, g⟩ := hg
    obtain ⟨its1, r1, p1, z1⟩ := I.list q1
    obtain ⟨⟨old, he⟩, h1⟩ := st
    have l1' := r1.length
    refine wpAny_pyNext_enum_end (I.ok.hd hc) he h1 p1.isList (Array.getElem?_eq_none (by rw [List.size_toArray]; omega)) fun h' hk => ⟨rfl, ?_⟩
    refine I.turnedL (t' := s.toks) (ch := [e, it]) (fun b o hb q => ?_) hf
    simp only [List.mem_cons, List.not_mem_nil, or_false, not_or] at hb
    exact hk b o hb.2 q
  self := fun _ _ _ _ _ st h => by
    obtain ⟨⟨old, he⟩, _⟩ := st
    exact wpAny_pyIter_enum he h
def iEnum (K : PySem.W.Frag) (ta : TA) : TI := fun σ H R => ta σ H fun vs H1 => ∃ l xs, vs = [.ref l] ∧ SqL K H1 l xs ∧ R (Ite K l) H1
theorem pi_enum {X : Cx} {a : Expr} {ta : TA} {p pos tpos : Pos} {elts : List Expr} {kk : Nat} (hg : Gl X "enumerate") (hm : X.mg "enumerate" = none) (ha : PA X [a] ta) (hs : starEach [a] X.env = [(false, eval a X.env)] := by rfl) :
    PI X (.Tuple elts kk tpos) (.Call (.Name "enumerate" p) [a] [] pos) (iEnum X.K ta) := by
  intro pins s σ H R I h
  refine Call_ (ld_blt I hg hm (show bootBuiltins "enumerate" = some (.type "enumerate") from by decide +kernel) (PyProof.Rows.callWith_type1 (thn (ha pos pins s σ H _ I h) fun us s1 ⟨vs, H1, I1, r1, q1⟩ => ?_) hs rfl))
  obtain ⟨l, xs, ev, q1, q⟩ := q1
  subst ev
  obtain ⟨u1, rfl, ru1⟩ := r1.one
  cases ru1
  obtain ⟨its1, v1, p1, z1⟩ := I1.list q1
  refine call_enumerate_list p1.isList fun h' he h1 sz hk => wpAny_pyIter_enum he ?_
  refine ⟨_, _, EnSt _ _ _, _, H1, rfl, I1.kept (t' := s1.toks) hk, turn_enum _ _ _ (Nat.ne_of_gt (Nat.lt_succ_self _)), ⟨⟨_, he⟩, h1⟩, fun b hb => ?_, q⟩
  have hb' : s1.heap.objs.size ≤ b := by
    simp only [List.mem_cons, List.not_mem_nil, or_false] at hb
    rcases hb with rfl | rfl
    · exact Nat.le_succ _
    · exact Nat.le_refl _
  exact I1.fpOk hb' (I1.hok.fresh hb')
end L2
namespace L2
open PySem PySem.Spec PyProof.Rows
def clA (K : PySem.W.Frag) (x : Str) : Addr := match PySem.W.nsIn K mainGlobals x with
  | some (some (.ref a)) => a
  | _ => 0
section
variable {K : PySem.W.Frag} {C D : Addr} {cd cd' : ClassData}
end
section
variable {K : PySem.W.Frag} {C : Addr} {cd : ClassData}
end
section
variable {X : Cx} {k n : Nat} {x : Str} {ps : List Str} {sp : Sp} {p pos : Pos} {e : Expr} {es : List Expr} {t : TA}
end
end L2
namespace L2
open PySem PySem.Spec PyProof.Rows
section
variable {X : Cx} {pins : List (Addr × Obj)} {σ : St} {H : Hp} {s : Shared}
end
end L2
namespace L2
open PySem PySem.Spec PyProof.Rows
section
variable {X : Cx} {pins : List (Addr × Obj)} {σ : St} {H : Hp} {s : Shared}
theorem TyOf.kit {x : V} {u t : Value} (ty : TyOf X.K H x t) (I : Inv X pins σ H s) (rx : RelV x u) : (u ≠ .builtin "__main__.__loader__#opaque") ∧ ∃ Z, PySem.W.KitX X.K u t Z ∧ Z s.heap := by
  cases ty with
  | non => cases (show u = Value.none from rx); exact ⟨(fun z => nomatch z), _, PySem.W.kitx_none, True.intro⟩
  | bl y => cases (show u = Value.bool y from rx); exact ⟨(fun z => nomatch z), _, PySem.W.kitx_bool, True.intro⟩
  | int i => obtain ⟨t, q⟩ := (show ∃ t, u = Value.int i t from rx); cases q; exact ⟨(fun z => nomatch z), _, PySem.W.kitx_int, True.intro⟩
  | str y => obtain ⟨t, q⟩ := (show ∃ t, u = Value.str y t from rx); cases q; exact ⟨(fun z => nomatch z), _, PySem.W.kitx_str, True.intro⟩
  | flt y => obtain ⟨t, q⟩ := (show ∃ t, u = Value.float y t from rx); cases q; exact ⟨(fun z => nomatch z), _, PySem.W.kitx_float, True.intro⟩
  | @lst a xs ea =>
    cases (show u = Value.ref a from rx)
    obtain ⟨_, _, n, _, h1⟩ := (show ObjOk X.prog X.w H s.heap a (.lst xs) from I.hok a _ ea)
    exact ⟨(fun z => nomatch z), _, PySem.W.kitx_list, _, h1, rfl⟩
  | @frz a ob xs ea =>
    cases (show u = Value.ref a from rx)
    obtain ⟨_, _, _, n, _, h1⟩ := (show ObjOk X.prog X.w H s.heap a (.frz ob (.lst xs)) from I.hok a _ ea)
    exact ⟨(fun z => nomatch z), _, PySem.W.kitx_list, _, h1, rfl⟩
  | @tup a xs ea =>
    cases (show u = Value.ref a from rx)
    obtain ⟨_, _, _, p⟩ := (show ObjOk X.prog X.w H s.heap a (.tup xs) from I.hok a _ ea)
    obtain ⟨o, h1, h2, _⟩ := p
    exact ⟨(fun z => nomatch z), _, PySem.W.kitx_tuple, o, h1, h2⟩
  | @dK a kvs ea =>
    cases (show u = Value.ref a from rx)
    obtain ⟨_, _, vs, _, p⟩ := (show ObjOk X.prog X.w H s.heap a (.dK kvs) from I.hok a _ ea)
    obtain ⟨o, es, ep, h1, h2, _⟩ := p
    exact ⟨(fun z => nomatch z), _, PySem.W.kitx_dict, o, h1, h2.1⟩
  | @dT a kvs ea =>
    cases (show u = Value.ref a from rx)
    obtain ⟨_, _, xs, _, o, es, ep, h1, h2, _⟩ := (show ObjOk X.prog X.w H s.heap a (.dT kvs) from I.hok a _ ea)
    exact ⟨(fun z => nomatch z), _, PySem.W.kitx_dict, o, h1, h2.1⟩
  | @ins a C dx fs ea cl ha hn htk hm =>
    cases (show u = Value.ref a from rx)
    obtain ⟨mA, O, _⟩ := ins_get I.hok ea
    obtain ⟨od, J, _⟩ := O.look
    exact ⟨(fun z => nomatch z), _, PySem.W.kitx_own (cl.get _) cl.hd ha hn htk hm, J⟩
end
structure PKd (K : PySem.W.Frag) (ns : List Str) (C : Addr) (ms fs : List Str) : Prop where
  cls : Cls K C
  ca : PySem.W.findIn K (.ref C) "__class__" = some (some (.builtin "object.__class__"))
  cg : PySem.W.specialIn K (.builtin "object.__class__") "__get__" = some (some (.builtin "getset_descriptor.__get__"))
  ct : PySem.W.takesIn K (.builtin "object.__class__") = some true
  top : PySem.W.mroIn K C (.type "object") = some true
  sub : ∀ T : String, (Value.type T == .type "object") = false → PySem.W.subIn K (.ref C) (.type T) = some false
  kit : ∀ n ∈ ns, PySem.W.kitOne K (.ref C) (.ref (clA K n)) = some (ms.contains n)
  na : ∀ f ∈ fs, NoAttr K C f
section
variable {K : PySem.W.Frag} {C : Addr} {cd : ClassData} {ns ms fs : List Str}
theorem PKd.ty {H : Hp} {a dx : Addr} {gs : List (Str × V)} (p : PKd K ns C ms fs) (e : H a = some (.ins C dx gs)) : TyOf K H (.ref a) (.ref C) := .ins e p.cls p.ca p.cg p.ct p.top
theorem PKd.notT (p : PKd K ns C ms fs) (T : String) (h : (Value.type T == .type "object") = false := by decide) (hm : PySem.W.kitMeta T = true := by decide +kernel) : PySem.W.kitOne K (.ref C) (.type T) = some false := by
  unfold PySem.W.kitOne PySem.W.kitCls
  rw [if_neg (by intro q; cases beq_iff_eq.mp q)]
  dsimp only
  rw [if_pos hm]
  exact p.sub T h
end
section
variable {X : Cx} {k n : Nat} {x : Str} {ps : List Str} {sp : Sp} {p pos : Pos} {e : Expr} {es : List Expr} {t : TA}
end
section
variable {X : Cx} {K : PySem.W.Frag} {e : Expr} {f : Str} {pos : Pos} {ta : TE}
end
end L2
namespace L2
open PySem PySem.Spec PyProof.Rows
section
variable {X : Cx}
def rSum (K : PySem.W.Frag) : List V → Hp → VK → Prop := fun xs H Q => ∃ l ns, xs = [.ref l] ∧ SqL K H l (List.map V.int ns) ∧ Q (.int ns.sum) H
theorem call_sum_ints (hc : X.calm = true) : CallR X (.builtin "sum") (rSum X.K) := by
  intro pins s σ H xs us Q I r h
  obtain ⟨l, ns, rfl, hS, q⟩ := h
  obtain ⟨u, rfl, ru⟩ := r.one
  cases ru
  obtain ⟨its, rv, pl, hz⟩ := I.list hS
  have hi := intsAre_of rv
  obtain ⟨ys, hx⟩ := hi.allInts.items
  have hl' : s.heap.IsList l (intItems ys) := hx ▸ pl.isList
  refine sum_intListG (I.ok.hd hc) hl' fun h' tk t' hk => ?_
  have e1 : ns = ys.toList.map (·.1) := by
    rw [← nums_intItems, ← hx]
    exact (show numsOf its.toArray.toList = ns from hi.numsOf).symm
  have e2 : preSum (numAt ys) ys.size = ns.sum := by
    rw [preSum_eq, List.take_of_length_le (by simp), e1]
  rw [e2]
  exact ⟨.int _, H, I.kept hk, ⟨_, rfl⟩, q⟩
end
theorem b_sum : bootBuiltins "sum" = some (.builtin "sum") := by decide +kernel
theorem b_min : bootBuiltins "min" = some (.builtin "min") := by decide +kernel
end L2
namespace L2
open PySem PySem.Spec PyProof.Rows
section
variable {prog : Program} {w : World} {A : Around} {E : Value → Shared → Prop} {s : Shared}
end
section
variable {prog : Program} {w : World} {A : Around} {E : Value → Shared → Prop} {s : Shared}
end
end L2
namespace L2
open PySem PySem.Spec PyProof.Rows
end L2
namespace L2
open PySem PySem.Spec PyProof.Rows
section
variable {X : Cx} {pins : List (Addr × Obj)} {σ : St} {H : Hp} {s : Shared}
theorem ps_compG {elt iter : Expr} {x : Str} {px : Pos} {ifs : List Expr} {scope : Scope} {pos : Pos} {wi : TI} {tc : TT} {te : TE} (cn : List Str) (cap : List Nat) (S : CompScope X scope x cn cap) (hc : X.calm = true)
    (hi : PI X (.Name x px) iter wi) (hin : ∀ cl C s₀ H₀ ex, PIfs (cxComp X scope (x :: cn) cl C s₀ H₀ ex) ifs tc) (he : ∀ cl C s₀ H₀ ex, PE (cxComp X scope (x :: cn) cl C s₀ H₀ ex) elt te)
    {y : Str} {py : Pos} {apos : Pos} (iy : Nat) (hN : X.N.Nodup) (hiy : X.N[iy]? = some y) (hxy : Loc X.env.scope y) (hsw : swapsWith (.ListComp elt [⟨.Name x px, iter, ifs, 0⟩] scope pos) (some (.Name y py)) apos.line X.env = pure true := by rfl) (hfy : X.fn y = true ∨ X.env.scope.names.lookup y = some .local := by first | exact .inl rfl | exact .inr rfl | assumption)
    (hs : ∀ z, foldedSetIterable iter X.env z = pure z := by intro _; rfl) : PS X (.Assign [.Name y py] (.ListComp elt [⟨.Name x px, iter, ifs, 0⟩] scope pos) apos) (tAsg (tComp wi tc te cap) (gName iy)) := by
  intro pins s σ H D I h
  rw [exec_Assign_Name_used _ _ _ _ hsw]
  refine wpAny_bind (wpAny_standAt (wpAny_bind ?_))
  show wpAny _ _ (comprehension (.ListComp elt [⟨.Name x px, iter, ifs, 0⟩] scope pos) scope X.env (firstIterPos [⟨.Name x px, iter, ifs, 0⟩] pos) (newList []) false (firstIter [⟨.Name x px, iter, ifs, 0⟩] X.env) (some (assign (.Name y py) X.env)) >>= fun _ => pure ()) _ _ _
  refine wpAny_bind (wpAny_mono (Q := fun _ s' => ∃ σ' H', Inv X pins σ' H' s' ∧ D.nx σ' H') ?_ (fun _ s' q => wpAny_pure (wpAny_pure q)) fun _ _ z => z)
  obtain ⟨cl, hclos, hc1, hc2⟩ := closure_ok (scope := scope) (env := X.env) fun y hy hk => I.ok.has y.1 (S.free y hy hk)
  refine wpAny_comprehension_free (use := some (assign (.Name y py) X.env)) rfl hs hclos S.kind S.names (thn (hi pins s σ H _ I h) fun v s1 h1 => thn h1 fun itv s2 h2 => ?_)
  obtain ⟨it, fp, tn, J, H2, e, I2, T, st2, f2, q2⟩ := h2
  subst e
  have hlt : ∀ b ∈ fp, b < s2.heap.objs.size := fun b hb => by
    obtain ⟨o, e, _⟩ := T.obj _ _ st2 b hb
    exact Heap.lt_size e
  refine wpAny_newObj_type (wpAny_newFunctionEnv S.cell (by intro y hy; simp at hy) (fun h₁ hns₁ hsb₁ => ?_) S.kind)
  dsimp only at hns₁ hsb₁ ⊢
  generalize hP : s2.heap.push { cls := .type "list", dict := none, data := .seq ([] : List Value).toArray } = P2 at hns₁ hsb₁ ⊢
  have hC : P2.objs.size = s2.heap.objs.size + 1 := by rw [← hP, Heap.size_push]
  have hDC : s2.heap.objs.size ≠ P2.objs.size := by rw [hC]; exact Nat.ne_of_lt (Nat.lt_succ_self _)
  have hCle : s2.heap.objs.size ≤ P2.objs.size := by rw [hC]; exact Nat.le_succ _
  have neC : ∀ b, b < s2.heap.objs.size → b ≠ P2.objs.size := fun b hb => by rw [hC]; exact Nat.ne_of_lt (Nat.lt_succ_of_lt hb)
  have old : ∀ b o, s2.heap.get? b = some o → h₁.get? b = some o := fun b o e => hsb₁.extBut b o (neC b (Heap.lt_size e)) (Heap.get?_push_of_some _ (hP ▸ Heap.get?_push_of_some _ e))
  have hacc : h₁.get? s2.heap.objs.size = some { cls := .type "list", dict := none, data := .seq ([] : List Value).toArray } := hsb₁.extBut _ _ hDC (Heap.get?_push_of_some _ (hP ▸ Heap.get?_push_size _ rfl))
  have hD0 : H2 s2.heap.objs.size = none := I2.hok.fresh (Nat.le_refl _)
  have ok' : (cxComp X scope (x :: cn) cl P2.objs.size s2 H2 fp).Ok := comp_ok S I2 f2 hlt hc1 hc2 hCle
  obtain ⟨W, ⟨m0, w0⟩, turn⟩ := q2 _ hD0
  have hok1 : HOk X.prog X.w (upd H2 s2.heap.objs.size (.lst [])) h₁ := I2.hok.laid old (Nat.le_refl _) ⟨Nat.zero_le _, [], _, .nil, hacc⟩
  have un1 : Un (frs X.stack) fp H2 (upd H2 s2.heap.objs.size (.lst [])) s2.heap h₁ := Un.laid old (Nat.le_refl _) hD0
  have I4 : ∀ tk, Inv (cxComp X scope (x :: cn) cl P2.objs.size s2 H2 fp) [] (inSt cap none σ) (upd H2 s2.heap.objs.size (.lst [])) { s2 with heap := h₁, toks := tk } := fun tk => by
    refine ⟨ok', rfl, I2.bare, un1, ⟨_, hns₁, fun i y v e1 e2 e3 => ?_⟩, fun y c e => ?_, ?_, fun y c e => ?_, fun p hp => (nomatch hp), hok1, ?_⟩
    · cases i with
      | zero => cases (show (none : Option V) = some v from Option.some.inj e2)
      | succ j =>
        have e1' : cn[j]? = some y := e1
        have ymem : y ∈ cn := List.mem_of_getElem? e1'
        obtain ⟨i0, ci, ni⟩ := map_get S.cap e1'
        have e2' : (cap.map fun i => (σ[i]?).join)[j]? = some (some v) := e2
        rw [List.getElem?_map, ci] at e2'
        have e3' : (σ[i0]?).join = some v := Option.some.inj e2'
        have e4 : σ[i0]? = some (some v) := by
          cases q : σ[i0]? with
          | none => rw [q] at e3'; cases e3'
          | some o => rw [q] at e3'; exact congrArg some e3'
        obtain ⟨m, hn, hl⟩ := I2.loc
        have vis : Vis X.env.scope y := .inr (S.capo y ymem)
        obtain ⟨u, r, lk⟩ := hl i0 y v ni e4 vis
        refine ⟨u, r, .inr ⟨lookup_relabel_free (env := X.env) (S.capf y ymem), ?_⟩⟩
        rcases lk with ⟨kl, _⟩ | ⟨_, c, ec, hcell⟩
        · rcases S.capo y ymem with z | z
          · have kl' : X.env.scope.names.lookup y = some .local := kl
            rw [z] at kl'; cases kl'
          · have kl' : X.env.scope.names.lookup y = some .local := kl
            rw [z] at kl'; cases kl'
        · have fm : (y, NameKind.free) ∈ scope.names := of_relabel (env := X.env) S.cell (lookup_relabel_free (env := X.env) (S.capf y ymem))
          obtain ⟨c', ec'⟩ := hc2 y fm
          have := hc1 y c' ec'
          rw [ec] at this
          cases this
          obtain ⟨o, ho, hd⟩ := hcell
          exact ⟨c, ec', o, old _ _ ho, hd⟩
    · obtain ⟨v, o, ho, hd⟩ := I2.cell y c (hc1 y c e)
      exact ⟨v, o, old _ _ ho, hd⟩
    · show (upd H2 s2.heap.objs.size (.lst [])) P2.objs.size = none
      rw [upd_ne (Ne.symm hDC)]
      exact I2.hok.fresh hCle
    · obtain ⟨v, o, ho, hd⟩ := I2.cell y c (hc1 y c e)
      rw [upd_ne (Nat.ne_of_lt (Heap.lt_size ho))]
      exact I2.freeC y c (hc1 y c e)
    · show (inSt cap none σ).length = (x :: cn).length
      have := congrArg List.length S.cap
      simp only [List.length_map] at this
      simp [inSt, this]
  have stat : ∀ {H' : Hp}, (∀ b ∈ fp, H' b = none) → ∀ b ∈ fp, FpOk (cxComp X scope (x :: cn) cl P2.objs.size s2 H2 fp) [] H' b := fun hn b hb =>
    ⟨hn b hb, neC b (hlt b hb), ok'.exfs b hb, .inl hb, fun y c e => (ok'.exf b hb).2 y c e, fun p hp => (nomatch hp)⟩
  have pgx : PG (cxComp X scope (x :: cn) cl P2.objs.size s2 H2 fp) (.Name x px) (gName 0) := pg_name (i := 0) S.nd rfl (.inl (lookup_relabel_local (env := X.env) S.own)) (.inr (lookup_relabel_local (env := X.env) S.own))
  have loop : ∀ s₃ : Shared, s₃ = { s2 with heap := h₁, toks := s2.toks + ([] : List (Str × Value)).length } →
      codeAny (model X.prog X.w) X.A (.compLoop (.ListComp elt [⟨.Name x px, iter, ifs, 0⟩] scope pos) 0 (.ref it) (.ref s2.heap.objs.size) (compEnvC scope cl P2.objs.size X.env))
        (compPost (model X.prog X.w) X.A X.xe (some (assign (.Name y py) X.env)) (fun _ s' => ∃ σ' H', Inv X pins σ' H' s' ∧ D.nx σ' H') (.ref s2.heap.objs.size) P2.objs.size) s₃ := by
    rintro s₃ rfl
    refine codeAny_loop rfl (fun n s' => ∃ i H', Inv (cxComp X scope (x :: cn) cl P2.objs.size s2 H2 fp) [] (inSt cap none σ) H' s' ∧ tn i s'.heap ∧ (∀ b ∈ fp, H' b = none) ∧ W i n H') ?_ m0
      ⟨0, _, I4 _, T.keep _ _ _ st2 fun b hb o e => old b o e, fun b hb => by rw [upd_ne (Nat.ne_of_lt (hlt b hb))]; exact (f2 b hb).1, w0⟩
    rintro n s3 ⟨i, H3, I3, st3, fr3, w3⟩
    show wpAny _ X.A ((compTurn (.ListComp elt [⟨.Name x px, iter, ifs, 0⟩] scope pos) 0 (.ref it) (.ref s2.heap.objs.size) (compEnvC scope cl P2.objs.size X.env)).onRaise (fun x => do noteFrame x (compEnvC scope cl P2.objs.size X.env); theTreesLotGoes x)) _ _ s3
    refine wpAny_noted ?_
    rw [compTurn_list]
    refine wpAny_bind (wpAny_standAt (wpAny_bind ?_))
    rcases turn i n H3 w3 with ⟨stop, qn⟩ | ⟨go, step⟩
    · refine wpAny_mono (T.done (cxComp X scope (x :: cn) cl P2.objs.size s2 H2 fp) rfl rfl rfl hc i [] s3 _ H3 (fun _ _ => False) I3 (stat fr3) st3 stop) (fun r s4 ⟨hr, I5⟩ => ?_) fun _ _ z => z.elim
      subst hr
      refine wpAny_pure ?_
      obtain ⟨m, hn, _⟩ := id I5.loc
      have J : Inv X pins σ H3 s4 := by
        have kp : ∀ b o, b ≠ P2.objs.size → s4.heap.get? b = some o → s4.heap.get? b = some o := fun b o hb e => e
        have b0 := I5.base
        have sm : ∀ b o, s2.heap.get? b = some o → b ≠ P2.objs.size := fun b o e => neC b (Heap.lt_size e)
        refine I2.call' (s' := s4) (ch := fp) I5.os ⟨fun b o e n hb hx => kp _ _ (sm b o e) (b0.keep b o e n hb hx), fun b o e n hb hx => ?_, b0.free, fun b o e hx => ?_, b0.tups, b0.frzs, b0.tbls⟩ (fun b u e => ?_) I5.bare
          fun b hb => ⟨(f2 b hb).2.2.2.1, (f2 b hb).2.1, (f2 b hb).2.2.2.2.1, (f2 b hb).2.2.2.2.2⟩
        · obtain ⟨sl, q⟩ := b0.slot b o e n hb hx
          exact ⟨sl, kp _ _ (sm b o e) q⟩
        · obtain ⟨o', q⟩ := b0.there b o e hx
          exact ⟨o', kp _ _ (sm b o e) q⟩
        · have hfree : H3 P2.objs.size = none := I5.free
          refine (I5.hok b u e).stay (fun c v hc' q => kp c v ?_ q) (fun _ q => q) fun _ _ q => q
          rcases hc' with z | z
          · rw [z]; exact ne_of_none e hfree
          · exact ne_of_none z hfree
      have fC : FpOk X pins H3 P2.objs.size := by
        have q := I2.fpOk hCle (I2.hok.fresh hCle)
        exact ⟨I5.free, q.2⟩
      refine wpAny_assign_Name (store_ok2 J hN hiy hxy (v := .ref s2.heap.objs.size) rfl (fun s5 I6 ⟨a, sb, ha⟩ => ?_) hfy)
      have nC : P2.objs.size ≠ a := by
        rcases ha with ha | ha
        · rw [ha]; exact fC.2.1
        · exact (fC.2.2.2.2.1 _ _ ha).symm
      obtain ⟨oC, esC, epC, hoC, rC⟩ := hn
      refine ⟨m, ⟨oC, esC, epC, sb.extBut _ _ nC hoC, rC⟩, fun h' hsb => ⟨_, H3, ?_, qn⟩⟩
      refine I6.turnedL (t' := s5.toks) (ch := [P2.objs.size]) (fun b o hb e => hsb.extBut b o (by simpa using hb) e) (fun b hb => ?_)
      cases List.mem_singleton.mp hb
      exact fC
    · refine wpAny_mono (T.item (cxComp X scope (x :: cn) cl P2.objs.size s2 H2 fp) rfl rfl rfl hc i [] s3 _ H3 (fun _ _ => False) I3 (stat fr3) st3 go) (fun r s4 ⟨u, hr, h4⟩ => ?_) fun _ _ z => z.elim
      subst hr
      refine wpAny_bind (wpAny_mono h4 (fun _ s5 ⟨xv, H5, I5, r5, y5, st5, fr5⟩ => ?_) fun _ _ z => z.elim)
      have I5' := I5.pinned (stat fr5) (T.obj _ _ st5)
      refine wpAny_bind (wpAny_mono (pgx _ s5 _ H5 xv u (fun σ6 H6 => σ6 = inSt cap (some xv) σ ∧ H6 = H5) I5' r5 ⟨rfl, rfl⟩) (fun _ s6 ⟨σ6, H6, I6, e6, e6'⟩ => ?_) fun _ _ z => z.elim)
      subst e6 e6'
      have again : ∀ {s7 : Shared} {H7 : Hp}, Inv (cxComp X scope (x :: cn) cl P2.objs.size s2 H2 fp) ([] ++ pinsAt fp s5.heap) (inSt cap (some xv) σ) H7 s7 → (∃ m', m' < n ∧ W (i + 1) m' H7) →
          ∃ m, m < n ∧ ∃ i H', Inv (cxComp X scope (x :: cn) cl P2.objs.size s2 H2 fp) [] (inSt cap none σ) H' s7 ∧ tn i s7.heap ∧ (∀ b ∈ fp, H' b = none) ∧ W i m H' := fun {s7 H7} I7 w7 => by
        obtain ⟨m', hm, w7⟩ := w7
        refine ⟨m', hm, i + 1, H7, I7.unpinned.weak rfl fun j v ev => ?_, T.keep _ _ _ st5 fun b hb o e => (I7.pin (b, o) (List.mem_append_right _ (List.mem_append_right _ (mem_pinsAt hb e)))).1, fun b hb => ?_, w7⟩
        · cases j with
          | zero => cases (show (none : Option V) = some v from Option.some.inj ev)
          | succ j => exact ev
        · obtain ⟨o, e, d⟩ := T.obj _ _ st5 b hb
          exact (I7.pin (b, o) (List.mem_append_right _ (List.mem_append_right _ (mem_pinsAt hb e)))).2.1
      refine wpAny_bind (wpAny_mono (hin cl P2.objs.size s2 H2 fp _ s6 _ _ _ I6 (step xv _ y5)) (fun ok s7 ⟨H7, I7, q7⟩ => ?_) fun _ _ z => z.elim)
      cases ok with
      | false =>
        have q7' : ∃ m', m' < n ∧ W (i + 1) m' H7 := by simpa using q7
        exact wpAny_pure ⟨rfl, again I7 q7'⟩
      | true =>
        have q7' := (if_pos rfl).mp q7
        refine wpAny_bind (wpAny_bind (wpAny_mono (he cl P2.objs.size s2 H2 fp _ s7 _ H7 _ I7 q7') (fun yv s8 ⟨y, H8, I8, r8, ys, h8, z8, q8⟩ => ?_) fun _ _ z => z.elim))
        refine wpAny_bind (wpAny_mono (mt_append (X := cxComp X scope (x :: cn) cl P2.objs.size s2 H2 fp) _ s8 _ H8 (.ref s2.heap.objs.size) [y] (.ref s2.heap.objs.size) [yv] (fun _ H9 => ∃ m', m' < n ∧ W (i + 1) m' H9) I8 rfl (.cons r8 .nil) ⟨_, ys, y, rfl, rfl, h8, z8, q8⟩) (fun _ s9 ⟨_, H9, I9, _, q9⟩ => ?_) fun _ _ z => z.elim)
        exact wpAny_pure (wpAny_pure ⟨rfl, again I9 q9⟩)
  exact codeAny_compStart_list (loop _ rfl) (T.self _ 0 _ _ _ (T.keep _ _ _ st2 fun b hb o e => old b o e) (loop _ rfl))
end
end L2
namespace L2
open PySem PySem.Spec PyProof.Rows
section
variable {X : Cx}
def rCatT0 (K : PySem.W.Frag) : R2 := fun x y H Q => ∃ a b ys, x = .ref a ∧ y = .ref b ∧ SqT K H a [] ∧ SqT K H b ys ∧ Q (.ref b) H
theorem op_catT0 : OpR X (binaryOp .Add) (rCatT0 X.K) := by
  intro pins s σ H x y v u Q I rx ry h
  obtain ⟨a, b, ys, rfl, rfl, ha, hb, q⟩ := h
  cases rx
  cases ry
  obtain ⟨its, r1, p1, _⟩ := I.tuple ha
  obtain ⟨its2, r2, p2, _⟩ := I.tuple hb
  have hv : its = [] := r1.nil_iff.mpr rfl
  obtain ⟨⟨cls, dd, data, sl⟩, ho, hc, n, hd⟩ := id p1
  obtain ⟨⟨cls2, dd2, data2, sl2⟩, ho2, hc2, n2, hd2⟩ := id p2
  simp only at hc hd hc2 hd2
  subst hc hd hc2 hd2
  exact concat_meets ⟨_, ho, rfl⟩ ⟨_, ho2, rfl⟩ noFill_tuple_add seq_tuple_add PySem.F.slot_tuple_add PySem.F.entry_tuple_add (PySem.F.args_tuple_add_2 _ _)
    (tuple_addW0 a b its.toArray its2.toArray n n2 dd dd2 sl sl2 (by simp [hv])) ⟨ho, ho2, ⟨.ref b, H, I, rfl, q⟩⟩
def rAddP (K : PySem.W.Frag) : R2 := fun x y H Q => rAddG x y H Q ∨ (rCatT K x y H Q ∨ rCatT0 K x y H Q)
theorem op_addP : OpR X (binaryOp .Add) (rAddP X.K) := op_addG.or (op_catT.or op_catT0)
end
end L2
namespace L2
open PySem PySem.Spec PyProof.Rows
section
variable {prog : Program} {w : World} {A : Around} {E : Value → Shared → Prop} {s : Shared} {it l : Addr} {its : Array Value}
end
end L2
namespace L2
open PySem PySem.Spec PyProof.Rows
section
variable {κ : Type} [DecidableEq κ]
def valV (kvs : List (κ × V)) (k : κ) : Option V := (kvs.find? fun kv => decide (kv.1 = k)).map (·.2)
def dropK (kvs : List (κ × V)) (k : κ) : List (κ × V) := kvs.filter fun kv => decide (kv.1 ≠ k)
theorem valV_pos {p : κ × V} {r : List (κ × V)} {k : κ} (e : p.1 = k) : valV (p :: r) k = some p.2 := by simp [valV, List.find?_cons, e]
theorem valV_neg {p : κ × V} {r : List (κ × V)} {k : κ} (e : ¬ p.1 = k) : valV (p :: r) k = valV r k := by simp [valV, List.find?_cons, e]
theorem RelO.getD {o : Option V} {u : Option Value} {d : V} {d' : Value} (r : RelO o u) (rd : RelV d d') : RelV (o.getD d) (u.getD d') := by
  cases o with
  | none => cases u with
    | none => exact rd
    | some _ => exact (show False from r).elim
  | some _ => cases u with
    | none => exact (show False from r).elim
    | some _ => exact r
theorem KV.val {kvs : List (κ × V)} {vs : List (κ × Value)} (r : KV kvs vs) (k : κ) : RelO (valV kvs k) (valueAt vs k) := by
  unfold KV at r
  induction r with
  | nil => exact True.intro
  | @cons p q ps qs h t ih =>
    obtain ⟨h1, h2⟩ := h
    by_cases e : p.1 = k
    · have e' : q.1 = k := h1.symm.trans e
      have b : valueAt (q :: qs) k = some q.2 := by simp [valueAt, List.find?_cons, e']
      rw [valV_pos e, b]; exact h2
    · have e' : ¬ q.1 = k := fun z => e (h1.trans z)
      have b : valueAt (q :: qs) k = valueAt qs k := by simp [valueAt, List.find?_cons, e']
      rw [valV_neg e, b]; exact ih
theorem KV.any {kvs : List (κ × V)} {vs : List (κ × Value)} (r : KV kvs vs) (k : κ) : (kvs.any fun kv => decide (kv.1 = k)) = vs.any fun kv => decide (kv.1 = k) := by
  unfold KV at r
  induction r with
  | nil => rfl
  | cons h t ih => rw [List.any_cons, List.any_cons, ih, h.1]
theorem KV.drop {kvs : List (κ × V)} {vs : List (κ × Value)} (r : KV kvs vs) (k : κ) : KV (dropK kvs k) (without vs k) := by
  unfold KV at r ⊢
  unfold dropK without
  induction r with
  | nil => exact .nil
  | @cons p q ps qs h t ih =>
    obtain ⟨h1, h2⟩ := h
    rw [List.filter_cons, List.filter_cons]
    by_cases e : p.1 = k
    · have a : ¬ decide (p.1 ≠ k) = true := by simp [e]
      have b : ¬ decide (q.1 ≠ k) = true := by simp [h1.symm.trans e]
      rw [if_neg a, if_neg b]; exact ih
    · have e' : ¬ q.1 = k := fun z => e (h1.trans z)
      have a : decide (p.1 ≠ k) = true := by simp [e]
      have b : decide (q.1 ≠ k) = true := by simp [e']
      rw [if_pos a, if_pos b]; exact .cons ⟨h1, h2⟩ ih
theorem KV.keys {kvs : List (κ × V)} {vs : List (κ × Value)} (r : KV kvs vs) : kvs.map (·.1) = vs.map (·.1) := by
  unfold KV at r
  induction r with
  | nil => rfl
  | cons h t ih => rw [List.map_cons, List.map_cons, ih, h.1]
theorem KV.length {kvs : List (κ × V)} {vs : List (κ × Value)} (r : KV kvs vs) : kvs.length = vs.length := Paired.length r
end
abbrev KT (H : Hp) : List (List Key × V) → List (List Key × Addr × Value) → Prop := Paired fun p q => p.1 = q.1 ∧ H q.2.1 = some (.tup (p.1.map kV)) ∧ RelV p.2 q.2.2
theorem KT.val {H : Hp} {kvs : List (List Key × V)} {xs : List (List Key × Addr × Value)} (r : KT H kvs xs) (k : List Key) : RelO (valV kvs k) ((atKey xs k).map (·.2)) := by
  induction r with
  | nil => exact True.intro
  | @cons p q ps qs h t ih =>
    obtain ⟨h1, _, h2⟩ := h
    by_cases e : p.1 = k
    · have e' : q.1 = k := h1.symm.trans e
      have b : atKey (q :: qs) k = some q.2 := by simp [atKey, List.find?_cons, e']
      rw [valV_pos e, b]; exact h2
    · have e' : ¬ q.1 = k := fun z => e (h1.trans z)
      have b : atKey (q :: qs) k = atKey qs k := by simp [atKey, List.find?_cons, e']
      rw [valV_neg e, b]; exact ih
theorem KT.keeps {H H' : Hp} {kvs : List (List Key × V)} {xs : List (List Key × Addr × Value)} (r : KT H kvs xs) (ht : ∀ b ys, H b = some (.tup ys) → H' b = some (.tup ys)) : KT H' kvs xs :=
  Paired.mapP r fun _ _ z => ⟨z.1, ht _ _ z.2.1, z.2.2⟩
section
variable {P : Program} {w : World} {H : Hp} {h : Heap} {a : Addr}
end
section
variable {X : Cx} {pins : List (Addr × Obj)} {σ : St} {H : Hp} {s : Shared} {a : Addr} {y v : V} {u r : Value} {o : Option V} {A : Around} {E : Value → Shared → Prop}
theorem Inv.big (I : Inv X pins σ H s) : sysModules < s.heap.objs.size := by
  have h : mainGlobals < s.heap.objs.size := (I.mod.glob.keeps I.bk).lt
  exact Nat.lt_trans (by decide) h
end
section
variable {X : Cx} {pins : List (Addr × Obj)} {σ : St} {H : Hp} {s : Shared} {a : Addr} {kvs : List (Key × V)} {k : Key} {u : Value} {A : Around} {E : Value → Shared → Prop}
end
section
variable {X : Cx} {o i e value : Expr} {pos pos' tpos : Pos} {td ty tv : TE}
end
section
variable {X : Cx} {pos : Pos}
end
section
variable {X : Cx} {pins : List (Addr × Obj)} {σ : St} {H : Hp} {s : Shared} {a : Addr} {y d : V} {u r : Value} {o : Option V} {A : Around} {E : Value → Shared → Prop}
end
section
variable {X : Cx} {o e f : Expr} {apos cpos : Pos} {td ty tx : TE}
end
section
variable {X : Cx} {pins : List (Addr × Obj)} {σ : St} {H : Hp} {s : Shared} {a : Addr} {kvs : List (Key × V)} {A : Around} {E : Value → Shared → Prop}
end
section
variable {X : Cx} {pins : List (Addr × Obj)} {σ : St} {H : Hp} {s : Shared} {a : Addr} {y : V} {u : Value} {A : Around} {E : Value → Shared → Prop}
end
end L2
namespace L2
open PySem PySem.Spec PyProof.Rows
section
variable {prog : Program} {w : World} {A : Around} {E : Value → Shared → Prop} {s : Shared} {a it : Addr} {es : Array DictEntry} {ep i : Nat}
end
end L2
namespace L2
open PySem PySem.Spec PyProof.Rows
section
variable {X : Cx} {a b c d : Expr} {ta tb tc td : TE} {pos : Pos}
end
theorem uscons {us : List Value} {n : Nat} (h : us.length = n + 1) : ∃ a r, us = a :: r := by
  cases us with
  | nil => cases h
  | cons a r => exact ⟨a, r, rfl⟩
theorem us1 {us : List Value} (h : us.length = 1) : ∃ a, us = [a] := by
  obtain ⟨a, us, rfl⟩ := uscons h
  exact ⟨a, by rw [List.eq_nil_of_length_eq_zero (Nat.succ.inj h)]⟩
theorem us2 {us : List Value} (h : us.length = 2) : ∃ a b, us = [a, b] := by
  obtain ⟨a, us, rfl⟩ := uscons h
  obtain ⟨b, rfl⟩ := us1 (Nat.succ.inj h)
  exact ⟨a, b, rfl⟩
theorem us3 {us : List Value} (h : us.length = 3) : ∃ a b c, us = [a, b, c] := by
  obtain ⟨a, us, rfl⟩ := uscons h
  obtain ⟨b, c, rfl⟩ := us2 (Nat.succ.inj h)
  exact ⟨a, b, c, rfl⟩
end L2
namespace PD
open PySem L2
inductive Cl where
  | Open | Bridge | Road | Cart | Trip | Day
  deriving DecidableEq
inductive Fl where
  | length | name | bears | wide | most | pieces | rounds | shuts | speed | wheels | cart | way | start | crossings | ended | road | loads | sends
  deriving DecidableEq
def Cl.s : Cl → Str
  | .Open => "Open" | .Bridge => "Bridge" | .Road => "Road" | .Cart => "Cart" | .Trip => "Trip" | .Day => "Day"
def Fl.s : Fl → Str
  | .length => "length" | .name => "name" | .bears => "bears" | .wide => "wide" | .most => "most" | .pieces => "pieces" | .rounds => "rounds" | .shuts => "shuts"
  | .speed => "speed" | .wheels => "wheels" | .cart => "cart" | .way => "way" | .start => "start" | .crossings => "crossings" | .ended => "ended" | .road => "road" | .loads => "loads" | .sends => "sends"
def Cl.fs : Cl → List Fl
  | .Open => [.length] | .Bridge => [.name, .length, .bears, .wide, .most] | .Road => [.pieces, .rounds, .shuts] | .Cart => [.name, .speed, .wheels]
  | .Trip => [.cart, .way, .start, .crossings, .ended] | .Day => [.road, .loads, .sends]
inductive D where
  | non | bl (b : Bool) | int (i : Int) | str (x : Str)
  | tup (xs : List D) | kt (xs : List D) | lst (xs : List D) | fz (xs : List D)
  | ob (c : Cl) (fs : List (Fl × D))
  | dk (ks : List Key) (ds : List D) | dt (ks : List (List Key)) (ds : List D)
def CF (K : PySem.W.Frag) (ns : List Str) (c : Cl) : Prop := PKd K ns (clA K c.s) [c.s] (c.fs.map Fl.s)
def KT (K : PySem.W.Frag) (a : Addr) (xs : List V) : Prop := ∃ (o : Obj) (its : Array Value) (n : Nat), K.lookup a = some o ∧ o.cls = .type "tuple" ∧ o.data = .seq its n ∧ its.size ≤ sizeLine ∧ Vals xs its.toList
def FZ (K : PySem.W.Frag) (H : Hp) (a : Addr) (xs : List V) : Prop := (∃ o : Obj, H a = some (.frz o (.lst xs))) ∨ ∃ (o : Obj) (its : Array Value) (n : Nat), K.lookup a = some o ∧ o.cls = .type "list" ∧ o.dict = none ∧ o.data = .seq its n ∧ its.size ≤ sizeLine ∧ Vals xs its.toList
mutual
/-- a value reads as a datum; L: the lists that may be read -/
inductive Rd (K : PySem.W.Frag) (ns : List Str) (L : Addr → Prop) (H : Hp) : V → D → Prop
  | non : Rd K ns L H .non .non
  | bl (b : Bool) : Rd K ns L H (.bl b) (.bl b)
  | int (i : Int) : Rd K ns L H (.int i) (.int i)
  | str (x : Str) : Rd K ns L H (.str x) (.str x)
  | tup {a : Addr} {vs : List V} {ds : List D} (e : H a = some (.tup vs)) (r : Rds K ns L H vs ds) : Rd K ns L H (.ref a) (.tup ds)
  | kt {a : Addr} {vs : List V} {ds : List D} (e : KT K a vs) (r : Rds K ns L H vs ds) : Rd K ns L H (.ref a) (.kt ds)
  | lst {a : Addr} {vs : List V} {ds : List D} (l : L a) (e : H a = some (.lst vs)) (r : Rds K ns L H vs ds) : Rd K ns L H (.ref a) (.lst ds)
  | fz {a : Addr} {vs : List V} {ds : List D} (e : FZ K H a vs) (r : Rds K ns L H vs ds) : Rd K ns L H (.ref a) (.fz ds)
  | ob {a dx : Addr} {gs : List (Str × V)} {c : Cl} {fs : List (Fl × D)} (l : L a) (e : H a = some (.ins (clA K c.s) dx gs)) (k : CF K ns c) (r : Rfs K ns L H gs fs) : Rd K ns L H (.ref a) (.ob c fs)
  | dk {a : Addr} {kvs : List (Key × V)} {ds : List D} (l : L a) (e : H a = some (.dK kvs)) (r : Rds K ns L H (kvs.map (·.2)) ds) : Rd K ns L H (.ref a) (.dk (kvs.map (·.1)) ds)
  | dt {a : Addr} {kvs : List (List Key × V)} {ds : List D} (l : L a) (e : H a = some (.dT kvs)) (r : Rds K ns L H (kvs.map (·.2)) ds) : Rd K ns L H (.ref a) (.dt (kvs.map (·.1)) ds)
inductive Rds (K : PySem.W.Frag) (ns : List Str) (L : Addr → Prop) (H : Hp) : List V → List D → Prop
  | nil : Rds K ns L H [] []
  | cons {v : V} {d : D} {vs : List V} {ds : List D} (h : Rd K ns L H v d) (t : Rds K ns L H vs ds) : Rds K ns L H (v :: vs) (d :: ds)
inductive Rfs (K : PySem.W.Frag) (ns : List Str) (L : Addr → Prop) (H : Hp) : List (Str × V) → List (Fl × D) → Prop
  | nil {gs : List (Str × V)} : Rfs K ns L H gs []
  | cons {gs : List (Str × V)} {f : Fl} {v : V} {d : D} {fs : List (Fl × D)} (e : gs.lookup f.s = some v) (h : Rd K ns L H v d) (t : Rfs K ns L H gs fs) : Rfs K ns L H gs ((f, d) :: fs)
end
def isMut : HO → Bool
  | .lst _ => true
  | .ins _ _ _ => true
  | .dK _ => true
  | .dT _ => true
  | _ => false
def KeepL (L : Addr → Prop) (H H' : Hp) : Prop := ∀ a o, H a = some o → (isMut o = true → L a) → H' a = some o
section
variable {K : PySem.W.Frag} {ns : List Str} {L L' : Addr → Prop} {H H' H'' : Hp}
theorem KeepL.of (h : Same H H') : KeepL L H H' := fun a o e _ => h a o e
theorem KeepL.refl : KeepL L H H := fun _ _ e _ => e
theorem Rd.mono2 (hL : ∀ a o, H a = some o → L a → L' a) (hk : KeepL L H H') {v : V} {d : D} (h : Rd K ns L H v d) : Rd K ns L' H' v d := Rd.rec (motive_1 := fun v d _ => Rd K ns L' H' v d) (motive_2 := fun vs ds _ => Rds K ns L' H' vs ds) (motive_3 := fun gs fs _ => Rfs K ns L' H' gs fs) .non .bl .int .str (fun e _ ih => .tup (hk _ _ e fun z => by cases z) ih) (fun e _ ih => .kt e ih) (fun l e _ ih => .lst (hL _ _ e l) (hk _ _ e fun _ => l) ih) (fun e _ ih => .fz (e.imp (fun z => z.elim fun o z => ⟨o, hk _ _ z fun z => by cases z⟩) id) ih) (fun l e k _ ih => .ob (hL _ _ e l) (hk _ _ e fun _ => l) k ih) (fun l e _ ih => .dk (hL _ _ e l) (hk _ _ e fun _ => l) ih) (fun l e _ ih => .dt (hL _ _ e l) (hk _ _ e fun _ => l) ih) .nil (fun _ _ h t => .cons h t) .nil (fun e _ _ h t => .cons e h t) h
theorem Rds.mono2 (hL : ∀ a o, H a = some o → L a → L' a) (hk : KeepL L H H') {vs : List V} {ds : List D} (h : Rds K ns L H vs ds) : Rds K ns L' H' vs ds := Rds.rec (motive_1 := fun v d _ => Rd K ns L' H' v d) (motive_2 := fun vs ds _ => Rds K ns L' H' vs ds) (motive_3 := fun gs fs _ => Rfs K ns L' H' gs fs) .non .bl .int .str (fun e _ ih => .tup (hk _ _ e fun z => by cases z) ih) (fun e _ ih => .kt e ih) (fun l e _ ih => .lst (hL _ _ e l) (hk _ _ e fun _ => l) ih) (fun e _ ih => .fz (e.imp (fun z => z.elim fun o z => ⟨o, hk _ _ z fun z => by cases z⟩) id) ih) (fun l e k _ ih => .ob (hL _ _ e l) (hk _ _ e fun _ => l) k ih) (fun l e _ ih => .dk (hL _ _ e l) (hk _ _ e fun _ => l) ih) (fun l e _ ih => .dt (hL _ _ e l) (hk _ _ e fun _ => l) ih) .nil (fun _ _ h t => .cons h t) .nil (fun e _ _ h t => .cons e h t) h
theorem Rfs.mono2 (hL : ∀ a o, H a = some o → L a → L' a) (hk : KeepL L H H') {gs : List (Str × V)} {fs : List (Fl × D)} (h : Rfs K ns L H gs fs) : Rfs K ns L' H' gs fs := Rfs.rec (motive_1 := fun v d _ => Rd K ns L' H' v d) (motive_2 := fun vs ds _ => Rds K ns L' H' vs ds) (motive_3 := fun gs fs _ => Rfs K ns L' H' gs fs) .non .bl .int .str (fun e _ ih => .tup (hk _ _ e fun z => by cases z) ih) (fun e _ ih => .kt e ih) (fun l e _ ih => .lst (hL _ _ e l) (hk _ _ e fun _ => l) ih) (fun e _ ih => .fz (e.imp (fun z => z.elim fun o z => ⟨o, hk _ _ z fun z => by cases z⟩) id) ih) (fun l e k _ ih => .ob (hL _ _ e l) (hk _ _ e fun _ => l) k ih) (fun l e _ ih => .dk (hL _ _ e l) (hk _ _ e fun _ => l) ih) (fun l e _ ih => .dt (hL _ _ e l) (hk _ _ e fun _ => l) ih) .nil (fun _ _ h t => .cons h t) .nil (fun e _ _ h t => .cons e h t) h
theorem Rd.mono (hL : ∀ a, L a → L' a) (hk : KeepL L H H') {v : V} {d : D} (h : Rd K ns L H v d) : Rd K ns L' H' v d := h.mono2 (fun a _ _ => hL a) hk
theorem Rds.mono (hL : ∀ a, L a → L' a) (hk : KeepL L H H') {vs : List V} {ds : List D} (h : Rds K ns L H vs ds) : Rds K ns L' H' vs ds := h.mono2 (fun a _ _ => hL a) hk
theorem Rfs.mono (hL : ∀ a, L a → L' a) (hk : KeepL L H H') {gs : List (Str × V)} {fs : List (Fl × D)} (h : Rfs K ns L H gs fs) : Rfs K ns L' H' gs fs := h.mono2 (fun a _ _ => hL a) hk
abbrev Nw (L : Addr → Prop) (H : Hp) : Addr → Prop := fun a => L a ∨ H a = none
theorem back {a : Addr} (S : Same H H') (h : H' a = none) : H a = none := by
  cases e : H a with
  | none => rfl
  | some o => rw [S _ _ e] at h; cases h
theorem nw2 (S : Same H H') {a : Addr} (h : Nw (Nw L H) H' a) : Nw L H a := h.elim id fun q => .inr (back S q)
theorem Rd.nw {v : V} {d : D} (h : Rd K ns L H v d) : Rd K ns (Nw L H) H v d := h.mono (fun _ => .inl) .refl
theorem Rd.same {v : V} {d : D} (h : Rd K ns L H v d) (S : Same H H') : Rd K ns L H' v d := h.mono (fun _ q => q) (.of S)
theorem Rds.same {v : List V} {d : List D} (h : Rds K ns L H v d) (S : Same H H') : Rds K ns L H' v d := h.mono (fun _ q => q) (.of S)
theorem Rds.nilL {ds : List D} (h : Rds K ns L H [] ds) : ds = [] := by cases h; rfl
theorem Rds.consL {v : V} {vs : List V} {ds : List D} (h : Rds K ns L H (v :: vs) ds) : ∃ d es, ds = d :: es ∧ Rd K ns L H v d ∧ Rds K ns L H vs es := by
  cases h with
  | cons h t => exact ⟨_, _, rfl, h, t⟩
theorem Rds.len {vs : List V} {ds : List D} (h : Rds K ns L H vs ds) : vs.length = ds.length := by
  induction vs generalizing ds with
  | nil => rw [h.nilL]; rfl
  | cons v vs ih =>
    obtain ⟨d, es, rfl, a, t⟩ := h.consL
    exact congrArg Nat.succ (ih t)
theorem Rds.get {vs : List V} {ds : List D} {i : Nat} {d : D} (h : Rds K ns L H vs ds) (e : ds[i]? = some d) : ∃ v, vs[i]? = some v ∧ Rd K ns L H v d := by
  induction vs generalizing ds i with
  | nil => rw [h.nilL] at e; cases e
  | cons v vs ih =>
    obtain ⟨c, es, rfl, a, t⟩ := h.consL
    cases i with
    | zero => cases e; exact ⟨_, rfl, a⟩
    | succ i => exact ih t e
theorem Rds.at : ∀ {vs : List V} {ds : List D} {i : Nat} {v : V}, Rds K ns L H vs ds → vs[i]? = some v → ∃ d, ds[i]? = some d ∧ Rd K ns L H v d
  | _, _, _, _, .nil, e => by simp at e
  | _, _, 0, _, .cons h _, e => by cases e; exact ⟨_, rfl, h⟩
  | _, _, i + 1, _, .cons _ t, e => t.at (i := i) e
theorem Rds.append {vs ws : List V} {ds es : List D} (h : Rds K ns L H vs ds) (s : Rds K ns L H ws es) : Rds K ns L H (vs ++ ws) (ds ++ es) := by
  induction vs generalizing ds with
  | nil => rw [h.nilL]; exact s
  | cons v vs ih =>
    obtain ⟨d, es, rfl, a, t⟩ := h.consL
    exact .cons a (ih t)
theorem Rds.drop {vs : List V} {ds : List D} (n : Nat) (h : Rds K ns L H vs ds) : Rds K ns L H (vs.drop n) (ds.drop n) := by
  induction vs generalizing ds n with
  | nil => rw [h.nilL, List.drop_nil, List.drop_nil]; exact .nil
  | cons v vs ih =>
    obtain ⟨d, es, rfl, a, t⟩ := h.consL
    cases n with
    | zero => exact h
    | succ n => exact ih n t
theorem Rds.take {vs : List V} {ds : List D} (n : Nat) (h : Rds K ns L H vs ds) : Rds K ns L H (vs.take n) (ds.take n) := by
  induction vs generalizing ds n with
  | nil => rw [h.nilL, List.take_nil, List.take_nil]; exact .nil
  | cons v vs ih =>
    obtain ⟨d, es, rfl, a, t⟩ := h.consL
    cases n with
    | zero => exact .nil
    | succ n => exact .cons a (ih n t)
theorem Rds.set {v : V} {d : D} (h : Rd K ns L H v d) : ∀ {vs : List V} {ds : List D} (i : Nat), Rds K ns L H vs ds → Rds K ns L H (vs.set i v) (ds.set i d)
  | _, _, _, .nil => .nil
  | _, _, 0, .cons _ t => .cons h t
  | _, _, i + 1, .cons q t => .cons q (t.set h i)
theorem same_new0 {p : Addr} (h : H p = none) (o : HO) : Same H (upd H p o) := fun b u q => by rw [upd_ne (ne_of_none q h)]; exact q
theorem isEmpty_len {α β : Type} : ∀ {xs : List α} {ys : List β}, xs.length = ys.length → xs.isEmpty = ys.isEmpty
  | [], [], _ => rfl
  | _ :: _, _ :: _, _ => rfl
  | [], _ :: _, h => by cases h
  | _ :: _, [], h => by cases h
def RdO (K : PySem.W.Frag) (ns : List Str) (L : Addr → Prop) (H : Hp) : HO → D → Prop
  | .lst vs, .lst ds => Rds K ns L H vs ds
  | .dK kvs, .dk ks ds => kvs.map (·.1) = ks ∧ Rds K ns L H (kvs.map (·.2)) ds
  | .dT kvs, .dt ks ds => kvs.map (·.1) = ks ∧ Rds K ns L H (kvs.map (·.2)) ds
  | _, _ => False
theorem RdO.case {o : HO} {d : D} (h : RdO K ns L H o d) : (∃ vs ds, o = .lst vs ∧ d = .lst ds ∧ Rds K ns L H vs ds) ∨ (∃ kvs ds, o = .dK kvs ∧ d = .dk (kvs.map (·.1)) ds ∧ Rds K ns L H (kvs.map (·.2)) ds) ∨ ∃ kvs ds, o = .dT kvs ∧ d = .dt (kvs.map (·.1)) ds ∧ Rds K ns L H (kvs.map (·.2)) ds := by
  cases o <;> cases d <;> first | exact h.elim | skip
  · exact .inl ⟨_, _, rfl, rfl, h⟩
  · obtain ⟨e, r⟩ := h
    exact .inr (.inl ⟨_, _, rfl, by rw [e], r⟩)
  · obtain ⟨e, r⟩ := h
    exact .inr (.inr ⟨_, _, rfl, by rw [e], r⟩)
theorem RdO.rd {o : HO} {d : D} {a : Addr} (h : RdO K ns L H o d) (l : L a) (e : H a = some o) : Rd K ns L H (.ref a) d := by
  rcases h.case with ⟨vs, ds, rfl, rfl, r⟩ | ⟨kvs, ds, rfl, rfl, r⟩ | ⟨kvs, ds, rfl, rfl, r⟩
  · exact .lst l e r
  · exact .dk l e r
  · exact .dt l e r
theorem RdO.map {L' : Addr → Prop} {H' : Hp} {o : HO} {d : D} (h : RdO K ns L H o d) (f : ∀ {vs : List V} {ds : List D}, Rds K ns L H vs ds → Rds K ns L' H' vs ds) : RdO K ns L' H' o d := by
  rcases h.case with ⟨vs, ds, rfl, rfl, r⟩ | ⟨kvs, ds, rfl, rfl, r⟩ | ⟨kvs, ds, rfl, rfl, r⟩
  · exact f r
  · exact ⟨rfl, f r⟩
  · exact ⟨rfl, f r⟩
theorem RdO.mono (hL : ∀ a, L a → L' a) (hk : KeepL L H H') {o : HO} {d : D} (h : RdO K ns L H o d) : RdO K ns L' H' o d := h.map fun r => r.mono hL hk
theorem RdO.mono2 (hL : ∀ a o, H a = some o → L a → L' a) (hk : KeepL L H H') {o : HO} {d : D} (h : RdO K ns L H o d) : RdO K ns L' H' o d := h.map fun r => r.mono2 hL hk
theorem RdO.same {o : HO} {d : D} (h : RdO K ns L H o d) (S : Same H H') : RdO K ns L H' o d := h.map fun r => r.same S
theorem RdO.mut {o : HO} {d : D} (h : RdO K ns L H o d) : isMut o = true := by
  rcases h.case with ⟨vs, ds, rfl, rfl, r⟩ | ⟨kvs, ds, rfl, rfl, r⟩ | ⟨kvs, ds, rfl, rfl, r⟩ <;> rfl
theorem RdO.lst {o : HO} {ds : List D} (h : RdO K ns L H o (.lst ds)) : ∃ vs, o = .lst vs ∧ Rds K ns L H vs ds := by
  rcases h.case with ⟨vs, ds, rfl, e, r⟩ | ⟨kvs, ds, rfl, e, r⟩ | ⟨kvs, ds, rfl, e, r⟩
  · cases e; exact ⟨vs, rfl, r⟩
  · cases e
  · cases e
theorem SqT.kt {a : Addr} {xs : List V} (h : KT K a xs) : SqT K H a xs := .inr h
theorem SqL.fz {a : Addr} {xs : List V} (h : FZ K H a xs) : SqL K H a xs := h.elim (fun z => .inl (.inr z)) .inr
theorem FZ.mono {a : Addr} {xs : List V} (h : FZ K H a xs) (hk : KeepL L H H') : FZ K H' a xs := h.imp (fun ⟨o, z⟩ => ⟨o, hk _ _ z fun z => by cases z⟩) id
end
mutual
def D.flat : D → Bool
  | .lst _ => false
  | .tup xs => flats xs
  | .kt xs => flats xs
  | .fz xs => flats xs
  | .ob _ _ => false
  | .dk _ _ => false
  | .dt _ _ => false
  | _ => true
def flats : List D → Bool
  | [] => true
  | d :: r => d.flat && flats r
end
section
variable {K : PySem.W.Frag} {ns : List Str} {L L' : Addr → Prop} {H H' H'' : Hp}
theorem Rd.flat {v : V} {d : D} (r : Rd K ns L H v d) : d.flat = true → Rd K ns L' H v d := Rd.rec (motive_1 := fun v d _ => d.flat = true → Rd K ns L' H v d) (motive_2 := fun vs ds _ => flats ds = true → Rds K ns L' H vs ds) (motive_3 := fun _ _ _ => True) (fun _ => .non) (fun b _ => .bl b) (fun i _ => .int i) (fun x _ => .str x) (fun e _ ih h => .tup e (ih (by simpa [D.flat] using h))) (fun e _ ih h => .kt e (ih (by simpa [D.flat] using h))) (fun _ _ _ _ h => by simp [D.flat] at h) (fun e _ ih h => .fz e (ih (by simpa [D.flat] using h))) (fun _ _ _ _ _ h => by simp [D.flat] at h) (fun _ _ _ _ h => by simp [D.flat] at h) (fun _ _ _ _ h => by simp [D.flat] at h) (fun _ => .nil) (fun _ _ h t q => by rw [flats, Bool.and_eq_true] at q; exact .cons (h q.1) (t q.2)) trivial (fun _ _ _ _ _ => trivial) r
theorem Rds.flat {vs : List V} {ds : List D} (r : Rds K ns L H vs ds) : flats ds = true → Rds K ns L' H vs ds := Rds.rec (motive_1 := fun v d _ => d.flat = true → Rd K ns L' H v d) (motive_2 := fun vs ds _ => flats ds = true → Rds K ns L' H vs ds) (motive_3 := fun _ _ _ => True) (fun _ => .non) (fun b _ => .bl b) (fun i _ => .int i) (fun x _ => .str x) (fun e _ ih h => .tup e (ih (by simpa [D.flat] using h))) (fun e _ ih h => .kt e (ih (by simpa [D.flat] using h))) (fun _ _ _ _ h => by simp [D.flat] at h) (fun e _ ih h => .fz e (ih (by simpa [D.flat] using h))) (fun _ _ _ _ _ h => by simp [D.flat] at h) (fun _ _ _ _ h => by simp [D.flat] at h) (fun _ _ _ _ h => by simp [D.flat] at h) (fun _ => .nil) (fun _ _ h t q => by rw [flats, Bool.and_eq_true] at q; exact .cons (h q.1) (t q.2)) trivial (fun _ _ _ _ _ => trivial) r
end
end PD
namespace PD
open PySem L2
abbrev Env := List (Option D)
abbrev VF := Env → Option D
abbrev AF := Env → Option (List D)
abbrev BF := Env → Option Bool
def vD (i : Nat) : VF := fun env => (env[i]?).join
def cD (d : D) : VF := fun _ => some d
def oD (g : D → D → Option D) (fa fb : VF) : VF := fun env => (fa env).bind fun a => (fb env).bind fun b => g a b
def uD (g : D → Option D) (fa : VF) : VF := fun env => (fa env).bind g
def aNil : AF := fun _ => some []
def aCons (fa : VF) (fr : AF) : AF := fun env => (fa env).bind fun a => (fr env).bind fun r => some (a :: r)
def tupD (fa : AF) : VF := fun env => (fa env).bind fun ds => some (.tup ds)
def lstD (fa : AF) : VF := fun env => (fa env).bind fun ds => some (.lst ds)
def callD (g : List D → Option D) (fa : AF) : VF := fun env => (fa env).bind g
def bD (f : VF) : BF := fun env => (f env).bind fun | .bl b => some b | _ => none
def truD : D → Option Bool
  | .non => some false
  | .bl b => some b
  | .int i => some (i != 0)
  | .lst xs => some (!xs.isEmpty)
  | .fz xs => some (!xs.isEmpty)
  | .tup xs => some (!xs.isEmpty)
  | .kt xs => some (!xs.isEmpty)
  | _ => none
def trD (f : VF) : BF := fun env => (f env).bind truD
def andB (a b : BF) : BF := fun env => (a env).bind fun x => if x = true then b env else some false
def orB (a b : BF) : BF := fun env => (a env).bind fun x => if x = true then some true else b env
def notB (a : BF) : BF := fun env => (a env).bind fun x => some (!x)
def andD (a b : VF) : VF := fun env => (a env).bind fun | .bl x => if x = true then b env else some (.bl false) | _ => none
def orD (a b : VF) : VF := fun env => (a env).bind fun | .bl x => if x = true then some (.bl true) else b env | _ => none
def notD (a : VF) : VF := fun env => (a env).bind fun | .bl x => some (.bl (!x)) | _ => none
def ifD (c : BF) (a b : VF) : VF := fun env => (c env).bind fun x => if x = true then a env else b env
def yesB : BF := fun _ => some true
section
variable (K : PySem.W.Frag) (ns : List Str)
def EnvR (L : Addr → Prop) (env : Env) (σ : St) (H : Hp) : Prop := ∀ (i : Nat) (d : D), env[i]? = some (some d) → ∃ v, σ[i]? = some (some v) ∧ Rd K ns L H v d
def PuE (t : TE) (f : VF) : Prop := ∀ (L : Addr → Prop) (env : Env) (σ : St) (H : Hp) (Q : VK) (d : D), EnvR K ns L env σ H → f env = some d → (∀ v H', Same H H' → Rd K ns (Nw L H) H' v d → Q v H') → t σ H Q
def PuF (t : TE) (f : VF) : Prop := ∀ (L : Addr → Prop) (env : Env) (σ : St) (H : Hp) (Q : VK) (d : D), EnvR K ns L env σ H → f env = some d →
  (∀ p vs ds H', d = .lst ds → Same H H' → H p = none → H' p = some (.lst vs) → Rds K ns (fun a => Nw L H a ∧ a ≠ p) H' vs ds → Q (.ref p) H') → t σ H Q
def PuA (n : Nat) (t : TA) (f : AF) : Prop := ∀ (L : Addr → Prop) (env : Env) (σ : St) (H : Hp) (Q : List V → Hp → Prop) (ds : List D), EnvR K ns L env σ H → f env = some ds → (∀ vs H', ds.length = n → Same H H' → Rds K ns (Nw L H) H' vs ds → Q vs H') → t σ H Q
def PuT (t : TT) (f : BF) : Prop := ∀ (L : Addr → Prop) (env : Env) (σ : St) (H : Hp) (Q : Bool → Hp → Prop) (b : Bool), EnvR K ns L env σ H → f env = some b → (∀ H', Same H H' → Q b H') → t σ H Q
def R2P (r : R2) (g : D → D → Option D) : Prop := ∀ (L : Addr → Prop) (H : Hp) (x y : V) (a b d : D) (Q : VK), Rd K ns L H x a → Rd K ns L H y b → g a b = some d → (∀ v H', Same H H' → Rd K ns (Nw L H) H' v d → Q v H') → r x y H Q
def UnP (r : V → Hp → VK → Prop) (g : D → Option D) : Prop := ∀ (L : Addr → Prop) (H : Hp) (x : V) (a d : D) (Q : VK), Rd K ns L H x a → g a = some d → (∀ v H', Same H H' → Rd K ns (Nw L H) H' v d → Q v H') → r x H Q
def CaP (r : List V → Hp → VK → Prop) (g : List D → Option D) : Prop := ∀ (L : Addr → Prop) (H : Hp) (xs : List V) (as : List D) (d : D) (Q : VK), Rds K ns L H xs as → g as = some d → (∀ v H', Same H H' → Rd K ns (Nw L H) H' v d → Q v H') → r xs H Q
def CaF (r : List V → Hp → VK → Prop) (g : List D → Option D) : Prop := ∀ (L : Addr → Prop) (H : Hp) (xs : List V) (as : List D) (d : D) (Q : VK), Rds K ns L H xs as → g as = some d →
  (∀ p vs ds H', d = .lst ds → Same H H' → H p = none → H' p = some (.lst vs) → Rds K ns (fun a => Nw L H a ∧ a ≠ p) H' vs ds → Q (.ref p) H') → r xs H Q
end
section
variable {K : PySem.W.Frag} {ns : List Str}
theorem EnvR.same {L : Addr → Prop} {env : Env} {σ : St} {H H' : Hp} (h : EnvR K ns L env σ H) (S : Same H H') : EnvR K ns L env σ H' := fun i d e => by
  obtain ⟨v, q, r⟩ := h i d e
  exact ⟨v, q, r.same S⟩
theorem EnvR.nw {L : Addr → Prop} {env : Env} {σ : St} {H H' : Hp} (h : EnvR K ns L env σ H) (S : Same H H') : EnvR K ns (Nw L H) env σ H' := fun i d e => by
  obtain ⟨v, q, r⟩ := h i d e
  exact ⟨v, q, r.nw.same S⟩
theorem bnd {α β : Type} {o : Option α} {g : α → Option β} {y : β} (h : o.bind g = some y) : ∃ x, o = some x ∧ g x = some y := by
  cases o with
  | none => cases h
  | some x => exact ⟨x, rfl, h⟩
theorem PuF.pe {t : TE} {f : VF} (h : PuF K ns t f) : PuE K ns t f := fun L env σ H Q d he hf k =>
  h L env σ H Q d he hf fun p vs ds H' e S hn hp r => by
    subst e
    exact k _ _ S (.lst (.inr hn) hp (r.mono (fun _ q => q.1) .refl))
theorem pu_var (i : Nat) : PuE K ns (tVar i) (vD i) := by
  intro L env σ H Q d he hf k
  have e : env[i]? = some (some d) := by
    unfold vD at hf
    cases q : env[i]? with
    | none => rw [q] at hf; cases hf
    | some o => rw [q] at hf; exact congrArg some hf
  obtain ⟨v, q, r⟩ := he i d e
  exact ⟨v, q, k v H (Same.refl _) r.nw⟩
theorem pu_int (i : Int) : PuE K ns (tC (.int i)) (cD (.int i)) := fun L env σ H Q d he hf k => by cases hf; exact k _ _ (Same.refl _) (.int i)
theorem pu_bl (i : Bool) : PuE K ns (tC (.bl i)) (cD (.bl i)) := fun L env σ H Q d he hf k => by cases hf; exact k _ _ (Same.refl _) (.bl i)
theorem pu_op {r : R2} {g : D → D → Option D} {ta tb : TE} {fa fb : VF} (hr : R2P K ns r g) (ha : PuE K ns ta fa) (hb : PuE K ns tb fb) : PuE K ns (tOp r ta tb) (oD g fa fb) := by
  intro L env σ H Q d he hf k
  obtain ⟨a, ea, hf⟩ := bnd hf
  obtain ⟨b, eb, hf⟩ := bnd hf
  refine ha L env σ H _ a he ea fun x H1 S1 rx => hb (Nw L H) env σ H1 _ b (he.nw S1) eb fun y H2 S2 ry => ?_
  refine hr (Nw (Nw L H) H1) H2 x y a b d Q (rx.mono (fun _ => .inl) (.of S2)) ry hf fun v H3 S3 rv => k v H3 (S1.trans (S2.trans S3)) (rv.mono (fun q hq => ?_) .refl)
  exact nw2 S1 (nw2 S2 hq)
theorem pu_un {r : V → Hp → VK → Prop} {g : D → Option D} {ta : TE} {fa : VF} (hr : UnP K ns r g) (ha : PuE K ns ta fa) : PuE K ns (tUn r ta) (uD g fa) := by
  intro L env σ H Q d he hf k
  obtain ⟨a, ea, hf⟩ := bnd hf
  exact ha L env σ H _ a he ea fun x H1 S1 rx => hr (Nw L H) H1 x a d Q rx hf fun v H3 S3 rv => k v H3 (S1.trans S3) (rv.mono (fun q hq => nw2 S1 hq) .refl)
theorem pa_nilD : PuA K ns 0 tNil aNil := fun L env σ H Q ds he hf k => by cases hf; exact k _ _ rfl (Same.refl _) .nil
theorem pa_consD {n : Nat} {ta : TE} {fa : VF} {tr : TA} {fr : AF} (ha : PuE K ns ta fa) (hr : PuA K ns n tr fr) : PuA K ns (n + 1) (tCons ta tr) (aCons fa fr) := by
  intro L env σ H Q ds he hf k
  obtain ⟨a, ea, hf⟩ := bnd hf
  obtain ⟨r, er, hf⟩ := bnd hf
  cases hf
  refine ha L env σ H _ a he ea fun x H1 S1 rx => hr (Nw L H) env σ H1 _ r (he.nw S1) er fun ys H2 hl S2 ry => ?_
  exact k _ H2 (congrArg Nat.succ hl) (S1.trans S2) (.cons (rx.mono (fun _ q => q) (.of S2)) (ry.mono (fun q hq => nw2 S1 hq) .refl))
theorem pu_tup {n : Nat} {t : TA} {f : AF} (h : PuA K ns n t f) (hn : n ≤ sizeLine := by decide) : PuE K ns (tTup t) (tupD f) := by
  intro L env σ H Q d he hf k
  obtain ⟨a, ea, hf⟩ := bnd hf
  cases hf
  refine h L env σ H _ a he ea fun vs H1 hl S1 rx => ⟨by rw [rx.len, hl]; exact hn, fun p hp => ?_⟩
  have N := same_new0 hp (.tup vs)
  exact k _ _ (S1.trans N) (.tup upd_same (rx.same N))
theorem pu_lst {n : Nat} {t : TA} {f : AF} (h : PuA K ns n t f) (hn : n ≤ sizeLine := by decide) : PuF K ns (tLst t) (lstD f) := by
  intro L env σ H Q d he hf k
  obtain ⟨a, ea, hf⟩ := bnd hf
  cases hf
  refine h L env σ H _ a he ea fun vs H1 hl S1 rx => ⟨by rw [rx.len, hl]; exact hn, fun p hp => ?_⟩
  have N := same_new0 hp (.lst vs)
  refine k p vs a _ rfl (S1.trans N) (back S1 hp) upd_same (rx.mono2 (fun a xs e q => ⟨q, fun z => ?_⟩) (.of N))
  subst z
  rw [hp] at e
  cases e
theorem pu_call {n : Nat} {r : List V → Hp → VK → Prop} {g : List D → Option D} {t : TA} {f : AF} (hr : CaP K ns r g) (h : PuA K ns n t f) : PuE K ns (tCB r t) (callD g f) := by
  intro L env σ H Q d he hf k
  obtain ⟨a, ea, hf⟩ := bnd hf
  exact h L env σ H _ a he ea fun xs H1 _ S1 rx => hr (Nw L H) H1 xs a d Q rx hf fun v H3 S3 rv => k v H3 (S1.trans S3) (rv.mono (fun q hq => nw2 S1 hq) .refl)
theorem pu_callF {n : Nat} {r : List V → Hp → VK → Prop} {g : List D → Option D} {t : TA} {f : AF} (hr : CaF K ns r g) (h : PuA K ns n t f) : PuF K ns (tCB r t) (callD g f) := by
  intro L env σ H Q d he hf k
  obtain ⟨a, ea, hf⟩ := bnd hf
  exact h L env σ H _ a he ea fun xs H1 _ S1 rx => hr (Nw L H) H1 xs a d Q rx hf fun p vs ds H3 e S3 hp h3 rv => k p vs ds H3 e (S1.trans S3) (back S1 hp) h3 (rv.mono (fun q hq => ⟨nw2 S1 hq.1, hq.2⟩) .refl)
theorem pt_bD {t : TE} {f : VF} (h : PuE K ns t f) : PuT K ns (tB t) (bD f) := by
  intro L env σ H Q b he hf k
  obtain ⟨d, ed, hf⟩ := bnd hf
  refine h L env σ H _ d he ed fun v H1 S1 r => ?_
  cases d <;> first | (cases hf; done) | skip
  cases hf
  cases r
  exact ⟨_, rfl, k _ S1⟩
theorem pt_tD {t : TE} {f : VF} (h : PuE K ns t f) : PuT K ns (tTest t) (bD f) := pt_bD h
theorem pt_trD {t : TE} {f : VF} (h : PuE K ns t f) : PuT K ns (fun σ H Q => t σ H fun x H' => ∃ k, TruV K x H' k ∧ Q k H') (trD f) := by
  intro L env σ H Q b he hf k
  obtain ⟨d, ed, hf⟩ := bnd hf
  refine h L env σ H _ d he ed fun v H1 S1 r => ?_
  cases r with
  | non => cases hf; exact ⟨_, rfl, k _ S1⟩
  | bl b => cases hf; exact ⟨_, rfl, k _ S1⟩
  | int i => cases hf; exact ⟨_, rfl, k _ S1⟩
  | str x => cases hf
  | tup e r => cases hf; exact ⟨_, .inr (.inl ⟨_, SqT.of e, by rw [isEmpty_len r.len]⟩), k _ S1⟩
  | kt e r => cases hf; exact ⟨_, .inr (.inl ⟨_, SqT.kt e, by rw [isEmpty_len r.len]⟩), k _ S1⟩
  | lst l e r => cases hf; exact ⟨_, .inl ⟨_, SqL.of e, by rw [isEmpty_len r.len]⟩, k _ S1⟩
  | fz e r => cases hf; exact ⟨_, .inl ⟨_, SqL.fz e, by rw [isEmpty_len r.len]⟩, k _ S1⟩
  | ob l e _ r => cases hf
  | dk l e r => cases hf
  | dt l e r => cases hf
theorem pt_yes : PuT K ns tYes yesB := fun L env σ H Q b he hf k => by cases hf; exact k _ (Same.refl _)
theorem pt_orD {t u : TT} {f g : BF} (h : PuT K ns t f) (h2 : PuT K ns u g) : PuT K ns (tOr t u) (orB f g) := by
  intro L env σ H Q b he hf k
  obtain ⟨x, ex, hf⟩ := bnd hf
  refine h L env σ H _ x he ex fun H1 S1 => ?_
  cases x with
  | true =>
    rw [if_pos rfl] at hf ⊢
    cases hf
    exact k _ S1
  | false =>
    rw [if_neg Bool.false_ne_true] at hf ⊢
    exact h2 _ env σ H1 _ b (he.nw S1) hf fun H2 S2 => k _ (S1.trans S2)
theorem pt_notD {t : TT} {f : BF} (h : PuT K ns t f) : PuT K ns (tNot t) (notB f) := by
  intro L env σ H Q b he hf k
  obtain ⟨x, ex, hf⟩ := bnd hf
  cases hf
  exact h L env σ H _ x he ex fun H1 S1 => k _ S1
theorem pu_not {t : TE} {f : VF} (h : PuE K ns t f) : PuE K ns (tNotV t) (notD f) := by
  intro L env σ H Q b he hf k
  obtain ⟨x, ex, hf⟩ := bnd hf
  refine h L env σ H _ x he ex fun v H1 S1 r => ?_
  cases r <;> first | (cases hf; done) | skip
  cases hf
  exact ⟨_, rfl, k _ _ S1 (.bl _)⟩
theorem pu_and {t u : TE} {f g : VF} (h : PuE K ns t f) (h2 : PuE K ns u g) : PuE K ns (tAndV t u) (andD f g) := by
  intro L env σ H Q b he hf k
  obtain ⟨x, ex, hf⟩ := bnd hf
  refine h L env σ H _ x he ex fun v H1 S1 r => ?_
  cases r <;> first | (cases hf; done) | skip
  rename_i c
  refine ⟨c, rfl, ?_⟩
  cases c with
  | false =>
    rw [if_neg Bool.false_ne_true]
    cases hf
    exact k _ _ S1 (.bl _)
  | true =>
    rw [if_pos rfl]
    exact h2 _ env σ H1 _ b (he.nw S1) hf fun v H2 S2 r => k _ _ (S1.trans S2) (r.mono (fun q hq => nw2 S1 hq) .refl)
theorem pu_if {t : TT} {ta tb : TE} {c : BF} {f g : VF} (h : PuT K ns t c) (h1 : PuE K ns ta f) (h2 : PuE K ns tb g) : PuE K ns (tIf t ta tb) (ifD c f g) := by
  intro L env σ H Q b he hf k
  obtain ⟨x, ex, hf⟩ := bnd hf
  refine h L env σ H _ x he ex fun H1 S1 => ?_
  cases x with
  | true =>
    rw [if_pos rfl] at hf ⊢
    exact h1 _ env σ H1 _ b (he.nw S1) hf fun v H2 S2 r => k _ _ (S1.trans S2) (r.mono (fun q hq => nw2 S1 hq) .refl)
  | false =>
    rw [if_neg Bool.false_ne_true] at hf ⊢
    exact h2 _ env σ H1 _ b (he.nw S1) hf fun v H2 S2 r => k _ _ (S1.trans S2) (r.mono (fun q hq => nw2 S1 hq) .refl)
end
end PD
namespace PD
open PySem L2
abbrev big : Int := 18446744073709551616
def ii (g : Int → Int → Option D) : D → D → Option D
  | .int i, .int j => g i j
  | _, _ => none
def addD : D → D → Option D
  | .int i, .int j => some (.int (i + j))
  | .str a, .str b => if a.length + b.length ≤ 1000000 then some (.str (a ++ b)) else none
  | .lst a, .lst b => if a.length + b.length ≤ 1000000 then some (.lst (a ++ b)) else none
  | .tup a, .tup b => if a.length + b.length ≤ 1000000 then some (.tup (a ++ b)) else none
  | _, _ => none
def subD : D → D → Option D := ii fun i j => some (.int (i - j))
def mulD : D → D → Option D
  | .int i, .int j => if (-big < i ∧ i < big) ∨ (-big < j ∧ j < big) then some (.int (i * j)) else none
  | .str a, .int n => if a.length ≤ 16 ∧ 0 ≤ n ∧ n ≤ 1000000 then some (.str (Txt.mul a n)) else none
  | _, _ => none
def fdivC : D → D → Option D := ii fun i j => if 0 < j ∧ j < 1073741824 then some (.int (i / j)) else none
def fdivD : D → D → Option D := ii fun i j => if 0 < j ∧ j < big then some (.int (i / j)) else none
def modD : D → D → Option D := ii fun i j => if 0 < j then some (.int (i % j)) else none
def shlD : D → D → Option D := ii fun i j => if 0 ≤ j ∧ j ≤ 1000 ∧ -big < i ∧ i < big then some (.int (i * 2 ^ j.toNat)) else none
def shrD : D → D → Option D := ii fun i j => if 0 ≤ j then some (.int (i / 2 ^ j.toNat)) else none
def bandD : D → D → Option D := ii fun i j => some (.int (Builtin.bitAnd i j))
def ltD : D → D → Option D := ii fun i j => some (.bl (decide (i < j)))
def leD : D → D → Option D := ii fun i j => some (.bl (decide (i ≤ j)))
def gtD : D → D → Option D := ii fun i j => some (.bl (decide (j < i)))
mutual
def toPy : D → Option PyData
  | .non => some .none
  | .bl b => some (.bool b)
  | .int i => some (.int i)
  | .str x => some (.str x)
  | .lst xs => (toPys xs).map .list
  | .fz xs => (toPys xs).map .list
  | .tup xs => (toPys xs).map .tuple
  | .kt xs => (toPys xs).map .tuple
  | .ob _ _ => none
  | .dk _ _ => none
  | .dt _ _ => none
def toPys : List D → Option (List PyData)
  | [] => some []
  | d :: r => (toPy d).bind fun x => (toPys r).map (x :: ·)
end
def eqX (d e : D) : Option Bool := (toPy d).bind fun x => (toPy e).bind fun y => if SeqAt.shaped x = true ∧ SeqAt.shaped y = true then some (PyData.eqv x y) else none
def eqB : D → D → Option Bool
  | .int i, .int j => some (decide (i = j))
  | .str i, .str j => some (decide (i = j))
  | .bl i, .bl j => some (decide (i = j))
  | d, e => eqX d e
def eqD (d e : D) : Option D := (eqB d e).map .bl
def neD (d e : D) : Option D := (eqB d e).map fun b => .bl (!b)
def seqOf : D → Option (List D)
  | .lst xs => some xs
  | .fz xs => some xs
  | .tup xs => some xs
  | .kt xs => some xs
  | _ => none
def ixD : D → D → Option D
  | .str z, .int i => if z.length ≤ 1000000 then (atI z.cps.toList i).map fun c => .str ⟨#[c]⟩ else none
  | d, .int i => (seqOf d).bind fun xs => atI xs i
  | _, _ => none
def cutD (xs : List D) (lo hi : Option Int) : List D := (xs.drop (HT.sIx xs.length 0 lo)).take (HT.sIx xs.length xs.length hi - HT.sIx xs.length 0 lo)
def slDD : D → Option Int → Option Int → Option D
  | .lst xs, lo, hi => some (.lst (cutD xs lo hi))
  | .fz xs, lo, hi => some (.lst (cutD xs lo hi))
  | .tup xs, lo, hi => if HT.sIx xs.length 0 lo = 0 ∧ HT.sIx xs.length xs.length hi = xs.length then none else some (.tup (cutD xs lo hi))
  | .str z, lo, hi => if z.length ≤ 1000000 then some (.str (Txt.slice z lo hi)) else none
  | _, _, _ => none
abbrev OF := Env → Option (Option Int)
def noO : OF := fun _ => some none
def atO (f : VF) : OF := fun env => (f env).bind fun | .int i => some (some i) | _ => none
def slD (g : D → Option Int → Option Int → Option D) (f : VF) (lo hi : OF) : VF := fun env => (f env).bind fun d => (lo env).bind fun l => (hi env).bind fun h => g d l h
def negD : D → Option D
  | .int i => some (.int (-i))
  | _ => none
def absD : List D → Option D
  | [.int i] => some (.int (if i < 0 then -i else i))
  | _ => none
def lenD : List D → Option D
  | [.str z] => if z.length ≤ 1000000 then some (.int z.length) else none
  | [d] => (seqOf d).map fun xs => .int xs.length
  | _ => none
def max2D : List D → Option D
  | [.int i, .int j] => some (.int (if j > i then j else i))
  | _ => none
def min2D : List D → Option D
  | [.int i, .int j] => some (.int (if j < i then j else i))
  | _ => none
def blS : List D → Option (List Bool)
  | [] => some []
  | .bl b :: r => (blS r).map (b :: ·)
  | _ => none
def inS : List D → Option (List Int)
  | [] => some []
  | .int b :: r => (inS r).map (b :: ·)
  | _ => none
def allD : List D → Option D
  | [.lst xs] => (blS xs).map fun bs => .bl (bs.all id)
  | _ => none
def sumD : List D → Option D
  | [.lst xs] => (inS xs).map fun bs => .int bs.sum
  | _ => none
def intD : List D → Option D
  | [.int i] => some (.int i)
  | [.bl b] => some (.int (if b then 1 else 0))
  | _ => none
def listD : List D → Option D
  | [d] => (seqOf d).map .lst
  | _ => none
def D.ty : D → String
  | .non => "NoneType" | .bl _ => "bool" | .int _ => "int" | .str _ => "str" | .lst _ => "list" | .tup _ => "tuple" | .fz _ => "list" | .kt _ => "" | .ob _ _ => "object" | .dk _ _ => "dict" | .dt _ _ => "dict"
def kits (t T : String) : Bool := t == T || (t == "bool" && T == "int")
def isT (T : String) : List D → Option D
  | [.kt _] => none
  | [.fz _] => none
  | [.dk _ _] => none
  | [.dt _ _] => none
  | [d] => some (.bl (kits d.ty T))
  | _ => none
section
variable {K : PySem.W.Frag} {ns : List Str}
theorem ii_inv {g : Int → Int → Option D} {L : Addr → Prop} {H : Hp} {x y : V} {a b d : D} (rx : Rd K ns L H x a) (ry : Rd K ns L H y b) (hf : ii g a b = some d) : ∃ i j, x = .int i ∧ y = .int j ∧ g i j = some d := by
  cases rx <;> first | (cases hf; done) | (cases ry <;> first | (cases hf; done) | skip)
  exact ⟨_, _, rfl, rfl, hf⟩
theorem r2_add : R2P K ns (rAddP K) addD := by
  intro L H x y a b d Q rx ry hf k
  cases rx <;> first | (cases hf; done) | (cases ry <;> first | (cases hf; done) | skip)
  · cases hf
    exact .inl (.inl ⟨_, _, rfl, rfl, k _ _ (Same.refl _) (.int _)⟩)
  · dsimp only [addD] at hf
    split at hf
    · cases hf
      rename_i h
      exact .inl (.inr (.inl ⟨_, _, rfl, rfl, Nat.le_trans h (by decide), k _ _ (Same.refl _) (.str _)⟩))
    · cases hf
  · rename_i e1 r1 _ _ _ e2 r2
    dsimp only [addD] at hf
    split at hf
    · cases hf
      rename_i h
      have hl : ∀ {n m : Nat}, n + m ≤ 1000000 → n + m ≤ sizeLine := fun q => Nat.le_trans q (by decide)
      cases r1 with
      | nil => exact .inr (.inr ⟨_, _, _, rfl, rfl, SqT.of e1, SqT.of e2, k _ _ (Same.refl _) (Rd.tup e2 r2).nw⟩)
      | cons h1 t1 =>
        have r1 := Rds.cons h1 t1
        refine .inr (.inl ⟨_, _, _, _, rfl, rfl, SqT.of e1, SqT.of e2, List.cons_ne_nil _ _, by rw [r1.len, r2.len]; exact hl h, fun z => ?_, fun _ p hp => k _ _ (same_new0 hp _) (.tup upd_same ((r1.append r2).mono (fun _ => .inl) (.of (same_new0 hp _))))⟩)
        subst z
        cases r2
        rw [List.append_nil] at k
        exact k _ _ (Same.refl _) (Rd.tup e1 r1).nw
    · cases hf
  · rename_i l1 e1 r1 _ _ _ l2 e2 r2
    dsimp only [addD] at hf
    split at hf
    · cases hf
      rename_i h
      refine .inl (.inr (.inr ⟨_, _, _, _, rfl, rfl, e1, e2, by rw [r1.len, r2.len]; exact Nat.le_trans h (by decide), fun p hp => k _ _ (same_new0 hp _) (.lst (.inr hp) upd_same ?_)⟩))
      exact (r1.append r2).mono (fun _ => .inl) (.of (same_new0 hp _))
    · cases hf
theorem new_rds {L : Addr → Prop} {H : Hp} {p : Addr} {vs : List V} {ds : List D} {o : HO} (r : Rds K ns L H vs ds) (hp : H p = none) : Rds K ns (fun a => Nw L H a ∧ a ≠ p) (upd H p o) vs ds :=
  r.mono2 (fun a xs e q => ⟨.inl q, ne_of_none e hp⟩) (.of (same_new0 hp _))
theorem r2_sub : R2P K ns rSubI subD := by
  intro L H x y a b d Q rx ry hf k
  obtain ⟨i, j, rfl, rfl, hf⟩ := ii_inv rx ry hf
  cases hf
  exact ⟨_, _, rfl, rfl, k _ _ (Same.refl _) (.int _)⟩
theorem r2_mul : R2P K ns rMulX mulD := by
  intro L H x y a b d Q rx ry hf k
  cases rx <;> first | (cases hf; done) | (cases ry <;> first | (cases hf; done) | skip)
  · dsimp only [mulD] at hf
    split at hf
    · cases hf
      rename_i h
      refine .inl ⟨_, _, rfl, rfl, ?_, k _ _ (Same.refl _) (.int _)⟩
      rcases h with h | h
      · exact IntMulOk.of_left (intBits_le_64 h.1 h.2)
      · exact IntMulOk.of_right (intBits_le_64 h.1 h.2)
    · cases hf
  · dsimp only [mulD] at hf
    split at hf
    · cases hf
      rename_i h
      exact .inr (.inr ⟨_, _, rfl, rfl, h.1, h.2.1, h.2.2, k _ _ (Same.refl _) (.str _)⟩)
    · cases hf
theorem r2_fdivC : R2P K ns rFdiv fdivC := by
  intro L H x y a b d Q rx ry hf k
  obtain ⟨i, j, rfl, rfl, hf⟩ := ii_inv rx ry hf
  split at hf
  · cases hf
    rename_i h
    exact ⟨_, _, rfl, rfl, h, k _ _ (Same.refl _) (.int _)⟩
  · cases hf
theorem r2_mod : R2P K ns rMod modD := by
  intro L H x y a b d Q rx ry hf k
  obtain ⟨i, j, rfl, rfl, hf⟩ := ii_inv rx ry hf
  split at hf
  · cases hf
    rename_i h
    exact ⟨_, _, rfl, rfl, h, k _ _ (Same.refl _) (.int _)⟩
  · cases hf
theorem r2_shl : R2P K ns (rI CPow fun i j => .int (i * 2 ^ j.toNat)) shlD := by
  intro L H x y a b d Q rx ry hf k
  obtain ⟨i, j, rfl, rfl, hf⟩ := ii_inv rx ry hf
  split at hf
  · cases hf
    rename_i h
    exact ⟨_, _, rfl, rfl, ⟨h.1, by omega, by have h1 : (-18446744073709551616 : Int) < _ := h.2.2.1; have h2 : _ < (18446744073709551616 : Int) := h.2.2.2; omega⟩, k _ _ (Same.refl _) (.int _)⟩
  · cases hf
theorem r2_shr : R2P K ns (rI (fun _ j => 0 ≤ j) fun i j => .int (i / 2 ^ j.toNat)) shrD := by
  intro L H x y a b d Q rx ry hf k
  obtain ⟨i, j, rfl, rfl, hf⟩ := ii_inv rx ry hf
  split at hf
  · cases hf
    rename_i h
    exact ⟨_, _, rfl, rfl, h, k _ _ (Same.refl _) (.int _)⟩
  · cases hf
theorem r2_band : R2P K ns (rI0 fun i j => .int (Builtin.bitAnd i j)) bandD := by
  intro L H x y a b d Q rx ry hf k
  obtain ⟨i, j, rfl, rfl, hf⟩ := ii_inv rx ry hf
  cases hf
  exact ⟨_, _, rfl, rfl, k _ _ (Same.refl _) (.int _)⟩
theorem r2_lt : R2P K ns rLt ltD := by
  intro L H x y a b d Q rx ry hf k
  obtain ⟨i, j, rfl, rfl, hf⟩ := ii_inv rx ry hf
  cases hf
  exact ⟨_, _, rfl, rfl, k _ _ (Same.refl _) (.bl _)⟩
theorem r2_gt : R2P K ns rGt gtD := by
  intro L H x y a b d Q rx ry hf k
  obtain ⟨i, j, rfl, rfl, hf⟩ := ii_inv rx ry hf
  cases hf
  exact ⟨_, _, rfl, rfl, k _ _ (Same.refl _) (.bl _)⟩
theorem Rd.py {L : Addr → Prop} {H : Hp} {v : V} {d : D} {y : PyData} (r : Rd K ns L H v d) : toPy d = some y → RdD K H v y := Rd.rec (motive_1 := fun v d _ => ∀ y, toPy d = some y → RdD K H v y) (motive_2 := fun vs ds _ => ∀ ys, toPys ds = some ys → RdDs K H vs ys) (motive_3 := fun _ _ _ => True) (fun y e => by cases e; exact .non) (fun b y e => by cases e; exact .bl b) (fun i y e => by cases e; exact .int i) (fun x y e => by cases e; exact .str x) (fun h _ ih y e => by rw [toPy] at e; obtain ⟨z, ez, rfl⟩ := Option.map_eq_some_iff.mp e; exact .tup (SqT.of h) (ih z ez)) (fun h _ ih y e => by rw [toPy] at e; obtain ⟨z, ez, rfl⟩ := Option.map_eq_some_iff.mp e; exact .tup (SqT.kt h) (ih z ez)) (fun l h _ ih y e => by rw [toPy] at e; obtain ⟨z, ez, rfl⟩ := Option.map_eq_some_iff.mp e; exact .lst (SqL.of h) (ih z ez)) (fun h _ ih y e => by rw [toPy] at e; obtain ⟨z, ez, rfl⟩ := Option.map_eq_some_iff.mp e; exact .lst (SqL.fz h) (ih z ez)) (fun _ _ _ _ _ y e => by rw [toPy] at e; cases e) (fun _ _ _ _ y e => by rw [toPy] at e; cases e) (fun _ _ _ _ y e => by rw [toPy] at e; cases e) (fun ys e => by cases e; exact .nil) (fun _ _ ih it ys e => by rw [toPys] at e; obtain ⟨x, ex, e⟩ := bnd e; obtain ⟨z, ez, rfl⟩ := Option.map_eq_some_iff.mp e; exact .cons (ih x ex) (it z ez)) trivial (fun _ _ _ _ _ => trivial) r y
theorem eqX_ok {L : Addr → Prop} {H : Hp} {x y : V} {d e : D} {b : Bool} (rx : Rd K ns L H x d) (ry : Rd K ns L H y e) (h : eqX d e = some b) : ∃ p q, RdD K H x p ∧ RdD K H y q ∧ SeqAt.shaped p = true ∧ SeqAt.shaped q = true ∧ PyData.eqv p q = b := by
  obtain ⟨p, ep, h⟩ := bnd h
  obtain ⟨q, eq, h⟩ := bnd h
  split at h
  · rename_i hs
    exact ⟨p, q, rx.py ep, ry.py eq, hs.1, hs.2, Option.some.inj h⟩
  · cases h
theorem eqB_ok {L : Addr → Prop} {H : Hp} {x y : V} {a b : D} {c : Bool} (rx : Rd K ns L H x a) (ry : Rd K ns L H y b) (hc : eqB a b = some c) : (∃ i j : Int, x = .int i ∧ y = .int j ∧ c = decide (i = j)) ∨ (∃ i j : Str, x = .str i ∧ y = .str j ∧ c = decide (i = j)) ∨ (∃ i j : Bool, x = .bl i ∧ y = .bl j ∧ c = decide (i = j)) ∨ ∃ p q, RdD K H x p ∧ RdD K H y q ∧ SeqAt.shaped p = true ∧ SeqAt.shaped q = true ∧ PyData.eqv p q = c := by
  unfold eqB at hc
  split at hc
  · cases rx; cases ry; cases hc
    exact .inl ⟨_, _, rfl, rfl, rfl⟩
  · cases rx; cases ry; cases hc
    exact .inr (.inl ⟨_, _, rfl, rfl, rfl⟩)
  · cases rx; cases ry; cases hc
    exact .inr (.inr (.inl ⟨_, _, rfl, rfl, rfl⟩))
  · exact .inr (.inr (.inr (eqX_ok rx ry hc)))
theorem str_dec {i j : Str} : decide (V.str i = V.str j) = decide (i = j) := by simp
theorem bl_dec {i j : Bool} : decide (V.bl i = V.bl j) = decide (i = j) := by simp
theorem r2_eq : R2P K ns (rEqG K) eqD := by
  intro L H x y a b d Q rx ry hf k
  obtain ⟨c, hc, rfl⟩ := Option.map_eq_some_iff.mp hf
  rcases eqB_ok rx ry hc with ⟨i, j, rfl, rfl, rfl⟩ | ⟨i, j, rfl, rfl, rfl⟩ | ⟨i, j, rfl, rfl, rfl⟩ | ⟨p, q, r1, r2, s1, s2, rfl⟩
  · exact .inl ⟨_, _, rfl, rfl, k _ _ (Same.refl _) (.bl _)⟩
  · exact .inr (.inr (.inl ⟨rfl, by rw [str_dec]; exact k _ _ (Same.refl _) (.bl _)⟩))
  · exact .inr (.inr (.inl ⟨rfl, by rw [bl_dec]; exact k _ _ (Same.refl _) (.bl _)⟩))
  · exact .inr (.inr (.inr ⟨p, q, r1, r2, s1, s2, k _ _ (Same.refl _) (.bl _)⟩))
theorem r2_ne : R2P K ns (rNeG K) neD := by
  intro L H x y a b d Q rx ry hf k
  obtain ⟨c, hc, rfl⟩ := Option.map_eq_some_iff.mp hf
  rcases eqB_ok rx ry hc with ⟨i, j, rfl, rfl, rfl⟩ | ⟨i, j, rfl, rfl, rfl⟩ | ⟨i, j, rfl, rfl, rfl⟩ | ⟨p, q, r1, r2, s1, s2, rfl⟩
  · exact .inl ⟨_, _, rfl, rfl, k _ _ (Same.refl _) (.bl _)⟩
  · exact .inr (.inl ⟨rfl, by rw [str_dec]; exact k _ _ (Same.refl _) (.bl _)⟩)
  · exact .inr (.inl ⟨rfl, by rw [bl_dec]; exact k _ _ (Same.refl _) (.bl _)⟩)
  · exact .inr (.inr ⟨p, q, r1, r2, s1, s2, k _ _ (Same.refl _) (.bl _)⟩)
theorem seq_ok {L : Addr → Prop} {H : Hp} {x : V} {d : D} {xs : List D} (r : Rd K ns L H x d) (h : seqOf d = some xs) : ∃ p vs, x = .ref p ∧ (SqL K H p vs ∨ SqT K H p vs) ∧ Rds K ns L H vs xs := by
  cases r <;> first | (cases h; done) | skip
  · rename_i e r; cases h; exact ⟨_, _, rfl, .inr (SqT.of e), r⟩
  · rename_i e r; cases h; exact ⟨_, _, rfl, .inr (SqT.kt e), r⟩
  · rename_i l e r; cases h; exact ⟨_, _, rfl, .inl (SqL.of e), r⟩
  · rename_i e r; cases h; exact ⟨_, _, rfl, .inl (SqL.fz e), r⟩
theorem ix_get {α β : Type} {xs : List α} {ys : List β} {i : Int} {y : β} (hl : xs.length = ys.length) (h : atI ys i = some y) : ∃ j : Nat, ys[j]? = some y ∧ atI xs i = xs[j]? := by
  unfold atI at h ⊢
  obtain ⟨j, ej, e⟩ := bnd h
  rw [hl, ej]
  exact ⟨j, e, rfl⟩
theorem r2_ix : R2P K ns (rIx K) ixD := by
  intro L H x y a b d Q rx ry hf k
  unfold ixD at hf
  split at hf
  · cases rx; cases ry
    split at hf
    · rename_i z i h
      obtain ⟨c, hc, rfl⟩ := Option.map_eq_some_iff.mp hf
      exact .inr (.inr ⟨_, _, c, rfl, rfl, Nat.le_trans h (by decide), hc, k _ _ (Same.refl _) (.str _)⟩)
    · cases hf
  · cases ry
    obtain ⟨xs, es, hf⟩ := bnd hf
    obtain ⟨p, vs, rfl, sq, rs⟩ := seq_ok rx es
    obtain ⟨j, ej, e⟩ := ix_get rs.len hf
    obtain ⟨v, ev, rv⟩ := rs.get ej
    rcases sq with sq | sq
    · exact .inl ⟨p, vs, _, v, rfl, rfl, sq, e.trans ev, k _ _ (Same.refl _) rv.nw⟩
    · exact .inr (.inl ⟨p, vs, _, v, rfl, rfl, sq, e.trans ev, k _ _ (Same.refl _) rv.nw⟩)
  · cases hf
theorem un_neg' : UnP K ns rNeg negD := by
  intro L H x a d Q rx hf k
  cases rx <;> first | (cases hf; done) | skip
  cases hf
  exact ⟨_, rfl, k _ _ (Same.refl _) (.int _)⟩
theorem one_of {L : Addr → Prop} {H : Hp} {xs : List V} {d : D} (r : Rds K ns L H xs [d]) : ∃ x, xs = [x] ∧ Rd K ns L H x d := by
  cases r with
  | cons h t => cases t; exact ⟨_, rfl, h⟩
theorem two_of {L : Addr → Prop} {H : Hp} {xs : List V} {d e : D} (r : Rds K ns L H xs [d, e]) : ∃ x y, xs = [x, y] ∧ Rd K ns L H x d ∧ Rd K ns L H y e := by
  cases r with
  | cons h t => obtain ⟨y, rfl, q⟩ := one_of t; exact ⟨_, _, rfl, h, q⟩
theorem ca_abs : CaP K ns rAbs absD := by
  intro L H xs as d Q rx hf k
  unfold absD at hf
  split at hf
  · cases hf
    obtain ⟨x, rfl, r⟩ := one_of rx
    cases r
    exact ⟨_, rfl, k _ _ (Same.refl _) (.int _)⟩
  · cases hf
theorem ca_len : CaP K ns (rLen K) lenD := by
  intro L H xs as d Q rx hf k
  unfold lenD at hf
  split at hf
  · obtain ⟨x, rfl, r⟩ := one_of rx
    cases r
    split at hf
    · rename_i h
      cases hf
      exact .inr ⟨_, rfl, Nat.le_trans h (by decide), k _ _ (Same.refl _) (.int _)⟩
    · cases hf
  · obtain ⟨x, rfl, r⟩ := one_of rx
    obtain ⟨ys, ey, rfl⟩ := Option.map_eq_some_iff.mp hf
    obtain ⟨p, vs, rfl, sq, rs⟩ := seq_ok r ey
    have := k (.int vs.length) H (Same.refl _) (by rw [rs.len]; exact .int _)
    exact .inl ⟨p, vs, rfl, sq, this⟩
  · cases hf
theorem ca_max2 : CaP K ns rMax2 max2D := by
  intro L H xs as d Q rx hf k
  unfold max2D at hf
  split at hf
  · cases hf
    obtain ⟨x, y, rfl, r, r'⟩ := two_of rx
    cases r; cases r'
    exact ⟨_, _, rfl, k _ _ (Same.refl _) (.int _)⟩
  · cases hf
theorem ca_min2 : CaP K ns rMin2 min2D := by
  intro L H xs as d Q rx hf k
  unfold min2D at hf
  split at hf
  · cases hf
    obtain ⟨x, y, rfl, r, r'⟩ := two_of rx
    cases r; cases r'
    exact ⟨_, _, rfl, k _ _ (Same.refl _) (.int _)⟩
  · cases hf
theorem bls_ok {L : Addr → Prop} {H : Hp} {vs : List V} {ds : List D} {bs : List Bool} (r : Rds K ns L H vs ds) (e : blS ds = some bs) : vs = bs.map V.bl := by
  induction vs generalizing ds bs with
  | nil => rw [r.nilL] at e; cases e; rfl
  | cons v vs ih =>
    obtain ⟨d, es, rfl, h, t⟩ := r.consL
    cases h <;> first | (cases e; done) | skip
    obtain ⟨z, ez, rfl⟩ := Option.map_eq_some_iff.mp e
    rw [ih t ez]
    rfl
theorem ins_ok {L : Addr → Prop} {H : Hp} {vs : List V} {ds : List D} {bs : List Int} (r : Rds K ns L H vs ds) (e : inS ds = some bs) : vs = bs.map V.int := by
  induction vs generalizing ds bs with
  | nil => rw [r.nilL] at e; cases e; rfl
  | cons v vs ih =>
    obtain ⟨d, es, rfl, h, t⟩ := r.consL
    cases h <;> first | (cases e; done) | skip
    obtain ⟨z, ez, rfl⟩ := Option.map_eq_some_iff.mp e
    rw [ih t ez]
    rfl
theorem ca_all : CaP K ns (rAll K) allD := by
  intro L H xs as d Q rx hf k
  unfold allD at hf
  split at hf
  · obtain ⟨x, rfl, r⟩ := one_of rx
    obtain ⟨bs, eb, rfl⟩ := Option.map_eq_some_iff.mp hf
    cases r with
    | lst l e r => exact ⟨_, bs, rfl, by rw [← bls_ok r eb]; exact SqL.of e, k _ _ (Same.refl _) (.bl _)⟩
  · cases hf
theorem ca_sum : CaP K ns (rSum K) sumD := by
  intro L H xs as d Q rx hf k
  unfold sumD at hf
  split at hf
  · obtain ⟨x, rfl, r⟩ := one_of rx
    obtain ⟨bs, eb, rfl⟩ := Option.map_eq_some_iff.mp hf
    cases r with
    | lst l e r => exact ⟨_, bs, rfl, by rw [← ins_ok r eb]; exact SqL.of e, k _ _ (Same.refl _) (.int _)⟩
  · cases hf
theorem ca_int : CaP K ns rIntX intD := by
  intro L H xs as d Q rx hf k
  unfold intD at hf
  split at hf
  · cases hf
    obtain ⟨x, rfl, r⟩ := one_of rx
    cases r
    exact .inl (.inl ⟨_, rfl, k _ _ (Same.refl _) (.int _)⟩)
  · cases hf
    obtain ⟨x, rfl, r⟩ := one_of rx
    cases r
    exact .inl (.inr ⟨_, rfl, k _ _ (Same.refl _) (.int _)⟩)
  · cases hf
theorem ca_list : CaF K ns (rListOf K) listD := by
  intro L H xs as d Q rx hf k
  unfold listD at hf
  split at hf
  · obtain ⟨x, rfl, r⟩ := one_of rx
    obtain ⟨ys, ey, rfl⟩ := Option.map_eq_some_iff.mp hf
    obtain ⟨p, vs, rfl, sq, rs⟩ := seq_ok r ey
    exact ⟨p, vs, rfl, sq, fun l hl => k _ _ _ _ rfl (same_new0 hl _) hl upd_same (new_rds rs hl)⟩
  · cases hf
def PuO (K : PySem.W.Frag) (ns : List Str) (t : TO) (f : OF) : Prop := ∀ (L : Addr → Prop) (env : Env) (σ : St) (H : Hp) (Q : Option Int → Hp → Prop) (o : Option Int), EnvR K ns L env σ H → f env = some o → (∀ H', Same H H' → Q o H') → t σ H Q
theorem po_no : PuO K ns tNoPart noO := fun L env σ H Q o he hf k => by cases hf; exact k _ (Same.refl _)
theorem po_at {t : TE} {f : VF} (h : PuE K ns t f) : PuO K ns (tPart t) (atO f) := by
  intro L env σ H Q o he hf k
  obtain ⟨d, ed, hf⟩ := bnd hf
  refine h L env σ H _ d he ed fun v H1 S1 r => ?_
  cases r <;> first | (cases hf; done) | skip
  cases hf
  exact ⟨_, rfl, k _ S1⟩
theorem cut_rds {L : Addr → Prop} {H : Hp} {vs : List V} {ds : List D} (r : Rds K ns L H vs ds) (lo hi : Option Int) : Rds K ns L H (cutV vs lo hi) (cutD ds lo hi) := by
  unfold cutV cutD
  rw [r.len]
  exact (r.drop _).take _
theorem pu_sl {t : TE} {f : VF} {tl th : TO} {fl fh : OF} (h : PuE K ns t f) (hl : PuO K ns tl fl) (hh : PuO K ns th fh) : PuE K ns (tSl (rSlX K) t tl th) (slD slDD f fl fh) := by
  intro L env σ H Q d he hf k
  obtain ⟨a, ea, hf⟩ := bnd hf
  obtain ⟨lo, el, hf⟩ := bnd hf
  obtain ⟨hi, ehi, hf⟩ := bnd hf
  refine h L env σ H _ a he ea fun x H1 S1 rx => hl (Nw L H) env σ H1 _ lo (he.nw S1) el fun H2 S2 => hh (Nw L H) env σ H2 _ hi (he.nw (S1.trans S2)) ehi fun H3 S3 => ?_
  have S13 := S2.trans S3
  have rx3 := rx.same S13
  have SS := S1.trans S13
  have fin : ∀ {p : Addr} {o : HO} {a : Addr}, H3 p = none → Nw (Nw L H) H3 a → Nw L H a := fun {p o a} _ q => nw2 SS q
  cases rx3 with
  | str z =>
    dsimp only [slDD] at hf
    split at hf
    case isTrue hq =>
      cases hf
      exact .inr (.inr ⟨_, rfl, Nat.le_trans hq (by decide), k _ _ SS (.str _)⟩)
    case isFalse => cases hf
  | tup e r =>
    dsimp only [slDD] at hf
    split at hf
    case isTrue => cases hf
    case isFalse hn =>
      cases hf
      refine .inr (.inl ⟨_, _, rfl, SqT.of e, by rw [r.len]; exact hn, fun p hp => k _ _ (SS.trans (same_new0 hp _)) (.tup upd_same ((cut_rds r _ _).mono (fun _ q => q) (.of (same_new0 hp _))))⟩)
  | lst l e r =>
    cases hf
    exact .inl ⟨_, _, rfl, SqL.of e, fun p hp => k _ _ (SS.trans (same_new0 hp _)) (.lst (.inr (back SS hp)) upd_same ((cut_rds r _ _).mono (fun _ q => q) (.of (same_new0 hp _))))⟩
  | fz e r =>
    cases hf
    exact .inl ⟨_, _, rfl, SqL.fz e, fun p hp => k _ _ (SS.trans (same_new0 hp _)) (.lst (.inr (back SS hp)) upd_same ((cut_rds r _ _).mono (fun _ q => q) (.of (same_new0 hp _))))⟩
  | _ => cases hf
end
end PD
namespace PD
open PySem L2
section
variable (K : PySem.W.Frag) (ns : List Str)
def ItP (J : It) (ds : List D) (L : Addr → Prop) (H1 : Hp) : Prop := ∀ (L2 : Addr → Prop) (i : Nat) (H : Hp), (∀ a o, H1 a = some o → L a → L2 a) → KeepL L2 H1 H →
  (∀ d, ds[i]? = some d → J.go i H ∧ ∀ x H', J.yld i H x H' → Same H H' ∧ Rd K ns (Nw L2 H) H' x d) ∧ (ds.length = i → J.stop i H)
def PuI (wi : TI) (f : AF) : Prop := ∀ (L : Addr → Prop) (env : Env) (σ : St) (H : Hp) (R : It → Hp → Prop) (ds : List D), EnvR K ns L env σ H → f env = some ds → (∀ J H', Same H H' → ItP K ns J ds (Nw L H) H' → R J H') → wi σ H R
end
def itemsD : D → Option (List D)
  | .lst xs => some xs
  | .fz xs => some xs
  | .tup xs => some xs
  | .kt xs => some xs
  | .str z => some (z.cps.toList.map fun c => .str ⟨#[c]⟩)
  | _ => none
def itD (f : VF) : AF := fun env => (f env).bind itemsD
def rng1D : List D → Option (List D)
  | [.int j] => if -1000000 < j ∧ j < 1000000 then some ((List.range j.toNat).map fun (i : Nat) => D.int (0 + (i : Int))) else none
  | _ => none
def rng2D : List D → Option (List D)
  | [.int i, .int j] => if -1000000 < i ∧ i < 1000000 ∧ -1000000 < j ∧ j < 1000000 then some ((List.range (j - i).toNat).map fun (k : Nat) => D.int (i + (k : Int))) else none
  | _ => none
def iaD (g : List D → Option (List D)) (f : AF) : AF := fun env => (f env).bind g
def enumG (xs : List D) : List D := xs.mapIdx fun i d => .tup [.int i, d]
def enumD : List D → Option (List D)
  | [.lst xs] => some (enumG xs)
  | _ => none
def zipG (xs ys : List D) : List D := List.zipWith (fun a b => D.tup [a, b]) xs ys
def zipL : List D → Option (List D)
  | [.lst xs, .lst ys] => some (zipG xs ys)
  | _ => none
def compD (fc : BF) (fe : VF) (caps : Env) : List D → Option (List D)
  | [] => some []
  | x :: xs => (fc (some x :: caps)).bind fun b => if b = true then (fe (some x :: caps)).bind fun y => (compD fc fe caps xs).map (y :: ·) else compD fc fe caps xs
def capsD (cap : List Nat) (env : Env) : Env := cap.map fun i => (env[i]?).join
def compF (fi : AF) (fc : BF) (fe : VF) (cap : List Nat) : VF := fun env => (fi env).bind fun ds => if ds.length < 1000000 then (compD fc fe (capsD cap env) ds).map .lst else none
section
variable {K : PySem.W.Frag} {ns : List Str}
theorem it_list {L : Addr → Prop} {H1 : Hp} {a : Addr} {vs : List V} {ds : List D} (l : L a) (e : H1 a = some (.lst vs)) (r : Rds K ns L H1 vs ds) : ItP K ns (Itl K a) ds L H1 := by
  intro L2 i H hL hk
  have l2 := hL _ _ e l
  have e2 := hk _ _ e fun _ => l2
  have r2 := r.mono2 hL (H' := H) (fun b o eb hb => hk b o eb fun z => hL _ _ eb (hb z))
  refine ⟨fun d hd => ?_, fun hi => ⟨vs, SqL.of e2, by rw [r.len]; omega⟩⟩
  obtain ⟨v, ev, rv⟩ := r2.get hd
  refine ⟨⟨vs, v, SqL.of e2, ev⟩, fun x H' y => ?_⟩
  obtain ⟨rfl, y⟩ := y
  have := y _ (SqL.of e2)
  rw [ev] at this
  cases this
  exact ⟨Same.refl _, rv.nw⟩
theorem it_fz {L : Addr → Prop} {H1 : Hp} {a : Addr} {vs : List V} {ds : List D} (e : FZ K H1 a vs) (r : Rds K ns L H1 vs ds) : ItP K ns (Itl K a) ds L H1 := by
  intro L2 i H hL hk
  have e2 := e.mono hk
  have r2 := r.mono2 hL (H' := H) (fun b o eb hb => hk b o eb fun z => hL _ _ eb (hb z))
  refine ⟨fun d hd => ?_, fun hi => ⟨vs, SqL.fz e2, by rw [r.len]; omega⟩⟩
  obtain ⟨v, ev, rv⟩ := r2.get hd
  refine ⟨⟨vs, v, SqL.fz e2, ev⟩, fun x H' y => ?_⟩
  obtain ⟨rfl, y⟩ := y
  have := y _ (SqL.fz e2)
  rw [ev] at this
  cases this
  exact ⟨Same.refl _, rv.nw⟩
theorem it_tup {L : Addr → Prop} {H1 : Hp} {a : Addr} {vs : List V} {ds : List D} (e : ∀ H, KeepL (fun _ => True) H1 H → SqT K H a vs) (e' : ∀ L2 H, KeepL L2 H1 H → SqT K H a vs) (r : Rds K ns L H1 vs ds) : ItP K ns (Itt K a) ds L H1 := by
  intro L2 i H hL hk
  have e2 := e' L2 H hk
  have r2 := r.mono2 hL (H' := H) (fun b o eb hb => hk b o eb fun z => hL _ _ eb (hb z))
  refine ⟨fun d hd => ?_, fun hi => ⟨vs, e2, by rw [r.len]; omega⟩⟩
  obtain ⟨v, ev, rv⟩ := r2.get hd
  refine ⟨⟨vs, v, e2, ev⟩, fun x H' y => ?_⟩
  obtain ⟨rfl, y⟩ := y
  have := y _ e2
  rw [ev] at this
  cases this
  exact ⟨Same.refl _, rv.nw⟩
theorem it_str {L : Addr → Prop} {H1 : Hp} {z : Str} : ItP K ns (Its z) (z.cps.toList.map fun c => .str ⟨#[c]⟩) L H1 := by
  intro L2 i H hL hk
  refine ⟨fun d hd => ?_, fun hi => by show i = z.cps.size; rw [← hi, List.length_map, Array.length_toList]⟩
  rw [List.getElem?_map] at hd
  obtain ⟨c, hc, rfl⟩ := Option.map_eq_some_iff.mp hd
  have hl := (List.getElem?_eq_some_iff.mp hc).1
  refine ⟨by show i < z.cps.size; simpa using hl, fun x H' y => ?_⟩
  obtain ⟨rfl, c', hc', rfl⟩ := y
  rw [hc] at hc'
  cases hc'
  exact ⟨Same.refl _, .str _⟩
theorem pi_any {t : TE} {f : VF} (h : PuE K ns t f) : PuI K ns (fun σ H R => iList K t σ H R ∨ (iTup K t σ H R ∨ iStr t σ H R)) (itD f) := by
  intro L env σ H R ds he hf k
  obtain ⟨d, ed, hf⟩ := bnd hf
  cases d <;> first | (cases hf; done) | skip
  · refine .inr (.inr (h L env σ H _ _ he ed fun v H1 S1 r => ?_))
    cases hf
    cases r
    exact ⟨_, rfl, k _ _ S1 it_str⟩
  · refine .inr (.inl (h L env σ H _ _ he ed fun v H1 S1 r => ?_))
    cases hf
    cases r with
    | tup e r => exact ⟨_, rfl, ⟨_, SqT.of e⟩, k _ _ S1 (it_tup (fun H hk => SqT.of (hk _ _ e fun z => by cases z)) (fun L2 H hk => SqT.of (hk _ _ e fun z => by cases z)) r)⟩
  · refine .inr (.inl (h L env σ H _ _ he ed fun v H1 S1 r => ?_))
    cases hf
    cases r with
    | kt e r => exact ⟨_, rfl, ⟨_, SqT.kt e⟩, k _ _ S1 (it_tup (fun H hk => SqT.kt e) (fun L2 H hk => SqT.kt e) r)⟩
  · refine .inl (h L env σ H _ _ he ed fun v H1 S1 r => ?_)
    cases hf
    cases r with
    | lst l e r => exact ⟨_, rfl, ⟨_, SqL.of e⟩, k _ _ S1 (it_list l e r)⟩
  · refine .inl (h L env σ H _ _ he ed fun v H1 S1 r => ?_)
    cases hf
    cases r with
    | fz e r => exact ⟨_, rfl, ⟨_, SqL.fz e⟩, k _ _ S1 (it_fz e r)⟩
theorem it_rng {L : Addr → Prop} {H1 : Hp} {lo : Int} {n : Nat} : ItP K ns (Itr lo n) ((List.range n).map fun (k : Nat) => D.int (lo + (k : Int))) L H1 := by
  intro L2 i H hL hk
  refine ⟨fun d hd => ?_, fun hi => by show n ≤ i; rw [← hi]; simp⟩
  rw [List.getElem?_map] at hd
  obtain ⟨c, hc, rfl⟩ := Option.map_eq_some_iff.mp hd
  obtain ⟨hl, hc⟩ := List.getElem?_eq_some_iff.mp hc
  rw [List.getElem_range] at hc
  subst hc
  refine ⟨by show i < n; simpa using hl, fun x H' y => ?_⟩
  obtain ⟨rfl, rfl⟩ := y
  exact ⟨Same.refl _, .int _⟩
theorem pi_rng1 {n : Nat} {t : TA} {f : AF} (h : PuA K ns n t f) : PuI K ns (iRng1 t) (iaD rng1D f) := by
  intro L env σ H R ds he hf k
  obtain ⟨as, ea, hf⟩ := bnd hf
  refine h L env σ H _ as he ea fun vs H1 _ S1 r => ?_
  unfold rng1D at hf
  split at hf
  · obtain ⟨x, rfl, q⟩ := one_of r
    cases q
    split at hf
    · rename_i hb
      cases hf
      exact ⟨_, rfl, by have := hb.1; omega, by have := hb.2; omega, k _ _ S1 it_rng⟩
    · cases hf
  · cases hf
theorem pi_rng2 {n : Nat} {t : TA} {f : AF} (h : PuA K ns n t f) : PuI K ns (iRng2 t) (iaD rng2D f) := by
  intro L env σ H R ds he hf k
  obtain ⟨as, ea, hf⟩ := bnd hf
  refine h L env σ H _ as he ea fun vs H1 _ S1 r => ?_
  unfold rng2D at hf
  split at hf
  · obtain ⟨x, y, rfl, q, q'⟩ := two_of r
    cases q
    cases q'
    split at hf
    · rename_i hb
      obtain ⟨b1, b2, b3, b4⟩ := hb
      cases hf
      exact ⟨_, _, rfl, ⟨by omega, by omega, by omega, by omega⟩, k _ _ S1 it_rng⟩
    · cases hf
  · cases hf
theorem pi_enumD {n : Nat} {t : TA} {f : AF} (h : PuA K ns n t f) : PuI K ns (iEnum K t) (iaD enumD f) := by
  intro L env σ H R ds he hf k
  obtain ⟨as, ea, hf⟩ := bnd hf
  refine h L env σ H _ as he ea fun vs H1 _ S1 r => ?_
  unfold enumD at hf
  split at hf
  · obtain ⟨x, rfl, q⟩ := one_of r
    cases hf
    cases q with
    | @lst p us xs l e r =>
      refine ⟨_, _, rfl, SqL.of e, k _ _ S1 ?_⟩
      intro L2 i H hL hk
      have l2 := hL _ _ e l
      have e2 := hk _ _ e fun _ => l2
      have r2 := r.mono2 hL (H' := H) (fun b o eb hb => hk b o eb fun z => hL _ _ eb (hb z))
      refine ⟨fun d hd => ?_, fun hi => ⟨us, SqL.of e2, by rw [r.len]; unfold enumG at hi; rw [List.length_mapIdx] at hi; omega⟩⟩
      unfold enumG at hd
      rw [List.getElem?_mapIdx] at hd
      obtain ⟨c, hc, rfl⟩ := Option.map_eq_some_iff.mp hd
      obtain ⟨v, ev, rv⟩ := r2.get hc
      refine ⟨⟨us, SqL.of e2, (List.getElem?_eq_some_iff.mp ev).1⟩, fun x H' y => ?_⟩
      obtain ⟨T, a, hT, rfl, rfl, y⟩ := y
      have := y _ (SqL.of e2)
      rw [ev] at this
      cases this
      have N := same_new0 hT (.tup [.int i, v])
      exact ⟨N, .tup upd_same (.cons (.int _) (.cons (rv.nw.same N) .nil))⟩
  · cases hf
theorem caps_ok {L : Addr → Prop} {env : Env} {σ : St} {H : Hp} {x : V} {d : D} {cap : List Nat} (he : EnvR K ns L env σ H) (hx : Rd K ns L H x d) : EnvR K ns L (some d :: capsD cap env) (inSt cap (some x) σ) H := by
  intro i d' e
  cases i with
  | zero => cases e; exact ⟨x, rfl, hx⟩
  | succ i =>
    have e' : (capsD cap env)[i]? = some (some d') := e
    unfold capsD at e'
    rw [List.getElem?_map] at e'
    obtain ⟨c, hc, e'⟩ := Option.map_eq_some_iff.mp e'
    cases q : env[c]? with
    | none => rw [q] at e'; cases e'
    | some o =>
      rw [q] at e'
      have e2 : o = some d' := e'
      subst e2
      obtain ⟨v, hv, r⟩ := he c d' q
      refine ⟨v, ?_, r⟩
      show (cap.map fun i => (σ[i]?).join)[i]? = _
      rw [List.getElem?_map, hc]
      show some ((σ[c]?).join) = _
      rw [hv]
      rfl
theorem EnvR.mono2 {L L' : Addr → Prop} {env : Env} {σ : St} {H H' : Hp} (h : EnvR K ns L env σ H) (hL : ∀ a o, H a = some o → L a → L' a) (hk : KeepL L H H') : EnvR K ns L' env σ H' := fun i d e => by
  obtain ⟨v, q, r⟩ := h i d e
  exact ⟨v, q, r.mono2 hL hk⟩
abbrev Lx (L : Addr → Prop) (H : Hp) (acc : Addr) : Addr → Prop := fun a => Nw L H a ∧ a ≠ acc
theorem pu_comp {wi : TI} {tc : TT} {te : TE} {fi : AF} {fc : BF} {fe : VF} {cap : List Nat} (hi : PuI K ns wi fi) (hc : PuT K ns tc fc) (he : PuE K ns te fe) : PuF K ns (tComp wi tc te cap) (compF fi fc fe cap) := by
  intro L env σ H Q d hE hf k
  obtain ⟨ds, ei, hf⟩ := bnd hf
  split at hf
  case isFalse => cases hf
  rename_i hn
  obtain ⟨out, eo, rfl⟩ := Option.map_eq_some_iff.mp hf
  refine hi L env σ H _ ds hE ei fun J H1 S1 it => ?_
  intro acc ha
  have hacc : H acc = none := back S1 ha
  have E1 : EnvR K ns (Lx L H acc) env σ H1 := (hE.mono2 (L' := Lx L H acc) (fun a o e l => ⟨.inl l, ne_of_none e hacc⟩) .refl).same S1
  refine ⟨fun i m H2 => m = ds.length - i ∧ i ≤ ds.length ∧ Same H1 H2 ∧ ∃ ys dn rest, H2 acc = some (.lst ys) ∧ Rds K ns (Lx L H acc) H2 ys dn ∧ ys.length ≤ i ∧ compD fc fe (capsD cap env) (ds.drop i) = some rest ∧ dn ++ rest = out, ⟨_, rfl, Nat.zero_le _, same_new0 ha _, [], [], out, upd_same, .nil, Nat.le_refl _, by rw [List.drop_zero]; exact eo, rfl⟩, ?_⟩
  rintro i m H2 ⟨rfl, hle, S2, ys, dn, rest, ea, rd, hy, ec, ed⟩
  obtain ⟨go, stop⟩ := it (Lx L H acc) i H2 (fun a o e l => ⟨l, ne_of_none e ha⟩) (.of S2)
  by_cases hlt : i < ds.length
  · obtain ⟨g, yl⟩ := go ds[i] (List.getElem?_eq_getElem hlt)
    refine .inr ⟨g, fun x H3 y => ?_⟩
    obtain ⟨S3, rx⟩ := yl x H3 y
    have ea3 := S3 _ _ ea
    have E3 : EnvR K ns (Lx L H acc) (some ds[i] :: capsD cap env) (inSt cap (some x) σ) H3 := caps_ok ((E1.same S2).same S3) (rx.mono2 (fun a o e l => by
      rcases l with l | l
      · exact l
      · exact ⟨.inr (back (S1.trans S2) l), fun z => by rw [z, ea] at l; cases l⟩) .refl)
    rw [List.drop_eq_getElem_cons hlt] at ec
    obtain ⟨b, eb, ec⟩ := bnd ec
    refine hc _ _ _ _ _ b E3 eb fun H4 S4 => ?_
    have ea4 := S4 _ _ ea3
    cases b with
    | false =>
      rw [if_neg Bool.false_ne_true] at ec ⊢
      exact ⟨ds.length - (i + 1), by omega, rfl, hlt, S2.trans (S3.trans S4), ys, dn, rest, ea4, rd.same (S3.trans S4), by omega, ec, ed⟩
    | true =>
      rw [if_pos rfl] at ec ⊢
      obtain ⟨y, ey, ec⟩ := bnd ec
      obtain ⟨rest', er, rfl⟩ := Option.map_eq_some_iff.mp ec
      refine he _ _ _ _ _ y (E3.same S4) ey fun v H5 S5 rv => ?_
      have ea5 := S5 _ _ ea4
      have SS := S3.trans (S4.trans S5)
      have up : ∀ {L3 : Addr → Prop}, ¬ L3 acc → KeepL L3 H5 (upd H5 acc (.lst (ys ++ [v]))) := fun {L3} hl a o e hm => by
        by_cases z : a = acc
        · subst z
          rw [ea5] at e
          cases e
          exact absurd (hm rfl) hl
        · rw [upd_ne z]; exact e
      have rv2 : Rd K ns (Lx L H acc) H5 v y := rv.mono2 (fun a o e l => by
        rcases l with l | l
        · exact l
        · exact ⟨.inr (back (S1.trans (S2.trans (S3.trans S4))) l), fun z => by rw [z, ea4] at l; cases l⟩) .refl
      refine ⟨ys, ea5, Nat.lt_of_le_of_lt hy (Nat.lt_trans hlt (Nat.lt_trans hn (by decide))), ds.length - (i + 1), by omega, rfl, hlt, fun a o e => ?_, ys ++ [v], dn ++ [y], rest', upd_same, ?_, ?_, er, by rw [← ed]; simp⟩
      · rw [upd_ne (ne_of_none e ha)]
        exact SS _ _ (S2 _ _ e)
      · exact ((rd.same SS).append (.cons rv2 .nil)).mono (fun _ q => q) (up fun q => q.2 rfl)
      · rw [List.length_append, List.length_singleton]; omega
  · have hi' : ds.length = i := by omega
    refine .inl ⟨stop hi', ?_⟩
    rw [List.drop_of_length_le (by omega)] at ec
    cases ec
    rw [List.append_nil] at ed
    subst ed
    exact k acc ys dn H2 rfl (S1.trans S2) hacc ea rd
end
end PD
namespace PD
open PySem L2
inductive Out where
  | nx (e : Env) | rt (d : D) | bk (e : Env) | ct (e : Env)
abbrev SF := Env → Option Out
def seqS (F G : SF) : SF := fun env => (F env).bind fun | .nx e => G e | o => some o
def nxS : SF := fun env => some (.nx env)
def retS (f : VF) : SF := fun env => (f env).bind fun d => some (.rt d)
def ifS (c : BF) (F G : SF) : SF := fun env => (c env).bind fun x => if x = true then F env else G env
def maskD (fl : List Bool) (env : Env) : Env := List.zipWith (fun b o => if b = true then none else o) fl env
abbrev mk (fl : List Bool) {α : Type} (f : Env → α) : Env → α := fun env => f (maskD fl env)
def setS (i : Nat) (f : VF) : SF := fun env => (f env).bind fun d => some (.nx (env.set i (some d)))
def ownAt (i : Nat) (env : Env) : Option (List D) := (env[i]?).join.bind fun | .lst xs => some xs | _ => none
def appS (i : Nat) (f : VF) : SF := fun env => (f env).bind fun d => (ownAt i env).bind fun xs => if xs.length < 1000000 then some (.nx (env.set i (some (.lst (xs ++ [d]))))) else none
def appW (i : Nat) (f : VF) : SF := fun env => (f env).bind fun d => if d.flat = true then (ownAt i env).bind fun xs => if xs.length < 1000000 then some (.nx (env.set i (some (.lst (xs ++ [d]))))) else none else none
def putL (xs : List D) (d : D) : D → Option (List D)
  | .int k => (ixN xs.length k).map fun n => xs.set n d
  | _ => none
def putS (i : Nat) (f : VF) (j : VF) : SF := fun env => (f env).bind fun d => (j env).bind fun k => if d.flat = true then (ownAt i env).bind fun xs => (putL xs d k).bind fun ys => some (.nx (env.set i (some (.lst ys)))) else none
abbrev GF := D → Env → Option Env
def nmG (i : Nat) : GF := fun d env => some (env.set i (some d))
def setsG : List Nat → List D → Env → Option Env
  | [], [], env => some env
  | i :: is, d :: ds, env => setsG is ds (env.set i (some d))
  | _, _, _ => none
def tupG (is : List Nat) : GF := fun d env => match d with
  | .tup ds => setsG is ds env
  | .kt ds => setsG is ds env
  | _ => none
def asgS (f : VF) (g : GF) : SF := fun env => (f env).bind fun d => (g d env).bind fun e => some (.nx e)
def forD (g : GF) (b : SF) : List D → SF
  | [], env => some (.nx env)
  | x :: xs, env => (g x env).bind fun e => (b e).bind fun
    | .nx e => forD g b xs e
    | .ct e => forD g b xs e
    | .bk e => some (.nx e)
    | .rt d => some (.rt d)
def forS (fi : AF) (g : GF) (b : SF) : SF := fun env => (fi env).bind fun ds => forD g b ds env
section
variable (K : PySem.W.Frag) (ns : List Str)
abbrev Lm (L0 : Addr → Prop) (H0 : Hp) (O : List (Option Addr)) : Addr → Prop := fun a => Nw L0 H0 a ∧ some a ∉ O
structure Iv (fl : List Bool) (L0 : Addr → Prop) (H0 : Hp) (O : List (Option Addr)) (env : Env) (σ : St) (H : Hp) : Prop where
  sm : Same H0 H
  fl : O.map Option.isSome = fl
  ln : σ.length = O.length
  le : env.length = O.length
  rd : ∀ (i : Nat) (d : D), env[i]? = some (some d) → O[i]? = some none → ∃ v, σ[i]? = some (some v) ∧ Rd K ns (Lm L0 H0 O) H v d
  ow : ∀ (i : Nat) (p : Addr), O[i]? = some (some p) → H0 p = none ∧ σ[i]? = some (some (.ref p)) ∧ ∃ o d, env[i]? = some (some d) ∧ H p = some o ∧ RdO K ns (Lm L0 H0 O) H o d
  inj : ∀ (i j : Nat) (p : Addr), O[i]? = some (some p) → O[j]? = some (some p) → i = j
structure Step (O : List (Option Addr)) (H : Hp) (O' : List (Option Addr)) (H' : Hp) : Prop where
  ow : ∀ p, some p ∈ O' → some p ∈ O ∨ H p = none
  kp : ∀ a o, H a = some o → some a ∉ O → H' a = some o
  dm : ∀ a, H' a = none → H a = none
def Res (fr : Bool) (L0 : Addr → Prop) (H0 H' : Hp) (v : V) (d : D) : Prop :=
  if fr = true then ∃ p us ds, v = .ref p ∧ d = .lst ds ∧ H0 p = none ∧ H' p = some (.lst us) ∧ Rds K ns (fun a => Nw L0 H0 a ∧ a ≠ p) H' us ds else Rd K ns (Nw L0 H0) H' v d
def Fin (fr : Bool) (lf fl : List Bool) (L0 : Addr → Prop) (H0 : Hp) (O : List (Option Addr)) (H : Hp) (E : Ends) : Option Out → Prop
  | some (.nx e) => ∀ O' σ' H', Step O H O' H' → Iv K ns fl L0 H0 O' e σ' H' → E.nx σ' H'
  | some (.bk e) => ∀ O' σ' H', Step O H O' H' → Iv K ns lf L0 H0 O' e σ' H' → E.bk σ' H'
  | some (.ct e) => ∀ O' σ' H', Step O H O' H' → Iv K ns lf L0 H0 O' e σ' H' → E.ct σ' H'
  | some (.rt d) => ∀ v H', Same H0 H' → Res K ns fr L0 H0 H' v d → E.rt v H'
  | none => False
def PuS (fr : Bool) (lf fl : List Bool) (t : TS) (F : SF) (fl' : List Bool) : Prop := ∀ (L0 : Addr → Prop) (H0 : Hp) (O : List (Option Addr)) (env : Env) (σ : St) (H : Hp) (E : Ends), Iv K ns fl L0 H0 O env σ H → Fin K ns fr lf fl' L0 H0 O H E (F env) → t E σ H
def PuG (fl : List Bool) (g : TG) (G : GF) : Prop := ∀ (L0 : Addr → Prop) (H0 : Hp) (O : List (Option Addr)) (env e : Env) (σ : St) (H : Hp) (x : V) (d : D) (Q : St → Hp → Prop), Iv K ns fl L0 H0 O env σ H → Rd K ns (Lm L0 H0 O) H x d → G d env = some e → (∀ σ', Iv K ns fl L0 H0 O e σ' H → Q σ' H) → g x σ H Q
end
section
variable {K : PySem.W.Frag} {ns : List Str} {fr : Bool} {lf fl fl' fl'' : List Bool} {L0 : Addr → Prop} {H0 H H' H'' : Hp} {O O' O'' : List (Option Addr)} {env : Env} {σ : St}
theorem Step.refl : Step O H O H := ⟨fun _ h => .inl h, fun _ _ e _ => e, fun _ h => h⟩
theorem Step.trans (a : Step O H O' H') (b : Step O' H' O'' H'') : Step O H O'' H'' where
  ow p h := by
    rcases b.ow p h with h | h
    · exact a.ow p h
    · exact .inr (a.dm _ h)
  kp c o e h := b.kp c o (a.kp c o e h) fun q => by
    rcases a.ow c q with q | q
    · exact h q
    · rw [e] at q; cases q
  dm c h := a.dm c (b.dm c h)
theorem Step.same (S : Same H H') : Step O H O H' := ⟨fun _ h => .inl h, fun _ _ e _ => S _ _ e, fun _ h => back S h⟩
theorem Iv.same (I : Iv K ns fl L0 H0 O env σ H) (S : Same H H') : Iv K ns fl L0 H0 O env σ H' where
  sm := I.sm.trans S
  fl := I.fl
  ln := I.ln
  le := I.le
  rd i d e h := by
    obtain ⟨v, q, r⟩ := I.rd i d e h
    exact ⟨v, q, r.same S⟩
  ow i p h := by
    obtain ⟨h0, q, vs, ds, e, hp, r⟩ := I.ow i p h
    exact ⟨h0, q, vs, ds, e, S _ _ hp, r.same S⟩
  inj := I.inj
theorem Iv.own_in (I : Iv K ns fl L0 H0 O env σ H) {p : Addr} (h : some p ∈ O) : ∃ o, H p = some o ∧ isMut o = true := by
  obtain ⟨i, hi, e⟩ := List.getElem_of_mem h
  obtain ⟨_, _, vs, _, _, hp, hr⟩ := I.ow i p (by rw [List.getElem?_eq_getElem hi, e])
  exact ⟨vs, hp, hr.mut⟩
theorem Iv.new_m (I : Iv K ns fl L0 H0 O env σ H) {a : Addr} (h : H a = none) : Lm L0 H0 O a := ⟨.inr (back I.sm h), fun q => by
  obtain ⟨vs, e, _⟩ := I.own_in q
  rw [h] at e
  cases e⟩
theorem Iv.nwm (I : Iv K ns fl L0 H0 O env σ H) {a : Addr} (h : Nw (Lm L0 H0 O) H a) : Lm L0 H0 O a := h.elim id I.new_m
theorem Iv.weak (I : Iv K ns fl L0 H0 O env σ H) : EnvR K ns (Nw L0 H0) env σ H := fun i d e => by
  have hi : i < O.length := by rw [← I.le]; exact (List.getElem?_eq_some_iff.mp e).1
  cases q : O[i]? with
  | none => rw [List.getElem?_eq_getElem hi] at q; cases q
  | some o =>
    cases o with
    | none =>
      obtain ⟨v, hv, r⟩ := I.rd i d e q
      exact ⟨v, hv, r.mono (fun _ z => z.1) .refl⟩
    | some p =>
      obtain ⟨h0, hs, vs, ds, e', hp, r⟩ := I.ow i p q
      rw [e] at e'
      cases e'
      exact ⟨_, hs, (r.mono (fun _ z => z.1) .refl).rd (.inr h0) hp⟩
theorem mask_get {i : Nat} {d : D} (h : (maskD fl env)[i]? = some (some d)) : fl[i]? = some false ∧ env[i]? = some (some d) := by
  unfold maskD at h
  rw [List.getElem?_zipWith] at h
  cases e1 : fl[i]? with
  | none => rw [e1] at h; cases h
  | some b =>
    cases e2 : env[i]? with
    | none => rw [e1, e2] at h; cases h
    | some o =>
      rw [e1, e2] at h
      cases b with
      | true => cases h
      | false => exact ⟨rfl, by cases h; rfl⟩
theorem Iv.flag (I : Iv K ns fl L0 H0 O env σ H) {i : Nat} {b : Bool} (h : fl[i]? = some b) : ∃ o, O[i]? = some o ∧ o.isSome = b := by
  rw [← I.fl, List.getElem?_map] at h
  obtain ⟨o, ho, e⟩ := Option.map_eq_some_iff.mp h
  exact ⟨o, ho, e⟩
theorem Iv.free (I : Iv K ns fl L0 H0 O env σ H) {i : Nat} (h : fl[i]? = some false) : O[i]? = some none := by
  obtain ⟨o, ho, e⟩ := I.flag h
  cases o with
  | none => exact ho
  | some p => cases e
theorem Iv.owned (I : Iv K ns fl L0 H0 O env σ H) {i : Nat} (h : fl[i]? = some true) : ∃ p, O[i]? = some (some p) := by
  obtain ⟨o, ho, e⟩ := I.flag h
  cases o with
  | none => cases e
  | some p => exact ⟨p, ho⟩
theorem Iv.strict (I : Iv K ns fl L0 H0 O env σ H) : EnvR K ns (Lm L0 H0 O) (maskD fl env) σ H := fun i d e => by
  obtain ⟨h1, h2⟩ := mask_get e
  exact I.rd i d h2 (I.free h1)
theorem mem_set_none {i : Nat} {a : Addr} (h : some a ∈ O.set i none) : some a ∈ O := by
  rcases List.mem_or_eq_of_mem_set h with q | q
  · exact q
  · cases q
theorem Iv.store (I : Iv K ns fl L0 H0 O env σ H) {i : Nat} {v : V} {d : D} (r : Rd K ns (Lm L0 H0 O) H v d) : Iv K ns (fl.set i false) L0 H0 (O.set i none) (env.set i (some d)) (σ.set i (some v)) H := by
  have up : ∀ a, Lm L0 H0 O a → Lm L0 H0 (O.set i none) a := fun a h => ⟨h.1, fun q => h.2 (mem_set_none q)⟩
  refine ⟨I.sm, by rw [← I.fl, List.map_set]; rfl, by simp [I.ln], by simp [I.le], fun j d' e h => ?_, fun j p h => ?_, fun j k p h1 h2 => ?_⟩
  · rw [List.getElem?_set] at e
    rw [List.getElem?_set]
    split at e
    · rename_i z
      rw [if_pos z]
      split at e
      · rename_i hl
        cases e
        rw [if_pos (by rw [I.ln, ← I.le]; exact hl)]
        exact ⟨v, rfl, r.mono up .refl⟩
      · cases e
    · rename_i z
      rw [if_neg z]
      rw [List.getElem?_set, if_neg z] at h
      obtain ⟨v', q, r'⟩ := I.rd j d' e h
      exact ⟨v', q, r'.mono up .refl⟩
  · rw [List.getElem?_set] at h
    split at h
    · split at h <;> cases h
    · rename_i z
      obtain ⟨h0, hs, vs, ds, e, hp, r'⟩ := I.ow j p h
      exact ⟨h0, by rw [List.getElem?_set, if_neg z]; exact hs, vs, ds, by rw [List.getElem?_set, if_neg z]; exact e, hp, r'.mono up .refl⟩
  · rw [List.getElem?_set] at h1 h2
    split at h1
    · split at h1 <;> cases h1
    · split at h2
      · split at h2 <;> cases h2
      · exact I.inj j k p h1 h2
theorem Iv.give (I : Iv K ns fl L0 H0 O env σ H) (i : Nat) : Iv K ns (fl.set i false) L0 H0 (O.set i none) env σ H := by
  have up : ∀ a, Lm L0 H0 O a → Lm L0 H0 (O.set i none) a := fun a h => ⟨h.1, fun q => h.2 (mem_set_none q)⟩
  refine ⟨I.sm, by rw [← I.fl, List.map_set]; rfl, by simp [I.ln], by simp [I.le], fun j d' e h => ?_, fun j p h => ?_, fun j k p h1 h2 => ?_⟩
  · have hj : j < O.length := by rw [← I.le]; exact (List.getElem?_eq_some_iff.mp e).1
    cases q : O[j]? with
    | none => rw [List.getElem?_eq_getElem hj] at q; cases q
    | some o =>
      cases o with
      | none =>
        obtain ⟨v', q, r'⟩ := I.rd j d' e q
        exact ⟨v', q, r'.mono up .refl⟩
      | some p =>
        obtain ⟨h0, hs, vs, ds, e', hp, r⟩ := I.ow j p q
        rw [e] at e'
        cases e'
        refine ⟨_, hs, (r.mono up .refl).rd ⟨.inr h0, fun z => ?_⟩ hp⟩
        obtain ⟨k, hk, ek⟩ := List.getElem_of_mem z
        have hk' : (O.set i none)[k]? = some (some p) := by rw [List.getElem?_eq_getElem hk, ek]
        rw [List.getElem?_set] at hk'
        split at hk'
        · split at hk' <;> cases hk'
        · rename_i hik
          have := I.inj j k p q hk'
          subst this
          rw [List.getElem?_set, if_neg hik, q] at h
          cases h
  · rw [List.getElem?_set] at h
    split at h
    · split at h <;> cases h
    · obtain ⟨h0, hs, vs, ds, e, hp, r'⟩ := I.ow j p h
      exact ⟨h0, hs, vs, ds, e, hp, r'.mono up .refl⟩
  · rw [List.getElem?_set] at h1 h2
    split at h1
    · split at h1 <;> cases h1
    · split at h2
      · split at h2 <;> cases h2
      · exact I.inj j k p h1 h2
theorem Step.give (i : Nat) : Step O H (O.set i none) H := ⟨fun _ h => .inl (mem_set_none h), fun _ _ e _ => e, fun _ h => h⟩
theorem Iv.takeO (I : Iv K ns fl L0 H0 O env σ H) {i : Nat} {p : Addr} {vs : HO} {ds : D} (S : Same H H') (hp : H p = none) (e : H' p = some vs) (r : RdO K ns (fun a => Nw (Lm L0 H0 O) H a ∧ a ≠ p) H' vs ds) (hi : i < O.length) :
    Iv K ns (fl.set i true) L0 H0 (O.set i (some p)) (env.set i (some ds)) (σ.set i (some (.ref p))) H' := by
  have up : ∀ a o, H a = some o → Lm L0 H0 O a → Lm L0 H0 (O.set i (some p)) a := fun a o ea h => ⟨h.1, fun q => by
    rcases List.mem_or_eq_of_mem_set q with q | q
    · exact h.2 q
    · cases q
      rw [hp] at ea
      cases ea⟩
  have np : some p ∉ O := fun q => by
    obtain ⟨vs, e, _⟩ := I.own_in q
    rw [hp] at e
    cases e
  refine ⟨I.sm.trans S, by rw [← I.fl, List.map_set]; rfl, by simp [I.ln], by simp [I.le], fun j d' e' h => ?_, fun j p' h => ?_, fun j k p' h1 h2 => ?_⟩
  · by_cases z : i = j
    · subst z
      rw [List.getElem?_set, if_pos rfl, if_pos hi] at h
      cases h
    · rw [List.getElem?_set, if_neg z] at h
      rw [List.getElem?_set, if_neg z] at e' ⊢
      obtain ⟨v', q, r'⟩ := I.rd j d' e' h
      exact ⟨v', q, r'.mono2 up (.of S)⟩
  · by_cases z : i = j
    · subst z
      rw [List.getElem?_set, if_pos rfl, if_pos hi] at h
      cases h
      refine ⟨back I.sm hp, by rw [List.getElem?_set, if_pos rfl, if_pos (by rw [I.ln]; exact hi)], vs, ds, by rw [List.getElem?_set, if_pos rfl, if_pos (by rw [I.le]; exact hi)], e, r.mono (fun a q => ?_) .refl⟩
      have := I.nwm q.1
      refine ⟨this.1, fun z => ?_⟩
      rcases List.mem_or_eq_of_mem_set z with z | z
      · exact this.2 z
      · cases z
        exact q.2 rfl
    · rw [List.getElem?_set, if_neg z] at h
      obtain ⟨h0, hs, us, es, e', hp', r'⟩ := I.ow j p' h
      exact ⟨h0, by rw [List.getElem?_set, if_neg z]; exact hs, us, es, by rw [List.getElem?_set, if_neg z]; exact e', S _ _ hp', r'.mono2 up (.of S)⟩
  · rw [List.getElem?_set] at h1 h2
    by_cases zj : i = j
    · subst zj
      rw [if_pos rfl, if_pos hi] at h1
      cases h1
      by_cases zk : i = k
      · exact zk
      · rw [if_neg zk] at h2
        exact absurd (List.mem_of_getElem? h2) np
    · rw [if_neg zj] at h1
      by_cases zk : i = k
      · subst zk
        rw [if_pos rfl, if_pos hi] at h2
        cases h2
        exact absurd (List.mem_of_getElem? h1) np
      · rw [if_neg zk] at h2
        exact I.inj j k p' h1 h2
theorem Iv.take (I : Iv K ns fl L0 H0 O env σ H) {i : Nat} {p : Addr} {vs : List V} {ds : List D} (S : Same H H') (hp : H p = none) (e : H' p = some (.lst vs)) (r : Rds K ns (fun a => Nw (Lm L0 H0 O) H a ∧ a ≠ p) H' vs ds) (hi : i < O.length) :
    Iv K ns (fl.set i true) L0 H0 (O.set i (some p)) (env.set i (some (.lst ds))) (σ.set i (some (.ref p))) H' := I.takeO (vs := .lst vs) (ds := .lst ds) S hp e r hi
theorem Step.take {i : Nat} {p : Addr} (S : Same H H') (hp : H p = none) : Step O H (O.set i (some p)) H' := ⟨fun q h => by
  rcases List.mem_or_eq_of_mem_set h with h | h
  · exact .inl h
  · cases h
    exact .inr hp, fun _ _ e _ => S _ _ e, fun _ h => back S h⟩
theorem Iv.alterO (I : Iv K ns fl L0 H0 O env σ H) {i : Nat} {p : Addr} {vs : HO} {ds : D} (ho : O[i]? = some (some p)) (r : RdO K ns (Lm L0 H0 O) H vs ds) :
    Iv K ns fl L0 H0 O (env.set i (some ds)) σ (upd H p vs) := by
  obtain ⟨h0, hs, us, es, e, hp, ru⟩ := I.ow i p ho
  have np : ¬ Lm L0 H0 O p := fun q => q.2 (List.mem_of_getElem? ho)
  have kp : KeepL (Lm L0 H0 O) H (upd H p vs) := fun a o ea hm => by
    by_cases z : a = p
    · subst z
      rw [hp] at ea
      cases ea
      exact absurd (hm ru.mut) np
    · rw [upd_ne z]; exact ea
  refine ⟨fun b o eb => ?_, I.fl, I.ln, by simp [I.le], fun j d' e' h => ?_, fun j p' h => ?_, I.inj⟩
  · rw [upd_ne (ne_of_none eb h0)]
    exact I.sm _ _ eb
  · rw [List.getElem?_set] at e'
    split at e'
    · rename_i z
      subst z
      rw [ho] at h
      cases h
    · obtain ⟨v', q, r'⟩ := I.rd j d' e' h
      exact ⟨v', q, r'.mono (fun _ q => q) kp⟩
  · obtain ⟨h0', hs', us', es', e2, hp', r'⟩ := I.ow j p' h
    by_cases z : i = j
    · subst z
      rw [ho] at h
      cases h
      exact ⟨h0, hs, vs, ds, by rw [List.getElem?_set, if_pos rfl, if_pos (List.getElem?_eq_some_iff.mp e).1], upd_same, r.mono (fun _ q => q) kp⟩
    · have pp : p' ≠ p := fun q => by
        subst q
        exact z (I.inj i j p' ho h)
      exact ⟨h0', hs', us', es', by rw [List.getElem?_set, if_neg z]; exact e2, by rw [upd_ne pp]; exact hp', r'.mono (fun _ q => q) kp⟩
theorem Iv.alter (I : Iv K ns fl L0 H0 O env σ H) {i : Nat} {p : Addr} {vs : List V} {ds : List D} (ho : O[i]? = some (some p)) (r : Rds K ns (Lm L0 H0 O) H vs ds) :
    Iv K ns fl L0 H0 O (env.set i (some (.lst ds))) σ (upd H p (.lst vs)) := I.alterO (vs := .lst vs) (ds := .lst ds) ho r
theorem Step.alter {p : Addr} {vs : HO} (h : some p ∈ O) : Step O H O (upd H p vs) := ⟨fun _ q => .inl q, fun a o e hn => by rw [upd_ne fun z => hn (by rw [z]; exact h)]; exact e, fun a q => by
  by_cases z : a = p
  · subst z
    rw [upd_same] at q
    cases q
  · rw [upd_ne z] at q
    exact q⟩
theorem Fin.mono {E E' : Ends} {o : Option Out} (T : Step O H O' H') (h : Fin K ns fr lf fl' L0 H0 O H E o) (hr : E.rt = E'.rt) (hn : E.nx = E'.nx) (hb : E.bk = E'.bk) (hc : E.ct = E'.ct) : Fin K ns fr lf fl' L0 H0 O' H' E' o := by
  cases o with
  | none => exact h
  | some o =>
    cases o with
    | nx e => intro O2 σ2 H2 T2 I2; rw [← hn]; exact h O2 σ2 H2 (T.trans T2) I2
    | rt d => intro v H2 S2 r2; rw [← hr]; exact h v H2 S2 r2
    | bk e => intro O2 σ2 H2 T2 I2; rw [← hb]; exact h O2 σ2 H2 (T.trans T2) I2
    | ct e => intro O2 σ2 H2 T2 I2; rw [← hc]; exact h O2 σ2 H2 (T.trans T2) I2
theorem s_seq {t u : TS} {F G : SF} (a : PuS K ns fr lf fl t F fl') (b : PuS K ns fr lf fl' u G fl'') : PuS K ns fr lf fl (tSeq t u) (seqS F G) fl'' := by
  intro L0 H0 O env σ H E I h
  refine a L0 H0 O env σ H _ I ?_
  unfold seqS at h
  cases e : F env with
  | none => rw [e] at h; exact h
  | some o =>
    rw [e] at h
    cases o with
    | nx e2 => exact fun O' σ' H' T I' => b L0 H0 O' e2 σ' H' E I' (Fin.mono T h rfl rfl rfl rfl)
    | rt d => exact h
    | bk e => exact h
    | ct e => exact h
theorem s_next : PuS K ns fr lf fl tNext nxS fl := fun L0 H0 O env σ H E I h => h O σ H .refl I
def gives : List Nat → List Bool → List Bool
  | [], fl => fl
  | i :: r, fl => gives r (fl.set i false)
theorem Iv.gives : ∀ (is : List Nat) {fl : List Bool} {O : List (Option Addr)}, Iv K ns fl L0 H0 O env σ H → ∃ O', Step O H O' H ∧ Iv K ns (gives is fl) L0 H0 O' env σ H
  | [], _, O, I => ⟨O, .refl, I⟩
  | i :: r, _, O, I => by
    obtain ⟨O', T, I'⟩ := Iv.gives r (I.give i)
    exact ⟨O', (Step.give i).trans T, I'⟩
theorem s_pre (is : List Nat) {t : TS} {F : SF} (a : PuS K ns fr lf (gives is fl) t F fl') : PuS K ns fr lf fl t F fl' := by
  intro L0 H0 O env σ H E I h
  obtain ⟨O2, T2, I2⟩ := I.gives is
  exact a L0 H0 O2 env σ H E I2 (Fin.mono T2 h rfl rfl rfl rfl)
theorem s_ret {t : TE} {f : VF} (h : PuE K ns t f) : PuS K ns false lf fl (tRet t) (retS f) fl' := by
  intro L0 H0 O env σ H E I k
  unfold retS at k
  cases e : f env with
  | none => rw [e] at k; exact k.elim
  | some d =>
    rw [e] at k
    exact h _ env σ H _ d I.weak e fun v H' S r => k v H' (I.sm.trans S) (r.mono (fun _ q => nw2 I.sm q) .refl)
def retO (i : Nat) : SF := fun env => (ownAt i env).bind fun xs => some (.rt (.lst xs))
theorem s_retO (i : Nat) (hi : fl[i]? = some true) : PuS K ns true lf fl (tRet (tVar i)) (retO i) fl' := by
  intro L0 H0 O env σ H E I k
  obtain ⟨p, ho⟩ := I.owned hi
  obtain ⟨h0, hs, o, d, e, hp, r⟩ := I.ow i p ho
  unfold retO ownAt at k
  rw [e] at k
  rcases r.case with ⟨vs, ds, rfl, rfl, r⟩ | ⟨kvs, ds, rfl, rfl, r⟩ | ⟨kvs, ds, rfl, rfl, r⟩
  rotate_left
  · exact k.elim
  · exact k.elim
  exact ⟨_, hs, k _ H I.sm ⟨p, vs, ds, rfl, rfl, h0, hp, r.mono (fun a q => ⟨q.1, fun z => q.2 (z ▸ List.mem_of_getElem? ho)⟩) .refl⟩⟩
theorem s_if {c : TT} {t u : TS} {fc : BF} {F G : SF} (h : PuT K ns c fc) (a : PuS K ns fr lf fl t F fl') (b : PuS K ns fr lf fl u G fl') : PuS K ns fr lf fl (tIfS c t u) (ifS fc F G) fl' := by
  intro L0 H0 O env σ H E I k
  unfold ifS at k
  cases e : fc env with
  | none => rw [e] at k; exact k.elim
  | some x =>
    rw [e] at k
    refine h _ env σ H _ x I.weak e fun H' S => ?_
    cases x with
    | true =>
      rw [if_pos rfl]
      exact a _ _ _ _ _ _ _ (I.same S) (Fin.mono (.same S) k rfl rfl rfl rfl)
    | false =>
      rw [if_neg Bool.false_ne_true]
      exact b _ _ _ _ _ _ _ (I.same S) (Fin.mono (.same S) k rfl rfl rfl rfl)
theorem s_set (i : Nat) {t : TE} {f : VF} (h : PuE K ns t f) : PuS K ns fr lf fl (tAsg t (gName i)) (setS i (mk fl f)) (fl.set i false) := by
  intro L0 H0 O env σ H E I k
  unfold setS mk at k
  cases e : f (maskD fl env) with
  | none => rw [e] at k; exact k.elim
  | some d =>
    rw [e] at k
    refine h _ (maskD fl env) σ H _ d I.strict e fun v H' S r => ?_
    exact k _ _ H' ((Step.same S).trans (.give i)) ((I.same S).store (r.mono (fun _ q => I.nwm q) .refl))
theorem s_new (i : Nat) {t : TE} {f : VF} (h : PuF K ns t f) (hi : i < fl.length) : PuS K ns fr lf fl (tAsg t (gName i)) (setS i (mk fl f)) (fl.set i true) := by
  intro L0 H0 O env σ H E I k
  unfold setS mk at k
  cases e : f (maskD fl env) with
  | none => rw [e] at k; exact k.elim
  | some d =>
    rw [e] at k
    refine h _ (maskD fl env) σ H _ d I.strict e fun p vs ds H' ed S hp hl r => ?_
    subst ed
    exact k _ _ H' (.take S hp) (I.take S hp hl r (by rw [← I.fl, List.length_map] at hi; exact hi))
theorem own_of (I : Iv K ns fl L0 H0 O env σ H) {i : Nat} (hi : fl[i]? = some true) : ownAt i env = none ∨ ∃ p vs ds, O[i]? = some (some p) ∧ σ[i]? = some (some (.ref p)) ∧ ownAt i env = some ds ∧ H p = some (.lst vs) ∧ Rds K ns (Lm L0 H0 O) H vs ds := by
  obtain ⟨p, ho⟩ := I.owned hi
  obtain ⟨h0, hs, o, d, e, hp, r⟩ := I.ow i p ho
  rcases r.case with ⟨vs, ds, rfl, rfl, r⟩ | ⟨kvs, ds, rfl, rfl, r⟩ | ⟨kvs, ds, rfl, rfl, r⟩
  · exact .inr ⟨p, vs, ds, ho, hs, by unfold ownAt; rw [e]; rfl, hp, r⟩
  · exact .inl (by unfold ownAt; rw [e]; rfl)
  · exact .inl (by unfold ownAt; rw [e]; rfl)
theorem Fin.no {E : Ends} {A : Prop} {o : Option Out} (h : Fin K ns fr lf fl L0 H0 O H E o) (e : o = none) : A := by subst e; exact h.elim
theorem bind_no {α β : Type} {o : Option α} : (o.bind fun _ => (none : Option β)) = none := by cases o <;> rfl
theorem s_app (i : Nat) {t : TE} {f : VF} (h : PuE K ns t f) (hi : fl[i]? = some true) : PuS K ns fr lf fl (tDrop (tBM K "list" rAppend (tVar i) (tCons t tNil))) (appS i (mk fl f)) fl := by
  intro L0 H0 O env σ H E I k
  rcases own_of I hi with hn | ⟨p, vs, ds, ho, hs, hd, hp, r⟩
  · exact Fin.no k (by unfold appS; rw [hn]; exact bind_no)
  unfold appS mk at k
  cases e : f (maskD fl env) with
  | none => rw [e] at k; exact k.elim
  | some d =>
    rw [e] at k
    have k' : Fin K ns fr lf fl L0 H0 O H E ((ownAt i env).bind fun xs => if xs.length < 1000000 then some (.nx (env.set i (some (.lst (xs ++ [d]))))) else none) := k
    rw [hd] at k'
    have k2 : Fin K ns fr lf fl L0 H0 O H E (if ds.length < 1000000 then some (.nx (env.set i (some (.lst (ds ++ [d]))))) else none) := k'
    by_cases hl : ds.length < 1000000
    · rw [if_pos hl] at k2
      refine ⟨_, hs, .inl ⟨rfl, _, SqL.of hp⟩, h _ (maskD fl env) σ H _ d I.strict e fun v H' S rv => ⟨p, vs, v, rfl, rfl, S _ _ hp, by rw [r.len]; exact Nat.lt_trans hl (by decide), ?_⟩⟩
      have I' := I.same S
      exact k2 _ _ _ ((Step.same S).trans (.alter (List.mem_of_getElem? ho))) (I'.alter ho ((r.same S).append (.cons (rv.mono (fun _ q => I.nwm q) .refl) .nil)))
    · rw [if_neg hl] at k2
      exact k2.elim
theorem s_appW (i : Nat) {t : TE} {f : VF} (h : PuE K ns t f) (hi : fl[i]? = some true) : PuS K ns fr lf fl (tDrop (tBM K "list" rAppend (tVar i) (tCons t tNil))) (appW i f) fl := by
  intro L0 H0 O env σ H E I k
  rcases own_of I hi with hn | ⟨p, vs, ds, ho, hs, hd, hp, r⟩
  · exact Fin.no k (by unfold appW; rw [hn]; cases f env with | none => rfl | some d => exact ite_self none)
  unfold appW at k
  cases e : f env with
  | none => rw [e] at k; exact k.elim
  | some d =>
    rw [e] at k
    have k' : Fin K ns fr lf fl L0 H0 O H E (if d.flat = true then (ownAt i env).bind fun xs => if xs.length < 1000000 then some (.nx (env.set i (some (.lst (xs ++ [d]))))) else none else none) := k
    by_cases hfl : d.flat = true
    · rw [if_pos hfl, hd] at k'
      have k2 : Fin K ns fr lf fl L0 H0 O H E (if ds.length < 1000000 then some (.nx (env.set i (some (.lst (ds ++ [d]))))) else none) := k'
      by_cases hl : ds.length < 1000000
      · rw [if_pos hl] at k2
        refine ⟨_, hs, .inl ⟨rfl, _, SqL.of hp⟩, h _ env σ H _ d I.weak e fun v H' S rv => ⟨p, vs, v, rfl, rfl, S _ _ hp, by rw [r.len]; exact Nat.lt_trans hl (by decide), ?_⟩⟩
        have I' := I.same S
        exact k2 _ _ _ ((Step.same S).trans (.alter (List.mem_of_getElem? ho))) (I'.alter ho ((r.same S).append (.cons (rv.flat hfl) .nil)))
      · rw [if_neg hl] at k2
        exact k2.elim
    · rw [if_neg hfl] at k'
      exact k'.elim
theorem set_same {α : Type} : ∀ {l : List α} {i : Nat} {x : α}, l[i]? = some x → l.set i x = l
  | [], _, _, h => by simp at h
  | _ :: _, 0, _, h => by cases h; rfl
  | _ :: l, i + 1, _, h => congrArg _ (set_same (l := l) (i := i) h)
theorem g_name (i : Nat) (hi : fl[i]? = some false) : PuG K ns fl (gName i) (nmG i) := by
  intro L0 H0 O env e σ H x d Q I r hg k
  cases hg
  have ho := I.free hi
  have := I.store (i := i) r
  have e1 : fl.set i false = fl := set_same hi
  have e2 : O.set i none = O := set_same ho
  rw [e1, e2] at this
  exact k _ this
theorem s_for {wi : TI} {g : TG} {t : TS} {fi : AF} {G : GF} {b : SF} {lf0 : List Bool} (hi : PuI K ns wi fi) (hg : PuG K ns fl g G) (hb : PuS K ns fr fl fl t b fl) : PuS K ns fr lf0 fl (tFor wi g t) (forS (mk fl fi) G b) fl := by
  intro L0 H0 O env σ H E I k
  unfold forS mk at k
  cases e : fi (maskD fl env) with
  | none => rw [e] at k; exact k.elim
  | some ds =>
    rw [e] at k
    have k1 : Fin K ns fr lf0 fl L0 H0 O H E (forD G b ds env) := k
    refine hi _ (maskD fl env) σ H _ ds I.strict e fun J H1 S1 it => ?_
    refine ⟨fun i m σ2 H2 => m = ds.length - i ∧ i ≤ ds.length ∧ ∃ O2 e2, Step O H1 O2 H2 ∧ Iv K ns fl L0 H0 O2 e2 σ2 H2 ∧ Fin K ns fr lf0 fl L0 H0 O2 H2 E (forD G b (ds.drop i) e2), ⟨_, rfl, Nat.zero_le _, O, env, .refl, I.same S1, by rw [List.drop_zero]; exact Fin.mono (.same S1) k1 rfl rfl rfl rfl⟩, ?_⟩
    rintro i m σ2 H2 ⟨rfl, hle, O2, e2, T2, I2, k2⟩
    have lm : ∀ a o, H1 a = some o → Nw (Lm L0 H0 O) H a → Lm L0 H0 O2 a ∧ some a ∉ O := fun a o ea hl => by
      have := I.nwm hl
      refine ⟨⟨this.1, fun q => ?_⟩, this.2⟩
      rcases T2.ow a q with q | q
      · exact this.2 q
      · rw [ea] at q; cases q
    have kp : KeepL (fun a => Lm L0 H0 O2 a ∧ some a ∉ O) H1 H2 := fun a o ea hm => by
      refine T2.kp a o ea fun hq => ?_
      obtain ⟨vs, hv, hmu⟩ := (I.same S1).own_in hq
      rw [ea] at hv
      cases hv
      exact (hm hmu).2 hq
    obtain ⟨go, stop⟩ := it (fun a => Lm L0 H0 O2 a ∧ some a ∉ O) i H2 lm kp
    by_cases hlt : i < ds.length
    · obtain ⟨gg, yl⟩ := go ds[i] (List.getElem?_eq_getElem hlt)
      rw [List.drop_eq_getElem_cons hlt, forD] at k2
      refine .inr ⟨gg, fun σ' H' => ∃ m', m' < ds.length - i ∧ m' = ds.length - (i + 1) ∧ i + 1 ≤ ds.length ∧ ∃ O2 e2, Step O H1 O2 H' ∧ Iv K ns fl L0 H0 O2 e2 σ' H' ∧ Fin K ns fr lf0 fl L0 H0 O2 H' E (forD G b (ds.drop (i + 1)) e2), fun σ' H' h => h, fun x H3 y => ?_⟩
      obtain ⟨S3, rx⟩ := yl x H3 y
      have I3 := I2.same S3
      cases eg : G ds[i] e2 with
      | none => rw [eg] at k2; exact k2.elim
      | some e3 =>
        rw [eg] at k2
        refine hg L0 H0 O2 e2 e3 σ2 H3 x ds[i] _ I3 (rx.mono (fun _ q => q.elim (fun z => z.1) I2.new_m) .refl) eg fun σ3 I4 => ?_
        refine hb L0 H0 O2 e3 σ3 H3 _ I4 ?_
        have T3 : Step O2 H2 O2 H3 := .same S3
        have k3 : Fin K ns fr lf0 fl L0 H0 O2 H2 E ((b e3).bind fun
          | .nx e => forD G b (ds.drop (i + 1)) e
          | .ct e => forD G b (ds.drop (i + 1)) e
          | .bk e => some (.nx e)
          | .rt d => some (.rt d)) := k2
        cases ebd : b e3 with
        | none => rw [ebd] at k3; exact k3.elim
        | some o =>
          rw [ebd] at k3
          cases o with
          | nx e4 => exact fun O5 σ5 H5 T5 I5 => ⟨ds.length - (i + 1), by omega, rfl, hlt, O5, e4, T2.trans (T3.trans T5), I5, Fin.mono (T3.trans T5) k3 rfl rfl rfl rfl⟩
          | ct e4 => exact fun O5 σ5 H5 T5 I5 => ⟨ds.length - (i + 1), by omega, rfl, hlt, O5, e4, T2.trans (T3.trans T5), I5, Fin.mono (T3.trans T5) k3 rfl rfl rfl rfl⟩
          | bk e4 => exact fun O5 σ5 H5 T5 I5 => k3 O5 σ5 H5 (T3.trans T5) I5
          | rt d => exact k3
    · have hi' : ds.length = i := by omega
      refine .inl ⟨stop hi', ?_⟩
      rw [List.drop_of_length_le (by omega)] at k2
      exact k2 O2 σ2 H2 .refl I2
end
end PD
namespace PD
open PySem L2
section
variable {K : PySem.W.Frag} {ns : List Str} {fr : Bool} {lf fl fl' fl'' : List Bool} {L0 : Addr → Prop} {H0 H H' H'' : Hp} {O O' O'' : List (Option Addr)} {env : Env} {σ : St}
def PuGs (K : PySem.W.Frag) (ns : List Str) (fl : List Bool) (g : TGs) (is : List Nat) : Prop := ∀ (L0 : Addr → Prop) (H0 : Hp) (O : List (Option Addr)) (env e : Env) (σ : St) (H : Hp) (xs : List V) (ds : List D) (Q : St → Hp → Prop), Iv K ns fl L0 H0 O env σ H → Rds K ns (Lm L0 H0 O) H xs ds → setsG is ds env = some e → (∀ σ', Iv K ns fl L0 H0 O e σ' H → Q σ' H) → g xs σ H Q
theorem gs_nil : PuGs K ns fl gNil [] := by
  intro L0 H0 O env e σ H xs ds Q I r hg k
  cases r with
  | nil => cases hg; exact ⟨rfl, k _ I⟩
  | cons h t => cases hg
theorem gs_cons {i : Nat} {is : List Nat} {g : TGs} (hi : fl[i]? = some false) (h : PuGs K ns fl g is) : PuGs K ns fl (gCons (gName i) g) (i :: is) := by
  intro L0 H0 O env e σ H xs ds Q I r hg k
  cases r with
  | nil => cases hg
  | cons rv rt =>
    refine ⟨_, _, rfl, ?_⟩
    exact g_name i hi L0 H0 O env _ σ H _ _ _ I rv rfl fun σ' I' => h L0 H0 O _ e σ' H _ _ Q I' rt hg k
theorem setsG_len : ∀ {is : List Nat} {ds : List D} {env e : Env}, setsG is ds env = some e → ds.length = is.length
  | [], [], _, _, _ => rfl
  | _ :: is, _ :: ds, _, _, h => congrArg Nat.succ (setsG_len (is := is) (ds := ds) h)
  | [], _ :: _, _, _, h => by cases h
  | _ :: _, [], _, _, h => by cases h
theorem g_tup {n : Nat} {is : List Nat} {g : TGs} (h : PuGs K ns fl g is) (hn : is.length = n := by rfl) : PuG K ns fl (gTup K n g) (tupG is) := by
  intro L0 H0 O env e σ H x d Q I r hg k
  cases r <;> first | (cases hg; done) | skip
  · rename_i e1 r
    exact ⟨_, _, rfl, SqT.of e1, by rw [r.len, setsG_len hg, hn], h L0 H0 O env e σ H _ _ Q I r hg k⟩
  · rename_i e1 r
    exact ⟨_, _, rfl, SqT.kt e1, by rw [r.len, setsG_len hg, hn], h L0 H0 O env e σ H _ _ Q I r hg k⟩
theorem s_put (i : Nat) {tj t : TE} {j f : VF} (hj : PuE K ns tj j) (h : PuE K ns t f) (hi : fl[i]? = some true) : PuS K ns fr lf fl (tAsg t (gSub (tVar i) tj rSetL)) (putS i f j) fl := by
  intro L0 H0 O env σ H E I k
  rcases own_of I hi with hn | ⟨p, vs, ds, ho, hs, hd, hp, r⟩
  · exact Fin.no k (by unfold putS; rw [hn]; cases f env with | none => rfl | some d => exact (by cases j env with | none => rfl | some e => exact ite_self none))
  unfold putS at k
  cases e : f env with
  | none => rw [e] at k; exact k.elim
  | some d =>
    cases ej : j env with
    | none => rw [e, ej] at k; exact k.elim
    | some dj =>
      rw [e, ej] at k
      have k' : Fin K ns fr lf fl L0 H0 O H E (if d.flat = true then (ownAt i env).bind fun xs => (putL xs d dj).bind fun ys => some (.nx (env.set i (some (.lst ys)))) else none) := k
      by_cases hfl : d.flat = true
      · rw [if_pos hfl, hd] at k'
        have k2 : Fin K ns fr lf fl L0 H0 O H E ((putL ds d dj).bind fun ys => some (.nx (env.set i (some (.lst ys))))) := k'
        cases en : putL ds d dj with
        | none => rw [en] at k2; exact k2.elim
        | some ys =>
          rw [en] at k2
          refine h _ env σ H _ d I.weak e fun v H1 S1 rv => ⟨_, hs, hj _ env σ H1 _ _ (I.weak.nw S1) ej fun u H2 S2 ru => ?_⟩
          cases ru <;> first | (cases en; done) | skip
          obtain ⟨n, hn, rfl⟩ := Option.map_eq_some_iff.mp en
          have S := S1.trans S2
          refine ⟨p, vs, _, n, rfl, rfl, S _ _ hp, by rw [r.len]; exact hn, ?_⟩
          exact k2 _ _ _ ((Step.same S).trans (.alter (List.mem_of_getElem? ho))) ((I.same S).alter ho ((r.same S).set ((rv.flat hfl).same S2) n))
      · rw [if_neg hfl] at k'
        exact k'.elim
end
theorem ex_of {α : Type} (a : α) : ∃ x, x = a := ⟨a, rfl⟩
noncomputable def sealed {α : Type} (a : α) : α := Classical.choose (ex_of a)
theorem seal_eq {α : Type} (a : α) : sealed a = a := Classical.choose_spec (ex_of a)
def startD (n : Nat) (ds : List D) : Env := ds.map some ++ List.replicate (n - ds.length) none
def runD (n : Nat) (b : SF) (ds : List D) : Option D := (b (startD n ds)).bind fun
  | .rt d => some d
  | .nx _ => some .non
  | _ => none
def runF (n : Nat) (b : SF) (ds : List D) : Option D := (b (startD n ds)).bind fun
  | .rt d => some d
  | _ => none
def spP (K : PySem.W.Frag) (ns : List Str) (fr : Bool) (n : Nat) (F : List D → Option D) : Sp := fun vs H Q _ => ∃ (L : Addr → Prop) (ds : List D) (d : D), ds.length = n ∧ Rds K ns L H vs ds ∧ F ds = some d ∧ ∀ v H', Same H H' → Res K ns fr L H H' v d → Q v H'
section
variable {K : PySem.W.Frag} {ns : List Str} {fr : Bool} {fl' : List Bool}
theorem spP_len {n : Nat} {F : List D → Option D} {vs : List V} {H : Hp} {Q : VK} {E : XK} (h : spP K ns fr n F vs H Q E) : vs.length = n := by
  obtain ⟨L, ds, d, hl, r, _⟩ := h
  rw [r.len, hl]
theorem start_iv {L : Addr → Prop} {H : Hp} {vs : List V} {ds : List D} {n : Nat} {N : List Str} (r : Rds K ns L H vs ds) (hN : N.length = n) (hn : ds.length ≤ n) : Iv K ns (List.replicate n false) L H (List.replicate n none) (startD n ds) (start N vs) H := by
  have nm : ∀ a : Addr, some a ∉ List.replicate n (none : Option Addr) := fun a h => by
    have := List.eq_of_mem_replicate h
    cases this
  refine ⟨Same.refl _, by simp, by unfold L2.start; simp [r.len]; omega, by unfold startD; simp; omega, fun i d e _ => ?_, fun i p h => ?_, fun i j p h => ?_⟩
  · unfold startD at e
    have hi : i < ds.length := by
      by_cases hi : i < ds.length
      · exact hi
      · rw [List.getElem?_append_right (by simp; omega)] at e
        have := List.eq_of_mem_replicate (List.mem_of_getElem? e)
        cases this
    rw [List.getElem?_append_left (by simpa using hi), List.getElem?_map] at e
    obtain ⟨d', hd, e⟩ := Option.map_eq_some_iff.mp e
    cases e
    obtain ⟨v, hv, rv⟩ := r.get hd
    refine ⟨v, ?_, rv.mono (fun a q => ⟨.inl q, nm a⟩) .refl⟩
    unfold L2.start
    rw [List.getElem?_append_left (by simp [r.len]; exact hi), List.getElem?_map, hv]
    rfl
  · exact absurd (List.mem_of_getElem? h) (nm p)
  · exact absurd (List.mem_of_getElem? h) (nm p)
theorem run_ok {t : TS} {b : SF} {n m : Nat} {N : List Str} {vs : List V} {H : Hp} {Q : VK} {E : XK} (h : PuS K ns false [] (List.replicate n false) t b fl') (hN : N.length = n) (hm : m ≤ n) (s : spP K ns false m (runD n b) vs H Q E) : t { nx := fun _ H' => Q .non H', rt := Q } (start N vs) H := by
  obtain ⟨L, ds, d, hl, r, hf, k⟩ := s
  refine h L H _ _ _ _ _ (start_iv r hN (by omega)) ?_
  unfold runD at hf
  cases e : b (startD n ds) with
  | none => rw [e] at hf; cases hf
  | some o =>
    rw [e] at hf
    cases o with
    | nx e2 => cases hf; exact fun O' σ' H' _ I' => k _ _ I'.sm .non
    | rt d2 => cases hf; exact k
    | bk e2 => cases hf
    | ct e2 => cases hf
theorem run_okF {t : TS} {b : SF} {n m : Nat} {N : List Str} {vs : List V} {H : Hp} {Q : VK} {E : XK} (h : PuS K ns true [] (List.replicate n false) t b fl') (hN : N.length = n) (hm : m ≤ n) (s : spP K ns true m (runF n b) vs H Q E) : t { nx := fun _ H' => Q .non H', rt := Q } (start N vs) H := by
  obtain ⟨L, ds, d, hl, r, hf, k⟩ := s
  refine h L H _ _ _ _ _ (start_iv r hN (by omega)) ?_
  unfold runF at hf
  cases e : b (startD n ds) with
  | none => rw [e] at hf; cases hf
  | some o =>
    rw [e] at hf
    cases o with
    | rt d2 => cases hf; exact k
    | nx e2 => cases hf
    | bk e2 => cases hf
    | ct e2 => cases hf
theorem pu_fn {n : Nat} {F : List D → Option D} {t : TA} {f : AF} {E : XK} (h : PuA K ns n t f) : PuE K ns (tCall (spP K ns false n F) [] E t) (callD F f) := by
  intro L env σ H Q d he hf k
  obtain ⟨a, ea, hf⟩ := bnd hf
  refine h L env σ H _ a he ea fun xs H1 hl S1 rx => ⟨Nw L H, a, d, hl, by rw [List.append_nil]; exact rx, hf, fun v H2 S2 r => k v H2 (S1.trans S2) (Rd.mono (fun _ q => nw2 S1 q) .refl (show Rd K ns (Nw (Nw L H) H1) H2 v d from r))⟩
theorem pu_fnF {n : Nat} {F : List D → Option D} {t : TA} {f : AF} {E : XK} (h : PuA K ns n t f) : PuF K ns (tCall (spP K ns true n F) [] E t) (callD F f) := by
  intro L env σ H Q d he hf k
  obtain ⟨a, ea, hf⟩ := bnd hf
  refine h L env σ H _ a he ea fun xs H1 hl S1 rx => ⟨Nw L H, a, d, hl, by rw [List.append_nil]; exact rx, hf, fun v H2 S2 r => ?_⟩
  obtain ⟨p, us, ds, rfl, ed, hp, hl2, rr⟩ := (show ∃ p us ds, v = .ref p ∧ d = .lst ds ∧ H1 p = none ∧ H2 p = some (.lst us) ∧ Rds K ns (fun a => Nw (Nw L H) H1 a ∧ a ≠ p) H2 us ds from r)
  exact k p us ds H2 ed (S1.trans S2) (back S1 hp) hl2 (rr.mono (fun _ q => ⟨nw2 S1 q.1, q.2⟩) .refl)
theorem law_sp {F : List D → Option D} {vs : List V} {H : Hp} {Q : VK} {E : XK} {a : Addr} {xs : List Int} (e : vs = [.ref a]) (hs : SqL K H a (xs.map V.int)) (hF : ∀ d, (d = .lst (xs.map D.int) ∨ d = .fz (xs.map D.int)) → F [d] = some (.bl true)) (k : ∀ H', Q (.bl true) H') : spP K ns false 1 F vs H Q E := by
  have rd : Rds K ns (fun _ => True) H (xs.map V.int) (xs.map D.int) := by
    clear hs hF
    induction xs with
    | nil => exact .nil
    | cons x r ih => exact .cons (.int x) ih
  subst e
  have fin : ∀ v H', Same H H' → Res K ns false (fun _ => True) H H' v (.bl true) → Q v H' := fun v H' S r => by
    have r' : Rd K ns (Nw (fun _ => True) H) H' v (.bl true) := r
    cases r'
    exact k H'
  rcases hs with (h | h) | h
  · exact ⟨fun _ => True, [.lst (xs.map D.int)], _, rfl, .cons (.lst trivial h rd) .nil, hF _ (.inl rfl), fin⟩
  · exact ⟨fun _ => True, [.fz (xs.map D.int)], _, rfl, .cons (.fz (.inl h) rd) .nil, hF _ (.inr rfl), fin⟩
  · exact ⟨fun _ => True, [.fz (xs.map D.int)], _, rfl, .cons (.fz (.inr h) rd) .nil, hF _ (.inr rfl), fin⟩
end
end PD
namespace PD
open PySem L2
theorem kit_tt {K : PySem.W.Frag} {A B : String} {b : Bool} (hn : (Value.type A == Value.type B) = false := by decide +kernel) (h1 : PySem.W.kitMeta B = true := by decide +kernel) (h2 : ((fastBuiltinMro A).map (·.contains (Value.type B))) = some b := by decide +kernel) : PySem.W.kitOne K (.type A) (.type B) = some b := by
  show (if (Value.type A == Value.type B) = true then some true else if PySem.W.kitMeta B = true then PySem.W.subIn K (.type A) (.type B) else none) = some b
  rw [hn, if_neg Bool.false_ne_true, if_pos h1]
  exact h2
section
variable {K : PySem.W.Frag} {ns : List Str}
def okT (T : String) : Bool := T == "int" || T == "bool" || T == "str" || T == "list" || T == "tuple"
theorem kit_int {d : D} (h1 : ∀ xs, d ≠ .kt xs) (h3 : ∀ c fs, d ≠ .ob c fs) : PySem.W.kitOne K (.type d.ty) (.type "int") = some (kits d.ty "int") := by
  cases d <;> first | exact absurd rfl (h1 _) | exact absurd rfl (h3 _ _) | rfl | exact kit_tt
theorem kit_bool {d : D} (h1 : ∀ xs, d ≠ .kt xs) (h3 : ∀ c fs, d ≠ .ob c fs) : PySem.W.kitOne K (.type d.ty) (.type "bool") = some (kits d.ty "bool") := by
  cases d <;> first | exact absurd rfl (h1 _) | exact absurd rfl (h3 _ _) | rfl | exact kit_tt
theorem kit_str {d : D} (h1 : ∀ xs, d ≠ .kt xs) (h3 : ∀ c fs, d ≠ .ob c fs) : PySem.W.kitOne K (.type d.ty) (.type "str") = some (kits d.ty "str") := by
  cases d <;> first | exact absurd rfl (h1 _) | exact absurd rfl (h3 _ _) | rfl | exact kit_tt
theorem kit_list {d : D} (h1 : ∀ xs, d ≠ .kt xs) (h3 : ∀ c fs, d ≠ .ob c fs) : PySem.W.kitOne K (.type d.ty) (.type "list") = some (kits d.ty "list") := by
  cases d <;> first | exact absurd rfl (h1 _) | exact absurd rfl (h3 _ _) | rfl | exact kit_tt
theorem kit_tuple {d : D} (h1 : ∀ xs, d ≠ .kt xs) (h3 : ∀ c fs, d ≠ .ob c fs) : PySem.W.kitOne K (.type d.ty) (.type "tuple") = some (kits d.ty "tuple") := by
  cases d <;> first | exact absurd rfl (h1 _) | exact absurd rfl (h3 _ _) | rfl | exact kit_tt
theorem kit_T {T : String} (h : okT T = true) {d : D} (h1 : ∀ xs, d ≠ .kt xs) (h3 : ∀ c fs, d ≠ .ob c fs) : PySem.W.kitOne K (.type d.ty) (.type T) = some (kits d.ty T) := by
  unfold okT at h
  simp only [Bool.or_eq_true, beq_iff_eq] at h
  rcases h with (((h | h) | h) | h) | h <;> subst h
  · exact kit_int h1 h3
  · exact kit_bool h1 h3
  · exact kit_str h1 h3
  · exact kit_list h1 h3
  · exact kit_tuple h1 h3
theorem not_T {T : String} (h : okT T = true) {C : Addr} {ms fs : List Str} (p : PKd K ns C ms fs) : PySem.W.kitOne K (.ref C) (.type T) = some false := by
  unfold okT at h
  simp only [Bool.or_eq_true, beq_iff_eq] at h
  rcases h with (((h | h) | h) | h) | h <;> subst h <;> exact p.notT _
theorem pu_isT {t : TE} {f : VF} (T : String) (hT : okT T = true) (h : PuE K ns t f) : PuE K ns (tCB (rIsT K) (tCons t (tCons (tC (.ty T)) tNil))) (callD (isT T) (aCons f aNil)) := by
  intro L env σ H Q d he hf k
  obtain ⟨as, eas, hf⟩ := bnd hf
  obtain ⟨a, ea, e2⟩ := bnd eas
  cases e2
  clear eas
  refine h L env σ H _ a he ea fun x H1 S1 r => ?_
  cases r with
  | @ob a dx gs c fs l e kk r =>
    cases hf
    have e0 : kits (D.ob c fs).ty T = false := by
      unfold okT at hT
      simp only [Bool.or_eq_true, beq_iff_eq] at hT
      show kits "object" T = false
      rcases hT with (((h | h) | h) | h) | h <;> subst h <;> decide
    rw [e0] at k
    exact ⟨_, _, _, _, rfl, PKd.ty kk e, not_T hT kk, k _ _ S1 (.bl _)⟩
  | kt e r => cases hf
  | fz e r => cases hf
  | dk l e r => cases hf
  | dt l e r => cases hf
  | non => cases hf; exact ⟨_, _, _, _, rfl, .non, kit_T hT (d := .non) (fun _ z => by cases z) (fun _ _ z => by cases z), k _ _ S1 (.bl _)⟩
  | bl b => cases hf; exact ⟨_, _, _, _, rfl, .bl b, kit_T hT (d := .bl b) (fun _ z => by cases z) (fun _ _ z => by cases z), k _ _ S1 (.bl _)⟩
  | int b => cases hf; exact ⟨_, _, _, _, rfl, .int b, kit_T hT (d := .int b) (fun _ z => by cases z) (fun _ _ z => by cases z), k _ _ S1 (.bl _)⟩
  | str b => cases hf; exact ⟨_, _, _, _, rfl, .str b, kit_T hT (d := .str b) (fun _ z => by cases z) (fun _ _ z => by cases z), k _ _ S1 (.bl _)⟩
  | @tup a vs ds e r => cases hf; exact ⟨_, _, _, _, rfl, .tup e, kit_T hT (d := .tup ds) (fun _ z => by cases z) (fun _ _ z => by cases z), k _ _ S1 (.bl _)⟩
  | @lst a vs ds l e r => cases hf; exact ⟨_, _, _, _, rfl, .lst e, kit_T hT (d := .lst ds) (fun _ z => by cases z) (fun _ _ z => by cases z), k _ _ S1 (.bl _)⟩
def Cl.un (x : Str) : Option Cl := if x = "Open" then some .Open else if x = "Bridge" then some .Bridge else if x = "Road" then some .Road else if x = "Cart" then some .Cart else if x = "Trip" then some .Trip else if x = "Day" then some .Day else none
theorem Cl.un_s (c : Cl) : Cl.un c.s = some c := by cases c <;> decide
theorem Cl.inj {c d : Cl} (h : c.s = d.s) : c = d := Option.some.inj (by rw [← Cl.un_s c, ← Cl.un_s d, h])
def Fl.un (x : Str) : Option Fl := ([.length, .name, .bears, .wide, .most, .pieces, .rounds, .shuts, .speed, .wheels, .cart, .way, .start, .crossings, .ended, .road, .loads, .sends] : List Fl).find? fun f => decide (f.s = x)
theorem Fl.un_s (f : Fl) : Fl.un f.s = some f := by cases f <;> decide
theorem Fl.inj {c d : Fl} (h : c.s = d.s) : c = d := Option.some.inj (by rw [← Fl.un_s c, ← Fl.un_s d, h])
end
end PD
namespace PD
open PySem L2
section
variable {K : PySem.W.Frag} {ns : List Str}
theorem oS {t : TE} {g : D → D → Option D} {a b : VF} (h : PuE K ns t (oD g a b)) : PuE K ns t (oD (sealed g) a b) := by rw [seal_eq]; exact h
theorem uS {t : TE} {g : D → Option D} {a : VF} (h : PuE K ns t (uD g a)) : PuE K ns t (uD (sealed g) a) := by rw [seal_eq]; exact h
theorem cS {t : TE} {g : List D → Option D} {a : AF} (h : PuE K ns t (callD g a)) : PuE K ns t (callD (sealed g) a) := by rw [seal_eq]; exact h
theorem cSF {t : TE} {g : List D → Option D} {a : AF} (h : PuF K ns t (callD g a)) : PuF K ns t (callD (sealed g) a) := by rw [seal_eq]; exact h
theorem slS {t : TE} {g : D → Option Int → Option Int → Option D} {a : VF} {b c : OF} (h : PuE K ns t (slD g a b c)) : PuE K ns t (slD (sealed g) a b c) := by rw [seal_eq]; exact h
theorem iS {t : TI} {g : List D → Option (List D)} {a : AF} (h : PuI K ns t (iaD g a)) : PuI K ns t (iaD (sealed g) a) := by rw [seal_eq]; exact h
end
end PD
namespace L2
open PySem PySem.Spec PyProof.Rows
section
variable {X : Cx}
theorem pe_goI {P w K mg base k x ps sp n e es t p pos} (g : Got P w K mg base k x ps sp) (e1 : X.prog = P) (e2 : X.w = w) (e3 : X.K = K) (e4 : X.mg = mg) (e5 : X.base = base) (hr : Room n X.A) (hk : k ≤ n) (hg : Gl X x) (ha : PA X (e :: es) t) (hdb : (x == ("__debug__" : Str)) = false := by decide)
    (he : starEach (e :: es) X.env = (false, eval e X.env) :: starEach es X.env := by rfl) (hpl : (backTo pos (starEach es X.env)).any (·.1) = false := by rfl) :
    PE X (.Call (.Name x p) (e :: es) [] pos) (tCall sp [] E0 t) := by
  subst e1 e2 e3 e4 e5
  exact pe_go g hr hk hg ha hdb he hpl
end
end L2
namespace PD
open PySem L2
section
variable {K : PySem.W.Frag} {ns : List Str} {L : Addr → Prop} {H : Hp}
end
end PD
namespace PD
open PySem L2
section
variable {K : PySem.W.Frag} {ns : List Str}
theorem R2P.s {r : R2} {g : D → D → Option D} (h : R2P K ns r g) : R2P K ns r (sealed g) := by rw [seal_eq]; exact h
end
end PD
namespace L2
open PySem PySem.Spec PyProof.Rows
theorem mxd_args (a v : Value) : argsOk "max" ⟨[a], [(Str.ofString "default", v)]⟩ := by delta argsOk; kernel_rfl
theorem mxd_word : (toString "max" ++ toString ".loop" : String) = "max.loop" := by decide
section
variable {prog : Program} {w : World} {A : Around} {R : Result → Shared → Prop} {J : Addr} {fp wr : List Addr} {G : Array GenState → Array GenState → Prop} {n : Nat} {P : Nat → Value → Prop} {St : Nat → Shared → Prop}
abbrev boxO (its : Array Value) (c : Nat) : Obj := { cls := .type "list", dict := none, data := .seq its c, slots := #[] }
theorem mxd_loop {dv : Value} (W : WalksS prog w A.in1 J fp wr G n P St) (bt : Nat → Nat → Bool) (cm : CmpOf prog w A.in1 .Gt P bt) (B : Addr) (nB : B ∉ fp) : ∀ (k j : Nat) (s : Shared) (vb : Value) (c : Nat), n - (j + 1) = k → j + 1 ≤ n → St (j + 1) s → P (argBest bt j) vb → s.heap.get? B = some (boxO #[vb, vb] c) →
    (∀ v s', P (argBest bt (n - 1)) v → Moved (B :: wr) G s s' → R (.ok (.ret v)) s') → codeAny (model prog w) A (.builtin "max.loop" ⟨[.ref J, .none, .ref B], [(Str.ofString "default", dv)]⟩) R s := by
  have nW : B ∉ wr := fun q => nB (W.sub _ q)
  have up : ∀ b ∈ wr, b ∈ B :: wr := fun b q => List.mem_cons_of_mem _ q
  have nE : ∀ {b : Addr}, b ∉ B :: wr → B ≠ b := fun q z => q (by rw [z]; exact List.mem_cons_self)
  intro k
  induction k with
  | zero =>
    intro j s vb c hk hj st pb eB q
    have ej : j + 1 = n := by omega
    refine codeAny_builtin F.entry_max_loop ?_
    rw [Around.under_plainId F.plain_max_loop _]
    show wpAny (model prog w) A.in1 (seqItems? (.ref B) >>= _) _ _ s
    refine wpAny_bind (wpAny_seqItems eB rfl ?_)
    show wpAny (model prog w) A.in1 (tryCatch (pyNext (.ref J)) _ >>= _) _ _ s
    refine wpAny_bind (wpAny_tryCatch (W.done s _ _ (ej ▸ st) fun s1 m => ?_))
    have eB1 := m.heap B _ nW eB
    show wpAny (model prog w) A.in1 (updateSeq B (fun _ => #[]) >>= _) _ _ _
    refine wpAny_bind (wpAny_updateSeq eB1 rfl (wpAny_bind (wpAny_letGo (wpAny_pure ?_))))
    exact q vb _ (by rw [← ej]; exact pb) ((m.mono up).then_heap (tk := s1.toks) (Nat.le_refl _) fun b o hb e => (Heap.get?_update_other _ _ (nE hb)).trans e)
  | succ k ih =>
    intro j s vb c hk hj st pb eB q
    have lt : j + 1 < n := by omega
    refine codeAny_builtin F.entry_max_loop ?_
    rw [Around.under_plainId F.plain_max_loop _]
    show wpAny (model prog w) A.in1 (seqItems? (.ref B) >>= _) _ _ s
    refine wpAny_bind (wpAny_seqItems eB rfl ?_)
    show wpAny (model prog w) A.in1 (tryCatch (pyNext (.ref J)) _ >>= _) _ _ s
    refine wpAny_bind (wpAny_tryCatch (W.item (j + 1) s _ _ lt st fun v s1 pv st1 m => ?_))
    have eB1 := m.heap B _ nW eB
    show wpAny (model prog w) A.in1 (tryCatch (holding [v, v] (richCompare .Gt v vb >>= _)) _ >>= _) _ _ _
    refine wpAny_bind (wpAny_tryCatch (wpAny_holding (wpAny_bind (cm (j + 1) (argBest bt j) v vb _ _ _ pv pb (wpAny_bind (wpAny_holding (wpAny_truthy_bool (wpAny_bind (wpAny_letGo (wpAny_pure ?_))))))))))
    cases hb : bt (j + 1) (argBest bt j) with
    | true =>
      simp only [if_true]
      refine wpAny_bind (wpAny_updateSeq eB1 rfl (wpAny_bind (wpAny_letGo ?_)))
      rw [mxd_word]
      refine wpAny_pure ⟨plainId_quiet F.plain_max_loop _, ih (j + 1) _ v _ (by omega) lt (W.frame _ s1 _ s1.toks st1 (Nat.le_refl _) fun b hf o e => ?_) (by simp only [argBest, hb, if_true]; exact pv) (Heap.get?_update_self _ eB1 rfl) fun v2 s2 p2 m2 => ?_⟩
      · exact (Heap.get?_update_other _ _ (fun z : B = b => nB (by rw [z]; exact hf))).trans e
      · exact q v2 s2 p2 (Moved.trans W.gtrans ((m.mono up).then_heap (Nat.le_refl _) fun b o hb e => (Heap.get?_update_other _ _ (nE hb)).trans e) m2)
    | false =>
      simp only [if_false, Bool.false_eq_true]
      refine wpAny_bind (wpAny_letGo ?_)
      rw [mxd_word]
      exact wpAny_pure ⟨plainId_quiet F.plain_max_loop _, ih (j + 1) _ vb c (by omega) lt st1 (by simp only [argBest, hb, if_false, Bool.false_eq_true]; exact pb) eB1 fun v2 s2 p2 m2 => q v2 s2 p2 (Moved.trans W.gtrans (m.mono up) m2)⟩
theorem mxd_first {dv : Value} (W : WalksS prog w A.in1 J fp wr G n P St) (bt : Nat → Nat → Bool) (cm : CmpOf prog w A.in1 .Gt P bt) (B : Addr) (nB : B ∉ fp) (hn : 0 < n) {s : Shared} {c : Nat} (st : St 0 s) (eB : s.heap.get? B = some (boxO #[] c))
    (q : ∀ v s', P (argBest bt (n - 1)) v → Moved (B :: wr) G s s' → R (.ok (.ret v)) s') : codeAny (model prog w) A (.builtin "max.loop" ⟨[.ref J, .none, .ref B], [(Str.ofString "default", dv)]⟩) R s := by
  have nW : B ∉ wr := fun q => nB (W.sub _ q)
  have up : ∀ b ∈ wr, b ∈ B :: wr := fun b q => List.mem_cons_of_mem _ q
  have nE : ∀ {b : Addr}, b ∉ B :: wr → B ≠ b := fun q z => q (by rw [z]; exact List.mem_cons_self)
  refine codeAny_builtin F.entry_max_loop ?_
  rw [Around.under_plainId F.plain_max_loop _]
  show wpAny (model prog w) A.in1 (seqItems? (.ref B) >>= _) _ _ s
  refine wpAny_bind (wpAny_seqItems eB rfl ?_)
  show wpAny (model prog w) A.in1 (tryCatch (pyNext (.ref J)) _ >>= _) _ _ s
  refine wpAny_bind (wpAny_tryCatch (W.item 0 s _ _ hn st fun v s1 pv st1 m => ?_))
  have eB1 := m.heap B _ nW eB
  show wpAny (model prog w) A.in1 (updateSeq B (fun _ => #[v, v]) >>= _) _ _ _
  refine wpAny_bind (wpAny_updateSeq eB1 rfl ?_)
  rw [mxd_word]
  refine wpAny_pure ⟨plainId_quiet F.plain_max_loop _, mxd_loop W bt cm B nB _ 0 _ v _ rfl hn (W.frame _ s1 _ s1.toks st1 (Nat.le_refl _) fun b hf o e => ?_) pv (Heap.get?_update_self _ eB1 rfl) fun v2 s2 p2 m2 => ?_⟩
  · exact (Heap.get?_update_other _ _ (fun z : B = b => nB (by rw [z]; exact hf))).trans e
  · exact q v2 s2 p2 (Moved.trans W.gtrans ((m.mono up).then_heap (Nat.le_refl _) fun b o hb e => (Heap.get?_update_other _ _ (nE hb)).trans e) m2)
end
def mxL : Int → List Int → Int
  | b, [] => b
  | b, x :: r => mxL (if x > b then x else b) r
section
variable {prog : Program} {w : World} {A : Around} {E : Value → Shared → Prop} {s : Shared}
theorem argBest_val (val : Nat → Int) : ∀ k : Nat, val (argBest (fun i j => decide (val i > val j)) k) = mxL (val 0) (((List.range k).map fun i => val (i + 1)))
  | 0 => rfl
  | k + 1 => by
    have ap : ∀ (b : Int) (r : List Int) (x : Int), mxL b (r ++ [x]) = if x > mxL b r then x else mxL b r := fun b r x => by
      induction r generalizing b with
      | nil => rfl
      | cons y r ih => exact ih _
    rw [List.range_succ, List.map_append, List.map_cons, List.map_nil, ap, ← argBest_val val k, argBest]
    by_cases h : val (k + 1) > val (argBest (fun i j => decide (val i > val j)) k)
    · rw [if_pos h, if_pos (decide_eq_true h)]
    · rw [if_neg h, if_neg (fun z => h (of_decide_eq_true z))]
theorem mxd_call {l : Addr} {ys : Array (Int × Tok)} {dv : Value} {Q : Value → Shared → Prop} (hh : A.handled = none) (hl : s.heap.IsList l (intItems ys)) (hne : 0 < ys.size)
    (q : ∀ h' tk t, (∀ b x, s.heap.get? b = some x → h'.get? b = some x) → Q (.int (numAt ys (argBest (fun i j => decide (numAt ys i > numAt ys j)) (ys.size - 1))) t) { s with heap := h', toks := tk }) :
    wpAny (model prog w) A (call (.builtin "max") [.ref l] [(Str.ofString "default", dv)]) Q E s := by
  have ll : l < s.heap.objs.size := by obtain ⟨o, e, _⟩ := id hl; exact Heap.lt_size e
  refine kmk_tree F.kind_max F.plain_max F.entry_max (mxd_args _ _) ?_
  show wpAny (model prog w) A.in1 (Builtin.Builtins.bindParams "max" ["key", "default"] 0 ⟨[], [(Str.ofString "default", dv)]⟩ >>= _) _ _ s
  refine wpAny_bind (wpAny_of_eq (show Builtin.Builtins.bindParams "max" ["key", "default"] 0 ⟨[], [(Str.ofString "default", dv)]⟩ = pure [none, some dv] from rfl) ?_)
  refine wpAny_bind (wpAny_pure (wpAny_bind (wpAny_pyIter_list hl (wpAny_bind (wpAny_newList ?_ (Nat.zero_le _))))))
  rw [mxd_word]
  refine wpAny_pure ⟨plainId_quiet F.plain_max_loop _, ?_⟩
  have lJ : l ≠ s.heap.objs.size := Nat.ne_of_lt ll
  have sz : (s.heap.push { cls := .type "list_iterator", data := .fields #[.ref l, .int 0 0] }).objs.size = s.heap.objs.size + 1 := Heap.size_push ..
  refine mxd_first (s := { s with heap := _ }) (Walks.list (A := A.in1) hh s.heap.objs.size l lJ (intItems ys)).toS _ (CmpOf.ints_gt (numAt ys) fun _ _ => intItems_at) _ ?_ (by simpa [intItems] using hne) ⟨⟨_, Heap.get?_push_of_some _ (Heap.get?_push_size _ rfl), rfl, rfl⟩, (hl.push _).push _⟩ (Heap.get?_push_size _ rfl) fun v s' pv m => ?_
  · intro z
    rcases List.mem_cons.mp z with z | z
    · exact absurd (z.symm.trans sz) (Nat.ne_of_lt (Nat.lt_succ_self _))
    · exact absurd (show l = s.heap.objs.size + 1 from (List.mem_singleton.mp z).symm.trans sz) (Nat.ne_of_lt (Nat.lt_succ_of_lt ll))
  · obtain ⟨t, rfl⟩ := intItems_at pv
    obtain ⟨h', g', d', t', o'⟩ := s'
    have e1 : g' = s.gens := m.gens
    have e2 : d' = s.drawn := m.drawn
    have e3 : o' = s.os := m.os
    subst e1 e2 e3
    have z : (intItems ys).size = ys.size := by simp [intItems]
    rw [z]
    refine q h' t' t fun b x e => m.heap b x (fun hb => ?_) (Heap.get?_push_of_some _ (Heap.get?_push_of_some _ e))
    have := Heap.lt_size e
    rcases List.mem_cons.mp hb with hb | hb
    · rw [hb] at this
      exact absurd this (Nat.not_lt.mpr (show s.heap.objs.size ≤ _ from Nat.le_trans (Nat.le_succ _) (Nat.le_of_eq sz.symm)))
    · rw [List.mem_singleton.mp hb] at this
      exact Nat.lt_irrefl _ this
end
def rMaxD (K : PySem.W.Frag) : List V → Hp → VK → Prop := fun xs H Q => ∃ l n ns, xs = [.ref l] ∧ SqL K H l (List.map V.int (n :: ns)) ∧ Q (.int (mxL n ns)) H
section
variable {X : Cx}
theorem numAt_list {ys : Array (Int × Tok)} {i : Nat} : numAt ys i = ((ys.toList.map (·.1))[i]?).getD 0 := by
  unfold numAt
  rw [List.getElem?_map, Array.getElem?_toList]
theorem mx_range {n : Int} {ns : List Int} : (List.range ns.length).map (fun i => (((n :: ns)[i + 1]?).getD 0 : Int)) = ns := by
  refine List.ext_getElem? fun i => ?_
  rw [List.getElem?_map]
  by_cases h : i < ns.length
  · rw [List.getElem?_eq_getElem (by simpa using h), List.getElem_range, Option.map_some, List.getElem?_cons_succ, List.getElem?_eq_getElem h]
    rfl
  · rw [List.getElem?_eq_none (by simpa using h), List.getElem?_eq_none (by omega)]
    rfl
theorem pe_maxD {e ke : Expr} {t : TA} {i : Int} {p kp pos : Pos} (hc : X.calm = true) (hg : Gl X "max") (hm : X.mg "max" = none) (ha : PA X [e] t) (hk : PE X ke (tC (.int i))) (he : starEach [e] X.env = [(false, eval e X.env)] := by rfl) :
    PE X (.Call (.Name "max" p) [e] [⟨some "default", ke, kp⟩] pos) (tCB (rMaxD X.K) t) := by
  intro pins s σ H Q I h
  refine wpAny_Call_Name_kw (ld_blt I hg hm b_max (callWith_kw (thn (ha pos pins s σ H _ I h) fun us s1 ⟨vs, H1, I1, r1, q1⟩ => ?_) (by rw [he]; rfl) (by rw [he]; rfl)))
  refine thn ((pk_cons hk pk_nil) pos pins s1 σ H1 (fun zs H2 => zs = [.int i] ∧ H2 = H1) I1 ⟨rfl, rfl⟩) fun ws s2 ⟨zs, H2, I2, rz, e1, e2⟩ => ?_
  subst e1 e2
  obtain ⟨l, n, ns, rfl, hS, q⟩ := q1
  obtain ⟨u, rfl, ru⟩ := r1.one
  cases ru
  obtain ⟨d, rfl, _⟩ := rz.one
  show wpAny (model X.prog X.w) X.A (call (.builtin "max") [.ref l] [(Str.ofString "default", d)]) _ _ s2
  obtain ⟨its, rv, pl, hz⟩ := I2.list hS
  have hi := intsAre_of rv
  obtain ⟨ys, hx⟩ := hi.allInts.items
  have hl' : s2.heap.IsList l (intItems ys) := hx ▸ pl.isList
  have e1 : n :: ns = ys.toList.map (·.1) := by
    rw [← nums_intItems, ← hx]
    exact (show numsOf its.toArray.toList = n :: ns from hi.numsOf).symm
  have e3 : ys.size = ns.length + 1 := by
    have := congrArg List.length e1
    rw [List.length_map, List.length_cons, Array.length_toList] at this
    exact this.symm
  refine mxd_call (I2.ok.hd hc) hl' (by rw [e3]; exact Nat.succ_pos _) fun h' tk t' hk => ?_
  rw [argBest_val (numAt ys), e3, Nat.add_sub_cancel]
  have e4 : numAt ys = fun i => ((n :: ns)[i]?).getD 0 := by funext i; rw [numAt_list, ← e1]
  rw [e4, mx_range]
  exact ⟨.int _, H2, I2.kept hk, ⟨_, rfl⟩, q⟩
end
end L2
namespace PD
open PySem L2
def maxLD : List D → Option D
  | [.lst xs] => (inS xs).bind fun
    | [] => none
    | n :: ns => some (.int (mxL n ns))
  | _ => none
section
variable {K : PySem.W.Frag} {ns : List Str}
theorem ca_maxD : CaP K ns (rMaxD K) maxLD := by
  intro L H xs as d Q rx hf k
  unfold maxLD at hf
  split at hf
  · obtain ⟨x, rfl, r⟩ := one_of rx
    obtain ⟨bs, eb, hf⟩ := bnd hf
    cases bs with
    | nil => cases hf
    | cons b bs =>
      cases hf
      cases r with
      | lst l e r => exact ⟨_, b, bs, rfl, by rw [← ins_ok r eb]; exact SqL.of e, k _ _ (Same.refl _) (.int _)⟩
  · cases hf
end
end PD
namespace Kl
open PySem L2 PD
def top (i : Nat) : Stmt := PySem.Challenge.pw_ballastway_k14_wheels_close_together.main.body.getD i (.Pass ⟨0, 0, 0, 0⟩)
abbrev s_offsets_of : Stmt := top 1
theorem sc_offsets_of : FnScope ["wheels", "offsets", "wheel"] ["wheels"] (defScope s_offsets_of) := ⟨rfl, rfl, rfl, by decide +kernel, rfl, by decide +kernel, by decide +kernel⟩
abbrev s_span_of : Stmt := top 2
theorem sc_span_of : FnScope ["wheels"] ["wheels"] (defScope s_span_of) := ⟨rfl, rfl, rfl, by decide +kernel, rfl, by decide +kernel, by decide +kernel⟩
theorem cs_span_of_0 : CompC (defScope s_span_of) ["wheels"] ({ kind := PySem.ScopeKind.function, names := [(PySem.Str.ofString ".0", PySem.NameKind.local), (PySem.Str.ofString "wheel", PySem.NameKind.local)], isGenerator := false, isCoroutine := false, more := [] : PySem.Scope }) "wheel" [] [] := ⟨rfl, by decide +kernel, by decide +kernel, by decide +kernel, by decide +kernel, by decide +kernel, by decide +kernel, by decide +kernel, by decide +kernel⟩
abbrev s_greatest_sum : Stmt := top 3
theorem sc_greatest_sum : FnScope ["weights", "offsets", "width", "sums", "first", "offset", "close"] ["weights", "offsets", "width"] (defScope s_greatest_sum) := ⟨rfl, rfl, rfl, by decide +kernel, rfl, by decide +kernel, by decide +kernel⟩
theorem cs_greatest_sum_0 : CompC (defScope s_greatest_sum) ["weights", "offsets", "width", "sums", "first", "offset", "close"] ({ kind := PySem.ScopeKind.function, names := [ (PySem.Str.ofString ".0", PySem.NameKind.local), (PySem.Str.ofString "place", PySem.NameKind.local), (PySem.Str.ofString "offset", PySem.NameKind.free), (PySem.Str.ofString "offsets", PySem.NameKind.free), (PySem.Str.ofString "weights", PySem.NameKind.free), (PySem.Str.ofString "width", PySem.NameKind.free)], isGenerator := false, isCoroutine := false, more := [] : PySem.Scope }) "place" ["offset", "offsets", "weights", "width"] [5, 1, 0, 2] := ⟨rfl, by decide +kernel, by decide +kernel, by decide +kernel, by decide +kernel, by decide +kernel, by decide +kernel, by decide +kernel, by decide +kernel⟩
abbrev s_heaviest : Stmt := top 4
theorem sc_heaviest : FnScope ["wheels", "width"] ["wheels", "width"] (defScope s_heaviest) := ⟨rfl, rfl, rfl, by decide +kernel, rfl, by decide +kernel, by decide +kernel⟩
theorem cs_heaviest_0 : CompC (defScope s_heaviest) ["wheels", "width"] ({ kind := PySem.ScopeKind.function, names := [(PySem.Str.ofString ".0", PySem.NameKind.local), (PySem.Str.ofString "wheel", PySem.NameKind.local)], isGenerator := false, isCoroutine := false, more := [] : PySem.Scope }) "wheel" [] [] := ⟨rfl, by decide +kernel, by decide +kernel, by decide +kernel, by decide +kernel, by decide +kernel, by decide +kernel, by decide +kernel, by decide +kernel⟩
abbrev s_lightest : Stmt := top 5
theorem sc_lightest : FnScope ["wheels", "width"] ["wheels", "width"] (defScope s_lightest) := ⟨rfl, rfl, rfl, by decide +kernel, rfl, by decide +kernel, by decide +kernel⟩
theorem cs_lightest_0 : CompC (defScope s_lightest) ["wheels", "width"] ({ kind := PySem.ScopeKind.function, names := [(PySem.Str.ofString ".0", PySem.NameKind.local), (PySem.Str.ofString "wheel", PySem.NameKind.local)], isGenerator := false, isCoroutine := false, more := [] : PySem.Scope }) "wheel" [] [] := ⟨rfl, by decide +kernel, by decide +kernel, by decide +kernel, by decide +kernel, by decide +kernel, by decide +kernel, by decide +kernel, by decide +kernel⟩
abbrev s_law_cell : Stmt := top 7
theorem sc_law_cell : FnScope ["_law_script", "_law_k"] ["_law_script", "_law_k"] (defScope s_law_cell) := ⟨rfl, rfl, rfl, by decide +kernel, rfl, by decide +kernel, by decide +kernel⟩
abbrev s_law_mix : Stmt := top 8
theorem sc_law_mix : FnScope ["_law_cell_here", "_law_one", "_law_prime", "_law_drawn"] ["_law_cell_here", "_law_one", "_law_prime"] (defScope s_law_mix) := ⟨rfl, rfl, rfl, by decide +kernel, rfl, by decide +kernel, by decide +kernel⟩
abbrev s_law_wheels : Stmt := top 9
theorem sc_law_wheels : FnScope ["_law_cell_here", "_law_many", "_law_wheels_here", "_law_left", "_law_k", "_law_drawn", "_law_most", "_law_gap", "_law_high", "_law_low"] ["_law_cell_here", "_law_many"] (defScope s_law_wheels) := ⟨rfl, rfl, rfl, by decide +kernel, rfl, by decide +kernel, by decide +kernel⟩
abbrev s_law_number : Stmt := top 10
theorem sc_law_number : FnScope ["_law_found"] ["_law_found"] (defScope s_law_number) := ⟨rfl, rfl, rfl, by decide +kernel, rfl, by decide +kernel, by decide +kernel⟩
abbrev s_law_sums : Stmt := top 11
theorem sc_law_sums : FnScope ["_law_wheels_here", "_law_places", "_law_width", "_law_most", "_law_bits", "_law_some"] ["_law_wheels_here", "_law_places", "_law_width"] (defScope s_law_sums) := ⟨rfl, rfl, rfl, by decide +kernel, rfl, by decide +kernel, by decide +kernel⟩
theorem cs_law_sums_0 : CompC (defScope s_law_sums) ["_law_wheels_here", "_law_places", "_law_width", "_law_most", "_law_bits", "_law_some"] ({ kind := PySem.ScopeKind.function, names := [ (PySem.Str.ofString ".0", PySem.NameKind.local), (PySem.Str.ofString "_law_k", PySem.NameKind.local), (PySem.Str.ofString "_law_bits", PySem.NameKind.free)], isGenerator := false, isCoroutine := false, more := [] : PySem.Scope }) "_law_k" ["_law_bits"] [4] := ⟨rfl, by decide +kernel, by decide +kernel, by decide +kernel, by decide +kernel, by decide +kernel, by decide +kernel, by decide +kernel, by decide +kernel⟩
theorem cs_law_sums_1 : CompC (defScope s_law_sums) ["_law_wheels_here", "_law_places", "_law_width", "_law_most", "_law_bits", "_law_some"] ({ kind := PySem.ScopeKind.function, names := [ (PySem.Str.ofString ".0", PySem.NameKind.local), (PySem.Str.ofString "_law_k", PySem.NameKind.local), (PySem.Str.ofString "_law_wheels_here", PySem.NameKind.free)], isGenerator := false, isCoroutine := false, more := [] : PySem.Scope }) "_law_k" ["_law_wheels_here"] [0] := ⟨rfl, by decide +kernel, by decide +kernel, by decide +kernel, by decide +kernel, by decide +kernel, by decide +kernel, by decide +kernel, by decide +kernel⟩
theorem cs_law_sums_2 : CompC (defScope s_law_sums) ["_law_wheels_here", "_law_places", "_law_width", "_law_most", "_law_bits", "_law_some"] ({ kind := PySem.ScopeKind.function, names := [ (PySem.Str.ofString ".0", PySem.NameKind.local), (PySem.Str.ofString "_law_k", PySem.NameKind.local), (PySem.Str.ofString "_law_wheels_here", PySem.NameKind.free)], isGenerator := false, isCoroutine := false, more := [] : PySem.Scope }) "_law_k" ["_law_wheels_here"] [0] := ⟨rfl, by decide +kernel, by decide +kernel, by decide +kernel, by decide +kernel, by decide +kernel, by decide +kernel, by decide +kernel, by decide +kernel⟩
abbrev s_law_good : Stmt := top 12
theorem sc_law_good : FnScope ["_law_cell_here", "_law_most_wheels", "_law_drawn", "_law_wheels_here", "_law_handed", "_law_places", "_law_gap", "_law_low", "_law_high", "_law_found", "_law_far", "_law_width", "_law_most", "_law_light", "_law_heavy"] ["_law_cell_here", "_law_most_wheels"] (defScope s_law_good) := ⟨rfl, rfl, rfl, by decide +kernel, rfl, by decide +kernel, by decide +kernel⟩
theorem cs_law_good_0 : CompC (defScope s_law_good) ["_law_cell_here", "_law_most_wheels", "_law_drawn", "_law_wheels_here", "_law_handed", "_law_places", "_law_gap", "_law_low", "_law_high", "_law_found", "_law_far", "_law_width", "_law_most", "_law_light", "_law_heavy"] ({ kind := PySem.ScopeKind.function, names := [ (PySem.Str.ofString ".0", PySem.NameKind.local), (PySem.Str.ofString "_law_at", PySem.NameKind.local), (PySem.Str.ofString "_law_number", PySem.NameKind.globalImplicit)], isGenerator := false, isCoroutine := false, more := [] : PySem.Scope }) "_law_at" [] [] := ⟨rfl, by decide +kernel, by decide +kernel, by decide +kernel, by decide +kernel, by decide +kernel, by decide +kernel, by decide +kernel, by decide +kernel⟩
abbrev s_law : Stmt := top 13
theorem sc_law : FnScope ["_law_script", "_law_k", "_law_cell_here"] ["_law_script"] (defScope s_law) := ⟨rfl, rfl, rfl, by decide +kernel, rfl, by decide +kernel, by decide +kernel⟩
noncomputable def B_law_mix : SF :=
    (seqS (setS 3 (mk [false, false, false, false] (oD (sealed modD) (oD (sealed mulD) (oD (sealed addD) (oD (sealed addD) (oD (sealed addD) (oD (sealed modD) (vD 0) (vD 2)) (cD (.int 12345))) (oD (sealed mulD) (oD (sealed mulD) (cD (.int 31)) (vD 1)) (vD 1))) (vD 1)) (cD (.int 48271))) (vD 2))))
    (retS (oD (sealed fdivC) (oD (sealed modD) (oD (sealed mulD) (vD 3) (vD 3)) (cD (.int 998244353))) (cD (.int 3)))))
noncomputable def F_law_mix : List D → Option D := sealed (runD 4 B_law_mix)
abbrev sp_law_mix (K : PySem.W.Frag) : Sp := spP K [] false 3 F_law_mix
noncomputable def B_law_wheels : SF :=
    (seqS (setS 2 (mk [false, false, false, false, false, false, false, false, false, false] (lstD aNil)))
    (seqS (setS 3 (mk [false, false, true, false, false, false, false, false, false, false] (cD (.int 200))))
    (seqS (forS (mk [false, false, true, false, false, false, false, false, false, false] (iaD (sealed rng1D) (aCons (vD 1) aNil))) (nmG 4)
    (seqS (setS 5 (mk [false, false, true, false, false, false, false, false, false, false] (callD F_law_mix (aCons (vD 0) (aCons (oD (sealed addD) (cD (.int 80)) (vD 4)) (aCons (cD (.int 1000003)) aNil))))))
    (seqS (setS 6 (mk [false, false, true, false, false, false, false, false, false, false] (callD (sealed min2D) (aCons (cD (.int 100)) (aCons (oD (sealed subD) (vD 3) (oD (sealed subD) (oD (sealed subD) (vD 1) (cD (.int 1))) (vD 4))) aNil)))))
    (seqS (setS 7 (mk [false, false, true, false, false, false, false, false, false, false] (oD (sealed ixD) (lstD (aCons (cD (.int 1)) (aCons (vD 6) (aCons (oD (sealed addD) (cD (.int 1)) (oD (sealed modD) (oD (sealed fdivC) (vD 5) (cD (.int 4))) (vD 6))) (aCons (oD (sealed addD) (cD (.int 1)) (oD (sealed modD) (oD (sealed fdivC) (vD 5) (cD (.int 4))) (callD (sealed min2D) (aCons (vD 6) (aCons (cD (.int 30)) aNil))))) aNil))))) (oD (sealed modD) (vD 5) (cD (.int 4))))))
    (seqS (setS 8 (mk [false, false, true, false, false, false, false, false, false, false] (oD (sealed ixD) (lstD (aCons (oD (sealed modD) (oD (sealed fdivC) (vD 5) (cD (.int 16))) (cD (.int 10))) (aCons (oD (sealed modD) (oD (sealed fdivC) (vD 5) (cD (.int 16))) (cD (.int 1000))) (aCons (cD (.int 1000000)) (aCons (oD (sealed modD) (oD (sealed addD) (vD 0) (vD 5)) (cD (.int 1000001))) aNil))))) (oD (sealed modD) (oD (sealed fdivC) (vD 5) (cD (.int 4))) (cD (.int 4))))))
    (seqS (setS 9 (mk [false, false, true, false, false, false, false, false, false, false] (oD (sealed ixD) (lstD (aCons (vD 8) (aCons (cD (.int 0)) (aCons (oD (sealed modD) (oD (sealed fdivC) (vD 5) (cD (.int 64))) (oD (sealed addD) (vD 8) (cD (.int 1)))) aNil)))) (oD (sealed modD) (oD (sealed fdivC) (vD 5) (cD (.int 32))) (cD (.int 3))))))
    (seqS (appS 2 (mk [false, false, true, false, false, false, false, false, false, false] (tupD (aCons (vD 7) (aCons (vD 9) (aCons (vD 8) aNil))))))
    (ifS (bD (oD (sealed gtD) (vD 4) (cD (.int 0)))) (setS 3 (mk [false, false, true, false, false, false, false, false, false, false] (oD (sealed subD) (vD 3) (vD 7))))
    nxS))))))))
    (retO 2))))
noncomputable def F_law_wheels : List D → Option D := sealed (runF 10 B_law_wheels)
abbrev sp_law_wheels (K : PySem.W.Frag) : Sp := spP K [] true 2 F_law_wheels
noncomputable def B_offsets_of : SF :=
    (seqS (setS 1 (mk [false, false, false] (lstD aNil)))
    (seqS (forS (mk [false, true, false] (itD (vD 0))) (nmG 2)
    (appW 1 (ifD (trD (vD 1)) (oD (sealed addD) (oD (sealed ixD) (vD 1) (uD (sealed negD) (cD (.int 1)))) (oD (sealed ixD) (vD 2) (cD (.int 0)))) (cD (.int 0)))))
    (retO 1)))
noncomputable def F_offsets_of : List D → Option D := sealed (runF 3 B_offsets_of)
abbrev sp_offsets_of (K : PySem.W.Frag) : Sp := spP K [] true 1 F_offsets_of
noncomputable def B_law_sums : SF :=
    (seqS (setS 3 (mk [false, false, false, false, false, false] (lstD (aCons (cD (.int 0)) (aCons (cD (.int 0)) aNil)))))
    (seqS (forS (mk [false, false, false, true, false, false] (iaD (sealed rng2D) (aCons (cD (.int 1)) (aCons (oD (sealed shlD) (cD (.int 1)) (callD (sealed lenD) (aCons (vD 0) aNil))) aNil)))) (nmG 4)
    (seqS (setS 5 (mk [false, false, false, true, false, false] (compF (iaD (sealed rng1D) (aCons (callD (sealed lenD) (aCons (vD 0) aNil)) aNil)) (bD (oD (sealed eqD) (oD (sealed bandD) (oD (sealed shrD) (vD 1) (vD 0)) (cD (.int 1))) (cD (.int 1)))) (vD 0) [4])))
    (ifS (bD (oD (sealed ltD) (oD (sealed subD) (oD (sealed ixD) (vD 1) (oD (sealed ixD) (vD 5) (uD (sealed negD) (cD (.int 1))))) (oD (sealed ixD) (vD 1) (oD (sealed ixD) (vD 5) (cD (.int 0))))) (vD 2))) (seqS (putS 3 (callD (sealed max2D) (aCons (oD (sealed ixD) (vD 3) (cD (.int 0))) (aCons (callD (sealed sumD) (aCons (compF (itD (vD 5)) yesB (oD (sealed ixD) (oD (sealed ixD) (vD 1) (vD 0)) (cD (.int 1))) [0]) aNil)) aNil))) (cD (.int 0)))
    (putS 3 (callD (sealed max2D) (aCons (oD (sealed ixD) (vD 3) (cD (.int 1))) (aCons (callD (sealed sumD) (aCons (compF (itD (vD 5)) yesB (oD (sealed ixD) (oD (sealed ixD) (vD 1) (vD 0)) (cD (.int 2))) [0]) aNil)) aNil))) (cD (.int 1))))
    nxS)))
    (retO 3)))
noncomputable def F_law_sums : List D → Option D := sealed (runF 6 B_law_sums)
abbrev sp_law_sums (K : PySem.W.Frag) : Sp := spP K [] true 3 F_law_sums
noncomputable def B_greatest_sum : SF :=
    (seqS (setS 3 (mk [false, false, false, false, false, false, false] (lstD aNil)))
    (seqS (forS (mk [false, false, false, true, false, false, false] (iaD (sealed enumD) (aCons (vD 1) aNil))) (tupG [4, 5])
    (seqS (setS 6 (mk [false, false, false, true, false, false, false] (compF (iaD (sealed rng2D) (aCons (vD 4) (aCons (callD (sealed lenD) (aCons (vD 1) aNil)) aNil))) (bD (oD (sealed ltD) (oD (sealed subD) (oD (sealed ixD) (vD 2) (vD 0)) (vD 1)) (vD 4))) (oD (sealed ixD) (vD 3) (vD 0)) [5, 1, 0, 2])))
    (appS 3 (mk [false, false, false, true, false, false, false] (callD (sealed sumD) (aCons (vD 6) aNil))))))
    (retS (callD (sealed maxLD) (aCons (vD 3) aNil)))))
noncomputable def F_greatest_sum : List D → Option D := sealed (runD 7 B_greatest_sum)
abbrev sp_greatest_sum (K : PySem.W.Frag) : Sp := spP K [] false 3 F_greatest_sum
noncomputable def B_lightest : SF :=
    (retS (callD F_greatest_sum (aCons (compF (itD (vD 0)) yesB (oD (sealed ixD) (vD 0) (cD (.int 1))) []) (aCons (callD F_offsets_of (aCons (vD 0) aNil)) (aCons (vD 1) aNil)))))
noncomputable def F_lightest : List D → Option D := sealed (runD 2 B_lightest)
abbrev sp_lightest (K : PySem.W.Frag) : Sp := spP K [] false 2 F_lightest
noncomputable def B_heaviest : SF :=
    (retS (callD F_greatest_sum (aCons (compF (itD (vD 0)) yesB (oD (sealed ixD) (vD 0) (cD (.int 2))) []) (aCons (callD F_offsets_of (aCons (vD 0) aNil)) (aCons (vD 1) aNil)))))
noncomputable def F_heaviest : List D → Option D := sealed (runD 2 B_heaviest)
abbrev sp_heaviest (K : PySem.W.Frag) : Sp := spP K [] false 2 F_heaviest
noncomputable def B_law_number : SF :=
    (retS (andD (callD (sealed (isT "int")) (aCons (vD 0) aNil)) (notD (callD (sealed (isT "bool")) (aCons (vD 0) aNil)))))
noncomputable def F_law_number : List D → Option D := sealed (runD 1 B_law_number)
abbrev sp_law_number (K : PySem.W.Frag) : Sp := spP K [] false 1 F_law_number
noncomputable def B_span_of : SF :=
    (retS (callD (sealed sumD) (aCons (compF (itD (slD (sealed slDD) (vD 0) (atO (cD (.int 1))) noO)) yesB (oD (sealed ixD) (vD 0) (cD (.int 0))) []) aNil)))
noncomputable def F_span_of : List D → Option D := sealed (runD 1 B_span_of)
abbrev sp_span_of (K : PySem.W.Frag) : Sp := spP K [] false 1 F_span_of
noncomputable def B_law_good : SF :=
    (seqS (setS 2 (mk [false, false, false, false, false, false, false, false, false, false, false, false, false, false, false] (callD F_law_mix (aCons (vD 0) (aCons (cD (.int 0)) (aCons (cD (.int 1000033)) aNil))))))
    (seqS (setS 3 (mk [false, false, false, false, false, false, false, false, false, false, false, false, false, false, false] (callD F_law_wheels (aCons (vD 0) (aCons (oD (sealed addD) (cD (.int 1)) (oD (sealed modD) (vD 2) (vD 1))) aNil)))))
    (seqS (setS 4 (mk [false, false, false, false, false, false, false, false, false, false, false, false, false, false, false] (callD (sealed listD) (aCons (vD 3) aNil))))
    (seqS (setS 5 (mk [false, false, false, false, false, false, false, false, false, false, false, false, false, false, false] (lstD (aCons (cD (.int 0)) aNil))))
    (seqS (forS (mk [false, false, false, false, false, true, false, false, false, false, false, false, false, false, false] (itD (slD (sealed slDD) (vD 3) (atO (cD (.int 1))) noO))) (tupG [6, 7, 8])
    (appW 5 (oD (sealed addD) (oD (sealed ixD) (vD 5) (uD (sealed negD) (cD (.int 1)))) (vD 6))))
    (seqS (setS 9 (mk [false, false, false, false, false, true, false, false, false, false, false, false, false, false, false] (callD F_offsets_of (aCons (vD 4) aNil))))
    (seqS (ifS (orB (notB (bD (callD (sealed (isT "list")) (aCons (vD 9) aNil)))) (orB (bD (oD (sealed neD) (vD 9) (vD 5))) (notB (bD (callD (sealed allD) (aCons (compF (itD (vD 9)) yesB (callD F_law_number (aCons (vD 0) aNil)) []) aNil)))))) (retS (cD (.bl false)))
    nxS)
    (seqS (appS 9 (mk [false, false, false, false, false, true, false, false, false, true, false, false, false, false, false] (cD (.int 0))))
    (seqS (ifS (orB (notB (bD (callD F_law_number (aCons (callD F_span_of (aCons (vD 4) aNil)) aNil)))) (orB (bD (oD (sealed neD) (callD F_span_of (aCons (vD 4) aNil)) (oD (sealed ixD) (vD 5) (uD (sealed negD) (cD (.int 1)))))) (bD (oD (sealed neD) (callD F_offsets_of (aCons (vD 4) aNil)) (vD 5))))) (retS (cD (.bl false)))
    nxS)
    (seqS (setS 10 (mk [false, false, false, false, false, false, false, false, false, true, false, false, false, false, false] (oD (sealed subD) (oD (sealed ixD) (vD 5) (oD (sealed modD) (oD (sealed fdivC) (vD 2) (cD (.int 6))) (callD (sealed lenD) (aCons (vD 5) aNil)))) (oD (sealed ixD) (vD 5) (oD (sealed modD) (oD (sealed fdivC) (vD 2) (cD (.int 40))) (callD (sealed lenD) (aCons (vD 5) aNil)))))))
    (seqS (forS (mk [false, false, false, false, false, false, false, false, false, false, false, false, false, false, false] (itD (lstD (aCons (cD (.int 1)) (aCons (callD (sealed max2D) (aCons (cD (.int 1)) (aCons (oD (sealed ixD) (vD 5) (uD (sealed negD) (cD (.int 1)))) aNil))) (aCons (oD (sealed addD) (oD (sealed ixD) (vD 5) (uD (sealed negD) (cD (.int 1)))) (cD (.int 1))) (aCons (callD (sealed max2D) (aCons (cD (.int 1)) (aCons (vD 10) aNil))) (aCons (oD (sealed addD) (callD (sealed absD) (aCons (vD 10) aNil)) (cD (.int 1))) aNil)))))))) (nmG 11)
    (seqS (setS 12 (mk [false, false, false, false, false, false, false, false, false, false, false, false, false, false, false] (callD F_law_sums (aCons (vD 3) (aCons (vD 5) (aCons (vD 11) aNil))))))
    (seqS (setS 13 (mk [false, false, false, false, false, false, false, false, false, false, false, false, false, false, false] (callD F_lightest (aCons (vD 4) (aCons (vD 11) aNil)))))
    (seqS (setS 14 (mk [false, false, false, false, false, false, false, false, false, false, false, false, false, false, false] (callD F_heaviest (aCons (vD 4) (aCons (vD 11) aNil)))))
    (ifS (orB (notB (bD (callD F_law_number (aCons (vD 13) aNil)))) (orB (notB (bD (callD F_law_number (aCons (vD 14) aNil)))) (bD (oD (sealed neD) (lstD (aCons (vD 13) (aCons (vD 14) aNil))) (vD 12))))) (retS (cD (.bl false)))
    nxS)))))
    (retS (oD (sealed eqD) (vD 4) (vD 3))))))))))))))
noncomputable def F_law_good : List D → Option D := sealed (runD 15 B_law_good)
abbrev sp_law_good (K : PySem.W.Frag) : Sp := spP K [] false 2 F_law_good
noncomputable def B_law_cell : SF :=
    (seqS (ifS (bD (oD (sealed ltD) (vD 1) (callD (sealed lenD) (aCons (vD 0) aNil)))) (retS (oD (sealed ixD) (vD 0) (vD 1)))
    nxS)
    (retS (cD (.int 0))))
noncomputable def F_law_cell : List D → Option D := sealed (runD 2 B_law_cell)
abbrev sp_law_cell (K : PySem.W.Frag) : Sp := spP K [] false 2 F_law_cell
noncomputable def B_law : SF :=
    (seqS (forS (mk [false, false, false] (iaD (sealed enumD) (aCons (oD (sealed addD) (lstD (aCons (oD (sealed addD) (callD F_law_cell (aCons (vD 0) (aCons (cD (.int 0)) aNil))) (callD (sealed lenD) (aCons (vD 0) aNil))) aNil)) (slD (sealed slDD) (vD 0) (atO (cD (.int 1))) (atO (cD (.int 10))))) aNil))) (tupG [1, 2])
    (ifS (notB (bD (callD F_law_good (aCons (vD 2) (aCons (oD (sealed addD) (cD (.int 6)) (oD (sealed mulD) (cD (.int 2)) (callD (sealed intD) (aCons (oD (sealed eqD) (vD 1) (cD (.int 0))) aNil)))) aNil))))) (retS (cD (.bl false)))
    nxS))
    (retS (cD (.bl true))))
noncomputable def F_law : List D → Option D := sealed (runD 3 B_law)
open PD
theorem mulD_ii {i j : Int} (h : (-18446744073709551616 < i ∧ i < 18446744073709551616) ∨ (-18446744073709551616 < j ∧ j < 18446744073709551616)) : sealed mulD (.int i) (.int j) = some (.int (i * j)) := by rw [seal_eq]; exact if_pos h
theorem modD_ii {i j : Int} (h : 0 < j) : sealed modD (.int i) (.int j) = some (.int (i % j)) := by rw [seal_eq]; exact if_pos h
theorem fdivC_ii {i j : Int} (h : 0 < j ∧ j < 1073741824) : sealed fdivC (.int i) (.int j) = some (.int (i / j)) := by rw [seal_eq]; exact if_pos h
theorem fdivD_ii {i j : Int} (h : 0 < j ∧ j < 18446744073709551616) : sealed fdivD (.int i) (.int j) = some (.int (i / j)) := by rw [seal_eq]; exact if_pos h
theorem addD_ii {i j : Int} : sealed addD (.int i) (.int j) = some (.int (i + j)) := by rw [seal_eq]; exact rfl
theorem subD_ii {i j : Int} : sealed subD (.int i) (.int j) = some (.int (i - j)) := by rw [seal_eq]; exact rfl
theorem ltD_ii {i j : Int} : sealed ltD (.int i) (.int j) = some (.bl (decide (i < j))) := by rw [seal_eq]; exact rfl
theorem leD_ii {i j : Int} : sealed leD (.int i) (.int j) = some (.bl (decide (i ≤ j))) := by rw [seal_eq]; exact rfl
theorem gtD_ii {i j : Int} : sealed gtD (.int i) (.int j) = some (.bl (decide (j < i))) := by rw [seal_eq]; exact rfl
theorem eqD_ii {i j : Int} : sealed eqD (.int i) (.int j) = some (.bl (decide (i = j))) := by rw [seal_eq]; exact rfl
theorem eqD_ss {i j : Str} : sealed eqD (.str i) (.str j) = some (.bl (decide (i = j))) := by rw [seal_eq]; exact rfl
theorem neD_ii {i j : Int} : sealed neD (.int i) (.int j) = some (.bl (!decide (i = j))) := by rw [seal_eq]; exact rfl
theorem negD_i {i : Int} : sealed negD (.int i) = some (.int (-i)) := by rw [seal_eq]; exact rfl
theorem ixD_l {xs : List D} {i : Int} : sealed ixD (.lst xs) (.int i) = atI xs i := by rw [seal_eq]; exact rfl
theorem ixD_t {xs : List D} {i : Int} : sealed ixD (.tup xs) (.int i) = atI xs i := by rw [seal_eq]; exact rfl
theorem ixD_f {xs : List D} {i : Int} : sealed ixD (.fz xs) (.int i) = atI xs i := by rw [seal_eq]; exact rfl
theorem atI_nat' {α : Type} {xs : List α} {n : Nat} (h : n < xs.length) : atI xs (n : Int) = xs[n]? := by
  unfold atI ixN
  rw [if_pos (by omega), if_pos (by omega)]
  rfl
theorem atI_of {α : Type} {xs : List α} {i : Int} {n : Nat} {x : α} (hi : i = n) (h : xs[n]? = some x) : atI xs i = some x := by
  subst hi
  rw [atI_nat' (List.getElem?_eq_some_iff.mp h).1, h]
theorem vD_z {o : Option D} {r : PD.Env} : vD 0 (o :: r) = o := rfl
theorem vD_s {n : Nat} {o : Option D} {r : PD.Env} : vD (n + 1) (o :: r) = vD n r := rfl
theorem maskD_f {fl : List Bool} {o : Option D} {r : PD.Env} : maskD (false :: fl) (o :: r) = o :: maskD fl r := rfl
theorem maskD_t {fl : List Bool} {o : Option D} {r : PD.Env} : maskD (true :: fl) (o :: r) = none :: maskD fl r := rfl
theorem maskD_n {r : PD.Env} : maskD [] r = [] := rfl
theorem own_z {xs : List D} {r : PD.Env} : ownAt 0 (some (.lst xs) :: r) = some xs := rfl
theorem own_s {n : Nat} {o : Option D} {r : PD.Env} : ownAt (n + 1) (o :: r) = ownAt n r := rfl
theorem enumD_l {xs : List D} : sealed enumD [.lst xs] = some (enumG xs) := by rw [seal_eq]; exact rfl
theorem zipL_l {xs ys : List D} : sealed zipL [.lst xs, .lst ys] = some (zipG xs ys) := by rw [seal_eq]; exact rfl
theorem lenD_l {xs : List D} : sealed lenD [.lst xs] = some (.int xs.length) := by rw [seal_eq]; rfl
theorem lenD_t {xs : List D} : sealed lenD [.tup xs] = some (.int xs.length) := by rw [seal_eq]; rfl
theorem bindS {α β : Type} {a : α} {f : α → Option β} : (some a).bind f = f a := rfl
theorem ite_tt {α : Type} {a b : α} : (if true = true then a else b) = a := rfl
theorem ite_ff {α : Type} {a b : α} : (if false = true then a else b) = b := rfl
theorem seqS_nx {F G : SF} {e e1 : PD.Env} (h : F e = some (.nx e1)) : seqS F G e = G e1 := by unfold seqS; rw [h]; rfl
theorem run_rt {n : Nat} {b : SF} {ds : List D} {d : D} (h : b (startD n ds) = some (.rt d)) : runD n b ds = some d := by unfold runD; rw [h]; rfl
theorem runF_rt {n : Nat} {b : SF} {ds : List D} {d : D} (h : b (startD n ds) = some (.rt d)) : runF n b ds = some d := by unfold runF; rw [h]; rfl
theorem mlo {a k : Int} (h : 0 < k := by decide) : 0 ≤ a % k := Int.emod_nonneg _ (Int.ne_of_gt h)
theorem mhi {a k : Int} (h : 0 < k := by decide) : a % k < k := Int.emod_lt_of_pos _ h
theorem mge {a k c m : Int} (h : 0 < k := by decide) (h2 : m ≤ c := by decide) : m ≤ c + a % k := by
  have := mlo (a := a) h
  omega
theorem mle {a k c m : Int} (h : 0 < k := by decide) (h2 : c + k ≤ m + 1 := by decide) : c + a % k ≤ m := by
  have := mhi (a := a) h
  omega
theorem ipos {a : Int} (h : 1 ≤ a) : 0 < a := h
theorem inn {a : Int} (h : 1 ≤ a) : 0 ≤ a := Int.le_of_lt h
theorem ilt {a m n : Int} (h : a ≤ m) (h2 : m < n := by decide) : a < n := Int.lt_of_le_of_lt h h2
theorem ile {a m n : Int} (h : a ≤ m) (h2 : m ≤ n := by decide) : a ≤ n := Int.le_trans h h2
theorem ipz {b : Int} (h : 0 ≤ b) (h0 : ¬ b = 0) : 0 < b := by omega
theorem ine {b : Int} (h : 0 < b) : b ≠ 0 := Int.ne_of_gt h
theorem inl0 {b : Int} (h : 0 < b) : ¬ b < 0 := fun q => Int.lt_irrefl _ (Int.lt_trans h q)
theorem inn1 {b : Int} (h : 0 ≤ b) : 0 < b + 1 := Int.lt_add_one_of_le h
theorem itn {i : Int} (h : 0 ≤ i) : i = ((i.toNat : Nat) : Int) := (Int.toNat_of_nonneg h).symm
theorem nit {i n : Nat} (h : i < n) : (i : Int) < (n : Int) := Int.ofNat_lt.mpr h
theorem nsub {a j m n : Nat} (h : a + (m - j) ≤ n + 1) (hj : j < m) : a + (m - (j + 1)) ≤ n := by omega
theorem nsub' {a j m n : Nat} (h : (m - j) + a ≤ n + 1) (hj : j < m) : (m - (j + 1)) + a ≤ n := by omega
theorem nlt {a m n : Nat} (h : a ≤ m) (h2 : m < n := by decide) : a < n := Nat.lt_of_le_of_lt h h2
theorem nle {a m n : Nat} (h : a ≤ m) (h2 : m ≤ n := by decide) : a ≤ n := Nat.le_trans h h2
theorem nll {a m n : Nat} (h : a < m) (h2 : m ≤ n := by decide) : a < n := Nat.lt_of_lt_of_le h h2
theorem nla {a b m n : Nat} (h : a + b < m) (h2 : m ≤ n := by decide) : a < n := Nat.lt_of_le_of_lt (Nat.le_add_right a b) (Nat.lt_of_lt_of_le h h2)
set_option compiler.extract_closed false
local macro_rules | `(tactic| o_reads) => `(tactic| first | decide | exact .inl (by decide) | exact .inr (by decide) | omega)
local macro_rules | `(tactic| o_shape) => `(tactic| first | decide | exact mlo | exact mhi | exact mge | exact mle | assumption | exact Nat.le_refl _ | exact ipos (by assumption) | exact inn (by assumption) | exact ilt (by assumption) | exact ile (by assumption) | exact nlt (by assumption) | exact nle (by assumption) | exact nll (by assumption) | exact nla (by assumption) | exact ine (by assumption) | exact ine (ipos (by assumption)) | exact ipz (by assumption) (by assumption) | exact Int.le_of_lt (by assumption) | exact inl0 (by assumption) | exact inn1 (by assumption) | exact ine (inn1 (by assumption)) | exact itn (by assumption) | exact itn mge | exact nsub (by assumption) (by assumption) | exact nsub' (by assumption) (by assumption) | omega)
local macro_rules | `(tactic| k_search ($a, $bs,*)) => `(tactic| simp (disch := o_reads) only [$a:term, $[$bs:term],*, slD, atO, noO, iaD, itD, enumD_l, zipL_l, lenD_l, lenD_t, forS, runD, runF, seqS, setS, retO, appS, appW, asgS, nmG, tupG, setsG, retS, ifS, nxS, bD, mk, maskD_f, maskD_t, maskD_n, own_z, own_s, oD, uD, vD_z, vD_s, cD, callD, aCons, aNil, tupD, lstD, andB, orB, notB, andD, orD, notD, bindS, ite_tt, ite_ff, if_true, if_false, List.set_cons_zero, List.set_cons_succ, List.length_map, List.length_range, List.length_append, List.length_cons, List.length_nil, mulD_ii, modD_ii, fdivC_ii, fdivD_ii, addD_ii, subD_ii, ltD_ii, leD_ii, gtD_ii, eqD_ii, eqD_ss, neD_ii, negD_i])
local macro_rules | `(tactic| k_search ($a)) => `(tactic| k_search ($a, bindS))
local macro_rules | `(tactic| ktf_call $t) => `(tactic| refine (seqS_nx (by k_search $t; try rfl)).trans ?_)
theorem forD_inv {g : GF} {b : SF} (Pv : Nat → PD.Env → Prop) : ∀ {ds : List D} {env : PD.Env} (k : Nat), Pv k env → (∀ i d e, ds[i]? = some d → Pv (k + i) e → ∃ e1, g d e = some e1 ∧ ∃ e2, b e1 = some (.nx e2) ∧ Pv (k + i + 1) e2) → ∃ e', forD g b ds env = some (.nx e') ∧ Pv (k + ds.length) e'
  | [], env, k, h0, _ => ⟨env, rfl, h0⟩
  | d :: ds, env, k, h0, hs => by
    obtain ⟨e1, h1, e2, h2, p2⟩ := hs 0 d env rfl h0
    obtain ⟨e', h3, p3⟩ := forD_inv (g := g) (b := b) Pv (ds := ds) (env := e2) (k + 1) p2 (fun i d e hd hp => by
      obtain ⟨f1, q1, f2, q2, q3⟩ := hs (i + 1) d e hd (by rw [show k + (i + 1) = k + 1 + i from by omega]; exact hp)
      exact ⟨f1, q1, f2, q2, by rw [show k + 1 + i + 1 = k + (i + 1) + 1 from by omega]; exact q3⟩)
    refine ⟨e', ?_, by rw [List.length_cons, show k + (ds.length + 1) = k + 1 + ds.length from by omega]; exact p3⟩
    rw [forD, h1, bindS, h2, bindS]
    exact h3
theorem forD_end {g : GF} {b : SF} {ds : List D} {env : PD.Env} (Pv : Nat → PD.Env → Prop) (h0 : Pv 0 env) (hs : ∀ i d e, ds[i]? = some d → Pv i e → ∃ e1, g d e = some e1 ∧ ∃ e2, b e1 = some (.nx e2) ∧ Pv (i + 1) e2) : ∃ e', forD g b ds env = some (.nx e') ∧ Pv ds.length e' := by
  obtain ⟨e', h1, h2⟩ := forD_inv (g := g) (b := b) Pv 0 h0 (fun i d e hd hp => by rw [Nat.zero_add] at hp ⊢; exact hs i d e hd hp)
  exact ⟨e', h1, by rw [Nat.zero_add] at h2; exact h2⟩
theorem comp_map {fc : BF} {fe : VF} {caps : PD.Env} {α : Type} {mk : α → D} {f : α → D} : ∀ {xs : List α}, (∀ x ∈ xs, fc (some (mk x) :: caps) = some true ∧ fe (some (mk x) :: caps) = some (f x)) → compD fc fe caps (xs.map mk) = some (xs.map f)
  | [], _ => rfl
  | x :: xs, h => by
    obtain ⟨h1, h2⟩ := h x List.mem_cons_self
    rw [List.map_cons, compD, h1, bindS, ite_tt, h2, bindS, comp_map fun y hy => h y (List.mem_cons_of_mem _ hy)]
    rfl
theorem comp_sel {fc : BF} {fe : VF} {caps : PD.Env} {α : Type} {mk : α → D} {p : α → Bool} {f : α → D} : ∀ {xs : List α}, (∀ x ∈ xs, fc (some (mk x) :: caps) = some (p x) ∧ (p x = true → fe (some (mk x) :: caps) = some (f x))) → compD fc fe caps (xs.map mk) = some ((xs.filter p).map f)
  | [], _ => rfl
  | x :: xs, h => by
    obtain ⟨h1, h2⟩ := h x List.mem_cons_self
    rw [List.map_cons, compD, h1, bindS, comp_sel fun y hy => h y (List.mem_cons_of_mem _ hy)]
    cases e : p x with
    | true => rw [ite_tt, h2 e, bindS, List.filter_cons_of_pos (by simpa using e)]; rfl
    | false => rw [ite_ff, List.filter_cons_of_neg (by simp [e])]
theorem inS_map : ∀ {xs : List Int}, inS (xs.map D.int) = some xs
  | [] => rfl
  | x :: xs => by rw [List.map_cons, inS, inS_map]; rfl
theorem blS_map : ∀ {xs : List Bool}, blS (xs.map D.bl) = some xs
  | [] => rfl
  | x :: xs => by rw [List.map_cons, blS, blS_map]; rfl
theorem mxL_ge : ∀ (r : List Int) (b : Int), b ≤ mxL b r ∧ ∀ x ∈ r, x ≤ mxL b r
  | [], b => ⟨Int.le_refl _, fun x h => by cases h⟩
  | y :: r, b => by
    have h := mxL_ge r (if y > b then y else b)
    have e : mxL b (y :: r) = mxL (if y > b then y else b) r := rfl
    rw [e]
    refine ⟨?_, fun x hx => ?_⟩
    · have := h.1
      split at this <;> omega
    · rcases List.mem_cons.mp hx with rfl | hx
      · have := h.1
        split at this <;> omega
      · exact h.2 x hx
theorem mxL_mem : ∀ (r : List Int) (b : Int), mxL b r ∈ b :: r
  | [], b => List.mem_cons_self
  | y :: r, b => by
    have h := mxL_mem r (if y > b then y else b)
    show mxL (if y > b then y else b) r ∈ _
    rcases List.mem_cons.mp h with h | h
    · rw [h]
      split
      · exact List.mem_cons_of_mem _ List.mem_cons_self
      · exact List.mem_cons_self
    · exact List.mem_cons_of_mem _ (List.mem_cons_of_mem _ h)
def sel (n b : Nat) : List Nat := (List.range n).filter fun k => b / 2 ^ k % 2 == 1
def winP (off : Nat → Int) (W : Int) (i k : Nat) : Bool := decide (i ≤ k) && decide (off k - off i < W)
def win (off : Nat → Int) (W : Int) (n i : Nat) : List Nat := (List.range n).filter (winP off W i)
def wsum (f : Nat → Int) (l : List Nat) : Int := (l.map f).sum
theorem wsum_le {f : Nat → Int} (hf : ∀ k, 0 ≤ f k) {p q : Nat → Bool} : ∀ {l : List Nat}, (∀ k ∈ l, p k = true → q k = true) → wsum f (l.filter p) ≤ wsum f (l.filter q)
  | [], _ => Int.le_refl _
  | k :: l, h => by
    have ih := wsum_le hf (l := l) fun j hj => h j (List.mem_cons_of_mem _ hj)
    have hk := h k List.mem_cons_self
    have h0 := hf k
    have c : ∀ (r : List Nat), wsum f (k :: r) = f k + wsum f r := fun r => rfl
    cases hp : p k with
    | true =>
      rw [List.filter_cons_of_pos hp, List.filter_cons_of_pos (hk hp), c, c]
      omega
    | false =>
      rw [List.filter_cons_of_neg (by rw [hp]; exact Bool.false_ne_true)]
      cases hq : q k with
      | true => rw [List.filter_cons_of_pos hq, c]; omega
      | false => rw [List.filter_cons_of_neg (by rw [hq]; exact Bool.false_ne_true)]; exact ih
theorem wsum_nn {f : Nat → Int} (hf : ∀ k, 0 ≤ f k) : ∀ l : List Nat, 0 ≤ wsum f l
  | [] => Int.le_refl _
  | k :: l => by
    have := wsum_nn hf l
    have := hf k
    show 0 ≤ f k + wsum f l
    omega
theorem bits_of (p : Nat → Bool) : ∀ n : Nat, ∃ b, b < 2 ^ n ∧ ∀ k, k < n → (b / 2 ^ k % 2 == 1) = p k
  | 0 => ⟨0, by decide, fun k h => by omega⟩
  | n + 1 => by
    obtain ⟨b, hb, hk⟩ := bits_of p n
    have e2 : 2 ^ (n + 1) = 2 ^ n + 2 ^ n := by rw [Nat.pow_succ]; omega
    have pos : 0 < 2 ^ n := Nat.pow_pos (by decide)
    refine ⟨if p n = true then b + 2 ^ n else b, by split <;> omega, fun k h => ?_⟩
    by_cases e : k = n
    · subst e
      cases hp : p k with
      | true =>
        rw [if_pos rfl, Nat.add_div_right _ pos, Nat.div_eq_of_lt hb]
        rfl
      | false =>
        rw [if_neg Bool.false_ne_true, Nat.div_eq_of_lt hb]
        rfl
    · have hk' := hk k (by omega)
      rw [← hk']
      split
      · obtain ⟨m, hm⟩ : ∃ m, n = k + (m + 1) := ⟨n - k - 1, by omega⟩
        have e3 : 2 ^ n = 2 ^ k * (2 * 2 ^ m) := by rw [hm, Nat.pow_add, Nat.pow_succ, Nat.mul_comm (2 ^ m) 2]
        rw [e3, Nat.add_mul_div_left _ _ (Nat.pow_pos (by decide)), Nat.add_mul_mod_self_left]
      · rfl
theorem sel_of (p : Nat → Bool) (n : Nat) : ∃ b, b < 2 ^ n ∧ sel n b = (List.range n).filter p := by
  obtain ⟨b, hb, h⟩ := bits_of p n
  refine ⟨b, hb, ?_⟩
  unfold sel
  refine List.filter_congr fun k hk => ?_
  exact h k (by simpa using hk)
theorem range_lt : ∀ n : Nat, (List.range n).Pairwise (· < ·) := fun n => List.pairwise_lt_range
theorem head_le {l : List Nat} (hl : l.Pairwise (· < ·)) {a : Nat} (h : l[0]? = some a) : ∀ k ∈ l, a ≤ k := by
  cases l with
  | nil => cases h
  | cons b r =>
    cases h
    intro k hk
    rcases List.mem_cons.mp hk with rfl | hk
    · exact Nat.le_refl _
    · exact Nat.le_of_lt ((List.pairwise_cons.mp hl).1 k hk)
theorem le_last {l : List Nat} (hl : l.Pairwise (· < ·)) {a : Nat} (h : l.getLast? = some a) : ∀ k ∈ l, k ≤ a := by
  obtain ⟨r, rfl⟩ := List.getLast?_eq_some_iff.mp h
  intro k hk
  rcases List.mem_append.mp hk with hk | hk
  · exact Nat.le_of_lt ((List.pairwise_append.mp hl).2.2 k hk a (List.mem_singleton.mpr rfl))
  · rw [List.mem_singleton.mp hk]
    exact Nat.le_refl _
def cand (off f : Nat → Int) (W : Int) (n b : Nat) : Option Int :=
  match (sel n b)[0]?, (sel n b).getLast? with
  | some i, some j => if off j - off i < W then some (wsum f (sel n b)) else none
  | _, _ => none
def bst (c : Nat → Option Int) : Nat → Int
  | 0 => 0
  | k + 1 => match c (k + 1) with
    | none => bst c k
    | some x => if x > bst c k then x else bst c k
theorem bst_ge {c : Nat → Option Int} : ∀ {k j : Nat} {x : Int}, 1 ≤ j → j ≤ k → c j = some x → x ≤ bst c k
  | 0, j, x, h1, h2, _ => by omega
  | k + 1, j, x, h1, h2, h => by
    show x ≤ (match c (k + 1) with | none => bst c k | some x => if x > bst c k then x else bst c k)
    by_cases e : j = k + 1
    · subst e
      rw [h]
      show x ≤ if x > bst c k then x else bst c k
      split <;> omega
    · have ih := bst_ge (c := c) (k := k) h1 (by omega) h
      cases c (k + 1) with
      | none => exact ih
      | some y =>
        show x ≤ if y > bst c k then y else bst c k
        split <;> omega
theorem bst_le {c : Nat → Option Int} {M : Int} (h0 : 0 ≤ M) : ∀ {k : Nat}, (∀ j x, 1 ≤ j → j ≤ k → c j = some x → x ≤ M) → bst c k ≤ M
  | 0, _ => h0
  | k + 1, h => by
    have ih := bst_le (c := c) h0 (k := k) fun j x h1 h2 => h j x h1 (by omega)
    show (match c (k + 1) with | none => bst c k | some x => if x > bst c k then x else bst c k) ≤ M
    cases e : c (k + 1) with
    | none => exact ih
    | some y =>
      have := h (k + 1) y (by omega) (Nat.le_refl _) e
      show (if y > bst c k then y else bst c k) ≤ M
      split <;> omega
theorem bst_win {off f : Nat → Int} {W : Int} {n : Nat} (hn : 0 < n) (hW : 0 < W) (hf : ∀ k, 0 ≤ f k) (ho : ∀ i j, i ≤ j → j < n → off i ≤ off j) :
    bst (cand off f W n) (2 ^ n - 1) = mxL (wsum f (win off W n 0)) ((List.range (n - 1)).map fun i => wsum f (win off W n (i + 1))) := by
  have mem : ∀ i, i < n → wsum f (win off W n i) ≤ mxL (wsum f (win off W n 0)) ((List.range (n - 1)).map fun i => wsum f (win off W n (i + 1))) := fun i hi => by
    cases i with
    | zero => exact (mxL_ge _ _).1
    | succ i => exact (mxL_ge _ _).2 _ (List.mem_map.mpr ⟨i, List.mem_range.mpr (by omega), rfl⟩)
  refine Int.le_antisymm (bst_le (Int.le_trans (wsum_nn hf _) (mem 0 hn)) fun b x h1 h2 hc => ?_) ?_
  · unfold cand at hc
    cases e1 : (sel n b)[0]? with
    | none => rw [e1] at hc; cases hc
    | some i =>
      cases e2 : (sel n b).getLast? with
      | none => rw [e1, e2] at hc; cases hc
      | some j =>
        rw [e1, e2] at hc
        have hc : (if off j - off i < W then some (wsum f (sel n b)) else none) = some x := hc
        split at hc
        · rename_i hw
          cases hc
          have pw : (sel n b).Pairwise (· < ·) := (range_lt n).filter _
          have mi : i ∈ sel n b := List.mem_of_getElem? e1
          have mj : j ∈ sel n b := List.mem_of_getLast? e2
          have hi : i < n := List.mem_range.mp (List.mem_filter.mp mi).1
          have hj : j < n := List.mem_range.mp (List.mem_filter.mp mj).1
          refine Int.le_trans ?_ (mem i hi)
          refine wsum_le hf fun k hk hp => ?_
          have hk : k < n := List.mem_range.mp hk
          have mk : k ∈ sel n b := List.mem_filter.mpr ⟨List.mem_range.mpr hk, hp⟩
          have a1 := head_le pw e1 k mk
          have a2 := le_last pw e2 k mk
          have a3 := ho k j a2 hj
          unfold winP
          rw [Bool.and_eq_true]
          exact ⟨decide_eq_true a1, decide_eq_true (by omega)⟩
        · cases hc
  · have key : ∀ i, i < n → wsum f (win off W n i) ≤ bst (cand off f W n) (2 ^ n - 1) := fun i hi => by
      obtain ⟨b, hb, hs⟩ := sel_of (winP off W i) n
      have wi : winP off W i i = true := by
        unfold winP
        rw [Bool.and_eq_true]
        exact ⟨decide_eq_true (Nat.le_refl _), decide_eq_true (by omega)⟩
      have mi : i ∈ sel n b := by rw [hs]; exact List.mem_filter.mpr ⟨List.mem_range.mpr hi, wi⟩
      have pw : (sel n b).Pairwise (· < ·) := (range_lt n).filter _
      have hw : win off W n i = sel n b := hs.symm
      rw [hw]
      have b1 : 1 ≤ b := by
        rcases Nat.eq_zero_or_pos b with z | z
        · subst z
          have := (List.mem_filter.mp mi).2
          rw [Nat.zero_div] at this
          cases this
        · exact z
      refine bst_ge b1 (by omega) ?_
      unfold cand
      cases e1 : (sel n b)[0]? with
      | none =>
        have : sel n b = [] := by
          cases q : sel n b with
          | nil => rfl
          | cons a r => rw [q] at e1; cases e1
        rw [this] at mi
        cases mi
      | some i' =>
        have a1 := head_le pw e1 i mi
        have m' : i' ∈ sel n b := List.mem_of_getElem? e1
        have q' : winP off W i i' = true := by rw [hs] at m'; exact (List.mem_filter.mp m').2
        unfold winP at q'
        rw [Bool.and_eq_true] at q'
        have a2 := of_decide_eq_true q'.1
        have e : i' = i := by omega
        subst e
        cases e2 : (sel n b).getLast? with
        | none =>
          rw [List.getLast?_eq_none_iff] at e2
          rw [e2] at mi
          cases mi
        | some j =>
          have mj : j ∈ sel n b := List.mem_of_getLast? e2
          have qj : winP off W i' j = true := by rw [hs] at mj; exact (List.mem_filter.mp mj).2
          unfold winP at qj
          rw [Bool.and_eq_true] at qj
          show (if off j - off i' < W then some (wsum f (sel n b)) else none) = _
          rw [if_pos (of_decide_eq_true qj.2)]
    rcases List.mem_cons.mp (mxL_mem ((List.range (n - 1)).map fun i => wsum f (win off W n (i + 1))) (wsum f (win off W n 0))) with h | h
    · rw [h]
      exact key 0 hn
    · obtain ⟨i, hi, e⟩ := List.mem_map.mp h
      rw [← e]
      exact key (i + 1) (by have := List.mem_range.mp hi; omega)
theorem rng1_of {j : Int} (h : -1000000 < j ∧ j < 1000000) : sealed rng1D [.int j] = some ((List.range j.toNat).map fun (i : Nat) => D.int (0 + (i : Int))) := by rw [seal_eq]; exact if_pos h
theorem rng2_of {i j : Int} (h : -1000000 < i ∧ i < 1000000 ∧ -1000000 < j ∧ j < 1000000) : sealed rng2D [.int i, .int j] = some ((List.range (j - i).toNat).map fun (k : Nat) => D.int (i + (k : Int))) := by rw [seal_eq]; exact if_pos h
theorem list_l {xs : List D} : sealed listD [.lst xs] = some (.lst xs) := by rw [seal_eq]; rfl
theorem isT_i {T : String} {i : Int} : sealed (isT T) [.int i] = some (.bl (kits "int" T)) := by rw [seal_eq]; rfl
theorem isT_l {T : String} {i : List D} : sealed (isT T) [.lst i] = some (.bl (kits "list" T)) := by rw [seal_eq]; rfl
theorem k_ii : kits "int" "int" = true := by decide
theorem k_ib : kits "int" "bool" = false := by decide
theorem k_ll : kits "list" "list" = true := by decide
theorem ix0 {a : D} {r : List D} : atI (a :: r) 0 = some a := by
  have := atI_nat' (xs := a :: r) (n := 0) (by simp)
  exact this
theorem atI_num {xs : List D} {i : Int} {n : Nat} {x : D} (h : xs[n]? = some x) (hi : i = n := by rfl) : atI xs i = some x := atI_of hi h
theorem atI_last {xs : List D} {x : D} : atI (xs ++ [x]) (-1) = some x := by
  unfold atI ixN
  rw [if_neg (by omega), if_pos (by rw [List.length_append, List.length_singleton]; omega)]
  show (xs ++ [x])[((-1 : Int) + ((xs ++ [x]).length : Int)).toNat]? = _
  rw [show ((-1 : Int) + ((xs ++ [x]).length : Int)).toNat = xs.length from by rw [List.length_append, List.length_singleton]; omega, List.getElem?_append_right (Nat.le_refl _), Nat.sub_self]
  rfl
theorem max2_ii {i j : Int} : sealed max2D [.int i, .int j] = some (.int (if j > i then j else i)) := by rw [seal_eq]; rfl
theorem min2_ii {i j : Int} : sealed min2D [.int i, .int j] = some (.int (if j < i then j else i)) := by rw [seal_eq]; rfl
theorem abs_i {i : Int} : sealed absD [.int i] = some (.int (if i < 0 then -i else i)) := by rw [seal_eq]; rfl
theorem int_b {b : Bool} : sealed intD [.bl b] = some (.int (if b then 1 else 0)) := by rw [seal_eq]; rfl
theorem sum_i {xs : List Int} : sealed sumD [.lst (xs.map D.int)] = some (.int xs.sum) := by
  rw [seal_eq]
  show (inS _).map _ = _
  rw [inS_map]
  rfl
theorem at_list {xs : List Int} {i : Int} (h0 : 0 ≤ i) (h1 : i < xs.length) : ∃ x ∈ xs, atI (xs.map D.int) i = some (.int x) := by
  obtain ⟨k, rfl⟩ := Int.eq_ofNat_of_zero_le h0
  have hk : k < xs.length := by omega
  exact ⟨xs[k], List.getElem_mem hk, atI_of rfl (by rw [List.getElem?_map, List.getElem?_eq_getElem hk]; rfl)⟩
inductive Nums : Nat → D → Prop
  | int (k : Nat) (i : Int) : Nums k (.int i)
  | lst {k : Nat} {xs : List D} (h : ∀ x ∈ xs, Nums k x) : Nums (k + 1) (.lst xs)
  | tup {k : Nat} {xs : List D} (h : ∀ x ∈ xs, Nums k x) : Nums (k + 1) (.tup xs)
theorem nums_all {k : Nat} (ih : ∀ d, Nums k d → ∃ y, toPy d = some y ∧ PyData.canLay0 y = true ∧ PyData.depth y ≤ k) : ∀ xs : List D, (∀ x ∈ xs, Nums k x) → ∃ ys, toPys xs = some ys ∧ PyData.canLayAll0 ys = true ∧ PyData.depthAll ys ≤ k
  | [], _ => ⟨[], rfl, rfl, Nat.zero_le _⟩
  | x :: xs, h => by
    obtain ⟨y, h1, h2, h3⟩ := ih x (h x List.mem_cons_self)
    obtain ⟨ys, g1, g2, g3⟩ := nums_all ih xs fun z hz => h z (List.mem_cons_of_mem _ hz)
    refine ⟨y :: ys, by rw [toPys, h1, g1]; rfl, ?_, ?_⟩
    · show (PyData.canLay0 y && PyData.canLayAll0 ys) = true
      rw [h2, g2]
      rfl
    · show max (PyData.depth y) (PyData.depthAll ys) ≤ k
      omega
theorem nums_py : ∀ (k : Nat) (d : D), Nums k d → ∃ y, toPy d = some y ∧ PyData.canLay0 y = true ∧ PyData.depth y ≤ k
  | k, _, .int _ i => ⟨.int i, rfl, rfl, Nat.zero_le _⟩
  | k + 1, _, .lst (xs := xs) h => by
    obtain ⟨ys, h1, h2, h3⟩ := nums_all (nums_py k) xs h
    exact ⟨.list ys, by rw [toPy, h1]; rfl, h2, Nat.succ_le_succ h3⟩
  | k + 1, _, .tup (xs := xs) h => by
    obtain ⟨ys, h1, h2, h3⟩ := nums_all (nums_py k) xs h
    exact ⟨.tuple ys, by rw [toPy, h1]; rfl, h2, Nat.succ_le_succ h3⟩
theorem eqX_self {k : Nat} {d : D} (h : Nums k d) (hk : k ≤ 64) : eqX d d = some true := by
  obtain ⟨y, h1, h2, h3⟩ := nums_py k d h
  unfold eqX
  rw [h1, bindS, bindS]
  have s : SeqAt.shaped y = true := by
    unfold SeqAt.shaped
    rw [h2, decide_eq_true (by omega)]
    rfl
  rw [if_pos ⟨s, s⟩, PySem.SeqAt.eqv_refl y h2]
theorem neD_lst {k : Nat} {xs : List D} (h : Nums k (.lst xs)) (hk : k ≤ 64) : sealed neD (.lst xs) (.lst xs) = some (.bl false) := by
  rw [seal_eq]
  show (eqX (.lst xs) (.lst xs)).map _ = _
  rw [eqX_self h hk]
  rfl
theorem eqD_lst {k : Nat} {xs : List D} (h : Nums k (.lst xs)) (hk : k ≤ 64) : sealed eqD (.lst xs) (.lst xs) = some (.bl true) := by
  rw [seal_eq]
  show (eqX (.lst xs) (.lst xs)).map _ = _
  rw [eqX_self h hk]
  rfl
theorem nums_ints (xs : List Int) : Nums 1 (.lst (xs.map D.int)) := .lst fun x hx => by
  obtain ⟨i, _, rfl⟩ := List.mem_map.mp hx
  exact .int _ _
theorem cut_from {α : Type} {f : α → D} {xs : List α} {k : Nat} : sealed slDD (.lst (xs.map f)) (some (k : Int)) none = some (.lst ((xs.drop k).map f)) := by
  rw [seal_eq]
  show some (D.lst (cutD _ _ _)) = _
  unfold cutD
  rw [HT.sIx_nat, HT.sIx_none, List.length_map, List.map_drop]
  congr 2
  by_cases h : k ≤ xs.length
  · rw [Nat.min_eq_left h, List.take_of_length_le (by rw [List.length_drop, List.length_map]; omega)]
  · rw [Nat.min_eq_right (by omega), List.drop_eq_nil_of_le (by rw [List.length_map]; omega), List.drop_eq_nil_of_le (by rw [List.length_map]; omega), List.take_nil]
def mixZ (c o p : Int) : Int := ((c % p + 12345 + 31 * o * o + o) * 48271 % p) * ((c % p + 12345 + 31 * o * o + o) * 48271 % p) % 998244353 / 3
theorem mixZ_nn (c o p : Int) : 0 ≤ mixZ c o p := by unfold mixZ; omega
theorem F_mix {c o p : Int} (hp : 0 < p) (hp2 : p < 18446744073709551616) (ho : 0 ≤ o) (ho2 : o < 1000) : F_law_mix [.int c, .int o, .int p] = some (.int (mixZ c o p)) := by
  rw [F_law_mix, seal_eq]
  refine run_rt ?_
  show B_law_mix [some (.int c), some (.int o), some (.int p), none] = _
  unfold B_law_mix mixZ
  have h1 : 0 ≤ (c % p + 12345 + 31 * o * o + o) * 48271 % p := Int.emod_nonneg _ (by omega)
  have h2 : (c % p + 12345 + 31 * o * o + o) * 48271 % p < p := Int.emod_lt_of_pos _ hp
  ktf_call (hp)
  generalize (c % p + 12345 + 31 * o * o + o) * 48271 % p = m at h1 h2 ⊢
  k_search (hp)
structure Wh where
  gap : Int
  low : Int
  high : Int
def Wh.t (w : Wh) : D := .tup [.int w.gap, .int w.low, .int w.high]
structure Wh.Ok (w : Wh) : Prop where
  g : 1 ≤ w.gap
  l : 0 ≤ w.low
  h : 0 ≤ w.high
theorem nums_ws (ws : List Wh) : Nums 2 (.lst (ws.map Wh.t)) := .lst fun x hx => by
  obtain ⟨w, _, rfl⟩ := List.mem_map.mp hx
  refine .tup fun y hy => ?_
  simp only [List.mem_cons, List.not_mem_nil, or_false] at hy
  rcases hy with rfl | rfl | rfl <;> exact .int _ _
theorem F_lwheels {c : Int} {n : Nat} (h8 : n ≤ 8) : ∃ ws : List Wh, ws.length = n ∧ (∀ w ∈ ws, w.Ok) ∧ F_law_wheels [.int c, .int (n : Int)] = some (.lst (ws.map Wh.t)) := by
  obtain ⟨e', hloop, ws, left, o4, o5, o6, o7, o8, o9, rfl, hl, hok, _, _⟩ := forD_end (g := nmG 4) (b := (seqS (setS 5 (mk [false, false, true, false, false, false, false, false, false, false] (callD F_law_mix (aCons (vD 0) (aCons (oD (sealed addD) (cD (.int 80)) (vD 4)) (aCons (cD (.int 1000003)) aNil)))))) (seqS (setS 6 (mk [false, false, true, false, false, false, false, false, false, false] (callD (sealed min2D) (aCons (cD (.int 100)) (aCons (oD (sealed subD) (vD 3) (oD (sealed subD) (oD (sealed subD) (vD 1) (cD (.int 1))) (vD 4))) aNil))))) (seqS (setS 7 (mk [false, false, true, false, false, false, false, false, false, false] (oD (sealed ixD) (lstD (aCons (cD (.int 1)) (aCons (vD 6) (aCons (oD (sealed addD) (cD (.int 1)) (oD (sealed modD) (oD (sealed fdivC) (vD 5) (cD (.int 4))) (vD 6))) (aCons (oD (sealed addD) (cD (.int 1)) (oD (sealed modD) (oD (sealed fdivC) (vD 5) (cD (.int 4))) (callD (sealed min2D) (aCons (vD 6) (aCons (cD (.int 30)) aNil))))) aNil))))) (oD (sealed modD) (vD 5) (cD (.int 4)))))) (seqS (setS 8 (mk [false, false, true, false, false, false, false, false, false, false] (oD (sealed ixD) (lstD (aCons (oD (sealed modD) (oD (sealed fdivC) (vD 5) (cD (.int 16))) (cD (.int 10))) (aCons (oD (sealed modD) (oD (sealed fdivC) (vD 5) (cD (.int 16))) (cD (.int 1000))) (aCons (cD (.int 1000000)) (aCons (oD (sealed modD) (oD (sealed addD) (vD 0) (vD 5)) (cD (.int 1000001))) aNil))))) (oD (sealed modD) (oD (sealed fdivC) (vD 5) (cD (.int 4))) (cD (.int 4)))))) (seqS (setS 9 (mk [false, false, true, false, false, false, false, false, false, false] (oD (sealed ixD) (lstD (aCons (vD 8) (aCons (cD (.int 0)) (aCons (oD (sealed modD) (oD (sealed fdivC) (vD 5) (cD (.int 64))) (oD (sealed addD) (vD 8) (cD (.int 1)))) aNil)))) (oD (sealed modD) (oD (sealed fdivC) (vD 5) (cD (.int 32))) (cD (.int 3)))))) (seqS (appS 2 (mk [false, false, true, false, false, false, false, false, false, false] (tupD (aCons (vD 7) (aCons (vD 9) (aCons (vD 8) aNil)))))) (ifS (bD (oD (sealed gtD) (vD 4) (cD (.int 0)))) (setS 3 (mk [false, false, true, false, false, false, false, false, false, false] (oD (sealed subD) (vD 3) (vD 7)))) nxS)))))))) (ds := (List.range n).map fun (i : Nat) => D.int (0 + (i : Int))) (env := [some (.int c), some (.int (n : Int)), some (.lst []), some (.int 200), none, none, none, none, none, none])
    (fun i e => ∃ (ws : List Wh) (left : Int) (o4 o5 o6 o7 o8 o9 : Option D), e = [some (.int c), some (.int (n : Int)), some (.lst (ws.map Wh.t)), some (.int left), o4, o5, o6, o7, o8, o9] ∧ ws.length = i ∧ (∀ w ∈ ws, w.Ok) ∧ (n : Int) - (i : Int) ≤ left ∧ left ≤ 200)
    ⟨[], 200, none, none, none, none, none, none, rfl, rfl, fun w h => (by cases h), by omega, by omega⟩ (by
      rintro i d e hd ⟨ws, left, o4, o5, o6, o7, o8, o9, rfl, hl, hok, hlo, hhi⟩
      rw [List.getElem?_map] at hd
      obtain ⟨k, hk, rfl⟩ := Option.map_eq_some_iff.mp hd
      obtain ⟨hk8, hk⟩ := List.getElem?_eq_some_iff.mp hk
      rw [List.getElem_range] at hk
      subst hk
      have hi : i < n := by simpa using hk8
      refine ⟨_, rfl, ?_⟩
      have hmix := F_mix (c := c) (o := 80 + (i : Int)) (p := 1000003) (by decide) (by decide) (by omega) (by omega)
      have d0 := mixZ_nn c (80 + (i : Int)) 1000003
      generalize mixZ c (80 + (i : Int)) 1000003 = dr at hmix d0
      obtain ⟨m, hm, m1, m2⟩ : ∃ m : Int, (if left - ((n : Int) - 1 - (i : Int)) < 100 then left - ((n : Int) - 1 - (i : Int)) else 100) = m ∧ 1 ≤ m ∧ m ≤ left - ((n : Int) - 1 - (i : Int)) := ⟨_, rfl, by split <;> omega, by split <;> omega⟩
      obtain ⟨q, hq, q1, q2⟩ : ∃ q : Int, (if 30 < m then 30 else m) = q ∧ 1 ≤ q ∧ q ≤ m := ⟨_, rfl, by split <;> omega, by split <;> omega⟩
      have b1 : 0 ≤ dr / 4 % m := Int.emod_nonneg _ (by omega)
      have b2 : dr / 4 % m < m := Int.emod_lt_of_pos _ (by omega)
      have b3 : 0 ≤ dr / 4 % q := Int.emod_nonneg _ (by omega)
      have b4 : dr / 4 % q < q := Int.emod_lt_of_pos _ (by omega)
      obtain ⟨g, gm, hg⟩ := at_list (xs := [1, m, 1 + dr / 4 % m, 1 + dr / 4 % q]) (i := dr % 4) (Int.emod_nonneg _ (by decide)) (Int.emod_lt_of_pos _ (by decide))
      have hg : atI [D.int 1, .int m, .int (1 + dr / 4 % m), .int (1 + dr / 4 % q)] (dr % 4) = some (.int g) := hg
      have g1 : 1 ≤ g ∧ g ≤ m := by
        simp only [List.mem_cons, List.not_mem_nil, or_false] at gm
        omega
      obtain ⟨h, hm2, hh⟩ := at_list (xs := [dr / 16 % 10, dr / 16 % 1000, 1000000, (c + dr) % 1000001]) (i := dr / 4 % 4) (Int.emod_nonneg _ (by decide)) (Int.emod_lt_of_pos _ (by decide))
      have hh : atI [D.int (dr / 16 % 10), .int (dr / 16 % 1000), .int 1000000, .int ((c + dr) % 1000001)] (dr / 4 % 4) = some (.int h) := hh
      have h1 : 0 ≤ h := by
        simp only [List.mem_cons, List.not_mem_nil, or_false] at hm2
        omega
      have b5 : 0 ≤ dr / 64 % (h + 1) := Int.emod_nonneg _ (by omega)
      obtain ⟨l, lm, hlw⟩ := at_list (xs := [h, 0, dr / 64 % (h + 1)]) (i := dr / 32 % 3) (Int.emod_nonneg _ (by decide)) (Int.emod_lt_of_pos _ (by decide))
      have hlw : atI [D.int h, .int 0, .int (dr / 64 % (h + 1))] (dr / 32 % 3) = some (.int l) := hlw
      have l1 : 0 ≤ l := by
        simp only [List.mem_cons, List.not_mem_nil, or_false] at lm
        omega
      have hlen : ws.length < 1000000 := by omega
      refine ⟨[some (.int c), some (.int (n : Int)), some (.lst ((ws ++ [Wh.mk g l h]).map Wh.t)), some (.int (if 0 < (i : Int) then left - g else left)), some (.int (i : Int)), some (.int dr), some (.int m), some (.int g), some (.int h), some (.int l)], ?_, ws ++ [Wh.mk g l h], _, _, _, _, _, _, _, rfl, by rw [List.length_append, List.length_singleton, hl], fun w hw => ?_, ?_, ?_⟩
      · skip
        ktf_call (Int.zero_add, hmix)
        ktf_call (min2_ii, hm)
        ktf_call (min2_ii, hq, ixD_l, hg)
        ktf_call (ixD_l, hh)
        ktf_call (ixD_l, hlw)
        ktf_call (hlen)
        by_cases hi0 : 0 < (i : Int)
        · skip
          k_search (decide_eq_true hi0, if_pos hi0, List.map_append, List.map_cons, List.map_nil, Wh.t)
        · skip
          k_search (decide_eq_false hi0, if_neg hi0, List.map_append, List.map_cons, List.map_nil, Wh.t, Bool.false_eq_true)
      · rcases List.mem_append.mp hw with hw | hw
        · exact hok w hw
        · rw [List.mem_singleton.mp hw]
          exact ⟨g1.1, l1, h1⟩
      · split <;> omega
      · split <;> omega)
  rw [List.length_map, List.length_range] at hl
  refine ⟨ws, hl, hok, ?_⟩
  rw [F_law_wheels, seal_eq]
  refine runF_rt ?_
  show B_law_wheels [some (.int c), some (.int (n : Int)), none, none, none, none, none, none, none, none] = _
  unfold B_law_wheels
  have hr : sealed rng1D [.int (n : Int)] = some ((List.range n).map fun (i : Nat) => D.int (0 + (i : Int))) := by
    have := rng1_of (j := (n : Int)) (by omega)
    rw [Int.toNat_natCast] at this
    exact this
  ktf_call (hr)
  ktf_call (hr)
  ktf_call (hr, hloop)
  k_search (hr)
def offN (ws : List Wh) (k : Nat) : Int := (((ws.drop 1).take k).map Wh.gap).sum
theorem offN_succ {ws : List Wh} {k : Nat} {w : Wh} (h : ws[k + 1]? = some w) : offN ws (k + 1) = offN ws k + w.gap := by
  unfold offN
  have e : (ws.drop 1)[k]? = some w := by rw [List.getElem?_drop, Nat.add_comm]; exact h
  rw [List.take_add_one, e, List.map_append, List.sum_append]
  simp
theorem offN_le {ws : List Wh} (ok : ∀ w ∈ ws, w.Ok) {i : Nat} : ∀ {j : Nat}, i ≤ j → j < ws.length → offN ws i ≤ offN ws j
  | 0, h, _ => by rw [Nat.le_zero.mp h]; exact Int.le_refl _
  | j + 1, h, hj => by
    by_cases e : i = j + 1
    · rw [e]
      exact Int.le_refl _
    · have ih := offN_le ok (i := i) (j := j) (by omega) (by omega)
      have e2 := offN_succ (List.getElem?_eq_getElem hj)
      have := (ok _ (List.getElem_mem hj)).g
      omega
def offL (ws : List Wh) (n : Nat) : List Int := (List.range n).map (offN ws)
theorem offL_succ (ws : List Wh) (n : Nat) : (offL ws (n + 1)).map D.int = (offL ws n).map D.int ++ [.int (offN ws n)] := by
  unfold offL
  rw [List.range_succ, List.map_append, List.map_append]
  rfl
theorem offL_len {ws : List Wh} {n : Nat} : (offL ws n).length = n := by unfold offL; rw [List.length_map, List.length_range]
theorem offL_at {ws : List Wh} {n k : Nat} (h : k < n) : atI ((offL ws n).map D.int) (k : Int) = some (.int (offN ws k)) := atI_of rfl (by
  unfold offL
  rw [List.getElem?_map, List.getElem?_map, List.getElem?_eq_getElem (by simpa using h), List.getElem_range]
  rfl)
theorem F_offs {ws : List Wh} (h8 : ws.length ≤ 8) : F_offsets_of [.lst (ws.map Wh.t)] = some (.lst ((offL ws ws.length).map .int)) := by
  obtain ⟨e', hloop, o2, rfl⟩ := forD_end (g := nmG 2) (b := (appW 1 (ifD (trD (vD 1)) (oD (sealed addD) (oD (sealed ixD) (vD 1) (uD (sealed negD) (cD (.int 1)))) (oD (sealed ixD) (vD 2) (cD (.int 0)))) (cD (.int 0))))) (ds := ws.map Wh.t) (env := [some (.lst (ws.map Wh.t)), some (.lst []), none])
    (fun i e => ∃ o2, e = [some (.lst (ws.map Wh.t)), some (.lst ((offL ws i).map .int)), o2]) ⟨none, rfl⟩ (by
      rintro i d e hd ⟨o2, rfl⟩
      rw [List.getElem?_map] at hd
      obtain ⟨w, hw, rfl⟩ := Option.map_eq_some_iff.mp hd
      have hi := (List.getElem?_eq_some_iff.mp hw).1
      have hx : sealed ixD w.t (.int 0) = some (.int w.gap) := by unfold Wh.t; rw [ixD_t]; exact ix0
      refine ⟨_, rfl, [some (.lst (ws.map Wh.t)), some (.lst ((offL ws (i + 1)).map .int)), some w.t], ?_, some w.t, rfl⟩
      cases i with
      | zero =>
        have e0 : offL ws 0 = [] := rfl
        have e1 : (offL ws (0 + 1)).map D.int = [.int 0] := rfl
        have t0 : truD (.lst ([] : List D)) = some false := rfl
        have fl : D.flat (.int 0) = true := rfl
        rw [e1, e0]
        k_search (ifD, trD, t0, fl, List.map_nil, Bool.false_eq_true, List.nil_append)
        simp
      | succ k =>
        have hlen : (offL ws (k + 1)).length < 1000000 := by rw [offL_len]; omega
        have t0 : truD (.lst ((offL ws (k + 1)).map D.int)) = some true := by rw [offL_succ]; show some (!((offL ws k).map D.int ++ [D.int (offN ws k)]).isEmpty) = _; simp
        have hl : atI ((offL ws (k + 1)).map D.int) (-1) = some (.int (offN ws k)) := by rw [offL_succ]; exact atI_last
        have fl : D.flat (.int (offN ws k + w.gap)) = true := rfl
        rw [offL_succ ws (k + 1), offN_succ hw]
        k_search (ifD, trD, t0, fl, ixD_l, hl, hx, hlen)
        )
  rw [List.length_map] at hloop
  rw [F_offsets_of, seal_eq]
  refine runF_rt ?_
  show B_offsets_of [some (.lst (ws.map Wh.t)), none, none] = _
  unfold B_offsets_of
  ktf_call (itemsD)
  ktf_call (itemsD, hloop)
  k_search (itemsD)
theorem comp_fld {ws : List Wh} {env caps : PD.Env} {i : Int} {f : Wh → Int} (hf : ∀ w : Wh, sealed ixD w.t (.int i) = some (.int (f w))) : compD yesB (oD (sealed ixD) (vD 0) (cD (.int i))) caps (ws.map Wh.t) = some ((ws.map f).map .int) := by
  rw [comp_map (f := fun w => D.int (f w)), List.map_map]
  · rfl
  · intro w _
    refine ⟨rfl, ?_⟩
    simp only [oD, vD_z, cD, bindS, hf]
theorem wh0 {w : Wh} : sealed ixD w.t (.int 0) = some (.int w.gap) := by unfold Wh.t; rw [ixD_t]; exact ix0
theorem wh1 {w : Wh} : sealed ixD w.t (.int 1) = some (.int w.low) := by unfold Wh.t; rw [ixD_t]; exact atI_num (n := 1) rfl
theorem wh2 {w : Wh} : sealed ixD w.t (.int 2) = some (.int w.high) := by unfold Wh.t; rw [ixD_t]; exact atI_num (n := 2) rfl
theorem F_span {ws : List Wh} (h8 : ws.length ≤ 8) : F_span_of [.lst (ws.map Wh.t)] = some (.int (offN ws (ws.length - 1))) := by
  rw [F_span_of, seal_eq]
  refine run_rt ?_
  show B_span_of [some (.lst (ws.map Wh.t))] = _
  unfold B_span_of
  have hc : sealed slDD (.lst (ws.map Wh.t)) (some 1) none = some (.lst ((ws.drop 1).map Wh.t)) := cut_from (k := 1)
  have hcomp : compF (itD (slD (sealed slDD) (vD 0) (atO (cD (.int 1))) noO)) yesB (oD (sealed ixD) (vD 0) (cD (.int 0))) [] [some (.lst (ws.map Wh.t))] = some (.lst (((ws.drop 1).map Wh.gap).map .int)) := by
    unfold compF
    simp only [itD, slD, atO, noO, vD_z, cD, bindS, hc, itemsD]
    rw [if_pos (by rw [List.length_map, List.length_drop]; omega), comp_fld (env := []) fun w => wh0]
    rfl
  have e : offN ws (ws.length - 1) = ((ws.drop 1).map Wh.gap).sum := by
    unfold offN
    rw [List.take_of_length_le (by rw [List.length_drop]; omega)]
  rw [e]
  k_search (hcomp, sum_i)
theorem win_eq {off f : Nat → Int} {W : Int} {n i : Nat} (hi : i ≤ n) : wsum f (win off W n i) = (((List.range (n - i)).filter fun j => decide (off (i + j) - off i < W)).map fun j => f (i + j)).sum := by
  obtain ⟨m, rfl⟩ : ∃ m, n = i + m := ⟨n - i, by omega⟩
  unfold wsum win
  rw [List.range_add, List.filter_append, Nat.add_sub_cancel_left]
  have e1 : (List.range i).filter (winP off W i) = [] := by
    rw [List.filter_eq_nil_iff]
    intro k hk
    have : k < i := List.mem_range.mp hk
    unfold winP
    rw [decide_eq_false (by omega)]
    exact Bool.false_ne_true
  rw [e1, List.nil_append, List.filter_map, List.map_map]
  have e2 : (winP off W i ∘ fun x => i + x) = fun j => decide (off (i + j) - off i < W) := by
    funext j
    show winP off W i (i + j) = _
    unfold winP
    rw [decide_eq_true (by omega), Bool.true_and]
  rw [e2]
  rfl
theorem F_great {f off : Nat → Int} {n : Nat} {W : Int} (hn : 0 < n) (h8 : n ≤ 8) : F_greatest_sum [.lst (((List.range n).map f).map .int), .lst (((List.range n).map off).map .int), .int W] = some (.int (mxL (wsum f (win off W n 0)) ((List.range (n - 1)).map fun i => wsum f (win off W n (i + 1))))) := by
  have atf : ∀ (g : Nat → Int) (k : Nat), k < n → atI (((List.range n).map g).map D.int) (k : Int) = some (.int (g k)) := fun g k hk => atI_of rfl (by
    rw [List.getElem?_map, List.getElem?_map, List.getElem?_eq_getElem (by simpa using hk), List.getElem_range]
    rfl)
  obtain ⟨e', hloop, o4, o5, o6, rfl⟩ := forD_end (g := tupG [4, 5]) (b := (seqS (setS 6 (mk [false, false, false, true, false, false, false] (compF (iaD (sealed rng2D) (aCons (vD 4) (aCons (callD (sealed lenD) (aCons (vD 1) aNil)) aNil))) (bD (oD (sealed ltD) (oD (sealed subD) (oD (sealed ixD) (vD 2) (vD 0)) (vD 1)) (vD 4))) (oD (sealed ixD) (vD 3) (vD 0)) [5, 1, 0, 2]))) (appS 3 (mk [false, false, false, true, false, false, false] (callD (sealed sumD) (aCons (vD 6) aNil)))))) (ds := enumG (((List.range n).map off).map .int)) (env := [some (.lst (((List.range n).map f).map .int)), some (.lst (((List.range n).map off).map .int)), some (.int W), some (.lst []), none, none, none])
    (fun i e => ∃ o4 o5 o6, e = [some (.lst (((List.range n).map f).map .int)), some (.lst (((List.range n).map off).map .int)), some (.int W), some (.lst (((List.range i).map fun i => wsum f (win off W n i)).map .int)), o4, o5, o6]) ⟨none, none, none, rfl⟩ (by
      rintro i d e hd ⟨o4, o5, o6, rfl⟩
      unfold enumG at hd
      rw [List.getElem?_mapIdx] at hd
      obtain ⟨x, hx, rfl⟩ := Option.map_eq_some_iff.mp hd
      have hi : i < n := by
        have := (List.getElem?_eq_some_iff.mp hx).1
        simpa using this
      rw [List.getElem?_map, List.getElem?_map, List.getElem?_eq_getElem (by simpa using hi), List.getElem_range] at hx
      cases hx
      refine ⟨_, rfl, ?_⟩
      have hr : sealed rng2D [.int (i : Int), .int (n : Int)] = some ((List.range (n - i)).map fun (k : Nat) => D.int ((i : Int) + (k : Int))) := by
        have := rng2_of (i := (i : Int)) (j := (n : Int)) (by omega)
        rw [show ((n : Int) - (i : Int)).toNat = n - i from by omega] at this
        exact this
      have hln : sealed lenD [.lst (((List.range n).map off).map D.int)] = some (.int (n : Int)) := by rw [lenD_l, List.length_map, List.length_map, List.length_range]
      have hcomp : compF (iaD (sealed rng2D) (aCons (vD 4) (aCons (callD (sealed lenD) (aCons (vD 1) aNil)) aNil))) (bD (oD (sealed ltD) (oD (sealed subD) (oD (sealed ixD) (vD 2) (vD 0)) (vD 1)) (vD 4))) (oD (sealed ixD) (vD 3) (vD 0)) [5, 1, 0, 2] [some (.lst (((List.range n).map f).map .int)), some (.lst (((List.range n).map off).map .int)), some (.int W), none, some (.int (i : Int)), some (.int (off i)), o6] = some (.lst ((((List.range (n - i)).filter fun j => decide (off (i + j) - off i < W)).map fun j => f (i + j)).map .int)) := by
        unfold compF
        simp only [iaD, aCons, aNil, callD, vD_z, vD_s, bindS, hln, hr]
        rw [if_pos (by rw [List.length_map, List.length_range]; omega), comp_sel (p := fun j => decide (off (i + j) - off i < W)) (f := fun j => D.int (f (i + j)))]
        · rw [List.map_map]
          rfl
        · intro j hj
          have hj : i + j < n := by have := List.mem_range.mp hj; omega
          have a1 := atf off (i + j) hj
          have a2 := atf f (i + j) hj
          rw [Int.natCast_add] at a1 a2
          show (bD (oD (sealed ltD) (oD (sealed subD) (oD (sealed ixD) (vD 2) (vD 0)) (vD 1)) (vD 4)) [some (.int ((i : Int) + (j : Int))), some (.int (off i)), some (.lst (((List.range n).map off).map .int)), some (.lst (((List.range n).map f).map .int)), some (.int W)] = _) ∧ (_ → oD (sealed ixD) (vD 3) (vD 0) [some (.int ((i : Int) + (j : Int))), some (.int (off i)), some (.lst (((List.range n).map off).map .int)), some (.lst (((List.range n).map f).map .int)), some (.int W)] = _)
          refine ⟨?_, fun _ => ?_⟩
          · simp only [bD, oD, vD_z, vD_s, bindS, ixD_l, a1, subD_ii, ltD_ii]
          · simp only [oD, vD_z, vD_s, bindS, ixD_l, a2]
      have hlen : i < 1000000 := by omega
      refine ⟨[some (.lst (((List.range n).map f).map .int)), some (.lst (((List.range n).map off).map .int)), some (.int W), some (.lst (((List.range (i + 1)).map fun i => wsum f (win off W n i)).map .int)), some (.int (i : Int)), some (.int (off i)), some (.lst ((((List.range (n - i)).filter fun j => decide (off (i + j) - off i < W)).map fun j => f (i + j)).map .int))], ?_, _, _, _, rfl⟩
      rw [List.range_succ, List.map_append, List.map_append, List.map_cons, List.map_nil, List.map_cons, List.map_nil, win_eq (i := i) (by omega)]
      have hcomp' : compF _ _ _ _ _ = _ := hcomp
      ktf_call (hcomp')
      k_search (sum_i, hlen)
      )
  have hel : (enumG (((List.range n).map off).map D.int)).length = n := by unfold enumG; rw [List.length_mapIdx, List.length_map, List.length_map, List.length_range]
  rw [hel] at hloop
  rw [F_greatest_sum, seal_eq]
  refine run_rt ?_
  show B_greatest_sum [some (.lst (((List.range n).map f).map .int)), some (.lst (((List.range n).map off).map .int)), some (.int W), none, none, none, none] = _
  unfold B_greatest_sum
  have hmx : sealed maxLD [.lst (((List.range n).map fun i => wsum f (win off W n i)).map .int)] = some (.int (mxL (wsum f (win off W n 0)) ((List.range (n - 1)).map fun i => wsum f (win off W n (i + 1))))) := by
    obtain ⟨m, rfl⟩ : ∃ m, n = m + 1 := ⟨n - 1, by omega⟩
    rw [seal_eq]
    show (inS _).bind _ = _
    rw [inS_map, bindS, List.range_succ_eq_map, List.map_cons, List.map_map]
    rfl
  ktf_call (hloop)
  ktf_call (hloop)
  k_search (hmx)
theorem band_one {x : Nat} : Builtin.bitAnd (x : Int) 1 = ((x % 2 : Nat) : Int) := by
  unfold Builtin.bitAnd
  rw [decide_eq_true (show (0 : Int) ≤ (x : Int) by omega), decide_eq_true (show (0 : Int) ≤ 1 by omega)]
  show ((Int.toNat (x : Int) &&& Int.toNat 1 : Nat) : Int) = _
  rw [Int.toNat_natCast, show Int.toNat 1 = 1 from rfl, Nat.and_one_is_mod]
theorem no_bits : ∀ {n b : Nat}, b < 2 ^ n → (∀ k, k < n → ¬ (b / 2 ^ k % 2 == 1) = true) → b = 0
  | 0, b, h, _ => by
    rw [Nat.pow_zero] at h
    omega
  | n + 1, b, h, hk => by
    have e2 : 2 ^ (n + 1) = 2 ^ n * 2 := Nat.pow_succ ..
    have d2 : b / 2 ^ n < 2 := Nat.div_lt_of_lt_mul (by rw [← e2]; exact h)
    have d0 := hk n (Nat.lt_succ_self n)
    rw [beq_iff_eq] at d0
    have z : b / 2 ^ n = 0 := by
      generalize b / 2 ^ n = z at d2 d0 ⊢
      omega
    have lt : b < 2 ^ n := by
      rcases Nat.div_eq_zero_iff.mp z with q | q
      · have : 0 < 2 ^ n := Nat.pow_pos (by decide)
        omega
      · exact q
    exact no_bits lt fun k hk' => hk k (by omega)
theorem sel_ne {n b : Nat} (h1 : 1 ≤ b) (h2 : b < 2 ^ n) : sel n b ≠ [] := fun e => by
  unfold sel at e
  rw [List.filter_eq_nil_iff] at e
  have := no_bits h2 fun k hk => e k (List.mem_range.mpr hk)
  omega
def loN (ws : List Wh) (k : Nat) : Int := ((ws[k]?).map Wh.low).getD 0
def hiN (ws : List Wh) (k : Nat) : Int := ((ws[k]?).map Wh.high).getD 0
theorem fld_range {ws : List Wh} {f : Wh → Int} : (List.range ws.length).map (fun k => ((ws[k]?).map f).getD 0) = ws.map f := by
  refine List.ext_getElem? fun i => ?_
  rw [List.getElem?_map, List.getElem?_map]
  by_cases h : i < ws.length
  · rw [List.getElem?_eq_getElem (by simpa using h), List.getElem_range]
    show some ((Option.map f ws[i]?).getD 0) = _
    rw [List.getElem?_eq_getElem h]
    rfl
  · rw [List.getElem?_eq_none (by simpa using h), List.getElem?_eq_none (by omega)]
    rfl
theorem F_sums {ws : List Wh} {W : Int} (hn : 0 < ws.length) (h8 : ws.length ≤ 8) : F_law_sums [.lst (ws.map Wh.t), .lst ((offL ws ws.length).map .int), .int W] =
    some (.lst [.int (bst (cand (offN ws) (loN ws) W ws.length) (2 ^ ws.length - 1)), .int (bst (cand (offN ws) (hiN ws) W ws.length) (2 ^ ws.length - 1))]) := by
  have p8 : 2 ^ ws.length ≤ 2 ^ 8 := Nat.pow_le_pow_right (by decide) h8
  have p28 : (2 : Nat) ^ 8 = 256 := rfl
  have p1 : 0 < 2 ^ ws.length := Nat.pow_pos (by decide)
  have hln : sealed lenD [.lst (ws.map Wh.t)] = some (.int (ws.length : Int)) := by rw [lenD_l, List.length_map]
  have hrn : sealed rng1D [.int (ws.length : Int)] = some ((List.range ws.length).map fun (i : Nat) => D.int (0 + (i : Int))) := by
    have := rng1_of (j := (ws.length : Int)) (by omega)
    rw [Int.toNat_natCast] at this
    exact this
  have hsome : ∀ (b : Nat) (o1 o2 o5 : Option D), compF (iaD (sealed rng1D) (aCons (callD (sealed lenD) (aCons (vD 0) aNil)) aNil)) (bD (oD (sealed eqD) (oD (sealed bandD) (oD (sealed shrD) (vD 1) (vD 0)) (cD (.int 1))) (cD (.int 1)))) (vD 0) [4] [some (.lst (ws.map Wh.t)), o1, o2, none, some (.int (b : Int)), o5] = some (.lst (((sel ws.length b).map fun (k : Nat) => (k : Int)).map .int)) := fun b o1 o2 o5 => by
    unfold compF
    simp only [iaD, aCons, aNil, callD, vD_z, bindS, hln, hrn]
    rw [if_pos (by rw [List.length_map, List.length_range]; omega), comp_sel (p := fun k => b / 2 ^ k % 2 == 1) (f := fun k : Nat => D.int (k : Int))]
    · rw [List.map_map]
      rfl
    · intro k _
      show (bD (oD (sealed eqD) (oD (sealed bandD) (oD (sealed shrD) (vD 1) (vD 0)) (cD (.int 1))) (cD (.int 1))) [some (.int (0 + (k : Int))), some (.int (b : Int))] = _) ∧ (_ → vD 0 [some (.int (0 + (k : Int))), some (.int (b : Int))] = _)
      have hs : sealed shrD (.int (b : Int)) (.int (k : Int)) = some (.int ((b / 2 ^ k : Nat) : Int)) := by
        rw [seal_eq]
        show (if 0 ≤ (k : Int) then some (D.int ((b : Int) / 2 ^ (k : Int).toNat)) else none) = _
        rw [if_pos (by omega), Int.toNat_natCast, Int.natCast_ediv, Int.natCast_pow]
        rfl
      have hb : sealed bandD (.int ((b / 2 ^ k : Nat) : Int)) (.int 1) = some (.int ((b / 2 ^ k % 2 : Nat) : Int)) := by
        rw [seal_eq]
        show some (D.int (Builtin.bitAnd _ _)) = _
        rw [band_one]
      refine ⟨?_, fun _ => by rw [vD_z, Int.zero_add]⟩
      simp only [bD, oD, vD_z, vD_s, cD, bindS, Int.zero_add, hs, hb, eqD_ii]
      congr 1
      generalize b / 2 ^ k % 2 = z
      by_cases e : z = 1
      · subst e; rfl
      · rw [beq_eq_false_iff_ne.mpr e]
        exact decide_eq_false (by omega)
  have hwx : ∀ k, k < ws.length → atI (ws.map Wh.t) (k : Int) = some ((ws[k]?).elim .non Wh.t) := fun k hk => atI_of rfl (by rw [List.getElem?_map, List.getElem?_eq_getElem hk]; rfl)
  have hsum : ∀ (b : Nat) (i : Int) (f : Wh → Int) (o1 o2 o3 o4 : Option D), (∀ w : Wh, sealed ixD w.t (.int i) = some (.int (f w))) →
      compF (itD (vD 5)) yesB (oD (sealed ixD) (oD (sealed ixD) (vD 1) (vD 0)) (cD (.int i))) [0] [some (.lst (ws.map Wh.t)), o1, o2, o3, o4, some (.lst (((sel ws.length b).map fun (k : Nat) => (k : Int)).map .int))] = some (.lst (((sel ws.length b).map fun k => ((ws[k]?).map f).getD 0).map .int)) := fun b i f o1 o2 o3 o4 hf => by
    have sl : (sel ws.length b).length ≤ ws.length := by
      have := List.length_filter_le (fun k => b / 2 ^ k % 2 == 1) (List.range ws.length)
      rw [List.length_range] at this
      exact this
    unfold compF
    simp only [itD, vD_z, vD_s, bindS, itemsD]
    rw [if_pos (by rw [List.length_map, List.length_map]; omega), List.map_map, comp_map (mk := D.int ∘ fun (k : Nat) => (k : Int)) (f := fun k => D.int (((ws[k]?).map f).getD 0)), List.map_map]
    · rfl
    · intro k hk
      have hk : k < ws.length := List.mem_range.mp (List.mem_filter.mp hk).1
      refine ⟨rfl, ?_⟩
      show oD (sealed ixD) (oD (sealed ixD) (vD 1) (vD 0)) (cD (.int i)) [some (.int (k : Int)), some (.lst (ws.map Wh.t))] = _
      have h1 := hwx k hk
      rw [List.getElem?_eq_getElem hk] at h1
      have h1 : atI (ws.map Wh.t) (k : Int) = some (ws[k]).t := h1
      simp only [oD, vD_z, vD_s, cD, bindS, ixD_l, h1, hf]
      rw [List.getElem?_eq_getElem hk]
      rfl
  obtain ⟨e', hloop, o4, o5, rfl⟩ := forD_end (g := nmG 4) (b := (seqS (setS 5 (mk [false, false, false, true, false, false] (compF (iaD (sealed rng1D) (aCons (callD (sealed lenD) (aCons (vD 0) aNil)) aNil)) (bD (oD (sealed eqD) (oD (sealed bandD) (oD (sealed shrD) (vD 1) (vD 0)) (cD (.int 1))) (cD (.int 1)))) (vD 0) [4]))) (ifS (bD (oD (sealed ltD) (oD (sealed subD) (oD (sealed ixD) (vD 1) (oD (sealed ixD) (vD 5) (uD (sealed negD) (cD (.int 1))))) (oD (sealed ixD) (vD 1) (oD (sealed ixD) (vD 5) (cD (.int 0))))) (vD 2))) (seqS (putS 3 (callD (sealed max2D) (aCons (oD (sealed ixD) (vD 3) (cD (.int 0))) (aCons (callD (sealed sumD) (aCons (compF (itD (vD 5)) yesB (oD (sealed ixD) (oD (sealed ixD) (vD 1) (vD 0)) (cD (.int 1))) [0]) aNil)) aNil))) (cD (.int 0))) (putS 3 (callD (sealed max2D) (aCons (oD (sealed ixD) (vD 3) (cD (.int 1))) (aCons (callD (sealed sumD) (aCons (compF (itD (vD 5)) yesB (oD (sealed ixD) (oD (sealed ixD) (vD 1) (vD 0)) (cD (.int 2))) [0]) aNil)) aNil))) (cD (.int 1)))) nxS))) (ds := (List.range (2 ^ ws.length - 1)).map fun (k : Nat) => D.int (1 + (k : Int))) (env := [some (.lst (ws.map Wh.t)), some (.lst ((offL ws ws.length).map .int)), some (.int W), some (.lst [.int 0, .int 0]), none, none])
    (fun i e => ∃ o4 o5, e = [some (.lst (ws.map Wh.t)), some (.lst ((offL ws ws.length).map .int)), some (.int W), some (.lst [.int (bst (cand (offN ws) (loN ws) W ws.length) i), .int (bst (cand (offN ws) (hiN ws) W ws.length) i)]), o4, o5]) ⟨none, none, rfl⟩ (by
      rintro i d e hd ⟨o4, o5, rfl⟩
      rw [List.getElem?_map] at hd
      obtain ⟨k, hk, rfl⟩ := Option.map_eq_some_iff.mp hd
      obtain ⟨hk8, hk⟩ := List.getElem?_eq_some_iff.mp hk
      rw [List.getElem_range] at hk
      subst hk
      have hi : i < 2 ^ ws.length - 1 := by simpa using hk8
      refine ⟨_, rfl, ?_⟩
      have ei : (1 : Int) + (i : Int) = ((i + 1 : Nat) : Int) := by omega
      have hs := hsome (i + 1) (some (.lst ((offL ws ws.length).map .int))) (some (.int W)) o5
      have ne := sel_ne (n := ws.length) (b := i + 1) (by omega) (by omega)
      have s1 := fun o3 o4 => hsum (i + 1) 1 Wh.low (some (.lst ((offL ws ws.length).map .int))) (some (.int W)) o3 o4 fun w => wh1
      have s2 := fun o3 o4 => hsum (i + 1) 2 Wh.high (some (.lst ((offL ws ws.length).map .int))) (some (.int W)) o3 o4 fun w => wh2
      have mem : ∀ k ∈ sel ws.length (i + 1), k < ws.length := fun k hk => List.mem_range.mp (List.mem_filter.mp hk).1
      obtain ⟨a, ha⟩ : ∃ a, (sel ws.length (i + 1))[0]? = some a := by
        cases q : sel ws.length (i + 1) with
        | nil => exact absurd q ne
        | cons a r => exact ⟨a, rfl⟩
      obtain ⟨z, hz⟩ : ∃ z, (sel ws.length (i + 1)).getLast? = some z := ⟨_, List.getLast?_eq_some_getLast ne⟩
      have la := mem a (List.mem_of_getElem? ha)
      have lz := mem z (List.mem_of_getLast? hz)
      have xa : atI (((sel ws.length (i + 1)).map fun (k : Nat) => (k : Int)).map D.int) 0 = some (.int (a : Int)) := atI_num (n := 0) (by rw [List.getElem?_map, List.getElem?_map, ha]; rfl)
      have xz : atI (((sel ws.length (i + 1)).map fun (k : Nat) => (k : Int)).map D.int) (-1) = some (.int (z : Int)) := by
        obtain ⟨r, hr⟩ := List.getLast?_eq_some_iff.mp hz
        rw [hr, List.map_append, List.map_append]
        exact atI_last
      have ya := offL_at (ws := ws) la
      have yz := offL_at (ws := ws) lz
      have c1 : cand (offN ws) (loN ws) W ws.length (i + 1) = if offN ws z - offN ws a < W then some (wsum (loN ws) (sel ws.length (i + 1))) else none := by unfold cand; rw [ha, hz]
      have c2 : cand (offN ws) (hiN ws) W ws.length (i + 1) = if offN ws z - offN ws a < W then some (wsum (hiN ws) (sel ws.length (i + 1))) else none := by unfold cand; rw [ha, hz]
      generalize hB1 : bst (cand (offN ws) (loN ws) W ws.length) i = B1
      generalize hB2 : bst (cand (offN ws) (hiN ws) W ws.length) i = B2
      have n1 : bst (cand (offN ws) (loN ws) W ws.length) (i + 1) = match cand (offN ws) (loN ws) W ws.length (i + 1) with | none => B1 | some x => if x > B1 then x else B1 := by rw [← hB1]; rfl
      have n2 : bst (cand (offN ws) (hiN ws) W ws.length) (i + 1) = match cand (offN ws) (hiN ws) W ws.length (i + 1) with | none => B2 | some x => if x > B2 then x else B2 := by rw [← hB2]; rfl
      rw [n1, n2, c1, c2]
      have w1 : ((sel ws.length (i + 1)).map fun k => ((ws[k]?).map Wh.low).getD 0).sum = wsum (loN ws) (sel ws.length (i + 1)) := rfl
      have w2 : ((sel ws.length (i + 1)).map fun k => ((ws[k]?).map Wh.high).getD 0).sum = wsum (hiN ws) (sel ws.length (i + 1)) := rfl
      have f0 : ∀ v : Int, D.flat (.int v) = true := fun _ => rfl
      have pu0 : ∀ x y v : Int, putL [D.int x, .int y] (.int v) (.int 0) = some [.int v, .int y] := fun _ _ _ => rfl
      have pu1 : ∀ x y v : Int, putL [D.int x, .int y] (.int v) (.int 1) = some [.int x, .int v] := fun _ _ _ => rfl
      have at1 : ∀ x y : Int, atI [D.int x, .int y] 1 = some (.int y) := fun _ _ => atI_num (n := 1) rfl
      generalize sel ws.length (i + 1) = S at *
      by_cases hc : offN ws z - offN ws a < W
      · rw [if_pos hc, if_pos hc]
        refine ⟨[some (.lst (ws.map Wh.t)), some (.lst ((offL ws ws.length).map .int)), some (.int W), some (.lst [.int (if wsum (loN ws) S > B1 then wsum (loN ws) S else B1), .int (if wsum (hiN ws) S > B2 then wsum (hiN ws) S else B2)]), some (.int ((i + 1 : Nat) : Int)), some (.lst ((S.map fun (k : Nat) => (k : Int)).map .int))], ?_, _, _, rfl⟩
        have hs' : compF _ _ _ _ _ = _ := hs
        ktf_call (ei, hs')
        k_search (ixD_l, xa, xz, ya, yz, decide_eq_true hc, putS, s1, s2, sum_i, w1, w2, max2_ii, f0, pu0, pu1, at1, ix0)
      · rw [if_neg hc, if_neg hc]
        refine ⟨[some (.lst (ws.map Wh.t)), some (.lst ((offL ws ws.length).map .int)), some (.int W), some (.lst [.int B1, .int B2]), some (.int ((i + 1 : Nat) : Int)), some (.lst ((S.map fun (k : Nat) => (k : Int)).map .int))], ?_, _, _, rfl⟩
        have hs' : compF _ _ _ _ _ = _ := hs
        ktf_call (ei, hs')
        k_search (ixD_l, xa, xz, ya, yz, decide_eq_false hc, Bool.false_eq_true)
        )
  rw [List.length_map, List.length_range] at hloop
  have hshl : sealed shlD (.int 1) (.int (ws.length : Int)) = some (.int ((2 ^ ws.length : Nat) : Int)) := by
    rw [seal_eq]
    show (if 0 ≤ (ws.length : Int) ∧ (ws.length : Int) ≤ 1000 ∧ -big < (1 : Int) ∧ (1 : Int) < big then some (D.int (1 * 2 ^ ((ws.length : Int)).toNat)) else none) = _
    rw [if_pos ⟨by omega, by omega, by decide, by decide⟩, Int.toNat_natCast, Int.one_mul, Int.natCast_pow]
    rfl
  generalize 2 ^ ws.length = N at *
  have hr2 : sealed rng2D [.int 1, .int (N : Int)] = some ((List.range (N - 1)).map fun (k : Nat) => D.int (1 + (k : Int))) := by
    have := rng2_of (i := 1) (j := (N : Int)) (by omega)
    rw [show ((N : Int) - 1).toNat = N - 1 from by omega] at this
    exact this
  rw [F_law_sums, seal_eq]
  refine runF_rt ?_
  show B_law_sums [some (.lst (ws.map Wh.t)), some (.lst ((offL ws ws.length).map .int)), some (.int W), none, none, none] = _
  unfold B_law_sums
  ktf_call (hln)
  ktf_call (hln, hshl, hr2, hloop)
  k_search (hln)
theorem F_num {i : Int} : F_law_number [.int i] = some (.bl true) := by
  rw [F_law_number, seal_eq]
  refine run_rt ?_
  show B_law_number [some (.int i)] = _
  unfold B_law_number
  k_search (isT_i, k_ii, k_ib, Bool.not_false)
theorem F_lgt {ws : List Wh} {W : Int} (ok : ∀ w ∈ ws, w.Ok) (hW : 0 < W) (hn : 0 < ws.length) (h8 : ws.length ≤ 8) : F_lightest [.lst (ws.map Wh.t), .int W] = some (.int (bst (cand (offN ws) (loN ws) W ws.length) (2 ^ ws.length - 1))) := by
  have nn : ∀ k, 0 ≤ loN ws k := fun k => by
    unfold loN
    cases e : ws[k]? with
    | none => exact Int.le_refl _
    | some w => exact (ok w (List.mem_of_getElem? e)).l
  rw [bst_win hn hW nn fun i j h1 h2 => offN_le ok h1 h2]
  have hg := F_great (f := loN ws) (off := offN ws) (W := W) hn h8
  have e1 : (List.range ws.length).map (loN ws) = ws.map Wh.low := fld_range
  rw [e1] at hg
  rw [F_lightest, seal_eq]
  refine run_rt ?_
  show B_lightest [some (.lst (ws.map Wh.t)), some (.int W)] = _
  unfold B_lightest
  have ho := F_offs h8
  have hc : compF (itD (vD 0)) yesB (oD (sealed ixD) (vD 0) (cD (.int 1))) [] [some (.lst (ws.map Wh.t)), some (.int W)] = some (.lst ((ws.map Wh.low).map .int)) := by
    unfold compF
    simp only [itD, vD_z, bindS, itemsD]
    rw [if_pos (by rw [List.length_map]; omega), comp_fld (env := []) fun w => wh1]
    rfl
  k_search (hc, ho, hg)
  unfold offL
  rw [hg]
  rfl
theorem F_hvy {ws : List Wh} {W : Int} (ok : ∀ w ∈ ws, w.Ok) (hW : 0 < W) (hn : 0 < ws.length) (h8 : ws.length ≤ 8) : F_heaviest [.lst (ws.map Wh.t), .int W] = some (.int (bst (cand (offN ws) (hiN ws) W ws.length) (2 ^ ws.length - 1))) := by
  have nn : ∀ k, 0 ≤ hiN ws k := fun k => by
    unfold hiN
    cases e : ws[k]? with
    | none => exact Int.le_refl _
    | some w => exact (ok w (List.mem_of_getElem? e)).h
  rw [bst_win hn hW nn fun i j h1 h2 => offN_le ok h1 h2]
  have hg := F_great (f := hiN ws) (off := offN ws) (W := W) hn h8
  have e1 : (List.range ws.length).map (hiN ws) = ws.map Wh.high := fld_range
  rw [e1] at hg
  rw [F_heaviest, seal_eq]
  refine run_rt ?_
  show B_heaviest [some (.lst (ws.map Wh.t)), some (.int W)] = _
  unfold B_heaviest
  have ho := F_offs h8
  have hc : compF (itD (vD 0)) yesB (oD (sealed ixD) (vD 0) (cD (.int 2))) [] [some (.lst (ws.map Wh.t)), some (.int W)] = some (.lst ((ws.map Wh.high).map .int)) := by
    unfold compF
    simp only [itD, vD_z, bindS, itemsD]
    rw [if_pos (by rw [List.length_map]; omega), comp_fld (env := []) fun w => wh2]
    rfl
  k_search (hc, ho, hg)
  unfold offL
  rw [hg]
  rfl
theorem F_good {c m : Int} (hm : 1 ≤ m) (hm8 : m ≤ 8) : F_law_good [.int c, .int m] = some (.bl true) := by
  have hmix := F_mix (c := c) (o := 0) (p := 1000033) (by decide) (by decide) (by decide) (by decide)
  have d0 := mixZ_nn c 0 1000033
  generalize mixZ c 0 1000033 = dr at hmix d0
  obtain ⟨n, en, n1, n8⟩ : ∃ n : Nat, 1 + dr % m = (n : Int) ∧ 0 < n ∧ n ≤ 8 := by
    have h0 : 0 ≤ dr % m := Int.emod_nonneg _ (by omega)
    have h1 : dr % m < m := Int.emod_lt_of_pos _ (by omega)
    exact ⟨(1 + dr % m).toNat, by omega, by omega, by omega⟩
  obtain ⟨ws, wl, ok, hws⟩ := F_lwheels (c := c) n8
  subst wl
  rw [← en] at hws
  have ho := F_offs n8
  have hsp := F_span n8
  have hcut : sealed slDD (.lst (ws.map Wh.t)) (some 1) none = some (.lst ((ws.drop 1).map Wh.t)) := cut_from (k := 1)
  have hll : sealed listD [.lst (ws.map Wh.t)] = some (.lst (ws.map Wh.t)) := list_l
  obtain ⟨e', hloop, o6, o7, o8, rfl⟩ := forD_end (g := tupG [6, 7, 8]) (b := (appW 5 (oD (sealed addD) (oD (sealed ixD) (vD 5) (uD (sealed negD) (cD (.int 1)))) (vD 6)))) (ds := (ws.drop 1).map Wh.t) (env := [some (.int c), some (.int m), some (.int dr), some (.lst (ws.map Wh.t)), some (.lst (ws.map Wh.t)), some (.lst [.int 0]), none, none, none, none, none, none, none, none, none])
    (fun i e => ∃ o6 o7 o8, e = [some (.int c), some (.int m), some (.int dr), some (.lst (ws.map Wh.t)), some (.lst (ws.map Wh.t)), some (.lst ((offL ws (i + 1)).map .int)), o6, o7, o8, none, none, none, none, none, none]) ⟨none, none, none, rfl⟩ (by
      rintro i d e hd ⟨o6, o7, o8, rfl⟩
      rw [List.getElem?_map] at hd
      obtain ⟨w, hw, rfl⟩ := Option.map_eq_some_iff.mp hd
      have hi := (List.getElem?_eq_some_iff.mp hw).1
      rw [List.length_drop] at hi
      rw [List.getElem?_drop, Nat.add_comm] at hw
      refine ⟨_, rfl, [some (.int c), some (.int m), some (.int dr), some (.lst (ws.map Wh.t)), some (.lst (ws.map Wh.t)), some (.lst ((offL ws (i + 1 + 1)).map .int)), some (.int w.gap), some (.int w.low), some (.int w.high), none, none, none, none, none, none], ?_, _, _, _, rfl⟩
      have hlen : (offL ws (i + 1)).length < 1000000 := by rw [offL_len]; omega
      have hl : atI ((offL ws (i + 1)).map D.int) (-1) = some (.int (offN ws i)) := by rw [offL_succ]; exact atI_last
      have fl : D.flat (.int (offN ws i + w.gap)) = true := rfl
      rw [offL_succ ws (i + 1), offN_succ hw]
      k_search (ixD_l, hl, fl, hlen)
      )
  rw [List.length_map, List.length_drop, show ws.length - 1 + 1 = ws.length from by omega] at hloop
  have nI := nums_ints (offL ws ws.length)
  have ne1 := neD_lst nI (by decide)
  have hnum : compF (itD (vD 9)) yesB (callD F_law_number (aCons (vD 0) aNil)) [] [some (.int c), some (.int m), some (.int dr), some (.lst (ws.map Wh.t)), some (.lst (ws.map Wh.t)), some (.lst ((offL ws ws.length).map .int)), o6, o7, o8, some (.lst ((offL ws ws.length).map .int)), none, none, none, none, none] = some (.lst (((offL ws ws.length).map fun _ => true).map .bl)) := by
    unfold compF
    simp only [itD, vD_z, vD_s, bindS, itemsD]
    rw [if_pos (by rw [List.length_map, offL_len]; omega), comp_map (f := fun _ => D.bl true), List.map_map]
    · rfl
    · intro x _
      refine ⟨rfl, ?_⟩
      simp only [callD, aCons, aNil, vD_z, bindS, F_num]
  have hall : sealed allD [.lst (((offL ws ws.length).map fun _ => true).map .bl)] = some (.bl true) := by
    rw [seal_eq]
    show (blS _).map _ = _
    rw [blS_map]
    show some (D.bl _) = _
    congr 2
    rw [List.all_map, List.all_eq_true]
    intro _ _
    rfl
  have hlast : atI ((offL ws ws.length).map D.int) (-1) = some (.int (offN ws (ws.length - 1))) := by
    have := offL_succ ws (ws.length - 1)
    rw [show ws.length - 1 + 1 = ws.length from by omega] at this
    rw [this]
    exact atI_last
  have hpl : ∀ v : Int, 0 ≤ v → ∃ k : Nat, k < ws.length ∧ v % (ws.length : Int) = (k : Int) := fun v hv => by
    have h0 : 0 ≤ v % (ws.length : Int) := Int.emod_nonneg _ (by omega)
    have h1 : v % (ws.length : Int) < (ws.length : Int) := Int.emod_lt_of_pos _ (by omega)
    exact ⟨(v % (ws.length : Int)).toNat, by omega, by omega⟩
  have wpos : (0 : Int) < (ws.length : Int) := by omega
  obtain ⟨k1, l1, ek1⟩ := hpl (dr / 6) (by omega)
  obtain ⟨k2, l2, ek2⟩ := hpl (dr / 40) (by omega)
  have x1 := offL_at (ws := ws) l1
  have x2 := offL_at (ws := ws) l2
  have hlo : sealed lenD [.lst ((offL ws ws.length).map D.int)] = some (.int (ws.length : Int)) := by rw [lenD_l, List.length_map, offL_len]
  have z0 : 0 ≤ offN ws (ws.length - 1) := by
    have := offN_le ok (i := 0) (j := ws.length - 1) (by omega) (by omega)
    have e : offN ws 0 = 0 := rfl
    omega
  generalize hZ : offN ws (ws.length - 1) = Z at *
  generalize hfar : offN ws k1 - offN ws k2 = far
  have hlen : (offL ws ws.length).length < 1000000 := by rw [offL_len]; omega
  rw [F_law_good, seal_eq]
  refine run_rt ?_
  show B_law_good [some (.int c), some (.int m), none, none, none, none, none, none, none, none, none, none, none, none, none] = _
  unfold B_law_good
  have hm0 : 0 < m := by omega
  ktf_call (hmix)
  ktf_call (hws)
  ktf_call (hll)
  ktf_call (hll)
  ktf_call (itemsD, hcut, hloop)
  ktf_call (ho)
  ktf_call (isT_l, k_ll, Bool.not_true, Bool.false_eq_true, ne1, hnum, hall)
  ktf_call (hlen)
  ktf_call (hsp, F_num, Bool.not_true, Bool.false_eq_true, ixD_l, hlast, decide_true, Bool.not_false, ho, ne1)
  ktf_call (hlo, ixD_l, ek1, ek2, x1, x2, hfar)
  obtain ⟨e', hl2, o11, o12, o13, o14, rfl⟩ := forD_end (g := nmG 11) (b := (seqS (setS 12 (mk [false, false, false, false, false, false, false, false, false, false, false, false, false, false, false] (callD F_law_sums (aCons (vD 3) (aCons (vD 5) (aCons (vD 11) aNil)))))) (seqS (setS 13 (mk [false, false, false, false, false, false, false, false, false, false, false, false, false, false, false] (callD F_lightest (aCons (vD 4) (aCons (vD 11) aNil))))) (seqS (setS 14 (mk [false, false, false, false, false, false, false, false, false, false, false, false, false, false, false] (callD F_heaviest (aCons (vD 4) (aCons (vD 11) aNil))))) (ifS (orB (notB (bD (callD F_law_number (aCons (vD 13) aNil)))) (orB (notB (bD (callD F_law_number (aCons (vD 14) aNil)))) (bD (oD (sealed neD) (lstD (aCons (vD 13) (aCons (vD 14) aNil))) (vD 12))))) (retS (cD (.bl false))) nxS))))) (ds := [.int 1, .int (if Z > 1 then Z else 1), .int (Z + 1), .int (if far > 1 then far else 1), .int ((if far < 0 then -far else far) + 1)])
    (env := [some (.int c), some (.int m), some (.int dr), some (.lst (ws.map Wh.t)), some (.lst (ws.map Wh.t)), some (.lst ((offL ws ws.length).map .int)), o6, o7, o8, some (.lst ((offL ws ws.length).map .int ++ [.int 0])), some (.int far), none, none, none, none])
    (fun i e => ∃ o11 o12 o13 o14, e = [some (.int c), some (.int m), some (.int dr), some (.lst (ws.map Wh.t)), some (.lst (ws.map Wh.t)), some (.lst ((offL ws ws.length).map .int)), o6, o7, o8, some (.lst ((offL ws ws.length).map .int ++ [.int 0])), some (.int far), o11, o12, o13, o14]) ⟨none, none, none, none, rfl⟩ (by
      rintro i d e hd ⟨o11, o12, o13, o14, rfl⟩
      obtain ⟨W, rfl, hW⟩ : ∃ W : Int, d = .int W ∧ 0 < W := by
        have := List.mem_of_getElem? hd
        simp only [List.mem_cons, List.not_mem_nil, or_false] at this
        rcases this with rfl | rfl | rfl | rfl | rfl
        · exact ⟨_, rfl, by omega⟩
        · exact ⟨_, rfl, by split <;> omega⟩
        · exact ⟨_, rfl, by omega⟩
        · exact ⟨_, rfl, by split <;> omega⟩
        · exact ⟨_, rfl, by split <;> omega⟩
      have s1 := F_sums (W := W) n1 n8
      have s2 := F_lgt ok hW n1 n8
      have s3 := F_hvy ok hW n1 n8
      generalize bst (cand (offN ws) (loN ws) W ws.length) (2 ^ ws.length - 1) = A1 at s1 s2
      generalize bst (cand (offN ws) (hiN ws) W ws.length) (2 ^ ws.length - 1) = A2 at s1 s3
      have ne2 : sealed neD (.lst [.int A1, .int A2]) (.lst [.int A1, .int A2]) = some (.bl false) := neD_lst (nums_ints [A1, A2]) (by decide)
      refine ⟨_, rfl, [some (.int c), some (.int m), some (.int dr), some (.lst (ws.map Wh.t)), some (.lst (ws.map Wh.t)), some (.lst ((offL ws ws.length).map .int)), o6, o7, o8, some (.lst ((offL ws ws.length).map .int ++ [.int 0])), some (.int far), some (.int W), some (.lst [.int A1, .int A2]), some (.int A1), some (.int A2)], ?_, _, _, _, _, rfl⟩
      ktf_call (s1)
      ktf_call (s2)
      ktf_call (s3)
      k_search (F_num, Bool.not_true, Bool.false_eq_true, ne2)
      )
  ktf_call (itemsD, max2_ii, abs_i, ixD_l, hlast, hl2)
  have eq := eqD_lst (nums_ws ws) (by decide)
  k_search (eq)
def cellZ (xs : List Int) (k : Nat) : Int := if h : k < xs.length then xs[k] else 0
theorem F_cell0 {xs : List Int} {d : D} (hd : d = .lst (xs.map D.int) ∨ d = .fz (xs.map D.int)) : F_law_cell [d, .int 0] = some (.int (cellZ xs 0)) := by
  have hl : sealed lenD [d] = some (.int xs.length) := by rw [seal_eq]; rcases hd with rfl | rfl <;> simp [lenD, seqOf]
  rw [F_law_cell, seal_eq]
  refine run_rt ?_
  show B_law_cell [some d, some (.int 0)] = _
  unfold B_law_cell
  by_cases h : 0 < xs.length
  · have hi : sealed ixD d (.int 0) = some (.int (cellZ xs 0)) := by
      rcases hd with rfl | rfl
      · rw [ixD_l]
        exact atI_of (n := 0) rfl (by rw [List.getElem?_map, List.getElem?_eq_getElem h]; simp [cellZ, h])
      · rw [ixD_f]
        exact atI_of (n := 0) rfl (by rw [List.getElem?_map, List.getElem?_eq_getElem h]; simp [cellZ, h])
    have hlt : ((0 : Int) < (xs.length : Int)) := by omega
    k_search (hl, hi, decide_eq_true hlt)
  · have hz : cellZ xs 0 = 0 := by simp [cellZ, h]
    have hlt : ¬ ((0 : Int) < (xs.length : Int)) := by omega
    k_search (hl, hz, decide_eq_false hlt, Bool.false_eq_true)
def cutL {α : Type} (xs : List α) (lo hi : Option Int) : List α := (xs.drop (HT.sIx xs.length 0 lo)).take (HT.sIx xs.length xs.length hi - HT.sIx xs.length 0 lo)
theorem cutD_map {α : Type} {f : α → D} {xs : List α} {lo hi : Option Int} : cutD (xs.map f) lo hi = (cutL xs lo hi).map f := by
  unfold cutD cutL
  rw [List.length_map, List.map_take, List.map_drop]
theorem cutL_len {α : Type} {xs : List α} {lo hi : Option Int} : (cutL xs lo hi).length ≤ xs.length := by
  unfold cutL
  refine Nat.le_trans (List.length_take_le' _ _) ?_
  rw [List.length_drop]
  exact Nat.sub_le _ _
theorem law_true (xs : List Int) (hx : xs.length ≤ 63) (d : D) (hd : d = .lst (xs.map D.int) ∨ d = .fz (xs.map D.int)) : F_law [d] = some (.bl true) := by
  have hl : sealed lenD [d] = some (.int xs.length) := by rw [seal_eq]; rcases hd with rfl | rfl <;> simp [lenD, seqOf]
  have h0 := F_cell0 hd
  have hs : sealed slDD d (some 1) (some 10) = some (.lst ((cutL xs (some 1) (some 10)).map D.int)) := by
    rw [seal_eq]
    rcases hd with rfl | rfl
    · show some (D.lst (cutD _ _ _)) = _
      rw [← cutD_map]
    · show some (D.lst (cutD _ _ _)) = _
      rw [← cutD_map]
  have cl : (cutL xs (some 1) (some 10)).length ≤ 63 := Nat.le_trans cutL_len hx
  generalize cutL xs (some 1) (some 10) = ys at hs cl
  generalize cellZ xs 0 = c0 at h0
  have ha : sealed addD (.lst [.int (c0 + (xs.length : Int))]) (.lst (ys.map D.int)) = some (.lst (((c0 + (xs.length : Int)) :: ys).map .int)) := by
    rw [seal_eq]
    show (if _ then _ else _) = _
    rw [if_pos (by rw [List.length_map, List.length_singleton]; omega)]
    rfl
  generalize (c0 + (xs.length : Int)) :: ys = zs at ha
  obtain ⟨e', hloop, o1, o2, rfl⟩ := forD_end (g := tupG [1, 2]) (b := (ifS (notB (bD (callD F_law_good (aCons (vD 2) (aCons (oD (sealed addD) (cD (.int 6)) (oD (sealed mulD) (cD (.int 2)) (callD (sealed intD) (aCons (oD (sealed eqD) (vD 1) (cD (.int 0))) aNil)))) aNil))))) (retS (cD (.bl false))) nxS)) (ds := enumG (zs.map .int)) (env := [some d, none, none])
    (fun i e => ∃ o1 o2, e = [some d, o1, o2]) ⟨none, none, rfl⟩ (by
      rintro i x e hd ⟨o1, o2, rfl⟩
      unfold enumG at hd
      rw [List.getElem?_mapIdx] at hd
      obtain ⟨y, hy, rfl⟩ := Option.map_eq_some_iff.mp hd
      rw [List.getElem?_map] at hy
      obtain ⟨c, _, rfl⟩ := Option.map_eq_some_iff.mp hy
      refine ⟨_, rfl, [some d, some (.int (i : Int)), some (.int c)], ?_, _, _, rfl⟩
      obtain ⟨q, hq, q1, q2⟩ : ∃ q : Int, (if decide ((i : Int) = 0) then 1 else 0) = q ∧ 0 ≤ q ∧ q ≤ 1 := ⟨_, rfl, by split <;> omega, by split <;> omega⟩
      have hg := F_good (c := c) (m := 6 + 2 * q) (by omega) (by omega)
      k_search (int_b, hq, hg, Bool.not_true, Bool.false_eq_true)
      )
  rw [F_law, seal_eq]
  refine run_rt ?_
  show B_law [some d, none, none] = _
  unfold B_law
  ktf_call (hl, h0, hs, ha, hloop)
  k_search (hl)
def sp_law (K : PySem.W.Frag) : Sp := fun vs H Q _ => ∃ (a : Addr) (ns : List Int), vs = [.ref a] ∧ SqL K H a (ns.map V.int) ∧ ns.length ≤ 63 ∧ ∀ H', Q (.bl true) H'
section
variable {P : Program} {w : World} {K : PySem.W.Frag} {mg : Str → Option Value} {base : Heap}
theorem ok_law_mix {f : Addr} {fd : FuncData} (F : Fun K "_law_mix" "_law_mix" s_law_mix f fd)  :
    FnOk P w K mg base CX0 1 f fd ["_law_cell_here", "_law_one", "_law_prime"] (sp_law_mix K) := by
  refine F.ok sc_law_mix (fun vs H Q E h => spP_len h) (fun cdv A outer s H vs Q E hr h => ?_)
  have hu := hr.units
  have h : spP K [] false 3 (runD 4 B_law_mix) vs H Q E := by rw [← seal_eq (runD 4 B_law_mix)]; exact h
  refine ⟨_, (pss_cons (ps_set (i := 3) sc_law_mix.nd rfl (by first | exact Or.inl rfl | exact Or.inr rfl) (pe_op op_mod (pe_op op_mulX (pe_op op_addP (pe_op op_addP (pe_op op_addP (pe_op op_mod (pv 0) (pv 2)) pe_int) (pe_op op_mulX (pe_op op_mulX pe_int (pv 1)) (pv 1))) (pv 1)) pe_int) (pv 2)))
      (pss_one (ps_ret (pe_op op_fdiv (pe_op op_mod (pe_op op_mulX (pv 3) (pv 3)) pe_int) pe_int)))), ?_⟩
  exact run_ok (K := K) (ns := []) (fl' := []) (n := 4) (b := B_law_mix)
    (s_seq (s_set 3 (oS (pu_op r2_mod (oS (pu_op r2_mul (oS (pu_op r2_add (oS (pu_op r2_add (oS (pu_op r2_add (oS (pu_op r2_mod (pu_var 0) (pu_var 2))) (pu_int _))) (oS (pu_op r2_mul (oS (pu_op r2_mul (pu_int _) (pu_var 1))) (pu_var 1))))) (pu_var 1))) (pu_int _))) (pu_var 2))))
    (s_ret (oS (pu_op r2_fdivC (oS (pu_op r2_mod (oS (pu_op r2_mul (pu_var 3) (pu_var 3))) (pu_int _))) (pu_int _))))) rfl (by decide) h
theorem ok_law_wheels {f : Addr} {fd : FuncData} (F : Fun K "_law_wheels" "_law_wheels" s_law_wheels f fd) (g_law_mix : Got P w K mg base 1 "_law_mix" ["_law_cell_here", "_law_one", "_law_prime"] (sp_law_mix K)) (z_range : mg "range" = none) (z_min : mg "min" = none) :
    FnOk P w K mg base CX0 2 f fd ["_law_cell_here", "_law_many"] (sp_law_wheels K) := by
  refine F.ok sc_law_wheels (fun vs H Q E h => spP_len h) (fun cdv A outer s H vs Q E hr h => ?_)
  have hu := hr.units
  have h : spP K [] true 2 (runF 10 B_law_wheels) vs H Q E := by rw [← seal_eq (runF 10 B_law_wheels)]; exact h
  refine ⟨_, (pss_cons (ps_set (i := 2) sc_law_wheels.nd rfl (by first | exact Or.inl rfl | exact Or.inr rfl) (pe_lst pa_nil))
      (pss_cons (ps_set (i := 3) sc_law_wheels.nd rfl (by first | exact Or.inl rfl | exact Or.inr rfl) pe_int)
      (pss_cons (ps_for PassesOwn.never rfl (pi_range1 rfl z_range (pa_cons (pv 1) pa_nil)) (pg_name (i := 4) sc_law_wheels.nd rfl (by first | exact Or.inl rfl | exact Or.inr rfl)) (pss_cons (ps_set (i := 5) sc_law_wheels.nd rfl (by first | exact Or.inl rfl | exact Or.inr rfl) (pe_go g_law_mix hr (by first | decide | omega) rfl (pa_cons (pv 0) (pa_cons (pe_op op_addP pe_int (pv 4)) (pa_cons pe_int pa_nil)))))
      (pss_cons (ps_set (i := 6) sc_law_wheels.nd rfl (by first | exact Or.inl rfl | exact Or.inr rfl) (pe_callB (call_min2 rfl) rfl z_min b_min (pa_cons pe_int (pa_cons (pe_op op_sub (pv 3) (pe_op op_sub (pe_op op_sub (pv 1) pe_int) (pv 4))) pa_nil))))
      (pss_cons (ps_set (i := 7) sc_law_wheels.nd rfl (by first | exact Or.inl rfl | exact Or.inr rfl) (pe_ix ix_seq (pe_lst (pa_cons pe_int (pa_cons (pv 6) (pa_cons (pe_op op_addP pe_int (pe_op op_mod (pe_op op_fdiv (pv 5) pe_int) (pv 6))) (pa_cons (pe_op op_addP pe_int (pe_op op_mod (pe_op op_fdiv (pv 5) pe_int) (pe_callB (call_min2 rfl) rfl z_min b_min (pa_cons (pv 6) (pa_cons pe_int pa_nil))))) pa_nil))))) (pe_op op_mod (pv 5) pe_int) (fun _ _ => rfl)))
      (pss_cons (ps_set (i := 8) sc_law_wheels.nd rfl (by first | exact Or.inl rfl | exact Or.inr rfl) (pe_ix ix_seq (pe_lst (pa_cons (pe_op op_mod (pe_op op_fdiv (pv 5) pe_int) pe_int) (pa_cons (pe_op op_mod (pe_op op_fdiv (pv 5) pe_int) pe_int) (pa_cons pe_int (pa_cons (pe_op op_mod (pe_op op_addP (pv 0) (pv 5)) pe_int) pa_nil))))) (pe_op op_mod (pe_op op_fdiv (pv 5) pe_int) pe_int) (fun _ _ => rfl)))
      (pss_cons (ps_set (i := 9) sc_law_wheels.nd rfl (by first | exact Or.inl rfl | exact Or.inr rfl) (pe_ix ix_seq (pe_lst (pa_cons (pv 8) (pa_cons pe_int (pa_cons (pe_op op_mod (pe_op op_fdiv (pv 5) pe_int) (pe_op op_addP (pv 8) pe_int)) pa_nil)))) (pe_op op_mod (pe_op op_fdiv (pv 5) pe_int) pe_int) (fun _ _ => rfl)))
      (pss_cons (ps_expr (pe_bm PySem.F.plainAttrs_list PySem.F.slot_list_append PySem.F.type_list_append mt_append (pv 2) (pa_cons (pe_tup (pa_cons (pv 7) (pa_cons (pv 9) (pa_cons (pv 8) pa_nil)))) pa_nil)))
      (pss_one (ps_if (pt_cmpR op_gt (pv 4) pe_int (nomark _)) (pss_one (ps_set (i := 3) sc_law_wheels.nd rfl (by first | exact Or.inl rfl | exact Or.inr rfl) (pe_op op_sub (pv 3) (pv 7)))) pss_nil)))))))))
      (pss_one (ps_ret (pv 2)))))), ?_⟩
  exact run_okF (K := K) (ns := []) (fl' := []) (n := 10) (b := B_law_wheels)
    (s_seq (s_new 2 (pu_lst pa_nilD) (by decide))
    (s_seq (s_set 3 (pu_int _))
    (s_seq (s_for (iS (pi_rng1 (pa_consD (pu_var 1) pa_nilD))) (g_name 4 rfl)
    (s_seq (s_set 5 (pu_fn (pa_consD (pu_var 0) (pa_consD (oS (pu_op r2_add (pu_int _) (pu_var 4))) (pa_consD (pu_int _) pa_nilD)))))
    (s_seq (s_set 6 (cS (pu_call ca_min2 (pa_consD (pu_int _) (pa_consD (oS (pu_op r2_sub (pu_var 3) (oS (pu_op r2_sub (oS (pu_op r2_sub (pu_var 1) (pu_int _))) (pu_var 4))))) pa_nilD)))))
    (s_seq (s_set 7 (oS (pu_op r2_ix (PuF.pe (pu_lst (pa_consD (pu_int _) (pa_consD (pu_var 6) (pa_consD (oS (pu_op r2_add (pu_int _) (oS (pu_op r2_mod (oS (pu_op r2_fdivC (pu_var 5) (pu_int _))) (pu_var 6))))) (pa_consD (oS (pu_op r2_add (pu_int _) (oS (pu_op r2_mod (oS (pu_op r2_fdivC (pu_var 5) (pu_int _))) (cS (pu_call ca_min2 (pa_consD (pu_var 6) (pa_consD (pu_int _) pa_nilD)))))))) pa_nilD)))))) (oS (pu_op r2_mod (pu_var 5) (pu_int _))))))
    (s_seq (s_set 8 (oS (pu_op r2_ix (PuF.pe (pu_lst (pa_consD (oS (pu_op r2_mod (oS (pu_op r2_fdivC (pu_var 5) (pu_int _))) (pu_int _))) (pa_consD (oS (pu_op r2_mod (oS (pu_op r2_fdivC (pu_var 5) (pu_int _))) (pu_int _))) (pa_consD (pu_int _) (pa_consD (oS (pu_op r2_mod (oS (pu_op r2_add (pu_var 0) (pu_var 5))) (pu_int _))) pa_nilD)))))) (oS (pu_op r2_mod (oS (pu_op r2_fdivC (pu_var 5) (pu_int _))) (pu_int _))))))
    (s_seq (s_set 9 (oS (pu_op r2_ix (PuF.pe (pu_lst (pa_consD (pu_var 8) (pa_consD (pu_int _) (pa_consD (oS (pu_op r2_mod (oS (pu_op r2_fdivC (pu_var 5) (pu_int _))) (oS (pu_op r2_add (pu_var 8) (pu_int _))))) pa_nilD))))) (oS (pu_op r2_mod (oS (pu_op r2_fdivC (pu_var 5) (pu_int _))) (pu_int _))))))
    (s_seq (s_app 2 (pu_tup (pa_consD (pu_var 7) (pa_consD (pu_var 9) (pa_consD (pu_var 8) pa_nilD)))) rfl)
    (s_if (pt_tD (oS (pu_op r2_gt (pu_var 4) (pu_int _)))) (s_set 3 (oS (pu_op r2_sub (pu_var 3) (pu_var 7))))
    s_next))))))))
    (s_retO 2 rfl)))) rfl (by decide) h
theorem ok_offsets_of {f : Addr} {fd : FuncData} (F : Fun K "offsets_of" "offsets_of" s_offsets_of f fd)  :
    FnOk P w K mg base CX0 1 f fd ["wheels"] (sp_offsets_of K) := by
  refine F.ok sc_offsets_of (fun vs H Q E h => spP_len h) (fun cdv A outer s H vs Q E hr h => ?_)
  have hu := hr.units
  have h : spP K [] true 1 (runF 3 B_offsets_of) vs H Q E := by rw [← seal_eq (runF 3 B_offsets_of)]; exact h
  refine ⟨_, (pss_cons (ps_set (i := 1) sc_offsets_of.nd rfl (by first | exact Or.inl rfl | exact Or.inr rfl) (pe_lst pa_nil))
      (pss_cons (ps_for PassesOwn.never rfl (pi_or (pi_list (pv 0)) (pi_or (pi_tup (pv 0)) (pi_str (pv 0)))) (pg_name (i := 2) sc_offsets_of.nd rfl (by first | exact Or.inl rfl | exact Or.inr rfl)) (pss_one (ps_expr (pe_bm PySem.F.plainAttrs_list PySem.F.slot_list_append PySem.F.type_list_append mt_append (pv 1) (pa_cons (pe_ifExp (pt_truth (pv 1) (fun _ => rfl)) (pe_op op_addP (pe_ix ix_seq (pv 1) (pe_un un_neg pe_int) (fun _ _ => rfl)) (pe_ix ix_seq (pv 2) pe_int (fun _ _ => rfl))) pe_int) pa_nil)))))
      (pss_one (ps_ret (pv 1))))), ?_⟩
  exact run_okF (K := K) (ns := []) (fl' := []) (n := 3) (b := B_offsets_of)
    (s_seq (s_new 1 (pu_lst pa_nilD) (by decide))
    (s_seq (s_for (pi_any (pu_var 0)) (g_name 2 rfl)
    (s_appW 1 (pu_if (pt_trD (pu_var 1)) (oS (pu_op r2_add (oS (pu_op r2_ix (pu_var 1) (uS (pu_un un_neg' (pu_int _))))) (oS (pu_op r2_ix (pu_var 2) (pu_int _))))) (pu_int _)) rfl))
    (s_retO 1 rfl))) rfl (by decide) h
theorem ok_law_sums {f : Addr} {fd : FuncData} (F : Fun K "_law_sums" "_law_sums" s_law_sums f fd) (z_range : mg "range" = none) (z_len : mg "len" = none) (z_max : mg "max" = none) (z_sum : mg "sum" = none) :
    FnOk P w K mg base CX0 1 f fd ["_law_wheels_here", "_law_places", "_law_width"] (sp_law_sums K) := by
  refine F.ok sc_law_sums (fun vs H Q E h => spP_len h) (fun cdv A outer s H vs Q E hr h => ?_)
  have hu := hr.units
  have h : spP K [] true 3 (runF 6 B_law_sums) vs H Q E := by rw [← seal_eq (runF 6 B_law_sums)]; exact h
  refine ⟨_, (pss_cons (ps_set (i := 3) sc_law_sums.nd rfl (by first | exact Or.inl rfl | exact Or.inr rfl) (pe_lst (pa_cons pe_int (pa_cons pe_int pa_nil))))
      (pss_cons (ps_for PassesOwn.never rfl (pi_range2 rfl z_range (pa_cons pe_int (pa_cons (pe_op op_shl pe_int (pe_callB lenG rfl z_len b_len (pa_cons (pv 0) pa_nil))) pa_nil))) (pg_name (i := 4) sc_law_sums.nd rfl (by first | exact Or.inl rfl | exact Or.inr rfl)) (pss_cons (ps_compG ["_law_bits"] [4] (CompC.to cs_law_sums_0 rfl rfl) rfl (pi_range1 (by rfl) z_range (pa_cons (pe_callB lenG (by rfl) z_len b_len (pa_cons (pv 0) pa_nil)) pa_nil)) (fun _ _ _ _ _ => (pif_one (pt_cmpR (op_eqGK (K := K) rfl (by exact hu)) (pe_op op_and (pe_op op_shr (pv 1) (pv 0)) pe_int) pe_int (nomark _)))) (fun _ _ _ _ _ => (pv 0)) 5 sc_law_sums.nd rfl (by first | exact Or.inl rfl | exact Or.inr rfl))
      (pss_one (ps_if (pt_cmpR op_lt (pe_op op_sub (pe_ix ix_seq (pv 1) (pe_ix ix_seq (pv 5) (pe_un un_neg pe_int) (fun _ _ => rfl)) (fun _ _ => rfl)) (pe_ix ix_seq (pv 1) (pe_ix ix_seq (pv 5) pe_int (fun _ _ => rfl)) (fun _ _ => rfl))) (pv 2) (nomark _)) (pss_cons (ps_asg (pe_callB (call_max2 rfl) rfl z_max b_max (pa_cons (pe_ix ix_seq (pv 3) pe_int (fun _ _ => rfl)) (pa_cons (pe_callB (call_sum_ints rfl) rfl z_sum b_sum (pa_cons (pe_compG ["_law_wheels_here"] [0] (CompC.to cs_law_sums_1 rfl rfl) rfl (pi_or (pi_list (pv 5)) (pi_or (pi_tup (pv 5)) (pi_str (pv 5)))) (fun _ _ _ _ _ => pif_nil) (fun _ _ _ _ _ => (pe_ix (ix_seqK (K := K) rfl) (pe_ix (ix_seqK (K := K) rfl) (pv 1) (pv 0) (fun _ _ => rfl)) pe_int (fun _ _ => rfl)))) pa_nil)) pa_nil))) (pg_sub (pv 3) pe_int set_list))
      (pss_one (ps_asg (pe_callB (call_max2 rfl) rfl z_max b_max (pa_cons (pe_ix ix_seq (pv 3) pe_int (fun _ _ => rfl)) (pa_cons (pe_callB (call_sum_ints rfl) rfl z_sum b_sum (pa_cons (pe_compG ["_law_wheels_here"] [0] (CompC.to cs_law_sums_2 rfl rfl) rfl (pi_or (pi_list (pv 5)) (pi_or (pi_tup (pv 5)) (pi_str (pv 5)))) (fun _ _ _ _ _ => pif_nil) (fun _ _ _ _ _ => (pe_ix (ix_seqK (K := K) rfl) (pe_ix (ix_seqK (K := K) rfl) (pv 1) (pv 0) (fun _ _ => rfl)) pe_int (fun _ _ => rfl)))) pa_nil)) pa_nil))) (pg_sub (pv 3) pe_int set_list)))) pss_nil))))
      (pss_one (ps_ret (pv 3))))), ?_⟩
  exact run_okF (K := K) (ns := []) (fl' := []) (n := 6) (b := B_law_sums)
    (s_seq (s_new 3 (pu_lst (pa_consD (pu_int _) (pa_consD (pu_int _) pa_nilD))) (by decide))
    (s_seq (s_for (iS (pi_rng2 (pa_consD (pu_int _) (pa_consD (oS (pu_op r2_shl (pu_int _) (cS (pu_call ca_len (pa_consD (pu_var 0) pa_nilD))))) pa_nilD)))) (g_name 4 rfl)
    (s_seq (s_set 5 (PuF.pe (pu_comp (iS (pi_rng1 (pa_consD (cS (pu_call ca_len (pa_consD (pu_var 0) pa_nilD))) pa_nilD))) (pt_tD (oS (pu_op r2_eq (oS (pu_op r2_band (oS (pu_op r2_shr (pu_var 1) (pu_var 0))) (pu_int _))) (pu_int _)))) (pu_var 0))))
    (s_if (pt_tD (oS (pu_op r2_lt (oS (pu_op r2_sub (oS (pu_op r2_ix (pu_var 1) (oS (pu_op r2_ix (pu_var 5) (uS (pu_un un_neg' (pu_int _))))))) (oS (pu_op r2_ix (pu_var 1) (oS (pu_op r2_ix (pu_var 5) (pu_int _))))))) (pu_var 2)))) (s_seq (s_put 3 (pu_int _) (cS (pu_call ca_max2 (pa_consD (oS (pu_op r2_ix (pu_var 3) (pu_int _))) (pa_consD (cS (pu_call ca_sum (pa_consD (PuF.pe (pu_comp (pi_any (pu_var 5)) pt_yes (oS (pu_op r2_ix (oS (pu_op r2_ix (pu_var 1) (pu_var 0))) (pu_int _))))) pa_nilD))) pa_nilD)))) rfl)
    (s_put 3 (pu_int _) (cS (pu_call ca_max2 (pa_consD (oS (pu_op r2_ix (pu_var 3) (pu_int _))) (pa_consD (cS (pu_call ca_sum (pa_consD (PuF.pe (pu_comp (pi_any (pu_var 5)) pt_yes (oS (pu_op r2_ix (oS (pu_op r2_ix (pu_var 1) (pu_var 0))) (pu_int _))))) pa_nilD))) pa_nilD)))) rfl))
    s_next)))
    (s_retO 3 rfl))) rfl (by decide) h
theorem ok_greatest_sum {f : Addr} {fd : FuncData} (F : Fun K "greatest_sum" "greatest_sum" s_greatest_sum f fd) (z_enumerate : mg "enumerate" = none) (z_max : mg "max" = none) (z_sum : mg "sum" = none) (z_range : mg "range" = none) (z_len : mg "len" = none) :
    FnOk P w K mg base CX0 1 f fd ["weights", "offsets", "width"] (sp_greatest_sum K) := by
  refine F.ok sc_greatest_sum (fun vs H Q E h => spP_len h) (fun cdv A outer s H vs Q E hr h => ?_)
  have hu := hr.units
  have h : spP K [] false 3 (runD 7 B_greatest_sum) vs H Q E := by rw [← seal_eq (runD 7 B_greatest_sum)]; exact h
  refine ⟨_, (pss_cons (ps_set (i := 3) sc_greatest_sum.nd rfl (by first | exact Or.inl rfl | exact Or.inr rfl) (pe_lst pa_nil))
      (pss_cons (ps_for PassesOwn.never rfl (pi_enum (by rfl) z_enumerate (pa_cons (pv 1) pa_nil)) (pg_tup rfl (pgs_cons (pg_name (i := 4) sc_greatest_sum.nd rfl (by first | exact Or.inl rfl | exact Or.inr rfl)) (pgs_cons (pg_name (i := 5) sc_greatest_sum.nd rfl (by first | exact Or.inl rfl | exact Or.inr rfl)) pgs_nil))) (pss_cons (ps_compG ["offset", "offsets", "weights", "width"] [5, 1, 0, 2] (CompC.to cs_greatest_sum_0 rfl rfl) rfl (pi_range2 (by rfl) z_range (pa_cons (pv 4) (pa_cons (pe_callB lenG (by rfl) z_len b_len (pa_cons (pv 1) pa_nil)) pa_nil))) (fun _ _ _ _ _ => (pif_one (pt_cmpR op_lt (pe_op op_sub (pe_ix (ix_seqK (K := K) rfl) (pv 2) (pv 0) (fun _ _ => rfl)) (pv 1)) (pv 4) (nomark _)))) (fun _ _ _ _ _ => (pe_ix (ix_seqK (K := K) rfl) (pv 3) (pv 0) (fun _ _ => rfl))) 6 sc_greatest_sum.nd rfl (by first | exact Or.inl rfl | exact Or.inr rfl))
      (pss_one (ps_expr (pe_bm PySem.F.plainAttrs_list PySem.F.slot_list_append PySem.F.type_list_append mt_append (pv 3) (pa_cons (pe_callB (call_sum_ints rfl) rfl z_sum b_sum (pa_cons (pv 6) pa_nil)) pa_nil))))))
      (pss_one (ps_ret (pe_maxD rfl rfl z_max (pa_cons (pv 3) pa_nil) pe_int))))), ?_⟩
  exact run_ok (K := K) (ns := []) (fl' := []) (n := 7) (b := B_greatest_sum)
    (s_seq (s_new 3 (pu_lst pa_nilD) (by decide))
    (s_seq (s_for (iS (pi_enumD (pa_consD (pu_var 1) pa_nilD))) (g_tup (gs_cons (i := 4) rfl (gs_cons (i := 5) rfl gs_nil)))
    (s_seq (s_set 6 (PuF.pe (pu_comp (iS (pi_rng2 (pa_consD (pu_var 4) (pa_consD (cS (pu_call ca_len (pa_consD (pu_var 1) pa_nilD))) pa_nilD)))) (pt_tD (oS (pu_op r2_lt (oS (pu_op r2_sub (oS (pu_op r2_ix (pu_var 2) (pu_var 0))) (pu_var 1))) (pu_var 4)))) (oS (pu_op r2_ix (pu_var 3) (pu_var 0))))))
    (s_app 3 (cS (pu_call ca_sum (pa_consD (pu_var 6) pa_nilD))) rfl)))
    (s_ret (cS (pu_call ca_maxD (pa_consD (pu_var 3) pa_nilD)))))) rfl (by decide) h
theorem ok_lightest {f : Addr} {fd : FuncData} (F : Fun K "lightest" "lightest" s_lightest f fd) (g_greatest_sum : Got P w K mg base 1 "greatest_sum" ["weights", "offsets", "width"] (sp_greatest_sum K)) (g_offsets_of : Got P w K mg base 1 "offsets_of" ["wheels"] (sp_offsets_of K)) :
    FnOk P w K mg base CX0 2 f fd ["wheels", "width"] (sp_lightest K) := by
  refine F.ok sc_lightest (fun vs H Q E h => spP_len h) (fun cdv A outer s H vs Q E hr h => ?_)
  have hu := hr.units
  have h : spP K [] false 2 (runD 2 B_lightest) vs H Q E := by rw [← seal_eq (runD 2 B_lightest)]; exact h
  refine ⟨_, (pss_one (ps_ret (pe_go g_greatest_sum hr (by first | decide | omega) rfl (pa_cons (pe_compG [] [] (CompC.to cs_lightest_0 rfl rfl) rfl (pi_or (pi_list (pv 0)) (pi_or (pi_tup (pv 0)) (pi_str (pv 0)))) (fun _ _ _ _ _ => pif_nil) (fun _ _ _ _ _ => (pe_ix (ix_seqK (K := K) rfl) (pv 0) pe_int (fun _ _ => rfl)))) (pa_cons (pe_go g_offsets_of hr (by first | decide | omega) rfl (pa_cons (pv 0) pa_nil)) (pa_cons (pv 1) pa_nil)))))), ?_⟩
  exact run_ok (K := K) (ns := []) (fl' := []) (n := 2) (b := B_lightest)
    (s_ret (pu_fn (pa_consD (PuF.pe (pu_comp (pi_any (pu_var 0)) pt_yes (oS (pu_op r2_ix (pu_var 0) (pu_int _))))) (pa_consD (PuF.pe (pu_fnF (pa_consD (pu_var 0) pa_nilD))) (pa_consD (pu_var 1) pa_nilD))))) rfl (by decide) h
theorem ok_heaviest {f : Addr} {fd : FuncData} (F : Fun K "heaviest" "heaviest" s_heaviest f fd) (g_greatest_sum : Got P w K mg base 1 "greatest_sum" ["weights", "offsets", "width"] (sp_greatest_sum K)) (g_offsets_of : Got P w K mg base 1 "offsets_of" ["wheels"] (sp_offsets_of K)) :
    FnOk P w K mg base CX0 2 f fd ["wheels", "width"] (sp_heaviest K) := by
  refine F.ok sc_heaviest (fun vs H Q E h => spP_len h) (fun cdv A outer s H vs Q E hr h => ?_)
  have hu := hr.units
  have h : spP K [] false 2 (runD 2 B_heaviest) vs H Q E := by rw [← seal_eq (runD 2 B_heaviest)]; exact h
  refine ⟨_, (pss_one (ps_ret (pe_go g_greatest_sum hr (by first | decide | omega) rfl (pa_cons (pe_compG [] [] (CompC.to cs_heaviest_0 rfl rfl) rfl (pi_or (pi_list (pv 0)) (pi_or (pi_tup (pv 0)) (pi_str (pv 0)))) (fun _ _ _ _ _ => pif_nil) (fun _ _ _ _ _ => (pe_ix (ix_seqK (K := K) rfl) (pv 0) pe_int (fun _ _ => rfl)))) (pa_cons (pe_go g_offsets_of hr (by first | decide | omega) rfl (pa_cons (pv 0) pa_nil)) (pa_cons (pv 1) pa_nil)))))), ?_⟩
  exact run_ok (K := K) (ns := []) (fl' := []) (n := 2) (b := B_heaviest)
    (s_ret (pu_fn (pa_consD (PuF.pe (pu_comp (pi_any (pu_var 0)) pt_yes (oS (pu_op r2_ix (pu_var 0) (pu_int _))))) (pa_consD (PuF.pe (pu_fnF (pa_consD (pu_var 0) pa_nilD))) (pa_consD (pu_var 1) pa_nilD))))) rfl (by decide) h
theorem ok_law_number {f : Addr} {fd : FuncData} (F : Fun K "_law_number" "_law_number" s_law_number f fd) (z_isinstance : mg "isinstance" = none) (z_int : mg "int" = none) (z_bool : mg "bool" = none) :
    FnOk P w K mg base CX0 1 f fd ["_law_found"] (sp_law_number K) := by
  refine F.ok sc_law_number (fun vs H Q E h => spP_len h) (fun cdv A outer s H vs Q E hr h => ?_)
  have hu := hr.units
  have h : spP K [] false 1 (runD 1 B_law_number) vs H Q E := by rw [← seal_eq (runD 1 B_law_number)]; exact h
  refine ⟨_, (pss_one (ps_ret (pe_and (pe_callB call_isT rfl z_isinstance b_isinstance (pa_cons (pv 0) (pa_cons (pe_bltn (v := .ty "int") rfl z_int b_int rfl) pa_nil))) (pe_one (pe_not (pe_callB call_isT rfl z_isinstance b_isinstance (pa_cons (pv 0) (pa_cons (pe_bltn (v := .ty "bool") rfl z_bool b_bool rfl) pa_nil)))))))), ?_⟩
  exact run_ok (K := K) (ns := []) (fl' := []) (n := 1) (b := B_law_number)
    (s_ret (pu_and (cS (pu_isT "int" (by decide) (pu_var 0))) (pu_not (cS (pu_isT "bool" (by decide) (pu_var 0)))))) rfl (by decide) h
theorem ok_span_of {f : Addr} {fd : FuncData} (F : Fun K "span_of" "span_of" s_span_of f fd) (z_sum : mg "sum" = none) :
    FnOk P w K mg base CX0 1 f fd ["wheels"] (sp_span_of K) := by
  refine F.ok sc_span_of (fun vs H Q E h => spP_len h) (fun cdv A outer s H vs Q E hr h => ?_)
  have hu := hr.units
  have h : spP K [] false 1 (runD 1 B_span_of) vs H Q E := by rw [← seal_eq (runD 1 B_span_of)]; exact h
  refine ⟨_, (pss_one (ps_ret (pe_callB (call_sum_ints rfl) rfl z_sum b_sum (pa_cons (pe_compG [] [] (CompC.to cs_span_of_0 rfl rfl) rfl (pi_or (pi_list (pe_slice slX (pv 0) (po_some pe_int) po_none)) (pi_or (pi_tup (pe_slice slX (pv 0) (po_some pe_int) po_none)) (pi_str (pe_slice slX (pv 0) (po_some pe_int) po_none)))) (fun _ _ _ _ _ => pif_nil) (fun _ _ _ _ _ => (pe_ix (ix_seqK (K := K) rfl) (pv 0) pe_int (fun _ _ => rfl)))) pa_nil)))), ?_⟩
  exact run_ok (K := K) (ns := []) (fl' := []) (n := 1) (b := B_span_of)
    (s_ret (cS (pu_call ca_sum (pa_consD (PuF.pe (pu_comp (pi_any (slS (pu_sl (pu_var 0) (po_at (pu_int _)) po_no))) pt_yes (oS (pu_op r2_ix (pu_var 0) (pu_int _))))) pa_nilD)))) rfl (by decide) h
theorem ok_law_good {f : Addr} {fd : FuncData} (F : Fun K "_law_good" "_law_good" s_law_good f fd) (g_law_mix : Got P w K mg base 1 "_law_mix" ["_law_cell_here", "_law_one", "_law_prime"] (sp_law_mix K)) (g_law_wheels : Got P w K mg base 2 "_law_wheels" ["_law_cell_here", "_law_many"] (sp_law_wheels K)) (g_offsets_of : Got P w K mg base 1 "offsets_of" ["wheels"] (sp_offsets_of K)) (g_law_sums : Got P w K mg base 1 "_law_sums" ["_law_wheels_here", "_law_places", "_law_width"] (sp_law_sums K)) (g_lightest : Got P w K mg base 2 "lightest" ["wheels", "width"] (sp_lightest K)) (g_heaviest : Got P w K mg base 2 "heaviest" ["wheels", "width"] (sp_heaviest K)) (g_law_number : Got P w K mg base 1 "_law_number" ["_law_found"] (sp_law_number K)) (g_span_of : Got P w K mg base 1 "span_of" ["wheels"] (sp_span_of K)) (z_list : mg "list" = none) (z_max : mg "max" = none) (z_isinstance : mg "isinstance" = none) (z_all : mg "all" = none) (z_abs : mg "abs" = none) (z_len : mg "len" = none) :
    FnOk P w K mg base CX0 3 f fd ["_law_cell_here", "_law_most_wheels"] (sp_law_good K) := by
  refine F.ok sc_law_good (fun vs H Q E h => spP_len h) (fun cdv A outer s H vs Q E hr h => ?_)
  have hu := hr.units
  have h : spP K [] false 2 (runD 15 B_law_good) vs H Q E := by rw [← seal_eq (runD 15 B_law_good)]; exact h
  refine ⟨_, (pss_cons (ps_set (i := 2) sc_law_good.nd rfl (by first | exact Or.inl rfl | exact Or.inr rfl) (pe_go g_law_mix hr (by first | decide | omega) rfl (pa_cons (pv 0) (pa_cons pe_int (pa_cons pe_int pa_nil)))))
      (pss_cons (ps_set (i := 3) sc_law_good.nd rfl (by first | exact Or.inl rfl | exact Or.inr rfl) (pe_go g_law_wheels hr (by first | decide | omega) rfl (pa_cons (pv 0) (pa_cons (pe_op op_addP pe_int (pe_op op_mod (pv 2) (pv 1))) pa_nil))))
      (pss_cons (ps_set (i := 4) sc_law_good.nd rfl (by first | exact Or.inl rfl | exact Or.inr rfl) (pe_callTy call_list_of rfl z_list b_list (pa_cons (pv 3) pa_nil)))
      (pss_cons (ps_set (i := 5) sc_law_good.nd rfl (by first | exact Or.inl rfl | exact Or.inr rfl) (pe_lst (pa_cons pe_int pa_nil)))
      (pss_cons (ps_for PassesOwn.never rfl (pi_or (pi_list (pe_slice slX (pv 3) (po_some pe_int) po_none)) (pi_or (pi_tup (pe_slice slX (pv 3) (po_some pe_int) po_none)) (pi_str (pe_slice slX (pv 3) (po_some pe_int) po_none)))) (pg_tup rfl (pgs_cons (pg_name (i := 6) sc_law_good.nd rfl (by first | exact Or.inl rfl | exact Or.inr rfl)) (pgs_cons (pg_name (i := 7) sc_law_good.nd rfl (by first | exact Or.inl rfl | exact Or.inr rfl)) (pgs_cons (pg_name (i := 8) sc_law_good.nd rfl (by first | exact Or.inl rfl | exact Or.inr rfl)) pgs_nil)))) (pss_one (ps_expr (pe_bm PySem.F.plainAttrs_list PySem.F.slot_list_append PySem.F.type_list_append mt_append (pv 5) (pa_cons (pe_op op_addP (pe_ix ix_seq (pv 5) (pe_un un_neg pe_int) (fun _ _ => rfl)) (pv 6)) pa_nil)))))
      (pss_cons (ps_set (i := 9) sc_law_good.nd rfl (by first | exact Or.inl rfl | exact Or.inr rfl) (pe_go g_offsets_of hr (by first | decide | omega) rfl (pa_cons (pv 4) pa_nil)))
      (pss_cons (ps_if (PW.pt (pw_or (pt_not (pt_val (pe_callB call_isT rfl z_isinstance b_isinstance (pa_cons (pv 9) (pa_cons (pe_bltn (v := .ty "list") rfl z_list b_list rfl) pa_nil))))) (pw_or (pt_cmpR (op_neG hu) (pv 9) (pv 5) (nomark _)) (pw_or1 (pt_not (pt_val (pe_callB (call_all_list rfl) rfl z_all b_all (pa_cons (pe_compG [] [] (CompC.to cs_law_good_0 rfl rfl) rfl (pi_or (pi_list (pv 9)) (pi_or (pi_tup (pv 9)) (pi_str (pv 9)))) (fun _ _ _ _ _ => pif_nil) (fun _ _ _ _ _ => (pe_goI g_law_number (by rfl) (by rfl) (by rfl) (by rfl) (by rfl) (by exact hr) (by first | decide | omega) rfl (pa_cons (pv 0) pa_nil)))) pa_nil)))))))) (pss_one (ps_ret pe_bl)) pss_nil)
      (pss_cons (ps_expr (pe_bm PySem.F.plainAttrs_list PySem.F.slot_list_append PySem.F.type_list_append mt_append (pv 9) (pa_cons pe_int pa_nil)))
      (pss_cons (ps_if (PW.pt (pw_or (pt_not (pt_val (pe_go g_law_number hr (by first | decide | omega) rfl (pa_cons (pe_go g_span_of hr (by first | decide | omega) rfl (pa_cons (pv 4) pa_nil)) pa_nil)))) (pw_or (pt_cmpR (op_neG hu) (pe_go g_span_of hr (by first | decide | omega) rfl (pa_cons (pv 4) pa_nil)) (pe_ix ix_seq (pv 5) (pe_un un_neg pe_int) (fun _ _ => rfl)) (nomark _)) (pw_or1 (pt_cmpR (op_neG hu) (pe_go g_offsets_of hr (by first | decide | omega) rfl (pa_cons (pv 4) pa_nil)) (pv 5) (nomark _)))))) (pss_one (ps_ret pe_bl)) pss_nil)
      (pss_cons (ps_set (i := 10) sc_law_good.nd rfl (by first | exact Or.inl rfl | exact Or.inr rfl) (pe_op op_sub (pe_ix ix_seq (pv 5) (pe_op op_mod (pe_op op_fdiv (pv 2) pe_int) (pe_callB lenG rfl z_len b_len (pa_cons (pv 5) pa_nil))) (fun _ _ => rfl)) (pe_ix ix_seq (pv 5) (pe_op op_mod (pe_op op_fdiv (pv 2) pe_int) (pe_callB lenG rfl z_len b_len (pa_cons (pv 5) pa_nil))) (fun _ _ => rfl))))
      (pss_cons (ps_for PassesOwn.never rfl (pi_or (pi_list (pe_lst (pa_cons pe_int (pa_cons (pe_callB (call_max2 rfl) rfl z_max b_max (pa_cons pe_int (pa_cons (pe_ix ix_seq (pv 5) (pe_un un_neg pe_int) (fun _ _ => rfl)) pa_nil))) (pa_cons (pe_op op_addP (pe_ix ix_seq (pv 5) (pe_un un_neg pe_int) (fun _ _ => rfl)) pe_int) (pa_cons (pe_callB (call_max2 rfl) rfl z_max b_max (pa_cons pe_int (pa_cons (pv 10) pa_nil))) (pa_cons (pe_op op_addP (pe_callB call_abs rfl z_abs b_abs (pa_cons (pv 10) pa_nil)) pe_int) pa_nil))))))) (pi_or (pi_tup (pe_lst (pa_cons pe_int (pa_cons (pe_callB (call_max2 rfl) rfl z_max b_max (pa_cons pe_int (pa_cons (pe_ix ix_seq (pv 5) (pe_un un_neg pe_int) (fun _ _ => rfl)) pa_nil))) (pa_cons (pe_op op_addP (pe_ix ix_seq (pv 5) (pe_un un_neg pe_int) (fun _ _ => rfl)) pe_int) (pa_cons (pe_callB (call_max2 rfl) rfl z_max b_max (pa_cons pe_int (pa_cons (pv 10) pa_nil))) (pa_cons (pe_op op_addP (pe_callB call_abs rfl z_abs b_abs (pa_cons (pv 10) pa_nil)) pe_int) pa_nil))))))) (pi_str (pe_lst (pa_cons pe_int (pa_cons (pe_callB (call_max2 rfl) rfl z_max b_max (pa_cons pe_int (pa_cons (pe_ix ix_seq (pv 5) (pe_un un_neg pe_int) (fun _ _ => rfl)) pa_nil))) (pa_cons (pe_op op_addP (pe_ix ix_seq (pv 5) (pe_un un_neg pe_int) (fun _ _ => rfl)) pe_int) (pa_cons (pe_callB (call_max2 rfl) rfl z_max b_max (pa_cons pe_int (pa_cons (pv 10) pa_nil))) (pa_cons (pe_op op_addP (pe_callB call_abs rfl z_abs b_abs (pa_cons (pv 10) pa_nil)) pe_int) pa_nil))))))))) (pg_name (i := 11) sc_law_good.nd rfl (by first | exact Or.inl rfl | exact Or.inr rfl)) (pss_cons (ps_set (i := 12) sc_law_good.nd rfl (by first | exact Or.inl rfl | exact Or.inr rfl) (pe_go g_law_sums hr (by first | decide | omega) rfl (pa_cons (pv 3) (pa_cons (pv 5) (pa_cons (pv 11) pa_nil)))))
      (pss_cons (ps_set (i := 13) sc_law_good.nd rfl (by first | exact Or.inl rfl | exact Or.inr rfl) (pe_go g_lightest hr (by first | decide | omega) rfl (pa_cons (pv 4) (pa_cons (pv 11) pa_nil))))
      (pss_cons (ps_set (i := 14) sc_law_good.nd rfl (by first | exact Or.inl rfl | exact Or.inr rfl) (pe_go g_heaviest hr (by first | decide | omega) rfl (pa_cons (pv 4) (pa_cons (pv 11) pa_nil))))
      (pss_one (ps_if (PW.pt (pw_or (pt_not (pt_val (pe_go g_law_number hr (by first | decide | omega) rfl (pa_cons (pv 13) pa_nil)))) (pw_or (pt_not (pt_val (pe_go g_law_number hr (by first | decide | omega) rfl (pa_cons (pv 14) pa_nil)))) (pw_or1 (pt_cmpR (op_neG hu) (pe_lst (pa_cons (pv 13) (pa_cons (pv 14) pa_nil))) (pv 12) (nomark _)))))) (pss_one (ps_ret pe_bl)) pss_nil))))))
      (pss_one (ps_ret (pe_cmpR (op_eqG hu) (pv 4) (pv 3) (nomark _))))))))))))))), ?_⟩
  exact run_ok (K := K) (ns := []) (fl' := []) (n := 15) (b := B_law_good)
    (s_seq (s_set 2 (pu_fn (pa_consD (pu_var 0) (pa_consD (pu_int _) (pa_consD (pu_int _) pa_nilD)))))
    (s_seq (s_set 3 (PuF.pe (pu_fnF (pa_consD (pu_var 0) (pa_consD (oS (pu_op r2_add (pu_int _) (oS (pu_op r2_mod (pu_var 2) (pu_var 1))))) pa_nilD)))))
    (s_seq (s_set 4 (PuF.pe (cSF (pu_callF ca_list (pa_consD (pu_var 3) pa_nilD)))))
    (s_seq (s_new 5 (pu_lst (pa_consD (pu_int _) pa_nilD)) (by decide))
    (s_seq (s_for (pi_any (slS (pu_sl (pu_var 3) (po_at (pu_int _)) po_no))) (g_tup (gs_cons (i := 6) rfl (gs_cons (i := 7) rfl (gs_cons (i := 8) rfl gs_nil))))
    (s_appW 5 (oS (pu_op r2_add (oS (pu_op r2_ix (pu_var 5) (uS (pu_un un_neg' (pu_int _))))) (pu_var 6))) rfl))
    (s_seq (s_new 9 (pu_fnF (pa_consD (pu_var 4) pa_nilD)) (by decide))
    (s_seq (s_if (pt_orD (pt_notD (pt_bD (cS (pu_isT "list" (by decide) (pu_var 9))))) (pt_orD (pt_tD (oS (pu_op r2_ne (pu_var 9) (pu_var 5)))) (pt_notD (pt_bD (cS (pu_call ca_all (pa_consD (PuF.pe (pu_comp (pi_any (pu_var 9)) pt_yes (pu_fn (pa_consD (pu_var 0) pa_nilD)))) pa_nilD))))))) (s_ret (pu_bl _))
    s_next)
    (s_seq (s_app 9 (pu_int _) rfl)
    (s_seq (s_if (pt_orD (pt_notD (pt_bD (pu_fn (pa_consD (pu_fn (pa_consD (pu_var 4) pa_nilD)) pa_nilD)))) (pt_orD (pt_tD (oS (pu_op r2_ne (pu_fn (pa_consD (pu_var 4) pa_nilD)) (oS (pu_op r2_ix (pu_var 5) (uS (pu_un un_neg' (pu_int _)))))))) (pt_tD (oS (pu_op r2_ne (PuF.pe (pu_fnF (pa_consD (pu_var 4) pa_nilD))) (pu_var 5)))))) (s_ret (pu_bl _))
    s_next)
    (s_seq (s_pre [5] (s_set 10 (oS (pu_op r2_sub (oS (pu_op r2_ix (pu_var 5) (oS (pu_op r2_mod (oS (pu_op r2_fdivC (pu_var 2) (pu_int _))) (cS (pu_call ca_len (pa_consD (pu_var 5) pa_nilD))))))) (oS (pu_op r2_ix (pu_var 5) (oS (pu_op r2_mod (oS (pu_op r2_fdivC (pu_var 2) (pu_int _))) (cS (pu_call ca_len (pa_consD (pu_var 5) pa_nilD)))))))))))
    (s_seq (s_pre [9] (s_for (pi_any (PuF.pe (pu_lst (pa_consD (pu_int _) (pa_consD (cS (pu_call ca_max2 (pa_consD (pu_int _) (pa_consD (oS (pu_op r2_ix (pu_var 5) (uS (pu_un un_neg' (pu_int _))))) pa_nilD)))) (pa_consD (oS (pu_op r2_add (oS (pu_op r2_ix (pu_var 5) (uS (pu_un un_neg' (pu_int _))))) (pu_int _))) (pa_consD (cS (pu_call ca_max2 (pa_consD (pu_int _) (pa_consD (pu_var 10) pa_nilD)))) (pa_consD (oS (pu_op r2_add (cS (pu_call ca_abs (pa_consD (pu_var 10) pa_nilD))) (pu_int _))) pa_nilD)))))))) (g_name 11 rfl)
    (s_seq (s_set 12 (PuF.pe (pu_fnF (pa_consD (pu_var 3) (pa_consD (pu_var 5) (pa_consD (pu_var 11) pa_nilD))))))
    (s_seq (s_set 13 (pu_fn (pa_consD (pu_var 4) (pa_consD (pu_var 11) pa_nilD))))
    (s_seq (s_set 14 (pu_fn (pa_consD (pu_var 4) (pa_consD (pu_var 11) pa_nilD))))
    (s_if (pt_orD (pt_notD (pt_bD (pu_fn (pa_consD (pu_var 13) pa_nilD)))) (pt_orD (pt_notD (pt_bD (pu_fn (pa_consD (pu_var 14) pa_nilD)))) (pt_tD (oS (pu_op r2_ne (PuF.pe (pu_lst (pa_consD (pu_var 13) (pa_consD (pu_var 14) pa_nilD)))) (pu_var 12)))))) (s_ret (pu_bl _))
    s_next))))))
    (s_ret (oS (pu_op r2_eq (pu_var 4) (pu_var 3))))))))))))))) rfl (by decide) h
theorem ok_law_cell {f : Addr} {fd : FuncData} (F : Fun K "_law_cell" "_law_cell" s_law_cell f fd) (z_len : mg "len" = none) :
    FnOk P w K mg base CX0 1 f fd ["_law_script", "_law_k"] (sp_law_cell K) := by
  refine F.ok sc_law_cell (fun vs H Q E h => spP_len h) (fun cdv A outer s H vs Q E hr h => ?_)
  have hu := hr.units
  have h : spP K [] false 2 (runD 2 B_law_cell) vs H Q E := by rw [← seal_eq (runD 2 B_law_cell)]; exact h
  refine ⟨_, (pss_cons (ps_if (pt_cmpR op_lt (pv 1) (pe_callB lenG rfl z_len b_len (pa_cons (pv 0) pa_nil)) (nomark _)) (pss_one (ps_ret (pe_ix ix_seq (pv 0) (pv 1) (fun _ _ => rfl)))) pss_nil)
      (pss_one (ps_ret pe_int))), ?_⟩
  exact run_ok (K := K) (ns := []) (fl' := []) (n := 2) (b := B_law_cell)
    (s_seq (s_if (pt_tD (oS (pu_op r2_lt (pu_var 1) (cS (pu_call ca_len (pa_consD (pu_var 0) pa_nilD)))))) (s_ret (oS (pu_op r2_ix (pu_var 0) (pu_var 1))))
    s_next)
    (s_ret (pu_int _))) rfl (by decide) h
theorem ok_law {f : Addr} {fd : FuncData} (F : Fun K "law" "law" s_law f fd) (g_law_good : Got P w K mg base 3 "_law_good" ["_law_cell_here", "_law_most_wheels"] (sp_law_good K)) (g_law_cell : Got P w K mg base 1 "_law_cell" ["_law_script", "_law_k"] (sp_law_cell K)) (z_enumerate : mg "enumerate" = none) (z_len : mg "len" = none) (z_int : mg "int" = none) :
    FnOk P w K mg base CX0 4 f fd ["_law_script"] (sp_law K) := by
  refine F.ok sc_law (fun vs H Q E h => by obtain ⟨a, ns, rfl, _⟩ := h; rfl) (fun cdv A outer s H vs Q E hr h => ?_)
  obtain ⟨a, ns, e, hS, hlen, k⟩ := h
  have h : spP K [] false 1 F_law vs H Q E := law_sp e hS (law_true ns hlen) k
  have hu := hr.units
  simp only [F_law, seal_eq] at h
  refine ⟨_, (pss_cons (ps_for PassesOwn.never rfl (pi_enum (by rfl) z_enumerate (pa_cons (pe_op op_addP (pe_lst (pa_cons (pe_op op_addP (pe_go g_law_cell hr (by first | decide | omega) rfl (pa_cons (pv 0) (pa_cons pe_int pa_nil))) (pe_callB lenG rfl z_len b_len (pa_cons (pv 0) pa_nil))) pa_nil)) (pe_slice slX (pv 0) (po_some pe_int) (po_some pe_int))) pa_nil)) (pg_tup rfl (pgs_cons (pg_name (i := 1) sc_law.nd rfl (by first | exact Or.inl rfl | exact Or.inr rfl)) (pgs_cons (pg_name (i := 2) sc_law.nd rfl (by first | exact Or.inl rfl | exact Or.inr rfl)) pgs_nil))) (pss_one (ps_if (pt_not (pt_val (pe_go g_law_good hr (by first | decide | omega) rfl (pa_cons (pv 2) (pa_cons (pe_op op_addP pe_int (pe_op op_mulX pe_int (pe_callTy call_intX rfl z_int b_int (pa_cons (pe_cmpR (op_eqG hu) (pv 1) pe_int (nomark _)) pa_nil)))) pa_nil))))) (pss_one (ps_ret pe_bl)) pss_nil)))
      (pss_one (ps_ret pe_bl))), ?_⟩
  exact run_ok (K := K) (ns := []) (fl' := []) (n := 3) (b := B_law)
    (s_seq (s_for (iS (pi_enumD (pa_consD (oS (pu_op r2_add (PuF.pe (pu_lst (pa_consD (oS (pu_op r2_add (pu_fn (pa_consD (pu_var 0) (pa_consD (pu_int _) pa_nilD))) (cS (pu_call ca_len (pa_consD (pu_var 0) pa_nilD))))) pa_nilD))) (slS (pu_sl (pu_var 0) (po_at (pu_int _)) (po_at (pu_int _)))))) pa_nilD))) (g_tup (gs_cons (i := 1) rfl (gs_cons (i := 2) rfl gs_nil)))
    (s_if (pt_notD (pt_bD (pu_fn (pa_consD (pu_var 2) (pa_consD (oS (pu_op r2_add (pu_int _) (oS (pu_op r2_mul (pu_int _) (cS (pu_call ca_int (pa_consD (oS (pu_op r2_eq (pu_var 1) (pu_int _))) pa_nilD))))))) pa_nilD))))) (s_ret (pu_bl _))
    s_next))
    (s_ret (pu_bl _))) rfl (by decide) h
end
theorem all_mk {l : PySem.W.OpenLaw} {w : World} {K : PySem.W.Frag} {h : Heap} {mg : Str → Option Value} {fa f0 f1 f2 f3 f4 f5 f6 f7 f8 f9 f10 f11 : Addr} (X : K.In h) (G : h.Ns mainGlobals mg) (hfa : mg "law" = some (.ref fa))
    {od0 an0 od1 an1 od2 an2 od3 an3 od4 an4 od5 an5 od6 an6 od7 an7 od8 an8 od9 an9 od10 an10 od11 an11 : Option Addr} {sl0 sl1 sl2 sl3 sl4 sl5 sl6 sl7 sl8 sl9 sl10 sl11 : Array (Option Value)} {oc0 kV0 dc0 pm0 cd0 ct0 oc1 kV1 dc1 pm1 cd1 ct1 oc2 kV2 dc2 pm2 cd2 ct2 oc3 kV3 dc3 pm3 cd3 ct3 oc4 kV4 dc4 pm4 cd4 ct4 oc5 kV5 dc5 pm5 cd5 ct5 oc6 kV6 dc6 pm6 cd6 ct6 oc7 kV7 dc7 pm7 cd7 ct7 oc8 kV8 dc8 pm8 cd8 ct8 oc9 kV9 dc9 pm9 cd9 ct9 oc10 kV10 dc10 pm10 cd10 ct10 oc11 kV11 dc11 pm11 cd11 ct11 : Value}
    (a0 : PySem.W.nsIn K mainGlobals "_law_mix" = some (some (.ref f0))) (l0 : K.lookup f0 = some ⟨oc0, od0, .func (PySem.W.fnOf "_law_mix" "_law_mix" (defArgs s_law_mix) (defBody s_law_mix) (defScope s_law_mix) .none kV0 dc0 pm0 an0 cd0 ct0), sl0⟩) (c0 : PySem.W.codeIn K cd0 "_law_mix" = true) (k0 : PySem.W.keepIn K (.ref f0) = true)
    (a1 : PySem.W.nsIn K mainGlobals "_law_wheels" = some (some (.ref f1))) (l1 : K.lookup f1 = some ⟨oc1, od1, .func (PySem.W.fnOf "_law_wheels" "_law_wheels" (defArgs s_law_wheels) (defBody s_law_wheels) (defScope s_law_wheels) .none kV1 dc1 pm1 an1 cd1 ct1), sl1⟩) (c1 : PySem.W.codeIn K cd1 "_law_wheels" = true) (k1 : PySem.W.keepIn K (.ref f1) = true)
    (a2 : PySem.W.nsIn K mainGlobals "offsets_of" = some (some (.ref f2))) (l2 : K.lookup f2 = some ⟨oc2, od2, .func (PySem.W.fnOf "offsets_of" "offsets_of" (defArgs s_offsets_of) (defBody s_offsets_of) (defScope s_offsets_of) .none kV2 dc2 pm2 an2 cd2 ct2), sl2⟩) (c2 : PySem.W.codeIn K cd2 "offsets_of" = true) (k2 : PySem.W.keepIn K (.ref f2) = true)
    (a3 : PySem.W.nsIn K mainGlobals "_law_sums" = some (some (.ref f3))) (l3 : K.lookup f3 = some ⟨oc3, od3, .func (PySem.W.fnOf "_law_sums" "_law_sums" (defArgs s_law_sums) (defBody s_law_sums) (defScope s_law_sums) .none kV3 dc3 pm3 an3 cd3 ct3), sl3⟩) (c3 : PySem.W.codeIn K cd3 "_law_sums" = true) (k3 : PySem.W.keepIn K (.ref f3) = true)
    (a4 : PySem.W.nsIn K mainGlobals "greatest_sum" = some (some (.ref f4))) (l4 : K.lookup f4 = some ⟨oc4, od4, .func (PySem.W.fnOf "greatest_sum" "greatest_sum" (defArgs s_greatest_sum) (defBody s_greatest_sum) (defScope s_greatest_sum) .none kV4 dc4 pm4 an4 cd4 ct4), sl4⟩) (c4 : PySem.W.codeIn K cd4 "greatest_sum" = true) (k4 : PySem.W.keepIn K (.ref f4) = true)
    (a5 : PySem.W.nsIn K mainGlobals "lightest" = some (some (.ref f5))) (l5 : K.lookup f5 = some ⟨oc5, od5, .func (PySem.W.fnOf "lightest" "lightest" (defArgs s_lightest) (defBody s_lightest) (defScope s_lightest) .none kV5 dc5 pm5 an5 cd5 ct5), sl5⟩) (c5 : PySem.W.codeIn K cd5 "lightest" = true) (k5 : PySem.W.keepIn K (.ref f5) = true)
    (a6 : PySem.W.nsIn K mainGlobals "heaviest" = some (some (.ref f6))) (l6 : K.lookup f6 = some ⟨oc6, od6, .func (PySem.W.fnOf "heaviest" "heaviest" (defArgs s_heaviest) (defBody s_heaviest) (defScope s_heaviest) .none kV6 dc6 pm6 an6 cd6 ct6), sl6⟩) (c6 : PySem.W.codeIn K cd6 "heaviest" = true) (k6 : PySem.W.keepIn K (.ref f6) = true)
    (a7 : PySem.W.nsIn K mainGlobals "_law_number" = some (some (.ref f7))) (l7 : K.lookup f7 = some ⟨oc7, od7, .func (PySem.W.fnOf "_law_number" "_law_number" (defArgs s_law_number) (defBody s_law_number) (defScope s_law_number) .none kV7 dc7 pm7 an7 cd7 ct7), sl7⟩) (c7 : PySem.W.codeIn K cd7 "_law_number" = true) (k7 : PySem.W.keepIn K (.ref f7) = true)
    (a8 : PySem.W.nsIn K mainGlobals "span_of" = some (some (.ref f8))) (l8 : K.lookup f8 = some ⟨oc8, od8, .func (PySem.W.fnOf "span_of" "span_of" (defArgs s_span_of) (defBody s_span_of) (defScope s_span_of) .none kV8 dc8 pm8 an8 cd8 ct8), sl8⟩) (c8 : PySem.W.codeIn K cd8 "span_of" = true) (k8 : PySem.W.keepIn K (.ref f8) = true)
    (a9 : PySem.W.nsIn K mainGlobals "_law_good" = some (some (.ref f9))) (l9 : K.lookup f9 = some ⟨oc9, od9, .func (PySem.W.fnOf "_law_good" "_law_good" (defArgs s_law_good) (defBody s_law_good) (defScope s_law_good) .none kV9 dc9 pm9 an9 cd9 ct9), sl9⟩) (c9 : PySem.W.codeIn K cd9 "_law_good" = true) (k9 : PySem.W.keepIn K (.ref f9) = true)
    (a10 : PySem.W.nsIn K mainGlobals "_law_cell" = some (some (.ref f10))) (l10 : K.lookup f10 = some ⟨oc10, od10, .func (PySem.W.fnOf "_law_cell" "_law_cell" (defArgs s_law_cell) (defBody s_law_cell) (defScope s_law_cell) .none kV10 dc10 pm10 an10 cd10 ct10), sl10⟩) (c10 : PySem.W.codeIn K cd10 "_law_cell" = true) (k10 : PySem.W.keepIn K (.ref f10) = true)
    (a11 : PySem.W.nsIn K mainGlobals "law" = some (some (.ref f11))) (l11 : K.lookup f11 = some ⟨oc11, od11, .func (PySem.W.fnOf "law" "law" (defArgs s_law) (defBody s_law) (defScope s_law) .none kV11 dc11 pm11 an11 cd11 ct11), sl11⟩) (c11 : PySem.W.codeIn K cd11 "law" = true) (k11 : PySem.W.keepIn K (.ref f11) = true)
    (zz0 : PySem.W.nsIn K mainGlobals "range" = some none)
    (zz1 : PySem.W.nsIn K mainGlobals "min" = some none)
    (zz2 : PySem.W.nsIn K mainGlobals "len" = some none)
    (zz3 : PySem.W.nsIn K mainGlobals "max" = some none)
    (zz4 : PySem.W.nsIn K mainGlobals "sum" = some none)
    (zz5 : PySem.W.nsIn K mainGlobals "enumerate" = some none)
    (zz6 : PySem.W.nsIn K mainGlobals "isinstance" = some none)
    (zz7 : PySem.W.nsIn K mainGlobals "int" = some none)
    (zz8 : PySem.W.nsIn K mainGlobals "bool" = some none)
    (zz9 : PySem.W.nsIn K mainGlobals "list" = some none)
    (zz10 : PySem.W.nsIn K mainGlobals "all" = some none)
    (zz11 : PySem.W.nsIn K mainGlobals "abs" = some none)
    :
    ∃ fd : FuncData, (∀ (s : Shared) (v : Value), BindsTo s fd ⟨[v], []⟩ [("_law_script", v)]) ∧ ∀ base : Heap, K.In base → base.Ns mainGlobals mg → FnOk l.prog w K mg base CX0 4 fa fd ["_law_script"] (sp_law K) := by
  have e := hfa.symm.trans (PySem.W.mg_of X G a11)
  cases e
  have F0 := fun_mk (st := s_law_mix) l0 c0 k0
  have F1 := fun_mk (st := s_law_wheels) l1 c1 k1
  have F2 := fun_mk (st := s_offsets_of) l2 c2 k2
  have F3 := fun_mk (st := s_law_sums) l3 c3 k3
  have F4 := fun_mk (st := s_greatest_sum) l4 c4 k4
  have F5 := fun_mk (st := s_lightest) l5 c5 k5
  have F6 := fun_mk (st := s_heaviest) l6 c6 k6
  have F7 := fun_mk (st := s_law_number) l7 c7 k7
  have F8 := fun_mk (st := s_span_of) l8 c8 k8
  have F9 := fun_mk (st := s_law_good) l9 c9 k9
  have F10 := fun_mk (st := s_law_cell) l10 c10 k10
  have F11 := fun_mk (st := s_law) l11 c11 k11
  have z_range := PySem.W.mg_none_of X G zz0
  have z_min := PySem.W.mg_none_of X G zz1
  have z_len := PySem.W.mg_none_of X G zz2
  have z_max := PySem.W.mg_none_of X G zz3
  have z_sum := PySem.W.mg_none_of X G zz4
  have z_enumerate := PySem.W.mg_none_of X G zz5
  have z_isinstance := PySem.W.mg_none_of X G zz6
  have z_int := PySem.W.mg_none_of X G zz7
  have z_bool := PySem.W.mg_none_of X G zz8
  have z_list := PySem.W.mg_none_of X G zz9
  have z_all := PySem.W.mg_none_of X G zz10
  have z_abs := PySem.W.mg_none_of X G zz11
  refine ⟨PySem.W.fnOf "law" "law" (defArgs s_law) (defBody s_law) (defScope s_law) .none kV11 dc11 pm11 an11 cd11 ct11, fun s v => .of_eq rfl, fun base _ _ => ?_⟩
  have b0 := F0.binds (ps := ["_law_cell_here", "_law_one", "_law_prime"]) fun _ _ _ _ _ _ us hl => by obtain ⟨_, _, _, rfl⟩ := us3 hl; rfl
  have g_law_mix : Got l.prog w K mg base 1 "_law_mix" ["_law_cell_here", "_law_one", "_law_prime"] (sp_law_mix K) := ⟨⟨_, _, ok_law_mix F0 , b0, k0, PySem.W.mg_of X G a0⟩⟩
  have b1 := F1.binds (ps := ["_law_cell_here", "_law_many"]) fun _ _ _ _ _ _ us hl => by obtain ⟨_, _, rfl⟩ := us2 hl; rfl
  have g_law_wheels : Got l.prog w K mg base 2 "_law_wheels" ["_law_cell_here", "_law_many"] (sp_law_wheels K) := ⟨⟨_, _, ok_law_wheels F1 g_law_mix z_range z_min, b1, k1, PySem.W.mg_of X G a1⟩⟩
  have b2 := F2.binds (ps := ["wheels"]) fun _ _ _ _ _ _ us hl => by obtain ⟨_, rfl⟩ := us1 hl; rfl
  have g_offsets_of : Got l.prog w K mg base 1 "offsets_of" ["wheels"] (sp_offsets_of K) := ⟨⟨_, _, ok_offsets_of F2 , b2, k2, PySem.W.mg_of X G a2⟩⟩
  have b3 := F3.binds (ps := ["_law_wheels_here", "_law_places", "_law_width"]) fun _ _ _ _ _ _ us hl => by obtain ⟨_, _, _, rfl⟩ := us3 hl; rfl
  have g_law_sums : Got l.prog w K mg base 1 "_law_sums" ["_law_wheels_here", "_law_places", "_law_width"] (sp_law_sums K) := ⟨⟨_, _, ok_law_sums F3 z_range z_len z_max z_sum, b3, k3, PySem.W.mg_of X G a3⟩⟩
  have b4 := F4.binds (ps := ["weights", "offsets", "width"]) fun _ _ _ _ _ _ us hl => by obtain ⟨_, _, _, rfl⟩ := us3 hl; rfl
  have g_greatest_sum : Got l.prog w K mg base 1 "greatest_sum" ["weights", "offsets", "width"] (sp_greatest_sum K) := ⟨⟨_, _, ok_greatest_sum F4 z_enumerate z_max z_sum z_range z_len, b4, k4, PySem.W.mg_of X G a4⟩⟩
  have b5 := F5.binds (ps := ["wheels", "width"]) fun _ _ _ _ _ _ us hl => by obtain ⟨_, _, rfl⟩ := us2 hl; rfl
  have g_lightest : Got l.prog w K mg base 2 "lightest" ["wheels", "width"] (sp_lightest K) := ⟨⟨_, _, ok_lightest F5 g_greatest_sum g_offsets_of, b5, k5, PySem.W.mg_of X G a5⟩⟩
  have b6 := F6.binds (ps := ["wheels", "width"]) fun _ _ _ _ _ _ us hl => by obtain ⟨_, _, rfl⟩ := us2 hl; rfl
  have g_heaviest : Got l.prog w K mg base 2 "heaviest" ["wheels", "width"] (sp_heaviest K) := ⟨⟨_, _, ok_heaviest F6 g_greatest_sum g_offsets_of, b6, k6, PySem.W.mg_of X G a6⟩⟩
  have b7 := F7.binds (ps := ["_law_found"]) fun _ _ _ _ _ _ us hl => by obtain ⟨_, rfl⟩ := us1 hl; rfl
  have g_law_number : Got l.prog w K mg base 1 "_law_number" ["_law_found"] (sp_law_number K) := ⟨⟨_, _, ok_law_number F7 z_isinstance z_int z_bool, b7, k7, PySem.W.mg_of X G a7⟩⟩
  have b8 := F8.binds (ps := ["wheels"]) fun _ _ _ _ _ _ us hl => by obtain ⟨_, rfl⟩ := us1 hl; rfl
  have g_span_of : Got l.prog w K mg base 1 "span_of" ["wheels"] (sp_span_of K) := ⟨⟨_, _, ok_span_of F8 z_sum, b8, k8, PySem.W.mg_of X G a8⟩⟩
  have b9 := F9.binds (ps := ["_law_cell_here", "_law_most_wheels"]) fun _ _ _ _ _ _ us hl => by obtain ⟨_, _, rfl⟩ := us2 hl; rfl
  have g_law_good : Got l.prog w K mg base 3 "_law_good" ["_law_cell_here", "_law_most_wheels"] (sp_law_good K) := ⟨⟨_, _, ok_law_good F9 g_law_mix g_law_wheels g_offsets_of g_law_sums g_lightest g_heaviest g_law_number g_span_of z_list z_max z_isinstance z_all z_abs z_len, b9, k9, PySem.W.mg_of X G a9⟩⟩
  have b10 := F10.binds (ps := ["_law_script", "_law_k"]) fun _ _ _ _ _ _ us hl => by obtain ⟨_, _, rfl⟩ := us2 hl; rfl
  have g_law_cell : Got l.prog w K mg base 1 "_law_cell" ["_law_script", "_law_k"] (sp_law_cell K) := ⟨⟨_, _, ok_law_cell F10 z_len, b10, k10, PySem.W.mg_of X G a10⟩⟩
  exact ok_law (P := l.prog) (w := w) (base := base) F11 g_law_good g_law_cell z_enumerate z_len z_int
theorem walk {l : PySem.W.OpenLaw} {q : Program} {loose : List Str} {XP : (Str → Option Value) → Heap → Prop} {YP : World → Heap → Prop} {d : DefRec} {K : Params → PySem.W.Frag} (hn : l.most = some 63) (hdf : d.params.defaults = [])
    (hY : ∀ (w : World) (h : Heap), YP w h → (K w.params).In h)
    (F : ∀ (w : World) (mg : Str → Option Value) (fa : Addr) (h : Heap), (K w.params).In h → h.Ns mainGlobals mg → mg d.name = some (.ref fa) →
      ∃ fd : FuncData, (∀ (s : Shared) (u : Value), BindsTo s fd ⟨[u], []⟩ [("_law_script", u)]) ∧ ∀ base : Heap, (K w.params).In base → base.Ns mainGlobals mg → FnOk l.prog w (K w.params) mg base CX0 4 fa fd ["_law_script"] (sp_law (K w.params))) :
    PySem.W.WalkO q loose XP YP l.row.toRowW d [] (fun f vs => PySem.call f vs) :=
  L2.walk_of (n := 63) (k := 4) (x := "_law_script") (CX := fun _ => CX0) (sp := fun w => sp_law (K w.params)) hn (by decide) hdf ⟨rfl, by decide, by decide⟩ hY F (fun _ _ a ns hl _ hS => ⟨a, ns, rfl, hS, hl, fun _ => rfl⟩) fun _ _ _ _ _ z => z
end Kl
open PySem PySem.W PyProof.Rows
set_option maxRecDepth 100000 in
set_option maxHeartbeats 0 in
theorem PySem.Challenge.cw_ballastway_k14_wheels_close_together_holds : PySem.Challenge.rw_ballastway_k14_wheels_close_together.Holds := by
  w_on; o_law; k_head; (case hw => w_witness2)
  k_fill
  refine Kl.walk (l := PySem.Challenge.rw_ballastway_k14_wheels_close_together) rfl rfl (fun w h Y => PySem.W.kIn_of Y) ?F
  case F =>
    intro w mg fa h KX G hmg
    refine' Kl.all_mk KX G hmg ?a0 ?l0 ?c0 ?k0 ?a1 ?l1 ?c1 ?k1 ?a2 ?l2 ?c2 ?k2 ?a3 ?l3 ?c3 ?k3 ?a4 ?l4 ?c4 ?k4 ?a5 ?l5 ?c5 ?k5 ?a6 ?l6 ?c6 ?k6 ?a7 ?l7 ?c7 ?k7 ?a8 ?l8 ?c8 ?k8 ?a9 ?l9 ?c9 ?k9 ?a10 ?l10 ?c10 ?k10 ?a11 ?l11 ?c11 ?k11 ?zz0 ?zz1 ?zz2 ?zz3 ?zz4 ?zz5 ?zz6 ?zz7 ?zz8 ?zz9 ?zz10 ?zz11
    (case a0 => k_is)
    (case l0 => k_is)
    (case c0 => k_is)
    (case k0 => k_is)
    (case a1 => k_is)
    (case l1 => k_is)
    (case c1 => k_is)
    (case k1 => k_is)
    (case a2 => k_is)
    (case l2 => k_is)
    (case c2 => k_is)
    (case k2 => k_is)
    (case a3 => k_is)
    (case l3 => k_is)
    (case c3 => k_is)
    (case k3 => k_is)
    (case a4 => k_is)
    (case l4 => k_is)
    (case c4 => k_is)
    (case k4 => k_is)
    (case a5 => k_is)
    (case l5 => k_is)
    (case c5 => k_is)
    (case k5 => k_is)
    (case a6 => k_is)
    (case l6 => k_is)
    (case c6 => k_is)
    (case k6 => k_is)
    (case a7 => k_is)
    (case l7 => k_is)
    (case c7 => k_is)
    (case k7 => k_is)
    (case a8 => k_is)
    (case l8 => k_is)
    (case c8 => k_is)
    (case k8 => k_is)
    (case a9 => k_is)
    (case l9 => k_is)
    (case c9 => k_is)
    (case k9 => k_is)
    (case a10 => k_is)
    (case l10 => k_is)
    (case c10 => k_is)
    (case k10 => k_is)
    (case a11 => k_is)
    (case l11 => k_is)
    (case c11 => k_is)
    (case k11 => k_is)
    (case zz0 => k_is)
    (case zz1 => k_is)
    (case zz2 => k_is)
    (case zz3 => k_is)
    (case zz4 => k_is)
    (case zz5 => k_is)
    (case zz6 => k_is)
    (case zz7 => k_is)
    (case zz8 => k_is)
    (case zz9 => k_is)
    (case zz10 => k_is)
    (case zz11 => k_is)
