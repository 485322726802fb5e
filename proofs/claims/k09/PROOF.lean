import PyProof.Rows.All
import Wide.All
import OpenK.AllK
import Wide.FinOn
import Lean
import PyProof.EqAt
import PyProof.EqKinds
import PyProof.TupleCall
import PySem.Challenge.RW_ballastway_k09_roads_written
set_option compiler.extract_closed false
set_option Elab.async false
set_option linter.all false
set_option maxRecDepth 100000
namespace L2
open PySem PySem.Spec PyProof.Rows
abbrev Key := Sum Int Str
def keyIs : Key → Value → Bool
 | .inl k, v => Value.isInt k v
 | .inr x, v => Value.isStrOf x v
def keyH (w : World) : Key → Int
 | .inl k => hashInt k
 | .inr x => hashStr w x
theorem keyIs_shape : ∀ {k : Key} {v : Value}, keyIs k v = true → (∃ i t, k = Sum.inl i ∧ v = Value.int i t) ∨ (∃ x t, k = Sum.inr x ∧ v = Value.str x t)
 | .inl i, v, h => by
   obtain ⟨t, e⟩ := Value.isInt_shape (k := i) (v := v) h
   exact .inl ⟨i, t, rfl, e⟩
 | .inr x, v, h => by
   obtain ⟨t, e⟩ := Value.isStrOf_shape (x := x) (v := v) h
   exact .inr ⟨x, t, rfl, e⟩
theorem key_ll (a b : Int) : decide ((Sum.inl a : Key) = Sum.inl b) = (a == b) := by
 by_cases e : a = b
 · subst e; simp
 · have h : ¬ (Sum.inl a : Key) = Sum.inl b := fun q => e (Sum.inl.inj q)
   rw [decide_eq_false h]
   exact (beq_eq_false_iff_ne.mpr e).symm
theorem key_rr (a b : Str) : decide ((Sum.inr a : Key) = Sum.inr b) = decide (a = b) := by
 by_cases e : a = b
 · subst e; simp
 · have h : ¬ (Sum.inr a : Key) = Sum.inr b := fun q => e (Sum.inr.inj q)
   rw [decide_eq_false h, decide_eq_false e]
theorem key_lr (a : Int) (b : Str) : decide ((Sum.inl a : Key) = Sum.inr b) = false := decide_eq_false (fun q => nomatch q)
theorem key_rl (a : Str) (b : Int) : decide ((Sum.inr a : Key) = Sum.inl b) = false := decide_eq_false (fun q => nomatch q)
def mixKind (prog : Program) (w : World) : PySem.KeyKind prog w Key where
 is := keyIs
 hash := keyH w
 inj := fun v a b ha hb => by
  rcases keyIs_shape ha with ⟨i, t, rfl, rfl⟩ | ⟨x, t, rfl, rfl⟩
  · rcases keyIs_shape hb with ⟨j, u, rfl, e⟩ | ⟨y, u, rfl, e⟩
    · injection e with e1 _; rw [e1]
    · exact nomatch e
  · rcases keyIs_shape hb with ⟨j, u, rfl, e⟩ | ⟨y, u, rfl, e⟩
    · exact nomatch e
    · injection e with e1 _; rw [e1]
 byValue := fun k v h => by
  rcases keyIs_shape h with ⟨i, t, rfl, rfl⟩ | ⟨x, t, rfl, rfl⟩ <;> rfl
 pyHash := fun hv h => by
  rcases keyIs_shape hv with ⟨i, t, rfl, rfl⟩ | ⟨x, t, rfl, rfl⟩
  · exact wpAny_pyHash_int h
  · exact wpAny_pyHash_str h
 eqBool := fun hu hv h => by
  rcases keyIs_shape hu with ⟨i, t, rfl, rfl⟩ | ⟨x, t, rfl, rfl⟩
  · rcases keyIs_shape hv with ⟨j, u, rfl, rfl⟩ | ⟨y, u, rfl, rfl⟩
    · rw [key_ll] at h; exact wpAny_eqBool_int h
    · rw [key_lr] at h; exact SeqAt.EqAt.int_str i t y u _ _ _ _ h
  · rcases keyIs_shape hv with ⟨j, u, rfl, rfl⟩ | ⟨y, u, rfl, rfl⟩
    · rw [key_rl] at h; exact SeqAt.EqAt.str_int x t j u _ _ _ _ h
    · rw [key_rr] at h; exact wpAny_eqBool_str h
 «strs» := fun k x t v h => by
  rcases keyIs_shape h with ⟨i, u, rfl, e⟩ | ⟨y, u, rfl, e⟩
  · exact nomatch e
  · injection e with e1 _
    subst e1
    cases v <;> rfl
end L2
namespace L2
open PySem PySem.Spec PyProof.Rows
inductive V where
 | non | bl (b : Bool) | int (i : Int) | str (x : Str) | byt (b : Array UInt8) | flt (b : UInt64) | ref (a : Addr) | ty (n : String)
 deriving DecidableEq
def RelV : V → Value → Prop
 | .non, u => u = Value.none
 | .bl b, u => u = Value.bool b
 | .int i, u => ∃ t, u = Value.int i t
 | .str x, u => ∃ t, u = Value.str x t
 | .byt b, u => ∃ t, u = Value.bytes b t
 | .flt b, u => ∃ t, u = Value.float b t
 | .ref a, u => u = Value.ref a
 | .ty n, u => u = Value.type n
abbrev Vals : List V → List Value → Prop := Paired RelV
theorem Vals.length {xs : List V} {us : List Value} (r : Vals xs us) : xs.length = us.length := Paired.length r
theorem Vals.get : ∀ {xs : List V} {us : List Value} {i : Nat} {x : V}, Vals xs us → xs[i]? = some x → ∃ u, us[i]? = some u ∧ RelV x u
 | _, _, _, _, .nil, e => by simp at e
 | _, _, 0, _, .cons r _, e => by simp at e; subst e; exact ⟨_, rfl, r⟩
 | _, _, i + 1, x, .cons _ t, e => by
   obtain ⟨u, h1, h2⟩ := Vals.get (i := i) (x := x) t (by simpa using e)
   exact ⟨u, by simpa using h1, h2⟩
theorem Vals.set {x : V} {u : Value} (r : RelV x u) : ∀ {xs : List V} {us : List Value} (i : Nat), Vals xs us → Vals (xs.set i x) (us.set i u)
 | _, _, _, .nil => .nil
 | _, _, 0, .cons _ t => .cons r t
 | _, _, i + 1, .cons q t => .cons q (Vals.set r i t)
theorem Vals.append : ∀ {xs ys : List V} {us ws : List Value}, Vals xs us → Vals ys ws → Vals (xs ++ ys) (us ++ ws)
 | _, _, _, _, .nil, s => s
 | _, _, _, _, .cons r t, s => .cons r (Vals.append t s)
theorem Vals.take : ∀ {xs : List V} {us : List Value} (n : Nat), Vals xs us → Vals (xs.take n) (us.take n)
 | _, _, 0, _ => .nil
 | _, _, _ + 1, .nil => .nil
 | _, _, n + 1, .cons r t => .cons r (Vals.take n t)
theorem Vals.drop : ∀ {xs : List V} {us : List Value} (n : Nat), Vals xs us → Vals (xs.drop n) (us.drop n)
 | _, _, 0, r => r
 | _, _, _ + 1, .nil => .nil
 | _, _, n + 1, .cons _ t => Vals.drop n t
def RelO : Option V → Option Value → Prop
 | some v, some u => RelV v u
 | none, none => True
 | _, _ => False
def KV {κ : Type} : List (κ × V) → List (κ × Value) → Prop := Paired fun (p : κ × V) (q : κ × Value) => p.1 = q.1 ∧ RelV p.2 q.2
def kV : Key → V
 | .inl i => .int i
 | .inr x => .str x
inductive HO where
 | lst (xs : List V)
 | tup (xs : List V)
 | dK (kvs : List (Key × V)) | dT (kvs : List (List Key × V))
 | set (S : Int → Bool) (n : Nat)
 | ins (C dx : Addr) (fs : List (Str × V))
 | own (x : Addr)
 | xd (fs : List (Str × V))
 | met (f x : Addr)
 | rng (lo hi : Int)
 | frz (o : Obj) (u : HO)
 | tbl (ps : Array Value)
 | ext (φ : Heap → Prop)
abbrev Hp := Addr → Option HO
def upd (H : Hp) (a : Addr) (o : HO) : Hp := fun b => if b = a then some o else H b
theorem upd_same {H : Hp} {a : Addr} {o : HO} : upd H a o a = some o := by unfold upd; rw [if_pos rfl]
theorem upd_ne {H : Hp} {a b : Addr} {o : HO} (h : b ≠ a) : upd H a o b = H b := by unfold upd; rw [if_neg h]
theorem ne_of_none {H : Hp} {a b : Addr} {o : HO} (h : H a = some o) (h' : H b = none) : a ≠ b := by
 intro e; subst e; rw [h] at h'; cases h'
section
variable (P : Program) (w : World)
def ObjOk (H : Hp) (h : Heap) (a : Addr) : HO → Prop
 | .lst xs => xs.length ≤ sizeLine ∧ ∃ (its : List Value) (n : Nat), Vals xs its ∧ h.get? a = some { cls := .type "list", data := .seq its.toArray n }
 | .tup xs => xs.length ≤ sizeLine ∧ ∃ its : List Value, Vals xs its ∧ IsTup h a its.toArray
 | .dK kvs => kvs.length ≤ sizeLine ∧ (a == sysModules) = false ∧ ∃ vs, KV kvs vs ∧ h.DictOf (mixKind P w) a vs
 | .dT kvs => kvs.length ≤ sizeLine ∧ (a == sysModules) = false ∧ ∃ xs : List (List Key × Addr × Value),
  Paired (fun (p : List Key × V) (q : List Key × Addr × Value) => p.1 = q.1 ∧ H q.2.1 = some (.tup (p.1.map kV)) ∧ RelV p.2 q.2.2) kvs xs ∧
  ∃ o es ep, h.get? a = some o ∧ o.ExactDict ∧ o.data = .dict es ep ∧ es.toList = xs.map (entryOfKey (tupleKind (mixKind P w))) ∧ (xs.map (·.1)).Nodup
 | .set S n => h.SetOf (intKind P w) a S n
 | .ins C dx fs => H dx = some (.own a) ∧ fs.length ≤ 1000 ∧ dx ≠ a ∧ h.get? a = some (PySem.W.instObj C dx) ∧
  ∃ mA, h.Ns1 dx mA ∧ (∀ f, RelO (fs.lookup f) (mA f)) ∧ PySem.Within mA (fs.map (·.1))
 | .own _ => ∃ o, h.get? a = some o
 | .xd fs => ∃ mA, h.Ns1 a mA ∧ ∀ f, RelO (fs.lookup f) (mA f)
 | .rng lo hi => ∃ t u v, h.get? a = some { cls := .type "range", data := .fields #[.int lo t, .int hi u, .int 1 v] }
 | .frz o u => h.get? a = some o ∧ ObjOk H h a u
 | .tbl ps => h.get? a = some { cls := .none, data := .fields ps }
 | .met f x => h.get? a = some (PySem.W.methodObj (.ref f) (.ref x))
 | .ext φ => φ h ∧ (∃ o, h.get? a = some o) ∧ ∀ h1 h2 : Heap, φ h1 → (∀ o, h1.get? a = some o → h2.get? a = some o) → φ h2
def HOk (H : Hp) (h : Heap) : Prop := ∀ a o, H a = some o → ObjOk P w H h a o
end
section
variable {P : Program} {w : World} {H H' : Hp} {h h' : Heap} {a : Addr} {o : HO}
theorem ObjOk.lt (x : ObjOk P w H h a o) : a < h.objs.size := by
 cases o with
 | lst xs => obtain ⟨_, _, _, _, e⟩ := x; exact Heap.lt_size e
 | tup xs => obtain ⟨_, _, _, p⟩ := x; exact p.lt
 | dK kvs => obtain ⟨_, _, _, _, o, _, _, e, _⟩ := x; exact Heap.lt_size e
 | dT kvs => obtain ⟨_, _, _, _, o, _, _, e, _⟩ := x; exact Heap.lt_size e
 | set S n => obtain ⟨o, _, _, _, e, _⟩ := x; exact Heap.lt_size e
 | ins C dx fs => obtain ⟨_, _, _, e, _⟩ := x; exact Heap.lt_size e
 | own y => obtain ⟨_, e⟩ := x; exact Heap.lt_size e
 | xd fs => obtain ⟨_, ⟨_, _, _, e, _⟩, _⟩ := x; exact Heap.lt_size e
 | rng lo hi => obtain ⟨_, _, _, e⟩ := x; exact Heap.lt_size e
 | frz ob u => obtain ⟨e, _⟩ := x; exact Heap.lt_size e
 | tbl ps => exact Heap.lt_size (show h.get? a = some _ from x)
 | met f y => exact Heap.lt_size (show h.get? a = some _ from x)
 | ext φ => obtain ⟨_, ⟨_, e⟩, _⟩ := x; exact Heap.lt_size e
theorem Paired.mapP {α β : Type} {F G : α → β → Prop} : ∀ {l₁ : List α} {l₂ : List β}, Paired F l₁ l₂ → (∀ a b, F a b → G a b) → Paired G l₁ l₂
 | _, _, .nil, _ => .nil
 | _, _, .cons r t, f => .cons (f _ _ r) (Paired.mapP t f)
theorem ObjOk.stay (x : ObjOk P w H h a o) (k : ∀ b u, (b = a ∨ H b = some (.own a)) → h.get? b = some u → h'.get? b = some u)
 (ho : ∀ b, H b = some (.own a) → H' b = some (.own a)) (ht : ∀ b xs, H b = some (.tup xs) → H' b = some (.tup xs)) : ObjOk P w H' h' a o := by
 induction o with
 | lst xs => obtain ⟨z, its, n, r, e⟩ := x; exact ⟨z, its, n, r, k _ _ (.inl rfl) e⟩
 | tup xs => obtain ⟨z, its, r, ob, e, c⟩ := x; exact ⟨z, its, r, ob, k _ _ (.inl rfl) e, c⟩
 | dK kvs => obtain ⟨z, y, vs, r, ob, es, ep, e, c⟩ := x; exact ⟨z, y, vs, r, ob, es, ep, k _ _ (.inl rfl) e, c⟩
 | dT kvs =>
   obtain ⟨z, y, xs, r, ob, es, ep, e, c⟩ := x
   exact ⟨z, y, xs, Paired.mapP r fun p q z => ⟨z.1, ht _ _ z.2.1, z.2.2⟩, ob, es, ep, k _ _ (.inl rfl) e, c⟩
 | set S n => obtain ⟨ob, es, ep, t, e, c⟩ := x; exact ⟨ob, es, ep, t, k _ _ (.inl rfl) e, c⟩
 | ins C dx fs =>
   obtain ⟨d, z, ne, e, mA, ⟨od, es, ep, e2, c⟩, r⟩ := x
   exact ⟨ho _ d, z, ne, k _ _ (.inl rfl) e, mA, ⟨od, es, ep, k _ _ (.inr d) e2, c⟩, r⟩
 | own y => obtain ⟨ob, e⟩ := x; exact ⟨ob, k _ _ (.inl rfl) e⟩
 | xd fs => obtain ⟨mA, ⟨od, es, ep, e, c⟩, r⟩ := x; exact ⟨mA, ⟨od, es, ep, k _ _ (.inl rfl) e, c⟩, r⟩
 | rng lo hi => obtain ⟨t, u, v, e⟩ := x; exact ⟨t, u, v, k _ _ (.inl rfl) e⟩
 | frz ob u ih => obtain ⟨e, q⟩ := x; exact ⟨k _ _ (.inl rfl) e, ih q⟩
 | tbl ps =>
   have e : h.get? a = some { cls := .none, data := .fields ps } := x
   show h'.get? a = some { cls := .none, data := .fields ps }
   exact k a _ (.inl rfl) e
 | met f y =>
   have e : h.get? a = some (PySem.W.methodObj (.ref f) (.ref y)) := x
   show h'.get? a = some (PySem.W.methodObj (.ref f) (.ref y))
   exact k a _ (.inl rfl) e
 | ext φ => obtain ⟨p, ⟨o, e⟩, st⟩ := x; exact ⟨st _ _ p fun o q => k _ _ (.inl rfl) q, ⟨o, k _ _ (.inl rfl) e⟩, st⟩
theorem HOk.lt (x : HOk P w H h) (e : H a = some o) : a < h.objs.size := (x a o e).lt
theorem HOk.fresh (x : HOk P w H h) (e : h.objs.size ≤ a) : H a = none := by
 cases q : H a with
 | none => rfl
 | some u => exact absurd (Nat.lt_of_lt_of_le (x.lt q) e) (Nat.lt_irrefl _)
theorem HOk.kept (x : HOk P w H h) (k : ∀ b u, h.get? b = some u → h'.get? b = some u) : HOk P w H h' := fun a o e =>
 (x a o e).stay (fun b u _ q => k b u q) (fun _ q => q) fun _ _ q => q
theorem HOk.laid (x : HOk P w H h) (k : ∀ b u, h.get? b = some u → h'.get? b = some u) (hp : h.objs.size ≤ a) (new : ObjOk P w (upd H a o) h' a o) : HOk P w (upd H a o) h' := fun b u e => by
 have hn := x.fresh hp
 by_cases hb : b = a
 · subst hb; rw [upd_same] at e; cases e; exact new
 · rw [upd_ne hb] at e
   exact (x b u e).stay (fun c v _ q => k c v q) (fun c q => by rw [upd_ne (ne_of_none q hn)]; exact q) fun c xs q => by rw [upd_ne (ne_of_none q hn)]; exact q
end
def Rd (H : Hp) (a : Addr) (u : HO) : Prop := H a = some u ∨ ∃ o, H a = some (.frz o u)
theorem Rd.of {H : Hp} {a : Addr} {u : HO} (h : H a = some u) : Rd H a u := .inl h
theorem Rd.ok {P : Program} {w : World} {H : Hp} {h : Heap} {a : Addr} {u : HO} (r : Rd H a u) (x : HOk P w H h) : ObjOk P w H h a u := by
 rcases r with r | ⟨o, r⟩
 · exact x a u r
 · obtain ⟨_, q⟩ := x a _ r
   exact q
def Mut : Option HO → Prop
 | some (.lst _) => True
 | some (.dK _) => True
 | some (.dT _) => True
 | some (.set _ _) => True
 | some (.ins _ _ _) => True
 | some (.ext _) => True
 | _ => False
section
variable {P : Program} {w : World} {H : Hp} {h h' : Heap} {x e : Addr} {o' : HO}
theorem HOk.write (ok : HOk P w H h) (mu : Mut (H x)) (he : e = x ∨ H e = some (.own x)) (k : ∀ b u, b ≠ e → h.get? b = some u → h'.get? b = some u) (heo : ∃ u, h'.get? e = some u)
 (new : ObjOk P w (upd H x o') h' x o') : HOk P w (upd H x o') h' := fun b u q => by
 have nown : ∀ c y, H c = some (.own y) → c ≠ x := fun c y r z => by subst z; rw [r] at mu; exact mu
 have ntup : ∀ c xs, H c = some (.tup xs) → c ≠ x := fun c xs r z => by subst z; rw [r] at mu; exact mu
 by_cases hb : b = x
 · subst hb; rw [upd_same] at q; cases q; exact new
 · rw [upd_ne hb] at q
   by_cases hbe : b = e
   · have q' : H b = some (.own x) := by
      rcases he with z | z
      · exact absurd (hbe.trans z) hb
      · rw [hbe]; exact z
     rw [q] at q'; cases q'
     obtain ⟨v, hv⟩ := heo
     exact ⟨v, by rw [hbe]; exact hv⟩
   · refine (ok b u q).stay (fun c v hc r => k c v ?_ r) (fun c r => by rw [upd_ne (nown c b r)]; exact r) fun c xs r => by rw [upd_ne (ntup c xs r)]; exact r
     rcases hc with rfl | hc
     · exact hbe
     · rintro rfl
       rcases he with z | z
       · exact nown c b hc z
       · rw [hc] at z; cases z; exact hb rfl
end
structure Un (fs ex : List Addr) (H H' : Hp) (h h' : Heap) : Prop where
 keep : ∀ b o, h.get? b = some o → H b = none → b ∉ fs → b ∉ ex → h'.get? b = some o
 slot : ∀ b o, h.get? b = some o → H b = none → b ∈ fs → b ∉ ex → ∃ sl, h'.get? b = some { o with slots := sl }
 free : ∀ b o, h.get? b = some o → H b = none → b ∉ ex → H' b = none
 there : ∀ b o, h.get? b = some o → b ∉ ex → ∃ o', h'.get? b = some o'
 tups : ∀ b xs, H b = some (.tup xs) → H' b = some (.tup xs)
 frzs : ∀ b o u, H b = some (.frz o u) → H' b = some (.frz o u)
 tbls : ∀ b ps, H b = some (.tbl ps) → ∃ more, H' b = some (.tbl (ps ++ more))
section
variable {fs fs' ex ex' : List Addr} {H H1 H2 : Hp} {h h1 h2 h' : Heap} {a x e : Addr} {o : HO}
theorem Un.any (u : Un fs ex H H1 h h1) {b : Addr} {ob : Obj} (q : h.get? b = some ob) (n : H b = none) (hx : b ∉ ex) : ∃ sl, h1.get? b = some { ob with slots := sl } := by
 by_cases hb : b ∈ fs
 · exact u.slot b ob q n hb hx
 · exact ⟨ob.slots, u.keep b ob q n hb hx⟩
theorem Un.trans (a : Un fs ex H H1 h h1) (b : Un fs ex H1 H2 h1 h2) : Un fs ex H H2 h h2 where
 keep := fun c ob q n hc hx => b.keep c ob (a.keep c ob q n hc hx) (a.free c ob q n hx) hc hx
 slot := fun c ob q n hc hx => by
  obtain ⟨sl, e1⟩ := a.slot c ob q n hc hx
  obtain ⟨sl', e2⟩ := b.slot c _ e1 (a.free c ob q n hx) hc hx
  exact ⟨sl', e2⟩
 free := fun c ob q n hx => by
  obtain ⟨o', e1⟩ := a.there c ob q hx
  exact b.free c o' e1 (a.free c ob q n hx) hx
 there := fun c ob q hx => by
  obtain ⟨o', e1⟩ := a.there c ob q hx
  exact b.there c o' e1 hx
 tups := fun c xs q => b.tups c xs (a.tups c xs q)
 frzs := fun c ob xs q => b.frzs c ob xs (a.frzs c ob xs q)
 tbls := fun c ps q => by
  obtain ⟨m1, e1⟩ := a.tbls c ps q
  obtain ⟨m2, e2⟩ := b.tbls c _ e1
  exact ⟨m1 ++ m2, by rw [e2, Array.append_assoc]⟩
theorem Un.kept (k : ∀ b u, h.get? b = some u → h'.get? b = some u) : Un fs ex H H h h' :=
 ⟨fun b ob q _ _ _ => k b ob q, fun b ob q _ _ _ => ⟨ob.slots, k b ob q⟩, fun _ _ _ n _ => n, fun b ob q _ => ⟨ob, k b ob q⟩, fun _ _ q => q, fun _ _ _ q => q, fun _ ps q => ⟨#[], by rw [q]; simp⟩⟩
theorem Un.refl : Un fs ex H H h h := Un.kept fun _ _ q => q
theorem Un.laid (k : ∀ b u, h.get? b = some u → h'.get? b = some u) (hp : h.objs.size ≤ a) (hn : H a = none) : Un fs ex H (upd H a o) h h' where
 keep := fun b u q _ _ _ => k b u q
 slot := fun b u q _ _ _ => ⟨u.slots, k b u q⟩
 free := fun b u q n _ => by rw [upd_ne (Nat.ne_of_lt (Nat.lt_of_lt_of_le (Heap.lt_size q) hp))]; exact n
 there := fun b u q _ => ⟨u, k b u q⟩
 tups := fun b xs q => by rw [upd_ne (ne_of_none q hn)]; exact q
 frzs := fun b u xs q => by rw [upd_ne (ne_of_none q hn)]; exact q
 tbls := fun b ps q => ⟨#[], by rw [upd_ne (ne_of_none q hn), q]; simp⟩
theorem Un.write (mu : Mut (H x)) (he : e = x ∨ H e = some (.own x)) (k : ∀ b u, b ≠ e → h.get? b = some u → h'.get? b = some u) (heo : ∃ u, h'.get? e = some u) : Un fs ex H (upd H x o) h h' := by
 have hx : ∀ b, H b = none → b ≠ x := fun b n z => by subst z; rw [n] at mu; exact mu
 have hb : ∀ b, H b = none → b ≠ e := fun b n z => by
  subst z
  rcases he with r | r
  · exact hx b n r
  · rw [n] at r; cases r
 have hm : ∀ b u, H b = some u → ¬ Mut (some u) → b ≠ x := fun b u q nm z => by subst z; rw [q] at mu; exact nm mu
 refine ⟨fun b u q n _ _ => k b u (hb b n) q, fun b u q n _ _ => ⟨u.slots, k b u (hb b n) q⟩, fun b u q n _ => by rw [upd_ne (hx b n)]; exact n, fun b u q _ => ?_,
  fun b xs q => by rw [upd_ne (hm b _ q fun z => z)]; exact q, fun b u xs q => by rw [upd_ne (hm b _ q fun z => z)]; exact q, fun b ps q => ⟨#[], by rw [upd_ne (hm b _ q fun z => z), q]; simp⟩⟩
 by_cases hbe : b = e
 · subst hbe; exact heo
 · exact ⟨u, k b u hbe q⟩
theorem Un.mono (u : Un fs ex H H1 h h1) (hs : ∀ b ∈ fs, b ∈ fs') (hx : ∀ b ∈ ex, b ∈ ex') : Un fs' ex' H H1 h h1 :=
 ⟨fun b ob q n hb he => u.keep b ob q n (fun z => hb (hs b z)) fun z => he (hx b z), fun _ _ q n _ he => u.any q n fun z => he (hx _ z), fun b ob q n he => u.free b ob q n fun z => he (hx b z), fun b ob q he => u.there b ob q fun z => he (hx b z), u.tups, u.frzs, u.tbls⟩
end
def trk (h : Heap) (H : Hp) : List Addr := (List.range h.objs.size).filter fun a => (H a).isSome
def hidT (h : Heap) (H : Hp) : Heap := PySem.W.hideAll h (trk h H)
theorem hidT_size (h : Heap) (H : Hp) : (hidT h H).objs.size = h.objs.size := PySem.W.hideAll_size _ _
theorem hidT_get {h : Heap} {H : Hp} {b : Addr} {o : Obj} (e : h.get? b = some o) (n : H b = none) : (hidT h H).get? b = some o :=
 PySem.W.hideAll_get _ e fun hm => by
  have q : (H b).isSome = true := (List.mem_filter.mp hm).2
  rw [n] at q; simp at q
theorem of_hidT {h : Heap} {H : Hp} {b : Addr} {o : Obj} (e : (hidT h H).get? b = some o) : h.get? b = some o ∧ H b = none := by
 have e' : h.get? b = some o := PySem.W.of_hideAll (trk h H) e
 refine ⟨e', ?_⟩
 cases q : H b with
 | none => rfl
 | some x =>
   have hm : b ∈ trk h H := List.mem_filter.mpr ⟨List.mem_range.mpr (Heap.lt_size e'), by simp [q]⟩
   have z : (hidT h H).get? b = none := PySem.W.hideAll_none (trk h H) hm
   rw [z] at e; cases e
def allNews (g h : Heap) (L : Addr) : List (Addr × Obj) := (List.range h.objs.size).filterMap fun a => if a = L ∨ (g.get? a).isSome = true then none else (h.get? a).map fun o => (a, o)
def rest (g h : Heap) (L d : Addr) : List (Addr × Obj) := (allNews g h L).filter fun p => decide (p.1 ≠ d)
end L2
namespace L2
open PySem PySem.Spec PyProof.Rows
structure Mod (K : PySem.W.Frag) (mg : Str → Option Value) (base : Heap) : Prop where
 kin : K.In base
 glob : base.Ns mainGlobals mg
 blt : ∃ mb, base.Ns builtinsNs mb ∧ ∀ x : Str, x ≠ "__name__" → mb x = bootBuiltins x
 nolimit : base.NoLimit
structure Cx where
 prog : Program
 w : World
 K : PySem.W.Frag
 mg : Str → Option Value
 base : Heap
 A : Around
 N : List Str
 s₀ : Shared
 H₀ : Hp
 env : Env
 outer : List Env
 stack : List Env
 ex : List Addr
 fn : Str → Bool
 calm : Bool
 pn : List (Addr × Obj)
 xe : Value → Shared → Prop
def frs (l : List Env) : List Addr := l.filterMap (·.frame)
abbrev Cx.fs (X : Cx) : List Addr := frs X.outer
def Vis (sc : Scope) (x : Str) : Prop := sc.names.lookup x = some .local ∨ sc.names.lookup x = some .cell ∨ sc.names.lookup x = some .free
def Loc (sc : Scope) (x : Str) : Prop := sc.names.lookup x = some .local ∨ sc.names.lookup x = some .cell
def Look (env : Env) (h : Heap) (m : Str → Option Value) (x : Str) (u : Value) : Prop :=
 (env.kindOf x = some .local ∧ m x = some u) ∨ ((env.kindOf x = some .cell ∨ env.kindOf x = some .free) ∧ ∃ c, env.cells.lookup x = some c ∧ h.IsCell c (some u))
structure Cx.Ok (X : Cx) : Prop where
 mod : Mod X.K X.mg X.base
 kind : X.env.scope.kind = .function
 glob : X.env.globals = mainGlobals
 blt : X.env.builtins = builtinsNs
 above : X.s₀.heap.objs.size ≤ X.env.locals
 inj : ∀ x y c, X.env.cells.lookup x = some c → X.env.cells.lookup y = some c → x = y
 has : ∀ x, (X.env.kindOf x = some .cell ∨ X.env.kindOf x = some .free) → ∃ c, X.env.cells.lookup x = some c
 cab : ∀ x c, X.fn x = true → X.env.cells.lookup x = some c → X.s₀.heap.objs.size ≤ c
 hd : X.calm = true → X.A.handled = none
 frames : X.A.frames = some X.stack
 stk : X.stack = X.outer ∨ (X.stack = X.env :: X.outer ∧ X.env.frame = some X.env.locals)
 exf : ∀ b ∈ X.ex, b ≠ X.env.locals ∧ ∀ x c, X.env.cells.lookup x = some c → c ≠ b
 bs : ∀ b o, X.base.get? b = some o → X.s₀.heap.get? b = some o ∧ X.H₀ b = none
 bsz : X.base.objs.size ≤ X.s₀.heap.objs.size
 noex : ∀ b o, X.base.get? b = some o → b ∉ X.ex
 exfs : ∀ b ∈ X.ex, b ∉ X.fs
 funs : X.s₀.heap.FunFrames X.base X.outer
 frf : ∀ b ∈ X.fs, X.H₀ b = none
structure Inv (X : Cx) (pins : List (Addr × Obj)) (σ : List (Option V)) (H : Hp) (s : Shared) : Prop where
 ok : X.Ok
 os : s.os = X.s₀.os
 bare : AllBare s.gens
 base : Un X.fs X.ex X.H₀ H X.s₀.heap s.heap
 loc : ∃ m, s.heap.Ns X.env.locals m ∧ ∀ (i : Nat) (x : Str) (v : V), X.N[i]? = some x → σ[i]? = some (some v) → Vis X.env.scope x → ∃ u, RelV v u ∧ Look X.env s.heap m x u
 cell : ∀ x c, X.env.cells.lookup x = some c → ∃ v, s.heap.IsCell c v
 free : H X.env.locals = none
 freeC : ∀ x c, X.env.cells.lookup x = some c → H c = none
 pin : ∀ p ∈ X.pn ++ pins, s.heap.get? p.1 = some p.2 ∧ H p.1 = none ∧ p.1 ≠ X.env.locals ∧ p.1 ∉ X.fs ∧ ∀ v, p.2.data ≠ .cell v
 hok : HOk X.prog X.w H s.heap
 len : σ.length = X.N.length
section
variable {X : Cx} {pins : List (Addr × Obj)} {σ : List (Option V)} {H H' : Hp} {s : Shared} {h' : Heap}
theorem Cx.Ok.nofr (ok : X.Ok) {b : Addr} {o : Obj} (e : X.base.get? b = some o) : b ∉ X.fs := fun hb => by
 have := (ok.funs.mem hb).1
 rw [e] at this; cases this
theorem Inv.bs (I : Inv X pins σ H s) : ∀ b o, X.base.get? b = some o → s.heap.get? b = some o ∧ H b = none := fun b o e =>
 ⟨I.base.keep b o (I.ok.bs b o e).1 (I.ok.bs b o e).2 (I.ok.nofr e) (I.ok.noex b o e), I.base.free b o (I.ok.bs b o e).1 (I.ok.bs b o e).2 (I.ok.noex b o e)⟩
theorem Inv.bk (I : Inv X pins σ H s) : ∀ b o, X.base.get? b = some o → s.heap.get? b = some o := fun b o e => (I.bs b o e).1
theorem Inv.mod (I : Inv X pins σ H s) : Mod X.K X.mg X.base := I.ok.mod
theorem Inv.kIn (I : Inv X pins σ H s) : X.K.In s.heap := I.ok.mod.kin.keeps I.bk
theorem Inv.nolimit (I : Inv X pins σ H s) : s.heap.NoLimit := I.ok.mod.nolimit.keeps I.bk
theorem Inv.fr (I : Inv X pins σ H s) : ∃ m, Fr X.base X.env.locals s.heap m :=
 let ⟨m, hn, _⟩ := I.loc
 ⟨m, hn, I.bk, Nat.le_trans I.ok.bsz I.ok.above⟩
theorem Inv.lt (I : Inv X pins σ H s) : X.env.locals < s.heap.objs.size := let ⟨_, hn, _⟩ := I.loc; hn.lt
theorem Inv.sz (I : Inv X pins σ H s) : X.s₀.heap.objs.size ≤ s.heap.objs.size := Nat.le_trans I.ok.above (Nat.le_of_lt I.lt)
theorem Inv.nofs (I : Inv X pins σ H s) {a : Addr} (h : s.heap.objs.size ≤ a) : a ∉ X.fs := fun hb => by
 obtain ⟨_, o, ho, _⟩ := I.ok.funs.mem hb
 exact absurd (Nat.lt_of_lt_of_le (Heap.lt_size ho) (Nat.le_trans I.sz h)) (Nat.lt_irrefl _)
theorem Inv.cne (I : Inv X pins σ H s) : ∀ x c, X.env.cells.lookup x = some c → c ≠ X.env.locals := fun x c e z => by
 obtain ⟨v, o, ho, hd⟩ := I.cell x c e
 obtain ⟨m, ⟨o', es, ep, ho', hd', _⟩, _⟩ := I.loc
 rw [z, ho'] at ho; cases ho; rw [hd'] at hd; cases hd
theorem Inv.funs (I : Inv X pins σ H s) : s.heap.FunFrames X.base X.outer := by
 have all : ∀ (l : List Env), (∀ b ∈ frs l, b ∈ X.fs) → X.s₀.heap.FunFrames X.base l → s.heap.FunFrames X.base l := by
  intro l
  induction l with
  | nil => intro _ _; trivial
  | cons env r ih =>
    intro hs hl
    obtain ⟨hk, ⟨L, o, hf, hn, ho, hd⟩, hr⟩ := hl
    have hL : L ∈ X.fs := hs L (by unfold frs; rw [List.filterMap_cons, hf]; exact List.mem_cons_self)
    obtain ⟨sl, e⟩ := I.base.slot L o ho (I.ok.frf L hL) hL fun z => I.ok.exfs L z hL
    exact ⟨hk, ⟨L, _, hf, hn, e, hd⟩, ih (fun b hb => hs b (by unfold frs; rw [List.filterMap_cons, hf]; exact List.mem_cons_of_mem _ hb)) hr⟩
 exact all X.outer (fun _ hb => hb) I.ok.funs
theorem Inv.stack (I : Inv X pins σ H s) : s.heap.FunFrames X.base X.stack := by
 rcases I.ok.stk with e | ⟨e, hf⟩
 · rw [e]; exact I.funs
 · rw [e]
   obtain ⟨m, hn, _⟩ := I.loc
   refine .cons (by rw [I.ok.kind]; decide) hf hn ?_ I.funs
   exact Heap.get?_none_of_le (Nat.le_trans I.ok.bsz I.ok.above)
theorem Inv.stkSub (I : Inv X pins σ H s) : ∀ b ∈ frs X.stack, b ∈ X.env.locals :: X.fs := fun b hb => by
 rcases I.ok.stk with e | ⟨e, hf⟩
 · rw [e] at hb; exact List.mem_cons_of_mem _ hb
 · rw [e] at hb
   unfold frs at hb
   rw [List.filterMap_cons, hf] at hb
   exact hb
theorem Inv.stkFree (I : Inv X pins σ H s) : ∀ b ∈ frs X.stack, H b = none := fun b hb => by
 rcases List.mem_cons.mp (I.stkSub b hb) with e | hb
 · rw [e]; exact I.free
 · obtain ⟨_, o, ho, _⟩ := I.ok.funs.mem hb
   exact I.base.free b o ho (I.ok.frf b hb) fun z => I.ok.exfs b z hb
theorem Inv.step {g' : Array GenState} {t' : Nat} {d' : Drawn} {ch : List Addr} (I : Inv X pins σ H s)
 (hch : ∀ b ∈ ch, (b ∈ X.ex ∨ X.s₀.heap.objs.size ≤ b) ∧ b ≠ X.env.locals ∧ (∀ x c, X.env.cells.lookup x = some c → c ≠ b) ∧ ∀ p ∈ X.pn ++ pins, p.1 ≠ b)
 (keep : ∀ b o, b ≠ X.env.locals → b ∉ X.fs → b ∉ ch → s.heap.get? b = some o → H b = none → h'.get? b = some o)
 (slot : ∀ b o, b ≠ X.env.locals → b ∈ X.fs → b ∉ ch → s.heap.get? b = some o → H b = none → ∃ sl, h'.get? b = some { o with slots := sl }) (free : ∀ b o, b ∉ ch → s.heap.get? b = some o → H b = none → H' b = none)
 (there : ∀ b o, b ∉ ch → s.heap.get? b = some o → ∃ o', h'.get? b = some o')
 (tups : ∀ b xs, H b = some (.tup xs) → H' b = some (.tup xs)) (frzs : ∀ b o u, H b = some (.frz o u) → H' b = some (.frz o u)) (tbls : ∀ b ps, H b = some (.tbl ps) → ∃ more, H' b = some (.tbl (ps ++ more)))
 (ns : ∀ m, s.heap.Ns X.env.locals m → h'.Ns X.env.locals m) (hok : HOk X.prog X.w H' h') (hg : AllBare g') :
 Inv X pins σ H' { s with heap := h', gens := g', drawn := d', toks := t' } := by
 have neL : ∀ b o, X.s₀.heap.get? b = some o → b ≠ X.env.locals := fun b o e => Nat.ne_of_lt (Nat.lt_of_lt_of_le (Heap.lt_size e) I.ok.above)
 have neC : ∀ b o, X.s₀.heap.get? b = some o → b ∉ X.ex → b ∉ ch := fun b o e hx hb => by
  rcases (hch b hb).1 with z | z
  · exact hx z
  · exact absurd (Nat.lt_of_lt_of_le (Heap.lt_size e) z) (Nat.lt_irrefl _)
 have cellK : ∀ x c, X.env.cells.lookup x = some c → ∀ v, s.heap.IsCell c v → h'.IsCell c v := fun x c e v ⟨o, ho, hd⟩ => by
  have nch : c ∉ ch := fun z => (hch c z).2.2.1 x c e rfl
  by_cases hc : c ∈ X.fs
  · obtain ⟨sl, q⟩ := slot c o (I.cne x c e) hc nch ho (I.freeC x c e)
    exact ⟨_, q, hd⟩
  · exact ⟨o, keep c o (I.cne x c e) hc nch ho (I.freeC x c e), hd⟩
 refine ⟨I.ok, I.os, hg, ⟨fun b o e n hb hx => ?_, fun b o e n hb hx => ?_, fun b o e n hx => ?_, fun b o e hx => ?_, fun b xs e => tups b xs (I.base.tups b xs e), fun b o xs e => frzs b o xs (I.base.frzs b o xs e), fun b ps e => ?_⟩, ?_, fun x c e => ?_, ?_, fun x c e => ?_, fun p hp => ?_, hok, I.len⟩
 · exact keep b o (neL b o e) hb (neC b o e hx) (I.base.keep b o e n hb hx) (I.base.free b o e n hx)
 · obtain ⟨sl, e1⟩ := I.base.slot b o e n hb hx
   obtain ⟨sl', e2⟩ := slot b _ (neL b o e) hb (neC b o e hx) e1 (I.base.free b o e n hx)
   exact ⟨sl', e2⟩
 · obtain ⟨o', e1⟩ := I.base.there b o e hx
   exact free b o' (neC b o e hx) e1 (I.base.free b o e n hx)
 · obtain ⟨o', e1⟩ := I.base.there b o e hx
   exact there b o' (neC b o e hx) e1
 · obtain ⟨m1, e1⟩ := I.base.tbls b ps e
   obtain ⟨m2, e2⟩ := tbls b _ e1
   exact ⟨m1 ++ m2, by rw [e2, Array.append_assoc]⟩
 · obtain ⟨m, hn, hl⟩ := I.loc
   refine ⟨m, ns m hn, fun i x v e1 e2 e3 => ?_⟩
   obtain ⟨u, r, l⟩ := hl i x v e1 e2 e3
   refine ⟨u, r, ?_⟩
   rcases l with l | ⟨k, c, e, z⟩
   · exact .inl l
   · exact .inr ⟨k, c, e, cellK x c e _ z⟩
 · obtain ⟨v, z⟩ := I.cell x c e
   exact ⟨v, cellK x c e v z⟩
 · obtain ⟨m, ⟨o, _, _, ho, _⟩, _⟩ := I.loc
   exact free _ o (fun z => (hch _ z).2.1 rfl) ho I.free
 · obtain ⟨v, o, ho, hd⟩ := I.cell x c e
   exact free c o (fun z => (hch c z).2.2.1 x c e rfl) ho (I.freeC x c e)
 · obtain ⟨e, n, ne, nf, d⟩ := I.pin p hp
   have nch : p.1 ∉ ch := fun z => (hch p.1 z).2.2.2 p hp rfl
   exact ⟨keep p.1 p.2 ne nf nch e n, free p.1 p.2 nch e n, ne, nf, d⟩
theorem Inv.un {t' : Nat} (I : Inv X pins σ H s) (u : Un X.fs [] H H' s.heap h') (hok : HOk X.prog X.w H' h') : Inv X pins σ H' { s with heap := h', toks := t' } := by
 obtain ⟨m, ⟨o, es, ep, ho, r⟩, _⟩ := id I.loc
 obtain ⟨sl, hL⟩ := u.any ho I.free (by simp)
 exact I.step (g' := s.gens) (d' := s.drawn) (ch := []) (fun _ z => nomatch z) (fun b o _ hb _ e n => u.keep b o e n hb (by simp)) (fun b o _ hb _ e n => u.slot b o e n hb (by simp)) (fun b o _ e n => u.free b o e n (by simp)) (fun b o _ e => u.there b o e (by simp)) u.tups u.frzs u.tbls (fun m' hm => by
  obtain ⟨o', es', ep', ho', r'⟩ := hm
  rw [ho] at ho'; cases ho'
  exact ⟨_, es', ep', hL, r'⟩) hok I.bare
theorem Inv.call {g' : Array GenState} {t' : Nat} {d' : Drawn} {ch : List Addr} (I : Inv X pins σ H s) (u : Un (frs X.stack) ch H H' s.heap h') (hok : HOk X.prog X.w H' h') (hg : AllBare g')
 (hch : ∀ b ∈ ch, (b ∈ X.ex ∨ X.s₀.heap.objs.size ≤ b) ∧ b ≠ X.env.locals ∧ (∀ x c, X.env.cells.lookup x = some c → c ≠ b) ∧ ∀ p ∈ X.pn ++ pins, p.1 ≠ b) :
 Inv X pins σ H' { s with heap := h', gens := g', drawn := d', toks := t' } := by
 obtain ⟨m, ⟨o, es, ep, ho, r⟩, _⟩ := id I.loc
 obtain ⟨sl, hL⟩ := u.any ho I.free fun z => (hch _ z).2.1 rfl
 exact I.step (ch := ch) hch (fun b o hL hb hc e n => u.keep b o e n (fun z => (List.mem_cons.mp (I.stkSub b z)).elim hL hb) hc) (fun b o _ _ hc e n => u.any e n hc) (fun b o hc e n => u.free b o e n hc) (fun b o hc e => u.there b o e hc) u.tups u.frzs u.tbls (fun m' hm => by
  obtain ⟨o', es', ep', ho', r'⟩ := hm
  rw [ho] at ho'; cases ho'
  exact ⟨_, es', ep', hL, r'⟩) hok hg
theorem Inv.turned {t' : Nat} {it : Addr} (I : Inv X pins σ H s) (k : ∀ b o, b ≠ it → s.heap.get? b = some o → h'.get? b = some o) (hn : H it = none) (hL : it ≠ X.env.locals)
 (h1 : it ∈ X.ex ∨ X.s₀.heap.objs.size ≤ it) (h2 : ∀ x c, X.env.cells.lookup x = some c → c ≠ it) (h3 : ∀ p ∈ X.pn ++ pins, p.1 ≠ it) : Inv X pins σ H { s with heap := h', toks := t' } := by
 have nit : ∀ b u, H b = some u → b ≠ it := fun b u e z => by rw [z, hn] at e; cases e
 refine I.step (g' := s.gens) (d' := s.drawn) (ch := [it]) (fun b hb => ?_) (fun b o _ _ hc e _ => k b o (fun z => hc (by simp [z])) e) (fun b o _ _ hc e _ => ⟨o.slots, k b o (fun z => hc (by simp [z])) e⟩) (fun _ _ _ _ n => n)
  (fun b o hc e => ⟨o, k b o (fun z => hc (by simp [z])) e⟩) (fun _ _ e => e) (fun _ _ _ e => e) (fun b ps e => ⟨#[], by rw [e]; simp⟩) (fun m hm => ?_) (fun b u e => ?_) I.bare
 · have e : b = it := by simpa using hb
   subst e
   exact ⟨h1, hL, h2, h3⟩
 · obtain ⟨o, es, ep, ho, r⟩ := hm
   exact ⟨o, es, ep, k _ o (Ne.symm hL) ho, r⟩
 · refine (I.hok b u e).stay (fun c v hc q => k c v ?_ q) (fun _ q => q) fun _ _ q => q
   rcases hc with z | z
   · rw [z]; exact nit b u e
   · exact nit c _ z
theorem Inv.tok (I : Inv X pins σ H s) (t : Nat) : Inv X pins σ H { s with toks := t } := I.un (h' := s.heap) (t' := t) Un.refl I.hok
theorem Inv.kept {t' : Nat} (I : Inv X pins σ H s) (k : ∀ b u, s.heap.get? b = some u → h'.get? b = some u) : Inv X pins σ H { s with heap := h', toks := t' } := I.un (Un.kept k) (I.hok.kept k)
theorem Inv.laid {a : Addr} {o : HO} {t' : Nat} (I : Inv X pins σ H s) (k : ∀ b u, s.heap.get? b = some u → h'.get? b = some u) (hp : s.heap.objs.size ≤ a) (new : ObjOk X.prog X.w (upd H a o) h' a o) :
 Inv X pins σ (upd H a o) { s with heap := h', toks := t' } := I.un (Un.laid k hp (I.hok.fresh hp)) (I.hok.laid k hp new)
theorem Inv.write {x e : Addr} {o : HO} {t' : Nat} (I : Inv X pins σ H s) (mu : Mut (H x)) (he : e = x ∨ H e = some (.own x)) (k : ∀ b u, b ≠ e → s.heap.get? b = some u → h'.get? b = some u) (heo : ∃ u, h'.get? e = some u)
 (new : ObjOk X.prog X.w (upd H x o) h' x o) : Inv X pins σ (upd H x o) { s with heap := h', toks := t' } := I.un (Un.write mu he k heo) (I.hok.write mu he k heo new)
theorem Inv.weak {σ' : List (Option V)} (I : Inv X pins σ H s) (hl : σ'.length = σ.length) (w : ∀ (i : Nat) v, σ'[i]? = some (some v) → σ[i]? = some (some v)) : Inv X pins σ' H s :=
 ⟨I.ok, I.os, I.bare, I.base, let ⟨m, hn, hl'⟩ := I.loc; ⟨m, hn, fun i x v e1 e2 e3 => hl' i x v e1 (w i v e2) e3⟩, I.cell, I.free, I.freeC, I.pin, I.hok, hl.trans I.len⟩
theorem Inv.pins_of {pins' : List (Addr × Obj)} (I : Inv X pins σ H s) (h : ∀ p ∈ pins', s.heap.get? p.1 = some p.2 ∧ H p.1 = none ∧ p.1 ≠ X.env.locals ∧ p.1 ∉ X.fs ∧ ∀ v, p.2.data ≠ .cell v) : Inv X pins' σ H s :=
 ⟨I.ok, I.os, I.bare, I.base, I.loc, I.cell, I.free, I.freeC, fun p hp => (List.mem_append.mp hp).elim (fun z => I.pin p (List.mem_append_left _ z)) (h p), I.hok, I.len⟩
theorem nodup_ix {N : List Str} (hN : N.Nodup) {i j : Nat} {x : Str} (a : N[i]? = some x) (b : N[j]? = some x) : i = j := by
 obtain ⟨h1, e1⟩ := List.getElem?_eq_some_iff.mp a
 obtain ⟨h2, e2⟩ := List.getElem?_eq_some_iff.mp b
 exact (List.getElem_inj hN).mp (e1.trans e2.symm)
theorem store_ok2 {M : Model} {A : Around} {E : Value → Shared → Prop} {i : Nat} {x : Str} {v : V} {u : Value} {Q : Unit → Shared → Prop} (I : Inv X pins σ H s) (hN : X.N.Nodup) (hi : X.N[i]? = some x) (hx : Loc X.env.scope x) (r : RelV v u)
 (h : ∀ s', Inv X pins (σ.set i (some v)) H s' → (∃ a, Heap.SameBut a s.heap s'.heap ∧ (a = X.env.locals ∨ X.env.cells.lookup x = some a)) → Q () s') (hf : X.fn x = true ∨ X.env.scope.names.lookup x = some .local := by first | exact .inl rfl | exact .inr rfl | assumption) : wpAny M A (storeName X.env x u) Q E s := by
 obtain ⟨m, hn, hl⟩ := id I.loc
 have hcls : (X.env.scope.kind == .class || (X.env.scope.kind == .module && X.env.locals != X.env.globals)) = false := by rw [I.ok.kind]; rfl
 have hiσ : i < σ.length := by rw [I.len]; exact (List.getElem?_eq_some_iff.mp hi).1
 have cne := I.cne
 have tracked : ∀ {a : Addr} {h' : Heap}, (∃ o, s.heap.get? a = some o ∧ H a = none) → Heap.SameBut a s.heap h' → HOk X.prog X.w H h' := fun {a h'} ha hs b ob e => by
  obtain ⟨_, _, hfree⟩ := ha
  refine (I.hok b ob e).stay (fun c w' hc q => (hs.2 c ?_).trans q) (fun _ q => q) fun _ _ q => q
  rintro rfl
  rcases hc with rfl | hc
  · rw [hfree] at e; cases e
  · rw [hfree] at hc; cases hc
 rcases hx with hk | hk
 · refine wpAny_storeName_local hk hn (fun h' hn' hs => ?_) hcls
   obtain ⟨oL, _, _, hoL, _⟩ := id hn
   refine h _ ⟨I.ok, I.os, I.bare, ⟨fun b o e n hb hx => ?_, fun b o e n hb hx => ?_, I.base.free, fun b o e hx => ?_, I.base.tups, I.base.frzs, I.base.tbls⟩, ⟨_, hn', fun j y v' e1 e2 e3 => ?_⟩, fun y c e => ?_, I.free, I.freeC, fun p hp => ?_, tracked ⟨oL, hoL, I.free⟩ hs, by simpa using I.len⟩ ⟨_, hs, .inl rfl⟩
   · exact (hs.2 b (Nat.ne_of_lt (Nat.lt_of_lt_of_le (Heap.lt_size e) I.ok.above))).trans (I.base.keep b o e n hb hx)
   · obtain ⟨sl, e1⟩ := I.base.slot b o e n hb hx
     exact ⟨sl, (hs.2 b (Nat.ne_of_lt (Nat.lt_of_lt_of_le (Heap.lt_size e) I.ok.above))).trans e1⟩
   · obtain ⟨o', e1⟩ := I.base.there b o e hx
     exact ⟨o', (hs.2 b (Nat.ne_of_lt (Nat.lt_of_lt_of_le (Heap.lt_size e) I.ok.above))).trans e1⟩
   · by_cases hj : j = i
     · subst hj
       rw [hi] at e1; cases e1
       rw [List.getElem?_set_self hiσ] at e2
       cases e2
       exact ⟨u, r, .inl ⟨hk, by simp⟩⟩
     · rw [List.getElem?_set_ne (Ne.symm hj)] at e2
       obtain ⟨u', r', q⟩ := hl j y v' e1 e2 e3
       refine ⟨u', r', ?_⟩
       rcases q with ⟨k, e⟩ | ⟨k, c, e, z⟩
       · refine .inl ⟨k, ?_⟩
         have : y ≠ x := fun e => hj (nodup_ix hN e1 (e ▸ hi))
         simp [this, e]
       · exact .inr ⟨k, c, e, z.sameBut hs (cne y c e)⟩
   · obtain ⟨w', z⟩ := I.cell y c e
     exact ⟨w', z.sameBut hs (cne y c e)⟩
   · obtain ⟨e, n, ne, nf, d⟩ := I.pin p hp
     exact ⟨(hs.2 p.1 ne).trans e, n, ne, nf, d⟩
 · have hfn : X.fn x = true := by
    rcases hf with z | z
    · exact z
    · rw [z] at hk; cases hk
   obtain ⟨c, hc⟩ := I.ok.has x (.inl hk)
   obtain ⟨w', z⟩ := I.cell x c hc
   refine wpAny_storeName_cell I.ok.kind hk hc z (fun h' hc' hs => ?_)
   obtain ⟨oc, hoc, hocd⟩ := id z
   refine h { s with heap := h' } ⟨I.ok, I.os, I.bare, ⟨fun b o e n hb hx => ?_, fun b o e n hb hx => ?_, I.base.free, fun b o e hx => ?_, I.base.tups, I.base.frzs, I.base.tbls⟩, ⟨m, hn.sameBut hs (Ne.symm (cne x c hc)), fun j y v' e1 e2 e3 => ?_⟩, fun y c' e => ?_, I.free, I.freeC, fun p hp => ?_, tracked ⟨oc, hoc, I.freeC x c hc⟩ hs, by simpa using I.len⟩ ⟨c, hs, .inr hc⟩
   · exact (hs.2 b (Nat.ne_of_lt (Nat.lt_of_lt_of_le (Heap.lt_size e) (I.ok.cab x c hfn hc)))).trans (I.base.keep b o e n hb hx)
   · obtain ⟨sl, e1⟩ := I.base.slot b o e n hb hx
     exact ⟨sl, (hs.2 b (Nat.ne_of_lt (Nat.lt_of_lt_of_le (Heap.lt_size e) (I.ok.cab x c hfn hc)))).trans e1⟩
   · obtain ⟨o', e1⟩ := I.base.there b o e hx
     exact ⟨o', (hs.2 b (Nat.ne_of_lt (Nat.lt_of_lt_of_le (Heap.lt_size e) (I.ok.cab x c hfn hc)))).trans e1⟩
   · by_cases hj : j = i
     · subst hj
       rw [hi] at e1; cases e1
       rw [List.getElem?_set_self hiσ] at e2
       cases e2
       exact ⟨u, r, .inr ⟨.inl hk, c, hc, hc'⟩⟩
     · rw [List.getElem?_set_ne (Ne.symm hj)] at e2
       obtain ⟨u', r', q⟩ := hl j y v' e1 e2 e3
       refine ⟨u', r', ?_⟩
       rcases q with q | ⟨k, c', e, z'⟩
       · exact .inl q
       · refine .inr ⟨k, c', e, z'.sameBut hs ?_⟩
         rintro rfl
         exact hj (nodup_ix hN e1 (I.ok.inj _ _ _ e hc ▸ hi))
   · by_cases hcc : c' = c
     · subst hcc; exact ⟨_, hc'⟩
     · obtain ⟨w2, z2⟩ := I.cell y c' e
       exact ⟨w2, z2.sameBut hs hcc⟩
   · obtain ⟨e, n, ne, nf, d⟩ := I.pin p hp
     refine ⟨(hs.2 p.1 ?_).trans e, n, ne, nf, d⟩
     intro q
     rw [q, hoc] at e
     have q' : oc = p.2 := Option.some.inj e
     exact d w' (by rw [← q']; exact hocd)
theorem store_ok {M : Model} {A : Around} {E : Value → Shared → Prop} {i : Nat} {x : Str} {v : V} {u : Value} {Q : Unit → Shared → Prop} (I : Inv X pins σ H s) (hN : X.N.Nodup) (hi : X.N[i]? = some x) (hx : Loc X.env.scope x) (r : RelV v u)
 (h : ∀ s', Inv X pins (σ.set i (some v)) H s' → Q () s') (hf : X.fn x = true ∨ X.env.scope.names.lookup x = some .local := by first | exact .inl rfl | exact .inr rfl | assumption) : wpAny M A (storeName X.env x u) Q E s :=
 store_ok2 I hN hi hx r (fun s' I' _ => h s' I') hf
theorem Inv.call' {s' : Shared} {ch : List Addr} (I : Inv X pins σ H s) (ho : s'.os = s.os) (u : Un (frs X.stack) ch H H' s.heap s'.heap) (hok : HOk X.prog X.w H' s'.heap) (hg : AllBare s'.gens)
 (hch : ∀ b ∈ ch, (b ∈ X.ex ∨ X.s₀.heap.objs.size ≤ b) ∧ b ≠ X.env.locals ∧ (∀ x c, X.env.cells.lookup x = some c → c ≠ b) ∧ ∀ p ∈ X.pn ++ pins, p.1 ≠ b) : Inv X pins σ H' s' := by
 obtain ⟨h', g', d', t', o'⟩ := s'
 have e : o' = s.os := ho
 subst e
 exact I.call (g' := g') (t' := t') (d' := d') u hok hg hch
end
abbrev XK := Value → Option Addr → Hp → Prop
abbrev St := List (Option V)
abbrev VK := V → Hp → Prop
abbrev TE := St → Hp → VK → Prop
abbrev TT := St → Hp → (Bool → Hp → Prop) → Prop
abbrev TA := St → Hp → (List V → Hp → Prop) → Prop
structure Ends where
 nx : St → Hp → Prop
 rt : VK
 bk : St → Hp → Prop := fun _ _ => False
 ct : St → Hp → Prop := fun _ _ => False
abbrev TS := Ends → St → Hp → Prop
def EP (X : Cx) (pins : List (Addr × Obj)) (σ : St) (Q : VK) (u : Value) (s' : Shared) : Prop := ∃ v H', Inv X pins σ H' s' ∧ RelV v u ∧ Q v H'
def TP (X : Cx) (pins : List (Addr × Obj)) (σ : St) (Q : Bool → Hp → Prop) (b : Bool) (s' : Shared) : Prop := ∃ H', Inv X pins σ H' s' ∧ Q b H'
def AP (X : Cx) (pins : List (Addr × Obj)) (σ : St) (Q : List V → Hp → Prop) (us : List Value) (s' : Shared) : Prop := ∃ vs H', Inv X pins σ H' s' ∧ Vals vs us ∧ Q vs H'
def SP (X : Cx) (pins : List (Addr × Obj)) (D : Ends) (f : Flow) (s' : Shared) : Prop :=
 match f with
 | .next => ∃ σ' H', Inv X pins σ' H' s' ∧ D.nx σ' H'
 | .brk => ∃ σ' H', Inv X pins σ' H' s' ∧ D.bk σ' H'
 | .cont => ∃ σ' H', Inv X pins σ' H' s' ∧ D.ct σ' H'
 | .ret u => ∃ v σ' H', Inv X pins σ' H' s' ∧ RelV v u ∧ D.rt v H'
def PE (X : Cx) (e : Expr) (t : TE) : Prop :=
 ∀ (pins : List (Addr × Obj)) (s : Shared) (σ : St) (H : Hp) (Q : VK), Inv X pins σ H s → t σ H Q → wpAny (model X.prog X.w) X.A (eval e X.env) (EP X pins σ Q) X.xe s
def PT (X : Cx) (e : Expr) (t : TT) : Prop :=
 ∀ (pins : List (Addr × Obj)) (s : Shared) (σ : St) (H : Hp) (Q : Bool → Hp → Prop), Inv X pins σ H s → t σ H Q → wpAny (model X.prog X.w) X.A (isTrue e X.env (eval e X.env)) (TP X pins σ Q) X.xe s
def PW (X : Cx) (e : Expr) (t : TT) : Prop :=
 ∀ (whole : Sem Value) (pins : List (Addr × Obj)) (s : Shared) (σ : St) (H : Hp) (Q : Bool → Hp → Prop), Inv X pins σ H s → t σ H Q → wpAny (model X.prog X.w) X.A (isTrue e X.env whole) (TP X pins σ Q) X.xe s
theorem PW.pt {X : Cx} {e : Expr} {t : TT} (h : PW X e t) : PT X e t := h _
def PA (X : Cx) (es : List Expr) (t : TA) : Prop :=
 ∀ (pos : Pos) (pins : List (Addr × Obj)) (s : Shared) (σ : St) (H : Hp) (Q : List V → Hp → Prop), Inv X pins σ H s → t σ H Q → wpAny (model X.prog X.w) X.A (spliced (backTo pos (starEach es X.env))) (AP X pins σ Q) X.xe s
def PS (X : Cx) (st : Stmt) (t : TS) : Prop :=
 ∀ (pins : List (Addr × Obj)) (s : Shared) (σ : St) (H : Hp) (D : Ends), Inv X pins σ H s → t D σ H → wpAny (model X.prog X.w) X.A (exec st X.env) (SP X pins D) X.xe s
def PSs (X : Cx) (st : List Stmt) (t : TS) : Prop :=
 ∀ (pins : List (Addr × Obj)) (s : Shared) (σ : St) (H : Hp) (D : Ends), Inv X pins σ H s → t D σ H → wpAny (model X.prog X.w) X.A (execs st X.env) (SP X pins D) X.xe s
theorem thn {α : Type} {t : Sem α} {Q Q' : α → Shared → Prop} {M : Model} {A : Around} {E : Value → Shared → Prop} {s : Shared} (h : wpAny M A t Q E s) (hQ : ∀ a s, Q a s → Q' a s) : wpAny M A t Q' E s := wpAny_mono h hQ fun _ _ x => x
end L2
namespace L2
open PySem PySem.Spec PyProof.Rows
section
variable {X : Cx}
def tVar (i : Nat) : TE := fun σ H Q => ∃ v, σ[i]? = some (some v) ∧ Q v H
def tC (v : V) : TE := fun _ H Q => Q v H
theorem pe_var {i : Nat} {x : Str} {pos : Pos} (hN : X.N[i]? = some x) (hv : Vis X.env.scope x) (hd : (x == ("__debug__" : Str)) = false := by decide) (hcd : (x == ("__classdict__" : Str)) = false := by decide) : PE X (.Name x pos) (tVar i) := by
 intro pins s σ H Q I h
 obtain ⟨v, e, h⟩ := h
 obtain ⟨m, hn, hl⟩ := I.loc
 obtain ⟨u, r, l⟩ := hl i x v hN e hv
 have fin : EP X pins σ Q u s := ⟨v, H, I, r, h⟩
 rcases l with ⟨hk, hm⟩ | ⟨hk, c, hc, hcell⟩
 · exact wpAny_Name (wpAny_loadName_local I.ok.kind hk hn hm fin) hd
 · rcases hk with hk | hk
   · exact wpAny_Name (wpAny_loadName_cell I.ok.kind hk hc hcell fin) hd
   · exact wpAny_Name (wpAny_loadName_free I.ok.kind hk hc hcell fin hcd) hd
theorem pe_int {i j pos} : PE X (.Constant (.int i) j pos) (tC (.int i)) := fun _ _ _ H _ I h => wpAny_Constant_int ⟨.int i, H, I.tok _, ⟨_, rfl⟩, h⟩
theorem pe_bl {b j pos} : PE X (.Constant (.bool b) j pos) (tC (.bl b)) := fun _ _ _ H _ I h => Constant_bool ⟨.bl b, H, I, rfl, h⟩
theorem pe_non {j pos} : PE X (.Constant .none j pos) (tC .non) := fun _ _ _ H _ I h => Constant_none ⟨.non, H, I, rfl, h⟩
theorem pe_str {x j pos} : PE X (.Constant (.str x) j pos) (tC (.str x)) := fun _ _ _ H _ I h => Calls.Constant_str ⟨.str x, H, I.tok _, ⟨_, rfl⟩, h⟩
def Gl (X : Cx) (x : Str) : Prop := X.env.kindOf x = some .globalImplicit
theorem ld_glob {E : Value → Shared → Prop} {pins : List (Addr × Obj)} {s : Shared} {σ : St} {H : Hp} {x : Str} {u : Value} {pos : Pos} {Q : Value → Shared → Prop} (I : Inv X pins σ H s) (hg : Gl X x) (hm : X.mg x = some u) (h : Q u s)
 (hd : (x == ("__debug__" : Str)) = false := by decide) : wpAny (model X.prog X.w) X.A (eval (.Name x pos) X.env) Q E s :=
 Calls.Name_function_global I.ok.kind hg (Calls.loadGlobal_global (by rw [I.ok.glob]; exact I.mod.glob.keeps I.bk) hm h) hd
theorem ld_blt {E : Value → Shared → Prop} {pins : List (Addr × Obj)} {s : Shared} {σ : St} {H : Hp} {x : Str} {u : Value} {pos : Pos} {Q : Value → Shared → Prop} (I : Inv X pins σ H s) (hg : Gl X x) (hm : X.mg x = none) (hv : bootBuiltins x = some u) (h : Q u s)
 (hn : x ≠ "__name__" := by decide) (hd : (x == ("__debug__" : Str)) = false := by decide) : wpAny (model X.prog X.w) X.A (eval (.Name x pos) X.env) Q E s := by
 obtain ⟨mb, h1, h2⟩ := I.mod.blt
 exact Calls.Name_function_global I.ok.kind hg (Calls.loadGlobal_builtin (by rw [I.ok.glob]; exact I.mod.glob.keeps I.bk) hm (by rw [I.ok.blt]; exact h1.keeps I.bk) ((h2 x hn).trans hv) h) hd
theorem pe_glob {x : Str} {v : V} {u : Value} {pos : Pos} (hg : Gl X x) (hm : X.mg x = some u) (r : RelV v u) (hd : (x == ("__debug__" : Str)) = false := by decide) : PE X (.Name x pos) (tC v) :=
 fun _ _ _ H _ I h => ld_glob I hg hm ⟨v, H, I, r, h⟩ hd
theorem pe_bltn {x : Str} {v : V} {u : Value} {pos : Pos} (hg : Gl X x) (hm : X.mg x = none) (hv : bootBuiltins x = some u) (r : RelV v u) (hn : x ≠ "__name__" := by decide) (hd : (x == ("__debug__" : Str)) = false := by decide) : PE X (.Name x pos) (tC v) :=
 fun _ _ _ H _ I h => ld_blt I hg hm hv ⟨v, H, I, r, h⟩ hn hd
variable {a b : Expr} {ta tb : TE} {pos : Pos}
def tB (t : TE) : TT := fun σ H Q => t σ H fun x H1 => ∃ c, x = .bl c ∧ Q c H1
theorem pt_val {e : Expr} {t : TE} (h : PE X e t) (he : ∀ whole, isTrue e X.env whole = (do let v ← whole; standAt e.pos; holding [v] (truthy v)) := by intro _; rfl) : PT X e (tB t) := by
 intro pins s σ H Q I hw
 refine isTrue_plain (thn (h pins s σ H _ I hw) fun v s1 ⟨x, H1, I1, r1, q1⟩ => ?_) (he _)
 obtain ⟨d, rfl, q⟩ := q1
 cases r1
 exact wpAny_truthy_bool ⟨H1, I1, q⟩
variable {tA tB' : TT} {rest : List Expr}
def tAnd (t u : TT) : TT := fun σ H Q => t σ H fun c H1 => if c = true then u σ H1 Q else Q false H1
def tOr (t u : TT) : TT := fun σ H Q => t σ H fun c H1 => if c = true then Q true H1 else u σ H1 Q
def tNot (t : TT) : TT := fun σ H Q => t σ H fun c H1 => Q (!c) H1
theorem pw_and1 (ha : PT X a tA) : PW X (.BoolOp .And [a] pos) tA := by
 intro wh pins s σ H Q I h
 refine isTrue_and (thn (ha pins s σ H Q I h) fun c s1 e => ?_)
 cases c with
 | true => exact isTrue_and_nil e
 | false => exact e
theorem pw_or1 (ha : PT X a tA) : PW X (.BoolOp .Or [a] pos) tA := by
 intro wh pins s σ H Q I h
 refine isTrue_or (thn (ha pins s σ H Q I h) fun c s1 e => ?_)
 cases c with
 | false => exact isTrue_or_nil e
 | true => exact e
theorem pw_and (ha : PT X a tA) (hb : PW X (.BoolOp .And (b :: rest) pos) tB') : PW X (.BoolOp .And (a :: b :: rest) pos) (tAnd tA tB') := by
 intro wh pins s σ H Q I h
 refine isTrue_and (thn (ha pins s σ H _ I h) fun c s1 ⟨H1, I1, q1⟩ => ?_)
 cases c with
 | true => exact hb wh pins s1 σ H1 Q I1 q1
 | false => exact ⟨H1, I1, q1⟩
theorem pw_or (ha : PT X a tA) (hb : PW X (.BoolOp .Or (b :: rest) pos) tB') : PW X (.BoolOp .Or (a :: b :: rest) pos) (tOr tA tB') := by
 intro wh pins s σ H Q I h
 refine isTrue_or (thn (ha pins s σ H _ I h) fun c s1 ⟨H1, I1, q1⟩ => ?_)
 cases c with
 | true => exact ⟨H1, I1, q1⟩
 | false => exact hb wh pins s1 σ H1 Q I1 q1
theorem pt_not (ha : PT X a tA) : PT X (.UnaryOp .Not a pos) (tNot tA) := by
 intro pins s σ H Q I h
 exact isTrue_not (ha pins s σ H (fun c H1 => Q (!c) H1) I h)
def tAndV (ta tb : TE) : TE := fun σ H Q => ta σ H fun x H1 => ∃ c, x = .bl c ∧ if c = true then tb σ H1 Q else Q (.bl false) H1
theorem pe_one {op} {t : TE} (h : PE X a t) : PE X (.BoolOp op [a] pos) t := fun pins s σ H Q I hw => BoolOp_one (h pins s σ H Q I hw)
theorem pe_and (ha : PE X a ta) (hb : PE X (.BoolOp .And (b :: rest) pos) tb) : PE X (.BoolOp .And (a :: b :: rest) pos) (tAndV ta tb) := by
 intro pins s σ H Q I h
 refine BoolOp_and (thn (ha pins s σ H _ I h) fun v s1 ⟨x, H1, I1, r1, q1⟩ => ?_)
 obtain ⟨c, rfl, q1⟩ := q1
 cases r1
 refine wpAny_truthy_bool ?_
 cases c with
 | true => exact hb pins s1 σ H1 Q I1 q1
 | false => exact ⟨.bl false, H1, I1, rfl, q1⟩
end
end L2
namespace L2
open PySem PySem.Spec PyProof.Rows
def SqL (K : PySem.W.Frag) (H : Hp) (a : Addr) (xs : List V) : Prop :=
 Rd H a (.lst xs) ∨
  ∃ (o : Obj) (its : Array Value) (n : Nat), K.lookup a = some o ∧ o.cls = .type "list" ∧ o.dict = none ∧ o.data = .seq its n ∧ its.size ≤ sizeLine ∧ Vals xs its.toList
def SqT (K : PySem.W.Frag) (H : Hp) (a : Addr) (xs : List V) : Prop :=
 Rd H a (.tup xs) ∨
  ∃ (o : Obj) (its : Array Value) (n : Nat), K.lookup a = some o ∧ o.cls = .type "tuple" ∧ o.data = .seq its n ∧ its.size ≤ sizeLine ∧ Vals xs its.toList
def absV : Value → Option V
 | .none => some .non
 | .bool b => some (.bl b)
 | .int i _ => some (.int i)
 | .str x _ => some (.str x)
 | .bytes b _ => some (.byt b)
 | .float b _ => some (.flt b)
 | .ref a => some (.ref a)
 | .type n => some (.ty n)
 | _ => none
theorem RelV.abs {x : V} {u : Value} (r : RelV x u) : absV u = some x := by
 cases x with
 | non => cases r; rfl
 | bl _ => cases r; rfl
 | int _ => obtain ⟨t, rfl⟩ := r; rfl
 | str _ => obtain ⟨t, rfl⟩ := r; rfl
 | byt _ => obtain ⟨t, rfl⟩ := r; rfl
 | flt _ => obtain ⟨t, rfl⟩ := r; rfl
 | ref _ => cases r; rfl
 | ty _ => cases r; rfl
theorem RelV.inj {x y : V} {u : Value} (r : RelV x u) (q : RelV y u) : x = y := Option.some.inj (r.abs.symm.trans q.abs)
theorem Vals.inj : ∀ {xs ys : List V} {us : List Value}, Vals xs us → Vals ys us → xs = ys
 | _, _, _, .nil, .nil => rfl
 | _, _, _, .cons r t, .cons r' t' => by rw [r.inj r', Vals.inj t t']
section
variable {X : Cx} {pins : List (Addr × Obj)} {σ : St} {H : Hp} {s : Shared} {a : Addr} {xs ys : List V}
theorem SqL.of {K : PySem.W.Frag} (h : H a = some (.lst xs)) : SqL K H a xs := .inl (.inl h)
theorem SqT.of {K : PySem.W.Frag} (h : H a = some (.tup xs)) : SqT K H a xs := .inl (.inl h)
theorem Inv.list (I : Inv X pins σ H s) (h : SqL X.K H a xs) : ∃ its : List Value, Vals xs its ∧ PlainL s.heap a its.toArray ∧ xs.length ≤ sizeLine := by
 rcases h with h | ⟨o, its, n, hk, hc, hd, hs, hz, r⟩
 · obtain ⟨z, its, n, r, e⟩ := h.ok I.hok
   exact ⟨its, r, ⟨_, n, e, rfl, rfl, rfl⟩, z⟩
 · refine ⟨its.toList, r, ⟨o, n, I.kIn a o hk, hc, hd, by simpa using hs⟩, ?_⟩
   have e := r.length
   simp only [Array.length_toList] at e
   omega
theorem Inv.tuple (I : Inv X pins σ H s) (h : SqT X.K H a xs) : ∃ its : List Value, Vals xs its ∧ IsTup s.heap a its.toArray ∧ xs.length ≤ sizeLine := by
 rcases h with h | ⟨o, its, n, hk, hc, hs, hz, r⟩
 · obtain ⟨z, its, r, p⟩ := h.ok I.hok
   exact ⟨its, r, p, z⟩
 · refine ⟨its.toList, r, ⟨o, I.kIn a o hk, hc, n, by simpa using hs⟩, ?_⟩
   have e := r.length
   simp only [Array.length_toList] at e
   omega
theorem Inv.list_inj (I : Inv X pins σ H s) (h : SqL X.K H a xs) (h' : SqL X.K H a ys) : xs = ys := by
 obtain ⟨its, r, ⟨o, n, e, _, _, d⟩, _⟩ := I.list h
 obtain ⟨its', r', ⟨o', n', e', _, _, d'⟩, _⟩ := I.list h'
 rw [e] at e'; cases e'
 rw [d] at d'
 injection d' with d1 _
 have : its = its' := by simpa using congrArg Array.toList d1
 subst this
 exact r.inj r'
theorem Inv.tuple_inj (I : Inv X pins σ H s) (h : SqT X.K H a xs) (h' : SqT X.K H a ys) : xs = ys := by
 obtain ⟨its, r, ⟨o, e, _, n, d⟩, _⟩ := I.tuple h
 obtain ⟨its', r', ⟨o', e', _, n', d'⟩, _⟩ := I.tuple h'
 rw [e] at e'; cases e'
 rw [d] at d'
 injection d' with d1 _
 have : its = its' := by simpa using congrArg Array.toList d1
 subst this
 exact r.inj r'
end
abbrev Cx.wish (X : Cx) (E : Value → Shared → Prop) : Cx := { X with xe := E }
abbrev Cx.nox (X : Cx) : Cx := X.wish fun _ _ => False
theorem Cx.Ok.wish {X : Cx} (ok : X.Ok) (E : Value → Shared → Prop) : (X.wish E).Ok :=
 ⟨ok.mod, ok.kind, ok.glob, ok.blt, ok.above, ok.inj, ok.has, ok.cab, ok.hd, ok.frames, ok.stk, ok.exf, ok.bs, ok.bsz, ok.noex, ok.exfs, ok.funs, ok.frf⟩
theorem Cx.Ok.unwish {X : Cx} {E : Value → Shared → Prop} (ok : (X.wish E).Ok) : X.Ok :=
 ⟨ok.mod, ok.kind, ok.glob, ok.blt, ok.above, ok.inj, ok.has, ok.cab, ok.hd, ok.frames, ok.stk, ok.exf, ok.bs, ok.bsz, ok.noex, ok.exfs, ok.funs, ok.frf⟩
section
variable {X : Cx} {pins : List (Addr × Obj)} {σ : St} {H : Hp} {s : Shared} {E : Value → Shared → Prop}
theorem Inv.wish (I : Inv X pins σ H s) (E : Value → Shared → Prop) : Inv (X.wish E) pins σ H s := ⟨I.ok.wish E, I.os, I.bare, I.base, I.loc, I.cell, I.free, I.freeC, I.pin, I.hok, I.len⟩
theorem Inv.unwish (I : Inv (X.wish E) pins σ H s) : Inv X pins σ H s := ⟨I.ok.unwish, I.os, I.bare, I.base, I.loc, I.cell, I.free, I.freeC, I.pin, I.hok, I.len⟩
theorem SP.unwish {D : Ends} {f : Flow} {s' : Shared} (h : SP (X.wish E) pins D f s') : SP X pins D f s' := by
 cases f with
 | next => obtain ⟨σ', H', I, q⟩ := h; exact ⟨σ', H', I.unwish, q⟩
 | brk => obtain ⟨σ', H', I, q⟩ := h; exact ⟨σ', H', I.unwish, q⟩
 | cont => obtain ⟨σ', H', I, q⟩ := h; exact ⟨σ', H', I.unwish, q⟩
 | ret u => obtain ⟨v, σ', H', I, r, q⟩ := h; exact ⟨v, σ', H', I.unwish, r, q⟩
theorem PE.nox {e : Expr} {t : TE} (h : PE X.nox e t) : PE X e t := fun pins s σ H Q I hw =>
 wpAny_mono (h pins s σ H Q (I.wish _) hw) (fun _ _ ⟨v, H', I', r, q⟩ => ⟨v, H', I'.unwish, r, q⟩) fun _ _ z => False.elim z
theorem PT.nox {e : Expr} {t : TT} (h : PT X.nox e t) : PT X e t := fun pins s σ H Q I hw =>
 wpAny_mono (h pins s σ H Q (I.wish _) hw) (fun _ _ ⟨H', I', q⟩ => ⟨H', I'.unwish, q⟩) fun _ _ z => False.elim z
theorem PSs.nox {st : List Stmt} {t : TS} (h : PSs X.nox st t) : PSs X st t := fun pins s σ H D I hw =>
 wpAny_mono (h pins s σ H D (I.wish _) hw) (fun _ _ q => q.unwish) fun _ _ z => False.elim z
end
section
variable {X : Cx} {st : Stmt} {rest : List Stmt} {t u : TS} {e : Expr} {te : TE} {pos : Pos}
def tNext : TS := fun D σ H => D.nx σ H
def tSeq (t u : TS) : TS := fun D σ H => t { D with nx := u D } σ H
theorem pss_nil : PSs X [] tNext := fun _ _ σ H _ I h => wpAny_execs_nil ⟨σ, H, I, h⟩
theorem pss_cons (h1 : PS X st t) (h2 : PSs X rest u) : PSs X (st :: rest) (tSeq t u) := by
 intro pins s σ H D I h
 refine wpAny_execs_cons (thn (h1 pins s σ H { D with nx := u D } I h) fun f s1 q => ?_)
 cases f with
 | next =>
   obtain ⟨σ', H', I', q⟩ := q
   exact h2 pins s1 σ' H' D I' q
 | ret v => exact q
 | brk => exact q
 | cont => exact q
theorem pss_one (h1 : PS X st t) : PSs X [st] t := by
 intro pins s σ H D I h
 refine wpAny_execs_cons (thn (h1 pins s σ H D I h) fun f s1 q => ?_)
 cases f with
 | next => exact wpAny_execs_nil q
 | ret v => exact q
 | brk => exact q
 | cont => exact q
theorem Inv.quiet {pins : List (Addr × Obj)} {σ : St} {H : Hp} {s : Shared} (I : Inv X pins σ H s) : interactive X.env = false := by simp [interactive, I.ok.kind]
def tDrop (te : TE) : TS := fun D σ H => te σ H fun _ H1 => D.nx σ H1
theorem ps_expr (he : PE X e te) (hs : swapsWith e none pos.line X.env = pure false := by rfl) : PS X (.Expr e pos) (tDrop te) := by
 intro pins s σ H D I h
 exact wpAny_Expr_any (thn (he pins s σ H _ I h) fun v s1 ⟨x, H1, I1, r1, q1⟩ => ⟨σ, H1, I1, q1⟩) I.quiet hs
def tRet (te : TE) : TS := fun D σ H => te σ H D.rt
theorem ps_ret (he : PE X e te) : PS X (.Return (some e) pos) (tRet te) := by
 intro pins s σ H D I h
 exact wpAny_Return_some (thn (he pins s σ H _ I h) fun v s1 ⟨x, H1, I1, r1, q1⟩ => ⟨x, σ, H1, I1, r1, q1⟩)
def tIfS (c : TT) (t u : TS) : TS := fun D σ H => c σ H fun b H1 => if b = true then t D σ H1 else u D σ H1
theorem ps_if {c : Expr} {a b : List Stmt} {tc : TT} (hc : PT X c tc) (ha : PSs X a t) (hb : PSs X b u) : PS X (.If c a b pos) (tIfS tc t u) := by
 intro pins s σ H D I h
 refine wpAny_If (thn (hc pins s σ H _ I h) fun d s1 ⟨H1, I1, q1⟩ => ?_)
 cases d with
 | true => exact ha pins s1 σ H1 D I1 q1
 | false => exact hb pins s1 σ H1 D I1 q1
end
abbrev TG := V → St → Hp → (St → Hp → Prop) → Prop
abbrev TGs := List V → St → Hp → (St → Hp → Prop) → Prop
def PG (X : Cx) (target : Expr) (t : TG) : Prop :=
 ∀ (pins : List (Addr × Obj)) (s : Shared) (σ : St) (H : Hp) (v : V) (u : Value) (Q : St → Hp → Prop), Inv X pins σ H s → RelV v u → t v σ H Q →
   wpAny (model X.prog X.w) X.A (assign target X.env u) (fun _ s' => ∃ σ' H', Inv X pins σ' H' s' ∧ Q σ' H') X.xe s
def PGs (X : Cx) (ts : List Expr) (t : TGs) : Prop :=
 ∀ (pins : List (Addr × Obj)) (s : Shared) (σ : St) (H : Hp) (vs : List V) (us : List Value) (Q : St → Hp → Prop), Inv X pins σ H s → Vals vs us → t vs σ H Q →
   wpAny (model X.prog X.w) X.A (assignInOrder ((assignEach ts X.env).map (·.2)) us) (fun _ s' => ∃ σ' H', Inv X pins σ' H' s' ∧ Q σ' H') X.xe s
section
variable {X : Cx} {pos : Pos}
def gName (i : Nat) : TG := fun v σ H Q => Q (σ.set i (some v)) H
theorem pg_name {i : Nat} {x : Str} (hN : X.N.Nodup) (hi : X.N[i]? = some x) (hx : Loc X.env.scope x) (hf : X.fn x = true ∨ X.env.scope.names.lookup x = some .local := by first | exact .inl rfl | exact .inr rfl | assumption) : PG X (.Name x pos) (gName i) := by
 intro pins s σ H v u Q I r h
 exact wpAny_assign_Name (store_ok I hN hi hx r (fun s' I' => ⟨_, H, I', h⟩) hf)
def gNil : TGs := fun vs σ H Q => vs = [] ∧ Q σ H
def gCons (t : TG) (u : TGs) : TGs := fun vs σ H Q => ∃ v r, vs = v :: r ∧ t v σ H fun σ' H' => u r σ' H' Q
theorem pgs_nil : PGs X [] gNil := by
 intro pins s σ H vs us Q I r h
 obtain ⟨e, h⟩ := h
 subst e
 cases r
 exact assignInOrder_nil ⟨σ, H, I, h⟩
theorem pgs_cons {e : Expr} {es : List Expr} {t : TG} {u : TGs} (h1 : PG X e t) (h2 : PGs X es u)
 (hs : (assignEach (e :: es) X.env).map (·.2) = assign e X.env :: (assignEach es X.env).map (·.2) := by rfl) : PGs X (e :: es) (gCons t u) := by
 intro pins s σ H vs us Q I r h
 obtain ⟨v, vr, e1, h⟩ := h
 subst e1
 cases r with
 | cons r rr =>
   rw [hs]
   refine assignInOrder_cons (thn (h1 pins s σ H _ _ _ I r h) fun _ s1 ⟨σ1, H1, I1, q1⟩ => ?_)
   exact h2 pins s1 σ1 H1 _ _ Q I1 rr q1
def gTup (K : PySem.W.Frag) (n : Nat) (t : TGs) : TG := fun v σ H Q => ∃ a xs, v = .ref a ∧ SqT K H a xs ∧ xs.length = n ∧ t xs σ H Q
theorem pg_tup {es : List Expr} {k : Nat} {t : TGs} {n : Nat} (hc : X.calm = true) (h : PGs X es t)
 (hn : (assignEach es X.env).length = n := by rfl) (hst : (assignEach es X.env).findIdx? (·.1) = none := by rfl) : PG X (.Tuple es k pos) (gTup X.K n t) := by
 intro pins s σ H v u Q I r hw
 obtain ⟨a, xs, e1, hq, hl, hw⟩ := hw
 subst e1
 cases r
 obtain ⟨its, rv, ht, hz⟩ := I.tuple hq
 refine assign_Tuple_tuple (I.ok.hd hc) ht (by simp [hn, ← hl, rv.length]) hst fun h' hx => ?_
 have I1 : Inv X pins σ H { s with heap := h' } := I.kept (t' := s.toks) fun b o e => hx b o (Nat.ne_of_lt (Heap.lt_size e)) e
 exact h pins _ σ H xs _ Q I1 (by simpa using rv) hw
def tAsg (te : TE) (g : TG) : TS := fun D σ H => te σ H fun x H1 => g x σ H1 D.nx
theorem ps_asg {tg e : Expr} {te : TE} {g : TG} (he : PE X e te) (hg : PG X tg g) (hs : swapsWithSole [tg] e pos.line X.env = pure false := by rfl) (hw : swappedStores [tg] e X.env = pure none := by rfl)
 (h1 : (assignEach [tg] X.env).map (·.2) = [assign tg X.env] := by rfl) : PS X (.Assign [tg] e pos) (tAsg te g) := by
 intro pins s σ H D I h
 refine wpAny_Assign_stores (thn (he pins s σ H _ I h) fun v s1 ⟨x, H1, I1, r1, q1⟩ => ?_) hs hw
 rw [h1]
 exact thn (hg pins s1 σ H1 x v _ I1 r1 q1) fun _ s2 q => q
theorem ps_set {i : Nat} {x : Str} {e : Expr} {te : TE} {pos' : Pos} (hN : X.N.Nodup) (hi : X.N[i]? = some x) (hx : Loc X.env.scope x) (he : PE X e te) (hs : swapsWith e (some (.Name x pos')) pos.line X.env = pure false := by rfl) (hf : X.fn x = true ∨ X.env.scope.names.lookup x = some .local := by first | exact .inl rfl | exact .inr rfl | assumption) :
 PS X (.Assign [.Name x pos'] e pos) (tAsg te (gName i)) := by
 intro pins s σ H D I h
 refine wpAny_Assign_Name (thn (he pins s σ H _ I h) fun v s1 ⟨y, H1, I1, r1, q1⟩ => ?_) hs
 exact store_ok I1 hN hi hx r1 (fun s2 I2 => ⟨_, H1, I2, q1⟩) hf
end
section
variable {X : Cx} {pos : Pos}
def tWhile (c : TT) (tb : TS) : TS := fun D σ H => ∃ W : Nat → St → Hp → Prop, (∃ m, W m σ H) ∧ ∀ m σ H, W m σ H →
 c σ H fun b H1 => if b = true then ∃ N : St → Hp → Prop, (∀ σ' H', N σ' H' → ∃ m', m' < m ∧ W m' σ' H') ∧ tb { D with nx := N, ct := N, bk := D.nx } σ H1 else D.nx σ H1
theorem ps_while {c : Expr} {body : List Stmt} {tc : TT} {tb : TS} (hp : PassesOwn (model X.prog X.w) X.A X.env X.xe) (hc : PT X c tc) (hb : PSs X body tb) : PS X (.While c body [] pos) (tWhile tc tb) := by
 intro pins s σ H D I h
 obtain ⟨W, ⟨m0, w0⟩, turn⟩ := h
 refine wpAny_While (codeAny_whileLoop (fun n s' => ∃ σ' H', Inv X pins σ' H' s' ∧ W n σ' H') ?_ m0 ⟨σ, H, I, w0⟩)
 rintro n s1 ⟨σ1, H1, I1, w1⟩
 refine wpAny_passesOwn hp (thn (hc pins s1 σ1 H1 _ I1 (turn n σ1 H1 w1)) fun b s2 ⟨H2, I2, q2⟩ => ?_)
 cases b with
 | true =>
   obtain ⟨N, hN, q2⟩ := q2
   rw [if_pos rfl]
   refine wpAny_passesOwn hp (thn (hb pins s2 σ1 H2 _ I2 q2) fun f s3 q3 => ?_)
   cases f with
   | next =>
     obtain ⟨σ3, H3, I3, n3⟩ := q3
     obtain ⟨m', hm, w3⟩ := hN σ3 H3 n3
     exact ⟨m', hm, σ3, H3, I3, w3⟩
   | cont =>
     obtain ⟨σ3, H3, I3, n3⟩ := q3
     obtain ⟨m', hm, w3⟩ := hN σ3 H3 n3
     exact ⟨m', hm, σ3, H3, I3, w3⟩
   | brk => exact q3
   | ret v => exact q3
 | false =>
   rw [if_neg Bool.false_ne_true]
   exact wpAny_execs_nil ⟨σ1, H2, I2, q2⟩
end
structure It where
 go : Nat → Hp → Prop
 yld : Nat → Hp → V → Hp → Prop
 stop : Nat → Hp → Prop
def FpOk (X : Cx) (pins : List (Addr × Obj)) (H : Hp) (b : Addr) : Prop :=
 H b = none ∧ b ≠ X.env.locals ∧ b ∉ X.fs ∧ (b ∈ X.ex ∨ X.s₀.heap.objs.size ≤ b) ∧ (∀ x c, X.env.cells.lookup x = some c → c ≠ b) ∧ ∀ p ∈ X.pn ++ pins, p.1 ≠ b
theorem Inv.fpOk {X : Cx} {pins : List (Addr × Obj)} {σ : St} {H H' : Hp} {s : Shared} {b : Addr} (I : Inv X pins σ H s) (hb : s.heap.objs.size ≤ b) (hn : H' b = none) : FpOk X pins H' b := by
 refine ⟨hn, Nat.ne_of_gt (Nat.lt_of_lt_of_le I.lt hb), I.nofs hb, .inr (Nat.le_trans I.sz hb), fun x c e z => ?_, fun p hp z => ?_⟩
 · obtain ⟨v, q⟩ := I.cell x c e
   exact absurd (Nat.lt_of_lt_of_le q.lt (by rw [z]; exact hb)) (Nat.lt_irrefl _)
 · exact absurd (Nat.lt_of_lt_of_le (Heap.lt_size (I.pin p hp).1) (by rw [z]; exact hb)) (Nat.lt_irrefl _)
structure Turn (P : Program) (w : World) (K : PySem.W.Frag) (tg : Expr) (J : It) (fp : List Addr) (it : Addr) (tn : Nat → Heap → Prop) : Prop where
 mem : it ∈ fp
 obj : ∀ i h, tn i h → ∀ b ∈ fp, ∃ o, h.get? b = some o ∧ ∀ v, o.data ≠ .cell v
 keep : ∀ i h h', tn i h → (∀ b ∈ fp, ∀ o, h.get? b = some o → h'.get? b = some o) → tn i h'
 item : ∀ (X : Cx), X.prog = P → X.w = w → X.K = K → X.calm = true → ∀ (i : Nat) (pins : List (Addr × Obj)) (s : Shared) (σ : St) (H : Hp) (E : Value → Shared → Prop), Inv X pins σ H s → (∀ b ∈ fp, FpOk X pins H b) → tn i s.heap → J.go i H →
  wpAny (model P w) X.A (pyNext (.ref it)) (fun r s1 => ∃ u, r = some u ∧
   wpAny (model P w) X.A (letOwnedTupleGo tg (.ref it) u) (fun _ s2 => ∃ x H', Inv X pins σ H' s2 ∧ RelV x u ∧ J.yld i H x H' ∧ tn (i + 1) s2.heap ∧ ∀ b ∈ fp, H' b = none) E s1) E s
 done : ∀ (X : Cx), X.prog = P → X.w = w → X.K = K → X.calm = true → ∀ (i : Nat) (pins : List (Addr × Obj)) (s : Shared) (σ : St) (H : Hp) (E : Value → Shared → Prop), Inv X pins σ H s → (∀ b ∈ fp, FpOk X pins H b) → tn i s.heap → J.stop i H →
  wpAny (model P w) X.A (pyNext (.ref it)) (fun r s1 => r = none ∧ Inv X pins σ H s1) E s
 self : ∀ (A : Around) (i : Nat) (s : Shared) (Q : Value → Shared → Prop) (E : Value → Shared → Prop), tn i s.heap → Q (.ref it) s → wpAny (model P w) A (pyIter (.ref it)) Q E s
abbrev TI := St → Hp → (It → Hp → Prop) → Prop
def PIE (X : Cx) (pins : List (Addr × Obj)) (σ : St) (tg : Expr) (R : It → Hp → Prop) (itv : Value) (s2 : Shared) : Prop :=
 ∃ (it : Addr) (fp : List Addr) (tn : Nat → Heap → Prop) (J : It) (H' : Hp), itv = .ref it ∧ Inv X pins σ H' s2 ∧ Turn X.prog X.w X.K tg J fp it tn ∧ tn 0 s2.heap ∧ (∀ b ∈ fp, FpOk X pins H' b) ∧ R J H'
def PI (X : Cx) (tg iter : Expr) (wi : TI) : Prop :=
 ∀ (pins : List (Addr × Obj)) (s : Shared) (σ : St) (H : Hp) (R : It → Hp → Prop), Inv X pins σ H s → wi σ H R →
   wpAny (model X.prog X.w) X.A (eval iter X.env) (fun v s1 => wpAny (model X.prog X.w) X.A (pyIter v) (PIE X pins σ tg R) X.xe s1) X.xe s
theorem go_of {M : Model} {A : Around} {E : Value → Shared → Prop} {s : Shared} {tg : Expr} {it : Addr} {u : Value} {o : Obj} {n : String} {vs : Array Value} {Q : Unit → Shared → Prop} (ho : s.heap.get? it = some o) (hc : o.cls = .type n) (hd : o.data = .fields vs)
 (hn : ["enumerate", "zip", "dict_itemiterator", "dict_reverseitemiterator", "odict_iterator", "itertools.zip_longest", "itertools.pairwise"].contains n = false) (hQ : Q () s) : wpAny M A (letOwnedTupleGo tg (.ref it) u) Q E s := by
 unfold letOwnedTupleGo
 cases tg <;> first
  | exact wpAny_pure hQ
  | (cases u <;> first
   | exact wpAny_pure hQ
   | (refine wpAny_bind (wpAny_load ho ?_)
      rw [hc, hd]
      show wpAny M A (if (["enumerate", "zip", "dict_itemiterator", "dict_reverseitemiterator", "odict_iterator", "itertools.zip_longest", "itertools.pairwise"].contains n && vs[0]? == some (rawInt _)) = true then _ else _) Q E s
      rw [if_neg (by intro h; rw [hn, Bool.false_and] at h; cases h)]
      exact wpAny_pure hQ))
def Itl (K : PySem.W.Frag) (a : Addr) : It :=
 ⟨fun i H => ∃ xs x, SqL K H a xs ∧ xs[i]? = some x, fun i H x H' => H' = H ∧ ∀ xs, SqL K H a xs → xs[i]? = some x, fun i H => ∃ xs, SqL K H a xs ∧ xs.length ≤ i⟩
def Itt (K : PySem.W.Frag) (a : Addr) : It :=
 ⟨fun i H => ∃ xs x, SqT K H a xs ∧ xs[i]? = some x, fun i H x H' => H' = H ∧ ∀ xs, SqT K H a xs → xs[i]? = some x, fun i H => ∃ xs, SqT K H a xs ∧ xs.length ≤ i⟩
def Itr (lo : Int) (n : Nat) : It := ⟨fun i _ => i < n, fun i H x H' => H' = H ∧ x = .int (lo + i), fun i _ => n ≤ i⟩
theorem turn_list {P : Program} {w : World} {K : PySem.W.Frag} {tg : Expr} (a it : Addr) : Turn P w K tg (Itl K a) [it] it (fun i h => h.IsListIter it a i) where
 mem := by simp
 obj := fun i h st b hb => by
  have e : b = it := by simpa using hb
  subst e
  obtain ⟨o, e, c, d⟩ := st
  exact ⟨o, e, fun v z => by rw [d] at z; cases z⟩
 keep := fun i h h' st k => st.at fun o e => k it (by simp) o e
 item := by
  intro X hP hw hK hc i pins s σ H E I hf st hg
  subst hP hw hK
  obtain ⟨xs, x, hq, hx⟩ := hg
  obtain ⟨its, rv, p, hz⟩ := I.list hq
  obtain ⟨u, hu, ru⟩ := rv.get hx
  obtain ⟨f0, f1, f2, f3, f4, f5⟩ := hf it (by simp)
  refine wpAny_pyNext_list_item st p.isList (x := u) (by simpa using hu) fun h' st' sb => ?_
  have I1 : Inv X pins σ H { s with heap := h' } := I.turned (t' := s.toks) (fun b o hb e => (sb.2 b hb).trans e) f0 f1 f3 f4 f5
  obtain ⟨o, e, c, d⟩ := id st'
  exact ⟨u, rfl, go_of (s := { s with heap := h' }) e c d (by decide) ⟨x, H, I1, ru, ⟨rfl, fun ys hy => by rw [I.list_inj hy hq]; exact hx⟩, st', fun b hb => (hf b hb).1⟩⟩
 done := by
  intro X hP hw hK hc i pins s σ H E I hf st hg
  subst hP hw hK
  obtain ⟨xs, hq, hx⟩ := hg
  obtain ⟨its, rv, p, hz⟩ := I.list hq
  obtain ⟨f0, f1, f2, f3, f4, f5⟩ := hf it (by simp)
  have hl := rv.length
  exact wpAny_pyNext_list_end (I.ok.hd hc) st p.isList (by simp; omega) fun h' eb => ⟨rfl, I.turned (t' := s.toks) (fun b o hb e => eb b o hb e) f0 f1 f3 f4 f5⟩
 self := fun _ _ _ _ _ st h => wpAny_pyIter_listiter st h
theorem turn_tuple {P : Program} {w : World} {K : PySem.W.Frag} {tg : Expr} (a it : Addr) : Turn P w K tg (Itt K a) [it] it (fun i h => h.IsTupleIter it a i) where
 mem := by simp
 obj := fun i h st b hb => by
  have e : b = it := by simpa using hb
  subst e
  obtain ⟨o, e, c, d⟩ := st
  exact ⟨o, e, fun v z => by rw [d] at z; cases z⟩
 keep := fun i h h' st k => st.at fun o e => k it (by simp) o e
 item := by
  intro X hP hw hK hc i pins s σ H E I hf st hg
  subst hP hw hK
  obtain ⟨xs, x, hq, hx⟩ := hg
  obtain ⟨its, rv, p, hz⟩ := I.tuple hq
  obtain ⟨u, hu, ru⟩ := rv.get hx
  obtain ⟨f0, f1, f2, f3, f4, f5⟩ := hf it (by simp)
  refine wpAny_pyNext_tuple_item st (show s.heap.IsTuple a its.toArray from p) (x := u) (by simpa using hu) fun h' st' sb => ?_
  have I1 : Inv X pins σ H { s with heap := h' } := I.turned (t' := s.toks) (fun b o hb e => (sb.2 b hb).trans e) f0 f1 f3 f4 f5
  obtain ⟨o, e, c, d⟩ := id st'
  exact ⟨u, rfl, go_of (s := { s with heap := h' }) e c d (by decide) ⟨x, H, I1, ru, ⟨rfl, fun ys hy => by rw [I.tuple_inj hy hq]; exact hx⟩, st', fun b hb => (hf b hb).1⟩⟩
 done := by
  intro X hP hw hK hc i pins s σ H E I hf st hg
  subst hP hw hK
  obtain ⟨xs, hq, hx⟩ := hg
  obtain ⟨its, rv, p, hz⟩ := I.tuple hq
  obtain ⟨f0, f1, f2, f3, f4, f5⟩ := hf it (by simp)
  have hl := rv.length
  exact wpAny_pyNext_tuple_end (I.ok.hd hc) st (show s.heap.IsTuple a its.toArray from p) (by simp; omega) fun h' eb => ⟨rfl, I.turned (t' := s.toks) (fun b o hb e => eb b o hb e) f0 f1 f3 f4 f5⟩
 self := fun _ _ _ _ _ st h => wpAny_pyIter_tupleiter st h
theorem turn_range {P : Program} {w : World} {K : PySem.W.Frag} {tg : Expr} (it : Addr) (lo : Int) (n : Nat) : Turn P w K tg (Itr lo n) [it] it (fun i h => IsRangeIter h it (lo + (i : Nat) * 1) ((n : Int) - (i : Nat)) 1) where
 mem := by simp
 obj := fun i h st b hb => by
  have e : b = it := by simpa using hb
  subst e
  exact ⟨_, st, fun v z => by
   have z' : Data.fields _ = Data.cell v := z
   cases z'⟩
 keep := fun i h h' st k => k it (by simp) _ st
 item := by
  intro X hP hw hK hc i pins s σ H E I hf st hg
  subst hP hw hK
  obtain ⟨f0, f1, f2, f3, f4, f5⟩ := hf it (by simp)
  have W := Walks.range (prog := X.prog) (w := X.w) (I.ok.hd hc) it lo 1 n
  refine W.item i s _ _ hg st fun v h' tk hv st' kk => ?_
  obtain ⟨t, rfl⟩ := hv
  have I1 : Inv X pins σ H { s with heap := h', toks := tk } := I.turned (fun b o hb e => kk b o (by simpa using hb) e) f0 f1 f3 f4 f5
  refine ⟨_, rfl, go_of (s := { s with heap := h', toks := tk }) (n := "range_iterator") st' rfl rfl (by decide) ⟨.int (lo + i), H, I1, ⟨t, ?_⟩, ⟨rfl, rfl⟩, st', fun b hb => (hf b hb).1⟩⟩
  rw [Int.mul_one]
 done := by
  intro X hP hw hK hc i pins s σ H E I hf st hg
  subst hP hw hK
  obtain ⟨f0, f1, f2, f3, f4, f5⟩ := hf it (by simp)
  exact wpAny_pyNext_range_end (I.ok.hd hc) st (by have : n ≤ i := hg; omega) fun h' eb => ⟨rfl, I.turned (t' := s.toks) (fun b o hb e => eb b o hb e) f0 f1 f3 f4 f5⟩
 self := fun _ _ _ _ _ st h => wpAny_pyIter_rangeiter st h
end L2
namespace L2
open PySem PySem.Spec PyProof.Rows
section
variable {X : Cx} {tg : Expr}
def iList (K : PySem.W.Frag) (tl : TE) : TI := fun σ H R => tl σ H fun x H1 => ∃ a, x = .ref a ∧ (∃ xs, SqL K H1 a xs) ∧ R (Itl K a) H1
def iTup (K : PySem.W.Frag) (tl : TE) : TI := fun σ H R => tl σ H fun x H1 => ∃ a, x = .ref a ∧ (∃ xs, SqT K H1 a xs) ∧ R (Itt K a) H1
theorem pi_list {l : Expr} {tl : TE} (hl : PE X l tl) : PI X tg l (iList X.K tl) := by
 intro pins s σ H R I h
 refine thn (hl pins s σ H _ I h) fun v s1 ⟨x, H1, I1, r1, q1⟩ => ?_
 obtain ⟨a, e, ⟨xs, hq⟩, q⟩ := q1
 subst e
 cases r1
 obtain ⟨its, rv, p, hz⟩ := I1.list hq
 refine wpAny_pyIter_list p.isList ?_
 refine ⟨s1.heap.objs.size, [s1.heap.objs.size], _, _, H1, rfl, I1.kept (t' := s1.toks) fun b o e => Heap.get?_push_of_some _ e, turn_list a _, ⟨_, Heap.get?_push_size _ rfl, rfl, rfl⟩, fun b hb => ?_, q⟩
 have e : b = s1.heap.objs.size := by simpa using hb
 subst e
 exact I1.fpOk (Nat.le_refl _) (I1.hok.fresh (Nat.le_refl _))
theorem pi_tup {l : Expr} {tl : TE} (hl : PE X l tl) : PI X tg l (iTup X.K tl) := by
 intro pins s σ H R I h
 refine thn (hl pins s σ H _ I h) fun v s1 ⟨x, H1, I1, r1, q1⟩ => ?_
 obtain ⟨a, e, ⟨xs, hq⟩, q⟩ := q1
 subst e
 cases r1
 obtain ⟨its, rv, p, hz⟩ := I1.tuple hq
 refine wpAny_pyIter_tuple (show s1.heap.IsTuple a its.toArray from p) ?_
 refine ⟨s1.heap.objs.size, [s1.heap.objs.size], _, _, H1, rfl, I1.kept (t' := s1.toks) fun b o e => Heap.get?_push_of_some _ e, turn_tuple a _, ⟨_, Heap.get?_push_size _ rfl, rfl, rfl⟩, fun b hb => ?_, q⟩
 have e : b = s1.heap.objs.size := by simpa using hb
 subst e
 exact I1.fpOk (Nat.le_refl _) (I1.hok.fresh (Nat.le_refl _))
theorem range_it {pins : List (Addr × Obj)} {σ : St} {H : Hp} {s : Shared} {R : It → Hp → Prop} {E : Value → Shared → Prop} {lo hi : Int} {t u v : Tok} {tk : Nat} (I : Inv X pins σ H s) (h1 : -(2 ^ 62) ≤ lo) (h2 : lo < 2 ^ 62) (h3 : -(2 ^ 62) ≤ hi) (h4 : hi < 2 ^ 62)
 (q : R (Itr lo (hi - lo).toNat) H) : wpAny (model X.prog X.w) X.A (pyIter (.ref s.heap.objs.size)) (PIE X pins σ tg R) E { s with heap := s.heap.push { cls := .type "range", data := .fields #[.int lo t, .int hi u, .int 1 v] }, toks := tk } := by
 refine wpAny_pyIter_range (IsRange.new ..) (small_one h1 h2 h3 h4) ?_
 have I1 : Inv X pins σ H { s with heap := s.heap.push { cls := .type "range", data := .fields #[.int lo t, .int hi u, .int 1 v] }, toks := tk } := I.kept fun b o e => Heap.get?_push_of_some _ e
 refine ⟨(s.heap.push { cls := .type "range", data := .fields #[.int lo t, .int hi u, .int 1 v] }).objs.size, [(s.heap.push { cls := .type "range", data := .fields #[.int lo t, .int hi u, .int 1 v] }).objs.size], _, _, H, rfl,
  I1.kept (t' := tk) fun b o e => Heap.get?_push_of_some _ e, turn_range _ lo (hi - lo).toNat, ?_, fun b hb => ?_, q⟩
 · have e1 : lo + ((0 : Nat) : Int) * 1 = lo := by simp
   have e2 : (((hi - lo).toNat : Nat) : Int) - ((0 : Nat) : Int) = Builtin.Range.rangeSize lo hi 1 := by rw [rangeSize_one]; split <;> omega
   show IsRangeIter _ _ (lo + ((0 : Nat) : Int) * 1) ((((hi - lo).toNat : Nat) : Int) - ((0 : Nat) : Int)) 1
   rw [e1, e2]
   exact Heap.get?_push_size _ rfl
 · have e : b = (s.heap.push { cls := .type "range", data := .fields #[.int lo t, .int hi u, .int 1 v] }).objs.size := by simpa using hb
   subst e
   exact I1.fpOk (Nat.le_refl _) (I1.hok.fresh (Nat.le_refl _))
def iRng1 (ta : TA) : TI := fun σ H R => ta σ H fun vs H1 => ∃ j : Int, vs = [.int j] ∧ -(2 ^ 62) ≤ j ∧ j < 2 ^ 62 ∧ R (Itr 0 j.toNat) H1
theorem pi_range1 {a : Expr} {ta : TA} {p pos : Pos} (hg : Gl X "range") (hm : X.mg "range" = none) (ha : PA X [a] ta) (hs : starEach [a] X.env = [(false, eval a X.env)] := by rfl) : PI X tg (.Call (.Name "range" p) [a] [] pos) (iRng1 ta) := by
 intro pins s σ H R I h
 refine Call_ (ld_blt I hg hm boot_range (PyProof.Rows.callWith_type1 (thn (ha pos pins s σ H _ I h) fun us s1 ⟨vs, H1, I1, r1, q1⟩ => ?_) hs rfl))
 obtain ⟨j, e, q1, q2, q⟩ := q1
 subst e
 cases r1 with
 | cons r rr =>
   cases rr
   obtain ⟨t, rfl⟩ := r
   exact call_range_1 (range_it I1 (by omega) (by omega) q1 q2 (by simpa using q))
def tFor (wi : TI) (g : TG) (tb : TS) : TS := fun D σ H => wi σ H fun J H1 => ∃ W : Nat → Nat → St → Hp → Prop, (∃ m, W 0 m σ H1) ∧ ∀ i m σ H, W i m σ H →
 (J.stop i H ∧ D.nx σ H) ∨ (J.go i H ∧ ∃ N : St → Hp → Prop, (∀ σ' H', N σ' H' → ∃ m', m' < m ∧ W (i + 1) m' σ' H') ∧ ∀ x H', J.yld i H x H' → g x σ H' fun σ2 H2 => tb { D with nx := N, ct := N, bk := D.nx } σ2 H2)
def pinsAt (fp : List Addr) (h : Heap) : List (Addr × Obj) := fp.filterMap fun b => (h.get? b).map fun o => (b, o)
theorem mem_pinsAt {fp : List Addr} {h : Heap} {b : Addr} {o : Obj} (hb : b ∈ fp) (e : h.get? b = some o) : (b, o) ∈ pinsAt fp h := List.mem_filterMap.mpr ⟨b, hb, by rw [e]; rfl⟩
theorem of_pinsAt {fp : List Addr} {h : Heap} {p : Addr × Obj} (hp : p ∈ pinsAt fp h) : p.1 ∈ fp ∧ h.get? p.1 = some p.2 := by
 obtain ⟨b, hb, e⟩ := List.mem_filterMap.mp hp
 cases q : h.get? b with
 | none => rw [q] at e; cases e
 | some o =>
   rw [q] at e
   have e' : (b, o) = p := Option.some.inj e
   subst e'
   exact ⟨hb, q⟩
theorem Inv.pinned {pins : List (Addr × Obj)} {σ : St} {H : Hp} {s : Shared} {fp : List Addr} (I : Inv X pins σ H s) (hf : ∀ b ∈ fp, FpOk X pins H b) (ho : ∀ b ∈ fp, ∃ o, s.heap.get? b = some o ∧ ∀ v, o.data ≠ .cell v) : Inv X (pins ++ pinsAt fp s.heap) σ H s :=
 I.pins_of fun p hp => (List.mem_append.mp hp).elim (fun z => I.pin p (List.mem_append_right _ z)) fun z => by
  obtain ⟨hb, e⟩ := of_pinsAt z
  obtain ⟨f0, f1, f2, _⟩ := hf p.1 hb
  obtain ⟨o, e', d⟩ := ho p.1 hb
  rw [e] at e'; cases e'
  exact ⟨e, f0, f1, f2, d⟩
theorem Inv.unpinned {pins pl : List (Addr × Obj)} {σ : St} {H : Hp} {s : Shared} (I : Inv X (pins ++ pl) σ H s) : Inv X pins σ H s := I.pins_of fun p hp => I.pin p (List.mem_append_right _ (List.mem_append_left _ hp))
theorem ps_for {iter : Expr} {body : List Stmt} {wi : TI} {g : TG} {tb : TS} {pos : Pos} (hp : PassesOwn (model X.prog X.w) X.A X.env X.xe) (hc : X.calm = true) (hi : PI X tg iter wi) (hg : PG X tg g) (hb : PSs X body tb)
 (hs : ∀ x, foldedSetIterable iter X.env x = pure x := by intro _; rfl) : PS X (.For tg iter body [] pos) (tFor wi g tb) := by
 intro pins s σ H D I h
 refine wpAny_For (thn (hi pins s σ H _ I h) fun v s1 h1 => thn h1 fun itv s2 h2 => ?_) hs
 obtain ⟨it, fp, tn, J, H2, e, I2, T, st2, f2, W, ⟨m0, w0⟩, turn⟩ := h2
 subst e
 have stat : ∀ {H' : Hp}, (∀ b ∈ fp, H' b = none) → ∀ b ∈ fp, FpOk X pins H' b := fun hn b hb => ⟨hn b hb, (f2 b hb).2⟩
 refine codeAny_forLoop_any (fun n s' => ∃ i σ' H', Inv X pins σ' H' s' ∧ tn i s'.heap ∧ (∀ b ∈ fp, H' b = none) ∧ W i n σ' H') ?_ m0 ⟨0, σ, H2, I2, st2, fun b hb => (f2 b hb).1, w0⟩
 rintro n s3 ⟨i, σ3, H3, I3, st3, fr3, w3⟩
 rcases turn i n σ3 H3 w3 with ⟨stop, qn⟩ | ⟨go, N, hN, step⟩
 · refine wpAny_passesOwn hp (thn (T.done X rfl rfl rfl hc i pins s3 σ3 H3 X.xe I3 (stat fr3) st3 stop) fun r s4 ⟨hr, I4⟩ => ?_)
   subst hr
   exact wpAny_execs_nil ⟨σ3, H3, I4, qn⟩
 · refine wpAny_passesOwn hp (thn (T.item X rfl rfl rfl hc i pins s3 σ3 H3 X.xe I3 (stat fr3) st3 go) fun r s4 ⟨u, hr, h4⟩ => ?_)
   subst hr
   refine wpAny_passesOwn hp (thn h4 fun _ s5 ⟨x, H5, I5, r5, y5, st5, fr5⟩ => ?_)
   have I5' := I5.pinned (stat fr5) (T.obj _ _ st5)
   refine wpAny_passesOwn hp (thn (hg _ s5 σ3 H5 x u _ I5' r5 (step x H5 y5)) fun _ s6 ⟨σ6, H6, I6, q6⟩ => ?_)
   refine wpAny_passesOwn hp (thn (hb _ s6 σ6 H6 _ I6 q6) fun f s7 q7 => ?_)
   have again : ∀ {σ7 : St} {H7 : Hp}, Inv X (pins ++ pinsAt fp s5.heap) σ7 H7 s7 → N σ7 H7 → ∃ m, m < n ∧ ∃ i σ' H', Inv X pins σ' H' s7 ∧ tn i s7.heap ∧ (∀ b ∈ fp, H' b = none) ∧ W i m σ' H' := fun {σ7 H7} I7 n7 => by
    obtain ⟨m', hm, w7⟩ := hN σ7 H7 n7
    refine ⟨m', hm, i + 1, σ7, H7, I7.unpinned, T.keep _ _ _ st5 fun b hb o e => (I7.pin (b, o) (List.mem_append_right _ (List.mem_append_right _ (mem_pinsAt hb e)))).1, fun b hb => ?_, w7⟩
    obtain ⟨o, e, d⟩ := T.obj _ _ st5 b hb
    exact (I7.pin (b, o) (List.mem_append_right _ (List.mem_append_right _ (mem_pinsAt hb e)))).2.1
   cases f with
   | next => obtain ⟨σ7, H7, I7, n7⟩ := q7; exact again I7 n7
   | cont => obtain ⟨σ7, H7, I7, n7⟩ := q7; exact again I7 n7
   | brk => obtain ⟨σ7, H7, I7, q7⟩ := q7; exact ⟨σ7, H7, I7.unpinned, q7⟩
   | ret v => obtain ⟨x7, σ7, H7, I7, r7, q7⟩ := q7; exact ⟨x7, σ7, H7, I7.unpinned, r7, q7⟩
end
end L2
namespace L2
open PySem PySem.Spec PyProof.Rows
abbrev R2 := V → V → Hp → VK → Prop
def OpR (X : Cx) (f : Value → Value → Sem Value) (r : R2) : Prop :=
 ∀ (pins : List (Addr × Obj)) (s : Shared) (σ : St) (H : Hp) (x y : V) (v u : Value) (Q : VK), Inv X pins σ H s → RelV x v → RelV y u → r x y H Q →
   wpAny (model X.prog X.w) X.A (f v u) (EP X pins σ Q) X.xe s
def CallR (X : Cx) (f : Value) (r : List V → Hp → VK → Prop) : Prop :=
 ∀ (pins : List (Addr × Obj)) (s : Shared) (σ : St) (H : Hp) (xs : List V) (us : List Value) (Q : VK), Inv X pins σ H s → Vals xs us → r xs H Q →
   wpAny (model X.prog X.w) X.A (call f us) (EP X pins σ Q) X.xe s
def tOp (r : R2) (ta tb : TE) : TE := fun σ H Q => ta σ H fun x H1 => tb σ H1 fun y H2 => r x y H2 Q
def rI (C : Int → Int → Prop) (g : Int → Int → V) : R2 := fun x y H Q => ∃ i j, x = .int i ∧ y = .int j ∧ C i j ∧ Q (g i j) H
def rI0 (g : Int → Int → V) : R2 := fun x y H Q => ∃ i j, x = .int i ∧ y = .int j ∧ Q (g i j) H
section
variable {X : Cx} {a b c : Expr} {ta tb tc : TE} {pos : Pos}
theorem binT (ha : PE X a ta) (hb : PE X b tb) {pins : List (Addr × Obj)} {s : Shared} {σ : St} {H : Hp} {R : V → V → Hp → Prop} (I : Inv X pins σ H s)
 (h : ta σ H fun x H1 => tb σ H1 fun y H2 => R x y H2) {Q : Value → Shared → Prop} {f : Value → Value → Sem Value}
 (hf : ∀ v u s2 x y H2, Inv X pins σ H2 s2 → RelV x v → RelV y u → R x y H2 → wpAny (model X.prog X.w) X.A (f v u) Q X.xe s2) :
 wpAny (model X.prog X.w) X.A (eval a X.env) (fun v s₁ => wpAny (model X.prog X.w) X.A (eval b X.env) (fun u s₂ => wpAny (model X.prog X.w) X.A (f v u) Q X.xe s₂) X.xe s₁) X.xe s := by
 refine thn (ha pins s σ H _ I h) fun v s1 ⟨x, H1, I1, r1, q1⟩ => ?_
 refine thn (hb pins s1 σ H1 _ I1 q1) fun u s2 ⟨y, H2, I2, r2, q2⟩ => ?_
 exact hf v u s2 x y H2 I2 r1 r2 q2
theorem pe_op {op : Operator} {r : R2} (ho : OpR X (binaryOp op) r) (ha : PE X a ta) (hb : PE X b tb) : PE X (.BinOp a op b pos) (tOp r ta tb) := by
 intro pins s σ H Q I h
 exact wpAny_BinOp (binT ha hb I h fun v u s2 x y H2 I2 rx ry q => ho pins s2 σ H2 x y v u Q I2 rx ry q)
theorem opI {f : Value → Value → Sem Value} {C : Int → Int → Prop} {g : Int → Int → Int}
 (rule : ∀ (i j : Int) (t u : Tok) (s : Shared) (Q : Value → Shared → Prop) (E : Value → Shared → Prop), C i j → Q (.int (g i j) s.toks) { s with toks := s.toks + 1 } → wpAny (model X.prog X.w) X.A (f (.int i t) (.int j u)) Q E s) :
 OpR X f (rI C fun i j => .int (g i j)) := by
 intro pins s σ H x y v u Q I rx ry h
 obtain ⟨i, j, rfl, rfl, hc, q⟩ := h
 obtain ⟨t, rfl⟩ := rx
 obtain ⟨t', rfl⟩ := ry
 exact rule i j t t' s _ _ hc ⟨.int (g i j), H, I.tok _, ⟨_, rfl⟩, q⟩
theorem opI0 {f : Value → Value → Sem Value} {g : Int → Int → Int}
 (rule : ∀ (i j : Int) (t u : Tok) (s : Shared) (Q : Value → Shared → Prop) (E : Value → Shared → Prop), Q (.int (g i j) s.toks) { s with toks := s.toks + 1 } → wpAny (model X.prog X.w) X.A (f (.int i t) (.int j u)) Q E s) :
 OpR X f (rI0 fun i j => .int (g i j)) := by
 intro pins s σ H x y v u Q I rx ry h
 obtain ⟨i, j, rfl, rfl, q⟩ := h
 obtain ⟨t, rfl⟩ := rx
 obtain ⟨t', rfl⟩ := ry
 exact rule i j t t' s _ _ ⟨.int (g i j), H, I.tok _, ⟨_, rfl⟩, q⟩
theorem opB0 {f : Value → Value → Sem Value} {g : Int → Int → Bool}
 (rule : ∀ (i j : Int) (t u : Tok) (s : Shared) (Q : Value → Shared → Prop) (E : Value → Shared → Prop), Q (.bool (g i j)) s → wpAny (model X.prog X.w) X.A (f (.int i t) (.int j u)) Q E s) :
 OpR X f (rI0 fun i j => .bl (g i j)) := by
 intro pins s σ H x y v u Q I rx ry h
 obtain ⟨i, j, rfl, rfl, q⟩ := h
 obtain ⟨t, rfl⟩ := rx
 obtain ⟨t', rfl⟩ := ry
 exact rule i j t t' s _ _ ⟨.bl (g i j), H, I, rfl, q⟩
def CDiv (i j : Int) : Prop := 0 < j ∧ j < 1073741824
def CPow (i j : Int) : Prop := 0 ≤ j ∧ j ≤ 1000000 ∧ i.natAbs < 2 ^ 64
theorem op_add : OpR X (binaryOp .Add) (rI0 fun i j => .int (i + j)) := opI0 fun _ _ _ _ _ _ _ q => add_int q
theorem op_sub : OpR X (binaryOp .Sub) (rI0 fun i j => .int (i - j)) := opI0 fun _ _ _ _ _ _ _ q => sub_int q
theorem op_fdiv : OpR X (binaryOp .FloorDiv) (rI CDiv fun i j => .int (i / j)) := opI fun i j _ _ _ _ _ hc q => by
 have h1 : (0 : Int) < j := hc.1
 have h2 : j < 1073741824 := hc.2
 exact floordiv_int (by omega) (by rw [Int.fdiv_eq_ediv_of_nonneg i (by omega)]; exact q) (.inl (PyProof.noPylong_small (by omega)))
theorem op_mod : OpR X (binaryOp .Mod) (rI (fun _ j => 0 < j) fun i j => .int (i % j)) := opI fun i j _ _ _ _ _ hc q => by
 have h1 : (0 : Int) < j := hc
 exact mod_int' (by omega) (by rw [Int.fmod_eq_emod_of_nonneg i (by omega)]; exact q)
theorem op_pow : OpR X (binaryOp .Pow) (rI CPow fun i j => .int (i ^ j.toNat)) := opI fun _ _ _ _ _ _ _ hc q => pow_int_small hc.1 hc.2.1 hc.2.2 q
end
def scal : V → V → Bool
 | .non, .non => true | .non, .int _ => true | .int _, .non => true | .non, .bl _ => true | .bl _, .non => true | .non, .str _ => true | .str _, .non => true
 | .int _, .int _ => true | .bl _, .bl _ => true | .str _, .str _ => true | .byt _, .byt _ => true
 | .int _, .str _ => true | .str _, .int _ => true | .bl _, .str _ => true | .str _, .bl _ => true
 | _, _ => false
def rEq : R2 := fun x y H Q => scal x y = true ∧ Q (.bl (decide (x = y))) H
def rNe : R2 := fun x y H Q => scal x y = true ∧ Q (.bl (!decide (x = y))) H
theorem dec_int {i j : Int} : decide (V.int i = V.int j) = (i == j) := by
 rw [Bool.eq_iff_iff]
 simp
theorem dec_bl {i j : Bool} : decide (V.bl i = V.bl j) = (i == j) := by
 rw [Bool.eq_iff_iff]
 simp
theorem dec_str {i j : Str} : decide (V.str i = V.str j) = (i == j) := by
 rw [Bool.eq_iff_iff]
 simp
theorem dec_byt {i j : Array UInt8} : decide (V.byt i = V.byt j) = (i.toList == j.toList) := by
 rw [Bool.eq_iff_iff]
 cases i
 cases j
 simp
section
variable {X : Cx} {a b c : Expr} {ta tb tc : TE} {pos : Pos}
theorem fin_bl {pins : List (Addr × Obj)} {σ : St} {H : Hp} {s : Shared} {Q : VK} {k k' : Bool} (I : Inv X pins σ H s) (q : Q (.bl k) H) (e : k = k') : EP X pins σ Q (.bool k') s := by
 subst e
 exact ⟨.bl k, H, I, rfl, q⟩
theorem op_eq : OpR X (compareOp .Eq) rEq := by
 intro pins s σ H x y v u Q I rx ry h
 obtain ⟨hs, q⟩ := h
 cases x with
 | non =>
   cases rx
   cases y with
   | non => cases ry; exact PySem.EqNone.eq_none_none (fin_bl I q (by simp))
   | bl j => cases ry; exact PySem.EqNone.eq_none_bool (fin_bl I q (by simp))
   | int j => obtain ⟨t', rfl⟩ := ry; exact PySem.EqNone.eq_none_int (fin_bl I q (by simp))
   | str j => obtain ⟨t', rfl⟩ := ry; exact PySem.EqNone.eq_none_str (fin_bl I q (by simp))
   | _ => exact absurd (show false = true from hs) Bool.false_ne_true
 | bl i =>
   cases rx
   cases y with
   | non => cases ry; exact PySem.EqNone.eq_bool_none (fin_bl I q (by simp))
   | bl j => cases ry; exact eq_bool (fin_bl I q dec_bl)
   | str j => obtain ⟨t', rfl⟩ := ry; exact PySem.EqMixed.eq_bool_str (fin_bl I q (by simp))
   | _ => exact absurd (show false = true from hs) Bool.false_ne_true
 | int i =>
   obtain ⟨t, rfl⟩ := rx
   cases y with
   | non => cases ry; exact PySem.EqNone.eq_int_none (fin_bl I q (by simp))
   | int j => obtain ⟨t', rfl⟩ := ry; exact eq_int (fin_bl I q dec_int)
   | str j => obtain ⟨t', rfl⟩ := ry; exact PySem.EqMixed.eq_int_str (fin_bl I q (by simp))
   | _ => exact absurd (show false = true from hs) Bool.false_ne_true
 | str i =>
   obtain ⟨t, rfl⟩ := rx
   cases y with
   | non => cases ry; exact PySem.EqNone.eq_str_none (fin_bl I q (by simp))
   | bl j => cases ry; exact PySem.EqMixed.eq_str_bool (fin_bl I q (by simp))
   | int j => obtain ⟨t', rfl⟩ := ry; exact PySem.EqMixed.eq_str_int (fin_bl I q (by simp))
   | str j => obtain ⟨t', rfl⟩ := ry; exact eq_str (fin_bl I q dec_str)
   | _ => exact absurd (show false = true from hs) Bool.false_ne_true
 | byt i =>
   obtain ⟨t, rfl⟩ := rx
   cases y with
   | byt j => obtain ⟨t', rfl⟩ := ry; exact PySem.W.eq_bytes (fin_bl I q dec_byt)
   | _ => exact absurd (show false = true from hs) Bool.false_ne_true
 | _ => cases y <;> exact absurd (show false = true from hs) Bool.false_ne_true
theorem op_ne : OpR X (compareOp .NotEq) rNe := by
 intro pins s σ H x y v u Q I rx ry h
 obtain ⟨hs, q⟩ := h
 cases x with
 | non =>
   cases rx
   cases y with
   | non => cases ry; exact PySem.EqNone.ne_none_none (fin_bl I q (by simp))
   | bl j => cases ry; exact PySem.EqNone.ne_none_bool (fin_bl I q (by simp))
   | int j => obtain ⟨t', rfl⟩ := ry; exact PySem.EqNone.ne_none_int (fin_bl I q (by simp))
   | str j => obtain ⟨t', rfl⟩ := ry; exact PySem.EqNone.ne_none_str (fin_bl I q (by simp))
   | _ => exact absurd (show false = true from hs) Bool.false_ne_true
 | bl i =>
   cases rx
   cases y with
   | non => cases ry; exact PySem.EqNone.ne_bool_none (fin_bl I q (by simp))
   | bl j => cases ry; exact ne_bool (fin_bl I q (congrArg not dec_bl))
   | str j => obtain ⟨t', rfl⟩ := ry; exact PySem.EqMixed.ne_bool_str (fin_bl I q (by simp))
   | _ => exact absurd (show false = true from hs) Bool.false_ne_true
 | int i =>
   obtain ⟨t, rfl⟩ := rx
   cases y with
   | non => cases ry; exact PySem.EqNone.ne_int_none (fin_bl I q (by simp))
   | int j => obtain ⟨t', rfl⟩ := ry; exact ne_int (fin_bl I q (congrArg not dec_int))
   | str j => obtain ⟨t', rfl⟩ := ry; exact PySem.EqMixed.ne_int_str (fin_bl I q (by simp))
   | _ => exact absurd (show false = true from hs) Bool.false_ne_true
 | str i =>
   obtain ⟨t, rfl⟩ := rx
   cases y with
   | non => cases ry; exact PySem.EqNone.ne_str_none (fin_bl I q (by simp))
   | bl j => cases ry; exact PySem.EqMixed.ne_str_bool (fin_bl I q (by simp))
   | int j => obtain ⟨t', rfl⟩ := ry; exact PySem.EqMixed.ne_str_int (fin_bl I q (by simp))
   | str j => obtain ⟨t', rfl⟩ := ry; exact ne_str (fin_bl I q (congrArg not dec_str))
   | _ => exact absurd (show false = true from hs) Bool.false_ne_true
 | byt i =>
   obtain ⟨t, rfl⟩ := rx
   cases y with
   | byt j => obtain ⟨t', rfl⟩ := ry; exact PySem.W.ne_bytes (fin_bl I q (congrArg not dec_byt))
   | _ => exact absurd (show false = true from hs) Bool.false_ne_true
 | _ => cases y <;> exact absurd (show false = true from hs) Bool.false_ne_true
theorem op_lt : OpR X (compareOp .Lt) (rI0 fun i j => .bl (decide (i < j))) := opB0 fun _ _ _ _ _ _ _ q => lt_int q
theorem op_gt : OpR X (compareOp .Gt) (rI0 fun i j => .bl (decide (j < i))) := opB0 fun _ _ _ _ _ _ _ q => gt_int q
theorem op_ge : OpR X (compareOp .GtE) (rI0 fun i j => .bl (decide (j ≤ i))) := opB0 fun _ _ _ _ _ _ _ q => ge_int q
theorem op_in_str : OpR X (compareOp .In) (fun x y H Q => ∃ i j, x = .str i ∧ y = .str j ∧ Q (.bl (!(Builtin.Str.occurrences j i 0 j.length 1).isEmpty)) H) := by
 intro pins s σ H x y v u Q I rx ry h
 obtain ⟨i, j, rfl, rfl, q⟩ := h
 obtain ⟨t, rfl⟩ := rx
 obtain ⟨t', rfl⟩ := ry
 exact in_str (fin_bl I q rfl)
theorem op_isN : OpR X (compareOp .Is) (fun x y H Q => y = .non ∧ Q (.bl (decide (x = .non))) H) := by
 intro pins s σ H x y v u Q I rx ry h
 obtain ⟨rfl, q⟩ := h
 cases ry
 refine is_none_gen (fin_bl I q ?_)
 cases x <;> first
  | (cases rx; rfl)
  | (obtain ⟨t, rfl⟩ := rx; rfl)
theorem op_notN : OpR X (compareOp .IsNot) (fun x y H Q => y = .non ∧ Q (.bl (!decide (x = .non))) H) := by
 intro pins s σ H x y v u Q I rx ry h
 obtain ⟨rfl, q⟩ := h
 cases ry
 refine isnot_none_gen (fin_bl I q ?_)
 cases x <;> first
  | (cases rx; rfl)
  | (obtain ⟨t, rfl⟩ := rx; rfl)
theorem OpR.or {f : Value → Value → Sem Value} {r r' : R2} (h : OpR X f r) (h' : OpR X f r') : OpR X f (fun x y H Q => r x y H Q ∨ r' x y H Q) := by
 intro pins s σ H x y v u Q I rx ry q
 rcases q with q | q
 · exact h pins s σ H x y v u Q I rx ry q
 · exact h' pins s σ H x y v u Q I rx ry q
theorem nomark (b : Expr) {op : CmpOp} (h : op ≠ .In := by decide) (h2 : op ≠ .NotIn := by decide) : behindInMarks op b = false := by
 have e1 : (op == CmpOp.In) = false := by cases op <;> first | rfl | exact absurd rfl h
 have e2 : (op == CmpOp.NotIn) = false := by cases op <;> first | rfl | exact absurd rfl h2
 cases b <;> simp [behindInMarks, e1, e2]
theorem pe_cmpR {op : CmpOp} {r : R2} (ho : OpR X (compareOp op) r) (ha : PE X a ta) (hb : PE X b tb) (hm : behindInMarks op b = false) : PE X (.Compare a [op] [b] pos) (tOp r ta tb) := by
 intro pins s σ H Q I h
 exact wpAny_Compare1 (binT ha hb I h fun v u s2 x y H2 I2 rx ry q => ho pins s2 σ H2 x y v u Q I2 rx ry q) hm
def tTest (t : TE) : TT := fun σ H Q => t σ H fun x H' => ∃ k, x = .bl k ∧ Q k H'
theorem pt_cmpR {op : CmpOp} {r : R2} (ho : OpR X (compareOp op) r) (ha : PE X a ta) (hb : PE X b tb) (hm : behindInMarks op b = false) : PT X (.Compare a [op] [b] pos) (tTest (tOp r ta tb)) := by
 intro pins s σ H Q I h
 refine wpAny_isTrue_Compare1 (thn (ha pins s σ H _ I h) fun v s1 ⟨x, H1, I1, r1, q1⟩ => thn (hb pins s1 σ H1 _ I1 q1) fun u s2 ⟨y, H2, I2, r2, q2⟩ =>
  thn (ho pins s2 σ H2 x y v u _ I2 r1 r2 q2) fun c s3 ⟨z, H3, I3, r3, k, e, q3⟩ => ?_) hm
 subst e
 cases r3
 exact wpAny_truthy_bool ⟨H3, I3, q3⟩
theorem line63 : (sizeLine : Nat) < 2 ^ 63 := by rw [sizeLine_eq]; decide
theorem op_add_str : OpR X (binaryOp .Add) (fun x y H Q => ∃ i j, x = .str i ∧ y = .str j ∧ i.length + j.length ≤ sizeLine ∧ Q (.str (i ++ j)) H) := by
 intro pins s σ H x y v u Q I rx ry h
 obtain ⟨i, j, rfl, rfl, hz, q⟩ := h
 obtain ⟨t, rfl⟩ := rx
 obtain ⟨t', rfl⟩ := ry
 exact add_str (fun t' tk => ⟨.str (i ++ j), H, I.tok _, ⟨_, rfl⟩, q⟩) hz
theorem vals1 {x : V} {us : List Value} (r : Vals [x] us) : ∃ u, us = [u] ∧ RelV x u := by
 cases r with
 | cons r1 r2 => cases r2; exact ⟨_, rfl, r1⟩
theorem call_int1 : CallR X (.type "int") (fun xs H Q => (∃ i, xs = [.int i] ∧ Q (.int i) H) ∨ ∃ k, xs = [.bl k] ∧ Q (.int (if k then 1 else 0)) H) := by
 intro pins s σ H xs us Q I r h
 rcases h with ⟨i, rfl, q⟩ | ⟨k, rfl, q⟩
 · obtain ⟨u, rfl, t, rfl⟩ := vals1 r
   exact call_int_int ⟨.int i, H, I, ⟨_, rfl⟩, q⟩
 · obtain ⟨u, rfl, r1⟩ := vals1 r
   cases r1
   exact call_int_bool ⟨.int (if k then 1 else 0), H, I.tok _, ⟨_, rfl⟩, q⟩
theorem call_str_int : CallR X (.type "str") (fun xs H Q => ∃ i, xs = [.int i] ∧ i.natAbs.log2 < 1920 ∧ Q (.str (toString i)) H) := by
 intro pins s σ H xs us Q I r h
 obtain ⟨i, rfl, hz, q⟩ := h
 obtain ⟨u, rfl, t, rfl⟩ := vals1 r
 exact PySem.P.str_of_int hz ⟨.str _, H, I.tok _, ⟨_, rfl⟩, q⟩
end
end L2
namespace L2
open PySem PySem.Spec PyProof.Rows
structure ObjM (h : Heap) (x dx C : Addr) (mA : Str → Option Value) : Prop where
 obj : h.get? x = some (PySem.W.instObj C dx)
 ns : h.Ns1 dx mA
 ne : dx ≠ x
theorem lookIn_ns {h : Heap} {dx : Addr} {mA : Str → Option Value} (n : h.Ns1 dx mA) : ∃ od, h.get? dx = some od ∧ ∀ name, PySem.W.lookIn name od = some (mA name) := by
 obtain ⟨o, es, ep, ho, hd, hk, _, hm⟩ := n
 refine ⟨o, ho, fun name => ?_⟩
 have e := hm name
 unfold nsFind findBy at e
 rw [← Array.find?_toList] at e
 unfold PySem.W.lookIn
 rw [hd]
 dsimp only
 split
 · rename_i y q
   rw [q] at e
   exact congrArg some e
 · rename_i q
   rw [q] at e
   have a : es.toList.any (·.refKey) = false := by
    rw [List.any_eq_false]
    intro y hy
    obtain ⟨z, t, hkey⟩ := hk y (Array.mem_toList_iff.mp hy)
    simp [DictEntry.refKey, hkey]
   have a' : ¬ es.toList.any (·.refKey) = true := by rw [a]; exact Bool.false_ne_true
   rw [if_neg a']
   exact congrArg some e
theorem ObjM.look {h : Heap} {x dx C : Addr} {mA : Str → Option Value} (I : ObjM h x dx C mA) : ∃ od, PySem.W.InstAt h x (PySem.W.instObj C dx) C (some od) ∧ ∀ name, PySem.W.lookIn name od = some (mA name) :=
 let ⟨od, ho, hl⟩ := lookIn_ns I.ns
 ⟨od, ⟨I.obj, rfl, rfl, ho⟩, hl⟩
section
variable {prog : Program} {w : World} {A : Around} {E : Value → Shared → Prop} {s : Shared} {K : PySem.W.Frag} {x dx C f : Addr} {mA : Str → Option Value} {name : Str} {v : Value}
theorem get_map {expr : Bool} {Q : Value → Shared → Prop} (X : K.In s.heap) (I : ObjM s.heap x dx C mA) (hg : PySem.W.plainGet K C name = true) (hh : PySem.W.hasDictIn K C = true)
 (ha : PySem.W.findIn K (.ref C) name = some none) (hv : mA name = some v) (hv' : PySem.W.handedIn v = true) (h : Q v { s with toks := s.toks + 1 }) :
 wpAny (model prog w) A (getAttr (.ref x) name expr) Q E s := by
 obtain ⟨od, J, hl⟩ := I.look
 exact PySem.W.get_value X J (PySem.W.plainGet_of hg).1 (PySem.W.findObj_own hh ha rfl (by rw [hl, hv])) hv' h
theorem set_map {ns : List Str} {Q : Unit → Shared → Prop} (X : K.In s.heap) (I : ObjM s.heap x dx C mA)
 (hs : PySem.W.findIn K (.ref C) "__setattr__" = some (some (.builtin "object.__setattr__"))) (hp : PySem.W.plainOver K C = true) (ht : PySem.W.takerIn K C name = some none) (hh : PySem.W.hasDictIn K C = true)
 (hw : PySem.Within mA ns) (hsz : ns.length ≤ sizeLine)
 (h : ∀ h', ObjM h' x dx C (fun y => if y = name then some v else mA y) → Heap.SameBut dx s.heap h' → Q () { s with heap := h', toks := s.toks + 2 }) :
 wpAny (model prog w) A (setAttr (.ref x) name v) Q E s := by
 obtain ⟨od, J, hl⟩ := I.look
 refine PySem.W.set_plain X J hs (PySem.W.osa_open (s := { s with toks := s.toks + 1 }) (r := none) X J hp ht fun b => ?_)
 obtain ⟨cd, hc, hd'⟩ := PySem.W.any_some hh
 have hx : s.heap.get? x = some ⟨.ref C, some dx, .plain, #[]⟩ := I.obj
 refine wpAny_bind (wpAny_pure (wpAny_bind (wpAny_bind (wpAny_loadPart hx (wpAny_bind (PySem.W.Looks.here (s := { s with toks := s.toks + 1 }) (PySem.W.looks_clsIn X hc) ?_))))))
 rw [hd']
 refine wpAny_pure (a := some dx) (wpAny_bind (wpAny_pure (wpAny_bind ?_)))
 refine wpAny_nsSet1 (s := { s with toks := s.toks + 1 }) I.ns fun h' hn2 hs2 => ?_
 obtain ⟨oD, esD, epD, hoD, hdD, hcD⟩ := hn2.count (PySem.Within.cons name v hw)
 refine wpAny_bind (wpAny_lookBehind hoD (by rw [hdD]; exact pastItsLine_dict (Nat.le_trans hcD (by rw [List.length_cons]; omega))) ?_)
 exact wpAny_pure (h _ ⟨(hs2.2 _ (Ne.symm I.ne)).trans I.obj, hn2, I.ne⟩ hs2)
theorem make_map {R : Result → Shared → Prop} {vs : List Value} {kw : List (Str × Value)} (X : K.In s.heap) (hm : PySem.W.makesIn K C = true)
 (hi : PySem.W.findIn K (.ref C) "__init__" = some (some (.ref f))) (hf : PySem.W.typeIn K (.ref f) = some (.type "function"))
 (h : codeAny (model prog w) (A.under (.builtin "type.__call__" ⟨.ref C :: vs, kw⟩)) (.call (.ref f) ⟨.ref (s.heap.objs.size + 1) :: vs, kw⟩) (PySem.W.InitBack (s.heap.objs.size + 1) R)
  { s with heap := (s.heap.push PySem.W.emptyDict).push (PySem.W.instObj C s.heap.objs.size) }) :
 codeAny (model prog w) A (.call (.ref C) ⟨vs, kw⟩) R s := by
 obtain ⟨hh, g, d, t, os⟩ := s
 exact PySem.W.make_core (PySem.W.makes_of X hm) (PySem.W.looks_findIn X hi) (fun self => PySem.W.bind_fn X self hf) (.inl rfl) h
end
def putF (f : Str) (v : V) : List (Str × V) → List (Str × V)
 | [] => [(f, v)]
 | (g, x) :: r => if g = f then (g, v) :: r else (g, x) :: putF f v r
theorem lookup_putF (f g : Str) (v : V) : ∀ fs : List (Str × V), (putF f v fs).lookup g = if g = f then some v else fs.lookup g
 | [] => by
   show List.lookup g [(f, v)] = _
   by_cases h : g = f
   · have hb : (g == f) = true := beq_iff_eq.mpr h
     simp only [List.lookup, hb, if_pos h]
   · have hb : (g == f) = false := beq_eq_false_iff_ne.mpr h
     simp only [List.lookup, hb, if_neg h]
 | (k, x) :: r => by
   have ih := lookup_putF f g v r
   rw [show putF f v ((k, x) :: r) = (if k = f then (k, v) :: r else (k, x) :: putF f v r) from rfl]
   by_cases hk : k = f
   · rw [if_pos hk]
     by_cases h : g = k
     · have hb : (g == k) = true := beq_iff_eq.mpr h
       simp only [List.lookup, hb, if_pos (h.trans hk)]
     · have hb : (g == k) = false := beq_eq_false_iff_ne.mpr h
       simp only [List.lookup, hb, if_neg (fun e : g = f => h (e.trans hk.symm))]
   · rw [if_neg hk]
     by_cases h : g = k
     · have hb : (g == k) = true := beq_iff_eq.mpr h
       simp only [List.lookup, hb, if_neg (fun e : g = f => hk (h.symm.trans e))]
     · have hb : (g == k) = false := beq_eq_false_iff_ne.mpr h
       simp only [List.lookup, hb]
       exact ih
theorem keys_putF (f : Str) (v : V) : ∀ fs : List (Str × V), f ∈ (putF f v fs).map (·.1) ∧ ∀ g, g ∈ fs.map (·.1) → g ∈ (putF f v fs).map (·.1)
 | [] => ⟨by simp [putF], fun g h => by simp at h⟩
 | (k, x) :: r => by
   obtain ⟨i1, i2⟩ := keys_putF f v r
   rw [show putF f v ((k, x) :: r) = (if k = f then (k, v) :: r else (k, x) :: putF f v r) from rfl]
   by_cases hk : k = f
   · rw [if_pos hk]
     subst hk
     exact ⟨by simp, fun g h => by simpa using h⟩
   · rw [if_neg hk]
     refine ⟨?_, fun g h => ?_⟩
     · rw [List.map_cons]
       exact List.mem_cons_of_mem _ i1
     · rw [List.map_cons] at h ⊢
       rcases List.mem_cons.mp h with e | e
       · exact List.mem_cons.mpr (.inl e)
       · exact List.mem_cons_of_mem _ (i2 g e)
theorem length_putF (f : Str) (v : V) : ∀ fs : List (Str × V), (putF f v fs).length ≤ fs.length + 1
 | [] => by simp [putF]
 | (k, x) :: r => by
   have ih := length_putF f v r
   rw [show putF f v ((k, x) :: r) = (if k = f then (k, v) :: r else (k, x) :: putF f v r) from rfl]
   by_cases hk : k = f
   · rw [if_pos hk, List.length_cons, List.length_cons]; omega
   · rw [if_neg hk, List.length_cons, List.length_cons]; omega
theorem RelO.some_of {v : V} {o : Option Value} (r : RelO (some v) o) : ∃ u, o = some u ∧ RelV v u := by
 cases o with
 | none => exact (show False from r).elim
 | some u => exact ⟨u, rfl, r⟩
theorem handed_of {v : V} {u : Value} (r : RelV v u) : PySem.W.handedIn u = true := by
 cases v with
 | non => cases (show u = Value.none from r); rfl
 | bl b => cases (show u = Value.bool b from r); rfl
 | int i => obtain ⟨t, e⟩ := (show ∃ t, u = Value.int i t from r); cases e; rfl
 | str x => obtain ⟨t, e⟩ := (show ∃ t, u = Value.str x t from r); cases e; rfl
 | byt b => obtain ⟨t, e⟩ := (show ∃ t, u = Value.bytes b t from r); cases e; rfl
 | flt b => obtain ⟨t, e⟩ := (show ∃ t, u = Value.float b t from r); cases e; rfl
 | ref a => cases (show u = Value.ref a from r); rfl
 | ty n => cases (show u = Value.type n from r); rfl
section
variable {P : Program} {w : World} {H H' : Hp} {h h' : Heap} {a C dx : Addr} {fs fs' : List (Str × V)}
theorem ins_get (hok : HOk P w H h) (e : H a = some (.ins C dx fs)) : ∃ mA, ObjM h a dx C mA ∧ (∀ f, RelO (fs.lookup f) (mA f)) ∧ PySem.Within mA (fs.map (·.1)) ∧ fs.length ≤ 1000 ∧ H dx = some (.own a) := by
 obtain ⟨d, z, ne, ob, mA, n, r, q⟩ := (show ObjOk P w H h a (.ins C dx fs) from hok a _ e)
 exact ⟨mA, ⟨ob, n, ne⟩, r, q, z, d⟩
end
structure Cls (K : PySem.W.Frag) (C : Addr) : Prop where
 pg : PySem.W.plainGet K C Str.empty = true
 hd : PySem.W.hasDictIn K C = true
 po : PySem.W.plainOver K C = true
 sa : PySem.W.findIn K (.ref C) "__setattr__" = some (some (.builtin "object.__setattr__"))
theorem Cls.get {K : PySem.W.Frag} {C : Addr} (c : Cls K C) (f : Str) : PySem.W.plainGet K C f = true := c.pg
def NoAttr (K : PySem.W.Frag) (C : Addr) (f : Str) : Prop := PySem.W.findIn K (.ref C) f = some none
theorem NoAttr.taker {K : PySem.W.Frag} {C : Addr} {f : Str} (n : NoAttr K C f) : PySem.W.takerIn K C f = some none := by
 unfold PySem.W.takerIn
 rw [show PySem.W.findIn K (.ref C) f = some none from n]
 rfl
section
variable {X : Cx} {pins : List (Addr × Obj)} {σ : St} {H : Hp} {s : Shared} {a C dx : Addr} {fs : List (Str × V)} {f : Str} {v : V} {A : Around} {E : Value → Shared → Prop}
theorem getattr_ok {b : Bool} {Q : Value → Shared → Prop} (I : Inv X pins σ H s) (e : H a = some (.ins C dx fs)) (c : Cls X.K C) (n : NoAttr X.K C f) (l : fs.lookup f = some v)
 (h : ∀ u s', Inv X pins σ H s' → RelV v u → Q u s') : wpAny (model X.prog X.w) A (getAttr (.ref a) f b) Q E s := by
 obtain ⟨mA, O, r, _, _, _⟩ := ins_get I.hok e
 obtain ⟨u, hu, ru⟩ := RelO.some_of (v := v) (o := mA f) (by rw [← l]; exact r f)
 exact get_map I.kIn O (c.get f) c.hd n hu (handed_of ru) (h u _ (I.tok _) ru)
theorem setattr_ok {y : V} {u : Value} {Q : Unit → Shared → Prop} (I : Inv X pins σ H s) (e : H a = some (.ins C dx fs)) (c : Cls X.K C) (n : NoAttr X.K C f) (hl : fs.length < 1000) (ry : RelV y u)
 (h : ∀ s', Inv X pins σ (upd H a (.ins C dx (putF f y fs))) s' → Q () s') : wpAny (model X.prog X.w) A (setAttr (.ref a) f u) Q E s := by
 obtain ⟨mA, O, r, wi, _, ho⟩ := ins_get I.hok e
 have hz : (fs.map (·.1)).length ≤ sizeLine := by rw [List.length_map, sizeLine_eq]; omega
 refine set_map I.kIn O c.sa c.po n.taker c.hd wi hz fun h' O' sb => h _ ?_
 have hd : ∃ o, h'.get? dx = some o := let ⟨o, _, _, e', _⟩ := O'.ns; ⟨o, e'⟩
 refine I.write (x := a) (e := dx) (by rw [e]; exact True.intro) (.inr ho) (fun b q hb z => (sb.2 b hb).trans z) hd ?_
 refine ⟨by rw [upd_ne O.ne]; exact ho, ?_, O.ne, O'.obj, _, O'.ns, fun g => ?_, fun g hg => ?_⟩
 · have := length_putF f y fs; omega
 · show RelO ((putF f y fs).lookup g) (if g = f then some u else mA g)
   rw [lookup_putF]
   by_cases q : g = f
   · rw [if_pos q, if_pos q]; exact ry
   · rw [if_neg q, if_neg q]; exact r g
 · by_cases q : g = f
   · rw [q]; exact (keys_putF f y fs).1
   · refine (keys_putF f y fs).2 g (wi g fun z => hg ?_)
     show (if g = f then some u else mA g) = none
     rw [if_neg q]; exact z
theorem Inv.made (I : Inv X pins σ H s) : Inv X pins σ (upd (upd H s.heap.objs.size (.own (s.heap.objs.size + 1))) (s.heap.objs.size + 1) (.ins C s.heap.objs.size []))
 { s with heap := (s.heap.push PySem.W.emptyDict).push (PySem.W.instObj C s.heap.objs.size) } := by
 have e1 : (s.heap.push PySem.W.emptyDict).get? s.heap.objs.size = some PySem.W.emptyDict := Heap.get?_push_size s.heap rfl
 have e2 : ((s.heap.push PySem.W.emptyDict).push (PySem.W.instObj C s.heap.objs.size)).get? (s.heap.objs.size + 1) = some (PySem.W.instObj C s.heap.objs.size) := by
  have := Heap.get?_push_size (s.heap.push PySem.W.emptyDict) (o := PySem.W.instObj C s.heap.objs.size) rfl
  rwa [Heap.size_push] at this
 have e3 : (s.heap.push PySem.W.emptyDict).Ns s.heap.objs.size (fun _ => none) := ⟨PySem.W.emptyDict, #[], _, e1, rfl, (fun e he => absurd he (by simp)), fun _ => rfl⟩
 have I1 := I.laid (a := s.heap.objs.size) (o := .own (s.heap.objs.size + 1)) (h' := s.heap.push PySem.W.emptyDict) (t' := s.toks) (fun b u q => Heap.get?_push_of_some _ q) (Nat.le_refl _) ⟨_, e1⟩
 refine I1.laid (a := s.heap.objs.size + 1) (o := .ins C s.heap.objs.size []) (t' := s.toks) (fun b u q => Heap.get?_push_of_some _ q) (Nat.le_of_eq (Heap.size_push _ _)) ?_
 have ne : s.heap.objs.size ≠ s.heap.objs.size + 1 := Nat.ne_of_lt (Nat.lt_succ_self _)
 refine ⟨by rw [upd_ne ne, upd_same], Nat.zero_le _, ne, e2, fun _ => none, (Heap.Ns1.of_empty e3).at fun o q => Heap.get?_push_of_some _ q, fun _ => True.intro, fun y hy => absurd rfl hy⟩
theorem attr_of {prog : Program} {w : World} {env : Env} {e : Expr} {f : Str} {pos : Pos} {s : Shared} {Q : Value → Shared → Prop} (hb : attributeBase e f env (eval e env) = eval e env)
 (h : wpAny (model prog w) A (eval e env) (fun o s₁ => wpAny (model prog w) A (getAttr o f true) Q E s₁) E s) : wpAny (model prog w) A (eval (.Attribute e f pos) env) Q E s :=
 Attribute_any_ h (by rw [arm_eval_Attribute, hb])
end
def tFld (K : PySem.W.Frag) (ta : TE) (f : Str) : TE := fun σ H Q => ta σ H fun x H1 => ∃ a C dx fs v, x = .ref a ∧ H1 a = some (.ins C dx fs) ∧ Cls K C ∧ NoAttr K C f ∧ fs.lookup f = some v ∧ Q v H1
def sFld (K : PySem.W.Frag) (ta tv : TE) (f : Str) : TS := fun D σ H => tv σ H fun y H1 => ta σ H1 fun x H2 => ∃ a C dx fs, x = .ref a ∧ H2 a = some (.ins C dx fs) ∧ Cls K C ∧ NoAttr K C f ∧ fs.length < 1000 ∧
 D.nx σ (upd H2 a (.ins C dx (putF f y fs)))
section
variable {X : Cx} {o e value : Expr} {f : Str} {pos pos' tpos : Pos} {ta tv : TE}
theorem pe_fld (he : PE X e ta) (hb : attributeBase e f X.env (eval e X.env) = eval e X.env) : PE X (.Attribute e f pos) (tFld X.K ta f) := by
 intro pins s σ H Q I h
 refine attr_of hb (thn (he pins s σ H _ I h) fun u s1 ⟨x, H1, I1, rx, a, C, dx, fs, v, ex, ea, c, n, l, q⟩ => ?_)
 subst ex
 obtain rfl : u = Value.ref a := rx
 exact getattr_ok I1 ea c n l fun u' s2 I2 ru => ⟨v, H1, I2, ru, q⟩
theorem ps_fld (ha : PE X o ta) (hv : PE X value tv) (hs : swapsWith value (some (.Attribute o f pos')) pos.line X.env = pure false) : PS X (.Assign [.Attribute o f pos'] value pos) (sFld X.K ta tv f) := by
 intro pins s σ H D I h
 refine plainObj_wpAny_Assign_Attribute (thn (hv pins s σ H _ I h) fun u s1 ⟨y, H1, I1, ry, q⟩ => thn (ha pins s1 σ H1 _ I1 q) fun ov s2 ⟨x, H2, I2, rx, a, C, dx, fs, ex, ea, c, n, l, q2⟩ => ?_) hs
 subst ex
 obtain rfl : ov = Value.ref a := rx
 exact setattr_ok I2 ea c n l ry fun s3 I3 => ⟨σ, _, I3, q2⟩
end
section
variable {X : Cx} {pins : List (Addr × Obj)} {σ : St} {H : Hp} {s : Shared} {A : Around} {E : Value → Shared → Prop} {Q : Value → Shared → Prop} {c : Value} {b : Bool}
inductive TyOf (K : PySem.W.Frag) (H : Hp) : V → Value → Prop where
 | non : TyOf K H .non (.type "NoneType")
 | bl (x : Bool) : TyOf K H (.bl x) (.type "bool")
 | int (i : Int) : TyOf K H (.int i) (.type "int")
 | str (x : Str) : TyOf K H (.str x) (.type "str")
 | flt (x : UInt64) : TyOf K H (.flt x) (.type "float")
 | lst {a : Addr} {xs : List V} (e : H a = some (.lst xs)) : TyOf K H (.ref a) (.type "list")
 | frz {a : Addr} {o : Obj} {xs : List V} (e : H a = some (.frz o (.lst xs))) : TyOf K H (.ref a) (.type "list")
 | tup {a : Addr} {xs : List V} (e : H a = some (.tup xs)) : TyOf K H (.ref a) (.type "tuple")
 | dK {a : Addr} {kvs : List (Key × V)} (e : H a = some (.dK kvs)) : TyOf K H (.ref a) (.type "dict")
 | dT {a : Addr} {kvs : List (List Key × V)} (e : H a = some (.dT kvs)) : TyOf K H (.ref a) (.type "dict")
 | ins {a C dx : Addr} {fs : List (Str × V)} (e : H a = some (.ins C dx fs)) (cl : Cls K C) (ha : PySem.W.findIn K (.ref C) "__class__" = some (some (.builtin "object.__class__")))
  (hn : PySem.W.specialIn K (.builtin "object.__class__") "__get__" = some (some (.builtin "getset_descriptor.__get__"))) (htk : PySem.W.takesIn K (.builtin "object.__class__") = some true)
  (hm : PySem.W.mroIn K C (.type "object") = some true) : TyOf K H (.ref a) (.ref C)
theorem isinst_ok {x : V} {u t : Value} (I : Inv X pins σ H s) (rx : RelV x u) (ty : TyOf X.K H x t) (e : PySem.W.kitOne X.K t c = some b) (h : ∀ tk, Q (.bool b) { s with toks := tk }) :
 wpAny (model X.prog X.w) A (call (.builtin "isinstance") [u, c]) Q E s := by
 cases ty with
 | non => cases (show u = Value.none from rx); exact PySem.W.kia_one PySem.W.kitx_none I.kIn True.intro e (fun z => nomatch z) h
 | bl y => cases (show u = Value.bool y from rx); exact PySem.W.kia_one PySem.W.kitx_bool I.kIn True.intro e (fun z => nomatch z) h
 | int i => obtain ⟨t, q⟩ := (show ∃ t, u = Value.int i t from rx); cases q; exact PySem.W.kia_one PySem.W.kitx_int I.kIn True.intro e (fun z => nomatch z) h
 | str y => obtain ⟨t, q⟩ := (show ∃ t, u = Value.str y t from rx); cases q; exact PySem.W.kia_one PySem.W.kitx_str I.kIn True.intro e (fun z => nomatch z) h
 | flt y => obtain ⟨t, q⟩ := (show ∃ t, u = Value.float y t from rx); cases q; exact PySem.W.kia_one PySem.W.kitx_float I.kIn True.intro e (fun z => nomatch z) h
 | @lst a xs ea =>
   cases (show u = Value.ref a from rx)
   obtain ⟨_, _, n, _, h1⟩ := (show ObjOk X.prog X.w H s.heap a (.lst xs) from I.hok a _ ea)
   exact PySem.W.kia_one PySem.W.kitx_list I.kIn ⟨_, h1, rfl⟩ e (fun z => nomatch z) h
 | @frz a ob xs ea =>
   cases (show u = Value.ref a from rx)
   obtain ⟨_, _, _, n, _, h1⟩ := (show ObjOk X.prog X.w H s.heap a (.frz ob (.lst xs)) from I.hok a _ ea)
   exact PySem.W.kia_one PySem.W.kitx_list I.kIn ⟨_, h1, rfl⟩ e (fun z => nomatch z) h
 | @tup a xs ea =>
   cases (show u = Value.ref a from rx)
   obtain ⟨_, _, _, p⟩ := (show ObjOk X.prog X.w H s.heap a (.tup xs) from I.hok a _ ea)
   obtain ⟨o, h1, h2, _⟩ := p
   exact PySem.W.kia_one PySem.W.kitx_tuple I.kIn ⟨o, h1, h2⟩ e (fun z => nomatch z) h
 | @dK a kvs ea =>
   cases (show u = Value.ref a from rx)
   obtain ⟨_, _, vs, _, p⟩ := (show ObjOk X.prog X.w H s.heap a (.dK kvs) from I.hok a _ ea)
   obtain ⟨o, es, ep, h1, h2, _⟩ := p
   exact PySem.W.kia_one PySem.W.kitx_dict I.kIn ⟨o, h1, h2.1⟩ e (fun z => nomatch z) h
 | @dT a kvs ea =>
   cases (show u = Value.ref a from rx)
   obtain ⟨_, _, xs, _, o, es, ep, h1, h2, _⟩ := (show ObjOk X.prog X.w H s.heap a (.dT kvs) from I.hok a _ ea)
   exact PySem.W.kia_one PySem.W.kitx_dict I.kIn ⟨o, h1, h2.1⟩ e (fun z => nomatch z) h
 | @ins a C dx fs ea cl ha hn htk hm =>
   cases (show u = Value.ref a from rx)
   obtain ⟨mA, O, _⟩ := ins_get I.hok ea
   obtain ⟨od, J, _⟩ := O.look
   exact PySem.W.kia_one (PySem.W.kitx_own (cl.get _) cl.hd ha hn htk hm) I.kIn J e (fun z => nomatch z) h
end
end L2
namespace L2
open PySem PySem.Spec PyProof.Rows
structure Room (k : Nat) (A : Around) : Prop where
 hd : A.handled = none
 dp : A.depth + 3 * k + 5 < recursionLimit
 un : A.units + 16 * k + 200 < cLine
theorem Room.mono {j k : Nat} {A : Around} (r : Room k A) (h : j ≤ k) : Room j A := ⟨r.hd, by have := r.dp; omega, by have := r.un; omega⟩
theorem Room.deeper {k : Nat} {A : Around} (r : Room (k + 1) A) (env : Env) : Room k (A.deeper env) :=
 ⟨r.hd, by have := r.dp; show A.depth + 1 + 3 * k + 5 < _; omega, by have := r.un; show A.units + 3 + 16 * k + 200 < _; omega⟩
theorem Room.in1 {k : Nat} {A : Around} (r : Room (k + 1) A) : Room k A.in1 :=
 ⟨r.hd, by have := r.dp; show A.depth + 3 * k + 5 < _; omega, by have := r.un; show A.units + 1 + 16 * k + 200 < _; omega⟩
theorem make_depth {A : Around} {C : Addr} {us : List Value} {kw : List (Str × Value)} : (A.under (.builtin "type.__call__" ⟨.ref C :: us, kw⟩)).depth = A.depth + 1 := by
 first | rfl | simp [Around.under, Code.weight, Code.isCreation, Code.isGuard, Code.isCaller, Code.frames, Code.isFrame, guardIds]
theorem make_units {A : Around} {C : Addr} {us : List Value} {kw : List (Str × Value)} : (A.under (.builtin "type.__call__" ⟨.ref C :: us, kw⟩)).units = A.units + 1 := by
 first | rfl | simp [Around.under, Code.cUnits, Code.frames, Code.isFrame]
theorem Room.make {k : Nat} {A : Around} (r : Room (k + 1) A) (C : Addr) (us : List Value) (kw : List (Str × Value)) : Room k (A.under (.builtin "type.__call__" ⟨.ref C :: us, kw⟩)) :=
 ⟨r.hd, by have := r.dp; rw [make_depth]; omega, by have := r.un; rw [make_units]; omega⟩
theorem Room.depth {k : Nat} {A : Around} (r : Room k A) : A.depth < recursionLimit := by have := r.dp; omega
theorem Room.units {k : Nat} {A : Around} (r : Room k A) : A.units + 64 < cLine := by have := r.un; omega
def tNil : TA := fun _ H Q => Q [] H
def tCons (ta : TE) (tr : TA) : TA := fun σ H Q => ta σ H fun x H1 => tr σ H1 fun xs H2 => Q (x :: xs) H2
section
variable {X : Cx} {e : Expr} {es : List Expr} {te : TE} {t : TA} {pos : Pos}
theorem pa_nil : PA X [] tNil := fun _ _ _ _ H Q I h => Calls.spliced_nil ⟨[], H, I, .nil, h⟩
theorem pa_cons (ha : PE X e te) (hr : PA X es t) (hs : starEach (e :: es) X.env = (false, eval e X.env) :: starEach es X.env := by rfl) : PA X (e :: es) (tCons te t) := by
 intro pos pins s σ H Q I h
 rw [hs]
 show wpAny _ _ (spliced ((false, eval e X.env) :: backTo pos (starEach es X.env))) _ _ s
 refine Calls.spliced_cons (thn (ha pins s σ H _ I h) fun u s1 ⟨x, H1, I1, r1, q1⟩ => ?_)
 exact thn (hr pos pins s1 σ H1 _ I1 q1) fun us s2 ⟨xs, H2, I2, r2, q2⟩ => ⟨x :: xs, H2, I2, .cons r1 r2, q2⟩
def tTup (t : TA) : TE := fun σ H Q => t σ H fun xs H1 => xs.length ≤ sizeLine ∧ ∀ p, H1 p = none → Q (.ref p) (upd H1 p (.tup xs))
def tLst (t : TA) : TE := fun σ H Q => t σ H fun xs H1 => xs.length ≤ sizeLine ∧ ∀ p, H1 p = none → Q (.ref p) (upd H1 p (.lst xs))
theorem pe_tup {x1} (h : PA X es t) : PE X (.Tuple es x1 pos) (tTup t) := by
 intro pins s σ H Q I hq
 refine wpAny_Tuple_spliced (thn (h pos pins s σ H _ I hq) fun us s1 ⟨xs, H1, I1, r, z, q⟩ => ⟨by rw [← r.length]; exact z, ?_⟩)
 have hf : H1 s1.heap.objs.size = none := I1.hok.fresh (Nat.le_refl _)
 refine ⟨.ref s1.heap.objs.size, upd H1 s1.heap.objs.size (.tup xs), I1.laid (t' := s1.toks) (fun b u e => Heap.get?_push_of_some _ e) (Nat.le_refl _) ?_, rfl, q _ hf⟩
 exact ⟨z, us, r, ⟨_, Heap.get?_push_size _ rfl, rfl, _, rfl⟩⟩
theorem pe_lst (h : PA X es t) : PE X (.List es pos) (tLst t) := by
 intro pins s σ H Q I hq
 refine wpAny_List_spliced (thn (h pos pins s σ H _ I hq) fun us s1 ⟨xs, H1, I1, r, z, q⟩ => ⟨by rw [← r.length]; exact z, ?_⟩)
 have hf : H1 s1.heap.objs.size = none := I1.hok.fresh (Nat.le_refl _)
 refine ⟨.ref s1.heap.objs.size, upd H1 s1.heap.objs.size (.lst xs), I1.laid (t' := s1.toks) (fun b u e => Heap.get?_push_of_some _ e) (Nat.le_refl _) ?_, rfl, q _ hf⟩
 exact ⟨z, us, 0, r, Heap.get?_push_size _ rfl⟩
end
abbrev Sp := List V → Hp → VK → XK → Prop
abbrev CXT := List Env → Hp → Shared → XK → Value → Shared → Prop
structure Env0 (P : Program) (w : World) (K : PySem.W.Frag) (mg : Str → Option Value) (base : Heap) (A : Around) (outer : List Env) (s : Shared) (H : Hp) : Prop where
 frames : A.frames = some outer
 mod : Mod K mg base
 bs : ∀ b o, base.get? b = some o → s.heap.get? b = some o ∧ H b = none
 bsz : base.objs.size ≤ s.heap.objs.size
 funs : s.heap.FunFrames base outer
 frf : ∀ b ∈ frs outer, H b = none
 hok : HOk P w H s.heap
 bare : AllBare s.gens
def CE (outer : List Env) (P : Program) (w : World) (H : Hp) (s : Shared) (Q : VK) (u : Value) (s' : Shared) : Prop :=
 ∃ v H', s'.os = s.os ∧ AllBare s'.gens ∧ Un (frs outer) [] H H' s.heap s'.heap ∧ HOk P w H' s'.heap ∧ RelV v u ∧ Q v H'
def CR (CX : CXT) (outer : List Env) (P : Program) (w : World) (H : Hp) (s : Shared) (Q : VK) (E : XK) (r : Result) (s' : Shared) : Prop :=
 match r with
 | .ok (.ret u) => CE outer P w H s Q u s'
 | .ok _ => False
 | .error e => CX outer H s E e s'
structure FnOk (P : Program) (w : World) (K : PySem.W.Frag) (mg : Str → Option Value) (base : Heap) (CX : CXT) (k : Nat) (f : Addr) (fd : FuncData) (ps : List Str) (sp : Sp) : Prop where
 len : ∀ vs H Q E, sp vs H Q E → vs.length = ps.length
 run : ∀ (A : Around) (outer : List Env) (s : Shared) (H : Hp) (args : Args) (us : List Value) (vs : List V) (Q : VK) (E : XK), Room k A → Env0 P w K mg base A outer s H → BindsTo s fd args (ps.zip us) → Vals vs us → sp vs H Q E →
  codeAny (model P w) A (.call (.ref f) args) (CR CX outer P w H s Q E) s
theorem FnOk.mono {P : Program} {w : World} {K : PySem.W.Frag} {mg : Str → Option Value} {base : Heap} {CX : CXT} {j k : Nat} {f : Addr} {fd : FuncData} {ps : List Str} {sp : Sp} (F : FnOk P w K mg base CX j f fd ps sp) (h : j ≤ k) :
 FnOk P w K mg base CX k f fd ps sp := ⟨F.len, fun A outer s H args us vs Q E hr => F.run A outer s H args us vs Q E (hr.mono h)⟩
theorem FnOk.imp {P : Program} {w : World} {K : PySem.W.Frag} {mg : Str → Option Value} {base : Heap} {CX : CXT} {k : Nat} {f : Addr} {fd : FuncData} {ps : List Str} {sp sp' : Sp} (F : FnOk P w K mg base CX k f fd ps sp)
 (h : ∀ vs H Q E, sp' vs H Q E → sp vs H Q E) : FnOk P w K mg base CX k f fd ps sp' :=
 ⟨fun vs H Q E q => F.len vs H Q E (h _ _ _ _ q), fun A outer s H args us vs Q E hr he hb hv hs => F.run A outer s H args us vs Q E hr he hb hv (h _ _ _ _ hs)⟩
theorem Env0.make {P : Program} {w : World} {K : PySem.W.Frag} {mg : Str → Option Value} {base : Heap} {A : Around} {outer : List Env} {s : Shared} {H : Hp} (e : Env0 P w K mg base A outer s H) (C : Addr) (us : List Value) (kw : List (Str × Value)) :
 Env0 P w K mg base (A.under (.builtin "type.__call__" ⟨.ref C :: us, kw⟩)) outer s H := ⟨by first | exact e.frames | (simpa [Around.under, Code.envs, Code.isFrame, pushEnvs] using e.frames), e.mod, e.bs, e.bsz, e.funs, e.frf, e.hok, e.bare⟩
theorem Env0.in1 {P : Program} {w : World} {K : PySem.W.Frag} {mg : Str → Option Value} {base : Heap} {A : Around} {outer : List Env} {s : Shared} {H : Hp} (e : Env0 P w K mg base A outer s H) :
 Env0 P w K mg base A.in1 outer s H := ⟨e.frames, e.mod, e.bs, e.bsz, e.funs, e.frf, e.hok, e.bare⟩
section
variable {X : Cx} {pins : List (Addr × Obj)} {σ : St} {H : Hp} {s s' : Shared}
theorem Inv.env0 (I : Inv X pins σ H s) : Env0 X.prog X.w X.K X.mg X.base X.A X.stack s H :=
 ⟨I.ok.frames, I.ok.mod, I.bs, Nat.le_trans I.ok.bsz I.sz, I.stack, I.stkFree, I.hok, I.bare⟩
theorem Inv.after {Q : VK} {u : Value} (I : Inv X pins σ H s) (h : CE X.stack X.prog X.w H s Q u s') : EP X pins σ Q u s' := by
 obtain ⟨v, H', os, bare, un, hok, r, q⟩ := h
 obtain ⟨hh, g, d, t, os'⟩ := s'
 obtain rfl : os' = s.os := os
 exact ⟨v, H', I.call (h' := hh) (g' := g) (d' := d) (t' := t) (ch := []) un hok bare (fun b z => absurd z (by simp)), r, q⟩
end
def tCall (sp : Sp) (dvs : List V) (E : XK) (t : TA) : TE := fun σ H Q => t σ H fun vs H1 => sp (vs ++ dvs) H1 Q E
def tMake (C : Addr) (sp : Sp) (dvs : List V) (E : XK) (t : TA) : TE := fun σ H Q => t σ H fun vs H1 => ∀ x dx, H1 x = none → H1 dx = none → dx ≠ x →
 sp (.ref x :: (vs ++ dvs)) (upd (upd H1 dx (.own x)) x (.ins C dx [])) (fun v H2 => v = .non ∧ Q (.ref x) H2) E
def Binds (K : PySem.W.Frag) (fd : FuncData) (ps : List Str) (ds : List Value) : Prop :=
 ∀ (s : Shared) (us : List Value), K.In s.heap → (us ++ ds).length = ps.length → BindsTo s fd ⟨us, []⟩ (ps.zip (us ++ ds))
theorem Binds.all {K : PySem.W.Frag} {fd : FuncData} {ps : List Str} (h : ∀ us : List Value, us.length = ps.length → bindArgs fd ⟨us, []⟩ = pure (ps.zip us)) : Binds K fd ps [] := fun s us _ hl => by
 rw [List.append_nil] at hl ⊢
 exact .of_eq (h us hl)
def Passes (CX : CXT) (X : Cx) (E : XK) : Prop := ∀ (pins : List (Addr × Obj)) (σ : St) (H : Hp) (s : Shared) (e : Value) (s' : Shared), Inv X pins σ H s → CX X.stack H s E e s' → X.xe e s'
section
variable {X : Cx} {CX : CXT} {k : Nat} {f C : Addr} {fd : FuncData} {ps : List Str} {sp : Sp} {dvs : List V} {ds : List Value} {E : XK} {x m : Str} {p pos apos : Pos} {e o : Expr} {es : List Expr} {ta : TE} {t : TA}
theorem run_fn {pins : List (Addr × Obj)} {σ : St} {H : Hp} {s : Shared} {Q : VK} {us : List Value} {vs : List V} (F : FnOk X.prog X.w X.K X.mg X.base CX k f fd ps sp) (hr : Room k X.A) (hb : Binds X.K fd ps ds) (hd : Vals dvs ds) (hx : Passes CX X E)
 (I : Inv X pins σ H s) (r : Vals vs us) (h : sp (vs ++ dvs) H Q E) : wpAny (model X.prog X.w) X.A (call (.ref f) us) (EP X pins σ Q) X.xe s := by
 have r2 : Vals (vs ++ dvs) (us ++ ds) := r.append hd
 have hl : (us ++ ds).length = ps.length := by rw [← r2.length]; exact F.len _ _ _ _ h
 refine wpAny_call (codeAny_mono (F.run X.A X.stack s H ⟨us, []⟩ (us ++ ds) (vs ++ dvs) Q E hr I.env0 (hb s us I.kIn hl) r2 h) fun r s' hq => ?_)
 cases r with
 | error e => exact hx pins σ H s e s' I hq
 | ok fl =>
   cases fl with
   | ret u => exact I.after hq
   | next => exact False.elim hq
   | brk => exact False.elim hq
   | cont => exact False.elim hq
theorem pe_call (F : FnOk X.prog X.w X.K X.mg X.base CX k f fd ps sp) (hr : Room k X.A) (hg : Gl X x) (hm : X.mg x = some (.ref f)) (hk : PySem.W.keepIn X.K (.ref f) = true) (hb : Binds X.K fd ps ds) (hd : Vals dvs ds) (hx : Passes CX X E)
 (ha : PA X (e :: es) t) (hdb : (x == ("__debug__" : Str)) = false := by decide) (he : starEach (e :: es) X.env = (false, eval e X.env) :: starEach es X.env := by rfl) (hpl : (backTo pos (starEach es X.env)).any (·.1) = false := by rfl) :
 PE X (.Call (.Name x p) (e :: es) [] pos) (tCall sp dvs E t) := by
 intro pins s σ H Q I h
 refine wpAny_Call_Name_kw (ld_glob I hg hm ?_ hdb)
 refine PySem.W.callWith_K (h₀ := X.base) I.ok.mod.kin hk (thn (ha pos pins s σ H _ I h) fun us s1 ⟨vs, H1, I1, r, q⟩ => ⟨I1.kIn, ?_⟩) he hpl
 exact run_fn F hr hb hd hx I1 r q
structure Mk (K : PySem.W.Frag) (C f : Addr) : Prop where
 makes : PySem.W.makesIn K C = true
 init : PySem.W.findIn K (.ref C) "__init__" = some (some (.ref f))
 fn : PySem.W.isFn K (.ref f) = true
 kp : PySem.W.keepIn K (.ref C) = true
theorem run_make {pins : List (Addr × Obj)} {σ : St} {H : Hp} {s : Shared} {Q : VK} {us : List Value} {vs : List V} (M : Mk X.K C f) (F : FnOk X.prog X.w X.K X.mg X.base CX k f fd ps sp) (hr : Room (k + 1) X.A) (hb : Binds X.K fd ps ds) (hd : Vals dvs ds)
 (hx : Passes CX X E) (I : Inv X pins σ H s) (r : Vals vs us)
 (h : ∀ x dx, H x = none → H dx = none → dx ≠ x → sp (.ref x :: (vs ++ dvs)) (upd (upd H dx (.own x)) x (.ins C dx [])) (fun v H2 => v = .non ∧ Q (.ref x) H2) E) :
 wpAny (model X.prog X.w) X.A (call (.ref C) us) (EP X pins σ Q) X.xe s := by
 have hq := h (s.heap.objs.size + 1) s.heap.objs.size (I.hok.fresh (Nat.le_succ _)) (I.hok.fresh (Nat.le_refl _)) (Nat.ne_of_lt (Nat.lt_succ_self _))
 have I2 := Inv.made (C := C) I
 have r2 : Vals (V.ref (s.heap.objs.size + 1) :: (vs ++ dvs)) (Value.ref (s.heap.objs.size + 1) :: (us ++ ds)) := .cons rfl (r.append hd)
 have hl : (Value.ref (s.heap.objs.size + 1) :: us ++ ds).length = ps.length := by
  have e := r2.length
  rw [F.len _ _ _ _ hq] at e
  exact e.symm
 refine wpAny_call (make_map (f := f) I.kIn M.makes M.init (beq_iff_eq.mp M.fn) (codeAny_mono (F.run _ X.stack _ _ ⟨Value.ref (s.heap.objs.size + 1) :: us, []⟩ (Value.ref (s.heap.objs.size + 1) :: (us ++ ds)) _ _ E (hr.make C us [])
  (I2.env0.make C us []) (hb _ (Value.ref (s.heap.objs.size + 1) :: us) I2.kIn hl) r2 hq) fun r s' hq' => ?_))
 cases r with
 | error e => exact hx pins σ _ _ e s' I2 hq'
 | ok fl =>
   cases fl with
   | ret u =>
     obtain ⟨v, H', I3, rv, ev, q3⟩ := I2.after hq'
     subst ev
     exact ⟨rv, ⟨V.ref (s.heap.objs.size + 1), H', I3, rfl, q3⟩⟩
   | next => exact False.elim hq'
   | brk => exact False.elim hq'
   | cont => exact False.elim hq'
theorem pe_make (M : Mk X.K C f) (F : FnOk X.prog X.w X.K X.mg X.base CX k f fd ps sp) (hr : Room (k + 1) X.A) (hg : Gl X x) (hm : X.mg x = some (.ref C)) (hb : Binds X.K fd ps ds) (hd : Vals dvs ds) (hx : Passes CX X E)
 (ha : PA X (e :: es) t) (hdb : (x == ("__debug__" : Str)) = false := by decide) (he : starEach (e :: es) X.env = (false, eval e X.env) :: starEach es X.env := by rfl) (hpl : (backTo pos (starEach es X.env)).any (·.1) = false := by rfl) :
 PE X (.Call (.Name x p) (e :: es) [] pos) (tMake C sp dvs E t) := by
 intro pins s σ H Q I h
 refine wpAny_Call_Name_kw (ld_glob I hg hm ?_ hdb)
 refine PySem.W.callWith_K (h₀ := X.base) I.ok.mod.kin M.kp (thn (ha pos pins s σ H _ I h) fun us s1 ⟨vs, H1, I1, r, q⟩ => ⟨I1.kIn, ?_⟩) he hpl
 exact run_make M F hr hb hd hx I1 r q
end
section
variable {X : Cx} {CX : CXT} {k : Nat} {f C : Addr} {fd : FuncData} {ps ks : List Str} {sp : Sp} {E : XK} {x m : Str} {p pos apos kpos : Pos} {e o : Expr} {es : List Expr} {kws : List Keyword} {te ta : TE} {t tk : TA} {nm : Option Str}
variable {g : List Value → List Value → List Value} {gV : List V → List V → List V}
end
structure FnScope (N P : List Str) (sc : Scope) : Prop where
 kind : sc.kind = .function
 co : sc.isCoroutine = false
 gen : sc.isGenerator = false
 nd : N.Nodup
 pre : N.take P.length = P
 par : ∀ x ∈ P, sc.names.lookup x = some .local ∨ sc.names.lookup x = some .cell
 nofree : ∀ y ∈ sc.names, y.2 ≠ .free
theorem bindL_out {kindOf : Str → Option NameKind} {x : Str} : ∀ {binds : List (Str × Value)} {m : Str → Option Value}, (∀ v, (x, v) ∉ binds) → bindL kindOf binds m x = m x
 | [], _, _ => rfl
 | (n, v) :: r, m, h => by
   unfold bindL
   rw [bindL_out fun w hw => h w (List.mem_cons_of_mem _ hw)]
   split
   · have : x ≠ n := by rintro rfl; exact h v List.mem_cons_self
     simp [this]
   · rfl
theorem bindC_out {kindOf : Str → Option NameKind} {x : Str} : ∀ {binds : List (Str × Value)} {m : Str → Option Value}, (∀ v, (x, v) ∉ binds) → bindC kindOf binds m x = m x
 | [], _, _ => rfl
 | (n, v) :: r, m, h => by
   unfold bindC
   rw [bindC_out fun w hw => h w (List.mem_cons_of_mem _ hw)]
   split
   · rfl
   · have : x ≠ n := by rintro rfl; exact h v List.mem_cons_self
     simp [this]
theorem bindL_get {kindOf : Str → Option NameKind} {x : Str} {v : Value} : ∀ {P : List Str} {vs : List Value} {i : Nat} {m : Str → Option Value}, P.Nodup → P[i]? = some x → vs[i]? = some v → kindOf x = some .local →
 bindL kindOf (P.zip vs) m x = some v
 | [], _, _, _, _, h, _, _ => by simp at h
 | _ :: _, [], _, _, _, _, h, _ => by simp at h
 | p :: P, w :: vs, 0, m, nd, h1, h2, hk => by
   simp at h1 h2; subst h1; subst h2
   show bindL kindOf ((p, w) :: P.zip vs) m p = _
   unfold bindL
   rw [bindL_out fun v hv => (List.nodup_cons.mp nd).1 (List.of_mem_zip hv).1, if_pos hk]
   simp
 | p :: P, w :: vs, i + 1, m, nd, h1, h2, hk => by
   show bindL kindOf ((p, w) :: P.zip vs) m x = _
   unfold bindL
   exact bindL_get (i := i) (List.nodup_cons.mp nd).2 (by simpa using h1) (by simpa using h2) hk
theorem bindC_get {kindOf : Str → Option NameKind} {x : Str} {v : Value} : ∀ {P : List Str} {vs : List Value} {i : Nat} {m : Str → Option Value}, P.Nodup → P[i]? = some x → vs[i]? = some v → kindOf x ≠ some .local →
 bindC kindOf (P.zip vs) m x = some v
 | [], _, _, _, _, h, _, _ => by simp at h
 | _ :: _, [], _, _, _, _, h, _ => by simp at h
 | p :: P, w :: vs, 0, m, nd, h1, h2, hk => by
   simp at h1 h2; subst h1; subst h2
   show bindC kindOf ((p, w) :: P.zip vs) m p = _
   unfold bindC
   rw [bindC_out fun v hv => (List.nodup_cons.mp nd).1 (List.of_mem_zip hv).1, if_neg hk]
   simp
 | p :: P, w :: vs, i + 1, m, nd, h1, h2, hk => by
   show bindC kindOf ((p, w) :: P.zip vs) m x = _
   unfold bindC
   exact bindC_get (i := i) (List.nodup_cons.mp nd).2 (by simpa using h1) (by simpa using h2) hk
def start (N : List Str) (vs : List V) : St := vs.map some ++ List.replicate (N.length - vs.length) none
def cxOf (CX : CXT) (P : Program) (w : World) (K : PySem.W.Frag) (mg : Str → Option Value) (base : Heap) (N : List Str) (qual : Str) (scope : Scope) (f : Addr) (cd : Value) (A : Around) (outer : List Env) (s : Shared) (H : Hp) (E : XK) : Cx where
 prog := P
 w := w
 K := K
 mg := mg
 base := base
 A := A.deeper (envOfC qual scope s.heap.objs.size f cd)
 N := N
 s₀ := s
 H₀ := H
 env := envOfC qual scope s.heap.objs.size f cd
 outer := outer
 stack := envOfC qual scope s.heap.objs.size f cd :: outer
 ex := []
 calm := true
 fn := fun _ => true
 pn := []
 xe := fun e s' => wpAny (model P w) (A.deeper (envOfC qual scope s.heap.objs.size f cd)) (leaving (envOfC qual scope s.heap.objs.size f cd) e) (fun _ s'' => CX outer H s E e s'') (fun e' s'' => CX outer H s E e' s'') s'
theorem cell_has {sc : Scope} {n : Nat} {x : Str} (h : sc.names.lookup x = some .cell) : ∃ c, (cellsFrom n sc.names []).lookup x = some c := by
 have q := PySem.W.cellsFrom_some sc.names n [] (.inl h)
 exact Option.isSome_iff_exists.mp q
theorem inv_start {CX : CXT} {P : Program} {w : World} {K : PySem.W.Frag} {mg : Str → Option Value} {base : Heap} {N ps : List Str} {qual : Str} {scope : Scope} {f : Addr} {cd : Value} {A : Around} {outer : List Env} {s s1 : Shared} {H : Hp} {E : XK} {us : List Value} {vs : List V}
 (S : FnScope N ps scope) (hd : A.handled = none) (e0 : Env0 P w K mg base A outer s H) (hl : vs.length = ps.length) (r : Vals vs us)
 (x : InCallC s s.heap.objs.size (bindL (envOfC qual scope s.heap.objs.size f cd).kindOf (ps.zip us) fun _ => none) (cellsFrom (s.heap.objs.size + 1) scope.names []) (bindC (envOfC qual scope s.heap.objs.size f cd).kindOf (ps.zip us) fun _ => none) s1) :
 Inv (cxOf CX P w K mg base N qual scope f cd A outer s H E) [] (start N vs) H s1 := by
 have hpl : ps.length ≤ N.length := by have := congrArg List.length S.pre; rw [List.length_take] at this; omega
 obtain ⟨h1, tk, rfl, hk⟩ := x.done
 have noA : ∀ b : Addr, b ∉ (cxOf CX P w K mg base N qual scope f cd A outer s H E).ex := fun b z => absurd (show b ∈ ([] : List Addr) from z) (by simp)
 refine ⟨⟨e0.mod, S.kind, rfl, rfl, Nat.le_refl _, fun y z c h1 h2 => ?_, fun y hy => ?_, fun y c _ h => ?_, fun _ => hd, Around.frames_deeper e0.frames, .inr ⟨rfl, rfl⟩, fun b z => absurd z (noA b), e0.bs, e0.bsz, fun b _ _ => noA b, fun b z => absurd z (noA b), e0.funs, e0.frf⟩,
  rfl, e0.bare, Un.kept hk, ⟨_, x.toInCall.ns, fun i y v h1 h2 h3 => ?_⟩, fun y c h => ⟨_, x.cell y c h⟩, e0.hok.fresh (Nat.le_refl _), fun y c h => ?_, fun p hp => absurd (show p ∈ ([] : List (Addr × Obj)) from hp) (by simp), e0.hok.kept hk, ?_⟩
 · exact name_of_addr x.apart (PySem.mem_of_lookup h1) (PySem.mem_of_lookup h2)
 · have hy : scope.names.lookup y = some .cell ∨ scope.names.lookup y = some .free := hy
   rcases hy with hy | hy
   · exact cell_has hy
   · exact absurd rfl (S.nofree _ (PySem.mem_of_lookup hy))
 · exact Nat.le_of_lt (x.above y c (PySem.mem_of_lookup h))
 · have hi : i < vs.length := by
    unfold start at h2
    by_cases hi : i < vs.length
    · exact hi
    · rw [List.getElem?_append_right (by simpa using hi)] at h2
      rw [List.getElem?_replicate] at h2
      split at h2 <;> cases h2
   have ha : vs[i]? = some v := by
    unfold start at h2
    rw [List.getElem?_append_left (by simpa using hi), List.getElem?_map] at h2
    cases e : vs[i]? with
    | none => rw [e] at h2; cases h2
    | some a => rw [e] at h2; cases h2; rfl
   obtain ⟨u, hu, rv⟩ := r.get ha
   have hp : ps[i]? = some y := by
    rw [← S.pre, List.getElem?_take_of_lt (by omega)]; exact h1
   have ndP : ps.Nodup := by rw [← S.pre]; exact S.nd.sublist (List.take_sublist _ _)
   refine ⟨u, rv, ?_⟩
   rcases S.par y (List.mem_of_getElem? hp) with k | k
   · exact .inl ⟨k, bindL_get ndP hp hu k⟩
   · obtain ⟨c, e⟩ := cell_has (n := s.heap.objs.size + 1) k
     refine .inr ⟨.inl k, c, e, ?_⟩
     have q := x.cell y c e
     rw [bindC_get ndP hp hu (by show scope.names.lookup y ≠ _; rw [k]; decide)] at q
     exact q
 · exact e0.hok.fresh (Nat.le_of_lt (x.above y c (PySem.mem_of_lookup h)))
 · unfold start
   show _ = N.length
   rw [List.length_append, List.length_map, List.length_replicate]
   omega
theorem fn_of {CX : CXT} {P : Program} {w : World} {K : PySem.W.Frag} {mg : Str → Option Value} {base : Heap} {k : Nat} {f : Addr} {name qual : Str} {params : Arguments} {body : List Stmt} {scope : Scope} {dV kV doc pm cdv ct oc : Value} {an od : Option Addr}
 {osl : Array (Option Value)} {N ps : List Str} {sp : Sp} (lk : K.lookup f = some ⟨oc, od, .func (PySem.W.fnOf name qual params body scope dV kV doc pm an cdv ct), osl⟩) (hcd : PySem.W.codeIn K cdv qual = true) (S : FnScope N ps scope)
 (len : ∀ vs H Q E, sp vs H Q E → vs.length = ps.length)
 (hbody : ∀ (A : Around) (outer : List Env) (s : Shared) (H : Hp) (vs : List V) (Q : VK) (E : XK), Room k (A.deeper (envOfC qual scope s.heap.objs.size f cdv)) → sp vs H Q E →
  ∃ t, PSs (cxOf CX P w K mg base N qual scope f cdv A outer s H E) body t ∧ t { nx := fun _ H' => Q .non H', rt := Q } (start N vs) H) :
 FnOk P w K mg base CX (k + 1) f (PySem.W.fnOf name qual params body scope dV kV doc pm an cdv ct) ps sp := by
 refine ⟨len, fun A outer s H args us vs Q E hr e0 hb r hsp => ?_⟩
 have hl := len _ _ _ _ hsp
 have KX : K.In s.heap := e0.mod.kin.keeps fun b o e => (e0.bs b o e).1
 have lim : s.heap.NoLimit := e0.mod.nolimit.keeps fun b o e => (e0.bs b o e).1
 have hkind : ∀ y ∈ ps.zip us, scope.names.lookup y.1 = some .local ∨ (scope.names.lookup y.1 = some .cell ∧ ((cellsFrom (s.heap.objs.size + 1) scope.names []).lookup y.1).isSome = true) := fun ⟨n, v⟩ hy => by
  rcases S.par n (List.of_mem_zip hy).1 with q | q
  · exact .inl q
  · exact .inr ⟨q, PySem.W.cellsFrom_some _ _ _ (.inl q)⟩
 refine codeAny_call_function hr.depth (KX _ _ lk) rfl S.co S.gen rfl (PySem.W.codeRec_of KX hcd) (hb _ _ _ _ ?_)
 refine wpAny_newFunctionEnv_cells S.kind hkind fun env he s1 x => ?_
 subst he
 refine ⟨lim.keeps x.toInCall.keep, codeAny_func ?_⟩
 obtain ⟨t, ht, hq⟩ := hbody A outer s H vs Q E (hr.deeper _) hsp
 have I : Inv (cxOf CX P w K mg base N qual scope f cdv A outer s H E) [] (start N vs) H s1 := inv_start S hr.hd e0 hl r x
 refine wpAny_mono (ht [] s1 (start N vs) H _ I hq) (fun fl s' hs => ?_) fun e s' hs => hs
 have fin : ∀ {σ' : St} {H' : Hp} {v : V} {u : Value}, Inv (cxOf CX P w K mg base N qual scope f cdv A outer s H E) [] σ' H' s' → RelV v u → Q v H' → CE outer P w H s Q u s' :=
  fun {σ' H' v u} J rv q => ⟨v, H', J.os, J.bare, J.base, J.hok, rv, q⟩
 cases fl with
 | ret u =>
   obtain ⟨v, σ', H', J, rv, q⟩ := hs
   exact fin J rv q
 | next =>
   obtain ⟨σ', H', J, q⟩ := hs
   exact fin (v := V.non) (u := Value.none) J rfl q
 | brk =>
   obtain ⟨_, _, _, q⟩ := hs
   exact False.elim q
 | cont =>
   obtain ⟨_, _, _, q⟩ := hs
   exact False.elim q
end L2
namespace L2
open PySem PySem.Spec PyProof.Rows
section
variable {X : Cx} {x : Str} {p pos : Pos} {e : Expr} {es : List Expr} {t : TA} {id T : String} {r : List V → Hp → VK → Prop}
def tCB (r : List V → Hp → VK → Prop) (t : TA) : TE := fun σ H Q => t σ H fun vs H1 => r vs H1 Q
theorem pe_callB (hc : CallR X (.builtin id) r) (hg : Gl X x) (hm : X.mg x = none) (hv : bootBuiltins x = some (.builtin id)) (ha : PA X (e :: es) t) (hn : x ≠ "__name__" := by decide) (hdb : (x == ("__debug__" : Str)) = false := by decide)
 (he : starEach (e :: es) X.env = (false, eval e X.env) :: starEach es X.env := by rfl) (hpl : (backTo pos (starEach es X.env)).any (·.1) = false := by rfl) : PE X (.Call (.Name x p) (e :: es) [] pos) (tCB r t) := by
 intro pins s σ H Q I h
 refine wpAny_Call_Name_kw (ld_blt I hg hm hv ?_ hn hdb)
 exact PyProof.Rows.callWith_builtin1 (thn (ha pos pins s σ H _ I h) fun us s1 ⟨vs, H1, I1, r1, q1⟩ => hc pins s1 σ H1 vs us Q I1 r1 q1) he hpl
theorem pe_callTy (hc : CallR X (.type T) r) (hg : Gl X x) (hm : X.mg x = none) (hv : bootBuiltins x = some (.type T)) (ha : PA X (e :: es) t) (hn : x ≠ "__name__" := by decide) (hdb : (x == ("__debug__" : Str)) = false := by decide)
 (he : starEach (e :: es) X.env = (false, eval e X.env) :: starEach es X.env := by rfl) (hpl : (backTo pos (starEach es X.env)).any (·.1) = false := by rfl) : PE X (.Call (.Name x p) (e :: es) [] pos) (tCB r t) := by
 intro pins s σ H Q I h
 refine wpAny_Call_Name_kw (ld_blt I hg hm hv ?_ hn hdb)
 exact PyProof.Rows.callWith_type1 (thn (ha pos pins s σ H _ I h) fun us s1 ⟨vs, H1, I1, r1, q1⟩ => hc pins s1 σ H1 vs us Q I1 r1 q1) he hpl
end
end L2
namespace HT
open PySem PyProof.Rows
section
open PySem.SeqAt
open PySem.AutoSeq1 (wpAny_loadPart')
open PySem.MeetsSeq PySem.MeetsSeq2 PySem.MeetsSeq3
end
section
variable {prog : Program} {w : World} {A : Around} {E : Value → Shared → Prop} {s : Shared}
theorem cat_tup {t b : Addr} {vs ws : List Value} {Q : Value → Shared → Prop} (ht : IsTup s.heap t vs.toArray) (hb : IsTup s.heap b ws.toArray) (hv : vs ≠ [])
 (h1 : ws = [] → Q (.ref t) s) (h2 : ws ≠ [] → Q (.ref s.heap.objs.size) { s with heap := s.heap.push { cls := .type "tuple", data := .seq (vs ++ ws).toArray } })
 (hsz : vs.length + ws.length ≤ sizeLine) : wpAny (model prog w) A (binaryOp .Add (.ref t) (.ref b)) Q E s := by
 obtain ⟨⟨cls, dd, data, sl⟩, ho, hc, n, hd⟩ := id ht
 obtain ⟨⟨cls2, dd2, data2, sl2⟩, ho2, hc2, n2, hd2⟩ := id hb
 simp only at hc hd hc2 hd2
 subst hc hd hc2 hd2
 have e : vs.toArray ++ ws.toArray = (vs ++ ws).toArray := by simp
 by_cases hw : ws = []
 · exact concat_meets ⟨_, ho, rfl⟩ ⟨_, ho2, rfl⟩ noFill_tuple_add seq_tuple_add PySem.F.slot_tuple_add PySem.F.entry_tuple_add (PySem.F.args_tuple_add_2 _ _)
    (tuple_addW1 t b vs.toArray ws.toArray n n2 dd dd2 sl sl2 (by simpa using hv) (by simp [hw])) ⟨ho, ho2, h1 hw⟩
 · refine concat_meets ⟨_, ho, rfl⟩ ⟨_, ho2, rfl⟩ noFill_tuple_add seq_tuple_add PySem.F.slot_tuple_add PySem.F.entry_tuple_add (PySem.F.args_tuple_add_2 _ _)
    (tuple_addW2 t b vs.toArray ws.toArray n n2 dd dd2 sl sl2 (by simpa using hv) (by simpa using hw) (by rw [List.size_toArray, List.size_toArray]; exact hsz)) ⟨ho, ho2, ?_⟩
   rw [e]
   exact h2 hw
def sIx (n d : Nat) : Option Int → Nat
 | none => d
 | some v => if v < 0 then (v + (n : Int)).toNat else min v.toNat n
theorem sIx_none (n d : Nat) : sIx n d none = d := rfl
theorem sIx_nat (n d k : Nat) : sIx n d (some (k : Int)) = min k n := by
 show (if (k : Int) < 0 then ((k : Int) + (n : Int)).toNat else min (k : Int).toNat n) = min k n
 rw [if_neg (by omega), Int.toNat_natCast]
theorem sIx_le (n d : Nat) (hd : d ≤ n) (o : Option Int) : sIx n d o ≤ n := by
 cases o with
 | none => exact hd
 | some v =>
   show (if v < 0 then (v + (n : Int)).toNat else min v.toNat n) ≤ n
   by_cases hv : v < 0
   · rw [if_pos hv]; omega
   · rw [if_neg hv]; exact Nat.min_le_right _ _
theorem clip_eq (v : Int) (n d : Nat) : (if v < 0 then max (v + (n : Int)) 0 else min v (n : Int)) = ((sIx n d (some v) : Nat) : Int) := by
 show (if v < 0 then max (v + (n : Int)) 0 else min v (n : Int)) = (((if v < 0 then (v + (n : Int)).toNat else min v.toNat n) : Nat) : Int)
 by_cases hv : v < 0
 · simp only [if_pos hv]; omega
 · simp only [if_neg hv]; omega
theorem adjust_gen (lo hi : Option Int) (n : Nat) : Builtin.Slice.sliceAdjust lo hi 1 (n : Int) = (((sIx n 0 lo : Nat) : Int), ((sIx n n hi : Nat) : Int)) := by
 have h1 : ¬ ((1 : Int) < 0) := by omega
 unfold Builtin.Slice.sliceAdjust
 simp only [h1, if_false]
 refine Prod.ext ?_ ?_
 · cases lo with
   | none => rfl
   | some v => exact clip_eq v n 0
 · cases hi with
   | none => rfl
   | some v => exact clip_eq v n n
theorem places_gen (i j : Nat) : Builtin.Slice.slicePlaces (i : Int) (j : Int) 1 = j - i := by
 unfold Builtin.Slice.slicePlaces
 have h1 : (1 : Int) > 0 := by omega
 simp only [h1, if_true, Int.ediv_one]
 split <;> omega
theorem slicePart_ {v : Value} {o : Option Int} {Q : Option Int → Shared → Prop} (p : IsPart v o) (h : Q o s) : wpAny (model prog w) A (Builtin.Slice.slicePartIndex v) Q E s := by
 cases p with
 | none => exact slicePart_none h
 | int i t => exact slicePart_int h
theorem sliceApplied_gen {sl : Addr} {vl vu : Value} {lo hi : Option Int} {n : Nat} {Q : Int × Int × Nat → Shared → Prop} (hs : s.heap.IsSliceOf sl vl vu .none) (pl : IsPart vl lo) (pu : IsPart vu hi)
 (h : Q (((sIx n 0 lo : Nat) : Int), 1, sIx n n hi - sIx n 0 lo) s) : wpAny (model prog w) A (Builtin.Slice.sliceApplied (.ref sl) (pure (n : Int))) Q E s := by
 obtain ⟨os, hos, hcs, hds⟩ := id hs
 unfold Builtin.Slice.sliceApplied Builtin.Slice.sliceFields
 refine wpAny_bind (wpAny_bind (wpAny_field hos hds (x := vl) rfl (wpAny_bind (wpAny_field hos hds (x := vu) rfl (wpAny_bind (wpAny_field hos hds (x := .none) rfl (wpAny_pure ?_)))))))
 refine wpAny_bind (slicePart_none ?_)
 show wpAny _ _ (if ((1 : Int) == 0) = true then _ else _) _ _ s
 rw [if_neg (by decide)]
 refine wpAny_bind (slicePart_ pl (wpAny_bind (slicePart_ pu (wpAny_bind (wpAny_pure ?_)))))
 show wpAny _ _ (match Builtin.Slice.sliceAdjust lo hi 1 (n : Int) with | (lo, hi) => pure (lo, (1 : Int), Builtin.Slice.slicePlaces lo hi 1)) _ _ s
 rw [adjust_gen lo hi n]
 show wpAny _ _ (pure (((sIx n 0 lo : Nat) : Int), (1 : Int), Builtin.Slice.slicePlaces ((sIx n 0 lo : Nat) : Int) ((sIx n n hi : Nat) : Int) 1)) _ _ s
 rw [places_gen]
 exact wpAny_pure h
theorem pick_gen (xs : Array Value) (i k : Nat) : ((List.range k).filterMap fun (m : Nat) => xs[((i : Int) + (m : Int) * 1).toNat]?).toArray = ((xs.toList.drop i).take k).toArray := by
 have e : (fun (m : Nat) => xs[((i : Int) + (m : Int) * 1).toNat]?) = fun m => xs[i + m]? := by
  funext m
  have : ((i : Int) + (m : Int) * 1).toNat = i + m := by omega
  rw [this]
 rw [e]
 have := pick_run xs i k
 rw [List.filterMap_map] at this
 have e2 : ((fun x => xs[x]?) ∘ fun x => i + x) = fun m => xs[i + m]? := rfl
 rw [e2] at this
 rw [this]
theorem getItem_tuple_cut {t sl : Addr} {items : Array Value} {vl vu : Value} {lo hi : Option Int} {Q : Value → Shared → Prop} (ht : IsTup s.heap t items) (hs : s.heap.IsSliceOf sl vl vu .none) (pl : IsPart vl lo) (pu : IsPart vu hi)
 (hw : ¬ (sIx items.size 0 lo = 0 ∧ sIx items.size items.size hi = items.size))
 (h : Q (.ref s.heap.objs.size) { s with heap := s.heap.push { cls := .type "tuple", data := .seq ((items.toList.drop (sIx items.size 0 lo)).take (sIx items.size items.size hi - sIx items.size 0 lo)).toArray } })
 (hsz : items.size ≤ sizeLine) : wpAny (model prog w) A (getItem (.ref t) (.ref sl)) Q E s := by
 have htake : sizeOk (.seq ((items.toList.drop (sIx items.size 0 lo)).take (sIx items.size items.size hi - sIx items.size 0 lo)).toArray) := by
  show ((items.toList.drop (sIx items.size 0 lo)).take (sIx items.size items.size hi - sIx items.size 0 lo)).toArray.size ≤ sizeLine
  rw [List.size_toArray, List.length_take, List.length_drop, Array.length_toList]
  omega
 have hj : sIx items.size items.size hi ≤ items.size := sIx_le _ _ (Nat.le_refl _) hi
 obtain ⟨os, hos, hcs, hds⟩ := id hs
 have hTs : s.TypeIs (.ref sl) "slice" := ⟨os, hos, hcs⟩
 unfold getItem
 try with_reducible refine wpAny_holding ?_
 first | refine wpAny_bind (wpAny_pure ?_) | skip
 refine wpAny_bind (wpAny_sequenceKey ht.typeIs (by decide) ?_)
 refine wpAny_bind (wpAny_callSpecial?_slot (name := Str.ofString "__getitem__") ht.typeIs PyProof.Rows.slot_tuple_getitem
  (wpAny_call_entry PyProof.Rows.slot_tuple_getitem ht.typeIs entry_tuple_getitem ?_ (args_tuple_getitem _ _)))
 show wpAny _ _ (Builtin.Tuple.tupleItemsOf (.ref t) >>= _) _ _ s
 refine wpAny_bind (tupleItemsOf_ ht ?_)
 refine wpAny_bind (wpAny_typeOf hTs ?_)
 rw [if_pos (by decide)]
 refine wpAny_bind (sliceApplied_gen hs pl pu ?_)
 have hno : ¬ ((((sIx items.size 0 lo : Nat) : Int) == 0 && (1 : Int) == 1 && (sIx items.size items.size hi - sIx items.size 0 lo) == items.size) = true) := by
  intro q
  rw [Bool.and_eq_true, Bool.and_eq_true] at q
  have q1 : ((sIx items.size 0 lo : Nat) : Int) = 0 := eq_of_beq q.1.1
  have q2 : sIx items.size items.size hi - sIx items.size 0 lo = items.size := eq_of_beq q.2
  exact hw ⟨by omega, by omega⟩
 show wpAny _ _ (if (((sIx items.size 0 lo : Nat) : Int) == 0 && (1 : Int) == 1 && (sIx items.size items.size hi - sIx items.size 0 lo) == items.size) = true then _ else _) _ _ s
 rw [if_neg hno, pick_gen]
 first
  | exact wpAny_bind (m := Builtin.Tuple.tupleExact _) (wpAny_newObj_type (wpAny_pure ⟨_, rfl, wpAny_pure h⟩) htake)
  | exact wpAny_bind (m := Builtin.Tuple.tupleExact _) (wpAny_newObj_type (wpAny_bind (wpAny_pure (wpAny_pure ⟨_, rfl, wpAny_pure h⟩))) htake)
  | exact wpAny_bind (wpAny_bind (m := Builtin.Tuple.tupleExact _) (wpAny_newObj_type (wpAny_pure (wpAny_pure ⟨_, rfl, wpAny_pure h⟩)) htake))
  | exact wpAny_bind (wpAny_bind (m := Builtin.Tuple.tupleExact _) (wpAny_newObj_type (wpAny_pure ⟨_, rfl, wpAny_pure h⟩) htake))
end
end HT
namespace L2
open PySem PySem.Spec PyProof.Rows
abbrev TO := St → Hp → (Option Int → Hp → Prop) → Prop
def PO (X : Cx) (e : Option Expr) (t : TO) : Prop :=
 ∀ (pins : List (Addr × Obj)) (s : Shared) (σ : St) (H : Hp) (Q : Option Int → Hp → Prop), Inv X pins σ H s → t σ H Q →
   wpAny (model X.prog X.w) X.A (evalPart e X.env) (fun u s' => ∃ o H', Inv X pins σ H' s' ∧ IsPart u o ∧ Q o H') X.xe s
def tNoPart : TO := fun _ H Q => Q none H
def tPart (t : TE) : TO := fun σ H Q => t σ H fun x H1 => ∃ i, x = .int i ∧ Q (some i) H1
section
variable {X : Cx} {e : Expr} {te : TE} {lo hi : Option Expr} {tl th : TO} {pos p2 : Pos}
theorem po_none : PO X none tNoPart := by
 intro pins s σ H Q I h
 rw [evalPart_none]
 exact wpAny_pure ⟨none, H, I, .none, h⟩
theorem po_some (h : PE X e te) : PO X (some e) (tPart te) := by
 intro pins s σ H Q I hw
 rw [evalPart_some]
 refine thn (h pins s σ H _ I hw) fun u s1 ⟨x, H1, I1, r1, q1⟩ => ?_
 obtain ⟨i, rfl, q⟩ := q1
 obtain ⟨t, rfl⟩ := r1
 exact ⟨some i, H1, I1, .int i t, q⟩
def SlR (X : Cx) (r : V → Option Int → Option Int → Hp → VK → Prop) : Prop :=
 ∀ (pins : List (Addr × Obj)) (s : Shared) (σ : St) (H : Hp) (x : V) (v vl vu : Value) (lo hi : Option Int) (sl : Addr) (Q : VK), Inv X pins σ H s → RelV x v → s.heap.IsSliceOf sl vl vu .none → IsPart vl lo → IsPart vu hi → r x lo hi H Q →
   ∃ T id, typeLookup (.type T) "__getitem__" = pure (some (.builtin id)) ∧ s.TypeIs v T ∧ wpAny (model X.prog X.w) X.A (getItem v (.ref sl)) (EP X pins σ Q) X.xe s
theorem SlR.or {r r' : V → Option Int → Option Int → Hp → VK → Prop} (h : SlR X r) (h' : SlR X r') : SlR X (fun x lo hi H Q => r x lo hi H Q ∨ r' x lo hi H Q) := by
 intro pins s σ H x v vl vu lo hi sl Q I rx hs pl pu q
 rcases q with q | q
 · exact h pins s σ H x v vl vu lo hi sl Q I rx hs pl pu q
 · exact h' pins s σ H x v vl vu lo hi sl Q I rx hs pl pu q
def tSl (r : V → Option Int → Option Int → Hp → VK → Prop) (te : TE) (tl th : TO) : TE := fun σ H Q => te σ H fun x H1 => tl σ H1 fun l H2 => th σ H2 fun u H3 => r x l u H3 Q
theorem pe_slice {r : V → Option Int → Option Int → Hp → VK → Prop} (hr : SlR X r) (he : PE X e te) (hl : PO X lo tl) (hu : PO X hi th) : PE X (.Subscript e (.Slice lo hi none p2) pos) (tSl r te tl th) := by
 intro pins s σ H Q I h
 refine Subscript_ (thn (he pins s σ H _ I h) fun v s1 ⟨x, H1, I1, r1, q1⟩ => ?_)
 refine wpAny_Slice (thn (hl pins s1 σ H1 _ I1 q1) fun vl s2 ⟨l, H2, I2, pl, q2⟩ => thn (hu pins s2 σ H2 _ I2 q2) fun vu s3 ⟨u, H3, I3, pu, q3⟩ => ?_)
 rw [evalPart_none]
 refine wpAny_pure ?_
 have I4 : Inv X pins σ H3 { s3 with heap := s3.heap.push { cls := .type "slice", data := .fields #[vl, vu, .none] } } := I3.kept (t' := s3.toks) fun b ob q => Heap.get?_push_of_some _ q
 obtain ⟨T, id, hT, ht, hg⟩ := hr pins { s3 with heap := s3.heap.push { cls := .type "slice", data := .fields #[vl, vu, .none] } } σ H3 x v vl vu l u s3.heap.objs.size Q I4 r1 (Heap.IsSliceOf.new ..) pl pu q3
 show wpAny (model X.prog X.w) X.A (subscriptTail e (.Slice lo hi none p2) v (.ref s3.heap.objs.size)) (EP X pins σ Q) X.xe { s3 with heap := s3.heap.push { cls := .type "slice", data := .fields #[vl, vu, .none] } }
 exact tail_any (ops := [.ref s3.heap.objs.size, v]) ht hT hg (by with_unfolding_all rfl)
def cutV (xs : List V) (lo hi : Option Int) : List V := (xs.drop (HT.sIx xs.length 0 lo)).take (HT.sIx xs.length xs.length hi - HT.sIx xs.length 0 lo)
theorem cutV_length (xs : List V) (lo hi : Option Int) : (cutV xs lo hi).length ≤ xs.length := by
 unfold cutV
 rw [List.length_take, List.length_drop]
 omega
def rSlT (K : PySem.W.Frag) : V → Option Int → Option Int → Hp → VK → Prop := fun x lo hi H Q => ∃ a xs, x = .ref a ∧ SqT K H a xs ∧
 ¬ (HT.sIx xs.length 0 lo = 0 ∧ HT.sIx xs.length xs.length hi = xs.length) ∧ ∀ p, H p = none → Q (.ref p) (upd H p (.tup (cutV xs lo hi)))
theorem sl_tup : SlR X (rSlT X.K) := by
 intro pins s σ H x v vl vu lo hi sl Q I rx hs pl pu h
 obtain ⟨a, xs, rfl, hx, hw, q⟩ := h
 cases rx
 obtain ⟨its, r, ht, hz⟩ := I.tuple hx
 have hlen : its.toArray.size = xs.length := by rw [List.size_toArray]; exact r.length.symm
 refine ⟨"tuple", _, PyProof.Rows.slot_tuple_getitem.lookup, ht.typeIs, ?_⟩
 refine HT.getItem_tuple_cut ht hs pl pu (by rw [hlen]; exact hw) ?_ (by rw [hlen]; exact hz)
 rw [hlen]
 refine ⟨.ref s.heap.objs.size, _, I.laid (t' := s.toks) (o := .tup (cutV xs lo hi)) (fun b ob q => Heap.get?_push_of_some _ q) (Nat.le_refl _) ?_, rfl, q _ (I.hok.fresh (Nat.le_refl _))⟩
 exact ⟨Nat.le_trans (cutV_length xs lo hi) hz, _, (r.drop (HT.sIx xs.length 0 lo)).take (HT.sIx xs.length xs.length hi - HT.sIx xs.length 0 lo), IsTup.new _ _⟩
def rCatT (K : PySem.W.Frag) : R2 := fun x y H Q => ∃ a b xs ys, x = .ref a ∧ y = .ref b ∧ SqT K H a xs ∧ SqT K H b ys ∧ xs ≠ [] ∧ xs.length + ys.length ≤ sizeLine ∧
 (ys = [] → Q (.ref a) H) ∧ (ys ≠ [] → ∀ p, H p = none → Q (.ref p) (upd H p (.tup (xs ++ ys))))
theorem Vals.nil_iff {xs : List V} {us : List Value} (r : Vals xs us) : us = [] ↔ xs = [] := by
 cases r with
 | nil => simp
 | cons _ _ => simp
theorem op_catT : OpR X (binaryOp .Add) (rCatT X.K) := by
 intro pins s σ H x y v u Q I rx ry h
 obtain ⟨a, b, xs, ys, rfl, rfl, ha, hb, hx, hz, q1, q2⟩ := h
 cases rx
 cases ry
 obtain ⟨its, r1, p1, _⟩ := I.tuple ha
 obtain ⟨its2, r2, p2, _⟩ := I.tuple hb
 refine HT.cat_tup p1 p2 (fun z => hx (r1.nil_iff.mp z)) (fun z => ⟨.ref a, H, I, rfl, q1 (r2.nil_iff.mp z)⟩) (fun z => ?_) (by rw [← r1.length, ← r2.length]; exact hz)
 refine ⟨.ref s.heap.objs.size, _, I.laid (t' := s.toks) (o := .tup (xs ++ ys)) (fun b ob q => Heap.get?_push_of_some _ q) (Nat.le_refl _) ?_, rfl, q2 (fun w => z (r2.nil_iff.mpr w)) _ (I.hok.fresh (Nat.le_refl _))⟩
 exact ⟨by rw [List.length_append]; exact hz, _, r1.append r2, IsTup.new _ _⟩
end
end L2
namespace L2
open PySem PySem.Spec PyProof.Rows
def ixN (n : Nat) (i : Int) : Option Nat := if 0 ≤ i then (if i < n then some i.toNat else none) else if -(n : Int) ≤ i then some (i + n).toNat else none
def atI {α : Type} (xs : List α) (i : Int) : Option α := (ixN xs.length i).bind fun j => xs[j]?
theorem ixN_seq {n : Nat} {i : Int} {j : Nat} (h : ixN n i = some j) : seqIndex? i n = some j ∧ j < n ∧ -(n : Int) ≤ i ∧ i < n := by
 unfold ixN at h
 by_cases h0 : 0 ≤ i
 · rw [if_pos h0] at h
   by_cases h1 : i < n
   · rw [if_pos h1] at h
     have e : i.toNat = j := Option.some.inj h
     exact ⟨by rw [seqIndex_of h0 h1, e], by omega, by omega, h1⟩
   · rw [if_neg h1] at h; cases h
 · rw [if_neg h0] at h
   by_cases h1 : -(n : Int) ≤ i
   · rw [if_pos h1] at h
     have e : (i + n).toNat = j := Option.some.inj h
     exact ⟨by rw [seqIndex_neg (by omega) h1, e], by omega, h1, by omega⟩
   · rw [if_neg h1] at h; cases h
theorem atI_get {α : Type} {xs : List α} {i : Int} {v : α} (h : atI xs i = some v) : ∃ j, seqIndex? i xs.length = some j ∧ xs[j]? = some v ∧ j < xs.length ∧ -(xs.length : Int) ≤ i ∧ i < xs.length := by
 unfold atI at h
 cases e : ixN xs.length i with
 | none => rw [e] at h; cases h
 | some j =>
   rw [e] at h
   obtain ⟨h1, h2, h3, h4⟩ := ixN_seq e
   exact ⟨j, h1, h, h2, h3, h4⟩
def PlainIx (b : Expr) : Prop := ∀ o i, subscripted b false o i = operate [o, i] (getItem o i)
def IxR (X : Cx) (r : R2) : Prop :=
 ∀ (value slice : Expr) (pins : List (Addr × Obj)) (s : Shared) (σ : St) (H : Hp) (x y : V) (v u : Value) (Q : VK), Inv X pins σ H s → RelV x v → RelV y u → r x y H Q →
   subscripted slice false v u = operate [v, u] (getItem v u) → wpAny (model X.prog X.w) X.A (subscriptTail value slice v u) (EP X pins σ Q) X.xe s
def MtR (X : Cx) (id : String) (r : V → List V → Hp → VK → Prop) : Prop :=
 ∀ (pins : List (Addr × Obj)) (s : Shared) (σ : St) (H : Hp) (x : V) (xs : List V) (v : Value) (us : List Value) (Q : VK), Inv X pins σ H s → RelV x v → Vals xs us → r x xs H Q →
   wpAny (model X.prog X.w) X.A (call (.builtin id) (v :: us)) (EP X pins σ Q) X.xe s
section
variable {X : Cx} {a b : Expr} {ta tb : TE} {pos : Pos}
theorem IxR.or {r r' : R2} (h : IxR X r) (h' : IxR X r') : IxR X (fun x y H Q => r x y H Q ∨ r' x y H Q) := by
 intro value slice pins s σ H x y v u Q I rx ry q hs
 rcases q with q | q
 · exact h value slice pins s σ H x y v u Q I rx ry q hs
 · exact h' value slice pins s σ H x y v u Q I rx ry q hs
theorem MtR.or {id : String} {r r' : V → List V → Hp → VK → Prop} (h : MtR X id r) (h' : MtR X id r') : MtR X id (fun x xs H Q => r x xs H Q ∨ r' x xs H Q) := by
 intro pins s σ H x xs v us Q I rx rs q
 rcases q with q | q
 · exact h pins s σ H x xs v us Q I rx rs q
 · exact h' pins s σ H x xs v us Q I rx rs q
theorem pe_ix {r : R2} (hr : IxR X r) (ha : PE X a ta) (hb : PE X b tb) (hs : PlainIx b) : PE X (.Subscript a b pos) (tOp r ta tb) := by
 intro pins s σ H Q I h
 exact Subscript_ (binT ha hb I h fun v u s2 x y H2 I2 rx ry q => hr a b pins s2 σ H2 x y v u Q I2 rx ry q (hs _ _))
def rIxL (K : PySem.W.Frag) : R2 := fun x y H Q => ∃ p xs i v, x = .ref p ∧ y = .int i ∧ SqL K H p xs ∧ atI xs i = some v ∧ Q v H
def rIxT (K : PySem.W.Frag) : R2 := fun x y H Q => ∃ p xs i v, x = .ref p ∧ y = .int i ∧ SqT K H p xs ∧ atI xs i = some v ∧ Q v H
def rIxS : R2 := fun x y H Q => ∃ z i c, x = .str z ∧ y = .int i ∧ z.length ≤ sizeLine ∧ atI z.cps.toList i = some c ∧ Q (.str ⟨#[c]⟩) H
theorem ix_list : IxR X (rIxL X.K) := by
 intro value slice pins s σ H x y v u Q I rx ry h hs
 obtain ⟨p, xs, i, z, rfl, rfl, hq, he, q⟩ := h
 cases rx
 obtain ⟨t, rfl⟩ := ry
 obtain ⟨its, r, pl, hz⟩ := I.list hq
 obtain ⟨j, h1, h2, h3, h4, h5⟩ := atI_get he
 obtain ⟨w, ew, rw'⟩ := r.get h2
 have hl := r.length
 have hn := line63
 have fin : EP X pins σ Q w s := ⟨z, H, I, rw', q⟩
 by_cases h0 : 0 ≤ i
 · have hj : i.toNat = j := by
    rw [seqIndex_of h0 h5] at h1
    exact Option.some.inj h1
   exact item_listR pl.isList h0 (by omega) (by rw [hj]; simpa using ew) fin hs
 · have hj : (i + (its.toArray.size : Int)).toNat = j := by
    rw [seqIndex_neg (by omega) h4] at h1
    rw [List.size_toArray, ← hl]
    exact Option.some.inj h1
   exact subscriptTail_builtinR (x := w) pl.isList.typeIs slot_list_getitem.lookup
    (wpAny_getItem_list_neg (Q := fun r s' => r = w ∧ EP X pins σ Q r s') pl.isList (by omega) (by rw [List.size_toArray] <;> omega) (by omega) (by rw [hj]; simpa using ew) ⟨rfl, fin⟩) hs
theorem ix_tup : IxR X (rIxT X.K) := by
 intro value slice pins s σ H x y v u Q I rx ry h hs
 obtain ⟨p, xs, i, z, rfl, rfl, hq, he, q⟩ := h
 cases rx
 obtain ⟨t, rfl⟩ := ry
 obtain ⟨its, r, pl, hz⟩ := I.tuple hq
 obtain ⟨j, h1, h2, h3, h4, h5⟩ := atI_get he
 obtain ⟨w, ew, rw'⟩ := r.get h2
 have hl := r.length
 have hn := line63
 have fin : EP X pins σ Q w s := ⟨z, H, I, rw', q⟩
 exact subscriptTail_builtinR (x := w) pl.typeIs slot_tuple_getitem.lookup
  (getItem_tuple (j := j) (Q := fun r s' => r = w ∧ EP X pins σ Q r s') pl (by omega) (by omega) (by rw [List.size_toArray, ← hl]; exact h1) (by simpa using ew) ⟨rfl, fin⟩) hs
theorem ix_str : IxR X rIxS := by
 intro value slice pins s σ H x y v u Q I rx ry h hs
 obtain ⟨z, i, c, rfl, rfl, hz, he, q⟩ := h
 obtain ⟨t, rfl⟩ := rx
 obtain ⟨t', rfl⟩ := ry
 obtain ⟨j, h1, h2, h3, h4, h5⟩ := atI_get he
 have hl : z.cps.toList.length = z.length := by simp [Str.length]
 rw [hl] at h1 h4 h5
 have hn := line63
 exact tail_any (typeIs_str s z t) slot_str_getitem.lookup (getItem_str (c := c) (by
  have e1 : decide (i < -(2 ^ 63 : Int)) = false := decide_eq_false (by omega)
  have e2 : decide (i ≥ 2 ^ 63) = false := decide_eq_false (by omega)
  rw [e1, e2, Bool.or_false]) (by rw [h1]; simpa using h2) ⟨.str ⟨#[c]⟩, H, I.tok _, ⟨_, rfl⟩, q⟩) hs
def rIx (K : PySem.W.Frag) : R2 := fun x y H Q => rIxL K x y H Q ∨ rIxT K x y H Q ∨ rIxS x y H Q
theorem ix_seq : IxR X (rIx X.K) := ix_list.or (ix_tup.or ix_str)
theorem Inv.lst {pins : List (Addr × Obj)} {σ : St} {H : Hp} {s : Shared} {p : Addr} {xs : List V} (I : Inv X pins σ H s) (h : H p = some (.lst xs)) :
 ∃ (its : List Value) (n : Nat), Vals xs its ∧ s.heap.get? p = some { cls := .type "list", data := .seq its.toArray n } ∧ xs.length ≤ sizeLine := by
 obtain ⟨z, its, n, r, e⟩ := I.hok p _ h
 exact ⟨its, n, r, e, z⟩
theorem slice_bounds (lo hi : Option Int) (n : Nat) : (sliceBounds lo hi none n).1 = ((HT.sIx n 0 lo : Nat) : Int) ∧ (sliceBounds lo hi none n).2.1 = ((HT.sIx n n hi : Nat) : Int) ∧ (sliceBounds lo hi none n).2.2 = 1 := by
 refine ⟨?_, ?_, rfl⟩
 · cases lo with
   | none => simp [sliceBounds, HT.sIx]
   | some i =>
     simp only [sliceBounds, HT.sIx, Option.getD_none, show (1 : Int) > 0 by decide, if_true]
     by_cases h : i < 0
     · simp only [h, if_true] <;> omega
     · simp only [h, if_false] <;> omega
 · cases hi with
   | none => simp [sliceBounds, HT.sIx]
   | some i =>
     simp only [sliceBounds, HT.sIx, Option.getD_none, show (1 : Int) > 0 by decide, if_true]
     by_cases h : i < 0
     · simp only [h, if_true] <;> omega
     · simp only [h, if_false] <;> omega
theorem slicePick_cut (its : List Value) (lo hi : Option Int) : slicePick its.toArray lo hi none = ((its.drop (HT.sIx its.length 0 lo)).take (HT.sIx its.length its.length hi - HT.sIx its.length 0 lo)).toArray := by
 obtain ⟨h1, h2, h3⟩ := slice_bounds lo hi its.toArray.size
 unfold slicePick
 rw [h1, h2, h3]
 simp only [sliceRange_one, pick_run, List.size_toArray] <;> rfl
def rSlL (K : PySem.W.Frag) : V → Option Int → Option Int → Hp → VK → Prop := fun x lo hi H Q => ∃ a xs, x = .ref a ∧ SqL K H a xs ∧ ∀ p, H p = none → Q (.ref p) (upd H p (.lst (cutV xs lo hi)))
theorem sl_list : SlR X (rSlL X.K) := by
 intro pins s σ H x v vl vu lo hi sl Q I rx hs pl pu h
 obtain ⟨a, xs, rfl, hx, q⟩ := h
 cases rx
 obtain ⟨its, r, ht, hz⟩ := I.list hx
 have hlen := r.length
 refine ⟨"list", _, slot_list_getitem.lookup, ht.isList.typeIs, ?_⟩
 refine wpAny_getItem_list_slice ht.isList hs pl pu .none (by simp) ?_ (by rw [List.size_toArray] <;> omega)
 rw [slicePick_cut, ← hlen]
 refine ⟨.ref s.heap.objs.size, _, I.laid (t' := s.toks) (o := .lst (cutV xs lo hi)) (fun b ob q => Heap.get?_push_of_some _ q) (Nat.le_refl _) ?_, rfl, q _ (I.hok.fresh (Nat.le_refl _))⟩
 exact ⟨Nat.le_trans (cutV_length xs lo hi) hz, _, 0, (r.drop (HT.sIx xs.length 0 lo)).take (HT.sIx xs.length xs.length hi - HT.sIx xs.length 0 lo), Heap.get?_push_size _ rfl⟩
def flatV : V → Bool
 | .non => true
 | .bl _ => true
 | .int _ => true
 | .str _ => true
 | _ => false
def eqV : V → V → Bool
 | .non, .non => true
 | .bl a, .bl b => a == b
 | .bl a, .int b => (if a then 1 else 0) == b
 | .int a, .bl b => a == (if b then 1 else 0)
 | .int a, .int b => a == b
 | .str a, .str b => a == b
 | _, _ => false
theorem eqAt_V {A : Around} {s : Shared} {y x : V} {u v : Value} (ry : RelV y u) (rx : RelV x v) (fy : flatV y = true) (fx : flatV x = true) : SeqAt.EqAt A s u v (eqV y x) := by
 cases y with
 | non =>
   cases ry
   cases x with
   | non => cases rx; exact SeqAt.EqAt.same _
   | bl b => cases rx; exact SeqAt.EqAt.none_bool b
   | int b => obtain ⟨t, rfl⟩ := rx; exact SeqAt.EqAt.none_int b t
   | str b => obtain ⟨t, rfl⟩ := rx; exact SeqAt.EqAt.none_str b t
   | _ => exact absurd (show false = true from fx) Bool.false_ne_true
 | bl a =>
   cases ry
   cases x with
   | non => cases rx; exact SeqAt.EqAt.bool_none a
   | bl b => cases rx; exact SeqAt.EqAt.bool_bool a b
   | int b => obtain ⟨t, rfl⟩ := rx; exact SeqAt.EqAt.bool_int a b t
   | str b => obtain ⟨t, rfl⟩ := rx; exact SeqAt.EqAt.bool_str a b t
   | _ => exact absurd (show false = true from fx) Bool.false_ne_true
 | int a =>
   obtain ⟨t', rfl⟩ := ry
   cases x with
   | non => cases rx; exact SeqAt.EqAt.int_none a t'
   | bl b => cases rx; exact SeqAt.EqAt.int_bool a t' b
   | int b => obtain ⟨t, rfl⟩ := rx; exact SeqAt.EqAt.int_int a t' b t
   | str b => obtain ⟨t, rfl⟩ := rx; exact SeqAt.EqAt.int_str a t' b t
   | _ => exact absurd (show false = true from fx) Bool.false_ne_true
 | str a =>
   obtain ⟨t', rfl⟩ := ry
   cases x with
   | non => cases rx; exact SeqAt.EqAt.str_none a t'
   | bl b => cases rx; exact SeqAt.EqAt.str_bool a t' b
   | int b => obtain ⟨t, rfl⟩ := rx; exact SeqAt.EqAt.str_int a t' b t
   | str b => obtain ⟨t, rfl⟩ := rx; exact SeqAt.EqAt.str_str a t' b t
   | _ => exact absurd (show false = true from fx) Bool.false_ne_true
 | _ => exact absurd (show false = true from fy) Bool.false_ne_true
def eqU (x : V) (u : Value) : Bool := match u with
 | .none => eqV .non x
 | .bool b => eqV (.bl b) x
 | .int i _ => eqV (.int i) x
 | .str z _ => eqV (.str z) x
 | _ => false
theorem eqU_of {x y : V} {u : Value} (r : RelV y u) (f : flatV y = true) : eqU x u = eqV y x := by
 cases y with
 | non => cases r; rfl
 | bl b => cases r; rfl
 | int i => obtain ⟨t, rfl⟩ := r; rfl
 | str z => obtain ⟨t, rfl⟩ := r; rfl
 | _ => exact absurd (show false = true from f) Bool.false_ne_true
theorem any_eqU {x : V} : ∀ {xs : List V} {us : List Value}, Vals xs us → xs.all flatV = true → us.any (eqU x) = xs.any fun y => eqV y x
 | _, _, .nil, _ => rfl
 | y :: xs, u :: us, .cons r t, f => by
   rw [List.all_cons, Bool.and_eq_true] at f
   rw [List.any_cons, List.any_cons, eqU_of r f.1, any_eqU t f.2]
theorem mem_eqAt {A : Around} {s : Shared} {x : V} {v : Value} (rx : RelV x v) (fx : flatV x = true) : ∀ {xs : List V} {us : List Value}, Vals xs us → xs.all flatV = true → ∀ u ∈ us, SeqAt.EqAt A s u v (eqU x u)
 | _, _, .nil, _ => fun u hu => by cases hu
 | y :: xs, u :: us, .cons r t, f => fun u' hu => by
   rw [List.all_cons, Bool.and_eq_true] at f
   rcases List.mem_cons.mp hu with rfl | hu
   · rw [eqU_of r f.1]; exact eqAt_V r rx f.1 fx
   · exact mem_eqAt rx fx t f.2 u' hu
def inV (x : V) (xs : List V) : Bool := xs.any fun y => eqV y x
def rIn (K : PySem.W.Frag) (neg : Bool) : R2 := fun x y H Q => ∃ p xs, y = .ref p ∧ (SqL K H p xs ∨ SqT K H p xs) ∧ flatV x = true ∧ xs.all flatV = true ∧ Q (.bl (if neg then !inV x xs else inV x xs)) H
theorem op_in_seq : OpR X (compareOp .In) (rIn X.K false) := by
 intro pins s σ H x y v u Q I rx ry h
 obtain ⟨p, xs, rfl, hq, fx, fs, q⟩ := h
 cases ry
 rcases hq with hq | hq
 · obtain ⟨its, r, pl, hz⟩ := I.list hq
   refine SeqAt.in_listAt (eqU x) pl.isList (fun w hw => mem_eqAt rx fx r fs w (by simpa using hw)) ⟨.bl _, H, I, rfl, ?_⟩
   rw [show its.toArray.any (eqU x) = its.any (eqU x) by simp, any_eqU r fs]
   exact q
 · obtain ⟨its, r, pl, hz⟩ := I.tuple hq
   refine SeqAt.in_tupleAt (eqU x) pl (fun w hw => mem_eqAt rx fx r fs w (by simpa using hw)) ⟨.bl _, H, I, rfl, ?_⟩
   rw [show its.toArray.any (eqU x) = its.any (eqU x) by simp, any_eqU r fs]
   exact q
theorem op_notIn_seq : OpR X (compareOp .NotIn) (rIn X.K true) := by
 intro pins s σ H x y v u Q I rx ry h
 obtain ⟨p, xs, rfl, hq, fx, fs, q⟩ := h
 cases ry
 rcases hq with hq | hq
 · obtain ⟨its, r, pl, hz⟩ := I.list hq
   refine SeqAt.notIn_listAt (eqU x) pl.isList (fun w hw => mem_eqAt rx fx r fs w (by simpa using hw)) ⟨.bl _, H, I, rfl, ?_⟩
   rw [show its.toArray.any (eqU x) = its.any (eqU x) by simp, any_eqU r fs]
   exact q
 · obtain ⟨its, r, pl, hz⟩ := I.tuple hq
   refine SeqAt.notIn_tupleAt (eqU x) pl (fun w hw => mem_eqAt rx fx r fs w (by simpa using hw)) ⟨.bl _, H, I, rfl, ?_⟩
   rw [show its.toArray.any (eqU x) = its.any (eqU x) by simp, any_eqU r fs]
   exact q
theorem call_len_seq : CallR X (.builtin "len") (fun xs H Q => ∃ p ys, xs = [.ref p] ∧ (SqL X.K H p ys ∨ SqT X.K H p ys) ∧ Q (.int ys.length) H) := by
 intro pins s σ H xs us Q I r h
 obtain ⟨p, ys, rfl, hq, q⟩ := h
 obtain ⟨u, rfl, rx⟩ := vals1 r
 cases rx
 have hn := line63
 rcases hq with hq | hq
 · obtain ⟨its, r', pl, hz⟩ := I.list hq
   have hlen := r'.length
   exact Calls.call_len_list pl.isList (by simp only [List.size_toArray] <;> omega) ⟨.int ys.length, H, I.tok _, ⟨s.toks + 1, by rw [List.size_toArray, hlen]⟩, q⟩
 · obtain ⟨its, r', pl, hz⟩ := I.tuple hq
   have hlen := r'.length
   exact len_tuple pl (by simp only [List.size_toArray] <;> omega) ⟨.int ys.length, H, I.tok _, ⟨s.toks + 1, by rw [List.size_toArray, hlen]⟩, q⟩
theorem call_len_str : CallR X (.builtin "len") (fun xs H Q => ∃ z, xs = [.str z] ∧ z.length ≤ sizeLine ∧ Q (.int z.length) H) := by
 intro pins s σ H xs us Q I r h
 obtain ⟨z, rfl, hz, q⟩ := h
 obtain ⟨u, rfl, t, rfl⟩ := vals1 r
 have hn := line63
 exact len_str (by omega) ⟨.int z.length, H, I.tok _, ⟨_, rfl⟩, q⟩
theorem CallR.or {f : Value} {r r' : List V → Hp → VK → Prop} (h : CallR X f r) (h' : CallR X f r') : CallR X f (fun xs H Q => r xs H Q ∨ r' xs H Q) := by
 intro pins s σ H xs us Q I rs q
 rcases q with q | q
 · exact h pins s σ H xs us Q I rs q
 · exact h' pins s σ H xs us Q I rs q
theorem call_list_of : CallR X (.type "list") (fun xs H Q => ∃ p ys, xs = [.ref p] ∧ (SqL X.K H p ys ∨ SqT X.K H p ys) ∧ ∀ l, H l = none → Q (.ref l) (upd H l (.lst ys))) := by
 intro pins s σ H xs us Q I r h
 obtain ⟨p, ys, rfl, hq, q⟩ := h
 obtain ⟨u, rfl, rx⟩ := vals1 r
 cases rx
 have fin : ∀ (its : List Value), Vals ys its → ys.length ≤ sizeLine → ∀ (h' : Heap) (c' : Nat), (∀ b o', s.heap.get? b = some o' → h'.get? b = some o') →
  h'.get? s.heap.objs.size = some { cls := .type "list", dict := none, data := .seq its.toArray c', slots := #[] } → EP X pins σ Q (.ref s.heap.objs.size) { s with heap := h' } := fun its r' hz h' c' kp e =>
  ⟨.ref s.heap.objs.size, _, I.laid (t' := s.toks) kp (Nat.le_refl _) (show ObjOk X.prog X.w _ h' _ (.lst ys) from ⟨hz, its, c', r', e⟩), rfl, q _ (I.hok.fresh (Nat.le_refl _))⟩
 rcases hq with hq | hq
 · obtain ⟨its, r', pl, hz⟩ := I.list hq
   have hlen := r'.length
   obtain ⟨o, ho, hc, n, hd⟩ := pl.isList
   exact call_list_seq p (.inl rfl) ho hc hd (fun h' c' kp e => fin its r' hz h' c' kp e) (by simp only [List.size_toArray] <;> omega)
 · obtain ⟨its, r', pl, hz⟩ := I.tuple hq
   have hlen := r'.length
   obtain ⟨o, ho, hc, n, hd⟩ := pl
   exact call_list_seq p (.inr rfl) ho hc hd (fun h' c' kp e => fin its r' hz h' c' kp e) (by simp only [List.size_toArray] <;> omega)
def tyV (K : PySem.W.Frag) (T : String) (x : V) (H : Hp) : Prop := match x with
 | .str _ => T = "str"
 | .int _ => T = "int"
 | .ref p => (T = "list" ∧ ∃ xs, SqL K H p xs) ∨ (T = "tuple" ∧ ∃ o, K.lookup p = some o ∧ o.cls = .type "tuple" ∧ o.dict = none) ∨
  (T = "dict" ∧ ((∃ kvs, H p = some (.dK kvs)) ∨ ∃ kvs, H p = some (.dT kvs))) ∨ (T = "set" ∧ ∃ S n, H p = some (.set S n))
 | _ => False
theorem tyV_is {pins : List (Addr × Obj)} {σ : St} {H : Hp} {s : Shared} {T : String} {x : V} {v : Value} (I : Inv X pins σ H s) (r : RelV x v) (ty : tyV X.K T x H) :
 s.TypeIs v T ∧ ∀ a, v = .ref a → ∃ ob, s.heap.get? a = some ob ∧ ob.dict = none := by
 cases x with
 | str z =>
   obtain ⟨t, rfl⟩ := r
   cases (show T = "str" from ty)
   exact ⟨typeIs_str s z t, fun _ e => nomatch e⟩
 | int i =>
   obtain ⟨t, rfl⟩ := r
   cases (show T = "int" from ty)
   exact ⟨typeIs_int s i t, fun _ e => nomatch e⟩
 | ref p =>
   cases r
   rcases ty with ⟨rfl, xs, hq⟩ | ⟨rfl, o, hk, hc, hd⟩ | ⟨rfl, hk⟩ | ⟨rfl, S, n, hk⟩
   · obtain ⟨its, _, pl, _⟩ := I.list hq
     refine ⟨pl.isList.typeIs, fun a e => ?_⟩
     cases e
     obtain ⟨o, n, e, c, hd, _⟩ := pl
     exact ⟨o, e, hd⟩
   · refine ⟨⟨o, I.kIn p o hk, hc⟩, fun a e => ?_⟩
     cases e
     exact ⟨o, I.kIn _ o hk, hd⟩
   · have z : ∃ o, s.heap.get? p = some o ∧ o.ExactDict := by
      rcases hk with ⟨kvs, hk⟩ | ⟨kvs, hk⟩
      · obtain ⟨_, _, _, _, o, _, _, e, ex, _⟩ := I.hok p _ hk
        exact ⟨o, e, ex⟩
      · obtain ⟨_, _, _, _, o, _, _, e, ex, _⟩ := I.hok p _ hk
        exact ⟨o, e, ex⟩
     obtain ⟨o, e, ex⟩ := z
     refine ⟨⟨o, e, ex.1⟩, fun a e2 => ?_⟩
     cases e2
     exact ⟨o, e, ex.2.1⟩
   · obtain ⟨o, _, _, _, e, ex, _⟩ := I.hok p _ hk
     refine ⟨⟨o, e, ex.1⟩, fun a e2 => ?_⟩
     cases e2
     exact ⟨o, e, ex.2.1⟩
 | _ => exact False.elim ty
def tBM0 (K : PySem.W.Frag) (T : String) (r : V → List V → Hp → VK → Prop) (to : TE) : TE := fun σ H Q => to σ H fun x H1 => tyV K T x H1 ∧ r x [] H1 Q
def tBM (K : PySem.W.Frag) (T : String) (r : V → List V → Hp → VK → Prop) (to : TE) (t : TA) : TE := fun σ H Q => to σ H fun x H1 => tyV K T x H1 ∧ t σ H1 fun xs H2 => r x xs H2 Q
variable {o e : Expr} {es : List Expr} {to : TE} {t : TA} {name : Str} {apos cpos : Pos} {T id : String} {r : V → List V → Hp → VK → Prop}
theorem pe_bm0 (pa : PlainAttrs T) (slot : Slot T name id) (hty : typeOf (.builtin id) = pure (.type "method_descriptor")) (hm : MtR X id r) (ho : PE X o to)
 (hbase : attributeBase o name X.env (eval o X.env) = eval o X.env := by rfl) (hline : (apos.endLine == cpos.line) = true := by rfl) : PE X (.Call (.Attribute o name apos) [] [] cpos) (tBM0 X.K T r to) := by
 intro pins s σ H Q I h
 refine wpAny_Call_method0_late hbase hline (thn (ho pins s σ H _ I h) fun v s1 ⟨x, H1, I1, r1, ty, q1⟩ => ?_)
 obtain ⟨h1, h2⟩ := tyV_is I1 r1 ty
 exact ⟨T, id, pa, slot, hty, h1, h2, Calls.callWith_builtin rfl (PySem.evalArgs_none (hm pins s1 σ H1 x [] v [] Q I1 r1 .nil q1))⟩
theorem pe_bm (pa : PlainAttrs T) (slot : Slot T name id) (hty : typeOf (.builtin id) = pure (.type "method_descriptor")) (hm : MtR X id r) (ho : PE X o to) (ha : PA X (e :: es) t)
 (hbase : attributeBase o name X.env (eval o X.env) = eval o X.env := by rfl)
 (hfew : ((backTo cpos (starEach (e :: es) X.env)).all (fun x => !x.1) && (backToKw cpos (keywordEach [] X.env)).all (fun x => x.1.isSome)
  && decide ((e :: es).length + ([] : List Keyword).length + (if ([] : List Keyword).isEmpty then 0 else 1) < 30)) = true := by rfl)
 (hline : (apos.endLine == cpos.line) = true := by rfl) (hs : starEach (e :: es) X.env = (false, eval e X.env) :: starEach es X.env := by rfl) (hplain : (backTo cpos (starEach es X.env)).any (·.1) = false := by rfl) :
 PE X (.Call (.Attribute o name apos) (e :: es) [] cpos) (tBM X.K T r to t) := by
 intro pins s σ H Q I h
 refine wpAny_Call_method_late hbase hfew hline rfl (thn (ho pins s σ H _ I h) fun v s1 ⟨x, H1, I1, r1, ty, q1⟩ => ?_)
 obtain ⟨h1, h2⟩ := tyV_is I1 r1 ty
 refine ⟨T, id, pa, slot, hty, h1, h2, ?_⟩
 have hA := ha cpos pins s1 σ H1 _ I1 q1
 rw [hs] at hA ⊢
 refine Calls.callWith_builtin (by show (false || (backTo cpos (starEach es X.env)).any (·.1)) = false; rw [hplain] <;> rfl) (Calls.evalArgs_plain ?_)
 exact thn hA fun us s2 ⟨vs, H2, I2, r2, q2⟩ => hm pins s2 σ H2 x vs v us Q I2 r1 r2 q2
end
end L2
namespace L2
open PySem PySem.Spec PyProof.Rows
def MtM (X : Cx) (id : String) (r : V → List V → Hp → VK → Prop) : Prop :=
 ∀ (pins : List (Addr × Obj)) (s : Shared) (σ : St) (H : Hp) (x : V) (xs : List V) (v : Value) (us : List Value) (Q : VK), Inv X pins σ H s → RelV x v → Vals xs us → r x xs H Q →
   wpAny (model X.prog X.w) X.A (call (.builtin id) (v :: us)) (EP X pins σ Q) X.xe s
theorem Vals.one : ∀ {x : V} {us : List Value}, Vals [x] us → ∃ u, us = [u] ∧ RelV x u
 | _, _, .cons r .nil => ⟨_, rfl, r⟩
theorem Vals.two : ∀ {x y : V} {us : List Value}, Vals [x, y] us → ∃ u v, us = [u, v] ∧ RelV x u ∧ RelV y v
 | _, _, _, .cons r (.cons q .nil) => ⟨_, _, rfl, r, q⟩
theorem Vals.zero : ∀ {us : List Value}, Vals [] us → us = []
 | _, .nil => rfl
theorem Vals.reverse {xs : List V} {us : List Value} (h : Vals xs us) : Vals xs.reverse us.reverse := by
 induction h with
 | nil => exact .nil
 | cons r t ih => rw [List.reverse_cons, List.reverse_cons]; exact Vals.append ih (.cons r .nil)
theorem Vals.rep {xs : List V} {us : List Value} (h : Vals xs us) : ∀ k : Nat, Vals (List.replicate k xs).flatten (List.replicate k us).flatten
 | 0 => .nil
 | k + 1 => by
   rw [List.replicate_succ, List.replicate_succ, List.flatten_cons, List.flatten_cons]
   exact Vals.append h (Vals.rep h k)
theorem foldl_rep (its : List Value) : ∀ (k : Nat) (acc : List Value),
 List.foldl (fun x1 x2 => x1 ++ x2) acc.toArray (List.replicate k its.toArray) = (acc ++ (List.replicate k its).flatten).toArray
 | 0, acc => by simp
 | k + 1, acc => by
   have e : acc.toArray ++ its.toArray = (acc ++ its).toArray := by simp
   have e2 : (acc ++ its) ++ (List.replicate k its).flatten = acc ++ (List.replicate (k + 1) its).flatten := by
    rw [List.replicate_succ, List.flatten_cons, List.append_assoc]
   rw [← e2, ← foldl_rep its k (acc ++ its), ← e, List.replicate_succ, List.foldl_cons]
section
variable {X : Cx} {pins : List (Addr × Obj)} {σ : St} {H : Hp} {s : Shared} {l b : Addr} {xs ys zs : List V}
theorem Inv.lset {its its' : List Value} {n : Nat} {f : Array Value → Array Value} {t' : Nat} (I : Inv X pins σ H s) (hH : H l = some (.lst xs))
 (e : s.heap.get? l = some { cls := .type "list", data := .seq its.toArray n }) (hf : f its.toArray = its'.toArray) (hv : Vals ys its') (hz : ys.length ≤ sizeLine) :
 Inv X pins σ (upd H l (.lst ys)) { s with heap := s.heap.update l (Obj.mapSeq f), toks := t' } := by
 have q := PySem.IsL.update e f
 rw [hf] at q
 refine I.write (x := l) (e := l) (by rw [hH]; exact trivial) (.inl rfl) (fun b' u hb hu => (Heap.get?_update_other s.heap (Obj.mapSeq f) (Ne.symm hb)).trans hu) ⟨_, q⟩ ?_
 exact ⟨hz, its', _, hv, q⟩
theorem Inv.lnew {its : List Value} {t' : Nat} (I : Inv X pins σ H s) (hv : Vals ys its) (hz : ys.length ≤ sizeLine) :
 Inv X pins σ (upd H s.heap.objs.size (.lst ys)) { s with heap := s.heap.push { cls := .type "list", data := .seq its.toArray }, toks := t' } :=
 I.laid (fun _ _ q => Heap.get?_push_of_some _ q) (Nat.le_refl _) ⟨hz, its, 0, hv, Heap.get?_push_size _ rfl⟩
theorem Inv.fresh (I : Inv X pins σ H s) : H s.heap.objs.size = none := I.hok.fresh (Nat.le_refl _)
theorem Inv.lstM (I : Inv X pins σ H s) (hH : H l = some (.lst xs)) : xs.length ≤ sizeLine ∧ ∃ (its : List Value) (n : Nat), Vals xs its ∧ xs.length = its.length ∧ s.heap.get? l = some { cls := .type "list", data := .seq its.toArray n } := by
 obtain ⟨z, its, n, r, e⟩ := I.hok l _ hH
 exact ⟨z, its, n, r, r.length, e⟩
theorem notLongL {n : Nat} (h : n ≤ sizeLine) : Builtin.List.listTooLong n = false := by
 unfold Builtin.List.listTooLong
 exact decide_eq_false (by omega)
end
section
variable {X : Cx}
def rAppend : V → List V → Hp → VK → Prop := fun x vs H Q => ∃ l xs y, x = .ref l ∧ vs = [y] ∧ H l = some (.lst xs) ∧ xs.length < sizeLine ∧ Q .non (upd H l (.lst (xs ++ [y])))
theorem mt_append : MtM X "list.append" rAppend := by
 intro pins s σ H x vs v us Q I rx rv h
 obtain ⟨l, xs, y, rfl, rfl, hH, hz, q⟩ := h
 cases rx
 obtain ⟨u, rfl, ru⟩ := rv.one
 obtain ⟨z, its, n, r, hl, e⟩ := I.lstM hH
 refine call_meets F.slot_list_append ⟨_, e, rfl⟩ F.entry_list_append (F.args_list_append_2 _ _) (PySem.list_append l its.toArray n u (by rw [List.size_toArray]; omega)) ⟨e, ?_⟩
 refine ⟨.non, _, I.lset (its' := its ++ [u]) hH e (by simp) (r.append (.cons ru .nil)) ?_, rfl, q⟩
 rw [List.length_append, List.length_singleton]
 omega
def rReverse : V → List V → Hp → VK → Prop := fun x vs H Q => ∃ l xs, x = .ref l ∧ vs = [] ∧ H l = some (.lst xs) ∧ Q .non (upd H l (.lst xs.reverse))
theorem mt_reverse : MtM X "list.reverse" rReverse := by
 intro pins s σ H x vs v us Q I rx rv h
 obtain ⟨l, xs, rfl, rfl, hH, q⟩ := h
 cases rx
 have hus := rv.zero
 subst hus
 obtain ⟨z, its, n, r, hl, e⟩ := I.lstM hH
 refine call_meets F.slot_list_reverse ⟨_, e, rfl⟩ F.entry_list_reverse (F.args_list_reverse_1 _) (AutoSeq1.list_reverse_list_0 l its.toArray n (by rw [List.size_toArray]; omega)) ⟨e, ?_⟩
 refine ⟨.non, _, I.lset (its' := its.reverse) hH e (by simp) r.reverse ?_, rfl, q⟩
 rw [List.length_reverse]
 omega
def rCat : R2 := fun x y H Q => ∃ l b xs zs, x = .ref l ∧ y = .ref b ∧ H l = some (.lst xs) ∧ H b = some (.lst zs) ∧ xs.length + zs.length ≤ sizeLine ∧ ∀ p, H p = none → Q (.ref p) (upd H p (.lst (xs ++ zs)))
theorem op_cat : OpR X (binaryOp .Add) rCat := by
 intro pins s σ H x y v u Q I rx ry h
 obtain ⟨l, b, xs, zs, rfl, rfl, hH, hB, hz, q⟩ := h
 cases rx
 cases ry
 obtain ⟨z, its, n, r, hl, e⟩ := I.lstM hH
 obtain ⟨z2, its2, n2, r2, hl2, e2⟩ := I.lstM hB
 refine PySem.P.add_list e e2 ?_ (by rw [List.size_toArray, List.size_toArray]; omega)
 have ea : its.toArray ++ its2.toArray = (its ++ its2).toArray := by simp
 rw [ea]
 exact ⟨.ref _, _, I.lnew (t' := s.toks) (r.append r2) (by rw [List.length_append]; omega), rfl, q _ I.fresh⟩
def rRep : R2 := fun x y H Q => ∃ l k xs, x = .ref l ∧ y = .int k ∧ H l = some (.lst xs) ∧ -(2 ^ 63) ≤ k ∧ k < 2 ^ 63 ∧ xs.length * k.toNat ≤ sizeLine ∧
 ∀ p, H p = none → Q (.ref p) (upd H p (.lst (List.replicate k.toNat xs).flatten))
theorem len_rep {α : Type} (xs : List α) (k : Nat) : (List.replicate k xs).flatten.length = k * xs.length := by
 induction k with
 | zero => simp
 | succ k ih => rw [List.replicate_succ, List.flatten_cons, List.length_append, ih, Nat.succ_mul, Nat.add_comm]
theorem op_rep : OpR X (binaryOp .Mult) rRep := by
 intro pins s σ H x y v u Q I rx ry h
 obtain ⟨l, k, xs, rfl, rfl, hH, h1, h2, hz, q⟩ := h
 cases rx
 obtain ⟨t, rfl⟩ := ry
 obtain ⟨z, its, n, r, hl, e⟩ := I.lstM hH
 have hlen : its.toArray.size * k.toNat ≤ sizeLine := by rw [List.size_toArray, ← hl]; exact hz
 have hcap : ¬ its.toArray.size * k.toNat > (2 ^ 63 - 1) / 8 := by
  have : (sizeLine : Nat) ≤ (2 ^ 63 - 1) / 8 := by decide
  omega
 have hfit : ¬ (!Builtin.List.listFitsIndex k) = true := by
  rw [fitsIndex_both h1 h2]
  exact Bool.false_ne_true
 have hlong : ¬ Builtin.List.listTooLong (its.toArray.size * k.toNat) = true := by
  rw [notLongL hlen]
  exact Bool.false_ne_true
 have hnew : List.foldl (fun x1 x2 => x1 ++ x2) #[] (List.replicate (if its.toArray.isEmpty = true then 0 else k.toNat) its.toArray) = (List.replicate k.toNat its).flatten.toArray := by
  have f0 : ∀ m : Nat, List.foldl (fun x1 x2 => x1 ++ x2) #[] (List.replicate m its.toArray) = (List.replicate m its).flatten.toArray := fun m => by
   have := foldl_rep its m []
   rw [List.nil_append] at this
   exact this
  rw [f0]
  cases its with
  | nil => simp
  | cons a r' => rw [if_neg (by simp)]
 refine wpAny_binaryOp_repeat_ref (T := "list") (U := "int") (by decide) ⟨_, e, rfl⟩ (fun s' => typeIs_int s' k t) noFill_list_mul F.fills_int_mul F.slot_int_rmul repeat_list F.slot_int_index.lookup
  (call_meets F.slot_int_rmul (typeIs_int s k t) F.entry_int_rmul (F.args_int_rmul_2 _ _) (int___rmul___int_list k t l its.toArray n)
   ⟨e, rfl, ⟨_, e, rfl⟩, call_meets F.slot_list_mul ⟨_, e, rfl⟩ F.entry_list_mul (F.args_list_mul_2 _ _) (AutoListH.list___mul___list_int_3 l its.toArray n k t hfit hcap hlong) ⟨e, ?_⟩⟩)
 rw [hnew]
 exact ⟨.ref _, _, I.lnew (t' := s.toks) (r.rep k.toNat) (by rw [len_rep, Nat.mul_comm]; exact hz), rfl, q _ I.fresh⟩
end
section
variable {prog : Program} {w : World} {A : Around} {E : Value → Shared → Prop} {s : Shared}
end
section
variable {X : Cx}
end
end L2
namespace Att
open PySem PySem.W PySem.Calls PyProof.Rows
theorem ints_of_wellAll {P : Params} {h : Heap} : ∀ (ns : List Int) (vs : List Value), WellAll P h vs (ns.map WData.int) → IntsAre vs ns := by
 intro ns
 induction ns with
 | nil =>
   intro vs w
   rw [List.map_nil] at w
   cases w
   exact .nil
 | cons n ns ih =>
   intro vs w
   rw [List.map_cons] at w
   cases w with
   | cons a b =>
     cases a
     exact .cons _ _ (ih _ b)
theorem script_of {l : OpenLaw} {n : Nat} (hn : l.most = some n) {P : Params} {h : Heap} {args : List WData} {vals : List Value}
 (hpre : l.row.toRowW.claim.pre args = true) (hwl : WellAll P h vals args) :
 ∃ a vs ns, vals = [Value.ref a] ∧ args = [WData.list (ns.map WData.int)] ∧ h.get? a = some { cls := .type "list", data := .seq vs.toArray } ∧ IntsAre vs ns ∧ ns.length ≤ n := by
 have hsh : WShape.hasAll [] args [.list .int] = true := (pre_splitW hpre).1
 have hc : l.pre.holds [] { args := args } = true := (pre_splitW hpre).2
 obtain ⟨d, r, rfl, h1, h2⟩ := hasAllW_cons hsh
 obtain rfl := hasAllW_nil h2
 obtain ⟨xs, rfl, h3⟩ := hasW_list h1
 obtain ⟨ns, rfl⟩ := items_int h3
 have hlen : ns.length ≤ n := by
  unfold OpenLaw.pre at hc
  have h4 : (WTm.not (.lt (.lit (.int (n : Int))) (.len (.arg 0)))).holds [] { args := [.list (ns.map .int)] } = true := by
   have h4 := (holds_andW hc).1
   rw [hn] at h4
   exact h4
  have h5 := condW_of h4 (w_not (w_lt w_lit (w_len_list (w_arg rfl))))
  rw [List.length_map] at h5
  refine Nat.le_of_not_lt fun q => ?_
  have q' : (n : Int) < ((ns.length : Nat) : Int) := by omega
  first
   | (rw [decide_eq_true q'] at h5; exact absurd h5 (by decide))
   | (simp at h5; omega)
 cases hwl with
 | cons w1 w2 =>
   cases w2
   cases w1 with
   | list ho hall => exact ⟨_, _, ns, rfl, rfl, ho, ints_of_wellAll ns _ hall, hlen⟩
theorem post_true (l : OpenLaw) (args : List WData) : l.row.toRowW.claim.post args (.bool true) args = true :=
 postW_of (r := l.row.toRowW) (X := (true == true))
  (show WShape.has [] (.bool true) .bool = true by first | rfl | decide | simp [WShape.has, WShape.arms, WShape.armsAll])
  (show (WTm.eq .res (.lit (.bool true))).value [] { args := args, res := some (.bool true), after := args } = some (.bool (true == true)) from w_eq_bool (w_res rfl) w_lit) rfl
theorem attach_call {l : OpenLaw} {n : Nat} {q : Program} {loose : List Str} {XP : (Str → Option Value) → Heap → Prop} {YP : World → Heap → Prop} {d : DefRec}
 (hn : l.most = some n) (hdf : d.params.defaults = [])
 (call : ∀ (w : World) (s₀ s₁ : Shared) (mg mb : Str → Option Value) (fa : Addr) (o : Obj) (pm cd doc : Value) (a : Addr) (vs : List Value) (ns : List Int),
  Ground q loose [] XP w s₀ mg mb s₁.heap → YP w s₁.heap →
  s₁.heap.get? fa = some o → o.data = .func (docDef d.name d.params d.body d.scope pm cd doc) → s₁.heap.CodeRec cd d.name → mg d.name = some (.ref fa) →
  s₁.heap.get? a = some { cls := .type "list", data := .seq vs.toArray } → IntsAre vs ns → ns.length ≤ n → s₁.gens = #[] →
  codeAny (model l.prog w) callerA (.call (.ref fa) ⟨[.ref a], []⟩) (fun r s' => r = .ok (.ret (.bool true)) ∧ OldK s₁.heap s'.heap ∧ s'.os = s₁.os ∧ AllBare s'.gens) s₁) :
 WalkO q loose XP YP l.row.toRowW d [] (fun f vs => PySem.call f vs) := by
 intro w s₀ s₁ mg mb G Y fa o pm cd doc dV kV ho hd hcd hD hmg hg args vals as hpre hlay hrd hwl hlo
 obtain rfl : dV = .none := Dflts.none hD hdf
 obtain rfl : kV = .none := Dflts.noKw hD
 obtain ⟨a, vs, ns, rfl, rfl, hobj, hints, hlen⟩ := script_of hn hpre hwl
 refine enter_call (codeAny_mono (call w s₀ s₁ mg mb fa o pm cd doc a vs ns G Y ho (fd_plain hd) hcd hmg hobj hints hlen hg) fun r s' hq => ?_)
 obtain ⟨rfl, h2, h3, h4⟩ := hq
 exact ⟨.inl ⟨.bool true, .bool true, [], rfl, fun _ => rfl, .bool true, post_true l _, fun _ => ⟨List.Pairwise.nil, fun _ hm => (nomatch hm)⟩⟩, h2, h3, h4⟩
section
variable {prog : Program} {w : World} {A : Around} {E : Value → Shared → Prop} {s : Shared} {K : Frag}
end
end Att
namespace L2
open PySem PySem.Spec PyProof.Rows
theorem vals_ints : ∀ {vs : List Value} {ns : List Int}, IntsAre vs ns → Vals (ns.map V.int) vs
 | _, _, .nil => .nil
 | _, _, .cons n t h => .cons ⟨t, rfl⟩ (vals_ints h)
def Only (H : Hp) : Prop := ∀ b, H b = none ∨ ∃ o xs, H b = some (.frz o (.lst xs))
theorem law_call {P : Program} {w : World} {K : PySem.W.Frag} {mg mb : Str → Option Value} {CX : CXT} {k : Nat} {fa a : Addr} {fd : FuncData} {x : Str} {sp : Sp} {s₁ : Shared} {vs : List Value} {ns : List Int}
 (KX : K.In s₁.heap) (hns : s₁.heap.Ns mainGlobals mg) (hb : s₁.heap.Ns builtinsNs mb) (hbb : ∀ x : Str, x ≠ "__name__" → mb x = bootBuiltins x) (hlim : s₁.heap.NoLimit) (hg : s₁.gens = #[])
 (ha : s₁.heap.get? a = some { cls := .type "list", data := .seq vs.toArray }) (hi : IntsAre vs ns) (hl : ns.length ≤ sizeLine) (hr : Room k callerA)
 (F : ∀ base : Heap, K.In base → base.Ns mainGlobals mg → FnOk P w K mg base CX k fa fd [x] sp) (hbind : ∀ (s : Shared) (u : Value), BindsTo s fd ⟨[u], []⟩ [(x, u)])
 (hsp : ∀ H : Hp, Only H → SqL K H a (ns.map V.int) → sp [.ref a] H (fun v _ => v = .bl true) fun _ _ _ => False)
 (hCX : ∀ H e s', CX [] H s₁ (fun _ _ _ => False) e s' → False) :
 codeAny (model P w) callerA (.call (.ref fa) ⟨[.ref a], []⟩) (fun r s' => r = .ok (.ret (.bool true)) ∧ OldK s₁.heap s'.heap ∧ s'.os = s₁.os ∧ AllBare s'.gens) s₁ := by
 have rv := vals_ints hi
 have lenV := hi.length
 have core : ∀ H : Hp, Only H → SqL K H a (ns.map V.int) → HOk P w H s₁.heap → (∀ b, H b ≠ none → b = a) → (H a ≠ none → K.lookup a = none) →
  codeAny (model P w) callerA (.call (.ref fa) ⟨[.ref a], []⟩) (fun r s' => r = .ok (.ret (.bool true)) ∧ OldK s₁.heap s'.heap ∧ s'.os = s₁.os ∧ AllBare s'.gens) s₁ := by
  intro H hO hS hok hA hK
  have base_of : ∀ {b : Addr} {o : Obj}, s₁.heap.get? b = some o → H b = none → (hidT s₁.heap H).get? b = some o := fun e n => hidT_get e n
  have noA : ∀ {b : Addr} {o : Obj} {es : Array DictEntry} {ep : Nat}, s₁.heap.get? b = some o → o.data = .dict es ep → H b = none := fun {b o es ep} e d => by
   cases q : H b with
   | none => rfl
   | some u =>
     have e' : b = a := hA b (by rw [q]; simp)
     subst e'
     rw [ha] at e; cases e
     have d' : Data.seq vs.toArray _ = Data.dict es ep := d
     cases d'
  have nsK : ∀ {b : Addr} {m : Str → Option Value}, s₁.heap.Ns b m → (hidT s₁.heap H).Ns b m := fun {b m} ⟨o, es, ep, e, d, r⟩ => ⟨o, es, ep, base_of e (noA e d), d, r⟩
  have hKb : K.In (hidT s₁.heap H) := fun b o e => base_of (KX b o e) (by
   cases q : H b with
   | none => rfl
   | some u =>
     have e' : b = a := hA b (by rw [q]; simp)
     subst e'
     rw [hK (by rw [q]; simp)] at e; cases e)
  have hM : Mod K mg (hidT s₁.heap H) := ⟨hKb, nsK hns, ⟨mb, nsK hb, hbb⟩, let ⟨mc, h1, h2⟩ := hlim; ⟨mc, nsK h1, h2⟩⟩
  have e0 : Env0 P w K mg (hidT s₁.heap H) callerA [] s₁ H := ⟨rfl, hM, fun b o e => of_hidT e, Nat.le_of_eq (hidT_size _ _), trivial, fun b hb => absurd (show b ∈ ([] : List Addr) from hb) (by simp), hok, .of_eq hg⟩
  refine codeAny_mono ((F _ hKb (nsK hns)).run callerA [] s₁ H ⟨[.ref a], []⟩ [.ref a] [.ref a] _ _ hr e0 (hbind s₁ (.ref a)) (.cons rfl .nil) (hsp H hO hS)) fun r s' h => ?_
  cases r with
  | error e => exact (hCX H e s' h).elim
  | ok fl =>
    cases fl with
    | next => exact False.elim h
    | brk => exact False.elim h
    | cont => exact False.elim h
    | ret u =>
      obtain ⟨v, H', os, bare, un, hok', r', q⟩ := h
      have q' : v = .bl true := q
      subst q'
      obtain rfl : u = Value.bool true := r'
      refine ⟨rfl, OldK.of_keep fun b o e => ?_, os, bare⟩
      cases q : H b with
      | none => exact un.keep b o e q (by intro z; exact absurd (show b ∈ ([] : List Addr) from z) (by simp)) (by simp)
      | some u =>
        rcases hO b with z | ⟨ob, xs, z⟩
        · rw [q] at z; cases z
        · have z2 := un.frzs b ob _ z
          obtain ⟨e1, _⟩ := hok b _ z
          obtain ⟨e2, _⟩ := hok' b _ z2
          rw [e] at e1; cases e1
          exact e2
 cases hk : K.lookup a with
 | some o =>
   have e := KX a o hk
   rw [ha] at e
   cases e
   refine core (fun _ => none) (fun _ => .inl rfl) (.inr ⟨_, vs.toArray, _, hk, rfl, rfl, rfl, by rw [List.size_toArray, lenV]; exact hl, by simpa using rv⟩) (fun b u z => by have z' : (none : Option HO) = some u := z; cases z') (fun b z => absurd rfl z) fun z => absurd rfl z
 | none =>
   refine core (fun b => if b = a then some (.frz { cls := .type "list", data := .seq vs.toArray } (.lst (ns.map V.int))) else none) (fun b => ?_) (.inl (.inr ⟨{ cls := .type "list", data := .seq vs.toArray }, if_pos rfl⟩)) (fun b u z => ?_) (fun b z => ?_) fun _ => hk
   · by_cases hb : b = a
     · exact .inr ⟨_, _, if_pos hb⟩
     · exact .inl (if_neg hb)
   · by_cases hb : b = a
     · have z' := (if_pos hb).symm.trans z
       cases z'
       subst hb
       exact ⟨ha, by rw [List.length_map]; exact hl, vs, _, rv, ha⟩
     · have z' := (if_neg hb).symm.trans z
       cases z'
   · by_cases hb : b = a
     · exact hb
     · exact absurd (if_neg hb) z
end L2
namespace L2
open PySem PySem.Spec PyProof.Rows
abbrev KOf {K : PySem.W.Frag} {h : Heap} (_ : K.In h) : PySem.W.Frag := K
theorem walk_of {l : PySem.W.OpenLaw} {n k : Nat} {q : Program} {loose : List Str} {XP : (Str → Option Value) → Heap → Prop} {YP : World → Heap → Prop} {d : DefRec} {K : Params → PySem.W.Frag} {CX : World → CXT} {sp : World → Sp} {x : Str}
 (hn : l.most = some n) (hn2 : n ≤ sizeLine) (hdf : d.params.defaults = []) (hr : Room k callerA)
 (hY : ∀ (w : World) (h : Heap), YP w h → (K w.params).In h)
 (F : ∀ (w : World) (mg : Str → Option Value) (fa : Addr) (h : Heap), (K w.params).In h → h.Ns mainGlobals mg → mg d.name = some (.ref fa) →
  ∃ fd : FuncData, (∀ (s : Shared) (u : Value), BindsTo s fd ⟨[u], []⟩ [(x, u)]) ∧
    ∀ base : Heap, (K w.params).In base → base.Ns mainGlobals mg → FnOk l.prog w (K w.params) mg base (CX w) k fa fd [x] (sp w))
 (hsp : ∀ (w : World) (H : Hp) (a : Addr) (ns : List Int), ns.length ≤ n → Only H → SqL (K w.params) H a (ns.map V.int) → sp w [.ref a] H (fun v _ => v = .bl true) fun _ _ _ => False)
 (hCX : ∀ (w : World) (H : Hp) (s : Shared) (e : Value) (s' : Shared), CX w [] H s (fun _ _ _ => False) e s' → False) :
 PySem.W.WalkO q loose XP YP l.row.toRowW d [] (fun f vs => PySem.call f vs) := by
 refine Att.attach_call hn hdf fun w s₀ s₁ mg mb fa o pm cd doc a vs ns G Y ho hd hcd hmg hobj hints hlen hg => ?_
 have KX := hY w _ Y
 obtain ⟨fd, hb, hF⟩ := F w mg fa _ KX G.T.g hmg
 exact law_call KX G.T.g G.T.b G.T.builtins G.T.nolimit hg hobj hints (Nat.le_trans hlen hn2) hr hF hb (fun H hO hS => hsp w H a ns hlen hO hS) fun H e s' => hCX w H s₁ e s'
end L2
namespace L2
open PySem PySem.Spec PyProof.Rows
def inClass (s : Stmt) (j : Nat) : Stmt := match s with
 | .ClassDef _ _ _ body _ _ _ _ _ _ _ => body.getD j (.Pass ⟨0, 0, 0, 0⟩)
 | _ => .Pass ⟨0, 0, 0, 0⟩
def defArgs (s : Stmt) : Arguments := match s with
 | .FunctionDef _ a _ _ _ _ _ _ _ _ => a
 | _ => { posonlyargs := [], args := [], vararg := none, kwonlyargs := [], kw_defaults := [], kwarg := none, defaults := [] }
def defBody (s : Stmt) : List Stmt := match s with
 | .FunctionDef _ _ b _ _ _ _ _ _ _ => b
 | _ => []
def defScope (s : Stmt) : Scope := match s with
 | .FunctionDef _ _ _ _ _ _ sc _ _ _ => sc
 | _ => { kind := .function, names := [], isGenerator := false, isCoroutine := false }
abbrev CX0 : CXT := fun _ _ _ _ _ _ => False
abbrev E0 : XK := fun _ _ _ => False
theorem pass0 {X : Cx} : Passes CX0 X E0 := fun _ _ _ _ _ _ _ h => h.elim
structure Fun (K : PySem.W.Frag) (x qual : Str) (st : Stmt) (f : Addr) (fd : FuncData) : Prop where
 ex : ∃ (oc : Value) (od : Option Addr) (kV doc pm : Value) (an : Option Addr) (cdv ct : Value) (osl : Array (Option Value)),
  fd = PySem.W.fnOf x qual (defArgs st) (defBody st) (defScope st) .none kV doc pm an cdv ct ∧ K.lookup f = some ⟨oc, od, .func fd, osl⟩ ∧ PySem.W.codeIn K cdv qual = true
 kp : PySem.W.keepIn K (.ref f) = true
section
variable {P : Program} {w : World} {K : PySem.W.Frag} {mg : Str → Option Value} {base : Heap}
theorem Fun.ok {x qual : Str} {st : Stmt} {f : Addr} {fd : FuncData} {N ps : List Str} {k : Nat} {sp : Sp} (F : Fun K x qual st f fd) (S : FnScope N ps (defScope st)) (len : ∀ vs H Q E, sp vs H Q E → vs.length = ps.length)
 (hbody : ∀ (cdv : Value) (A : Around) (outer : List Env) (s : Shared) (H : Hp) (vs : List V) (Q : VK) (E : XK), Room k (A.deeper (envOfC qual (defScope st) s.heap.objs.size f cdv)) → sp vs H Q E →
  ∃ t, PSs (cxOf CX0 P w K mg base N qual (defScope st) f cdv A outer s H E).nox (defBody st) t ∧ t { nx := fun _ H' => Q .non H', rt := Q } (start N vs) H) : FnOk P w K mg base CX0 (k + 1) f fd ps sp := by
 obtain ⟨oc, od, kV, doc, pm, an, cdv, ct, osl, rfl, lk, hcd⟩ := F.ex
 refine fn_of lk hcd S len fun A outer s H vs Q E hr hsp => ?_
 obtain ⟨t, h, q⟩ := hbody cdv A outer s H vs Q E hr hsp
 exact ⟨t, h.nox, q⟩
theorem Fun.binds {x qual : Str} {st : Stmt} {f : Addr} {fd : FuncData} {ps : List Str} (F : Fun K x qual st f fd)
 (h : ∀ (kV doc pm : Value) (an : Option Addr) (cdv ct : Value) (us : List Value), us.length = ps.length → bindArgs (PySem.W.fnOf x qual (defArgs st) (defBody st) (defScope st) .none kV doc pm an cdv ct) ⟨us, []⟩ = pure (ps.zip us)) : Binds K fd ps [] := by
 obtain ⟨oc, od, kV, doc, pm, an, cdv, ct, osl, rfl, lk, hcd⟩ := F.ex
 exact .all (h kV doc pm an cdv ct)
theorem fun_mk {x qual : Str} {st : Stmt} {f : Addr} {oc : Value} {od an : Option Addr} {osl : Array (Option Value)} {kV doc pm cdv ct : Value} (l : K.lookup f = some ⟨oc, od, .func (PySem.W.fnOf x qual (defArgs st) (defBody st) (defScope st) .none kV doc pm an cdv ct), osl⟩)
 (c : PySem.W.codeIn K cdv qual = true) (k : PySem.W.keepIn K (.ref f) = true) : Fun K x qual st f (PySem.W.fnOf x qual (defArgs st) (defBody st) (defScope st) .none kV doc pm an cdv ct) := ⟨⟨oc, od, kV, doc, pm, an, cdv, ct, osl, rfl, l, c⟩, k⟩
end
section
variable {X : Cx}
theorem pv (i : Nat) {x : Str} {pos : Pos} (hN : X.N[i]? = some x := by rfl) (hv : Vis X.env.scope x := by first | exact Or.inl rfl | exact Or.inr (Or.inl rfl) | exact Or.inr (Or.inr rfl)) (hd : (x == ("__debug__" : Str)) = false := by decide)
 (hcd : (x == ("__classdict__" : Str)) = false := by decide) : PE X (.Name x pos) (tVar i) := pe_var hN hv hd hcd
end
def Same (H H' : Hp) : Prop := ∀ b o, H b = some o → H' b = some o
theorem Same.refl (H : Hp) : Same H H := fun _ _ h => h
theorem Same.trans {H H1 H2 : Hp} (a : Same H H1) (b : Same H1 H2) : Same H H2 := fun c o h => b c o (a c o h)
theorem Same.free {H H' : Hp} (e : Same H H') {l : Addr} (h : H' l = Option.none) : H l = Option.none := by
 cases q : H l with
 | none => rfl
 | some o =>
   rw [e l o q] at h
   cases h
theorem Same.seq {K : PySem.W.Frag} {H H' : Hp} {a : Addr} {xs : List V} (e : Same H H') (h : SqL K H a xs) : SqL K H' a xs := by
 rcases h with (h | ⟨o, h⟩) | h
 · exact .inl (.inl (e _ _ h))
 · exact .inl (.inr ⟨o, e _ _ h⟩)
 · exact .inr h
end L2
set_option maxHeartbeats 4000000
namespace Fr
def G (a b : Int) : Int := ((Int.gcd a b : Nat) : Int)
def part (a b : Int) : Int := if b < 0 then -G a b else G a b
def mk (a b : Int) : Int × Int := (a.fdiv (part a b), b.fdiv (part a b))
def low (a b : Int) : Int × Int := (a.fdiv (G a b), b.fdiv (G a b))
end Fr
namespace L2
open PySem PySem.Spec PyProof.Rows
section
variable {X : Cx} {a b c : Expr} {ta tb tc : TE} {pos : Pos}
theorem op_mulB : OpR X (binaryOp .Mult) (rI IntMulOk fun i j => .int (i * j)) := opI fun _ _ _ _ _ _ _ hc q => mul_int q hc
def eqVs (xs ys : List V) : Bool := (List.range (min xs.length ys.length)).all (fun j => eqV (xs.getD j .non) (ys.getD j .non)) && xs.length == ys.length
def rEqT (K : PySem.W.Frag) : R2 := fun x y H Q => ∃ a b xs ys, x = .ref a ∧ y = .ref b ∧ SqT K H a xs ∧ SqT K H b ys ∧ xs.all flatV = true ∧ ys.all flatV = true ∧ Q (.bl (eqVs xs ys)) H
theorem getD_rel {xs : List V} {us : List Value} (r : Vals xs us) {j : Nat} (h : j < us.length) : RelV (xs.getD j .non) us[j] := by
 have hl := r.length
 have hx : j < xs.length := by omega
 obtain ⟨u, e, q⟩ := r.get (i := j) (x := xs[j]) (by rw [List.getElem?_eq_getElem hx])
 rw [List.getElem?_eq_getElem h] at e
 cases e
 rw [List.getD_eq_getElem?_getD, List.getElem?_eq_getElem hx]
 exact q
theorem all_getD {p : V → Bool} {xs : List V} (h : xs.all p = true) {j : Nat} (hj : j < xs.length) : p (xs.getD j .non) = true := by
 rw [List.getD_eq_getElem?_getD, List.getElem?_eq_getElem hj]
 exact List.all_eq_true.mp h _ (List.getElem_mem hj)
theorem op_eqT (hu : X.A.units < cLine) : OpR X (compareOp .Eq) (rEqT X.K) := by
 intro pins s σ H x y v u Q I rx ry h
 obtain ⟨p, q, xs, ys, rfl, rfl, h1, h2, f1, f2, k⟩ := h
 cases rx
 cases ry
 obtain ⟨its, r, pl, hz⟩ := I.tuple h1
 obtain ⟨its2, r2, pl2, hz2⟩ := I.tuple h2
 have l1 := r.length
 have l2 := r2.length
 refine SeqAt.eq_tupleAt (e := fun j => eqV (xs.getD j .non) (ys.getD j .non)) pl pl2 hu (fun j g1 g2 => ?_) ⟨.bl _, H, I, rfl, ?_⟩
 · have g1' : j < its.length := by simpa using g1
   have g2' : j < its2.length := by simpa using g2
   have e := eqAt_V (A := X.A.in1) (s := s) (getD_rel r g1') (getD_rel r2 g2') (all_getD f1 (by omega)) (all_getD f2 (by omega))
   simpa using e
 · have e : ((List.range (min its.toArray.size its2.toArray.size)).all (fun j => eqV (xs.getD j .non) (ys.getD j .non)) && its.toArray.size == its2.toArray.size) = eqVs xs ys := by
    unfold eqVs
    rw [List.size_toArray, List.size_toArray, l1, l2]
   rw [e]
   exact k
theorem call_isT : CallR X (.builtin "isinstance") (fun xs H Q => ∃ x T t k, xs = [x, .ty T] ∧ TyOf X.K H x t ∧ PySem.W.kitOne X.K t (.type T) = some k ∧ Q (.bl k) H) := by
 intro pins s σ H xs us Q I r h
 obtain ⟨x, T, t, k, rfl, ty, e, q⟩ := h
 obtain ⟨u, v, rfl, rx, rv⟩ := Vals.two r
 cases rv
 exact isinst_ok I rx ty e fun tk => ⟨.bl k, H, I.tok _, rfl, q⟩
end
section
variable {X : Cx} {a b c : Expr} {ta tb tc : TE} {pos : Pos}
theorem op_eqI : OpR X (compareOp .Eq) (rI0 fun i j => .bl (decide (i = j))) := opB0 fun _ _ _ _ _ _ _ q => eq_int (by rw [Bool.beq_eq_decide_eq]; exact q)
theorem op_neI : OpR X (compareOp .NotEq) (rI0 fun i j => .bl (!decide (i = j))) := opB0 fun _ _ _ _ _ _ _ q => ne_int (by rw [bne, Bool.beq_eq_decide_eq]; exact q)
def rAddS : R2 := fun x y H Q => ∃ i j, x = .str i ∧ y = .str j ∧ i.length + j.length ≤ sizeLine ∧ Q (.str (i ++ j)) H
def rAddG : R2 := fun x y H Q => rI0 (fun i j => .int (i + j)) x y H Q ∨ rAddS x y H Q ∨ rCat x y H Q
theorem op_addG : OpR X (binaryOp .Add) rAddG := op_add.or ((show OpR X (binaryOp .Add) rAddS from op_add_str).or op_cat)
theorem lenG : CallR X (.builtin "len") (fun xs H Q => (∃ p ys, xs = [.ref p] ∧ (SqL X.K H p ys ∨ SqT X.K H p ys) ∧ Q (.int ys.length) H) ∨ ∃ z, xs = [.str z] ∧ z.length ≤ sizeLine ∧ Q (.int z.length) H) := call_len_seq.or call_len_str
theorem pe_powc {u v z : Int} {i j : Nat} {p q r : Pos} (h : CPow u v) (e : u ^ v.toNat = z) : PE X (.BinOp (.Constant (.int u) i p) .Pow (.Constant (.int v) j q) r) (tC (.int z)) := by
 intro pins s σ H Q I hq
 refine (pe_op op_pow pe_int pe_int) pins s σ H Q I ⟨_, _, rfl, rfl, h, ?_⟩
 show Q (.int (u ^ v.toNat)) H
 rw [e]; exact hq
end
theorem b_len : bootBuiltins "len" = some (.builtin "len") := by decide +kernel
theorem b_isinstance : bootBuiltins "isinstance" = some (.builtin "isinstance") := by decide +kernel
theorem b_int : bootBuiltins "int" = some (.type "int") := by decide +kernel
theorem b_bool : bootBuiltins "bool" = some (.type "bool") := by decide +kernel
theorem b_tuple : bootBuiltins "tuple" = some (.type "tuple") := by decide +kernel
theorem b_list : bootBuiltins "list" = some (.type "list") := by decide +kernel
theorem b_str : bootBuiltins "str" = some (.type "str") := by decide +kernel
structure Got (P : Program) (w : World) (K : PySem.W.Frag) (mg : Str → Option Value) (base : Heap) (k : Nat) (x : Str) (ps : List Str) (sp : Sp) : Prop where
 ex : ∃ f fd, FnOk P w K mg base CX0 k f fd ps sp ∧ Binds K fd ps [] ∧ PySem.W.keepIn K (.ref f) = true ∧ mg x = some (.ref f)
section
variable {X : Cx} {k n : Nat} {x : Str} {ps : List Str} {sp : Sp} {p pos : Pos} {e : Expr} {es : List Expr} {t : TA}
theorem pe_go (g : Got X.prog X.w X.K X.mg X.base k x ps sp) (hr : Room n X.A) (hk : k ≤ n) (hg : Gl X x) (ha : PA X (e :: es) t) (hdb : (x == ("__debug__" : Str)) = false := by decide)
 (he : starEach (e :: es) X.env = (false, eval e X.env) :: starEach es X.env := by rfl) (hpl : (backTo pos (starEach es X.env)).any (·.1) = false := by rfl) :
 PE X (.Call (.Name x p) (e :: es) [] pos) (tCall sp [] E0 t) := by
 obtain ⟨f, fd, F, hb, hkp, hm⟩ := g.ex
 exact pe_call F (hr.mono hk) hg hm hkp hb .nil pass0 ha hdb he hpl
end
end L2
namespace L2
open PySem PySem.Spec PyProof.Rows
mutual
inductive RdD (K : PySem.W.Frag) (H : Hp) : V → PyData → Prop where
 | non : RdD K H .non .none
 | bl (b : Bool) : RdD K H (.bl b) (.bool b)
 | int (i : Int) : RdD K H (.int i) (.int i)
 | str (x : Str) : RdD K H (.str x) (.str x)
 | lst {a : Addr} {xs : List V} {ds : List PyData} : SqL K H a xs → RdDs K H xs ds → RdD K H (.ref a) (.list ds)
 | tup {a : Addr} {xs : List V} {ds : List PyData} : SqT K H a xs → RdDs K H xs ds → RdD K H (.ref a) (.tuple ds)
inductive RdDs (K : PySem.W.Frag) (H : Hp) : List V → List PyData → Prop where
 | nil : RdDs K H [] []
 | cons {x : V} {xs : List V} {d : PyData} {ds : List PyData} : RdD K H x d → RdDs K H xs ds → RdDs K H (x :: xs) (d :: ds)
end
section
variable {X : Cx} {pins : List (Addr × Obj)} {σ : St} {H : Hp} {s : Shared} {h' : Heap}
theorem RdD.reads (I : Inv X pins σ H s) {x : V} {d : PyData} {u : Value} (q : RdD X.K H x d) : RelV x u → ∃ as, Reads s.heap u d as :=
 RdD.rec (motive_1 := fun x d _ => ∀ u : Value, RelV x u → ∃ as, Reads s.heap u d as) (motive_2 := fun xs ds _ => ∀ us : List Value, Vals xs us → ∃ as, ReadsAll s.heap us ds as)
  (fun u r => by cases r; exact ⟨_, .none⟩) (fun b u r => by cases r; exact ⟨_, .bool b⟩) (fun i u r => by obtain ⟨t, rfl⟩ := r; exact ⟨_, .int i t⟩) (fun x u r => by obtain ⟨t, rfl⟩ := r; exact ⟨_, .str x t⟩)
  (fun h _ ih u r => by
   cases r
   obtain ⟨its, rv, ⟨o, n, e, c, _, d⟩, _⟩ := I.list h
   obtain ⟨as, ra⟩ := ih its rv
   exact ⟨_, .list e c d (by simpa using ra)⟩)
  (fun h _ ih u r => by
   cases r
   obtain ⟨its, rv, ⟨o, e, c, n, d⟩, _⟩ := I.tuple h
   obtain ⟨as, ra⟩ := ih its rv
   exact ⟨_, .tuple e c d (by simpa using ra)⟩)
  (fun us r => by cases r; exact ⟨_, .nil⟩)
  (fun _ _ h t us r => by
   cases r with
   | cons r rs =>
     obtain ⟨as, ra⟩ := h _ r
     obtain ⟨bs, rb⟩ := t _ rs
     exact ⟨_, .cons ra rb⟩) q u
def rEqD (K : PySem.W.Frag) (neg : Bool) : R2 := fun x y H Q => ∃ d e, RdD K H x d ∧ RdD K H y e ∧ SeqAt.shaped d = true ∧ SeqAt.shaped e = true ∧ Q (.bl (if neg then !(PyData.eqv d e) else PyData.eqv d e)) H
theorem op_eqD (hu : X.A.units + 64 < cLine) : OpR X (compareOp .Eq) (rEqD X.K false) := by
 intro pins s σ H x y v u Q I rx ry h
 obtain ⟨d, e, h1, h2, s1, s2, q⟩ := h
 obtain ⟨as, ra⟩ := h1.reads I rx
 obtain ⟨bs, rb⟩ := h2.reads I ry
 exact eq_dataH ra rb s1 s2 hu ⟨.bl _, H, I, rfl, q⟩
theorem op_neD (hu : X.A.units + 64 < cLine) : OpR X (compareOp .NotEq) (rEqD X.K true) := by
 intro pins s σ H x y v u Q I rx ry h
 obtain ⟨d, e, h1, h2, s1, s2, q⟩ := h
 obtain ⟨as, ra⟩ := h1.reads I rx
 obtain ⟨bs, rb⟩ := h2.reads I ry
 exact ne_dataH ra rb s1 s2 hu ⟨.bl _, H, I, rfl, q⟩
mutual
theorem RdD.mono {K : PySem.W.Frag} {H H' : Hp} (S : Same H H') : ∀ {x : V} {d : PyData}, RdD K H x d → RdD K H' x d
 | _, _, .non => .non
 | _, _, .bl b => .bl b
 | _, _, .int i => .int i
 | _, _, .str x => .str x
 | _, _, .lst h q => .lst (S.seq h) (RdDs.mono S q)
 | _, _, .tup h q => .tup (by
  rcases h with (h | ⟨o, h⟩) | h
  · exact .inl (.inl (S _ _ h))
  · exact .inl (.inr ⟨o, S _ _ h⟩)
  · exact .inr h) (RdDs.mono S q)
theorem RdDs.mono {K : PySem.W.Frag} {H H' : Hp} (S : Same H H') : ∀ {xs : List V} {ds : List PyData}, RdDs K H xs ds → RdDs K H' xs ds
 | _, _, .nil => .nil
 | _, _, .cons h t => .cons (RdD.mono S h) (RdDs.mono S t)
end
theorem RdDs.append {K : PySem.W.Frag} {H : Hp} : ∀ {xs ys : List V} {ds es : List PyData}, RdDs K H xs ds → RdDs K H ys es → RdDs K H (xs ++ ys) (ds ++ es)
 | _, _, _, _, .nil, q => q
 | _, _, _, _, .cons h t, q => .cons h (RdDs.append t q)
theorem RdDs.take {K : PySem.W.Frag} {H : Hp} : ∀ (n : Nat) {xs : List V} {ds : List PyData}, RdDs K H xs ds → RdDs K H (xs.take n) (ds.take n)
 | 0, _, _, _ => .nil
 | _ + 1, _, _, .nil => .nil
 | n + 1, _, _, .cons h t => .cons h (RdDs.take n t)
theorem RdDs.drop {K : PySem.W.Frag} {H : Hp} : ∀ (n : Nat) {xs : List V} {ds : List PyData}, RdDs K H xs ds → RdDs K H (xs.drop n) (ds.drop n)
 | 0, _, _, q => q
 | _ + 1, _, _, .nil => .nil
 | n + 1, _, _, .cons _ t => RdDs.drop n t
theorem RdDs.length {K : PySem.W.Frag} {H : Hp} : ∀ {xs : List V} {ds : List PyData}, RdDs K H xs ds → xs.length = ds.length
 | _, _, .nil => rfl
 | _, _, .cons _ t => congrArg (· + 1) (RdDs.length t)
theorem RdDs.get {K : PySem.W.Frag} {H : Hp} : ∀ {xs : List V} {ds : List PyData} {i : Nat} {x : V}, RdDs K H xs ds → xs[i]? = some x → ∃ d, ds[i]? = some d ∧ RdD K H x d
 | _, _, _, _, .nil, e => by simp at e
 | _, _, 0, _, .cons h _, e => by simp at e; subst e; exact ⟨_, rfl, h⟩
 | _, _, i + 1, _, .cons _ t, e => by
   obtain ⟨d, h1, h2⟩ := RdDs.get (i := i) t (by simpa using e)
   exact ⟨d, by simpa using h1, h2⟩
theorem Inv.turnedNew {t' : Nat} {ch : List Addr} {T : Addr} {o : HO} (I : Inv X pins σ H s) (k : ∀ b o, b ∉ ch → s.heap.get? b = some o → h'.get? b = some o) (hf : ∀ b ∈ ch, FpOk X pins H b)
 (hT : s.heap.objs.size ≤ T) (new : ObjOk X.prog X.w (upd H T o) h' T o) : Inv X pins σ (upd H T o) { s with heap := h', toks := t' } := by
 have hn : H T = none := I.hok.fresh hT
 have nch : ∀ b u, H b = some u → b ∉ ch := fun b u e z => by rw [(hf b z).1] at e; cases e
 refine I.step (g' := s.gens) (d' := s.drawn) (ch := ch) (fun b hb => ⟨(hf b hb).2.2.2.1, (hf b hb).2.1, (hf b hb).2.2.2.2.1, (hf b hb).2.2.2.2.2⟩)
  (fun b o _ _ hc e _ => k b o hc e) (fun b o _ _ hc e _ => ⟨o.slots, k b o hc e⟩)
  (fun b o _ e n => by rw [upd_ne (Nat.ne_of_lt (Nat.lt_of_lt_of_le (Heap.lt_size e) hT))]; exact n)
  (fun b o hc e => ⟨o, k b o hc e⟩)
  (fun b xs e => by rw [upd_ne (ne_of_none e hn)]; exact e) (fun b o u e => by rw [upd_ne (ne_of_none e hn)]; exact e)
  (fun b ps e => ⟨#[], by rw [upd_ne (ne_of_none e hn), e]; simp⟩) (fun m hm => ?_) (fun b u e => ?_) I.bare
 · obtain ⟨ob, es, ep, ho, r⟩ := hm
   exact ⟨ob, es, ep, k _ ob (fun z => (hf _ z).2.1 rfl) ho, r⟩
 · by_cases hb : b = T
   · subst hb; rw [upd_same] at e; cases e; exact new
   · rw [upd_ne hb] at e
     refine (I.hok b u e).stay (fun c v hc q => k c v ?_ q) (fun c q => by rw [upd_ne (ne_of_none q hn)]; exact q) fun c xs q => by rw [upd_ne (ne_of_none q hn)]; exact q
     rcases hc with z | z
     · rw [z]; exact nch b u e
     · exact nch c _ z
theorem Inv.turnedL {t' : Nat} {ch : List Addr} (I : Inv X pins σ H s) (k : ∀ b o, b ∉ ch → s.heap.get? b = some o → h'.get? b = some o) (hf : ∀ b ∈ ch, FpOk X pins H b) :
 Inv X pins σ H { s with heap := h', toks := t' } := by
 have nch : ∀ b u, H b = some u → b ∉ ch := fun b u e z => by rw [(hf b z).1] at e; cases e
 refine I.step (g' := s.gens) (d' := s.drawn) (ch := ch) (fun b hb => ⟨(hf b hb).2.2.2.1, (hf b hb).2.1, (hf b hb).2.2.2.2.1, (hf b hb).2.2.2.2.2⟩)
  (fun b o _ _ hc e _ => k b o hc e) (fun b o _ _ hc e _ => ⟨o.slots, k b o hc e⟩) (fun _ _ _ _ n => n)
  (fun b o hc e => ⟨o, k b o hc e⟩) (fun _ _ e => e) (fun _ _ _ e => e) (fun b ps e => ⟨#[], by rw [e]; simp⟩) (fun m hm => ?_) (fun b u e => ?_) I.bare
 · obtain ⟨ob, es, ep, ho, r⟩ := hm
   exact ⟨ob, es, ep, k _ ob (fun z => (hf _ z).2.1 rfl) ho, r⟩
 · refine (I.hok b u e).stay (fun c v hc q => k c v ?_ q) (fun _ q => q) fun _ _ q => q
   rcases hc with z | z
   · rw [z]; exact nch b u e
   · exact nch c _ z
def Itz (K : PySem.W.Frag) (l1 l2 : Addr) : It :=
 ⟨fun i H => ∃ xs ys, SqL K H l1 xs ∧ SqL K H l2 ys ∧ i < xs.length ∧ i < ys.length,
  fun i H x H' => ∃ T a b, H T = none ∧ x = .ref T ∧ H' = upd H T (.tup [a, b]) ∧ (∀ xs, SqL K H l1 xs → xs[i]? = some a) ∧ (∀ ys, SqL K H l2 ys → ys[i]? = some b),
  fun i H => ∃ xs ys, SqL K H l1 xs ∧ SqL K H l2 ys ∧ (xs.length ≤ i ∨ ys.length ≤ i)⟩
def ZipSt (z TI TO i1 i2 l1 l2 : Addr) (i : Nat) (h : Heap) : Prop := IsZip h z TI TO .none ∧ IsPair h TI (.ref i1) (.ref i2) ∧ (∃ a b, IsPair h TO a b) ∧ h.IsListIter i1 l1 i ∧ h.IsListIter i2 l2 i
theorem turn_zip {P : Program} {w : World} {K : PySem.W.Frag} {elts : List Expr} {kk : Nat} {tpos : Pos} (z TI TO i1 i2 l1 l2 : Addr) (D : ZipApart z TI TO i1 i2 l1 l2) :
 Turn P w K (.Tuple elts kk tpos) (Itz K l1 l2) [z, TI, TO, i1, i2] z (ZipSt z TI TO i1 i2 l1 l2) where
 mem := by simp
 obj := fun i h st b hb => by
  obtain ⟨hz, hTI, ⟨a, c, hTO⟩, ⟨o1, e1, _, d1⟩, ⟨o2, e2, _, d2⟩⟩ := st
  simp only [List.mem_cons, List.not_mem_nil, or_false] at hb
  rcases hb with rfl | rfl | rfl | rfl | rfl
  · exact ⟨_, hz, fun v q => by cases (show Data.fields _ = Data.cell v from q)⟩
  · exact ⟨_, hTI, fun v q => by cases (show Data.seq _ _ = Data.cell v from q)⟩
  · exact ⟨_, hTO, fun v q => by cases (show Data.seq _ _ = Data.cell v from q)⟩
  · exact ⟨_, e1, fun v q => by rw [d1] at q; cases q⟩
  · exact ⟨_, e2, fun v q => by rw [d2] at q; cases q⟩
 keep := fun i h h' st k => by
  obtain ⟨hz, hTI, ⟨a, c, hTO⟩, h1, h2⟩ := st
  exact ⟨k z (by simp) _ hz, k TI (by simp) _ hTI, ⟨a, c, k TO (by simp) _ hTO⟩, h1.at fun o e => k i1 (by simp) o e, h2.at fun o e => k i2 (by simp) o e⟩
 item := by
  intro X hP hw hK hc i pins s σ H E I hf st hg
  subst hP hw hK
  obtain ⟨xs, ys, q1, q2, g1, g2⟩ := hg
  obtain ⟨its1, r1, p1, z1⟩ := I.list q1
  obtain ⟨its2, r2, p2, z2⟩ := I.list q2
  obtain ⟨u1, e1, ru1⟩ := r1.get (List.getElem?_eq_getElem g1)
  obtain ⟨u2, e2, ru2⟩ := r2.get (List.getElem?_eq_getElem g2)
  obtain ⟨hz, hTI, ⟨a, c, hTO⟩, h1, h2⟩ := st
  refine wpAny_pyNext_zip_item D hz hTI hTO h1 h2 p1.isList p2.isList (x := u1) (y := u2) (by simpa using e1) (by simpa using e2) fun h1' a1 a2 a3 a4 a5 a6 hk => ⟨_, rfl, ?_⟩
  refine wpAny_letOwnedTupleGo_zip a1 fun h2' hz' hs' => ?_
  have lt : ∀ {c o}, s.heap.get? c = some o → s.heap.objs.size ≠ c := fun e => Nat.ne_of_gt (Heap.lt_size e)
  have Tz : s.heap.objs.size ≠ z := lt hz
  have kz : ∀ b o, b ≠ z → h1'.get? b = some o → h2'.get? b = some o := fun b o hb e => hs'.extBut _ _ hb e
  have I' : Inv X pins σ (upd H s.heap.objs.size (.tup [xs[i], ys[i]])) { s with heap := h2' } := by
   refine I.turnedNew (t' := s.toks) (ch := [z, TO, i1, i2]) (fun b o hb e => ?_) (fun b hb => hf b (by
    simp only [List.mem_cons, List.not_mem_nil, or_false] at hb ⊢
    rcases hb with rfl | rfl | rfl | rfl <;> simp)) (Nat.le_refl _) ?_
   · simp only [List.mem_cons, List.not_mem_nil, or_false, not_or] at hb
     exact kz b o hb.1 (hk b o hb.1 hb.2.1 hb.2.2.1 hb.2.2.2 e)
   · exact ⟨(by show 2 ≤ sizeLine; decide), [u1, u2], .cons ru1 (.cons ru2 .nil), _, kz _ _ Tz a5, rfl, _, rfl⟩
  refine ⟨.ref s.heap.objs.size, _, I', rfl, ⟨s.heap.objs.size, xs[i], ys[i], I.hok.fresh (Nat.le_refl _), rfl, rfl, fun xs' q' => ?_, fun ys' q' => ?_⟩, ⟨hz', ?_, ⟨_, _, kz _ _ D.TOz a2⟩, ?_, ?_⟩, fun b hb => ?_⟩
  · rw [I.list_inj q' q1]; exact List.getElem?_eq_getElem g1
  · rw [I.list_inj q' q2]; exact List.getElem?_eq_getElem g2
  · exact kz _ _ D.TIz (hk _ _ D.TIz D.TITO D.TIi1 D.TIi2 hTI)
  · exact a3.at fun o e => kz _ _ D.i1z e
  · exact a4.at fun o e => kz _ _ D.i2z e
  · have n := (hf b hb).1
    simp only [List.mem_cons, List.not_mem_nil, or_false] at hb
    have ob : ∃ o, s.heap.get? b = some o := by
     obtain ⟨o1, x1, _⟩ := h1
     obtain ⟨o2, x2, _⟩ := h2
     rcases hb with rfl | rfl | rfl | rfl | rfl
     · exact ⟨_, hz⟩
     · exact ⟨_, hTI⟩
     · exact ⟨_, hTO⟩
     · exact ⟨_, x1⟩
     · exact ⟨_, x2⟩
    obtain ⟨o, eo⟩ := ob
    rw [upd_ne (Ne.symm (lt eo))]
    exact n
 done := by
  intro X hP hw hK hc i pins s σ H E I hf st hg
  subst hP hw hK
  obtain ⟨xs, ys, q1, q2, g⟩ := hg
  obtain ⟨its1, r1, p1, z1⟩ := I.list q1
  obtain ⟨its2, r2, p2, z2⟩ := I.list q2
  obtain ⟨hz, hTI, ⟨a, c, hTO⟩, h1, h2⟩ := st
  have l1' := r1.length
  have l2' := r2.length
  have hend : its1.toArray[i]? = none ∨ its2.toArray[i]? = none := by
   rcases g with g | g
   · exact .inl (Array.getElem?_eq_none (by rw [List.size_toArray]; omega))
   · exact .inr (Array.getElem?_eq_none (by rw [List.size_toArray]; omega))
  refine wpAny_pyNext_zip_end (I.ok.hd hc) D hz hTI hTO h1 h2 p1.isList p2.isList hend fun h' hk => ⟨rfl, ?_⟩
  refine I.turnedL (t' := s.toks) (ch := [z, TO, i1, i2]) (fun b o hb e => ?_) (fun b hb => hf b (by
   simp only [List.mem_cons, List.not_mem_nil, or_false] at hb ⊢
   rcases hb with rfl | rfl | rfl | rfl <;> simp))
  simp only [List.mem_cons, List.not_mem_nil, or_false, not_or] at hb
  exact hk b o hb.1 hb.2.1 hb.2.2.1 hb.2.2.2 e
 self := fun _ _ _ _ _ st h => wpAny_pyIter_zip st.1 h
end
def iZip (K : PySem.W.Frag) (ta : TA) : TI := fun σ H R => ta σ H fun vs H1 => ∃ l1 l2 xs ys, vs = [.ref l1, .ref l2] ∧ SqL K H1 l1 xs ∧ SqL K H1 l2 ys ∧ R (Itz K l1 l2) H1
theorem zip_apart {n l1 l2 : Nat} (h1 : l1 < n) (h2 : l2 < n) : ZipApart (n + 4) (n + 2) (n + 3) n (n + 1) l1 l2 := by
 constructor <;> first | exact Nat.ne_of_lt (by omega) | exact Nat.ne_of_gt (by omega)
theorem pi_zip {X : Cx} {a b : Expr} {ta : TA} {p pos tpos : Pos} {elts : List Expr} {kk : Nat} (hg : Gl X "zip") (hm : X.mg "zip" = none) (ha : PA X [a, b] ta) (hs : starEach [a, b] X.env = [(false, eval a X.env), (false, eval b X.env)] := by rfl) (hs2 : starEach [b] X.env = [(false, eval b X.env)] := by rfl) :
 PI X (.Tuple elts kk tpos) (.Call (.Name "zip" p) [a, b] [] pos) (iZip X.K ta) := by
 intro pins s σ H R I h
 refine Call_ (ld_blt I hg hm (show bootBuiltins "zip" = some (.type "zip") from by decide +kernel) (PyProof.Rows.callWith_type1 (thn (ha pos pins s σ H _ I h) fun us s1 ⟨vs, H1, I1, r1, q1⟩ => ?_) (by rw [hs, hs2]) (by rw [hs2]; rfl)))
 obtain ⟨l1, l2, xs, ys, e, q1, q2, q⟩ := q1
 subst e
 obtain ⟨u1, u2, rfl, ru1, ru2⟩ := r1.two
 cases ru1
 cases ru2
 obtain ⟨its1, v1, p1, z1⟩ := I1.list q1
 obtain ⟨its2, v2, p2, z2⟩ := I1.list q2
 have b1 : l1 < s1.heap.objs.size := by obtain ⟨o, n, e, _⟩ := p1; exact Heap.lt_size e
 have b2 : l2 < s1.heap.objs.size := by obtain ⟨o, n, e, _⟩ := p2; exact Heap.lt_size e
 refine call_zip_2 p1.isList p2.isList fun h' hz hTI hTO h1 h2 sz hk => ?_
 have D := zip_apart b1 b2
 refine wpAny_pyIter_zip hz ?_
 refine ⟨_, _, ZipSt _ _ _ _ _ _ _, _, H1, rfl, I1.kept (t' := s1.toks) hk, turn_zip _ _ _ _ _ _ _ D, ⟨hz, hTI, ⟨_, _, hTO⟩, h1, h2⟩, fun b hb => ?_, q⟩
 have hb' : s1.heap.objs.size ≤ b := by
  simp only [List.mem_cons, List.not_mem_nil, or_false] at hb
  rcases hb with rfl | rfl | rfl | rfl | rfl
  · exact Nat.le_add_right _ _
  · exact Nat.le_add_right _ _
  · exact Nat.le_add_right _ _
  · exact Nat.le_refl _
  · exact Nat.le_add_right _ _
 exact I1.fpOk hb' (I1.hok.fresh hb')
section
variable {X : Cx}
def rEqG (K : PySem.W.Frag) : R2 := fun x y H Q => rI0 (fun i j => .bl (decide (i = j))) x y H Q ∨ rEqT K x y H Q ∨ rEq x y H Q ∨ rEqD K false x y H Q
theorem op_eqG (hu : X.A.units + 64 < cLine) : OpR X (compareOp .Eq) (rEqG X.K) := op_eqI.or ((op_eqT (by omega)).or (op_eq.or (op_eqD hu)))
def rNeG (K : PySem.W.Frag) : R2 := fun x y H Q => rI0 (fun i j => .bl (!decide (i = j))) x y H Q ∨ rNe x y H Q ∨ rEqD K true x y H Q
theorem op_neG (hu : X.A.units + 64 < cLine) : OpR X (compareOp .NotEq) (rNeG X.K) := op_neI.or (op_ne.or (op_neD hu))
end
end L2
namespace L2
open PySem PySem.Spec PyProof.Rows
theorem forIn_fold {α β : Type} {f : α → β → Sem (ForInStep β)} (g : β → α → β) : ∀ (l : List α) (b : β), (∀ x ∈ l, ∀ c, f x c = pure (.yield (g c x))) → forIn l b f = pure (l.foldl g b)
 | [], _, _ => rfl
 | x :: l, b, h => by
   rw [List.forIn_cons, h x List.mem_cons_self, pure_bind]
   exact forIn_fold g l (g b x) fun y hy => h y (List.mem_cons_of_mem _ hy)
def clStep (cells : List (Str × Addr)) (cs : List (Str × Addr)) (x : Str × NameKind) : List (Str × Addr) := if (x.2 == NameKind.free) = true then (x.1, (cells.lookup x.1).getD 0) :: cs else cs
theorem cl_from {cells : List (Str × Addr)} : ∀ (names : List (Str × NameKind)) (cs : List (Str × Addr)), (∀ x ∈ names, x.2 = NameKind.free → ∃ c, cells.lookup x.1 = some c) → (∀ x c, cs.lookup x = some c → cells.lookup x = some c) →
 (∀ x c, (names.foldl (clStep cells) cs).lookup x = some c → cells.lookup x = some c) ∧ (∀ x, ((∃ c, cs.lookup x = some c) ∨ (x, NameKind.free) ∈ names) → ∃ c, (names.foldl (clStep cells) cs).lookup x = some c)
 | [], cs, _, h => ⟨h, fun x q => by
  rcases q with q | q
  · exact q
  · cases q⟩
 | (n, k) :: r, cs, hf, h => by
   have step : ∀ x c, (clStep cells cs (n, k)).lookup x = some c → cells.lookup x = some c := fun x c e => by
    unfold clStep at e
    by_cases hk : ((n, k).2 == NameKind.free) = true
    · rw [if_pos hk] at e
      obtain ⟨c0, hc0⟩ := hf (n, k) List.mem_cons_self (by simpa using hk)
      by_cases hx : x = n
      · subst hx
        rw [List.lookup_cons_self] at e
        rw [hc0] at e ⊢
        exact e
      · have : (x == n) = false := by simpa using hx
        rw [List.lookup_cons, this] at e
        exact h x c e
    · rw [if_neg hk] at e
      exact h x c e
   obtain ⟨a, b⟩ := cl_from r (clStep cells cs (n, k)) (fun x hx => hf x (List.mem_cons_of_mem _ hx)) step
   refine ⟨a, fun x q => b x ?_⟩
   rcases q with ⟨c, q⟩ | q
   · left
     unfold clStep
     by_cases hk : ((n, k).2 == NameKind.free) = true
     · rw [if_pos hk]
       by_cases hx : x = n
       · subst hx; exact ⟨_, List.lookup_cons_self⟩
       · have : (x == n) = false := by simpa using hx
         exact ⟨c, by rw [List.lookup_cons, this]; exact q⟩
     · rw [if_neg hk]; exact ⟨c, q⟩
   · rcases List.mem_cons.mp q with q | q
     · left
       cases q
       unfold clStep
       rw [if_pos (by rfl)]
       exact ⟨_, List.lookup_cons_self⟩
     · exact .inr q
theorem closure_ok {scope : Scope} {env : Env} (h : ∀ x ∈ scope.names, x.2 = NameKind.free → ∃ c, env.cells.lookup x.1 = some c) :
 ∃ cl, closureFor scope env = pure cl ∧ (∀ x c, cl.lookup x = some c → env.cells.lookup x = some c) ∧ (∀ x, (x, NameKind.free) ∈ scope.names → ∃ c, cl.lookup x = some c) := by
 obtain ⟨a, b⟩ := cl_from (cells := env.cells) scope.names [] h (fun x c e => by simp at e)
 refine ⟨_, ?_, a, fun x q => b x (.inr q)⟩
 simp only [closureFor]
 rw [forIn_fold (clStep env.cells) _ _ (fun x hx c => by
  obtain ⟨n, kind⟩ := x
  unfold clStep
  cases hk : (kind == NameKind.free) with
  | false => simp only [hk, Bool.false_eq_true, if_false]
  | true =>
    obtain ⟨c0, hc0⟩ := h (n, kind) hx (by simpa using hk)
    simp only [hk, if_true, cellOf]
    rw [show List.lookup n env.cells = some c0 from hc0]
    rfl)]
 rfl
def cxComp (X : Cx) (scope : Scope) (N : List Str) (cl : List (Str × Addr)) (C : Addr) (s₀ : Shared) (H₀ : Hp) (ex : List Addr) : Cx where
 prog := X.prog
 w := X.w
 K := X.K
 mg := X.mg
 base := X.base
 A := X.A
 N := N
 s₀ := s₀
 H₀ := H₀
 env := compEnvC scope cl C X.env
 outer := X.stack
 stack := X.stack
 ex := ex
 fn := fun _ => false
 calm := X.calm
 pn := []
 xe := fun _ _ => False
def PIfs (X : Cx) (ifs : List Expr) (t : TT) : Prop := ∀ (pins : List (Addr × Obj)) (s : Shared) (σ : St) (H : Hp) (Q : Bool → Hp → Prop), Inv X pins σ H s → t σ H Q →
 wpAny (model X.prog X.w) X.A (forIn ifs true fun c r => if r = true then do let ok ← isTrue c X.env (eval c X.env); pure (ForInStep.yield ok) else pure (ForInStep.yield r)) (TP X pins σ Q) X.xe s
def tYes : TT := fun _ H Q => Q true H
theorem pif_nil {X : Cx} : PIfs X [] tYes := fun _ _ _ H _ I h => wpAny_tests_nil ⟨H, I, h⟩
theorem pif_one {X : Cx} {c : Expr} {t : TT} (h : PT X c t) : PIfs X [c] t := fun pins s σ H Q I q => wpAny_tests_one (h pins s σ H Q I q)
def inSt (cap : List Nat) (x : Option V) (σ : St) : St := x :: cap.map fun i => (σ[i]?).join
def compBody (J : It) (tc : TT) (te : TE) (cap : List Nat) (σ : St) (Q : VK) (H1 : Hp) : Prop := ∀ acc, H1 acc = none → ∃ W : Nat → Nat → Hp → Prop, (∃ m, W 0 m (upd H1 acc (.lst []))) ∧ ∀ i m H, W i m H →
 (J.stop i H ∧ Q (.ref acc) H) ∨ (J.go i H ∧ ∀ x H', J.yld i H x H' → tc (inSt cap (some x) σ) H' fun b H3 => if b = true then te (inSt cap (some x) σ) H3 fun y H4 => ∃ ys, H4 acc = some (.lst ys) ∧ ys.length < sizeLine ∧ ∃ m', m' < m ∧ W (i + 1) m' (upd H4 acc (.lst (ys ++ [y]))) else ∃ m', m' < m ∧ W (i + 1) m' H3)
def tComp (wi : TI) (tc : TT) (te : TE) (cap : List Nat) : TE := fun σ H Q => wi σ H fun J H1 => compBody J tc te cap σ Q H1
theorem lookup_relabel_free {env : Env} : ∀ {names : List (Str × NameKind)} {x : Str}, names.lookup x = some .free →
 (names.map fun (n, k) => if (k == NameKind.free && env.scope.kind == .function && env.kindOf n == some .cell) then (n, NameKind.cell) else (n, k)).lookup x = some .cell ∨
 (names.map fun (n, k) => if (k == NameKind.free && env.scope.kind == .function && env.kindOf n == some .cell) then (n, NameKind.cell) else (n, k)).lookup x = some .free
 | [], _, h => by simp at h
 | (n, k) :: r, x, h => by
   have ih := @lookup_relabel_free env r x
   show List.lookup x ((if (k == NameKind.free && env.scope.kind == .function && env.kindOf n == some .cell) = true then (n, NameKind.cell) else (n, k)) :: _) = _ ∨
    List.lookup x ((if (k == NameKind.free && env.scope.kind == .function && env.kindOf n == some .cell) = true then (n, NameKind.cell) else (n, k)) :: _) = _
   cases hx : x == n with
   | true =>
     simp only [List.lookup_cons, hx] at h
     cases h
     by_cases hc : (NameKind.free == NameKind.free && env.scope.kind == .function && env.kindOf n == some .cell) = true
     · rw [if_pos hc]; left; simp [List.lookup_cons, hx]
     · rw [if_neg hc]; right; simp [List.lookup_cons, hx]
   | false =>
     simp only [List.lookup_cons, hx] at h
     by_cases hc : (k == NameKind.free && env.scope.kind == .function && env.kindOf n == some .cell) = true
     · rw [if_pos hc]; simp only [List.lookup_cons, hx]; exact ih h
     · rw [if_neg hc]; simp only [List.lookup_cons, hx]; exact ih h
theorem of_relabel {env : Env} : ∀ {names : List (Str × NameKind)} {x : Str}, (∀ y ∈ names, y.2 ≠ .cell) →
 ((names.map fun (n, k) => if (k == NameKind.free && env.scope.kind == .function && env.kindOf n == some .cell) then (n, NameKind.cell) else (n, k)).lookup x = some .cell ∨
 (names.map fun (n, k) => if (k == NameKind.free && env.scope.kind == .function && env.kindOf n == some .cell) then (n, NameKind.cell) else (n, k)).lookup x = some .free) → (x, NameKind.free) ∈ names
 | [], _, _, h => by simp at h
 | (n, k) :: r, x, hcell, h => by
   have ih := @of_relabel env r x (fun y hy => hcell y (List.mem_cons_of_mem _ hy))
   have hk := hcell (n, k) List.mem_cons_self
   cases hx : x == n with
   | true =>
     have e : x = n := by simpa using hx
     subst e
     by_cases hc : (k == NameKind.free && env.scope.kind == .function && env.kindOf x == some .cell) = true
     · have : k = .free := by
        rw [Bool.and_eq_true, Bool.and_eq_true] at hc
        simpa using hc.1.1
       subst this
       exact List.mem_cons_self
     · have h' : List.lookup x ((if (k == NameKind.free && env.scope.kind == .function && env.kindOf x == some .cell) = true then (x, NameKind.cell) else (x, k)) :: (r.map fun (n, k) => if (k == NameKind.free && env.scope.kind == .function && env.kindOf n == some .cell) then (n, NameKind.cell) else (n, k))) = some .cell ∨
        List.lookup x ((if (k == NameKind.free && env.scope.kind == .function && env.kindOf x == some .cell) = true then (x, NameKind.cell) else (x, k)) :: (r.map fun (n, k) => if (k == NameKind.free && env.scope.kind == .function && env.kindOf n == some .cell) then (n, NameKind.cell) else (n, k))) = some .free := h
       rw [if_neg hc, List.lookup_cons_self] at h'
       rcases h' with h' | h'
       · exact absurd (Option.some.inj h') hk
       · have := Option.some.inj h'
         subst this
         exact List.mem_cons_self
   | false =>
     refine List.mem_cons_of_mem _ (ih ?_)
     have h' : List.lookup x ((if (k == NameKind.free && env.scope.kind == .function && env.kindOf n == some .cell) = true then (n, NameKind.cell) else (n, k)) :: (r.map fun (n, k) => if (k == NameKind.free && env.scope.kind == .function && env.kindOf n == some .cell) then (n, NameKind.cell) else (n, k))) = some .cell ∨
      List.lookup x ((if (k == NameKind.free && env.scope.kind == .function && env.kindOf n == some .cell) = true then (n, NameKind.cell) else (n, k)) :: (r.map fun (n, k) => if (k == NameKind.free && env.scope.kind == .function && env.kindOf n == some .cell) then (n, NameKind.cell) else (n, k))) = some .free := h
     by_cases hc : (k == NameKind.free && env.scope.kind == .function && env.kindOf n == some .cell) = true
     · rw [if_pos hc] at h'; simp only [List.lookup_cons, hx] at h'; exact h'
     · rw [if_neg hc] at h'; simp only [List.lookup_cons, hx] at h'; exact h'
section
variable {X : Cx} {pins : List (Addr × Obj)} {σ : St} {H : Hp} {s : Shared}
structure CompScope (X : Cx) (scope : Scope) (x : Str) (cn : List Str) (cap : List Nat) : Prop where
 kind : scope.kind = .function
 names : ∀ y ∈ scope.names, y.2 = .local → scope.names.lookup y.1 = some .local
 cell : ∀ y ∈ scope.names, y.2 ≠ .cell
 own : scope.names.lookup x = some .local
 free : ∀ y ∈ scope.names, y.2 = .free → X.env.kindOf y.1 = some .cell ∨ X.env.kindOf y.1 = some .free
 cap : cap.map (fun i => X.N[i]?) = cn.map some
 capf : ∀ y ∈ cn, scope.names.lookup y = some .free
 capo : ∀ y ∈ cn, X.env.scope.names.lookup y = some .cell ∨ X.env.scope.names.lookup y = some .free
 nd : (x :: cn).Nodup
theorem comp_ok {scope : Scope} {x : Str} {cn : List Str} {cap : List Nat} {cl : List (Str × Addr)} {C : Addr} {fp : List Addr} (S : CompScope X scope x cn cap) (I : Inv X pins σ H s) (hf : ∀ b ∈ fp, FpOk X pins H b) (hlt : ∀ b ∈ fp, b < s.heap.objs.size)
 (hc1 : ∀ y c, cl.lookup y = some c → X.env.cells.lookup y = some c) (hc2 : ∀ y, (y, NameKind.free) ∈ scope.names → ∃ c, cl.lookup y = some c) (hC : s.heap.objs.size ≤ C) : (cxComp X scope (x :: cn) cl C s H fp).Ok where
 mod := I.ok.mod
 kind := S.kind
 glob := I.ok.glob
 blt := I.ok.blt
 above := hC
 inj := fun y z c h1 h2 => I.ok.inj y z c (hc1 y c h1) (hc1 z c h2)
 has := fun y h => hc2 y (of_relabel (env := X.env) S.cell h)
 cab := fun y c h => by cases (show false = true from h)
 hd := I.ok.hd
 frames := I.ok.frames
 stk := .inl rfl
 exf := fun b hb => ⟨Nat.ne_of_lt (Nat.lt_of_lt_of_le (hlt b hb) hC), fun y c h => (hf b hb).2.2.2.2.1 y c (hc1 y c h)⟩
 bs := I.bs
 bsz := Nat.le_trans I.ok.bsz I.sz
 noex := fun b o e hb => by
  rcases (hf b hb).2.2.2.1 with z | z
  · exact I.ok.noex b o e z
  · have h1 := Heap.lt_size e
    exact absurd (Nat.lt_of_lt_of_le h1 (Nat.le_trans I.ok.bsz z)) (Nat.lt_irrefl _)
 exfs := fun b hb z => by
  rcases List.mem_cons.mp (I.stkSub b z) with q | q
  · exact (hf b hb).2.1 q
  · exact (hf b hb).2.2.1 q
 funs := I.stack
 frf := I.stkFree
theorem map_get {α β : Type} {l : List α} {f : α → Option β} {m : List β} (h : l.map f = m.map some) : ∀ {j : Nat} {y : β}, m[j]? = some y → ∃ i, l[j]? = some i ∧ f i = some y := by
 intro j y e
 have h2 := congrArg (fun z => z[j]?) h
 simp only [List.getElem?_map] at h2
 rw [e] at h2
 cases q : l[j]? with
 | none => rw [q] at h2; cases h2
 | some i =>
   rw [q] at h2
   exact ⟨i, rfl, by simpa using h2⟩
theorem comp_core {elt iter : Expr} {x : Str} {px : Pos} {ifs : List Expr} {scope : Scope} {pos : Pos} {wi : TI} {tc : TT} {te : TE} (cn : List Str) (cap : List Nat) (S : CompScope X scope x cn cap) (hc : X.calm = true)
 (hi : PI X (.Name x px) iter wi) (hin : ∀ cl C s₀ H₀ ex, PIfs (cxComp X scope (x :: cn) cl C s₀ H₀ ex) ifs tc) (he : ∀ cl C s₀ H₀ ex, PE (cxComp X scope (x :: cn) cl C s₀ H₀ ex) elt te)
 (hs : ∀ z, foldedSetIterable iter X.env z = pure z) {use : Option (Value → Sem Unit)} {Q : VK} {Q' : Value → Shared → Prop} {pins : List (Addr × Obj)} {s : Shared} {σ : St} {H : Hp} (I : Inv X pins σ H s) (h : tComp wi tc te cap σ H Q)
 (fin : ∀ (d C : Addr) (H' : Hp) (s' : Shared) (m : _), Inv X pins σ H' s' → FpOk X pins H' C → s'.heap.Ns C m → Q (.ref d) H' → ∀ r, compPost (model X.prog X.w) X.A X.xe use Q' (.ref d) C (.ok r) s') :
 wpAny (model X.prog X.w) X.A (comprehension (.ListComp elt [⟨.Name x px, iter, ifs, 0⟩] scope pos) scope X.env (firstIterPos [⟨.Name x px, iter, ifs, 0⟩] pos) (newList []) false (firstIter [⟨.Name x px, iter, ifs, 0⟩] X.env) use) Q' X.xe s := by
 obtain ⟨cl, hclos, hc1, hc2⟩ := closure_ok (scope := scope) (env := X.env) fun y hy hk => I.ok.has y.1 (S.free y hy hk)
 refine wpAny_comprehension_free (use := use) rfl hs hclos S.kind S.names (thn (hi pins s σ H _ I h) fun v s1 h1 => thn h1 fun itv s2 h2 => ?_)
 obtain ⟨it, fp, tn, J, H2, e, I2, T, st2, f2, q2⟩ := h2
 subst e
 have hlt : ∀ b ∈ fp, b < s2.heap.objs.size := fun b hb => by
  obtain ⟨o, e, _⟩ := T.obj _ _ st2 b hb
  exact Heap.lt_size e
 refine wpAny_newObj_type (wpAny_newFunctionEnv S.cell (by intro y hy; simp at hy) (fun h₁ hns₁ hsb₁ => ?_) S.kind)
 dsimp only at hns₁ hsb₁ ⊢
 generalize hP : s2.heap.push { cls := .type "list", dict := none, data := .seq ([] : List Value).toArray } = P2 at hns₁ hsb₁ ⊢
 have hC : P2.objs.size = s2.heap.objs.size + 1 := by rw [← hP, Heap.size_push]
 have hDC : s2.heap.objs.size ≠ P2.objs.size := by rw [hC]; exact Nat.ne_of_lt (Nat.lt_succ_self _)
 have hCle : s2.heap.objs.size ≤ P2.objs.size := by rw [hC]; exact Nat.le_succ _
 have neC : ∀ b, b < s2.heap.objs.size → b ≠ P2.objs.size := fun b hb => by rw [hC]; exact Nat.ne_of_lt (Nat.lt_succ_of_lt hb)
 have old : ∀ b o, s2.heap.get? b = some o → h₁.get? b = some o := fun b o e => hsb₁.extBut b o (neC b (Heap.lt_size e)) (Heap.get?_push_of_some _ (hP ▸ Heap.get?_push_of_some _ e))
 have hacc : h₁.get? s2.heap.objs.size = some { cls := .type "list", dict := none, data := .seq ([] : List Value).toArray } := hsb₁.extBut _ _ hDC (Heap.get?_push_of_some _ (hP ▸ Heap.get?_push_size _ rfl))
 have hD0 : H2 s2.heap.objs.size = none := I2.hok.fresh (Nat.le_refl _)
 have ok' : (cxComp X scope (x :: cn) cl P2.objs.size s2 H2 fp).Ok := comp_ok S I2 f2 hlt hc1 hc2 hCle
 obtain ⟨W, ⟨m0, w0⟩, turn⟩ := q2 _ hD0
 have hok1 : HOk X.prog X.w (upd H2 s2.heap.objs.size (.lst [])) h₁ := I2.hok.laid old (Nat.le_refl _) ⟨Nat.zero_le _, [], _, .nil, hacc⟩
 have un1 : Un (frs X.stack) fp H2 (upd H2 s2.heap.objs.size (.lst [])) s2.heap h₁ := Un.laid old (Nat.le_refl _) hD0
 have I4 : ∀ tk, Inv (cxComp X scope (x :: cn) cl P2.objs.size s2 H2 fp) [] (inSt cap none σ) (upd H2 s2.heap.objs.size (.lst [])) { s2 with heap := h₁, toks := tk } := fun tk => by
  refine ⟨ok', rfl, I2.bare, un1, ⟨_, hns₁, fun i y v e1 e2 e3 => ?_⟩, fun y c e => ?_, ?_, fun y c e => ?_, fun p hp => (nomatch hp), hok1, ?_⟩
  · cases i with
    | zero => cases (show (none : Option V) = some v from Option.some.inj e2)
    | succ j =>
      have e1' : cn[j]? = some y := e1
      have ymem : y ∈ cn := List.mem_of_getElem? e1'
      obtain ⟨i0, ci, ni⟩ := map_get S.cap e1'
      have e2' : (cap.map fun i => (σ[i]?).join)[j]? = some (some v) := e2
      rw [List.getElem?_map, ci] at e2'
      have e3' : (σ[i0]?).join = some v := Option.some.inj e2'
      have e4 : σ[i0]? = some (some v) := by
       cases q : σ[i0]? with
       | none => rw [q] at e3'; cases e3'
       | some o => rw [q] at e3'; exact congrArg some e3'
      obtain ⟨m, hn, hl⟩ := I2.loc
      have vis : Vis X.env.scope y := .inr (S.capo y ymem)
      obtain ⟨u, r, lk⟩ := hl i0 y v ni e4 vis
      refine ⟨u, r, .inr ⟨lookup_relabel_free (env := X.env) (S.capf y ymem), ?_⟩⟩
      rcases lk with ⟨kl, _⟩ | ⟨_, c, ec, hcell⟩
      · rcases S.capo y ymem with z | z
        · have kl' : X.env.scope.names.lookup y = some .local := kl
          rw [z] at kl'; cases kl'
        · have kl' : X.env.scope.names.lookup y = some .local := kl
          rw [z] at kl'; cases kl'
      · have fm : (y, NameKind.free) ∈ scope.names := of_relabel (env := X.env) S.cell (lookup_relabel_free (env := X.env) (S.capf y ymem))
        obtain ⟨c', ec'⟩ := hc2 y fm
        have := hc1 y c' ec'
        rw [ec] at this
        cases this
        obtain ⟨o, ho, hd⟩ := hcell
        exact ⟨c, ec', o, old _ _ ho, hd⟩
  · obtain ⟨v, o, ho, hd⟩ := I2.cell y c (hc1 y c e)
    exact ⟨v, o, old _ _ ho, hd⟩
  · show (upd H2 s2.heap.objs.size (.lst [])) P2.objs.size = none
    rw [upd_ne (Ne.symm hDC)]
    exact I2.hok.fresh hCle
  · obtain ⟨v, o, ho, hd⟩ := I2.cell y c (hc1 y c e)
    rw [upd_ne (Nat.ne_of_lt (Heap.lt_size ho))]
    exact I2.freeC y c (hc1 y c e)
  · show (inSt cap none σ).length = (x :: cn).length
    have := congrArg List.length S.cap
    simp only [List.length_map] at this
    simp [inSt, this]
 have stat : ∀ {H' : Hp}, (∀ b ∈ fp, H' b = none) → ∀ b ∈ fp, FpOk (cxComp X scope (x :: cn) cl P2.objs.size s2 H2 fp) [] H' b := fun hn b hb =>
  ⟨hn b hb, neC b (hlt b hb), ok'.exfs b hb, .inl hb, fun y c e => (ok'.exf b hb).2 y c e, fun p hp => (nomatch hp)⟩
 have pgx : PG (cxComp X scope (x :: cn) cl P2.objs.size s2 H2 fp) (.Name x px) (gName 0) := pg_name (i := 0) S.nd rfl (.inl (lookup_relabel_local (env := X.env) S.own)) (.inr (lookup_relabel_local (env := X.env) S.own))
 have loop : ∀ s₃ : Shared, s₃ = { s2 with heap := h₁, toks := s2.toks + ([] : List (Str × Value)).length } →
  codeAny (model X.prog X.w) X.A (.compLoop (.ListComp elt [⟨.Name x px, iter, ifs, 0⟩] scope pos) 0 (.ref it) (.ref s2.heap.objs.size) (compEnvC scope cl P2.objs.size X.env))
   (compPost (model X.prog X.w) X.A X.xe use Q' (.ref s2.heap.objs.size) P2.objs.size) s₃ := by
  rintro s₃ rfl
  refine codeAny_loop rfl (fun n s' => ∃ i H', Inv (cxComp X scope (x :: cn) cl P2.objs.size s2 H2 fp) [] (inSt cap none σ) H' s' ∧ tn i s'.heap ∧ (∀ b ∈ fp, H' b = none) ∧ W i n H') ?_ m0
   ⟨0, _, I4 _, T.keep _ _ _ st2 fun b hb o e => old b o e, fun b hb => by rw [upd_ne (Nat.ne_of_lt (hlt b hb))]; exact (f2 b hb).1, w0⟩
  rintro n s3 ⟨i, H3, I3, st3, fr3, w3⟩
  show wpAny _ X.A ((compTurn (.ListComp elt [⟨.Name x px, iter, ifs, 0⟩] scope pos) 0 (.ref it) (.ref s2.heap.objs.size) (compEnvC scope cl P2.objs.size X.env)).onRaise (fun x => do noteFrame x (compEnvC scope cl P2.objs.size X.env); theTreesLotGoes x)) _ _ s3
  refine wpAny_noted ?_
  rw [compTurn_list]
  refine wpAny_bind (wpAny_standAt (wpAny_bind ?_))
  rcases turn i n H3 w3 with ⟨stop, qn⟩ | ⟨go, step⟩
  · refine wpAny_mono (T.done (cxComp X scope (x :: cn) cl P2.objs.size s2 H2 fp) rfl rfl rfl hc i [] s3 _ H3 (fun _ _ => False) I3 (stat fr3) st3 stop) (fun r s4 ⟨hr, I5⟩ => ?_) fun _ _ z => z.elim
    subst hr
    refine wpAny_pure ?_
    obtain ⟨m, hn, _⟩ := id I5.loc
    have J : Inv X pins σ H3 s4 := by
     have kp : ∀ b o, b ≠ P2.objs.size → s4.heap.get? b = some o → s4.heap.get? b = some o := fun b o hb e => e
     have b0 := I5.base
     have sm : ∀ b o, s2.heap.get? b = some o → b ≠ P2.objs.size := fun b o e => neC b (Heap.lt_size e)
     refine I2.call' (s' := s4) (ch := fp) I5.os ⟨fun b o e n hb hx => kp _ _ (sm b o e) (b0.keep b o e n hb hx), fun b o e n hb hx => ?_, b0.free, fun b o e hx => ?_, b0.tups, b0.frzs, b0.tbls⟩ (fun b u e => ?_) I5.bare
      fun b hb => ⟨(f2 b hb).2.2.2.1, (f2 b hb).2.1, (f2 b hb).2.2.2.2.1, (f2 b hb).2.2.2.2.2⟩
     · obtain ⟨sl, q⟩ := b0.slot b o e n hb hx
       exact ⟨sl, kp _ _ (sm b o e) q⟩
     · obtain ⟨o', q⟩ := b0.there b o e hx
       exact ⟨o', kp _ _ (sm b o e) q⟩
     · have hfree : H3 P2.objs.size = none := I5.free
       refine (I5.hok b u e).stay (fun c v hc' q => kp c v ?_ q) (fun _ q => q) fun _ _ q => q
       rcases hc' with z | z
       · rw [z]; exact ne_of_none e hfree
       · exact ne_of_none z hfree
    have fC : FpOk X pins H3 P2.objs.size := by
     have q := I2.fpOk hCle (I2.hok.fresh hCle)
     exact ⟨I5.free, q.2⟩
    exact fin _ _ _ _ m J fC hn qn _
  · refine wpAny_mono (T.item (cxComp X scope (x :: cn) cl P2.objs.size s2 H2 fp) rfl rfl rfl hc i [] s3 _ H3 (fun _ _ => False) I3 (stat fr3) st3 go) (fun r s4 ⟨u, hr, h4⟩ => ?_) fun _ _ z => z.elim
    subst hr
    refine wpAny_bind (wpAny_mono h4 (fun _ s5 ⟨xv, H5, I5, r5, y5, st5, fr5⟩ => ?_) fun _ _ z => z.elim)
    have I5' := I5.pinned (stat fr5) (T.obj _ _ st5)
    refine wpAny_bind (wpAny_mono (pgx _ s5 _ H5 xv u (fun σ6 H6 => σ6 = inSt cap (some xv) σ ∧ H6 = H5) I5' r5 ⟨rfl, rfl⟩) (fun _ s6 ⟨σ6, H6, I6, e6, e6'⟩ => ?_) fun _ _ z => z.elim)
    subst e6 e6'
    have again : ∀ {s7 : Shared} {H7 : Hp}, Inv (cxComp X scope (x :: cn) cl P2.objs.size s2 H2 fp) ([] ++ pinsAt fp s5.heap) (inSt cap (some xv) σ) H7 s7 → (∃ m', m' < n ∧ W (i + 1) m' H7) →
     ∃ m, m < n ∧ ∃ i H', Inv (cxComp X scope (x :: cn) cl P2.objs.size s2 H2 fp) [] (inSt cap none σ) H' s7 ∧ tn i s7.heap ∧ (∀ b ∈ fp, H' b = none) ∧ W i m H' := fun {s7 H7} I7 w7 => by
     obtain ⟨m', hm, w7⟩ := w7
     refine ⟨m', hm, i + 1, H7, I7.unpinned.weak rfl fun j v ev => ?_, T.keep _ _ _ st5 fun b hb o e => (I7.pin (b, o) (List.mem_append_right _ (List.mem_append_right _ (mem_pinsAt hb e)))).1, fun b hb => ?_, w7⟩
     · cases j with
       | zero => cases (show (none : Option V) = some v from Option.some.inj ev)
       | succ j => exact ev
     · obtain ⟨o, e, d⟩ := T.obj _ _ st5 b hb
       exact (I7.pin (b, o) (List.mem_append_right _ (List.mem_append_right _ (mem_pinsAt hb e)))).2.1
    refine wpAny_bind (wpAny_mono (hin cl P2.objs.size s2 H2 fp _ s6 _ _ _ I6 (step xv _ y5)) (fun ok s7 ⟨H7, I7, q7⟩ => ?_) fun _ _ z => z.elim)
    cases ok with
    | false =>
      have q7' : ∃ m', m' < n ∧ W (i + 1) m' H7 := by simpa using q7
      exact wpAny_pure ⟨rfl, again I7 q7'⟩
    | true =>
      have q7' := (if_pos rfl).mp q7
      refine wpAny_bind (wpAny_bind (wpAny_mono (he cl P2.objs.size s2 H2 fp _ s7 _ H7 _ I7 q7') (fun yv s8 ⟨y, H8, I8, r8, ys, h8, z8, q8⟩ => ?_) fun _ _ z => z.elim))
      refine wpAny_bind (wpAny_mono (mt_append (X := cxComp X scope (x :: cn) cl P2.objs.size s2 H2 fp) _ s8 _ H8 (.ref s2.heap.objs.size) [y] (.ref s2.heap.objs.size) [yv] (fun _ H9 => ∃ m', m' < n ∧ W (i + 1) m' H9) I8 rfl (.cons r8 .nil) ⟨_, ys, y, rfl, rfl, h8, z8, q8⟩) (fun _ s9 ⟨_, H9, I9, _, q9⟩ => ?_) fun _ _ z => z.elim)
      exact wpAny_pure (wpAny_pure ⟨rfl, again I9 q9⟩)
 exact codeAny_compStart_list (loop _ rfl) (T.self _ 0 _ _ _ (T.keep _ _ _ st2 fun b hb o e => old b o e) (loop _ rfl))
theorem pe_compG {elt iter : Expr} {x : Str} {px : Pos} {ifs : List Expr} {scope : Scope} {pos : Pos} {wi : TI} {tc : TT} {te : TE} (cn : List Str) (cap : List Nat) (S : CompScope X scope x cn cap) (hc : X.calm = true)
 (hi : PI X (.Name x px) iter wi) (hin : ∀ cl C s₀ H₀ ex, PIfs (cxComp X scope (x :: cn) cl C s₀ H₀ ex) ifs tc) (he : ∀ cl C s₀ H₀ ex, PE (cxComp X scope (x :: cn) cl C s₀ H₀ ex) elt te)
 (hs : ∀ z, foldedSetIterable iter X.env z = pure z := by intro _; rfl) : PE X (.ListComp elt [⟨.Name x px, iter, ifs, 0⟩] scope pos) (tComp wi tc te cap) := by
 intro pins s σ H Q I h
 rw [eval_ListComp]
 refine comp_core cn cap S hc hi hin he hs I h fun d C H' s' m J fC hn qn r => ⟨m, hn, fun h' hsb => ⟨.ref d, H', ?_, rfl, qn⟩⟩
 refine J.turnedL (t' := s'.toks) (ch := [C]) (fun b o hb e => hsb.extBut b o (by simpa using hb) e) (fun b hb => ?_)
 cases List.mem_singleton.mp hb
 exact fC
end
end L2
namespace L2
open PySem PySem.Spec PyProof.Rows
section
variable {X : Cx}
def rSlS : V → Option Int → Option Int → Hp → VK → Prop := fun x lo hi H Q => ∃ z, x = .str z ∧ z.length ≤ sizeLine ∧ Q (.str (Txt.slice z lo hi)) H
theorem sl_str : SlR X rSlS := by
 intro pins s σ H x v vl vu lo hi sl Q I rx hs pl pu h
 obtain ⟨z, rfl, hz, q⟩ := h
 obtain ⟨t, rfl⟩ := rx
 refine ⟨"str", _, F.slot_str_getitem.lookup, typeIs_str _ _ _, ?_⟩
 cases pl with
 | none =>
   cases pu with
   | none => exact wpAny_getItem_str_slice (l := none) (u := none) (st := none) hs rfl (post_val_or_str ⟨Nat.le_trans (Txt.slice_le z _ _) hz, fun t' k => ⟨.str _, H, I.tok k, ⟨_, rfl⟩, q⟩⟩)
   | int j uj => exact wpAny_getItem_str_slice (l := none) (u := some (j, uj)) (st := none) hs rfl (post_val_or_str ⟨Nat.le_trans (Txt.slice_le z _ _) hz, fun t' k => ⟨.str _, H, I.tok k, ⟨_, rfl⟩, q⟩⟩)
 | int i ui =>
   cases pu with
   | none => exact wpAny_getItem_str_slice (l := some (i, ui)) (u := none) (st := none) hs rfl (post_val_or_str ⟨Nat.le_trans (Txt.slice_le z _ _) hz, fun t' k => ⟨.str _, H, I.tok k, ⟨_, rfl⟩, q⟩⟩)
   | int j uj => exact wpAny_getItem_str_slice (l := some (i, ui)) (u := some (j, uj)) (st := none) hs rfl (post_val_or_str ⟨Nat.le_trans (Txt.slice_le z _ _) hz, fun t' k => ⟨.str _, H, I.tok k, ⟨_, rfl⟩, q⟩⟩)
def rSlX (K : PySem.W.Frag) : V → Option Int → Option Int → Hp → VK → Prop := fun x lo hi H Q => rSlL K x lo hi H Q ∨ rSlT K x lo hi H Q ∨ rSlS x lo hi H Q
theorem slX : SlR X (rSlX X.K) := sl_list.or (sl_tup.or sl_str)
def rStarts : V → List V → Hp → VK → Prop := fun x vs H Q => ∃ a b, x = .str a ∧ vs = [.str b] ∧ Q (.bl (Txt.startswith a b)) H
theorem mt_startswith : MtR X "str.startswith" rStarts := by
 intro pins s σ H x vs v us Q I rx rv h
 obtain ⟨a, b, rfl, rfl, q⟩ := h
 obtain ⟨t, rfl⟩ := rx
 obtain ⟨u, rfl, t', rfl⟩ := rv.one
 exact SC.startswith ⟨.bl _, H, I, rfl, q⟩
theorem strsAre_of : ∀ {ys : List Str} {us : List Value}, Vals (ys.map V.str) us → StrsAre us ys
 | [], _, .nil => .nil
 | y :: ys, _, .cons r t => by
   obtain ⟨k, rfl⟩ := r
   exact .cons y k (strsAre_of t)
def rJoin (K : PySem.W.Frag) : V → List V → Hp → VK → Prop := fun x vs H Q => ∃ (a : Str) (l : Addr) (ys : List Str), x = .str a ∧ vs = [.ref l] ∧ SqL K H l (ys.map V.str) ∧ (ys.map (·.length)).sum + ys.length * a.length ≤ 16777216 ∧ Q (.str (Txt.join a ys)) H
theorem mt_join : MtR X "str.join" (rJoin X.K) := by
 intro pins s σ H x vs v us Q I rx rv h
 obtain ⟨a, l, ys, rfl, rfl, hS, hz, q⟩ := h
 obtain ⟨t, rfl⟩ := rx
 obtain ⟨u, rfl, ru⟩ := rv.one
 cases ru
 obtain ⟨its, r, pl, _⟩ := I.list hS
 exact join_list pl.isList (by simpa using strsAre_of r) hz fun t' k => ⟨.str _, H, I.tok _, ⟨_, rfl⟩, q⟩
def rMulS : R2 := fun x y H Q => ∃ a n, x = .str a ∧ y = .int n ∧ a.length ≤ 16 ∧ 0 ≤ n ∧ n ≤ 1000000 ∧ Q (.str (Txt.mul a n)) H
theorem op_mulS : OpR X (binaryOp .Mult) rMulS := by
 intro pins s σ H x y v u Q I rx ry h
 obtain ⟨a, n, rfl, rfl, h1, h2, h3, q⟩ := h
 obtain ⟨t, rfl⟩ := rx
 obtain ⟨t', rfl⟩ := ry
 exact SB.mul (mulOk_of 16 1048576 h1 (by omega) (by omega) (by decide) (by decide)) fun t' k => ⟨.str _, H, I.tok _, ⟨_, rfl⟩, q⟩
def rMulX : R2 := fun x y H Q => rI IntMulOk (fun i j => .int (i * j)) x y H Q ∨ rRep x y H Q ∨ rMulS x y H Q
theorem op_mulX : OpR X (binaryOp .Mult) rMulX := op_mulB.or (op_rep.or op_mulS)
theorem call_int_str : CallR X (.type "int") (fun xs H Q => ∃ x n, xs = [.str x] ∧ PySem.intText? x = some n ∧ x.length ≤ 640 ∧ Q (.int n) H) := by
 intro pins s σ H xs us Q I r h
 obtain ⟨x, n, rfl, hn, hl, q⟩ := h
 obtain ⟨u, rfl, t, rfl⟩ := r.one
 exact PySem.W.KIN.call_text hn hl ⟨.int n, H, I.tok _, ⟨_, rfl⟩, q⟩
theorem call_intX : CallR X (.type "int") (fun xs H Q => ((∃ i, xs = [.int i] ∧ Q (.int i) H) ∨ ∃ k, xs = [.bl k] ∧ Q (.int (if k then 1 else 0)) H) ∨ ∃ x n, xs = [.str x] ∧ PySem.intText? x = some n ∧ x.length ≤ 640 ∧ Q (.int n) H) := call_int1.or call_int_str
theorem op_inX : OpR X (compareOp .In) (fun x y H Q => (∃ i j, x = .str i ∧ y = .str j ∧ Q (.bl (!(Builtin.Str.occurrences j i 0 j.length 1).isEmpty)) H) ∨ rIn X.K false x y H Q) := op_in_str.or op_in_seq
theorem range_allB : ∀ bs : List Bool, (List.range bs.length).all (fun i => (bs[i]?).getD true) = bs.all id
 | [] => rfl
 | b :: bs => by
   rw [List.length_cons, List.range_succ_eq_map, List.all_cons, List.all_map, List.all_cons]
   have := range_allB bs
   simp only [Function.comp_def, List.getElem?_cons_succ] at *
   rw [this]
   rfl
theorem call_all_list (hc : X.calm = true) : CallR X (.builtin "all") (fun xs H Q => ∃ (l : Addr) (bs : List Bool), xs = [.ref l] ∧ SqL X.K H l (bs.map V.bl) ∧ Q (.bl (bs.all id)) H) := by
 intro pins s σ H xs us Q I r h
 obtain ⟨l, bs, rfl, hS, q⟩ := h
 obtain ⟨u, rfl, ru⟩ := r.one
 cases ru
 obtain ⟨its, rv, pl, hz⟩ := I.list hS
 have hl := rv.length
 rw [List.length_map] at hl
 have hlt : l < s.heap.objs.size := by obtain ⟨o, n, e, _⟩ := pl; exact Heap.lt_size e
 refine call_all_walk (wpAny_pyIter_list pl.isList ?_)
 refine ⟨s.heap.objs.size, [s.heap.objs.size, l], [s.heap.objs.size], its.toArray.size, _, _, fun i => (bs[i]?).getD true, rfl, Walks.list (A := X.A.in1) (I.ok.hd hc) _ l (Nat.ne_of_lt hlt) its.toArray,
  ⟨⟨_, Heap.get?_push_size _ rfl, rfl, rfl⟩, pl.isList.push _⟩, fun i v s' Q' E' hP hQ => ?_, fun h' tk hk => ?_⟩
 · have hP' : its[i]? = some v := by simpa using hP
   have hi : i < its.length := (List.getElem?_eq_some_iff.mp hP').1
   obtain ⟨u, e1, e2⟩ := rv.get (i := i) (x := .bl bs[i]) (by rw [List.getElem?_map, List.getElem?_eq_getElem (by omega)]; rfl)
   rw [hP'] at e1
   cases e1
   cases e2
   have e3 : bs[i]? = some bs[i] := List.getElem?_eq_getElem (by omega)
   simp only [e3, Option.getD_some] at hQ
   exact wpAny_truthy_bool hQ
 · have e : ((List.range its.toArray.size).all fun i => (bs[i]?).getD true) = bs.all id := by
    rw [List.size_toArray, ← hl]; exact range_allB bs
   rw [e]
   have kp : ∀ b x, s.heap.get? b = some x → h'.get? b = some x := fun b x e => hk b x (fun hm => by rw [List.mem_singleton.mp hm] at e; exact Nat.lt_irrefl _ (Heap.lt_size e)) (Heap.get?_push_of_some _ e)
   exact ⟨.bl _, H, I.kept kp, rfl, q⟩
def Its (z : Str) : It := ⟨fun i _ => i < z.cps.size, fun i H x H' => H' = H ∧ ∃ c, z.cps.toList[i]? = some c ∧ x = .str ⟨#[c]⟩, fun i _ => i = z.cps.size⟩
theorem turn_str {P : Program} {w : World} {K : PySem.W.Frag} {tg : Expr} {T : String} {z : Str} {t : Tok} (it : Addr) (hT : ["enumerate", "zip", "dict_itemiterator", "dict_reverseitemiterator", "odict_iterator", "itertools.zip_longest", "itertools.pairwise"].contains T = false)
 (W : ∀ A : Around, A.handled = none → Walks P w A it [it] [it] z.cps.size (SignAt z) (fun i h => h.IsStrIter it T z t i)) (W0 : ∀ (A : Around) (i : Nat) (s : Shared) (Q : Value → Shared → Prop) (E : Value → Shared → Prop), s.heap.IsStrIter it T z t i → Q (.ref it) s → wpAny (model P w) A (pyIter (.ref it)) Q E s) :
 Turn P w K tg (Its z) [it] it (fun i h => h.IsStrIter it T z t i) where
 mem := by simp
 obj := fun i h st b hb => by
  have e : b = it := by simpa using hb
  subst e
  obtain ⟨o, e, c, d⟩ := st
  exact ⟨o, e, fun v q => by rw [d] at q; cases q⟩
 keep := fun i h h' st k => by
  obtain ⟨o, e, c, d⟩ := st
  exact ⟨o, k it (by simp) o e, c, d⟩
 item := by
  intro X hP hw hK hc i pins s σ H E I hf st hg
  subst hP hw hK
  obtain ⟨f0, f1, f2, f3, f4, f5⟩ := hf it (by simp)
  refine (W X.A (I.ok.hd hc)).item i s _ _ hg st fun v h' tk hv st' kk => ?_
  obtain ⟨c, u, hc', rfl⟩ := hv
  have I1 : Inv X pins σ H { s with heap := h', toks := tk } := I.turned (fun b o hb e => kk b o (by simpa using hb) e) f0 f1 f3 f4 f5
  obtain ⟨o, e, hcl, hd⟩ := id st'
  refine ⟨_, rfl, go_of (s := { s with heap := h', toks := tk }) e hcl hd hT ⟨.str ⟨#[c]⟩, H, I1, ⟨u, rfl⟩, ⟨rfl, c, ?_, rfl⟩, st', fun b hb => (hf b hb).1⟩⟩
  rw [← hc']; simp
 done := by
  intro X hP hw hK hc i pins s σ H E I hf st hg
  subst hP hw hK
  obtain ⟨f0, f1, f2, f3, f4, f5⟩ := hf it (by simp)
  have hg' : i = z.cps.size := hg
  subst hg'
  exact (W X.A (I.ok.hd hc)).done s _ _ st fun h' tk hk => ⟨rfl, I.turned (fun b o hb e => hk b o (by simpa using hb) e) f0 f1 f3 f4 f5⟩
 self := fun A i s Q E st h => W0 A i s Q E st h
def iStr (te : TE) : TI := fun σ H R => te σ H fun x H1 => ∃ z, x = .str z ∧ R (Its z) H1
theorem pi_str {tg e : Expr} {te : TE} (he : PE X e te) : PI X tg e (iStr te) := by
 intro pins s σ H R I h
 refine thn (he pins s σ H _ I h) fun v s1 ⟨x, H1, I1, r1, z, ez, q⟩ => ?_
 subst ez
 obtain ⟨t, rfl⟩ := r1
 have fin : ∀ (T : String), (["enumerate", "zip", "dict_itemiterator", "dict_reverseitemiterator", "odict_iterator", "itertools.zip_longest", "itertools.pairwise"].contains T = false) →
  (∀ A : Around, A.handled = none → Walks X.prog X.w A s1.heap.objs.size [s1.heap.objs.size] [s1.heap.objs.size] z.cps.size (SignAt z) (fun i h => h.IsStrIter s1.heap.objs.size T z t i)) →
  (∀ (A : Around) (i : Nat) (s : Shared) (Q : Value → Shared → Prop) (E : Value → Shared → Prop), s.heap.IsStrIter s1.heap.objs.size T z t i → Q (.ref s1.heap.objs.size) s → wpAny (model X.prog X.w) A (pyIter (.ref s1.heap.objs.size)) Q E s) →
  PIE X pins σ tg R (.ref s1.heap.objs.size) { s1 with heap := s1.heap.push { cls := .type T, data := .fields #[.str z t, .int 0 0] } } := fun T hT W W0 => by
  refine ⟨s1.heap.objs.size, [s1.heap.objs.size], _, Its z, H1, rfl, I1.kept (t' := s1.toks) fun b o e => Heap.get?_push_of_some _ e, turn_str s1.heap.objs.size hT W W0, ⟨_, Heap.get?_push_size _ rfl, rfl, rfl⟩, fun b hb => ?_, q⟩
  have e : b = s1.heap.objs.size := by simpa using hb
  subst e
  exact I1.fpOk (Nat.le_refl _) (I1.hok.fresh (Nat.le_refl _))
 cases ha : z.cps.all (· < 128)
 · exact wpAny_pyIter_wide ha (fin "str_iterator" (by decide) (fun A hA => Walks.strWide hA _ z t) fun A i s Q E st h => wpAny_pyIter_striter_wide st h)
 · exact wpAny_pyIter_ascii ha (fin "str_ascii_iterator" (by decide) (fun A hA => Walks.strAscii hA _ z t) fun A i s Q E st h => wpAny_pyIter_striter_ascii st h)
theorem pi_or {tg e : Expr} {wi wi' : TI} (h : PI X tg e wi) (h' : PI X tg e wi') : PI X tg e (fun σ H R => wi σ H R ∨ wi' σ H R) := by
 intro pins s σ H R I q
 rcases q with q | q
 · exact h pins s σ H R I q
 · exact h' pins s σ H R I q
end
end L2
namespace L2
open PySem PySem.Spec PyProof.Rows
structure FunX (K : PySem.W.Frag) (x qual : Str) (st : Stmt) (f : Addr) (fd : FuncData) (dV : Value) : Prop where
 ex : ∃ (oc : Value) (od : Option Addr) (kV doc pm : Value) (an : Option Addr) (cdv ct : Value) (osl : Array (Option Value)),
  fd = PySem.W.fnOf x qual (defArgs st) (defBody st) (defScope st) dV kV doc pm an cdv ct ∧ K.lookup f = some ⟨oc, od, .func fd, osl⟩ ∧ PySem.W.codeIn K cdv qual = true
 kp : PySem.W.keepIn K (.ref f) = true
section
variable {P : Program} {w : World} {K : PySem.W.Frag} {mg : Str → Option Value} {base : Heap}
theorem FunX.ok {x qual : Str} {st : Stmt} {f : Addr} {fd : FuncData} {dV : Value} {N ps : List Str} {k : Nat} {sp : Sp} (F : FunX K x qual st f fd dV) (S : FnScope N ps (defScope st)) (len : ∀ vs H Q E, sp vs H Q E → vs.length = ps.length)
 (hbody : ∀ (cdv : Value) (A : Around) (outer : List Env) (s : Shared) (H : Hp) (vs : List V) (Q : VK) (E : XK), Room k (A.deeper (envOfC qual (defScope st) s.heap.objs.size f cdv)) → sp vs H Q E →
  ∃ t, PSs (cxOf CX0 P w K mg base N qual (defScope st) f cdv A outer s H E).nox (defBody st) t ∧ t { nx := fun _ H' => Q .non H', rt := Q } (start N vs) H) : FnOk P w K mg base CX0 (k + 1) f fd ps sp := by
 obtain ⟨oc, od, kV, doc, pm, an, cdv, ct, osl, rfl, lk, hcd⟩ := F.ex
 refine fn_of lk hcd S len fun A outer s H vs Q E hr hsp => ?_
 obtain ⟨t, h, q⟩ := hbody cdv A outer s H vs Q E hr hsp
 exact ⟨t, h.nox, q⟩
theorem funX_mk {x qual : Str} {st : Stmt} {f : Addr} {oc dV : Value} {od an : Option Addr} {osl : Array (Option Value)} {kV doc pm cdv ct : Value} (l : K.lookup f = some ⟨oc, od, .func (PySem.W.fnOf x qual (defArgs st) (defBody st) (defScope st) dV kV doc pm an cdv ct), osl⟩)
 (c : PySem.W.codeIn K cdv qual = true) (k : PySem.W.keepIn K (.ref f) = true) : FunX K x qual st f (PySem.W.fnOf x qual (defArgs st) (defBody st) (defScope st) dV kV doc pm an cdv ct) dV := ⟨⟨oc, od, kV, doc, pm, an, cdv, ct, osl, rfl, l, c⟩, k⟩
end
structure GotD (P : Program) (w : World) (K : PySem.W.Frag) (mg : Str → Option Value) (base : Heap) (k : Nat) (x : Str) (ps : List Str) (dvs : List V) (sp : Sp) : Prop where
 ex : ∃ f fd ds, FnOk P w K mg base CX0 k f fd ps sp ∧ Binds K fd ps ds ∧ Vals dvs ds ∧ PySem.W.keepIn K (.ref f) = true ∧ mg x = some (.ref f)
section
variable {X : Cx} {k n : Nat} {x : Str} {ps : List Str} {sp : Sp} {p pos : Pos} {e : Expr} {es : List Expr} {t : TA} {dvs : List V}
theorem pe_gl {v : V} (hg : Gl X x) (h : ∃ u, X.mg x = some u ∧ RelV v u) (hd : (x == ("__debug__" : Str)) = false := by decide) : PE X (.Name x pos) (tC v) := by
 obtain ⟨u, hm, r⟩ := h
 exact pe_glob hg hm r hd
structure CompC (fsc : Scope) (N : List Str) (scope : Scope) (x : Str) (cn : List Str) (cap : List Nat) : Prop where
 kind : scope.kind = .function
 names : ∀ y ∈ scope.names, y.2 = .local → scope.names.lookup y.1 = some .local
 cell : ∀ y ∈ scope.names, y.2 ≠ .cell
 own : scope.names.lookup x = some .local
 free : ∀ y ∈ scope.names, y.2 = .free → fsc.names.lookup y.1 = some .cell ∨ fsc.names.lookup y.1 = some .free
 cap : cap.map (fun i => N[i]?) = cn.map some
 capf : ∀ y ∈ cn, scope.names.lookup y = some .free
 capo : ∀ y ∈ cn, fsc.names.lookup y = some .cell ∨ fsc.names.lookup y = some .free
 nd : (x :: cn).Nodup
theorem CompC.to {fsc : Scope} {N : List Str} {scope : Scope} {cn : List Str} {cap : List Nat} (c : CompC fsc N scope x cn cap) (e1 : X.env.scope = fsc) (e2 : X.N = N) : CompScope X scope x cn cap := by
 subst e1 e2
 exact ⟨c.kind, c.names, c.cell, c.own, c.free, c.cap, c.capf, c.capo, c.nd⟩
end
section
variable {X : Cx} {K : PySem.W.Frag}
theorem op_inK (h : X.K = K) : OpR X (compareOp .In) (fun x y H Q => (∃ i j, x = .str i ∧ y = .str j ∧ Q (.bl (!(Builtin.Str.occurrences j i 0 j.length 1).isEmpty)) H) ∨ rIn K false x y H Q) := by
 subst h; exact op_inX
theorem ix_seqK (h : X.K = K) : IxR X (rIx K) := by
 subst h; exact ix_seq
theorem mt_joinK (h : X.K = K) : MtR X "str.join" (rJoin K) := by
 subst h; exact mt_join
theorem pe_bmK {o e : Expr} {es : List Expr} {to : TE} {t : TA} {name : Str} {apos cpos : Pos} {T id : String} {r : V → List V → Hp → VK → Prop} (h : X.K = K) (pa : PlainAttrs T) (slot : Slot T name id) (hty : typeOf (.builtin id) = pure (.type "method_descriptor")) (hm : MtR X id r) (ho : PE X o to) (ha : PA X (e :: es) t)
 (hbase : attributeBase o name X.env (eval o X.env) = eval o X.env := by rfl)
 (hfew : ((backTo cpos (starEach (e :: es) X.env)).all (fun x => !x.1) && (backToKw cpos (keywordEach [] X.env)).all (fun x => x.1.isSome)
  && decide ((e :: es).length + ([] : List Keyword).length + (if ([] : List Keyword).isEmpty then 0 else 1) < 30)) = true := by rfl)
 (hline : (apos.endLine == cpos.line) = true := by rfl) (hs : starEach (e :: es) X.env = (false, eval e X.env) :: starEach es X.env := by rfl) (hplain : (backTo cpos (starEach es X.env)).any (·.1) = false := by rfl) :
 PE X (.Call (.Attribute o name apos) (e :: es) [] cpos) (tBM K T r to t) := by
 subst h; exact pe_bm pa slot hty hm ho ha hbase hfew hline hs hplain
end
theorem b_all : bootBuiltins "all" = some (.builtin "all") := by decide +kernel
end L2
namespace Tx
open PySem
abbrev cs (x : Str) : List Nat := x.cps.toList
theorem cs_len (x : Str) : (cs x).length = x.length := Array.length_toList
theorem ext {x y : Str} (h : cs x = cs y) : x = y := PyProof.Rows.ext_toList h
def dig (c : Nat) : Bool := decide (48 ≤ c) && decide (c ≤ 57)
def low (c : Nat) : Bool := decide (97 ≤ c) && decide (c ≤ 122)
def val (l : List Nat) : Int := l.foldl (fun (v : Int) (c : Nat) => v * 10 + ((c : Int) - 48)) 0
def numL : List Nat → Option Int
 | [] => none
 | c :: r => if (c :: r).length ≤ 60 ∧ (c :: r).all dig = true ∧ (r = [] ∨ c ≠ 48) then some (val (c :: r)) else none
def num (x : Str) : Option Int := numL (cs x)
theorem figs : cs (Str.ofString "0123456789") = [48, 49, 50, 51, 52, 53, 54, 55, 56, 57] := by decide +kernel
theorem lets : cs (Str.ofString "abcdefghijklmnopqrstuvwxyz") = [97, 98, 99, 100, 101, 102, 103, 104, 105, 106, 107, 108, 109, 110, 111, 112, 113, 114, 115, 116, 117, 118, 119, 120, 121, 122] := by decide +kernel
theorem in_figs (c : Nat) : decide (c ∈ cs (Str.ofString "0123456789")) = dig c := by
 rw [figs]
 unfold dig
 rw [Bool.eq_iff_iff, Bool.and_eq_true, decide_eq_true_iff, decide_eq_true_iff, decide_eq_true_iff]
 simp only [List.mem_cons, List.not_mem_nil, or_false]
 omega
theorem in_lets (c : Nat) : decide (c ∈ cs (Str.ofString "abcdefghijklmnopqrstuvwxyz")) = low c := by
 rw [lets]
 unfold low
 rw [Bool.eq_iff_iff, Bool.and_eq_true, decide_eq_true_iff, decide_eq_true_iff, decide_eq_true_iff]
 simp only [List.mem_cons, List.not_mem_nil, or_false]
 omega
theorem starts0 (x : Str) : Txt.startswith x (Str.ofString "0") = decide ((cs x)[0]? = some 48) := by
 have e0 : (Str.ofString "0").cps = #[48] := by decide +kernel
 have l0 : (Str.ofString "0").length = 1 := by decide +kernel
 unfold Txt.startswith Builtin.Str.subAt
 rw [e0, l0]
 obtain ⟨⟨l⟩⟩ := x
 cases l with
 | nil => rfl
 | cons c r =>
   show (decide (0 + 1 ≤ (c :: r).length) && ((Array.mk (c :: r)).extract 0 (0 + 1) == #[48])) = decide (some c = some 48)
   rw [decide_eq_true (by simp)]
   have : (Array.mk (c :: r)).extract 0 (0 + 1) = #[c] := by simp
   rw [this, Bool.true_and]
   by_cases h : c = 48
   · subst h; rfl
   · rw [decide_eq_false (by intro q; exact h (Option.some.inj q))]
     simp [h]
theorem zero_iff (x : Str) : x = Str.ofString "0" ↔ cs x = [48] := by
 have e0 : cs (Str.ofString "0") = [48] := by decide +kernel
 constructor
 · rintro rfl; exact e0
 · intro h; exact ext (h.trans e0.symm)
theorem val_digits : ∀ (l : List Nat) (a : Nat), l.all dig = true → l.foldl (fun (v : Int) (c : Nat) => v * 10 + ((c : Int) - 48)) (a : Int) = ((l.foldl (fun acc c => acc * 10 + (c - 48)) a : Nat) : Int)
 | [], _, _ => rfl
 | c :: r, a, h => by
   rw [List.all_cons, Bool.and_eq_true] at h
   have hd : 48 ≤ c ∧ c ≤ 57 := by
    have := h.1
    unfold dig at this
    rw [Bool.and_eq_true, decide_eq_true_iff, decide_eq_true_iff] at this
    exact this
   rw [List.foldl_cons, List.foldl_cons, ← val_digits r (a * 10 + (c - 48)) h.2]
   congr 1
   omega
theorem int_of {x : Str} (h : (cs x).all dig = true) (hne : cs x ≠ []) (hl : x.length ≤ 640) : intText? x = some (val (cs x)) := by
 have hd : NumText.AllDigits (cs x) := fun c hc => by
  have := List.all_eq_true.mp h c hc
  unfold dig at this
  rw [Bool.and_eq_true, decide_eq_true_iff, decide_eq_true_iff] at this
  exact this
 rw [PySem.intText_digits hd hne (by omega)]
 have := val_digits (cs x) 0 h
 unfold val NumText.digitsVal
 exact congrArg some this.symm
def row (p : Nat → Bool) (m : Int) (x : Str) : Bool := decide (1 ≤ x.length) && decide ((x.length : Int) ≤ m) && (cs x).all p
theorem num_none {x : Str} (h : row dig 60 x = false) : num x = none := by
 unfold num row at *
 have l := cs_len x
 cases e : cs x with
 | nil => rfl
 | cons c r =>
   rw [e] at h l
   show (if (c :: r).length ≤ 60 ∧ (c :: r).all dig = true ∧ (r = [] ∨ c ≠ 48) then some (val (c :: r)) else none) = none
   rw [if_neg]
   rintro ⟨h1, h2, _⟩
   have a1 : decide (1 ≤ x.length) = true := decide_eq_true (by rw [← l]; simp)
   have a2 : decide ((x.length : Int) ≤ 60) = true := decide_eq_true (by omega)
   rw [a1, a2, h2] at h
   cases h
theorem num_row {x : Str} (h : row dig 60 x = true) : (cs x).all dig = true ∧ cs x ≠ [] ∧ x.length ≤ 60 ∧ ((∃ r, cs x = 48 :: r ∧ r ≠ []) → num x = none) ∧ ((¬ ∃ r, cs x = 48 :: r ∧ r ≠ []) → num x = some (val (cs x))) := by
 unfold num row at *
 rw [Bool.and_eq_true, Bool.and_eq_true, decide_eq_true_iff, decide_eq_true_iff] at h
 obtain ⟨⟨h1, h2⟩, h3⟩ := h
 have l := cs_len x
 refine ⟨h3, ?_, by omega, fun q => ?_, fun q => ?_⟩
 · intro e; rw [e] at l; simp at l; omega
 · obtain ⟨r, e, hr⟩ := q
   rw [e]
   show (if (48 :: r).length ≤ 60 ∧ (48 :: r).all dig = true ∧ (r = [] ∨ 48 ≠ 48) then some (val (48 :: r)) else none) = none
   rw [if_neg]
   rintro ⟨_, _, z | z⟩
   · exact hr z
   · exact z rfl
 · cases e : cs x with
   | nil => rw [e] at l; simp at l; omega
   | cons c r =>
     rw [e] at l h3
     show (if (c :: r).length ≤ 60 ∧ (c :: r).all dig = true ∧ (r = [] ∨ c ≠ 48) then some (val (c :: r)) else none) = some (val (c :: r))
     rw [if_pos]
     refine ⟨by omega, h3, ?_⟩
     by_cases z : r = []
     · exact .inl z
     · exact .inr fun c48 => q ⟨r, by rw [e, c48], z⟩
end Tx
namespace Tx
open PySem
def digs (n : Nat) : List Nat := (Nat.toDigits 10 n).map Char.toNat
theorem cs_num (m : Nat) : cs (Str.ofString (toString ((m : Nat) : Int))) = digs m := PySem.W.KIN.signs_num m
theorem cs_nn {n : Int} (h : 0 ≤ n) : cs (Str.ofString (toString n)) = digs n.natAbs := by
 obtain ⟨m, rfl⟩ := Int.eq_ofNat_of_zero_le h
 exact cs_num m
theorem cs_app (x y : Str) : cs (x ++ y) = cs x ++ cs y := PySem.W.KT.app_list x y
theorem digs_in {m c : Nat} (h : c ∈ digs m) : 48 ≤ c ∧ c ≤ 57 := by
 obtain ⟨ch, hch, rfl⟩ := List.mem_map.mp h
 exact PyProof.Rows.digit_range (Nat.isDigit_of_mem_toDigits (by decide) (by decide) hch)
theorem digs_all (m : Nat) : (digs m).all dig = true := by
 rw [List.all_eq_true]
 intro c hc
 have := digs_in hc
 unfold dig
 rw [Bool.and_eq_true, decide_eq_true_iff, decide_eq_true_iff]
 exact this
theorem digs_ne (m : Nat) : digs m ≠ [] := by
 intro e
 have h := PySem.toDigits_len_ge 10 m
 unfold digs at e
 rw [List.map_eq_nil_iff.mp e] at h
 exact absurd h (by decide)
theorem digs_val (m : Nat) : val (digs m) = (m : Int) := by
 have h := val_digits (digs m) 0 (digs_all m)
 have e := PySem.W.KIN.val_back m
 unfold NumText.digitsVal at e
 unfold val
 rw [show ((0 : Int)) = (((0 : Nat)) : Int) from rfl, h]
 exact congrArg (fun n : Nat => (n : Int)) e
theorem digs_head {m : Nat} {r : List Nat} (h : digs m = 48 :: r) : r = [] := by
 have ha : NumText.AllDigits (digs m) := fun c hc => digs_in hc
 have e := NumText.toDigits_all (digs m) ha
 have ev : NumText.digitsVal (digs m) = m := PySem.W.KIN.val_back m
 rw [ev, h] at e
 have hl : (Nat.toDigits 10 m).length = r.length + 1 := by
  have := congrArg List.length h
  unfold digs at this
  rw [List.length_map] at this
  exact this
 have dw : (48 :: r).dropWhile (· == 48) = r.dropWhile (· == 48) := by
  rw [List.dropWhile_cons]; rfl
 rw [dw] at e
 cases q : r.dropWhile (· == 48) with
 | nil =>
   rw [q] at e
   have e' : (Nat.toDigits 10 m).length = 1 := by rw [e]; rfl
   exact List.length_eq_zero_iff.mp (by omega)
 | cons c t =>
   rw [q] at e
   rw [e, List.length_map] at hl
   have := (List.dropWhile_sublist (l := r) (p := (· == 48))).length_le
   rw [q] at this
   omega
theorem digs_len {m k : Nat} (hk : 0 < k) (h : m < 10 ^ k) : (digs m).length ≤ k := by
 have e := PyProof.Rows.toString_length_le (v := (m : Int)) (by omega) hk (by exact_mod_cast h)
 rw [← cs_num m, cs_len]
 exact e
def rd (neg : Bool) (b : List Nat) (o : Option (List Nat × List Nat)) : Option (Int × Int) := match o with
 | none => match numL b with
   | none => none
   | some a => if neg = true ∧ a = 0 then none else some ((if neg then -a else a), 1)
 | some (A, B) => match numL A, numL B with
   | some a, some d => if d < 2 ∨ (neg = true ∧ a = 0) ∨ Fr.G a d ≠ 1 then none else some ((if neg then -a else a), d)
   | _, _ => none
end Tx
namespace L2
open PySem PySem.Spec PyProof.Rows
section
variable {X : Cx}
end
section
variable {prog : Program} {w : World} {A : Around} {E : Value → Shared → Prop} {s : Shared} {it l : Addr} {its : Array Value}
end
end L2
namespace L2
open PySem PySem.Spec PyProof.Rows
section
variable {X : Cx}
abbrev rSubI : R2 := rI0 fun i j => .int (i - j)
abbrev rFdiv : R2 := rI CDiv fun i j => .int (i / j)
abbrev rMod : R2 := rI (fun _ j => 0 < j) fun i j => .int (i % j)
abbrev rLt : R2 := rI0 fun i j => .bl (decide (i < j))
abbrev rGt : R2 := rI0 fun i j => .bl (decide (j < i))
abbrev rGe : R2 := rI0 fun i j => .bl (decide (j ≤ i))
abbrev rNotN : R2 := fun x y H Q => y = .non ∧ Q (.bl (!decide (x = .non))) H
abbrev rInX (K : PySem.W.Frag) : R2 := fun x y H Q => (∃ i j, x = .str i ∧ y = .str j ∧ Q (.bl (!(Builtin.Str.occurrences j i 0 j.length 1).isEmpty)) H) ∨ rIn K false x y H Q
abbrev rLen (K : PySem.W.Frag) : List V → Hp → VK → Prop := fun xs H Q => (∃ p ys, xs = [.ref p] ∧ (SqL K H p ys ∨ SqT K H p ys) ∧ Q (.int ys.length) H) ∨ ∃ z, xs = [.str z] ∧ z.length ≤ sizeLine ∧ Q (.int z.length) H
abbrev rIsT (K : PySem.W.Frag) : List V → Hp → VK → Prop := fun xs H Q => ∃ x T t k, xs = [x, .ty T] ∧ TyOf K H x t ∧ PySem.W.kitOne K t (.type T) = some k ∧ Q (.bl k) H
abbrev rAll (K : PySem.W.Frag) : List V → Hp → VK → Prop := fun xs H Q => ∃ (l : Addr) (bs : List Bool), xs = [.ref l] ∧ SqL K H l (bs.map V.bl) ∧ Q (.bl (bs.all id)) H
abbrev rIntX : List V → Hp → VK → Prop := fun xs H Q => ((∃ i, xs = [.int i] ∧ Q (.int i) H) ∨ ∃ k, xs = [.bl k] ∧ Q (.int (if k then 1 else 0)) H) ∨ ∃ x n, xs = [.str x] ∧ PySem.intText? x = some n ∧ x.length ≤ 640 ∧ Q (.int n) H
abbrev rListOf (K : PySem.W.Frag) : List V → Hp → VK → Prop := fun xs H Q => ∃ p ys, xs = [.ref p] ∧ (SqL K H p ys ∨ SqT K H p ys) ∧ ∀ l, H l = none → Q (.ref l) (upd H l (.lst ys))
end
end L2
namespace L2
open PySem PySem.Spec PyProof.Rows
section
variable {prog : Program} {w : World} {A : Around} {E : Value → Shared → Prop} {s : Shared} {K : PySem.W.Frag} {x C : Addr} {ox : Obj} {od : Option Obj} {name : Str}
end
section
variable {X : Cx} {pins : List (Addr × Obj)} {σ : St} {H : Hp} {s : Shared} {e C dx : Addr} {d : Option Addr} {fs : List (Str × V)} {f : Str}
end
end L2
namespace L2
open PySem PySem.Spec PyProof.Rows
section
variable {prog : Program} {w : World} {A : Around} {E : Value → Shared → Prop} {s : Shared} {K : PySem.W.Frag} {x C : Addr} {d : Option Addr} {vs : Array Value} {sl : Array (Option Value)}
end
end L2
namespace L2
open PySem PySem.Spec PyProof.Rows
section
variable {prog : Program} {w : World} {M : Model} {A : Around} {E : Value → Shared → Prop} {R : Result → Shared → Prop} {h : Heap} {g : Array GenState} {d : Drawn} {t : Nat} {os : OsState} {K : PySem.W.Frag}
variable {nm q : Str} {C N : Addr} {bs bm : List Value} {hdct : Bool} {sn : List Str} {sub : List Value} {ab : Bool} {col : Option Bool} {dd : Option Addr} {k0 k1 k2 k3 k5 : Option Value} {rest : List Value}
end
section
variable {X : Cx} {CX : CXT} {k : Nat} {f C : Addr} {fd : FuncData} {ps : List Str} {sp : Sp} {dvs : List V} {ds : List Value} {E : XK} {x : Str} {p pos : Pos} {e : Expr} {es : List Expr} {t : TA}
end
end L2
namespace L2
open PySem PySem.Spec PyProof.Rows
section
variable {prog : Program} {w : World} {A : Around} {E : Value → Shared → Prop} {s : Shared} {K : PySem.W.Frag} {x C : Addr} {ox : Obj} {od : Option Obj} {name : Str}
end
section
variable {X : Cx}
end
section
variable {prog : Program} {w : World} {A : Around} {E : Value → Shared → Prop} {h : Heap} {g : Array GenState} {d : Drawn} {t : Nat} {os : OsState} {K : PySem.W.Frag}
variable {nm q : Str} {C N : Addr} {bs bm : List Value} {hdct : Bool} {sn : List Str} {sub : List Value} {ab : Bool} {col : Option Bool} {dd : Option Addr} {k0 k1 k2 k3 k5 : Option Value} {v : Value}
end
end L2
namespace L2
open PySem PySem.Spec PyProof.Rows
def Ite (K : PySem.W.Frag) (l : Addr) : It :=
 ⟨fun i H => ∃ xs, SqL K H l xs ∧ i < xs.length,
  fun i H x H' => ∃ T a, H T = none ∧ x = .ref T ∧ H' = upd H T (.tup [.int i, a]) ∧ ∀ xs, SqL K H l xs → xs[i]? = some a,
  fun i H => ∃ xs, SqL K H l xs ∧ xs.length ≤ i⟩
def EnSt (e it l : Addr) (i : Nat) (h : Heap) : Prop := (∃ old, IsEnum h e it i old) ∧ h.IsListIter it l i
theorem turn_enum {P : Program} {w : World} {K : PySem.W.Frag} {elts : List Expr} {kk : Nat} {tpos : Pos} (e it l : Addr) (hei : e ≠ it) : Turn P w K (.Tuple elts kk tpos) (Ite K l) [e, it] e (EnSt e it l) where
 mem := by simp
 obj := fun i h st b hb => by
  obtain ⟨⟨old, he⟩, o1, e1, _, d1⟩ := st
  simp only [List.mem_cons, List.not_mem_nil, or_false] at hb
  rcases hb with rfl | rfl
  · exact ⟨_, he, fun v q => by cases (show Data.fields _ = Data.cell v from q)⟩
  · exact ⟨_, e1, fun v q => by rw [d1] at q; cases q⟩
 keep := fun i h h' st k => by
  obtain ⟨⟨old, he⟩, h1⟩ := st
  exact ⟨⟨old, k e (by simp) _ he⟩, h1.at fun o z => k it (by simp) o z⟩
 item := by
  intro X hP hw hK hc i pins s σ H E I hf st hg
  subst hP hw hK
  obtain ⟨xs, q1, g1⟩ := hg
  obtain ⟨its1, r1, p1, z1⟩ := I.list q1
  obtain ⟨u1, e1, ru1⟩ := r1.get (List.getElem?_eq_getElem g1)
  obtain ⟨⟨old, he⟩, h1⟩ := st
  refine wpAny_pyNext_enum_item he h1 p1.isList (x := u1) (by simpa using e1) hei fun h1' a1 a2 a3 a4 hk => ⟨_, rfl, ?_⟩
  refine wpAny_letOwnedTupleGo_enum a1 fun h2' hz' hs' => ?_
  have lt : ∀ {c o}, s.heap.get? c = some o → s.heap.objs.size ≠ c := fun e => Nat.ne_of_gt (Heap.lt_size e)
  have Te : s.heap.objs.size ≠ e := lt he
  have kz : ∀ b o, b ≠ e → h1'.get? b = some o → h2'.get? b = some o := fun b o hb q => hs'.extBut _ _ hb q
  have I' : Inv X pins σ (upd H s.heap.objs.size (.tup [.int i, xs[i]])) { s with heap := h2', toks := s.toks + 1 } := by
   refine I.turnedNew (t' := s.toks + 1) (ch := [e, it]) (fun b o hb q => ?_) hf (Nat.le_refl _) ?_
   · simp only [List.mem_cons, List.not_mem_nil, or_false, not_or] at hb
     exact kz b o hb.1 (hk b o hb.1 hb.2 q)
   · exact ⟨(by show 2 ≤ sizeLine; decide), [.int i s.toks, u1], .cons ⟨_, rfl⟩ (.cons ru1 .nil), _, kz _ _ Te a3, rfl, _, rfl⟩
  refine ⟨.ref s.heap.objs.size, _, I', rfl, ⟨s.heap.objs.size, xs[i], I.hok.fresh (Nat.le_refl _), rfl, rfl, fun xs' q' => ?_⟩, ⟨⟨_, by simpa using hz'⟩, a2.at fun o q => kz _ _ hei.symm q⟩, fun b hb => ?_⟩
  · rw [I.list_inj q' q1]; exact List.getElem?_eq_getElem g1
  · have n := (hf b hb).1
    simp only [List.mem_cons, List.not_mem_nil, or_false] at hb
    have ob : ∃ o, s.heap.get? b = some o := by
     obtain ⟨o1, x1, _⟩ := h1
     rcases hb with rfl | rfl
     · exact ⟨_, he⟩
     · exact ⟨_, x1⟩
    obtain ⟨o, eo⟩ := ob
    rw [upd_ne (Ne.symm (lt eo))]
    exact n
 done := by
  intro X hP hw hK hc i pins s σ H E I hf st hg
  subst hP hw hK
  obtain ⟨xs, q1, g⟩ := hg
  obtain ⟨its1, r1, p1, z1⟩ := I.list q1
  obtain ⟨⟨old, he⟩, h1⟩ := st
  have l1' := r1.length
  refine wpAny_pyNext_enum_end (I.ok.hd hc) he h1 p1.isList (Array.getElem?_eq_none (by rw [List.size_toArray]; omega)) fun h' hk => ⟨rfl, ?_⟩
  refine I.turnedL (t' := s.toks) (ch := [e, it]) (fun b o hb q => ?_) hf
  simp only [List.mem_cons, List.not_mem_nil, or_false, not_or] at hb
  exact hk b o hb.2 q
 self := fun _ _ _ _ _ st h => by
  obtain ⟨⟨old, he⟩, _⟩ := st
  exact wpAny_pyIter_enum he h
def iEnum (K : PySem.W.Frag) (ta : TA) : TI := fun σ H R => ta σ H fun vs H1 => ∃ l xs, vs = [.ref l] ∧ SqL K H1 l xs ∧ R (Ite K l) H1
theorem pi_enum {X : Cx} {a : Expr} {ta : TA} {p pos tpos : Pos} {elts : List Expr} {kk : Nat} (hg : Gl X "enumerate") (hm : X.mg "enumerate" = none) (ha : PA X [a] ta) (hs : starEach [a] X.env = [(false, eval a X.env)] := by rfl) :
 PI X (.Tuple elts kk tpos) (.Call (.Name "enumerate" p) [a] [] pos) (iEnum X.K ta) := by
 intro pins s σ H R I h
 refine Call_ (ld_blt I hg hm (show bootBuiltins "enumerate" = some (.type "enumerate") from by decide +kernel) (PyProof.Rows.callWith_type1 (thn (ha pos pins s σ H _ I h) fun us s1 ⟨vs, H1, I1, r1, q1⟩ => ?_) hs rfl))
 obtain ⟨l, xs, ev, q1, q⟩ := q1
 subst ev
 obtain ⟨u1, rfl, ru1⟩ := r1.one
 cases ru1
 obtain ⟨its1, v1, p1, z1⟩ := I1.list q1
 refine call_enumerate_list p1.isList fun h' he h1 sz hk => wpAny_pyIter_enum he ?_
 refine ⟨_, _, EnSt _ _ _, _, H1, rfl, I1.kept (t' := s1.toks) hk, turn_enum _ _ _ (Nat.ne_of_gt (Nat.lt_succ_self _)), ⟨⟨_, he⟩, h1⟩, fun b hb => ?_, q⟩
 have hb' : s1.heap.objs.size ≤ b := by
  simp only [List.mem_cons, List.not_mem_nil, or_false] at hb
  rcases hb with rfl | rfl
  · exact Nat.le_succ _
  · exact Nat.le_refl _
 exact I1.fpOk hb' (I1.hok.fresh hb')
end L2
namespace L2
open PySem PySem.Spec PyProof.Rows
def clA (K : PySem.W.Frag) (x : Str) : Addr := match PySem.W.nsIn K mainGlobals x with
 | some (some (.ref a)) => a
 | _ => 0
theorem clA_of {K : PySem.W.Frag} {x : Str} {a : Addr} (h : PySem.W.nsIn K mainGlobals x = some (some (.ref a))) : clA K x = a := by
 unfold clA
 rw [h]
section
variable {K : PySem.W.Frag} {C D : Addr} {cd cd' : ClassData}
structure KObj (K : PySem.W.Frag) (C : Addr) (cd : ClassData) : Prop where
 cls : PySem.W.clsIn K C = some cd
 type : PySem.W.typeIn K (.ref C) = some (.type "type")
 mro : ∃ bm, cd.mro = .ref C :: bm
theorem KObj.sub (x : KObj K C cd) (v : Value) : PySem.W.subIn K (.ref C) v = some (cd.mro.contains v) := by
 obtain ⟨bm, hm⟩ := x.mro
 show PySem.W.mroIn K C v = _
 unfold PySem.W.mroIn
 rw [x.cls, Option.bind_some, hm]
 rfl
theorem KObj.kit (x : KObj K C cd) (y : KObj K D cd') : PySem.W.kitOne K (.ref C) (.ref D) = some (cd.mro.contains (.ref D)) := by
 unfold PySem.W.kitOne
 by_cases q : (Value.ref C == Value.ref D) = true
 · have e : C = D := Value.ref.inj (beq_iff_eq.mp q)
   subst e
   obtain ⟨bm, hm⟩ := x.mro
   rw [if_pos q, hm, List.contains_cons, q, Bool.true_or]
 · rw [if_neg q]
   unfold PySem.W.kitCls
   dsimp only
   rw [y.cls, y.type, x.sub]
   rw [if_pos (by rw [beq_self_eq_true]; rfl)]
end
inductive Pts (K : PySem.W.Frag) : List Str → List Addr → Prop
 | nil : Pts K [] []
 | cons {n : Str} {ns : List Str} {C : Addr} {Cs : List Addr} {cd : ClassData} : PySem.W.nsIn K mainGlobals n = some (some (.ref C)) → KObj K C cd → Pts K ns Cs → Pts K (n :: ns) (C :: Cs)
section
variable {K : PySem.W.Frag} {C : Addr} {cd : ClassData}
theorem kit_all {ms : List Str} (x : KObj K C cd) {ns : List Str} {Cs : List Addr} (p : Pts K ns Cs) : (Cs.map fun D => cd.mro.contains (.ref D)) = ns.map ms.contains → ∀ n ∈ ns, PySem.W.kitOne K (.ref C) (.ref (clA K n)) = some (ms.contains n) := by
 induction p with
 | nil => intro _ n h; cases h
 | cons a y p ih =>
   intro e n h
   have e' := List.cons.inj e
   rcases List.mem_cons.mp h with rfl | h
   · rw [clA_of a, x.kit y]
     exact congrArg some e'.1
   · exact ih e'.2 n h
theorem na_nil : ∀ f ∈ ([] : List Str), NoAttr K C f := fun _ h => by cases h
theorem na_cons {f : Str} {fs : List Str} (h : PySem.W.findIn K (.ref C) f = some none) (t : ∀ g ∈ fs, NoAttr K C g) : ∀ g ∈ f :: fs, NoAttr K C g := fun g hg => by
 rcases List.mem_cons.mp hg with rfl | hg
 · exact h
 · exact t g hg
end
section
variable {X : Cx} {k n : Nat} {x : Str} {ps : List Str} {sp : Sp} {p pos : Pos} {e : Expr} {es : List Expr} {t : TA}
theorem pe_cl (hg : Gl X x) (h : X.mg x = some (.ref (clA X.K x))) (hd : (x == ("__debug__" : Str)) = false := by decide) : PE X (.Name x pos) (tC (.ref (clA X.K x))) := pe_glob hg h rfl hd
end
end L2
namespace L2
open PySem PySem.Spec PyProof.Rows
def KeepS (σ σ' : St) : Prop := σ.length = σ'.length ∧ ∀ (j : Nat) (v : V), σ[j]? = some (some v) → σ'[j]? = some (some v)
def inStT (kx : Nat) (cap : List Nat) (σ : St) : St := List.replicate kx none ++ cap.map fun i => (σ[i]?).join
def compBodyT (J : It) (kx : Nat) (g : TG) (tc : TT) (te : TE) (cap : List Nat) (σ : St) (Q : VK) (H1 : Hp) : Prop := ∀ acc, H1 acc = none → ∃ W : Nat → Nat → Hp → Prop, (∃ m, W 0 m (upd H1 acc (.lst []))) ∧ ∀ i m H, W i m H →
 (J.stop i H ∧ Q (.ref acc) H) ∨ (J.go i H ∧ ∀ x H', J.yld i H x H' → g x (inStT kx cap σ) H' fun σ2 H2 => KeepS (inStT kx cap σ) σ2 ∧ tc σ2 H2 fun b H3 => if b = true then te σ2 H3 fun y H4 => ∃ ys, H4 acc = some (.lst ys) ∧ ys.length < sizeLine ∧ ∃ m', m' < m ∧ W (i + 1) m' (upd H4 acc (.lst (ys ++ [y]))) else ∃ m', m' < m ∧ W (i + 1) m' H3)
def tCompT (wi : TI) (kx : Nat) (g : TG) (tc : TT) (te : TE) (cap : List Nat) : TE := fun σ H Q => wi σ H fun J H1 => compBodyT J kx g tc te cap σ Q H1
section
variable {X : Cx} {pins : List (Addr × Obj)} {σ : St} {H : Hp} {s : Shared}
structure CompScopeT (X : Cx) (scope : Scope) (xs : List Str) (cn : List Str) (cap : List Nat) : Prop where
 kind : scope.kind = .function
 names : ∀ y ∈ scope.names, y.2 = .local → scope.names.lookup y.1 = some .local
 cell : ∀ y ∈ scope.names, y.2 ≠ .cell
 own : ∀ y ∈ xs, scope.names.lookup y = some .local
 free : ∀ y ∈ scope.names, y.2 = .free → X.env.kindOf y.1 = some .cell ∨ X.env.kindOf y.1 = some .free
 cap : cap.map (fun i => X.N[i]?) = cn.map some
 capf : ∀ y ∈ cn, scope.names.lookup y = some .free
 capo : ∀ y ∈ cn, X.env.scope.names.lookup y = some .cell ∨ X.env.scope.names.lookup y = some .free
 nd : (xs ++ cn).Nodup
theorem comp_okT {scope : Scope} {xs : List Str} {cn : List Str} {cap : List Nat} {cl : List (Str × Addr)} {C : Addr} {fp : List Addr} (S : CompScopeT X scope xs cn cap) (I : Inv X pins σ H s) (hf : ∀ b ∈ fp, FpOk X pins H b) (hlt : ∀ b ∈ fp, b < s.heap.objs.size)
 (hc1 : ∀ y c, cl.lookup y = some c → X.env.cells.lookup y = some c) (hc2 : ∀ y, (y, NameKind.free) ∈ scope.names → ∃ c, cl.lookup y = some c) (hC : s.heap.objs.size ≤ C) : (cxComp X scope (xs ++ cn) cl C s H fp).Ok where
 mod := I.ok.mod
 kind := S.kind
 glob := I.ok.glob
 blt := I.ok.blt
 above := hC
 inj := fun y z c h1 h2 => I.ok.inj y z c (hc1 y c h1) (hc1 z c h2)
 has := fun y h => hc2 y (of_relabel (env := X.env) S.cell h)
 cab := fun y c h => by cases (show false = true from h)
 hd := I.ok.hd
 frames := I.ok.frames
 stk := .inl rfl
 exf := fun b hb => ⟨Nat.ne_of_lt (Nat.lt_of_lt_of_le (hlt b hb) hC), fun y c h => (hf b hb).2.2.2.2.1 y c (hc1 y c h)⟩
 bs := I.bs
 bsz := Nat.le_trans I.ok.bsz I.sz
 noex := fun b o e hb => by
  rcases (hf b hb).2.2.2.1 with z | z
  · exact I.ok.noex b o e z
  · have h1 := Heap.lt_size e
    exact absurd (Nat.lt_of_lt_of_le h1 (Nat.le_trans I.ok.bsz z)) (Nat.lt_irrefl _)
 exfs := fun b hb z => by
  rcases List.mem_cons.mp (I.stkSub b z) with q | q
  · exact (hf b hb).2.1 q
  · exact (hf b hb).2.2.1 q
 funs := I.stack
 frf := I.stkFree
theorem pe_compT {elt iter tg : Expr} {xs : List Str} {kx : Nat} {g : TG} {ifs : List Expr} {scope : Scope} {pos : Pos} {wi : TI} {tc : TT} {te : TE} (cn : List Str) (cap : List Nat) (S : CompScopeT X scope xs cn cap) (hc : X.calm = true)
 (hkx : xs.length = kx) (hg : ∀ cl C s₀ H₀ ex, PG (cxComp X scope (xs ++ cn) cl C s₀ H₀ ex) tg g)
 (hi : PI X tg iter wi) (hin : ∀ cl C s₀ H₀ ex, PIfs (cxComp X scope (xs ++ cn) cl C s₀ H₀ ex) ifs tc) (he : ∀ cl C s₀ H₀ ex, PE (cxComp X scope (xs ++ cn) cl C s₀ H₀ ex) elt te)
 (hs : ∀ z, foldedSetIterable iter X.env z = pure z := by intro _; rfl) : PE X (.ListComp elt [⟨tg, iter, ifs, 0⟩] scope pos) (tCompT wi kx g tc te cap) := by
 intro pins s σ H Q I h
 obtain ⟨cl, hclos, hc1, hc2⟩ := closure_ok (scope := scope) (env := X.env) fun y hy hk => I.ok.has y.1 (S.free y hy hk)
 rw [eval_ListComp]
 refine wpAny_comprehension_free (use := none) rfl hs hclos S.kind S.names (thn (hi pins s σ H _ I h) fun v s1 h1 => thn h1 fun itv s2 h2 => ?_)
 obtain ⟨it, fp, tn, J, H2, e, I2, T, st2, f2, q2⟩ := h2
 subst e
 have hlt : ∀ b ∈ fp, b < s2.heap.objs.size := fun b hb => by
  obtain ⟨o, e, _⟩ := T.obj _ _ st2 b hb
  exact Heap.lt_size e
 refine wpAny_newObj_type (wpAny_newFunctionEnv S.cell (by intro y hy; simp at hy) (fun h₁ hns₁ hsb₁ => ?_) S.kind)
 dsimp only at hns₁ hsb₁ ⊢
 generalize hP : s2.heap.push { cls := .type "list", dict := none, data := .seq ([] : List Value).toArray } = P2 at hns₁ hsb₁ ⊢
 have hC : P2.objs.size = s2.heap.objs.size + 1 := by rw [← hP, Heap.size_push]
 have hDC : s2.heap.objs.size ≠ P2.objs.size := by rw [hC]; exact Nat.ne_of_lt (Nat.lt_succ_self _)
 have hCle : s2.heap.objs.size ≤ P2.objs.size := by rw [hC]; exact Nat.le_succ _
 have neC : ∀ b, b < s2.heap.objs.size → b ≠ P2.objs.size := fun b hb => by rw [hC]; exact Nat.ne_of_lt (Nat.lt_succ_of_lt hb)
 have old : ∀ b o, s2.heap.get? b = some o → h₁.get? b = some o := fun b o e => hsb₁.extBut b o (neC b (Heap.lt_size e)) (Heap.get?_push_of_some _ (hP ▸ Heap.get?_push_of_some _ e))
 have hacc : h₁.get? s2.heap.objs.size = some { cls := .type "list", dict := none, data := .seq ([] : List Value).toArray } := hsb₁.extBut _ _ hDC (Heap.get?_push_of_some _ (hP ▸ Heap.get?_push_size _ rfl))
 have hD0 : H2 s2.heap.objs.size = none := I2.hok.fresh (Nat.le_refl _)
 have ok' : (cxComp X scope (xs ++ cn) cl P2.objs.size s2 H2 fp).Ok := comp_okT S I2 f2 hlt hc1 hc2 hCle
 obtain ⟨W, ⟨m0, w0⟩, turn⟩ := q2 _ hD0
 have hok1 : HOk X.prog X.w (upd H2 s2.heap.objs.size (.lst [])) h₁ := I2.hok.laid old (Nat.le_refl _) ⟨Nat.zero_le _, [], _, .nil, hacc⟩
 have un1 : Un (frs X.stack) fp H2 (upd H2 s2.heap.objs.size (.lst [])) s2.heap h₁ := Un.laid old (Nat.le_refl _) hD0
 have I4 : ∀ tk, Inv (cxComp X scope (xs ++ cn) cl P2.objs.size s2 H2 fp) [] (inStT kx cap σ) (upd H2 s2.heap.objs.size (.lst [])) { s2 with heap := h₁, toks := tk } := fun tk => by
  refine ⟨ok', rfl, I2.bare, un1, ⟨_, hns₁, fun i y v e1 e2 e3 => ?_⟩, fun y c e => ?_, ?_, fun y c e => ?_, fun p hp => (nomatch hp), hok1, ?_⟩
  · by_cases hik : i < kx
    · have e2' : (List.replicate kx (none : Option V) ++ cap.map fun i => (σ[i]?).join)[i]? = some (some v) := e2
      rw [List.getElem?_append_left (by rw [List.length_replicate]; exact hik), List.getElem?_replicate, if_pos hik] at e2'
      cases Option.some.inj e2'
    · have e1'' : (xs ++ cn)[i]? = some y := e1
      have e1' : cn[i - kx]? = some y := by
       rw [List.getElem?_append_right (by rw [hkx]; exact Nat.le_of_not_lt hik), hkx] at e1''
       exact e1''
      have ymem : y ∈ cn := List.mem_of_getElem? e1'
      obtain ⟨i0, ci, ni⟩ := map_get S.cap e1'
      have e2'' : (List.replicate kx (none : Option V) ++ cap.map fun i => (σ[i]?).join)[i]? = some (some v) := e2
      have e2' : (cap.map fun i => (σ[i]?).join)[i - kx]? = some (some v) := by
       rw [List.getElem?_append_right (by rw [List.length_replicate]; exact Nat.le_of_not_lt hik), List.length_replicate] at e2''
       exact e2''
      rw [List.getElem?_map, ci] at e2'
      have e3' : (σ[i0]?).join = some v := Option.some.inj e2'
      have e4 : σ[i0]? = some (some v) := by
       cases q : σ[i0]? with
       | none => rw [q] at e3'; cases e3'
       | some o => rw [q] at e3'; exact congrArg some e3'
      obtain ⟨m, hn, hl⟩ := I2.loc
      have vis : Vis X.env.scope y := .inr (S.capo y ymem)
      obtain ⟨u, r, lk⟩ := hl i0 y v ni e4 vis
      refine ⟨u, r, .inr ⟨lookup_relabel_free (env := X.env) (S.capf y ymem), ?_⟩⟩
      rcases lk with ⟨kl, _⟩ | ⟨_, c, ec, hcell⟩
      · rcases S.capo y ymem with z | z
        · have kl' : X.env.scope.names.lookup y = some .local := kl
          rw [z] at kl'; cases kl'
        · have kl' : X.env.scope.names.lookup y = some .local := kl
          rw [z] at kl'; cases kl'
      · have fm : (y, NameKind.free) ∈ scope.names := of_relabel (env := X.env) S.cell (lookup_relabel_free (env := X.env) (S.capf y ymem))
        obtain ⟨c', ec'⟩ := hc2 y fm
        have := hc1 y c' ec'
        rw [ec] at this
        cases this
        obtain ⟨o, ho, hd⟩ := hcell
        exact ⟨c, ec', o, old _ _ ho, hd⟩
  · obtain ⟨v, o, ho, hd⟩ := I2.cell y c (hc1 y c e)
    exact ⟨v, o, old _ _ ho, hd⟩
  · show (upd H2 s2.heap.objs.size (.lst [])) P2.objs.size = none
    rw [upd_ne (Ne.symm hDC)]
    exact I2.hok.fresh hCle
  · obtain ⟨v, o, ho, hd⟩ := I2.cell y c (hc1 y c e)
    rw [upd_ne (Nat.ne_of_lt (Heap.lt_size ho))]
    exact I2.freeC y c (hc1 y c e)
  · show (inStT kx cap σ).length = (xs ++ cn).length
    have := congrArg List.length S.cap
    simp only [List.length_map] at this
    simp [inStT, this, hkx]
 have stat : ∀ {H' : Hp}, (∀ b ∈ fp, H' b = none) → ∀ b ∈ fp, FpOk (cxComp X scope (xs ++ cn) cl P2.objs.size s2 H2 fp) [] H' b := fun hn b hb =>
  ⟨hn b hb, neC b (hlt b hb), ok'.exfs b hb, .inl hb, fun y c e => (ok'.exf b hb).2 y c e, fun p hp => (nomatch hp)⟩
 have loop : ∀ s₃ : Shared, s₃ = { s2 with heap := h₁, toks := s2.toks + ([] : List (Str × Value)).length } →
  codeAny (model X.prog X.w) X.A (.compLoop (.ListComp elt [⟨tg, iter, ifs, 0⟩] scope pos) 0 (.ref it) (.ref s2.heap.objs.size) (compEnvC scope cl P2.objs.size X.env))
   (compPost (model X.prog X.w) X.A X.xe none (EP X pins σ Q) (.ref s2.heap.objs.size) P2.objs.size) s₃ := by
  rintro s₃ rfl
  refine codeAny_loop rfl (fun n s' => ∃ i H', Inv (cxComp X scope (xs ++ cn) cl P2.objs.size s2 H2 fp) [] (inStT kx cap σ) H' s' ∧ tn i s'.heap ∧ (∀ b ∈ fp, H' b = none) ∧ W i n H') ?_ m0
   ⟨0, _, I4 _, T.keep _ _ _ st2 fun b hb o e => old b o e, fun b hb => by rw [upd_ne (Nat.ne_of_lt (hlt b hb))]; exact (f2 b hb).1, w0⟩
  rintro n s3 ⟨i, H3, I3, st3, fr3, w3⟩
  show wpAny _ X.A ((compTurn (.ListComp elt [⟨tg, iter, ifs, 0⟩] scope pos) 0 (.ref it) (.ref s2.heap.objs.size) (compEnvC scope cl P2.objs.size X.env)).onRaise (fun x => do noteFrame x (compEnvC scope cl P2.objs.size X.env); theTreesLotGoes x)) _ _ s3
  refine wpAny_noted ?_
  rw [compTurn_list]
  refine wpAny_bind (wpAny_standAt (wpAny_bind ?_))
  rcases turn i n H3 w3 with ⟨stop, qn⟩ | ⟨go, step⟩
  · refine wpAny_mono (T.done (cxComp X scope (xs ++ cn) cl P2.objs.size s2 H2 fp) rfl rfl rfl hc i [] s3 _ H3 (fun _ _ => False) I3 (stat fr3) st3 stop) (fun r s4 ⟨hr, I5⟩ => ?_) fun _ _ z => z.elim
    subst hr
    refine wpAny_pure ?_
    obtain ⟨m, hn, _⟩ := id I5.loc
    refine ⟨m, hn, fun h' hsb => ⟨.ref s2.heap.objs.size, H3, ?_, rfl, qn⟩⟩
    have kp : ∀ b o, b ≠ P2.objs.size → s4.heap.get? b = some o → h'.get? b = some o := fun b o hb e => hsb.extBut b o hb e
    have b0 := I5.base
    have sm : ∀ b o, s2.heap.get? b = some o → b ≠ P2.objs.size := fun b o e => neC b (Heap.lt_size e)
    refine I2.call' (s' := { s4 with heap := h' }) (ch := fp) I5.os ⟨fun b o e n hb hx => kp _ _ (sm b o e) (b0.keep b o e n hb hx), fun b o e n hb hx => ?_, b0.free, fun b o e hx => ?_, b0.tups, b0.frzs, b0.tbls⟩ (fun b u e => ?_) I5.bare
     fun b hb => ⟨(f2 b hb).2.2.2.1, (f2 b hb).2.1, (f2 b hb).2.2.2.2.1, (f2 b hb).2.2.2.2.2⟩
    · obtain ⟨sl, q⟩ := b0.slot b o e n hb hx
      exact ⟨sl, kp _ _ (sm b o e) q⟩
    · obtain ⟨o', q⟩ := b0.there b o e hx
      exact ⟨o', kp _ _ (sm b o e) q⟩
    · have hfree : H3 P2.objs.size = none := I5.free
      refine (I5.hok b u e).stay (fun c v hc' q => kp c v ?_ q) (fun _ q => q) fun _ _ q => q
      rcases hc' with z | z
      · rw [z]; exact ne_of_none e hfree
      · exact ne_of_none z hfree
  · refine wpAny_mono (T.item (cxComp X scope (xs ++ cn) cl P2.objs.size s2 H2 fp) rfl rfl rfl hc i [] s3 _ H3 (fun _ _ => False) I3 (stat fr3) st3 go) (fun r s4 ⟨u, hr, h4⟩ => ?_) fun _ _ z => z.elim
    subst hr
    refine wpAny_bind (wpAny_mono h4 (fun _ s5 ⟨xv, H5, I5, r5, y5, st5, fr5⟩ => ?_) fun _ _ z => z.elim)
    have I5' := I5.pinned (stat fr5) (T.obj _ _ st5)
    refine wpAny_bind (wpAny_mono (hg cl P2.objs.size s2 H2 fp _ s5 _ H5 xv u _ I5' r5 (step xv _ y5)) (fun _ s6 ⟨σ6, H6, I6, ks, q6⟩ => ?_) fun _ _ z => z.elim)
    have again : ∀ {s7 : Shared} {H7 : Hp}, Inv (cxComp X scope (xs ++ cn) cl P2.objs.size s2 H2 fp) ([] ++ pinsAt fp s5.heap) σ6 H7 s7 → (∃ m', m' < n ∧ W (i + 1) m' H7) →
     ∃ m, m < n ∧ ∃ i H', Inv (cxComp X scope (xs ++ cn) cl P2.objs.size s2 H2 fp) [] (inStT kx cap σ) H' s7 ∧ tn i s7.heap ∧ (∀ b ∈ fp, H' b = none) ∧ W i m H' := fun {s7 H7} I7 w7 => by
     obtain ⟨m', hm, w7⟩ := w7
     refine ⟨m', hm, i + 1, H7, I7.unpinned.weak ks.1 ks.2, T.keep _ _ _ st5 fun b hb o e => (I7.pin (b, o) (List.mem_append_right _ (List.mem_append_right _ (mem_pinsAt hb e)))).1, fun b hb => ?_, w7⟩
     · obtain ⟨o, e, d⟩ := T.obj _ _ st5 b hb
       exact (I7.pin (b, o) (List.mem_append_right _ (List.mem_append_right _ (mem_pinsAt hb e)))).2.1
    refine wpAny_bind (wpAny_mono (hin cl P2.objs.size s2 H2 fp _ s6 _ _ _ I6 q6) (fun ok s7 ⟨H7, I7, q7⟩ => ?_) fun _ _ z => z.elim)
    cases ok with
    | false =>
      have q7' : ∃ m', m' < n ∧ W (i + 1) m' H7 := by simpa using q7
      exact wpAny_pure ⟨rfl, again I7 q7'⟩
    | true =>
      have q7' := (if_pos rfl).mp q7
      refine wpAny_bind (wpAny_bind (wpAny_mono (he cl P2.objs.size s2 H2 fp _ s7 _ H7 _ I7 q7') (fun yv s8 ⟨y, H8, I8, r8, ys, h8, z8, q8⟩ => ?_) fun _ _ z => z.elim))
      refine wpAny_bind (wpAny_mono (mt_append (X := cxComp X scope (xs ++ cn) cl P2.objs.size s2 H2 fp) _ s8 _ H8 (.ref s2.heap.objs.size) [y] (.ref s2.heap.objs.size) [yv] (fun _ H9 => ∃ m', m' < n ∧ W (i + 1) m' H9) I8 rfl (.cons r8 .nil) ⟨_, ys, y, rfl, rfl, h8, z8, q8⟩) (fun _ s9 ⟨_, H9, I9, _, q9⟩ => ?_) fun _ _ z => z.elim)
      exact wpAny_pure (wpAny_pure ⟨rfl, again I9 q9⟩)
 exact codeAny_compStart_list (loop _ rfl) (T.self _ 0 _ _ _ (T.keep _ _ _ st2 fun b hb o e => old b o e) (loop _ rfl))
end
end L2
namespace L2
open PySem PySem.Spec PyProof.Rows
section
variable {X : Cx} {pins : List (Addr × Obj)} {σ : St} {H : Hp} {s : Shared}
theorem TyOf.kit {x : V} {u t : Value} (ty : TyOf X.K H x t) (I : Inv X pins σ H s) (rx : RelV x u) : (u ≠ .builtin "__main__.__loader__#opaque") ∧ ∃ Z, PySem.W.KitX X.K u t Z ∧ Z s.heap := by
 cases ty with
 | non => cases (show u = Value.none from rx); exact ⟨(fun z => nomatch z), _, PySem.W.kitx_none, True.intro⟩
 | bl y => cases (show u = Value.bool y from rx); exact ⟨(fun z => nomatch z), _, PySem.W.kitx_bool, True.intro⟩
 | int i => obtain ⟨t, q⟩ := (show ∃ t, u = Value.int i t from rx); cases q; exact ⟨(fun z => nomatch z), _, PySem.W.kitx_int, True.intro⟩
 | str y => obtain ⟨t, q⟩ := (show ∃ t, u = Value.str y t from rx); cases q; exact ⟨(fun z => nomatch z), _, PySem.W.kitx_str, True.intro⟩
 | flt y => obtain ⟨t, q⟩ := (show ∃ t, u = Value.float y t from rx); cases q; exact ⟨(fun z => nomatch z), _, PySem.W.kitx_float, True.intro⟩
 | @lst a xs ea =>
   cases (show u = Value.ref a from rx)
   obtain ⟨_, _, n, _, h1⟩ := (show ObjOk X.prog X.w H s.heap a (.lst xs) from I.hok a _ ea)
   exact ⟨(fun z => nomatch z), _, PySem.W.kitx_list, _, h1, rfl⟩
 | @frz a ob xs ea =>
   cases (show u = Value.ref a from rx)
   obtain ⟨_, _, _, n, _, h1⟩ := (show ObjOk X.prog X.w H s.heap a (.frz ob (.lst xs)) from I.hok a _ ea)
   exact ⟨(fun z => nomatch z), _, PySem.W.kitx_list, _, h1, rfl⟩
 | @tup a xs ea =>
   cases (show u = Value.ref a from rx)
   obtain ⟨_, _, _, p⟩ := (show ObjOk X.prog X.w H s.heap a (.tup xs) from I.hok a _ ea)
   obtain ⟨o, h1, h2, _⟩ := p
   exact ⟨(fun z => nomatch z), _, PySem.W.kitx_tuple, o, h1, h2⟩
 | @dK a kvs ea =>
   cases (show u = Value.ref a from rx)
   obtain ⟨_, _, vs, _, p⟩ := (show ObjOk X.prog X.w H s.heap a (.dK kvs) from I.hok a _ ea)
   obtain ⟨o, es, ep, h1, h2, _⟩ := p
   exact ⟨(fun z => nomatch z), _, PySem.W.kitx_dict, o, h1, h2.1⟩
 | @dT a kvs ea =>
   cases (show u = Value.ref a from rx)
   obtain ⟨_, _, xs, _, o, es, ep, h1, h2, _⟩ := (show ObjOk X.prog X.w H s.heap a (.dT kvs) from I.hok a _ ea)
   exact ⟨(fun z => nomatch z), _, PySem.W.kitx_dict, o, h1, h2.1⟩
 | @ins a C dx fs ea cl ha hn htk hm =>
   cases (show u = Value.ref a from rx)
   obtain ⟨mA, O, _⟩ := ins_get I.hok ea
   obtain ⟨od, J, _⟩ := O.look
   exact ⟨(fun z => nomatch z), _, PySem.W.kitx_own (cl.get _) cl.hd ha hn htk hm, J⟩
def rIsA (K : PySem.W.Frag) : List V → Hp → VK → Prop := fun xs H Q => ∃ x p Ts t k, xs = [x, .ref p] ∧ H p = some (.tup (List.map V.ty Ts)) ∧ TyOf K H x t ∧ PySem.W.kitAny K t (Ts.map .type) = some k ∧ Q (.bl k) H
theorem vals_ty : ∀ {Ts : List String} {us : List Value}, Vals (Ts.map V.ty) us → us = Ts.map .type
 | [], _, .nil => rfl
 | T :: Ts, _, .cons h t => by
   obtain rfl : _ = Value.type T := h
   rw [vals_ty t]
   rfl
theorem call_isA : CallR X (.builtin "isinstance") (rIsA X.K) := by
 intro pins s σ H xs us Q I r h
 obtain ⟨x, p, Ts, t, k, rfl, hp, ty, e, q⟩ := h
 obtain ⟨u, v, rfl, rx, rv⟩ := Vals.two r
 cases rv
 obtain ⟨nq, Z, z1, z2⟩ := ty.kit I rx
 obtain ⟨_, its, rr, o, h1, h2, n, h3⟩ := (show ObjOk X.prog X.w H s.heap p (.tup (List.map V.ty Ts)) from I.hok p _ hp)
 obtain ⟨oc, od, odt, osl⟩ := o
 dsimp only at h2 h3
 subst h2 h3
 have ei := vals_ty rr
 subst ei
 exact PySem.W.kia_tup z1 I.kIn z2 h1 e nq fun tk => ⟨.bl k, H, I.tok _, rfl, q⟩
def rIsC (K : PySem.W.Frag) : List V → Hp → VK → Prop := fun xs H Q => ∃ x c t k, xs = [x, .ref c] ∧ TyOf K H x t ∧ PySem.W.kitOne K t (.ref c) = some k ∧ Q (.bl k) H
theorem call_isC : CallR X (.builtin "isinstance") (rIsC X.K) := by
 intro pins s σ H xs us Q I r h
 obtain ⟨x, c, t, k, rfl, ty, e, q⟩ := h
 obtain ⟨u, v, rfl, rx, rv⟩ := Vals.two r
 cases rv
 exact isinst_ok I rx ty e fun tk => ⟨.bl k, H, I.tok _, rfl, q⟩
end
structure PKd (K : PySem.W.Frag) (ns : List Str) (C : Addr) (ms fs : List Str) : Prop where
 cls : Cls K C
 ca : PySem.W.findIn K (.ref C) "__class__" = some (some (.builtin "object.__class__"))
 cg : PySem.W.specialIn K (.builtin "object.__class__") "__get__" = some (some (.builtin "getset_descriptor.__get__"))
 ct : PySem.W.takesIn K (.builtin "object.__class__") = some true
 top : PySem.W.mroIn K C (.type "object") = some true
 sub : ∀ T : String, (Value.type T == .type "object") = false → PySem.W.subIn K (.ref C) (.type T) = some false
 kit : ∀ n ∈ ns, PySem.W.kitOne K (.ref C) (.ref (clA K n)) = some (ms.contains n)
 na : ∀ f ∈ fs, NoAttr K C f
section
variable {K : PySem.W.Frag} {C : Addr} {cd : ClassData} {ns ms fs : List Str}
theorem PKd.ty {H : Hp} {a dx : Addr} {gs : List (Str × V)} (p : PKd K ns C ms fs) (e : H a = some (.ins C dx gs)) : TyOf K H (.ref a) (.ref C) := .ins e p.cls p.ca p.cg p.ct p.top
theorem PKd.notT (p : PKd K ns C ms fs) (T : String) (h : (Value.type T == .type "object") = false := by decide) (hm : PySem.W.kitMeta T = true := by decide +kernel) : PySem.W.kitOne K (.ref C) (.type T) = some false := by
 unfold PySem.W.kitOne PySem.W.kitCls
 rw [if_neg (by intro q; cases beq_iff_eq.mp q)]
 dsimp only
 rw [if_pos hm]
 exact p.sub T h
theorem pkd_mk {x : Str} {dd : Option Addr} {sl : Array (Option Value)} {Cs : List Addr} (hn : PySem.W.nsIn K mainGlobals x = some (some (.ref C))) (l : K.lookup C = some ⟨.type "type", dd, .cls cd, sl⟩) (hm : cd.mro = [.ref C, .type "object"]) (p : Pts K ns Cs) (e : (Cs.map fun D => cd.mro.contains (.ref D)) = ns.map ms.contains)
 (pg : PySem.W.plainGet K C Str.empty = true) (hd : PySem.W.hasDictIn K C = true) (po : PySem.W.plainOver K C = true) (sa : PySem.W.findIn K (.ref C) "__setattr__" = some (some (.builtin "object.__setattr__")))
 (ca : PySem.W.findIn K (.ref C) "__class__" = some (some (.builtin "object.__class__"))) (cg : PySem.W.specialIn K (.builtin "object.__class__") "__get__" = some (some (.builtin "getset_descriptor.__get__"))) (ct : PySem.W.takesIn K (.builtin "object.__class__") = some true)
 (na : ∀ f ∈ fs, NoAttr K C f) : PKd K ns (clA K x) ms fs := by
 rw [clA_of hn]
 have hc : PySem.W.clsIn K C = some cd := by
  unfold PySem.W.clsIn
  rw [l]
 have ht : PySem.W.typeIn K (.ref C) = some (.type "type") := by
  show (K.lookup C).map (·.cls) = _
  rw [l]
  rfl
 have o : KObj K C cd := ⟨hc, ht, _, hm⟩
 refine ⟨⟨pg, hd, po, sa⟩, ca, cg, ct, ?_, fun T hT => ?_, kit_all o p e, na⟩
 · have := o.sub (.type "object")
   rw [hm] at this
   exact this.trans (by rw [List.contains_cons, List.contains_cons, beq_self_eq_true, Bool.true_or, Bool.or_true])
 · rw [o.sub, hm, List.contains_cons, List.contains_cons, hT, Bool.false_or, List.contains_nil, Bool.or_false]
   rfl
theorem kobj_mk {dd : Option Addr} {sl : Array (Option Value)} (l : K.lookup C = some ⟨.type "type", dd, .cls cd, sl⟩) (hm : cd.mro = [.ref C, .type "object"]) : KObj K C cd := ⟨by unfold PySem.W.clsIn; rw [l], by show (K.lookup C).map (·.cls) = _; rw [l]; rfl, _, hm⟩
theorem mk_mk {x : Str} {f : Addr} (hn : PySem.W.nsIn K mainGlobals x = some (some (.ref C))) (mi : PySem.W.makesIn K C = true) (hi : PySem.W.findIn K (.ref C) "__init__" = some (some (.ref f))) (hf : PySem.W.isFn K (.ref f) = true) (kp : PySem.W.keepIn K (.ref C) = true) : Mk K (clA K x) f := by
 rw [clA_of hn]
 exact ⟨mi, hi, hf, kp⟩
end
structure GotP (P : Program) (w : World) (K : PySem.W.Frag) (mg : Str → Option Value) (base : Heap) (k : Nat) (x : Str) (ps : List Str) (sp : Sp) : Prop where
 ex : ∃ f fd, Mk K (clA K x) f ∧ FnOk P w K mg base CX0 k f fd ps sp ∧ Binds K fd ps [] ∧ mg x = some (.ref (clA K x))
section
variable {X : Cx} {k n : Nat} {x : Str} {ps : List Str} {sp : Sp} {p pos : Pos} {e : Expr} {es : List Expr} {t : TA}
theorem pe_mkP (g : GotP X.prog X.w X.K X.mg X.base k x ps sp) (hr : Room n X.A) (hk : k + 1 ≤ n) (hg : Gl X x) (ha : PA X (e :: es) t) (hdb : (x == ("__debug__" : Str)) = false := by decide)
 (he : starEach (e :: es) X.env = (false, eval e X.env) :: starEach es X.env := by rfl) (hpl : (backTo pos (starEach es X.env)).any (·.1) = false := by rfl) :
 PE X (.Call (.Name x p) (e :: es) [] pos) (tMake (clA X.K x) sp [] E0 t) := by
 obtain ⟨f, fd, M, F, hb, hm⟩ := g.ex
 exact pe_make M F (hr.mono hk) hg hm hb .nil pass0 ha hdb he hpl
end
structure CompCT (fsc : Scope) (N : List Str) (scope : Scope) (xs : List Str) (cn : List Str) (cap : List Nat) : Prop where
 kind : scope.kind = .function
 names : ∀ y ∈ scope.names, y.2 = .local → scope.names.lookup y.1 = some .local
 cell : ∀ y ∈ scope.names, y.2 ≠ .cell
 own : ∀ y ∈ xs, scope.names.lookup y = some .local
 free : ∀ y ∈ scope.names, y.2 = .free → fsc.names.lookup y.1 = some .cell ∨ fsc.names.lookup y.1 = some .free
 cap : cap.map (fun i => N[i]?) = cn.map some
 capf : ∀ y ∈ cn, scope.names.lookup y = some .free
 capo : ∀ y ∈ cn, fsc.names.lookup y = some .cell ∨ fsc.names.lookup y = some .free
 nd : (xs ++ cn).Nodup
theorem CompCT.to {X : Cx} {fsc : Scope} {N : List Str} {scope : Scope} {xs cn : List Str} {cap : List Nat} (c : CompCT fsc N scope xs cn cap) (e1 : X.env.scope = fsc) (e2 : X.N = N) : CompScopeT X scope xs cn cap := by
 subst e1 e2
 exact ⟨c.kind, c.names, c.cell, c.own, c.free, c.cap, c.capf, c.capo, c.nd⟩
theorem pg_comp {X : Cx} {scope : Scope} {xs cn : List Str} {cap : List Nat} {cl : List (Str × Addr)} {C : Addr} {s₀ : Shared} {H₀ : Hp} {ex : List Addr} {y : Str} {pos : Pos} (S : CompScopeT X scope xs cn cap) (i : Nat) (hi : (xs ++ cn)[i]? = some y) (hm : y ∈ xs) :
 PG (cxComp X scope (xs ++ cn) cl C s₀ H₀ ex) (.Name y pos) (gName i) := pg_name (i := i) S.nd hi (.inl (lookup_relabel_local (env := X.env) (S.own y hm))) (.inr (lookup_relabel_local (env := X.env) (S.own y hm)))
section
variable {X : Cx} {K : PySem.W.Frag} {e : Expr} {f : Str} {pos : Pos} {ta : TE}
theorem pe_fldK (h : X.K = K) (he : PE X e ta) (hb : attributeBase e f X.env (eval e X.env) = eval e X.env) : PE X (.Attribute e f pos) (tFld K ta f) := by
 subst h; exact pe_fld he hb
theorem call_isCK (h : X.K = K) : CallR X (.builtin "isinstance") (rIsC K) := by
 subst h; exact call_isC
theorem pg_tupK {es : List Expr} {k : Nat} {t : TGs} {n : Nat} (h : X.K = K) (hc : X.calm = true) (hs : PGs X es t)
 (hn : (assignEach es X.env).length = n := by rfl) (hst : (assignEach es X.env).findIdx? (·.1) = none := by rfl) : PG X (.Tuple es k pos) (gTup K n t) := by
 subst h; exact pg_tup hc hs hn hst
theorem pe_clK {x : Str} (h : X.K = K) (hg : Gl X x) (hm : X.mg x = some (.ref (clA K x))) (hd : (x == ("__debug__" : Str)) = false := by decide) : PE X (.Name x pos) (tC (.ref (clA K x))) := pe_glob hg hm rfl hd
end
end L2
namespace L2
open PySem PySem.Spec PyProof.Rows
section
variable {X : Cx}
end
end L2
namespace L2
open PySem PySem.Spec PyProof.Rows
section
variable {prog : Program} {w : World} {A : Around} {E : Value → Shared → Prop} {s : Shared}
theorem not_rn (t : Addr) : ¬ ((Value.ref t == Value.none) = true) := fun z => Bool.false_ne_true z
theorem tdraw_item {j t : Addr} {i : Nat} {vs : Array Value} {x : Value} {Q : Value → Shared → Prop} (u : s.heap.IsTupleIter j t i) (v : s.heap.IsTuple t vs) (ex : vs[i]? = some x)
 (k : ∀ h', h'.IsTupleIter j t (i + 1) → Heap.SameBut j s.heap h' → Q x { s with heap := h' }) : wpAny (model prog w) A (Builtin.SmallTypes.nextOf (.ref j)) Q E s := by
 obtain ⟨oj, ej, cj, dj⟩ := id u
 obtain ⟨ot, et, _, nt, dt⟩ := v
 delta Builtin.SmallTypes.nextOf
 refine wpAny_bind (wpAny_callSpecial?_slot (name := "__next__") u.typeIs F.slot_tuple_iterator_next (wpAny_call_entry F.slot_tuple_iterator_next u.typeIs F.entry_tuple_iterator_next ?_ (F.args_tuple_iterator_next_1 _)))
 show wpAny (model prog w) A.in1 (field (.ref j) 0 >>= _) _ _ s
 refine wpAny_bind (wpAny_field (x := .ref t) ej dj rfl ?_)
 show wpAny (model prog w) A.in1 (if (Value.ref t == Value.none) = true then _ else _) _ _ s
 rw [if_neg (not_rn t)]
 show wpAny (model prog w) A.in1 (field (.ref j) 1 >>= _) _ _ s
 refine wpAny_bind (wpAny_field (x := .int i 0) ej dj rfl ?_)
 show wpAny (model prog w) A.in1 (seqItems? (.ref t) >>= _) _ _ s
 refine wpAny_bind (wpAny_seqItems et dt ?_)
 simp only [ex, Int.toNat_natCast]
 refine wpAny_bind (wpAny_setField ej dj (by simp) (wpAny_pure ⟨x, rfl, wpAny_pure (k _ ⟨_, Heap.get?_update_self _ ej (Obj.isFreed_of_fields (Obj.data_mapFields dj _)), (Obj.cls_mapFields ..).trans cj, ?_⟩ (Heap.SameBut.update ..))⟩))
 rw [Obj.data_mapFields dj]
 simp [rawInt]
theorem tdraw_end {j t : Addr} {i : Nat} {vs : Array Value} {Q : Value → Shared → Prop} (hA : A.handled = none) (u : s.heap.IsTupleIter j t i) (v : s.heap.IsTuple t vs) (ex : vs[i]? = none)
 (k : ∀ h' e, Heap.ExtBut j s.heap h' → (∃ o, h'.get? e = some o ∧ o.cls = .type "StopIteration") → E (.ref e) { s with heap := h' }) : wpAny (model prog w) A (Builtin.SmallTypes.nextOf (.ref j)) Q E s := by
 obtain ⟨oj, ej, cj, dj⟩ := id u
 obtain ⟨ot, et, _, nt, dt⟩ := v
 delta Builtin.SmallTypes.nextOf
 refine wpAny_bind (wpAny_callSpecial?_slot (name := "__next__") u.typeIs F.slot_tuple_iterator_next (wpAny_call_entry F.slot_tuple_iterator_next u.typeIs F.entry_tuple_iterator_next ?_ (F.args_tuple_iterator_next_1 _)))
 show wpAny (model prog w) A.in1 (field (.ref j) 0 >>= _) _ _ s
 refine wpAny_bind (wpAny_field (x := .ref t) ej dj rfl ?_)
 show wpAny (model prog w) A.in1 (if (Value.ref t == Value.none) = true then _ else _) _ _ s
 rw [if_neg (not_rn t)]
 show wpAny (model prog w) A.in1 (field (.ref j) 1 >>= _) _ _ s
 refine wpAny_bind (wpAny_field (x := .int i 0) ej dj rfl ?_)
 show wpAny (model prog w) A.in1 (seqItems? (.ref t) >>= _) _ _ s
 refine wpAny_bind (wpAny_seqItems et dt ?_)
 simp only [ex, Int.toNat_natCast]
 refine wpAny_bind (wpAny_rule (wpAny_bind (wpAny_setField ej dj (by simp) ?_)))
 refine wpAny_bind ?_
 simp only [newTuple, newExc]
 refine wpAny_bind (wpAny_newObj_type ?_ (by size_fits))
 refine wpAny_bind (wpAny_of_eq (a := Value.none) (by first | rfl | (simp only [firstArgMember]; rfl)) (wpAny_newObj_type ?_ (by size_fits)))
 simp only [raiseNew]
 refine wpAny_bind (wpAny_handled ?_)
 rw [show A.in1.handled = none from hA]
 exact wpAny_bind (wpAny_pure (wpAny_throw (k _ _ (((Heap.SameBut.update ..).extBut.push _).push _) ⟨_, Heap.get?_push_size _ rfl, rfl⟩)))
structure ZP (h : Heap) (z ti to_ j1 j2 t1 t2 : Addr) (i : Nat) (f0 a b : Value) (vs us : Array Value) : Prop where
 z : IsZip h z ti to_ f0
 ti : IsPair h ti (.ref j1) (.ref j2)
 to_ : IsPair h to_ a b
 j1 : h.IsTupleIter j1 t1 i
 j2 : h.IsTupleIter j2 t2 i
 t1 : h.IsTuple t1 vs
 t2 : h.IsTuple t2 us
theorem tzip_item {z ti to_ j1 j2 t1 t2 : Addr} {i : Nat} {vs us : Array Value} {x y a b : Value} {Q : Value → Shared → Prop} (D : ZipApart z ti to_ j1 j2 t1 t2) (Z : ZP s.heap z ti to_ j1 j2 t1 t2 i .none a b vs us) (ex : vs[i]? = some x) (ey : us[i]? = some y)
 (k : ∀ h', IsZip h' z ti to_ (rawInt s.heap.objs.size) → IsPair h' to_ x y → h'.IsTupleIter j1 t1 (i + 1) → h'.IsTupleIter j2 t2 (i + 1) → IsPair h' s.heap.objs.size x y →
  (∀ c o, c ≠ z → c ≠ to_ → c ≠ j1 → c ≠ j2 → s.heap.get? c = some o → h'.get? c = some o) → Q (.ref s.heap.objs.size) { s with heap := h' }) :
 wpAny (model prog w) A (Builtin.«zip.__next__» ⟨[.ref z], []⟩) (fun fin s' => ∃ v, fin = .done (.ret v) ∧ Q v s') E s := by
 show wpAny (model prog w) A (field (.ref z) 2 >>= _) _ _ _
 refine wpAny_bind (wpAny_field (x := .bool false) Z.z rfl rfl ?_)
 show wpAny (model prog w) A (field (.ref z) 3 >>= _) _ _ _
 refine wpAny_bind (wpAny_field (x := .ref ti) Z.z rfl rfl (wpAny_bind (wpAny_seqItems Z.ti rfl ?_)))
 show wpAny (model prog w) A (Builtin.SmallTypes.ownedTupleIsFree (.ref z) >>= _) _ _ _
 refine wpAny_bind ?_
 delta Builtin.SmallTypes.ownedTupleIsFree
 refine wpAny_bind (wpAny_field (x := .none) Z.z rfl rfl (wpAny_pure ?_))
 simp only [if_true]
 refine wpAny_bind (wpAny_rule (wpAny_bind (wpAny_field (x := .ref to_) Z.z rfl rfl ?_)))
 refine wpAny_bind (wpAny_setField_rec Z.z (by simp) fun g1 z1 m1 => ?_)
 replace z1 : IsZip g1 z ti to_ .ellipsis := z1
 refine wpAny_bind ?_
 simp only [List.forIn_cons, List.forIn_nil, List.zipIdx_cons, List.zipIdx_nil]
 refine wpAny_bind (wpAny_bind (wpAny_onRaise ?_))
 show wpAny (model prog w) A (Builtin.SmallTypes.nextOf (.ref j1) >>= _) _ _ _
 refine wpAny_bind (tdraw_item (Z.j1.extBut m1.extBut D.i1z) (Z.t1.extBut m1.extBut D.l1z) ex fun g2 k2 m2 => wpAny_pure ?_)
 have o2 : IsPair g2 to_ a b := m2.extBut _ _ D.TOi1 (m1.extBut _ _ D.TOz Z.to_)
 refine wpAny_bind (wpAny_seqItems o2 rfl (wpAny_bind (wpAny_updateSeq_pair o2 fun g3 o3 m3 => ?_)))
 replace o3 : IsPair g3 to_ x b := o3
 refine wpAny_bind (wpAny_letGo (wpAny_pure (wpAny_bind (wpAny_bind (wpAny_onRaise ?_)))))
 show wpAny (model prog w) A (Builtin.SmallTypes.nextOf (.ref j2) >>= _) _ _ _
 refine wpAny_bind (tdraw_item (((Z.j2.extBut m1.extBut D.i2z).extBut m2.extBut D.i12.symm).extBut m3.extBut D.TOi2.symm) (((Z.t2.extBut m1.extBut D.l2z).extBut m2.extBut D.l2i1).extBut m3.extBut D.l2TO) ey fun g4 k4 m4 => wpAny_pure ?_)
 have o4 : IsPair g4 to_ x b := m4.extBut _ _ D.TOi2 o3
 refine wpAny_bind (wpAny_seqItems o4 rfl (wpAny_bind (wpAny_updateSeq_pair o4 fun g5 o5 m5 => ?_)))
 replace o5 : IsPair g5 to_ x y := o5
 refine wpAny_bind (wpAny_letGo (wpAny_pure (wpAny_pure (wpAny_bind (wpAny_seqItems o5 rfl (wpAny_bind (wpAny_newTuple ?_)))))))
 have sz : g5.objs.size = s.heap.objs.size := by rw [m5.1, m4.1, m3.1, m2.1, m1.1]
 have z5 : IsZip g5 z ti to_ .ellipsis := m5.extBut _ _ D.TOz.symm (m4.extBut _ _ D.i2z.symm (m3.extBut _ _ D.TOz.symm (m2.extBut _ _ D.i1z.symm z1)))
 have kk : ∀ c o, c ≠ z → c ≠ to_ → c ≠ j1 → c ≠ j2 → s.heap.get? c = some o → g5.get? c = some o := fun c o c1 c2 c3 c4 e => m5.extBut _ _ c2 (m4.extBut _ _ c4 (m3.extBut _ _ c2 (m2.extBut _ _ c3 (m1.extBut _ _ c1 e))))
 have a5 : g5.IsTupleIter j1 t1 (i + 1) := ((k2.extBut m3.extBut D.TOi1.symm).extBut m4.extBut D.i12).extBut m5.extBut D.TOi1.symm
 have b5 : g5.IsTupleIter j2 t2 (i + 1) := k4.extBut m5.extBut D.TOi2.symm
 have lz : z < g5.objs.size := Heap.lt_size z5
 show wpAny (model prog w) A (Builtin.SmallTypes.ownedTupleHandOut (.ref z) (.ref g5.objs.size) >>= _) _ _ _
 refine wpAny_bind ?_
 delta Builtin.SmallTypes.ownedTupleHandOut
 have z6 : IsZip (g5.push { cls := .type "tuple", data := .seq #[x, y] }) z ti to_ .ellipsis := Heap.get?_push_of_some _ z5
 refine wpAny_bind (wpAny_setField_rec z6 (by simp) fun g7 z7 m7 => ?_)
 replace z7 : IsZip g7 z ti to_ (rawInt g5.objs.size) := z7
 refine wpAny_setField_rec z7 (by simp) fun g8 z8 m8 => ?_
 replace z8 : IsZip g8 z ti to_ (rawInt g5.objs.size) := z8
 have up : ∀ c o, c ≠ z → g5.get? c = some o → g8.get? c = some o := fun c o c1 e => m8.extBut _ _ c1 (m7.extBut _ _ c1 (Heap.get?_push_of_some _ e))
 have n8 : IsPair g8 g5.objs.size x y := m8.extBut _ _ (Nat.ne_of_gt lz) (m7.extBut _ _ (Nat.ne_of_gt lz) (Heap.get?_push_size _ rfl))
 rw [sz] at z8 n8
 refine wpAny_pure ⟨_, rfl, ?_⟩
 show Q (.ref g5.objs.size) _
 rw [sz]
 obtain ⟨p1, e1, r1⟩ := a5
 obtain ⟨p2, e2, r2⟩ := b5
 exact k g8 z8 (up _ _ D.TOz o5) ⟨p1, up _ _ D.i1z e1, r1⟩ ⟨p2, up _ _ D.i2z e2, r2⟩ n8 fun c o c1 c2 c3 c4 e => up c o c1 (kk c o c1 c2 c3 c4 e)
theorem tzip_end {z ti to_ j1 j2 t1 t2 : Addr} {i : Nat} {vs us : Array Value} {a b : Value} {Q : Fin → Shared → Prop} (hA : A.handled = none) (D : ZipApart z ti to_ j1 j2 t1 t2) (Z : ZP s.heap z ti to_ j1 j2 t1 t2 i .none a b vs us) (en : vs[i]? = none)
 (k : ∀ h' e, (∀ c o, c ≠ z → c ≠ to_ → c ≠ j1 → c ≠ j2 → s.heap.get? c = some o → h'.get? c = some o) → (∃ o, h'.get? e = some o ∧ o.cls = .type "StopIteration") → E (.ref e) { s with heap := h' }) :
 wpAny (model prog w) A (Builtin.«zip.__next__» ⟨[.ref z], []⟩) Q E s := by
 show wpAny (model prog w) A (field (.ref z) 2 >>= _) _ _ _
 refine wpAny_bind (wpAny_field (x := .bool false) Z.z rfl rfl ?_)
 show wpAny (model prog w) A (field (.ref z) 3 >>= _) _ _ _
 refine wpAny_bind (wpAny_field (x := .ref ti) Z.z rfl rfl (wpAny_bind (wpAny_seqItems Z.ti rfl ?_)))
 show wpAny (model prog w) A (Builtin.SmallTypes.ownedTupleIsFree (.ref z) >>= _) _ _ _
 refine wpAny_bind ?_
 delta Builtin.SmallTypes.ownedTupleIsFree
 refine wpAny_bind (wpAny_field (x := .none) Z.z rfl rfl (wpAny_pure ?_))
 simp only [if_true]
 refine wpAny_bind (wpAny_rule (wpAny_bind (wpAny_field (x := .ref to_) Z.z rfl rfl ?_)))
 refine wpAny_bind (wpAny_setField_rec Z.z (by simp) fun g1 z1 m1 => ?_)
 replace z1 : IsZip g1 z ti to_ .ellipsis := z1
 refine wpAny_bind ?_
 simp only [List.forIn_cons, List.forIn_nil, List.zipIdx_cons, List.zipIdx_nil]
 refine wpAny_bind (wpAny_bind (wpAny_onRaise ?_))
 show wpAny (model prog w) A (Builtin.SmallTypes.nextOf (.ref j1) >>= _) _ _ _
 refine wpAny_bind (tdraw_end hA (Z.j1.extBut m1.extBut D.i1z) (Z.t1.extBut m1.extBut D.l1z) en fun g2 e m2 he => ?_)
 obtain ⟨oe, ee, ce⟩ := he
 have z2 : IsZip g2 z ti to_ .ellipsis := m2 _ _ D.i1z.symm z1
 have ne : e ≠ z := fun q => by subst q; rw [z2] at ee; cases ee; simp at ce
 exact wpAny_setField_rec z2 (by simp) fun g3 _ m3 => k g3 e (fun c o c1 _ c3 _ q => m3.extBut _ _ c1 (m2 _ _ c3 (m1.extBut _ _ c1 q))) ⟨oe, m3.extBut _ _ ne ee, ce⟩
theorem tzip_next {z ti to_ j1 j2 t1 t2 : Addr} {i : Nat} {vs us : Array Value} {x y a b : Value} {Q : Option Value → Shared → Prop} (D : ZipApart z ti to_ j1 j2 t1 t2) (Z : ZP s.heap z ti to_ j1 j2 t1 t2 i .none a b vs us) (ex : vs[i]? = some x) (ey : us[i]? = some y)
 (k : ∀ h', IsZip h' z ti to_ (rawInt s.heap.objs.size) → IsPair h' to_ x y → h'.IsTupleIter j1 t1 (i + 1) → h'.IsTupleIter j2 t2 (i + 1) → IsPair h' s.heap.objs.size x y →
  (∀ c o, c ≠ z → c ≠ to_ → c ≠ j1 → c ≠ j2 → s.heap.get? c = some o → h'.get? c = some o) → Q (some (.ref s.heap.objs.size)) { s with heap := h' }) :
 wpAny (model prog w) A (pyNext (.ref z)) Q E s := by
 have ty : s.TypeIs (.ref z) "zip" := ⟨_, Z.z, rfl⟩
 delta pyNext
 exact wpAny_bind (wpAny_attempt (wpAny_callSpecial?_slot (name := "__next__") ty F.slot_zip_next (wpAny_call_entry F.slot_zip_next ty F.entry_zip_next (tzip_item D Z ex ey fun h' a1 a2 a3 a4 a5 a6 => wpAny_pure (k h' a1 a2 a3 a4 a5 a6)) (F.args_zip_next_1 _))))
theorem tzip_stop {z ti to_ j1 j2 t1 t2 : Addr} {i : Nat} {vs us : Array Value} {a b : Value} {Q : Option Value → Shared → Prop} (hA : A.handled = none) (D : ZipApart z ti to_ j1 j2 t1 t2) (Z : ZP s.heap z ti to_ j1 j2 t1 t2 i .none a b vs us) (en : vs[i]? = none)
 (k : ∀ h', (∀ c o, c ≠ z → c ≠ to_ → c ≠ j1 → c ≠ j2 → s.heap.get? c = some o → h'.get? c = some o) → Q none { s with heap := h' }) : wpAny (model prog w) A (pyNext (.ref z)) Q E s := by
 have ty : s.TypeIs (.ref z) "zip" := ⟨_, Z.z, rfl⟩
 delta pyNext
 refine wpAny_bind (wpAny_attempt (wpAny_callSpecial?_slot (name := "__next__") ty F.slot_zip_next (wpAny_call_entry F.slot_zip_next ty F.entry_zip_next (tzip_end hA D Z en fun h' e kk he => ?_) (F.args_zip_next_1 _))))
 obtain ⟨oe, ee, ce⟩ := he
 exact wpAny_bind (wpAny_isInstance (T := "StopIteration") (b := true) ⟨oe, ee, ce⟩ isSubtype_stop (wpAny_pure (k _ kk)))
end
abbrev tz1 (h : Heap) (t1 : Addr) : Heap := h.push { cls := .type "tuple_iterator", data := .fields #[.ref t1, .int 0 0] }
abbrev tz2 (h : Heap) (t1 t2 : Addr) : Heap := (tz1 h t1).push { cls := .type "tuple_iterator", data := .fields #[.ref t2, .int 0 0] }
abbrev tz3 (h : Heap) (t1 t2 : Addr) : Heap := (tz2 h t1 t2).push { cls := .type "tuple", data := .seq #[.ref h.objs.size, .ref (tz1 h t1).objs.size] }
abbrev tz4 (h : Heap) (t1 t2 : Addr) : Heap := (tz3 h t1 t2).push { cls := .type "tuple", data := .seq #[.none, .none] }
abbrev tz5 (h : Heap) (t1 t2 : Addr) : Heap := (tz4 h t1 t2).push { cls := .type "zip", data := .fields #[.none, .bool false, .bool false, .ref (tz2 h t1 t2).objs.size, .ref (tz3 h t1 t2).objs.size] }
theorem tz_new (t1 t2 : Addr) (vs us : Array Value) : Meets (Builtin.«zip.__new__» ⟨[.type "zip", .ref t1, .ref t2], []⟩) (fun _ R s => s.heap.IsTuple t1 vs ∧ s.heap.IsTuple t2 us ∧ R (.ok (.ret (.ref (tz4 s.heap t1 t2).objs.size))) { s with heap := tz5 s.heap t1 t2 }) :=
 .of_wp fun prog w A R s h => by
  obtain ⟨hp, g, d, tk, os⟩ := s
  obtain ⟨e1, e2, h⟩ := h
  have sub := sub_zip
  have k1 : Heap.IsTuple (Shared.heap ⟨hp, g, d, tk, os⟩) t1 vs := e1
  have k2 : Heap.IsTuple (Shared.heap ⟨hp.push { cls := .type "tuple_iterator", data := .fields #[.ref t1, .int 0 0] }, g, d, tk, os⟩) t2 us := Heap.IsTuple.push e2 _
  wp_walk using wpAny_pyIter_tuple k1, wpAny_pyIter_tuple k2
  exact ⟨_, rfl, h⟩
section
variable {prog : Program} {w : World} {A : Around} {E : Value → Shared → Prop} {s : Shared}
theorem tz_call {t1 t2 : Addr} {vs us : Array Value} {Q : Value → Shared → Prop} (e1 : s.heap.IsTuple t1 vs) (e2 : s.heap.IsTuple t2 us)
 (k : ∀ h', ZP h' (s.heap.objs.size + 4) (s.heap.objs.size + 2) (s.heap.objs.size + 3) s.heap.objs.size (s.heap.objs.size + 1) t1 t2 0 .none .none .none vs us → (∀ c o, s.heap.get? c = some o → h'.get? c = some o) → Q (.ref (s.heap.objs.size + 4)) { s with heap := h' }) :
 wpAny (model prog w) A (call (.type "zip") [.ref t1, .ref t2]) Q E s := by
 refine callType_new F.called_zip (by decide) (F.typeCall_zip_2 _ _) (F.newCall_zip_2 _ _) (fun o => F.args_object_init_3 o _ _) F.entry_zip_new (tz_new t1 t2 vs us) ⟨e1, e2, ?_⟩
 have z1 : (tz1 s.heap t1).objs.size = s.heap.objs.size + 1 := Heap.size_push ..
 have z2 : (tz2 s.heap t1 t2).objs.size = s.heap.objs.size + 2 := by rw [Heap.size_push, z1]
 have z3 : (tz3 s.heap t1 t2).objs.size = s.heap.objs.size + 3 := by rw [Heap.size_push, z2]
 have z4 : (tz4 s.heap t1 t2).objs.size = s.heap.objs.size + 4 := by rw [Heap.size_push, z3]
 have up : ∀ c o, s.heap.get? c = some o → (tz5 s.heap t1 t2).get? c = some o := fun c o e => Heap.get?_push_of_some _ (Heap.get?_push_of_some _ (Heap.get?_push_of_some _ (Heap.get?_push_of_some _ (Heap.get?_push_of_some _ e))))
 have g5 : (tz5 s.heap t1 t2).get? (tz4 s.heap t1 t2).objs.size = some _ := Heap.get?_push_size _ rfl
 have g4 : (tz5 s.heap t1 t2).get? (tz3 s.heap t1 t2).objs.size = some _ := Heap.get?_push_of_some _ (Heap.get?_push_size _ rfl)
 have g3 : (tz5 s.heap t1 t2).get? (tz2 s.heap t1 t2).objs.size = some _ := Heap.get?_push_of_some _ (Heap.get?_push_of_some _ (Heap.get?_push_size _ rfl))
 have g2 : (tz5 s.heap t1 t2).get? (tz1 s.heap t1).objs.size = some _ := Heap.get?_push_of_some _ (Heap.get?_push_of_some _ (Heap.get?_push_of_some _ (Heap.get?_push_size _ rfl)))
 have g1 : (tz5 s.heap t1 t2).get? s.heap.objs.size = some _ := Heap.get?_push_of_some _ (Heap.get?_push_of_some _ (Heap.get?_push_of_some _ (Heap.get?_push_of_some _ (Heap.get?_push_size _ rfl))))
 show _ ∧ _
 rw [z4, z3, z2] at g5
 rw [z3] at g4
 rw [z2, z1] at g3
 rw [z1] at g2
 obtain ⟨p1, x1, r1⟩ := e1
 obtain ⟨p2, x2, r2⟩ := e2
 rw [z4]
 exact ⟨⟨_, g5, rfl⟩, k (tz5 s.heap t1 t2) ⟨g5, g3, g4, ⟨_, g1, rfl, rfl⟩, ⟨_, g2, rfl, rfl⟩, ⟨p1, up _ _ x1, r1⟩, ⟨p2, up _ _ x2, r2⟩⟩ up⟩
end
end L2
namespace L2
open PySem PySem.Spec PyProof.Rows
def ItzT (K : PySem.W.Frag) (l1 l2 : Addr) : It :=
 ⟨fun i H => ∃ xs ys, SqT K H l1 xs ∧ SqT K H l2 ys ∧ i < xs.length ∧ i < ys.length,
  fun i H x H' => ∃ T a b, H T = none ∧ x = .ref T ∧ H' = upd H T (.tup [a, b]) ∧ (∀ xs, SqT K H l1 xs → xs[i]? = some a) ∧ (∀ ys, SqT K H l2 ys → ys[i]? = some b),
  fun i H => ∃ xs ys, SqT K H l1 xs ∧ SqT K H l2 ys ∧ xs.length ≤ i⟩
def ZipStT (z ti to_ j1 j2 l1 l2 : Addr) (i : Nat) (h : Heap) : Prop := IsZip h z ti to_ .none ∧ IsPair h ti (.ref j1) (.ref j2) ∧ (∃ a b, IsPair h to_ a b) ∧ h.IsTupleIter j1 l1 i ∧ h.IsTupleIter j2 l2 i
theorem tit_at {h h' : Heap} {j t : Addr} {i : Nat} (u : h.IsTupleIter j t i) (k : ∀ o, h.get? j = some o → h'.get? j = some o) : h'.IsTupleIter j t i := by
 obtain ⟨o, e, r⟩ := u
 exact ⟨o, k o e, r⟩
theorem turn_zipT {P : Program} {w : World} {K : PySem.W.Frag} {elts : List Expr} {kk : Nat} {tpos : Pos} (z ti to_ j1 j2 l1 l2 : Addr) (D : ZipApart z ti to_ j1 j2 l1 l2) :
 Turn P w K (.Tuple elts kk tpos) (ItzT K l1 l2) [z, ti, to_, j1, j2] z (ZipStT z ti to_ j1 j2 l1 l2) where
 mem := by simp
 obj := fun i h st b hb => by
  obtain ⟨hz, hTI, ⟨a, c, hTO⟩, ⟨o1, e1, _, d1⟩, ⟨o2, e2, _, d2⟩⟩ := st
  simp only [List.mem_cons, List.not_mem_nil, or_false] at hb
  rcases hb with rfl | rfl | rfl | rfl | rfl
  · exact ⟨_, hz, fun v q => by cases (show Data.fields _ = Data.cell v from q)⟩
  · exact ⟨_, hTI, fun v q => by cases (show Data.seq _ _ = Data.cell v from q)⟩
  · exact ⟨_, hTO, fun v q => by cases (show Data.seq _ _ = Data.cell v from q)⟩
  · exact ⟨_, e1, fun v q => by rw [d1] at q; cases q⟩
  · exact ⟨_, e2, fun v q => by rw [d2] at q; cases q⟩
 keep := fun i h h' st k => by
  obtain ⟨hz, hTI, ⟨a, c, hTO⟩, h1, h2⟩ := st
  exact ⟨k z (by simp) _ hz, k ti (by simp) _ hTI, ⟨a, c, k to_ (by simp) _ hTO⟩, tit_at h1 fun o e => k j1 (by simp) o e, tit_at h2 fun o e => k j2 (by simp) o e⟩
 item := by
  intro X hP hw hK hc i pins s σ H E I hf st hg
  subst hP hw hK
  obtain ⟨xs, ys, q1, q2, g1, g2⟩ := hg
  obtain ⟨its1, r1, p1, z1⟩ := I.tuple q1
  obtain ⟨its2, r2, p2, z2⟩ := I.tuple q2
  obtain ⟨u1, e1, ru1⟩ := r1.get (List.getElem?_eq_getElem g1)
  obtain ⟨u2, e2, ru2⟩ := r2.get (List.getElem?_eq_getElem g2)
  obtain ⟨hz, hTI, ⟨a, c, hTO⟩, h1, h2⟩ := st
  refine tzip_next (x := u1) (y := u2) D ⟨hz, hTI, hTO, h1, h2, p1, p2⟩ (by simpa using e1) (by simpa using e2) fun h1' a1 a2 a3 a4 a5 hk => ⟨_, rfl, ?_⟩
  refine wpAny_letOwnedTupleGo_zip a1 fun h2' hz' hs' => ?_
  have lt : ∀ {c o}, s.heap.get? c = some o → s.heap.objs.size ≠ c := fun e => Nat.ne_of_gt (Heap.lt_size e)
  have Tz : s.heap.objs.size ≠ z := lt hz
  have kz : ∀ b o, b ≠ z → h1'.get? b = some o → h2'.get? b = some o := fun b o hb e => hs'.extBut _ _ hb e
  have I' : Inv X pins σ (upd H s.heap.objs.size (.tup [xs[i], ys[i]])) { s with heap := h2' } := by
   refine I.turnedNew (t' := s.toks) (ch := [z, to_, j1, j2]) (fun b o hb e => ?_) (fun b hb => hf b (by
    simp only [List.mem_cons, List.not_mem_nil, or_false] at hb ⊢
    rcases hb with rfl | rfl | rfl | rfl <;> simp)) (Nat.le_refl _) ?_
   · simp only [List.mem_cons, List.not_mem_nil, or_false, not_or] at hb
     exact kz b o hb.1 (hk b o hb.1 hb.2.1 hb.2.2.1 hb.2.2.2 e)
   · exact ⟨(by show 2 ≤ sizeLine; decide), [u1, u2], .cons ru1 (.cons ru2 .nil), _, kz _ _ Tz a5, rfl, _, rfl⟩
  refine ⟨.ref s.heap.objs.size, _, I', rfl, ⟨s.heap.objs.size, xs[i], ys[i], I.hok.fresh (Nat.le_refl _), rfl, rfl, fun xs' q' => ?_, fun ys' q' => ?_⟩, ⟨hz', ?_, ⟨_, _, kz _ _ D.TOz a2⟩, ?_, ?_⟩, fun b hb => ?_⟩
  · rw [I.tuple_inj q' q1]; exact List.getElem?_eq_getElem g1
  · rw [I.tuple_inj q' q2]; exact List.getElem?_eq_getElem g2
  · exact kz _ _ D.TIz (hk _ _ D.TIz D.TITO D.TIi1 D.TIi2 hTI)
  · exact tit_at a3 fun o e => kz _ _ D.i1z e
  · exact tit_at a4 fun o e => kz _ _ D.i2z e
  · have n := (hf b hb).1
    simp only [List.mem_cons, List.not_mem_nil, or_false] at hb
    have ob : ∃ o, s.heap.get? b = some o := by
     obtain ⟨o1, x1, _⟩ := h1
     obtain ⟨o2, x2, _⟩ := h2
     rcases hb with rfl | rfl | rfl | rfl | rfl
     · exact ⟨_, hz⟩
     · exact ⟨_, hTI⟩
     · exact ⟨_, hTO⟩
     · exact ⟨_, x1⟩
     · exact ⟨_, x2⟩
    obtain ⟨o, eo⟩ := ob
    rw [upd_ne (Ne.symm (lt eo))]
    exact n
 done := by
  intro X hP hw hK hc i pins s σ H E I hf st hg
  subst hP hw hK
  obtain ⟨xs, ys, q1, q2, g⟩ := hg
  obtain ⟨its1, r1, p1, z1⟩ := I.tuple q1
  obtain ⟨its2, r2, p2, z2⟩ := I.tuple q2
  obtain ⟨hz, hTI, ⟨a, c, hTO⟩, h1, h2⟩ := st
  have l1' := r1.length
  refine tzip_stop (I.ok.hd hc) D ⟨hz, hTI, hTO, h1, h2, p1, p2⟩ (Array.getElem?_eq_none (by rw [List.size_toArray]; omega)) fun h' hk => ⟨rfl, ?_⟩
  refine I.turnedL (t' := s.toks) (ch := [z, to_, j1, j2]) (fun b o hb e => ?_) (fun b hb => hf b (by
   simp only [List.mem_cons, List.not_mem_nil, or_false] at hb ⊢
   rcases hb with rfl | rfl | rfl | rfl <;> simp))
  simp only [List.mem_cons, List.not_mem_nil, or_false, not_or] at hb
  exact hk b o hb.1 hb.2.1 hb.2.2.1 hb.2.2.2 e
 self := fun _ _ _ _ _ st h => wpAny_pyIter_zip st.1 h
def iZipT (K : PySem.W.Frag) (ta : TA) : TI := fun σ H R => ta σ H fun vs H1 => ∃ l1 l2 xs ys, vs = [.ref l1, .ref l2] ∧ SqT K H1 l1 xs ∧ SqT K H1 l2 ys ∧ R (ItzT K l1 l2) H1
theorem pi_zipT {X : Cx} {a b : Expr} {ta : TA} {p pos tpos : Pos} {elts : List Expr} {kk : Nat} (hg : Gl X "zip") (hm : X.mg "zip" = none) (ha : PA X [a, b] ta) (hs : starEach [a, b] X.env = [(false, eval a X.env), (false, eval b X.env)] := by rfl) (hs2 : starEach [b] X.env = [(false, eval b X.env)] := by rfl) :
 PI X (.Tuple elts kk tpos) (.Call (.Name "zip" p) [a, b] [] pos) (iZipT X.K ta) := by
 intro pins s σ H R I h
 refine Call_ (ld_blt I hg hm (show bootBuiltins "zip" = some (.type "zip") from by decide +kernel) (PyProof.Rows.callWith_type1 (thn (ha pos pins s σ H _ I h) fun us s1 ⟨vs, H1, I1, r1, q1⟩ => ?_) (by rw [hs, hs2]) (by rw [hs2]; rfl)))
 obtain ⟨l1, l2, xs, ys, e, q1, q2, q⟩ := q1
 subst e
 obtain ⟨u1, u2, rfl, ru1, ru2⟩ := r1.two
 cases ru1
 cases ru2
 obtain ⟨its1, v1, p1, z1⟩ := I1.tuple q1
 obtain ⟨its2, v2, p2, z2⟩ := I1.tuple q2
 have b1 : l1 < s1.heap.objs.size := by obtain ⟨o, e, _⟩ := p1; exact Heap.lt_size e
 have b2 : l2 < s1.heap.objs.size := by obtain ⟨o, e, _⟩ := p2; exact Heap.lt_size e
 refine tz_call p1 p2 fun h' Z hk => ?_
 have D := zip_apart b1 b2
 refine wpAny_pyIter_zip Z.z ?_
 refine ⟨_, _, ZipStT _ _ _ _ _ _ _, _, H1, rfl, I1.kept (t' := s1.toks) hk, turn_zipT _ _ _ _ _ _ _ D, ⟨Z.z, Z.ti, ⟨_, _, Z.to_⟩, Z.j1, Z.j2⟩, fun b hb => ?_, q⟩
 have hb' : s1.heap.objs.size ≤ b := by
  simp only [List.mem_cons, List.not_mem_nil, or_false] at hb
  rcases hb with rfl | rfl | rfl | rfl | rfl
  · exact Nat.le_add_right _ _
  · exact Nat.le_add_right _ _
  · exact Nat.le_add_right _ _
  · exact Nat.le_refl _
  · exact Nat.le_add_right _ _
 exact I1.fpOk hb' (I1.hok.fresh hb')
end L2
namespace L2
open PySem PySem.Spec PyProof.Rows
section
variable {X : Cx} {pins : List (Addr × Obj)} {σ : St} {H : Hp} {s : Shared}
theorem ps_compG {elt iter : Expr} {x : Str} {px : Pos} {ifs : List Expr} {scope : Scope} {pos : Pos} {wi : TI} {tc : TT} {te : TE} (cn : List Str) (cap : List Nat) (S : CompScope X scope x cn cap) (hc : X.calm = true)
 (hi : PI X (.Name x px) iter wi) (hin : ∀ cl C s₀ H₀ ex, PIfs (cxComp X scope (x :: cn) cl C s₀ H₀ ex) ifs tc) (he : ∀ cl C s₀ H₀ ex, PE (cxComp X scope (x :: cn) cl C s₀ H₀ ex) elt te)
 {y : Str} {py : Pos} {apos : Pos} (iy : Nat) (hN : X.N.Nodup) (hiy : X.N[iy]? = some y) (hxy : Loc X.env.scope y) (hsw : swapsWith (.ListComp elt [⟨.Name x px, iter, ifs, 0⟩] scope pos) (some (.Name y py)) apos.line X.env = pure true := by rfl) (hfy : X.fn y = true ∨ X.env.scope.names.lookup y = some .local := by first | exact .inl rfl | exact .inr rfl | assumption)
 (hs : ∀ z, foldedSetIterable iter X.env z = pure z := by intro _; rfl) : PS X (.Assign [.Name y py] (.ListComp elt [⟨.Name x px, iter, ifs, 0⟩] scope pos) apos) (tAsg (tComp wi tc te cap) (gName iy)) := by
 intro pins s σ H D I h
 rw [exec_Assign_Name_used _ _ _ _ hsw]
 refine wpAny_bind (wpAny_standAt (wpAny_bind ?_))
 show wpAny _ _ (comprehension (.ListComp elt [⟨.Name x px, iter, ifs, 0⟩] scope pos) scope X.env (firstIterPos [⟨.Name x px, iter, ifs, 0⟩] pos) (newList []) false (firstIter [⟨.Name x px, iter, ifs, 0⟩] X.env) (some (assign (.Name y py) X.env)) >>= fun _ => pure ()) _ _ _
 refine wpAny_bind (wpAny_mono (Q := fun _ s' => ∃ σ' H', Inv X pins σ' H' s' ∧ D.nx σ' H') ?_ (fun _ s' q => wpAny_pure (wpAny_pure q)) fun _ _ z => z)
 refine comp_core cn cap S hc hi hin he hs I h fun d C H3 s4 m J fC hn qn r => ?_
 refine wpAny_assign_Name (store_ok2 J hN hiy hxy (v := .ref d) rfl (fun s5 I6 hh1 => ?_) hfy)
 obtain ⟨a, sb, ha⟩ := hh1
 have nC : C ≠ a := by
  rcases ha with ha | ha
  · rw [ha]; exact fC.2.1
  · exact (fC.2.2.2.2.1 _ _ ha).symm
 obtain ⟨oC, esC, epC, hoC, rC⟩ := hn
 refine ⟨m, ⟨oC, esC, epC, sb.extBut _ _ nC hoC, rC⟩, fun h' hsb => ⟨_, H3, ?_, qn⟩⟩
 refine I6.turnedL (t' := s5.toks) (ch := [C]) (fun b o hb e => hsb.extBut b o (by simpa using hb) e) (fun b hb => ?_)
 cases List.mem_singleton.mp hb
 exact fC
theorem ps_compT {elt iter tg : Expr} {xs : List Str} {kx : Nat} {g : TG} {ifs : List Expr} {scope : Scope} {pos : Pos} {wi : TI} {tc : TT} {te : TE} (cn : List Str) (cap : List Nat) (S : CompScopeT X scope xs cn cap) (hc : X.calm = true)
 (hkx : xs.length = kx) (hg : ∀ cl C s₀ H₀ ex, PG (cxComp X scope (xs ++ cn) cl C s₀ H₀ ex) tg g)
 (hi : PI X tg iter wi) (hin : ∀ cl C s₀ H₀ ex, PIfs (cxComp X scope (xs ++ cn) cl C s₀ H₀ ex) ifs tc) (he : ∀ cl C s₀ H₀ ex, PE (cxComp X scope (xs ++ cn) cl C s₀ H₀ ex) elt te)
 {y : Str} {py : Pos} {apos : Pos} (iy : Nat) (hN : X.N.Nodup) (hiy : X.N[iy]? = some y) (hxy : Loc X.env.scope y) (hsw : swapsWith (.ListComp elt [⟨tg, iter, ifs, 0⟩] scope pos) (some (.Name y py)) apos.line X.env = pure true := by rfl) (hfy : X.fn y = true ∨ X.env.scope.names.lookup y = some .local := by first | exact .inl rfl | exact .inr rfl | assumption)
 (hs : ∀ z, foldedSetIterable iter X.env z = pure z := by intro _; rfl) : PS X (.Assign [.Name y py] (.ListComp elt [⟨tg, iter, ifs, 0⟩] scope pos) apos) (tAsg (tCompT wi kx g tc te cap) (gName iy)) := by
 intro pins s σ H D I h
 rw [exec_Assign_Name_used _ _ _ _ hsw]
 refine wpAny_bind (wpAny_standAt (wpAny_bind ?_))
 show wpAny _ _ (comprehension (.ListComp elt [⟨tg, iter, ifs, 0⟩] scope pos) scope X.env (firstIterPos [⟨tg, iter, ifs, 0⟩] pos) (newList []) false (firstIter [⟨tg, iter, ifs, 0⟩] X.env) (some (assign (.Name y py) X.env)) >>= fun _ => pure ()) _ _ _
 refine wpAny_bind (wpAny_mono (Q := fun _ s' => ∃ σ' H', Inv X pins σ' H' s' ∧ D.nx σ' H') ?_ (fun _ s' q => wpAny_pure (wpAny_pure q)) fun _ _ z => z)
 obtain ⟨cl, hclos, hc1, hc2⟩ := closure_ok (scope := scope) (env := X.env) fun y hy hk => I.ok.has y.1 (S.free y hy hk)
 refine wpAny_comprehension_free (use := some (assign (.Name y py) X.env)) rfl hs hclos S.kind S.names (thn (hi pins s σ H _ I h) fun v s1 h1 => thn h1 fun itv s2 h2 => ?_)
 obtain ⟨it, fp, tn, J, H2, e, I2, T, st2, f2, q2⟩ := h2
 subst e
 have hlt : ∀ b ∈ fp, b < s2.heap.objs.size := fun b hb => by
  obtain ⟨o, e, _⟩ := T.obj _ _ st2 b hb
  exact Heap.lt_size e
 refine wpAny_newObj_type (wpAny_newFunctionEnv S.cell (by intro y hy; simp at hy) (fun h₁ hns₁ hsb₁ => ?_) S.kind)
 dsimp only at hns₁ hsb₁ ⊢
 generalize hP : s2.heap.push { cls := .type "list", dict := none, data := .seq ([] : List Value).toArray } = P2 at hns₁ hsb₁ ⊢
 have hC : P2.objs.size = s2.heap.objs.size + 1 := by rw [← hP, Heap.size_push]
 have hDC : s2.heap.objs.size ≠ P2.objs.size := by rw [hC]; exact Nat.ne_of_lt (Nat.lt_succ_self _)
 have hCle : s2.heap.objs.size ≤ P2.objs.size := by rw [hC]; exact Nat.le_succ _
 have neC : ∀ b, b < s2.heap.objs.size → b ≠ P2.objs.size := fun b hb => by rw [hC]; exact Nat.ne_of_lt (Nat.lt_succ_of_lt hb)
 have old : ∀ b o, s2.heap.get? b = some o → h₁.get? b = some o := fun b o e => hsb₁.extBut b o (neC b (Heap.lt_size e)) (Heap.get?_push_of_some _ (hP ▸ Heap.get?_push_of_some _ e))
 have hacc : h₁.get? s2.heap.objs.size = some { cls := .type "list", dict := none, data := .seq ([] : List Value).toArray } := hsb₁.extBut _ _ hDC (Heap.get?_push_of_some _ (hP ▸ Heap.get?_push_size _ rfl))
 have hD0 : H2 s2.heap.objs.size = none := I2.hok.fresh (Nat.le_refl _)
 have ok' : (cxComp X scope (xs ++ cn) cl P2.objs.size s2 H2 fp).Ok := comp_okT S I2 f2 hlt hc1 hc2 hCle
 obtain ⟨W, ⟨m0, w0⟩, turn⟩ := q2 _ hD0
 have hok1 : HOk X.prog X.w (upd H2 s2.heap.objs.size (.lst [])) h₁ := I2.hok.laid old (Nat.le_refl _) ⟨Nat.zero_le _, [], _, .nil, hacc⟩
 have un1 : Un (frs X.stack) fp H2 (upd H2 s2.heap.objs.size (.lst [])) s2.heap h₁ := Un.laid old (Nat.le_refl _) hD0
 have I4 : ∀ tk, Inv (cxComp X scope (xs ++ cn) cl P2.objs.size s2 H2 fp) [] (inStT kx cap σ) (upd H2 s2.heap.objs.size (.lst [])) { s2 with heap := h₁, toks := tk } := fun tk => by
  refine ⟨ok', rfl, I2.bare, un1, ⟨_, hns₁, fun i y v e1 e2 e3 => ?_⟩, fun y c e => ?_, ?_, fun y c e => ?_, fun p hp => (nomatch hp), hok1, ?_⟩
  · by_cases hik : i < kx
    · have e2' : (List.replicate kx (none : Option V) ++ cap.map fun i => (σ[i]?).join)[i]? = some (some v) := e2
      rw [List.getElem?_append_left (by rw [List.length_replicate]; exact hik), List.getElem?_replicate, if_pos hik] at e2'
      cases Option.some.inj e2'
    · have e1'' : (xs ++ cn)[i]? = some y := e1
      have e1' : cn[i - kx]? = some y := by
       rw [List.getElem?_append_right (by rw [hkx]; exact Nat.le_of_not_lt hik), hkx] at e1''
       exact e1''
      have ymem : y ∈ cn := List.mem_of_getElem? e1'
      obtain ⟨i0, ci, ni⟩ := map_get S.cap e1'
      have e2'' : (List.replicate kx (none : Option V) ++ cap.map fun i => (σ[i]?).join)[i]? = some (some v) := e2
      have e2' : (cap.map fun i => (σ[i]?).join)[i - kx]? = some (some v) := by
       rw [List.getElem?_append_right (by rw [List.length_replicate]; exact Nat.le_of_not_lt hik), List.length_replicate] at e2''
       exact e2''
      rw [List.getElem?_map, ci] at e2'
      have e3' : (σ[i0]?).join = some v := Option.some.inj e2'
      have e4 : σ[i0]? = some (some v) := by
       cases q : σ[i0]? with
       | none => rw [q] at e3'; cases e3'
       | some o => rw [q] at e3'; exact congrArg some e3'
      obtain ⟨m, hn, hl⟩ := I2.loc
      have vis : Vis X.env.scope y := .inr (S.capo y ymem)
      obtain ⟨u, r, lk⟩ := hl i0 y v ni e4 vis
      refine ⟨u, r, .inr ⟨lookup_relabel_free (env := X.env) (S.capf y ymem), ?_⟩⟩
      rcases lk with ⟨kl, _⟩ | ⟨_, c, ec, hcell⟩
      · rcases S.capo y ymem with z | z
        · have kl' : X.env.scope.names.lookup y = some .local := kl
          rw [z] at kl'; cases kl'
        · have kl' : X.env.scope.names.lookup y = some .local := kl
          rw [z] at kl'; cases kl'
      · have fm : (y, NameKind.free) ∈ scope.names := of_relabel (env := X.env) S.cell (lookup_relabel_free (env := X.env) (S.capf y ymem))
        obtain ⟨c', ec'⟩ := hc2 y fm
        have := hc1 y c' ec'
        rw [ec] at this
        cases this
        obtain ⟨o, ho, hd⟩ := hcell
        exact ⟨c, ec', o, old _ _ ho, hd⟩
  · obtain ⟨v, o, ho, hd⟩ := I2.cell y c (hc1 y c e)
    exact ⟨v, o, old _ _ ho, hd⟩
  · show (upd H2 s2.heap.objs.size (.lst [])) P2.objs.size = none
    rw [upd_ne (Ne.symm hDC)]
    exact I2.hok.fresh hCle
  · obtain ⟨v, o, ho, hd⟩ := I2.cell y c (hc1 y c e)
    rw [upd_ne (Nat.ne_of_lt (Heap.lt_size ho))]
    exact I2.freeC y c (hc1 y c e)
  · show (inStT kx cap σ).length = (xs ++ cn).length
    have := congrArg List.length S.cap
    simp only [List.length_map] at this
    simp [inStT, this, hkx]
 have stat : ∀ {H' : Hp}, (∀ b ∈ fp, H' b = none) → ∀ b ∈ fp, FpOk (cxComp X scope (xs ++ cn) cl P2.objs.size s2 H2 fp) [] H' b := fun hn b hb =>
  ⟨hn b hb, neC b (hlt b hb), ok'.exfs b hb, .inl hb, fun y c e => (ok'.exf b hb).2 y c e, fun p hp => (nomatch hp)⟩
 have loop : ∀ s₃ : Shared, s₃ = { s2 with heap := h₁, toks := s2.toks + ([] : List (Str × Value)).length } →
  codeAny (model X.prog X.w) X.A (.compLoop (.ListComp elt [⟨tg, iter, ifs, 0⟩] scope pos) 0 (.ref it) (.ref s2.heap.objs.size) (compEnvC scope cl P2.objs.size X.env))
   (compPost (model X.prog X.w) X.A X.xe (some (assign (.Name y py) X.env)) (fun _ s' => ∃ σ' H', Inv X pins σ' H' s' ∧ D.nx σ' H') (.ref s2.heap.objs.size) P2.objs.size) s₃ := by
  rintro s₃ rfl
  refine codeAny_loop rfl (fun n s' => ∃ i H', Inv (cxComp X scope (xs ++ cn) cl P2.objs.size s2 H2 fp) [] (inStT kx cap σ) H' s' ∧ tn i s'.heap ∧ (∀ b ∈ fp, H' b = none) ∧ W i n H') ?_ m0
   ⟨0, _, I4 _, T.keep _ _ _ st2 fun b hb o e => old b o e, fun b hb => by rw [upd_ne (Nat.ne_of_lt (hlt b hb))]; exact (f2 b hb).1, w0⟩
  rintro n s3 ⟨i, H3, I3, st3, fr3, w3⟩
  show wpAny _ X.A ((compTurn (.ListComp elt [⟨tg, iter, ifs, 0⟩] scope pos) 0 (.ref it) (.ref s2.heap.objs.size) (compEnvC scope cl P2.objs.size X.env)).onRaise (fun x => do noteFrame x (compEnvC scope cl P2.objs.size X.env); theTreesLotGoes x)) _ _ s3
  refine wpAny_noted ?_
  rw [compTurn_list]
  refine wpAny_bind (wpAny_standAt (wpAny_bind ?_))
  rcases turn i n H3 w3 with ⟨stop, qn⟩ | ⟨go, step⟩
  · refine wpAny_mono (T.done (cxComp X scope (xs ++ cn) cl P2.objs.size s2 H2 fp) rfl rfl rfl hc i [] s3 _ H3 (fun _ _ => False) I3 (stat fr3) st3 stop) (fun r s4 ⟨hr, I5⟩ => ?_) fun _ _ z => z.elim
    subst hr
    refine wpAny_pure ?_
    obtain ⟨m, hn, _⟩ := id I5.loc
    have J : Inv X pins σ H3 s4 := by
     have kp : ∀ b o, b ≠ P2.objs.size → s4.heap.get? b = some o → s4.heap.get? b = some o := fun b o hb e => e
     have b0 := I5.base
     have sm : ∀ b o, s2.heap.get? b = some o → b ≠ P2.objs.size := fun b o e => neC b (Heap.lt_size e)
     refine I2.call' (s' := s4) (ch := fp) I5.os ⟨fun b o e n hb hx => kp _ _ (sm b o e) (b0.keep b o e n hb hx), fun b o e n hb hx => ?_, b0.free, fun b o e hx => ?_, b0.tups, b0.frzs, b0.tbls⟩ (fun b u e => ?_) I5.bare
      fun b hb => ⟨(f2 b hb).2.2.2.1, (f2 b hb).2.1, (f2 b hb).2.2.2.2.1, (f2 b hb).2.2.2.2.2⟩
     · obtain ⟨sl, q⟩ := b0.slot b o e n hb hx
       exact ⟨sl, kp _ _ (sm b o e) q⟩
     · obtain ⟨o', q⟩ := b0.there b o e hx
       exact ⟨o', kp _ _ (sm b o e) q⟩
     · have hfree : H3 P2.objs.size = none := I5.free
       refine (I5.hok b u e).stay (fun c v hc' q => kp c v ?_ q) (fun _ q => q) fun _ _ q => q
       rcases hc' with z | z
       · rw [z]; exact ne_of_none e hfree
       · exact ne_of_none z hfree
    have fC : FpOk X pins H3 P2.objs.size := by
     have q := I2.fpOk hCle (I2.hok.fresh hCle)
     exact ⟨I5.free, q.2⟩
    refine wpAny_assign_Name (store_ok2 J hN hiy hxy (v := .ref s2.heap.objs.size) rfl (fun s5 I6 ⟨a, sb, ha⟩ => ?_) hfy)
    have nC : P2.objs.size ≠ a := by
     rcases ha with ha | ha
     · rw [ha]; exact fC.2.1
     · exact (fC.2.2.2.2.1 _ _ ha).symm
    obtain ⟨oC, esC, epC, hoC, rC⟩ := hn
    refine ⟨m, ⟨oC, esC, epC, sb.extBut _ _ nC hoC, rC⟩, fun h' hsb => ⟨_, H3, ?_, qn⟩⟩
    refine I6.turnedL (t' := s5.toks) (ch := [P2.objs.size]) (fun b o hb e => hsb.extBut b o (by simpa using hb) e) (fun b hb => ?_)
    cases List.mem_singleton.mp hb
    exact fC
  · refine wpAny_mono (T.item (cxComp X scope (xs ++ cn) cl P2.objs.size s2 H2 fp) rfl rfl rfl hc i [] s3 _ H3 (fun _ _ => False) I3 (stat fr3) st3 go) (fun r s4 ⟨u, hr, h4⟩ => ?_) fun _ _ z => z.elim
    subst hr
    refine wpAny_bind (wpAny_mono h4 (fun _ s5 ⟨xv, H5, I5, r5, y5, st5, fr5⟩ => ?_) fun _ _ z => z.elim)
    have I5' := I5.pinned (stat fr5) (T.obj _ _ st5)
    refine wpAny_bind (wpAny_mono (hg cl P2.objs.size s2 H2 fp _ s5 _ H5 xv u _ I5' r5 (step xv _ y5)) (fun _ s6 ⟨σ6, H6, I6, ks, q6⟩ => ?_) fun _ _ z => z.elim)
    have again : ∀ {s7 : Shared} {H7 : Hp}, Inv (cxComp X scope (xs ++ cn) cl P2.objs.size s2 H2 fp) ([] ++ pinsAt fp s5.heap) σ6 H7 s7 → (∃ m', m' < n ∧ W (i + 1) m' H7) →
     ∃ m, m < n ∧ ∃ i H', Inv (cxComp X scope (xs ++ cn) cl P2.objs.size s2 H2 fp) [] (inStT kx cap σ) H' s7 ∧ tn i s7.heap ∧ (∀ b ∈ fp, H' b = none) ∧ W i m H' := fun {s7 H7} I7 w7 => by
     obtain ⟨m', hm, w7⟩ := w7
     refine ⟨m', hm, i + 1, H7, I7.unpinned.weak ks.1 ks.2, T.keep _ _ _ st5 fun b hb o e => (I7.pin (b, o) (List.mem_append_right _ (List.mem_append_right _ (mem_pinsAt hb e)))).1, fun b hb => ?_, w7⟩
     · obtain ⟨o, e, d⟩ := T.obj _ _ st5 b hb
       exact (I7.pin (b, o) (List.mem_append_right _ (List.mem_append_right _ (mem_pinsAt hb e)))).2.1
    refine wpAny_bind (wpAny_mono (hin cl P2.objs.size s2 H2 fp _ s6 _ _ _ I6 q6) (fun ok s7 ⟨H7, I7, q7⟩ => ?_) fun _ _ z => z.elim)
    cases ok with
    | false =>
      have q7' : ∃ m', m' < n ∧ W (i + 1) m' H7 := by simpa using q7
      exact wpAny_pure ⟨rfl, again I7 q7'⟩
    | true =>
      have q7' := (if_pos rfl).mp q7
      refine wpAny_bind (wpAny_bind (wpAny_mono (he cl P2.objs.size s2 H2 fp _ s7 _ H7 _ I7 q7') (fun yv s8 ⟨y, H8, I8, r8, ys, h8, z8, q8⟩ => ?_) fun _ _ z => z.elim))
      refine wpAny_bind (wpAny_mono (mt_append (X := cxComp X scope (xs ++ cn) cl P2.objs.size s2 H2 fp) _ s8 _ H8 (.ref s2.heap.objs.size) [y] (.ref s2.heap.objs.size) [yv] (fun _ H9 => ∃ m', m' < n ∧ W (i + 1) m' H9) I8 rfl (.cons r8 .nil) ⟨_, ys, y, rfl, rfl, h8, z8, q8⟩) (fun _ s9 ⟨_, H9, I9, _, q9⟩ => ?_) fun _ _ z => z.elim)
      exact wpAny_pure (wpAny_pure ⟨rfl, again I9 q9⟩)
 exact codeAny_compStart_list (loop _ rfl) (T.self _ 0 _ _ _ (T.keep _ _ _ st2 fun b hb o e => old b o e) (loop _ rfl))
end
end L2
namespace L2
open PySem PySem.Spec PyProof.Rows
section
variable {X : Cx}
def rCatT0 (K : PySem.W.Frag) : R2 := fun x y H Q => ∃ a b ys, x = .ref a ∧ y = .ref b ∧ SqT K H a [] ∧ SqT K H b ys ∧ Q (.ref b) H
theorem op_catT0 : OpR X (binaryOp .Add) (rCatT0 X.K) := by
 intro pins s σ H x y v u Q I rx ry h
 obtain ⟨a, b, ys, rfl, rfl, ha, hb, q⟩ := h
 cases rx
 cases ry
 obtain ⟨its, r1, p1, _⟩ := I.tuple ha
 obtain ⟨its2, r2, p2, _⟩ := I.tuple hb
 have hv : its = [] := r1.nil_iff.mpr rfl
 obtain ⟨⟨cls, dd, data, sl⟩, ho, hc, n, hd⟩ := id p1
 obtain ⟨⟨cls2, dd2, data2, sl2⟩, ho2, hc2, n2, hd2⟩ := id p2
 simp only at hc hd hc2 hd2
 subst hc hd hc2 hd2
 exact concat_meets ⟨_, ho, rfl⟩ ⟨_, ho2, rfl⟩ noFill_tuple_add seq_tuple_add PySem.F.slot_tuple_add PySem.F.entry_tuple_add (PySem.F.args_tuple_add_2 _ _)
  (tuple_addW0 a b its.toArray its2.toArray n n2 dd dd2 sl sl2 (by simp [hv])) ⟨ho, ho2, ⟨.ref b, H, I, rfl, q⟩⟩
def rAddP (K : PySem.W.Frag) : R2 := fun x y H Q => rAddG x y H Q ∨ (rCatT K x y H Q ∨ rCatT0 K x y H Q)
theorem op_addP : OpR X (binaryOp .Add) (rAddP X.K) := op_addG.or (op_catT.or op_catT0)
theorem op_addPK {K : PySem.W.Frag} (h : X.K = K) : OpR X (binaryOp .Add) (rAddP K) := h ▸ op_addP
abbrev rIsP : R2 := fun x y H Q => (y = .non ∧ Q (.bl (decide (x = .non))) H) ∨ ∃ b, y = .bl b ∧ Q (.bl (decide (x = .bl b))) H
theorem op_isB : OpR X (compareOp .Is) (fun x y H Q => ∃ b, y = .bl b ∧ Q (.bl (decide (x = .bl b))) H) := by
 intro pins s σ H x y v u Q I rx ry h
 obtain ⟨b, rfl, q⟩ := h
 cases ry
 have fin : ∀ v, compareOp .Is v (.bool b) = pure (.bool (v == .bool b)) → (v == .bool b) = decide (x = .bl b) → wpAny (model X.prog X.w) X.A (compareOp .Is v (.bool b)) (EP X pins σ Q) X.xe s := fun v e1 e2 => by
  rw [e1]
  exact wpAny_pure (fin_bl I q e2.symm)
 cases x <;> first
  | (cases rx; exact fin _ rfl (by first | rfl | (rename_i c; cases c <;> cases b <;> rfl)))
  | (obtain ⟨t, rfl⟩ := rx; exact fin _ rfl rfl)
theorem op_isP : OpR X (compareOp .Is) rIsP := op_isN.or op_isB
theorem pi_listK {K : PySem.W.Frag} {tg l : Expr} {tl : TE} (h : X.K = K) (hl : PE X l tl) : PI X tg l (iList K tl) := h ▸ pi_list hl
theorem pi_tupK {K : PySem.W.Frag} {tg l : Expr} {tl : TE} (h : X.K = K) (hl : PE X l tl) : PI X tg l (iTup K tl) := h ▸ pi_tup hl
end
end L2
namespace L2
open PySem PySem.Spec PyProof.Rows
section
variable {prog : Program} {w : World} {A : Around} {E : Value → Shared → Prop} {s : Shared} {it l : Addr} {its : Array Value}
end
end L2
namespace L2
open PySem PySem.Spec PyProof.Rows
section
variable {κ : Type} [DecidableEq κ]
def valV (kvs : List (κ × V)) (k : κ) : Option V := (kvs.find? fun kv => decide (kv.1 = k)).map (·.2)
def dropK (kvs : List (κ × V)) (k : κ) : List (κ × V) := kvs.filter fun kv => decide (kv.1 ≠ k)
theorem valV_pos {p : κ × V} {r : List (κ × V)} {k : κ} (e : p.1 = k) : valV (p :: r) k = some p.2 := by simp [valV, List.find?_cons, e]
theorem valV_neg {p : κ × V} {r : List (κ × V)} {k : κ} (e : ¬ p.1 = k) : valV (p :: r) k = valV r k := by simp [valV, List.find?_cons, e]
theorem RelO.getD {o : Option V} {u : Option Value} {d : V} {d' : Value} (r : RelO o u) (rd : RelV d d') : RelV (o.getD d) (u.getD d') := by
 cases o with
 | none => cases u with
   | none => exact rd
   | some _ => exact (show False from r).elim
 | some _ => cases u with
   | none => exact (show False from r).elim
   | some _ => exact r
theorem KV.val {kvs : List (κ × V)} {vs : List (κ × Value)} (r : KV kvs vs) (k : κ) : RelO (valV kvs k) (valueAt vs k) := by
 unfold KV at r
 induction r with
 | nil => exact True.intro
 | @cons p q ps qs h t ih =>
   obtain ⟨h1, h2⟩ := h
   by_cases e : p.1 = k
   · have e' : q.1 = k := h1.symm.trans e
     have b : valueAt (q :: qs) k = some q.2 := by simp [valueAt, List.find?_cons, e']
     rw [valV_pos e, b]; exact h2
   · have e' : ¬ q.1 = k := fun z => e (h1.trans z)
     have b : valueAt (q :: qs) k = valueAt qs k := by simp [valueAt, List.find?_cons, e']
     rw [valV_neg e, b]; exact ih
theorem KV.any {kvs : List (κ × V)} {vs : List (κ × Value)} (r : KV kvs vs) (k : κ) : (kvs.any fun kv => decide (kv.1 = k)) = vs.any fun kv => decide (kv.1 = k) := by
 unfold KV at r
 induction r with
 | nil => rfl
 | cons h t ih => rw [List.any_cons, List.any_cons, ih, h.1]
theorem KV.drop {kvs : List (κ × V)} {vs : List (κ × Value)} (r : KV kvs vs) (k : κ) : KV (dropK kvs k) (without vs k) := by
 unfold KV at r ⊢
 unfold dropK without
 induction r with
 | nil => exact .nil
 | @cons p q ps qs h t ih =>
   obtain ⟨h1, h2⟩ := h
   rw [List.filter_cons, List.filter_cons]
   by_cases e : p.1 = k
   · have a : ¬ decide (p.1 ≠ k) = true := by simp [e]
     have b : ¬ decide (q.1 ≠ k) = true := by simp [h1.symm.trans e]
     rw [if_neg a, if_neg b]; exact ih
   · have e' : ¬ q.1 = k := fun z => e (h1.trans z)
     have a : decide (p.1 ≠ k) = true := by simp [e]
     have b : decide (q.1 ≠ k) = true := by simp [e']
     rw [if_pos a, if_pos b]; exact .cons ⟨h1, h2⟩ ih
theorem KV.keys {kvs : List (κ × V)} {vs : List (κ × Value)} (r : KV kvs vs) : kvs.map (·.1) = vs.map (·.1) := by
 unfold KV at r
 induction r with
 | nil => rfl
 | cons h t ih => rw [List.map_cons, List.map_cons, ih, h.1]
theorem KV.length {kvs : List (κ × V)} {vs : List (κ × Value)} (r : KV kvs vs) : kvs.length = vs.length := Paired.length r
end
abbrev KT (H : Hp) : List (List Key × V) → List (List Key × Addr × Value) → Prop := Paired fun p q => p.1 = q.1 ∧ H q.2.1 = some (.tup (p.1.map kV)) ∧ RelV p.2 q.2.2
theorem KT.val {H : Hp} {kvs : List (List Key × V)} {xs : List (List Key × Addr × Value)} (r : KT H kvs xs) (k : List Key) : RelO (valV kvs k) ((atKey xs k).map (·.2)) := by
 induction r with
 | nil => exact True.intro
 | @cons p q ps qs h t ih =>
   obtain ⟨h1, _, h2⟩ := h
   by_cases e : p.1 = k
   · have e' : q.1 = k := h1.symm.trans e
     have b : atKey (q :: qs) k = some q.2 := by simp [atKey, List.find?_cons, e']
     rw [valV_pos e, b]; exact h2
   · have e' : ¬ q.1 = k := fun z => e (h1.trans z)
     have b : atKey (q :: qs) k = atKey qs k := by simp [atKey, List.find?_cons, e']
     rw [valV_neg e, b]; exact ih
theorem KT.keeps {H H' : Hp} {kvs : List (List Key × V)} {xs : List (List Key × Addr × Value)} (r : KT H kvs xs) (ht : ∀ b ys, H b = some (.tup ys) → H' b = some (.tup ys)) : KT H' kvs xs :=
 Paired.mapP r fun _ _ z => ⟨z.1, ht _ _ z.2.1, z.2.2⟩
section
variable {P : Program} {w : World} {H : Hp} {h : Heap} {a : Addr}
theorem rd_of {u : HO} (ok : HOk P w H h) (e : Rd H a u) : ObjOk P w H h a u := e.ok ok
end
section
variable {X : Cx} {pins : List (Addr × Obj)} {σ : St} {H : Hp} {s : Shared} {a : Addr} {y v : V} {u r : Value} {o : Option V} {A : Around} {E : Value → Shared → Prop}
theorem Inv.big (I : Inv X pins σ H s) : sysModules < s.heap.objs.size := by
 have h : mainGlobals < s.heap.objs.size := (I.mod.glob.keeps I.bk).lt
 exact Nat.lt_trans (by decide) h
end
section
variable {X : Cx} {pins : List (Addr × Obj)} {σ : St} {H : Hp} {s : Shared} {a : Addr} {kvs : List (Key × V)} {k : Key} {u : Value} {A : Around} {E : Value → Shared → Prop}
end
section
variable {X : Cx} {o i e value : Expr} {pos pos' tpos : Pos} {td ty tv : TE}
end
section
variable {X : Cx} {pos : Pos}
end
section
variable {X : Cx} {pins : List (Addr × Obj)} {σ : St} {H : Hp} {s : Shared} {a : Addr} {y d : V} {u r : Value} {o : Option V} {A : Around} {E : Value → Shared → Prop}
end
section
variable {X : Cx} {o e f : Expr} {apos cpos : Pos} {td ty tx : TE}
end
section
variable {X : Cx} {pins : List (Addr × Obj)} {σ : St} {H : Hp} {s : Shared} {a : Addr} {kvs : List (Key × V)} {A : Around} {E : Value → Shared → Prop}
end
section
variable {X : Cx} {pins : List (Addr × Obj)} {σ : St} {H : Hp} {s : Shared} {a : Addr} {y : V} {u : Value} {A : Around} {E : Value → Shared → Prop}
end
end L2
namespace L2
open PySem PySem.Spec PyProof.Rows
section
variable {prog : Program} {w : World} {A : Around} {E : Value → Shared → Prop} {s : Shared} {a it : Addr} {es : Array DictEntry} {ep i : Nat}
end
end L2
namespace L2
open PySem PySem.Spec PyProof.Rows
section
variable {X : Cx} {a b c d : Expr} {ta tb tc td : TE} {pos : Pos}
end
theorem uscons {us : List Value} {n : Nat} (h : us.length = n + 1) : ∃ a r, us = a :: r := by
 cases us with
 | nil => cases h
 | cons a r => exact ⟨a, r, rfl⟩
theorem us1 {us : List Value} (h : us.length = 1) : ∃ a, us = [a] := by
 obtain ⟨a, us, rfl⟩ := uscons h
 exact ⟨a, by rw [List.eq_nil_of_length_eq_zero (Nat.succ.inj h)]⟩
theorem us2 {us : List Value} (h : us.length = 2) : ∃ a b, us = [a, b] := by
 obtain ⟨a, us, rfl⟩ := uscons h
 obtain ⟨b, rfl⟩ := us1 (Nat.succ.inj h)
 exact ⟨a, b, rfl⟩
theorem us3 {us : List Value} (h : us.length = 3) : ∃ a b c, us = [a, b, c] := by
 obtain ⟨a, us, rfl⟩ := uscons h
 obtain ⟨b, c, rfl⟩ := us2 (Nat.succ.inj h)
 exact ⟨a, b, c, rfl⟩
theorem us4 {us : List Value} (h : us.length = 4) : ∃ a b c d, us = [a, b, c, d] := by
 obtain ⟨a, us, rfl⟩ := uscons h
 obtain ⟨b, c, d, rfl⟩ := us3 (Nat.succ.inj h)
 exact ⟨a, b, c, d, rfl⟩
theorem us5 {us : List Value} (h : us.length = 5) : ∃ a b c d e, us = [a, b, c, d, e] := by
 obtain ⟨a, us, rfl⟩ := uscons h
 obtain ⟨b, c, d, e, rfl⟩ := us4 (Nat.succ.inj h)
 exact ⟨a, b, c, d, e, rfl⟩
theorem us6 {us : List Value} (h : us.length = 6) : ∃ a b c d e f, us = [a, b, c, d, e, f] := by
 obtain ⟨a, us, rfl⟩ := uscons h
 obtain ⟨b, c, d, e, f, rfl⟩ := us5 (Nat.succ.inj h)
 exact ⟨a, b, c, d, e, f, rfl⟩
end L2
namespace PD
open PySem L2
inductive Cl where
 | Open | Bridge | Road | Cart | Trip | Day
 deriving DecidableEq
inductive Fl where
 | length | name | bears | wide | most | pieces | rounds | shuts | speed | wheels | cart | way | start | crossings | ended | road | loads | sends
 deriving DecidableEq
def Cl.s : Cl → Str
 | .Open => "Open" | .Bridge => "Bridge" | .Road => "Road" | .Cart => "Cart" | .Trip => "Trip" | .Day => "Day"
def Fl.s : Fl → Str
 | .length => "length" | .name => "name" | .bears => "bears" | .wide => "wide" | .most => "most" | .pieces => "pieces" | .rounds => "rounds" | .shuts => "shuts"
 | .speed => "speed" | .wheels => "wheels" | .cart => "cart" | .way => "way" | .start => "start" | .crossings => "crossings" | .ended => "ended" | .road => "road" | .loads => "loads" | .sends => "sends"
def Cl.fs : Cl → List Fl
 | .Open => [.length] | .Bridge => [.name, .length, .bears, .wide, .most] | .Road => [.pieces, .rounds, .shuts] | .Cart => [.name, .speed, .wheels]
 | .Trip => [.cart, .way, .start, .crossings, .ended] | .Day => [.road, .loads, .sends]
inductive D where
 | non | bl (b : Bool) | int (i : Int) | str (x : Str)
 | tup (xs : List D) | kt (xs : List D) | lst (xs : List D) | fz (xs : List D)
 | ob (c : Cl) (fs : List (Fl × D))
 | dk (ks : List Key) (ds : List D) | dt (ks : List (List Key)) (ds : List D)
def CF (K : PySem.W.Frag) (ns : List Str) (c : Cl) : Prop := PKd K ns (clA K c.s) [c.s] (c.fs.map Fl.s)
def KT (K : PySem.W.Frag) (a : Addr) (xs : List V) : Prop := ∃ (o : Obj) (its : Array Value) (n : Nat), K.lookup a = some o ∧ o.cls = .type "tuple" ∧ o.data = .seq its n ∧ its.size ≤ sizeLine ∧ Vals xs its.toList
def FZ (K : PySem.W.Frag) (H : Hp) (a : Addr) (xs : List V) : Prop := (∃ o : Obj, H a = some (.frz o (.lst xs))) ∨ ∃ (o : Obj) (its : Array Value) (n : Nat), K.lookup a = some o ∧ o.cls = .type "list" ∧ o.dict = none ∧ o.data = .seq its n ∧ its.size ≤ sizeLine ∧ Vals xs its.toList
mutual
inductive Rd (K : PySem.W.Frag) (ns : List Str) (L : Addr → Prop) (H : Hp) : V → D → Prop
 | non : Rd K ns L H .non .non
 | bl (b : Bool) : Rd K ns L H (.bl b) (.bl b)
 | int (i : Int) : Rd K ns L H (.int i) (.int i)
 | str (x : Str) : Rd K ns L H (.str x) (.str x)
 | tup {a : Addr} {vs : List V} {ds : List D} (e : H a = some (.tup vs)) (r : Rds K ns L H vs ds) : Rd K ns L H (.ref a) (.tup ds)
 | kt {a : Addr} {vs : List V} {ds : List D} (e : KT K a vs) (r : Rds K ns L H vs ds) : Rd K ns L H (.ref a) (.kt ds)
 | lst {a : Addr} {vs : List V} {ds : List D} (l : L a) (e : H a = some (.lst vs)) (r : Rds K ns L H vs ds) : Rd K ns L H (.ref a) (.lst ds)
 | fz {a : Addr} {vs : List V} {ds : List D} (e : FZ K H a vs) (r : Rds K ns L H vs ds) : Rd K ns L H (.ref a) (.fz ds)
 | ob {a dx : Addr} {gs : List (Str × V)} {c : Cl} {fs : List (Fl × D)} (l : L a) (e : H a = some (.ins (clA K c.s) dx gs)) (k : CF K ns c) (r : Rfs K ns L H gs fs) : Rd K ns L H (.ref a) (.ob c fs)
 | dk {a : Addr} {kvs : List (Key × V)} {ds : List D} (l : L a) (e : H a = some (.dK kvs)) (r : Rds K ns L H (kvs.map (·.2)) ds) : Rd K ns L H (.ref a) (.dk (kvs.map (·.1)) ds)
 | dt {a : Addr} {kvs : List (List Key × V)} {ds : List D} (l : L a) (e : H a = some (.dT kvs)) (r : Rds K ns L H (kvs.map (·.2)) ds) : Rd K ns L H (.ref a) (.dt (kvs.map (·.1)) ds)
inductive Rds (K : PySem.W.Frag) (ns : List Str) (L : Addr → Prop) (H : Hp) : List V → List D → Prop
 | nil : Rds K ns L H [] []
 | cons {v : V} {d : D} {vs : List V} {ds : List D} (h : Rd K ns L H v d) (t : Rds K ns L H vs ds) : Rds K ns L H (v :: vs) (d :: ds)
inductive Rfs (K : PySem.W.Frag) (ns : List Str) (L : Addr → Prop) (H : Hp) : List (Str × V) → List (Fl × D) → Prop
 | nil {gs : List (Str × V)} : Rfs K ns L H gs []
 | cons {gs : List (Str × V)} {f : Fl} {v : V} {d : D} {fs : List (Fl × D)} (e : gs.lookup f.s = some v) (h : Rd K ns L H v d) (t : Rfs K ns L H gs fs) : Rfs K ns L H gs ((f, d) :: fs)
end
def isMut : HO → Bool
 | .lst _ => true
 | .ins _ _ _ => true
 | .dK _ => true
 | .dT _ => true
 | _ => false
def KeepL (L : Addr → Prop) (H H' : Hp) : Prop := ∀ a o, H a = some o → (isMut o = true → L a) → H' a = some o
section
variable {K : PySem.W.Frag} {ns : List Str} {L L' : Addr → Prop} {H H' H'' : Hp}
theorem KeepL.of (h : Same H H') : KeepL L H H' := fun a o e _ => h a o e
theorem KeepL.refl : KeepL L H H := fun _ _ e _ => e
theorem Rd.mono2 (hL : ∀ a o, H a = some o → L a → L' a) (hk : KeepL L H H') {v : V} {d : D} (h : Rd K ns L H v d) : Rd K ns L' H' v d := Rd.rec (motive_1 := fun v d _ => Rd K ns L' H' v d) (motive_2 := fun vs ds _ => Rds K ns L' H' vs ds) (motive_3 := fun gs fs _ => Rfs K ns L' H' gs fs) .non .bl .int .str (fun e _ ih => .tup (hk _ _ e fun z => by cases z) ih) (fun e _ ih => .kt e ih) (fun l e _ ih => .lst (hL _ _ e l) (hk _ _ e fun _ => l) ih) (fun e _ ih => .fz (e.imp (fun z => z.elim fun o z => ⟨o, hk _ _ z fun z => by cases z⟩) id) ih) (fun l e k _ ih => .ob (hL _ _ e l) (hk _ _ e fun _ => l) k ih) (fun l e _ ih => .dk (hL _ _ e l) (hk _ _ e fun _ => l) ih) (fun l e _ ih => .dt (hL _ _ e l) (hk _ _ e fun _ => l) ih) .nil (fun _ _ h t => .cons h t) .nil (fun e _ _ h t => .cons e h t) h
theorem Rds.mono2 (hL : ∀ a o, H a = some o → L a → L' a) (hk : KeepL L H H') {vs : List V} {ds : List D} (h : Rds K ns L H vs ds) : Rds K ns L' H' vs ds := Rds.rec (motive_1 := fun v d _ => Rd K ns L' H' v d) (motive_2 := fun vs ds _ => Rds K ns L' H' vs ds) (motive_3 := fun gs fs _ => Rfs K ns L' H' gs fs) .non .bl .int .str (fun e _ ih => .tup (hk _ _ e fun z => by cases z) ih) (fun e _ ih => .kt e ih) (fun l e _ ih => .lst (hL _ _ e l) (hk _ _ e fun _ => l) ih) (fun e _ ih => .fz (e.imp (fun z => z.elim fun o z => ⟨o, hk _ _ z fun z => by cases z⟩) id) ih) (fun l e k _ ih => .ob (hL _ _ e l) (hk _ _ e fun _ => l) k ih) (fun l e _ ih => .dk (hL _ _ e l) (hk _ _ e fun _ => l) ih) (fun l e _ ih => .dt (hL _ _ e l) (hk _ _ e fun _ => l) ih) .nil (fun _ _ h t => .cons h t) .nil (fun e _ _ h t => .cons e h t) h
theorem Rfs.mono2 (hL : ∀ a o, H a = some o → L a → L' a) (hk : KeepL L H H') {gs : List (Str × V)} {fs : List (Fl × D)} (h : Rfs K ns L H gs fs) : Rfs K ns L' H' gs fs := Rfs.rec (motive_1 := fun v d _ => Rd K ns L' H' v d) (motive_2 := fun vs ds _ => Rds K ns L' H' vs ds) (motive_3 := fun gs fs _ => Rfs K ns L' H' gs fs) .non .bl .int .str (fun e _ ih => .tup (hk _ _ e fun z => by cases z) ih) (fun e _ ih => .kt e ih) (fun l e _ ih => .lst (hL _ _ e l) (hk _ _ e fun _ => l) ih) (fun e _ ih => .fz (e.imp (fun z => z.elim fun o z => ⟨o, hk _ _ z fun z => by cases z⟩) id) ih) (fun l e k _ ih => .ob (hL _ _ e l) (hk _ _ e fun _ => l) k ih) (fun l e _ ih => .dk (hL _ _ e l) (hk _ _ e fun _ => l) ih) (fun l e _ ih => .dt (hL _ _ e l) (hk _ _ e fun _ => l) ih) .nil (fun _ _ h t => .cons h t) .nil (fun e _ _ h t => .cons e h t) h
theorem Rd.mono (hL : ∀ a, L a → L' a) (hk : KeepL L H H') {v : V} {d : D} (h : Rd K ns L H v d) : Rd K ns L' H' v d := h.mono2 (fun a _ _ => hL a) hk
theorem Rds.mono (hL : ∀ a, L a → L' a) (hk : KeepL L H H') {vs : List V} {ds : List D} (h : Rds K ns L H vs ds) : Rds K ns L' H' vs ds := h.mono2 (fun a _ _ => hL a) hk
theorem Rfs.mono (hL : ∀ a, L a → L' a) (hk : KeepL L H H') {gs : List (Str × V)} {fs : List (Fl × D)} (h : Rfs K ns L H gs fs) : Rfs K ns L' H' gs fs := h.mono2 (fun a _ _ => hL a) hk
abbrev Nw (L : Addr → Prop) (H : Hp) : Addr → Prop := fun a => L a ∨ H a = none
theorem back {a : Addr} (S : Same H H') (h : H' a = none) : H a = none := by
 cases e : H a with
 | none => rfl
 | some o => rw [S _ _ e] at h; cases h
theorem nw2 (S : Same H H') {a : Addr} (h : Nw (Nw L H) H' a) : Nw L H a := h.elim id fun q => .inr (back S q)
theorem Rd.nw {v : V} {d : D} (h : Rd K ns L H v d) : Rd K ns (Nw L H) H v d := h.mono (fun _ => .inl) .refl
theorem Rd.same {v : V} {d : D} (h : Rd K ns L H v d) (S : Same H H') : Rd K ns L H' v d := h.mono (fun _ q => q) (.of S)
theorem Rds.same {v : List V} {d : List D} (h : Rds K ns L H v d) (S : Same H H') : Rds K ns L H' v d := h.mono (fun _ q => q) (.of S)
theorem Rds.nilL {ds : List D} (h : Rds K ns L H [] ds) : ds = [] := by cases h; rfl
theorem Rds.consL {v : V} {vs : List V} {ds : List D} (h : Rds K ns L H (v :: vs) ds) : ∃ d es, ds = d :: es ∧ Rd K ns L H v d ∧ Rds K ns L H vs es := by
 cases h with
 | cons h t => exact ⟨_, _, rfl, h, t⟩
theorem Rds.len {vs : List V} {ds : List D} (h : Rds K ns L H vs ds) : vs.length = ds.length := by
 induction vs generalizing ds with
 | nil => rw [h.nilL]; rfl
 | cons v vs ih =>
   obtain ⟨d, es, rfl, a, t⟩ := h.consL
   exact congrArg Nat.succ (ih t)
theorem Rds.get {vs : List V} {ds : List D} {i : Nat} {d : D} (h : Rds K ns L H vs ds) (e : ds[i]? = some d) : ∃ v, vs[i]? = some v ∧ Rd K ns L H v d := by
 induction vs generalizing ds i with
 | nil => rw [h.nilL] at e; cases e
 | cons v vs ih =>
   obtain ⟨c, es, rfl, a, t⟩ := h.consL
   cases i with
   | zero => cases e; exact ⟨_, rfl, a⟩
   | succ i => exact ih t e
theorem Rds.at : ∀ {vs : List V} {ds : List D} {i : Nat} {v : V}, Rds K ns L H vs ds → vs[i]? = some v → ∃ d, ds[i]? = some d ∧ Rd K ns L H v d
 | _, _, _, _, .nil, e => by simp at e
 | _, _, 0, _, .cons h _, e => by cases e; exact ⟨_, rfl, h⟩
 | _, _, i + 1, _, .cons _ t, e => t.at (i := i) e
theorem Rds.append {vs ws : List V} {ds es : List D} (h : Rds K ns L H vs ds) (s : Rds K ns L H ws es) : Rds K ns L H (vs ++ ws) (ds ++ es) := by
 induction vs generalizing ds with
 | nil => rw [h.nilL]; exact s
 | cons v vs ih =>
   obtain ⟨d, es, rfl, a, t⟩ := h.consL
   exact .cons a (ih t)
theorem Rds.drop {vs : List V} {ds : List D} (n : Nat) (h : Rds K ns L H vs ds) : Rds K ns L H (vs.drop n) (ds.drop n) := by
 induction vs generalizing ds n with
 | nil => rw [h.nilL, List.drop_nil, List.drop_nil]; exact .nil
 | cons v vs ih =>
   obtain ⟨d, es, rfl, a, t⟩ := h.consL
   cases n with
   | zero => exact h
   | succ n => exact ih n t
theorem Rds.take {vs : List V} {ds : List D} (n : Nat) (h : Rds K ns L H vs ds) : Rds K ns L H (vs.take n) (ds.take n) := by
 induction vs generalizing ds n with
 | nil => rw [h.nilL, List.take_nil, List.take_nil]; exact .nil
 | cons v vs ih =>
   obtain ⟨d, es, rfl, a, t⟩ := h.consL
   cases n with
   | zero => exact .nil
   | succ n => exact .cons a (ih n t)
theorem Rds.reverse : ∀ {vs : List V} {ds : List D}, Rds K ns L H vs ds → Rds K ns L H vs.reverse ds.reverse
 | _, _, .nil => .nil
 | _, _, .cons h t => by rw [List.reverse_cons, List.reverse_cons]; exact t.reverse.append (.cons h .nil)
theorem Rds.set {v : V} {d : D} (h : Rd K ns L H v d) : ∀ {vs : List V} {ds : List D} (i : Nat), Rds K ns L H vs ds → Rds K ns L H (vs.set i v) (ds.set i d)
 | _, _, _, .nil => .nil
 | _, _, 0, .cons _ t => .cons h t
 | _, _, i + 1, .cons q t => .cons q (t.set h i)
theorem same_new0 {p : Addr} (h : H p = none) (o : HO) : Same H (upd H p o) := fun b u q => by rw [upd_ne (ne_of_none q h)]; exact q
def RdO (K : PySem.W.Frag) (ns : List Str) (L : Addr → Prop) (H : Hp) : HO → D → Prop
 | .lst vs, .lst ds => Rds K ns L H vs ds
 | .dK kvs, .dk ks ds => kvs.map (·.1) = ks ∧ Rds K ns L H (kvs.map (·.2)) ds
 | .dT kvs, .dt ks ds => kvs.map (·.1) = ks ∧ Rds K ns L H (kvs.map (·.2)) ds
 | _, _ => False
theorem RdO.case {o : HO} {d : D} (h : RdO K ns L H o d) : (∃ vs ds, o = .lst vs ∧ d = .lst ds ∧ Rds K ns L H vs ds) ∨ (∃ kvs ds, o = .dK kvs ∧ d = .dk (kvs.map (·.1)) ds ∧ Rds K ns L H (kvs.map (·.2)) ds) ∨ ∃ kvs ds, o = .dT kvs ∧ d = .dt (kvs.map (·.1)) ds ∧ Rds K ns L H (kvs.map (·.2)) ds := by
 cases o with
 | lst vs => cases d <;> first | exact h.elim | exact .inl ⟨_, _, rfl, rfl, h⟩
 | dK kvs => cases d <;> first | exact h.elim | exact .inr (.inl ⟨_, _, rfl, by rw [h.1], h.2⟩)
 | dT kvs => cases d <;> first | exact h.elim | exact .inr (.inr ⟨_, _, rfl, by rw [h.1], h.2⟩)
 | _ => exact h.elim
theorem RdO.rd {o : HO} {d : D} {a : Addr} (h : RdO K ns L H o d) (l : L a) (e : H a = some o) : Rd K ns L H (.ref a) d := by
 rcases h.case with ⟨vs, ds, rfl, rfl, r⟩ | ⟨kvs, ds, rfl, rfl, r⟩ | ⟨kvs, ds, rfl, rfl, r⟩
 · exact .lst l e r
 · exact .dk l e r
 · exact .dt l e r
theorem RdO.map {L' : Addr → Prop} {H' : Hp} {o : HO} {d : D} (h : RdO K ns L H o d) (f : ∀ {vs : List V} {ds : List D}, Rds K ns L H vs ds → Rds K ns L' H' vs ds) : RdO K ns L' H' o d := by
 rcases h.case with ⟨vs, ds, rfl, rfl, r⟩ | ⟨kvs, ds, rfl, rfl, r⟩ | ⟨kvs, ds, rfl, rfl, r⟩
 · exact f r
 · exact ⟨rfl, f r⟩
 · exact ⟨rfl, f r⟩
theorem RdO.mono (hL : ∀ a, L a → L' a) (hk : KeepL L H H') {o : HO} {d : D} (h : RdO K ns L H o d) : RdO K ns L' H' o d := h.map fun r => r.mono hL hk
theorem RdO.mono2 (hL : ∀ a o, H a = some o → L a → L' a) (hk : KeepL L H H') {o : HO} {d : D} (h : RdO K ns L H o d) : RdO K ns L' H' o d := h.map fun r => r.mono2 hL hk
theorem RdO.same {o : HO} {d : D} (h : RdO K ns L H o d) (S : Same H H') : RdO K ns L H' o d := h.map fun r => r.same S
theorem RdO.mut {o : HO} {d : D} (h : RdO K ns L H o d) : isMut o = true := by
 rcases h.case with ⟨vs, ds, rfl, rfl, r⟩ | ⟨kvs, ds, rfl, rfl, r⟩ | ⟨kvs, ds, rfl, rfl, r⟩ <;> rfl
theorem RdO.lst {o : HO} {ds : List D} (h : RdO K ns L H o (.lst ds)) : ∃ vs, o = .lst vs ∧ Rds K ns L H vs ds := by
 rcases h.case with ⟨vs, ds, rfl, e, r⟩ | ⟨kvs, ds, rfl, e, r⟩ | ⟨kvs, ds, rfl, e, r⟩
 · cases e; exact ⟨vs, rfl, r⟩
 · cases e
 · cases e
theorem SqT.kt {a : Addr} {xs : List V} (h : KT K a xs) : SqT K H a xs := .inr h
theorem SqL.fz {a : Addr} {xs : List V} (h : FZ K H a xs) : SqL K H a xs := h.elim (fun z => .inl (.inr z)) .inr
theorem FZ.mono {a : Addr} {xs : List V} (h : FZ K H a xs) (hk : KeepL L H H') : FZ K H' a xs := h.imp (fun ⟨o, z⟩ => ⟨o, hk _ _ z fun z => by cases z⟩) id
end
mutual
def D.flat : D → Bool
 | .lst _ => false
 | .tup xs => flats xs
 | .kt xs => flats xs
 | .fz xs => flats xs
 | .ob _ _ => false
 | .dk _ _ => false
 | .dt _ _ => false
 | _ => true
def flats : List D → Bool
 | [] => true
 | d :: r => d.flat && flats r
end
section
variable {K : PySem.W.Frag} {ns : List Str} {L L' : Addr → Prop} {H H' H'' : Hp}
theorem Rd.flat {v : V} {d : D} (r : Rd K ns L H v d) : d.flat = true → Rd K ns L' H v d := Rd.rec (motive_1 := fun v d _ => d.flat = true → Rd K ns L' H v d) (motive_2 := fun vs ds _ => flats ds = true → Rds K ns L' H vs ds) (motive_3 := fun _ _ _ => True) (fun _ => .non) (fun b _ => .bl b) (fun i _ => .int i) (fun x _ => .str x) (fun e _ ih h => .tup e (ih (by simpa [D.flat] using h))) (fun e _ ih h => .kt e (ih (by simpa [D.flat] using h))) (fun _ _ _ _ h => by simp [D.flat] at h) (fun e _ ih h => .fz e (ih (by simpa [D.flat] using h))) (fun _ _ _ _ _ h => by simp [D.flat] at h) (fun _ _ _ _ h => by simp [D.flat] at h) (fun _ _ _ _ h => by simp [D.flat] at h) (fun _ => .nil) (fun _ _ h t q => by rw [flats, Bool.and_eq_true] at q; exact .cons (h q.1) (t q.2)) trivial (fun _ _ _ _ _ => trivial) r
theorem Rds.flat {vs : List V} {ds : List D} (r : Rds K ns L H vs ds) : flats ds = true → Rds K ns L' H vs ds := Rds.rec (motive_1 := fun v d _ => d.flat = true → Rd K ns L' H v d) (motive_2 := fun vs ds _ => flats ds = true → Rds K ns L' H vs ds) (motive_3 := fun _ _ _ => True) (fun _ => .non) (fun b _ => .bl b) (fun i _ => .int i) (fun x _ => .str x) (fun e _ ih h => .tup e (ih (by simpa [D.flat] using h))) (fun e _ ih h => .kt e (ih (by simpa [D.flat] using h))) (fun _ _ _ _ h => by simp [D.flat] at h) (fun e _ ih h => .fz e (ih (by simpa [D.flat] using h))) (fun _ _ _ _ _ h => by simp [D.flat] at h) (fun _ _ _ _ h => by simp [D.flat] at h) (fun _ _ _ _ h => by simp [D.flat] at h) (fun _ => .nil) (fun _ _ h t q => by rw [flats, Bool.and_eq_true] at q; exact .cons (h q.1) (t q.2)) trivial (fun _ _ _ _ _ => trivial) r
end
end PD
namespace PD
open PySem L2
abbrev Env := List (Option D)
abbrev VF := Env → Option D
abbrev AF := Env → Option (List D)
abbrev BF := Env → Option Bool
def vD (i : Nat) : VF := fun env => (env[i]?).join
def cD (d : D) : VF := fun _ => some d
def oD (g : D → D → Option D) (fa fb : VF) : VF := fun env => (fa env).bind fun a => (fb env).bind fun b => g a b
def uD (g : D → Option D) (fa : VF) : VF := fun env => (fa env).bind g
def aNil : AF := fun _ => some []
def aCons (fa : VF) (fr : AF) : AF := fun env => (fa env).bind fun a => (fr env).bind fun r => some (a :: r)
def tupD (fa : AF) : VF := fun env => (fa env).bind fun ds => some (.tup ds)
def lstD (fa : AF) : VF := fun env => (fa env).bind fun ds => some (.lst ds)
def callD (g : List D → Option D) (fa : AF) : VF := fun env => (fa env).bind g
def bD (f : VF) : BF := fun env => (f env).bind fun | .bl b => some b | _ => none
def andB (a b : BF) : BF := fun env => (a env).bind fun x => if x = true then b env else some false
def orB (a b : BF) : BF := fun env => (a env).bind fun x => if x = true then some true else b env
def notB (a : BF) : BF := fun env => (a env).bind fun x => some (!x)
def andD (a b : VF) : VF := fun env => (a env).bind fun | .bl x => if x = true then b env else some (.bl false) | _ => none
def orD (a b : VF) : VF := fun env => (a env).bind fun | .bl x => if x = true then some (.bl true) else b env | _ => none
def notD (a : VF) : VF := fun env => (a env).bind fun | .bl x => some (.bl (!x)) | _ => none
def yesB : BF := fun _ => some true
section
variable (K : PySem.W.Frag) (ns : List Str)
def EnvR (L : Addr → Prop) (env : Env) (σ : St) (H : Hp) : Prop := ∀ (i : Nat) (d : D), env[i]? = some (some d) → ∃ v, σ[i]? = some (some v) ∧ Rd K ns L H v d
def PuE (t : TE) (f : VF) : Prop := ∀ (L : Addr → Prop) (env : Env) (σ : St) (H : Hp) (Q : VK) (d : D), EnvR K ns L env σ H → f env = some d → (∀ v H', Same H H' → Rd K ns (Nw L H) H' v d → Q v H') → t σ H Q
def PuF (t : TE) (f : VF) : Prop := ∀ (L : Addr → Prop) (env : Env) (σ : St) (H : Hp) (Q : VK) (d : D), EnvR K ns L env σ H → f env = some d →
 (∀ p vs ds H', d = .lst ds → Same H H' → H p = none → H' p = some (.lst vs) → Rds K ns (fun a => Nw L H a ∧ a ≠ p) H' vs ds → Q (.ref p) H') → t σ H Q
def PuA (n : Nat) (t : TA) (f : AF) : Prop := ∀ (L : Addr → Prop) (env : Env) (σ : St) (H : Hp) (Q : List V → Hp → Prop) (ds : List D), EnvR K ns L env σ H → f env = some ds → (∀ vs H', ds.length = n → Same H H' → Rds K ns (Nw L H) H' vs ds → Q vs H') → t σ H Q
def PuT (t : TT) (f : BF) : Prop := ∀ (L : Addr → Prop) (env : Env) (σ : St) (H : Hp) (Q : Bool → Hp → Prop) (b : Bool), EnvR K ns L env σ H → f env = some b → (∀ H', Same H H' → Q b H') → t σ H Q
def R2P (r : R2) (g : D → D → Option D) : Prop := ∀ (L : Addr → Prop) (H : Hp) (x y : V) (a b d : D) (Q : VK), Rd K ns L H x a → Rd K ns L H y b → g a b = some d → (∀ v H', Same H H' → Rd K ns (Nw L H) H' v d → Q v H') → r x y H Q
def CaP (r : List V → Hp → VK → Prop) (g : List D → Option D) : Prop := ∀ (L : Addr → Prop) (H : Hp) (xs : List V) (as : List D) (d : D) (Q : VK), Rds K ns L H xs as → g as = some d → (∀ v H', Same H H' → Rd K ns (Nw L H) H' v d → Q v H') → r xs H Q
def CaF (r : List V → Hp → VK → Prop) (g : List D → Option D) : Prop := ∀ (L : Addr → Prop) (H : Hp) (xs : List V) (as : List D) (d : D) (Q : VK), Rds K ns L H xs as → g as = some d →
 (∀ p vs ds H', d = .lst ds → Same H H' → H p = none → H' p = some (.lst vs) → Rds K ns (fun a => Nw L H a ∧ a ≠ p) H' vs ds → Q (.ref p) H') → r xs H Q
end
theorem bl_inv {β : Type} {z : D} {f : Bool → Option β} {y : β} (h : (match z with | .bl x => f x | _ => none) = some y) : ∃ x, z = .bl x ∧ f x = some y := by
 cases z with
 | bl x => exact ⟨x, rfl, h⟩
 | _ => cases h
section
variable {K : PySem.W.Frag} {ns : List Str}
theorem Rd.blI {L : Addr → Prop} {H : Hp} {x : V} {b : Bool} (r : Rd K ns L H x (.bl b)) : x = .bl b := by cases r; rfl
theorem Rd.strI {L : Addr → Prop} {H : Hp} {x : V} {b : Str} (r : Rd K ns L H x (.str b)) : x = .str b := by cases r; rfl
theorem Rd.intI {L : Addr → Prop} {H : Hp} {x : V} {b : Int} (r : Rd K ns L H x (.int b)) : x = .int b := by cases r; rfl
theorem Rd.tupI {L : Addr → Prop} {H : Hp} {x : V} {ds : List D} (r : Rd K ns L H x (.tup ds)) : ∃ a vs, x = .ref a ∧ H a = some (.tup vs) ∧ Rds K ns L H vs ds := by
 cases r with
 | tup e r => exact ⟨_, _, rfl, e, r⟩
theorem Rd.lstI {L : Addr → Prop} {H : Hp} {x : V} {ds : List D} (r : Rd K ns L H x (.lst ds)) : ∃ a vs, x = .ref a ∧ L a ∧ H a = some (.lst vs) ∧ Rds K ns L H vs ds := by
 cases r with
 | lst l e r => exact ⟨_, _, rfl, l, e, r⟩
theorem EnvR.same {L : Addr → Prop} {env : Env} {σ : St} {H H' : Hp} (h : EnvR K ns L env σ H) (S : Same H H') : EnvR K ns L env σ H' := fun i d e => by
 obtain ⟨v, q, r⟩ := h i d e
 exact ⟨v, q, r.same S⟩
theorem EnvR.nw {L : Addr → Prop} {env : Env} {σ : St} {H H' : Hp} (h : EnvR K ns L env σ H) (S : Same H H') : EnvR K ns (Nw L H) env σ H' := fun i d e => by
 obtain ⟨v, q, r⟩ := h i d e
 exact ⟨v, q, r.nw.same S⟩
theorem bnd {α β : Type} {o : Option α} {g : α → Option β} {y : β} (h : o.bind g = some y) : ∃ x, o = some x ∧ g x = some y := by
 cases o with
 | none => cases h
 | some x => exact ⟨x, rfl, h⟩
theorem PuF.pe {t : TE} {f : VF} (h : PuF K ns t f) : PuE K ns t f := fun L env σ H Q d he hf k =>
 h L env σ H Q d he hf fun p vs ds H' e S hn hp r => by
   subst e
   exact k _ _ S (.lst (.inr hn) hp (r.mono (fun _ q => q.1) .refl))
theorem pu_var (i : Nat) : PuE K ns (tVar i) (vD i) := by
 intro L env σ H Q d he hf k
 have e : env[i]? = some (some d) := by
  unfold vD at hf
  cases q : env[i]? with
  | none => rw [q] at hf; cases hf
  | some o => rw [q] at hf; exact congrArg some hf
 obtain ⟨v, q, r⟩ := he i d e
 exact ⟨v, q, k v H (Same.refl _) r.nw⟩
theorem pu_int (i : Int) : PuE K ns (tC (.int i)) (cD (.int i)) := fun L env σ H Q d he hf k => by cases hf; exact k _ _ (Same.refl _) (.int i)
theorem pu_bl (i : Bool) : PuE K ns (tC (.bl i)) (cD (.bl i)) := fun L env σ H Q d he hf k => by cases hf; exact k _ _ (Same.refl _) (.bl i)
theorem pu_non : PuE K ns (tC .non) (cD .non) := fun L env σ H Q d he hf k => by cases hf; exact k _ _ (Same.refl _) .non
theorem pu_str (i : Str) : PuE K ns (tC (.str i)) (cD (.str i)) := fun L env σ H Q d he hf k => by cases hf; exact k _ _ (Same.refl _) (.str i)
theorem pu_kt {a : Addr} {d : D} (h : ∀ L H, Rd K ns L H (.ref a) d) : PuE K ns (tC (.ref a)) (cD d) := fun L env σ H Q d' he hf k => by cases hf; exact k _ _ (Same.refl _) (h _ _)
theorem pu_op {r : R2} {g : D → D → Option D} {ta tb : TE} {fa fb : VF} (hr : R2P K ns r g) (ha : PuE K ns ta fa) (hb : PuE K ns tb fb) : PuE K ns (tOp r ta tb) (oD g fa fb) := by
 intro L env σ H Q d he hf k
 obtain ⟨a, ea, hf⟩ := bnd hf
 obtain ⟨b, eb, hf⟩ := bnd hf
 refine ha L env σ H _ a he ea fun x H1 S1 rx => hb (Nw L H) env σ H1 _ b (he.nw S1) eb fun y H2 S2 ry => ?_
 refine hr (Nw (Nw L H) H1) H2 x y a b d Q (rx.mono (fun _ => .inl) (.of S2)) ry hf fun v H3 S3 rv => k v H3 (S1.trans (S2.trans S3)) (rv.mono (fun q hq => ?_) .refl)
 exact nw2 S1 (nw2 S2 hq)
theorem pa_nilD : PuA K ns 0 tNil aNil := fun L env σ H Q ds he hf k => by cases hf; exact k _ _ rfl (Same.refl _) .nil
theorem pa_consD {n : Nat} {ta : TE} {fa : VF} {tr : TA} {fr : AF} (ha : PuE K ns ta fa) (hr : PuA K ns n tr fr) : PuA K ns (n + 1) (tCons ta tr) (aCons fa fr) := by
 intro L env σ H Q ds he hf k
 obtain ⟨a, ea, hf⟩ := bnd hf
 obtain ⟨r, er, hf⟩ := bnd hf
 cases hf
 refine ha L env σ H _ a he ea fun x H1 S1 rx => hr (Nw L H) env σ H1 _ r (he.nw S1) er fun ys H2 hl S2 ry => ?_
 exact k _ H2 (congrArg Nat.succ hl) (S1.trans S2) (.cons (rx.mono (fun _ q => q) (.of S2)) (ry.mono (fun q hq => nw2 S1 hq) .refl))
theorem pu_tup {n : Nat} {t : TA} {f : AF} (h : PuA K ns n t f) (hn : n ≤ sizeLine := by decide) : PuE K ns (tTup t) (tupD f) := by
 intro L env σ H Q d he hf k
 obtain ⟨a, ea, hf⟩ := bnd hf
 cases hf
 refine h L env σ H _ a he ea fun vs H1 hl S1 rx => ⟨by rw [rx.len, hl]; exact hn, fun p hp => ?_⟩
 have N := same_new0 hp (.tup vs)
 exact k _ _ (S1.trans N) (.tup upd_same (rx.same N))
theorem pu_lst {n : Nat} {t : TA} {f : AF} (h : PuA K ns n t f) (hn : n ≤ sizeLine := by decide) : PuF K ns (tLst t) (lstD f) := by
 intro L env σ H Q d he hf k
 obtain ⟨a, ea, hf⟩ := bnd hf
 cases hf
 refine h L env σ H _ a he ea fun vs H1 hl S1 rx => ⟨by rw [rx.len, hl]; exact hn, fun p hp => ?_⟩
 have N := same_new0 hp (.lst vs)
 refine k p vs a _ rfl (S1.trans N) (back S1 hp) upd_same (rx.mono2 (fun a xs e q => ⟨q, fun z => ?_⟩) (.of N))
 subst z
 rw [hp] at e
 cases e
theorem pu_call {n : Nat} {r : List V → Hp → VK → Prop} {g : List D → Option D} {t : TA} {f : AF} (hr : CaP K ns r g) (h : PuA K ns n t f) : PuE K ns (tCB r t) (callD g f) := by
 intro L env σ H Q d he hf k
 obtain ⟨a, ea, hf⟩ := bnd hf
 exact h L env σ H _ a he ea fun xs H1 _ S1 rx => hr (Nw L H) H1 xs a d Q rx hf fun v H3 S3 rv => k v H3 (S1.trans S3) (rv.mono (fun q hq => nw2 S1 hq) .refl)
theorem pu_callF {n : Nat} {r : List V → Hp → VK → Prop} {g : List D → Option D} {t : TA} {f : AF} (hr : CaF K ns r g) (h : PuA K ns n t f) : PuF K ns (tCB r t) (callD g f) := by
 intro L env σ H Q d he hf k
 obtain ⟨a, ea, hf⟩ := bnd hf
 exact h L env σ H _ a he ea fun xs H1 _ S1 rx => hr (Nw L H) H1 xs a d Q rx hf fun p vs ds H3 e S3 hp h3 rv => k p vs ds H3 e (S1.trans S3) (back S1 hp) h3 (rv.mono (fun q hq => ⟨nw2 S1 hq.1, hq.2⟩) .refl)
theorem pt_bD {t : TE} {f : VF} (h : PuE K ns t f) : PuT K ns (tB t) (bD f) := by
 intro L env σ H Q b he hf k
 obtain ⟨d, ed, hf⟩ := bnd hf
 refine h L env σ H _ d he ed fun v H1 S1 r => ?_
 obtain ⟨c, rfl, hf⟩ := bl_inv hf
 cases hf
 exact ⟨_, r.blI, k _ S1⟩
theorem pt_tD {t : TE} {f : VF} (h : PuE K ns t f) : PuT K ns (tTest t) (bD f) := pt_bD h
theorem pt_yes : PuT K ns tYes yesB := fun L env σ H Q b he hf k => by cases hf; exact k _ (Same.refl _)
theorem pt_andD {t u : TT} {f g : BF} (h : PuT K ns t f) (h2 : PuT K ns u g) : PuT K ns (tAnd t u) (andB f g) := by
 intro L env σ H Q b he hf k
 obtain ⟨x, ex, hf⟩ := bnd hf
 refine h L env σ H _ x he ex fun H1 S1 => ?_
 cases x with
 | false =>
   rw [if_neg Bool.false_ne_true] at hf ⊢
   cases hf
   exact k _ S1
 | true =>
   rw [if_pos rfl] at hf ⊢
   exact h2 _ env σ H1 _ b (he.nw S1) hf fun H2 S2 => k _ (S1.trans S2)
theorem pt_orD {t u : TT} {f g : BF} (h : PuT K ns t f) (h2 : PuT K ns u g) : PuT K ns (tOr t u) (orB f g) := by
 intro L env σ H Q b he hf k
 obtain ⟨x, ex, hf⟩ := bnd hf
 refine h L env σ H _ x he ex fun H1 S1 => ?_
 cases x with
 | true =>
   rw [if_pos rfl] at hf ⊢
   cases hf
   exact k _ S1
 | false =>
   rw [if_neg Bool.false_ne_true] at hf ⊢
   exact h2 _ env σ H1 _ b (he.nw S1) hf fun H2 S2 => k _ (S1.trans S2)
theorem pt_notD {t : TT} {f : BF} (h : PuT K ns t f) : PuT K ns (tNot t) (notB f) := by
 intro L env σ H Q b he hf k
 obtain ⟨x, ex, hf⟩ := bnd hf
 cases hf
 exact h L env σ H _ x he ex fun H1 S1 => k _ S1
theorem pu_and {t u : TE} {f g : VF} (h : PuE K ns t f) (h2 : PuE K ns u g) : PuE K ns (tAndV t u) (andD f g) := by
 intro L env σ H Q b he hf k
 obtain ⟨x, ex, hf⟩ := bnd hf
 refine h L env σ H _ x he ex fun v H1 S1 r => ?_
 obtain ⟨c, rfl, hf⟩ := bl_inv hf
 refine ⟨c, r.blI, ?_⟩
 cases c with
 | false =>
   rw [if_neg Bool.false_ne_true]
   cases hf
   exact k _ _ S1 (.bl _)
 | true =>
   rw [if_pos rfl]
   exact h2 _ env σ H1 _ b (he.nw S1) hf fun v H2 S2 r => k _ _ (S1.trans S2) (r.mono (fun q hq => nw2 S1 hq) .refl)
end
end PD
namespace PD
open PySem L2
abbrev big : Int := 18446744073709551616
def ii (g : Int → Int → Option D) : D → D → Option D
 | .int i, .int j => g i j
 | _, _ => none
def addD : D → D → Option D
 | .int i, .int j => some (.int (i + j))
 | .str a, .str b => if a.length + b.length ≤ 1000000 then some (.str (a ++ b)) else none
 | .lst a, .lst b => if a.length + b.length ≤ 1000000 then some (.lst (a ++ b)) else none
 | .tup a, .tup b => if a.length + b.length ≤ 1000000 then some (.tup (a ++ b)) else none
 | _, _ => none
def catD : D → D → Option D
 | .lst a, .lst b => if a.length + b.length ≤ 1000000 then some (.lst (a ++ b)) else none
 | _, _ => none
def subD : D → D → Option D := ii fun i j => some (.int (i - j))
def mulD : D → D → Option D
 | .int i, .int j => if (-big < i ∧ i < big) ∨ (-big < j ∧ j < big) then some (.int (i * j)) else none
 | .str a, .int n => if a.length ≤ 16 ∧ 0 ≤ n ∧ n ≤ 1000000 then some (.str (Txt.mul a n)) else none
 | _, _ => none
def fdivC : D → D → Option D := ii fun i j => if 0 < j ∧ j < 1073741824 then some (.int (i / j)) else none
def fdivD : D → D → Option D := ii fun i j => if 0 < j ∧ j < big then some (.int (i / j)) else none
def modD : D → D → Option D := ii fun i j => if 0 < j then some (.int (i % j)) else none
def ltD : D → D → Option D := ii fun i j => some (.bl (decide (i < j)))
def leD : D → D → Option D := ii fun i j => some (.bl (decide (i ≤ j)))
def gtD : D → D → Option D := ii fun i j => some (.bl (decide (j < i)))
def geD : D → D → Option D := ii fun i j => some (.bl (decide (j ≤ i)))
mutual
def toPy : D → Option PyData
 | .non => some .none
 | .bl b => some (.bool b)
 | .int i => some (.int i)
 | .str x => some (.str x)
 | .lst xs => (toPys xs).map .list
 | .fz xs => (toPys xs).map .list
 | .tup xs => (toPys xs).map .tuple
 | .kt xs => (toPys xs).map .tuple
 | .ob _ _ => none
 | .dk _ _ => none
 | .dt _ _ => none
def toPys : List D → Option (List PyData)
 | [] => some []
 | d :: r => (toPy d).bind fun x => (toPys r).map (x :: ·)
end
def eqX (d e : D) : Option Bool := (toPy d).bind fun x => (toPy e).bind fun y => if SeqAt.shaped x = true ∧ SeqAt.shaped y = true then some (PyData.eqv x y) else none
def eqB : D → D → Option Bool
 | .int i, .int j => some (decide (i = j))
 | .str i, .str j => some (decide (i = j))
 | .bl i, .bl j => some (decide (i = j))
 | d, e => eqX d e
def eqD (d e : D) : Option D := (eqB d e).map .bl
def neD (d e : D) : Option D := (eqB d e).map fun b => .bl (!b)
def D.isN : D → Bool
 | .non => true
 | _ => false
def D.isB (b : Bool) : D → Bool
 | .bl c => decide (c = b)
 | _ => false
def isD : D → D → Option D
 | a, .non => some (.bl a.isN)
 | a, .bl b => some (.bl (a.isB b))
 | _, _ => none
def isntD : D → D → Option D
 | a, .non => some (.bl (!a.isN))
 | _, _ => none
def sV : D → Option V
 | .non => some .non
 | .bl b => some (.bl b)
 | .int i => some (.int i)
 | .str x => some (.str x)
 | _ => none
def sVs : List D → Option (List V)
 | [] => some []
 | d :: r => (sV d).bind fun x => (sVs r).map (x :: ·)
def seqOf : D → Option (List D)
 | .lst xs => some xs
 | .fz xs => some xs
 | .tup xs => some xs
 | .kt xs => some xs
 | _ => none
def inB (d : D) (e : D) : Option Bool := (sV d).bind fun x => (seqOf e).bind fun xs => (sVs xs).map fun vs => inV x vs
def inD (d e : D) : Option D := (inB d e).map .bl
def ixD : D → D → Option D
 | .str z, .int i => if z.length ≤ 1000000 then (atI z.cps.toList i).map fun c => .str ⟨#[c]⟩ else none
 | d, .int i => (seqOf d).bind fun xs => atI xs i
 | _, _ => none
def cutD (xs : List D) (lo hi : Option Int) : List D := (xs.drop (HT.sIx xs.length 0 lo)).take (HT.sIx xs.length xs.length hi - HT.sIx xs.length 0 lo)
def slDD : D → Option Int → Option Int → Option D
 | .lst xs, lo, hi => some (.lst (cutD xs lo hi))
 | .fz xs, lo, hi => some (.lst (cutD xs lo hi))
 | .tup xs, lo, hi => if HT.sIx xs.length 0 lo = 0 ∧ HT.sIx xs.length xs.length hi = xs.length then none else some (.tup (cutD xs lo hi))
 | .str z, lo, hi => if z.length ≤ 1000000 then some (.str (Txt.slice z lo hi)) else none
 | _, _, _ => none
abbrev OF := Env → Option (Option Int)
def noO : OF := fun _ => some none
def atO (f : VF) : OF := fun env => (f env).bind fun | .int i => some (some i) | _ => none
def slD (g : D → Option Int → Option Int → Option D) (f : VF) (lo hi : OF) : VF := fun env => (f env).bind fun d => (lo env).bind fun l => (hi env).bind fun h => g d l h
def negD : D → Option D
 | .int i => some (.int (-i))
 | _ => none
def lenD : List D → Option D
 | [.str z] => if z.length ≤ 1000000 then some (.int z.length) else none
 | [d] => (seqOf d).map fun xs => .int xs.length
 | _ => none
def blS : List D → Option (List Bool)
 | [] => some []
 | .bl b :: r => (blS r).map (b :: ·)
 | _ => none
def allD : List D → Option D
 | [.lst xs] => (blS xs).map fun bs => .bl (bs.all id)
 | _ => none
def listD : List D → Option D
 | [d] => (seqOf d).map .lst
 | _ => none
def D.ty : D → String
 | .non => "NoneType" | .bl _ => "bool" | .int _ => "int" | .str _ => "str" | .lst _ => "list" | .tup _ => "tuple" | .fz _ => "list" | .kt _ => "" | .ob _ _ => "object" | .dk _ _ => "dict" | .dt _ _ => "dict"
def kits (t T : String) : Bool := t == T || (t == "bool" && T == "int")
def isT (T : String) : List D → Option D
 | [.kt _] => none
 | [.fz _] => none
 | [.dk _ _] => none
 | [.dt _ _] => none
 | [d] => some (.bl (kits d.ty T))
 | _ => none
def isC (c : Cl) : List D → Option D
 | [.ob c' _] => some (.bl (decide (c' = c)))
 | _ => none
def getF (f : Fl) : D → Option D
 | .ob c fs => if f ∈ c.fs then fs.lookup f else none
 | _ => none
section
variable {K : PySem.W.Frag} {ns : List Str}
theorem ii_inv {g : Int → Int → Option D} {L : Addr → Prop} {H : Hp} {x y : V} {a b d : D} (rx : Rd K ns L H x a) (ry : Rd K ns L H y b) (hf : ii g a b = some d) : ∃ i j, x = .int i ∧ y = .int j ∧ g i j = some d := by
 cases rx <;> first | (cases hf; done) | (cases ry <;> first | (cases hf; done) | skip)
 exact ⟨_, _, rfl, rfl, hf⟩
theorem r2_add : R2P K ns (rAddP K) addD := by
 intro L H x y a b d Q rx ry hf k
 unfold addD at hf
 split at hf
 · cases hf
   exact .inl (.inl ⟨_, _, rx.intI, ry.intI, k _ _ (Same.refl _) (.int _)⟩)
 · split at hf
   · cases hf
     rename_i h
     exact .inl (.inr (.inl ⟨_, _, rx.strI, ry.strI, Nat.le_trans h (by decide), k _ _ (Same.refl _) (.str _)⟩))
   · cases hf
 · split at hf
   · cases hf
     rename_i h
     obtain ⟨p1, v1, rfl, l1, e1, r1⟩ := rx.lstI
     obtain ⟨p2, v2, rfl, l2, e2, r2⟩ := ry.lstI
     refine .inl (.inr (.inr ⟨_, _, _, _, rfl, rfl, e1, e2, by rw [r1.len, r2.len]; exact Nat.le_trans h (by decide), fun p hp => k _ _ (same_new0 hp _) (.lst (.inr hp) upd_same ?_)⟩))
     exact (r1.append r2).mono (fun _ => .inl) (.of (same_new0 hp _))
   · cases hf
 · split at hf
   · cases hf
     rename_i h
     obtain ⟨p1, v1, rfl, e1, r1⟩ := rx.tupI
     obtain ⟨p2, v2, rfl, e2, r2⟩ := ry.tupI
     have hl : ∀ {n m : Nat}, n + m ≤ 1000000 → n + m ≤ sizeLine := fun q => Nat.le_trans q (by decide)
     cases r1 with
     | nil => exact .inr (.inr ⟨_, _, _, rfl, rfl, SqT.of e1, SqT.of e2, k _ _ (Same.refl _) (Rd.tup e2 r2).nw⟩)
     | cons h1 t1 =>
       have r1 := Rds.cons h1 t1
       refine .inr (.inl ⟨_, _, _, _, rfl, rfl, SqT.of e1, SqT.of e2, List.cons_ne_nil _ _, by rw [r1.len, r2.len]; exact hl h, fun z => ?_, fun _ p hp => k _ _ (same_new0 hp _) (.tup upd_same ((r1.append r2).mono (fun _ => .inl) (.of (same_new0 hp _))))⟩)
       subst z
       cases r2
       rw [List.append_nil] at k
       exact k _ _ (Same.refl _) (Rd.tup e1 r1).nw
   · cases hf
 · cases hf
def R2F (K : PySem.W.Frag) (ns : List Str) (r : R2) (g : D → D → Option D) : Prop := ∀ (L : Addr → Prop) (H : Hp) (x y : V) (a b d : D) (Q : VK), Rd K ns L H x a → Rd K ns L H y b → g a b = some d →
 (∀ p vs ds H', d = .lst ds → Same H H' → H p = none → H' p = some (.lst vs) → Rds K ns (fun a => Nw L H a ∧ a ≠ p) H' vs ds → Q (.ref p) H') → r x y H Q
theorem new_rds {L : Addr → Prop} {H : Hp} {p : Addr} {vs : List V} {ds : List D} {o : HO} (r : Rds K ns L H vs ds) (hp : H p = none) : Rds K ns (fun a => Nw L H a ∧ a ≠ p) (upd H p o) vs ds :=
 r.mono2 (fun a xs e q => ⟨.inl q, ne_of_none e hp⟩) (.of (same_new0 hp _))
theorem r2_cat : R2F K ns (rAddP K) catD := by
 intro L H x y a b d Q rx ry hf k
 cases rx <;> first | (cases hf; done) | (cases ry <;> first | (cases hf; done) | skip)
 rename_i l1 e1 r1 _ _ _ l2 e2 r2
 dsimp only [catD] at hf
 split at hf
 · cases hf
   rename_i h
   exact .inl (.inr (.inr ⟨_, _, _, _, rfl, rfl, e1, e2, by rw [r1.len, r2.len]; exact Nat.le_trans h (by decide), fun p hp => k _ _ _ _ rfl (same_new0 hp _) hp upd_same (new_rds (r1.append r2) hp)⟩))
 · cases hf
theorem pu_opF {r : R2} {g : D → D → Option D} {ta tb : TE} {fa fb : VF} (hr : R2F K ns r g) (ha : PuE K ns ta fa) (hb : PuE K ns tb fb) : PuF K ns (tOp r ta tb) (oD g fa fb) := by
 intro L env σ H Q d he hf k
 obtain ⟨a, ea, hf⟩ := bnd hf
 obtain ⟨b, eb, hf⟩ := bnd hf
 refine ha L env σ H _ a he ea fun x H1 S1 rx => hb (Nw L H) env σ H1 _ b (he.nw S1) eb fun y H2 S2 ry => ?_
 exact hr (Nw (Nw L H) H1) H2 x y a b d Q (rx.mono (fun _ => .inl) (.of S2)) ry hf fun p vs ds H3 e S3 hp h3 rv => k p vs ds H3 e (S1.trans (S2.trans S3)) (back S1 (back S2 hp)) h3 (rv.mono (fun q hq => ⟨nw2 S1 (nw2 S2 hq.1), hq.2⟩) .refl)
theorem r2_sub : R2P K ns rSubI subD := by
 intro L H x y a b d Q rx ry hf k
 obtain ⟨i, j, rfl, rfl, hf⟩ := ii_inv rx ry hf
 cases hf
 exact ⟨_, _, rfl, rfl, k _ _ (Same.refl _) (.int _)⟩
theorem r2_mul : R2P K ns rMulX mulD := by
 intro L H x y a b d Q rx ry hf k
 unfold mulD at hf
 split at hf
 · split at hf
   · cases hf
     rename_i h
     refine .inl ⟨_, _, rx.intI, ry.intI, ?_, k _ _ (Same.refl _) (.int _)⟩
     rcases h with h | h
     · exact IntMulOk.of_left (intBits_le_64 h.1 h.2)
     · exact IntMulOk.of_right (intBits_le_64 h.1 h.2)
   · cases hf
 · split at hf
   · cases hf
     rename_i h
     exact .inr (.inr ⟨_, _, rx.strI, ry.intI, h.1, h.2.1, h.2.2, k _ _ (Same.refl _) (.str _)⟩)
   · cases hf
 · cases hf
theorem r2_fdivC : R2P K ns rFdiv fdivC := by
 intro L H x y a b d Q rx ry hf k
 obtain ⟨i, j, rfl, rfl, hf⟩ := ii_inv rx ry hf
 split at hf
 · cases hf
   rename_i h
   exact ⟨_, _, rfl, rfl, h, k _ _ (Same.refl _) (.int _)⟩
 · cases hf
theorem r2_mod : R2P K ns rMod modD := by
 intro L H x y a b d Q rx ry hf k
 obtain ⟨i, j, rfl, rfl, hf⟩ := ii_inv rx ry hf
 split at hf
 · cases hf
   rename_i h
   exact ⟨_, _, rfl, rfl, h, k _ _ (Same.refl _) (.int _)⟩
 · cases hf
theorem r2_lt : R2P K ns rLt ltD := by
 intro L H x y a b d Q rx ry hf k
 obtain ⟨i, j, rfl, rfl, hf⟩ := ii_inv rx ry hf
 cases hf
 exact ⟨_, _, rfl, rfl, k _ _ (Same.refl _) (.bl _)⟩
theorem r2_gt : R2P K ns rGt gtD := by
 intro L H x y a b d Q rx ry hf k
 obtain ⟨i, j, rfl, rfl, hf⟩ := ii_inv rx ry hf
 cases hf
 exact ⟨_, _, rfl, rfl, k _ _ (Same.refl _) (.bl _)⟩
theorem r2_ge : R2P K ns rGe geD := by
 intro L H x y a b d Q rx ry hf k
 obtain ⟨i, j, rfl, rfl, hf⟩ := ii_inv rx ry hf
 cases hf
 exact ⟨_, _, rfl, rfl, k _ _ (Same.refl _) (.bl _)⟩
theorem Rd.py {L : Addr → Prop} {H : Hp} {v : V} {d : D} {y : PyData} (r : Rd K ns L H v d) : toPy d = some y → RdD K H v y := Rd.rec (motive_1 := fun v d _ => ∀ y, toPy d = some y → RdD K H v y) (motive_2 := fun vs ds _ => ∀ ys, toPys ds = some ys → RdDs K H vs ys) (motive_3 := fun _ _ _ => True) (fun y e => by cases e; exact .non) (fun b y e => by cases e; exact .bl b) (fun i y e => by cases e; exact .int i) (fun x y e => by cases e; exact .str x) (fun h _ ih y e => by rw [toPy] at e; obtain ⟨z, ez, rfl⟩ := Option.map_eq_some_iff.mp e; exact .tup (SqT.of h) (ih z ez)) (fun h _ ih y e => by rw [toPy] at e; obtain ⟨z, ez, rfl⟩ := Option.map_eq_some_iff.mp e; exact .tup (SqT.kt h) (ih z ez)) (fun l h _ ih y e => by rw [toPy] at e; obtain ⟨z, ez, rfl⟩ := Option.map_eq_some_iff.mp e; exact .lst (SqL.of h) (ih z ez)) (fun h _ ih y e => by rw [toPy] at e; obtain ⟨z, ez, rfl⟩ := Option.map_eq_some_iff.mp e; exact .lst (SqL.fz h) (ih z ez)) (fun _ _ _ _ _ y e => by rw [toPy] at e; cases e) (fun _ _ _ _ y e => by rw [toPy] at e; cases e) (fun _ _ _ _ y e => by rw [toPy] at e; cases e) (fun ys e => by cases e; exact .nil) (fun _ _ ih it ys e => by rw [toPys] at e; obtain ⟨x, ex, e⟩ := bnd e; obtain ⟨z, ez, rfl⟩ := Option.map_eq_some_iff.mp e; exact .cons (ih x ex) (it z ez)) trivial (fun _ _ _ _ _ => trivial) r y
theorem eqX_ok {L : Addr → Prop} {H : Hp} {x y : V} {d e : D} {b : Bool} (rx : Rd K ns L H x d) (ry : Rd K ns L H y e) (h : eqX d e = some b) : ∃ p q, RdD K H x p ∧ RdD K H y q ∧ SeqAt.shaped p = true ∧ SeqAt.shaped q = true ∧ PyData.eqv p q = b := by
 obtain ⟨p, ep, h⟩ := bnd h
 obtain ⟨q, eq, h⟩ := bnd h
 split at h
 · rename_i hs
   exact ⟨p, q, rx.py ep, ry.py eq, hs.1, hs.2, Option.some.inj h⟩
 · cases h
theorem eqB_ok {L : Addr → Prop} {H : Hp} {x y : V} {a b : D} {c : Bool} (rx : Rd K ns L H x a) (ry : Rd K ns L H y b) (hc : eqB a b = some c) : (∃ i j : Int, x = .int i ∧ y = .int j ∧ c = decide (i = j)) ∨ (∃ i j : Str, x = .str i ∧ y = .str j ∧ c = decide (i = j)) ∨ (∃ i j : Bool, x = .bl i ∧ y = .bl j ∧ c = decide (i = j)) ∨ ∃ p q, RdD K H x p ∧ RdD K H y q ∧ SeqAt.shaped p = true ∧ SeqAt.shaped q = true ∧ PyData.eqv p q = c := by
 unfold eqB at hc
 split at hc
 · cases hc
   exact .inl ⟨_, _, rx.intI, ry.intI, rfl⟩
 · cases hc
   exact .inr (.inl ⟨_, _, rx.strI, ry.strI, rfl⟩)
 · cases hc
   exact .inr (.inr (.inl ⟨_, _, rx.blI, ry.blI, rfl⟩))
 · exact .inr (.inr (.inr (eqX_ok rx ry hc)))
theorem str_dec {i j : Str} : decide (V.str i = V.str j) = decide (i = j) := by simp
theorem bl_dec {i j : Bool} : decide (V.bl i = V.bl j) = decide (i = j) := by simp
theorem r2_eq : R2P K ns (rEqG K) eqD := by
 intro L H x y a b d Q rx ry hf k
 obtain ⟨c, hc, rfl⟩ := Option.map_eq_some_iff.mp hf
 rcases eqB_ok rx ry hc with ⟨i, j, rfl, rfl, rfl⟩ | ⟨i, j, rfl, rfl, rfl⟩ | ⟨i, j, rfl, rfl, rfl⟩ | ⟨p, q, r1, r2, s1, s2, rfl⟩
 · exact .inl ⟨_, _, rfl, rfl, k _ _ (Same.refl _) (.bl _)⟩
 · exact .inr (.inr (.inl ⟨rfl, by rw [str_dec]; exact k _ _ (Same.refl _) (.bl _)⟩))
 · exact .inr (.inr (.inl ⟨rfl, by rw [bl_dec]; exact k _ _ (Same.refl _) (.bl _)⟩))
 · exact .inr (.inr (.inr ⟨p, q, r1, r2, s1, s2, k _ _ (Same.refl _) (.bl _)⟩))
theorem r2_ne : R2P K ns (rNeG K) neD := by
 intro L H x y a b d Q rx ry hf k
 obtain ⟨c, hc, rfl⟩ := Option.map_eq_some_iff.mp hf
 rcases eqB_ok rx ry hc with ⟨i, j, rfl, rfl, rfl⟩ | ⟨i, j, rfl, rfl, rfl⟩ | ⟨i, j, rfl, rfl, rfl⟩ | ⟨p, q, r1, r2, s1, s2, rfl⟩
 · exact .inl ⟨_, _, rfl, rfl, k _ _ (Same.refl _) (.bl _)⟩
 · exact .inr (.inl ⟨rfl, by rw [str_dec]; exact k _ _ (Same.refl _) (.bl _)⟩)
 · exact .inr (.inl ⟨rfl, by rw [bl_dec]; exact k _ _ (Same.refl _) (.bl _)⟩)
 · exact .inr (.inr ⟨p, q, r1, r2, s1, s2, k _ _ (Same.refl _) (.bl _)⟩)
theorem isN_ok {L : Addr → Prop} {H : Hp} {x : V} {a : D} (r : Rd K ns L H x a) : decide (x = V.non) = a.isN := by cases r <;> rfl
theorem isB_ok {L : Addr → Prop} {H : Hp} {x : V} {a : D} {b : Bool} (r : Rd K ns L H x a) : decide (x = V.bl b) = a.isB b := by cases r <;> first | rfl | exact bl_dec
theorem r2_is : R2P K ns rIsP isD := by
 intro L H x y a b d Q rx ry hf k
 unfold isD at hf
 split at hf
 · cases hf
   cases ry
   exact .inl ⟨rfl, by rw [isN_ok rx]; exact k _ _ (Same.refl _) (.bl _)⟩
 · cases hf
   exact .inr ⟨_, ry.blI, by rw [isB_ok rx]; exact k _ _ (Same.refl _) (.bl _)⟩
 · cases hf
theorem r2_isnt : R2P K ns rNotN isntD := by
 intro L H x y a b d Q rx ry hf k
 unfold isntD at hf
 split at hf
 · cases hf
   cases ry
   exact ⟨rfl, by rw [isN_ok rx]; exact k _ _ (Same.refl _) (.bl _)⟩
 · cases hf
theorem sV_ok {L : Addr → Prop} {H : Hp} {x v : V} {d : D} (r : Rd K ns L H x d) (h : sV d = some v) : x = v ∧ flatV v = true := by
 cases r <;> first | (cases h; done) | (cases h; exact ⟨rfl, rfl⟩)
theorem sVs_ok {L : Addr → Prop} {H : Hp} : ∀ {xs vs : List V} {ds : List D}, Rds K ns L H xs ds → sVs ds = some vs → xs = vs ∧ vs.all flatV = true
 | _, _, _, .nil, e => by cases e; exact ⟨rfl, rfl⟩
 | _, _, _, .cons h t, e => by
   obtain ⟨x, ex, e⟩ := bnd e
   obtain ⟨z, ez, rfl⟩ := Option.map_eq_some_iff.mp e
   obtain ⟨rfl, f1⟩ := sV_ok h ex
   obtain ⟨rfl, f2⟩ := sVs_ok t ez
   exact ⟨rfl, by rw [List.all_cons, f1, f2]; rfl⟩
theorem seq_ok {L : Addr → Prop} {H : Hp} {x : V} {d : D} {xs : List D} (r : Rd K ns L H x d) (h : seqOf d = some xs) : ∃ p vs, x = .ref p ∧ (SqL K H p vs ∨ SqT K H p vs) ∧ Rds K ns L H vs xs := by
 cases r <;> first | (cases h; done) | skip
 · rename_i e r; cases h; exact ⟨_, _, rfl, .inr (SqT.of e), r⟩
 · rename_i e r; cases h; exact ⟨_, _, rfl, .inr (SqT.kt e), r⟩
 · rename_i l e r; cases h; exact ⟨_, _, rfl, .inl (SqL.of e), r⟩
 · rename_i e r; cases h; exact ⟨_, _, rfl, .inl (SqL.fz e), r⟩
theorem r2_in : R2P K ns (rInX K) inD := by
 intro L H x y a b d Q rx ry hf k
 obtain ⟨c, hc, rfl⟩ := Option.map_eq_some_iff.mp hf
 obtain ⟨v, ev, hc⟩ := bnd hc
 obtain ⟨xs, es, hc⟩ := bnd hc
 obtain ⟨vs, evs, rfl⟩ := Option.map_eq_some_iff.mp hc
 obtain ⟨p, us, rfl, sq, rs⟩ := seq_ok ry es
 obtain ⟨rfl, f1⟩ := sV_ok rx ev
 obtain ⟨rfl, f2⟩ := sVs_ok rs evs
 exact .inr ⟨p, us, rfl, sq, f1, f2, k _ _ (Same.refl _) (.bl _)⟩
theorem ix_get {α β : Type} {xs : List α} {ys : List β} {i : Int} {y : β} (hl : xs.length = ys.length) (h : atI ys i = some y) : ∃ j : Nat, ys[j]? = some y ∧ atI xs i = xs[j]? := by
 unfold atI at h ⊢
 obtain ⟨j, ej, e⟩ := bnd h
 rw [hl, ej]
 exact ⟨j, e, rfl⟩
theorem r2_ix : R2P K ns (rIx K) ixD := by
 intro L H x y a b d Q rx ry hf k
 unfold ixD at hf
 split at hf
 · cases rx; cases ry
   split at hf
   · rename_i z i h
     obtain ⟨c, hc, rfl⟩ := Option.map_eq_some_iff.mp hf
     exact .inr (.inr ⟨_, _, c, rfl, rfl, Nat.le_trans h (by decide), hc, k _ _ (Same.refl _) (.str _)⟩)
   · cases hf
 · cases ry
   obtain ⟨xs, es, hf⟩ := bnd hf
   obtain ⟨p, vs, rfl, sq, rs⟩ := seq_ok rx es
   obtain ⟨j, ej, e⟩ := ix_get rs.len hf
   obtain ⟨v, ev, rv⟩ := rs.get ej
   rcases sq with sq | sq
   · exact .inl ⟨p, vs, _, v, rfl, rfl, sq, e.trans ev, k _ _ (Same.refl _) rv.nw⟩
   · exact .inr (.inl ⟨p, vs, _, v, rfl, rfl, sq, e.trans ev, k _ _ (Same.refl _) rv.nw⟩)
 · cases hf
theorem one_of {L : Addr → Prop} {H : Hp} {xs : List V} {d : D} (r : Rds K ns L H xs [d]) : ∃ x, xs = [x] ∧ Rd K ns L H x d := by
 cases r with
 | cons h t => cases t; exact ⟨_, rfl, h⟩
theorem two_of {L : Addr → Prop} {H : Hp} {xs : List V} {d e : D} (r : Rds K ns L H xs [d, e]) : ∃ x y, xs = [x, y] ∧ Rd K ns L H x d ∧ Rd K ns L H y e := by
 cases r with
 | cons h t => obtain ⟨y, rfl, q⟩ := one_of t; exact ⟨_, _, rfl, h, q⟩
theorem ca_len : CaP K ns (rLen K) lenD := by
 intro L H xs as d Q rx hf k
 unfold lenD at hf
 split at hf
 · obtain ⟨x, rfl, r⟩ := one_of rx
   cases r
   split at hf
   · rename_i h
     cases hf
     exact .inr ⟨_, rfl, Nat.le_trans h (by decide), k _ _ (Same.refl _) (.int _)⟩
   · cases hf
 · obtain ⟨x, rfl, r⟩ := one_of rx
   obtain ⟨ys, ey, rfl⟩ := Option.map_eq_some_iff.mp hf
   obtain ⟨p, vs, rfl, sq, rs⟩ := seq_ok r ey
   have := k (.int vs.length) H (Same.refl _) (by rw [rs.len]; exact .int _)
   exact .inl ⟨p, vs, rfl, sq, this⟩
 · cases hf
theorem bls_ok {L : Addr → Prop} {H : Hp} {vs : List V} {ds : List D} {bs : List Bool} (r : Rds K ns L H vs ds) (e : blS ds = some bs) : vs = bs.map V.bl := by
 induction vs generalizing ds bs with
 | nil => rw [r.nilL] at e; cases e; rfl
 | cons v vs ih =>
   obtain ⟨d, es, rfl, h, t⟩ := r.consL
   cases h <;> first | (cases e; done) | skip
   obtain ⟨z, ez, rfl⟩ := Option.map_eq_some_iff.mp e
   rw [ih t ez]
   rfl
theorem ca_all : CaP K ns (rAll K) allD := by
 intro L H xs as d Q rx hf k
 unfold allD at hf
 split at hf
 · obtain ⟨x, rfl, r⟩ := one_of rx
   obtain ⟨bs, eb, rfl⟩ := Option.map_eq_some_iff.mp hf
   cases r with
   | lst l e r => exact ⟨_, bs, rfl, by rw [← bls_ok r eb]; exact SqL.of e, k _ _ (Same.refl _) (.bl _)⟩
 · cases hf
theorem ca_list : CaF K ns (rListOf K) listD := by
 intro L H xs as d Q rx hf k
 unfold listD at hf
 split at hf
 · obtain ⟨x, rfl, r⟩ := one_of rx
   obtain ⟨ys, ey, rfl⟩ := Option.map_eq_some_iff.mp hf
   obtain ⟨p, vs, rfl, sq, rs⟩ := seq_ok r ey
   exact ⟨p, vs, rfl, sq, fun l hl => k _ _ _ _ rfl (same_new0 hl _) hl upd_same (new_rds rs hl)⟩
 · cases hf
def PuO (K : PySem.W.Frag) (ns : List Str) (t : TO) (f : OF) : Prop := ∀ (L : Addr → Prop) (env : Env) (σ : St) (H : Hp) (Q : Option Int → Hp → Prop) (o : Option Int), EnvR K ns L env σ H → f env = some o → (∀ H', Same H H' → Q o H') → t σ H Q
theorem po_no : PuO K ns tNoPart noO := fun L env σ H Q o he hf k => by cases hf; exact k _ (Same.refl _)
theorem po_at {t : TE} {f : VF} (h : PuE K ns t f) : PuO K ns (tPart t) (atO f) := by
 intro L env σ H Q o he hf k
 obtain ⟨d, ed, hf⟩ := bnd hf
 refine h L env σ H _ d he ed fun v H1 S1 r => ?_
 cases r <;> first | (cases hf; done) | skip
 cases hf
 exact ⟨_, rfl, k _ S1⟩
theorem cut_rds {L : Addr → Prop} {H : Hp} {vs : List V} {ds : List D} (r : Rds K ns L H vs ds) (lo hi : Option Int) : Rds K ns L H (cutV vs lo hi) (cutD ds lo hi) := by
 unfold cutV cutD
 rw [r.len]
 exact (r.drop _).take _
theorem pu_sl {t : TE} {f : VF} {tl th : TO} {fl fh : OF} (h : PuE K ns t f) (hl : PuO K ns tl fl) (hh : PuO K ns th fh) : PuE K ns (tSl (rSlX K) t tl th) (slD slDD f fl fh) := by
 intro L env σ H Q d he hf k
 obtain ⟨a, ea, hf⟩ := bnd hf
 obtain ⟨lo, el, hf⟩ := bnd hf
 obtain ⟨hi, ehi, hf⟩ := bnd hf
 refine h L env σ H _ a he ea fun x H1 S1 rx => hl (Nw L H) env σ H1 _ lo (he.nw S1) el fun H2 S2 => hh (Nw L H) env σ H2 _ hi (he.nw (S1.trans S2)) ehi fun H3 S3 => ?_
 have S13 := S2.trans S3
 have rx3 := rx.same S13
 have SS := S1.trans S13
 have fin : ∀ {p : Addr} {o : HO} {a : Addr}, H3 p = none → Nw (Nw L H) H3 a → Nw L H a := fun {p o a} _ q => nw2 SS q
 cases rx3 with
 | str z =>
   dsimp only [slDD] at hf
   split at hf
   case isTrue hq =>
    cases hf
    exact .inr (.inr ⟨_, rfl, Nat.le_trans hq (by decide), k _ _ SS (.str _)⟩)
   case isFalse => cases hf
 | tup e r =>
   dsimp only [slDD] at hf
   split at hf
   case isTrue => cases hf
   case isFalse hn =>
    cases hf
    refine .inr (.inl ⟨_, _, rfl, SqT.of e, by rw [r.len]; exact hn, fun p hp => k _ _ (SS.trans (same_new0 hp _)) (.tup upd_same ((cut_rds r _ _).mono (fun _ q => q) (.of (same_new0 hp _))))⟩)
 | lst l e r =>
   cases hf
   exact .inl ⟨_, _, rfl, SqL.of e, fun p hp => k _ _ (SS.trans (same_new0 hp _)) (.lst (.inr (back SS hp)) upd_same ((cut_rds r _ _).mono (fun _ q => q) (.of (same_new0 hp _))))⟩
 | fz e r =>
   cases hf
   exact .inl ⟨_, _, rfl, SqL.fz e, fun p hp => k _ _ (SS.trans (same_new0 hp _)) (.lst (.inr (back SS hp)) upd_same ((cut_rds r _ _).mono (fun _ q => q) (.of (same_new0 hp _))))⟩
 | _ => cases hf
theorem rfs_get {L : Addr → Prop} {H : Hp} : ∀ {gs : List (Str × V)} {fs : List (Fl × D)} {f : Fl} {d : D}, Rfs K ns L H gs fs → fs.lookup f = some d → ∃ v, gs.lookup f.s = some v ∧ Rd K ns L H v d
 | _, _, _, _, .nil, e => by cases e
 | _, _, f, d, .cons (f := g) h r t, e => by
   rw [List.lookup_cons] at e
   by_cases q : f = g
   · subst q
     rw [beq_self_eq_true] at e
     cases e
     exact ⟨_, h, r⟩
   · rw [beq_eq_false_iff_ne.mpr q] at e
     exact rfs_get t e
theorem pu_fld {t : TE} {h : VF} (f : Fl) (p : PuE K ns t h) : PuE K ns (tFld K t f.s) (uD (getF f) h) := by
 intro L env σ H Q d he hf k
 obtain ⟨a, ea, hf⟩ := bnd hf
 refine p L env σ H _ a he ea fun x H1 S1 rx => ?_
 cases rx <;> first | (cases hf; done) | skip
 rename_i l e c r
 dsimp only [getF] at hf
 split at hf
 · rename_i hm
   obtain ⟨v, ev, rv⟩ := rfs_get r hf
   exact ⟨_, _, _, _, v, rfl, e, c.cls, c.na _ (List.mem_map_of_mem hm), ev, k _ _ S1 rv⟩
 · cases hf
end
end PD
namespace PD
open PySem L2
section
variable (K : PySem.W.Frag) (ns : List Str)
def ItP (J : It) (ds : List D) (L : Addr → Prop) (H1 : Hp) : Prop := ∀ (L2 : Addr → Prop) (i : Nat) (H : Hp), (∀ a o, H1 a = some o → L a → L2 a) → KeepL L2 H1 H →
 (∀ d, ds[i]? = some d → J.go i H ∧ ∀ x H', J.yld i H x H' → Same H H' ∧ Rd K ns (Nw L2 H) H' x d) ∧ (ds.length = i → J.stop i H)
def PuI (wi : TI) (f : AF) : Prop := ∀ (L : Addr → Prop) (env : Env) (σ : St) (H : Hp) (R : It → Hp → Prop) (ds : List D), EnvR K ns L env σ H → f env = some ds → (∀ J H', Same H H' → ItP K ns J ds (Nw L H) H' → R J H') → wi σ H R
end
def itemsD : D → Option (List D)
 | .lst xs => some xs
 | .fz xs => some xs
 | .tup xs => some xs
 | .kt xs => some xs
 | .str z => some (z.cps.toList.map fun c => .str ⟨#[c]⟩)
 | _ => none
def itD (f : VF) : AF := fun env => (f env).bind itemsD
def rng1D : List D → Option (List D)
 | [.int j] => if -1000000 < j ∧ j < 1000000 then some ((List.range j.toNat).map fun (i : Nat) => D.int (0 + (i : Int))) else none
 | _ => none
def iaD (g : List D → Option (List D)) (f : AF) : AF := fun env => (f env).bind g
def enumG (xs : List D) : List D := xs.mapIdx fun i d => .tup [.int i, d]
def enumD : List D → Option (List D)
 | [.lst xs] => some (enumG xs)
 | _ => none
def zipG (xs ys : List D) : List D := List.zipWith (fun a b => D.tup [a, b]) xs ys
def zipL : List D → Option (List D)
 | [.lst xs, .lst ys] => some (zipG xs ys)
 | _ => none
def zipD : List D → Option (List D)
 | [.lst xs, .lst ys] => some (zipG xs ys)
 | [.tup xs, .tup ys] => if xs.length ≤ ys.length then some (zipG xs ys) else none
 | _ => none
def compD (fc : BF) (fe : VF) (caps : Env) : List D → Option (List D)
 | [] => some []
 | x :: xs => (fc (some x :: caps)).bind fun b => if b = true then (fe (some x :: caps)).bind fun y => (compD fc fe caps xs).map (y :: ·) else compD fc fe caps xs
def capsD (cap : List Nat) (env : Env) : Env := cap.map fun i => (env[i]?).join
def compF (fi : AF) (fc : BF) (fe : VF) (cap : List Nat) : VF := fun env => (fi env).bind fun ds => if ds.length < 1000000 then (compD fc fe (capsD cap env) ds).map .lst else none
section
variable {K : PySem.W.Frag} {ns : List Str}
theorem it_list {L : Addr → Prop} {H1 : Hp} {a : Addr} {vs : List V} {ds : List D} (l : L a) (e : H1 a = some (.lst vs)) (r : Rds K ns L H1 vs ds) : ItP K ns (Itl K a) ds L H1 := by
 intro L2 i H hL hk
 have l2 := hL _ _ e l
 have e2 := hk _ _ e fun _ => l2
 have r2 := r.mono2 hL (H' := H) (fun b o eb hb => hk b o eb fun z => hL _ _ eb (hb z))
 refine ⟨fun d hd => ?_, fun hi => ⟨vs, SqL.of e2, by rw [r.len]; omega⟩⟩
 obtain ⟨v, ev, rv⟩ := r2.get hd
 refine ⟨⟨vs, v, SqL.of e2, ev⟩, fun x H' y => ?_⟩
 obtain ⟨rfl, y⟩ := y
 have := y _ (SqL.of e2)
 rw [ev] at this
 cases this
 exact ⟨Same.refl _, rv.nw⟩
theorem it_fz {L : Addr → Prop} {H1 : Hp} {a : Addr} {vs : List V} {ds : List D} (e : FZ K H1 a vs) (r : Rds K ns L H1 vs ds) : ItP K ns (Itl K a) ds L H1 := by
 intro L2 i H hL hk
 have e2 := e.mono hk
 have r2 := r.mono2 hL (H' := H) (fun b o eb hb => hk b o eb fun z => hL _ _ eb (hb z))
 refine ⟨fun d hd => ?_, fun hi => ⟨vs, SqL.fz e2, by rw [r.len]; omega⟩⟩
 obtain ⟨v, ev, rv⟩ := r2.get hd
 refine ⟨⟨vs, v, SqL.fz e2, ev⟩, fun x H' y => ?_⟩
 obtain ⟨rfl, y⟩ := y
 have := y _ (SqL.fz e2)
 rw [ev] at this
 cases this
 exact ⟨Same.refl _, rv.nw⟩
theorem it_tup {L : Addr → Prop} {H1 : Hp} {a : Addr} {vs : List V} {ds : List D} (e : ∀ H, KeepL (fun _ => True) H1 H → SqT K H a vs) (e' : ∀ L2 H, KeepL L2 H1 H → SqT K H a vs) (r : Rds K ns L H1 vs ds) : ItP K ns (Itt K a) ds L H1 := by
 intro L2 i H hL hk
 have e2 := e' L2 H hk
 have r2 := r.mono2 hL (H' := H) (fun b o eb hb => hk b o eb fun z => hL _ _ eb (hb z))
 refine ⟨fun d hd => ?_, fun hi => ⟨vs, e2, by rw [r.len]; omega⟩⟩
 obtain ⟨v, ev, rv⟩ := r2.get hd
 refine ⟨⟨vs, v, e2, ev⟩, fun x H' y => ?_⟩
 obtain ⟨rfl, y⟩ := y
 have := y _ e2
 rw [ev] at this
 cases this
 exact ⟨Same.refl _, rv.nw⟩
theorem it_str {L : Addr → Prop} {H1 : Hp} {z : Str} : ItP K ns (Its z) (z.cps.toList.map fun c => .str ⟨#[c]⟩) L H1 := by
 intro L2 i H hL hk
 refine ⟨fun d hd => ?_, fun hi => by show i = z.cps.size; rw [← hi, List.length_map, Array.length_toList]⟩
 rw [List.getElem?_map] at hd
 obtain ⟨c, hc, rfl⟩ := Option.map_eq_some_iff.mp hd
 have hl := (List.getElem?_eq_some_iff.mp hc).1
 refine ⟨by show i < z.cps.size; simpa using hl, fun x H' y => ?_⟩
 obtain ⟨rfl, c', hc', rfl⟩ := y
 rw [hc] at hc'
 cases hc'
 exact ⟨Same.refl _, .str _⟩
theorem pi_any {t : TE} {f : VF} (h : PuE K ns t f) : PuI K ns (fun σ H R => iList K t σ H R ∨ (iTup K t σ H R ∨ iStr t σ H R)) (itD f) := by
 intro L env σ H R ds he hf k
 obtain ⟨d, ed, hf⟩ := bnd hf
 cases d <;> first | (cases hf; done) | skip
 · refine .inr (.inr (h L env σ H _ _ he ed fun v H1 S1 r => ?_))
   cases hf
   cases r
   exact ⟨_, rfl, k _ _ S1 it_str⟩
 · refine .inr (.inl (h L env σ H _ _ he ed fun v H1 S1 r => ?_))
   cases hf
   cases r with
   | tup e r => exact ⟨_, rfl, ⟨_, SqT.of e⟩, k _ _ S1 (it_tup (fun H hk => SqT.of (hk _ _ e fun z => by cases z)) (fun L2 H hk => SqT.of (hk _ _ e fun z => by cases z)) r)⟩
 · refine .inr (.inl (h L env σ H _ _ he ed fun v H1 S1 r => ?_))
   cases hf
   cases r with
   | kt e r => exact ⟨_, rfl, ⟨_, SqT.kt e⟩, k _ _ S1 (it_tup (fun H hk => SqT.kt e) (fun L2 H hk => SqT.kt e) r)⟩
 · refine .inl (h L env σ H _ _ he ed fun v H1 S1 r => ?_)
   cases hf
   cases r with
   | lst l e r => exact ⟨_, rfl, ⟨_, SqL.of e⟩, k _ _ S1 (it_list l e r)⟩
 · refine .inl (h L env σ H _ _ he ed fun v H1 S1 r => ?_)
   cases hf
   cases r with
   | fz e r => exact ⟨_, rfl, ⟨_, SqL.fz e⟩, k _ _ S1 (it_fz e r)⟩
theorem it_rng {L : Addr → Prop} {H1 : Hp} {lo : Int} {n : Nat} : ItP K ns (Itr lo n) ((List.range n).map fun (k : Nat) => D.int (lo + (k : Int))) L H1 := by
 intro L2 i H hL hk
 refine ⟨fun d hd => ?_, fun hi => by show n ≤ i; rw [← hi]; simp⟩
 rw [List.getElem?_map] at hd
 obtain ⟨c, hc, rfl⟩ := Option.map_eq_some_iff.mp hd
 obtain ⟨hl, hc⟩ := List.getElem?_eq_some_iff.mp hc
 rw [List.getElem_range] at hc
 subst hc
 refine ⟨by show i < n; simpa using hl, fun x H' y => ?_⟩
 obtain ⟨rfl, rfl⟩ := y
 exact ⟨Same.refl _, .int _⟩
theorem pi_rng1 {n : Nat} {t : TA} {f : AF} (h : PuA K ns n t f) : PuI K ns (iRng1 t) (iaD rng1D f) := by
 intro L env σ H R ds he hf k
 obtain ⟨as, ea, hf⟩ := bnd hf
 refine h L env σ H _ as he ea fun vs H1 _ S1 r => ?_
 unfold rng1D at hf
 split at hf
 · obtain ⟨x, rfl, q⟩ := one_of r
   cases q
   split at hf
   · rename_i hb
     cases hf
     exact ⟨_, rfl, by have := hb.1; omega, by have := hb.2; omega, k _ _ S1 it_rng⟩
   · cases hf
 · cases hf
theorem pi_enumD {n : Nat} {t : TA} {f : AF} (h : PuA K ns n t f) : PuI K ns (iEnum K t) (iaD enumD f) := by
 intro L env σ H R ds he hf k
 obtain ⟨as, ea, hf⟩ := bnd hf
 refine h L env σ H _ as he ea fun vs H1 _ S1 r => ?_
 unfold enumD at hf
 split at hf
 · obtain ⟨x, rfl, q⟩ := one_of r
   cases hf
   cases q with
   | @lst p us xs l e r =>
     refine ⟨_, _, rfl, SqL.of e, k _ _ S1 ?_⟩
     intro L2 i H hL hk
     have l2 := hL _ _ e l
     have e2 := hk _ _ e fun _ => l2
     have r2 := r.mono2 hL (H' := H) (fun b o eb hb => hk b o eb fun z => hL _ _ eb (hb z))
     refine ⟨fun d hd => ?_, fun hi => ⟨us, SqL.of e2, by rw [r.len]; unfold enumG at hi; rw [List.length_mapIdx] at hi; omega⟩⟩
     unfold enumG at hd
     rw [List.getElem?_mapIdx] at hd
     obtain ⟨c, hc, rfl⟩ := Option.map_eq_some_iff.mp hd
     obtain ⟨v, ev, rv⟩ := r2.get hc
     refine ⟨⟨us, SqL.of e2, (List.getElem?_eq_some_iff.mp ev).1⟩, fun x H' y => ?_⟩
     obtain ⟨T, a, hT, rfl, rfl, y⟩ := y
     have := y _ (SqL.of e2)
     rw [ev] at this
     cases this
     have N := same_new0 hT (.tup [.int i, v])
     exact ⟨N, .tup upd_same (.cons (.int _) (.cons (rv.nw.same N) .nil))⟩
 · cases hf
theorem pi_zipD {n : Nat} {t : TA} {f : AF} (h : PuA K ns n t f) : PuI K ns (fun σ H R => iZip K t σ H R ∨ iZipT K t σ H R) (iaD zipD f) := by
 intro L env σ H R ds he hf k
 obtain ⟨as, ea, hf⟩ := bnd hf
 unfold zipD at hf
 split at hf
 · rename_i xs ys
   refine .inl (h L env σ H _ _ he ea fun vs H1 _ S1 r => ?_)
   obtain ⟨x, y, rfl, q, q'⟩ := two_of r
   clear r
   cases hf
   cases q with
   | @lst p us _ l e r =>
     cases q' with
     | @lst p' us' _ l' e' r' =>
       refine ⟨_, _, _, _, rfl, SqL.of e, SqL.of e', k _ _ S1 ?_⟩
       intro L2 i H hL hk
       have l2 := hL _ _ e l
       have e2 := hk _ _ e fun _ => l2
       have l2' := hL _ _ e' l'
       have e2' := hk _ _ e' fun _ => l2'
       have kk : KeepL _ H1 H := fun b o eb hb => hk b o eb fun z => hL _ _ eb (hb z)
       have r2 := r.mono2 hL kk
       have r2' := r'.mono2 hL kk
       refine ⟨fun d hd => ?_, fun hi => ⟨us, us', SqL.of e2, SqL.of e2', by unfold zipG at hi; rw [List.length_zipWith] at hi; rw [r.len, r'.len]; omega⟩⟩
       unfold zipG at hd
       rw [List.getElem?_zipWith] at hd
       cases hx : xs[i]? with
       | none => rw [hx] at hd; cases hd
       | some c =>
         cases hy : ys[i]? with
         | none => rw [hx, hy] at hd; cases hd
         | some c' =>
           rw [hx, hy] at hd
           cases hd
           obtain ⟨v, ev, rv⟩ := r2.get hx
           obtain ⟨v', ev', rv'⟩ := r2'.get hy
           refine ⟨⟨us, us', SqL.of e2, SqL.of e2', (List.getElem?_eq_some_iff.mp ev).1, (List.getElem?_eq_some_iff.mp ev').1⟩, fun x H' y => ?_⟩
           obtain ⟨T, a, b, hT, rfl, rfl, y, y'⟩ := y
           have h1 := y _ (SqL.of e2)
           have h2 := y' _ (SqL.of e2')
           rw [ev] at h1
           rw [ev'] at h2
           cases h1
           cases h2
           have N := same_new0 hT (.tup [v, v'])
           exact ⟨N, .tup upd_same (.cons (rv.nw.same N) (.cons (rv'.nw.same N) .nil))⟩
 · rename_i xs ys
   refine .inr (h L env σ H _ _ he ea fun vs H1 _ S1 r => ?_)
   obtain ⟨x, y, rfl, q, q'⟩ := two_of r
   clear r
   split at hf
   case isFalse => cases hf
   rename_i hzl
   cases hf
   cases q with
   | @tup p us _ e r =>
     cases q' with
     | @tup p' us' _ e' r' =>
       refine ⟨_, _, _, _, rfl, SqT.of e, SqT.of e', k _ _ S1 ?_⟩
       intro L2 i H hL hk
       have e2 := hk _ _ e fun z => by cases z
       have e2' := hk _ _ e' fun z => by cases z
       have kk : KeepL _ H1 H := fun b o eb hb => hk b o eb fun z => hL _ _ eb (hb z)
       have r2 := r.mono2 hL kk
       have r2' := r'.mono2 hL kk
       refine ⟨fun d hd => ?_, fun hi => ?_⟩
       · unfold zipG at hd
         rw [List.getElem?_zipWith] at hd
         cases hx : xs[i]? with
         | none => rw [hx] at hd; cases hd
         | some c =>
           cases hy : ys[i]? with
           | none => rw [hx, hy] at hd; cases hd
           | some c' =>
             rw [hx, hy] at hd
             cases hd
             obtain ⟨v, ev, rv⟩ := r2.get hx
             obtain ⟨v', ev', rv'⟩ := r2'.get hy
             refine ⟨⟨us, us', SqT.of e2, SqT.of e2', (List.getElem?_eq_some_iff.mp ev).1, (List.getElem?_eq_some_iff.mp ev').1⟩, fun x H' y => ?_⟩
             obtain ⟨T, a, b, hT, rfl, rfl, y, y'⟩ := y
             have h1 := y _ (SqT.of e2)
             have h2 := y' _ (SqT.of e2')
             rw [ev] at h1
             rw [ev'] at h2
             cases h1
             cases h2
             have N := same_new0 hT (.tup [v, v'])
             exact ⟨N, .tup upd_same (.cons (rv.nw.same N) (.cons (rv'.nw.same N) .nil))⟩
       · exact ⟨us, us', SqT.of e2, SqT.of e2', by unfold zipG at hi; rw [List.length_zipWith] at hi; rw [r.len]; omega⟩
 · cases hf
theorem caps_ok {L : Addr → Prop} {env : Env} {σ : St} {H : Hp} {x : V} {d : D} {cap : List Nat} (he : EnvR K ns L env σ H) (hx : Rd K ns L H x d) : EnvR K ns L (some d :: capsD cap env) (inSt cap (some x) σ) H := by
 intro i d' e
 cases i with
 | zero => cases e; exact ⟨x, rfl, hx⟩
 | succ i =>
   have e' : (capsD cap env)[i]? = some (some d') := e
   unfold capsD at e'
   rw [List.getElem?_map] at e'
   obtain ⟨c, hc, e'⟩ := Option.map_eq_some_iff.mp e'
   cases q : env[c]? with
   | none => rw [q] at e'; cases e'
   | some o =>
     rw [q] at e'
     have e2 : o = some d' := e'
     subst e2
     obtain ⟨v, hv, r⟩ := he c d' q
     refine ⟨v, ?_, r⟩
     show (cap.map fun i => (σ[i]?).join)[i]? = _
     rw [List.getElem?_map, hc]
     show some ((σ[c]?).join) = _
     rw [hv]
     rfl
theorem EnvR.mono2 {L L' : Addr → Prop} {env : Env} {σ : St} {H H' : Hp} (h : EnvR K ns L env σ H) (hL : ∀ a o, H a = some o → L a → L' a) (hk : KeepL L H H') : EnvR K ns L' env σ H' := fun i d e => by
 obtain ⟨v, q, r⟩ := h i d e
 exact ⟨v, q, r.mono2 hL hk⟩
abbrev Lx (L : Addr → Prop) (H : Hp) (acc : Addr) : Addr → Prop := fun a => Nw L H a ∧ a ≠ acc
theorem pu_comp {wi : TI} {tc : TT} {te : TE} {fi : AF} {fc : BF} {fe : VF} {cap : List Nat} (hi : PuI K ns wi fi) (hc : PuT K ns tc fc) (he : PuE K ns te fe) : PuF K ns (tComp wi tc te cap) (compF fi fc fe cap) := by
 intro L env σ H Q d hE hf k
 obtain ⟨ds, ei, hf⟩ := bnd hf
 split at hf
 case isFalse => cases hf
 rename_i hn
 obtain ⟨out, eo, rfl⟩ := Option.map_eq_some_iff.mp hf
 refine hi L env σ H _ ds hE ei fun J H1 S1 it => ?_
 intro acc ha
 have hacc : H acc = none := back S1 ha
 have E1 : EnvR K ns (Lx L H acc) env σ H1 := (hE.mono2 (L' := Lx L H acc) (fun a o e l => ⟨.inl l, ne_of_none e hacc⟩) .refl).same S1
 refine ⟨fun i m H2 => m = ds.length - i ∧ i ≤ ds.length ∧ Same H1 H2 ∧ ∃ ys dn rest, H2 acc = some (.lst ys) ∧ Rds K ns (Lx L H acc) H2 ys dn ∧ ys.length ≤ i ∧ compD fc fe (capsD cap env) (ds.drop i) = some rest ∧ dn ++ rest = out, ⟨_, rfl, Nat.zero_le _, same_new0 ha _, [], [], out, upd_same, .nil, Nat.le_refl _, by rw [List.drop_zero]; exact eo, rfl⟩, ?_⟩
 rintro i m H2 ⟨rfl, hle, S2, ys, dn, rest, ea, rd, hy, ec, ed⟩
 obtain ⟨go, stop⟩ := it (Lx L H acc) i H2 (fun a o e l => ⟨l, ne_of_none e ha⟩) (.of S2)
 by_cases hlt : i < ds.length
 · obtain ⟨g, yl⟩ := go ds[i] (List.getElem?_eq_getElem hlt)
   refine .inr ⟨g, fun x H3 y => ?_⟩
   obtain ⟨S3, rx⟩ := yl x H3 y
   have ea3 := S3 _ _ ea
   have E3 : EnvR K ns (Lx L H acc) (some ds[i] :: capsD cap env) (inSt cap (some x) σ) H3 := caps_ok ((E1.same S2).same S3) (rx.mono2 (fun a o e l => by
    rcases l with l | l
    · exact l
    · exact ⟨.inr (back (S1.trans S2) l), fun z => by rw [z, ea] at l; cases l⟩) .refl)
   rw [List.drop_eq_getElem_cons hlt] at ec
   obtain ⟨b, eb, ec⟩ := bnd ec
   refine hc _ _ _ _ _ b E3 eb fun H4 S4 => ?_
   have ea4 := S4 _ _ ea3
   cases b with
   | false =>
     rw [if_neg Bool.false_ne_true] at ec ⊢
     exact ⟨ds.length - (i + 1), by omega, rfl, hlt, S2.trans (S3.trans S4), ys, dn, rest, ea4, rd.same (S3.trans S4), by omega, ec, ed⟩
   | true =>
     rw [if_pos rfl] at ec ⊢
     obtain ⟨y, ey, ec⟩ := bnd ec
     obtain ⟨rest', er, rfl⟩ := Option.map_eq_some_iff.mp ec
     refine he _ _ _ _ _ y (E3.same S4) ey fun v H5 S5 rv => ?_
     have ea5 := S5 _ _ ea4
     have SS := S3.trans (S4.trans S5)
     have up : ∀ {L3 : Addr → Prop}, ¬ L3 acc → KeepL L3 H5 (upd H5 acc (.lst (ys ++ [v]))) := fun {L3} hl a o e hm => by
      by_cases z : a = acc
      · subst z
        rw [ea5] at e
        cases e
        exact absurd (hm rfl) hl
      · rw [upd_ne z]; exact e
     have rv2 : Rd K ns (Lx L H acc) H5 v y := rv.mono2 (fun a o e l => by
      rcases l with l | l
      · exact l
      · exact ⟨.inr (back (S1.trans (S2.trans (S3.trans S4))) l), fun z => by rw [z, ea4] at l; cases l⟩) .refl
     refine ⟨ys, ea5, Nat.lt_of_le_of_lt hy (Nat.lt_trans hlt (Nat.lt_trans hn (by decide))), ds.length - (i + 1), by omega, rfl, hlt, fun a o e => ?_, ys ++ [v], dn ++ [y], rest', upd_same, ?_, ?_, er, by rw [← ed]; simp⟩
     · rw [upd_ne (ne_of_none e ha)]
       exact SS _ _ (S2 _ _ e)
     · exact ((rd.same SS).append (.cons rv2 .nil)).mono (fun _ q => q) (up fun q => q.2 rfl)
     · rw [List.length_append, List.length_singleton]; omega
 · have hi' : ds.length = i := by omega
   refine .inl ⟨stop hi', ?_⟩
   rw [List.drop_of_length_le (by omega)] at ec
   cases ec
   rw [List.append_nil] at ed
   subst ed
   exact k acc ys dn H2 rfl (S1.trans S2) hacc ea rd
end
end PD
namespace PD
open PySem L2
inductive Fr where
 | no | yes | pr
inductive Out where
 | nx (e : Env) | rt (d : D) | bk (e : Env) | ct (e : Env)
abbrev SF := Env → Option Out
def seqS (F G : SF) : SF := fun env => (F env).bind fun | .nx e => G e | o => some o
def nxS : SF := fun env => some (.nx env)
def retS (f : VF) : SF := fun env => (f env).bind fun d => some (.rt d)
def ifS (c : BF) (F G : SF) : SF := fun env => (c env).bind fun x => if x = true then F env else G env
def maskD (fl : List Bool) (env : Env) : Env := List.zipWith (fun b o => if b = true then none else o) fl env
abbrev mk (fl : List Bool) {α : Type} (f : Env → α) : Env → α := fun env => f (maskD fl env)
def setS (i : Nat) (f : VF) : SF := fun env => (f env).bind fun d => some (.nx (env.set i (some d)))
def ownAt (i : Nat) (env : Env) : Option (List D) := (env[i]?).join.bind fun | .lst xs => some xs | _ => none
def appS (i : Nat) (f : VF) : SF := fun env => (f env).bind fun d => (ownAt i env).bind fun xs => if xs.length < 1000000 then some (.nx (env.set i (some (.lst (xs ++ [d]))))) else none
def appW (i : Nat) (f : VF) : SF := fun env => (f env).bind fun d => if d.flat = true then (ownAt i env).bind fun xs => if xs.length < 1000000 then some (.nx (env.set i (some (.lst (xs ++ [d]))))) else none else none
def revS (i : Nat) : SF := fun env => (ownAt i env).bind fun xs => some (.nx (env.set i (some (.lst xs.reverse))))
abbrev GF := D → Env → Option Env
def nmG (i : Nat) : GF := fun d env => some (env.set i (some d))
def setsG : List Nat → List D → Env → Option Env
 | [], [], env => some env
 | i :: is, d :: ds, env => setsG is ds (env.set i (some d))
 | _, _, _ => none
def tupG (is : List Nat) : GF := fun d env => match d with
 | .tup ds => setsG is ds env
 | .kt ds => setsG is ds env
 | _ => none
def asgS (f : VF) (g : GF) : SF := fun env => (f env).bind fun d => (g d env).bind fun e => some (.nx e)
def forD (g : GF) (b : SF) : List D → SF
 | [], env => some (.nx env)
 | x :: xs, env => (g x env).bind fun e => (b e).bind fun
   | .nx e => forD g b xs e
   | .ct e => forD g b xs e
   | .bk e => some (.nx e)
   | .rt d => some (.rt d)
def forS (fi : AF) (g : GF) (b : SF) : SF := fun env => (fi env).bind fun ds => forD g b ds env
def whN (c : BF) (b : SF) : Nat → SF
 | 0, _ => none
 | n + 1, env => (c env).bind fun x => if x = true then (b env).bind fun
   | .nx e => whN c b n e
   | .ct e => whN c b n e
   | .bk e => some (.nx e)
   | .rt d => some (.rt d)
   else some (.nx env)
def whS (c : BF) (b : SF) : SF := whN c b 1000000
theorem whN_up {c : BF} {b : SF} : ∀ {n m : Nat} {env : Env} {o : Out}, whN c b n env = some o → n ≤ m → whN c b m env = some o
 | 0, _, _, _, h, _ => by cases h
 | n + 1, 0, _, _, _, hm => by omega
 | n + 1, m + 1, env, o, h, hm => by
   rw [whN] at h ⊢
   obtain ⟨x, ex, h⟩ := bnd h
   rw [ex]
   show (if x = true then _ else _) = _
   cases x with
   | false => exact h
   | true =>
     rw [if_pos rfl] at h ⊢
     obtain ⟨r, er, h⟩ := bnd h
     rw [er]
     cases r with
     | nx e => exact whN_up (n := n) (m := m) h (by omega)
     | ct e => exact whN_up (n := n) (m := m) h (by omega)
     | bk e => exact h
     | rt d => exact h
theorem whS_of {c : BF} {b : SF} {n : Nat} {env : Env} {o : Out} (h : whN c b n env = some o) (hn : n ≤ 1000000 := by omega) : whS c b env = some o := whN_up h hn
section
variable (K : PySem.W.Frag) (ns : List Str)
abbrev Lm (L0 : Addr → Prop) (H0 : Hp) (O : List (Option Addr)) : Addr → Prop := fun a => Nw L0 H0 a ∧ some a ∉ O
structure Iv (fl : List Bool) (L0 : Addr → Prop) (H0 : Hp) (O : List (Option Addr)) (env : Env) (σ : St) (H : Hp) : Prop where
 sm : Same H0 H
 fl : O.map Option.isSome = fl
 ln : σ.length = O.length
 le : env.length = O.length
 rd : ∀ (i : Nat) (d : D), env[i]? = some (some d) → O[i]? = some none → ∃ v, σ[i]? = some (some v) ∧ Rd K ns (Lm L0 H0 O) H v d
 ow : ∀ (i : Nat) (p : Addr), O[i]? = some (some p) → H0 p = none ∧ σ[i]? = some (some (.ref p)) ∧ ∃ o d, env[i]? = some (some d) ∧ H p = some o ∧ RdO K ns (Lm L0 H0 O) H o d
 inj : ∀ (i j : Nat) (p : Addr), O[i]? = some (some p) → O[j]? = some (some p) → i = j
structure Step (O : List (Option Addr)) (H : Hp) (O' : List (Option Addr)) (H' : Hp) : Prop where
 ow : ∀ p, some p ∈ O' → some p ∈ O ∨ H p = none
 kp : ∀ a o, H a = some o → some a ∉ O → H' a = some o
 dm : ∀ a, H' a = none → H a = none
def Res (fr : Fr) (L0 : Addr → Prop) (H0 H' : Hp) (v : V) (d : D) : Prop := match fr with
 | .no => Rd K ns (Nw L0 H0) H' v d
 | .yes => ∃ p us ds, v = .ref p ∧ d = .lst ds ∧ H0 p = none ∧ H' p = some (.lst us) ∧ Rds K ns (fun a => Nw L0 H0 a ∧ a ≠ p) H' us ds
 | .pr => ∃ t p us ds v2 d2, v = .ref t ∧ d = .tup [.lst ds, d2] ∧ H' t = some (.tup [.ref p, v2]) ∧ H0 p = none ∧ H' p = some (.lst us) ∧ Rds K ns (fun a => Nw L0 H0 a ∧ a ≠ p) H' us ds ∧ Rd K ns (fun _ => False) H' v2 d2
def Fin (fr : Fr) (lf fl : List Bool) (L0 : Addr → Prop) (H0 : Hp) (O : List (Option Addr)) (H : Hp) (E : Ends) : Option Out → Prop
 | some (.nx e) => ∀ O' σ' H', Step O H O' H' → Iv K ns fl L0 H0 O' e σ' H' → E.nx σ' H'
 | some (.bk e) => ∀ O' σ' H', Step O H O' H' → Iv K ns lf L0 H0 O' e σ' H' → E.bk σ' H'
 | some (.ct e) => ∀ O' σ' H', Step O H O' H' → Iv K ns lf L0 H0 O' e σ' H' → E.ct σ' H'
 | some (.rt d) => ∀ v H', Same H0 H' → Res K ns fr L0 H0 H' v d → E.rt v H'
 | none => False
def PuS (fr : Fr) (lf fl : List Bool) (t : TS) (F : SF) (fl' : List Bool) : Prop := ∀ (L0 : Addr → Prop) (H0 : Hp) (O : List (Option Addr)) (env : Env) (σ : St) (H : Hp) (E : Ends), Iv K ns fl L0 H0 O env σ H → Fin K ns fr lf fl' L0 H0 O H E (F env) → t E σ H
def PuG (fl : List Bool) (g : TG) (G : GF) : Prop := ∀ (L0 : Addr → Prop) (H0 : Hp) (O : List (Option Addr)) (env e : Env) (σ : St) (H : Hp) (x : V) (d : D) (Q : St → Hp → Prop), Iv K ns fl L0 H0 O env σ H → Rd K ns (Lm L0 H0 O) H x d → G d env = some e → (∀ σ', Iv K ns fl L0 H0 O e σ' H → Q σ' H) → g x σ H Q
end
section
variable {K : PySem.W.Frag} {ns : List Str} {fr : Fr} {lf fl fl' fl'' : List Bool} {L0 : Addr → Prop} {H0 H H' H'' : Hp} {O O' O'' : List (Option Addr)} {env : Env} {σ : St}
theorem Step.refl : Step O H O H := ⟨fun _ h => .inl h, fun _ _ e _ => e, fun _ h => h⟩
theorem Step.trans (a : Step O H O' H') (b : Step O' H' O'' H'') : Step O H O'' H'' where
 ow p h := by
  rcases b.ow p h with h | h
  · exact a.ow p h
  · exact .inr (a.dm _ h)
 kp c o e h := b.kp c o (a.kp c o e h) fun q => by
  rcases a.ow c q with q | q
  · exact h q
  · rw [e] at q; cases q
 dm c h := a.dm c (b.dm c h)
theorem Step.same (S : Same H H') : Step O H O H' := ⟨fun _ h => .inl h, fun _ _ e _ => S _ _ e, fun _ h => back S h⟩
theorem Iv.same (I : Iv K ns fl L0 H0 O env σ H) (S : Same H H') : Iv K ns fl L0 H0 O env σ H' where
 sm := I.sm.trans S
 fl := I.fl
 ln := I.ln
 le := I.le
 rd i d e h := by
  obtain ⟨v, q, r⟩ := I.rd i d e h
  exact ⟨v, q, r.same S⟩
 ow i p h := by
  obtain ⟨h0, q, vs, ds, e, hp, r⟩ := I.ow i p h
  exact ⟨h0, q, vs, ds, e, S _ _ hp, r.same S⟩
 inj := I.inj
theorem Iv.own_in (I : Iv K ns fl L0 H0 O env σ H) {p : Addr} (h : some p ∈ O) : ∃ o, H p = some o ∧ isMut o = true := by
 obtain ⟨i, hi, e⟩ := List.getElem_of_mem h
 obtain ⟨_, _, vs, _, _, hp, hr⟩ := I.ow i p (by rw [List.getElem?_eq_getElem hi, e])
 exact ⟨vs, hp, hr.mut⟩
theorem Iv.new_m (I : Iv K ns fl L0 H0 O env σ H) {a : Addr} (h : H a = none) : Lm L0 H0 O a := ⟨.inr (back I.sm h), fun q => by
 obtain ⟨vs, e, _⟩ := I.own_in q
 rw [h] at e
 cases e⟩
theorem Iv.nwm (I : Iv K ns fl L0 H0 O env σ H) {a : Addr} (h : Nw (Lm L0 H0 O) H a) : Lm L0 H0 O a := h.elim id I.new_m
theorem Iv.weak (I : Iv K ns fl L0 H0 O env σ H) : EnvR K ns (Nw L0 H0) env σ H := fun i d e => by
 have hi : i < O.length := by rw [← I.le]; exact (List.getElem?_eq_some_iff.mp e).1
 cases q : O[i]? with
 | none => rw [List.getElem?_eq_getElem hi] at q; cases q
 | some o =>
   cases o with
   | none =>
     obtain ⟨v, hv, r⟩ := I.rd i d e q
     exact ⟨v, hv, r.mono (fun _ z => z.1) .refl⟩
   | some p =>
     obtain ⟨h0, hs, vs, ds, e', hp, r⟩ := I.ow i p q
     rw [e] at e'
     cases e'
     exact ⟨_, hs, (r.mono (fun _ z => z.1) .refl).rd (.inr h0) hp⟩
theorem mask_get {i : Nat} {d : D} (h : (maskD fl env)[i]? = some (some d)) : fl[i]? = some false ∧ env[i]? = some (some d) := by
 unfold maskD at h
 rw [List.getElem?_zipWith] at h
 cases e1 : fl[i]? with
 | none => rw [e1] at h; cases h
 | some b =>
   cases e2 : env[i]? with
   | none => rw [e1, e2] at h; cases h
   | some o =>
     rw [e1, e2] at h
     cases b with
     | true => cases h
     | false => exact ⟨rfl, by cases h; rfl⟩
theorem Iv.flag (I : Iv K ns fl L0 H0 O env σ H) {i : Nat} {b : Bool} (h : fl[i]? = some b) : ∃ o, O[i]? = some o ∧ o.isSome = b := by
 rw [← I.fl, List.getElem?_map] at h
 obtain ⟨o, ho, e⟩ := Option.map_eq_some_iff.mp h
 exact ⟨o, ho, e⟩
theorem Iv.free (I : Iv K ns fl L0 H0 O env σ H) {i : Nat} (h : fl[i]? = some false) : O[i]? = some none := by
 obtain ⟨o, ho, e⟩ := I.flag h
 cases o with
 | none => exact ho
 | some p => cases e
theorem Iv.owned (I : Iv K ns fl L0 H0 O env σ H) {i : Nat} (h : fl[i]? = some true) : ∃ p, O[i]? = some (some p) := by
 obtain ⟨o, ho, e⟩ := I.flag h
 cases o with
 | none => cases e
 | some p => exact ⟨p, ho⟩
theorem Iv.strict (I : Iv K ns fl L0 H0 O env σ H) : EnvR K ns (Lm L0 H0 O) (maskD fl env) σ H := fun i d e => by
 obtain ⟨h1, h2⟩ := mask_get e
 exact I.rd i d h2 (I.free h1)
theorem mem_set_none {i : Nat} {a : Addr} (h : some a ∈ O.set i none) : some a ∈ O := by
 rcases List.mem_or_eq_of_mem_set h with q | q
 · exact q
 · cases q
theorem Iv.store (I : Iv K ns fl L0 H0 O env σ H) {i : Nat} {v : V} {d : D} (r : Rd K ns (Lm L0 H0 O) H v d) : Iv K ns (fl.set i false) L0 H0 (O.set i none) (env.set i (some d)) (σ.set i (some v)) H := by
 have up : ∀ a, Lm L0 H0 O a → Lm L0 H0 (O.set i none) a := fun a h => ⟨h.1, fun q => h.2 (mem_set_none q)⟩
 refine ⟨I.sm, by rw [← I.fl, List.map_set]; rfl, by simp [I.ln], by simp [I.le], fun j d' e h => ?_, fun j p h => ?_, fun j k p h1 h2 => ?_⟩
 · rw [List.getElem?_set] at e
   rw [List.getElem?_set]
   split at e
   · rename_i z
     rw [if_pos z]
     split at e
     · rename_i hl
       cases e
       rw [if_pos (by rw [I.ln, ← I.le]; exact hl)]
       exact ⟨v, rfl, r.mono up .refl⟩
     · cases e
   · rename_i z
     rw [if_neg z]
     rw [List.getElem?_set, if_neg z] at h
     obtain ⟨v', q, r'⟩ := I.rd j d' e h
     exact ⟨v', q, r'.mono up .refl⟩
 · rw [List.getElem?_set] at h
   split at h
   · split at h <;> cases h
   · rename_i z
     obtain ⟨h0, hs, vs, ds, e, hp, r'⟩ := I.ow j p h
     exact ⟨h0, by rw [List.getElem?_set, if_neg z]; exact hs, vs, ds, by rw [List.getElem?_set, if_neg z]; exact e, hp, r'.mono up .refl⟩
 · rw [List.getElem?_set] at h1 h2
   split at h1
   · split at h1 <;> cases h1
   · split at h2
     · split at h2 <;> cases h2
     · exact I.inj j k p h1 h2
theorem Iv.give (I : Iv K ns fl L0 H0 O env σ H) (i : Nat) : Iv K ns (fl.set i false) L0 H0 (O.set i none) env σ H := by
 have up : ∀ a, Lm L0 H0 O a → Lm L0 H0 (O.set i none) a := fun a h => ⟨h.1, fun q => h.2 (mem_set_none q)⟩
 refine ⟨I.sm, by rw [← I.fl, List.map_set]; rfl, by simp [I.ln], by simp [I.le], fun j d' e h => ?_, fun j p h => ?_, fun j k p h1 h2 => ?_⟩
 · have hj : j < O.length := by rw [← I.le]; exact (List.getElem?_eq_some_iff.mp e).1
   cases q : O[j]? with
   | none => rw [List.getElem?_eq_getElem hj] at q; cases q
   | some o =>
     cases o with
     | none =>
       obtain ⟨v', q, r'⟩ := I.rd j d' e q
       exact ⟨v', q, r'.mono up .refl⟩
     | some p =>
       obtain ⟨h0, hs, vs, ds, e', hp, r⟩ := I.ow j p q
       rw [e] at e'
       cases e'
       refine ⟨_, hs, (r.mono up .refl).rd ⟨.inr h0, fun z => ?_⟩ hp⟩
       obtain ⟨k, hk, ek⟩ := List.getElem_of_mem z
       have hk' : (O.set i none)[k]? = some (some p) := by rw [List.getElem?_eq_getElem hk, ek]
       rw [List.getElem?_set] at hk'
       split at hk'
       · split at hk' <;> cases hk'
       · rename_i hik
         have := I.inj j k p q hk'
         subst this
         rw [List.getElem?_set, if_neg hik, q] at h
         cases h
 · rw [List.getElem?_set] at h
   split at h
   · split at h <;> cases h
   · obtain ⟨h0, hs, vs, ds, e, hp, r'⟩ := I.ow j p h
     exact ⟨h0, hs, vs, ds, e, hp, r'.mono up .refl⟩
 · rw [List.getElem?_set] at h1 h2
   split at h1
   · split at h1 <;> cases h1
   · split at h2
     · split at h2 <;> cases h2
     · exact I.inj j k p h1 h2
theorem Step.give (i : Nat) : Step O H (O.set i none) H := ⟨fun _ h => .inl (mem_set_none h), fun _ _ e _ => e, fun _ h => h⟩
theorem Iv.takeO (I : Iv K ns fl L0 H0 O env σ H) {i : Nat} {p : Addr} {vs : HO} {ds : D} (S : Same H H') (hp : H p = none) (e : H' p = some vs) (r : RdO K ns (fun a => Nw (Lm L0 H0 O) H a ∧ a ≠ p) H' vs ds) (hi : i < O.length) :
 Iv K ns (fl.set i true) L0 H0 (O.set i (some p)) (env.set i (some ds)) (σ.set i (some (.ref p))) H' := by
 have up : ∀ a o, H a = some o → Lm L0 H0 O a → Lm L0 H0 (O.set i (some p)) a := fun a o ea h => ⟨h.1, fun q => by
  rcases List.mem_or_eq_of_mem_set q with q | q
  · exact h.2 q
  · cases q
    rw [hp] at ea
    cases ea⟩
 have np : some p ∉ O := fun q => by
  obtain ⟨vs, e, _⟩ := I.own_in q
  rw [hp] at e
  cases e
 refine ⟨I.sm.trans S, by rw [← I.fl, List.map_set]; rfl, by simp [I.ln], by simp [I.le], fun j d' e' h => ?_, fun j p' h => ?_, fun j k p' h1 h2 => ?_⟩
 · by_cases z : i = j
   · subst z
     rw [List.getElem?_set, if_pos rfl, if_pos hi] at h
     cases h
   · rw [List.getElem?_set, if_neg z] at h
     rw [List.getElem?_set, if_neg z] at e' ⊢
     obtain ⟨v', q, r'⟩ := I.rd j d' e' h
     exact ⟨v', q, r'.mono2 up (.of S)⟩
 · by_cases z : i = j
   · subst z
     rw [List.getElem?_set, if_pos rfl, if_pos hi] at h
     cases h
     refine ⟨back I.sm hp, by rw [List.getElem?_set, if_pos rfl, if_pos (by rw [I.ln]; exact hi)], vs, ds, by rw [List.getElem?_set, if_pos rfl, if_pos (by rw [I.le]; exact hi)], e, r.mono (fun a q => ?_) .refl⟩
     have := I.nwm q.1
     refine ⟨this.1, fun z => ?_⟩
     rcases List.mem_or_eq_of_mem_set z with z | z
     · exact this.2 z
     · cases z
       exact q.2 rfl
   · rw [List.getElem?_set, if_neg z] at h
     obtain ⟨h0, hs, us, es, e', hp', r'⟩ := I.ow j p' h
     exact ⟨h0, by rw [List.getElem?_set, if_neg z]; exact hs, us, es, by rw [List.getElem?_set, if_neg z]; exact e', S _ _ hp', r'.mono2 up (.of S)⟩
 · rw [List.getElem?_set] at h1 h2
   by_cases zj : i = j
   · subst zj
     rw [if_pos rfl, if_pos hi] at h1
     cases h1
     by_cases zk : i = k
     · exact zk
     · rw [if_neg zk] at h2
       exact absurd (List.mem_of_getElem? h2) np
   · rw [if_neg zj] at h1
     by_cases zk : i = k
     · subst zk
       rw [if_pos rfl, if_pos hi] at h2
       cases h2
       exact absurd (List.mem_of_getElem? h1) np
     · rw [if_neg zk] at h2
       exact I.inj j k p' h1 h2
theorem Iv.take (I : Iv K ns fl L0 H0 O env σ H) {i : Nat} {p : Addr} {vs : List V} {ds : List D} (S : Same H H') (hp : H p = none) (e : H' p = some (.lst vs)) (r : Rds K ns (fun a => Nw (Lm L0 H0 O) H a ∧ a ≠ p) H' vs ds) (hi : i < O.length) :
 Iv K ns (fl.set i true) L0 H0 (O.set i (some p)) (env.set i (some (.lst ds))) (σ.set i (some (.ref p))) H' := I.takeO (vs := .lst vs) (ds := .lst ds) S hp e r hi
theorem Step.take {i : Nat} {p : Addr} (S : Same H H') (hp : H p = none) : Step O H (O.set i (some p)) H' := ⟨fun q h => by
 rcases List.mem_or_eq_of_mem_set h with h | h
 · exact .inl h
 · cases h
   exact .inr hp, fun _ _ e _ => S _ _ e, fun _ h => back S h⟩
theorem Iv.alterO (I : Iv K ns fl L0 H0 O env σ H) {i : Nat} {p : Addr} {vs : HO} {ds : D} (ho : O[i]? = some (some p)) (r : RdO K ns (Lm L0 H0 O) H vs ds) :
 Iv K ns fl L0 H0 O (env.set i (some ds)) σ (upd H p vs) := by
 obtain ⟨h0, hs, us, es, e, hp, ru⟩ := I.ow i p ho
 have np : ¬ Lm L0 H0 O p := fun q => q.2 (List.mem_of_getElem? ho)
 have kp : KeepL (Lm L0 H0 O) H (upd H p vs) := fun a o ea hm => by
  by_cases z : a = p
  · subst z
    rw [hp] at ea
    cases ea
    exact absurd (hm ru.mut) np
  · rw [upd_ne z]; exact ea
 refine ⟨fun b o eb => ?_, I.fl, I.ln, by simp [I.le], fun j d' e' h => ?_, fun j p' h => ?_, I.inj⟩
 · rw [upd_ne (ne_of_none eb h0)]
   exact I.sm _ _ eb
 · rw [List.getElem?_set] at e'
   split at e'
   · rename_i z
     subst z
     rw [ho] at h
     cases h
   · obtain ⟨v', q, r'⟩ := I.rd j d' e' h
     exact ⟨v', q, r'.mono (fun _ q => q) kp⟩
 · obtain ⟨h0', hs', us', es', e2, hp', r'⟩ := I.ow j p' h
   by_cases z : i = j
   · subst z
     rw [ho] at h
     cases h
     exact ⟨h0, hs, vs, ds, by rw [List.getElem?_set, if_pos rfl, if_pos (List.getElem?_eq_some_iff.mp e).1], upd_same, r.mono (fun _ q => q) kp⟩
   · have pp : p' ≠ p := fun q => by
      subst q
      exact z (I.inj i j p' ho h)
     exact ⟨h0', hs', us', es', by rw [List.getElem?_set, if_neg z]; exact e2, by rw [upd_ne pp]; exact hp', r'.mono (fun _ q => q) kp⟩
theorem Iv.alter (I : Iv K ns fl L0 H0 O env σ H) {i : Nat} {p : Addr} {vs : List V} {ds : List D} (ho : O[i]? = some (some p)) (r : Rds K ns (Lm L0 H0 O) H vs ds) :
 Iv K ns fl L0 H0 O (env.set i (some (.lst ds))) σ (upd H p (.lst vs)) := I.alterO (vs := .lst vs) (ds := .lst ds) ho r
theorem Step.alter {p : Addr} {vs : HO} (h : some p ∈ O) : Step O H O (upd H p vs) := ⟨fun _ q => .inl q, fun a o e hn => by rw [upd_ne fun z => hn (by rw [z]; exact h)]; exact e, fun a q => by
 by_cases z : a = p
 · subst z
   rw [upd_same] at q
   cases q
 · rw [upd_ne z] at q
   exact q⟩
theorem Fin.mono {E E' : Ends} {o : Option Out} (T : Step O H O' H') (h : Fin K ns fr lf fl' L0 H0 O H E o) (hr : E.rt = E'.rt) (hn : E.nx = E'.nx) (hb : E.bk = E'.bk) (hc : E.ct = E'.ct) : Fin K ns fr lf fl' L0 H0 O' H' E' o := by
 cases o with
 | none => exact h
 | some o =>
   cases o with
   | nx e => intro O2 σ2 H2 T2 I2; rw [← hn]; exact h O2 σ2 H2 (T.trans T2) I2
   | rt d => intro v H2 S2 r2; rw [← hr]; exact h v H2 S2 r2
   | bk e => intro O2 σ2 H2 T2 I2; rw [← hb]; exact h O2 σ2 H2 (T.trans T2) I2
   | ct e => intro O2 σ2 H2 T2 I2; rw [← hc]; exact h O2 σ2 H2 (T.trans T2) I2
theorem s_seq {t u : TS} {F G : SF} (a : PuS K ns fr lf fl t F fl') (b : PuS K ns fr lf fl' u G fl'') : PuS K ns fr lf fl (tSeq t u) (seqS F G) fl'' := by
 intro L0 H0 O env σ H E I h
 refine a L0 H0 O env σ H _ I ?_
 unfold seqS at h
 cases e : F env with
 | none => rw [e] at h; exact h
 | some o =>
   rw [e] at h
   cases o with
   | nx e2 => exact fun O' σ' H' T I' => b L0 H0 O' e2 σ' H' E I' (Fin.mono T h rfl rfl rfl rfl)
   | rt d => exact h
   | bk e => exact h
   | ct e => exact h
theorem s_next : PuS K ns fr lf fl tNext nxS fl := fun L0 H0 O env σ H E I h => h O σ H .refl I
def gives : List Nat → List Bool → List Bool
 | [], fl => fl
 | i :: r, fl => gives r (fl.set i false)
theorem Iv.gives : ∀ (is : List Nat) {fl : List Bool} {O : List (Option Addr)}, Iv K ns fl L0 H0 O env σ H → ∃ O', Step O H O' H ∧ Iv K ns (gives is fl) L0 H0 O' env σ H
 | [], _, O, I => ⟨O, .refl, I⟩
 | i :: r, _, O, I => by
   obtain ⟨O', T, I'⟩ := Iv.gives r (I.give i)
   exact ⟨O', (Step.give i).trans T, I'⟩
theorem s_pre (is : List Nat) {t : TS} {F : SF} (a : PuS K ns fr lf (gives is fl) t F fl') : PuS K ns fr lf fl t F fl' := by
 intro L0 H0 O env σ H E I h
 obtain ⟨O2, T2, I2⟩ := I.gives is
 exact a L0 H0 O2 env σ H E I2 (Fin.mono T2 h rfl rfl rfl rfl)
theorem s_ret {t : TE} {f : VF} (h : PuE K ns t f) : PuS K ns .no lf fl (tRet t) (retS f) fl' := by
 intro L0 H0 O env σ H E I k
 unfold retS at k
 cases e : f env with
 | none => rw [e] at k; exact k.elim
 | some d =>
   rw [e] at k
   exact h _ env σ H _ d I.weak e fun v H' S r => k v H' (I.sm.trans S) (r.mono (fun _ q => nw2 I.sm q) .refl)
theorem s_retF {t : TE} {f : VF} (h : PuF K ns t f) : PuS K ns .yes lf fl (tRet t) (retS f) fl' := by
 intro L0 H0 O env σ H E I k
 unfold retS at k
 cases e : f env with
 | none => rw [e] at k; exact k.elim
 | some d =>
   rw [e] at k
   exact h _ env σ H _ d I.weak e fun p vs ds H' ed S hp hl r => k _ H' (I.sm.trans S) ⟨p, vs, ds, rfl, ed, back I.sm hp, hl, r.mono (fun _ q => ⟨nw2 I.sm q.1, q.2⟩) .refl⟩
def retO (i : Nat) : SF := fun env => (ownAt i env).bind fun xs => some (.rt (.lst xs))
theorem s_retO (i : Nat) (hi : fl[i]? = some true) : PuS K ns .yes lf fl (tRet (tVar i)) (retO i) fl' := by
 intro L0 H0 O env σ H E I k
 obtain ⟨p, ho⟩ := I.owned hi
 obtain ⟨h0, hs, o, d, e, hp, r⟩ := I.ow i p ho
 unfold retO ownAt at k
 rw [e] at k
 rcases r.case with ⟨vs, ds, rfl, rfl, r⟩ | ⟨kvs, ds, rfl, rfl, r⟩ | ⟨kvs, ds, rfl, rfl, r⟩
 rotate_left
 · exact k.elim
 · exact k.elim
 exact ⟨_, hs, k _ H I.sm ⟨p, vs, ds, rfl, rfl, h0, hp, r.mono (fun a q => ⟨q.1, fun z => q.2 (z ▸ List.mem_of_getElem? ho)⟩) .refl⟩⟩
theorem s_if {c : TT} {t u : TS} {fc : BF} {F G : SF} (h : PuT K ns c fc) (a : PuS K ns fr lf fl t F fl') (b : PuS K ns fr lf fl u G fl') : PuS K ns fr lf fl (tIfS c t u) (ifS fc F G) fl' := by
 intro L0 H0 O env σ H E I k
 unfold ifS at k
 cases e : fc env with
 | none => rw [e] at k; exact k.elim
 | some x =>
   rw [e] at k
   refine h _ env σ H _ x I.weak e fun H' S => ?_
   cases x with
   | true =>
     rw [if_pos rfl]
     exact a _ _ _ _ _ _ _ (I.same S) (Fin.mono (.same S) k rfl rfl rfl rfl)
   | false =>
     rw [if_neg Bool.false_ne_true]
     exact b _ _ _ _ _ _ _ (I.same S) (Fin.mono (.same S) k rfl rfl rfl rfl)
theorem s_set (i : Nat) {t : TE} {f : VF} (h : PuE K ns t f) : PuS K ns fr lf fl (tAsg t (gName i)) (setS i (mk fl f)) (fl.set i false) := by
 intro L0 H0 O env σ H E I k
 unfold setS mk at k
 cases e : f (maskD fl env) with
 | none => rw [e] at k; exact k.elim
 | some d =>
   rw [e] at k
   refine h _ (maskD fl env) σ H _ d I.strict e fun v H' S r => ?_
   exact k _ _ H' ((Step.same S).trans (.give i)) ((I.same S).store (r.mono (fun _ q => I.nwm q) .refl))
theorem s_new (i : Nat) {t : TE} {f : VF} (h : PuF K ns t f) (hi : i < fl.length) : PuS K ns fr lf fl (tAsg t (gName i)) (setS i (mk fl f)) (fl.set i true) := by
 intro L0 H0 O env σ H E I k
 unfold setS mk at k
 cases e : f (maskD fl env) with
 | none => rw [e] at k; exact k.elim
 | some d =>
   rw [e] at k
   refine h _ (maskD fl env) σ H _ d I.strict e fun p vs ds H' ed S hp hl r => ?_
   subst ed
   exact k _ _ H' (.take S hp) (I.take S hp hl r (by rw [← I.fl, List.length_map] at hi; exact hi))
theorem own_of (I : Iv K ns fl L0 H0 O env σ H) {i : Nat} (hi : fl[i]? = some true) : ownAt i env = none ∨ ∃ p vs ds, O[i]? = some (some p) ∧ σ[i]? = some (some (.ref p)) ∧ ownAt i env = some ds ∧ H p = some (.lst vs) ∧ Rds K ns (Lm L0 H0 O) H vs ds := by
 obtain ⟨p, ho⟩ := I.owned hi
 obtain ⟨h0, hs, o, d, e, hp, r⟩ := I.ow i p ho
 rcases r.case with ⟨vs, ds, rfl, rfl, r⟩ | ⟨kvs, ds, rfl, rfl, r⟩ | ⟨kvs, ds, rfl, rfl, r⟩
 · exact .inr ⟨p, vs, ds, ho, hs, by unfold ownAt; rw [e]; rfl, hp, r⟩
 · exact .inl (by unfold ownAt; rw [e]; rfl)
 · exact .inl (by unfold ownAt; rw [e]; rfl)
theorem Fin.no {E : Ends} {A : Prop} {o : Option Out} (h : Fin K ns fr lf fl L0 H0 O H E o) (e : o = none) : A := by subst e; exact h.elim
theorem bind_no {α β : Type} {o : Option α} : (o.bind fun _ => (none : Option β)) = none := by cases o <;> rfl
theorem s_app (i : Nat) {t : TE} {f : VF} (h : PuE K ns t f) (hi : fl[i]? = some true) : PuS K ns fr lf fl (tDrop (tBM K "list" rAppend (tVar i) (tCons t tNil))) (appS i (mk fl f)) fl := by
 intro L0 H0 O env σ H E I k
 rcases own_of I hi with hn | ⟨p, vs, ds, ho, hs, hd, hp, r⟩
 · exact Fin.no k (by unfold appS; rw [hn]; exact bind_no)
 unfold appS mk at k
 cases e : f (maskD fl env) with
 | none => rw [e] at k; exact k.elim
 | some d =>
   rw [e] at k
   have k' : Fin K ns fr lf fl L0 H0 O H E ((ownAt i env).bind fun xs => if xs.length < 1000000 then some (.nx (env.set i (some (.lst (xs ++ [d]))))) else none) := k
   rw [hd] at k'
   have k2 : Fin K ns fr lf fl L0 H0 O H E (if ds.length < 1000000 then some (.nx (env.set i (some (.lst (ds ++ [d]))))) else none) := k'
   by_cases hl : ds.length < 1000000
   · rw [if_pos hl] at k2
     refine ⟨_, hs, .inl ⟨rfl, _, SqL.of hp⟩, h _ (maskD fl env) σ H _ d I.strict e fun v H' S rv => ⟨p, vs, v, rfl, rfl, S _ _ hp, by rw [r.len]; exact Nat.lt_trans hl (by decide), ?_⟩⟩
     have I' := I.same S
     exact k2 _ _ _ ((Step.same S).trans (.alter (List.mem_of_getElem? ho))) (I'.alter ho ((r.same S).append (.cons (rv.mono (fun _ q => I.nwm q) .refl) .nil)))
   · rw [if_neg hl] at k2
     exact k2.elim
theorem s_appW (i : Nat) {t : TE} {f : VF} (h : PuE K ns t f) (hi : fl[i]? = some true) : PuS K ns fr lf fl (tDrop (tBM K "list" rAppend (tVar i) (tCons t tNil))) (appW i f) fl := by
 intro L0 H0 O env σ H E I k
 rcases own_of I hi with hn | ⟨p, vs, ds, ho, hs, hd, hp, r⟩
 · exact Fin.no k (by unfold appW; rw [hn]; cases f env with | none => rfl | some d => exact ite_self none)
 unfold appW at k
 cases e : f env with
 | none => rw [e] at k; exact k.elim
 | some d =>
   rw [e] at k
   have k' : Fin K ns fr lf fl L0 H0 O H E (if d.flat = true then (ownAt i env).bind fun xs => if xs.length < 1000000 then some (.nx (env.set i (some (.lst (xs ++ [d]))))) else none else none) := k
   by_cases hfl : d.flat = true
   · rw [if_pos hfl, hd] at k'
     have k2 : Fin K ns fr lf fl L0 H0 O H E (if ds.length < 1000000 then some (.nx (env.set i (some (.lst (ds ++ [d]))))) else none) := k'
     by_cases hl : ds.length < 1000000
     · rw [if_pos hl] at k2
       refine ⟨_, hs, .inl ⟨rfl, _, SqL.of hp⟩, h _ env σ H _ d I.weak e fun v H' S rv => ⟨p, vs, v, rfl, rfl, S _ _ hp, by rw [r.len]; exact Nat.lt_trans hl (by decide), ?_⟩⟩
       have I' := I.same S
       exact k2 _ _ _ ((Step.same S).trans (.alter (List.mem_of_getElem? ho))) (I'.alter ho ((r.same S).append (.cons (rv.flat hfl) .nil)))
     · rw [if_neg hl] at k2
       exact k2.elim
   · rw [if_neg hfl] at k'
     exact k'.elim
theorem s_rev (i : Nat) (hi : fl[i]? = some true) : PuS K ns fr lf fl (tDrop (tBM0 K "list" rReverse (tVar i))) (revS i) fl := by
 intro L0 H0 O env σ H E I k
 rcases own_of I hi with hn | ⟨p, vs, ds, ho, hs, hd, hp, r⟩
 · exact Fin.no k (by unfold revS; rw [hn]; rfl)
 unfold revS at k
 rw [hd] at k
 exact ⟨_, hs, .inl ⟨rfl, _, SqL.of hp⟩, p, vs, rfl, rfl, hp, k _ _ _ (.alter (List.mem_of_getElem? ho)) (I.alter ho r.reverse)⟩
theorem set_same {α : Type} : ∀ {l : List α} {i : Nat} {x : α}, l[i]? = some x → l.set i x = l
 | [], _, _, h => by simp at h
 | _ :: _, 0, _, h => by cases h; rfl
 | _ :: l, i + 1, _, h => congrArg _ (set_same (l := l) (i := i) h)
theorem g_name (i : Nat) (hi : fl[i]? = some false) : PuG K ns fl (gName i) (nmG i) := by
 intro L0 H0 O env e σ H x d Q I r hg k
 cases hg
 have ho := I.free hi
 have := I.store (i := i) r
 have e1 : fl.set i false = fl := set_same hi
 have e2 : O.set i none = O := set_same ho
 rw [e1, e2] at this
 exact k _ this
theorem s_asg {t : TE} {f : VF} {g : TG} {G : GF} (h : PuE K ns t f) (hg : PuG K ns fl g G) : PuS K ns fr lf fl (tAsg t g) (asgS (mk fl f) G) fl := by
 intro L0 H0 O env σ H E I k
 unfold asgS mk at k
 cases e : f (maskD fl env) with
 | none => rw [e] at k; exact k.elim
 | some d =>
   rw [e] at k
   have k' : Fin K ns fr lf fl L0 H0 O H E ((G d env).bind fun e => some (.nx e)) := k
   cases e2 : G d env with
   | none => rw [e2] at k'; exact k'.elim
   | some en =>
     rw [e2] at k'
     refine h _ (maskD fl env) σ H _ d I.strict e fun v H' S r => ?_
     exact hg L0 H0 O env en σ H' v d _ (I.same S) (r.mono (fun _ q => I.nwm q) .refl) e2 fun σ' I' => k' _ _ _ (.same S) I'
theorem s_for {wi : TI} {g : TG} {t : TS} {fi : AF} {G : GF} {b : SF} {lf0 : List Bool} (hi : PuI K ns wi fi) (hg : PuG K ns fl g G) (hb : PuS K ns fr fl fl t b fl) : PuS K ns fr lf0 fl (tFor wi g t) (forS (mk fl fi) G b) fl := by
 intro L0 H0 O env σ H E I k
 unfold forS mk at k
 cases e : fi (maskD fl env) with
 | none => rw [e] at k; exact k.elim
 | some ds =>
   rw [e] at k
   have k1 : Fin K ns fr lf0 fl L0 H0 O H E (forD G b ds env) := k
   refine hi _ (maskD fl env) σ H _ ds I.strict e fun J H1 S1 it => ?_
   refine ⟨fun i m σ2 H2 => m = ds.length - i ∧ i ≤ ds.length ∧ ∃ O2 e2, Step O H1 O2 H2 ∧ Iv K ns fl L0 H0 O2 e2 σ2 H2 ∧ Fin K ns fr lf0 fl L0 H0 O2 H2 E (forD G b (ds.drop i) e2), ⟨_, rfl, Nat.zero_le _, O, env, .refl, I.same S1, by rw [List.drop_zero]; exact Fin.mono (.same S1) k1 rfl rfl rfl rfl⟩, ?_⟩
   rintro i m σ2 H2 ⟨rfl, hle, O2, e2, T2, I2, k2⟩
   have lm : ∀ a o, H1 a = some o → Nw (Lm L0 H0 O) H a → Lm L0 H0 O2 a ∧ some a ∉ O := fun a o ea hl => by
    have := I.nwm hl
    refine ⟨⟨this.1, fun q => ?_⟩, this.2⟩
    rcases T2.ow a q with q | q
    · exact this.2 q
    · rw [ea] at q; cases q
   have kp : KeepL (fun a => Lm L0 H0 O2 a ∧ some a ∉ O) H1 H2 := fun a o ea hm => by
    refine T2.kp a o ea fun hq => ?_
    obtain ⟨vs, hv, hmu⟩ := (I.same S1).own_in hq
    rw [ea] at hv
    cases hv
    exact (hm hmu).2 hq
   obtain ⟨go, stop⟩ := it (fun a => Lm L0 H0 O2 a ∧ some a ∉ O) i H2 lm kp
   by_cases hlt : i < ds.length
   · obtain ⟨gg, yl⟩ := go ds[i] (List.getElem?_eq_getElem hlt)
     rw [List.drop_eq_getElem_cons hlt, forD] at k2
     refine .inr ⟨gg, fun σ' H' => ∃ m', m' < ds.length - i ∧ m' = ds.length - (i + 1) ∧ i + 1 ≤ ds.length ∧ ∃ O2 e2, Step O H1 O2 H' ∧ Iv K ns fl L0 H0 O2 e2 σ' H' ∧ Fin K ns fr lf0 fl L0 H0 O2 H' E (forD G b (ds.drop (i + 1)) e2), fun σ' H' h => h, fun x H3 y => ?_⟩
     obtain ⟨S3, rx⟩ := yl x H3 y
     have I3 := I2.same S3
     cases eg : G ds[i] e2 with
     | none => rw [eg] at k2; exact k2.elim
     | some e3 =>
       rw [eg] at k2
       refine hg L0 H0 O2 e2 e3 σ2 H3 x ds[i] _ I3 (rx.mono (fun _ q => q.elim (fun z => z.1) I2.new_m) .refl) eg fun σ3 I4 => ?_
       refine hb L0 H0 O2 e3 σ3 H3 _ I4 ?_
       have T3 : Step O2 H2 O2 H3 := .same S3
       have k3 : Fin K ns fr lf0 fl L0 H0 O2 H2 E ((b e3).bind fun
        | .nx e => forD G b (ds.drop (i + 1)) e
        | .ct e => forD G b (ds.drop (i + 1)) e
        | .bk e => some (.nx e)
        | .rt d => some (.rt d)) := k2
       cases ebd : b e3 with
       | none => rw [ebd] at k3; exact k3.elim
       | some o =>
         rw [ebd] at k3
         cases o with
         | nx e4 => exact fun O5 σ5 H5 T5 I5 => ⟨ds.length - (i + 1), by omega, rfl, hlt, O5, e4, T2.trans (T3.trans T5), I5, Fin.mono (T3.trans T5) k3 rfl rfl rfl rfl⟩
         | ct e4 => exact fun O5 σ5 H5 T5 I5 => ⟨ds.length - (i + 1), by omega, rfl, hlt, O5, e4, T2.trans (T3.trans T5), I5, Fin.mono (T3.trans T5) k3 rfl rfl rfl rfl⟩
         | bk e4 => exact fun O5 σ5 H5 T5 I5 => k3 O5 σ5 H5 (T3.trans T5) I5
         | rt d => exact k3
   · have hi' : ds.length = i := by omega
     refine .inl ⟨stop hi', ?_⟩
     rw [List.drop_of_length_le (by omega)] at k2
     exact k2 O2 σ2 H2 .refl I2
end
end PD
namespace PD
open PySem L2
section
variable {K : PySem.W.Frag} {ns : List Str} {fr : Fr} {lf fl fl' fl'' : List Bool} {L0 : Addr → Prop} {H0 H H' H'' : Hp} {O O' O'' : List (Option Addr)} {env : Env} {σ : St}
def PuGs (K : PySem.W.Frag) (ns : List Str) (fl : List Bool) (g : TGs) (is : List Nat) : Prop := ∀ (L0 : Addr → Prop) (H0 : Hp) (O : List (Option Addr)) (env e : Env) (σ : St) (H : Hp) (xs : List V) (ds : List D) (Q : St → Hp → Prop), Iv K ns fl L0 H0 O env σ H → Rds K ns (Lm L0 H0 O) H xs ds → setsG is ds env = some e → (∀ σ', Iv K ns fl L0 H0 O e σ' H → Q σ' H) → g xs σ H Q
theorem gs_nil : PuGs K ns fl gNil [] := by
 intro L0 H0 O env e σ H xs ds Q I r hg k
 cases r with
 | nil => cases hg; exact ⟨rfl, k _ I⟩
 | cons h t => cases hg
theorem gs_cons {i : Nat} {is : List Nat} {g : TGs} (hi : fl[i]? = some false) (h : PuGs K ns fl g is) : PuGs K ns fl (gCons (gName i) g) (i :: is) := by
 intro L0 H0 O env e σ H xs ds Q I r hg k
 cases r with
 | nil => cases hg
 | cons rv rt =>
   refine ⟨_, _, rfl, ?_⟩
   exact g_name i hi L0 H0 O env _ σ H _ _ _ I rv rfl fun σ' I' => h L0 H0 O _ e σ' H _ _ Q I' rt hg k
theorem setsG_len : ∀ {is : List Nat} {ds : List D} {env e : Env}, setsG is ds env = some e → ds.length = is.length
 | [], [], _, _, _ => rfl
 | _ :: is, _ :: ds, _, _, h => congrArg Nat.succ (setsG_len (is := is) (ds := ds) h)
 | [], _ :: _, _, _, h => by cases h
 | _ :: _, [], _, _, h => by cases h
theorem g_tup {n : Nat} {is : List Nat} {g : TGs} (h : PuGs K ns fl g is) (hn : is.length = n := by rfl) : PuG K ns fl (gTup K n g) (tupG is) := by
 intro L0 H0 O env e σ H x d Q I r hg k
 cases r <;> first | (cases hg; done) | skip
 · rename_i e1 r
   exact ⟨_, _, rfl, SqT.of e1, by rw [r.len, setsG_len hg, hn], h L0 H0 O env e σ H _ _ Q I r hg k⟩
 · rename_i e1 r
   exact ⟨_, _, rfl, SqT.kt e1, by rw [r.len, setsG_len hg, hn], h L0 H0 O env e σ H _ _ Q I r hg k⟩
theorem s_while {c : TT} {t : TS} {fc : BF} {b : SF} {lf0 : List Bool} (hc : PuT K ns c fc) (hb : PuS K ns fr fl fl t b fl) : PuS K ns fr lf0 fl (tWhile c t) (whS fc b) fl := by
 intro L0 H0 O env σ H E I k
 unfold whS at k
 refine ⟨fun m σ2 H2 => ∃ O2 e2, Step O H O2 H2 ∧ Iv K ns fl L0 H0 O2 e2 σ2 H2 ∧ Fin K ns fr lf0 fl L0 H0 O2 H2 E (whN fc b m e2), ⟨1000000, O, env, .refl, I, k⟩, ?_⟩
 rintro m σ2 H2 ⟨O2, e2, T2, I2, k2⟩
 cases m with
 | zero => exact k2.elim
 | succ m =>
   rw [whN] at k2
   cases ec : fc e2 with
   | none => rw [ec] at k2; exact k2.elim
   | some x =>
     rw [ec] at k2
     refine hc _ e2 σ2 H2 _ x I2.weak ec fun H3 S3 => ?_
     cases x with
     | false =>
       rw [if_neg Bool.false_ne_true]
       exact k2 O2 σ2 H3 (.same S3) (I2.same S3)
     | true =>
       rw [if_pos rfl]
       have T3 : Step O2 H2 O2 H3 := .same S3
       refine ⟨fun σ' H' => ∃ m', m' < m + 1 ∧ ∃ O2 e2, Step O H O2 H' ∧ Iv K ns fl L0 H0 O2 e2 σ' H' ∧ Fin K ns fr lf0 fl L0 H0 O2 H' E (whN fc b m' e2), fun σ' H' h => h, ?_⟩
       refine hb L0 H0 O2 e2 σ2 H3 _ (I2.same S3) ?_
       have k3 : Fin K ns fr lf0 fl L0 H0 O2 H2 E ((b e2).bind fun
        | .nx e => whN fc b m e
        | .ct e => whN fc b m e
        | .bk e => some (.nx e)
        | .rt d => some (.rt d)) := k2
       cases ebd : b e2 with
       | none => rw [ebd] at k3; exact k3.elim
       | some o =>
         rw [ebd] at k3
         cases o with
         | nx e4 => exact fun O5 σ5 H5 T5 I5 => ⟨m, by omega, O5, e4, T2.trans (T3.trans T5), I5, Fin.mono (T3.trans T5) k3 rfl rfl rfl rfl⟩
         | ct e4 => exact fun O5 σ5 H5 T5 I5 => ⟨m, by omega, O5, e4, T2.trans (T3.trans T5), I5, Fin.mono (T3.trans T5) k3 rfl rfl rfl rfl⟩
         | bk e4 => exact fun O5 σ5 H5 T5 I5 => k3 O5 σ5 H5 (T3.trans T5) I5
         | rt d => exact k3
end
theorem ex_of {α : Type} (a : α) : ∃ x, x = a := ⟨a, rfl⟩
noncomputable def sealed {α : Type} (a : α) : α := Classical.choose (ex_of a)
theorem seal_eq {α : Type} (a : α) : sealed a = a := Classical.choose_spec (ex_of a)
def startD (n : Nat) (ds : List D) : Env := ds.map some ++ List.replicate (n - ds.length) none
def runD (n : Nat) (b : SF) (ds : List D) : Option D := (b (startD n ds)).bind fun
 | .rt d => some d
 | .nx _ => some .non
 | _ => none
def runF (n : Nat) (b : SF) (ds : List D) : Option D := (b (startD n ds)).bind fun
 | .rt d => some d
 | _ => none
def spP (K : PySem.W.Frag) (ns : List Str) (fr : Fr) (n : Nat) (F : List D → Option D) : Sp := fun vs H Q _ => ∃ (L : Addr → Prop) (ds : List D) (d : D), ds.length = n ∧ Rds K ns L H vs ds ∧ F ds = some d ∧ ∀ v H', Same H H' → Res K ns fr L H H' v d → Q v H'
section
variable {K : PySem.W.Frag} {ns : List Str} {fr : Fr} {fl' : List Bool}
theorem spP_len {n : Nat} {F : List D → Option D} {vs : List V} {H : Hp} {Q : VK} {E : XK} (h : spP K ns fr n F vs H Q E) : vs.length = n := by
 obtain ⟨L, ds, d, hl, r, _⟩ := h
 rw [r.len, hl]
theorem start_iv {L : Addr → Prop} {H : Hp} {vs : List V} {ds : List D} {n : Nat} {N : List Str} (r : Rds K ns L H vs ds) (hN : N.length = n) (hn : ds.length ≤ n) : Iv K ns (List.replicate n false) L H (List.replicate n none) (startD n ds) (start N vs) H := by
 have nm : ∀ a : Addr, some a ∉ List.replicate n (none : Option Addr) := fun a h => by
  have := List.eq_of_mem_replicate h
  cases this
 refine ⟨Same.refl _, by simp, by unfold L2.start; simp [r.len]; omega, by unfold startD; simp; omega, fun i d e _ => ?_, fun i p h => ?_, fun i j p h => ?_⟩
 · unfold startD at e
   have hi : i < ds.length := by
    by_cases hi : i < ds.length
    · exact hi
    · rw [List.getElem?_append_right (by simp; omega)] at e
      have := List.eq_of_mem_replicate (List.mem_of_getElem? e)
      cases this
   rw [List.getElem?_append_left (by simpa using hi), List.getElem?_map] at e
   obtain ⟨d', hd, e⟩ := Option.map_eq_some_iff.mp e
   cases e
   obtain ⟨v, hv, rv⟩ := r.get hd
   refine ⟨v, ?_, rv.mono (fun a q => ⟨.inl q, nm a⟩) .refl⟩
   unfold L2.start
   rw [List.getElem?_append_left (by simp [r.len]; exact hi), List.getElem?_map, hv]
   rfl
 · exact absurd (List.mem_of_getElem? h) (nm p)
 · exact absurd (List.mem_of_getElem? h) (nm p)
theorem run_ok {t : TS} {b : SF} {n m : Nat} {N : List Str} {vs : List V} {H : Hp} {Q : VK} {E : XK} (h : PuS K ns .no [] (List.replicate n false) t b fl') (hN : N.length = n) (hm : m ≤ n) (s : spP K ns .no m (runD n b) vs H Q E) : t { nx := fun _ H' => Q .non H', rt := Q } (start N vs) H := by
 obtain ⟨L, ds, d, hl, r, hf, k⟩ := s
 refine h L H _ _ _ _ _ (start_iv r hN (by omega)) ?_
 unfold runD at hf
 cases e : b (startD n ds) with
 | none => rw [e] at hf; cases hf
 | some o =>
   rw [e] at hf
   cases o with
   | nx e2 => cases hf; exact fun O' σ' H' _ I' => k _ _ I'.sm .non
   | rt d2 => cases hf; exact k
   | bk e2 => cases hf
   | ct e2 => cases hf
theorem run_okF {t : TS} {b : SF} {n m : Nat} {N : List Str} {vs : List V} {H : Hp} {Q : VK} {E : XK} (h : PuS K ns .yes [] (List.replicate n false) t b fl') (hN : N.length = n) (hm : m ≤ n) (s : spP K ns .yes m (runF n b) vs H Q E) : t { nx := fun _ H' => Q .non H', rt := Q } (start N vs) H := by
 obtain ⟨L, ds, d, hl, r, hf, k⟩ := s
 refine h L H _ _ _ _ _ (start_iv r hN (by omega)) ?_
 unfold runF at hf
 cases e : b (startD n ds) with
 | none => rw [e] at hf; cases hf
 | some o =>
   rw [e] at hf
   cases o with
   | rt d2 => cases hf; exact k
   | nx e2 => cases hf
   | bk e2 => cases hf
   | ct e2 => cases hf
theorem pu_fn {n : Nat} {F : List D → Option D} {t : TA} {f : AF} {E : XK} (h : PuA K ns n t f) : PuE K ns (tCall (spP K ns .no n F) [] E t) (callD F f) := by
 intro L env σ H Q d he hf k
 obtain ⟨a, ea, hf⟩ := bnd hf
 refine h L env σ H _ a he ea fun xs H1 hl S1 rx => ⟨Nw L H, a, d, hl, by rw [List.append_nil]; exact rx, hf, fun v H2 S2 r => k v H2 (S1.trans S2) (Rd.mono (fun _ q => nw2 S1 q) .refl (show Rd K ns (Nw (Nw L H) H1) H2 v d from r))⟩
theorem pu_fnF {n : Nat} {F : List D → Option D} {t : TA} {f : AF} {E : XK} (h : PuA K ns n t f) : PuF K ns (tCall (spP K ns .yes n F) [] E t) (callD F f) := by
 intro L env σ H Q d he hf k
 obtain ⟨a, ea, hf⟩ := bnd hf
 refine h L env σ H _ a he ea fun xs H1 hl S1 rx => ⟨Nw L H, a, d, hl, by rw [List.append_nil]; exact rx, hf, fun v H2 S2 r => ?_⟩
 obtain ⟨p, us, ds, rfl, ed, hp, hl2, rr⟩ := (show ∃ p us ds, v = .ref p ∧ d = .lst ds ∧ H1 p = none ∧ H2 p = some (.lst us) ∧ Rds K ns (fun a => Nw (Nw L H) H1 a ∧ a ≠ p) H2 us ds from r)
 exact k p us ds H2 ed (S1.trans S2) (back S1 hp) hl2 (rr.mono (fun _ q => ⟨nw2 S1 q.1, q.2⟩) .refl)
theorem law_sp {F : List D → Option D} {vs : List V} {H : Hp} {Q : VK} {E : XK} {a : Addr} {xs : List Int} (e : vs = [.ref a]) (hs : SqL K H a (xs.map V.int)) (hF : ∀ d, (d = .lst (xs.map D.int) ∨ d = .fz (xs.map D.int)) → F [d] = some (.bl true)) (k : ∀ H', Q (.bl true) H') : spP K ns .no 1 F vs H Q E := by
 have rd : Rds K ns (fun _ => True) H (xs.map V.int) (xs.map D.int) := by
  clear hs hF
  induction xs with
  | nil => exact .nil
  | cons x r ih => exact .cons (.int x) ih
 subst e
 have fin : ∀ v H', Same H H' → Res K ns .no (fun _ => True) H H' v (.bl true) → Q v H' := fun v H' S r => by
  have r' : Rd K ns (Nw (fun _ => True) H) H' v (.bl true) := r
  cases r'
  exact k H'
 rcases hs with (h | h) | h
 · exact ⟨fun _ => True, [.lst (xs.map D.int)], _, rfl, .cons (.lst trivial h rd) .nil, hF _ (.inl rfl), fin⟩
 · exact ⟨fun _ => True, [.fz (xs.map D.int)], _, rfl, .cons (.fz (.inl h) rd) .nil, hF _ (.inr rfl), fin⟩
 · exact ⟨fun _ => True, [.fz (xs.map D.int)], _, rfl, .cons (.fz (.inr h) rd) .nil, hF _ (.inr rfl), fin⟩
end
end PD
namespace PD
open PySem L2
theorem kit_tt {K : PySem.W.Frag} {A B : String} {b : Bool} (hn : (Value.type A == Value.type B) = false := by decide +kernel) (h1 : PySem.W.kitMeta B = true := by decide +kernel) (h2 : ((fastBuiltinMro A).map (·.contains (Value.type B))) = some b := by decide +kernel) : PySem.W.kitOne K (.type A) (.type B) = some b := by
 show (if (Value.type A == Value.type B) = true then some true else if PySem.W.kitMeta B = true then PySem.W.subIn K (.type A) (.type B) else none) = some b
 rw [hn, if_neg Bool.false_ne_true, if_pos h1]
 exact h2
def isLT : List D → Option D
 | [.kt _] => none
 | [.fz _] => none
 | [.ob _ _] => none
 | [.dk _ _] => none
 | [.dt _ _] => none
 | [.lst _] => some (.bl true)
 | [.tup _] => some (.bl true)
 | [_] => some (.bl false)
 | _ => none
section
variable {K : PySem.W.Frag} {ns : List Str}
theorem ty_of {L : Addr → Prop} {H : Hp} {x : V} {d : D} (r : Rd K ns L H x d) (h1 : ∀ xs, d ≠ .kt xs) (h2 : ∀ xs, d ≠ .fz xs) (h3 : ∀ c fs, d ≠ .ob c fs) : TyOf K H x (.type d.ty) := by
 cases r with
 | non => exact .non
 | bl b => exact .bl b
 | int i => exact .int i
 | str x => exact .str x
 | tup e r => exact .tup e
 | kt e r => exact absurd rfl (h1 _)
 | lst l e r => exact .lst e
 | fz e r => exact absurd rfl (h2 _)
 | ob l e k r => exact absurd rfl (h3 _ _)
 | dk l e r => exact .dK e
 | dt l e r => exact .dT e
def okT (T : String) : Bool := T == "int" || T == "bool" || T == "str" || T == "list" || T == "tuple"
theorem kit_int {d : D} (h1 : ∀ xs, d ≠ .kt xs) (h3 : ∀ c fs, d ≠ .ob c fs) : PySem.W.kitOne K (.type d.ty) (.type "int") = some (kits d.ty "int") := by
 cases d <;> first | exact absurd rfl (h1 _) | exact absurd rfl (h3 _ _) | rfl | exact kit_tt
theorem kit_bool {d : D} (h1 : ∀ xs, d ≠ .kt xs) (h3 : ∀ c fs, d ≠ .ob c fs) : PySem.W.kitOne K (.type d.ty) (.type "bool") = some (kits d.ty "bool") := by
 cases d <;> first | exact absurd rfl (h1 _) | exact absurd rfl (h3 _ _) | rfl | exact kit_tt
theorem kit_str {d : D} (h1 : ∀ xs, d ≠ .kt xs) (h3 : ∀ c fs, d ≠ .ob c fs) : PySem.W.kitOne K (.type d.ty) (.type "str") = some (kits d.ty "str") := by
 cases d <;> first | exact absurd rfl (h1 _) | exact absurd rfl (h3 _ _) | rfl | exact kit_tt
theorem kit_list {d : D} (h1 : ∀ xs, d ≠ .kt xs) (h3 : ∀ c fs, d ≠ .ob c fs) : PySem.W.kitOne K (.type d.ty) (.type "list") = some (kits d.ty "list") := by
 cases d <;> first | exact absurd rfl (h1 _) | exact absurd rfl (h3 _ _) | rfl | exact kit_tt
theorem kit_tuple {d : D} (h1 : ∀ xs, d ≠ .kt xs) (h3 : ∀ c fs, d ≠ .ob c fs) : PySem.W.kitOne K (.type d.ty) (.type "tuple") = some (kits d.ty "tuple") := by
 cases d <;> first | exact absurd rfl (h1 _) | exact absurd rfl (h3 _ _) | rfl | exact kit_tt
theorem kit_T {T : String} (h : okT T = true) {d : D} (h1 : ∀ xs, d ≠ .kt xs) (h3 : ∀ c fs, d ≠ .ob c fs) : PySem.W.kitOne K (.type d.ty) (.type T) = some (kits d.ty T) := by
 unfold okT at h
 simp only [Bool.or_eq_true, beq_iff_eq] at h
 rcases h with (((h | h) | h) | h) | h <;> subst h
 · exact kit_int h1 h3
 · exact kit_bool h1 h3
 · exact kit_str h1 h3
 · exact kit_list h1 h3
 · exact kit_tuple h1 h3
theorem not_T {T : String} (h : okT T = true) {C : Addr} {ms fs : List Str} (p : PKd K ns C ms fs) : PySem.W.kitOne K (.ref C) (.type T) = some false := by
 unfold okT at h
 simp only [Bool.or_eq_true, beq_iff_eq] at h
 rcases h with (((h | h) | h) | h) | h <;> subst h <;> exact p.notT _
theorem pu_isT {t : TE} {f : VF} (T : String) (hT : okT T = true) (h : PuE K ns t f) : PuE K ns (tCB (rIsT K) (tCons t (tCons (tC (.ty T)) tNil))) (callD (isT T) (aCons f aNil)) := by
 intro L env σ H Q d he hf k
 obtain ⟨as, eas, hf⟩ := bnd hf
 obtain ⟨a, ea, e2⟩ := bnd eas
 cases e2
 clear eas
 refine h L env σ H _ a he ea fun x H1 S1 r => ?_
 cases r with
 | @ob a dx gs c fs l e kk r =>
   cases hf
   have e0 : kits (D.ob c fs).ty T = false := by
    unfold okT at hT
    simp only [Bool.or_eq_true, beq_iff_eq] at hT
    show kits "object" T = false
    rcases hT with (((h | h) | h) | h) | h <;> subst h <;> decide
   rw [e0] at k
   exact ⟨_, _, _, _, rfl, PKd.ty kk e, not_T hT kk, k _ _ S1 (.bl _)⟩
 | kt e r => cases hf
 | fz e r => cases hf
 | dk l e r => cases hf
 | dt l e r => cases hf
 | non => cases hf; exact ⟨_, _, _, _, rfl, .non, kit_T hT (d := .non) (fun _ z => by cases z) (fun _ _ z => by cases z), k _ _ S1 (.bl _)⟩
 | bl b => cases hf; exact ⟨_, _, _, _, rfl, .bl b, kit_T hT (d := .bl b) (fun _ z => by cases z) (fun _ _ z => by cases z), k _ _ S1 (.bl _)⟩
 | int b => cases hf; exact ⟨_, _, _, _, rfl, .int b, kit_T hT (d := .int b) (fun _ z => by cases z) (fun _ _ z => by cases z), k _ _ S1 (.bl _)⟩
 | str b => cases hf; exact ⟨_, _, _, _, rfl, .str b, kit_T hT (d := .str b) (fun _ z => by cases z) (fun _ _ z => by cases z), k _ _ S1 (.bl _)⟩
 | @tup a vs ds e r => cases hf; exact ⟨_, _, _, _, rfl, .tup e, kit_T hT (d := .tup ds) (fun _ z => by cases z) (fun _ _ z => by cases z), k _ _ S1 (.bl _)⟩
 | @lst a vs ds l e r => cases hf; exact ⟨_, _, _, _, rfl, .lst e, kit_T hT (d := .lst ds) (fun _ z => by cases z) (fun _ _ z => by cases z), k _ _ S1 (.bl _)⟩
theorem kit_lt : PySem.W.kitAny K (.type "list") (["list", "tuple"].map .type) = some true := rfl
theorem kit_tl : PySem.W.kitAny K (.type "tuple") (["list", "tuple"].map .type) = some true := by
 have e : PySem.W.kitOne K (.type "tuple") (.type "list") = some false := kit_tt
 show (match PySem.W.kitOne K (.type "tuple") (.type "list") with | some true => some true | some false => PySem.W.kitAny K (.type "tuple") [.type "tuple"] | none => none) = _
 rw [e]
 rfl
theorem kit_no {A : String} (h1 : PySem.W.kitOne K (.type A) (.type "list") = some false) (h2 : PySem.W.kitOne K (.type A) (.type "tuple") = some false) : PySem.W.kitAny K (.type A) (["list", "tuple"].map .type) = some false := by
 show (match PySem.W.kitOne K (.type A) (.type "list") with | some true => some true | some false => PySem.W.kitAny K (.type A) [.type "tuple"] | none => none) = _
 rw [h1]
 show (match PySem.W.kitOne K (.type A) (.type "tuple") with | some true => some true | some false => PySem.W.kitAny K (.type A) [] | none => none) = _
 rw [h2]
 rfl
theorem pu_isLT {t : TE} {f : VF} (h : PuE K ns t f) : PuE K ns (tCB (rIsA K) (tCons t (tCons (tTup (tCons (tC (.ty "list")) (tCons (tC (.ty "tuple")) tNil))) tNil))) (callD isLT (aCons f aNil)) := by
 intro L env σ H Q d he hf k
 obtain ⟨as, eas, hf⟩ := bnd hf
 obtain ⟨a, ea, e2⟩ := bnd eas
 cases e2
 clear eas
 refine h L env σ H _ a he ea fun x H1 S1 r => ⟨by show 2 ≤ sizeLine; decide, fun p hp => ?_⟩
 have N := same_new0 hp (.tup [.ty "list", .ty "tuple"])
 have r2 := r.same N
 have fin : ∀ {b : Bool}, d = .bl b → PySem.W.kitAny K (.type a.ty) (["list", "tuple"].map .type) = some b → (∀ xs, a ≠ .kt xs) → (∀ xs, a ≠ .fz xs) → (∀ c fs, a ≠ .ob c fs) → rIsA K [x, .ref p] (upd H1 p (.tup [.ty "list", .ty "tuple"])) Q := fun {b} e kk h1 h2 h3 => by
  subst e
  exact ⟨x, p, ["list", "tuple"], _, b, rfl, upd_same, ty_of r2 h1 h2 h3, kk, k _ _ (S1.trans N) (.bl _)⟩
 cases a with
 | non => cases hf; exact fin rfl (kit_no (A := "NoneType") kit_tt kit_tt) (fun _ z => by cases z) (fun _ z => by cases z) (fun _ _ z => by cases z)
 | bl b => cases hf; exact fin rfl (kit_no (A := "bool") kit_tt kit_tt) (fun _ z => by cases z) (fun _ z => by cases z) (fun _ _ z => by cases z)
 | int b => cases hf; exact fin rfl (kit_no (A := "int") kit_tt kit_tt) (fun _ z => by cases z) (fun _ z => by cases z) (fun _ _ z => by cases z)
 | str b => cases hf; exact fin rfl (kit_no (A := "str") kit_tt kit_tt) (fun _ z => by cases z) (fun _ z => by cases z) (fun _ _ z => by cases z)
 | tup b => cases hf; exact fin rfl kit_tl (fun _ z => by cases z) (fun _ z => by cases z) (fun _ _ z => by cases z)
 | lst b => cases hf; exact fin rfl kit_lt (fun _ z => by cases z) (fun _ z => by cases z) (fun _ _ z => by cases z)
 | dk b c => cases hf
 | dt b c => cases hf
 | _ => cases hf
def Cl.un (x : Str) : Option Cl := if x = "Open" then some .Open else if x = "Bridge" then some .Bridge else if x = "Road" then some .Road else if x = "Cart" then some .Cart else if x = "Trip" then some .Trip else if x = "Day" then some .Day else none
theorem Cl.un_s (c : Cl) : Cl.un c.s = some c := by cases c <;> decide
theorem Cl.inj {c d : Cl} (h : c.s = d.s) : c = d := Option.some.inj (by rw [← Cl.un_s c, ← Cl.un_s d, h])
theorem pu_isC {t : TE} {f : VF} (c : Cl) (hm : c.s ∈ ns) (h : PuE K ns t f) : PuE K ns (tCB (rIsC K) (tCons t (tCons (tC (.ref (clA K c.s))) tNil))) (callD (isC c) (aCons f aNil)) := by
 intro L env σ H Q d he hf k
 obtain ⟨as, eas, hf⟩ := bnd hf
 obtain ⟨a, ea, e2⟩ := bnd eas
 cases e2
 clear eas
 refine h L env σ H _ a he ea fun x H1 S1 r => ?_
 cases r with
 | @ob a2 dx gs c' fs l e kk r =>
   cases hf
   refine ⟨_, _, _, _, rfl, PKd.ty kk e, kk.kit _ hm, ?_⟩
   have : ([c'.s].contains c.s) = decide (c' = c) := by
    rw [List.contains_cons, List.contains_nil, Bool.or_false]
    by_cases z : c' = c
    · subst z; simp
    · rw [decide_eq_false z]
      exact beq_eq_false_iff_ne.mpr fun q => z (Cl.inj q.symm)
   rw [this]
   exact k _ _ S1 (.bl _)
 | _ => cases hf
def makeD (c : Cl) (I : List D → Option (List (Fl × D))) (f : AF) : VF := fun env => (f env).bind fun ds => (I ds).map (.ob c)
def initF : List (Fl × VF) → Env → Option (List (Fl × D))
 | [], _ => some []
 | (f, e) :: r, env => (e env).bind fun d => (initF r env).map ((f, d) :: ·)
def initD (l : List (Fl × VF)) (ds : List D) : Option (List (Fl × D)) := initF l (none :: ds.map some)
def spI (K : PySem.W.Frag) (ns : List Str) (c : Cl) (n : Nat) (I : List D → Option (List (Fl × D))) : Sp := fun vs H Q _ => ∃ (x dx : Addr) (us : List V) (L : Addr → Prop) (ds : List D) (fs : List (Fl × D)), vs = .ref x :: us ∧ ds.length = n ∧ H x = some (.ins (clA K c.s) dx []) ∧ ¬ L x ∧ CF K ns c ∧ Rds K ns L H us ds ∧ I ds = some fs ∧
 ∀ H' gs, (∀ b o, b ≠ x → H b = some o → H' b = some o) → H' x = some (.ins (clA K c.s) dx gs) → Rfs K ns (Nw L H) H' gs fs → Q .non H'
theorem pu_make {n : Nat} {I : List D → Option (List (Fl × D))} {t : TA} {f : AF} {E : XK} (c : Cl) (d : CF K ns c) (h : PuA K ns n t f) : PuE K ns (tMake (clA K c.s) (spI K ns c n I) [] E t) (makeD c I f) := by
 intro L env σ H Q r he hf k
 obtain ⟨as, ea, hf⟩ := bnd hf
 obtain ⟨fs, ef, rfl⟩ := Option.map_eq_some_iff.mp hf
 refine h L env σ H _ as he ea fun vs H1 hl S1 rv x dx hx hd hne => ?_
 have up : ∀ b o, H1 b = some o → upd (upd H1 dx (.own x)) x (.ins (clA K c.s) dx []) b = some o := fun b o e => by rw [upd_ne (ne_of_none e hx), upd_ne (ne_of_none e hd)]; exact e
 refine ⟨x, dx, vs, fun a => Nw L H a ∧ a ≠ x, as, fs, by rw [List.append_nil], hl, upd_same, fun q => q.2 rfl, d, rv.mono2 (fun a o e l => ⟨l, ne_of_none e hx⟩) (.of up), ef, fun H' gs kp e' rf => ⟨rfl, ?_⟩⟩
 have up2 : Same H1 H' := fun b o e => kp b o (ne_of_none e hx) (up b o e)
 refine k _ _ (S1.trans up2) (.ob (.inr (back S1 hx)) e' d (rf.mono2 (fun a o e l => ?_) .refl))
 rcases l with l | l
 · exact l.1
 · refine .inr (back S1 ?_)
   cases z : H1 a with
   | none => rfl
   | some o' => rw [up a o' z] at l; cases l
def Fl.un (x : Str) : Option Fl := ([.length, .name, .bears, .wide, .most, .pieces, .rounds, .shuts, .speed, .wheels, .cart, .way, .start, .crossings, .ended, .road, .loads, .sends] : List Fl).find? fun f => decide (f.s = x)
theorem Fl.un_s (f : Fl) : Fl.un f.s = some f := by cases f <;> decide
theorem Fl.inj {c d : Fl} (h : c.s = d.s) : c = d := Option.some.inj (by rw [← Fl.un_s c, ← Fl.un_s d, h])
def PuN (K : PySem.W.Frag) (ns : List Str) (C : Addr) (t : TS) (l : List (Fl × VF)) : Prop := ∀ (L : Addr → Prop) (env : Env) (σ : St) (H : Hp) (E : Ends) (x dx : Addr) (gs : List (Str × V)) (fs fs' : List (Fl × D)), σ[0]? = some (some (.ref x)) → H x = some (.ins C dx gs) → ¬ L x → Cls K C → (∀ f ∈ l, NoAttr K C f.1.s) → gs.length + l.length < 900 → (fs.map Prod.fst ++ l.map Prod.fst).Nodup → EnvR K ns L env σ H → Rfs K ns L H gs fs → initF l env = some fs' →
 (∀ H' gs', (∀ b o, b ≠ x → H b = some o → H' b = some o) → H' x = some (.ins C dx gs') → gs'.length ≤ gs.length + l.length → Rfs K ns (Nw L H) H' gs' (fs ++ fs') → E.nx σ H') → t E σ H
theorem putF_len {f : Str} {v : V} : ∀ {gs : List (Str × V)}, (putF f v gs).length ≤ gs.length + 1
 | [] => Nat.le_refl _
 | (g, x) :: r => by
   unfold putF
   split
   · exact Nat.le_succ _
   · exact Nat.succ_le_succ putF_len
theorem rfs_put {L : Addr → Prop} {H : Hp} {f : Fl} {v : V} {gs : List (Str × V)} {fs : List (Fl × D)} (h : Rfs K ns L H gs fs) : f ∉ fs.map Prod.fst → Rfs K ns L H (putF f.s v gs) fs := by
 induction fs with
 | nil => intro _; exact .nil
 | cons g fs ih =>
   intro hn
   cases h with
   | cons e h t =>
     refine .cons ?_ h (ih t fun q => hn (List.mem_cons_of_mem _ q))
     rw [lookup_putF, if_neg fun z => hn (by rw [Fl.inj z]; exact List.mem_cons_self)]
     exact e
theorem rfs_app {L : Addr → Prop} {H : Hp} {gs : List (Str × V)} {fs es : List (Fl × D)} (h : Rfs K ns L H gs fs) (s : Rfs K ns L H gs es) : Rfs K ns L H gs (fs ++ es) := by
 induction fs with
 | nil => exact s
 | cons g fs ih =>
   cases h with
   | cons e h t => exact .cons e h (ih t)
theorem pn_one {C : Addr} {te : TE} {fe : VF} (f : Fl) (h : PuE K ns te fe) : PuN K ns C (sFld K (tVar 0) te f.s) [(f, fe)] := by
 intro L env σ H E x dx gs fs fs' hs hx hl cl na hlen nd he rf hi k
 obtain ⟨d, ed, hi⟩ := bnd hi
 cases hi
 refine h L env σ H _ d he ed fun v H1 S1 rv => ⟨_, hs, x, C, dx, gs, rfl, S1 _ _ hx, cl, na _ (List.mem_singleton.mpr rfl), by simp only [List.length_singleton] at hlen; omega, ?_⟩
 have np : ¬ Nw L H x := fun q => q.elim hl fun z => by rw [hx] at z; cases z
 have kp : KeepL (Nw L H) H1 (upd H1 x (.ins C dx (putF f.s v gs))) := fun a o e hm => by
  by_cases z : a = x
  · subst z
    rw [S1 _ _ hx] at e
    cases e
    exact absurd (hm rfl) np
  · rw [upd_ne z]; exact e
 have nf : f ∉ fs.map Prod.fst := fun q => by
  have := (List.nodup_append.mp nd).2.2 _ q f (List.mem_singleton.mpr rfl)
  exact this rfl
 refine k _ _ (fun b o hb e => by rw [upd_ne hb]; exact S1 _ _ e) upd_same (by simpa using putF_len) ?_
 refine rfs_app ((rfs_put rf nf).mono (fun _ => .inl) (fun a o e hm => ?_)) (.cons (by rw [lookup_putF, if_pos rfl]) (rv.mono (fun _ q => q) kp) .nil)
 exact kp a o (S1 _ _ e) fun q => .inl (hm q)
theorem pn_seq {C : Addr} {t u : TS} {a : Fl × VF} {r : List (Fl × VF)} (h1 : PuN K ns C t [a]) (h2 : PuN K ns C u r) : PuN K ns C (tSeq t u) (a :: r) := by
 intro L env σ H E x dx gs fs fs' hs hx hl cl na hlen nd he rf hi k
 obtain ⟨f, fe⟩ := a
 obtain ⟨d, ed, hi⟩ := bnd hi
 obtain ⟨rest, er, rfl⟩ := Option.map_eq_some_iff.mp hi
 have nd' : (fs.map Prod.fst ++ [f]).Nodup ∧ ((fs ++ [(f, d)]).map Prod.fst ++ r.map Prod.fst).Nodup := by
  rw [List.map_cons] at nd
  have e : fs.map Prod.fst ++ f :: r.map Prod.fst = (fs.map Prod.fst ++ [f]) ++ r.map Prod.fst := by simp
  rw [e] at nd
  exact ⟨(List.nodup_append.mp nd).1, by simpa using nd⟩
 refine h1 L env σ H _ x dx gs fs [(f, d)] hs hx hl cl (fun g hg => na g (by rw [List.mem_singleton.mp hg]; exact List.mem_cons_self)) (by simp only [List.length_cons] at hlen; simp only [List.length_singleton]; omega) nd'.1 he rf (by show (fe env).bind _ = _; rw [ed]; rfl) fun H1 gs1 kp1 hx1 hl1 rf1 => ?_
 have np : ¬ Nw L H x := fun q => q.elim hl fun z => by rw [hx] at z; cases z
 have hk : KeepL L H H1 := fun a o e hm => by
  by_cases z : a = x
  · subst z
    rw [hx] at e
    cases e
    exact absurd (hm rfl) hl
  · exact kp1 a o z e
 refine h2 (Nw L H) env σ H1 E x dx gs1 (fs ++ [(f, d)]) rest hs hx1 np cl (fun g hg => na g (List.mem_cons_of_mem _ hg)) (by simp only [List.length_cons, List.length_nil] at hlen hl1 ⊢; omega) nd'.2 (fun i d' e => by
  obtain ⟨v, q, rr⟩ := he i d' e
  exact ⟨v, q, rr.mono (fun _ => .inl) hk⟩) rf1 er fun H2 gs2 kp2 hx2 hl2 rf2 => ?_
 refine k H2 gs2 (fun b o hb e => kp2 b o hb (kp1 b o hb e)) hx2 (by simp only [List.length_cons, List.length_nil] at hl1 hl2 ⊢; omega) ?_
 rw [List.append_assoc] at rf2
 refine rf2.mono (fun a q => ?_) .refl
 rcases q with q | q
 · exact q
 · by_cases z : a = x
   · subst z; rw [hx1] at q; cases q
   · refine .inr ?_
     cases w : H a with
     | none => rfl
     | some o => rw [kp1 a o z w] at q; cases q
theorem init_ok {c : Cl} {t : TS} {l : List (Fl × VF)} {n : Nat} {N : List Str} {vs : List V} {H : Hp} {Q : VK} {E : XK} (h : PuN K ns (clA K c.s) t l) (hf : l.map Prod.fst = c.fs) (hN : N.length = n + 1) (s : spI K ns c n (initD l) vs H Q E) : t { nx := fun _ H' => Q .non H', rt := Q } (start N vs) H := by
 obtain ⟨x, dx, us, L, ds, fs, rfl, hl, hx, nl, cf, r, ei, k⟩ := s
 have hlen : l.length < 800 := by
  have := congrArg List.length hf
  rw [List.length_map] at this
  rw [this]
  cases c <;> decide
 have nd : (l.map Prod.fst).Nodup := by rw [hf]; cases c <;> decide
 have st : start N (.ref x :: us) = some (.ref x) :: us.map some := by
  unfold L2.start
  have : N.length - (V.ref x :: us).length = 0 := by rw [List.length_cons, r.len]; omega
  rw [this]
  simp
 rw [st]
 refine h L (none :: ds.map some) _ H _ x dx [] [] fs rfl hx nl cf.cls (fun f hf' => cf.na _ ?_) (by show 0 + l.length < 900; omega) (by simpa using nd) (fun i d e => ?_) .nil ei fun H' gs kp hx' _ rf => k H' gs kp hx' (by simpa using rf)
 · rw [← hf, List.map_map]
   exact List.mem_map.mpr ⟨f, hf', rfl⟩
 · cases i with
   | zero => cases e
   | succ i =>
     have e' : (ds.map some)[i]? = some (some d) := e
     rw [List.getElem?_map] at e'
     obtain ⟨d', hd, e'⟩ := Option.map_eq_some_iff.mp e'
     cases e'
     obtain ⟨v, hv, rv⟩ := r.get hd
     exact ⟨v, by show (us.map some)[i]? = _; rw [List.getElem?_map, hv]; rfl, rv⟩
theorem spI_len {c : Cl} {n : Nat} {I : List D → Option (List (Fl × D))} {vs : List V} {H : Hp} {Q : VK} {E : XK} (h : spI K ns c n I vs H Q E) : vs.length = n + 1 := by
 obtain ⟨x, dx, us, L, ds, fs, rfl, hl, _, _, _, r, _⟩ := h
 rw [List.length_cons, r.len, hl]
def gRow : Nat → Nat → TGs
 | _, 0 => gNil
 | j, n + 1 => gCons (gName j) (gRow (j + 1) n)
theorem gRow_ok {Q : St → Hp → Prop} {H : Hp} {c : St} : ∀ (n : Nat) (pre xs : List V), xs.length = n → Q ((pre ++ xs).map some ++ c) H → gRow pre.length n xs (pre.map some ++ (List.replicate n none ++ c)) H Q
 | 0, pre, [], _, q => ⟨rfl, by simpa using q⟩
 | n + 1, pre, x :: xs, hl, q => by
   refine ⟨x, xs, rfl, ?_⟩
   show gRow (pre.length + 1) n xs ((pre.map some ++ (List.replicate (n + 1) none ++ c)).set pre.length (some x)) H Q
   have e : (pre.map some ++ (List.replicate (n + 1) none ++ c)).set pre.length (some x) = (pre ++ [x]).map some ++ (List.replicate n none ++ c) := by
    rw [List.set_append_right _ _ (by simp)]
    simp [List.replicate_succ]
   rw [e]
   have := gRow_ok (Q := Q) (H := H) (c := c) n (pre ++ [x]) xs (by simpa using hl) (by simpa using q)
   simpa using this
def compTD (kx : Nat) (fc : BF) (fe : VF) (caps : Env) : List D → Option (List D)
 | [] => some []
 | .tup ds :: xs => if ds.length = kx then (fc (ds.map some ++ caps)).bind fun b => if b = true then (fe (ds.map some ++ caps)).bind fun y => (compTD kx fc fe caps xs).map (y :: ·) else compTD kx fc fe caps xs else none
 | _ => none
def compT (kx : Nat) (fi : AF) (fc : BF) (fe : VF) (cap : List Nat) : VF := fun env => (fi env).bind fun ds => if ds.length < 1000000 then (compTD kx fc fe (capsD cap env) ds).map .lst else none
theorem capsT_ok {L : Addr → Prop} {env : Env} {σ : St} {H : Hp} {xs : List V} {ds : List D} {cap : List Nat} (he : EnvR K ns L env σ H) (hx : Rds K ns L H xs ds) : EnvR K ns L (ds.map some ++ capsD cap env) (xs.map some ++ cap.map fun i => (σ[i]?).join) H := by
 intro i d e
 by_cases hi : i < ds.length
 · rw [List.getElem?_append_left (by simpa using hi), List.getElem?_map] at e
   obtain ⟨d', hd, e⟩ := Option.map_eq_some_iff.mp e
   cases e
   obtain ⟨v, hv, rv⟩ := hx.get hd
   exact ⟨v, by rw [List.getElem?_append_left (by rw [List.length_map, hx.len]; exact hi), List.getElem?_map, hv]; rfl, rv⟩
 · rw [List.getElem?_append_right (by simpa using hi), List.length_map] at e
   have q := caps_ok (cap := cap) (x := .non) he .non (i - ds.length + 1) d e
   obtain ⟨v, hv, rv⟩ := q
   refine ⟨v, ?_, rv⟩
   rw [List.getElem?_append_right (by rw [List.length_map, hx.len]; omega), List.length_map, hx.len]
   exact hv
theorem pu_compT {kx : Nat} {wi : TI} {tc : TT} {te : TE} {fi : AF} {fc : BF} {fe : VF} {cap : List Nat} (hi : PuI K ns wi fi) (hc : PuT K ns tc fc) (he : PuE K ns te fe) : PuF K ns (tCompT wi kx (gTup K kx (gRow 0 kx)) tc te cap) (compT kx fi fc fe cap) := by
 intro L env σ H Q d hE hf k
 obtain ⟨ds, ei, hf⟩ := bnd hf
 split at hf
 case isFalse => cases hf
 rename_i hn
 obtain ⟨out, eo, rfl⟩ := Option.map_eq_some_iff.mp hf
 refine hi L env σ H _ ds hE ei fun J H1 S1 it => ?_
 intro acc ha
 have hacc : H acc = none := back S1 ha
 have E1 : EnvR K ns (Lx L H acc) env σ H1 := (hE.mono2 (L' := Lx L H acc) (fun a o e l => ⟨.inl l, ne_of_none e hacc⟩) .refl).same S1
 refine ⟨fun i m H2 => m = ds.length - i ∧ i ≤ ds.length ∧ Same H1 H2 ∧ ∃ ys dn rest, H2 acc = some (.lst ys) ∧ Rds K ns (Lx L H acc) H2 ys dn ∧ ys.length ≤ i ∧ compTD kx fc fe (capsD cap env) (ds.drop i) = some rest ∧ dn ++ rest = out, ⟨_, rfl, Nat.zero_le _, same_new0 ha _, [], [], out, upd_same, .nil, Nat.le_refl _, by rw [List.drop_zero]; exact eo, rfl⟩, ?_⟩
 rintro i m H2 ⟨rfl, hle, S2, ys, dn, rest, ea, rd, hy, ec, ed⟩
 obtain ⟨go, stop⟩ := it (Lx L H acc) i H2 (fun a o e l => ⟨l, ne_of_none e ha⟩) (.of S2)
 by_cases hlt : i < ds.length
 · obtain ⟨g, yl⟩ := go ds[i] (List.getElem?_eq_getElem hlt)
   refine .inr ⟨g, fun x H3 y => ?_⟩
   obtain ⟨S3, rx⟩ := yl x H3 y
   have ea3 := S3 _ _ ea
   have rx2 : Rd K ns (Lx L H acc) H3 x ds[i] := rx.mono2 (fun a o e l => by
    rcases l with l | l
    · exact l
    · exact ⟨.inr (back (S1.trans S2) l), fun z => by rw [z, ea] at l; cases l⟩) .refl
   rw [List.drop_eq_getElem_cons hlt] at ec
   generalize ds[i] = di at rx2 ec
   cases di <;> first | (cases ec; done) | skip
   rename_i es
   rw [compTD] at ec
   split at ec
   case isFalse => cases ec
   rename_i hk
   cases rx2 with
   | tup et rt =>
     rename_i ta vs
     have hvl : vs.length = kx := by rw [rt.len, hk]
     refine ⟨_, vs, rfl, SqT.of et, hvl, ?_⟩
     have base : gRow 0 kx vs (List.replicate kx none ++ cap.map fun i => (σ[i]?).join) H3 = gRow ([] : List V).length kx vs (([] : List V).map some ++ (List.replicate kx none ++ cap.map fun i => (σ[i]?).join)) H3 := rfl
     show gRow 0 kx vs (List.replicate kx none ++ cap.map fun i => (σ[i]?).join) H3 _
     rw [base]
     refine gRow_ok kx [] vs hvl ⟨⟨by simp [inStT, hvl], fun j v hj => ?_⟩, ?_⟩
     · unfold inStT at hj
       by_cases hjk : j < kx
       · rw [List.getElem?_append_left (by simpa using hjk)] at hj
         have := List.eq_of_mem_replicate (List.mem_of_getElem? hj)
         cases this
       · rw [List.getElem?_append_right (by simpa using hjk), List.length_replicate] at hj
         rw [List.nil_append, List.getElem?_append_right (by rw [List.length_map, hvl]; omega), List.length_map, hvl]
         exact hj
     have E3 : EnvR K ns (Lx L H acc) (es.map some ++ capsD cap env) (([] ++ vs).map some ++ cap.map fun i => (σ[i]?).join) H3 := capsT_ok ((E1.same S2).same S3) rt
     obtain ⟨b, eb, ec⟩ := bnd ec
     refine hc _ _ _ _ _ b E3 eb fun H4 S4 => ?_
     have ea4 := S4 _ _ ea3
     cases b with
     | false =>
       rw [if_neg Bool.false_ne_true] at ec ⊢
       exact ⟨ds.length - (i + 1), by omega, rfl, hlt, S2.trans (S3.trans S4), ys, dn, rest, ea4, rd.same (S3.trans S4), by omega, ec, ed⟩
     | true =>
       rw [if_pos rfl] at ec ⊢
       obtain ⟨y, ey, ec⟩ := bnd ec
       obtain ⟨rest', er, rfl⟩ := Option.map_eq_some_iff.mp ec
       refine he _ _ _ _ _ y (E3.same S4) ey fun v H5 S5 rv => ?_
       have ea5 := S5 _ _ ea4
       have SS := S3.trans (S4.trans S5)
       have up : ∀ {L3 : Addr → Prop}, ¬ L3 acc → KeepL L3 H5 (upd H5 acc (.lst (ys ++ [v]))) := fun {L3} hl a o e hm => by
        by_cases z : a = acc
        · subst z
          rw [ea5] at e
          cases e
          exact absurd (hm rfl) hl
        · rw [upd_ne z]; exact e
       have rv2 : Rd K ns (Lx L H acc) H5 v y := rv.mono2 (fun a o e l => by
        rcases l with l | l
        · exact l
        · exact ⟨.inr (back (S1.trans (S2.trans (S3.trans S4))) l), fun z => by rw [z, ea4] at l; cases l⟩) .refl
       refine ⟨ys, ea5, Nat.lt_of_le_of_lt hy (Nat.lt_trans hlt (Nat.lt_trans hn (by decide))), ds.length - (i + 1), by omega, rfl, hlt, fun a o e => ?_, ys ++ [v], dn ++ [y], rest', upd_same, ?_, ?_, er, by rw [← ed]; simp⟩
       · rw [upd_ne (ne_of_none e ha)]
         exact SS _ _ (S2 _ _ e)
       · exact ((rd.same SS).append (.cons rv2 .nil)).mono (fun _ q => q) (up fun q => q.2 rfl)
       · rw [List.length_append, List.length_singleton]; omega
 · have hi' : ds.length = i := by omega
   refine .inl ⟨stop hi', ?_⟩
   rw [List.drop_of_length_le (by omega)] at ec
   cases ec
   rw [List.append_nil] at ed
   subst ed
   exact k acc ys dn H2 rfl (S1.trans S2) hacc ea rd
end
end PD
namespace PD
open PySem L2
section
variable {K : PySem.W.Frag} {ns : List Str}
theorem oS {t : TE} {g : D → D → Option D} {a b : VF} (h : PuE K ns t (oD g a b)) : PuE K ns t (oD (sealed g) a b) := by rw [seal_eq]; exact h
theorem oSF {t : TE} {g : D → D → Option D} {a b : VF} (h : PuF K ns t (oD g a b)) : PuF K ns t (oD (sealed g) a b) := by rw [seal_eq]; exact h
theorem uS {t : TE} {g : D → Option D} {a : VF} (h : PuE K ns t (uD g a)) : PuE K ns t (uD (sealed g) a) := by rw [seal_eq]; exact h
theorem cS {t : TE} {g : List D → Option D} {a : AF} (h : PuE K ns t (callD g a)) : PuE K ns t (callD (sealed g) a) := by rw [seal_eq]; exact h
theorem cSF {t : TE} {g : List D → Option D} {a : AF} (h : PuF K ns t (callD g a)) : PuF K ns t (callD (sealed g) a) := by rw [seal_eq]; exact h
theorem slS {t : TE} {g : D → Option Int → Option Int → Option D} {a : VF} {b c : OF} (h : PuE K ns t (slD g a b c)) : PuE K ns t (slD (sealed g) a b c) := by rw [seal_eq]; exact h
theorem iS {t : TI} {g : List D → Option (List D)} {a : AF} (h : PuI K ns t (iaD g a)) : PuI K ns t (iaD (sealed g) a) := by rw [seal_eq]; exact h
end
end PD
namespace L2
open PySem PySem.Spec PyProof.Rows
section
variable {X : Cx}
theorem pe_goI {P w K mg base k x ps sp n e es t p pos} (g : Got P w K mg base k x ps sp) (e1 : X.prog = P) (e2 : X.w = w) (e3 : X.K = K) (e4 : X.mg = mg) (e5 : X.base = base) (hr : Room n X.A) (hk : k ≤ n) (hg : Gl X x) (ha : PA X (e :: es) t) (hdb : (x == ("__debug__" : Str)) = false := by decide)
 (he : starEach (e :: es) X.env = (false, eval e X.env) :: starEach es X.env := by rfl) (hpl : (backTo pos (starEach es X.env)).any (·.1) = false := by rfl) :
 PE X (.Call (.Name x p) (e :: es) [] pos) (tCall sp [] E0 t) := by
 subst e1 e2 e3 e4 e5
 exact pe_go g hr hk hg ha hdb he hpl
end
end L2
namespace PD
open PySem L2
section
variable {K : PySem.W.Frag} {ns : List Str} {L : Addr → Prop} {H : Hp}
end
end PD
namespace PD
open PySem L2
section
variable {K : PySem.W.Frag} {ns : List Str}
theorem R2P.s {r : R2} {g : D → D → Option D} (h : R2P K ns r g) : R2P K ns r (sealed g) := by rw [seal_eq]; exact h
end
end PD
namespace L2
open PySem PySem.Spec PyProof.Rows
section
variable {prog : Program} {w : World} {A : Around} {R : Result → Shared → Prop} {J : Addr} {fp wr : List Addr} {G : Array GenState → Array GenState → Prop} {n : Nat} {P : Nat → Value → Prop} {St : Nat → Shared → Prop}
end
section
variable {prog : Program} {w : World} {A : Around} {E : Value → Shared → Prop} {s : Shared}
end
section
variable {X : Cx}
end
end L2
namespace L2
open PySem PySem.Spec PyProof.Rows
section
variable {prog : Program} {w : World} {A : Around} {E : Value → Shared → Prop} {s : Shared}
abbrev IsZ (h : Heap) (z ti to_ : Addr) (f0 f1 : Value) : Prop := h.get? z = some { cls := .type "zip", dict := none, data := .fields #[f0, f1, .bool false, .ref ti, .ref to_], slots := #[] }
structure ZM (h : Heap) (z ti to_ j1 j2 l1 l2 : Addr) (i : Nat) (f0 f1 a b : Value) (vs us : Array Value) : Prop where
 z : IsZ h z ti to_ f0 f1
 ti : IsPair h ti (.ref j1) (.ref j2)
 to_ : IsPair h to_ a b
 j1 : h.IsListIter j1 l1 i
 j2 : h.IsTupleIter j2 l2 i
 t1 : h.IsList l1 vs
 t2 : h.IsTuple l2 us
theorem mz_first {z ti to_ j1 j2 t1 t2 : Addr} {i : Nat} {vs us : Array Value} {x y a b : Value} {Q : Value → Shared → Prop} (D : ZipApart z ti to_ j1 j2 t1 t2) (Z : ZM s.heap z ti to_ j1 j2 t1 t2 i .none (.bool false) a b vs us) (ex : vs[i]? = some x) (ey : us[i]? = some y)
 (k : ∀ h', IsZ h' z ti to_ (rawInt s.heap.objs.size) (.bool false) → IsPair h' to_ x y → h'.IsListIter j1 t1 (i + 1) → h'.IsTupleIter j2 t2 (i + 1) → IsPair h' s.heap.objs.size x y →
  (∀ c o, c ≠ z → c ≠ to_ → c ≠ j1 → c ≠ j2 → s.heap.get? c = some o → h'.get? c = some o) → Q (.ref s.heap.objs.size) { s with heap := h' }) :
 wpAny (model prog w) A (Builtin.«zip.__next__» ⟨[.ref z], []⟩) (fun fin s' => ∃ v, fin = .done (.ret v) ∧ Q v s') E s := by
 show wpAny (model prog w) A (field (.ref z) 2 >>= _) _ _ _
 refine wpAny_bind (wpAny_field (x := .bool false) Z.z rfl rfl ?_)
 show wpAny (model prog w) A (field (.ref z) 3 >>= _) _ _ _
 refine wpAny_bind (wpAny_field (x := .ref ti) Z.z rfl rfl (wpAny_bind (wpAny_seqItems Z.ti rfl ?_)))
 show wpAny (model prog w) A (Builtin.SmallTypes.ownedTupleIsFree (.ref z) >>= _) _ _ _
 refine wpAny_bind ?_
 delta Builtin.SmallTypes.ownedTupleIsFree
 refine wpAny_bind (wpAny_field (x := .none) Z.z rfl rfl (wpAny_pure ?_))
 simp only [if_true]
 refine wpAny_bind (wpAny_rule (wpAny_bind (wpAny_field (x := .ref to_) Z.z rfl rfl ?_)))
 refine wpAny_bind (wpAny_setField_rec Z.z (by simp) fun g1 z1 m1 => ?_)
 replace z1 : IsZ g1 z ti to_ .ellipsis (.bool false) := z1
 refine wpAny_bind ?_
 simp only [List.forIn_cons, List.forIn_nil, List.zipIdx_cons, List.zipIdx_nil]
 refine wpAny_bind (wpAny_bind (wpAny_onRaise ?_))
 show wpAny (model prog w) A (Builtin.SmallTypes.nextOf (.ref j1) >>= _) _ _ _
 refine wpAny_bind (wpAny_nextOf_list_item (Z.j1.extBut m1.extBut D.i1z) (Z.t1.extBut m1.extBut D.l1z) ex fun g2 k2 m2 => wpAny_pure ?_)
 have o2 : IsPair g2 to_ a b := m2.extBut _ _ D.TOi1 (m1.extBut _ _ D.TOz Z.to_)
 refine wpAny_bind (wpAny_seqItems o2 rfl (wpAny_bind (wpAny_updateSeq_pair o2 fun g3 o3 m3 => ?_)))
 replace o3 : IsPair g3 to_ x b := o3
 refine wpAny_bind (wpAny_letGo (wpAny_pure (wpAny_bind (wpAny_bind (wpAny_onRaise ?_)))))
 show wpAny (model prog w) A (Builtin.SmallTypes.nextOf (.ref j2) >>= _) _ _ _
 refine wpAny_bind (tdraw_item (((Z.j2.extBut m1.extBut D.i2z).extBut m2.extBut D.i12.symm).extBut m3.extBut D.TOi2.symm) (((Z.t2.extBut m1.extBut D.l2z).extBut m2.extBut D.l2i1).extBut m3.extBut D.l2TO) ey fun g4 k4 m4 => wpAny_pure ?_)
 have o4 : IsPair g4 to_ x b := m4.extBut _ _ D.TOi2 o3
 refine wpAny_bind (wpAny_seqItems o4 rfl (wpAny_bind (wpAny_updateSeq_pair o4 fun g5 o5 m5 => ?_)))
 replace o5 : IsPair g5 to_ x y := o5
 refine wpAny_bind (wpAny_letGo (wpAny_pure (wpAny_pure (wpAny_bind (wpAny_seqItems o5 rfl (wpAny_bind (wpAny_newTuple ?_)))))))
 have sz : g5.objs.size = s.heap.objs.size := by rw [m5.1, m4.1, m3.1, m2.1, m1.1]
 have z5 : IsZ g5 z ti to_ .ellipsis (.bool false) := m5.extBut _ _ D.TOz.symm (m4.extBut _ _ D.i2z.symm (m3.extBut _ _ D.TOz.symm (m2.extBut _ _ D.i1z.symm z1)))
 have kk : ∀ c o, c ≠ z → c ≠ to_ → c ≠ j1 → c ≠ j2 → s.heap.get? c = some o → g5.get? c = some o := fun c o c1 c2 c3 c4 e => m5.extBut _ _ c2 (m4.extBut _ _ c4 (m3.extBut _ _ c2 (m2.extBut _ _ c3 (m1.extBut _ _ c1 e))))
 have a5 : g5.IsListIter j1 t1 (i + 1) := ((k2.extBut m3.extBut D.TOi1.symm).extBut m4.extBut D.i12).extBut m5.extBut D.TOi1.symm
 have b5 : g5.IsTupleIter j2 t2 (i + 1) := k4.extBut m5.extBut D.TOi2.symm
 have lz : z < g5.objs.size := Heap.lt_size z5
 show wpAny (model prog w) A (Builtin.SmallTypes.ownedTupleHandOut (.ref z) (.ref g5.objs.size) >>= _) _ _ _
 refine wpAny_bind ?_
 delta Builtin.SmallTypes.ownedTupleHandOut
 have z6 : IsZ (g5.push { cls := .type "tuple", data := .seq #[x, y] }) z ti to_ .ellipsis (.bool false) := Heap.get?_push_of_some _ z5
 refine wpAny_bind (wpAny_setField_rec z6 (by simp) fun g7 z7 m7 => ?_)
 replace z7 : IsZ g7 z ti to_ (rawInt g5.objs.size) (.bool false) := z7
 refine wpAny_setField_rec z7 (by simp) fun g8 z8 m8 => ?_
 replace z8 : IsZ g8 z ti to_ (rawInt g5.objs.size) (.bool false) := z8
 have up : ∀ c o, c ≠ z → g5.get? c = some o → g8.get? c = some o := fun c o c1 e => m8.extBut _ _ c1 (m7.extBut _ _ c1 (Heap.get?_push_of_some _ e))
 have n8 : IsPair g8 g5.objs.size x y := m8.extBut _ _ (Nat.ne_of_gt lz) (m7.extBut _ _ (Nat.ne_of_gt lz) (Heap.get?_push_size _ rfl))
 rw [sz] at z8 n8
 refine wpAny_pure ⟨_, rfl, ?_⟩
 show Q (.ref g5.objs.size) _
 rw [sz]
 obtain ⟨p1, e1, r1⟩ := a5
 obtain ⟨p2, e2, r2⟩ := b5
 exact k g8 z8 (up _ _ D.TOz o5) ⟨p1, up _ _ D.i1z e1, r1⟩ ⟨p2, up _ _ D.i2z e2, r2⟩ n8 fun c o c1 c2 c3 c4 e => up c o c1 (kk c o c1 c2 c3 c4 e)
theorem mz_next1 {z ti to_ j1 j2 t1 t2 : Addr} {i : Nat} {vs us : Array Value} {x y a b : Value} {Q : Option Value → Shared → Prop} (D : ZipApart z ti to_ j1 j2 t1 t2) (Z : ZM s.heap z ti to_ j1 j2 t1 t2 i .none (.bool false) a b vs us) (ex : vs[i]? = some x) (ey : us[i]? = some y)
 (k : ∀ h', IsZ h' z ti to_ (rawInt s.heap.objs.size) (.bool false) → IsPair h' to_ x y → h'.IsListIter j1 t1 (i + 1) → h'.IsTupleIter j2 t2 (i + 1) → IsPair h' s.heap.objs.size x y →
  (∀ c o, c ≠ z → c ≠ to_ → c ≠ j1 → c ≠ j2 → s.heap.get? c = some o → h'.get? c = some o) → Q (some (.ref s.heap.objs.size)) { s with heap := h' }) : wpAny (model prog w) A (pyNext (.ref z)) Q E s := by
 have ty : s.TypeIs (.ref z) "zip" := ⟨_, Z.z, rfl⟩
 delta pyNext
 exact wpAny_bind (wpAny_attempt (wpAny_callSpecial?_slot (name := "__next__") ty F.slot_zip_next (wpAny_call_entry F.slot_zip_next ty F.entry_zip_next (mz_first D Z ex ey fun h' a1 a2 a3 a4 a5 a6 => wpAny_pure (k h' a1 a2 a3 a4 a5 a6)) (F.args_zip_next_1 _))))
theorem ZM.on {h h' : Heap} {d z ti to_ j1 j2 l1 l2 : Addr} {i : Nat} {f0 f1 a b : Value} {vs us : Array Value} (Z : ZM h z ti to_ j1 j2 l1 l2 i f0 f1 a b vs us) (nd : d ∉ [z, ti, to_, j1, j2, l1, l2]) (k : ∀ c o, c ≠ d → h.get? c = some o → h'.get? c = some o) : ZM h' z ti to_ j1 j2 l1 l2 i f0 f1 a b vs us := by
 simp only [List.mem_cons, List.not_mem_nil, or_false, not_or] at nd
 obtain ⟨dz, dti, dto, dj1, dj2, dl1, dl2⟩ := nd
 obtain ⟨z, ti, t, ⟨p1, x1, r1⟩, ⟨p2, x2, r2⟩, ⟨p3, x3, r3⟩, ⟨p4, x4, r4⟩⟩ := Z
 exact ⟨k _ _ (Ne.symm dz) z, k _ _ (Ne.symm dti) ti, k _ _ (Ne.symm dto) t, ⟨p1, k _ _ (Ne.symm dj1) x1, r1⟩, ⟨p2, k _ _ (Ne.symm dj2) x2, r2⟩, ⟨p3, k _ _ (Ne.symm dl1) x3, r3⟩, ⟨p4, k _ _ (Ne.symm dl2) x4, r4⟩⟩
end
abbrev mz1 (h : Heap) (t1 : Addr) : Heap := h.push { cls := .type "list_iterator", data := .fields #[.ref t1, .int 0 0] }
abbrev mz2 (h : Heap) (t1 t2 : Addr) : Heap := (mz1 h t1).push { cls := .type "tuple_iterator", data := .fields #[.ref t2, .int 0 0] }
abbrev mz3 (h : Heap) (t1 t2 : Addr) : Heap := (mz2 h t1 t2).push { cls := .type "tuple", data := .seq #[.ref h.objs.size, .ref (mz1 h t1).objs.size] }
abbrev mz4 (h : Heap) (t1 t2 : Addr) : Heap := (mz3 h t1 t2).push { cls := .type "tuple", data := .seq #[.none, .none] }
abbrev mz5 (h : Heap) (t1 t2 : Addr) : Heap := (mz4 h t1 t2).push { cls := .type "zip", data := .fields #[.none, .bool false, .bool false, .ref (mz2 h t1 t2).objs.size, .ref (mz3 h t1 t2).objs.size] }
theorem mz_new (t1 t2 : Addr) (vs us : Array Value) : Meets (Builtin.«zip.__new__» ⟨[.type "zip", .ref t1, .ref t2], []⟩) (fun _ R s => s.heap.IsList t1 vs ∧ s.heap.IsTuple t2 us ∧ R (.ok (.ret (.ref (mz4 s.heap t1 t2).objs.size))) { s with heap := mz5 s.heap t1 t2 }) :=
 .of_wp fun prog w A R s h => by
  obtain ⟨hp, g, d, tk, os⟩ := s
  obtain ⟨e1, e2, h⟩ := h
  have sub := sub_zip
  have k1 : Heap.IsList (Shared.heap ⟨hp, g, d, tk, os⟩) t1 vs := e1
  have k2 : Heap.IsTuple (Shared.heap ⟨hp.push { cls := .type "list_iterator", data := .fields #[.ref t1, .int 0 0] }, g, d, tk, os⟩) t2 us := Heap.IsTuple.push e2 _
  wp_walk using wpAny_pyIter_list k1, wpAny_pyIter_tuple k2
  exact ⟨_, rfl, h⟩
section
variable {prog : Program} {w : World} {A : Around} {E : Value → Shared → Prop} {s : Shared}
theorem mz_call {t1 t2 : Addr} {vs us : Array Value} {Q : Value → Shared → Prop} (e1 : s.heap.IsList t1 vs) (e2 : s.heap.IsTuple t2 us)
 (k : ∀ h', ZM h' (s.heap.objs.size + 4) (s.heap.objs.size + 2) (s.heap.objs.size + 3) s.heap.objs.size (s.heap.objs.size + 1) t1 t2 0 .none (.bool false) .none .none vs us → h'.objs.size = s.heap.objs.size + 5 → (∀ c o, s.heap.get? c = some o → h'.get? c = some o) → Q (.ref (s.heap.objs.size + 4)) { s with heap := h' }) :
 wpAny (model prog w) A (call (.type "zip") [.ref t1, .ref t2]) Q E s := by
 refine callType_new F.called_zip (by decide) (F.typeCall_zip_2 _ _) (F.newCall_zip_2 _ _) (fun o => F.args_object_init_3 o _ _) F.entry_zip_new (mz_new t1 t2 vs us) ⟨e1, e2, ?_⟩
 have z1 : (mz1 s.heap t1).objs.size = s.heap.objs.size + 1 := Heap.size_push ..
 have z2 : (mz2 s.heap t1 t2).objs.size = s.heap.objs.size + 2 := by rw [Heap.size_push, z1]
 have z3 : (mz3 s.heap t1 t2).objs.size = s.heap.objs.size + 3 := by rw [Heap.size_push, z2]
 have z4 : (mz4 s.heap t1 t2).objs.size = s.heap.objs.size + 4 := by rw [Heap.size_push, z3]
 have z5 : (mz5 s.heap t1 t2).objs.size = s.heap.objs.size + 5 := by rw [Heap.size_push, z4]
 have up : ∀ c o, s.heap.get? c = some o → (mz5 s.heap t1 t2).get? c = some o := fun c o e => Heap.get?_push_of_some _ (Heap.get?_push_of_some _ (Heap.get?_push_of_some _ (Heap.get?_push_of_some _ (Heap.get?_push_of_some _ e))))
 have g5 : (mz5 s.heap t1 t2).get? (mz4 s.heap t1 t2).objs.size = some _ := Heap.get?_push_size _ rfl
 have g4 : (mz5 s.heap t1 t2).get? (mz3 s.heap t1 t2).objs.size = some _ := Heap.get?_push_of_some _ (Heap.get?_push_size _ rfl)
 have g3 : (mz5 s.heap t1 t2).get? (mz2 s.heap t1 t2).objs.size = some _ := Heap.get?_push_of_some _ (Heap.get?_push_of_some _ (Heap.get?_push_size _ rfl))
 have g2 : (mz5 s.heap t1 t2).get? (mz1 s.heap t1).objs.size = some _ := Heap.get?_push_of_some _ (Heap.get?_push_of_some _ (Heap.get?_push_of_some _ (Heap.get?_push_size _ rfl)))
 have g1 : (mz5 s.heap t1 t2).get? s.heap.objs.size = some _ := Heap.get?_push_of_some _ (Heap.get?_push_of_some _ (Heap.get?_push_of_some _ (Heap.get?_push_of_some _ (Heap.get?_push_size _ rfl))))
 show _ ∧ _
 rw [z4, z3, z2] at g5
 rw [z3] at g4
 rw [z2, z1] at g3
 rw [z1] at g2
 obtain ⟨p1, x1, r1⟩ := e1
 obtain ⟨p2, x2, r2⟩ := e2
 rw [z4]
 exact ⟨⟨_, g5, rfl⟩, k (mz5 s.heap t1 t2) ⟨g5, g3, g4, ⟨_, g1, rfl, rfl⟩, ⟨_, g2, rfl, rfl⟩, ⟨p1, up _ _ x1, r1⟩, ⟨p2, up _ _ x2, r2⟩⟩ z5 up⟩
end
end L2
namespace L2
open PySem PySem.Spec PyProof.Rows
end L2
namespace L2
open PySem PySem.Spec PyProof.Rows
section
variable {X : Cx} {K : PySem.W.Frag}
def sNever : TS := fun _ _ _ => False
theorem ps_nvr {st : Stmt} : PS X st sNever := fun _ _ _ _ _ _ h => h.elim
end
section
variable {prog : Program} {w : World} {A : Around} {E : Value → Shared → Prop} {s : Shared}
end
section
variable {X : Cx}
end
end L2
namespace L2
open PySem PySem.Spec PyProof.Rows
open Builtin Builtin.Str
section
variable {prog : Program} {w : World} {A : Around} {E : Value → Shared → Prop} {s : Shared}
theorem sp_call {x y : Str} {t u : Tok} {Q : Value → Shared → Prop} (hy : (y.length == 0) = false) (h1 : x.length ≤ sizeLine) (h2 : (partsBetween x (occurrences x y 0 x.length (x.length + 1)) y.length).length ≤ sizeLine)
 (q : ∀ (l : List (Str × Tok)) (tk : Nat), l.map (·.1) = Txt.split x y → Q (.ref s.heap.objs.size) { s with toks := tk, heap := s.heap.push { cls := .type "list", data := .seq (strValues l).toArray } }) :
 wpAny (model prog w) A (call (.builtin "str.split") [.str x t, .str y u]) Q E s := by
 cases c1 : (decide (x.length < y.length) || decide (strKind x < strKind y)) with
 | true => exact call_meets F.slot_str_split (typeIs_str _ _ _) F.entry_str_split (F.args_str_split_2 _ _) (meets_str_split_cannot_occur x y t u c1) (q [(x, t)] s.toks (if_pos c1).symm)
 | false =>
   cases c2 : (occurrences x y 0 x.length (x.length + 1)).isEmpty with
   | true => exact call_meets F.slot_str_split (typeIs_str _ _ _) F.entry_str_split (F.args_str_split_2 _ _) (meets_str_split_not_found x y t u c1 hy c2) (q [(x, t)] s.toks ((if_neg (ne_true_of_eq_false c1)).trans (if_pos c2)).symm)
   | false =>
     refine call_meets F.slot_str_split (typeIs_str _ _ _) F.entry_str_split (F.args_str_split_2 _ _) (meets_str_split_sep x y t u c1 hy c2 h1 h2) ?_
     show wants Q E _ { s with toks := _, heap := s.heap.push { cls := .type "list", data := .seq (strsFrom s.toks (partsBetween x (occurrences x y 0 x.length (x.length + 1)) y.length)).toArray } }
     rw [strsFrom_eq]
     exact q (numbered s.toks _) _ ((numbered_texts _ _).trans ((if_neg (ne_true_of_eq_false c1)).trans (if_neg (ne_true_of_eq_false c2))).symm)
end
theorem parts_len (x y : Str) : (partsBetween x (occurrences x y 0 x.length (x.length + 1)) y.length).length ≤ x.length + 2 := by
 have h := StrLaws.occ_length_le x y 0 x.length (x.length + 1)
 unfold partsBetween
 rw [List.length_map, List.length_zip, List.length_cons, List.length_map, List.length_append, List.length_singleton, Nat.min_self]
 omega
theorem split_len (x : Str) (c : Nat) : (Txt.split x ⟨#[c]⟩).length ≤ x.length + 2 := by
 unfold Txt.split
 split
 · rw [List.length_singleton]; omega
 · split
   · rw [List.length_singleton]; omega
   · exact parts_len x ⟨#[c]⟩
theorem vals_strs : ∀ l : List (Str × Tok), Vals ((l.map (·.1)).map V.str) (strValues l)
 | [] => .nil
 | (x, t) :: l => .cons ⟨t, rfl⟩ (vals_strs l)
def rSplit : V → List V → Hp → VK → Prop := fun x vs H Q => ∃ (a : Str) (c : Nat), x = .str a ∧ vs = [.str ⟨#[c]⟩] ∧ a.length ≤ 1000000 ∧ ∀ l, H l = none → Q (.ref l) (upd H l (.lst ((Txt.split a ⟨#[c]⟩).map V.str)))
section
variable {X : Cx}
theorem mt_split : MtR X "str.split" rSplit := by
 intro pins s σ H x vs v us Q I rx rv h
 obtain ⟨a, c, rfl, rfl, hz, q⟩ := h
 obtain ⟨t, rfl⟩ := rx
 obtain ⟨u, rfl, t', rfl⟩ := rv.one
 have z1 : (1000002 : Nat) ≤ sizeLine := by decide
 have hp := parts_len a ⟨#[c]⟩
 have hs := split_len a c
 refine sp_call rfl (by omega) (by omega) fun l tk hl => ?_
 refine ⟨.ref s.heap.objs.size, _, I.laid (t' := tk) (fun b o e => Heap.get?_push_of_some _ e) (Nat.le_refl _) (show ObjOk X.prog X.w _ _ _ (.lst ((Txt.split a ⟨#[c]⟩).map V.str)) from ⟨by rw [List.length_map]; omega, strValues l, 0, by rw [← hl]; exact vals_strs l, Heap.get?_push_size _ rfl⟩), rfl, q _ (I.hok.fresh (Nat.le_refl _))⟩
theorem call_str_str : CallR X (.type "str") (fun xs H Q => ∃ z, xs = [.str z] ∧ Q (.str z) H) := by
 intro pins s σ H xs us Q I r h
 obtain ⟨z, rfl, q⟩ := h
 obtain ⟨u, rfl, t, rfl⟩ := r.one
 exact PySem.P.str_of_str ⟨.str z, H, I, ⟨_, rfl⟩, q⟩
def rStrX : List V → Hp → VK → Prop := fun xs H Q => (∃ i, xs = [.int i] ∧ i.natAbs.log2 < 1920 ∧ Q (.str (toString i)) H) ∨ ∃ z, xs = [.str z] ∧ Q (.str z) H
theorem call_strX : CallR X (.type "str") rStrX := call_str_int.or call_str_str
end
end L2
namespace L2
open PySem PySem.Spec PyProof.Rows
section
variable {prog : Program} {w : World} {A : Around} {E : Value → Shared → Prop} {s : Shared}
theorem mz_end1 {z ti to_ j1 j2 t1 t2 : Addr} {i : Nat} {vs us : Array Value} {a b : Value} {Q : Fin → Shared → Prop} (hA : A.handled = none) (D : ZipApart z ti to_ j1 j2 t1 t2) (Z : ZM s.heap z ti to_ j1 j2 t1 t2 i .none (.bool false) a b vs us) (en : vs[i]? = none)
 (k : ∀ h' e, (∀ c o, c ≠ z → c ≠ to_ → c ≠ j1 → c ≠ j2 → s.heap.get? c = some o → h'.get? c = some o) → (∃ o, h'.get? e = some o ∧ o.cls = .type "StopIteration") → E (.ref e) { s with heap := h' }) :
 wpAny (model prog w) A (Builtin.«zip.__next__» ⟨[.ref z], []⟩) Q E s := by
 show wpAny (model prog w) A (field (.ref z) 2 >>= _) _ _ _
 refine wpAny_bind (wpAny_field (x := .bool false) Z.z rfl rfl ?_)
 show wpAny (model prog w) A (field (.ref z) 3 >>= _) _ _ _
 refine wpAny_bind (wpAny_field (x := .ref ti) Z.z rfl rfl (wpAny_bind (wpAny_seqItems Z.ti rfl ?_)))
 show wpAny (model prog w) A (Builtin.SmallTypes.ownedTupleIsFree (.ref z) >>= _) _ _ _
 refine wpAny_bind ?_
 delta Builtin.SmallTypes.ownedTupleIsFree
 refine wpAny_bind (wpAny_field (x := .none) Z.z rfl rfl (wpAny_pure ?_))
 simp only [if_true]
 refine wpAny_bind (wpAny_rule (wpAny_bind (wpAny_field (x := .ref to_) Z.z rfl rfl ?_)))
 refine wpAny_bind (wpAny_setField_rec Z.z (by simp) fun g1 z1 m1 => ?_)
 replace z1 : IsZ g1 z ti to_ .ellipsis (.bool false) := z1
 refine wpAny_bind ?_
 simp only [List.forIn_cons, List.forIn_nil, List.zipIdx_cons, List.zipIdx_nil]
 refine wpAny_bind (wpAny_bind (wpAny_onRaise ?_))
 show wpAny (model prog w) A (Builtin.SmallTypes.nextOf (.ref j1) >>= _) _ _ _
 refine wpAny_bind (wpAny_nextOf_list_end hA (Z.j1.extBut m1.extBut D.i1z) (Z.t1.extBut m1.extBut D.l1z) en fun g2 e m2 he => ?_)
 obtain ⟨oe, ee, ce⟩ := he
 have z2 : IsZ g2 z ti to_ .ellipsis (.bool false) := m2 _ _ D.i1z.symm z1
 have ne : e ≠ z := fun q => by subst q; rw [z2] at ee; cases ee; simp at ce
 exact wpAny_setField_rec z2 (by simp) fun g3 _ m3 => k g3 e (fun c o c1 _ c3 _ q => m3.extBut _ _ c1 (m2 _ _ c3 (m1.extBut _ _ c1 q))) ⟨oe, m3.extBut _ _ ne ee, ce⟩
theorem mz_stop1 {z ti to_ j1 j2 t1 t2 : Addr} {i : Nat} {vs us : Array Value} {a b : Value} {Q : Option Value → Shared → Prop} (hA : A.handled = none) (D : ZipApart z ti to_ j1 j2 t1 t2) (Z : ZM s.heap z ti to_ j1 j2 t1 t2 i .none (.bool false) a b vs us) (en : vs[i]? = none)
 (k : ∀ h', (∀ c o, c ≠ z → c ≠ to_ → c ≠ j1 → c ≠ j2 → s.heap.get? c = some o → h'.get? c = some o) → Q none { s with heap := h' }) : wpAny (model prog w) A (pyNext (.ref z)) Q E s := by
 have ty : s.TypeIs (.ref z) "zip" := ⟨_, Z.z, rfl⟩
 delta pyNext
 refine wpAny_bind (wpAny_attempt (wpAny_callSpecial?_slot (name := "__next__") ty F.slot_zip_next (wpAny_call_entry F.slot_zip_next ty F.entry_zip_next (mz_end1 hA D Z en fun h' e kk he => ?_) (F.args_zip_next_1 _))))
 obtain ⟨oe, ee, ce⟩ := he
 exact wpAny_bind (wpAny_isInstance (T := "StopIteration") (b := true) ⟨oe, ee, ce⟩ isSubtype_stop (wpAny_pure (k _ kk)))
end
def ItzM (K : PySem.W.Frag) (l1 l2 : Addr) : It :=
 ⟨fun i H => ∃ xs ys, SqL K H l1 xs ∧ SqT K H l2 ys ∧ i < xs.length ∧ i < ys.length,
  fun i H x H' => ∃ T a b, H T = none ∧ x = .ref T ∧ H' = upd H T (.tup [a, b]) ∧ (∀ xs, SqL K H l1 xs → xs[i]? = some a) ∧ (∀ ys, SqT K H l2 ys → ys[i]? = some b),
  fun i H => ∃ xs ys, SqL K H l1 xs ∧ SqT K H l2 ys ∧ xs.length ≤ i⟩
def ZipStM (z ti to_ j1 j2 l1 l2 : Addr) (i : Nat) (h : Heap) : Prop := IsZip h z ti to_ .none ∧ IsPair h ti (.ref j1) (.ref j2) ∧ (∃ a b, IsPair h to_ a b) ∧ h.IsListIter j1 l1 i ∧ h.IsTupleIter j2 l2 i
theorem lim_at {h h' : Heap} {j t : Addr} {i : Nat} (u : h.IsListIter j t i) (k : ∀ o, h.get? j = some o → h'.get? j = some o) : h'.IsListIter j t i := by
 obtain ⟨o, e, r⟩ := u
 exact ⟨o, k o e, r⟩
theorem turn_zipM {P : Program} {w : World} {K : PySem.W.Frag} {elts : List Expr} {kk : Nat} {tpos : Pos} (z ti to_ j1 j2 l1 l2 : Addr) (D : ZipApart z ti to_ j1 j2 l1 l2) :
 Turn P w K (.Tuple elts kk tpos) (ItzM K l1 l2) [z, ti, to_, j1, j2] z (ZipStM z ti to_ j1 j2 l1 l2) where
 mem := by simp
 obj := fun i h st b hb => by
  obtain ⟨hz, hTI, ⟨a, c, hTO⟩, ⟨o1, e1, _, d1⟩, ⟨o2, e2, _, d2⟩⟩ := st
  simp only [List.mem_cons, List.not_mem_nil, or_false] at hb
  rcases hb with rfl | rfl | rfl | rfl | rfl
  · exact ⟨_, hz, fun v q => by cases (show Data.fields _ = Data.cell v from q)⟩
  · exact ⟨_, hTI, fun v q => by cases (show Data.seq _ _ = Data.cell v from q)⟩
  · exact ⟨_, hTO, fun v q => by cases (show Data.seq _ _ = Data.cell v from q)⟩
  · exact ⟨_, e1, fun v q => by rw [d1] at q; cases q⟩
  · exact ⟨_, e2, fun v q => by rw [d2] at q; cases q⟩
 keep := fun i h h' st k => by
  obtain ⟨hz, hTI, ⟨a, c, hTO⟩, h1, h2⟩ := st
  exact ⟨k z (by simp) _ hz, k ti (by simp) _ hTI, ⟨a, c, k to_ (by simp) _ hTO⟩, lim_at h1 fun o e => k j1 (by simp) o e, tit_at h2 fun o e => k j2 (by simp) o e⟩
 item := by
  intro X hP hw hK hc i pins s σ H E I hf st hg
  subst hP hw hK
  obtain ⟨xs, ys, q1, q2, g1, g2⟩ := hg
  obtain ⟨its1, r1, p1, z1⟩ := I.list q1
  obtain ⟨its2, r2, p2, z2⟩ := I.tuple q2
  obtain ⟨u1, e1, ru1⟩ := r1.get (List.getElem?_eq_getElem g1)
  obtain ⟨u2, e2, ru2⟩ := r2.get (List.getElem?_eq_getElem g2)
  obtain ⟨hz, hTI, ⟨a, c, hTO⟩, h1, h2⟩ := st
  refine mz_next1 (x := u1) (y := u2) D ⟨hz, hTI, hTO, h1, h2, p1.isList, p2⟩ (by simpa using e1) (by simpa using e2) fun h1' a1 a2 a3 a4 a5 hk => ⟨_, rfl, ?_⟩
  refine wpAny_letOwnedTupleGo_zip a1 fun h2' hz' hs' => ?_
  have lt : ∀ {c o}, s.heap.get? c = some o → s.heap.objs.size ≠ c := fun e => Nat.ne_of_gt (Heap.lt_size e)
  have Tz : s.heap.objs.size ≠ z := lt hz
  have kz : ∀ b o, b ≠ z → h1'.get? b = some o → h2'.get? b = some o := fun b o hb e => hs'.extBut _ _ hb e
  have I' : Inv X pins σ (upd H s.heap.objs.size (.tup [xs[i], ys[i]])) { s with heap := h2' } := by
   refine I.turnedNew (t' := s.toks) (ch := [z, to_, j1, j2]) (fun b o hb e => ?_) (fun b hb => hf b (by
    simp only [List.mem_cons, List.not_mem_nil, or_false] at hb ⊢
    rcases hb with rfl | rfl | rfl | rfl <;> simp)) (Nat.le_refl _) ?_
   · simp only [List.mem_cons, List.not_mem_nil, or_false, not_or] at hb
     exact kz b o hb.1 (hk b o hb.1 hb.2.1 hb.2.2.1 hb.2.2.2 e)
   · exact ⟨(by show 2 ≤ sizeLine; decide), [u1, u2], .cons ru1 (.cons ru2 .nil), _, kz _ _ Tz a5, rfl, _, rfl⟩
  refine ⟨.ref s.heap.objs.size, _, I', rfl, ⟨s.heap.objs.size, xs[i], ys[i], I.hok.fresh (Nat.le_refl _), rfl, rfl, fun xs' q' => ?_, fun ys' q' => ?_⟩, ⟨hz', ?_, ⟨_, _, kz _ _ D.TOz a2⟩, ?_, ?_⟩, fun b hb => ?_⟩
  · rw [I.list_inj q' q1]; exact List.getElem?_eq_getElem g1
  · rw [I.tuple_inj q' q2]; exact List.getElem?_eq_getElem g2
  · exact kz _ _ D.TIz (hk _ _ D.TIz D.TITO D.TIi1 D.TIi2 hTI)
  · exact lim_at a3 fun o e => kz _ _ D.i1z e
  · exact tit_at a4 fun o e => kz _ _ D.i2z e
  · have n := (hf b hb).1
    simp only [List.mem_cons, List.not_mem_nil, or_false] at hb
    have ob : ∃ o, s.heap.get? b = some o := by
     obtain ⟨o1, x1, _⟩ := h1
     obtain ⟨o2, x2, _⟩ := h2
     rcases hb with rfl | rfl | rfl | rfl | rfl
     · exact ⟨_, hz⟩
     · exact ⟨_, hTI⟩
     · exact ⟨_, hTO⟩
     · exact ⟨_, x1⟩
     · exact ⟨_, x2⟩
    obtain ⟨o, eo⟩ := ob
    rw [upd_ne (Ne.symm (lt eo))]
    exact n
 done := by
  intro X hP hw hK hc i pins s σ H E I hf st hg
  subst hP hw hK
  obtain ⟨xs, ys, q1, q2, g⟩ := hg
  obtain ⟨its1, r1, p1, z1⟩ := I.list q1
  obtain ⟨its2, r2, p2, z2⟩ := I.tuple q2
  obtain ⟨hz, hTI, ⟨a, c, hTO⟩, h1, h2⟩ := st
  have l1' := r1.length
  refine mz_stop1 (I.ok.hd hc) D ⟨hz, hTI, hTO, h1, h2, p1.isList, p2⟩ (Array.getElem?_eq_none (by rw [List.size_toArray]; omega)) fun h' hk => ⟨rfl, ?_⟩
  refine I.turnedL (t' := s.toks) (ch := [z, to_, j1, j2]) (fun b o hb e => ?_) (fun b hb => hf b (by
   simp only [List.mem_cons, List.not_mem_nil, or_false] at hb ⊢
   rcases hb with rfl | rfl | rfl | rfl <;> simp))
  simp only [List.mem_cons, List.not_mem_nil, or_false, not_or] at hb
  exact hk b o hb.1 hb.2.1 hb.2.2.1 hb.2.2.2 e
 self := fun _ _ _ _ _ st h => wpAny_pyIter_zip st.1 h
def iZipM (K : PySem.W.Frag) (ta : TA) : TI := fun σ H R => ta σ H fun vs H1 => ∃ l1 l2 xs ys, vs = [.ref l1, .ref l2] ∧ SqL K H1 l1 xs ∧ SqT K H1 l2 ys ∧ R (ItzM K l1 l2) H1
theorem pi_zipM {X : Cx} {a b : Expr} {ta : TA} {p pos tpos : Pos} {elts : List Expr} {kk : Nat} (hg : Gl X "zip") (hm : X.mg "zip" = none) (ha : PA X [a, b] ta) (hs : starEach [a, b] X.env = [(false, eval a X.env), (false, eval b X.env)] := by rfl) (hs2 : starEach [b] X.env = [(false, eval b X.env)] := by rfl) :
 PI X (.Tuple elts kk tpos) (.Call (.Name "zip" p) [a, b] [] pos) (iZipM X.K ta) := by
 intro pins s σ H R I h
 refine Call_ (ld_blt I hg hm (show bootBuiltins "zip" = some (.type "zip") from by decide +kernel) (PyProof.Rows.callWith_type1 (thn (ha pos pins s σ H _ I h) fun us s1 ⟨vs, H1, I1, r1, q1⟩ => ?_) (by rw [hs, hs2]) (by rw [hs2]; rfl)))
 obtain ⟨l1, l2, xs, ys, e, q1, q2, q⟩ := q1
 subst e
 obtain ⟨u1, u2, rfl, ru1, ru2⟩ := r1.two
 cases ru1
 cases ru2
 obtain ⟨its1, v1, p1, z1⟩ := I1.list q1
 obtain ⟨its2, v2, p2, z2⟩ := I1.tuple q2
 have b1 : l1 < s1.heap.objs.size := by obtain ⟨o, n, e, _⟩ := p1; exact Heap.lt_size e
 have b2 : l2 < s1.heap.objs.size := by obtain ⟨o, e, _⟩ := p2; exact Heap.lt_size e
 refine mz_call p1.isList p2 fun h' Z _ hk => ?_
 have D := zip_apart b1 b2
 refine wpAny_pyIter_zip Z.z ?_
 refine ⟨_, _, ZipStM _ _ _ _ _ _ _, _, H1, rfl, I1.kept (t' := s1.toks) hk, turn_zipM _ _ _ _ _ _ _ D, ⟨Z.z, Z.ti, ⟨_, _, Z.to_⟩, Z.j1, Z.j2⟩, fun b hb => ?_, q⟩
 have hb' : s1.heap.objs.size ≤ b := by
  simp only [List.mem_cons, List.not_mem_nil, or_false] at hb
  rcases hb with rfl | rfl | rfl | rfl | rfl
  · exact Nat.le_add_right _ _
  · exact Nat.le_add_right _ _
  · exact Nat.le_add_right _ _
  · exact Nat.le_refl _
  · exact Nat.le_add_right _ _
 exact I1.fpOk hb' (I1.hok.fresh hb')
end L2
namespace PD
open PySem L2
section
variable {K : PySem.W.Frag} {ns : List Str}
end
end PD
namespace PD
open PySem L2
section
variable {K : PySem.W.Frag} {ns : List Str}
end
end PD
namespace PD
open PySem L2
def ninD (d e : D) : Option D := (inB d e).map fun b => .bl (!b)
def nvS : SF := fun _ => none
section
variable {K : PySem.W.Frag} {ns : List Str}
theorem r2_nin : R2P K ns (rIn K true) ninD := by
 intro L H x y a b d Q rx ry hf k
 obtain ⟨c, hc, rfl⟩ := Option.map_eq_some_iff.mp hf
 obtain ⟨v, ev, hc⟩ := bnd hc
 obtain ⟨xs, es, hc⟩ := bnd hc
 obtain ⟨vs, evs, rfl⟩ := Option.map_eq_some_iff.mp hc
 obtain ⟨p, us, rfl, sq, rs⟩ := seq_ok ry es
 obtain ⟨rfl, f1⟩ := sV_ok rx ev
 obtain ⟨rfl, f2⟩ := sVs_ok rs evs
 exact ⟨p, us, rfl, sq, f1, f2, k _ _ (Same.refl _) (.bl _)⟩
theorem s_never {fr : Fr} {lf fl fl' : List Bool} : PuS K ns fr lf fl sNever nvS fl' := fun _ _ _ _ _ _ _ _ k => k.elim
end
end PD
namespace PD
open PySem L2
open Builtin Builtin.Str
def mtD (g : D → List D → Option D) (fa : VF) (fr : AF) : VF := fun env => (fa env).bind fun a => (fr env).bind fun r => g a r
def stS : List D → Option (List Str)
 | [] => some []
 | .str b :: r => (stS r).map (b :: ·)
 | _ => none
def startsD : D → List D → Option D
 | .str a, [.str b] => some (.bl (Txt.startswith a b))
 | _, _ => none
def joinD : D → List D → Option D
 | .str a, [.lst xs] => (stS xs).bind fun ys => if (ys.map (·.length)).sum + ys.length * a.length ≤ 16777216 then some (.str (Txt.join a ys)) else none
 | _, _ => none
def splitD : D → List D → Option D
 | .str a, [.str b] => match b.cps.toList with
   | [c] => if a.length ≤ 1000000 then some (.lst ((Txt.split a ⟨#[c]⟩).map .str)) else none
   | _ => none
 | _, _ => none
def strD : List D → Option D
 | [.int i] => if i.natAbs.log2 < 1920 then some (.str (toString i)) else none
 | [.str z] => some (.str z)
 | _ => none
def intTD : List D → Option D
 | [.int i] => some (.int i)
 | [.bl b] => some (.int (if b then 1 else 0))
 | [.str z] => if z.length ≤ 640 then (PySem.intText? z).map .int else none
 | _ => none
def inTD : D → D → Option D
 | .str i, .str j => some (.bl (!(occurrences j i 0 j.length 1).isEmpty))
 | d, e => inD d e
section
variable {K : PySem.W.Frag} {ns : List Str}
theorem pu_mt {n : Nat} {r : V → List V → Hp → VK → Prop} {g : D → List D → Option D} {ta : TE} {fa : VF} {t : TA} {f : AF} (hs : ∀ d as e, g d as = some e → ∃ z, d = .str z)
 (hr : ∀ (L : Addr → Prop) (H : Hp) (x : V) (xs : List V) (a : D) (as : List D) (d : D) (Q : VK), Rd K ns L H x a → Rds K ns L H xs as → g a as = some d → (∀ v H', Same H H' → Rd K ns (Nw L H) H' v d → Q v H') → r x xs H Q)
 (ha : PuE K ns ta fa) (h : PuA K ns n t f) : PuE K ns (tBM K "str" r ta t) (mtD g fa f) := by
 intro L env σ H Q d he hf k
 obtain ⟨a, ea, hf⟩ := bnd hf
 obtain ⟨as, es, hf⟩ := bnd hf
 obtain ⟨z, rfl⟩ := hs _ _ _ hf
 refine ha L env σ H _ _ he ea fun x H1 S1 rx => ?_
 cases rx
 refine ⟨rfl, ?_⟩
 refine h (Nw L H) env σ H1 _ as (he.nw S1) es fun ys H2 _ S2 ry => ?_
 exact hr _ H2 _ ys _ as d Q (.str z) ry hf fun v H3 S3 rv => k v H3 (S1.trans (S2.trans S3)) (rv.mono (fun q hq => nw2 S1 (nw2 S2 hq)) .refl)
theorem pu_mtF {n : Nat} {r : V → List V → Hp → VK → Prop} {g : D → List D → Option D} {ta : TE} {fa : VF} {t : TA} {f : AF} (hs : ∀ d as e, g d as = some e → ∃ z, d = .str z)
 (hr : ∀ (L : Addr → Prop) (H : Hp) (x : V) (xs : List V) (a : D) (as : List D) (d : D) (Q : VK), Rd K ns L H x a → Rds K ns L H xs as → g a as = some d → (∀ p vs ds H', d = .lst ds → Same H H' → H p = none → H' p = some (.lst vs) → Rds K ns (fun a => Nw L H a ∧ a ≠ p) H' vs ds → Q (.ref p) H') → r x xs H Q)
 (ha : PuE K ns ta fa) (h : PuA K ns n t f) : PuF K ns (tBM K "str" r ta t) (mtD g fa f) := by
 intro L env σ H Q d he hf k
 obtain ⟨a, ea, hf⟩ := bnd hf
 obtain ⟨as, es, hf⟩ := bnd hf
 obtain ⟨z, rfl⟩ := hs _ _ _ hf
 refine ha L env σ H _ _ he ea fun x H1 S1 rx => ?_
 cases rx
 refine ⟨rfl, ?_⟩
 refine h (Nw L H) env σ H1 _ as (he.nw S1) es fun ys H2 _ S2 ry => ?_
 exact hr _ H2 _ ys _ as d Q (.str z) ry hf fun p vs ds H3 e S3 hp h3 rv => k p vs ds H3 e (S1.trans (S2.trans S3)) (back S1 (back S2 hp)) h3 (rv.mono (fun q hq => ⟨nw2 S1 (nw2 S2 hq.1), hq.2⟩) .refl)
theorem mS {t : TE} {g : D → List D → Option D} {a : VF} {b : AF} (h : PuE K ns t (mtD g a b)) : PuE K ns t (mtD (sealed g) a b) := by rw [seal_eq]; exact h
theorem mSF {t : TE} {g : D → List D → Option D} {a : VF} {b : AF} (h : PuF K ns t (mtD g a b)) : PuF K ns t (mtD (sealed g) a b) := by rw [seal_eq]; exact h
theorem sts_ok {L : Addr → Prop} {H : Hp} {vs : List V} {ds : List D} {ys : List Str} (r : Rds K ns L H vs ds) (e : stS ds = some ys) : vs = ys.map V.str := by
 induction vs generalizing ds ys with
 | nil => rw [r.nilL] at e; cases e; rfl
 | cons v vs ih =>
   obtain ⟨d, es, rfl, h, t⟩ := r.consL
   cases h <;> first | (cases e; done) | skip
   obtain ⟨z, ez, rfl⟩ := Option.map_eq_some_iff.mp e
   rw [ih t ez]
   rfl
theorem strs_rd {L : Addr → Prop} {H : Hp} : ∀ ys : List Str, Rds K ns L H (ys.map V.str) (ys.map .str)
 | [] => .nil
 | y :: ys => .cons (.str y) (strs_rd ys)
theorem pu_starts {n : Nat} {ta : TE} {fa : VF} {t : TA} {f : AF} (ha : PuE K ns ta fa) (h : PuA K ns n t f) : PuE K ns (tBM K "str" rStarts ta t) (mtD startsD fa f) :=
 pu_mt (fun d as e q => by unfold startsD at q; split at q; exact ⟨_, rfl⟩; cases q) (fun L H x xs a as d Q rx ry q k => by
  unfold startsD at q
  split at q
  · cases q
    obtain ⟨y, rfl, r⟩ := one_of ry
    cases rx
    cases r
    exact ⟨_, _, rfl, rfl, k _ _ (Same.refl _) (.bl _)⟩
  · cases q) ha h
theorem pu_join {n : Nat} {ta : TE} {fa : VF} {t : TA} {f : AF} (ha : PuE K ns ta fa) (h : PuA K ns n t f) : PuE K ns (tBM K "str" (rJoin K) ta t) (mtD joinD fa f) :=
 pu_mt (fun d as e q => by unfold joinD at q; split at q; exact ⟨_, rfl⟩; cases q) (fun L H x xs a as d Q rx ry q k => by
  unfold joinD at q
  split at q
  · obtain ⟨ys, ey, q⟩ := bnd q
    split at q
    · rename_i hz
      cases q
      obtain ⟨y, rfl, r⟩ := one_of ry
      cases rx
      cases r with
      | lst l e r => exact ⟨_, _, ys, rfl, rfl, by rw [← sts_ok r ey]; exact SqL.of e, hz, k _ _ (Same.refl _) (.str _)⟩
    · cases q
  · cases q) ha h
theorem pu_split {n : Nat} {ta : TE} {fa : VF} {t : TA} {f : AF} (ha : PuE K ns ta fa) (h : PuA K ns n t f) : PuF K ns (tBM K "str" rSplit ta t) (mtD splitD fa f) :=
 pu_mtF (fun d as e q => by unfold splitD at q; split at q; exact ⟨_, rfl⟩; cases q) (fun L H x xs a as d Q rx ry q k => by
  unfold splitD at q
  split at q
  · rename_i z b
    split at q
    · rename_i c hc
      split at q
      · rename_i hz
        cases q
        obtain ⟨y, rfl, r⟩ := one_of ry
        cases rx
        cases r
        have eb : b = ⟨#[c]⟩ := by
         obtain ⟨cp⟩ := b
         have : cp = #[c] := by
          have := congrArg List.toArray hc
          simpa using this
         rw [this]
        subst eb
        exact ⟨_, c, rfl, rfl, hz, fun l hl => k l _ _ _ rfl (same_new0 hl _) hl upd_same (strs_rd _)⟩
      · cases q
    · cases q
  · cases q) ha h
theorem ca_str : CaP K ns rStrX strD := by
 intro L H xs as d Q rx hf k
 unfold strD at hf
 split at hf
 · split at hf
   · rename_i hz
     cases hf
     obtain ⟨x, rfl, r⟩ := one_of rx
     cases r
     exact .inl ⟨_, rfl, hz, k _ _ (Same.refl _) (.str _)⟩
   · cases hf
 · cases hf
   obtain ⟨x, rfl, r⟩ := one_of rx
   cases r
   exact .inr ⟨_, rfl, k _ _ (Same.refl _) (.str _)⟩
 · cases hf
theorem ca_intT : CaP K ns rIntX intTD := by
 intro L H xs as d Q rx hf k
 unfold intTD at hf
 split at hf
 · cases hf
   obtain ⟨x, rfl, r⟩ := one_of rx
   cases r
   exact .inl (.inl ⟨_, rfl, k _ _ (Same.refl _) (.int _)⟩)
 · cases hf
   obtain ⟨x, rfl, r⟩ := one_of rx
   cases r
   exact .inl (.inr ⟨_, rfl, k _ _ (Same.refl _) (.int _)⟩)
 · split at hf
   · rename_i hz
     obtain ⟨i, hi, rfl⟩ := Option.map_eq_some_iff.mp hf
     obtain ⟨x, rfl, r⟩ := one_of rx
     cases r
     exact .inr ⟨_, i, rfl, hi, hz, k _ _ (Same.refl _) (.int _)⟩
   · cases hf
 · cases hf
theorem r2_inT : R2P K ns (rInX K) inTD := by
 intro L H x y a b d Q rx ry hf k
 unfold inTD at hf
 split at hf
 · cases hf
   cases rx
   cases ry
   exact .inl ⟨_, _, rfl, rfl, k _ _ (Same.refl _) (.bl _)⟩
 · exact r2_in L H x y a b d Q rx ry hf k
end
end PD
namespace PD
open PySem L2
def kd : D → Nat
 | .non => 0 | .bl _ => 1 | .int _ => 2 | .str _ => 3 | .tup _ => 4 | .ob _ _ => 5 | .lst _ => 6 | _ => 9
def kO : Option HO → Nat
 | some (.tup _) => 4
 | some (.ins _ _ _) => 5
 | some (.lst _) => 6
 | _ => 9
def kH (H : Hp) : V → Nat
 | .non => 0 | .bl _ => 1 | .int _ => 2 | .str _ => 3
 | .ref a => kO (H a)
 | _ => 9
def ap1 (a b : D) : Bool := kd a != 9 && (kd b != 9 && kd a != kd b)
def apL : List D → List D → Bool
 | [], [] => false
 | a :: as, b :: bs => ap1 a b || apL as bs
 | _, _ => true
def clr : Nat → List (List D) → D → Bool
 | 0, _, d => d.flat
 | n + 1, os, d => match d with
   | .lst xs => os.all (apL xs) && xs.all (clr n os)
   | .tup xs => xs.all (clr n os)
   | .ob _ fs => fs.all fun p => clr n os p.2
   | d => d.flat
def ownL : List Bool → Env → List (List D)
 | b :: fl, o :: env => (match b, o with | true, some (.lst ys) => [ys] | _, _ => []) ++ ownL fl env
 | _, _ => []
def isLI : HO → Bool
 | .lst _ => true
 | .ins _ _ _ => true
 | _ => false
def zipX : List D → Option (List D)
 | [.lst xs, .tup ys] => if xs.length ≤ ys.length then some (zipG xs ys) else none
 | as => zipD as
section
variable {K : PySem.W.Frag} {ns : List Str} {fr : Fr} {lf fl fl' : List Bool} {L L' L0 : Addr → Prop} {H H0 : Hp} {O : List (Option Addr)} {env : Env} {σ : St}
theorem kd_of {v : V} {d : D} (r : Rd K ns L H v d) : kd d = 9 ∨ kd d = kH H v := by
 cases r with
 | tup e _ => exact .inr (by show _ = kO (H _); rw [e]; rfl)
 | lst _ e _ => exact .inr (by show _ = kO (H _); rw [e]; rfl)
 | ob _ e _ _ => exact .inr (by show _ = kO (H _); rw [e]; rfl)
 | _ => first | exact .inr rfl | exact .inl rfl
theorem ap1_no {v : V} {a b : D} (r : Rd K ns L H v a) (s : Rd K ns L' H v b) : ap1 a b = false := by
 unfold ap1
 rcases kd_of r with h | h
 · rw [h]; rfl
 · rcases kd_of s with q | q
   · rw [q]; cases kd a != 9 <;> rfl
   · rw [h, q]; cases kH H v != 9 <;> simp
theorem apL_no {vs : List V} {xs ys : List D} (r : Rds K ns L H vs xs) (s : Rds K ns L' H vs ys) : apL xs ys = false := by
 induction vs generalizing xs ys with
 | nil => rw [r.nilL, s.nilL]; rfl
 | cons v vs ih =>
   obtain ⟨x, xs, rfl, h, t⟩ := r.consL
   obtain ⟨y, ys, rfl, h', t'⟩ := s.consL
   show (ap1 x y || apL xs ys) = false
   rw [ap1_no h h', ih t t']
   rfl
theorem all_rd {A B : Addr → Prop} {p : D → Bool} (h : ∀ {v : V} {d : D}, Rd K ns A H v d → p d = true → Rd K ns B H v d) {vs : List V} {ds : List D} (r : Rds K ns A H vs ds) (q : ds.all p = true) : Rds K ns B H vs ds := by
 induction vs generalizing ds with
 | nil => rw [r.nilL]; exact .nil
 | cons v vs ih =>
   obtain ⟨d, es, rfl, a, t⟩ := r.consL
   rw [List.all_cons, Bool.and_eq_true] at q
   exact .cons (h a q.1) (ih t q.2)
theorem all_rf {A B : Addr → Prop} {p : D → Bool} (h : ∀ {v : V} {d : D}, Rd K ns A H v d → p d = true → Rd K ns B H v d) {gs : List (Str × V)} {fs : List (Fl × D)} (r : Rfs K ns A H gs fs) (q : (fs.all fun z => p z.2) = true) : Rfs K ns B H gs fs := by
 induction fs with
 | nil => exact .nil
 | cons z fs ih =>
   rw [List.all_cons, Bool.and_eq_true] at q
   cases r with
   | cons e a t => exact .cons e (h a q.1) (ih t q.2)
theorem clr_rd {A B : Addr → Prop} {os : List (List D)} (hA : ∀ a, A a → B a ∨ (∃ (vs : List V) (ys : List D) (L' : Addr → Prop), H a = some (.lst vs) ∧ ys ∈ os ∧ Rds K ns L' H vs ys) ∨ ∃ o, H a = some o ∧ isLI o = false) : ∀ (n : Nat) {v : V} {d : D}, Rd K ns A H v d → clr n os d = true → Rd K ns B H v d
 | 0, v, d, r, h => r.flat h
 | n + 1, v, d, r, h => by
   cases r with
   | tup e r => exact .tup e (all_rd (clr_rd hA n) r h)
   | lst l e r =>
     rename_i a vs xs
     have h' : (os.all (apL xs) && xs.all (clr n os)) = true := h
     rw [Bool.and_eq_true] at h'
     refine .lst ?_ e (all_rd (clr_rd hA n) r h'.2)
     rcases hA _ l with q | ⟨us, ys, L', e', m, s⟩ | ⟨o, e', q⟩
     · exact q
     · rw [e] at e'
       cases e'
       have := List.all_eq_true.mp h'.1 ys m
       rw [apL_no r s] at this
       cases this
     · rw [e] at e'
       cases e'
       cases q
   | ob l e k r =>
     refine .ob ?_ e k (all_rf (clr_rd hA n) r h)
     rcases hA _ l with q | ⟨us, ys, L', e', m, s⟩ | ⟨o, e', q⟩
     · exact q
     · rw [e] at e'
       cases e'
     · rw [e] at e'
       cases e'
       cases q
   | non => exact .non
   | bl b => exact .bl b
   | int i => exact .int i
   | str x => exact .str x
   | kt e r => exact Rd.flat (.kt e r) h
   | fz e r => exact Rd.flat (.fz e r) h
   | dk l e r => exact Rd.flat (.dk l e r) h
   | dt l e r => exact Rd.flat (.dt l e r) h
theorem ownL_mem : ∀ {fl : List Bool} {env : Env} {i : Nat} {ys : List D}, fl[i]? = some true → env[i]? = some (some (.lst ys)) → ys ∈ ownL fl env
 | [], _, _, _, h, _ => by simp at h
 | _ :: _, [], _, _, _, e => by simp at e
 | b :: fl, o :: env, 0, ys, h, e => by
   cases h
   cases e
   exact List.mem_append_left _ (List.mem_singleton.mpr rfl)
 | b :: fl, o :: env, i + 1, ys, h, e => List.mem_append_right _ (ownL_mem (i := i) h e)
theorem Iv.clear (I : Iv K ns fl L0 H0 O env σ H) (a : Addr) (h : Nw L0 H0 a) : Lm L0 H0 O a ∨ (∃ (vs : List V) (ys : List D) (L' : Addr → Prop), H a = some (.lst vs) ∧ ys ∈ ownL fl env ∧ Rds K ns L' H vs ys) ∨ ∃ o, H a = some o ∧ isLI o = false := by
 by_cases m : some a ∈ O
 · obtain ⟨i, hi, e⟩ := List.getElem_of_mem m
   have ho : O[i]? = some (some a) := by rw [List.getElem?_eq_getElem hi, e]
   obtain ⟨_, _, o, d, ed, hp, r⟩ := I.ow i a ho
   rcases r.case with ⟨vs, ds, rfl, rfl, r⟩ | ⟨kvs, ds, rfl, rfl, r⟩ | ⟨kvs, ds, rfl, rfl, r⟩
   · refine .inr (.inl ⟨vs, ds, _, hp, ownL_mem (i := i) ?_ ed, r⟩)
     rw [← I.fl, List.getElem?_map, ho]
     rfl
   · exact .inr (.inr ⟨_, hp, rfl⟩)
   · exact .inr (.inr ⟨_, hp, rfl⟩)
 · exact .inl ⟨h, m⟩
end
section
variable (K : PySem.W.Frag) (ns : List Str)
end
section
variable {K : PySem.W.Frag} {ns : List Str} {fr : Fr} {lf fl fl' : List Bool}
theorem pi_zipX {n : Nat} {t : TA} {f : AF} (h : PuA K ns n t f) : PuI K ns (fun σ H R => (iZip K t σ H R ∨ iZipT K t σ H R) ∨ iZipM K t σ H R) (iaD zipX f) := by
 intro L env σ H R ds he hf k
 obtain ⟨as, ea, hf⟩ := bnd hf
 unfold zipX at hf
 split at hf
 · rename_i xs ys
   split at hf
   · rename_i hlen
     refine .inr (h L env σ H _ _ he ea fun vs H1 _ S1 r => ?_)
     obtain ⟨x, y, rfl, q, q'⟩ := two_of r
     clear r
     cases hf
     cases q with
     | @lst p us _ l e r =>
       cases q' with
       | @tup p' us' _ e' r' =>
         refine ⟨_, _, _, _, rfl, SqL.of e, SqT.of e', k _ _ S1 ?_⟩
         intro L2 i H hL hk
         have l2 := hL _ _ e l
         have e2 := hk _ _ e fun _ => l2
         have e2' := hk _ _ e' fun z => by cases z
         have kk : KeepL _ H1 H := fun b o eb hb => hk b o eb fun z => hL _ _ eb (hb z)
         have r2 := r.mono2 hL kk
         have r2' := r'.mono2 hL kk
         refine ⟨fun d hd => ?_, fun hi => ⟨us, us', SqL.of e2, SqT.of e2', by unfold zipG at hi; rw [List.length_zipWith] at hi; rw [r.len]; omega⟩⟩
         unfold zipG at hd
         rw [List.getElem?_zipWith] at hd
         cases hx : xs[i]? with
         | none => rw [hx] at hd; cases hd
         | some c =>
           cases hy : ys[i]? with
           | none => rw [hx, hy] at hd; cases hd
           | some c' =>
             rw [hx, hy] at hd
             cases hd
             obtain ⟨v, ev, rv⟩ := r2.get hx
             obtain ⟨v', ev', rv'⟩ := r2'.get hy
             refine ⟨⟨us, us', SqL.of e2, SqT.of e2', (List.getElem?_eq_some_iff.mp ev).1, (List.getElem?_eq_some_iff.mp ev').1⟩, fun x H' y => ?_⟩
             obtain ⟨T, a, b, hT, rfl, rfl, y, y'⟩ := y
             have h1 := y _ (SqL.of e2)
             have h2 := y' _ (SqT.of e2')
             rw [ev] at h1
             rw [ev'] at h2
             cases h1
             cases h2
             have N := same_new0 hT (.tup [v, v'])
             exact ⟨N, .tup upd_same (.cons (rv.nw.same N) (.cons (rv'.nw.same N) .nil))⟩
   · cases hf
 · exact .inl (pi_zipD h L env σ H R ds he (by show (f env).bind zipD = _; rw [ea]; exact hf) k)
end
end PD
namespace PD
open PySem L2
def appA (fl : List Bool) (i : Nat) (f : VF) : SF := fun env => (f env).bind fun d => if clr 4 (ownL fl env) d = true then (ownAt i env).bind fun xs => if xs.length < 1000000 then some (.nx (env.set i (some (.lst (xs ++ [d]))))) else none else none
section
variable {K : PySem.W.Frag} {ns : List Str} {fr : Fr} {lf fl : List Bool}
theorem s_appA (i : Nat) {t : TE} {f : VF} (h : PuE K ns t f) (hi : fl[i]? = some true) : PuS K ns fr lf fl (tDrop (tBM K "list" rAppend (tVar i) (tCons t tNil))) (appA fl i f) fl := by
 intro L0 H0 O env σ H E I k
 rcases own_of I hi with hn | ⟨p, vs, ds, ho, hs, hd, hp, r⟩
 · exact Fin.no k (by unfold appA; rw [hn]; cases f env with | none => rfl | some d => exact ite_self none)
 unfold appA at k
 cases e : f env with
 | none => rw [e] at k; exact k.elim
 | some d =>
   rw [e] at k
   have k' : Fin K ns fr lf fl L0 H0 O H E (if clr 4 (ownL fl env) d = true then (ownAt i env).bind fun xs => if xs.length < 1000000 then some (.nx (env.set i (some (.lst (xs ++ [d]))))) else none else none) := k
   by_cases hc : clr 4 (ownL fl env) d = true
   · rw [if_pos hc, hd] at k'
     have k2 : Fin K ns fr lf fl L0 H0 O H E (if ds.length < 1000000 then some (.nx (env.set i (some (.lst (ds ++ [d]))))) else none) := k'
     by_cases hl : ds.length < 1000000
     · rw [if_pos hl] at k2
       refine ⟨_, hs, .inl ⟨rfl, _, SqL.of hp⟩, h _ env σ H _ d I.weak e fun v H' S rv => ?_⟩
       refine ⟨p, vs, v, rfl, rfl, S _ _ hp, by rw [r.len]; exact Nat.lt_trans hl (by decide), ?_⟩
       have I' := I.same S
       exact k2 _ _ _ ((Step.same S).trans (.alter (List.mem_of_getElem? ho))) (I'.alter ho ((r.same S).append (.cons (clr_rd I'.clear 4 (rv.mono (fun _ q => nw2 I.sm q) .refl) hc) .nil)))
     · rw [if_neg hl] at k2
       exact k2.elim
   · rw [if_neg hc] at k'
     exact k'.elim
end
end PD
namespace Kl
open PySem L2 PD
def top (i : Nat) : Stmt := PySem.Challenge.pw_ballastway_k09_roads_written.main.body.getD i (.Pass ⟨0, 0, 0, 0⟩)
def kNames : List Str := ["Open", "Bridge", "Road"]
abbrev s_Open_init : Stmt := inClass (top 14) 0
theorem sc_Open_init : FnScope ["self", "length"] ["self", "length"] (defScope s_Open_init) := ⟨rfl, rfl, rfl, by decide +kernel, rfl, by decide +kernel, by decide +kernel⟩
abbrev s_Bridge_init : Stmt := inClass (top 15) 0
theorem sc_Bridge_init : FnScope ["self", "name", "length", "bears", "wide", "most"] ["self", "name", "length", "bears", "wide", "most"] (defScope s_Bridge_init) := ⟨rfl, rfl, rfl, by decide +kernel, rfl, by decide +kernel, by decide +kernel⟩
abbrev s_Road_init : Stmt := inClass (top 16) 0
theorem sc_Road_init : FnScope ["self", "pieces", "rounds", "shuts"] ["self", "pieces", "rounds", "shuts"] (defScope s_Road_init) := ⟨rfl, rfl, rfl, by decide +kernel, rfl, by decide +kernel, by decide +kernel⟩
abbrev s_is_row_of : Stmt := top 22
theorem sc_is_row_of : FnScope ["text", "signs", "most"] ["text", "signs", "most"] (defScope s_is_row_of) := ⟨rfl, rfl, rfl, by decide +kernel, rfl, by decide +kernel, by decide +kernel⟩
theorem cs_is_row_of_0 : CompC (defScope s_is_row_of) ["text", "signs", "most"] ({ kind := PySem.ScopeKind.function, names := [ (PySem.Str.ofString ".0", PySem.NameKind.local), (PySem.Str.ofString "sign", PySem.NameKind.local), (PySem.Str.ofString "signs", PySem.NameKind.free)], isGenerator := false, isCoroutine := false, more := [] : PySem.Scope }) "sign" ["signs"] [1] := ⟨rfl, by decide +kernel, by decide +kernel, by decide +kernel, by decide +kernel, by decide +kernel, by decide +kernel, by decide +kernel, by decide +kernel⟩
abbrev s_number_of : Stmt := top 23
theorem sc_number_of : FnScope ["text", "most", "number"] ["text", "most"] (defScope s_number_of) := ⟨rfl, rfl, rfl, by decide +kernel, rfl, by decide +kernel, by decide +kernel⟩
abbrev s_is_word : Stmt := top 24
theorem sc_is_word : FnScope ["text"] ["text"] (defScope s_is_word) := ⟨rfl, rfl, rfl, by decide +kernel, rfl, by decide +kernel, by decide +kernel⟩
abbrev s_rows_of : Stmt := top 26
theorem sc_rows_of : FnScope ["text"] ["text"] (defScope s_rows_of) := ⟨rfl, rfl, rfl, by decide +kernel, rfl, by decide +kernel, by decide +kernel⟩
abbrev s_words_at : Stmt := top 27
theorem sc_words_at : FnScope ["rows", "place"] ["rows", "place"] (defScope s_words_at) := ⟨rfl, rfl, rfl, by decide +kernel, rfl, by decide +kernel, by decide +kernel⟩
abbrev s_begins_with : Stmt := top 28
theorem sc_begins_with : FnScope ["words", "kinds"] ["words", "kinds"] (defScope s_begins_with) := ⟨rfl, rfl, rfl, by decide +kernel, rfl, by decide +kernel, by decide +kernel⟩
abbrev s_number_within : Stmt := top 29
theorem sc_number_within : FnScope ["text", "bound", "number"] ["text", "bound"] (defScope s_number_within) := ⟨rfl, rfl, rfl, by decide +kernel, rfl, by decide +kernel, by decide +kernel⟩
abbrev s_numbers_of : Stmt := top 30
theorem sc_numbers_of : FnScope ["texts", "bounds", "numbers"] ["texts", "bounds"] (defScope s_numbers_of) := ⟨rfl, rfl, rfl, by decide +kernel, rfl, by decide +kernel, by decide +kernel⟩
theorem cs_numbers_of_0 : CompCT (defScope s_numbers_of) ["texts", "bounds", "numbers"] ({ kind := PySem.ScopeKind.function, names := [ (PySem.Str.ofString ".0", PySem.NameKind.local), (PySem.Str.ofString "text", PySem.NameKind.local), (PySem.Str.ofString "bound", PySem.NameKind.local), (PySem.Str.ofString "number_within", PySem.NameKind.globalImplicit)], isGenerator := false, isCoroutine := false, more := [] : PySem.Scope }) ["text", "bound"] [] [] := ⟨rfl, by decide +kernel, by decide +kernel, by decide +kernel, by decide +kernel, by decide +kernel, by decide +kernel, by decide +kernel, by decide +kernel⟩
abbrev s_plain_row : Stmt := top 31
theorem sc_plain_row : FnScope ["words", "kind", "bounds"] ["words", "kind", "bounds"] (defScope s_plain_row) := ⟨rfl, rfl, rfl, by decide +kernel, rfl, by decide +kernel, by decide +kernel⟩
abbrev s_named_row : Stmt := top 32
theorem sc_named_row : FnScope ["words", "kind", "bounds", "numbers"] ["words", "kind", "bounds"] (defScope s_named_row) := ⟨rfl, rfl, rfl, by decide +kernel, rfl, by decide +kernel, by decide +kernel⟩
abbrev s_row_of : Stmt := top 33
theorem sc_row_of : FnScope ["parts"] ["parts"] (defScope s_row_of) := ⟨rfl, rfl, rfl, by decide +kernel, rfl, by decide +kernel, by decide +kernel⟩
theorem cs_row_of_0 : CompC (defScope s_row_of) ["parts"] ({ kind := PySem.ScopeKind.function, names := [ (PySem.Str.ofString ".0", PySem.NameKind.local), (PySem.Str.ofString "part", PySem.NameKind.local), (PySem.Str.ofString "str", PySem.NameKind.globalImplicit)], isGenerator := false, isCoroutine := false, more := [] : PySem.Scope }) "part" [] [] := ⟨rfl, by decide +kernel, by decide +kernel, by decide +kernel, by decide +kernel, by decide +kernel, by decide +kernel, by decide +kernel, by decide +kernel⟩
abbrev s_names_in : Stmt := top 35
theorem sc_names_in : FnScope ["pieces"] ["pieces"] (defScope s_names_in) := ⟨rfl, rfl, rfl, by decide +kernel, rfl, by decide +kernel, by decide +kernel⟩
theorem cs_names_in_0 : CompC (defScope s_names_in) ["pieces"] ({ kind := PySem.ScopeKind.function, names := [ (PySem.Str.ofString ".0", PySem.NameKind.local), (PySem.Str.ofString "piece", PySem.NameKind.local), (PySem.Str.ofString "isinstance", PySem.NameKind.globalImplicit), (PySem.Str.ofString "Bridge", PySem.NameKind.globalImplicit)], isGenerator := false, isCoroutine := false, more := [] : PySem.Scope }) "piece" [] [] := ⟨rfl, by decide +kernel, by decide +kernel, by decide +kernel, by decide +kernel, by decide +kernel, by decide +kernel, by decide +kernel, by decide +kernel⟩
abbrev s_read_open : Stmt := top 36
theorem sc_read_open : FnScope ["rows", "place", "numbers"] ["rows", "place"] (defScope s_read_open) := ⟨rfl, rfl, rfl, by decide +kernel, rfl, by decide +kernel, by decide +kernel⟩
abbrev s_read_bridge : Stmt := top 37
theorem sc_read_bridge : FnScope ["rows", "place", "names", "told", "numbers"] ["rows", "place", "names"] (defScope s_read_bridge) := ⟨rfl, rfl, rfl, by decide +kernel, rfl, by decide +kernel, by decide +kernel⟩
abbrev s_read_pieces : Stmt := top 38
theorem sc_read_pieces : FnScope ["rows", "pieces"] ["rows"] (defScope s_read_pieces) := ⟨rfl, rfl, rfl, by decide +kernel, rfl, by decide +kernel, by decide +kernel⟩
abbrev s_read_round : Stmt := top 39
theorem sc_read_round : FnScope ["rows", "place", "names", "rounds", "told"] ["rows", "place", "names", "rounds"] (defScope s_read_round) := ⟨rfl, rfl, rfl, by decide +kernel, rfl, by decide +kernel, by decide +kernel⟩
theorem cs_read_round_0 : CompC (defScope s_read_round) ["rows", "place", "names", "rounds", "told"] ({ kind := PySem.ScopeKind.function, names := [(PySem.Str.ofString ".0", PySem.NameKind.local), (PySem.Str.ofString "each", PySem.NameKind.local)], isGenerator := false, isCoroutine := false, more := [] : PySem.Scope }) "each" [] [] := ⟨rfl, by decide +kernel, by decide +kernel, by decide +kernel, by decide +kernel, by decide +kernel, by decide +kernel, by decide +kernel, by decide +kernel⟩
abbrev s_read_shut : Stmt := top 40
theorem sc_read_shut : FnScope ["rows", "place", "names", "told"] ["rows", "place", "names"] (defScope s_read_shut) := ⟨rfl, rfl, rfl, by decide +kernel, rfl, by decide +kernel, by decide +kernel⟩
abbrev s_road_from : Stmt := top 41
theorem sc_road_from : FnScope ["rows", "pieces", "names", "rounds", "shuts", "place"] ["rows"] (defScope s_road_from) := ⟨rfl, rfl, rfl, by decide +kernel, rfl, by decide +kernel, by decide +kernel⟩
abbrev s_road_of : Stmt := top 42
theorem sc_road_of : FnScope ["text", "rows", "told"] ["text"] (defScope s_road_of) := ⟨rfl, rfl, rfl, by decide +kernel, rfl, by decide +kernel, by decide +kernel⟩
abbrev s_piece_row : Stmt := top 43
theorem sc_piece_row : FnScope ["piece"] ["piece"] (defScope s_piece_row) := ⟨rfl, rfl, rfl, by decide +kernel, rfl, by decide +kernel, by decide +kernel⟩
abbrev s_road_rows : Stmt := top 44
theorem sc_road_rows : FnScope ["road", "pieces", "rounds", "shuts"] ["road"] (defScope s_road_rows) := ⟨rfl, rfl, rfl, by decide +kernel, rfl, by decide +kernel, by decide +kernel⟩
theorem cs_road_rows_0 : CompC (defScope s_road_rows) ["road", "pieces", "rounds", "shuts"] ({ kind := PySem.ScopeKind.function, names := [ (PySem.Str.ofString ".0", PySem.NameKind.local), (PySem.Str.ofString "piece", PySem.NameKind.local), (PySem.Str.ofString "piece_row", PySem.NameKind.globalImplicit)], isGenerator := false, isCoroutine := false, more := [] : PySem.Scope }) "piece" [] [] := ⟨rfl, by decide +kernel, by decide +kernel, by decide +kernel, by decide +kernel, by decide +kernel, by decide +kernel, by decide +kernel, by decide +kernel⟩
theorem cs_road_rows_1 : CompC (defScope s_road_rows) ["road", "pieces", "rounds", "shuts"] ({ kind := PySem.ScopeKind.function, names := [ (PySem.Str.ofString ".0", PySem.NameKind.local), (PySem.Str.ofString "told", PySem.NameKind.local), (PySem.Str.ofString "row_of", PySem.NameKind.globalImplicit)], isGenerator := false, isCoroutine := false, more := [] : PySem.Scope }) "told" [] [] := ⟨rfl, by decide +kernel, by decide +kernel, by decide +kernel, by decide +kernel, by decide +kernel, by decide +kernel, by decide +kernel, by decide +kernel⟩
theorem cs_road_rows_2 : CompC (defScope s_road_rows) ["road", "pieces", "rounds", "shuts"] ({ kind := PySem.ScopeKind.function, names := [ (PySem.Str.ofString ".0", PySem.NameKind.local), (PySem.Str.ofString "told", PySem.NameKind.local), (PySem.Str.ofString "row_of", PySem.NameKind.globalImplicit)], isGenerator := false, isCoroutine := false, more := [] : PySem.Scope }) "told" [] [] := ⟨rfl, by decide +kernel, by decide +kernel, by decide +kernel, by decide +kernel, by decide +kernel, by decide +kernel, by decide +kernel, by decide +kernel⟩
abbrev s_road_text : Stmt := top 45
theorem sc_road_text : FnScope ["road"] ["road"] (defScope s_road_text) := ⟨rfl, rfl, rfl, by decide +kernel, rfl, by decide +kernel, by decide +kernel⟩
abbrev s_law_cell : Stmt := top 47
theorem sc_law_cell : FnScope ["_law_script", "_law_k"] ["_law_script", "_law_k"] (defScope s_law_cell) := ⟨rfl, rfl, rfl, by decide +kernel, rfl, by decide +kernel, by decide +kernel⟩
abbrev s_law_mix : Stmt := top 48
theorem sc_law_mix : FnScope ["_law_cell_here", "_law_one", "_law_prime", "_law_drawn"] ["_law_cell_here", "_law_one", "_law_prime"] (defScope s_law_mix) := ⟨rfl, rfl, rfl, by decide +kernel, rfl, by decide +kernel, by decide +kernel⟩
abbrev s_law_names : Stmt := top 49
theorem sc_law_names : FnScope ["_law_cell_here", "_law_letters", "_law_drawn", "_law_size", "_law_at", "_law_fill", "_law_found", "_law_k", "_law_sign"] ["_law_cell_here"] (defScope s_law_names) := ⟨rfl, rfl, rfl, by decide +kernel, rfl, by decide +kernel, by decide +kernel⟩
theorem cs_law_names_0 : CompC (defScope s_law_names) ["_law_cell_here", "_law_letters", "_law_drawn", "_law_size", "_law_at", "_law_fill", "_law_found", "_law_k", "_law_sign"] ({ kind := PySem.ScopeKind.function, names := [ (PySem.Str.ofString ".0", PySem.NameKind.local), (PySem.Str.ofString "_law_k", PySem.NameKind.local), (PySem.Str.ofString "_law_drawn", PySem.NameKind.free), (PySem.Str.ofString "_law_fill", PySem.NameKind.free)], isGenerator := false, isCoroutine := false, more := [] : PySem.Scope }) "_law_k" ["_law_drawn", "_law_fill"] [2, 5] := ⟨rfl, by decide +kernel, by decide +kernel, by decide +kernel, by decide +kernel, by decide +kernel, by decide +kernel, by decide +kernel, by decide +kernel⟩
abbrev s_law_long : Stmt := top 50
theorem sc_law_long : FnScope ["_law_cell_here", "_law_one", "_law_least", "_law_drawn"] ["_law_cell_here", "_law_one", "_law_least"] (defScope s_law_long) := ⟨rfl, rfl, rfl, by decide +kernel, rfl, by decide +kernel, by decide +kernel⟩
abbrev s_law_bridge : Stmt := top 51
theorem sc_law_bridge : FnScope ["_law_cell_here", "_law_name", "_law_drawn", "_law_bears", "_law_most", "_law_wide"] ["_law_cell_here", "_law_name"] (defScope s_law_bridge) := ⟨rfl, rfl, rfl, by decide +kernel, rfl, by decide +kernel, by decide +kernel⟩
abbrev s_law_parts : Stmt := top 52
theorem sc_law_parts : FnScope ["_law_script", "_law_cell_here", "_law_names_here", "_law_many", "_law_pieces_here", "_law_rounds", "_law_k", "_law_own", "_law_shuts", "_law_one", "_law_drawn", "_law_begin", "_law_end"] ["_law_script"] (defScope s_law_parts) := ⟨rfl, rfl, rfl, by decide +kernel, rfl, by decide +kernel, by decide +kernel⟩
abbrev s_law_pieces : Stmt := top 53
theorem sc_law_pieces : FnScope ["_law_pieces_here", "_law_found", "_law_piece"] ["_law_pieces_here"] (defScope s_law_pieces) := ⟨rfl, rfl, rfl, by decide +kernel, rfl, by decide +kernel, by decide +kernel⟩
abbrev s_law_alike : Stmt := top 54
theorem sc_law_alike : FnScope ["_law_found", "_law_due"] ["_law_found", "_law_due"] (defScope s_law_alike) := ⟨rfl, rfl, rfl, by decide +kernel, rfl, by decide +kernel, by decide +kernel⟩
theorem cs_law_alike_0 : CompCT (defScope s_law_alike) ["_law_found", "_law_due"] ({ kind := PySem.ScopeKind.function, names := [ (PySem.Str.ofString ".0", PySem.NameKind.local), (PySem.Str.ofString "_law_one", PySem.NameKind.local), (PySem.Str.ofString "_law_other", PySem.NameKind.local), (PySem.Str.ofString "_law_same", PySem.NameKind.globalImplicit)], isGenerator := false, isCoroutine := false, more := [] : PySem.Scope }) ["_law_one", "_law_other"] [] [] := ⟨rfl, by decide +kernel, by decide +kernel, by decide +kernel, by decide +kernel, by decide +kernel, by decide +kernel, by decide +kernel, by decide +kernel⟩
abbrev s_law_same : Stmt := top 55
theorem sc_law_same : FnScope ["_law_found", "_law_due"] ["_law_found", "_law_due"] (defScope s_law_same) := ⟨rfl, rfl, rfl, by decide +kernel, rfl, by decide +kernel, by decide +kernel⟩
abbrev s_law_told : Stmt := top 56
theorem sc_law_told : FnScope ["_law_piece"] ["_law_piece"] (defScope s_law_told) := ⟨rfl, rfl, rfl, by decide +kernel, rfl, by decide +kernel, by decide +kernel⟩
abbrev s_law_road_is : Stmt := top 57
theorem sc_law_road_is : FnScope ["_law_road", "_law_pieces_here", "_law_rounds", "_law_shuts"] ["_law_road", "_law_pieces_here", "_law_rounds", "_law_shuts"] (defScope s_law_road_is) := ⟨rfl, rfl, rfl, by decide +kernel, rfl, by decide +kernel, by decide +kernel⟩
theorem cs_law_road_is_0 : CompC (defScope s_law_road_is) ["_law_road", "_law_pieces_here", "_law_rounds", "_law_shuts"] ({ kind := PySem.ScopeKind.function, names := [ (PySem.Str.ofString ".0", PySem.NameKind.local), (PySem.Str.ofString "_law_piece", PySem.NameKind.local), (PySem.Str.ofString "_law_told", PySem.NameKind.globalImplicit)], isGenerator := false, isCoroutine := false, more := [] : PySem.Scope }) "_law_piece" [] [] := ⟨rfl, by decide +kernel, by decide +kernel, by decide +kernel, by decide +kernel, by decide +kernel, by decide +kernel, by decide +kernel, by decide +kernel⟩
abbrev s_law : Stmt := top 58
theorem sc_law : FnScope ["_law_script", "_law_names_here", "_law_pieces_here", "_law_rounds", "_law_shuts", "_law_road", "_law_due", "_law_found", "_law_other", "_law_again"] ["_law_script"] (defScope s_law) := ⟨rfl, rfl, rfl, by decide +kernel, rfl, by decide +kernel, by decide +kernel⟩
theorem cs_law_0 : CompC (defScope s_law) ["_law_script", "_law_names_here", "_law_pieces_here", "_law_rounds", "_law_shuts", "_law_road", "_law_due", "_law_found", "_law_other", "_law_again"] ({ kind := PySem.ScopeKind.function, names := [(PySem.Str.ofString ".0", PySem.NameKind.local), (PySem.Str.ofString "_law_piece", PySem.NameKind.local)], isGenerator := false, isCoroutine := false, more := [] : PySem.Scope }) "_law_piece" [] [] := ⟨rfl, by decide +kernel, by decide +kernel, by decide +kernel, by decide +kernel, by decide +kernel, by decide +kernel, by decide +kernel, by decide +kernel⟩
theorem cs_law_1 : CompC ({ kind := PySem.ScopeKind.function, names := [(PySem.Str.ofString ".0", PySem.NameKind.local), (PySem.Str.ofString "_law_piece", PySem.NameKind.local)], isGenerator := false, isCoroutine := false, more := [] : PySem.Scope }) ["_law_piece"] ({ kind := PySem.ScopeKind.function, names := [ (PySem.Str.ofString ".0", PySem.NameKind.local), (PySem.Str.ofString "_law_word", PySem.NameKind.local), (PySem.Str.ofString "str", PySem.NameKind.globalImplicit)], isGenerator := false, isCoroutine := false, more := [] : PySem.Scope }) "_law_word" [] [] := ⟨rfl, by decide +kernel, by decide +kernel, by decide +kernel, by decide +kernel, by decide +kernel, by decide +kernel, by decide +kernel, by decide +kernel⟩
theorem cs_law_2 : CompCT (defScope s_law) ["_law_script", "_law_names_here", "_law_pieces_here", "_law_rounds", "_law_shuts", "_law_road", "_law_due", "_law_found", "_law_other", "_law_again"] ({ kind := PySem.ScopeKind.function, names := [ (PySem.Str.ofString ".0", PySem.NameKind.local), (PySem.Str.ofString "_law_name", PySem.NameKind.local), (PySem.Str.ofString "_law_length", PySem.NameKind.local), (PySem.Str.ofString "str", PySem.NameKind.globalImplicit)], isGenerator := false, isCoroutine := false, more := [] : PySem.Scope }) ["_law_name", "_law_length"] [] [] := ⟨rfl, by decide +kernel, by decide +kernel, by decide +kernel, by decide +kernel, by decide +kernel, by decide +kernel, by decide +kernel, by decide +kernel⟩
theorem cs_law_3 : CompCT (defScope s_law) ["_law_script", "_law_names_here", "_law_pieces_here", "_law_rounds", "_law_shuts", "_law_road", "_law_due", "_law_found", "_law_other", "_law_again"] ({ kind := PySem.ScopeKind.function, names := [ (PySem.Str.ofString ".0", PySem.NameKind.local), (PySem.Str.ofString "_law_name", PySem.NameKind.local), (PySem.Str.ofString "_law_begin", PySem.NameKind.local), (PySem.Str.ofString "_law_end", PySem.NameKind.local), (PySem.Str.ofString "str", PySem.NameKind.globalImplicit)], isGenerator := false, isCoroutine := false, more := [] : PySem.Scope }) ["_law_name", "_law_begin", "_law_end"] [] [] := ⟨rfl, by decide +kernel, by decide +kernel, by decide +kernel, by decide +kernel, by decide +kernel, by decide +kernel, by decide +kernel, by decide +kernel⟩
noncomputable def B_law_alike (F_law_same : List D → Option D) : SF :=
 (seqS (ifS (andB (bD (callD (sealed (isT "list")) (aCons (vD 1) aNil))) (notB (bD (callD (sealed (isT "list")) (aCons (vD 0) aNil))))) (retS (cD (.bl false)))
 nxS)
 (seqS (ifS (andB (bD (callD (sealed (isT "tuple")) (aCons (vD 1) aNil))) (notB (bD (callD (sealed (isT "tuple")) (aCons (vD 0) aNil))))) (retS (cD (.bl false)))
 nxS)
 (seqS (ifS (bD (oD (sealed neD) (callD (sealed lenD) (aCons (vD 0) aNil)) (callD (sealed lenD) (aCons (vD 1) aNil)))) (retS (cD (.bl false)))
 nxS)
 (retS (callD (sealed allD) (aCons (compT 2 (iaD (sealed zipX) (aCons (vD 0) (aCons (vD 1) aNil))) yesB (callD F_law_same (aCons (vD 0) (aCons (vD 1) aNil))) []) aNil))))))
noncomputable def B_law_same (F_law_alike : List D → Option D) : SF :=
 (seqS (ifS (bD (oD (sealed isD) (vD 1) (cD .non))) (retS (oD (sealed isD) (vD 0) (cD .non)))
 nxS)
 (seqS (ifS (bD (callD (sealed isLT) (aCons (vD 1) aNil))) (retS (andD (callD (sealed isLT) (aCons (vD 0) aNil)) (callD F_law_alike (aCons (vD 0) (aCons (vD 1) aNil)))))
 nxS)
 (seqS (ifS (bD (callD (sealed (isT "str")) (aCons (vD 1) aNil))) (retS (andD (callD (sealed (isT "str")) (aCons (vD 0) aNil)) (oD (sealed eqD) (vD 0) (vD 1))))
 nxS)
 (retS (andD (callD (sealed (isT "int")) (aCons (vD 0) aNil)) (andD (oD (sealed eqD) (callD (sealed (isT "bool")) (aCons (vD 0) aNil)) (callD (sealed (isT "bool")) (aCons (vD 1) aNil))) (oD (sealed eqD) (vD 0) (vD 1))))))))
noncomputable def F_both : Nat → (List D → Option D) × (List D → Option D)
 | 0 => (fun _ => none, fun _ => none)
 | n + 1 => (sealed (runD 2 (B_law_alike (F_both n).2)), sealed (runD 2 (B_law_same (F_both n).1)))
noncomputable abbrev F_law_alike : List D → Option D := (F_both 14).1
noncomputable abbrev F_law_same : List D → Option D := (F_both 14).2
abbrev sp_law_same (K : PySem.W.Frag) : Sp := spP K kNames .no 2 F_law_same
noncomputable def B_law_cell : SF :=
 (seqS (ifS (bD (oD (sealed ltD) (vD 1) (callD (sealed lenD) (aCons (vD 0) aNil)))) (retS (oD (sealed ixD) (vD 0) (vD 1)))
 nxS)
 (retS (cD (.int 0))))
noncomputable def F_law_cell : List D → Option D := sealed (runD 2 B_law_cell)
abbrev sp_law_cell (K : PySem.W.Frag) : Sp := spP K kNames .no 2 F_law_cell
noncomputable def B_law_mix : SF :=
 (seqS (setS 3 (mk [false, false, false, false] (oD (sealed modD) (oD (sealed mulD) (oD (sealed addD) (oD (sealed addD) (oD (sealed addD) (oD (sealed modD) (vD 0) (vD 2)) (cD (.int 12345))) (oD (sealed mulD) (oD (sealed mulD) (cD (.int 31)) (vD 1)) (vD 1))) (vD 1)) (cD (.int 48271))) (vD 2))))
 (retS (oD (sealed fdivC) (oD (sealed modD) (oD (sealed mulD) (vD 3) (vD 3)) (cD (.int 998244353))) (cD (.int 3)))))
noncomputable def F_law_mix : List D → Option D := sealed (runD 4 B_law_mix)
abbrev sp_law_mix (K : PySem.W.Frag) : Sp := spP K kNames .no 3 F_law_mix
noncomputable def B_law_names : SF :=
 (seqS (setS 1 (mk [false, false, false, false, false, false, false, false, false] (cD (.str (Str.ofString "abcdefghijklmnopqrstuvwxyz")))))
 (seqS (setS 2 (mk [false, false, false, false, false, false, false, false, false] (callD F_law_mix (aCons (vD 0) (aCons (cD (.int 30)) (aCons (cD (.int 1000003)) aNil))))))
 (seqS (setS 3 (mk [false, false, false, false, false, false, false, false, false] (oD (sealed addD) (cD (.int 1)) (oD (sealed modD) (vD 2) (cD (.int 12))))))
 (seqS (setS 4 (mk [false, false, false, false, false, false, false, false, false] (oD (sealed modD) (oD (sealed fdivC) (vD 2) (cD (.int 12))) (vD 3))))
 (seqS (setS 5 (mk [false, false, false, false, false, false, false, false, false] (oD (sealed ixD) (vD 1) (oD (sealed modD) (oD (sealed fdivC) (vD 2) (cD (.int 150))) (cD (.int 26))))))
 (seqS (ifS (bD (oD (sealed eqD) (oD (sealed modD) (oD (sealed fdivC) (vD 2) (cD (.int 4000))) (cD (.int 3))) (cD (.int 0)))) (retS (compF (iaD (sealed rng1D) (aCons (cD (.int 8)) aNil)) yesB (oD (sealed mulD) (vD 2) (oD (sealed addD) (oD (sealed addD) (vD 0) (cD (.int 1))) (oD (sealed modD) (vD 1) (cD (.int 5))))) [2, 5]))
 nxS)
 (seqS (setS 6 (mk [false, false, false, false, false, false, false, false, false] (lstD aNil)))
 (seqS (forS (mk [false, false, false, false, false, false, true, false, false] (iaD (sealed rng1D) (aCons (cD (.int 8)) aNil))) (nmG 7)
 (seqS (setS 8 (mk [false, false, false, false, false, false, true, false, false] (oD (sealed ixD) (vD 1) (oD (sealed modD) (oD (sealed addD) (oD (sealed fdivC) (vD 2) (cD (.int 12000))) (oD (sealed mulD) (cD (.int 3)) (vD 7))) (cD (.int 26))))))
 (appS 6 (mk [false, false, false, false, false, false, true, false, false] (oD (sealed addD) (oD (sealed addD) (oD (sealed mulD) (vD 5) (vD 4)) (vD 8)) (oD (sealed mulD) (vD 5) (oD (sealed subD) (oD (sealed subD) (vD 3) (cD (.int 1))) (vD 4))))))))
 (retO 6)))))))))
noncomputable def F_law_names : List D → Option D := sealed (runF 9 B_law_names)
abbrev sp_law_names (K : PySem.W.Frag) : Sp := spP K kNames .yes 1 F_law_names
noncomputable def B_law_long : SF :=
 (seqS (setS 3 (mk [false, false, false, false] (callD F_law_mix (aCons (vD 0) (aCons (vD 1) (aCons (cD (.int 1000033)) aNil))))))
 (retS (oD (sealed ixD) (lstD (aCons (vD 2) (aCons (cD (.int 1000)) (aCons (oD (sealed addD) (vD 2) (oD (sealed modD) (oD (sealed fdivC) (vD 3) (cD (.int 5))) (cD (.int 30)))) (aCons (oD (sealed addD) (vD 2) (oD (sealed modD) (oD (sealed fdivC) (vD 3) (cD (.int 5))) (oD (sealed subD) (cD (.int 1001)) (vD 2)))) (aCons (oD (sealed addD) (vD 2) (cD (.int 1))) aNil)))))) (oD (sealed modD) (vD 3) (cD (.int 5))))))
noncomputable def F_law_long : List D → Option D := sealed (runD 4 B_law_long)
abbrev sp_law_long (K : PySem.W.Frag) : Sp := spP K kNames .no 3 F_law_long
noncomputable def B_law_bridge : SF :=
 (seqS (setS 2 (mk [false, false, false, false, false, false] (callD F_law_mix (aCons (vD 0) (aCons (cD (.int 40)) (aCons (cD (.int 1000037)) aNil))))))
 (seqS (setS 3 (mk [false, false, false, false, false, false] (oD (sealed ixD) (lstD (aCons (cD (.int 1)) (aCons (cD (.int 10000000)) (aCons (oD (sealed addD) (cD (.int 1)) (oD (sealed modD) (oD (sealed fdivC) (vD 2) (cD (.int 3))) (cD (.int 1000)))) (aCons (oD (sealed addD) (cD (.int 1)) (oD (sealed modD) (vD 0) (cD (.int 10000000)))) aNil))))) (oD (sealed modD) (vD 2) (cD (.int 4))))))
 (seqS (setS 4 (mk [false, false, false, false, false, false] (oD (sealed ixD) (lstD (aCons (oD (sealed addD) (cD (.int 1)) (oD (sealed modD) (oD (sealed fdivC) (vD 0) (cD (.int 3))) (cD (.int 10000000)))) (aCons (cD (.int 10000000)) (aCons (cD (.int 1)) (aCons (oD (sealed addD) (cD (.int 1)) (oD (sealed modD) (oD (sealed fdivC) (vD 2) (cD (.int 7))) (cD (.int 1000)))) aNil))))) (oD (sealed modD) (oD (sealed fdivC) (vD 2) (cD (.int 4))) (cD (.int 4))))))
 (seqS (setS 5 (mk [false, false, false, false, false, false] (oD (sealed ixD) (lstD (aCons (cD (.int 1)) (aCons (cD (.int 200)) (aCons (oD (sealed addD) (cD (.int 1)) (oD (sealed modD) (oD (sealed fdivC) (vD 2) (cD (.int 16))) (cD (.int 200)))) (aCons (oD (sealed addD) (cD (.int 1)) (oD (sealed modD) (oD (sealed fdivC) (vD 2) (cD (.int 16))) (cD (.int 30)))) aNil))))) (oD (sealed modD) (oD (sealed fdivC) (vD 2) (cD (.int 1000))) (cD (.int 4))))))
 (retS (tupD (aCons (cD (.str (Str.ofString "bridge"))) (aCons (vD 1) (aCons (callD F_law_long (aCons (vD 0) (aCons (cD (.int 41)) (aCons (cD (.int 1)) aNil)))) (aCons (vD 3) (aCons (vD 5) (aCons (vD 4) aNil))))))))))))
noncomputable def F_law_bridge : List D → Option D := sealed (runD 6 B_law_bridge)
abbrev sp_law_bridge (K : PySem.W.Frag) : Sp := spP K kNames .no 2 F_law_bridge
noncomputable def B_law_parts : SF :=
 (seqS (setS 1 (mk [false, false, false, false, false, false, false, false, false, false, false, false, false] (callD F_law_cell (aCons (vD 0) (aCons (cD (.int 0)) aNil)))))
 (seqS (setS 2 (mk [false, false, false, false, false, false, false, false, false, false, false, false, false] (callD F_law_names (aCons (vD 1) aNil))))
 (seqS (setS 3 (mk [false, false, false, false, false, false, false, false, false, false, false, false, false] (oD (sealed addD) (cD (.int 1)) (oD (sealed modD) (callD F_law_mix (aCons (vD 1) (aCons (cD (.int 31)) (aCons (cD (.int 1000039)) aNil)))) (cD (.int 6))))))
 (seqS (setS 4 (mk [false, false, false, false, false, false, false, false, false, false, false, false, false] (lstD (aCons (tupD (aCons (cD (.str (Str.ofString "open"))) (aCons (callD F_law_long (aCons (vD 1) (aCons (cD (.int 42)) (aCons (cD (.int 200)) aNil)))) aNil))) aNil))))
 (seqS (setS 5 (mk [false, false, false, false, true, false, false, false, false, false, false, false, false] (lstD aNil)))
 (seqS (forS (mk [false, false, false, false, true, true, false, false, false, false, false, false, false] (iaD (sealed rng1D) (aCons (vD 3) aNil))) (nmG 6)
 (seqS (setS 7 (mk [false, false, false, false, true, true, false, false, false, false, false, false, false] (oD (sealed addD) (callD F_law_cell (aCons (vD 0) (aCons (oD (sealed addD) (cD (.int 1)) (vD 6)) aNil))) (oD (sealed mulD) (cD (.int 65537)) (vD 6)))))
 (seqS (appS 4 (mk [false, false, false, false, true, true, false, false, false, false, false, false, false] (callD F_law_bridge (aCons (vD 7) (aCons (oD (sealed ixD) (vD 2) (vD 6)) aNil)))))
 (seqS (appS 4 (mk [false, false, false, false, true, true, false, false, false, false, false, false, false] (tupD (aCons (cD (.str (Str.ofString "open"))) (aCons (callD F_law_long (aCons (vD 7) (aCons (cD (.int 43)) (aCons (cD (.int 200)) aNil)))) aNil)))))
 (ifS (bD (oD (sealed eqD) (oD (sealed modD) (callD F_law_mix (aCons (vD 7) (aCons (cD (.int 44)) (aCons (cD (.int 1000081)) aNil)))) (cD (.int 2))) (cD (.int 0)))) (appS 5 (mk [false, false, false, false, true, true, false, false, false, false, false, false, false] (tupD (aCons (oD (sealed ixD) (vD 2) (vD 6)) (aCons (callD F_law_long (aCons (vD 7) (aCons (cD (.int 45)) (aCons (cD (.int 1)) aNil)))) aNil)))))
 nxS)))))
 (seqS (ifS (bD (oD (sealed eqD) (oD (sealed modD) (callD F_law_mix (aCons (vD 1) (aCons (cD (.int 46)) (aCons (cD (.int 1000003)) aNil)))) (cD (.int 2))) (cD (.int 1)))) (revS 5)
 nxS)
 (seqS (setS 8 (mk [false, false, false, false, true, true, false, false, false, false, false, false, false] (lstD aNil)))
 (seqS (forS (mk [false, false, false, false, false, false, false, false, true, false, false, false, false] (iaD (sealed enumD) (aCons (oD (sealed addD) (lstD (aCons (vD 1) aNil)) (slD (sealed slDD) (vD 0) (atO (cD (.int 7))) (atO (cD (.int 13))))) aNil))) (tupG [6, 9])
 (seqS (setS 10 (mk [false, false, false, false, false, false, false, false, true, false, false, false, false] (callD F_law_mix (aCons (vD 9) (aCons (oD (sealed addD) (cD (.int 47)) (vD 6)) (aCons (cD (.int 1000033)) aNil))))))
 (seqS (setS 11 (mk [false, false, false, false, false, false, false, false, true, false, false, false, false] (oD (sealed ixD) (lstD (aCons (cD (.int 0)) (aCons (oD (sealed modD) (oD (sealed fdivC) (vD 10) (cD (.int 12))) (cD (.int 10000))) (aCons (cD (.int 9999)) aNil)))) (oD (sealed modD) (vD 10) (cD (.int 3))))))
 (seqS (setS 12 (mk [false, false, false, false, false, false, false, false, true, false, false, false, false] (oD (sealed ixD) (lstD (aCons (oD (sealed addD) (vD 11) (cD (.int 1))) (aCons (cD (.int 10000)) (aCons (oD (sealed addD) (oD (sealed addD) (vD 11) (cD (.int 1))) (oD (sealed modD) (oD (sealed fdivC) (vD 10) (cD (.int 40))) (oD (sealed subD) (cD (.int 10000)) (vD 11)))) aNil)))) (oD (sealed modD) (oD (sealed fdivC) (vD 10) (cD (.int 3))) (cD (.int 3))))))
 (ifS (bD (oD (sealed gtD) (oD (sealed modD) (oD (sealed fdivC) (vD 10) (cD (.int 9))) (cD (.int 3))) (cD (.int 0)))) (appS 8 (mk [false, false, false, false, false, false, false, false, true, false, false, false, false] (tupD (aCons (oD (sealed ixD) (vD 2) (oD (sealed modD) (oD (sealed fdivC) (vD 10) (cD (.int 27))) (vD 3))) (aCons (vD 11) (aCons (vD 12) aNil))))))
 nxS)))))
 (retS (tupD (aCons (vD 2) (aCons (vD 4) (aCons (vD 5) (aCons (vD 8) aNil)))))))))))))))
noncomputable def F_law_parts : List D → Option D := sealed (runD 13 B_law_parts)
abbrev sp_law_parts (K : PySem.W.Frag) : Sp := spP K kNames .no 1 F_law_parts
noncomputable def B_row_of : SF :=
 (retS (mtD (sealed joinD) (cD (.str (Str.ofString " "))) (aCons (compF (itD (vD 0)) yesB (callD (sealed strD) (aCons (vD 0) aNil)) []) aNil)))
noncomputable def F_row_of : List D → Option D := sealed (runD 1 B_row_of)
abbrev sp_row_of (K : PySem.W.Frag) : Sp := spP K kNames .no 1 F_row_of
noncomputable def B_piece_row : SF :=
 (seqS (ifS (bD (callD (sealed (isC .Open)) (aCons (vD 0) aNil))) (retS (callD F_row_of (aCons (lstD (aCons (cD (.str (Str.ofString "open"))) (aCons (uD (sealed (getF .length)) (vD 0)) aNil))) aNil)))
 nxS)
 (retS (callD F_row_of (aCons (lstD (aCons (cD (.str (Str.ofString "bridge"))) (aCons (uD (sealed (getF .name)) (vD 0)) (aCons (uD (sealed (getF .length)) (vD 0)) (aCons (uD (sealed (getF .bears)) (vD 0)) (aCons (uD (sealed (getF .wide)) (vD 0)) (aCons (uD (sealed (getF .most)) (vD 0)) aNil))))))) aNil))))
noncomputable def F_piece_row : List D → Option D := sealed (runD 1 B_piece_row)
abbrev sp_piece_row (K : PySem.W.Frag) : Sp := spP K kNames .no 1 F_piece_row
noncomputable def B_road_rows : SF :=
 (seqS (setS 1 (mk [false, false, false, false] (compF (itD (uD (sealed (getF .pieces)) (vD 0))) yesB (callD F_piece_row (aCons (vD 0) aNil)) [])))
 (seqS (setS 2 (mk [false, false, false, false] (compF (itD (uD (sealed (getF .rounds)) (vD 0))) yesB (callD F_row_of (aCons (lstD (aCons (cD (.str (Str.ofString "round"))) (aCons (oD (sealed ixD) (vD 0) (cD (.int 0))) (aCons (oD (sealed ixD) (vD 0) (cD (.int 1))) aNil)))) aNil)) [])))
 (seqS (setS 3 (mk [false, false, false, false] (compF (itD (uD (sealed (getF .shuts)) (vD 0))) yesB (callD F_row_of (aCons (lstD (aCons (cD (.str (Str.ofString "shut"))) (aCons (oD (sealed ixD) (vD 0) (cD (.int 0))) (aCons (oD (sealed ixD) (vD 0) (cD (.int 1))) (aCons (oD (sealed ixD) (vD 0) (cD (.int 2))) aNil))))) aNil)) [])))
 (retS (oD (sealed catD) (oD (sealed addD) (vD 1) (vD 2)) (vD 3))))))
noncomputable def F_road_rows : List D → Option D := sealed (runF 4 B_road_rows)
abbrev sp_road_rows (K : PySem.W.Frag) : Sp := spP K kNames .yes 1 F_road_rows
noncomputable def B_rows_of : SF :=
 (retS (mtD (sealed splitD) (vD 0) (aCons (cD (.str (Str.ofString "\n"))) aNil)))
noncomputable def F_rows_of : List D → Option D := sealed (runF 1 B_rows_of)
abbrev sp_rows_of (K : PySem.W.Frag) : Sp := spP K kNames .yes 1 F_rows_of
noncomputable def B_is_row_of : SF :=
 (seqS (ifS (orB (bD (oD (sealed ltD) (callD (sealed lenD) (aCons (vD 0) aNil)) (cD (.int 1)))) (bD (oD (sealed gtD) (callD (sealed lenD) (aCons (vD 0) aNil)) (vD 2)))) (retS (cD (.bl false)))
 nxS)
 (retS (callD (sealed allD) (aCons (compF (itD (vD 0)) yesB (oD (sealed inTD) (vD 0) (vD 1)) [1]) aNil))))
noncomputable def F_is_row_of : List D → Option D := sealed (runD 3 B_is_row_of)
abbrev sp_is_row_of (K : PySem.W.Frag) : Sp := spP K kNames .no 3 F_is_row_of
noncomputable def B_number_of : SF :=
 (seqS (ifS (notB (bD (callD F_is_row_of (aCons (vD 0) (aCons (cD (.str (Str.ofString "0123456789"))) (aCons (cD (.int 60)) aNil)))))) (retS (cD .non))
 nxS)
 (seqS (ifS (andB (bD (mtD (sealed startsD) (vD 0) (aCons (cD (.str (Str.ofString "0"))) aNil))) (bD (oD (sealed neD) (vD 0) (cD (.str (Str.ofString "0")))))) (retS (cD .non))
 nxS)
 (seqS (setS 2 (mk [false, false, false] (callD (sealed intTD) (aCons (vD 0) aNil))))
 (seqS (ifS (andB (bD (oD (sealed isntD) (vD 1) (cD .non))) (bD (oD (sealed gtD) (vD 2) (vD 1)))) (retS (cD .non))
 nxS)
 (retS (vD 2))))))
noncomputable def F_number_of : List D → Option D := sealed (runD 3 B_number_of)
abbrev sp_number_of (K : PySem.W.Frag) : Sp := spP K kNames .no 2 F_number_of
noncomputable def B_number_within : SF :=
 (seqS (setS 2 (mk [false, false, false] (callD F_number_of (aCons (vD 0) (aCons (oD (sealed ixD) (vD 1) (cD (.int 1))) aNil)))))
 (seqS (ifS (orB (bD (oD (sealed isD) (vD 2) (cD .non))) (bD (oD (sealed ltD) (vD 2) (oD (sealed ixD) (vD 1) (cD (.int 0)))))) (retS (cD .non))
 nxS)
 (retS (vD 2))))
noncomputable def F_number_within : List D → Option D := sealed (runD 3 B_number_within)
abbrev sp_number_within (K : PySem.W.Frag) : Sp := spP K kNames .no 2 F_number_within
noncomputable def B_numbers_of : SF :=
 (seqS (ifS (bD (oD (sealed neD) (callD (sealed lenD) (aCons (vD 0) aNil)) (callD (sealed lenD) (aCons (vD 1) aNil)))) (retS (cD .non))
 nxS)
 (seqS (setS 2 (mk [false, false, false] (compT 2 (iaD (sealed zipX) (aCons (vD 0) (aCons (vD 1) aNil))) yesB (callD F_number_within (aCons (vD 0) (aCons (vD 1) aNil))) [])))
 (seqS (ifS (bD (oD (sealed inTD) (cD .non) (vD 2))) (retS (cD .non))
 nxS)
 (retS (vD 2)))))
noncomputable def F_numbers_of : List D → Option D := sealed (runD 3 B_numbers_of)
abbrev sp_numbers_of (K : PySem.W.Frag) : Sp := spP K kNames .no 2 F_numbers_of
noncomputable def B_begins_with : SF :=
 (retS (andD (oD (sealed gtD) (callD (sealed lenD) (aCons (vD 0) aNil)) (cD (.int 0))) (oD (sealed inTD) (oD (sealed ixD) (vD 0) (cD (.int 0))) (vD 1))))
noncomputable def F_begins_with : List D → Option D := sealed (runD 2 B_begins_with)
abbrev sp_begins_with (K : PySem.W.Frag) : Sp := spP K kNames .no 2 F_begins_with
noncomputable def B_plain_row : SF :=
 (seqS (ifS (notB (bD (callD F_begins_with (aCons (vD 0) (aCons (tupD (aCons (vD 1) aNil)) aNil))))) (retS (cD .non))
 nxS)
 (retS (callD F_numbers_of (aCons (slD (sealed slDD) (vD 0) (atO (cD (.int 1))) noO) (aCons (vD 2) aNil)))))
noncomputable def F_plain_row : List D → Option D := sealed (runD 3 B_plain_row)
abbrev sp_plain_row (K : PySem.W.Frag) : Sp := spP K kNames .no 3 F_plain_row
noncomputable def B_words_at : SF :=
 (seqS (ifS (bD (oD (sealed geD) (vD 1) (callD (sealed lenD) (aCons (vD 0) aNil)))) (retS (lstD aNil))
 nxS)
 (retS (mtD (sealed splitD) (oD (sealed ixD) (vD 0) (vD 1)) (aCons (cD (.str (Str.ofString " "))) aNil))))
noncomputable def F_words_at : List D → Option D := sealed (runF 2 B_words_at)
abbrev sp_words_at (K : PySem.W.Frag) : Sp := spP K kNames .yes 2 F_words_at
noncomputable def I_Open : List D → Option (List (Fl × D)) := initD [(.length, (vD 1))]
abbrev sp_Open_init (K : PySem.W.Frag) : Sp := spI K kNames .Open 1 I_Open
noncomputable def B_read_open : SF :=
 (seqS (setS 2 (mk [false, false, false] (callD F_plain_row (aCons (callD F_words_at (aCons (vD 0) (aCons (vD 1) aNil))) (aCons (cD (.str (Str.ofString "open"))) (aCons (tupD (aCons (cD (.kt [.int 1, .int 1000])) aNil)) aNil))))))
 (seqS (ifS (bD (oD (sealed isD) (vD 2) (cD .non))) nvS
 nxS)
 (seqS (ifS (bD (oD (sealed ltD) (oD (sealed ixD) (vD 2) (cD (.int 0))) (cD (.int 200)))) nvS
 nxS)
 (retS (makeD .Open I_Open (aCons (oD (sealed ixD) (vD 2) (cD (.int 0))) aNil))))))
noncomputable def F_read_open : List D → Option D := sealed (runD 3 B_read_open)
abbrev sp_read_open (K : PySem.W.Frag) : Sp := spP K kNames .no 2 F_read_open
noncomputable def B_is_word : SF :=
 (retS (callD F_is_row_of (aCons (vD 0) (aCons (cD (.str (Str.ofString "abcdefghijklmnopqrstuvwxyz"))) (aCons (cD (.int 12)) aNil)))))
noncomputable def F_is_word : List D → Option D := sealed (runD 1 B_is_word)
abbrev sp_is_word (K : PySem.W.Frag) : Sp := spP K kNames .no 1 F_is_word
noncomputable def B_named_row : SF :=
 (seqS (ifS (orB (notB (bD (callD F_begins_with (aCons (vD 0) (aCons (tupD (aCons (vD 1) aNil)) aNil))))) (orB (bD (oD (sealed ltD) (callD (sealed lenD) (aCons (vD 0) aNil)) (cD (.int 2)))) (notB (bD (callD F_is_word (aCons (oD (sealed ixD) (vD 0) (cD (.int 1))) aNil)))))) (retS (cD .non))
 nxS)
 (seqS (setS 3 (mk [false, false, false, false] (callD F_numbers_of (aCons (slD (sealed slDD) (vD 0) (atO (cD (.int 2))) noO) (aCons (vD 2) aNil)))))
 (seqS (ifS (bD (oD (sealed isD) (vD 3) (cD .non))) (retS (cD .non))
 nxS)
 (retS (tupD (aCons (oD (sealed ixD) (vD 0) (cD (.int 1))) (aCons (vD 3) aNil)))))))
noncomputable def F_named_row : List D → Option D := sealed (runD 4 B_named_row)
abbrev sp_named_row (K : PySem.W.Frag) : Sp := spP K kNames .no 3 F_named_row
noncomputable def I_Bridge : List D → Option (List (Fl × D)) := initD [(.name, (vD 1)), (.length, (vD 2)), (.bears, (vD 3)), (.wide, (vD 4)), (.most, (vD 5))]
abbrev sp_Bridge_init (K : PySem.W.Frag) : Sp := spI K kNames .Bridge 5 I_Bridge
noncomputable def B_read_bridge : SF :=
 (seqS (setS 3 (mk [false, false, false, false, false] (callD F_named_row (aCons (callD F_words_at (aCons (vD 0) (aCons (vD 1) aNil))) (aCons (cD (.str (Str.ofString "bridge"))) (aCons (tupD (aCons (cD (.kt [.int 1, .int 1000])) (aCons (cD (.kt [.int 1, .int 10000000])) (aCons (cD (.kt [.int 1, .int 200])) (aCons (cD (.kt [.int 1, .int 10000000])) aNil))))) aNil))))))
 (seqS (ifS (orB (bD (oD (sealed isD) (vD 3) (cD .non))) (bD (oD (sealed geD) (callD (sealed lenD) (aCons (vD 2) aNil)) (cD (.int 6))))) nvS
 nxS)
 (seqS (ifS (bD (oD (sealed inTD) (oD (sealed ixD) (vD 3) (cD (.int 0))) (vD 2))) nvS
 nxS)
 (seqS (setS 4 (mk [false, false, false, false, false] (oD (sealed ixD) (vD 3) (cD (.int 1)))))
 (retS (makeD .Bridge I_Bridge (aCons (oD (sealed ixD) (vD 3) (cD (.int 0))) (aCons (oD (sealed ixD) (vD 4) (cD (.int 0))) (aCons (oD (sealed ixD) (vD 4) (cD (.int 1))) (aCons (oD (sealed ixD) (vD 4) (cD (.int 2))) (aCons (oD (sealed ixD) (vD 4) (cD (.int 3))) aNil)))))))))))
noncomputable def F_read_bridge : List D → Option D := sealed (runD 5 B_read_bridge)
abbrev sp_read_bridge (K : PySem.W.Frag) : Sp := spP K kNames .no 3 F_read_bridge
noncomputable def B_names_in : SF :=
 (retS (compF (itD (vD 0)) (bD (callD (sealed (isC .Bridge)) (aCons (vD 0) aNil))) (uD (sealed (getF .name)) (vD 0)) []))
noncomputable def F_names_in : List D → Option D := sealed (runF 1 B_names_in)
abbrev sp_names_in (K : PySem.W.Frag) : Sp := spP K kNames .yes 1 F_names_in
noncomputable def B_read_pieces : SF :=
 (seqS (setS 1 (mk [false, false] (lstD (aCons (callD F_read_open (aCons (vD 0) (aCons (cD (.int 0)) aNil))) aNil))))
 (seqS (whS (orB (bD (oD (sealed eqD) (callD (sealed lenD) (aCons (vD 1) aNil)) (cD (.int 1)))) (bD (callD F_begins_with (aCons (callD F_words_at (aCons (vD 0) (aCons (callD (sealed lenD) (aCons (vD 1) aNil)) aNil))) (aCons (tupD (aCons (cD (.str (Str.ofString "bridge"))) aNil)) aNil)))))
 (seqS (appA [false, true] 1 (callD F_read_bridge (aCons (vD 0) (aCons (callD (sealed lenD) (aCons (vD 1) aNil)) (aCons (callD F_names_in (aCons (vD 1) aNil)) aNil)))))
 (appA [false, true] 1 (callD F_read_open (aCons (vD 0) (aCons (callD (sealed lenD) (aCons (vD 1) aNil)) aNil))))))
 (retO 1)))
noncomputable def F_read_pieces : List D → Option D := sealed (runF 2 B_read_pieces)
abbrev sp_read_pieces (K : PySem.W.Frag) : Sp := spP K kNames .yes 1 F_read_pieces
noncomputable def B_read_round : SF :=
 (seqS (setS 4 (mk [false, false, false, false, false] (callD F_named_row (aCons (callD F_words_at (aCons (vD 0) (aCons (vD 1) aNil))) (aCons (cD (.str (Str.ofString "round"))) (aCons (tupD (aCons (cD (.kt [.int 1, .int 1000])) aNil)) aNil))))))
 (seqS (ifS (bD (oD (sealed isD) (vD 4) (cD .non))) nvS
 nxS)
 (seqS (ifS (bD (oD (sealed ninD) (oD (sealed ixD) (vD 4) (cD (.int 0))) (vD 2))) nvS
 nxS)
 (seqS (ifS (bD (oD (sealed inTD) (oD (sealed ixD) (vD 4) (cD (.int 0))) (compF (itD (vD 3)) yesB (oD (sealed ixD) (vD 0) (cD (.int 0))) []))) nvS
 nxS)
 (retS (tupD (aCons (oD (sealed ixD) (vD 4) (cD (.int 0))) (aCons (oD (sealed ixD) (oD (sealed ixD) (vD 4) (cD (.int 1))) (cD (.int 0))) aNil))))))))
noncomputable def F_read_round : List D → Option D := sealed (runD 5 B_read_round)
abbrev sp_read_round (K : PySem.W.Frag) : Sp := spP K kNames .no 4 F_read_round
noncomputable def B_read_shut : SF :=
 (seqS (setS 3 (mk [false, false, false, false] (callD F_named_row (aCons (callD F_words_at (aCons (vD 0) (aCons (vD 1) aNil))) (aCons (cD (.str (Str.ofString "shut"))) (aCons (tupD (aCons (cD (.kt [.int 0, .int 10000])) (aCons (cD (.kt [.int 0, .int 10000])) aNil))) aNil))))))
 (seqS (ifS (orB (bD (oD (sealed isD) (vD 3) (cD .non))) (bD (oD (sealed geD) (oD (sealed ixD) (oD (sealed ixD) (vD 3) (cD (.int 1))) (cD (.int 0))) (oD (sealed ixD) (oD (sealed ixD) (vD 3) (cD (.int 1))) (cD (.int 1)))))) nvS
 nxS)
 (seqS (ifS (bD (oD (sealed ninD) (oD (sealed ixD) (vD 3) (cD (.int 0))) (vD 2))) nvS
 nxS)
 (retS (tupD (aCons (oD (sealed ixD) (vD 3) (cD (.int 0))) (aCons (oD (sealed ixD) (oD (sealed ixD) (vD 3) (cD (.int 1))) (cD (.int 0))) (aCons (oD (sealed ixD) (oD (sealed ixD) (vD 3) (cD (.int 1))) (cD (.int 1))) aNil))))))))
noncomputable def F_read_shut : List D → Option D := sealed (runD 4 B_read_shut)
abbrev sp_read_shut (K : PySem.W.Frag) : Sp := spP K kNames .no 3 F_read_shut
noncomputable def I_Road : List D → Option (List (Fl × D)) := initD [(.pieces, (callD (sealed listD) (aCons (vD 1) aNil))), (.rounds, (callD (sealed listD) (aCons (vD 2) aNil))), (.shuts, (callD (sealed listD) (aCons (vD 3) aNil)))]
abbrev sp_Road_init (K : PySem.W.Frag) : Sp := spI K kNames .Road 3 I_Road
noncomputable def B_road_from : SF :=
 (seqS (setS 1 (mk [false, false, false, false, false, false] (callD F_read_pieces (aCons (vD 0) aNil))))
 (seqS (setS 2 (mk [false, false, false, false, false, false] (callD F_names_in (aCons (vD 1) aNil))))
 (seqS (setS 3 (mk [false, false, false, false, false, false] (lstD aNil)))
 (seqS (setS 4 (mk [false, false, false, true, false, false] (lstD aNil)))
 (seqS (setS 5 (mk [false, false, false, true, true, false] (callD (sealed lenD) (aCons (vD 1) aNil))))
 (seqS (whS (bD (callD F_begins_with (aCons (callD F_words_at (aCons (vD 0) (aCons (vD 5) aNil))) (aCons (tupD (aCons (cD (.str (Str.ofString "round"))) (aCons (cD (.str (Str.ofString "shut"))) aNil))) aNil))))
 (seqS (ifS (bD (callD F_begins_with (aCons (callD F_words_at (aCons (vD 0) (aCons (vD 5) aNil))) (aCons (tupD (aCons (cD (.str (Str.ofString "round"))) aNil)) aNil)))) (appW 3 (callD F_read_round (aCons (vD 0) (aCons (vD 5) (aCons (vD 2) (aCons (vD 3) aNil))))))
 (appS 4 (mk [false, false, false, true, true, false] (callD F_read_shut (aCons (vD 0) (aCons (vD 5) (aCons (vD 2) aNil)))))))
 (setS 5 (mk [false, false, false, true, true, false] (oD (sealed addD) (vD 5) (cD (.int 1)))))))
 (retS (tupD (aCons (makeD .Road I_Road (aCons (vD 1) (aCons (vD 3) (aCons (vD 4) aNil)))) (aCons (vD 5) aNil))))))))))
noncomputable def F_road_from : List D → Option D := sealed (runD 6 B_road_from)
abbrev sp_road_from (K : PySem.W.Frag) : Sp := spP K kNames .no 1 F_road_from
noncomputable def B_road_of : SF :=
 (seqS (setS 1 (mk [false, false, false] (callD F_rows_of (aCons (vD 0) aNil))))
 (seqS (setS 2 (mk [false, false, false] (callD F_road_from (aCons (vD 1) aNil))))
 (seqS (ifS (bD (oD (sealed ltD) (oD (sealed ixD) (vD 2) (cD (.int 1))) (callD (sealed lenD) (aCons (vD 1) aNil)))) nvS
 nxS)
 (retS (oD (sealed ixD) (vD 2) (cD (.int 0)))))))
noncomputable def F_road_of : List D → Option D := sealed (runD 3 B_road_of)
abbrev sp_road_of (K : PySem.W.Frag) : Sp := spP K kNames .no 1 F_road_of
noncomputable def B_law_pieces : SF :=
 (seqS (setS 1 (mk [false, false, false] (lstD aNil)))
 (seqS (forS (mk [false, true, false] (itD (vD 0))) (nmG 2)
 (ifS (bD (oD (sealed eqD) (oD (sealed ixD) (vD 2) (cD (.int 0))) (cD (.str (Str.ofString "open"))))) (appS 1 (mk [false, true, false] (makeD .Open I_Open (aCons (oD (sealed ixD) (vD 2) (cD (.int 1))) aNil))))
 (appS 1 (mk [false, true, false] (makeD .Bridge I_Bridge (aCons (oD (sealed ixD) (vD 2) (cD (.int 1))) (aCons (oD (sealed ixD) (vD 2) (cD (.int 2))) (aCons (oD (sealed ixD) (vD 2) (cD (.int 3))) (aCons (oD (sealed ixD) (vD 2) (cD (.int 4))) (aCons (oD (sealed ixD) (vD 2) (cD (.int 5))) aNil))))))))))
 (retO 1)))
noncomputable def F_law_pieces : List D → Option D := sealed (runF 3 B_law_pieces)
abbrev sp_law_pieces (K : PySem.W.Frag) : Sp := spP K kNames .yes 1 F_law_pieces
noncomputable def B_law_told : SF :=
 (seqS (ifS (bD (callD (sealed (isC .Open)) (aCons (vD 0) aNil))) (retS (tupD (aCons (cD (.str (Str.ofString "open"))) (aCons (uD (sealed (getF .length)) (vD 0)) aNil))))
 nxS)
 (seqS (ifS (notB (bD (callD (sealed (isC .Bridge)) (aCons (vD 0) aNil)))) (retS (cD .non))
 nxS)
 (retS (tupD (aCons (cD (.str (Str.ofString "bridge"))) (aCons (uD (sealed (getF .name)) (vD 0)) (aCons (uD (sealed (getF .length)) (vD 0)) (aCons (uD (sealed (getF .bears)) (vD 0)) (aCons (uD (sealed (getF .wide)) (vD 0)) (aCons (uD (sealed (getF .most)) (vD 0)) aNil))))))))))
noncomputable def F_law_told : List D → Option D := sealed (runD 1 B_law_told)
abbrev sp_law_told (K : PySem.W.Frag) : Sp := spP K kNames .no 1 F_law_told
noncomputable def B_law_road_is : SF :=
 (seqS (ifS (orB (notB (bD (callD (sealed (isC .Road)) (aCons (vD 0) aNil)))) (notB (bD (callD (sealed (isT "list")) (aCons (uD (sealed (getF .pieces)) (vD 0)) aNil))))) (retS (cD (.bl false)))
 nxS)
 (seqS (ifS (notB (bD (callD F_law_same (aCons (compF (itD (uD (sealed (getF .pieces)) (vD 0))) yesB (callD F_law_told (aCons (vD 0) aNil)) []) (aCons (vD 1) aNil))))) (retS (cD (.bl false)))
 nxS)
 (retS (andD (callD F_law_same (aCons (uD (sealed (getF .rounds)) (vD 0)) (aCons (vD 2) aNil))) (callD F_law_same (aCons (uD (sealed (getF .shuts)) (vD 0)) (aCons (vD 3) aNil)))))))
noncomputable def F_law_road_is : List D → Option D := sealed (runD 4 B_law_road_is)
abbrev sp_law_road_is (K : PySem.W.Frag) : Sp := spP K kNames .no 4 F_law_road_is
noncomputable def B_road_text : SF :=
 (retS (mtD (sealed joinD) (cD (.str (Str.ofString "\n"))) (aCons (callD F_road_rows (aCons (vD 0) aNil)) aNil)))
noncomputable def F_road_text : List D → Option D := sealed (runD 1 B_road_text)
abbrev sp_road_text (K : PySem.W.Frag) : Sp := spP K kNames .no 1 F_road_text
noncomputable def B_law : SF :=
 (seqS (asgS (mk [false, false, false, false, false, false, false, false, false, false] (callD F_law_parts (aCons (vD 0) aNil))) (tupG [1, 2, 3, 4]))
 (seqS (setS 5 (mk [false, false, false, false, false, false, false, false, false, false] (makeD .Road I_Road (aCons (callD F_law_pieces (aCons (vD 2) aNil)) (aCons (vD 3) (aCons (vD 4) aNil))))))
 (seqS (setS 6 (mk [false, false, false, false, false, false, false, false, false, false] (compF (itD (vD 2)) yesB (mtD (sealed joinD) (cD (.str (Str.ofString " "))) (aCons (compF (itD (vD 0)) yesB (callD (sealed strD) (aCons (vD 0) aNil)) []) aNil)) [])))
 (seqS (setS 6 (mk [false, false, false, false, false, false, false, false, false, false] (oD (sealed addD) (vD 6) (compT 2 (itD (vD 3)) yesB (oD (sealed addD) (oD (sealed addD) (oD (sealed addD) (cD (.str (Str.ofString "round "))) (vD 0)) (cD (.str (Str.ofString " ")))) (callD (sealed strD) (aCons (vD 1) aNil))) []))))
 (seqS (setS 6 (mk [false, false, false, false, false, false, false, false, false, false] (oD (sealed addD) (vD 6) (compT 3 (itD (vD 4)) yesB (oD (sealed addD) (oD (sealed addD) (oD (sealed addD) (oD (sealed addD) (oD (sealed addD) (cD (.str (Str.ofString "shut "))) (vD 0)) (cD (.str (Str.ofString " ")))) (callD (sealed strD) (aCons (vD 1) aNil))) (cD (.str (Str.ofString " ")))) (callD (sealed strD) (aCons (vD 2) aNil))) []))))
 (seqS (setS 7 (mk [false, false, false, false, false, false, false, false, false, false] (callD F_road_rows (aCons (vD 5) aNil))))
 (seqS (ifS (notB (bD (callD F_law_same (aCons (vD 7) (aCons (vD 6) aNil))))) (retS (cD (.bl false)))
 nxS)
 (seqS (appS 7 (mk [false, false, false, false, false, false, false, true, false, false] (cD (.str (Str.ofString "more")))))
 (seqS (ifS (orB (notB (bD (callD F_law_same (aCons (callD F_road_text (aCons (vD 5) aNil)) (aCons (mtD (sealed joinD) (cD (.str (Str.ofString "\n"))) (aCons (vD 6) aNil)) aNil))))) (notB (bD (callD F_law_same (aCons (callD F_road_rows (aCons (vD 5) aNil)) (aCons (vD 6) aNil)))))) (retS (cD (.bl false)))
 nxS)
 (seqS (setS 8 (mk [false, false, false, false, false, false, false, true, false, false] (callD F_road_of (aCons (mtD (sealed joinD) (cD (.str (Str.ofString "\n"))) (aCons (vD 6) aNil)) aNil))))
 (seqS (ifS (orB (notB (bD (callD F_law_road_is (aCons (vD 8) (aCons (vD 2) (aCons (vD 3) (aCons (vD 4) aNil))))))) (bD (oD (sealed neD) (callD F_road_text (aCons (vD 8) aNil)) (mtD (sealed joinD) (cD (.str (Str.ofString "\n"))) (aCons (vD 6) aNil))))) (retS (cD (.bl false)))
 nxS)
 (seqS (setS 9 (mk [false, false, false, false, false, false, false, true, false, false] (callD F_road_from (aCons (vD 6) aNil))))
 (retS (andD (callD F_law_road_is (aCons (oD (sealed ixD) (vD 9) (cD (.int 0))) (aCons (vD 2) (aCons (vD 3) (aCons (vD 4) aNil))))) (callD F_law_road_is (aCons (vD 5) (aCons (vD 2) (aCons (vD 3) (aCons (vD 4) aNil)))))))))))))))))))
noncomputable def F_law : List D → Option D := sealed (runD 10 B_law)
open PD
theorem mulD_ii {i j : Int} (h : (-18446744073709551616 < i ∧ i < 18446744073709551616) ∨ (-18446744073709551616 < j ∧ j < 18446744073709551616)) : sealed mulD (.int i) (.int j) = some (.int (i * j)) := by rw [seal_eq]; exact if_pos h
theorem modD_ii {i j : Int} (h : 0 < j) : sealed modD (.int i) (.int j) = some (.int (i % j)) := by rw [seal_eq]; exact if_pos h
theorem fdivC_ii {i j : Int} (h : 0 < j ∧ j < 1073741824) : sealed fdivC (.int i) (.int j) = some (.int (i / j)) := by rw [seal_eq]; exact if_pos h
theorem fdivD_ii {i j : Int} (h : 0 < j ∧ j < 18446744073709551616) : sealed fdivD (.int i) (.int j) = some (.int (i / j)) := by rw [seal_eq]; exact if_pos h
theorem addD_ii {i j : Int} : sealed addD (.int i) (.int j) = some (.int (i + j)) := by rw [seal_eq]; exact rfl
theorem subD_ii {i j : Int} : sealed subD (.int i) (.int j) = some (.int (i - j)) := by rw [seal_eq]; exact rfl
theorem ltD_ii {i j : Int} : sealed ltD (.int i) (.int j) = some (.bl (decide (i < j))) := by rw [seal_eq]; exact rfl
theorem leD_ii {i j : Int} : sealed leD (.int i) (.int j) = some (.bl (decide (i ≤ j))) := by rw [seal_eq]; exact rfl
theorem gtD_ii {i j : Int} : sealed gtD (.int i) (.int j) = some (.bl (decide (j < i))) := by rw [seal_eq]; exact rfl
theorem geD_ii {i j : Int} : sealed geD (.int i) (.int j) = some (.bl (decide (j ≤ i))) := by rw [seal_eq]; exact rfl
theorem eqD_ii {i j : Int} : sealed eqD (.int i) (.int j) = some (.bl (decide (i = j))) := by rw [seal_eq]; exact rfl
theorem eqD_ss {i j : Str} : sealed eqD (.str i) (.str j) = some (.bl (decide (i = j))) := by rw [seal_eq]; exact rfl
theorem eqD_bb {i j : Bool} : sealed eqD (.bl i) (.bl j) = some (.bl (decide (i = j))) := by rw [seal_eq]; exact rfl
theorem neD_ii {i j : Int} : sealed neD (.int i) (.int j) = some (.bl (!decide (i = j))) := by rw [seal_eq]; exact rfl
theorem negD_i {i : Int} : sealed negD (.int i) = some (.int (-i)) := by rw [seal_eq]; exact rfl
theorem ixD_l {xs : List D} {i : Int} : sealed ixD (.lst xs) (.int i) = atI xs i := by rw [seal_eq]; exact rfl
theorem ixD_t {xs : List D} {i : Int} : sealed ixD (.tup xs) (.int i) = atI xs i := by rw [seal_eq]; exact rfl
theorem ixD_f {xs : List D} {i : Int} : sealed ixD (.fz xs) (.int i) = atI xs i := by rw [seal_eq]; exact rfl
theorem atI_nat' {α : Type} {xs : List α} {n : Nat} (h : n < xs.length) : atI xs (n : Int) = xs[n]? := by
 unfold atI ixN
 rw [if_pos (by omega), if_pos (by omega)]
 rfl
theorem atI_of {α : Type} {xs : List α} {i : Int} {n : Nat} {x : α} (hi : i = n) (h : xs[n]? = some x) : atI xs i = some x := by
 subst hi
 rw [atI_nat' (List.getElem?_eq_some_iff.mp h).1, h]
theorem vD_z {o : Option D} {r : PD.Env} : vD 0 (o :: r) = o := rfl
theorem vD_s {n : Nat} {o : Option D} {r : PD.Env} : vD (n + 1) (o :: r) = vD n r := rfl
theorem maskD_f {fl : List Bool} {o : Option D} {r : PD.Env} : maskD (false :: fl) (o :: r) = o :: maskD fl r := rfl
theorem maskD_t {fl : List Bool} {o : Option D} {r : PD.Env} : maskD (true :: fl) (o :: r) = none :: maskD fl r := rfl
theorem maskD_n {r : PD.Env} : maskD [] r = [] := rfl
theorem own_z {xs : List D} {r : PD.Env} : ownAt 0 (some (.lst xs) :: r) = some xs := rfl
theorem own_s {n : Nat} {o : Option D} {r : PD.Env} : ownAt (n + 1) (o :: r) = ownAt n r := rfl
theorem enumD_l {xs : List D} : sealed enumD [.lst xs] = some (enumG xs) := by rw [seal_eq]; exact rfl
theorem zipL_l {xs ys : List D} : sealed zipL [.lst xs, .lst ys] = some (zipG xs ys) := by rw [seal_eq]; exact rfl
theorem lenD_l {xs : List D} : sealed lenD [.lst xs] = some (.int xs.length) := by rw [seal_eq]; rfl
theorem lenD_t {xs : List D} : sealed lenD [.tup xs] = some (.int xs.length) := by rw [seal_eq]; rfl
theorem bindS {α β : Type} {a : α} {f : α → Option β} : (some a).bind f = f a := rfl
theorem ite_tt {α : Type} {a b : α} : (if true = true then a else b) = a := rfl
theorem ite_ff {α : Type} {a b : α} : (if false = true then a else b) = b := rfl
theorem seqS_nx {F G : SF} {e e1 : PD.Env} (h : F e = some (.nx e1)) : seqS F G e = G e1 := by unfold seqS; rw [h]; rfl
theorem run_rt {n : Nat} {b : SF} {ds : List D} {d : D} (h : b (startD n ds) = some (.rt d)) : runD n b ds = some d := by unfold runD; rw [h]; rfl
theorem runF_rt {n : Nat} {b : SF} {ds : List D} {d : D} (h : b (startD n ds) = some (.rt d)) : runF n b ds = some d := by unfold runF; rw [h]; rfl
theorem mlo {a k : Int} (h : 0 < k := by decide) : 0 ≤ a % k := Int.emod_nonneg _ (Int.ne_of_gt h)
theorem mhi {a k : Int} (h : 0 < k := by decide) : a % k < k := Int.emod_lt_of_pos _ h
theorem mge {a k c m : Int} (h : 0 < k := by decide) (h2 : m ≤ c := by decide) : m ≤ c + a % k := by
 have := mlo (a := a) h
 omega
theorem mle {a k c m : Int} (h : 0 < k := by decide) (h2 : c + k ≤ m + 1 := by decide) : c + a % k ≤ m := by
 have := mhi (a := a) h
 omega
theorem ipos {a : Int} (h : 1 ≤ a) : 0 < a := h
theorem inn {a : Int} (h : 1 ≤ a) : 0 ≤ a := Int.le_of_lt h
theorem ilt {a m n : Int} (h : a ≤ m) (h2 : m < n := by decide) : a < n := Int.lt_of_le_of_lt h h2
theorem ile {a m n : Int} (h : a ≤ m) (h2 : m ≤ n := by decide) : a ≤ n := Int.le_trans h h2
theorem ipz {b : Int} (h : 0 ≤ b) (h0 : ¬ b = 0) : 0 < b := by omega
theorem ine {b : Int} (h : 0 < b) : b ≠ 0 := Int.ne_of_gt h
theorem inl0 {b : Int} (h : 0 < b) : ¬ b < 0 := fun q => Int.lt_irrefl _ (Int.lt_trans h q)
theorem inn1 {b : Int} (h : 0 ≤ b) : 0 < b + 1 := Int.lt_add_one_of_le h
theorem itn {i : Int} (h : 0 ≤ i) : i = ((i.toNat : Nat) : Int) := (Int.toNat_of_nonneg h).symm
theorem nit {i n : Nat} (h : i < n) : (i : Int) < (n : Int) := Int.ofNat_lt.mpr h
theorem nsub {a j m n : Nat} (h : a + (m - j) ≤ n + 1) (hj : j < m) : a + (m - (j + 1)) ≤ n := by omega
theorem nsub' {a j m n : Nat} (h : (m - j) + a ≤ n + 1) (hj : j < m) : (m - (j + 1)) + a ≤ n := by omega
theorem nlt {a m n : Nat} (h : a ≤ m) (h2 : m < n := by decide) : a < n := Nat.lt_of_le_of_lt h h2
theorem nle {a m n : Nat} (h : a ≤ m) (h2 : m ≤ n := by decide) : a ≤ n := Nat.le_trans h h2
theorem nll {a m n : Nat} (h : a < m) (h2 : m ≤ n := by decide) : a < n := Nat.lt_of_lt_of_le h h2
theorem nla {a b m n : Nat} (h : a + b < m) (h2 : m ≤ n := by decide) : a < n := Nat.lt_of_le_of_lt (Nat.le_add_right a b) (Nat.lt_of_lt_of_le h h2)
set_option compiler.extract_closed false
local macro_rules | `(tactic| o_reads) => `(tactic| first | decide | exact .inl (by decide) | exact .inr (by decide) | omega)
local macro_rules | `(tactic| o_shape) => `(tactic| first | decide | exact mlo | exact mhi | exact mge | exact mle | assumption | exact Nat.le_refl _ | exact ipos (by assumption) | exact inn (by assumption) | exact ilt (by assumption) | exact ile (by assumption) | exact nlt (by assumption) | exact nle (by assumption) | exact nll (by assumption) | exact nla (by assumption) | exact ine (by assumption) | exact ine (ipos (by assumption)) | exact ipz (by assumption) (by assumption) | exact Int.le_of_lt (by assumption) | exact inl0 (by assumption) | exact inn1 (by assumption) | exact ine (inn1 (by assumption)) | exact itn (by assumption) | exact itn mge | exact nsub (by assumption) (by assumption) | exact nsub' (by assumption) (by assumption) | omega)
local macro_rules | `(tactic| k_search ($a, $bs,*)) => `(tactic| simp (disch := o_reads) only [$a:term, $[$bs:term],*, slD, atO, noO, iaD, itD, enumD_l, zipL_l, lenD_l, lenD_t, forS, runD, runF, seqS, setS, retO, appS, appW, asgS, nmG, tupG, setsG, retS, ifS, nxS, bD, mk, maskD_f, maskD_t, maskD_n, own_z, own_s, oD, uD, vD_z, vD_s, cD, callD, aCons, aNil, tupD, lstD, andB, orB, notB, andD, orD, notD, bindS, ite_tt, ite_ff, if_true, if_false, List.set_cons_zero, List.set_cons_succ, List.length_map, List.length_range, List.length_append, List.length_cons, List.length_nil, mulD_ii, modD_ii, fdivC_ii, fdivD_ii, addD_ii, subD_ii, ltD_ii, leD_ii, gtD_ii, eqD_ii, eqD_ss, neD_ii, negD_i])
local macro_rules | `(tactic| k_search ($a)) => `(tactic| k_search ($a, bindS))
local macro_rules | `(tactic| ktf_call $t) => `(tactic| refine (seqS_nx (by k_search $t; try rfl)).trans ?_)
theorem forD_inv {g : GF} {b : SF} (Pv : Nat → PD.Env → Prop) : ∀ {ds : List D} {env : PD.Env} (k : Nat), Pv k env → (∀ i d e, ds[i]? = some d → Pv (k + i) e → ∃ e1, g d e = some e1 ∧ ∃ e2, b e1 = some (.nx e2) ∧ Pv (k + i + 1) e2) → ∃ e', forD g b ds env = some (.nx e') ∧ Pv (k + ds.length) e'
 | [], env, k, h0, _ => ⟨env, rfl, h0⟩
 | d :: ds, env, k, h0, hs => by
   obtain ⟨e1, h1, e2, h2, p2⟩ := hs 0 d env rfl h0
   obtain ⟨e', h3, p3⟩ := forD_inv (g := g) (b := b) Pv (ds := ds) (env := e2) (k + 1) p2 (fun i d e hd hp => by
    obtain ⟨f1, q1, f2, q2, q3⟩ := hs (i + 1) d e hd (by rw [show k + (i + 1) = k + 1 + i from by omega]; exact hp)
    exact ⟨f1, q1, f2, q2, by rw [show k + 1 + i + 1 = k + (i + 1) + 1 from by omega]; exact q3⟩)
   refine ⟨e', ?_, by rw [List.length_cons, show k + (ds.length + 1) = k + 1 + ds.length from by omega]; exact p3⟩
   rw [forD, h1, bindS, h2, bindS]
   exact h3
theorem forD_end {g : GF} {b : SF} {ds : List D} {env : PD.Env} (Pv : Nat → PD.Env → Prop) (h0 : Pv 0 env) (hs : ∀ i d e, ds[i]? = some d → Pv i e → ∃ e1, g d e = some e1 ∧ ∃ e2, b e1 = some (.nx e2) ∧ Pv (i + 1) e2) : ∃ e', forD g b ds env = some (.nx e') ∧ Pv ds.length e' := by
 obtain ⟨e', h1, h2⟩ := forD_inv (g := g) (b := b) Pv 0 h0 (fun i d e hd hp => by rw [Nat.zero_add] at hp ⊢; exact hs i d e hd hp)
 exact ⟨e', h1, by rw [Nat.zero_add] at h2; exact h2⟩
theorem comp_map {fc : BF} {fe : VF} {caps : PD.Env} {α : Type} {mk : α → D} {f : α → D} : ∀ {xs : List α}, (∀ x ∈ xs, fc (some (mk x) :: caps) = some true ∧ fe (some (mk x) :: caps) = some (f x)) → compD fc fe caps (xs.map mk) = some (xs.map f)
 | [], _ => rfl
 | x :: xs, h => by
   obtain ⟨h1, h2⟩ := h x List.mem_cons_self
   rw [List.map_cons, compD, h1, bindS, ite_tt, h2, bindS, comp_map fun y hy => h y (List.mem_cons_of_mem _ hy)]
   rfl
theorem comp_sel {fc : BF} {fe : VF} {caps : PD.Env} {α : Type} {mk : α → D} {p : α → Bool} {f : α → D} : ∀ {xs : List α}, (∀ x ∈ xs, fc (some (mk x) :: caps) = some (p x) ∧ (p x = true → fe (some (mk x) :: caps) = some (f x))) → compD fc fe caps (xs.map mk) = some ((xs.filter p).map f)
 | [], _ => rfl
 | x :: xs, h => by
   obtain ⟨h1, h2⟩ := h x List.mem_cons_self
   rw [List.map_cons, compD, h1, bindS, comp_sel fun y hy => h y (List.mem_cons_of_mem _ hy)]
   cases e : p x with
   | true => rw [ite_tt, h2 e, bindS, List.filter_cons_of_pos (by simpa using e)]; rfl
   | false => rw [ite_ff, List.filter_cons_of_neg (by simp [e])]
theorem blS_map : ∀ {xs : List Bool}, blS (xs.map D.bl) = some xs
 | [] => rfl
 | x :: xs => by rw [List.map_cons, blS, blS_map]; rfl
local macro_rules | `(tactic| k_search ($a, $bs,*)) => `(tactic| simp (disch := o_reads) only [$a:term, $[$bs:term],*, mtD, slD, atO, noO, iaD, itD, enumD_l, lenD_l, lenD_t, forS, runD, runF, seqS, setS, retO, appS, appW, revS, asgS, nmG, tupG, setsG, retS, ifS, nxS, bD, mk, maskD_f, maskD_t, maskD_n, own_z, own_s, oD, uD, vD_z, vD_s, cD, callD, aCons, aNil, tupD, lstD, andB, orB, notB, andD, orD, notD, bindS, ite_tt, ite_ff, if_true, if_false, List.set_cons_zero, List.set_cons_succ, List.length_map, List.length_range, List.length_append, List.length_cons, List.length_nil, mulD_ii, modD_ii, fdivC_ii, fdivD_ii, addD_ii, subD_ii, ltD_ii, leD_ii, gtD_ii, geD_ii, eqD_ii, eqD_ss, neD_ii, negD_i, Bool.not_true, Bool.not_false, Bool.false_eq_true])
theorem jn_cut {c : Nat} : ∀ {p q x y : List Nat}, c ∉ p → c ∉ q → p ++ c :: x = q ++ c :: y → p = q ∧ x = y
 | [], [], _, _, _, _, h => ⟨rfl, (List.cons.inj h).2⟩
 | [], b :: q, _, _, _, hq, h => absurd (List.mem_cons.mpr (.inl (List.cons.inj h).1)) hq
 | a :: p, [], _, _, hp, _, h => absurd (List.mem_cons.mpr (.inl (List.cons.inj h).1.symm)) hp
 | a :: p, b :: q, x, y, hp, hq, h => by
   obtain ⟨e1, e2⟩ := List.cons.inj h
   obtain ⟨e3, e4⟩ := jn_cut (fun z => hp (List.mem_cons_of_mem _ z)) (fun z => hq (List.mem_cons_of_mem _ z)) e2
   exact ⟨by rw [e1, e3], e4⟩
theorem cs_app (a b : Str) : Tx.cs (a ++ b) = Tx.cs a ++ Tx.cs b := by
 show (a ++ b).cps.toList = _
 rw [PySem.Str.cps_append, Array.toList_append]
theorem cs_join (c : Nat) (x y : Str) (r : List Str) : Tx.cs (Str.join ⟨#[c]⟩ (x :: y :: r)) = Tx.cs x ++ c :: Tx.cs (Str.join ⟨#[c]⟩ (y :: r)) := by
 show Tx.cs (x ++ ⟨#[c]⟩ ++ Str.join ⟨#[c]⟩ (y :: r)) = _
 rw [cs_app, cs_app, List.append_assoc]
 rfl
theorem jn_inj {c : Nat} : ∀ {ps qs : List Str}, ps ≠ [] → qs ≠ [] → (∀ p ∈ ps, c ∉ Tx.cs p) → (∀ q ∈ qs, c ∉ Tx.cs q) → Str.join ⟨#[c]⟩ ps = Str.join ⟨#[c]⟩ qs → ps = qs
 | [], _, h, _, _, _, _ => absurd rfl h
 | _, [], _, h, _, _, _ => absurd rfl h
 | [p], [q], _, _, _, _, h => by rw [show p = q from h]
 | [p], q :: q' :: r, _, _, hp, _, h => by
   have := congrArg Tx.cs h
   rw [cs_join] at this
   exact absurd (show c ∈ Tx.cs p by rw [show Tx.cs p = _ from this]; exact List.mem_append_right _ List.mem_cons_self) (hp p List.mem_cons_self)
 | p :: p' :: r, [q], _, _, _, hq, h => by
   have := congrArg Tx.cs h
   rw [cs_join] at this
   exact absurd (show c ∈ Tx.cs q by rw [← show _ = Tx.cs q from this]; exact List.mem_append_right _ List.mem_cons_self) (hq q List.mem_cons_self)
 | p :: p' :: r, q :: q' :: s, _, _, hp, hq, h => by
   have := congrArg Tx.cs h
   rw [cs_join, cs_join] at this
   obtain ⟨e1, e2⟩ := jn_cut (hp p List.mem_cons_self) (hq q List.mem_cons_self) this
   rw [Tx.ext e1, jn_inj (ps := p' :: r) (qs := q' :: s) (by simp) (by simp) (fun z hz => hp z (List.mem_cons_of_mem _ hz)) (fun z hz => hq z (List.mem_cons_of_mem _ hz)) (Tx.ext e2)]
theorem split_jn {c : Nat} {ps : List Str} (h : ps ≠ []) (hf : ∀ p ∈ ps, c ∉ Tx.cs p) : Txt.split (Txt.join ⟨#[c]⟩ ps) ⟨#[c]⟩ = ps := by
 refine jn_inj (fun e => ?_) h (StrLaws.split_free _ c) hf ?_
 · have := PyProof.Rows.split_pos (Txt.join ⟨#[c]⟩ ps) ⟨#[c]⟩
   rw [e] at this
   exact absurd this (by decide)
 · rw [StrLaws.join_split]
   exact StrLaws.glued_eq_join _ _
theorem sp_is : Str.ofString " " = ⟨#[32]⟩ := by decide +kernel
theorem nl_is : Str.ofString "\n" = ⟨#[10]⟩ := by decide +kernel
theorem stS_map : ∀ {xs : List Str}, stS (xs.map D.str) = some xs
 | [] => rfl
 | x :: xs => by rw [List.map_cons, stS, stS_map]; rfl
theorem join_s {a : Str} {xs : List Str} (h : (xs.map (·.length)).sum + xs.length * a.length ≤ 16777216) : sealed joinD (.str a) [.lst (xs.map D.str)] = some (.str (Txt.join a xs)) := by
 rw [seal_eq]
 show (stS (xs.map D.str)).bind _ = _
 rw [stS_map, bindS, if_pos h]
theorem split_s {x : Str} {c : Nat} (h : x.length ≤ 1000000) : sealed splitD (.str x) [.str ⟨#[c]⟩] = some (.lst ((Txt.split x ⟨#[c]⟩).map .str)) := by
 rw [seal_eq]
 exact if_pos h
theorem starts_s {x y : Str} : sealed startsD (.str x) [.str y] = some (.bl (Txt.startswith x y)) := by rw [seal_eq]; rfl
theorem lenD_s {x : Str} (h : x.length ≤ 1000000) : sealed lenD [.str x] = some (.int x.length) := by rw [seal_eq]; exact if_pos h
theorem inT_ss {i j : Str} : sealed inTD (.str i) (.str j) = some (.bl (!(Builtin.Str.occurrences j i 0 j.length 1).isEmpty)) := by rw [seal_eq]; rfl
theorem neD_ss {i j : Str} : sealed neD (.str i) (.str j) = some (.bl (!decide (i = j))) := by rw [seal_eq]; rfl
theorem isD_n : sealed isD .non .non = some (.bl true) := by rw [seal_eq]; rfl
theorem isD_i {i : Int} : sealed isD (.int i) .non = some (.bl false) := by rw [seal_eq]; rfl
theorem isD_l {i : List D} : sealed isD (.lst i) .non = some (.bl false) := by rw [seal_eq]; rfl
theorem isD_t {i : List D} : sealed isD (.tup i) .non = some (.bl false) := by rw [seal_eq]; rfl
theorem isnt_i {i : Int} : sealed isntD (.int i) .non = some (.bl true) := by rw [seal_eq]; rfl
theorem all_b {bs : List Bool} : sealed allD [.lst (bs.map .bl)] = some (.bl (bs.all id)) := by
 rw [seal_eq]
 show (blS (bs.map D.bl)).map _ = _
 rw [blS_map]
 rfl
theorem sVs_str : ∀ {xs : List Str}, sVs (xs.map D.str) = some (xs.map V.str)
 | [] => rfl
 | x :: xs => by rw [List.map_cons, sVs, sVs_str]; rfl
theorem inV_str {x : Str} : ∀ {xs : List Str}, inV (.str x) (xs.map V.str) = decide (x ∈ xs)
 | [] => by rw [decide_eq_false (by simp)]; rfl
 | y :: ys => by
   show (eqV (V.str y) (V.str x) || inV (.str x) (ys.map V.str)) = _
   rw [inV_str, show eqV (V.str y) (V.str x) = decide (y = x) from rfl]
   by_cases h : y = x
   · subst h
     rw [decide_eq_true rfl, decide_eq_true List.mem_cons_self]
     rfl
   · rw [decide_eq_false h, Bool.false_or, Bool.eq_iff_iff, decide_eq_true_iff, decide_eq_true_iff, List.mem_cons]
     exact ⟨.inr, fun q => q.resolve_left fun e => h e.symm⟩
theorem inT_st {x : Str} {xs : List Str} : sealed inTD (.str x) (.tup (xs.map .str)) = some (.bl (decide (x ∈ xs))) := by
 rw [seal_eq]
 show ((some (V.str x)).bind fun z => (some (xs.map D.str)).bind fun ys => (sVs ys).map fun vs => inV z vs).map D.bl = _
 rw [bindS, bindS, sVs_str]
 show some (D.bl (inV (.str x) (xs.map V.str))) = _
 rw [inV_str]
theorem inT_sl {x : Str} {xs : List Str} : sealed inTD (.str x) (.lst (xs.map .str)) = some (.bl (decide (x ∈ xs))) := by
 rw [seal_eq]
 show ((some (V.str x)).bind fun z => (some (xs.map D.str)).bind fun ys => (sVs ys).map fun vs => inV z vs).map D.bl = _
 rw [bindS, bindS, sVs_str]
 show some (D.bl (inV (.str x) (xs.map V.str))) = _
 rw [inV_str]
theorem F_is_row {x sg : Str} {m : Int} (hx : x.length < 1000000) : F_is_row_of [.str x, .str sg, .int m] = some (.bl (Tx.row (fun c => decide (c ∈ Tx.cs sg)) m x)) := by
 rw [F_is_row_of, seal_eq]
 refine run_rt ?_
 show B_is_row_of [some (.str x), some (.str sg), some (.int m)] = _
 unfold B_is_row_of
 have hl := lenD_s (Nat.le_of_lt hx)
 unfold Tx.row
 by_cases c1 : (x.length : Int) < 1
 · have e : decide (1 ≤ x.length) = false := decide_eq_false (by omega)
   rw [e]
   k_search (hl, decide_eq_true c1)
   rfl
 by_cases c2 : m < (x.length : Int)
 · have e : decide ((x.length : Int) ≤ m) = false := decide_eq_false (by omega)
   rw [e, Bool.and_false]
   k_search (hl, decide_eq_false c1, decide_eq_true c2)
   rfl
 rw [decide_eq_true (show 1 ≤ x.length by omega), decide_eq_true (show (x.length : Int) ≤ m by omega)]
 ktf_call (hl, decide_eq_false c1, decide_eq_false c2)
 have hc : compF (itD (vD 0)) yesB (oD (sealed inTD) (vD 0) (vD 1)) [1] [some (.str x), some (.str sg), some (.int m)] = some (.lst (((Tx.cs x).map fun c => decide (c ∈ Tx.cs sg)).map .bl)) := by
  unfold compF
  simp only [itD, vD_z, bindS, itemsD]
  rw [if_pos (by rw [List.length_map]; exact Nat.lt_of_le_of_lt (Nat.le_of_eq (Tx.cs_len x)) hx), comp_map (f := fun c => D.bl (decide (c ∈ Tx.cs sg)))]
  · rw [List.map_map]; rfl
  · intro c _
    refine ⟨rfl, ?_⟩
    show oD (sealed inTD) (vD 0) (vD 1) [some (.str ⟨#[c]⟩), some (.str sg)] = _
    simp only [oD, vD_z, vD_s, bindS, inT_ss, StrLaws.found_one]
 k_search (hc, all_b)
 rw [List.all_map]
 rfl
theorem ix0 {a : D} {r : List D} : atI (a :: r) 0 = some a := atI_of (n := 0) rfl rfl
def numD : Option Int → D
 | none => .non
 | some n => .int n
def ansB (x : Str) (b : Int × Int) : Option Int := (Tx.num x).bind fun n => if b.1 ≤ n ∧ n ≤ b.2 then some n else none
def bdT (b : Int × Int) : D := .kt [.int b.1, .int b.2]
theorem bd0 {b : Int × Int} : sealed ixD (bdT b) (.int 0) = some (.int b.1) := by rw [seal_eq]; rfl
theorem bd1 {b : Int × Int} : sealed ixD (bdT b) (.int 1) = some (.int b.2) := by rw [seal_eq]; rfl
theorem int_s {x : Str} {n : Int} (h : intText? x = some n) (hl : x.length ≤ 640) : sealed intTD [.str x] = some (.int n) := by
 rw [seal_eq]
 show (if x.length ≤ 640 then (intText? x).map D.int else none) = _
 rw [if_pos hl, h]
 rfl
theorem F_num {x : Str} {m : Int} (hx : x.length < 1000000) : F_number_of [.str x, .int m] = some (numD ((Tx.num x).bind fun n => if n ≤ m then some n else none)) := by
 rw [F_number_of, seal_eq]
 refine run_rt ?_
 show B_number_of [some (.str x), some (.int m), none] = _
 unfold B_number_of
 have hr := F_is_row (x := x) (sg := Str.ofString "0123456789") (m := 60) hx
 rw [show (fun c => decide (c ∈ Tx.cs (Str.ofString "0123456789"))) = Tx.dig from funext Tx.in_figs] at hr
 cases hb : Tx.row Tx.dig 60 x with
 | false =>
   rw [hb] at hr
   rw [Tx.num_none hb]
   k_search (hr)
   rfl
 | true =>
   rw [hb] at hr
   obtain ⟨hd, hne, hl, h1, h2⟩ := Tx.num_row hb
   ktf_call (hr)
   have hi := int_s (Tx.int_of hd hne (by omega)) (by omega)
   by_cases c1 : (Tx.cs x)[0]? = some 48
   · by_cases c2 : x = Str.ofString "0"
     · have nq : ¬ ∃ r, Tx.cs x = 48 :: r ∧ r ≠ [] := by
        rintro ⟨r, e, hr⟩
        rw [(Tx.zero_iff x).mp c2] at e
        exact hr (List.cons.inj e).2.symm
       rw [h2 nq]
       ktf_call (starts_s, Tx.starts0, decide_eq_true c1, neD_ss, decide_eq_true c2)
       ktf_call (hi)
       by_cases c3 : m < Tx.val (Tx.cs x)
       · rw [Option.bind_some, if_neg (by omega)]
         k_search (isnt_i, decide_eq_true c3)
         rfl
       · rw [Option.bind_some, if_pos (by omega)]
         k_search (isnt_i, decide_eq_false c3)
         rfl
     · have q : ∃ r, Tx.cs x = 48 :: r ∧ r ≠ [] := by
        cases e : Tx.cs x with
        | nil => exact absurd e hne
        | cons a r =>
          rw [e] at c1
          have : a = 48 := Option.some.inj c1
          subst this
          exact ⟨r, rfl, fun z => c2 ((Tx.zero_iff x).mpr (by rw [e, z]))⟩
       rw [h1 q]
       k_search (starts_s, Tx.starts0, decide_eq_true c1, neD_ss, decide_eq_false c2)
       rfl
   · have nq : ¬ ∃ r, Tx.cs x = 48 :: r ∧ r ≠ [] := by
      rintro ⟨r, e, _⟩
      rw [e] at c1
      exact c1 rfl
     rw [h2 nq]
     ktf_call (starts_s, Tx.starts0, decide_eq_false c1)
     ktf_call (hi)
     by_cases c3 : m < Tx.val (Tx.cs x)
     · rw [Option.bind_some, if_neg (by omega)]
       k_search (isnt_i, decide_eq_true c3)
       rfl
     · rw [Option.bind_some, if_pos (by omega)]
       k_search (isnt_i, decide_eq_false c3)
       rfl
theorem F_within {x : Str} {b : Int × Int} (hx : x.length < 1000000) : F_number_within [.str x, bdT b] = some (numD (ansB x b)) := by
 rw [F_number_within, seal_eq]
 refine run_rt ?_
 show B_number_within [some (.str x), some (bdT b), none] = _
 unfold B_number_within
 have hn := F_num (x := x) (m := b.2) hx
 unfold ansB
 cases e : Tx.num x with
 | none =>
   rw [e] at hn
   have hn : F_number_of [.str x, .int b.2] = some .non := hn
   ktf_call (bd1, hn)
   k_search (isD_n)
   rfl
 | some n =>
   rw [e, Option.bind_some] at hn
   rw [Option.bind_some]
   by_cases c1 : n ≤ b.2
   · rw [if_pos c1] at hn
     have hn : F_number_of [.str x, .int b.2] = some (.int n) := hn
     ktf_call (bd1, hn)
     by_cases c2 : n < b.1
     · rw [if_neg (by omega)]
       k_search (isD_i, bd0, decide_eq_true c2)
       rfl
     · rw [if_pos ⟨by omega, c1⟩]
       k_search (isD_i, bd0, decide_eq_false c2)
       rfl
   · rw [if_neg c1] at hn
     have hn : F_number_of [.str x, .int b.2] = some .non := hn
     rw [if_neg (fun q => c1 q.2)]
     ktf_call (bd1, hn)
     k_search (isD_n)
     rfl
def seqO : List (Option Int) → Option (List Int)
 | [] => some []
 | none :: _ => none
 | some n :: r => (seqO r).map (n :: ·)
def nums (xs : List Str) (bs : List (Int × Int)) : Option (List Int) := if xs.length = bs.length then seqO (List.zipWith ansB xs bs) else none
def numsD : Option (List Int) → D
 | none => .non
 | some ns => .lst (ns.map .int)
theorem sVs_num : ∀ {os : List (Option Int)}, ∃ vs, sVs (os.map numD) = some vs ∧ inV .non vs = (seqO os).isNone ∧ ∀ ns, seqO os = some ns → os.map numD = ns.map .int
 | [] => ⟨[], rfl, rfl, fun ns h => by cases h; rfl⟩
 | none :: r => by
   obtain ⟨vs, h1, h2, h3⟩ := sVs_num (os := r)
   exact ⟨.non :: vs, by show (some V.non).bind (fun x => (sVs (r.map numD)).map (x :: ·)) = _; rw [h1]; rfl, rfl, fun ns h => by cases h⟩
 | some n :: r => by
   obtain ⟨vs, h1, h2, h3⟩ := sVs_num (os := r)
   refine ⟨.int n :: vs, by show (some (V.int n)).bind (fun x => (sVs (r.map numD)).map (x :: ·)) = _; rw [h1]; rfl, ?_, fun ns h => ?_⟩
   · show (eqV (V.int n) .non || inV .non vs) = _
     rw [h2, seqO, Option.isNone_map]
     rfl
   · obtain ⟨ms, e, rfl⟩ := Option.map_eq_some_iff.mp h
     rw [List.map_cons, h3 ms e]
     rfl
theorem inT_num {os : List (Option Int)} : sealed inTD .non (.lst (os.map numD)) = some (.bl (seqO os).isNone) := by
 obtain ⟨vs, h1, h2, _⟩ := sVs_num (os := os)
 rw [seal_eq]
 show ((some V.non).bind fun z => (some (os.map numD)).bind fun ys => (sVs ys).map fun vs => inV z vs).map D.bl = _
 rw [bindS, bindS, h1]
 show some (D.bl (inV .non vs)) = _
 rw [h2]
theorem zipX_lt {xs ys : List D} (h : xs.length ≤ ys.length) : sealed zipX [.lst xs, .tup ys] = some (zipG xs ys) := by rw [seal_eq]; exact if_pos h
theorem comp_win : ∀ {xs : List Str} {bs : List (Int × Int)} {caps : PD.Env}, (∀ x ∈ xs, x.length < 1000000) → compTD 2 yesB (callD F_number_within (aCons (vD 0) (aCons (vD 1) aNil))) caps (zipG (xs.map .str) (bs.map bdT)) = some ((List.zipWith ansB xs bs).map numD)
 | [], _, _, _ => rfl
 | _ :: _, [], _, _ => rfl
 | x :: xs, b :: bs, caps, h => by
   show compTD 2 _ _ _ (.tup [.str x, bdT b] :: zipG (xs.map .str) (bs.map bdT)) = _
   rw [compTD, if_pos (show [D.str x, bdT b].length = 2 from rfl), comp_win fun z hz => h z (List.mem_cons_of_mem _ hz)]
   have e : callD F_number_within (aCons (vD 0) (aCons (vD 1) aNil)) ([D.str x, bdT b].map some ++ caps) = some (numD (ansB x b)) := by
    show callD F_number_within _ (some (D.str x) :: some (bdT b) :: caps) = _
    simp only [callD, aCons, aNil, vD_z, vD_s, bindS, F_within (h x List.mem_cons_self)]
   rw [e]
   rfl
theorem F_numbers {xs : List Str} {bs : List (Int × Int)} (hx : ∀ x ∈ xs, x.length < 1000000) (hb : bs.length < 1000) : F_numbers_of [.lst (xs.map .str), .tup (bs.map bdT)] = some (numsD (nums xs bs)) := by
 rw [F_numbers_of, seal_eq]
 refine run_rt ?_
 show B_numbers_of [some (.lst (xs.map .str)), some (.tup (bs.map bdT)), none] = _
 unfold B_numbers_of nums
 by_cases c : xs.length = bs.length
 · rw [if_pos c]
   ktf_call (decide_eq_true (show (xs.length : Int) = (bs.length : Int) by omega))
   have hc : compT 2 (iaD (sealed zipX) (aCons (vD 0) (aCons (vD 1) aNil))) yesB (callD F_number_within (aCons (vD 0) (aCons (vD 1) aNil))) [] [some (.lst (xs.map .str)), some (.tup (bs.map bdT)), none] = some (.lst ((List.zipWith ansB xs bs).map numD)) := by
    unfold compT
    simp only [iaD, aCons, aNil, vD_z, vD_s, bindS]
    rw [zipX_lt (by rw [List.length_map, List.length_map, c]; exact Nat.le_refl _), bindS, if_pos (by unfold zipG; rw [List.length_zipWith, List.length_map, List.length_map]; omega), comp_win hx]
    rfl
   ktf_call (hc)
   obtain ⟨vs, _, _, h3⟩ := sVs_num (os := List.zipWith ansB xs bs)
   cases e : seqO (List.zipWith ansB xs bs) with
   | none =>
     k_search (inT_num, e, Option.isNone_none)
     rfl
   | some ns =>
     ktf_call (inT_num, e, Option.isNone_some)
     k_search (h3 ns e)
     rfl
 · rw [if_neg c]
   k_search (decide_eq_false (show ¬ (xs.length : Int) = (bs.length : Int) by omega))
   rfl
def begs (ws ks : List Str) : Bool := match ws with
 | [] => false
 | w :: _ => decide (w ∈ ks)
theorem F_begins {ws ks : List Str} : F_begins_with [.lst (ws.map .str), .tup (ks.map .str)] = some (.bl (begs ws ks)) := by
 rw [F_begins_with, seal_eq]
 refine run_rt ?_
 show B_begins_with [some (.lst (ws.map .str)), some (.tup (ks.map .str))] = _
 unfold B_begins_with
 cases ws with
 | nil =>
   k_search (List.map_nil)
   rfl
 | cons w r =>
   k_search (List.map_cons, decide_eq_true (show (0 : Int) < ((r.length + 1 : Nat) : Int) by omega), ixD_l, ix0, inT_st)
   rfl
theorem cut_map {α : Type} {f : α → D} {xs : List α} {k : Nat} : sealed slDD (.lst (xs.map f)) (some (k : Int)) none = some (.lst ((xs.drop k).map f)) := by
 rw [seal_eq]
 show some (D.lst (cutD _ _ _)) = _
 unfold cutD
 rw [HT.sIx_nat, HT.sIx_none, List.length_map, List.map_drop]
 congr 2
 by_cases h : k ≤ xs.length
 · rw [Nat.min_eq_left h, List.take_of_length_le (by rw [List.length_drop, List.length_map]; omega)]
 · rw [Nat.min_eq_right (by omega), List.drop_eq_nil_of_le (by rw [List.length_map]; omega), List.drop_eq_nil_of_le (by rw [List.length_map]; omega), List.take_nil]
def plainR (ws : List Str) (k : Str) (bs : List (Int × Int)) : Option (List Int) := if begs ws [k] = true then nums (ws.drop 1) bs else none
theorem F_plain {ws : List Str} {k : Str} {bs : List (Int × Int)} (hx : ∀ x ∈ ws, x.length < 1000000) (hb : bs.length < 1000) : F_plain_row [.lst (ws.map .str), .str k, .tup (bs.map bdT)] = some (numsD (plainR ws k bs)) := by
 rw [F_plain_row, seal_eq]
 refine run_rt ?_
 show B_plain_row [some (.lst (ws.map .str)), some (.str k), some (.tup (bs.map bdT))] = _
 unfold B_plain_row plainR
 have h1 := F_begins (ws := ws) (ks := [k])
 rw [List.map_cons, List.map_nil] at h1
 have h2 := F_numbers (xs := ws.drop 1) (bs := bs) (fun x h => hx x (List.mem_of_mem_drop h)) hb
 cases c : begs ws [k] with
 | false =>
   rw [c] at h1
   k_search (h1)
   rfl
 | true =>
   rw [c] at h1
   k_search (h1, show sealed slDD (.lst (ws.map D.str)) (some 1) none = some (.lst ((ws.drop 1).map .str)) from cut_map (k := 1), h2)
def namD : Option (Str × List Int) → D
 | none => .non
 | some p => .tup [.str p.1, .lst (p.2.map .int)]
def namedR (ws : List Str) (k : Str) (bs : List (Int × Int)) : Option (Str × List Int) := match ws with
 | a :: n :: r => if a = k ∧ Tx.row Tx.low 12 n = true then (nums r bs).map (n, ·) else none
 | _ => none
theorem F_word {x : Str} (hx : x.length < 1000000) : F_is_word [.str x] = some (.bl (Tx.row Tx.low 12 x)) := by
 rw [F_is_word, seal_eq]
 refine run_rt ?_
 show B_is_word [some (.str x)] = _
 unfold B_is_word
 have hr := F_is_row (x := x) (sg := Str.ofString "abcdefghijklmnopqrstuvwxyz") (m := 12) hx
 rw [show (fun c => decide (c ∈ Tx.cs (Str.ofString "abcdefghijklmnopqrstuvwxyz"))) = Tx.low from funext Tx.in_lets] at hr
 k_search (hr)
theorem F_named {ws : List Str} {k : Str} {bs : List (Int × Int)} (hx : ∀ x ∈ ws, x.length < 1000000) (hb : bs.length < 1000) : F_named_row [.lst (ws.map .str), .str k, .tup (bs.map bdT)] = some (namD (namedR ws k bs)) := by
 rw [F_named_row, seal_eq]
 refine run_rt ?_
 show B_named_row [some (.lst (ws.map .str)), some (.str k), some (.tup (bs.map bdT)), none] = _
 unfold B_named_row
 have h1 := F_begins (ws := ws) (ks := [k])
 rw [List.map_cons, List.map_nil] at h1
 cases ws with
 | nil =>
   have h1 : F_begins_with [.lst [], .tup [.str k]] = some (.bl false) := h1
   k_search (List.map_nil, h1)
   rfl
 | cons a ws =>
   have h1 : F_begins_with [.lst (.str a :: ws.map .str), .tup [.str k]] = some (.bl (decide (a ∈ [k]))) := h1
   by_cases ca : a = k
   · rw [decide_eq_true (List.mem_singleton.mpr ca)] at h1
     cases ws with
     | nil =>
       have h1 : F_begins_with [.lst [.str a], .tup [.str k]] = some (.bl true) := h1
       k_search (List.map_nil, List.map_cons, h1, decide_eq_true (show (((0 + 1 : Nat) : Int)) < 2 by decide))
       rfl
     | cons n r =>
       have h1 : F_begins_with [.lst (.str a :: .str n :: r.map .str), .tup [.str k]] = some (.bl true) := h1
       have hw := F_word (hx n (List.mem_cons_of_mem _ List.mem_cons_self))
       have h2 := F_numbers (xs := r) (bs := bs) (fun x h => hx x (List.mem_cons_of_mem _ (List.mem_cons_of_mem _ h))) hb
       have hs : sealed slDD (.lst (D.str a :: D.str n :: r.map D.str)) (some 2) none = some (.lst (r.map .str)) := cut_map (xs := a :: n :: r) (k := 2)
       have ha : atI (D.str a :: D.str n :: r.map D.str) 1 = some (.str n) := atI_of (n := 1) rfl rfl
       have hl : decide (((r.length + 1 + 1 : Nat) : Int) < 2) = false := decide_eq_false (by omega)
       cases c : Tx.row Tx.low 12 n with
       | false =>
         rw [c] at hw
         rw [namedR, if_neg (fun q => by rw [c] at q; cases q.2)]
         k_search (List.map_cons, h1, hl, ixD_l, ha, hw)
         rfl
       | true =>
         rw [c] at hw
         rw [namedR, if_pos ⟨ca, c⟩]
         ktf_call (List.map_cons, h1, hl, ixD_l, ha, hw)
         cases e : nums r bs with
         | none =>
           rw [e] at h2
           ktf_call (hs, h2)
           k_search (numsD, isD_n)
           rfl
         | some ns =>
           rw [e] at h2
           ktf_call (hs, h2)
           k_search (numsD, isD_l, ixD_l, ha)
           rfl
   · rw [decide_eq_false (fun q => ca (List.mem_singleton.mp q))] at h1
     have e : namedR (a :: ws) k bs = none := by
      cases ws with
      | nil => rfl
      | cons n r => exact if_neg fun q => ca q.1
     rw [e]
     k_search (List.map_cons, h1)
     rfl
def wordsAt (rows : List Str) (i : Nat) : List Str := match rows[i]? with
 | none => []
 | some r => Txt.split r ⟨#[32]⟩
theorem F_words {rows : List Str} {i : Nat} (hr : ∀ r ∈ rows, r.length ≤ 1000000) : F_words_at [.lst (rows.map .str), .int (i : Int)] = some (.lst ((wordsAt rows i).map .str)) := by
 rw [F_words_at, seal_eq]
 refine runF_rt ?_
 show B_words_at [some (.lst (rows.map .str)), some (.int (i : Int))] = _
 unfold B_words_at wordsAt
 by_cases c : (rows.length : Int) ≤ (i : Int)
 · rw [List.getElem?_eq_none (by omega)]
   k_search (decide_eq_true c)
   rfl
 · have hi : i < rows.length := by omega
   rw [List.getElem?_eq_getElem hi]
   have ha : atI (rows.map D.str) (i : Int) = some (.str rows[i]) := atI_of rfl (by rw [List.getElem?_map, List.getElem?_eq_getElem hi]; rfl)
   ktf_call (decide_eq_false c)
   k_search (ixD_l, ha, sp_is, split_s (hr _ (List.getElem_mem hi)))
theorem F_rows {x : Str} (hx : x.length ≤ 1000000) : F_rows_of [.str x] = some (.lst ((Txt.split x ⟨#[10]⟩).map .str)) := by
 rw [F_rows_of, seal_eq]
 refine runF_rt ?_
 show B_rows_of [some (.str x)] = _
 unfold B_rows_of
 k_search (nl_is, split_s hx)
def mixZ (c o p : Int) : Int := ((c % p + 12345 + 31 * o * o + o) * 48271 % p) * ((c % p + 12345 + 31 * o * o + o) * 48271 % p) % 998244353 / 3
theorem mixZ_nn (c o p : Int) : 0 ≤ mixZ c o p := by unfold mixZ; omega
theorem F_mix {c o p : Int} (hp : 0 < p) (hp2 : p < 18446744073709551616) (ho : 0 ≤ o) (ho2 : o < 1000) : F_law_mix [.int c, .int o, .int p] = some (.int (mixZ c o p)) := by
 rw [F_law_mix, seal_eq]
 refine run_rt ?_
 show B_law_mix [some (.int c), some (.int o), some (.int p), none] = _
 unfold B_law_mix mixZ
 have h1 : 0 ≤ (c % p + 12345 + 31 * o * o + o) * 48271 % p := Int.emod_nonneg _ (by omega)
 have h2 : (c % p + 12345 + 31 * o * o + o) * 48271 % p < p := Int.emod_lt_of_pos _ hp
 ktf_call (hp)
 generalize (c % p + 12345 + 31 * o * o + o) * 48271 % p = m at h1 h2 ⊢
 k_search (hp)
structure IsW (s : Str) : Prop where
 lo : 1 ≤ s.length
 hi : s.length ≤ 12
 low : ∀ c ∈ Tx.cs s, Tx.low c = true
structure NmOk (nm : Nat → Str) : Prop where
 w : ∀ i, i < 8 → IsW (nm i)
 inj : ∀ i j, i < 8 → j < 8 → nm i = nm j → i = j
theorem reps_list (c : Nat) : ∀ (k : Nat) (acc : Array Nat), ((List.replicate k #[c]).foldl (· ++ ·) acc).toList = acc.toList ++ List.replicate k c
 | 0, acc => by simp
 | k + 1, acc => by
   rw [List.replicate_succ, List.foldl_cons, reps_list c k, Array.toList_append, List.append_assoc]
   rfl
theorem cs_mul (c : Nat) (n : Int) : Tx.cs (Txt.mul ⟨#[c]⟩ n) = List.replicate n.toNat c := by
 unfold Txt.mul
 by_cases h1 : n < 1
 · rw [if_pos h1, show n.toNat = 0 by o_shape]
   rfl
 · rw [if_neg h1]
   by_cases h2 : n = 1
   · subst h2; rfl
   · have e : (n == 1 || (⟨#[c]⟩ : Str).length == 0) = false := by
      rw [show (n == 1) = false from by simpa using h2]
      rfl
     rw [e, if_neg Bool.false_ne_true]
     show ((List.replicate n.toNat #[c]).foldl (· ++ ·) #[]).toList = _
     rw [reps_list]
     rfl
theorem low_of {c : Nat} {i : Int} (h0 : 0 ≤ i) (h1 : i < 26) (h : (c : Int) = 97 + i) : Tx.low c = true := by
 unfold Tx.low
 rw [Bool.and_eq_true]
 exact ⟨decide_eq_true (by o_shape), decide_eq_true (by o_shape)⟩
theorem nm_one {c : Nat} {e : Int} (hc : Tx.low c = true) (e0 : 0 ≤ e) (e1 : e ≤ 4) : NmOk fun k => Txt.mul ⟨#[c]⟩ ((k : Int) + 1 + e) where
 w := fun i hi => by
   have l := Tx.cs_len (Txt.mul ⟨#[c]⟩ ((i : Int) + 1 + e))
   rw [cs_mul, List.length_replicate] at l
   refine ⟨by o_shape, by o_shape, fun d hd => ?_⟩
   rw [cs_mul] at hd
   rw [(List.mem_replicate.mp hd).2]
   exact hc
 inj := fun i j hi hj h => by
  have q := congrArg Tx.cs h
  rw [cs_mul, cs_mul] at q
  have := congrArg List.length q
  rw [List.length_replicate, List.length_replicate] at this
  omega
theorem nm_two {c : Nat} {sg : Nat → Nat} {a b : Int} (hc : Tx.low c = true) (a0 : 0 ≤ a) (b0 : 0 ≤ b) (ab : a + b ≤ 11) (hs : ∀ i, i < 8 → Tx.low (sg i) = true) (hi : ∀ i j, i < 8 → j < 8 → sg i = sg j → i = j) :
 NmOk fun k => Txt.mul ⟨#[c]⟩ a ++ ⟨#[sg k]⟩ ++ Txt.mul ⟨#[c]⟩ b where
 w := fun i hi => by
   have e : Tx.cs (Txt.mul ⟨#[c]⟩ a ++ ⟨#[sg i]⟩ ++ Txt.mul ⟨#[c]⟩ b) = List.replicate a.toNat c ++ [sg i] ++ List.replicate b.toNat c := by rw [cs_app, cs_app, cs_mul, cs_mul]
   have l := Tx.cs_len (Txt.mul ⟨#[c]⟩ a ++ ⟨#[sg i]⟩ ++ Txt.mul ⟨#[c]⟩ b)
   rw [e, List.length_append, List.length_append, List.length_replicate, List.length_replicate, List.length_singleton] at l
   refine ⟨by o_shape, by o_shape, fun d hd => ?_⟩
   rw [e] at hd
   simp only [List.mem_append, List.mem_replicate, List.mem_singleton] at hd
   rcases hd with (⟨_, rfl⟩ | rfl) | ⟨_, rfl⟩
   · exact hc
   · exact hs i hi
   · exact hc
 inj := fun i j h1 h2 h => by
  have q := congrArg Tx.cs h
  simp only [cs_app, cs_mul] at q
  have q2 := List.append_cancel_right q
  have q3 := List.append_cancel_left q2
  exact hi i j h1 h2 (List.cons.inj q3).1
structure Br where
 name : Str
 length : Int
 bears : Int
 wide : Int
 most : Int
def Br.t (b : Br) : D := .tup [.str "bridge", .str b.name, .int b.length, .int b.bears, .int b.wide, .int b.most]
def Br.o (b : Br) : D := .ob .Bridge [(.name, .str b.name), (.length, .int b.length), (.bears, .int b.bears), (.wide, .int b.wide), (.most, .int b.most)]
structure Br.WF (b : Br) : Prop where
 l1 : 1 ≤ b.length
 l2 : b.length ≤ 1000
 b1 : 1 ≤ b.bears
 b2 : b.bears ≤ 10000000
 w1 : 1 ≤ b.wide
 w2 : b.wide ≤ 200
 m1 : 1 ≤ b.most
 m2 : b.most ≤ 10000000
def opT (l : Int) : D := .tup [.str "open", .int l]
def opO (l : Int) : D := .ob .Open [(.length, .int l)]
inductive Pc where
 | op (l : Int) | br (b : Br)
def Pc.t : Pc → D
 | .op l => opT l
 | .br b => b.t
def Pc.o : Pc → D
 | .op l => opO l
 | .br b => b.o
def Pc.isB : Pc → Bool
 | .br _ => true
 | _ => false
def rdT (r : Str × Int) : D := .tup [.str r.1, .int r.2]
def shT (r : Str × Int × Int) : D := .tup [.str r.1, .int r.2.1, .int r.2.2]
structure Rod where
 first : Int
 bs : List (Br × Int)
 rounds : List (Str × Int)
 shuts : List (Str × Int × Int)
def bsP : List (Br × Int) → List Pc
 | [] => []
 | (b, o) :: r => .br b :: .op o :: bsP r
def Rod.pcs (R : Rod) : List Pc := .op R.first :: bsP R.bs
def Rod.o (R : Rod) : D := .ob .Road [(.pieces, .lst (R.pcs.map Pc.o)), (.rounds, .lst (R.rounds.map rdT)), (.shuts, .lst (R.shuts.map shT))]
def cellZ (xs : List Int) (k : Nat) : Int := xs.getD k 0
theorem F_cell {xs : List Int} {d : D} (hd : d = .lst (xs.map D.int) ∨ d = .fz (xs.map D.int)) (k : Nat) : F_law_cell [d, .int k] = some (.int (cellZ xs k)) := by
 have hl : sealed lenD [d] = some (.int xs.length) := by rw [seal_eq]; rcases hd with rfl | rfl <;> simp [lenD, seqOf]
 rw [F_law_cell, seal_eq]
 show (B_law_cell [some d, some (.int k)]).bind _ = _
 unfold B_law_cell
 by_cases h : k < xs.length
 · have hi : sealed ixD d (.int k) = some (.int (cellZ xs k)) := by
    rcases hd with rfl | rfl
    · rw [ixD_l]
      exact atI_of rfl (by rw [List.getElem?_map, List.getElem?_eq_getElem h]; simp [cellZ, h])
    · rw [ixD_f]
      exact atI_of rfl (by rw [List.getElem?_map, List.getElem?_eq_getElem h]; simp [cellZ, h])
   k_search (hl, hi)
   rw [decide_eq_true (by omega)]
   k_search (hl, hi)
 · have hz : cellZ xs k = 0 := by simp [cellZ, h]
   k_search (hl, hz)
   rw [decide_eq_false (by omega)]
   k_search (hl, hz)
theorem pick {xs : List D} {i n : Int} {Pv : D → Prop} (h0 : 0 ≤ i) (h1 : i < xs.length) (h : ∀ x ∈ xs, Pv x) : ∃ x, atI xs i = some x ∧ Pv x := by
 have hk : i.toNat < xs.length := by omega
 exact ⟨xs[i.toNat], atI_of (n := i.toNat) (by omega) (List.getElem?_eq_getElem hk), h _ (List.getElem_mem hk)⟩
def IntIn (a b : Int) (d : D) : Prop := ∃ i, d = .int i ∧ a ≤ i ∧ i ≤ b
theorem F_long {c o least : Int} (ho : 0 ≤ o) (ho2 : o < 1000) (h1 : 1 ≤ least) (h2 : least ≤ 970) : ∃ z, F_law_long [.int c, .int o, .int least] = some (.int z) ∧ least ≤ z ∧ z ≤ 1000 := by
 have hm := F_mix (c := c) (o := o) (p := 1000033) (by omega) (by omega) ho ho2
 have nn := mixZ_nn c o 1000033
 generalize mixZ c o 1000033 = m at hm nn
 obtain ⟨x, hx, i, rfl, a1, a2⟩ := pick (n := 5) (xs := [.int least, .int 1000, .int (least + m / 5 % 30), .int (least + m / 5 % (1001 - least)), .int (least + 1)]) (i := m % 5) (Pv := IntIn least 1000) (by omega) (by show m % 5 < 5; omega) (by
  intro x hx
  simp only [List.mem_cons, List.not_mem_nil, or_false] at hx
  have b1 : 0 ≤ m / 5 % (1001 - least) := Int.emod_nonneg _ (by omega)
  have b2 : m / 5 % (1001 - least) < 1001 - least := Int.emod_lt_of_pos _ (by omega)
  rcases hx with rfl | rfl | rfl | rfl | rfl
  · exact ⟨_, rfl, by omega, by omega⟩
  · exact ⟨_, rfl, by omega, by omega⟩
  · exact ⟨_, rfl, by omega, by omega⟩
  · exact ⟨_, rfl, by omega, by omega⟩
  · exact ⟨_, rfl, by omega, by omega⟩)
 refine ⟨i, ?_, a1, a2⟩
 rw [F_law_long, seal_eq]
 show (B_law_long [some (.int c), some (.int o), some (.int least), none]).bind _ = _
 unfold B_law_long
 k_search (hm, ixD_l, hx)
theorem F_bridge {c : Int} {n : Str} : ∃ b : Br, F_law_bridge [.int c, .str n] = some b.t ∧ b.name = n ∧ b.WF := by
 have hm := F_mix (c := c) (o := 40) (p := 1000037) (by omega) (by omega) (by omega) (by omega)
 have nn := mixZ_nn c 40 1000037
 generalize mixZ c 40 1000037 = m at hm nn
 obtain ⟨l, hl, l1, l2⟩ := F_long (c := c) (o := 41) (least := 1) (by omega) (by omega) (by omega) (by omega)
 obtain ⟨x, hx, i, rfl, a1, a2⟩ := pick (n := 5) (xs := [.int 1, .int 10000000, .int (1 + m / 3 % 1000), .int (1 + c % 10000000)]) (i := m % 4) (Pv := IntIn 1 10000000) (by omega) (by show m % 4 < 4; omega) (by
  intro x hx
  simp only [List.mem_cons, List.not_mem_nil, or_false] at hx
  rcases hx with rfl | rfl | rfl | rfl <;> exact ⟨_, rfl, by omega, by omega⟩)
 obtain ⟨y, hy, j, rfl, b1, b2⟩ := pick (n := 5) (xs := [.int (1 + c / 3 % 10000000), .int 10000000, .int 1, .int (1 + m / 7 % 1000)]) (i := m / 4 % 4) (Pv := IntIn 1 10000000) (by omega) (by show m / 4 % 4 < 4; omega) (by
  intro x hx
  simp only [List.mem_cons, List.not_mem_nil, or_false] at hx
  rcases hx with rfl | rfl | rfl | rfl <;> exact ⟨_, rfl, by omega, by omega⟩)
 obtain ⟨z, hz, k, rfl, c1, c2⟩ := pick (n := 5) (xs := [.int 1, .int 200, .int (1 + m / 16 % 200), .int (1 + m / 16 % 30)]) (i := m / 1000 % 4) (Pv := IntIn 1 200) (by omega) (by show m / 1000 % 4 < 4; omega) (by
  intro x hx
  simp only [List.mem_cons, List.not_mem_nil, or_false] at hx
  rcases hx with rfl | rfl | rfl | rfl <;> exact ⟨_, rfl, by omega, by omega⟩)
 refine ⟨⟨n, l, i, k, j⟩, ?_, rfl, ⟨l1, l2, a1, a2, c1, c2, b1, b2⟩⟩
 rw [F_law_bridge, seal_eq]
 show (B_law_bridge [some (.int c), some (.str n), none, none, none, none]).bind _ = _
 unfold B_law_bridge
 k_search (hm, ixD_l, hx, hy, hz, hl)
 rfl
theorem let_at {i : Int} (h0 : 0 ≤ i) (h1 : i < 26) : ∃ c, sealed ixD (.str (Str.ofString "abcdefghijklmnopqrstuvwxyz")) (.int i) = some (.str ⟨#[c]⟩) ∧ (c : Int) = 97 + i := by
 have all : ∀ k : Nat, k < 26 → (Str.ofString "abcdefghijklmnopqrstuvwxyz").cps.toList[k]? = some (97 + k) := by decide +kernel
 have q := atI_of (i := i) (n := i.toNat) (by omega) (all i.toNat (by omega))
 refine ⟨97 + i.toNat, ?_, by omega⟩
 have e : sealed ixD (.str (Str.ofString "abcdefghijklmnopqrstuvwxyz")) (.int i) = if (Str.ofString "abcdefghijklmnopqrstuvwxyz").length ≤ 1000000 then (atI (Str.ofString "abcdefghijklmnopqrstuvwxyz").cps.toList i).map fun c => D.str ⟨#[c]⟩ else none := by rw [seal_eq]; rfl
 rw [e, if_pos (by decide +kernel), q]
 rfl
theorem mulD_s {a : Str} {n : Int} (h : a.length ≤ 16 ∧ 0 ≤ n ∧ n ≤ 1000000) : sealed mulD (.str a) (.int n) = some (.str (Txt.mul a n)) := by rw [seal_eq]; exact if_pos h
theorem addD_s {a b : Str} (h : a.length + b.length ≤ 1000000) : sealed addD (.str a) (.str b) = some (.str (a ++ b)) := by rw [seal_eq]; exact if_pos h
theorem one_len (c : Nat) : (⟨#[c]⟩ : Str).length = 1 := rfl
theorem rng1_of {j : Int} (h : -1000000 < j ∧ j < 1000000) : sealed rng1D [.int j] = some ((List.range j.toNat).map fun (i : Nat) => D.int (0 + (i : Int))) := by rw [seal_eq]; exact if_pos h
def nmD (nm : Nat → Str) : List D := (List.range 8).map fun k => .str (nm k)
theorem nmD_at {nm : Nat → Str} {i : Nat} (h : i < 8) : atI (nmD nm) (i : Int) = some (.str (nm i)) := atI_of rfl (by unfold nmD; rw [List.getElem?_map, List.getElem?_range h]; rfl)
abbrev nmE (c m : Int) (f : Nat) (acc : List D) (o7 o8 : Option D) : PD.Env := [some (.int c), some (.str (Str.ofString "abcdefghijklmnopqrstuvwxyz")), some (.int m), some (.int (1 + m % 12)), some (.int (m / 12 % (1 + m % 12))), some (.str ⟨#[f]⟩), some (.lst acc), o7, o8]
theorem F_names {c : Int} : ∃ nm, NmOk nm ∧ F_law_names [.int c] = some (.lst (nmD nm)) := by
 have hm := F_mix (c := c) (o := 30) (p := 1000003) (by omega) (by omega) (by omega) (by omega)
 have nn := mixZ_nn c 30 1000003
 generalize mixZ c 30 1000003 = m at hm nn
 obtain ⟨f, hf, fv⟩ := let_at (i := m / 150 % 26) (by omega) (by omega)
 have flow := low_of (by omega) (by omega) fv
 have b1 : 0 ≤ m / 12 % (1 + m % 12) := Int.emod_nonneg _ (by omega)
 have b2 : m / 12 % (1 + m % 12) < 1 + m % 12 := Int.emod_lt_of_pos _ (by omega)
 by_cases h3 : m / 4000 % 3 = 0
 · refine ⟨_, nm_one (c := f) (e := m % 5) flow (by omega) (by omega), ?_⟩
   have hc : compF (iaD (sealed rng1D) (aCons (cD (.int 8)) aNil)) yesB (oD (sealed mulD) (vD 2) (oD (sealed addD) (oD (sealed addD) (vD 0) (cD (.int 1))) (oD (sealed modD) (vD 1) (cD (.int 5))))) [2, 5] [some (.int c), some (.str (Str.ofString "abcdefghijklmnopqrstuvwxyz")), some (.int m), some (.int (1 + m % 12)), some (.int (m / 12 % (1 + m % 12))), some (.str ⟨#[f]⟩), none, none, none] = some (.lst (nmD fun k => Txt.mul ⟨#[f]⟩ ((k : Int) + 1 + m % 5))) := by
    unfold compF
    simp only [iaD, aCons, aNil, cD, bindS, rng1_of (j := 8) (by omega)]
    rw [if_pos (by simp)]
    rw [comp_map (α := Nat) (f := fun k => D.str (Txt.mul ⟨#[f]⟩ ((k : Int) + 1 + m % 5)))]
    · rfl
    · intro k hk
      have hk8 : k < 8 := by simpa using hk
      refine ⟨rfl, ?_⟩
      show oD (sealed mulD) (vD 2) _ [some (D.int (0 + (k : Int))), some (.int m), some (.str ⟨#[f]⟩)] = _
      k_search (Int.zero_add)
      rw [mulD_s ⟨by show 1 ≤ 16; omega, by omega, by omega⟩]
   rw [F_law_names, seal_eq]
   show (B_law_names [some (.int c), none, none, none, none, none, none, none, none]).bind _ = _
   unfold B_law_names
   k_search (hm, hf, h3, decide_true, hc)
 · obtain ⟨sg, hsg⟩ : ∃ sg : Nat → Nat, ∀ k : Nat, k < 8 → sealed ixD (.str (Str.ofString "abcdefghijklmnopqrstuvwxyz")) (.int ((m / 12000 + 3 * (k : Int)) % 26)) = some (.str ⟨#[sg k]⟩) ∧ ((sg k : Nat) : Int) = 97 + (m / 12000 + 3 * (k : Int)) % 26 := by
    refine ⟨fun k => (97 + (m / 12000 + 3 * (k : Int)) % 26).toNat, fun k hk => ?_⟩
    obtain ⟨q, hq, qv⟩ := let_at (i := (m / 12000 + 3 * (k : Int)) % 26) (by omega) (by omega)
    have : (97 + (m / 12000 + 3 * (k : Int)) % 26).toNat = q := by omega
    dsimp only
    rw [this]
    exact ⟨hq, qv⟩
   refine ⟨_, nm_two (c := f) (sg := sg) (a := m / 12 % (1 + m % 12)) (b := 1 + m % 12 - 1 - m / 12 % (1 + m % 12)) flow (by omega) (by omega) (by omega) (fun i hi => low_of (by omega) (by omega) (hsg i hi).2) (fun i j hi hj e => ?_), ?_⟩
   · have h1 := (hsg i hi).2
     have h2 := (hsg j hj).2
     rw [e] at h1
     omega
   have l1 : (Txt.mul ⟨#[f]⟩ (m / 12 % (1 + m % 12))).length ≤ 16 := by
    rw [← Tx.cs_len, cs_mul, List.length_replicate]
    omega
   have l2 : (Txt.mul ⟨#[f]⟩ (1 + m % 12 - 1 - m / 12 % (1 + m % 12))).length ≤ 16 := by
    rw [← Tx.cs_len, cs_mul, List.length_replicate]
    omega
   have l3 : ∀ i, (Txt.mul ⟨#[f]⟩ (m / 12 % (1 + m % 12)) ++ (⟨#[sg i]⟩ : Str)).length ≤ 17 := fun i => by
    rw [← Tx.cs_len, cs_app, List.length_append, Tx.cs_len, Tx.cs_len, one_len]
    omega
   have h5 := mulD_s (a := ⟨#[f]⟩) (n := m / 12 % (1 + m % 12)) ⟨by show 1 ≤ 16; omega, by omega, by omega⟩
   have h6 := mulD_s (a := ⟨#[f]⟩) (n := 1 + m % 12 - 1 - m / 12 % (1 + m % 12)) ⟨by show 1 ≤ 16; omega, by omega, by omega⟩
   have h7 : ∀ i, sealed addD (.str (Txt.mul ⟨#[f]⟩ (m / 12 % (1 + m % 12)))) (.str ⟨#[sg i]⟩) = _ := fun i => addD_s (by rw [one_len]; omega)
   have h8 : ∀ i, sealed addD (.str (Txt.mul ⟨#[f]⟩ (m / 12 % (1 + m % 12)) ++ ⟨#[sg i]⟩)) (.str (Txt.mul ⟨#[f]⟩ (1 + m % 12 - 1 - m / 12 % (1 + m % 12)))) = _ := fun i => addD_s (by have := l3 i; omega)
   obtain ⟨e', hloop, o7, o8, rfl⟩ := forD_end (g := nmG 7) (b := seqS (setS 8 (mk [false, false, false, false, false, false, true, false, false] (oD (sealed ixD) (vD 1) (oD (sealed modD) (oD (sealed addD) (oD (sealed fdivC) (vD 2) (cD (.int 12000))) (oD (sealed mulD) (cD (.int 3)) (vD 7))) (cD (.int 26))))))
    (appS 6 (mk [false, false, false, false, false, false, true, false, false] (oD (sealed addD) (oD (sealed addD) (oD (sealed mulD) (vD 5) (vD 4)) (vD 8)) (oD (sealed mulD) (vD 5) (oD (sealed subD) (oD (sealed subD) (vD 3) (cD (.int 1))) (vD 4))))))) (ds := (List.range 8).map fun (i : Nat) => D.int (0 + (i : Int)))
    (env := nmE c m f [] none none) (fun n e => ∃ o7 o8, e = nmE c m f ((List.range n).map fun k => D.str (Txt.mul ⟨#[f]⟩ (m / 12 % (1 + m % 12)) ++ ⟨#[sg k]⟩ ++ Txt.mul ⟨#[f]⟩ (1 + m % 12 - 1 - m / 12 % (1 + m % 12)))) o7 o8) ⟨none, none, rfl⟩ (by
    rintro i d e hd ⟨o7, o8, rfl⟩
    rw [List.getElem?_map] at hd
    obtain ⟨k, hk, rfl⟩ := Option.map_eq_some_iff.mp hd
    obtain ⟨hk8, hk⟩ := List.getElem?_eq_some_iff.mp hk
    rw [List.getElem_range] at hk
    subst hk
    have hi8 : i < 8 := by simpa using hk8
    have hlt : i < 1000000 := by omega
    refine ⟨_, rfl, nmE c m f ((List.range (i + 1)).map fun k => D.str (Txt.mul ⟨#[f]⟩ (m / 12 % (1 + m % 12)) ++ ⟨#[sg k]⟩ ++ Txt.mul ⟨#[f]⟩ (1 + m % 12 - 1 - m / 12 % (1 + m % 12)))) (some (.int (0 + (i : Int)))) (some (.str ⟨#[sg i]⟩)), ?_, _, _, rfl⟩
    k_search (nmE, Int.zero_add, (hsg i hi8).1, h5, h6, h7, h8, hlt, List.range_succ, List.map_append, List.map_cons, List.map_nil)
    )
   rw [F_law_names, seal_eq]
   show (B_law_names [some (.int c), none, none, none, none, none, none, none, none]).bind _ = _
   unfold B_law_names
   have hr : sealed rng1D [.int 8] = some ((List.range 8).map fun (i : Nat) => D.int (0 + (i : Int))) := rng1_of (j := 8) (by omega)
   rw [nmE] at hloop
   k_search (hm, hf, h3, decide_false, forS, hr, hloop, nmE)
   rfl
structure Rod.WF (R : Rod) (nm : Nat → Str) : Prop where
 ok : NmOk nm
 n0 : 1 ≤ R.bs.length
 n1 : R.bs.length ≤ 6
 f0 : 200 ≤ R.first
 f1 : R.first ≤ 1000
 br : ∀ (j : Nat) (b : Br) (o : Int), R.bs[j]? = some (b, o) → b.name = nm j ∧ b.WF ∧ 200 ≤ o ∧ o ≤ 1000
 rn : ∀ r ∈ R.rounds, (∃ j, j < R.bs.length ∧ r.1 = nm j) ∧ 1 ≤ r.2 ∧ r.2 ≤ 1000
 rd : (R.rounds.map (·.1)).Nodup
 rl : R.rounds.length ≤ R.bs.length
 sn : ∀ r ∈ R.shuts, (∃ j, j < R.bs.length ∧ r.1 = nm j) ∧ 0 ≤ r.2.1 ∧ r.2.1 < r.2.2 ∧ r.2.2 ≤ 10000
 sl : R.shuts.length ≤ 64
theorem bsP_app : ∀ (bs : List (Br × Int)) (b : Br) (o : Int), bsP (bs ++ [(b, o)]) = bsP bs ++ [.br b, .op o]
 | [], _, _ => rfl
 | (c, p) :: r, b, o => by
   show Pc.br c :: .op p :: bsP (r ++ [(b, o)]) = _
   rw [bsP_app r b o]
   rfl
theorem bsP_len : ∀ bs : List (Br × Int), (bsP bs).length = 2 * bs.length
 | [] => rfl
 | (c, p) :: r => by
   show (bsP r).length + 1 + 1 = 2 * (r.length + 1)
   rw [bsP_len r]
   omega
def cutL {α : Type} (xs : List α) (lo hi : Option Int) : List α := (xs.drop (HT.sIx xs.length 0 lo)).take (HT.sIx xs.length xs.length hi - HT.sIx xs.length 0 lo)
theorem cutD_map {α : Type} {f : α → D} {xs : List α} {lo hi : Option Int} : cutD (xs.map f) lo hi = (cutL xs lo hi).map f := by
 unfold cutD cutL
 rw [List.length_map, List.map_take, List.map_drop]
theorem cutL_len {α : Type} {xs : List α} {a b : Nat} : (cutL xs (some (a : Int)) (some (b : Int))).length ≤ b - a := by
 unfold cutL
 rw [HT.sIx_nat, HT.sIx_nat, List.length_take, List.length_drop]
 omega
theorem enumG_at {α : Type} {f : α → D} {xs : List α} {i : Nat} {d : D} (h : (enumG (xs.map f))[i]? = some d) : ∃ x, xs[i]? = some x ∧ d = .tup [.int i, f x] := by
 unfold enumG at h
 rw [List.getElem?_mapIdx, List.getElem?_map] at h
 cases e : xs[i]? with
 | none => rw [e] at h; cases h
 | some x => rw [e] at h; cases h; exact ⟨x, rfl, rfl⟩
theorem enumG_len {α : Type} {f : α → D} {xs : List α} : (enumG (xs.map f)).length = xs.length := by unfold enumG; rw [List.length_mapIdx, List.length_map]
structure Dr (nm : Nat → Str) (many n : Nat) (bs : List (Br × Int)) (rs : List (Str × Int)) : Prop where
 ln : bs.length = n
 br : ∀ (j : Nat) (b : Br) (o : Int), bs[j]? = some (b, o) → b.name = nm j ∧ b.WF ∧ 200 ≤ o ∧ o ≤ 1000
 rn : ∀ r ∈ rs, (∃ j, j < n ∧ r.1 = nm j) ∧ 1 ≤ r.2 ∧ r.2 ≤ 1000
 rd : (rs.map (·.1)).Nodup
 rl : rs.length ≤ n
abbrev ptE (S : D) (c0 : Int) (nm : Nat → Str) (many : Int) (p r : List D) (o6 o7 o8 o9 o10 o11 o12 : Option D) : PD.Env := [some S, some (.int c0), some (.lst (nmD nm)), some (.int many), some (.lst p), some (.lst r), o6, o7, o8, o9, o10, o11, o12]
noncomputable def ptB1 : SF := seqS (setS 7 (mk [false, false, false, false, true, true, false, false, false, false, false, false, false] (oD (sealed addD) (callD F_law_cell (aCons (vD 0) (aCons (oD (sealed addD) (cD (.int 1)) (vD 6)) aNil))) (oD (sealed mulD) (cD (.int 65537)) (vD 6)))))
 (seqS (appS 4 (mk [false, false, false, false, true, true, false, false, false, false, false, false, false] (callD F_law_bridge (aCons (vD 7) (aCons (oD (sealed ixD) (vD 2) (vD 6)) aNil)))))
 (seqS (appS 4 (mk [false, false, false, false, true, true, false, false, false, false, false, false, false] (tupD (aCons (cD (.str (Str.ofString "open"))) (aCons (callD F_law_long (aCons (vD 7) (aCons (cD (.int 43)) (aCons (cD (.int 200)) aNil)))) aNil)))))
 (ifS (bD (oD (sealed eqD) (oD (sealed modD) (callD F_law_mix (aCons (vD 7) (aCons (cD (.int 44)) (aCons (cD (.int 1000081)) aNil)))) (cD (.int 2))) (cD (.int 0)))) (appS 5 (mk [false, false, false, false, true, true, false, false, false, false, false, false, false] (tupD (aCons (oD (sealed ixD) (vD 2) (vD 6)) (aCons (callD F_law_long (aCons (vD 7) (aCons (cD (.int 45)) (aCons (cD (.int 1)) aNil)))) aNil)))))
 nxS)))
noncomputable def ptB2 : SF := seqS (setS 10 (mk [false, false, false, false, false, false, false, false, true, false, false, false, false] (callD F_law_mix (aCons (vD 9) (aCons (oD (sealed addD) (cD (.int 47)) (vD 6)) (aCons (cD (.int 1000033)) aNil))))))
 (seqS (setS 11 (mk [false, false, false, false, false, false, false, false, true, false, false, false, false] (oD (sealed ixD) (lstD (aCons (cD (.int 0)) (aCons (oD (sealed modD) (oD (sealed fdivC) (vD 10) (cD (.int 12))) (cD (.int 10000))) (aCons (cD (.int 9999)) aNil)))) (oD (sealed modD) (vD 10) (cD (.int 3))))))
 (seqS (setS 12 (mk [false, false, false, false, false, false, false, false, true, false, false, false, false] (oD (sealed ixD) (lstD (aCons (oD (sealed addD) (vD 11) (cD (.int 1))) (aCons (cD (.int 10000)) (aCons (oD (sealed addD) (oD (sealed addD) (vD 11) (cD (.int 1))) (oD (sealed modD) (oD (sealed fdivC) (vD 10) (cD (.int 40))) (oD (sealed subD) (cD (.int 10000)) (vD 11)))) aNil)))) (oD (sealed modD) (oD (sealed fdivC) (vD 10) (cD (.int 3))) (cD (.int 3))))))
 (ifS (bD (oD (sealed gtD) (oD (sealed modD) (oD (sealed fdivC) (vD 10) (cD (.int 9))) (cD (.int 3))) (cD (.int 0)))) (appS 8 (mk [false, false, false, false, false, false, false, false, true, false, false, false, false] (tupD (aCons (oD (sealed ixD) (vD 2) (oD (sealed modD) (oD (sealed fdivC) (vD 10) (cD (.int 27))) (vD 3))) (aCons (vD 11) (aCons (vD 12) aNil))))))
 nxS)))
theorem parts_1 {xs : List Int} {S : D} (hS : S = .lst (xs.map D.int) ∨ S = .fz (xs.map D.int)) {nm : Nat → Str} (nok : NmOk nm) {n : Nat} (n6 : n ≤ 6) {c0 l0 : Int} : ∃ e', forD (nmG 6) ptB1 ((List.range n).map fun (i : Nat) => D.int (0 + (i : Int))) (ptE S c0 nm n [opT l0] [] none none none none none none none) = some (.nx e') ∧ ∃ bs rs o6 o7, Dr nm n n bs rs ∧ e' = ptE S c0 nm n (opT l0 :: (bsP bs).map Pc.t) (rs.map rdT) o6 o7 none none none none none := by
 have hdl : ((List.range n).map fun (i : Nat) => D.int (0 + (i : Int))).length = n := by simp
 have := forD_end (g := nmG 6) (b := ptB1) (ds := (List.range n).map fun (i : Nat) => D.int (0 + (i : Int)))
  (env := ptE S c0 nm n [opT l0] [] none none none none none none none)
  (fun i e => ∃ bs rs o6 o7, Dr nm n i bs rs ∧ e = ptE S c0 nm n (opT l0 :: (bsP bs).map Pc.t) (rs.map rdT) o6 o7 none none none none none)
  ⟨[], [], none, none, ⟨rfl, fun j b o h => (by simp at h), fun r h => absurd h List.not_mem_nil, List.nodup_nil, Nat.le_refl _⟩, rfl⟩ (by
    rintro i d e hd ⟨bs, rs, o6, o7, dr, rfl⟩
    rw [List.getElem?_map] at hd
    obtain ⟨k, hk, rfl⟩ := Option.map_eq_some_iff.mp hd
    obtain ⟨hk8, hk⟩ := List.getElem?_eq_some_iff.mp hk
    rw [List.getElem_range] at hk
    subst hk
    have hin : i < n := by simpa using hk8
    have hcell := F_cell hS (1 + i)
    have hci : ((1 + i : Nat) : Int) = 1 + (i : Int) := by omega
    rw [hci] at hcell
    obtain ⟨b, hb, bn, bw⟩ := F_bridge (c := cellZ xs (1 + i) + 65537 * (i : Int)) (n := nm i)
    obtain ⟨lo, hlo, lo1, lo2⟩ := F_long (c := cellZ xs (1 + i) + 65537 * (i : Int)) (o := 43) (least := 200) (by omega) (by omega) (by omega) (by omega)
    obtain ⟨lr, hlr, lr1, lr2⟩ := F_long (c := cellZ xs (1 + i) + 65537 * (i : Int)) (o := 45) (least := 1) (by omega) (by omega) (by omega) (by omega)
    have hm44 := F_mix (c := cellZ xs (1 + i) + 65537 * (i : Int)) (o := 44) (p := 1000081) (by omega) (by omega) (by omega) (by omega)
    have hat := nmD_at (nm := nm) (i := i) (by omega)
    generalize hown : cellZ xs (1 + i) + 65537 * (i : Int) = own at *
    have ll : (bsP bs).length < 100 := by rw [bsP_len, dr.ln]; omega
    have rl := dr.rl
    have q1 : (bsP bs).length + 1 < 1000000 := by omega
    have q2 : (bsP bs).length + 1 + (0 + 1) < 1000000 := by omega
    have q3 : rs.length < 1000000 := by omega
    have e1 : (opT l0 :: (bsP bs).map Pc.t) ++ [b.t] ++ [opT lo] = opT l0 :: (bsP (bs ++ [(b, lo)])).map Pc.t := by
     rw [bsP_app, List.map_append]
     simp [Pc.t]
    have dbr : ∀ (j : Nat) (b' : Br) (o : Int), (bs ++ [(b, lo)])[j]? = some (b', o) → b'.name = nm j ∧ b'.WF ∧ 200 ≤ o ∧ o ≤ 1000 := fun j b' o h => by
     by_cases hj : j < bs.length
     · rw [List.getElem?_append_left hj] at h
       exact dr.br j b' o h
     · rw [List.getElem?_append_right (by omega)] at h
       have hj0 : j - bs.length = 0 := by
        have := (List.getElem?_eq_some_iff.mp h).1
        simp at this
        omega
       rw [hj0] at h
       cases h
       have : j = i := by have := dr.ln; omega
       subst this
       exact ⟨bn, bw, lo1, lo2⟩
    refine ⟨_, rfl, ?_⟩
    by_cases hr0 : mixZ own 44 1000081 % 2 = 0
    · refine ⟨ptE S c0 nm n (opT l0 :: (bsP (bs ++ [(b, lo)])).map Pc.t) ((rs ++ [(nm i, lr)]).map rdT) (some (.int (0 + (i : Int)))) (some (.int own)) none none none none none, ?_, bs ++ [(b, lo)], rs ++ [(nm i, lr)], _, _, ⟨by simp [dr.ln], dbr, fun r h => ?_, ?_, by simp; omega⟩, rfl⟩
      · rw [← e1]
        k_search (ptB1, ptE, Int.zero_add, hown, hcell, hb, hlo, hlr, hm44, ixD_l, hat, hr0, decide_true, q1, q2, q3, opT, List.map_append, List.map_cons, List.map_nil, rdT)
      · rcases List.mem_append.mp h with h | h
        · obtain ⟨⟨j, hj, e⟩, q⟩ := dr.rn r h
          exact ⟨⟨j, by omega, e⟩, q⟩
        · cases List.mem_singleton.mp h
          exact ⟨⟨i, by omega, rfl⟩, lr1, lr2⟩
      · rw [List.map_append, List.nodup_append]
        refine ⟨dr.rd, by simp, fun a ha z hz e => ?_⟩
        simp only [List.map_cons, List.map_nil, List.mem_singleton] at hz
        obtain ⟨r, hr, rfl⟩ := List.mem_map.mp ha
        obtain ⟨⟨j, hj, ej⟩, _⟩ := dr.rn r hr
        rw [ej, hz] at e
        have := nok.inj j i (by omega) (by omega) e
        omega
    · refine ⟨ptE S c0 nm n (opT l0 :: (bsP (bs ++ [(b, lo)])).map Pc.t) (rs.map rdT) (some (.int (0 + (i : Int)))) (some (.int own)) none none none none none, ?_, bs ++ [(b, lo)], rs, _, _, ⟨by simp [dr.ln], dbr, fun r h => ?_, dr.rd, by omega⟩, rfl⟩
      · rw [← e1]
        k_search (ptB1, ptE, Int.zero_add, hown, hcell, hb, hlo, hlr, hm44, ixD_l, hat, hr0, decide_false, q1, q2, q3, opT)
      · obtain ⟨⟨j, hj, e⟩, q⟩ := dr.rn r h
        exact ⟨⟨j, by omega, e⟩, q⟩
    )
 rw [hdl] at this
 exact this
theorem parts_2 {xs : List Int} {S : D} {nm : Nat → Str} {n : Nat} (n1 : 1 ≤ n) (n6 : n ≤ 6) {c0 : Int} {L R : List D} {o6 o7 : Option D} : ∃ e', forD (tupG [6, 9]) ptB2 (enumG ((c0 :: cutL xs (some ((7 : Nat) : Int)) (some ((13 : Nat) : Int))).map D.int)) (ptE S c0 nm n L R o6 o7 (some (.lst [])) none none none none) = some (.nx e') ∧ ∃ (sh : List (Str × Int × Int)) (p6 p9 p10 p11 p12 : Option D), sh.length ≤ 64 ∧ (∀ r ∈ sh, (∃ j, j < n ∧ r.1 = nm j) ∧ 0 ≤ r.2.1 ∧ r.2.1 < r.2.2 ∧ r.2.2 ≤ 10000) ∧ e' = ptE S c0 nm n L R p6 o7 (some (.lst (sh.map shT))) p9 p10 p11 p12 := by
 obtain ⟨e', h1, sh, p6, p9, p10, p11, p12, hsl, hsh, rfl⟩ := forD_end (g := tupG [6, 9]) (b := ptB2) (ds := enumG ((c0 :: cutL xs (some ((7 : Nat) : Int)) (some ((13 : Nat) : Int))).map D.int))
  (env := ptE S c0 nm n L R o6 o7 (some (.lst [])) none none none none)
  (fun i e => ∃ (sh : List (Str × Int × Int)) (p6 p9 p10 p11 p12 : Option D), sh.length ≤ i ∧ (∀ r ∈ sh, (∃ j, j < n ∧ r.1 = nm j) ∧ 0 ≤ r.2.1 ∧ r.2.1 < r.2.2 ∧ r.2.2 ≤ 10000) ∧ e = ptE S c0 nm n L R p6 o7 (some (.lst (sh.map shT))) p9 p10 p11 p12)
  ⟨[], _, _, _, _, _, Nat.le_refl _, fun r h => absurd h List.not_mem_nil, rfl⟩ (by
    rintro i d e hd ⟨sh, p6, p9, p10, p11, p12, hsl, hsh, rfl⟩
    obtain ⟨one, hone, rfl⟩ := enumG_at hd
    have hi7 : i < 7 := by
     have h1 := (List.getElem?_eq_some_iff.mp hone).1
     have h2 := cutL_len (xs := xs) (a := 7) (b := 13)
     rw [List.length_cons] at h1
     omega
    have hmx := F_mix (c := one) (o := 47 + (i : Int)) (p := 1000033) (by omega) (by omega) (by omega) (by omega)
    have mn := mixZ_nn one (47 + (i : Int)) 1000033
    generalize mixZ one (47 + (i : Int)) 1000033 = m at hmx mn
    generalize hk47 : 47 + (i : Int) = k47 at hmx
    obtain ⟨x, hx, b, rfl, b1, b2⟩ := pick (n := 5) (xs := [.int 0, .int (m / 12 % 10000), .int 9999]) (i := m % 3) (Pv := IntIn 0 9999) (by omega) (by show m % 3 < 3; omega) (by
     intro x hx
     simp only [List.mem_cons, List.not_mem_nil, or_false] at hx
     rcases hx with rfl | rfl | rfl <;> exact ⟨_, rfl, by omega, by omega⟩)
    have g1 : 0 ≤ m / 40 % (10000 - b) := Int.emod_nonneg _ (by omega)
    have g2 : m / 40 % (10000 - b) < 10000 - b := Int.emod_lt_of_pos _ (by omega)
    obtain ⟨y, hy, t, rfl, t1, t2⟩ := pick (n := 5) (xs := [.int (b + 1), .int 10000, .int (b + 1 + m / 40 % (10000 - b))]) (i := m / 3 % 3) (Pv := IntIn (b + 1) 10000) (by omega) (by show m / 3 % 3 < 3; omega) (by
     intro x hx
     simp only [List.mem_cons, List.not_mem_nil, or_false] at hx
     rcases hx with rfl | rfl | rfl <;> exact ⟨_, rfl, by omega, by omega⟩)
    have j1 : 0 ≤ m / 27 % (n : Int) := Int.emod_nonneg _ (by omega)
    have j2 : m / 27 % (n : Int) < n := Int.emod_lt_of_pos _ (by omega)
    have hat : atI (nmD nm) (m / 27 % (n : Int)) = some (.str (nm (m / 27 % (n : Int)).toNat)) := by
     have := nmD_at (nm := nm) (i := (m / 27 % (n : Int)).toNat) (by omega)
     rw [show (((m / 27 % (n : Int)).toNat : Nat) : Int) = m / 27 % (n : Int) from by omega] at this
     exact this
    have q1 : sh.length < 1000000 := by omega
    refine ⟨_, rfl, ?_⟩
    by_cases hg : 0 < m / 9 % 3
    · refine ⟨ptE S c0 nm n L R (some (.int i)) o7 (some (.lst ((sh ++ [(nm (m / 27 % (n : Int)).toNat, b, t)]).map shT))) (some (.int one)) (some (.int m)) (some (.int b)) (some (.int t)), ?_, sh ++ [(nm (m / 27 % (n : Int)).toNat, b, t)], _, _, _, _, _, by simp; omega, fun r h => ?_, rfl⟩
      ·
       unfold ptB2 ptE
       ktf_call (hk47, hmx, hx, hy, hat, ixD_l, decide_eq_true hg, q1, shT, List.map_append, List.map_cons, List.map_nil)
       ktf_call (hk47, hmx, hx, hy, hat, ixD_l, decide_eq_true hg, q1, shT, List.map_append, List.map_cons, List.map_nil)
       ktf_call (hk47, hmx, hx, hy, hat, ixD_l, decide_eq_true hg, q1, shT, List.map_append, List.map_cons, List.map_nil)
       k_search (hk47, hmx, hx, hy, hat, ixD_l, decide_eq_true hg, q1, shT, List.map_append, List.map_cons, List.map_nil)
      · rcases List.mem_append.mp h with h | h
        · exact hsh r h
        · cases List.mem_singleton.mp h
          exact ⟨⟨_, by omega, rfl⟩, b1, by show b < t; omega, t2⟩
    · refine ⟨ptE S c0 nm n L R (some (.int i)) o7 (some (.lst (sh.map shT))) (some (.int one)) (some (.int m)) (some (.int b)) (some (.int t)), ?_, sh, _, _, _, _, _, by omega, hsh, rfl⟩
      unfold ptB2 ptE
      ktf_call (hk47, hmx, hx, hy, hat, ixD_l, decide_eq_false hg, q1)
      ktf_call (hk47, hmx, hx, hy, hat, ixD_l, decide_eq_false hg, q1)
      ktf_call (hk47, hmx, hx, hy, hat, ixD_l, decide_eq_false hg, q1)
      k_search (hk47, hmx, hx, hy, hat, ixD_l, decide_eq_false hg, q1)
      )
 rw [enumG_len, List.length_cons] at hsl
 have hcl := cutL_len (xs := xs) (a := 7) (b := 13)
 exact ⟨_, h1, sh, p6, p9, p10, p11, p12, by omega, hsh, rfl⟩
theorem F_parts {xs : List Int} {S : D} (hS : S = .lst (xs.map D.int) ∨ S = .fz (xs.map D.int)) : ∃ nm R, Rod.WF R nm ∧ F_law_parts [S] = some (.tup [.lst (nmD nm), .lst (R.pcs.map Pc.t), .lst (R.rounds.map rdT), .lst (R.shuts.map shT)]) := by
 have hc0 := F_cell hS 0
 obtain ⟨nm, nok, hnm⟩ := F_names (c := cellZ xs 0)
 have hm := F_mix (c := cellZ xs 0) (o := 31) (p := 1000039) (by omega) (by omega) (by omega) (by omega)
 have hm46 := F_mix (c := cellZ xs 0) (o := 46) (p := 1000003) (by omega) (by omega) (by omega) (by omega)
 have nn := mixZ_nn (cellZ xs 0) 31 1000039
 have nn46 := mixZ_nn (cellZ xs 0) 46 1000003
 obtain ⟨l0, hl0, l01, l02⟩ := F_long (c := cellZ xs 0) (o := 42) (least := 200) (by omega) (by omega) (by omega) (by omega)
 generalize hmz : mixZ (cellZ xs 0) 31 1000039 = mz at hm nn
 generalize mixZ (cellZ xs 0) 46 1000003 = m46 at hm46 nn46
 generalize hc : cellZ xs 0 = c0 at *
 have hmany : ∃ n : Nat, 1 + mz % 6 = n ∧ 1 ≤ n ∧ n ≤ 6 := ⟨(1 + mz % 6).toNat, by omega, by omega, by omega⟩
 obtain ⟨n, hn, n1, n6⟩ := hmany
 obtain ⟨e1, hloop, bs, rs, o6, o7, dr, rfl⟩ := parts_1 hS nok n6 (c0 := c0) (l0 := l0)
 obtain ⟨e2, hloop2, sh, p6, p9, p10, p11, p12, hsl, hsh, rfl⟩ := parts_2 (xs := xs) (S := S) (nm := nm) n1 n6 (c0 := c0) (L := opT l0 :: (bsP bs).map Pc.t) (R := (if m46 % 2 = 1 then rs.reverse else rs).map rdT) (o6 := o6) (o7 := o7)
 have hcl := cutL_len (xs := xs) (a := 7) (b := 13)
 refine ⟨nm, ⟨l0, bs, if m46 % 2 = 1 then rs.reverse else rs, sh⟩, ⟨nok, by show 1 ≤ bs.length; rw [dr.ln]; exact n1, by show bs.length ≤ 6; rw [dr.ln]; exact n6, l01, l02, dr.br, ?_, ?_, ?_, ?_, hsl⟩, ?_⟩
 · intro r hr
   have hr' : r ∈ rs := by
    dsimp only at hr
    split at hr
    · exact List.mem_reverse.mp hr
    · exact hr
   obtain ⟨⟨j, hj, e⟩, q⟩ := dr.rn r hr'
   exact ⟨⟨j, by show j < bs.length; rw [dr.ln]; exact hj, e⟩, q⟩
 · dsimp only
   split
   · rw [List.map_reverse]; exact List.pairwise_reverse.mpr (dr.rd.imp Ne.symm)
   · exact dr.rd
 · dsimp only
   rw [dr.ln]
   split
   · rw [List.length_reverse]; exact dr.rl
   · exact dr.rl
 · intro r hr
   obtain ⟨⟨j, hj, e⟩, q⟩ := hsh r hr
   exact ⟨⟨j, by show j < bs.length; rw [dr.ln]; exact hj, e⟩, q⟩
 have hsl2 : sealed slDD S (some ((7 : Nat) : Int)) (some ((13 : Nat) : Int)) = some (.lst ((cutL xs (some ((7 : Nat) : Int)) (some ((13 : Nat) : Int))).map D.int)) := by
  rw [seal_eq]
  rcases hS with rfl | rfl
  · show some (D.lst (cutD _ _ _)) = _
    rw [cutD_map]
  · show some (D.lst (cutD _ _ _)) = _
    rw [cutD_map]
 have hadd : sealed addD (.lst [.int c0]) (.lst ((cutL xs (some ((7 : Nat) : Int)) (some ((13 : Nat) : Int))).map D.int)) = some (.lst ((c0 :: cutL xs (some ((7 : Nat) : Int)) (some ((13 : Nat) : Int))).map D.int)) := by
  rw [seal_eq]
  show (if _ then _ else _) = _
  rw [if_pos (by rw [List.length_map, List.length_singleton]; omega)]
  rfl
 have hrng := rng1_of (j := (n : Int)) (by omega)
 rw [Int.toNat_natCast] at hrng
 rw [F_law_parts, seal_eq]
 refine run_rt ?_
 show B_law_parts [some S, none, none, none, none, none, none, none, none, none, none, none, none] = _
 unfold B_law_parts
 have e47 : ((7 : Nat) : Int) = 7 := rfl
 have e13 : ((13 : Nat) : Int) = 13 := rfl
 rw [e47, e13] at hsl2 hadd hloop2
 have c00 : ((0 : Nat) : Int) = 0 := rfl
 rw [c00] at hc0
 generalize hB1 : ptB1 = B1 at hloop
 generalize hB2 : ptB2 = B2 at hloop2
 unfold ptB1 at hB1
 unfold ptB2 at hB2
 rw [hB1, hB2]
 simp only [opT, ptE] at hloop hloop2
 ktf_call (hc0)
 ktf_call (hnm)
 ktf_call (hm, hn)
 ktf_call (hl0)
 ktf_call (hl0)
 ktf_call (hrng, hloop)
 by_cases h46 : m46 % 2 = 1
 · simp only [if_pos h46]
   rw [if_pos h46] at hloop2
   rw [List.map_reverse] at hloop2 ⊢
   ktf_call (hm46, h46, decide_true)
   ktf_call (hl0)
   ktf_call (hsl2, hadd, hloop2)
   k_search (Rod.pcs, List.map_cons, Pc.t, opT)
 · simp only [if_neg h46]
   rw [if_neg h46] at hloop2
   ktf_call (hm46, h46, decide_false)
   ktf_call (hl0)
   ktf_call (hsl2, hadd, hloop2)
   k_search (Rod.pcs, List.map_cons, Pc.t, opT)
inductive Good : Nat → D → Prop
 | non (k : Nat) : Good (k + 1) .non
 | bl (k : Nat) (b : Bool) : Good (k + 1) (.bl b)
 | int (k : Nat) (i : Int) : Good (k + 1) (.int i)
 | str (k : Nat) (s : Str) : Good (k + 1) (.str s)
 | lst {k : Nat} {xs : List D} (h : ∀ x ∈ xs, Good k x) (l : xs.length < 1000000) : Good (k + 1) (.lst xs)
 | tup {k : Nat} {xs : List D} (h : ∀ x ∈ xs, Good k x) (l : xs.length < 1000000) : Good (k + 1) (.tup xs)
theorem s_isC {c c' : Cl} {fs : List (Fl × D)} {b : Bool} (h : decide (c' = c) = b) : sealed (isC c) [.ob c' fs] = some (.bl b) := by
 rw [seal_eq, ← h]
 rfl
theorem isLT_i {i : Int} : sealed isLT [.int i] = some (.bl false) := by rw [seal_eq]; rfl
theorem isLT_s {i : Str} : sealed isLT [.str i] = some (.bl false) := by rw [seal_eq]; rfl
theorem isLT_b {i : Bool} : sealed isLT [.bl i] = some (.bl false) := by rw [seal_eq]; rfl
theorem isLT_n : sealed isLT [.non] = some (.bl false) := by rw [seal_eq]; rfl
theorem isLT_l {i : List D} : sealed isLT [.lst i] = some (.bl true) := by rw [seal_eq]; rfl
theorem isLT_t {i : List D} : sealed isLT [.tup i] = some (.bl true) := by rw [seal_eq]; rfl
theorem isT_i {T : String} {i : Int} : sealed (isT T) [.int i] = some (.bl (kits "int" T)) := by rw [seal_eq]; rfl
theorem isT_s {T : String} {i : Str} : sealed (isT T) [.str i] = some (.bl (kits "str" T)) := by rw [seal_eq]; rfl
theorem isT_b {T : String} {i : Bool} : sealed (isT T) [.bl i] = some (.bl (kits "bool" T)) := by rw [seal_eq]; rfl
theorem isT_n {T : String} : sealed (isT T) [.non] = some (.bl (kits "NoneType" T)) := by rw [seal_eq]; rfl
theorem isT_l {T : String} {i : List D} : sealed (isT T) [.lst i] = some (.bl (kits "list" T)) := by rw [seal_eq]; rfl
theorem isT_t {T : String} {i : List D} : sealed (isT T) [.tup i] = some (.bl (kits "tuple" T)) := by rw [seal_eq]; rfl
theorem isD_s {i : Str} : sealed isD (.str i) .non = some (.bl false) := by rw [seal_eq]; rfl
theorem isD_b {i : Bool} : sealed isD (.bl i) .non = some (.bl false) := by rw [seal_eq]; rfl
theorem k_bs : kits "bool" "str" = false := by decide
theorem k_bi : kits "bool" "int" = true := by decide
theorem k_bb : kits "bool" "bool" = true := by decide
theorem k_is : kits "int" "str" = false := by decide
theorem k_ii : kits "int" "int" = true := by decide
theorem k_ib : kits "int" "bool" = false := by decide
theorem k_ss : kits "str" "str" = true := by decide
theorem k_ll : kits "list" "list" = true := by decide
theorem k_tt : kits "tuple" "tuple" = true := by decide
theorem comp_same {F : List D → Option D} : ∀ {xs : List D}, (∀ x ∈ xs, F [x, x] = some (.bl true)) → compTD 2 yesB (callD F (aCons (vD 0) (aCons (vD 1) aNil))) [] (zipG xs xs) = some (xs.map fun _ => .bl true)
 | [], _ => rfl
 | x :: xs, h => by
   show compTD 2 _ _ [] (.tup [x, x] :: zipG xs xs) = _
   rw [compTD, if_pos (show [x, x].length = 2 from rfl)]
   show ((some true).bind _) = _
   rw [bindS, ite_tt]
   show ((callD F (aCons (vD 0) (aCons (vD 1) aNil)) [some x, some x]).bind _) = _
   simp only [callD, aCons, aNil, vD_z, vD_s, bindS]
   rw [h x List.mem_cons_self, bindS, comp_same fun y hy => h y (List.mem_cons_of_mem _ hy)]
   rfl
theorem all_true : ∀ {xs : List D}, sealed allD [.lst (xs.map fun _ => D.bl true)] = some (.bl true) := fun {xs} => by
 rw [seal_eq]
 have e : (xs.map fun _ => D.bl true) = (xs.map fun _ => true).map D.bl := by rw [List.map_map]; rfl
 show (blS _).map _ = _
 rw [e, blS_map]
 simp
theorem alike_seq {F : List D → Option D} {d : D} {xs : List D} (hd : d = .lst xs ∨ d = .tup xs) (hl : xs.length < 1000000) (h : ∀ x ∈ xs, F [x, x] = some (.bl true)) : runD 2 (B_law_alike F) [d, d] = some (.bl true) := by
 have z1 : sealed zipX [d, d] = some (zipG xs xs) := by
  rw [seal_eq]
  rcases hd with rfl | rfl
  · rfl
  · show (if _ then _ else _) = _
    rw [if_pos (Nat.le_refl _)]
 have z2 : sealed lenD [d] = some (.int xs.length) := by rw [seal_eq]; rcases hd with rfl | rfl <;> rfl
 have zl : (zipG xs xs).length < 1000000 := by unfold zipG; rw [List.length_zipWith]; omega
 have z3 := comp_same (xs := xs) h
 have kk : ∀ zs, d ≠ .kt zs := fun zs z => by rcases hd with rfl | rfl <;> cases z
 have kf : ∀ zs, d ≠ .fz zs := fun zs z => by rcases hd with rfl | rfl <;> cases z
 refine run_rt ?_
 show B_law_alike F [some d, some d] = _
 unfold B_law_alike
 have t1 : sealed (isT "list") [d] = some (.bl (kits d.ty "list")) := by rcases hd with rfl | rfl <;> (rw [seal_eq]; rfl)
 have t2 : sealed (isT "tuple") [d] = some (.bl (kits d.ty "tuple")) := by rcases hd with rfl | rfl <;> (rw [seal_eq]; rfl)
 generalize kits d.ty "list" = b1 at t1
 generalize kits d.ty "tuple" = b2 at t2
 have a1 : ∀ b : Bool, (if b = true then some (!b) else some false) = some false := fun b => by cases b <;> rfl
 ktf_call (t1, a1)
 ktf_call (t2, a1)
 ktf_call (z2, decide_true, Bool.not_true)
 k_search (compT, capsD, List.map_nil, z1, zl, z3, Option.map_some, all_true)
theorem same_k : ∀ (k m : Nat) (d : D), Good k d → 2 * k ≤ m → (F_both m).2 [d, d] = some (.bl true)
 | 0, _, _, g, _ => by cases g
 | k + 1, 0, _, _, h => by omega
 | k + 1, 1, _, _, h => by omega
 | k + 1, m + 2, d, g, hm => by
   show sealed (runD 2 (B_law_same (F_both (m + 1)).1)) [d, d] = _
   rw [seal_eq]
   refine run_rt ?_
   show B_law_same _ [some d, some d] = _
   unfold B_law_same
   have seqc : ∀ xs, (d = .lst xs ∨ d = .tup xs) → xs.length < 1000000 → (∀ x ∈ xs, Good k x) → (F_both (m + 1)).1 [d, d] = some (.bl true) := fun xs hd hl h => by
    show sealed (runD 2 (B_law_alike (F_both m).2)) [d, d] = _
    rw [seal_eq]
    exact alike_seq hd hl fun x hx => same_k k m x (h x hx) (by omega)
   generalize (F_both (m + 1)).1 = G at seqc
   cases g with
   | non =>
     k_search (isLT_i, isLT_s, isLT_b, isLT_n, isLT_l, isLT_t, isT_i, isT_s, isT_b, isT_n, isT_l, isT_t, isD_i, isD_s, isD_b, isD_n, isD_l, isD_t, k_bs, k_bi, k_bb, k_is, k_ii, k_ib, k_ss, k_ll, k_tt, eqD_bb, decide_true)
   | bl b =>
     k_search (isLT_i, isLT_s, isLT_b, isLT_n, isLT_l, isLT_t, isT_i, isT_s, isT_b, isT_n, isT_l, isT_t, isD_i, isD_s, isD_b, isD_n, isD_l, isD_t, k_bs, k_bi, k_bb, k_is, k_ii, k_ib, k_ss, k_ll, k_tt, eqD_bb, decide_true)
   | int i =>
     k_search (isLT_i, isLT_s, isLT_b, isLT_n, isLT_l, isLT_t, isT_i, isT_s, isT_b, isT_n, isT_l, isT_t, isD_i, isD_s, isD_b, isD_n, isD_l, isD_t, k_bs, k_bi, k_bb, k_is, k_ii, k_ib, k_ss, k_ll, k_tt, eqD_bb, decide_true)
   | str s =>
     k_search (isLT_i, isLT_s, isLT_b, isLT_n, isLT_l, isLT_t, isT_i, isT_s, isT_b, isT_n, isT_l, isT_t, isD_i, isD_s, isD_b, isD_n, isD_l, isD_t, k_bs, k_bi, k_bb, k_is, k_ii, k_ib, k_ss, k_ll, k_tt, eqD_bb, decide_true)
   | lst h l =>
     have := seqc _ (.inl rfl) l h
     k_search (this, isLT_i, isLT_s, isLT_b, isLT_n, isLT_l, isLT_t, isT_i, isT_s, isT_b, isT_n, isT_l, isT_t, isD_i, isD_s, isD_b, isD_n, isD_l, isD_t, k_bs, k_bi, k_bb, k_is, k_ii, k_ib, k_ss, k_ll, k_tt, eqD_bb, decide_true)
   | tup h l =>
     have := seqc _ (.inr rfl) l h
     k_search (this, isLT_i, isLT_s, isLT_b, isLT_n, isLT_l, isLT_t, isT_i, isT_s, isT_b, isT_n, isT_l, isT_t, isD_i, isD_s, isD_b, isD_n, isD_l, isD_t, k_bs, k_bi, k_bb, k_is, k_ii, k_ib, k_ss, k_ll, k_tt, eqD_bb, decide_true)
theorem same_ok {d : D} {k : Nat} (g : Good k d) (hk : k ≤ 7 := by omega) : F_law_same [d, d] = some (.bl true) := same_k k 14 d g (by omega)
theorem bo_ne : (Str.ofString "bridge" : Str) ≠ Str.ofString "open" := by decide +kernel
theorem atI_num {xs : List D} {i : Int} {n : Nat} {x : D} (h : xs[n]? = some x) (hi : i = n := by rfl) : atI xs i = some x := atI_of hi h
theorem I_op {l : Int} : I_Open [.int l] = some [(.length, .int l)] := rfl
theorem I_br {b : Br} : I_Bridge [.str b.name, .int b.length, .int b.bears, .int b.wide, .int b.most] = some [(.name, .str b.name), (.length, .int b.length), (.bears, .int b.bears), (.wide, .int b.wide), (.most, .int b.most)] := rfl
theorem list_l {xs : List D} : sealed listD [.lst xs] = some (.lst xs) := by rw [seal_eq]; rfl
theorem I_rd {a b c : List D} : I_Road [.lst a, .lst b, .lst c] = some [(.pieces, .lst a), (.rounds, .lst b), (.shuts, .lst c)] := by
 show initF [(.pieces, callD (sealed listD) (aCons (vD 1) aNil)), (.rounds, callD (sealed listD) (aCons (vD 2) aNil)), (.shuts, callD (sealed listD) (aCons (vD 3) aNil))] [none, some (.lst a), some (.lst b), some (.lst c)] = _
 simp only [initF, callD, aCons, aNil, vD_z, vD_s, bindS, list_l, Option.map_some]
theorem get_l {c : Cl} {fs : List (Fl × D)} {f : Fl} {d : D} (h : getF f (.ob c fs) = some d) : sealed (getF f) (.ob c fs) = some d := by rw [seal_eq]; exact h
theorem F_told {p : Pc} : F_law_told [p.o] = some p.t := by
 rw [F_law_told, seal_eq]
 refine run_rt ?_
 show B_law_told [some p.o] = _
 unfold B_law_told
 cases p with
 | op l =>
   have g1 : sealed (getF .length) (.ob .Open [(Fl.length, .int l)]) = some (.int l) := get_l rfl
   k_search (Pc.o, opO, s_isC (c := .Open) (c' := .Open) (fs := [(Fl.length, .int l)]) (b := true) (by decide), g1, Pc.t, opT)
 | br b =>
   have g1 : sealed (getF .name) b.o = some (.str b.name) := get_l rfl
   have g2 : sealed (getF .length) b.o = some (.int b.length) := get_l rfl
   have g3 : sealed (getF .bears) b.o = some (.int b.bears) := get_l rfl
   have g4 : sealed (getF .wide) b.o = some (.int b.wide) := get_l rfl
   have g5 : sealed (getF .most) b.o = some (.int b.most) := get_l rfl
   have c1 : sealed (isC .Open) [b.o] = some (.bl false) := s_isC (by decide)
   have c2 : sealed (isC .Bridge) [b.o] = some (.bl true) := s_isC (by decide)
   k_search (Pc.o, c1, c2, Bool.not_true, g1, g2, g3, g4, g5, Pc.t, Br.t)
theorem pcs_len {R : Rod} {nm : Nat → Str} (wf : R.WF nm) : R.pcs.length < 1000 := by
 have := wf.n1
 show (bsP R.bs).length + 1 < 1000
 rw [bsP_len]
 omega
theorem g_pieces {R : Rod} : sealed (getF .pieces) R.o = some (.lst (R.pcs.map Pc.o)) := get_l rfl
theorem g_rounds {R : Rod} : sealed (getF .rounds) R.o = some (.lst (R.rounds.map rdT)) := get_l rfl
theorem g_shuts {R : Rod} : sealed (getF .shuts) R.o = some (.lst (R.shuts.map shT)) := get_l rfl
theorem good_pc {p : Pc} : Good 2 p.t := by
 cases p with
 | op l => exact .tup (fun x hx => by
  simp only [List.mem_cons, List.not_mem_nil, or_false] at hx
  rcases hx with rfl | rfl
  · exact .str _ _
  · exact .int _ _) (by show 2 < 1000000; decide)
 | br b => exact .tup (fun x hx => by
  simp only [List.mem_cons, List.not_mem_nil, or_false] at hx
  rcases hx with rfl | rfl | rfl | rfl | rfl | rfl
  · exact .str _ _
  · exact .str _ _
  all_goals exact .int _ _) (by show 6 < 1000000; decide)
theorem good_rd {r : Str × Int} : Good 2 (rdT r) := .tup (fun x hx => by
 simp only [List.mem_cons, List.not_mem_nil, or_false] at hx
 rcases hx with rfl | rfl
 · exact .str _ _
 · exact .int _ _) (by show 2 < 1000000; decide)
theorem good_sh {r : Str × Int × Int} : Good 2 (shT r) := .tup (fun x hx => by
 simp only [List.mem_cons, List.not_mem_nil, or_false] at hx
 rcases hx with rfl | rfl | rfl
 · exact .str _ _
 · exact .int _ _
 · exact .int _ _) (by show 3 < 1000000; decide)
theorem good_map {α : Type} {f : α → D} {xs : List α} (h : ∀ x ∈ xs, Good 2 (f x)) (hl : xs.length < 1000000) : Good 3 (.lst (xs.map f)) := .lst (fun x hx => by
 obtain ⟨y, hy, rfl⟩ := List.mem_map.mp hx
 exact h y hy) (by rw [List.length_map]; exact hl)
theorem F_road_is {R : Rod} {nm : Nat → Str} (wf : R.WF nm) : F_law_road_is [R.o, .lst (R.pcs.map Pc.t), .lst (R.rounds.map rdT), .lst (R.shuts.map shT)] = some (.bl true) := by
 rw [F_law_road_is, seal_eq]
 refine run_rt ?_
 show B_law_road_is [some R.o, some (.lst (R.pcs.map Pc.t)), some (.lst (R.rounds.map rdT)), some (.lst (R.shuts.map shT))] = _
 unfold B_law_road_is
 have c1 : sealed (isC .Road) [R.o] = some (.bl true) := s_isC (by decide)
 have pl := pcs_len wf
 have rl := wf.rl
 have n1 := wf.n1
 have sl := wf.sl
 have hc : compF (itD (uD (sealed (getF .pieces)) (vD 0))) yesB (callD F_law_told (aCons (vD 0) aNil)) [] [some R.o, some (.lst (R.pcs.map Pc.t)), some (.lst (R.rounds.map rdT)), some (.lst (R.shuts.map shT))] = some (.lst (R.pcs.map Pc.t)) := by
  unfold compF
  simp only [itD, uD, vD_z, bindS, g_pieces, itemsD]
  rw [if_pos (by rw [List.length_map]; omega), comp_map (f := Pc.t)]
  · rfl
  · intro p _
    refine ⟨rfl, ?_⟩
    simp only [callD, aCons, aNil, vD_z, bindS, F_told]
 have s1 := same_ok (good_map (xs := R.pcs) (f := Pc.t) (fun _ _ => good_pc) (by omega))
 have s2 := same_ok (good_map (xs := R.rounds) (f := rdT) (fun _ _ => good_rd) (by omega))
 have s3 := same_ok (good_map (xs := R.shuts) (f := shT) (fun _ _ => good_sh) (by omega))
 generalize F_law_same = G at s1 s2 s3 ⊢
 k_search (c1, Bool.not_true, g_pieces, g_rounds, g_shuts, isT_l, k_ll, hc, s1, s2, s3)
theorem F_pieces {ps : List Pc} (hl : ps.length < 1000) : F_law_pieces [.lst (ps.map Pc.t)] = some (.lst (ps.map Pc.o)) := by
 rw [F_law_pieces, seal_eq]
 refine runF_rt ?_
 show B_law_pieces [some (.lst (ps.map Pc.t)), none, none] = _
 unfold B_law_pieces
 obtain ⟨e', hloop, o, rfl⟩ := forD_end (g := nmG 2) (b := ifS (bD (oD (sealed eqD) (oD (sealed ixD) (vD 2) (cD (.int 0))) (cD (.str (Str.ofString "open"))))) (appS 1 (mk [false, true, false] (makeD .Open I_Open (aCons (oD (sealed ixD) (vD 2) (cD (.int 1))) aNil))))
  (appS 1 (mk [false, true, false] (makeD .Bridge I_Bridge (aCons (oD (sealed ixD) (vD 2) (cD (.int 1))) (aCons (oD (sealed ixD) (vD 2) (cD (.int 2))) (aCons (oD (sealed ixD) (vD 2) (cD (.int 3))) (aCons (oD (sealed ixD) (vD 2) (cD (.int 4))) (aCons (oD (sealed ixD) (vD 2) (cD (.int 5))) aNil))))))))) (ds := ps.map Pc.t) (env := [some (.lst (ps.map Pc.t)), some (.lst []), none])
  (fun i e => ∃ o, e = [some (.lst (ps.map Pc.t)), some (.lst ((ps.take i).map Pc.o)), o]) ⟨none, rfl⟩ (by
   rintro i d e hd ⟨o, rfl⟩
   rw [List.getElem?_map] at hd
   obtain ⟨p, hp, rfl⟩ := Option.map_eq_some_iff.mp hd
   have hi := (List.getElem?_eq_some_iff.mp hp).1
   have ht : (ps.take (i + 1)).map Pc.o = (ps.take i).map Pc.o ++ [p.o] := by rw [List.take_add_one, hp, List.map_append]; rfl
   have hq : (List.take i ps).length < 1000000 := by rw [List.length_take]; omega
   refine ⟨_, rfl, [some (.lst (ps.map Pc.t)), some (.lst ((ps.take (i + 1)).map Pc.o)), some p.t], ?_, _, rfl⟩
   rw [ht]
   cases p with
   | op l =>
     k_search (Pc.t, opT, ixD_t, ix0, decide_true, makeD, atI_num (xs := [D.str (Str.ofString "open"), .int l]) (i := 1) (n := 1) (x := .int l) rfl, I_op, Option.map_some, hq, Pc.o, opO)
   | br b =>
     k_search (Pc.t, Br.t, ixD_t, ix0, decide_eq_false bo_ne, makeD, atI_num (xs := [D.str (Str.ofString "bridge"), .str b.name, .int b.length, .int b.bears, .int b.wide, .int b.most]) (i := 1) (n := 1) (x := .str b.name) rfl, atI_num (xs := [D.str (Str.ofString "bridge"), .str b.name, .int b.length, .int b.bears, .int b.wide, .int b.most]) (i := 2) (n := 2) (x := .int b.length) rfl, atI_num (xs := [D.str (Str.ofString "bridge"), .str b.name, .int b.length, .int b.bears, .int b.wide, .int b.most]) (i := 3) (n := 3) (x := .int b.bears) rfl, atI_num (xs := [D.str (Str.ofString "bridge"), .str b.name, .int b.length, .int b.bears, .int b.wide, .int b.most]) (i := 4) (n := 4) (x := .int b.wide) rfl, atI_num (xs := [D.str (Str.ofString "bridge"), .str b.name, .int b.length, .int b.bears, .int b.wide, .int b.most]) (i := 5) (n := 5) (x := .int b.most) rfl, I_br, Option.map_some, hq, Pc.o, Br.o)
   )
 rw [List.length_map, List.take_of_length_le (Nat.le_refl _)] at hloop
 ktf_call (hl)
 ktf_call (itemsD, hloop)
 k_search (hl)
abbrev ts (n : Int) : Str := Str.ofString (toString n)
theorem num_ts {n : Int} (h0 : 0 ≤ n) (h1 : n < 1000000000) : Tx.num (ts n) = some n := by
 have hl := Tx.digs_len (m := n.natAbs) (k := 9) (by decide) (by omega)
 have hv := Tx.digs_val n.natAbs
 unfold Tx.num
 rw [Tx.cs_nn h0]
 cases e : Tx.digs n.natAbs with
 | nil => exact absurd e (Tx.digs_ne _)
 | cons c r =>
   rw [e] at hl hv
   show (if (c :: r).length ≤ 60 ∧ (c :: r).all Tx.dig = true ∧ (r = [] ∨ c ≠ 48) then some (Tx.val (c :: r)) else none) = _
   have hh : r = [] ∨ c ≠ 48 := by
    by_cases q : c = 48
    · subst q
      exact .inl (Tx.digs_head e)
    · exact .inr q
   rw [if_pos ⟨Nat.le_trans hl (by decide), by rw [← e]; exact Tx.digs_all _, hh⟩, hv]
   exact congrArg some (by omega)
theorem len_ts {n : Int} (h0 : 0 ≤ n) (h1 : n < 1000000000) : (ts n).length ≤ 9 := by
 have hl := Tx.digs_len (m := n.natAbs) (k := 9) (by decide) (by omega)
 rw [← Tx.cs_nn h0, Tx.cs_len] at hl
 exact hl
theorem free_ts {n : Int} {c : Nat} (h0 : 0 ≤ n) (hc : c < 48) : c ∉ Tx.cs (ts n) := by
 rw [Tx.cs_nn h0]
 intro h
 have := Tx.digs_in h
 omega
theorem str_i {i : Int} (h0 : 0 ≤ i) (h1 : i < 1000000000) : sealed strD [.int i] = some (.str (ts i)) := by
 rw [seal_eq]
 refine if_pos ?_
 have : i.natAbs < 2 ^ 30 := by omega
 by_cases z : i.natAbs = 0
 · rw [z]; decide
 · exact Nat.lt_trans ((Nat.log2_lt z).mpr this) (by decide)
theorem row_w {s : Str} (h : IsW s) : Tx.row Tx.low 12 s = true := by
 unfold Tx.row
 have h1 := h.lo
 have h2 := h.hi
 rw [decide_eq_true h1, decide_eq_true (show (s.length : Int) ≤ 12 by omega), List.all_eq_true.mpr h.low]
 rfl
theorem jn_mem {c d : Nat} : ∀ {ps : List Str}, d ∈ Tx.cs (Str.join ⟨#[c]⟩ ps) → d = c ∨ ∃ p ∈ ps, d ∈ Tx.cs p
 | [], h => by cases h
 | [p], h => .inr ⟨p, List.mem_cons_self, h⟩
 | p :: q :: r, h => by
   rw [cs_join] at h
   rcases List.mem_append.mp h with h | h
   · exact .inr ⟨p, List.mem_cons_self, h⟩
   · rcases List.mem_cons.mp h with h | h
     · exact .inl h
     · rcases jn_mem h with h | ⟨z, hz, h⟩
       · exact .inl h
       · exact .inr ⟨z, List.mem_cons_of_mem _ hz, h⟩
theorem row_free {ps : List Str} (h : ∀ x ∈ ps, 10 ∉ Tx.cs x) : 10 ∉ Tx.cs (Txt.join ⟨#[32]⟩ ps) := by
 intro q
 rw [show Txt.join ⟨#[32]⟩ ps = Str.join ⟨#[32]⟩ ps from StrLaws.glued_eq_join _ _] at q
 rcases jn_mem q with q | ⟨p, hp, q⟩
 · cases q
 · exact h p hp q
theorem row_len {ps : List Str} : (Txt.join ⟨#[32]⟩ ps).length ≤ (ps.map (·.length)).sum + ps.length := by
 rw [show Txt.join ⟨#[32]⟩ ps = Str.join ⟨#[32]⟩ ps from StrLaws.glued_eq_join _ _]
 have := StrLaws.join_length_le ⟨#[32]⟩ ps
 rw [show (⟨#[32]⟩ : Str).length = 1 from rfl, Nat.mul_one] at this
 exact this
theorem sum_le12 : ∀ {ps : List Str}, (∀ x ∈ ps, x.length ≤ 12) → (ps.map (·.length)).sum ≤ 12 * ps.length
 | [], _ => Nat.le_refl _
 | p :: r, h => by
   have := sum_le12 (ps := r) fun x hx => h x (List.mem_cons_of_mem _ hx)
   have := h p List.mem_cons_self
   rw [List.map_cons, List.sum_cons, List.length_cons]
   omega
structure RowOk (r : Str) : Prop where
 len : r.length ≤ 100
 nl : 10 ∉ Tx.cs r
theorem ans_ts {n : Int} {b : Int × Int} (h0 : 0 ≤ n) (h1 : n < 1000000000) (hb : b.1 ≤ n ∧ n ≤ b.2) : ansB (ts n) b = some n := by
 unfold ansB
 rw [num_ts h0 h1, Option.bind_some, if_pos hb]
theorem words_of {R : List Str} {i : Nat} {r : Str} {ws : List Str} (h : R[i]? = some r) (e : Txt.split r ⟨#[32]⟩ = ws) : wordsAt R i = ws := by
 unfold wordsAt
 rw [h]
 exact e
theorem low128 {c : Nat} (h : Tx.low c = true) : c < 128 := by
 unfold Tx.low at h
 rw [Bool.and_eq_true, decide_eq_true_iff, decide_eq_true_iff] at h
 omega
theorem ts_128 {n : Int} (h0 : 0 ≤ n) : ∀ c ∈ Tx.cs (ts n), c < 128 := fun c hc => by
 rw [Tx.cs_nn h0] at hc
 have := Tx.digs_in hc
 omega
def firstW (rs : List Str) : List Str := match rs with
 | [] => []
 | r :: _ => Txt.split r ⟨#[32]⟩
theorem wordsAt_beh {L rs : List Str} : wordsAt (L ++ rs) L.length = firstW rs := by
 unfold wordsAt firstW
 rw [List.getElem?_append_right (Nat.le_refl _), Nat.sub_self]
 cases rs with
 | nil => rfl
 | cons r t => rfl
theorem cat_l {a b : List D} (h : a.length + b.length ≤ 1000000) : sealed catD (.lst a) (.lst b) = some (.lst (a ++ b)) := by rw [seal_eq]; exact if_pos h
abbrev openS : Str := Str.ofString "open"
abbrev bridgeS : Str := Str.ofString "bridge"
abbrev roundS : Str := Str.ofString "round"
abbrev shutS : Str := Str.ofString "shut"
structure KwOk (x : Str) : Prop where
 len : x.length ≤ 12
 low : ∀ c ∈ Tx.cs x, Tx.low c = true
theorem kw_of {x : Str} (h : (decide (x.length ≤ 12) && (Tx.cs x).all Tx.low) = true) : KwOk x := by
 rw [Bool.and_eq_true, decide_eq_true_iff, List.all_eq_true] at h
 exact ⟨h.1, h.2⟩
theorem kw_open : KwOk openS := kw_of (by decide +kernel)
theorem kw_bridge : KwOk bridgeS := kw_of (by decide +kernel)
theorem kw_round : KwOk roundS := kw_of (by decide +kernel)
theorem kw_shut : KwOk shutS := kw_of (by decide +kernel)
theorem IsW.kw {s : Str} (h : IsW s) : KwOk s := ⟨h.hi, h.low⟩
structure WdOk (x : Str) : Prop where
 len : x.length ≤ 12
 fr : ∀ c, c < 48 → c ∉ Tx.cs x
 lo : ∀ c ∈ Tx.cs x, c < 128
theorem KwOk.wd {x : Str} (h : KwOk x) : WdOk x := ⟨h.len, fun c hc q => by
 have := h.low c q
 unfold Tx.low at this
 rw [Bool.and_eq_true, decide_eq_true_iff] at this
 omega, fun c hc => low128 (h.low c hc)⟩
theorem wd_ts {n : Int} (h0 : 0 ≤ n) (h1 : n < 1000000000) : WdOk (ts n) := ⟨Nat.le_trans (len_ts h0 h1) (by decide), fun _ hc => free_ts h0 hc, ts_128 h0⟩
def pws : Pc → List Str
 | .op l => [openS, ts l]
 | .br b => [bridgeS, b.name, ts b.length, ts b.bears, ts b.wide, ts b.most]
def rws (r : Str × Int) : List Str := [roundS, r.1, ts r.2]
def sws (r : Str × Int × Int) : List Str := [shutS, r.1, ts r.2.1, ts r.2.2]
def jrow (ws : List Str) : Str := Txt.join ⟨#[32]⟩ ws
def Wds (ws : List Str) : Prop := ws ≠ [] ∧ ws.length ≤ 6 ∧ ∀ x ∈ ws, WdOk x
theorem jrow_words {ws : List Str} (h : Wds ws) : Txt.split (jrow ws) ⟨#[32]⟩ = ws := split_jn h.1 fun p hp => (h.2.2 p hp).fr 32 (by decide)
theorem jrow_ok {ws : List Str} (h : Wds ws) : RowOk (jrow ws) where
 len := by
  have h1 := row_len (ps := ws)
  have h2 := sum_le12 (ps := ws) fun x hx => (h.2.2 x hx).len
  have h3 := h.2.1
  unfold jrow
  omega
 nl := row_free fun x hx => (h.2.2 x hx).fr 10 (by decide)
structure Pc.Ok (p : Pc) : Prop where
 op : ∀ l, p = .op l → 200 ≤ l ∧ l ≤ 1000
 br : ∀ b, p = .br b → IsW b.name ∧ b.WF
theorem wds_pc {p : Pc} (ok : p.Ok) : Wds (pws p) := by
 cases p with
 | op l =>
   have := ok.op l rfl
   refine ⟨by simp [pws], by show 2 ≤ 6; decide, fun x hx => ?_⟩
   simp only [pws, List.mem_cons, List.not_mem_nil, or_false] at hx
   rcases hx with rfl | rfl
   · exact kw_open.wd
   · exact wd_ts (by omega) (by omega)
 | br b =>
   obtain ⟨hw, wf⟩ := ok.br b rfl
   have h1 := wf.l1; have h2 := wf.l2; have h3 := wf.b1; have h4 := wf.b2; have h5 := wf.w1; have h6 := wf.w2; have h7 := wf.m1; have h8 := wf.m2
   refine ⟨by simp [pws], by show 6 ≤ 6; decide, fun x hx => ?_⟩
   simp only [pws, List.mem_cons, List.not_mem_nil, or_false] at hx
   rcases hx with rfl | rfl | rfl | rfl | rfl | rfl
   · exact kw_bridge.wd
   · exact hw.kw.wd
   · exact wd_ts (by omega) (by omega)
   · exact wd_ts (by omega) (by omega)
   · exact wd_ts (by omega) (by omega)
   · exact wd_ts (by omega) (by omega)
structure RnOk (r : Str × Int) : Prop where
 w : IsW r.1
 a : 1 ≤ r.2
 b : r.2 ≤ 1000
structure ShOk (r : Str × Int × Int) : Prop where
 w : IsW r.1
 a : 0 ≤ r.2.1
 b : r.2.1 < r.2.2
 c : r.2.2 ≤ 10000
theorem wds_rn {r : Str × Int} (ok : RnOk r) : Wds (rws r) := by
 have h1 := ok.a; have h2 := ok.b
 refine ⟨by simp [rws], by show 3 ≤ 6; decide, fun x hx => ?_⟩
 simp only [rws, List.mem_cons, List.not_mem_nil, or_false] at hx
 rcases hx with rfl | rfl | rfl
 · exact kw_round.wd
 · exact ok.w.kw.wd
 · exact wd_ts (by omega) (by omega)
theorem wds_sh {r : Str × Int × Int} (ok : ShOk r) : Wds (sws r) := by
 have h1 := ok.a; have h2 := ok.b; have h3 := ok.c
 refine ⟨by simp [sws], by show 4 ≤ 6; decide, fun x hx => ?_⟩
 simp only [sws, List.mem_cons, List.not_mem_nil, or_false] at hx
 rcases hx with rfl | rfl | rfl | rfl
 · exact kw_shut.wd
 · exact ok.w.kw.wd
 · exact wd_ts (by omega) (by omega)
 · exact wd_ts (by omega) (by omega)
theorem str_s {x : Str} : sealed strD [.str x] = some (.str x) := by rw [seal_eq]; rfl
theorem join_wds {ws : List Str} (h : Wds ws) : sealed joinD (.str ⟨#[32]⟩) [.lst (ws.map .str)] = some (.str (jrow ws)) := join_s (by
 have h2 := sum_le12 (ps := ws) fun x hx => (h.2.2 x hx).len
 have h3 := h.2.1
 rw [show (⟨#[32]⟩ : Str).length = 1 from rfl]
 omega)
theorem comp_strs {ps : List (D × Str)} (hp : ∀ p ∈ ps, sealed strD [p.1] = some (.str p.2)) {caps : PD.Env} : compD yesB (callD (sealed strD) (aCons (vD 0) aNil)) caps (ps.map (·.1)) = some ((ps.map (·.2)).map .str) := by
 rw [comp_map (f := fun p : D × Str => D.str p.2)]
 · rw [List.map_map]; rfl
 · intro p h
   refine ⟨rfl, ?_⟩
   simp only [callD, aCons, aNil, vD_z, bindS]
   exact hp p h
def pps : Pc → List (D × Str)
 | .op l => [(.str openS, openS), (.int l, ts l)]
 | .br b => [(.str bridgeS, bridgeS), (.str b.name, b.name), (.int b.length, ts b.length), (.int b.bears, ts b.bears), (.int b.wide, ts b.wide), (.int b.most, ts b.most)]
theorem pps_ok {p : Pc} (ok : p.Ok) : ∀ z ∈ pps p, sealed strD [z.1] = some (.str z.2) := by
 cases p with
 | op l =>
   have := ok.op l rfl
   intro z hz
   simp only [pps, List.mem_cons, List.not_mem_nil, or_false] at hz
   rcases hz with rfl | rfl
   · exact str_s
   · exact str_i (by omega) (by omega)
 | br b =>
   obtain ⟨hw, wf⟩ := ok.br b rfl
   have h1 := wf.l1; have h2 := wf.l2; have h3 := wf.b1; have h4 := wf.b2; have h5 := wf.w1; have h6 := wf.w2; have h7 := wf.m1; have h8 := wf.m2
   intro z hz
   simp only [pps, List.mem_cons, List.not_mem_nil, or_false] at hz
   rcases hz with rfl | rfl | rfl | rfl | rfl | rfl
   · exact str_s
   · exact str_s
   · exact str_i (by omega) (by omega)
   · exact str_i (by omega) (by omega)
   · exact str_i (by omega) (by omega)
   · exact str_i (by omega) (by omega)
theorem pps_t (p : Pc) : p.t = .tup ((pps p).map (·.1)) := by cases p <;> rfl
theorem pps_w (p : Pc) : (pps p).map (·.2) = pws p := by cases p <;> rfl
theorem rps_ok {r : Str × Int} (ok : RnOk r) : ∀ z ∈ [(D.str roundS, roundS), (.str r.1, r.1), (.int r.2, ts r.2)], sealed strD [z.1] = some (.str z.2) := by
 have h1 := ok.a; have h2 := ok.b
 intro z hz
 simp only [List.mem_cons, List.not_mem_nil, or_false] at hz
 rcases hz with rfl | rfl | rfl
 · exact str_s
 · exact str_s
 · exact str_i (by omega) (by omega)
theorem sps_ok {r : Str × Int × Int} (ok : ShOk r) : ∀ z ∈ [(D.str shutS, shutS), (.str r.1, r.1), (.int r.2.1, ts r.2.1), (.int r.2.2, ts r.2.2)], sealed strD [z.1] = some (.str z.2) := by
 have h1 := ok.a; have h2 := ok.b; have h3 := ok.c
 intro z hz
 simp only [List.mem_cons, List.not_mem_nil, or_false] at hz
 rcases hz with rfl | rfl | rfl | rfl
 · exact str_s
 · exact str_s
 · exact str_i (by omega) (by omega)
 · exact str_i (by omega) (by omega)
structure RdOk (R : Rod) : Prop where
 n0 : 1 ≤ R.bs.length
 n1 : R.bs.length ≤ 6
 pc : ∀ p ∈ R.pcs, p.Ok
 nd : (R.bs.map fun x => x.1.name).Nodup
 rn : ∀ r ∈ R.rounds, RnOk r ∧ r.1 ∈ R.bs.map fun x => x.1.name
 rd : (R.rounds.map (·.1)).Nodup
 sn : ∀ r ∈ R.shuts, ShOk r ∧ r.1 ∈ R.bs.map fun x => x.1.name
 rl : R.rounds.length ≤ 6
 sl : R.shuts.length ≤ 64
theorem bsP_mem : ∀ {bs : List (Br × Int)} {p : Pc}, p ∈ bsP bs → ∃ x ∈ bs, p = .br x.1 ∨ p = .op x.2
 | [], _, h => by cases h
 | (b, o) :: r, p, h => by
   have h : p ∈ Pc.br b :: .op o :: bsP r := h
   rcases List.mem_cons.mp h with rfl | h
   · exact ⟨_, List.mem_cons_self, .inl rfl⟩
   · rcases List.mem_cons.mp h with rfl | h
     · exact ⟨_, List.mem_cons_self, .inr rfl⟩
     · obtain ⟨x, hx, q⟩ := bsP_mem h
       exact ⟨x, List.mem_cons_of_mem _ hx, q⟩
theorem rd_of {R : Rod} {nm : Nat → Str} (wf : R.WF nm) : RdOk R := by
 have n1 := wf.n1
 have hb : ∀ x ∈ R.bs, ∃ j, j < R.bs.length ∧ x.1.name = nm j ∧ x.1.WF ∧ 200 ≤ x.2 ∧ x.2 ≤ 1000 := fun x hx => by
  obtain ⟨j, hj, e⟩ := List.getElem_of_mem hx
  have := wf.br j x.1 x.2 (by rw [List.getElem?_eq_getElem hj, e])
  exact ⟨j, hj, this⟩
 have hin : ∀ j, j < R.bs.length → nm j ∈ R.bs.map fun x => x.1.name := fun j hj => by
  have := wf.br j R.bs[j].1 R.bs[j].2 (List.getElem?_eq_getElem hj)
  rw [← this.1]
  exact List.mem_map.mpr ⟨_, List.getElem_mem hj, rfl⟩
 have en : (R.bs.map fun x => x.1.name) = (List.range R.bs.length).map nm := by
  apply List.ext_getElem
  · rw [List.length_map, List.length_map, List.length_range]
  · intro i h1 h2
    rw [List.length_map] at h1
    have := wf.br i R.bs[i].1 R.bs[i].2 (List.getElem?_eq_getElem h1)
    rw [List.getElem_map, List.getElem_map, List.getElem_range, this.1]
 refine ⟨wf.n0, n1, fun p hp => ?_, ?_, fun r hr => ?_, wf.rd, fun r hr => ?_, by have := wf.rl; omega, wf.sl⟩
 · rcases List.mem_cons.mp hp with rfl | hp
   · exact ⟨fun l e => (by cases e; exact ⟨wf.f0, wf.f1⟩), fun b e => (by cases e)⟩
   · obtain ⟨x, hx, q⟩ := bsP_mem hp
     obtain ⟨j, hj, e1, e2, e3, e4⟩ := hb x hx
     rcases q with rfl | rfl
     · exact ⟨fun l e => (by cases e), fun b e => (by cases e; exact ⟨by rw [e1]; exact wf.ok.w j (by omega), e2⟩)⟩
     · exact ⟨fun l e => (by cases e; exact ⟨e3, e4⟩), fun b e => (by cases e)⟩
 · rw [en]
   refine List.Pairwise.map _ ?_ (R := fun a b => a < b ∧ b < 8) ?_
   · intro a b hab q
     have := wf.ok.inj a b (by omega) (by omega) q
     omega
   · exact List.Pairwise.imp_of_mem (fun {a b} _ hb h => ⟨h, by have := List.mem_range.mp hb; omega⟩) List.pairwise_lt_range
 · obtain ⟨⟨j, hj, e⟩, h1, h2⟩ := wf.rn r hr
   exact ⟨⟨by rw [e]; exact wf.ok.w j (by omega), h1, h2⟩, by rw [e]; exact hin j hj⟩
 · obtain ⟨⟨j, hj, e⟩, h1, h2, h3⟩ := wf.sn r hr
   exact ⟨⟨by rw [e]; exact wf.ok.w j (by omega), h1, h2, h3⟩, by rw [e]; exact hin j hj⟩
inductive Mrg : List (Str × Int) → List (Str × Int × Int) → List Str → Prop
 | nil : Mrg [] [] []
 | rn {r : Str × Int} {rs : List (Str × Int)} {ss : List (Str × Int × Int)} {T : List Str} (h : Mrg rs ss T) : Mrg (r :: rs) ss (jrow (rws r) :: T)
 | sh {s : Str × Int × Int} {rs : List (Str × Int)} {ss : List (Str × Int × Int)} {T : List Str} (h : Mrg rs ss T) : Mrg rs (s :: ss) (jrow (sws s) :: T)
theorem Mrg.len {rs : List (Str × Int)} {ss : List (Str × Int × Int)} {T : List Str} (h : Mrg rs ss T) : T.length = rs.length + ss.length := by
 induction h with
 | nil => rfl
 | rn h ih => rw [List.length_cons, List.length_cons, ih]; omega
 | sh h ih => rw [List.length_cons, List.length_cons, ih]; omega
theorem Mrg.ok {rs : List (Str × Int)} {ss : List (Str × Int × Int)} {T : List Str} (h : Mrg rs ss T) (hr : ∀ r ∈ rs, RnOk r) (hs : ∀ s ∈ ss, ShOk s) : ∀ x ∈ T, ∃ ws, Wds ws ∧ x = jrow ws := by
 induction h with
 | nil => exact fun x hx => by cases hx
 | rn h ih =>
   intro x hx
   rcases List.mem_cons.mp hx with rfl | hx
   · exact ⟨_, wds_rn (hr _ List.mem_cons_self), rfl⟩
   · exact ih (fun r h => hr r (List.mem_cons_of_mem _ h)) hs x hx
 | sh h ih =>
   intro x hx
   rcases List.mem_cons.mp hx with rfl | hx
   · exact ⟨_, wds_sh (hs _ List.mem_cons_self), rfl⟩
   · exact ih hr (fun r h => hs r (List.mem_cons_of_mem _ h)) x hx
theorem I_opn {l : Int} : I_Open [.int l] = some [(.length, .int l)] := rfl
theorem at1 {a b : D} {r : List D} : atI (a :: b :: r) 1 = some b := atI_of (n := 1) rfl rfl
theorem at2 {a b c : D} {r : List D} : atI (a :: b :: c :: r) 2 = some c := atI_of (n := 2) rfl rfl
theorem at3 {a b c d : D} {r : List D} : atI (a :: b :: c :: d :: r) 3 = some d := atI_of (n := 3) rfl rfl
theorem F_open {R : List Str} {i : Nat} {l : Int} (hR : ∀ r ∈ R, r.length ≤ 1000000) (h : wordsAt R i = pws (.op l)) (h1 : 200 ≤ l) (h2 : l ≤ 1000) : F_read_open [.lst (R.map .str), .int (i : Int)] = some (opO l) := by
 have hw := F_words (i := i) hR
 rw [h] at hw
 have ok : (Pc.op l).Ok := ⟨fun l' e => (by cases e; exact ⟨h1, h2⟩), fun b e => (by cases e)⟩
 have hN := F_plain (ws := pws (.op l)) (k := openS) (bs := [(1, 1000)]) (fun x hx => Nat.lt_of_le_of_lt ((wds_pc ok).2.2 x hx).len (by decide)) (by decide)
 have e : plainR (pws (.op l)) openS [(1, 1000)] = some [l] := by
  unfold plainR
  rw [if_pos (show begs (pws (.op l)) [openS] = true from decide_eq_true (show openS ∈ [openS] from List.mem_singleton.mpr rfl))]
  show seqO [ansB (ts l) (1, 1000)] = _
  rw [ans_ts (by omega) (by omega) ⟨by show 1 ≤ l; omega, h2⟩]
  rfl
 rw [e] at hN
 have hN : F_plain_row [.lst ((pws (.op l)).map .str), .str (Str.ofString "open"), .tup [.kt [.int 1, .int 1000]]] = some (.lst [.int l]) := hN
 rw [F_read_open, seal_eq]
 refine run_rt ?_
 show B_read_open [some (.lst (R.map .str)), some (.int (i : Int)), none] = _
 unfold B_read_open
 ktf_call (hw, hN)
 ktf_call (isD_l)
 ktf_call (ixD_l, ix0, decide_eq_false (show ¬ l < 200 by omega))
 k_search (makeD, ixD_l, ix0, I_opn, Option.map_some)
 rfl
theorem F_bridg {R : List Str} {i : Nat} {b : Br} {nms : List Str} (hR : ∀ r ∈ R, r.length ≤ 1000000) (h : wordsAt R i = pws (.br b)) (hw : IsW b.name) (wf : b.WF) (h6 : nms.length < 6) (hn : b.name ∉ nms) : F_read_bridge [.lst (R.map .str), .int (i : Int), .lst (nms.map .str)] = some b.o := by
 have h1 := wf.l1; have h2 := wf.l2; have h3 := wf.b1; have h4 := wf.b2; have h5 := wf.w1; have h6' := wf.w2; have h7 := wf.m1; have h8 := wf.m2
 have hwd := F_words (i := i) hR
 rw [h] at hwd
 have ok : (Pc.br b).Ok := ⟨fun l' e => (by cases e), fun b e => (by cases e; exact ⟨hw, wf⟩)⟩
 have hN := F_named (ws := pws (.br b)) (k := bridgeS) (bs := [(1, 1000), (1, 10000000), (1, 200), (1, 10000000)]) (fun x hx => Nat.lt_of_le_of_lt ((wds_pc ok).2.2 x hx).len (by decide)) (by decide)
 have e : namedR (pws (.br b)) bridgeS [(1, 1000), (1, 10000000), (1, 200), (1, 10000000)] = some (b.name, [b.length, b.bears, b.wide, b.most]) := by
  show (if bridgeS = bridgeS ∧ Tx.row Tx.low 12 b.name = true then (nums [ts b.length, ts b.bears, ts b.wide, ts b.most] [(1, 1000), (1, 10000000), (1, 200), (1, 10000000)]).map (b.name, ·) else none) = _
  rw [if_pos ⟨rfl, row_w hw⟩]
  show ((seqO [ansB (ts b.length) (1, 1000), ansB (ts b.bears) (1, 10000000), ansB (ts b.wide) (1, 200), ansB (ts b.most) (1, 10000000)]).map _) = _
  rw [ans_ts (by omega) (by omega) ⟨h1, h2⟩, ans_ts (by omega) (by omega) ⟨h3, h4⟩, ans_ts (by omega) (by omega) ⟨h5, h6'⟩, ans_ts (by omega) (by omega) ⟨h7, h8⟩]
  rfl
 rw [e] at hN
 have hN : F_named_row [.lst ((pws (.br b)).map .str), .str (Str.ofString "bridge"), .tup [.kt [.int 1, .int 1000], .kt [.int 1, .int 10000000], .kt [.int 1, .int 200], .kt [.int 1, .int 10000000]]] = some (.tup [.str b.name, .lst [.int b.length, .int b.bears, .int b.wide, .int b.most]]) := hN
 rw [F_read_bridge, seal_eq]
 refine run_rt ?_
 show B_read_bridge [some (.lst (R.map .str)), some (.int (i : Int)), some (.lst (nms.map .str)), none, none] = _
 unfold B_read_bridge
 ktf_call (hwd, hN)
 ktf_call (isD_t, decide_eq_false (show ¬ (6 : Int) ≤ (nms.length : Int) by omega))
 ktf_call (ixD_t, ix0, inT_sl, decide_eq_false hn)
 ktf_call (ixD_t, at1)
 k_search (makeD, ixD_t, ixD_l, ix0, at1, at2, at3, I_br, Option.map_some)
 rfl
def Pc.nm : Pc → Str
 | .op _ => Str.empty
 | .br b => b.name
def nmsOf (ps : List Pc) : List Str := (ps.filter Pc.isB).map Pc.nm
theorem F_nms {ps : List Pc} (h : ps.length < 1000) : F_names_in [.lst (ps.map Pc.o)] = some (.lst ((nmsOf ps).map .str)) := by
 rw [F_names_in, seal_eq]
 refine runF_rt ?_
 show B_names_in [some (.lst (ps.map Pc.o))] = _
 unfold B_names_in
 have hc : compF (itD (vD 0)) (bD (callD (sealed (isC .Bridge)) (aCons (vD 0) aNil))) (uD (sealed (getF .name)) (vD 0)) [] [some (.lst (ps.map Pc.o))] = some (.lst ((nmsOf ps).map .str)) := by
  unfold compF
  simp only [itD, vD_z, bindS, itemsD]
  rw [if_pos (by rw [List.length_map]; omega), comp_sel (p := Pc.isB) (f := fun p : Pc => D.str p.nm)]
  · unfold nmsOf; rw [List.map_map]; rfl
  · intro p _
    cases p with
    | op l =>
      refine ⟨?_, fun q => by cases q⟩
      show bD (callD (sealed (isC .Bridge)) (aCons (vD 0) aNil)) [some (opO l)] = _
      unfold opO
      simp only [bD, callD, aCons, aNil, vD_z, bindS, s_isC (c := .Bridge) (c' := .Open) (fs := [(Fl.length, .int l)]) (b := false) (by decide)]
      rfl
    | br b =>
      refine ⟨?_, fun _ => ?_⟩
      · show bD (callD (sealed (isC .Bridge)) (aCons (vD 0) aNil)) [some b.o] = _
        have c2 : sealed (isC .Bridge) [b.o] = some (.bl true) := s_isC (by decide)
        simp only [bD, callD, aCons, aNil, vD_z, bindS, c2]
        rfl
      · show uD (sealed (getF .name)) (vD 0) [some b.o] = _
        simp only [uD, vD_z, bindS]
        exact get_l rfl
 k_search (hc)
theorem nms_bsP : ∀ {bs : List (Br × Int)}, nmsOf (bsP bs) = bs.map fun x => x.1.name
 | [] => rfl
 | (b, o) :: r => by
   show b.name :: nmsOf (bsP r) = _
   rw [nms_bsP]
   rfl
theorem bsP_take : ∀ {bs : List (Br × Int)} {k : Nat}, bsP (bs.take k) = (bsP bs).take (2 * k)
 | [], k => by rw [List.take_nil]; exact (List.take_nil).symm
 | (b, o) :: r, 0 => rfl
 | (b, o) :: r, k + 1 => by
   show Pc.br b :: .op o :: bsP (r.take k) = (Pc.br b :: .op o :: bsP r).take (2 * k + 2)
   rw [bsP_take]
   rfl
theorem bsP_get : ∀ {bs : List (Br × Int)} {k : Nat} {b : Br} {o : Int}, bs[k]? = some (b, o) → (bsP bs)[2 * k]? = some (.br b) ∧ (bsP bs)[2 * k + 1]? = some (.op o)
 | [], _, _, _, h => by cases h
 | (c, p) :: r, 0, b, o, h => by cases h; exact ⟨rfl, rfl⟩
 | (c, p) :: r, k + 1, b, o, h => bsP_get (bs := r) (k := k) h
theorem clr_br {os : List (List D)} {b : Br} : clr 4 os b.o = true := rfl
theorem clr_op {os : List (List D)} {l : Int} : clr 4 os (opO l) = true := rfl
theorem F_pcs {R : Rod} {rows beh : List Str} (ok : RdOk R) (hR : ∀ r ∈ rows, r.length ≤ 1000000) (he : rows = R.pcs.map (fun p => jrow (pws p)) ++ beh) (hs : begs (firstW beh) [bridgeS] = false) : F_read_pieces [.lst (rows.map .str)] = some (.lst (R.pcs.map Pc.o)) := by
 have n0 := ok.n0
 have n1 := ok.n1
 have pl : R.pcs.length = 1 + 2 * R.bs.length := by unfold Rod.pcs; rw [List.length_cons, bsP_len]; omega
 have word : ∀ (i : Nat) (p : Pc), R.pcs[i]? = some p → wordsAt rows i = pws p := fun i p h => by
  refine words_of (r := jrow (pws p)) ?_ (jrow_words (wds_pc (ok.pc p (List.mem_of_getElem? h))))
  rw [he, List.getElem?_append_left (by rw [List.length_map]; exact (List.getElem?_eq_some_iff.mp h).1), List.getElem?_map, h]
  rfl
 have hb : ∀ k : Nat, F_begins_with [.lst ((wordsAt rows k).map .str), .tup [.str (Str.ofString "bridge")]] = some (.bl (begs (wordsAt rows k) [bridgeS])) := fun k => F_begins (ws := wordsAt rows k) (ks := [bridgeS])
 have hwd : ∀ k : Nat, F_words_at [.lst (rows.map .str), .int ((k : Nat) : Int)] = some (.lst ((wordsAt rows k).map .str)) := fun k => F_words hR
 have f0 := (ok.pc (.op R.first) List.mem_cons_self).op R.first rfl
 have h0 := F_open (i := 0) hR (word 0 (.op R.first) rfl) f0.1 f0.2
 have h0 : F_read_open [.lst (rows.map .str), .int 0] = some (opO R.first) := h0
 have step : ∀ (m k : Nat), k + m = R.bs.length → whN (orB (bD (oD (sealed eqD) (callD (sealed lenD) (aCons (vD 1) aNil)) (cD (.int 1)))) (bD (callD F_begins_with (aCons (callD F_words_at (aCons (vD 0) (aCons (callD (sealed lenD) (aCons (vD 1) aNil)) aNil))) (aCons (tupD (aCons (cD (.str (Str.ofString "bridge"))) aNil)) aNil))))) ((seqS (appA [false, true] 1 (callD F_read_bridge (aCons (vD 0) (aCons (callD (sealed lenD) (aCons (vD 1) aNil)) (aCons (callD F_names_in (aCons (vD 1) aNil)) aNil))))) (appA [false, true] 1 (callD F_read_open (aCons (vD 0) (aCons (callD (sealed lenD) (aCons (vD 1) aNil)) aNil)))))) (m + 1) [some (.lst (rows.map .str)), some (.lst ((R.pcs.take (1 + 2 * k)).map Pc.o))] = some (.nx [some (.lst (rows.map .str)), some (.lst (R.pcs.map Pc.o))]) := by
  intro m
  induction m with
  | zero =>
    intro k hk
    have ek : k = R.bs.length := by omega
    subst ek
    rw [whN, List.take_of_length_le (by omega)]
    have e : wordsAt rows R.pcs.length = firstW beh := by
     have := wordsAt_beh (L := R.pcs.map fun p => jrow (pws p)) (rs := beh)
     rw [← he, List.length_map] at this
     exact this
    have hb' := hb R.pcs.length
    rw [e, hs] at hb'
    have hw' := hwd R.pcs.length
    rw [e] at hw'
    k_search (decide_eq_false (show ¬ (R.pcs.length : Int) = 1 by omega), hw', hb')
  | succ m ih =>
    intro k hk
    have hk' : k < R.bs.length := by omega
    obtain ⟨b, o, hbo⟩ : ∃ b o, R.bs[k]? = some (b, o) := ⟨R.bs[k].1, R.bs[k].2, List.getElem?_eq_getElem hk'⟩
    obtain ⟨g1, g2⟩ := bsP_get hbo
    have g1 : R.pcs[1 + 2 * k]? = some (.br b) := by
     rw [Nat.add_comm]
     exact g1
    have g2 : R.pcs[1 + 2 * k + 1]? = some (.op o) := by
     rw [show 1 + 2 * k + 1 = 2 * k + 1 + 1 by omega]
     exact g2
    have tl : (R.pcs.take (1 + 2 * k)).length = 1 + 2 * k := by rw [List.length_take]; omega
    have t1 : R.pcs.take (1 + 2 * k + 1) = R.pcs.take (1 + 2 * k) ++ [.br b] := by rw [List.take_succ, g1]; rfl
    have t2 : R.pcs.take (1 + 2 * (k + 1)) = R.pcs.take (1 + 2 * k) ++ [.br b] ++ [.op o] := by
     rw [show 1 + 2 * (k + 1) = 1 + 2 * k + 1 + 1 by omega, List.take_succ, g2, t1]
     rfl
    have bk := (ok.pc _ (List.mem_of_getElem? g1)).br b rfl
    have pk := (ok.pc _ (List.mem_of_getElem? g2)).op o rfl
    have nn : nmsOf (R.pcs.take (1 + 2 * k)) = (R.bs.take k).map fun x => x.1.name := by
     rw [Nat.add_comm]
     show nmsOf (.op R.first :: (bsP R.bs).take (2 * k)) = _
     rw [← bsP_take, ← nms_bsP]
     rfl
    have hnm := F_nms (ps := R.pcs.take (1 + 2 * k)) (by omega)
    have hB := F_bridg (i := 1 + 2 * k) (nms := nmsOf (R.pcs.take (1 + 2 * k))) hR (word _ _ g1) bk.1 bk.2 (by rw [nn, List.length_map, List.length_take]; omega) (by
     rw [nn]
     have nd := ok.nd
     have e : (R.bs.map fun x => x.1.name) = ((R.bs.take k).map fun x => x.1.name) ++ (b.name :: (R.bs.drop (k + 1)).map fun x => x.1.name) := by
      obtain ⟨hk2, e⟩ := List.getElem?_eq_some_iff.mp hbo
      have : (b.name :: (R.bs.drop (k + 1)).map fun x => x.1.name) = (R.bs.drop k).map fun x => x.1.name := by
       rw [← List.getElem_cons_drop hk2, List.map_cons, e]
      rw [this, ← List.map_append, List.take_append_drop]
     rw [e] at nd
     exact fun q => (List.nodup_append.mp nd).2.2 _ q _ List.mem_cons_self rfl)
    have hO := F_open (i := 1 + 2 * k + 1) hR (word _ _ g2) pk.1 pk.2
    have hb' := hb (1 + 2 * k)
    have hw' := hwd (1 + 2 * k)
    rw [word _ _ g1] at hb' hw'
    rw [show begs (pws (.br b)) [bridgeS] = true from decide_eq_true (show bridgeS ∈ [bridgeS] from List.mem_singleton.mpr rfl)] at hb'
    have hif : orB (bD (oD (sealed eqD) (callD (sealed lenD) (aCons (vD 1) aNil)) (cD (.int 1)))) (bD (callD F_begins_with (aCons (callD F_words_at (aCons (vD 0) (aCons (callD (sealed lenD) (aCons (vD 1) aNil)) aNil))) (aCons (tupD (aCons (cD (.str (Str.ofString "bridge"))) aNil)) aNil)))) [some (.lst (rows.map .str)), some (.lst ((R.pcs.take (1 + 2 * k)).map Pc.o))] = some true := by
     by_cases hz : ((1 + 2 * k : Nat) : Int) = 1
     · skip
       k_search (tl, decide_eq_true hz)
     · skip
       k_search (tl, decide_eq_false hz, hw', hb')
    rw [whN, hif, bindS, ite_tt]
    have hl1 : 1 + 2 * k < 1000000 := by omega
    have hl2 : 1 + 2 * k + 1 < 1000000 := by omega
    have ho1 : ownL [false, true] [some (.lst (rows.map .str)), some (.lst ((R.pcs.take (1 + 2 * k)).map Pc.o))] = [(R.pcs.take (1 + 2 * k)).map Pc.o] := rfl
    have hbody : ((seqS (appA [false, true] 1 (callD F_read_bridge (aCons (vD 0) (aCons (callD (sealed lenD) (aCons (vD 1) aNil)) (aCons (callD F_names_in (aCons (vD 1) aNil)) aNil))))) (appA [false, true] 1 (callD F_read_open (aCons (vD 0) (aCons (callD (sealed lenD) (aCons (vD 1) aNil)) aNil)))))) [some (.lst (rows.map .str)), some (.lst ((R.pcs.take (1 + 2 * k)).map Pc.o))] = some (.nx [some (.lst (rows.map .str)), some (.lst ((R.pcs.take (1 + 2 * (k + 1))).map Pc.o))]) := by
     ktf_call (appA, tl, hnm, hB, clr_br, hl1)
     have e1 : (R.pcs.take (1 + 2 * k)).map Pc.o ++ [b.o] = (R.pcs.take (1 + 2 * k + 1)).map Pc.o := by rw [t1, List.map_append]; rfl
     have tl2 : (R.pcs.take (1 + 2 * k + 1)).length = 1 + 2 * k + 1 := by rw [t1, List.length_append, tl]; rfl
     rw [e1]
     k_search (appA, tl2, hO, clr_op, hl2)
     rw [← e1, t2, List.map_append, List.map_append]
     rfl
    rw [hbody, bindS]
    exact ih (k + 1) (by omega)
 have hloop := whS_of (step R.bs.length 0 (by omega)) (by omega)
 rw [F_read_pieces, seal_eq]
 refine runF_rt ?_
 show B_read_pieces [some (.lst (rows.map .str)), none] = _
 unfold B_read_pieces
 ktf_call (h0)
 ktf_call (show whS _ _ [some (.lst (rows.map .str)), some (.lst [opO R.first])] = _ from hloop)
 k_search (bindS)
theorem nin_sl {x : Str} {xs : List Str} : sealed ninD (.str x) (.lst (xs.map .str)) = some (.bl (!decide (x ∈ xs))) := by
 rw [seal_eq]
 show ((some (V.str x)).bind fun z => (some (xs.map D.str)).bind fun ys => (sVs ys).map fun vs => inV z vs).map (fun b => D.bl (!b)) = _
 rw [bindS, bindS, sVs_str]
 show some (D.bl (!inV (.str x) (xs.map V.str))) = _
 rw [inV_str]
theorem F_rnd {R nms : List Str} {i : Nat} {r : Str × Int} {rs : List (Str × Int)} (hR : ∀ x ∈ R, x.length ≤ 1000000) (h : wordsAt R i = rws r) (ok : RnOk r) (hn : r.1 ∈ nms) (h6 : rs.length ≤ 6) (hd : r.1 ∉ rs.map (·.1)) : F_read_round [.lst (R.map .str), .int (i : Int), .lst (nms.map .str), .lst (rs.map rdT)] = some (rdT r) := by
 have h1 := ok.a; have h2 := ok.b
 have hwd := F_words (i := i) hR
 rw [h] at hwd
 have hN := F_named (ws := rws r) (k := roundS) (bs := [(1, 1000)]) (fun x hx => Nat.lt_of_le_of_lt ((wds_rn ok).2.2 x hx).len (by decide)) (by decide)
 have e : namedR (rws r) roundS [(1, 1000)] = some (r.1, [r.2]) := by
  show (if roundS = roundS ∧ Tx.row Tx.low 12 r.1 = true then (nums [ts r.2] [(1, 1000)]).map (r.1, ·) else none) = _
  rw [if_pos ⟨rfl, row_w ok.w⟩]
  show ((seqO [ansB (ts r.2) (1, 1000)]).map _) = _
  rw [ans_ts (by omega) (by omega) ⟨h1, h2⟩]
  rfl
 rw [e] at hN
 have hN : F_named_row [.lst ((rws r).map .str), .str (Str.ofString "round"), .tup [.kt [.int 1, .int 1000]]] = some (.tup [.str r.1, .lst [.int r.2]]) := hN
 rw [F_read_round, seal_eq]
 refine run_rt ?_
 show B_read_round [some (.lst (R.map .str)), some (.int (i : Int)), some (.lst (nms.map .str)), some (.lst (rs.map rdT)), none] = _
 unfold B_read_round
 ktf_call (hwd, hN)
 ktf_call (isD_t)
 ktf_call (ixD_t, ix0, nin_sl, decide_eq_true hn)
 have hc : compF (itD (vD 3)) yesB (oD (sealed ixD) (vD 0) (cD (.int 0))) [] [some (.lst (R.map .str)), some (.int (i : Int)), some (.lst (nms.map .str)), some (.lst (rs.map rdT)), some (.tup [.str r.1, .lst [.int r.2]])] = some (.lst ((rs.map (·.1)).map .str)) := by
  unfold compF
  simp only [itD, vD_z, vD_s, bindS, itemsD]
  rw [if_pos (by rw [List.length_map]; omega), comp_map (f := fun z : Str × Int => D.str z.1)]
  · rw [List.map_map]; rfl
  · intro z _
    refine ⟨rfl, ?_⟩
    show oD (sealed ixD) (vD 0) (cD (.int 0)) [some (rdT z)] = _
    unfold rdT
    simp only [oD, vD_z, cD, bindS, ixD_t, ix0]
 ktf_call (ixD_t, ix0, hc, inT_sl, decide_eq_false hd)
 k_search (ixD_t, ixD_l, ix0, at1)
 rfl
theorem F_sht {R nms : List Str} {i : Nat} {r : Str × Int × Int} (hR : ∀ x ∈ R, x.length ≤ 1000000) (h : wordsAt R i = sws r) (ok : ShOk r) (hn : r.1 ∈ nms) : F_read_shut [.lst (R.map .str), .int (i : Int), .lst (nms.map .str)] = some (shT r) := by
 have h1 := ok.a; have h2 := ok.b; have h3 := ok.c
 have hwd := F_words (i := i) hR
 rw [h] at hwd
 have hN := F_named (ws := sws r) (k := shutS) (bs := [(0, 10000), (0, 10000)]) (fun x hx => Nat.lt_of_le_of_lt ((wds_sh ok).2.2 x hx).len (by decide)) (by decide)
 have e : namedR (sws r) shutS [(0, 10000), (0, 10000)] = some (r.1, [r.2.1, r.2.2]) := by
  show (if shutS = shutS ∧ Tx.row Tx.low 12 r.1 = true then (nums [ts r.2.1, ts r.2.2] [(0, 10000), (0, 10000)]).map (r.1, ·) else none) = _
  rw [if_pos ⟨rfl, row_w ok.w⟩]
  show ((seqO [ansB (ts r.2.1) (0, 10000), ansB (ts r.2.2) (0, 10000)]).map _) = _
  rw [ans_ts (by omega) (by omega) ⟨h1, by show r.2.1 ≤ 10000; omega⟩, ans_ts (by omega) (by omega) ⟨by show 0 ≤ r.2.2; omega, h3⟩]
  rfl
 rw [e] at hN
 have hN : F_named_row [.lst ((sws r).map .str), .str (Str.ofString "shut"), .tup [.kt [.int 0, .int 10000], .kt [.int 0, .int 10000]]] = some (.tup [.str r.1, .lst [.int r.2.1, .int r.2.2]]) := hN
 rw [F_read_shut, seal_eq]
 refine run_rt ?_
 show B_read_shut [some (.lst (R.map .str)), some (.int (i : Int)), some (.lst (nms.map .str)), none] = _
 unfold B_read_shut
 ktf_call (hwd, hN)
 ktf_call (isD_t, ixD_t, at1, ixD_l, ix0, decide_eq_false (show ¬ r.2.2 ≤ r.2.1 by omega))
 ktf_call (ixD_t, ix0, nin_sl, decide_eq_true hn)
 k_search (ixD_t, ixD_l, ix0, at1)
 rfl
theorem flat_rd (r : Str × Int) : (rdT r).flat = true := by simp [rdT, D.flat, flats]
theorem rs_ne : shutS ≠ roundS := by decide +kernel
theorem wordsAt_mid {P T B : List Str} {x : Str} : wordsAt (P ++ x :: T ++ B) P.length = Txt.split x ⟨#[32]⟩ := by
 unfold wordsAt
 rw [List.append_assoc, List.getElem?_append_right (Nat.le_refl _), Nat.sub_self]
 rfl
theorem tail_read {R : Rod} (ok : RdOk R) {beh : List Str} (hs : begs (firstW beh) [roundS, shutS] = false) {rs : List (Str × Int)} {ss : List (Str × Int × Int)} {T : List Str} (hm : Mrg rs ss T) : ∀ (P : List Str) (r0 : List (Str × Int)) (s0 : List (Str × Int × Int)) (o1 : Option D), (∀ x ∈ P ++ T ++ beh, x.length ≤ 1000000) → r0 ++ rs = R.rounds → s0 ++ ss = R.shuts →
 whN (bD (callD F_begins_with (aCons (callD F_words_at (aCons (vD 0) (aCons (vD 5) aNil))) (aCons (tupD (aCons (cD (.str (Str.ofString "round"))) (aCons (cD (.str (Str.ofString "shut"))) aNil))) aNil)))) ((seqS (ifS (bD (callD F_begins_with (aCons (callD F_words_at (aCons (vD 0) (aCons (vD 5) aNil))) (aCons (tupD (aCons (cD (.str (Str.ofString "round"))) aNil)) aNil)))) (appW 3 (callD F_read_round (aCons (vD 0) (aCons (vD 5) (aCons (vD 2) (aCons (vD 3) aNil)))))) (appS 4 (mk [false, false, false, true, true, false] (callD F_read_shut (aCons (vD 0) (aCons (vD 5) (aCons (vD 2) aNil))))))) (setS 5 (mk [false, false, false, true, true, false] (oD (sealed addD) (vD 5) (cD (.int 1))))))) (T.length + 1) [some (.lst ((P ++ T ++ beh).map .str)), o1, some (.lst ((R.bs.map fun x => x.1.name).map .str)), some (.lst (r0.map rdT)), some (.lst (s0.map shT)), some (.int (P.length : Int))] = some (.nx [some (.lst ((P ++ T ++ beh).map .str)), o1, some (.lst ((R.bs.map fun x => x.1.name).map .str)), some (.lst (R.rounds.map rdT)), some (.lst (R.shuts.map shT)), some (.int ((P.length + T.length : Nat) : Int))]) := by
 induction hm with
 | nil =>
   intro P r0 s0 o1 hR er es
   rw [List.append_nil] at er es hR ⊢
   rw [er, es]
   have hb := F_begins (ws := wordsAt (P ++ beh) P.length) (ks := [roundS, shutS])
   have hw := F_words (i := P.length) hR
   rw [wordsAt_beh] at hb hw
   rw [hs] at hb
   have hb : F_begins_with [.lst ((firstW beh).map .str), .tup [.str (Str.ofString "round"), .str (Str.ofString "shut")]] = some (.bl false) := hb
   show whN _ _ (0 + 1) _ = _
   rw [whN]
   k_search (hw, hb)
   rfl
 | @rn r rs ss T h ih =>
   intro P r0 s0 o1 hR er es
   have hmem : r ∈ R.rounds := by rw [← er]; exact List.mem_append_right _ List.mem_cons_self
   obtain ⟨rok, rin⟩ := ok.rn r hmem
   have ew : wordsAt (P ++ jrow (rws r) :: T ++ beh) P.length = rws r := by rw [wordsAt_mid, jrow_words (wds_rn rok)]
   have hb := F_begins (ws := rws r) (ks := [roundS, shutS])
   have hb2 := F_begins (ws := rws r) (ks := [roundS])
   have hw := F_words (i := P.length) hR
   rw [ew] at hw
   rw [show begs (rws r) [roundS, shutS] = true from decide_eq_true (show roundS ∈ [roundS, shutS] from List.mem_cons_self)] at hb
   rw [show begs (rws r) [roundS] = true from decide_eq_true (show roundS ∈ [roundS] from List.mem_cons_self)] at hb2
   have hb : F_begins_with [.lst ((rws r).map .str), .tup [.str (Str.ofString "round"), .str (Str.ofString "shut")]] = some (.bl true) := hb
   have hb2 : F_begins_with [.lst ((rws r).map .str), .tup [.str (Str.ofString "round")]] = some (.bl true) := hb2
   have rl := ok.rl
   have hl0 : r0.length ≤ 6 := by rw [← er, List.length_append] at rl; omega
   have hF := F_rnd (nms := R.bs.map fun x => x.1.name) (rs := r0) hR ew rok rin hl0 (by
    have nd := ok.rd
    rw [← er, List.map_append, List.map_cons] at nd
    exact fun q => (List.nodup_append.mp nd).2.2 _ q _ List.mem_cons_self rfl)
   have hfl := flat_rd r
   have hl1 : r0.length < 1000000 := by omega
   have hi := ih (P ++ [jrow (rws r)]) (r0 ++ [r]) s0 o1 (by simpa using hR) (by simpa using er) es
   rw [show P ++ [jrow (rws r)] ++ T ++ beh = P ++ jrow (rws r) :: T ++ beh by simp, List.length_append, List.length_singleton] at hi
   have hif : bD (callD F_begins_with (aCons (callD F_words_at (aCons (vD 0) (aCons (vD 5) aNil))) (aCons (tupD (aCons (cD (.str (Str.ofString "round"))) (aCons (cD (.str (Str.ofString "shut"))) aNil))) aNil))) [some (.lst ((P ++ jrow (rws r) :: T ++ beh).map .str)), o1, some (.lst ((R.bs.map fun x => x.1.name).map .str)), some (.lst (r0.map rdT)), some (.lst (s0.map shT)), some (.int (P.length : Int))] = some true := by
    k_search (hw, hb)
   have hbody : ((seqS (ifS (bD (callD F_begins_with (aCons (callD F_words_at (aCons (vD 0) (aCons (vD 5) aNil))) (aCons (tupD (aCons (cD (.str (Str.ofString "round"))) aNil)) aNil)))) (appW 3 (callD F_read_round (aCons (vD 0) (aCons (vD 5) (aCons (vD 2) (aCons (vD 3) aNil)))))) (appS 4 (mk [false, false, false, true, true, false] (callD F_read_shut (aCons (vD 0) (aCons (vD 5) (aCons (vD 2) aNil))))))) (setS 5 (mk [false, false, false, true, true, false] (oD (sealed addD) (vD 5) (cD (.int 1))))))) [some (.lst ((P ++ jrow (rws r) :: T ++ beh).map .str)), o1, some (.lst ((R.bs.map fun x => x.1.name).map .str)), some (.lst (r0.map rdT)), some (.lst (s0.map shT)), some (.int (P.length : Int))] = some (.nx [some (.lst ((P ++ jrow (rws r) :: T ++ beh).map .str)), o1, some (.lst ((R.bs.map fun x => x.1.name).map .str)), some (.lst ((r0 ++ [r]).map rdT)), some (.lst (s0.map shT)), some (.int ((P.length + 1 : Nat) : Int))]) := by
    ktf_call (hw, hb2, hF, hfl, hl1)
    rw [show (r0 ++ [r]).map rdT = r0.map rdT ++ [rdT r] by rw [List.map_append]; rfl]
    k_search (show ((P.length + 1 : Nat) : Int) = (P.length : Int) + 1 by omega)
   rw [List.length_cons, whN, hif, bindS, ite_tt, hbody, bindS]
   refine Eq.trans hi ?_
   rw [show P.length + 1 + T.length = P.length + (T.length + 1) by omega]
 | @sh s rs ss T h ih =>
   intro P r0 s0 o1 hR er es
   have hmem : s ∈ R.shuts := by rw [← es]; exact List.mem_append_right _ List.mem_cons_self
   obtain ⟨sok, sin⟩ := ok.sn s hmem
   have ew : wordsAt (P ++ jrow (sws s) :: T ++ beh) P.length = sws s := by rw [wordsAt_mid, jrow_words (wds_sh sok)]
   have hb := F_begins (ws := sws s) (ks := [roundS, shutS])
   have hb2 := F_begins (ws := sws s) (ks := [roundS])
   have hw := F_words (i := P.length) hR
   rw [ew] at hw
   rw [show begs (sws s) [roundS, shutS] = true from decide_eq_true (show shutS ∈ [roundS, shutS] from List.mem_cons_of_mem _ List.mem_cons_self)] at hb
   rw [show begs (sws s) [roundS] = false from decide_eq_false (fun q => rs_ne (List.mem_singleton.mp q))] at hb2
   have hb : F_begins_with [.lst ((sws s).map .str), .tup [.str (Str.ofString "round"), .str (Str.ofString "shut")]] = some (.bl true) := hb
   have hb2 : F_begins_with [.lst ((sws s).map .str), .tup [.str (Str.ofString "round")]] = some (.bl false) := hb2
   have sl := ok.sl
   have hl1 : s0.length < 1000000 := by rw [← es, List.length_append] at sl; omega
   have hF := F_sht (nms := R.bs.map fun x => x.1.name) hR ew sok sin
   have hi := ih (P ++ [jrow (sws s)]) r0 (s0 ++ [s]) o1 (by simpa using hR) er (by simpa using es)
   rw [show P ++ [jrow (sws s)] ++ T ++ beh = P ++ jrow (sws s) :: T ++ beh by simp, List.length_append, List.length_singleton] at hi
   have hif : bD (callD F_begins_with (aCons (callD F_words_at (aCons (vD 0) (aCons (vD 5) aNil))) (aCons (tupD (aCons (cD (.str (Str.ofString "round"))) (aCons (cD (.str (Str.ofString "shut"))) aNil))) aNil))) [some (.lst ((P ++ jrow (sws s) :: T ++ beh).map .str)), o1, some (.lst ((R.bs.map fun x => x.1.name).map .str)), some (.lst (r0.map rdT)), some (.lst (s0.map shT)), some (.int (P.length : Int))] = some true := by
    k_search (hw, hb)
   have hbody : ((seqS (ifS (bD (callD F_begins_with (aCons (callD F_words_at (aCons (vD 0) (aCons (vD 5) aNil))) (aCons (tupD (aCons (cD (.str (Str.ofString "round"))) aNil)) aNil)))) (appW 3 (callD F_read_round (aCons (vD 0) (aCons (vD 5) (aCons (vD 2) (aCons (vD 3) aNil)))))) (appS 4 (mk [false, false, false, true, true, false] (callD F_read_shut (aCons (vD 0) (aCons (vD 5) (aCons (vD 2) aNil))))))) (setS 5 (mk [false, false, false, true, true, false] (oD (sealed addD) (vD 5) (cD (.int 1))))))) [some (.lst ((P ++ jrow (sws s) :: T ++ beh).map .str)), o1, some (.lst ((R.bs.map fun x => x.1.name).map .str)), some (.lst (r0.map rdT)), some (.lst (s0.map shT)), some (.int (P.length : Int))] = some (.nx [some (.lst ((P ++ jrow (sws s) :: T ++ beh).map .str)), o1, some (.lst ((R.bs.map fun x => x.1.name).map .str)), some (.lst (r0.map rdT)), some (.lst ((s0 ++ [s]).map shT)), some (.int ((P.length + 1 : Nat) : Int))]) := by
    ktf_call (hw, hb2, hF, hl1)
    rw [show (s0 ++ [s]).map shT = s0.map shT ++ [shT s] by rw [List.map_append]; rfl]
    k_search (show ((P.length + 1 : Nat) : Int) = (P.length : Int) + 1 by omega)
   rw [List.length_cons, whN, hif, bindS, ite_tt, hbody, bindS]
   refine Eq.trans hi ?_
   rw [show P.length + 1 + T.length = P.length + (T.length + 1) by omega]
def pcR (R : Rod) : List Str := R.pcs.map fun p => jrow (pws p)
theorem F_rfrom {R : Rod} (ok : RdOk R) {T beh : List Str} (hm : Mrg R.rounds R.shuts T) (hR : ∀ x ∈ pcR R ++ T ++ beh, x.length ≤ 1000000) (hs : begs (firstW beh) [roundS, shutS] = false) (hb : begs (firstW beh) [bridgeS] = false) : F_road_from [.lst ((pcR R ++ T ++ beh).map .str)] = some (.tup [R.o, .int ((pcR R ++ T).length : Int)]) := by
 have n1 := ok.n1
 have pl : R.pcs.length = 1 + 2 * R.bs.length := by unfold Rod.pcs; rw [List.length_cons, bsP_len]; omega
 have key : ∀ {rs : List (Str × Int)} {ss : List (Str × Int × Int)} {T : List Str}, Mrg rs ss T → (∀ r ∈ rs, RnOk r) → (∀ s ∈ ss, ShOk s) → begs (firstW (T ++ beh)) [bridgeS] = false := fun h hr hs' => by
  cases h with
  | nil => exact hb
  | @rn r rs ss T h =>
    show begs (Txt.split (jrow (rws r)) ⟨#[32]⟩) [bridgeS] = false
    rw [jrow_words (wds_rn (hr r List.mem_cons_self))]
    show decide (roundS ∈ [bridgeS]) = false
    decide +kernel
  | @sh s rs ss T h =>
    show begs (Txt.split (jrow (sws s)) ⟨#[32]⟩) [bridgeS] = false
    rw [jrow_words (wds_sh (hs' s List.mem_cons_self))]
    show decide (shutS ∈ [bridgeS]) = false
    decide +kernel
 have hfT := key hm (fun r h => (ok.rn r h).1) (fun s h => (ok.sn s h).1)
 have hP := F_pcs (R := R) (rows := pcR R ++ T ++ beh) (beh := T ++ beh) ok hR (by rw [List.append_assoc]; rfl) hfT
 have hN := F_nms (ps := R.pcs) (by omega)
 have enm : nmsOf R.pcs = R.bs.map fun x => x.1.name := nms_bsP (bs := R.bs)
 rw [enm] at hN
 have ht := tail_read ok hs hm (pcR R) [] [] (some (.lst (R.pcs.map Pc.o))) hR rfl rfl
 have hl := hm.len
 have rl := ok.rl
 have sl := ok.sl
 have hloop := whS_of ht (by omega)
 have pcl : (pcR R).length = R.pcs.length := List.length_map _
 rw [pcl] at hloop
 rw [F_road_from, seal_eq]
 refine run_rt ?_
 show B_road_from [some (.lst ((pcR R ++ T ++ beh).map .str)), none, none, none, none, none] = _
 unfold B_road_from
 ktf_call (hP)
 ktf_call (hN)
 ktf_call (bindS)
 ktf_call (bindS)
 ktf_call (bindS)
 ktf_call (show whS _ _ [some (.lst ((pcR R ++ T ++ beh).map .str)), some (.lst (R.pcs.map Pc.o)), some (.lst ((R.bs.map fun x => x.1.name).map .str)), some (.lst []), some (.lst []), some (.int (R.pcs.length : Int))] = _ from hloop)
 k_search (makeD, I_rd, Option.map_some)
 rw [pcl]
 rfl
theorem rows_all {R : Rod} (ok : RdOk R) {T : List Str} (hm : Mrg R.rounds R.shuts T) : ∀ x ∈ pcR R ++ T, ∃ ws, Wds ws ∧ x = jrow ws := by
 intro x hx
 rcases List.mem_append.mp hx with hx | hx
 · obtain ⟨p, hp, rfl⟩ := List.mem_map.mp hx
   exact ⟨_, wds_pc (ok.pc p hp), rfl⟩
 · exact hm.ok (fun r h => (ok.rn r h).1) (fun s h => (ok.sn s h).1) x hx
theorem rows_few {R : Rod} (ok : RdOk R) {T : List Str} (hm : Mrg R.rounds R.shuts T) : (pcR R ++ T).length ≤ 100 := by
 have n1 := ok.n1
 have rl := ok.rl
 have sl := ok.sl
 have pl : R.pcs.length = 1 + 2 * R.bs.length := by unfold Rod.pcs; rw [List.length_cons, bsP_len]; omega
 have pcl : (pcR R).length = R.pcs.length := List.length_map _
 rw [List.length_append, hm.len]
 omega
theorem sum_100 : ∀ {rs : List Str}, (∀ r ∈ rs, RowOk r) → (rs.map (·.length)).sum ≤ 100 * rs.length
 | [], _ => Nat.le_refl _
 | r :: t, h => by
   have := sum_100 (rs := t) fun z hz => h z (List.mem_cons_of_mem _ hz)
   have := (h r List.mem_cons_self).len
   rw [List.map_cons, List.sum_cons, List.length_cons]
   omega
theorem F_rtext {R : Rod} (ok : RdOk R) {T : List Str} (hm : Mrg R.rounds R.shuts T) : sealed joinD (.str (Str.ofString "\n")) [.lst ((pcR R ++ T).map .str)] = some (.str (Txt.join ⟨#[10]⟩ (pcR R ++ T))) ∧ (Txt.join ⟨#[10]⟩ (pcR R ++ T)).length ≤ 1000000 := by
 have h1 := rows_few ok hm
 have h2 := sum_100 (rs := pcR R ++ T) fun x hx => by
  obtain ⟨ws, hw, rfl⟩ := rows_all ok hm x hx
  exact jrow_ok hw
 constructor
 · rw [nl_is]
   refine join_s ?_
   rw [show (⟨#[10]⟩ : Str).length = 1 from rfl]
   omega
 · rw [show Txt.join ⟨#[10]⟩ (pcR R ++ T) = Str.join ⟨#[10]⟩ (pcR R ++ T) from StrLaws.glued_eq_join _ _]
   have := StrLaws.join_length_le ⟨#[10]⟩ (pcR R ++ T)
   rw [show (⟨#[10]⟩ : Str).length = 1 from rfl] at this
   omega
theorem F_rof {R : Rod} (ok : RdOk R) {T : List Str} (hm : Mrg R.rounds R.shuts T) : F_road_of [.str (Txt.join ⟨#[10]⟩ (pcR R ++ T))] = some R.o := by
 have hr := F_rows (F_rtext ok hm).2
 rw [split_jn (show pcR R ++ T ≠ [] from fun q => by cases q) fun x hx => by
  obtain ⟨ws, hw, rfl⟩ := rows_all ok hm x hx
  exact (jrow_ok hw).nl] at hr
 have hf := F_rfrom ok (beh := []) hm (fun x hx => by
  rw [List.append_nil] at hx
  obtain ⟨ws, hw, rfl⟩ := rows_all ok hm x hx
  exact Nat.le_trans (jrow_ok hw).len (by decide)) rfl rfl
 rw [List.append_nil] at hf
 rw [F_road_of, seal_eq]
 refine run_rt ?_
 show B_road_of [some (.str (Txt.join ⟨#[10]⟩ (pcR R ++ T))), none, none] = _
 unfold B_road_of
 ktf_call (hr)
 ktf_call (hf)
 ktf_call (ixD_t, at1, decide_eq_false (Int.lt_irrefl _))
 k_search (ixD_t, ix0)
theorem F_rowof {ps : List (D × Str)} (hp : ∀ p ∈ ps, sealed strD [p.1] = some (.str p.2)) (hw : Wds (ps.map (·.2))) : F_row_of [.lst (ps.map (·.1))] = some (.str (jrow (ps.map (·.2)))) := by
 have h6 := hw.2.1
 rw [List.length_map] at h6
 rw [F_row_of, seal_eq]
 refine run_rt ?_
 show B_row_of [some (.lst (ps.map (·.1)))] = _
 unfold B_row_of
 have hc : compF (itD (vD 0)) yesB (callD (sealed strD) (aCons (vD 0) aNil)) [] [some (.lst (ps.map (·.1)))] = some (.lst ((ps.map (·.2)).map .str)) := by
  unfold compF
  simp only [itD, vD_z, bindS, itemsD]
  rw [if_pos (by rw [List.length_map]; omega), comp_strs hp]
  rfl
 k_search (hc, sp_is, join_wds hw)
theorem F_prow {p : Pc} (ok : p.Ok) : F_piece_row [p.o] = some (.str (jrow (pws p))) := by
 have hr := F_rowof (ps := pps p) (pps_ok ok) (by rw [pps_w]; exact wds_pc ok)
 rw [pps_w] at hr
 rw [F_piece_row, seal_eq]
 refine run_rt ?_
 show B_piece_row [some p.o] = _
 unfold B_piece_row
 cases p with
 | op l =>
   have g1 : sealed (getF .length) (.ob .Open [(Fl.length, .int l)]) = some (.int l) := get_l rfl
   have hr : F_row_of [.lst [.str (Str.ofString "open"), .int l]] = some (.str (jrow (pws (.op l)))) := hr
   k_search (Pc.o, opO, s_isC (c := .Open) (c' := .Open) (fs := [(Fl.length, .int l)]) (b := true) (by decide), g1, hr)
 | br b =>
   have g1 : sealed (getF .name) b.o = some (.str b.name) := get_l rfl
   have g2 : sealed (getF .length) b.o = some (.int b.length) := get_l rfl
   have g3 : sealed (getF .bears) b.o = some (.int b.bears) := get_l rfl
   have g4 : sealed (getF .wide) b.o = some (.int b.wide) := get_l rfl
   have g5 : sealed (getF .most) b.o = some (.int b.most) := get_l rfl
   have c1 : sealed (isC .Open) [b.o] = some (.bl false) := s_isC (by decide)
   have hr : F_row_of [.lst [.str (Str.ofString "bridge"), .str b.name, .int b.length, .int b.bears, .int b.wide, .int b.most]] = some (.str (jrow (pws (.br b)))) := hr
   k_search (Pc.o, c1, g1, g2, g3, g4, g5, hr)
def rT (R : Rod) : List Str := R.rounds.map (fun r => jrow (rws r)) ++ R.shuts.map fun s => jrow (sws s)
theorem mrg_rT {rs : List (Str × Int)} {ss : List (Str × Int × Int)} : Mrg rs ss (rs.map (fun r => jrow (rws r)) ++ ss.map fun s => jrow (sws s)) := by
 induction rs with
 | nil =>
   induction ss with
   | nil => exact .nil
   | cons s t ih => exact .sh ih
 | cons r t ih => exact .rn ih
theorem addD_l {a b : List D} (h : a.length + b.length ≤ 1000000) : sealed addD (.lst a) (.lst b) = some (.lst (a ++ b)) := by rw [seal_eq]; exact if_pos h
theorem F_rrows {R : Rod} (ok : RdOk R) : F_road_rows [R.o] = some (.lst ((pcR R ++ rT R).map .str)) := by
 have n1 := ok.n1
 have rl := ok.rl
 have sl := ok.sl
 have pl : R.pcs.length = 1 + 2 * R.bs.length := by unfold Rod.pcs; rw [List.length_cons, bsP_len]; omega
 have pcl : (pcR R).length = R.pcs.length := List.length_map _
 rw [F_road_rows, seal_eq]
 refine runF_rt ?_
 show B_road_rows [some R.o, none, none, none] = _
 unfold B_road_rows
 have h1 : compF (itD (uD (sealed (getF .pieces)) (vD 0))) yesB (callD F_piece_row (aCons (vD 0) aNil)) [] [some R.o, none, none, none] = some (.lst ((pcR R).map .str)) := by
  unfold compF
  simp only [itD, uD, vD_z, bindS, g_pieces, itemsD]
  rw [if_pos (by rw [List.length_map]; omega), comp_map (f := fun p : Pc => D.str (jrow (pws p)))]
  · unfold pcR; rw [List.map_map]; rfl
  · intro p hp
    refine ⟨rfl, ?_⟩
    simp only [callD, aCons, aNil, vD_z, bindS]
    exact F_prow (ok.pc p hp)
 have h2 : ∀ o1 : Option D, compF (itD (uD (sealed (getF .rounds)) (vD 0))) yesB (callD F_row_of (aCons (lstD (aCons (cD (.str (Str.ofString "round"))) (aCons (oD (sealed ixD) (vD 0) (cD (.int 0))) (aCons (oD (sealed ixD) (vD 0) (cD (.int 1))) aNil)))) aNil)) [] [some R.o, o1, none, none] = some (.lst ((R.rounds.map fun r => jrow (rws r)).map .str)) := fun o1 => by
  unfold compF
  simp only [itD, uD, vD_z, bindS, g_rounds, itemsD]
  rw [if_pos (by rw [List.length_map]; omega), comp_map (f := fun r : Str × Int => D.str (jrow (rws r)))]
  · rw [List.map_map]; rfl
  · intro r hr
    refine ⟨rfl, ?_⟩
    have hr' : F_row_of [.lst [.str (Str.ofString "round"), .str r.1, .int r.2]] = some (.str (jrow (rws r))) := F_rowof (ps := [(.str roundS, roundS), (.str r.1, r.1), (.int r.2, ts r.2)]) (rps_ok (ok.rn r hr).1) (wds_rn (ok.rn r hr).1)
    show callD F_row_of _ (some (rdT r) :: _) = _
    unfold rdT
    simp only [callD, aCons, aNil, lstD, oD, cD, vD_z, bindS, ixD_t, ix0, at1, hr']
 have h3 : ∀ o1 o2 : Option D, compF (itD (uD (sealed (getF .shuts)) (vD 0))) yesB (callD F_row_of (aCons (lstD (aCons (cD (.str (Str.ofString "shut"))) (aCons (oD (sealed ixD) (vD 0) (cD (.int 0))) (aCons (oD (sealed ixD) (vD 0) (cD (.int 1))) (aCons (oD (sealed ixD) (vD 0) (cD (.int 2))) aNil))))) aNil)) [] [some R.o, o1, o2, none] = some (.lst ((R.shuts.map fun s => jrow (sws s)).map .str)) := fun o1 o2 => by
  unfold compF
  simp only [itD, uD, vD_z, bindS, g_shuts, itemsD]
  rw [if_pos (by rw [List.length_map]; omega), comp_map (f := fun s : Str × Int × Int => D.str (jrow (sws s)))]
  · rw [List.map_map]; rfl
  · intro r hr
    refine ⟨rfl, ?_⟩
    have hr' : F_row_of [.lst [.str (Str.ofString "shut"), .str r.1, .int r.2.1, .int r.2.2]] = some (.str (jrow (sws r))) := F_rowof (ps := [(.str shutS, shutS), (.str r.1, r.1), (.int r.2.1, ts r.2.1), (.int r.2.2, ts r.2.2)]) (sps_ok (ok.sn r hr).1) (wds_sh (ok.sn r hr).1)
    show callD F_row_of _ (some (shT r) :: _) = _
    unfold shT
    simp only [callD, aCons, aNil, lstD, oD, cD, vD_z, bindS, ixD_t, ix0, at1, at2, hr']
 have ha : sealed addD (.lst ((pcR R).map .str)) (.lst ((R.rounds.map fun r => jrow (rws r)).map .str)) = some (.lst ((pcR R).map .str ++ (R.rounds.map fun r => jrow (rws r)).map .str)) := addD_l (by rw [List.length_map, List.length_map, List.length_map]; omega)
 have hc : sealed catD (.lst ((pcR R).map .str ++ (R.rounds.map fun r => jrow (rws r)).map .str)) (.lst ((R.shuts.map fun s => jrow (sws s)).map .str)) = some (.lst (((pcR R).map .str ++ (R.rounds.map fun r => jrow (rws r)).map .str) ++ (R.shuts.map fun s => jrow (sws s)).map .str)) := cat_l (by rw [List.length_append, List.length_map, List.length_map, List.length_map, List.length_map, List.length_map]; omega)
 ktf_call (h1)
 ktf_call (h2)
 ktf_call (h3)
 k_search (ha, hc)
 unfold rT
 rw [List.map_append, List.map_append, List.append_assoc]
theorem F_rtxt {R : Rod} (ok : RdOk R) : F_road_text [R.o] = some (.str (Txt.join ⟨#[10]⟩ (pcR R ++ rT R))) := by
 have h1 := F_rrows ok
 have h2 := (F_rtext ok (T := rT R) mrg_rT).1
 rw [F_road_text, seal_eq]
 refine run_rt ?_
 show B_road_text [some R.o] = _
 unfold B_road_text
 k_search (h1, h2)
theorem compT_map {k : Nat} {fc : BF} {fe : VF} {caps : PD.Env} {α : Type} {g : α → List D} {f : α → D} : ∀ {xs : List α}, (∀ x ∈ xs, (g x).length = k ∧ fc ((g x).map some ++ caps) = some true ∧ fe ((g x).map some ++ caps) = some (f x)) → compTD k fc fe caps (xs.map fun x => .tup (g x)) = some (xs.map f)
 | [], _ => rfl
 | x :: xs, h => by
   obtain ⟨h0, h1, h2⟩ := h x List.mem_cons_self
   rw [List.map_cons, compTD, if_pos h0, h1, bindS, ite_tt, h2, bindS, compT_map fun y hy => h y (List.mem_cons_of_mem _ hy)]
   rfl
theorem len_app (a b : Str) : (a ++ b).length = a.length + b.length := by rw [← Tx.cs_len, cs_app, List.length_append, Tx.cs_len, Tx.cs_len]
theorem rrow_is (r : Str × Int) : Str.ofString "round " ++ r.1 ++ Str.ofString " " ++ ts r.2 = jrow (rws r) := by
 apply Tx.ext
 unfold jrow rws
 rw [show Txt.join ⟨#[32]⟩ [roundS, r.1, ts r.2] = Str.join ⟨#[32]⟩ [roundS, r.1, ts r.2] from StrLaws.glued_eq_join _ _, cs_join, cs_join, cs_app, cs_app, cs_app]
 rw [show Tx.cs (Str.ofString "round ") = Tx.cs roundS ++ [32] by decide +kernel, show Tx.cs (Str.ofString " ") = [32] by decide +kernel]
 simp only [List.append_assoc, List.cons_append, List.nil_append]
 rfl
theorem srow_is (r : Str × Int × Int) : Str.ofString "shut " ++ r.1 ++ Str.ofString " " ++ ts r.2.1 ++ Str.ofString " " ++ ts r.2.2 = jrow (sws r) := by
 apply Tx.ext
 unfold jrow sws
 rw [show Txt.join ⟨#[32]⟩ [shutS, r.1, ts r.2.1, ts r.2.2] = Str.join ⟨#[32]⟩ [shutS, r.1, ts r.2.1, ts r.2.2] from StrLaws.glued_eq_join _ _, cs_join, cs_join, cs_join, cs_app, cs_app, cs_app, cs_app, cs_app]
 rw [show Tx.cs (Str.ofString "shut ") = Tx.cs shutS ++ [32] by decide +kernel, show Tx.cs (Str.ofString " ") = [32] by decide +kernel]
 simp only [List.append_assoc, List.cons_append, List.nil_append]
 rfl
theorem good_strs {rs : List Str} (h : rs.length < 1000000) : Good 2 (.lst (rs.map .str)) := .lst (fun x hx => by
 obtain ⟨r, _, rfl⟩ := List.mem_map.mp hx
 exact .str _ _) (by rw [List.length_map]; exact h)
theorem law_true (ns : List Int) (hlen : ns.length ≤ 63) (d : D) (hd : d = .lst (ns.map D.int) ∨ d = .fz (ns.map D.int)) : F_law [d] = some (.bl true) := by
 obtain ⟨nm, R, wf, hP⟩ := F_parts hd
 have ok := rd_of wf
 have n1 := ok.n1
 have rl := ok.rl
 have sl := ok.sl
 have pl : R.pcs.length = 1 + 2 * R.bs.length := by unfold Rod.pcs; rw [List.length_cons, bsP_len]; omega
 have pcl : (pcR R).length = R.pcs.length := List.length_map _
 have hm : Mrg R.rounds R.shuts (rT R) := mrg_rT
 have hpc := F_pieces (ps := R.pcs) (by omega)
 have hmk : ∀ o5 o6 o7 o8 o9 : Option D, makeD .Road I_Road (aCons (callD F_law_pieces (aCons (vD 2) aNil)) (aCons (vD 3) (aCons (vD 4) aNil))) [some d, some (.lst (nmD nm)), some (.lst (R.pcs.map Pc.t)), some (.lst (R.rounds.map rdT)), some (.lst (R.shuts.map shT)), o5, o6, o7, o8, o9] = some R.o := fun _ _ _ _ _ => by
  simp only [makeD, callD, aCons, aNil, vD_z, vD_s, bindS, hpc, I_rd, Option.map_some]
  rfl
 have hd1 : ∀ o5 o6 o7 o8 o9 : Option D, compF (itD (vD 2)) yesB (mtD (sealed joinD) (cD (.str (Str.ofString " "))) (aCons (compF (itD (vD 0)) yesB (callD (sealed strD) (aCons (vD 0) aNil)) []) aNil)) [] [some d, some (.lst (nmD nm)), some (.lst (R.pcs.map Pc.t)), some (.lst (R.rounds.map rdT)), some (.lst (R.shuts.map shT)), o5, o6, o7, o8, o9] = some (.lst ((pcR R).map .str)) := fun _ _ _ _ _ => by
  unfold compF
  simp only [itD, vD_z, vD_s, bindS, itemsD]
  rw [if_pos (by rw [List.length_map]; omega), comp_map (f := fun p : Pc => D.str (jrow (pws p)))]
  · unfold pcR; rw [List.map_map]; rfl
  · intro p hp
    refine ⟨rfl, ?_⟩
    have pok := ok.pc p hp
    have hw := wds_pc pok
    have hj := join_wds hw
    have h6 : (pps p).length ≤ 6 := by
     have := hw.2.1
     rw [← pps_w, List.length_map] at this
     exact this
    have hc := comp_strs (ps := pps p) (pps_ok pok) (caps := [])
    rw [pps_w] at hc
    rw [pps_t]
    simp only [mtD, cD, aCons, aNil, vD_z, bindS, itemsD]
    rw [if_pos (by rw [List.length_map]; omega)]
    show ((Option.map D.lst (compD yesB (callD (sealed strD) (aCons (vD 0) aNil)) [] ((pps p).map (·.1)))).bind _).bind _ = _
    rw [hc, sp_is]
    exact hj
 have hd2 : ∀ o5 o6 o7 o8 o9 : Option D, compT 2 (itD (vD 3)) yesB (oD (sealed addD) (oD (sealed addD) (oD (sealed addD) (cD (.str (Str.ofString "round "))) (vD 0)) (cD (.str (Str.ofString " ")))) (callD (sealed strD) (aCons (vD 1) aNil))) [] [some d, some (.lst (nmD nm)), some (.lst (R.pcs.map Pc.t)), some (.lst (R.rounds.map rdT)), some (.lst (R.shuts.map shT)), o5, o6, o7, o8, o9] = some (.lst ((R.rounds.map fun r => jrow (rws r)).map .str)) := fun _ _ _ _ _ => by
  unfold compT
  simp only [itD, vD_z, vD_s, bindS, itemsD]
  rw [if_pos (by rw [List.length_map]; omega)]
  show (compTD 2 yesB _ _ (R.rounds.map fun r => D.tup [.str r.1, .int r.2])).map D.lst = _
  rw [compT_map (f := fun r : Str × Int => D.str (jrow (rws r)))]
  · rw [List.map_map]; rfl
  · intro r hr
    have rok := (ok.rn r hr).1
    have h1 := rok.a; have h2 := rok.b; have h3 := rok.w.hi
    have l6 : (Str.ofString "round ").length = 6 := by decide +kernel
    have l1 : (Str.ofString " ").length = 1 := by decide +kernel
    have lt := len_ts (n := r.2) (by omega) (by omega)
    refine ⟨rfl, rfl, ?_⟩
    have a1 : sealed addD (.str (Str.ofString "round ")) (.str r.1) = some (.str (Str.ofString "round " ++ r.1)) := addD_s (by omega)
    have a2 : sealed addD (.str (Str.ofString "round " ++ r.1)) (.str (Str.ofString " ")) = some (.str (Str.ofString "round " ++ r.1 ++ Str.ofString " ")) := addD_s (by rw [len_app]; omega)
    have a3 : sealed addD (.str (Str.ofString "round " ++ r.1 ++ Str.ofString " ")) (.str (ts r.2)) = some (.str (jrow (rws r))) := by rw [addD_s (by rw [len_app, len_app]; omega), rrow_is]
    show oD _ _ _ (some (D.str r.1) :: some (D.int r.2) :: _) = _
    simp only [oD, callD, aCons, aNil, cD, vD_z, vD_s, bindS, a1, a2, str_i (show 0 ≤ r.2 by omega) (show r.2 < 1000000000 by omega), a3]
 have hd3 : ∀ o5 o6 o7 o8 o9 : Option D, compT 3 (itD (vD 4)) yesB (oD (sealed addD) (oD (sealed addD) (oD (sealed addD) (oD (sealed addD) (oD (sealed addD) (cD (.str (Str.ofString "shut "))) (vD 0)) (cD (.str (Str.ofString " ")))) (callD (sealed strD) (aCons (vD 1) aNil))) (cD (.str (Str.ofString " ")))) (callD (sealed strD) (aCons (vD 2) aNil))) [] [some d, some (.lst (nmD nm)), some (.lst (R.pcs.map Pc.t)), some (.lst (R.rounds.map rdT)), some (.lst (R.shuts.map shT)), o5, o6, o7, o8, o9] = some (.lst ((R.shuts.map fun s => jrow (sws s)).map .str)) := fun _ _ _ _ _ => by
  unfold compT
  simp only [itD, vD_z, vD_s, bindS, itemsD]
  rw [if_pos (by rw [List.length_map]; omega)]
  show (compTD 3 yesB _ _ (R.shuts.map fun r => D.tup [.str r.1, .int r.2.1, .int r.2.2])).map D.lst = _
  rw [compT_map (f := fun r : Str × Int × Int => D.str (jrow (sws r)))]
  · rw [List.map_map]; rfl
  · intro r hr
    have rok := (ok.sn r hr).1
    have h1 := rok.a; have h2 := rok.b; have h3 := rok.c; have h4 := rok.w.hi
    have l5 : (Str.ofString "shut ").length = 5 := by decide +kernel
    have l1 : (Str.ofString " ").length = 1 := by decide +kernel
    have lt := len_ts (n := r.2.1) (by omega) (by omega)
    have lt2 := len_ts (n := r.2.2) (by omega) (by omega)
    refine ⟨rfl, rfl, ?_⟩
    have a1 : sealed addD (.str (Str.ofString "shut ")) (.str r.1) = some (.str (Str.ofString "shut " ++ r.1)) := addD_s (by omega)
    have a2 : sealed addD (.str (Str.ofString "shut " ++ r.1)) (.str (Str.ofString " ")) = some (.str (Str.ofString "shut " ++ r.1 ++ Str.ofString " ")) := addD_s (by rw [len_app]; omega)
    have a3 : sealed addD (.str (Str.ofString "shut " ++ r.1 ++ Str.ofString " ")) (.str (ts r.2.1)) = some (.str (Str.ofString "shut " ++ r.1 ++ Str.ofString " " ++ ts r.2.1)) := addD_s (by rw [len_app, len_app]; omega)
    have a4 : sealed addD (.str (Str.ofString "shut " ++ r.1 ++ Str.ofString " " ++ ts r.2.1)) (.str (Str.ofString " ")) = some (.str (Str.ofString "shut " ++ r.1 ++ Str.ofString " " ++ ts r.2.1 ++ Str.ofString " ")) := addD_s (by rw [len_app, len_app, len_app]; omega)
    have a5 : sealed addD (.str (Str.ofString "shut " ++ r.1 ++ Str.ofString " " ++ ts r.2.1 ++ Str.ofString " ")) (.str (ts r.2.2)) = some (.str (jrow (sws r))) := by rw [addD_s (by rw [len_app, len_app, len_app, len_app]; omega), srow_is]
    show oD _ _ _ (some (D.str r.1) :: some (D.int r.2.1) :: some (D.int r.2.2) :: _) = _
    simp only [oD, callD, aCons, aNil, cD, vD_z, vD_s, bindS, a1, a2, str_i (show 0 ≤ r.2.1 by omega) (show r.2.1 < 1000000000 by omega), a3, a4, str_i (show 0 ≤ r.2.2 by omega) (show r.2.2 < 1000000000 by omega), a5]
 have e2 : sealed addD (.lst ((pcR R).map .str)) (.lst ((R.rounds.map fun r => jrow (rws r)).map .str)) = some (.lst ((pcR R).map .str ++ (R.rounds.map fun r => jrow (rws r)).map .str)) := addD_l (by rw [List.length_map, List.length_map, List.length_map]; omega)
 have e3 : sealed addD (.lst ((pcR R).map .str ++ (R.rounds.map fun r => jrow (rws r)).map .str)) (.lst ((R.shuts.map fun s => jrow (sws s)).map .str)) = some (.lst ((pcR R ++ rT R).map .str)) := by
  rw [addD_l (by rw [List.length_append, List.length_map, List.length_map, List.length_map, List.length_map, List.length_map]; omega)]
  unfold rT
  rw [List.map_append, List.map_append, List.append_assoc]
 have few := rows_few ok hm
 have hrr := F_rrows ok
 have htx := F_rtxt ok
 obtain ⟨hT, _⟩ := F_rtext ok hm
 have hof := F_rof ok hm
 have his := F_road_is wf
 have hF := F_rfrom ok (beh := []) hm (fun x hx => by
  rw [List.append_nil] at hx
  obtain ⟨ws, hw, rfl⟩ := rows_all ok hm x hx
  exact Nat.le_trans (jrow_ok hw).len (by decide)) rfl rfl
 rw [List.append_nil] at hF
 have s1 : F_law_same [.lst ((pcR R ++ rT R).map .str), .lst ((pcR R ++ rT R).map .str)] = some (.bl true) := same_ok (good_strs (by omega))
 have s2 : F_law_same [.str (Txt.join ⟨#[10]⟩ (pcR R ++ rT R)), .str (Txt.join ⟨#[10]⟩ (pcR R ++ rT R))] = some (.bl true) := same_ok (.str 0 _)
 generalize hN : ((pcR R ++ rT R).length : Int) = N at hF
 have hrl : ((pcR R ++ rT R).map D.str).length < 1000000 := by rw [List.length_map]; omega
 generalize (pcR R ++ rT R).map D.str = rowsD at *
 generalize Txt.join ⟨#[10]⟩ (pcR R ++ rT R) = txt at *
 rw [F_law, seal_eq]
 refine run_rt ?_
 show B_law [some d, none, none, none, none, none, none, none, none, none] = _
 unfold B_law
 ktf_call (hP)
 ktf_call (hmk)
 ktf_call (hd1)
 ktf_call (hd2, e2)
 ktf_call (hd3, e3)
 ktf_call (hrr)
 ktf_call (s1)
 ktf_call (hrl)
 ktf_call (htx, hT, s2, hrr, s1)
 ktf_call (hT, hof)
 ktf_call (his, htx, hT, neD_ss, decide_true)
 ktf_call (hF)
 k_search (ixD_t, ix0, his)
def sp_law (K : PySem.W.Frag) : Sp := fun vs H Q _ => ∃ (a : Addr) (ns : List Int), vs = [.ref a] ∧ SqL K H a (ns.map V.int) ∧ ns.length ≤ 63 ∧ ∀ H', Q (.bl true) H'
section
variable {P : Program} {w : World} {K : PySem.W.Frag} {mg : Str → Option Value} {base : Heap}
theorem fn_none {P : Program} {w : World} {K : PySem.W.Frag} {mg : Str → Option Value} {base : Heap} {f : Addr} {fd : FuncData} {ps : List Str} {n : Nat} : FnOk P w K mg base CX0 0 f fd ps (spP K kNames .no n fun _ => none) := ⟨fun vs H Q E h => (by obtain ⟨_, _, _, _, _, z, _⟩ := h; cases z), fun A outer s H args us vs Q E _ _ _ _ h => (by obtain ⟨_, _, _, _, _, z, _⟩ := h; cases z)⟩
theorem mut_all {P : Program} {w : World} {K : PySem.W.Frag} {mg : Str → Option Value} {base : Heap} {fu : Addr} {du : FuncData} {fv : Addr} {dv : FuncData} (Fu : Fun K "_law_alike" "_law_alike" s_law_alike fu du) (Fv : Fun K "_law_same" "_law_same" s_law_same fv dv) (bu : Binds K du ["_law_found", "_law_due"] []) (bv : Binds K dv ["_law_found", "_law_due"] []) (ku : PySem.W.keepIn K (.ref fu) = true) (kv : PySem.W.keepIn K (.ref fv) = true) (mu : mg "_law_alike" = some (.ref fu)) (mv : mg "_law_same" = some (.ref fv)) (z_all : mg "all" = none) (z_bool : mg "bool" = none) (z_int : mg "int" = none) (z_isinstance : mg "isinstance" = none) (z_len : mg "len" = none) (z_list : mg "list" = none) (z_str : mg "str" = none) (z_tuple : mg "tuple" = none) (z_zip : mg "zip" = none) : ∀ n : Nat, Got P w K mg base n "_law_alike" ["_law_found", "_law_due"] (spP K kNames .no 2 (F_both n).1) ∧ Got P w K mg base n "_law_same" ["_law_found", "_law_due"] (spP K kNames .no 2 (F_both n).2)
 | 0 => ⟨⟨⟨_, _, fn_none, bu, ku, mu⟩⟩, ⟨⟨_, _, fn_none, bv, kv, mv⟩⟩⟩
 | n + 1 => by
   obtain ⟨g_law_alike, g_law_same⟩ := mut_all Fu Fv bu bv ku kv mu mv z_all z_bool z_int z_isinstance z_len z_list z_str z_tuple z_zip n
   have hu : FnOk P w K mg base CX0 (n + 1) fu du ["_law_found", "_law_due"] (spP K kNames .no 2 (F_both (n + 1)).1) := by
    refine Fu.ok sc_law_alike (fun vs H Q E h => spP_len h) (fun cdv A outer s H vs Q E hr h => ?_)
    have hu := hr.units
    simp only [F_both, seal_eq] at h
    refine ⟨_, (pss_cons (ps_if (PW.pt (pw_and (pt_val (pe_callB call_isT rfl z_isinstance b_isinstance (pa_cons (pv 1) (pa_cons (pe_bltn (v := .ty "list") rfl z_list b_list rfl) pa_nil)))) (pw_and1 (pt_not (pt_val (pe_callB call_isT rfl z_isinstance b_isinstance (pa_cons (pv 0) (pa_cons (pe_bltn (v := .ty "list") rfl z_list b_list rfl) pa_nil)))))))) (pss_one (ps_ret pe_bl)) pss_nil)
            (pss_cons (ps_if (PW.pt (pw_and (pt_val (pe_callB call_isT rfl z_isinstance b_isinstance (pa_cons (pv 1) (pa_cons (pe_bltn (v := .ty "tuple") rfl z_tuple b_tuple rfl) pa_nil)))) (pw_and1 (pt_not (pt_val (pe_callB call_isT rfl z_isinstance b_isinstance (pa_cons (pv 0) (pa_cons (pe_bltn (v := .ty "tuple") rfl z_tuple b_tuple rfl) pa_nil)))))))) (pss_one (ps_ret pe_bl)) pss_nil)
            (pss_cons (ps_if (pt_cmpR (op_neG hu) (pe_callB lenG rfl z_len b_len (pa_cons (pv 0) pa_nil)) (pe_callB lenG rfl z_len b_len (pa_cons (pv 1) pa_nil)) (nomark _)) (pss_one (ps_ret pe_bl)) pss_nil)
            (pss_one (ps_ret (pe_callB (call_all_list rfl) rfl z_all b_all (pa_cons (pe_compT [] [] (CompCT.to cs_law_alike_0 rfl rfl) rfl rfl (fun _ _ _ _ _ => (pg_tupK (K := K) (n := 2) rfl rfl (pgs_cons (pg_comp (CompCT.to cs_law_alike_0 rfl rfl) 0 rfl (by decide)) (pgs_cons (pg_comp (CompCT.to cs_law_alike_0 rfl rfl) 1 rfl (by decide)) pgs_nil)))) (pi_or (pi_or (pi_zip rfl z_zip (pa_cons (pv 0) (pa_cons (pv 1) pa_nil))) (pi_zipT rfl z_zip (pa_cons (pv 0) (pa_cons (pv 1) pa_nil)))) (pi_zipM rfl z_zip (pa_cons (pv 0) (pa_cons (pv 1) pa_nil)))) (fun _ _ _ _ _ => pif_nil) (fun _ _ _ _ _ => (pe_goI g_law_same (by rfl) (by rfl) (by rfl) (by rfl) (by rfl) (by exact hr) (by first | decide | omega) rfl (pa_cons (pv 0) (pa_cons (pv 1) pa_nil))))) pa_nil))))))), ?_⟩
    exact run_ok (K := K) (ns := kNames) (fl' := []) (n := 2) (b := B_law_alike (F_both n).2)
          (s_seq (s_if (pt_andD (pt_bD (cS (pu_isT "list" (by decide) (pu_var 1)))) (pt_notD (pt_bD (cS (pu_isT "list" (by decide) (pu_var 0)))))) (s_ret (pu_bl _))
          s_next)
          (s_seq (s_if (pt_andD (pt_bD (cS (pu_isT "tuple" (by decide) (pu_var 1)))) (pt_notD (pt_bD (cS (pu_isT "tuple" (by decide) (pu_var 0)))))) (s_ret (pu_bl _))
          s_next)
          (s_seq (s_if (pt_tD (oS (pu_op r2_ne (cS (pu_call ca_len (pa_consD (pu_var 0) pa_nilD))) (cS (pu_call ca_len (pa_consD (pu_var 1) pa_nilD)))))) (s_ret (pu_bl _))
          s_next)
          (s_ret (cS (pu_call ca_all (pa_consD (PuF.pe (pu_compT (iS (pi_zipX (pa_consD (pu_var 0) (pa_consD (pu_var 1) pa_nilD)))) pt_yes (pu_fn (pa_consD (pu_var 0) (pa_consD (pu_var 1) pa_nilD))))) pa_nilD))))))) rfl (by decide) h
   have hv : FnOk P w K mg base CX0 (n + 1) fv dv ["_law_found", "_law_due"] (spP K kNames .no 2 (F_both (n + 1)).2) := by
    refine Fv.ok sc_law_same (fun vs H Q E h => spP_len h) (fun cdv A outer s H vs Q E hr h => ?_)
    have hu := hr.units
    simp only [F_both, seal_eq] at h
    refine ⟨_, (pss_cons (ps_if (pt_cmpR op_isP (pv 1) pe_non (nomark _)) (pss_one (ps_ret (pe_cmpR op_isP (pv 0) pe_non (nomark _)))) pss_nil)
            (pss_cons (ps_if (pt_val (pe_callB call_isA rfl z_isinstance b_isinstance (pa_cons (pv 1) (pa_cons (pe_tup (pa_cons (pe_bltn (v := .ty "list") rfl z_list b_list rfl) (pa_cons (pe_bltn (v := .ty "tuple") rfl z_tuple b_tuple rfl) pa_nil))) pa_nil)))) (pss_one (ps_ret (pe_and (pe_callB call_isA rfl z_isinstance b_isinstance (pa_cons (pv 0) (pa_cons (pe_tup (pa_cons (pe_bltn (v := .ty "list") rfl z_list b_list rfl) (pa_cons (pe_bltn (v := .ty "tuple") rfl z_tuple b_tuple rfl) pa_nil))) pa_nil))) (pe_one (pe_go g_law_alike hr (by first | decide | omega) rfl (pa_cons (pv 0) (pa_cons (pv 1) pa_nil))))))) pss_nil)
            (pss_cons (ps_if (pt_val (pe_callB call_isT rfl z_isinstance b_isinstance (pa_cons (pv 1) (pa_cons (pe_bltn (v := .ty "str") rfl z_str b_str rfl) pa_nil)))) (pss_one (ps_ret (pe_and (pe_callB call_isT rfl z_isinstance b_isinstance (pa_cons (pv 0) (pa_cons (pe_bltn (v := .ty "str") rfl z_str b_str rfl) pa_nil))) (pe_one (pe_cmpR (op_eqG hu) (pv 0) (pv 1) (nomark _)))))) pss_nil)
            (pss_one (ps_ret (pe_and (pe_callB call_isT rfl z_isinstance b_isinstance (pa_cons (pv 0) (pa_cons (pe_bltn (v := .ty "int") rfl z_int b_int rfl) pa_nil))) (pe_and (pe_cmpR (op_eqG hu) (pe_callB call_isT rfl z_isinstance b_isinstance (pa_cons (pv 0) (pa_cons (pe_bltn (v := .ty "bool") rfl z_bool b_bool rfl) pa_nil))) (pe_callB call_isT rfl z_isinstance b_isinstance (pa_cons (pv 1) (pa_cons (pe_bltn (v := .ty "bool") rfl z_bool b_bool rfl) pa_nil))) (nomark _)) (pe_one (pe_cmpR (op_eqG hu) (pv 0) (pv 1) (nomark _)))))))))), ?_⟩
    exact run_ok (K := K) (ns := kNames) (fl' := []) (n := 2) (b := B_law_same (F_both n).1)
          (s_seq (s_if (pt_tD (oS (pu_op r2_is (pu_var 1) pu_non))) (s_ret (oS (pu_op r2_is (pu_var 0) pu_non)))
          s_next)
          (s_seq (s_if (pt_bD (cS (pu_isLT (pu_var 1)))) (s_ret (pu_and (cS (pu_isLT (pu_var 0))) (pu_fn (pa_consD (pu_var 0) (pa_consD (pu_var 1) pa_nilD)))))
          s_next)
          (s_seq (s_if (pt_bD (cS (pu_isT "str" (by decide) (pu_var 1)))) (s_ret (pu_and (cS (pu_isT "str" (by decide) (pu_var 0))) (oS (pu_op r2_eq (pu_var 0) (pu_var 1)))))
          s_next)
          (s_ret (pu_and (cS (pu_isT "int" (by decide) (pu_var 0))) (pu_and (oS (pu_op r2_eq (cS (pu_isT "bool" (by decide) (pu_var 0))) (cS (pu_isT "bool" (by decide) (pu_var 1))))) (oS (pu_op r2_eq (pu_var 0) (pu_var 1))))))))) rfl (by decide) h
   exact ⟨⟨⟨_, _, hu, bu, ku, mu⟩⟩, ⟨⟨_, _, hv, bv, kv, mv⟩⟩⟩
theorem ok_law_cell {f : Addr} {fd : FuncData} (F : Fun K "_law_cell" "_law_cell" s_law_cell f fd) (z_len : mg "len" = none) :
 FnOk P w K mg base CX0 1 f fd ["_law_script", "_law_k"] (sp_law_cell K) := by
 refine F.ok sc_law_cell (fun vs H Q E h => spP_len h) (fun cdv A outer s H vs Q E hr h => ?_)
 have hu := hr.units
 have h : spP K kNames .no 2 (runD 2 B_law_cell) vs H Q E := by rw [← seal_eq (runD 2 B_law_cell)]; exact h
 refine ⟨_, (pss_cons (ps_if (pt_cmpR op_lt (pv 1) (pe_callB lenG rfl z_len b_len (pa_cons (pv 0) pa_nil)) (nomark _)) (pss_one (ps_ret (pe_ix ix_seq (pv 0) (pv 1) (fun _ _ => rfl)))) pss_nil)
  (pss_one (ps_ret pe_int))), ?_⟩
 exact run_ok (K := K) (ns := kNames) (fl' := []) (n := 2) (b := B_law_cell)
  (s_seq (s_if (pt_tD (oS (pu_op r2_lt (pu_var 1) (cS (pu_call ca_len (pa_consD (pu_var 0) pa_nilD)))))) (s_ret (oS (pu_op r2_ix (pu_var 0) (pu_var 1))))
  s_next)
  (s_ret (pu_int _))) rfl (by decide) h
theorem ok_law_mix {f : Addr} {fd : FuncData} (F : Fun K "_law_mix" "_law_mix" s_law_mix f fd)  :
 FnOk P w K mg base CX0 1 f fd ["_law_cell_here", "_law_one", "_law_prime"] (sp_law_mix K) := by
 refine F.ok sc_law_mix (fun vs H Q E h => spP_len h) (fun cdv A outer s H vs Q E hr h => ?_)
 have hu := hr.units
 have h : spP K kNames .no 3 (runD 4 B_law_mix) vs H Q E := by rw [← seal_eq (runD 4 B_law_mix)]; exact h
 refine ⟨_, (pss_cons (ps_set (i := 3) sc_law_mix.nd rfl (by first | exact Or.inl rfl | exact Or.inr rfl) (pe_op op_mod (pe_op op_mulX (pe_op op_addP (pe_op op_addP (pe_op op_addP (pe_op op_mod (pv 0) (pv 2)) pe_int) (pe_op op_mulX (pe_op op_mulX pe_int (pv 1)) (pv 1))) (pv 1)) pe_int) (pv 2)))
  (pss_one (ps_ret (pe_op op_fdiv (pe_op op_mod (pe_op op_mulX (pv 3) (pv 3)) pe_int) pe_int)))), ?_⟩
 exact run_ok (K := K) (ns := kNames) (fl' := []) (n := 4) (b := B_law_mix)
  (s_seq (s_set 3 (oS (pu_op r2_mod (oS (pu_op r2_mul (oS (pu_op r2_add (oS (pu_op r2_add (oS (pu_op r2_add (oS (pu_op r2_mod (pu_var 0) (pu_var 2))) (pu_int _))) (oS (pu_op r2_mul (oS (pu_op r2_mul (pu_int _) (pu_var 1))) (pu_var 1))))) (pu_var 1))) (pu_int _))) (pu_var 2))))
  (s_ret (oS (pu_op r2_fdivC (oS (pu_op r2_mod (oS (pu_op r2_mul (pu_var 3) (pu_var 3))) (pu_int _))) (pu_int _))))) rfl (by decide) h
theorem ok_law_names {f : Addr} {fd : FuncData} (F : Fun K "_law_names" "_law_names" s_law_names f fd) (g_law_mix : Got P w K mg base 1 "_law_mix" ["_law_cell_here", "_law_one", "_law_prime"] (sp_law_mix K)) (z_range : mg "range" = none) :
 FnOk P w K mg base CX0 2 f fd ["_law_cell_here"] (sp_law_names K) := by
 refine F.ok sc_law_names (fun vs H Q E h => spP_len h) (fun cdv A outer s H vs Q E hr h => ?_)
 have hu := hr.units
 have h : spP K kNames .yes 1 (runF 9 B_law_names) vs H Q E := by rw [← seal_eq (runF 9 B_law_names)]; exact h
 refine ⟨_, (pss_cons (ps_set (i := 1) sc_law_names.nd rfl (by first | exact Or.inl rfl | exact Or.inr rfl) pe_str)
  (pss_cons (ps_set (i := 2) sc_law_names.nd rfl (by first | exact Or.inl rfl | exact Or.inr rfl) (pe_go g_law_mix hr (by first | decide | omega) rfl (pa_cons (pv 0) (pa_cons pe_int (pa_cons pe_int pa_nil)))))
  (pss_cons (ps_set (i := 3) sc_law_names.nd rfl (by first | exact Or.inl rfl | exact Or.inr rfl) (pe_op op_addP pe_int (pe_op op_mod (pv 2) pe_int)))
  (pss_cons (ps_set (i := 4) sc_law_names.nd rfl (by first | exact Or.inl rfl | exact Or.inr rfl) (pe_op op_mod (pe_op op_fdiv (pv 2) pe_int) (pv 3)))
  (pss_cons (ps_set (i := 5) sc_law_names.nd rfl (by first | exact Or.inl rfl | exact Or.inr rfl) (pe_ix ix_seq (pv 1) (pe_op op_mod (pe_op op_fdiv (pv 2) pe_int) pe_int) (fun _ _ => rfl)))
  (pss_cons (ps_if (pt_cmpR (op_eqG hu) (pe_op op_mod (pe_op op_fdiv (pv 2) pe_int) pe_int) pe_int (nomark _)) (pss_one (ps_ret (pe_compG ["_law_drawn", "_law_fill"] [2, 5] (CompC.to cs_law_names_0 rfl rfl) rfl (pi_range1 rfl z_range (pa_cons pe_int pa_nil)) (fun _ _ _ _ _ => pif_nil) (fun _ _ _ _ _ => (pe_op op_mulX (pv 2) (pe_op (op_addPK (K := K) rfl) (pe_op (op_addPK (K := K) rfl) (pv 0) pe_int) (pe_op op_mod (pv 1) pe_int))))))) pss_nil)
  (pss_cons (ps_set (i := 6) sc_law_names.nd rfl (by first | exact Or.inl rfl | exact Or.inr rfl) (pe_lst pa_nil))
  (pss_cons (ps_for PassesOwn.never rfl (pi_range1 rfl z_range (pa_cons pe_int pa_nil)) (pg_name (i := 7) sc_law_names.nd rfl (by first | exact Or.inl rfl | exact Or.inr rfl)) (pss_cons (ps_set (i := 8) sc_law_names.nd rfl (by first | exact Or.inl rfl | exact Or.inr rfl) (pe_ix ix_seq (pv 1) (pe_op op_mod (pe_op op_addP (pe_op op_fdiv (pv 2) pe_int) (pe_op op_mulX pe_int (pv 7))) pe_int) (fun _ _ => rfl)))
  (pss_one (ps_expr (pe_bm PySem.F.plainAttrs_list PySem.F.slot_list_append PySem.F.type_list_append mt_append (pv 6) (pa_cons (pe_op op_addP (pe_op op_addP (pe_op op_mulX (pv 5) (pv 4)) (pv 8)) (pe_op op_mulX (pv 5) (pe_op op_sub (pe_op op_sub (pv 3) pe_int) (pv 4)))) pa_nil))))))
  (pss_one (ps_ret (pv 6))))))))))), ?_⟩
 exact run_okF (K := K) (ns := kNames) (fl' := []) (n := 9) (b := B_law_names)
  (s_seq (s_set 1 (pu_str _))
  (s_seq (s_set 2 (pu_fn (pa_consD (pu_var 0) (pa_consD (pu_int _) (pa_consD (pu_int _) pa_nilD)))))
  (s_seq (s_set 3 (oS (pu_op r2_add (pu_int _) (oS (pu_op r2_mod (pu_var 2) (pu_int _))))))
  (s_seq (s_set 4 (oS (pu_op r2_mod (oS (pu_op r2_fdivC (pu_var 2) (pu_int _))) (pu_var 3))))
  (s_seq (s_set 5 (oS (pu_op r2_ix (pu_var 1) (oS (pu_op r2_mod (oS (pu_op r2_fdivC (pu_var 2) (pu_int _))) (pu_int _))))))
  (s_seq (s_if (pt_tD (oS (pu_op r2_eq (oS (pu_op r2_mod (oS (pu_op r2_fdivC (pu_var 2) (pu_int _))) (pu_int _))) (pu_int _)))) (s_retF (pu_comp (iS (pi_rng1 (pa_consD (pu_int _) pa_nilD))) pt_yes (oS (pu_op r2_mul (pu_var 2) (oS (pu_op r2_add (oS (pu_op r2_add (pu_var 0) (pu_int _))) (oS (pu_op r2_mod (pu_var 1) (pu_int _)))))))))
  s_next)
  (s_seq (s_new 6 (pu_lst pa_nilD) (by decide))
  (s_seq (s_for (iS (pi_rng1 (pa_consD (pu_int _) pa_nilD))) (g_name 7 rfl)
  (s_seq (s_set 8 (oS (pu_op r2_ix (pu_var 1) (oS (pu_op r2_mod (oS (pu_op r2_add (oS (pu_op r2_fdivC (pu_var 2) (pu_int _))) (oS (pu_op r2_mul (pu_int _) (pu_var 7))))) (pu_int _))))))
  (s_app 6 (oS (pu_op r2_add (oS (pu_op r2_add (oS (pu_op r2_mul (pu_var 5) (pu_var 4))) (pu_var 8))) (oS (pu_op r2_mul (pu_var 5) (oS (pu_op r2_sub (oS (pu_op r2_sub (pu_var 3) (pu_int _))) (pu_var 4))))))) rfl)))
  (s_retO 6 rfl))))))))) rfl (by decide) h
theorem ok_law_long {f : Addr} {fd : FuncData} (F : Fun K "_law_long" "_law_long" s_law_long f fd) (g_law_mix : Got P w K mg base 1 "_law_mix" ["_law_cell_here", "_law_one", "_law_prime"] (sp_law_mix K)) :
 FnOk P w K mg base CX0 2 f fd ["_law_cell_here", "_law_one", "_law_least"] (sp_law_long K) := by
 refine F.ok sc_law_long (fun vs H Q E h => spP_len h) (fun cdv A outer s H vs Q E hr h => ?_)
 have hu := hr.units
 have h : spP K kNames .no 3 (runD 4 B_law_long) vs H Q E := by rw [← seal_eq (runD 4 B_law_long)]; exact h
 refine ⟨_, (pss_cons (ps_set (i := 3) sc_law_long.nd rfl (by first | exact Or.inl rfl | exact Or.inr rfl) (pe_go g_law_mix hr (by first | decide | omega) rfl (pa_cons (pv 0) (pa_cons (pv 1) (pa_cons pe_int pa_nil)))))
  (pss_one (ps_ret (pe_ix ix_seq (pe_lst (pa_cons (pv 2) (pa_cons pe_int (pa_cons (pe_op op_addP (pv 2) (pe_op op_mod (pe_op op_fdiv (pv 3) pe_int) pe_int)) (pa_cons (pe_op op_addP (pv 2) (pe_op op_mod (pe_op op_fdiv (pv 3) pe_int) (pe_op op_sub pe_int (pv 2)))) (pa_cons (pe_op op_addP (pv 2) pe_int) pa_nil)))))) (pe_op op_mod (pv 3) pe_int) (fun _ _ => rfl))))), ?_⟩
 exact run_ok (K := K) (ns := kNames) (fl' := []) (n := 4) (b := B_law_long)
  (s_seq (s_set 3 (pu_fn (pa_consD (pu_var 0) (pa_consD (pu_var 1) (pa_consD (pu_int _) pa_nilD)))))
  (s_ret (oS (pu_op r2_ix (PuF.pe (pu_lst (pa_consD (pu_var 2) (pa_consD (pu_int _) (pa_consD (oS (pu_op r2_add (pu_var 2) (oS (pu_op r2_mod (oS (pu_op r2_fdivC (pu_var 3) (pu_int _))) (pu_int _))))) (pa_consD (oS (pu_op r2_add (pu_var 2) (oS (pu_op r2_mod (oS (pu_op r2_fdivC (pu_var 3) (pu_int _))) (oS (pu_op r2_sub (pu_int _) (pu_var 2))))))) (pa_consD (oS (pu_op r2_add (pu_var 2) (pu_int _))) pa_nilD))))))) (oS (pu_op r2_mod (pu_var 3) (pu_int _))))))) rfl (by decide) h
theorem ok_law_bridge {f : Addr} {fd : FuncData} (F : Fun K "_law_bridge" "_law_bridge" s_law_bridge f fd) (g_law_mix : Got P w K mg base 1 "_law_mix" ["_law_cell_here", "_law_one", "_law_prime"] (sp_law_mix K)) (g_law_long : Got P w K mg base 2 "_law_long" ["_law_cell_here", "_law_one", "_law_least"] (sp_law_long K)) :
 FnOk P w K mg base CX0 3 f fd ["_law_cell_here", "_law_name"] (sp_law_bridge K) := by
 refine F.ok sc_law_bridge (fun vs H Q E h => spP_len h) (fun cdv A outer s H vs Q E hr h => ?_)
 have hu := hr.units
 have h : spP K kNames .no 2 (runD 6 B_law_bridge) vs H Q E := by rw [← seal_eq (runD 6 B_law_bridge)]; exact h
 refine ⟨_, (pss_cons (ps_set (i := 2) sc_law_bridge.nd rfl (by first | exact Or.inl rfl | exact Or.inr rfl) (pe_go g_law_mix hr (by first | decide | omega) rfl (pa_cons (pv 0) (pa_cons pe_int (pa_cons pe_int pa_nil)))))
  (pss_cons (ps_set (i := 3) sc_law_bridge.nd rfl (by first | exact Or.inl rfl | exact Or.inr rfl) (pe_ix ix_seq (pe_lst (pa_cons pe_int (pa_cons (pe_powc (z := 10000000) ⟨by decide, by decide, by decide⟩ (by decide +kernel)) (pa_cons (pe_op op_addP pe_int (pe_op op_mod (pe_op op_fdiv (pv 2) pe_int) pe_int)) (pa_cons (pe_op op_addP pe_int (pe_op op_mod (pv 0) (pe_powc (z := 10000000) ⟨by decide, by decide, by decide⟩ (by decide +kernel)))) pa_nil))))) (pe_op op_mod (pv 2) pe_int) (fun _ _ => rfl)))
  (pss_cons (ps_set (i := 4) sc_law_bridge.nd rfl (by first | exact Or.inl rfl | exact Or.inr rfl) (pe_ix ix_seq (pe_lst (pa_cons (pe_op op_addP pe_int (pe_op op_mod (pe_op op_fdiv (pv 0) pe_int) (pe_powc (z := 10000000) ⟨by decide, by decide, by decide⟩ (by decide +kernel)))) (pa_cons (pe_powc (z := 10000000) ⟨by decide, by decide, by decide⟩ (by decide +kernel)) (pa_cons pe_int (pa_cons (pe_op op_addP pe_int (pe_op op_mod (pe_op op_fdiv (pv 2) pe_int) pe_int)) pa_nil))))) (pe_op op_mod (pe_op op_fdiv (pv 2) pe_int) pe_int) (fun _ _ => rfl)))
  (pss_cons (ps_set (i := 5) sc_law_bridge.nd rfl (by first | exact Or.inl rfl | exact Or.inr rfl) (pe_ix ix_seq (pe_lst (pa_cons pe_int (pa_cons pe_int (pa_cons (pe_op op_addP pe_int (pe_op op_mod (pe_op op_fdiv (pv 2) pe_int) pe_int)) (pa_cons (pe_op op_addP pe_int (pe_op op_mod (pe_op op_fdiv (pv 2) pe_int) pe_int)) pa_nil))))) (pe_op op_mod (pe_op op_fdiv (pv 2) pe_int) pe_int) (fun _ _ => rfl)))
  (pss_one (ps_ret (pe_tup (pa_cons pe_str (pa_cons (pv 1) (pa_cons (pe_go g_law_long hr (by first | decide | omega) rfl (pa_cons (pv 0) (pa_cons pe_int (pa_cons pe_int pa_nil)))) (pa_cons (pv 3) (pa_cons (pv 5) (pa_cons (pv 4) pa_nil))))))))))))), ?_⟩
 exact run_ok (K := K) (ns := kNames) (fl' := []) (n := 6) (b := B_law_bridge)
  (s_seq (s_set 2 (pu_fn (pa_consD (pu_var 0) (pa_consD (pu_int _) (pa_consD (pu_int _) pa_nilD)))))
  (s_seq (s_set 3 (oS (pu_op r2_ix (PuF.pe (pu_lst (pa_consD (pu_int _) (pa_consD (pu_int _) (pa_consD (oS (pu_op r2_add (pu_int _) (oS (pu_op r2_mod (oS (pu_op r2_fdivC (pu_var 2) (pu_int _))) (pu_int _))))) (pa_consD (oS (pu_op r2_add (pu_int _) (oS (pu_op r2_mod (pu_var 0) (pu_int _))))) pa_nilD)))))) (oS (pu_op r2_mod (pu_var 2) (pu_int _))))))
  (s_seq (s_set 4 (oS (pu_op r2_ix (PuF.pe (pu_lst (pa_consD (oS (pu_op r2_add (pu_int _) (oS (pu_op r2_mod (oS (pu_op r2_fdivC (pu_var 0) (pu_int _))) (pu_int _))))) (pa_consD (pu_int _) (pa_consD (pu_int _) (pa_consD (oS (pu_op r2_add (pu_int _) (oS (pu_op r2_mod (oS (pu_op r2_fdivC (pu_var 2) (pu_int _))) (pu_int _))))) pa_nilD)))))) (oS (pu_op r2_mod (oS (pu_op r2_fdivC (pu_var 2) (pu_int _))) (pu_int _))))))
  (s_seq (s_set 5 (oS (pu_op r2_ix (PuF.pe (pu_lst (pa_consD (pu_int _) (pa_consD (pu_int _) (pa_consD (oS (pu_op r2_add (pu_int _) (oS (pu_op r2_mod (oS (pu_op r2_fdivC (pu_var 2) (pu_int _))) (pu_int _))))) (pa_consD (oS (pu_op r2_add (pu_int _) (oS (pu_op r2_mod (oS (pu_op r2_fdivC (pu_var 2) (pu_int _))) (pu_int _))))) pa_nilD)))))) (oS (pu_op r2_mod (oS (pu_op r2_fdivC (pu_var 2) (pu_int _))) (pu_int _))))))
  (s_ret (pu_tup (pa_consD (pu_str _) (pa_consD (pu_var 1) (pa_consD (pu_fn (pa_consD (pu_var 0) (pa_consD (pu_int _) (pa_consD (pu_int _) pa_nilD)))) (pa_consD (pu_var 3) (pa_consD (pu_var 5) (pa_consD (pu_var 4) pa_nilD)))))))))))) rfl (by decide) h
theorem ok_law_parts {f : Addr} {fd : FuncData} (F : Fun K "_law_parts" "_law_parts" s_law_parts f fd) (g_law_cell : Got P w K mg base 1 "_law_cell" ["_law_script", "_law_k"] (sp_law_cell K)) (g_law_names : Got P w K mg base 2 "_law_names" ["_law_cell_here"] (sp_law_names K)) (g_law_mix : Got P w K mg base 1 "_law_mix" ["_law_cell_here", "_law_one", "_law_prime"] (sp_law_mix K)) (g_law_long : Got P w K mg base 2 "_law_long" ["_law_cell_here", "_law_one", "_law_least"] (sp_law_long K)) (g_law_bridge : Got P w K mg base 3 "_law_bridge" ["_law_cell_here", "_law_name"] (sp_law_bridge K)) (z_range : mg "range" = none) (z_enumerate : mg "enumerate" = none) :
 FnOk P w K mg base CX0 4 f fd ["_law_script"] (sp_law_parts K) := by
 refine F.ok sc_law_parts (fun vs H Q E h => spP_len h) (fun cdv A outer s H vs Q E hr h => ?_)
 have hu := hr.units
 have h : spP K kNames .no 1 (runD 13 B_law_parts) vs H Q E := by rw [← seal_eq (runD 13 B_law_parts)]; exact h
 refine ⟨_, (pss_cons (ps_set (i := 1) sc_law_parts.nd rfl (by first | exact Or.inl rfl | exact Or.inr rfl) (pe_go g_law_cell hr (by first | decide | omega) rfl (pa_cons (pv 0) (pa_cons pe_int pa_nil))))
  (pss_cons (ps_set (i := 2) sc_law_parts.nd rfl (by first | exact Or.inl rfl | exact Or.inr rfl) (pe_go g_law_names hr (by first | decide | omega) rfl (pa_cons (pv 1) pa_nil)))
  (pss_cons (ps_set (i := 3) sc_law_parts.nd rfl (by first | exact Or.inl rfl | exact Or.inr rfl) (pe_op op_addP pe_int (pe_op op_mod (pe_go g_law_mix hr (by first | decide | omega) rfl (pa_cons (pv 1) (pa_cons pe_int (pa_cons pe_int pa_nil)))) pe_int)))
  (pss_cons (ps_set (i := 4) sc_law_parts.nd rfl (by first | exact Or.inl rfl | exact Or.inr rfl) (pe_lst (pa_cons (pe_tup (pa_cons pe_str (pa_cons (pe_go g_law_long hr (by first | decide | omega) rfl (pa_cons (pv 1) (pa_cons pe_int (pa_cons pe_int pa_nil)))) pa_nil))) pa_nil)))
  (pss_cons (ps_set (i := 5) sc_law_parts.nd rfl (by first | exact Or.inl rfl | exact Or.inr rfl) (pe_lst pa_nil))
  (pss_cons (ps_for PassesOwn.never rfl (pi_range1 rfl z_range (pa_cons (pv 3) pa_nil)) (pg_name (i := 6) sc_law_parts.nd rfl (by first | exact Or.inl rfl | exact Or.inr rfl)) (pss_cons (ps_set (i := 7) sc_law_parts.nd rfl (by first | exact Or.inl rfl | exact Or.inr rfl) (pe_op op_addP (pe_go g_law_cell hr (by first | decide | omega) rfl (pa_cons (pv 0) (pa_cons (pe_op op_addP pe_int (pv 6)) pa_nil))) (pe_op op_mulX pe_int (pv 6))))
  (pss_cons (ps_expr (pe_bm PySem.F.plainAttrs_list PySem.F.slot_list_append PySem.F.type_list_append mt_append (pv 4) (pa_cons (pe_go g_law_bridge hr (by first | decide | omega) rfl (pa_cons (pv 7) (pa_cons (pe_ix ix_seq (pv 2) (pv 6) (fun _ _ => rfl)) pa_nil))) pa_nil)))
  (pss_cons (ps_expr (pe_bm PySem.F.plainAttrs_list PySem.F.slot_list_append PySem.F.type_list_append mt_append (pv 4) (pa_cons (pe_tup (pa_cons pe_str (pa_cons (pe_go g_law_long hr (by first | decide | omega) rfl (pa_cons (pv 7) (pa_cons pe_int (pa_cons pe_int pa_nil)))) pa_nil))) pa_nil)))
  (pss_one (ps_if (pt_cmpR (op_eqG hu) (pe_op op_mod (pe_go g_law_mix hr (by first | decide | omega) rfl (pa_cons (pv 7) (pa_cons pe_int (pa_cons pe_int pa_nil)))) pe_int) pe_int (nomark _)) (pss_one (ps_expr (pe_bm PySem.F.plainAttrs_list PySem.F.slot_list_append PySem.F.type_list_append mt_append (pv 5) (pa_cons (pe_tup (pa_cons (pe_ix ix_seq (pv 2) (pv 6) (fun _ _ => rfl)) (pa_cons (pe_go g_law_long hr (by first | decide | omega) rfl (pa_cons (pv 7) (pa_cons pe_int (pa_cons pe_int pa_nil)))) pa_nil))) pa_nil)))) pss_nil))))))
  (pss_cons (ps_if (pt_cmpR (op_eqG hu) (pe_op op_mod (pe_go g_law_mix hr (by first | decide | omega) rfl (pa_cons (pv 1) (pa_cons pe_int (pa_cons pe_int pa_nil)))) pe_int) pe_int (nomark _)) (pss_one (ps_expr (pe_bm0 PySem.F.plainAttrs_list PySem.F.slot_list_reverse PySem.F.type_list_reverse mt_reverse (pv 5)))) pss_nil)
  (pss_cons (ps_set (i := 8) sc_law_parts.nd rfl (by first | exact Or.inl rfl | exact Or.inr rfl) (pe_lst pa_nil))
  (pss_cons (ps_for PassesOwn.never rfl (pi_enum (by rfl) z_enumerate (pa_cons (pe_op op_addP (pe_lst (pa_cons (pv 1) pa_nil)) (pe_slice slX (pv 0) (po_some pe_int) (po_some pe_int))) pa_nil)) (pg_tup rfl (pgs_cons (pg_name (i := 6) sc_law_parts.nd rfl (by first | exact Or.inl rfl | exact Or.inr rfl)) (pgs_cons (pg_name (i := 9) sc_law_parts.nd rfl (by first | exact Or.inl rfl | exact Or.inr rfl)) pgs_nil))) (pss_cons (ps_set (i := 10) sc_law_parts.nd rfl (by first | exact Or.inl rfl | exact Or.inr rfl) (pe_go g_law_mix hr (by first | decide | omega) rfl (pa_cons (pv 9) (pa_cons (pe_op op_addP pe_int (pv 6)) (pa_cons pe_int pa_nil)))))
  (pss_cons (ps_set (i := 11) sc_law_parts.nd rfl (by first | exact Or.inl rfl | exact Or.inr rfl) (pe_ix ix_seq (pe_lst (pa_cons pe_int (pa_cons (pe_op op_mod (pe_op op_fdiv (pv 10) pe_int) pe_int) (pa_cons pe_int pa_nil)))) (pe_op op_mod (pv 10) pe_int) (fun _ _ => rfl)))
  (pss_cons (ps_set (i := 12) sc_law_parts.nd rfl (by first | exact Or.inl rfl | exact Or.inr rfl) (pe_ix ix_seq (pe_lst (pa_cons (pe_op op_addP (pv 11) pe_int) (pa_cons pe_int (pa_cons (pe_op op_addP (pe_op op_addP (pv 11) pe_int) (pe_op op_mod (pe_op op_fdiv (pv 10) pe_int) (pe_op op_sub pe_int (pv 11)))) pa_nil)))) (pe_op op_mod (pe_op op_fdiv (pv 10) pe_int) pe_int) (fun _ _ => rfl)))
  (pss_one (ps_if (pt_cmpR op_gt (pe_op op_mod (pe_op op_fdiv (pv 10) pe_int) pe_int) pe_int (nomark _)) (pss_one (ps_expr (pe_bm PySem.F.plainAttrs_list PySem.F.slot_list_append PySem.F.type_list_append mt_append (pv 8) (pa_cons (pe_tup (pa_cons (pe_ix ix_seq (pv 2) (pe_op op_mod (pe_op op_fdiv (pv 10) pe_int) (pv 3)) (fun _ _ => rfl)) (pa_cons (pv 11) (pa_cons (pv 12) pa_nil)))) pa_nil)))) pss_nil))))))
  (pss_one (ps_ret (pe_tup (pa_cons (pv 2) (pa_cons (pv 4) (pa_cons (pv 5) (pa_cons (pv 8) pa_nil)))))))))))))))), ?_⟩
 exact run_ok (K := K) (ns := kNames) (fl' := []) (n := 13) (b := B_law_parts)
  (s_seq (s_set 1 (pu_fn (pa_consD (pu_var 0) (pa_consD (pu_int _) pa_nilD))))
  (s_seq (s_set 2 (PuF.pe (pu_fnF (pa_consD (pu_var 1) pa_nilD))))
  (s_seq (s_set 3 (oS (pu_op r2_add (pu_int _) (oS (pu_op r2_mod (pu_fn (pa_consD (pu_var 1) (pa_consD (pu_int _) (pa_consD (pu_int _) pa_nilD)))) (pu_int _))))))
  (s_seq (s_new 4 (pu_lst (pa_consD (pu_tup (pa_consD (pu_str _) (pa_consD (pu_fn (pa_consD (pu_var 1) (pa_consD (pu_int _) (pa_consD (pu_int _) pa_nilD)))) pa_nilD))) pa_nilD)) (by decide))
  (s_seq (s_new 5 (pu_lst pa_nilD) (by decide))
  (s_seq (s_for (iS (pi_rng1 (pa_consD (pu_var 3) pa_nilD))) (g_name 6 rfl)
  (s_seq (s_set 7 (oS (pu_op r2_add (pu_fn (pa_consD (pu_var 0) (pa_consD (oS (pu_op r2_add (pu_int _) (pu_var 6))) pa_nilD))) (oS (pu_op r2_mul (pu_int _) (pu_var 6))))))
  (s_seq (s_app 4 (pu_fn (pa_consD (pu_var 7) (pa_consD (oS (pu_op r2_ix (pu_var 2) (pu_var 6))) pa_nilD))) rfl)
  (s_seq (s_app 4 (pu_tup (pa_consD (pu_str _) (pa_consD (pu_fn (pa_consD (pu_var 7) (pa_consD (pu_int _) (pa_consD (pu_int _) pa_nilD)))) pa_nilD))) rfl)
  (s_if (pt_tD (oS (pu_op r2_eq (oS (pu_op r2_mod (pu_fn (pa_consD (pu_var 7) (pa_consD (pu_int _) (pa_consD (pu_int _) pa_nilD)))) (pu_int _))) (pu_int _)))) (s_app 5 (pu_tup (pa_consD (oS (pu_op r2_ix (pu_var 2) (pu_var 6))) (pa_consD (pu_fn (pa_consD (pu_var 7) (pa_consD (pu_int _) (pa_consD (pu_int _) pa_nilD)))) pa_nilD))) rfl)
  s_next)))))
  (s_seq (s_if (pt_tD (oS (pu_op r2_eq (oS (pu_op r2_mod (pu_fn (pa_consD (pu_var 1) (pa_consD (pu_int _) (pa_consD (pu_int _) pa_nilD)))) (pu_int _))) (pu_int _)))) (s_rev 5 rfl)
  s_next)
  (s_seq (s_new 8 (pu_lst pa_nilD) (by decide))
  (s_seq (s_pre [4, 5] (s_for (iS (pi_enumD (pa_consD (oS (pu_op r2_add (PuF.pe (pu_lst (pa_consD (pu_var 1) pa_nilD))) (slS (pu_sl (pu_var 0) (po_at (pu_int _)) (po_at (pu_int _)))))) pa_nilD))) (g_tup (gs_cons (i := 6) rfl (gs_cons (i := 9) rfl gs_nil)))
  (s_seq (s_set 10 (pu_fn (pa_consD (pu_var 9) (pa_consD (oS (pu_op r2_add (pu_int _) (pu_var 6))) (pa_consD (pu_int _) pa_nilD)))))
  (s_seq (s_set 11 (oS (pu_op r2_ix (PuF.pe (pu_lst (pa_consD (pu_int _) (pa_consD (oS (pu_op r2_mod (oS (pu_op r2_fdivC (pu_var 10) (pu_int _))) (pu_int _))) (pa_consD (pu_int _) pa_nilD))))) (oS (pu_op r2_mod (pu_var 10) (pu_int _))))))
  (s_seq (s_set 12 (oS (pu_op r2_ix (PuF.pe (pu_lst (pa_consD (oS (pu_op r2_add (pu_var 11) (pu_int _))) (pa_consD (pu_int _) (pa_consD (oS (pu_op r2_add (oS (pu_op r2_add (pu_var 11) (pu_int _))) (oS (pu_op r2_mod (oS (pu_op r2_fdivC (pu_var 10) (pu_int _))) (oS (pu_op r2_sub (pu_int _) (pu_var 11))))))) pa_nilD))))) (oS (pu_op r2_mod (oS (pu_op r2_fdivC (pu_var 10) (pu_int _))) (pu_int _))))))
  (s_if (pt_tD (oS (pu_op r2_gt (oS (pu_op r2_mod (oS (pu_op r2_fdivC (pu_var 10) (pu_int _))) (pu_int _))) (pu_int _)))) (s_app 8 (pu_tup (pa_consD (oS (pu_op r2_ix (pu_var 2) (oS (pu_op r2_mod (oS (pu_op r2_fdivC (pu_var 10) (pu_int _))) (pu_var 3))))) (pa_consD (pu_var 11) (pa_consD (pu_var 12) pa_nilD)))) rfl)
  s_next))))))
  (s_ret (pu_tup (pa_consD (pu_var 2) (pa_consD (pu_var 4) (pa_consD (pu_var 5) (pa_consD (pu_var 8) pa_nilD))))))))))))))) rfl (by decide) h
theorem ok_row_of {f : Addr} {fd : FuncData} (F : Fun K "row_of" "row_of" s_row_of f fd) (z_str : mg "str" = none) :
 FnOk P w K mg base CX0 1 f fd ["parts"] (sp_row_of K) := by
 refine F.ok sc_row_of (fun vs H Q E h => spP_len h) (fun cdv A outer s H vs Q E hr h => ?_)
 have hu := hr.units
 have h : spP K kNames .no 1 (runD 1 B_row_of) vs H Q E := by rw [← seal_eq (runD 1 B_row_of)]; exact h
 refine ⟨_, (pss_one (ps_ret (pe_bm PySem.F.plainAttrs_str PySem.F.slot_str_join PySem.F.type_str_join mt_join pe_str (pa_cons (pe_compG [] [] (CompC.to cs_row_of_0 rfl rfl) rfl (pi_or (pi_list (pv 0)) (pi_or (pi_tup (pv 0)) (pi_str (pv 0)))) (fun _ _ _ _ _ => pif_nil) (fun _ _ _ _ _ => (by exact pe_callTy call_strX rfl z_str b_str (pa_cons (pv 0) pa_nil)))) pa_nil)))), ?_⟩
 exact run_ok (K := K) (ns := kNames) (fl' := []) (n := 1) (b := B_row_of)
  (s_ret (mS (pu_join (pu_str _) (pa_consD (PuF.pe (pu_comp (pi_any (pu_var 0)) pt_yes (cS (pu_call ca_str (pa_consD (pu_var 0) pa_nilD))))) pa_nilD)))) rfl (by decide) h
theorem ok_piece_row {f : Addr} {fd : FuncData} (F : Fun K "piece_row" "piece_row" s_piece_row f fd) (g_row_of : Got P w K mg base 1 "row_of" ["parts"] (sp_row_of K)) (d_Open : PKd K kNames (clA K "Open") ["Open"] ["length"]) (n_Open : mg "Open" = some (.ref (clA K "Open"))) (z_isinstance : mg "isinstance" = none) :
 FnOk P w K mg base CX0 2 f fd ["piece"] (sp_piece_row K) := by
 refine F.ok sc_piece_row (fun vs H Q E h => spP_len h) (fun cdv A outer s H vs Q E hr h => ?_)
 have hu := hr.units
 have h : spP K kNames .no 1 (runD 1 B_piece_row) vs H Q E := by rw [← seal_eq (runD 1 B_piece_row)]; exact h
 refine ⟨_, (pss_cons (ps_if (pt_val (pe_callB call_isC rfl z_isinstance b_isinstance (pa_cons (pv 0) (pa_cons (pe_cl rfl n_Open) pa_nil)))) (pss_one (ps_ret (pe_go g_row_of hr (by first | decide | omega) rfl (pa_cons (pe_lst (pa_cons pe_str (pa_cons (pe_fld (f := "length") (pv 0) rfl) pa_nil))) pa_nil)))) pss_nil)
  (pss_one (ps_ret (pe_go g_row_of hr (by first | decide | omega) rfl (pa_cons (pe_lst (pa_cons pe_str (pa_cons (pe_fld (f := "name") (pv 0) rfl) (pa_cons (pe_fld (f := "length") (pv 0) rfl) (pa_cons (pe_fld (f := "bears") (pv 0) rfl) (pa_cons (pe_fld (f := "wide") (pv 0) rfl) (pa_cons (pe_fld (f := "most") (pv 0) rfl) pa_nil))))))) pa_nil))))), ?_⟩
 exact run_ok (K := K) (ns := kNames) (fl' := []) (n := 1) (b := B_piece_row)
  (s_seq (s_if (pt_bD (cS (pu_isC .Open (by decide) (pu_var 0)))) (s_ret (pu_fn (pa_consD (PuF.pe (pu_lst (pa_consD (pu_str _) (pa_consD (uS (pu_fld .length (pu_var 0))) pa_nilD)))) pa_nilD)))
  s_next)
  (s_ret (pu_fn (pa_consD (PuF.pe (pu_lst (pa_consD (pu_str _) (pa_consD (uS (pu_fld .name (pu_var 0))) (pa_consD (uS (pu_fld .length (pu_var 0))) (pa_consD (uS (pu_fld .bears (pu_var 0))) (pa_consD (uS (pu_fld .wide (pu_var 0))) (pa_consD (uS (pu_fld .most (pu_var 0))) pa_nilD)))))))) pa_nilD)))) rfl (by decide) h
theorem ok_road_rows {f : Addr} {fd : FuncData} (F : Fun K "road_rows" "road_rows" s_road_rows f fd) (g_piece_row : Got P w K mg base 2 "piece_row" ["piece"] (sp_piece_row K)) (g_row_of : Got P w K mg base 1 "row_of" ["parts"] (sp_row_of K)) :
 FnOk P w K mg base CX0 3 f fd ["road"] (sp_road_rows K) := by
 refine F.ok sc_road_rows (fun vs H Q E h => spP_len h) (fun cdv A outer s H vs Q E hr h => ?_)
 have hu := hr.units
 have h : spP K kNames .yes 1 (runF 4 B_road_rows) vs H Q E := by rw [← seal_eq (runF 4 B_road_rows)]; exact h
 refine ⟨_, (pss_cons (ps_compG [] [] (CompC.to cs_road_rows_0 rfl rfl) rfl (pi_or (pi_list (pe_fld (f := "pieces") (pv 0) rfl)) (pi_or (pi_tup (pe_fld (f := "pieces") (pv 0) rfl)) (pi_str (pe_fld (f := "pieces") (pv 0) rfl)))) (fun _ _ _ _ _ => pif_nil) (fun _ _ _ _ _ => (pe_goI g_piece_row (by rfl) (by rfl) (by rfl) (by rfl) (by rfl) (by exact hr) (by first | decide | omega) rfl (pa_cons (pv 0) pa_nil))) 1 sc_road_rows.nd rfl (by first | exact Or.inl rfl | exact Or.inr rfl))
  (pss_cons (ps_compG [] [] (CompC.to cs_road_rows_1 rfl rfl) rfl (pi_or (pi_list (pe_fld (f := "rounds") (pv 0) rfl)) (pi_or (pi_tup (pe_fld (f := "rounds") (pv 0) rfl)) (pi_str (pe_fld (f := "rounds") (pv 0) rfl)))) (fun _ _ _ _ _ => pif_nil) (fun _ _ _ _ _ => (pe_goI g_row_of (by rfl) (by rfl) (by rfl) (by rfl) (by rfl) (by exact hr) (by first | decide | omega) rfl (pa_cons (pe_lst (pa_cons pe_str (pa_cons (pe_ix (ix_seqK (K := K) rfl) (pv 0) pe_int (fun _ _ => rfl)) (pa_cons (pe_ix (ix_seqK (K := K) rfl) (pv 0) pe_int (fun _ _ => rfl)) pa_nil)))) pa_nil))) 2 sc_road_rows.nd rfl (by first | exact Or.inl rfl | exact Or.inr rfl))
  (pss_cons (ps_compG [] [] (CompC.to cs_road_rows_2 rfl rfl) rfl (pi_or (pi_list (pe_fld (f := "shuts") (pv 0) rfl)) (pi_or (pi_tup (pe_fld (f := "shuts") (pv 0) rfl)) (pi_str (pe_fld (f := "shuts") (pv 0) rfl)))) (fun _ _ _ _ _ => pif_nil) (fun _ _ _ _ _ => (pe_goI g_row_of (by rfl) (by rfl) (by rfl) (by rfl) (by rfl) (by exact hr) (by first | decide | omega) rfl (pa_cons (pe_lst (pa_cons pe_str (pa_cons (pe_ix (ix_seqK (K := K) rfl) (pv 0) pe_int (fun _ _ => rfl)) (pa_cons (pe_ix (ix_seqK (K := K) rfl) (pv 0) pe_int (fun _ _ => rfl)) (pa_cons (pe_ix (ix_seqK (K := K) rfl) (pv 0) pe_int (fun _ _ => rfl)) pa_nil))))) pa_nil))) 3 sc_road_rows.nd rfl (by first | exact Or.inl rfl | exact Or.inr rfl))
  (pss_one (ps_ret (pe_op op_addP (pe_op op_addP (pv 1) (pv 2)) (pv 3))))))), ?_⟩
 exact run_okF (K := K) (ns := kNames) (fl' := []) (n := 4) (b := B_road_rows)
  (s_seq (s_set 1 (PuF.pe (pu_comp (pi_any (uS (pu_fld .pieces (pu_var 0)))) pt_yes (pu_fn (pa_consD (pu_var 0) pa_nilD)))))
  (s_seq (s_set 2 (PuF.pe (pu_comp (pi_any (uS (pu_fld .rounds (pu_var 0)))) pt_yes (pu_fn (pa_consD (PuF.pe (pu_lst (pa_consD (pu_str _) (pa_consD (oS (pu_op r2_ix (pu_var 0) (pu_int _))) (pa_consD (oS (pu_op r2_ix (pu_var 0) (pu_int _))) pa_nilD))))) pa_nilD)))))
  (s_seq (s_set 3 (PuF.pe (pu_comp (pi_any (uS (pu_fld .shuts (pu_var 0)))) pt_yes (pu_fn (pa_consD (PuF.pe (pu_lst (pa_consD (pu_str _) (pa_consD (oS (pu_op r2_ix (pu_var 0) (pu_int _))) (pa_consD (oS (pu_op r2_ix (pu_var 0) (pu_int _))) (pa_consD (oS (pu_op r2_ix (pu_var 0) (pu_int _))) pa_nilD)))))) pa_nilD)))))
  (s_retF (oSF (pu_opF r2_cat (oS (pu_op r2_add (pu_var 1) (pu_var 2))) (pu_var 3))))))) rfl (by decide) h
theorem ok_rows_of {f : Addr} {fd : FuncData} (F : Fun K "rows_of" "rows_of" s_rows_of f fd)  :
 FnOk P w K mg base CX0 1 f fd ["text"] (sp_rows_of K) := by
 refine F.ok sc_rows_of (fun vs H Q E h => spP_len h) (fun cdv A outer s H vs Q E hr h => ?_)
 have hu := hr.units
 have h : spP K kNames .yes 1 (runF 1 B_rows_of) vs H Q E := by rw [← seal_eq (runF 1 B_rows_of)]; exact h
 refine ⟨_, (pss_one (ps_ret (pe_bm PySem.F.plainAttrs_str PySem.F.slot_str_split PySem.F.type_str_split mt_split (pv 0) (pa_cons pe_str pa_nil)))), ?_⟩
 exact run_okF (K := K) (ns := kNames) (fl' := []) (n := 1) (b := B_rows_of)
  (s_retF (mSF (pu_split (pu_var 0) (pa_consD (pu_str _) pa_nilD)))) rfl (by decide) h
theorem ok_is_row_of {f : Addr} {fd : FuncData} (F : Fun K "is_row_of" "is_row_of" s_is_row_of f fd) (z_all : mg "all" = none) (z_len : mg "len" = none) :
 FnOk P w K mg base CX0 1 f fd ["text", "signs", "most"] (sp_is_row_of K) := by
 refine F.ok sc_is_row_of (fun vs H Q E h => spP_len h) (fun cdv A outer s H vs Q E hr h => ?_)
 have hu := hr.units
 have h : spP K kNames .no 3 (runD 3 B_is_row_of) vs H Q E := by rw [← seal_eq (runD 3 B_is_row_of)]; exact h
 refine ⟨_, (pss_cons (ps_if (PW.pt (pw_or (pt_cmpR op_lt (pe_callB lenG rfl z_len b_len (pa_cons (pv 0) pa_nil)) pe_int (nomark _)) (pw_or1 (pt_cmpR op_gt (pe_callB lenG rfl z_len b_len (pa_cons (pv 0) pa_nil)) (pv 2) (nomark _))))) (pss_one (ps_ret pe_bl)) pss_nil)
  (pss_one (ps_ret (pe_callB (call_all_list rfl) rfl z_all b_all (pa_cons (pe_compG ["signs"] [1] (CompC.to cs_is_row_of_0 rfl rfl) rfl (pi_or (pi_list (pv 0)) (pi_or (pi_tup (pv 0)) (pi_str (pv 0)))) (fun _ _ _ _ _ => pif_nil) (fun _ _ _ _ _ => (pe_cmpR (op_inK (K := K) rfl) (pv 0) (pv 1) (by rfl)))) pa_nil))))), ?_⟩
 exact run_ok (K := K) (ns := kNames) (fl' := []) (n := 3) (b := B_is_row_of)
  (s_seq (s_if (pt_orD (pt_tD (oS (pu_op r2_lt (cS (pu_call ca_len (pa_consD (pu_var 0) pa_nilD))) (pu_int _)))) (pt_tD (oS (pu_op r2_gt (cS (pu_call ca_len (pa_consD (pu_var 0) pa_nilD))) (pu_var 2))))) (s_ret (pu_bl _))
  s_next)
  (s_ret (cS (pu_call ca_all (pa_consD (PuF.pe (pu_comp (pi_any (pu_var 0)) pt_yes (oS (pu_op r2_inT (pu_var 0) (pu_var 1))))) pa_nilD))))) rfl (by decide) h
theorem ok_number_of {f : Addr} {fd : FuncData} {dV : Value} (F : FunX K "number_of" "number_of" s_number_of f fd dV) (g_is_row_of : Got P w K mg base 1 "is_row_of" ["text", "signs", "most"] (sp_is_row_of K)) (z_int : mg "int" = none) (c_FIGURES : ∃ u, mg "FIGURES" = some u ∧ RelV (V.str (Str.ofString "0123456789")) u) (c_MOST_FIGURES : ∃ u, mg "MOST_FIGURES" = some u ∧ RelV (V.int 60) u) :
 FnOk P w K mg base CX0 2 f fd ["text", "most"] (sp_number_of K) := by
 refine F.ok sc_number_of (fun vs H Q E h => spP_len h) (fun cdv A outer s H vs Q E hr h => ?_)
 have hu := hr.units
 have h : spP K kNames .no 2 (runD 3 B_number_of) vs H Q E := by rw [← seal_eq (runD 3 B_number_of)]; exact h
 refine ⟨_, (pss_cons (ps_if (pt_not (pt_val (pe_go g_is_row_of hr (by first | decide | omega) rfl (pa_cons (pv 0) (pa_cons (pe_gl rfl c_FIGURES) (pa_cons (pe_gl rfl c_MOST_FIGURES) pa_nil)))))) (pss_one (ps_ret pe_non)) pss_nil)
  (pss_cons (ps_if (PW.pt (pw_and (pt_val (pe_bm PySem.F.plainAttrs_str PySem.F.slot_str_startswith PySem.F.type_str_startswith mt_startswith (pv 0) (pa_cons pe_str pa_nil))) (pw_and1 (pt_cmpR (op_neG hu) (pv 0) pe_str (nomark _))))) (pss_one (ps_ret pe_non)) pss_nil)
  (pss_cons (ps_set (i := 2) sc_number_of.nd rfl (by first | exact Or.inl rfl | exact Or.inr rfl) (pe_callTy call_intX rfl z_int b_int (pa_cons (pv 0) pa_nil)))
  (pss_cons (ps_if (PW.pt (pw_and (pt_cmpR op_notN (pv 1) pe_non (nomark _)) (pw_and1 (pt_cmpR op_gt (pv 2) (pv 1) (nomark _))))) (pss_one (ps_ret pe_non)) pss_nil)
  (pss_one (ps_ret (pv 2))))))), ?_⟩
 exact run_ok (K := K) (ns := kNames) (fl' := []) (n := 3) (b := B_number_of)
  (s_seq (s_if (pt_notD (pt_bD (pu_fn (pa_consD (pu_var 0) (pa_consD (pu_str _) (pa_consD (pu_int _) pa_nilD)))))) (s_ret pu_non)
  s_next)
  (s_seq (s_if (pt_andD (pt_bD (mS (pu_starts (pu_var 0) (pa_consD (pu_str _) pa_nilD)))) (pt_tD (oS (pu_op r2_ne (pu_var 0) (pu_str _))))) (s_ret pu_non)
  s_next)
  (s_seq (s_set 2 (cS (pu_call ca_intT (pa_consD (pu_var 0) pa_nilD))))
  (s_seq (s_if (pt_andD (pt_tD (oS (pu_op r2_isnt (pu_var 1) pu_non))) (pt_tD (oS (pu_op r2_gt (pu_var 2) (pu_var 1))))) (s_ret pu_non)
  s_next)
  (s_ret (pu_var 2)))))) rfl (by decide) h
theorem ok_number_within {f : Addr} {fd : FuncData} (F : Fun K "number_within" "number_within" s_number_within f fd) (g_number_of : Got P w K mg base 2 "number_of" ["text", "most"] (sp_number_of K)) (gd_number_of : GotD P w K mg base 2 "number_of" ["text", "most"] [V.non] (sp_number_of K)) :
 FnOk P w K mg base CX0 3 f fd ["text", "bound"] (sp_number_within K) := by
 refine F.ok sc_number_within (fun vs H Q E h => spP_len h) (fun cdv A outer s H vs Q E hr h => ?_)
 have hu := hr.units
 have h : spP K kNames .no 2 (runD 3 B_number_within) vs H Q E := by rw [← seal_eq (runD 3 B_number_within)]; exact h
 refine ⟨_, (pss_cons (ps_set (i := 2) sc_number_within.nd rfl (by first | exact Or.inl rfl | exact Or.inr rfl) (pe_go g_number_of hr (by first | decide | omega) rfl (pa_cons (pv 0) (pa_cons (pe_ix ix_seq (pv 1) pe_int (fun _ _ => rfl)) pa_nil))))
  (pss_cons (ps_if (PW.pt (pw_or (pt_cmpR op_isP (pv 2) pe_non (nomark _)) (pw_or1 (pt_cmpR op_lt (pv 2) (pe_ix ix_seq (pv 1) pe_int (fun _ _ => rfl)) (nomark _))))) (pss_one (ps_ret pe_non)) pss_nil)
  (pss_one (ps_ret (pv 2))))), ?_⟩
 exact run_ok (K := K) (ns := kNames) (fl' := []) (n := 3) (b := B_number_within)
  (s_seq (s_set 2 (pu_fn (pa_consD (pu_var 0) (pa_consD (oS (pu_op r2_ix (pu_var 1) (pu_int _))) pa_nilD))))
  (s_seq (s_if (pt_orD (pt_tD (oS (pu_op r2_is (pu_var 2) pu_non))) (pt_tD (oS (pu_op r2_lt (pu_var 2) (oS (pu_op r2_ix (pu_var 1) (pu_int _))))))) (s_ret pu_non)
  s_next)
  (s_ret (pu_var 2)))) rfl (by decide) h
theorem ok_numbers_of {f : Addr} {fd : FuncData} (F : Fun K "numbers_of" "numbers_of" s_numbers_of f fd) (g_number_within : Got P w K mg base 3 "number_within" ["text", "bound"] (sp_number_within K)) (z_len : mg "len" = none) (z_zip : mg "zip" = none) :
 FnOk P w K mg base CX0 4 f fd ["texts", "bounds"] (sp_numbers_of K) := by
 refine F.ok sc_numbers_of (fun vs H Q E h => spP_len h) (fun cdv A outer s H vs Q E hr h => ?_)
 have hu := hr.units
 have h : spP K kNames .no 2 (runD 3 B_numbers_of) vs H Q E := by rw [← seal_eq (runD 3 B_numbers_of)]; exact h
 refine ⟨_, (pss_cons (ps_if (pt_cmpR (op_neG hu) (pe_callB lenG rfl z_len b_len (pa_cons (pv 0) pa_nil)) (pe_callB lenG rfl z_len b_len (pa_cons (pv 1) pa_nil)) (nomark _)) (pss_one (ps_ret pe_non)) pss_nil)
  (pss_cons (ps_compT [] [] (CompCT.to cs_numbers_of_0 rfl rfl) rfl rfl (fun _ _ _ _ _ => (pg_tupK (K := K) (n := 2) rfl rfl (pgs_cons (pg_comp (CompCT.to cs_numbers_of_0 rfl rfl) 0 rfl (by decide)) (pgs_cons (pg_comp (CompCT.to cs_numbers_of_0 rfl rfl) 1 rfl (by decide)) pgs_nil)))) (pi_or (pi_or (pi_zip (by rfl) z_zip (pa_cons (pv 0) (pa_cons (pv 1) pa_nil))) (pi_zipT (by rfl) z_zip (pa_cons (pv 0) (pa_cons (pv 1) pa_nil)))) (pi_zipM (by rfl) z_zip (pa_cons (pv 0) (pa_cons (pv 1) pa_nil)))) (fun _ _ _ _ _ => pif_nil) (fun _ _ _ _ _ => (pe_goI g_number_within (by rfl) (by rfl) (by rfl) (by rfl) (by rfl) (by exact hr) (by first | decide | omega) rfl (pa_cons (pv 0) (pa_cons (pv 1) pa_nil)))) 2 sc_numbers_of.nd rfl (by first | exact Or.inl rfl | exact Or.inr rfl))
  (pss_cons (ps_if (pt_cmpR op_inX pe_non (pv 2) (by rfl)) (pss_one (ps_ret pe_non)) pss_nil)
  (pss_one (ps_ret (pv 2)))))), ?_⟩
 exact run_ok (K := K) (ns := kNames) (fl' := []) (n := 3) (b := B_numbers_of)
  (s_seq (s_if (pt_tD (oS (pu_op r2_ne (cS (pu_call ca_len (pa_consD (pu_var 0) pa_nilD))) (cS (pu_call ca_len (pa_consD (pu_var 1) pa_nilD)))))) (s_ret pu_non)
  s_next)
  (s_seq (s_set 2 (PuF.pe (pu_compT (iS (pi_zipX (pa_consD (pu_var 0) (pa_consD (pu_var 1) pa_nilD)))) pt_yes (pu_fn (pa_consD (pu_var 0) (pa_consD (pu_var 1) pa_nilD))))))
  (s_seq (s_if (pt_tD (oS (pu_op r2_inT pu_non (pu_var 2)))) (s_ret pu_non)
  s_next)
  (s_ret (pu_var 2))))) rfl (by decide) h
theorem ok_begins_with {f : Addr} {fd : FuncData} (F : Fun K "begins_with" "begins_with" s_begins_with f fd) (z_len : mg "len" = none) :
 FnOk P w K mg base CX0 1 f fd ["words", "kinds"] (sp_begins_with K) := by
 refine F.ok sc_begins_with (fun vs H Q E h => spP_len h) (fun cdv A outer s H vs Q E hr h => ?_)
 have hu := hr.units
 have h : spP K kNames .no 2 (runD 2 B_begins_with) vs H Q E := by rw [← seal_eq (runD 2 B_begins_with)]; exact h
 refine ⟨_, (pss_one (ps_ret (pe_and (pe_cmpR op_gt (pe_callB lenG rfl z_len b_len (pa_cons (pv 0) pa_nil)) pe_int (nomark _)) (pe_one (pe_cmpR op_inX (pe_ix ix_seq (pv 0) pe_int (fun _ _ => rfl)) (pv 1) (by rfl)))))), ?_⟩
 exact run_ok (K := K) (ns := kNames) (fl' := []) (n := 2) (b := B_begins_with)
  (s_ret (pu_and (oS (pu_op r2_gt (cS (pu_call ca_len (pa_consD (pu_var 0) pa_nilD))) (pu_int _))) (oS (pu_op r2_inT (oS (pu_op r2_ix (pu_var 0) (pu_int _))) (pu_var 1))))) rfl (by decide) h
theorem ok_plain_row {f : Addr} {fd : FuncData} (F : Fun K "plain_row" "plain_row" s_plain_row f fd) (g_numbers_of : Got P w K mg base 4 "numbers_of" ["texts", "bounds"] (sp_numbers_of K)) (g_begins_with : Got P w K mg base 1 "begins_with" ["words", "kinds"] (sp_begins_with K)) :
 FnOk P w K mg base CX0 5 f fd ["words", "kind", "bounds"] (sp_plain_row K) := by
 refine F.ok sc_plain_row (fun vs H Q E h => spP_len h) (fun cdv A outer s H vs Q E hr h => ?_)
 have hu := hr.units
 have h : spP K kNames .no 3 (runD 3 B_plain_row) vs H Q E := by rw [← seal_eq (runD 3 B_plain_row)]; exact h
 refine ⟨_, (pss_cons (ps_if (pt_not (pt_val (pe_go g_begins_with hr (by first | decide | omega) rfl (pa_cons (pv 0) (pa_cons (pe_tup (pa_cons (pv 1) pa_nil)) pa_nil))))) (pss_one (ps_ret pe_non)) pss_nil)
  (pss_one (ps_ret (pe_go g_numbers_of hr (by first | decide | omega) rfl (pa_cons (pe_slice slX (pv 0) (po_some pe_int) po_none) (pa_cons (pv 2) pa_nil)))))), ?_⟩
 exact run_ok (K := K) (ns := kNames) (fl' := []) (n := 3) (b := B_plain_row)
  (s_seq (s_if (pt_notD (pt_bD (pu_fn (pa_consD (pu_var 0) (pa_consD (pu_tup (pa_consD (pu_var 1) pa_nilD)) pa_nilD))))) (s_ret pu_non)
  s_next)
  (s_ret (pu_fn (pa_consD (slS (pu_sl (pu_var 0) (po_at (pu_int _)) po_no)) (pa_consD (pu_var 2) pa_nilD))))) rfl (by decide) h
theorem ok_words_at {f : Addr} {fd : FuncData} (F : Fun K "words_at" "words_at" s_words_at f fd) (z_len : mg "len" = none) :
 FnOk P w K mg base CX0 1 f fd ["rows", "place"] (sp_words_at K) := by
 refine F.ok sc_words_at (fun vs H Q E h => spP_len h) (fun cdv A outer s H vs Q E hr h => ?_)
 have hu := hr.units
 have h : spP K kNames .yes 2 (runF 2 B_words_at) vs H Q E := by rw [← seal_eq (runF 2 B_words_at)]; exact h
 refine ⟨_, (pss_cons (ps_if (pt_cmpR op_ge (pv 1) (pe_callB lenG rfl z_len b_len (pa_cons (pv 0) pa_nil)) (nomark _)) (pss_one (ps_ret (pe_lst pa_nil))) pss_nil)
  (pss_one (ps_ret (pe_bm PySem.F.plainAttrs_str PySem.F.slot_str_split PySem.F.type_str_split mt_split (pe_ix ix_seq (pv 0) (pv 1) (fun _ _ => rfl)) (pa_cons pe_str pa_nil))))), ?_⟩
 exact run_okF (K := K) (ns := kNames) (fl' := []) (n := 2) (b := B_words_at)
  (s_seq (s_if (pt_tD (oS (pu_op r2_ge (pu_var 1) (cS (pu_call ca_len (pa_consD (pu_var 0) pa_nilD)))))) (s_retF (pu_lst pa_nilD))
  s_next)
  (s_retF (mSF (pu_split (oS (pu_op r2_ix (pu_var 0) (pu_var 1))) (pa_consD (pu_str _) pa_nilD))))) rfl (by decide) h
theorem ok_Open_init {f : Addr} {fd : FuncData} (F : Fun K "__init__" "Open.__init__" s_Open_init f fd)  :
 FnOk P w K mg base CX0 1 f fd ["self", "length"] (sp_Open_init K) := by
 refine F.ok sc_Open_init (fun vs H Q E h => spI_len h) (fun cdv A outer s H vs Q E hr h => ?_)
 have hu := hr.units
 refine ⟨_, (pss_one (ps_fld (f := "length") (pv 0) (pv 1) rfl)), ?_⟩
 exact init_ok (K := K) (ns := kNames) (c := .Open) (pn_one .length (pu_var 1)) rfl rfl h
theorem ok_read_open {f : Addr} {fd : FuncData} (F : Fun K "read_open" "read_open" s_read_open f fd) (g_plain_row : Got P w K mg base 5 "plain_row" ["words", "kind", "bounds"] (sp_plain_row K)) (g_words_at : Got P w K mg base 1 "words_at" ["rows", "place"] (sp_words_at K)) (m_Open : GotP P w K mg base 1 "Open" ["self", "length"] (sp_Open_init K)) (d_Open : PKd K kNames (clA K "Open") ["Open"] ["length"]) (c_LEAST_OPEN : ∃ u, mg "LEAST_OPEN" = some u ∧ RelV (V.int 200) u) (n_LENGTH : mg "LENGTH" = some (.ref (clA K "LENGTH"))) (k_LENGTH : KT K (clA K "LENGTH") [.int 1, .int 1000]) :
 FnOk P w K mg base CX0 6 f fd ["rows", "place"] (sp_read_open K) := by
 refine F.ok sc_read_open (fun vs H Q E h => spP_len h) (fun cdv A outer s H vs Q E hr h => ?_)
 have hu := hr.units
 have h : spP K kNames .no 2 (runD 3 B_read_open) vs H Q E := by rw [← seal_eq (runD 3 B_read_open)]; exact h
 refine ⟨_, (pss_cons (ps_set (i := 2) sc_read_open.nd rfl (by first | exact Or.inl rfl | exact Or.inr rfl) (pe_go g_plain_row hr (by first | decide | omega) rfl (pa_cons (pe_go g_words_at hr (by first | decide | omega) rfl (pa_cons (pv 0) (pa_cons (pv 1) pa_nil))) (pa_cons pe_str (pa_cons (pe_tup (pa_cons (pe_cl rfl n_LENGTH) pa_nil)) pa_nil)))))
  (pss_cons (ps_if (pt_cmpR op_isP (pv 2) pe_non (nomark _)) (pss_one ps_nvr) pss_nil)
  (pss_cons (ps_if (pt_cmpR op_lt (pe_ix ix_seq (pv 2) pe_int (fun _ _ => rfl)) (pe_gl rfl c_LEAST_OPEN) (nomark _)) (pss_one ps_nvr) pss_nil)
  (pss_one (ps_ret (pe_mkP m_Open hr (by decide) rfl (pa_cons (pe_ix ix_seq (pv 2) pe_int (fun _ _ => rfl)) pa_nil))))))), ?_⟩
 exact run_ok (K := K) (ns := kNames) (fl' := []) (n := 3) (b := B_read_open)
  (s_seq (s_set 2 (pu_fn (pa_consD (PuF.pe (pu_fnF (pa_consD (pu_var 0) (pa_consD (pu_var 1) pa_nilD)))) (pa_consD (pu_str _) (pa_consD (pu_tup (pa_consD (pu_kt fun _ _ => .kt k_LENGTH (.cons (.int _) (.cons (.int _) (.nil)))) pa_nilD)) pa_nilD)))))
  (s_seq (s_if (pt_tD (oS (pu_op r2_is (pu_var 2) pu_non))) s_never
  s_next)
  (s_seq (s_if (pt_tD (oS (pu_op r2_lt (oS (pu_op r2_ix (pu_var 2) (pu_int _))) (pu_int _)))) s_never
  s_next)
  (s_ret (pu_make .Open d_Open (pa_consD (oS (pu_op r2_ix (pu_var 2) (pu_int _))) pa_nilD)))))) rfl (by decide) h
theorem ok_is_word {f : Addr} {fd : FuncData} (F : Fun K "is_word" "is_word" s_is_word f fd) (g_is_row_of : Got P w K mg base 1 "is_row_of" ["text", "signs", "most"] (sp_is_row_of K)) (c_LETTERS : ∃ u, mg "LETTERS" = some u ∧ RelV (V.str (Str.ofString "abcdefghijklmnopqrstuvwxyz")) u) (c_MOST_LETTERS : ∃ u, mg "MOST_LETTERS" = some u ∧ RelV (V.int 12) u) :
 FnOk P w K mg base CX0 2 f fd ["text"] (sp_is_word K) := by
 refine F.ok sc_is_word (fun vs H Q E h => spP_len h) (fun cdv A outer s H vs Q E hr h => ?_)
 have hu := hr.units
 have h : spP K kNames .no 1 (runD 1 B_is_word) vs H Q E := by rw [← seal_eq (runD 1 B_is_word)]; exact h
 refine ⟨_, (pss_one (ps_ret (pe_go g_is_row_of hr (by first | decide | omega) rfl (pa_cons (pv 0) (pa_cons (pe_gl rfl c_LETTERS) (pa_cons (pe_gl rfl c_MOST_LETTERS) pa_nil)))))), ?_⟩
 exact run_ok (K := K) (ns := kNames) (fl' := []) (n := 1) (b := B_is_word)
  (s_ret (pu_fn (pa_consD (pu_var 0) (pa_consD (pu_str _) (pa_consD (pu_int _) pa_nilD))))) rfl (by decide) h
theorem ok_named_row {f : Addr} {fd : FuncData} (F : Fun K "named_row" "named_row" s_named_row f fd) (g_numbers_of : Got P w K mg base 4 "numbers_of" ["texts", "bounds"] (sp_numbers_of K)) (g_begins_with : Got P w K mg base 1 "begins_with" ["words", "kinds"] (sp_begins_with K)) (g_is_word : Got P w K mg base 2 "is_word" ["text"] (sp_is_word K)) (z_len : mg "len" = none) :
 FnOk P w K mg base CX0 5 f fd ["words", "kind", "bounds"] (sp_named_row K) := by
 refine F.ok sc_named_row (fun vs H Q E h => spP_len h) (fun cdv A outer s H vs Q E hr h => ?_)
 have hu := hr.units
 have h : spP K kNames .no 3 (runD 4 B_named_row) vs H Q E := by rw [← seal_eq (runD 4 B_named_row)]; exact h
 refine ⟨_, (pss_cons (ps_if (PW.pt (pw_or (pt_not (pt_val (pe_go g_begins_with hr (by first | decide | omega) rfl (pa_cons (pv 0) (pa_cons (pe_tup (pa_cons (pv 1) pa_nil)) pa_nil))))) (pw_or (pt_cmpR op_lt (pe_callB lenG rfl z_len b_len (pa_cons (pv 0) pa_nil)) pe_int (nomark _)) (pw_or1 (pt_not (pt_val (pe_go g_is_word hr (by first | decide | omega) rfl (pa_cons (pe_ix ix_seq (pv 0) pe_int (fun _ _ => rfl)) pa_nil)))))))) (pss_one (ps_ret pe_non)) pss_nil)
  (pss_cons (ps_set (i := 3) sc_named_row.nd rfl (by first | exact Or.inl rfl | exact Or.inr rfl) (pe_go g_numbers_of hr (by first | decide | omega) rfl (pa_cons (pe_slice slX (pv 0) (po_some pe_int) po_none) (pa_cons (pv 2) pa_nil))))
  (pss_cons (ps_if (pt_cmpR op_isP (pv 3) pe_non (nomark _)) (pss_one (ps_ret pe_non)) pss_nil)
  (pss_one (ps_ret (pe_tup (pa_cons (pe_ix ix_seq (pv 0) pe_int (fun _ _ => rfl)) (pa_cons (pv 3) pa_nil)))))))), ?_⟩
 exact run_ok (K := K) (ns := kNames) (fl' := []) (n := 4) (b := B_named_row)
  (s_seq (s_if (pt_orD (pt_notD (pt_bD (pu_fn (pa_consD (pu_var 0) (pa_consD (pu_tup (pa_consD (pu_var 1) pa_nilD)) pa_nilD))))) (pt_orD (pt_tD (oS (pu_op r2_lt (cS (pu_call ca_len (pa_consD (pu_var 0) pa_nilD))) (pu_int _)))) (pt_notD (pt_bD (pu_fn (pa_consD (oS (pu_op r2_ix (pu_var 0) (pu_int _))) pa_nilD)))))) (s_ret pu_non)
  s_next)
  (s_seq (s_set 3 (pu_fn (pa_consD (slS (pu_sl (pu_var 0) (po_at (pu_int _)) po_no)) (pa_consD (pu_var 2) pa_nilD))))
  (s_seq (s_if (pt_tD (oS (pu_op r2_is (pu_var 3) pu_non))) (s_ret pu_non)
  s_next)
  (s_ret (pu_tup (pa_consD (oS (pu_op r2_ix (pu_var 0) (pu_int _))) (pa_consD (pu_var 3) pa_nilD))))))) rfl (by decide) h
theorem ok_Bridge_init {f : Addr} {fd : FuncData} (F : Fun K "__init__" "Bridge.__init__" s_Bridge_init f fd)  :
 FnOk P w K mg base CX0 1 f fd ["self", "name", "length", "bears", "wide", "most"] (sp_Bridge_init K) := by
 refine F.ok sc_Bridge_init (fun vs H Q E h => spI_len h) (fun cdv A outer s H vs Q E hr h => ?_)
 have hu := hr.units
 refine ⟨_, (pss_cons (ps_fld (f := "name") (pv 0) (pv 1) rfl)
  (pss_cons (ps_fld (f := "length") (pv 0) (pv 2) rfl)
  (pss_cons (ps_fld (f := "bears") (pv 0) (pv 3) rfl)
  (pss_cons (ps_fld (f := "wide") (pv 0) (pv 4) rfl)
  (pss_one (ps_fld (f := "most") (pv 0) (pv 5) rfl)))))), ?_⟩
 exact init_ok (K := K) (ns := kNames) (c := .Bridge) (pn_seq (pn_one .name (pu_var 1)) (pn_seq (pn_one .length (pu_var 2)) (pn_seq (pn_one .bears (pu_var 3)) (pn_seq (pn_one .wide (pu_var 4)) (pn_one .most (pu_var 5)))))) rfl rfl h
theorem ok_read_bridge {f : Addr} {fd : FuncData} (F : Fun K "read_bridge" "read_bridge" s_read_bridge f fd) (g_named_row : Got P w K mg base 5 "named_row" ["words", "kind", "bounds"] (sp_named_row K)) (g_words_at : Got P w K mg base 1 "words_at" ["rows", "place"] (sp_words_at K)) (m_Bridge : GotP P w K mg base 1 "Bridge" ["self", "name", "length", "bears", "wide", "most"] (sp_Bridge_init K)) (d_Bridge : PKd K kNames (clA K "Bridge") ["Bridge"] ["name", "length", "bears", "wide", "most"]) (z_len : mg "len" = none) (n_LENGTH : mg "LENGTH" = some (.ref (clA K "LENGTH"))) (k_LENGTH : KT K (clA K "LENGTH") [.int 1, .int 1000]) (n_BURDEN : mg "BURDEN" = some (.ref (clA K "BURDEN"))) (k_BURDEN : KT K (clA K "BURDEN") [.int 1, .int 10000000]) (n_WIDE : mg "WIDE" = some (.ref (clA K "WIDE"))) (k_WIDE : KT K (clA K "WIDE") [.int 1, .int 200]) (c_MOST_BRIDGES : ∃ u, mg "MOST_BRIDGES" = some u ∧ RelV (V.int 6) u) :
 FnOk P w K mg base CX0 6 f fd ["rows", "place", "names"] (sp_read_bridge K) := by
 refine F.ok sc_read_bridge (fun vs H Q E h => spP_len h) (fun cdv A outer s H vs Q E hr h => ?_)
 have hu := hr.units
 have h : spP K kNames .no 3 (runD 5 B_read_bridge) vs H Q E := by rw [← seal_eq (runD 5 B_read_bridge)]; exact h
 refine ⟨_, (pss_cons (ps_set (i := 3) sc_read_bridge.nd rfl (by first | exact Or.inl rfl | exact Or.inr rfl) (pe_go g_named_row hr (by first | decide | omega) rfl (pa_cons (pe_go g_words_at hr (by first | decide | omega) rfl (pa_cons (pv 0) (pa_cons (pv 1) pa_nil))) (pa_cons pe_str (pa_cons (pe_tup (pa_cons (pe_cl rfl n_LENGTH) (pa_cons (pe_cl rfl n_BURDEN) (pa_cons (pe_cl rfl n_WIDE) (pa_cons (pe_cl rfl n_BURDEN) pa_nil))))) pa_nil)))))
  (pss_cons (ps_if (PW.pt (pw_or (pt_cmpR op_isP (pv 3) pe_non (nomark _)) (pw_or1 (pt_cmpR op_ge (pe_callB lenG rfl z_len b_len (pa_cons (pv 2) pa_nil)) (pe_gl rfl c_MOST_BRIDGES) (nomark _))))) (pss_one ps_nvr) pss_nil)
  (pss_cons (ps_if (pt_cmpR op_inX (pe_ix ix_seq (pv 3) pe_int (fun _ _ => rfl)) (pv 2) (by rfl)) (pss_one ps_nvr) pss_nil)
  (pss_cons (ps_set (i := 4) sc_read_bridge.nd rfl (by first | exact Or.inl rfl | exact Or.inr rfl) (pe_ix ix_seq (pv 3) pe_int (fun _ _ => rfl)))
  (pss_one (ps_ret (pe_mkP m_Bridge hr (by decide) rfl (pa_cons (pe_ix ix_seq (pv 3) pe_int (fun _ _ => rfl)) (pa_cons (pe_ix ix_seq (pv 4) pe_int (fun _ _ => rfl)) (pa_cons (pe_ix ix_seq (pv 4) pe_int (fun _ _ => rfl)) (pa_cons (pe_ix ix_seq (pv 4) pe_int (fun _ _ => rfl)) (pa_cons (pe_ix ix_seq (pv 4) pe_int (fun _ _ => rfl)) pa_nil)))))))))))), ?_⟩
 exact run_ok (K := K) (ns := kNames) (fl' := []) (n := 5) (b := B_read_bridge)
  (s_seq (s_set 3 (pu_fn (pa_consD (PuF.pe (pu_fnF (pa_consD (pu_var 0) (pa_consD (pu_var 1) pa_nilD)))) (pa_consD (pu_str _) (pa_consD (pu_tup (pa_consD (pu_kt fun _ _ => .kt k_LENGTH (.cons (.int _) (.cons (.int _) (.nil)))) (pa_consD (pu_kt fun _ _ => .kt k_BURDEN (.cons (.int _) (.cons (.int _) (.nil)))) (pa_consD (pu_kt fun _ _ => .kt k_WIDE (.cons (.int _) (.cons (.int _) (.nil)))) (pa_consD (pu_kt fun _ _ => .kt k_BURDEN (.cons (.int _) (.cons (.int _) (.nil)))) pa_nilD))))) pa_nilD)))))
  (s_seq (s_if (pt_orD (pt_tD (oS (pu_op r2_is (pu_var 3) pu_non))) (pt_tD (oS (pu_op r2_ge (cS (pu_call ca_len (pa_consD (pu_var 2) pa_nilD))) (pu_int _))))) s_never
  s_next)
  (s_seq (s_if (pt_tD (oS (pu_op r2_inT (oS (pu_op r2_ix (pu_var 3) (pu_int _))) (pu_var 2)))) s_never
  s_next)
  (s_seq (s_set 4 (oS (pu_op r2_ix (pu_var 3) (pu_int _))))
  (s_ret (pu_make .Bridge d_Bridge (pa_consD (oS (pu_op r2_ix (pu_var 3) (pu_int _))) (pa_consD (oS (pu_op r2_ix (pu_var 4) (pu_int _))) (pa_consD (oS (pu_op r2_ix (pu_var 4) (pu_int _))) (pa_consD (oS (pu_op r2_ix (pu_var 4) (pu_int _))) (pa_consD (oS (pu_op r2_ix (pu_var 4) (pu_int _))) pa_nilD))))))))))) rfl (by decide) h
theorem ok_names_in {f : Addr} {fd : FuncData} (F : Fun K "names_in" "names_in" s_names_in f fd) (d_Bridge : PKd K kNames (clA K "Bridge") ["Bridge"] ["name", "length", "bears", "wide", "most"]) (n_Bridge : mg "Bridge" = some (.ref (clA K "Bridge"))) (z_isinstance : mg "isinstance" = none) :
 FnOk P w K mg base CX0 1 f fd ["pieces"] (sp_names_in K) := by
 refine F.ok sc_names_in (fun vs H Q E h => spP_len h) (fun cdv A outer s H vs Q E hr h => ?_)
 have hu := hr.units
 have h : spP K kNames .yes 1 (runF 1 B_names_in) vs H Q E := by rw [← seal_eq (runF 1 B_names_in)]; exact h
 refine ⟨_, (pss_one (ps_ret (pe_compG [] [] (CompC.to cs_names_in_0 rfl rfl) rfl (pi_or (pi_list (pv 0)) (pi_or (pi_tup (pv 0)) (pi_str (pv 0)))) (fun _ _ _ _ _ => (pif_one (pt_val (pe_callB (call_isCK (K := K) rfl) rfl z_isinstance b_isinstance (pa_cons (pv 0) (pa_cons (pe_clK (K := K) rfl rfl n_Bridge) pa_nil)))))) (fun _ _ _ _ _ => (pe_fldK (K := K) rfl (f := "name") (pv 0) rfl))))), ?_⟩
 exact run_okF (K := K) (ns := kNames) (fl' := []) (n := 1) (b := B_names_in)
  (s_retF (pu_comp (pi_any (pu_var 0)) (pt_bD (cS (pu_isC .Bridge (by decide) (pu_var 0)))) (uS (pu_fld .name (pu_var 0))))) rfl (by decide) h
theorem ok_read_pieces {f : Addr} {fd : FuncData} (F : Fun K "read_pieces" "read_pieces" s_read_pieces f fd) (g_read_open : Got P w K mg base 6 "read_open" ["rows", "place"] (sp_read_open K)) (g_begins_with : Got P w K mg base 1 "begins_with" ["words", "kinds"] (sp_begins_with K)) (g_words_at : Got P w K mg base 1 "words_at" ["rows", "place"] (sp_words_at K)) (g_read_bridge : Got P w K mg base 6 "read_bridge" ["rows", "place", "names"] (sp_read_bridge K)) (g_names_in : Got P w K mg base 1 "names_in" ["pieces"] (sp_names_in K)) (z_len : mg "len" = none) :
 FnOk P w K mg base CX0 7 f fd ["rows"] (sp_read_pieces K) := by
 refine F.ok sc_read_pieces (fun vs H Q E h => spP_len h) (fun cdv A outer s H vs Q E hr h => ?_)
 have hu := hr.units
 have h : spP K kNames .yes 1 (runF 2 B_read_pieces) vs H Q E := by rw [← seal_eq (runF 2 B_read_pieces)]; exact h
 refine ⟨_, (pss_cons (ps_set (i := 1) sc_read_pieces.nd rfl (by first | exact Or.inl rfl | exact Or.inr rfl) (pe_lst (pa_cons (pe_go g_read_open hr (by first | decide | omega) rfl (pa_cons (pv 0) (pa_cons pe_int pa_nil))) pa_nil)))
  (pss_cons (ps_while PassesOwn.never (PW.pt (pw_or (pt_cmpR (op_eqG hu) (pe_callB lenG rfl z_len b_len (pa_cons (pv 1) pa_nil)) pe_int (nomark _)) (pw_or1 (pt_val (pe_go g_begins_with hr (by first | decide | omega) rfl (pa_cons (pe_go g_words_at hr (by first | decide | omega) rfl (pa_cons (pv 0) (pa_cons (pe_callB lenG rfl z_len b_len (pa_cons (pv 1) pa_nil)) pa_nil))) (pa_cons (pe_tup (pa_cons pe_str pa_nil)) pa_nil))))))) (pss_cons (ps_expr (pe_bm PySem.F.plainAttrs_list PySem.F.slot_list_append PySem.F.type_list_append mt_append (pv 1) (pa_cons (pe_go g_read_bridge hr (by first | decide | omega) rfl (pa_cons (pv 0) (pa_cons (pe_callB lenG rfl z_len b_len (pa_cons (pv 1) pa_nil)) (pa_cons (pe_go g_names_in hr (by first | decide | omega) rfl (pa_cons (pv 1) pa_nil)) pa_nil)))) pa_nil)))
  (pss_one (ps_expr (pe_bm PySem.F.plainAttrs_list PySem.F.slot_list_append PySem.F.type_list_append mt_append (pv 1) (pa_cons (pe_go g_read_open hr (by first | decide | omega) rfl (pa_cons (pv 0) (pa_cons (pe_callB lenG rfl z_len b_len (pa_cons (pv 1) pa_nil)) pa_nil))) pa_nil))))))
  (pss_one (ps_ret (pv 1))))), ?_⟩
 exact run_okF (K := K) (ns := kNames) (fl' := []) (n := 2) (b := B_read_pieces)
  (s_seq (s_new 1 (pu_lst (pa_consD (pu_fn (pa_consD (pu_var 0) (pa_consD (pu_int _) pa_nilD))) pa_nilD)) (by decide))
  (s_seq (s_while (pt_orD (pt_tD (oS (pu_op r2_eq (cS (pu_call ca_len (pa_consD (pu_var 1) pa_nilD))) (pu_int _)))) (pt_bD (pu_fn (pa_consD (PuF.pe (pu_fnF (pa_consD (pu_var 0) (pa_consD (cS (pu_call ca_len (pa_consD (pu_var 1) pa_nilD))) pa_nilD)))) (pa_consD (pu_tup (pa_consD (pu_str _) pa_nilD)) pa_nilD)))))
  (s_seq (s_appA 1 (pu_fn (pa_consD (pu_var 0) (pa_consD (cS (pu_call ca_len (pa_consD (pu_var 1) pa_nilD))) (pa_consD (PuF.pe (pu_fnF (pa_consD (pu_var 1) pa_nilD))) pa_nilD)))) rfl)
  (s_appA 1 (pu_fn (pa_consD (pu_var 0) (pa_consD (cS (pu_call ca_len (pa_consD (pu_var 1) pa_nilD))) pa_nilD))) rfl)))
  (s_retO 1 rfl))) rfl (by decide) h
theorem ok_read_round {f : Addr} {fd : FuncData} (F : Fun K "read_round" "read_round" s_read_round f fd) (g_named_row : Got P w K mg base 5 "named_row" ["words", "kind", "bounds"] (sp_named_row K)) (g_words_at : Got P w K mg base 1 "words_at" ["rows", "place"] (sp_words_at K)) (n_LENGTH : mg "LENGTH" = some (.ref (clA K "LENGTH"))) (k_LENGTH : KT K (clA K "LENGTH") [.int 1, .int 1000]) :
 FnOk P w K mg base CX0 6 f fd ["rows", "place", "names", "rounds"] (sp_read_round K) := by
 refine F.ok sc_read_round (fun vs H Q E h => spP_len h) (fun cdv A outer s H vs Q E hr h => ?_)
 have hu := hr.units
 have h : spP K kNames .no 4 (runD 5 B_read_round) vs H Q E := by rw [← seal_eq (runD 5 B_read_round)]; exact h
 refine ⟨_, (pss_cons (ps_set (i := 4) sc_read_round.nd rfl (by first | exact Or.inl rfl | exact Or.inr rfl) (pe_go g_named_row hr (by first | decide | omega) rfl (pa_cons (pe_go g_words_at hr (by first | decide | omega) rfl (pa_cons (pv 0) (pa_cons (pv 1) pa_nil))) (pa_cons pe_str (pa_cons (pe_tup (pa_cons (pe_cl rfl n_LENGTH) pa_nil)) pa_nil)))))
  (pss_cons (ps_if (pt_cmpR op_isP (pv 4) pe_non (nomark _)) (pss_one ps_nvr) pss_nil)
  (pss_cons (ps_if (pt_cmpR op_notIn_seq (pe_ix ix_seq (pv 4) pe_int (fun _ _ => rfl)) (pv 2) (by rfl)) (pss_one ps_nvr) pss_nil)
  (pss_cons (ps_if (pt_cmpR op_inX (pe_ix ix_seq (pv 4) pe_int (fun _ _ => rfl)) (pe_compG [] [] (CompC.to cs_read_round_0 rfl rfl) rfl (pi_or (pi_list (pv 3)) (pi_or (pi_tup (pv 3)) (pi_str (pv 3)))) (fun _ _ _ _ _ => pif_nil) (fun _ _ _ _ _ => (pe_ix (ix_seqK (K := K) rfl) (pv 0) pe_int (fun _ _ => rfl)))) (by rfl)) (pss_one ps_nvr) pss_nil)
  (pss_one (ps_ret (pe_tup (pa_cons (pe_ix ix_seq (pv 4) pe_int (fun _ _ => rfl)) (pa_cons (pe_ix ix_seq (pe_ix ix_seq (pv 4) pe_int (fun _ _ => rfl)) pe_int (fun _ _ => rfl)) pa_nil))))))))), ?_⟩
 exact run_ok (K := K) (ns := kNames) (fl' := []) (n := 5) (b := B_read_round)
  (s_seq (s_set 4 (pu_fn (pa_consD (PuF.pe (pu_fnF (pa_consD (pu_var 0) (pa_consD (pu_var 1) pa_nilD)))) (pa_consD (pu_str _) (pa_consD (pu_tup (pa_consD (pu_kt fun _ _ => .kt k_LENGTH (.cons (.int _) (.cons (.int _) (.nil)))) pa_nilD)) pa_nilD)))))
  (s_seq (s_if (pt_tD (oS (pu_op r2_is (pu_var 4) pu_non))) s_never
  s_next)
  (s_seq (s_if (pt_tD (oS (pu_op r2_nin (oS (pu_op r2_ix (pu_var 4) (pu_int _))) (pu_var 2)))) s_never
  s_next)
  (s_seq (s_if (pt_tD (oS (pu_op r2_inT (oS (pu_op r2_ix (pu_var 4) (pu_int _))) (PuF.pe (pu_comp (pi_any (pu_var 3)) pt_yes (oS (pu_op r2_ix (pu_var 0) (pu_int _)))))))) s_never
  s_next)
  (s_ret (pu_tup (pa_consD (oS (pu_op r2_ix (pu_var 4) (pu_int _))) (pa_consD (oS (pu_op r2_ix (oS (pu_op r2_ix (pu_var 4) (pu_int _))) (pu_int _))) pa_nilD)))))))) rfl (by decide) h
theorem ok_read_shut {f : Addr} {fd : FuncData} (F : Fun K "read_shut" "read_shut" s_read_shut f fd) (g_named_row : Got P w K mg base 5 "named_row" ["words", "kind", "bounds"] (sp_named_row K)) (g_words_at : Got P w K mg base 1 "words_at" ["rows", "place"] (sp_words_at K)) (n_MINUTE : mg "MINUTE" = some (.ref (clA K "MINUTE"))) (k_MINUTE : KT K (clA K "MINUTE") [.int 0, .int 10000]) :
 FnOk P w K mg base CX0 6 f fd ["rows", "place", "names"] (sp_read_shut K) := by
 refine F.ok sc_read_shut (fun vs H Q E h => spP_len h) (fun cdv A outer s H vs Q E hr h => ?_)
 have hu := hr.units
 have h : spP K kNames .no 3 (runD 4 B_read_shut) vs H Q E := by rw [← seal_eq (runD 4 B_read_shut)]; exact h
 refine ⟨_, (pss_cons (ps_set (i := 3) sc_read_shut.nd rfl (by first | exact Or.inl rfl | exact Or.inr rfl) (pe_go g_named_row hr (by first | decide | omega) rfl (pa_cons (pe_go g_words_at hr (by first | decide | omega) rfl (pa_cons (pv 0) (pa_cons (pv 1) pa_nil))) (pa_cons pe_str (pa_cons (pe_tup (pa_cons (pe_cl rfl n_MINUTE) (pa_cons (pe_cl rfl n_MINUTE) pa_nil))) pa_nil)))))
  (pss_cons (ps_if (PW.pt (pw_or (pt_cmpR op_isP (pv 3) pe_non (nomark _)) (pw_or1 (pt_cmpR op_ge (pe_ix ix_seq (pe_ix ix_seq (pv 3) pe_int (fun _ _ => rfl)) pe_int (fun _ _ => rfl)) (pe_ix ix_seq (pe_ix ix_seq (pv 3) pe_int (fun _ _ => rfl)) pe_int (fun _ _ => rfl)) (nomark _))))) (pss_one ps_nvr) pss_nil)
  (pss_cons (ps_if (pt_cmpR op_notIn_seq (pe_ix ix_seq (pv 3) pe_int (fun _ _ => rfl)) (pv 2) (by rfl)) (pss_one ps_nvr) pss_nil)
  (pss_one (ps_ret (pe_tup (pa_cons (pe_ix ix_seq (pv 3) pe_int (fun _ _ => rfl)) (pa_cons (pe_ix ix_seq (pe_ix ix_seq (pv 3) pe_int (fun _ _ => rfl)) pe_int (fun _ _ => rfl)) (pa_cons (pe_ix ix_seq (pe_ix ix_seq (pv 3) pe_int (fun _ _ => rfl)) pe_int (fun _ _ => rfl)) pa_nil))))))))), ?_⟩
 exact run_ok (K := K) (ns := kNames) (fl' := []) (n := 4) (b := B_read_shut)
  (s_seq (s_set 3 (pu_fn (pa_consD (PuF.pe (pu_fnF (pa_consD (pu_var 0) (pa_consD (pu_var 1) pa_nilD)))) (pa_consD (pu_str _) (pa_consD (pu_tup (pa_consD (pu_kt fun _ _ => .kt k_MINUTE (.cons (.int _) (.cons (.int _) (.nil)))) (pa_consD (pu_kt fun _ _ => .kt k_MINUTE (.cons (.int _) (.cons (.int _) (.nil)))) pa_nilD))) pa_nilD)))))
  (s_seq (s_if (pt_orD (pt_tD (oS (pu_op r2_is (pu_var 3) pu_non))) (pt_tD (oS (pu_op r2_ge (oS (pu_op r2_ix (oS (pu_op r2_ix (pu_var 3) (pu_int _))) (pu_int _))) (oS (pu_op r2_ix (oS (pu_op r2_ix (pu_var 3) (pu_int _))) (pu_int _))))))) s_never
  s_next)
  (s_seq (s_if (pt_tD (oS (pu_op r2_nin (oS (pu_op r2_ix (pu_var 3) (pu_int _))) (pu_var 2)))) s_never
  s_next)
  (s_ret (pu_tup (pa_consD (oS (pu_op r2_ix (pu_var 3) (pu_int _))) (pa_consD (oS (pu_op r2_ix (oS (pu_op r2_ix (pu_var 3) (pu_int _))) (pu_int _))) (pa_consD (oS (pu_op r2_ix (oS (pu_op r2_ix (pu_var 3) (pu_int _))) (pu_int _))) pa_nilD)))))))) rfl (by decide) h
theorem ok_Road_init {f : Addr} {fd : FuncData} (F : Fun K "__init__" "Road.__init__" s_Road_init f fd) (z_list : mg "list" = none) :
 FnOk P w K mg base CX0 1 f fd ["self", "pieces", "rounds", "shuts"] (sp_Road_init K) := by
 refine F.ok sc_Road_init (fun vs H Q E h => spI_len h) (fun cdv A outer s H vs Q E hr h => ?_)
 have hu := hr.units
 refine ⟨_, (pss_cons (ps_fld (f := "pieces") (pv 0) (pe_callTy call_list_of rfl z_list b_list (pa_cons (pv 1) pa_nil)) rfl)
  (pss_cons (ps_fld (f := "rounds") (pv 0) (pe_callTy call_list_of rfl z_list b_list (pa_cons (pv 2) pa_nil)) rfl)
  (pss_one (ps_fld (f := "shuts") (pv 0) (pe_callTy call_list_of rfl z_list b_list (pa_cons (pv 3) pa_nil)) rfl)))), ?_⟩
 exact init_ok (K := K) (ns := kNames) (c := .Road) (pn_seq (pn_one .pieces (PuF.pe (cSF (pu_callF ca_list (pa_consD (pu_var 1) pa_nilD))))) (pn_seq (pn_one .rounds (PuF.pe (cSF (pu_callF ca_list (pa_consD (pu_var 2) pa_nilD))))) (pn_one .shuts (PuF.pe (cSF (pu_callF ca_list (pa_consD (pu_var 3) pa_nilD))))))) rfl rfl h
theorem ok_road_from {f : Addr} {fd : FuncData} (F : Fun K "road_from" "road_from" s_road_from f fd) (g_read_pieces : Got P w K mg base 7 "read_pieces" ["rows"] (sp_read_pieces K)) (g_names_in : Got P w K mg base 1 "names_in" ["pieces"] (sp_names_in K)) (g_begins_with : Got P w K mg base 1 "begins_with" ["words", "kinds"] (sp_begins_with K)) (g_words_at : Got P w K mg base 1 "words_at" ["rows", "place"] (sp_words_at K)) (g_read_round : Got P w K mg base 6 "read_round" ["rows", "place", "names", "rounds"] (sp_read_round K)) (g_read_shut : Got P w K mg base 6 "read_shut" ["rows", "place", "names"] (sp_read_shut K)) (m_Road : GotP P w K mg base 1 "Road" ["self", "pieces", "rounds", "shuts"] (sp_Road_init K)) (d_Road : PKd K kNames (clA K "Road") ["Road"] ["pieces", "rounds", "shuts"]) (z_len : mg "len" = none) :
 FnOk P w K mg base CX0 8 f fd ["rows"] (sp_road_from K) := by
 refine F.ok sc_road_from (fun vs H Q E h => spP_len h) (fun cdv A outer s H vs Q E hr h => ?_)
 have hu := hr.units
 have h : spP K kNames .no 1 (runD 6 B_road_from) vs H Q E := by rw [← seal_eq (runD 6 B_road_from)]; exact h
 refine ⟨_, (pss_cons (ps_set (i := 1) sc_road_from.nd rfl (by first | exact Or.inl rfl | exact Or.inr rfl) (pe_go g_read_pieces hr (by first | decide | omega) rfl (pa_cons (pv 0) pa_nil)))
  (pss_cons (ps_set (i := 2) sc_road_from.nd rfl (by first | exact Or.inl rfl | exact Or.inr rfl) (pe_go g_names_in hr (by first | decide | omega) rfl (pa_cons (pv 1) pa_nil)))
  (pss_cons (ps_set (i := 3) sc_road_from.nd rfl (by first | exact Or.inl rfl | exact Or.inr rfl) (pe_lst pa_nil))
  (pss_cons (ps_set (i := 4) sc_road_from.nd rfl (by first | exact Or.inl rfl | exact Or.inr rfl) (pe_lst pa_nil))
  (pss_cons (ps_set (i := 5) sc_road_from.nd rfl (by first | exact Or.inl rfl | exact Or.inr rfl) (pe_callB lenG rfl z_len b_len (pa_cons (pv 1) pa_nil)))
  (pss_cons (ps_while PassesOwn.never (pt_val (pe_go g_begins_with hr (by first | decide | omega) rfl (pa_cons (pe_go g_words_at hr (by first | decide | omega) rfl (pa_cons (pv 0) (pa_cons (pv 5) pa_nil))) (pa_cons (pe_tup (pa_cons pe_str (pa_cons pe_str pa_nil))) pa_nil)))) (pss_cons (ps_if (pt_val (pe_go g_begins_with hr (by first | decide | omega) rfl (pa_cons (pe_go g_words_at hr (by first | decide | omega) rfl (pa_cons (pv 0) (pa_cons (pv 5) pa_nil))) (pa_cons (pe_tup (pa_cons pe_str pa_nil)) pa_nil)))) (pss_one (ps_expr (pe_bm PySem.F.plainAttrs_list PySem.F.slot_list_append PySem.F.type_list_append mt_append (pv 3) (pa_cons (pe_go g_read_round hr (by first | decide | omega) rfl (pa_cons (pv 0) (pa_cons (pv 5) (pa_cons (pv 2) (pa_cons (pv 3) pa_nil))))) pa_nil)))) (pss_one (ps_expr (pe_bm PySem.F.plainAttrs_list PySem.F.slot_list_append PySem.F.type_list_append mt_append (pv 4) (pa_cons (pe_go g_read_shut hr (by first | decide | omega) rfl (pa_cons (pv 0) (pa_cons (pv 5) (pa_cons (pv 2) pa_nil)))) pa_nil)))))
  (pss_one (ps_set (i := 5) sc_road_from.nd rfl (by first | exact Or.inl rfl | exact Or.inr rfl) (pe_op op_addP (pv 5) pe_int)))))
  (pss_one (ps_ret (pe_tup (pa_cons (pe_mkP m_Road hr (by decide) rfl (pa_cons (pv 1) (pa_cons (pv 3) (pa_cons (pv 4) pa_nil)))) (pa_cons (pv 5) pa_nil))))))))))), ?_⟩
 exact run_ok (K := K) (ns := kNames) (fl' := []) (n := 6) (b := B_road_from)
  (s_seq (s_set 1 (PuF.pe (pu_fnF (pa_consD (pu_var 0) pa_nilD))))
  (s_seq (s_set 2 (PuF.pe (pu_fnF (pa_consD (pu_var 1) pa_nilD))))
  (s_seq (s_new 3 (pu_lst pa_nilD) (by decide))
  (s_seq (s_new 4 (pu_lst pa_nilD) (by decide))
  (s_seq (s_set 5 (cS (pu_call ca_len (pa_consD (pu_var 1) pa_nilD))))
  (s_seq (s_while (pt_bD (pu_fn (pa_consD (PuF.pe (pu_fnF (pa_consD (pu_var 0) (pa_consD (pu_var 5) pa_nilD)))) (pa_consD (pu_tup (pa_consD (pu_str _) (pa_consD (pu_str _) pa_nilD))) pa_nilD))))
  (s_seq (s_if (pt_bD (pu_fn (pa_consD (PuF.pe (pu_fnF (pa_consD (pu_var 0) (pa_consD (pu_var 5) pa_nilD)))) (pa_consD (pu_tup (pa_consD (pu_str _) pa_nilD)) pa_nilD)))) (s_appW 3 (pu_fn (pa_consD (pu_var 0) (pa_consD (pu_var 5) (pa_consD (pu_var 2) (pa_consD (pu_var 3) pa_nilD))))) rfl)
  (s_app 4 (pu_fn (pa_consD (pu_var 0) (pa_consD (pu_var 5) (pa_consD (pu_var 2) pa_nilD)))) rfl))
  (s_set 5 (oS (pu_op r2_add (pu_var 5) (pu_int _))))))
  (s_ret (pu_tup (pa_consD (pu_make .Road d_Road (pa_consD (pu_var 1) (pa_consD (pu_var 3) (pa_consD (pu_var 4) pa_nilD)))) (pa_consD (pu_var 5) pa_nilD)))))))))) rfl (by decide) h
theorem ok_road_of {f : Addr} {fd : FuncData} (F : Fun K "road_of" "road_of" s_road_of f fd) (g_rows_of : Got P w K mg base 1 "rows_of" ["text"] (sp_rows_of K)) (g_road_from : Got P w K mg base 8 "road_from" ["rows"] (sp_road_from K)) (z_len : mg "len" = none) :
 FnOk P w K mg base CX0 9 f fd ["text"] (sp_road_of K) := by
 refine F.ok sc_road_of (fun vs H Q E h => spP_len h) (fun cdv A outer s H vs Q E hr h => ?_)
 have hu := hr.units
 have h : spP K kNames .no 1 (runD 3 B_road_of) vs H Q E := by rw [← seal_eq (runD 3 B_road_of)]; exact h
 refine ⟨_, (pss_cons (ps_set (i := 1) sc_road_of.nd rfl (by first | exact Or.inl rfl | exact Or.inr rfl) (pe_go g_rows_of hr (by first | decide | omega) rfl (pa_cons (pv 0) pa_nil)))
  (pss_cons (ps_set (i := 2) sc_road_of.nd rfl (by first | exact Or.inl rfl | exact Or.inr rfl) (pe_go g_road_from hr (by first | decide | omega) rfl (pa_cons (pv 1) pa_nil)))
  (pss_cons (ps_if (pt_cmpR op_lt (pe_ix ix_seq (pv 2) pe_int (fun _ _ => rfl)) (pe_callB lenG rfl z_len b_len (pa_cons (pv 1) pa_nil)) (nomark _)) (pss_one ps_nvr) pss_nil)
  (pss_one (ps_ret (pe_ix ix_seq (pv 2) pe_int (fun _ _ => rfl))))))), ?_⟩
 exact run_ok (K := K) (ns := kNames) (fl' := []) (n := 3) (b := B_road_of)
  (s_seq (s_set 1 (PuF.pe (pu_fnF (pa_consD (pu_var 0) pa_nilD))))
  (s_seq (s_set 2 (pu_fn (pa_consD (pu_var 1) pa_nilD)))
  (s_seq (s_if (pt_tD (oS (pu_op r2_lt (oS (pu_op r2_ix (pu_var 2) (pu_int _))) (cS (pu_call ca_len (pa_consD (pu_var 1) pa_nilD)))))) s_never
  s_next)
  (s_ret (oS (pu_op r2_ix (pu_var 2) (pu_int _))))))) rfl (by decide) h
theorem ok_law_pieces {f : Addr} {fd : FuncData} (F : Fun K "_law_pieces" "_law_pieces" s_law_pieces f fd) (m_Open : GotP P w K mg base 1 "Open" ["self", "length"] (sp_Open_init K)) (d_Open : PKd K kNames (clA K "Open") ["Open"] ["length"]) (m_Bridge : GotP P w K mg base 1 "Bridge" ["self", "name", "length", "bears", "wide", "most"] (sp_Bridge_init K)) (d_Bridge : PKd K kNames (clA K "Bridge") ["Bridge"] ["name", "length", "bears", "wide", "most"]) :
 FnOk P w K mg base CX0 3 f fd ["_law_pieces_here"] (sp_law_pieces K) := by
 refine F.ok sc_law_pieces (fun vs H Q E h => spP_len h) (fun cdv A outer s H vs Q E hr h => ?_)
 have hu := hr.units
 have h : spP K kNames .yes 1 (runF 3 B_law_pieces) vs H Q E := by rw [← seal_eq (runF 3 B_law_pieces)]; exact h
 refine ⟨_, (pss_cons (ps_set (i := 1) sc_law_pieces.nd rfl (by first | exact Or.inl rfl | exact Or.inr rfl) (pe_lst pa_nil))
  (pss_cons (ps_for PassesOwn.never rfl (pi_or (pi_list (pv 0)) (pi_or (pi_tup (pv 0)) (pi_str (pv 0)))) (pg_name (i := 2) sc_law_pieces.nd rfl (by first | exact Or.inl rfl | exact Or.inr rfl)) (pss_one (ps_if (pt_cmpR (op_eqG hu) (pe_ix ix_seq (pv 2) pe_int (fun _ _ => rfl)) pe_str (nomark _)) (pss_one (ps_expr (pe_bm PySem.F.plainAttrs_list PySem.F.slot_list_append PySem.F.type_list_append mt_append (pv 1) (pa_cons (pe_mkP m_Open hr (by decide) rfl (pa_cons (pe_ix ix_seq (pv 2) pe_int (fun _ _ => rfl)) pa_nil)) pa_nil)))) (pss_one (ps_expr (pe_bm PySem.F.plainAttrs_list PySem.F.slot_list_append PySem.F.type_list_append mt_append (pv 1) (pa_cons (pe_mkP m_Bridge hr (by decide) rfl (pa_cons (pe_ix ix_seq (pv 2) pe_int (fun _ _ => rfl)) (pa_cons (pe_ix ix_seq (pv 2) pe_int (fun _ _ => rfl)) (pa_cons (pe_ix ix_seq (pv 2) pe_int (fun _ _ => rfl)) (pa_cons (pe_ix ix_seq (pv 2) pe_int (fun _ _ => rfl)) (pa_cons (pe_ix ix_seq (pv 2) pe_int (fun _ _ => rfl)) pa_nil)))))) pa_nil)))))))
  (pss_one (ps_ret (pv 1))))), ?_⟩
 exact run_okF (K := K) (ns := kNames) (fl' := []) (n := 3) (b := B_law_pieces)
  (s_seq (s_new 1 (pu_lst pa_nilD) (by decide))
  (s_seq (s_for (pi_any (pu_var 0)) (g_name 2 rfl)
  (s_if (pt_tD (oS (pu_op r2_eq (oS (pu_op r2_ix (pu_var 2) (pu_int _))) (pu_str _)))) (s_app 1 (pu_make .Open d_Open (pa_consD (oS (pu_op r2_ix (pu_var 2) (pu_int _))) pa_nilD)) rfl)
  (s_app 1 (pu_make .Bridge d_Bridge (pa_consD (oS (pu_op r2_ix (pu_var 2) (pu_int _))) (pa_consD (oS (pu_op r2_ix (pu_var 2) (pu_int _))) (pa_consD (oS (pu_op r2_ix (pu_var 2) (pu_int _))) (pa_consD (oS (pu_op r2_ix (pu_var 2) (pu_int _))) (pa_consD (oS (pu_op r2_ix (pu_var 2) (pu_int _))) pa_nilD)))))) rfl)))
  (s_retO 1 rfl))) rfl (by decide) h
theorem ok_law_told {f : Addr} {fd : FuncData} (F : Fun K "_law_told" "_law_told" s_law_told f fd) (d_Open : PKd K kNames (clA K "Open") ["Open"] ["length"]) (d_Bridge : PKd K kNames (clA K "Bridge") ["Bridge"] ["name", "length", "bears", "wide", "most"]) (n_Open : mg "Open" = some (.ref (clA K "Open"))) (n_Bridge : mg "Bridge" = some (.ref (clA K "Bridge"))) (z_isinstance : mg "isinstance" = none) :
 FnOk P w K mg base CX0 1 f fd ["_law_piece"] (sp_law_told K) := by
 refine F.ok sc_law_told (fun vs H Q E h => spP_len h) (fun cdv A outer s H vs Q E hr h => ?_)
 have hu := hr.units
 have h : spP K kNames .no 1 (runD 1 B_law_told) vs H Q E := by rw [← seal_eq (runD 1 B_law_told)]; exact h
 refine ⟨_, (pss_cons (ps_if (pt_val (pe_callB call_isC rfl z_isinstance b_isinstance (pa_cons (pv 0) (pa_cons (pe_cl rfl n_Open) pa_nil)))) (pss_one (ps_ret (pe_tup (pa_cons pe_str (pa_cons (pe_fld (f := "length") (pv 0) rfl) pa_nil))))) pss_nil)
  (pss_cons (ps_if (pt_not (pt_val (pe_callB call_isC rfl z_isinstance b_isinstance (pa_cons (pv 0) (pa_cons (pe_cl rfl n_Bridge) pa_nil))))) (pss_one (ps_ret pe_non)) pss_nil)
  (pss_one (ps_ret (pe_tup (pa_cons pe_str (pa_cons (pe_fld (f := "name") (pv 0) rfl) (pa_cons (pe_fld (f := "length") (pv 0) rfl) (pa_cons (pe_fld (f := "bears") (pv 0) rfl) (pa_cons (pe_fld (f := "wide") (pv 0) rfl) (pa_cons (pe_fld (f := "most") (pv 0) rfl) pa_nil))))))))))), ?_⟩
 exact run_ok (K := K) (ns := kNames) (fl' := []) (n := 1) (b := B_law_told)
  (s_seq (s_if (pt_bD (cS (pu_isC .Open (by decide) (pu_var 0)))) (s_ret (pu_tup (pa_consD (pu_str _) (pa_consD (uS (pu_fld .length (pu_var 0))) pa_nilD))))
  s_next)
  (s_seq (s_if (pt_notD (pt_bD (cS (pu_isC .Bridge (by decide) (pu_var 0))))) (s_ret pu_non)
  s_next)
  (s_ret (pu_tup (pa_consD (pu_str _) (pa_consD (uS (pu_fld .name (pu_var 0))) (pa_consD (uS (pu_fld .length (pu_var 0))) (pa_consD (uS (pu_fld .bears (pu_var 0))) (pa_consD (uS (pu_fld .wide (pu_var 0))) (pa_consD (uS (pu_fld .most (pu_var 0))) pa_nilD)))))))))) rfl (by decide) h
theorem ok_law_road_is {f : Addr} {fd : FuncData} (F : Fun K "_law_road_is" "_law_road_is" s_law_road_is f fd) (g_law_same : Got P w K mg base 14 "_law_same" ["_law_found", "_law_due"] (sp_law_same K)) (g_law_told : Got P w K mg base 1 "_law_told" ["_law_piece"] (sp_law_told K)) (d_Road : PKd K kNames (clA K "Road") ["Road"] ["pieces", "rounds", "shuts"]) (n_Road : mg "Road" = some (.ref (clA K "Road"))) (z_isinstance : mg "isinstance" = none) (z_list : mg "list" = none) :
 FnOk P w K mg base CX0 15 f fd ["_law_road", "_law_pieces_here", "_law_rounds", "_law_shuts"] (sp_law_road_is K) := by
 refine F.ok sc_law_road_is (fun vs H Q E h => spP_len h) (fun cdv A outer s H vs Q E hr h => ?_)
 have hu := hr.units
 have h : spP K kNames .no 4 (runD 4 B_law_road_is) vs H Q E := by rw [← seal_eq (runD 4 B_law_road_is)]; exact h
 refine ⟨_, (pss_cons (ps_if (PW.pt (pw_or (pt_not (pt_val (pe_callB call_isC rfl z_isinstance b_isinstance (pa_cons (pv 0) (pa_cons (pe_cl rfl n_Road) pa_nil))))) (pw_or1 (pt_not (pt_val (pe_callB call_isT rfl z_isinstance b_isinstance (pa_cons (pe_fld (f := "pieces") (pv 0) rfl) (pa_cons (pe_bltn (v := .ty "list") rfl z_list b_list rfl) pa_nil)))))))) (pss_one (ps_ret pe_bl)) pss_nil)
  (pss_cons (ps_if (pt_not (pt_val (pe_go g_law_same hr (by first | decide | omega) rfl (pa_cons (pe_compG [] [] (CompC.to cs_law_road_is_0 rfl rfl) rfl (pi_or (pi_list (pe_fld (f := "pieces") (pv 0) rfl)) (pi_or (pi_tup (pe_fld (f := "pieces") (pv 0) rfl)) (pi_str (pe_fld (f := "pieces") (pv 0) rfl)))) (fun _ _ _ _ _ => pif_nil) (fun _ _ _ _ _ => (pe_goI g_law_told (by rfl) (by rfl) (by rfl) (by rfl) (by rfl) (by exact hr) (by first | decide | omega) rfl (pa_cons (pv 0) pa_nil)))) (pa_cons (pv 1) pa_nil))))) (pss_one (ps_ret pe_bl)) pss_nil)
  (pss_one (ps_ret (pe_and (pe_go g_law_same hr (by first | decide | omega) rfl (pa_cons (pe_fld (f := "rounds") (pv 0) rfl) (pa_cons (pv 2) pa_nil))) (pe_one (pe_go g_law_same hr (by first | decide | omega) rfl (pa_cons (pe_fld (f := "shuts") (pv 0) rfl) (pa_cons (pv 3) pa_nil))))))))), ?_⟩
 exact run_ok (K := K) (ns := kNames) (fl' := []) (n := 4) (b := B_law_road_is)
  (s_seq (s_if (pt_orD (pt_notD (pt_bD (cS (pu_isC .Road (by decide) (pu_var 0))))) (pt_notD (pt_bD (cS (pu_isT "list" (by decide) (uS (pu_fld .pieces (pu_var 0)))))))) (s_ret (pu_bl _))
  s_next)
  (s_seq (s_if (pt_notD (pt_bD (pu_fn (pa_consD (PuF.pe (pu_comp (pi_any (uS (pu_fld .pieces (pu_var 0)))) pt_yes (pu_fn (pa_consD (pu_var 0) pa_nilD)))) (pa_consD (pu_var 1) pa_nilD))))) (s_ret (pu_bl _))
  s_next)
  (s_ret (pu_and (pu_fn (pa_consD (uS (pu_fld .rounds (pu_var 0))) (pa_consD (pu_var 2) pa_nilD))) (pu_fn (pa_consD (uS (pu_fld .shuts (pu_var 0))) (pa_consD (pu_var 3) pa_nilD))))))) rfl (by decide) h
theorem ok_road_text {f : Addr} {fd : FuncData} (F : Fun K "road_text" "road_text" s_road_text f fd) (g_road_rows : Got P w K mg base 3 "road_rows" ["road"] (sp_road_rows K)) :
 FnOk P w K mg base CX0 4 f fd ["road"] (sp_road_text K) := by
 refine F.ok sc_road_text (fun vs H Q E h => spP_len h) (fun cdv A outer s H vs Q E hr h => ?_)
 have hu := hr.units
 have h : spP K kNames .no 1 (runD 1 B_road_text) vs H Q E := by rw [← seal_eq (runD 1 B_road_text)]; exact h
 refine ⟨_, (pss_one (ps_ret (pe_bm PySem.F.plainAttrs_str PySem.F.slot_str_join PySem.F.type_str_join mt_join pe_str (pa_cons (pe_go g_road_rows hr (by first | decide | omega) rfl (pa_cons (pv 0) pa_nil)) pa_nil)))), ?_⟩
 exact run_ok (K := K) (ns := kNames) (fl' := []) (n := 1) (b := B_road_text)
  (s_ret (mS (pu_join (pu_str _) (pa_consD (PuF.pe (pu_fnF (pa_consD (pu_var 0) pa_nilD))) pa_nilD)))) rfl (by decide) h
theorem ok_law {f : Addr} {fd : FuncData} (F : Fun K "law" "law" s_law f fd) (g_law_parts : Got P w K mg base 4 "_law_parts" ["_law_script"] (sp_law_parts K)) (g_road_rows : Got P w K mg base 3 "road_rows" ["road"] (sp_road_rows K)) (g_road_of : Got P w K mg base 9 "road_of" ["text"] (sp_road_of K)) (g_road_from : Got P w K mg base 8 "road_from" ["rows"] (sp_road_from K)) (g_law_pieces : Got P w K mg base 3 "_law_pieces" ["_law_pieces_here"] (sp_law_pieces K)) (g_law_same : Got P w K mg base 14 "_law_same" ["_law_found", "_law_due"] (sp_law_same K)) (g_law_road_is : Got P w K mg base 15 "_law_road_is" ["_law_road", "_law_pieces_here", "_law_rounds", "_law_shuts"] (sp_law_road_is K)) (g_road_text : Got P w K mg base 4 "road_text" ["road"] (sp_road_text K)) (m_Road : GotP P w K mg base 1 "Road" ["self", "pieces", "rounds", "shuts"] (sp_Road_init K)) (d_Road : PKd K kNames (clA K "Road") ["Road"] ["pieces", "rounds", "shuts"]) (z_str : mg "str" = none) :
 FnOk P w K mg base CX0 16 f fd ["_law_script"] (sp_law K) := by
 refine F.ok sc_law (fun vs H Q E h => by obtain ⟨a, ns, rfl, _⟩ := h; rfl) (fun cdv A outer s H vs Q E hr h => ?_)
 obtain ⟨a, ns, e, hS, hlen, k⟩ := h
 have h : spP K kNames .no 1 F_law vs H Q E := law_sp e hS (law_true ns hlen) k
 have hu := hr.units
 simp only [F_law, seal_eq] at h
 refine ⟨_, (pss_cons (ps_asg (pe_go g_law_parts hr (by first | decide | omega) rfl (pa_cons (pv 0) pa_nil)) (pg_tup rfl (pgs_cons (pg_name (i := 1) sc_law.nd rfl (by first | exact Or.inl rfl | exact Or.inr rfl)) (pgs_cons (pg_name (i := 2) sc_law.nd rfl (by first | exact Or.inl rfl | exact Or.inr rfl)) (pgs_cons (pg_name (i := 3) sc_law.nd rfl (by first | exact Or.inl rfl | exact Or.inr rfl)) (pgs_cons (pg_name (i := 4) sc_law.nd rfl (by first | exact Or.inl rfl | exact Or.inr rfl)) pgs_nil))))))
  (pss_cons (ps_set (i := 5) sc_law.nd rfl (by first | exact Or.inl rfl | exact Or.inr rfl) (pe_mkP m_Road hr (by decide) rfl (pa_cons (pe_go g_law_pieces hr (by first | decide | omega) rfl (pa_cons (pv 2) pa_nil)) (pa_cons (pv 3) (pa_cons (pv 4) pa_nil)))))
  (pss_cons (ps_compG [] [] (CompC.to cs_law_0 rfl rfl) rfl (pi_or (pi_list (pv 2)) (pi_or (pi_tup (pv 2)) (pi_str (pv 2)))) (fun _ _ _ _ _ => pif_nil) (fun _ _ _ _ _ => (pe_bmK (K := K) rfl PySem.F.plainAttrs_str PySem.F.slot_str_join PySem.F.type_str_join (mt_joinK (K := K) rfl) pe_str (pa_cons (pe_compG [] [] (CompC.to cs_law_1 rfl rfl) rfl (pi_or (pi_listK (K := K) rfl (pv 0)) (pi_or (pi_tupK (K := K) rfl (pv 0)) (pi_str (pv 0)))) (fun _ _ _ _ _ => pif_nil) (fun _ _ _ _ _ => (by exact pe_callTy call_strX rfl z_str b_str (pa_cons (pv 0) pa_nil)))) pa_nil))) 6 sc_law.nd rfl (by first | exact Or.inl rfl | exact Or.inr rfl))
  (pss_cons (ps_set (i := 6) sc_law.nd rfl (by first | exact Or.inl rfl | exact Or.inr rfl) (pe_op op_addP (pv 6) (pe_compT [] [] (CompCT.to cs_law_2 rfl rfl) rfl rfl (fun _ _ _ _ _ => (pg_tupK (K := K) (n := 2) rfl rfl (pgs_cons (pg_comp (CompCT.to cs_law_2 rfl rfl) 0 rfl (by decide)) (pgs_cons (pg_comp (CompCT.to cs_law_2 rfl rfl) 1 rfl (by decide)) pgs_nil)))) (pi_or (pi_list (pv 3)) (pi_or (pi_tup (pv 3)) (pi_str (pv 3)))) (fun _ _ _ _ _ => pif_nil) (fun _ _ _ _ _ => (pe_op (op_addPK (K := K) rfl) (pe_op (op_addPK (K := K) rfl) (pe_op (op_addPK (K := K) rfl) pe_str (pv 0)) pe_str) (by exact pe_callTy call_strX rfl z_str b_str (pa_cons (pv 1) pa_nil)))))))
  (pss_cons (ps_set (i := 6) sc_law.nd rfl (by first | exact Or.inl rfl | exact Or.inr rfl) (pe_op op_addP (pv 6) (pe_compT [] [] (CompCT.to cs_law_3 rfl rfl) rfl rfl (fun _ _ _ _ _ => (pg_tupK (K := K) (n := 3) rfl rfl (pgs_cons (pg_comp (CompCT.to cs_law_3 rfl rfl) 0 rfl (by decide)) (pgs_cons (pg_comp (CompCT.to cs_law_3 rfl rfl) 1 rfl (by decide)) (pgs_cons (pg_comp (CompCT.to cs_law_3 rfl rfl) 2 rfl (by decide)) pgs_nil))))) (pi_or (pi_list (pv 4)) (pi_or (pi_tup (pv 4)) (pi_str (pv 4)))) (fun _ _ _ _ _ => pif_nil) (fun _ _ _ _ _ => (pe_op (op_addPK (K := K) rfl) (pe_op (op_addPK (K := K) rfl) (pe_op (op_addPK (K := K) rfl) (pe_op (op_addPK (K := K) rfl) (pe_op (op_addPK (K := K) rfl) pe_str (pv 0)) pe_str) (by exact pe_callTy call_strX rfl z_str b_str (pa_cons (pv 1) pa_nil))) pe_str) (by exact pe_callTy call_strX rfl z_str b_str (pa_cons (pv 2) pa_nil)))))))
  (pss_cons (ps_set (i := 7) sc_law.nd rfl (by first | exact Or.inl rfl | exact Or.inr rfl) (pe_go g_road_rows hr (by first | decide | omega) rfl (pa_cons (pv 5) pa_nil)))
  (pss_cons (ps_if (pt_not (pt_val (pe_go g_law_same hr (by first | decide | omega) rfl (pa_cons (pv 7) (pa_cons (pv 6) pa_nil))))) (pss_one (ps_ret pe_bl)) pss_nil)
  (pss_cons (ps_expr (pe_bm PySem.F.plainAttrs_list PySem.F.slot_list_append PySem.F.type_list_append mt_append (pv 7) (pa_cons pe_str pa_nil)))
  (pss_cons (ps_if (PW.pt (pw_or (pt_not (pt_val (pe_go g_law_same hr (by first | decide | omega) rfl (pa_cons (pe_go g_road_text hr (by first | decide | omega) rfl (pa_cons (pv 5) pa_nil)) (pa_cons (pe_bm PySem.F.plainAttrs_str PySem.F.slot_str_join PySem.F.type_str_join mt_join pe_str (pa_cons (pv 6) pa_nil)) pa_nil))))) (pw_or1 (pt_not (pt_val (pe_go g_law_same hr (by first | decide | omega) rfl (pa_cons (pe_go g_road_rows hr (by first | decide | omega) rfl (pa_cons (pv 5) pa_nil)) (pa_cons (pv 6) pa_nil)))))))) (pss_one (ps_ret pe_bl)) pss_nil)
  (pss_cons (ps_set (i := 8) sc_law.nd rfl (by first | exact Or.inl rfl | exact Or.inr rfl) (pe_go g_road_of hr (by first | decide | omega) rfl (pa_cons (pe_bm PySem.F.plainAttrs_str PySem.F.slot_str_join PySem.F.type_str_join mt_join pe_str (pa_cons (pv 6) pa_nil)) pa_nil)))
  (pss_cons (ps_if (PW.pt (pw_or (pt_not (pt_val (pe_go g_law_road_is hr (by first | decide | omega) rfl (pa_cons (pv 8) (pa_cons (pv 2) (pa_cons (pv 3) (pa_cons (pv 4) pa_nil))))))) (pw_or1 (pt_cmpR (op_neG hu) (pe_go g_road_text hr (by first | decide | omega) rfl (pa_cons (pv 8) pa_nil)) (pe_bm PySem.F.plainAttrs_str PySem.F.slot_str_join PySem.F.type_str_join mt_join pe_str (pa_cons (pv 6) pa_nil)) (nomark _))))) (pss_one (ps_ret pe_bl)) pss_nil)
  (pss_cons (ps_set (i := 9) sc_law.nd rfl (by first | exact Or.inl rfl | exact Or.inr rfl) (pe_go g_road_from hr (by first | decide | omega) rfl (pa_cons (pv 6) pa_nil)))
  (pss_one (ps_ret (pe_and (pe_go g_law_road_is hr (by first | decide | omega) rfl (pa_cons (pe_ix ix_seq (pv 9) pe_int (fun _ _ => rfl)) (pa_cons (pv 2) (pa_cons (pv 3) (pa_cons (pv 4) pa_nil))))) (pe_one (pe_go g_law_road_is hr (by first | decide | omega) rfl (pa_cons (pv 5) (pa_cons (pv 2) (pa_cons (pv 3) (pa_cons (pv 4) pa_nil))))))))))))))))))))), ?_⟩
 exact run_ok (K := K) (ns := kNames) (fl' := []) (n := 10) (b := B_law)
  (s_seq (s_asg (pu_fn (pa_consD (pu_var 0) pa_nilD)) (g_tup (gs_cons (i := 1) rfl (gs_cons (i := 2) rfl (gs_cons (i := 3) rfl (gs_cons (i := 4) rfl gs_nil))))))
  (s_seq (s_set 5 (pu_make .Road d_Road (pa_consD (PuF.pe (pu_fnF (pa_consD (pu_var 2) pa_nilD))) (pa_consD (pu_var 3) (pa_consD (pu_var 4) pa_nilD)))))
  (s_seq (s_set 6 (PuF.pe (pu_comp (pi_any (pu_var 2)) pt_yes (mS (pu_join (pu_str _) (pa_consD (PuF.pe (pu_comp (pi_any (pu_var 0)) pt_yes (cS (pu_call ca_str (pa_consD (pu_var 0) pa_nilD))))) pa_nilD))))))
  (s_seq (s_set 6 (oS (pu_op r2_add (pu_var 6) (PuF.pe (pu_compT (pi_any (pu_var 3)) pt_yes (oS (pu_op r2_add (oS (pu_op r2_add (oS (pu_op r2_add (pu_str _) (pu_var 0))) (pu_str _))) (cS (pu_call ca_str (pa_consD (pu_var 1) pa_nilD))))))))))
  (s_seq (s_set 6 (oS (pu_op r2_add (pu_var 6) (PuF.pe (pu_compT (pi_any (pu_var 4)) pt_yes (oS (pu_op r2_add (oS (pu_op r2_add (oS (pu_op r2_add (oS (pu_op r2_add (oS (pu_op r2_add (pu_str _) (pu_var 0))) (pu_str _))) (cS (pu_call ca_str (pa_consD (pu_var 1) pa_nilD))))) (pu_str _))) (cS (pu_call ca_str (pa_consD (pu_var 2) pa_nilD))))))))))
  (s_seq (s_new 7 (pu_fnF (pa_consD (pu_var 5) pa_nilD)) (by decide))
  (s_seq (s_if (pt_notD (pt_bD (pu_fn (pa_consD (pu_var 7) (pa_consD (pu_var 6) pa_nilD))))) (s_ret (pu_bl _))
  s_next)
  (s_seq (s_app 7 (pu_str _) rfl)
  (s_seq (s_if (pt_orD (pt_notD (pt_bD (pu_fn (pa_consD (pu_fn (pa_consD (pu_var 5) pa_nilD)) (pa_consD (mS (pu_join (pu_str _) (pa_consD (pu_var 6) pa_nilD))) pa_nilD))))) (pt_notD (pt_bD (pu_fn (pa_consD (PuF.pe (pu_fnF (pa_consD (pu_var 5) pa_nilD))) (pa_consD (pu_var 6) pa_nilD)))))) (s_ret (pu_bl _))
  s_next)
  (s_seq (s_set 8 (pu_fn (pa_consD (mS (pu_join (pu_str _) (pa_consD (pu_var 6) pa_nilD))) pa_nilD)))
  (s_seq (s_if (pt_orD (pt_notD (pt_bD (pu_fn (pa_consD (pu_var 8) (pa_consD (pu_var 2) (pa_consD (pu_var 3) (pa_consD (pu_var 4) pa_nilD))))))) (pt_tD (oS (pu_op r2_ne (pu_fn (pa_consD (pu_var 8) pa_nilD)) (mS (pu_join (pu_str _) (pa_consD (pu_var 6) pa_nilD))))))) (s_ret (pu_bl _))
  s_next)
  (s_seq (s_set 9 (pu_fn (pa_consD (pu_var 6) pa_nilD)))
  (s_ret (pu_and (pu_fn (pa_consD (oS (pu_op r2_ix (pu_var 9) (pu_int _))) (pa_consD (pu_var 2) (pa_consD (pu_var 3) (pa_consD (pu_var 4) pa_nilD))))) (pu_fn (pa_consD (pu_var 5) (pa_consD (pu_var 2) (pa_consD (pu_var 3) (pa_consD (pu_var 4) pa_nilD))))))))))))))))))) rfl (by decide) h
end
theorem all_mk {l : PySem.W.OpenLaw} {w : World} {K : PySem.W.Frag} {h : Heap} {mg : Str → Option Value} {fa f0 f1 f2 f3 f4 f5 f6 f7 f8 f9 f10 f11 f12 f13 f14 f15 f16 f17 f18 f19 f20 f21 f22 f23 f24 f25 f26 f27 f28 f29 f30 f31 f32 f33 f34 f35 f36 : Addr} (X : K.In h) (G : h.Ns mainGlobals mg) (hfa : mg "law" = some (.ref fa))
 {od0 an0 od1 an1 od2 an2 od3 an3 od4 an4 od5 an5 od6 an6 od7 an7 od8 an8 od9 an9 od10 an10 od11 an11 od12 an12 od13 an13 od14 an14 od15 an15 od16 an16 od17 an17 od18 an18 od19 an19 od20 an20 od21 an21 od22 an22 od23 an23 od24 an24 od25 an25 od26 an26 od27 an27 od28 an28 od29 an29 od30 an30 od31 an31 od32 an32 od33 an33 od34 an34 od35 an35 od36 an36 : Option Addr} {sl0 sl1 sl2 sl3 sl4 sl5 sl6 sl7 sl8 sl9 sl10 sl11 sl12 sl13 sl14 sl15 sl16 sl17 sl18 sl19 sl20 sl21 sl22 sl23 sl24 sl25 sl26 sl27 sl28 sl29 sl30 sl31 sl32 sl33 sl34 sl35 sl36 : Array (Option Value)} {oc0 kV0 dc0 pm0 cd0 ct0 oc1 kV1 dc1 pm1 cd1 ct1 oc2 kV2 dc2 pm2 cd2 ct2 oc3 kV3 dc3 pm3 cd3 ct3 oc4 kV4 dc4 pm4 cd4 ct4 oc5 kV5 dc5 pm5 cd5 ct5 oc6 kV6 dc6 pm6 cd6 ct6 oc7 kV7 dc7 pm7 cd7 ct7 oc8 kV8 dc8 pm8 cd8 ct8 oc9 kV9 dc9 pm9 cd9 ct9 oc10 kV10 dc10 pm10 cd10 ct10 oc11 kV11 dc11 pm11 cd11 ct11 oc12 kV12 dc12 pm12 cd12 ct12 oc13 kV13 dc13 pm13 cd13 ct13 oc14 kV14 dc14 pm14 cd14 ct14 oc15 kV15 dc15 pm15 cd15 ct15 oc16 kV16 dc16 pm16 cd16 ct16 oc17 kV17 dc17 pm17 cd17 ct17 oc18 kV18 dc18 pm18 cd18 ct18 oc19 kV19 dc19 pm19 cd19 ct19 oc20 kV20 dc20 pm20 cd20 ct20 oc21 kV21 dc21 pm21 cd21 ct21 oc22 kV22 dc22 pm22 cd22 ct22 oc23 kV23 dc23 pm23 cd23 ct23 oc24 kV24 dc24 pm24 cd24 ct24 oc25 kV25 dc25 pm25 cd25 ct25 oc26 kV26 dc26 pm26 cd26 ct26 oc27 kV27 dc27 pm27 cd27 ct27 oc28 kV28 dc28 pm28 cd28 ct28 oc29 kV29 dc29 pm29 cd29 ct29 oc30 kV30 dc30 pm30 cd30 ct30 oc31 kV31 dc31 pm31 cd31 ct31 oc32 kV32 dc32 pm32 cd32 ct32 oc33 kV33 dc33 pm33 cd33 ct33 oc34 kV34 dc34 pm34 cd34 ct34 oc35 kV35 dc35 pm35 cd35 ct35 oc36 kV36 dc36 pm36 cd36 ct36 : Value}
 {C0 C1 C2 : Addr} {xd0 xd1 xd2 : Option Addr} {xc0 xc1 xc2 : ClassData} {xs0 xs1 xs2 : Array (Option Value)}
 (x0 : PySem.W.nsIn K mainGlobals "Open" = some (some (.ref C0))) (xl0 : K.lookup C0 = some ⟨.type "type", xd0, .cls xc0, xs0⟩)
 (xi0 : PySem.W.findIn K (.ref C0) "__init__" = some (some (.ref f17)))
 (x1 : PySem.W.nsIn K mainGlobals "Bridge" = some (some (.ref C1))) (xl1 : K.lookup C1 = some ⟨.type "type", xd1, .cls xc1, xs1⟩)
 (xi1 : PySem.W.findIn K (.ref C1) "__init__" = some (some (.ref f21)))
 (x2 : PySem.W.nsIn K mainGlobals "Road" = some (some (.ref C2))) (xl2 : K.lookup C2 = some ⟨.type "type", xd2, .cls xc2, xs2⟩)
 (xi2 : PySem.W.findIn K (.ref C2) "__init__" = some (some (.ref f27)))
 (xo0 : xc0.mro = [.ref C0, .type "object"]) (xk0 : ([C0, C1, C2].map fun D => xc0.mro.contains (.ref D)) = kNames.map (List.contains (α := Str) ["Open"]))
 (xa0 : PySem.W.plainGet K C0 Str.empty = true) (xb0 : PySem.W.hasDictIn K C0 = true) (xg0 : PySem.W.plainOver K C0 = true) (xe0 : PySem.W.findIn K (.ref C0) "__setattr__" = some (some (.builtin "object.__setattr__"))) (xf0 : PySem.W.findIn K (.ref C0) "__class__" = some (some (.builtin "object.__class__")))
 (xm0 : PySem.W.makesIn K C0 = true) (xn0 : PySem.W.isFn K (.ref f17) = true) (xp0 : PySem.W.keepIn K (.ref C0) = true)
 (xna0_0 : PySem.W.findIn K (.ref C0) "length" = some none)
 (xo1 : xc1.mro = [.ref C1, .type "object"]) (xk1 : ([C0, C1, C2].map fun D => xc1.mro.contains (.ref D)) = kNames.map (List.contains (α := Str) ["Bridge"]))
 (xa1 : PySem.W.plainGet K C1 Str.empty = true) (xb1 : PySem.W.hasDictIn K C1 = true) (xg1 : PySem.W.plainOver K C1 = true) (xe1 : PySem.W.findIn K (.ref C1) "__setattr__" = some (some (.builtin "object.__setattr__"))) (xf1 : PySem.W.findIn K (.ref C1) "__class__" = some (some (.builtin "object.__class__")))
 (xm1 : PySem.W.makesIn K C1 = true) (xn1 : PySem.W.isFn K (.ref f21) = true) (xp1 : PySem.W.keepIn K (.ref C1) = true)
 (xna1_0 : PySem.W.findIn K (.ref C1) "name" = some none)
 (xna1_1 : PySem.W.findIn K (.ref C1) "length" = some none)
 (xna1_2 : PySem.W.findIn K (.ref C1) "bears" = some none)
 (xna1_3 : PySem.W.findIn K (.ref C1) "wide" = some none)
 (xna1_4 : PySem.W.findIn K (.ref C1) "most" = some none)
 (xo2 : xc2.mro = [.ref C2, .type "object"]) (xk2 : ([C0, C1, C2].map fun D => xc2.mro.contains (.ref D)) = kNames.map (List.contains (α := Str) ["Road"]))
 (xa2 : PySem.W.plainGet K C2 Str.empty = true) (xb2 : PySem.W.hasDictIn K C2 = true) (xg2 : PySem.W.plainOver K C2 = true) (xe2 : PySem.W.findIn K (.ref C2) "__setattr__" = some (some (.builtin "object.__setattr__"))) (xf2 : PySem.W.findIn K (.ref C2) "__class__" = some (some (.builtin "object.__class__")))
 (xm2 : PySem.W.makesIn K C2 = true) (xn2 : PySem.W.isFn K (.ref f27) = true) (xp2 : PySem.W.keepIn K (.ref C2) = true)
 (xna2_0 : PySem.W.findIn K (.ref C2) "pieces" = some none)
 (xna2_1 : PySem.W.findIn K (.ref C2) "rounds" = some none)
 (xna2_2 : PySem.W.findIn K (.ref C2) "shuts" = some none)
 (xcg : PySem.W.specialIn K (.builtin "object.__class__") "__get__" = some (some (.builtin "getset_descriptor.__get__"))) (xct : PySem.W.takesIn K (.builtin "object.__class__") = some true)
 (a0 : PySem.W.nsIn K mainGlobals "_law_cell" = some (some (.ref f0))) (l0 : K.lookup f0 = some ⟨oc0, od0, .func (PySem.W.fnOf "_law_cell" "_law_cell" (defArgs s_law_cell) (defBody s_law_cell) (defScope s_law_cell) .none kV0 dc0 pm0 an0 cd0 ct0), sl0⟩) (c0 : PySem.W.codeIn K cd0 "_law_cell" = true) (k0 : PySem.W.keepIn K (.ref f0) = true)
 (a1 : PySem.W.nsIn K mainGlobals "_law_mix" = some (some (.ref f1))) (l1 : K.lookup f1 = some ⟨oc1, od1, .func (PySem.W.fnOf "_law_mix" "_law_mix" (defArgs s_law_mix) (defBody s_law_mix) (defScope s_law_mix) .none kV1 dc1 pm1 an1 cd1 ct1), sl1⟩) (c1 : PySem.W.codeIn K cd1 "_law_mix" = true) (k1 : PySem.W.keepIn K (.ref f1) = true)
 (a2 : PySem.W.nsIn K mainGlobals "_law_names" = some (some (.ref f2))) (l2 : K.lookup f2 = some ⟨oc2, od2, .func (PySem.W.fnOf "_law_names" "_law_names" (defArgs s_law_names) (defBody s_law_names) (defScope s_law_names) .none kV2 dc2 pm2 an2 cd2 ct2), sl2⟩) (c2 : PySem.W.codeIn K cd2 "_law_names" = true) (k2 : PySem.W.keepIn K (.ref f2) = true)
 (a3 : PySem.W.nsIn K mainGlobals "_law_long" = some (some (.ref f3))) (l3 : K.lookup f3 = some ⟨oc3, od3, .func (PySem.W.fnOf "_law_long" "_law_long" (defArgs s_law_long) (defBody s_law_long) (defScope s_law_long) .none kV3 dc3 pm3 an3 cd3 ct3), sl3⟩) (c3 : PySem.W.codeIn K cd3 "_law_long" = true) (k3 : PySem.W.keepIn K (.ref f3) = true)
 (a4 : PySem.W.nsIn K mainGlobals "_law_bridge" = some (some (.ref f4))) (l4 : K.lookup f4 = some ⟨oc4, od4, .func (PySem.W.fnOf "_law_bridge" "_law_bridge" (defArgs s_law_bridge) (defBody s_law_bridge) (defScope s_law_bridge) .none kV4 dc4 pm4 an4 cd4 ct4), sl4⟩) (c4 : PySem.W.codeIn K cd4 "_law_bridge" = true) (k4 : PySem.W.keepIn K (.ref f4) = true)
 (a5 : PySem.W.nsIn K mainGlobals "_law_parts" = some (some (.ref f5))) (l5 : K.lookup f5 = some ⟨oc5, od5, .func (PySem.W.fnOf "_law_parts" "_law_parts" (defArgs s_law_parts) (defBody s_law_parts) (defScope s_law_parts) .none kV5 dc5 pm5 an5 cd5 ct5), sl5⟩) (c5 : PySem.W.codeIn K cd5 "_law_parts" = true) (k5 : PySem.W.keepIn K (.ref f5) = true)
 (a6 : PySem.W.nsIn K mainGlobals "row_of" = some (some (.ref f6))) (l6 : K.lookup f6 = some ⟨oc6, od6, .func (PySem.W.fnOf "row_of" "row_of" (defArgs s_row_of) (defBody s_row_of) (defScope s_row_of) .none kV6 dc6 pm6 an6 cd6 ct6), sl6⟩) (c6 : PySem.W.codeIn K cd6 "row_of" = true) (k6 : PySem.W.keepIn K (.ref f6) = true)
 (a7 : PySem.W.nsIn K mainGlobals "piece_row" = some (some (.ref f7))) (l7 : K.lookup f7 = some ⟨oc7, od7, .func (PySem.W.fnOf "piece_row" "piece_row" (defArgs s_piece_row) (defBody s_piece_row) (defScope s_piece_row) .none kV7 dc7 pm7 an7 cd7 ct7), sl7⟩) (c7 : PySem.W.codeIn K cd7 "piece_row" = true) (k7 : PySem.W.keepIn K (.ref f7) = true)
 (a8 : PySem.W.nsIn K mainGlobals "road_rows" = some (some (.ref f8))) (l8 : K.lookup f8 = some ⟨oc8, od8, .func (PySem.W.fnOf "road_rows" "road_rows" (defArgs s_road_rows) (defBody s_road_rows) (defScope s_road_rows) .none kV8 dc8 pm8 an8 cd8 ct8), sl8⟩) (c8 : PySem.W.codeIn K cd8 "road_rows" = true) (k8 : PySem.W.keepIn K (.ref f8) = true)
 (a9 : PySem.W.nsIn K mainGlobals "rows_of" = some (some (.ref f9))) (l9 : K.lookup f9 = some ⟨oc9, od9, .func (PySem.W.fnOf "rows_of" "rows_of" (defArgs s_rows_of) (defBody s_rows_of) (defScope s_rows_of) .none kV9 dc9 pm9 an9 cd9 ct9), sl9⟩) (c9 : PySem.W.codeIn K cd9 "rows_of" = true) (k9 : PySem.W.keepIn K (.ref f9) = true)
 (a10 : PySem.W.nsIn K mainGlobals "is_row_of" = some (some (.ref f10))) (l10 : K.lookup f10 = some ⟨oc10, od10, .func (PySem.W.fnOf "is_row_of" "is_row_of" (defArgs s_is_row_of) (defBody s_is_row_of) (defScope s_is_row_of) .none kV10 dc10 pm10 an10 cd10 ct10), sl10⟩) (c10 : PySem.W.codeIn K cd10 "is_row_of" = true) (k10 : PySem.W.keepIn K (.ref f10) = true)
 {dt11 : Addr} {dcl11 : Value} {dod11 : Option Addr} {dn11 : Nat} {dsl11 : Array (Option Value)}
 (a11 : PySem.W.nsIn K mainGlobals "number_of" = some (some (.ref f11))) (l11 : K.lookup f11 = some ⟨oc11, od11, .func (PySem.W.fnOf "number_of" "number_of" (defArgs s_number_of) (defBody s_number_of) (defScope s_number_of) (.ref dt11) kV11 dc11 pm11 an11 cd11 ct11), sl11⟩) (c11 : PySem.W.codeIn K cd11 "number_of" = true) (k11 : PySem.W.keepIn K (.ref f11) = true)
 (dl11 : K.lookup dt11 = some ⟨dcl11, dod11, .seq #[.none] dn11, dsl11⟩)
 (a12 : PySem.W.nsIn K mainGlobals "number_within" = some (some (.ref f12))) (l12 : K.lookup f12 = some ⟨oc12, od12, .func (PySem.W.fnOf "number_within" "number_within" (defArgs s_number_within) (defBody s_number_within) (defScope s_number_within) .none kV12 dc12 pm12 an12 cd12 ct12), sl12⟩) (c12 : PySem.W.codeIn K cd12 "number_within" = true) (k12 : PySem.W.keepIn K (.ref f12) = true)
 (a13 : PySem.W.nsIn K mainGlobals "numbers_of" = some (some (.ref f13))) (l13 : K.lookup f13 = some ⟨oc13, od13, .func (PySem.W.fnOf "numbers_of" "numbers_of" (defArgs s_numbers_of) (defBody s_numbers_of) (defScope s_numbers_of) .none kV13 dc13 pm13 an13 cd13 ct13), sl13⟩) (c13 : PySem.W.codeIn K cd13 "numbers_of" = true) (k13 : PySem.W.keepIn K (.ref f13) = true)
 (a14 : PySem.W.nsIn K mainGlobals "begins_with" = some (some (.ref f14))) (l14 : K.lookup f14 = some ⟨oc14, od14, .func (PySem.W.fnOf "begins_with" "begins_with" (defArgs s_begins_with) (defBody s_begins_with) (defScope s_begins_with) .none kV14 dc14 pm14 an14 cd14 ct14), sl14⟩) (c14 : PySem.W.codeIn K cd14 "begins_with" = true) (k14 : PySem.W.keepIn K (.ref f14) = true)
 (a15 : PySem.W.nsIn K mainGlobals "plain_row" = some (some (.ref f15))) (l15 : K.lookup f15 = some ⟨oc15, od15, .func (PySem.W.fnOf "plain_row" "plain_row" (defArgs s_plain_row) (defBody s_plain_row) (defScope s_plain_row) .none kV15 dc15 pm15 an15 cd15 ct15), sl15⟩) (c15 : PySem.W.codeIn K cd15 "plain_row" = true) (k15 : PySem.W.keepIn K (.ref f15) = true)
 (a16 : PySem.W.nsIn K mainGlobals "words_at" = some (some (.ref f16))) (l16 : K.lookup f16 = some ⟨oc16, od16, .func (PySem.W.fnOf "words_at" "words_at" (defArgs s_words_at) (defBody s_words_at) (defScope s_words_at) .none kV16 dc16 pm16 an16 cd16 ct16), sl16⟩) (c16 : PySem.W.codeIn K cd16 "words_at" = true) (k16 : PySem.W.keepIn K (.ref f16) = true)
 (l17 : K.lookup f17 = some ⟨oc17, od17, .func (PySem.W.fnOf "__init__" "Open.__init__" (defArgs s_Open_init) (defBody s_Open_init) (defScope s_Open_init) .none kV17 dc17 pm17 an17 cd17 ct17), sl17⟩) (c17 : PySem.W.codeIn K cd17 "Open.__init__" = true) (k17 : PySem.W.keepIn K (.ref f17) = true)
 (a18 : PySem.W.nsIn K mainGlobals "read_open" = some (some (.ref f18))) (l18 : K.lookup f18 = some ⟨oc18, od18, .func (PySem.W.fnOf "read_open" "read_open" (defArgs s_read_open) (defBody s_read_open) (defScope s_read_open) .none kV18 dc18 pm18 an18 cd18 ct18), sl18⟩) (c18 : PySem.W.codeIn K cd18 "read_open" = true) (k18 : PySem.W.keepIn K (.ref f18) = true)
 (a19 : PySem.W.nsIn K mainGlobals "is_word" = some (some (.ref f19))) (l19 : K.lookup f19 = some ⟨oc19, od19, .func (PySem.W.fnOf "is_word" "is_word" (defArgs s_is_word) (defBody s_is_word) (defScope s_is_word) .none kV19 dc19 pm19 an19 cd19 ct19), sl19⟩) (c19 : PySem.W.codeIn K cd19 "is_word" = true) (k19 : PySem.W.keepIn K (.ref f19) = true)
 (a20 : PySem.W.nsIn K mainGlobals "named_row" = some (some (.ref f20))) (l20 : K.lookup f20 = some ⟨oc20, od20, .func (PySem.W.fnOf "named_row" "named_row" (defArgs s_named_row) (defBody s_named_row) (defScope s_named_row) .none kV20 dc20 pm20 an20 cd20 ct20), sl20⟩) (c20 : PySem.W.codeIn K cd20 "named_row" = true) (k20 : PySem.W.keepIn K (.ref f20) = true)
 (l21 : K.lookup f21 = some ⟨oc21, od21, .func (PySem.W.fnOf "__init__" "Bridge.__init__" (defArgs s_Bridge_init) (defBody s_Bridge_init) (defScope s_Bridge_init) .none kV21 dc21 pm21 an21 cd21 ct21), sl21⟩) (c21 : PySem.W.codeIn K cd21 "Bridge.__init__" = true) (k21 : PySem.W.keepIn K (.ref f21) = true)
 (a22 : PySem.W.nsIn K mainGlobals "read_bridge" = some (some (.ref f22))) (l22 : K.lookup f22 = some ⟨oc22, od22, .func (PySem.W.fnOf "read_bridge" "read_bridge" (defArgs s_read_bridge) (defBody s_read_bridge) (defScope s_read_bridge) .none kV22 dc22 pm22 an22 cd22 ct22), sl22⟩) (c22 : PySem.W.codeIn K cd22 "read_bridge" = true) (k22 : PySem.W.keepIn K (.ref f22) = true)
 (a23 : PySem.W.nsIn K mainGlobals "names_in" = some (some (.ref f23))) (l23 : K.lookup f23 = some ⟨oc23, od23, .func (PySem.W.fnOf "names_in" "names_in" (defArgs s_names_in) (defBody s_names_in) (defScope s_names_in) .none kV23 dc23 pm23 an23 cd23 ct23), sl23⟩) (c23 : PySem.W.codeIn K cd23 "names_in" = true) (k23 : PySem.W.keepIn K (.ref f23) = true)
 (a24 : PySem.W.nsIn K mainGlobals "read_pieces" = some (some (.ref f24))) (l24 : K.lookup f24 = some ⟨oc24, od24, .func (PySem.W.fnOf "read_pieces" "read_pieces" (defArgs s_read_pieces) (defBody s_read_pieces) (defScope s_read_pieces) .none kV24 dc24 pm24 an24 cd24 ct24), sl24⟩) (c24 : PySem.W.codeIn K cd24 "read_pieces" = true) (k24 : PySem.W.keepIn K (.ref f24) = true)
 (a25 : PySem.W.nsIn K mainGlobals "read_round" = some (some (.ref f25))) (l25 : K.lookup f25 = some ⟨oc25, od25, .func (PySem.W.fnOf "read_round" "read_round" (defArgs s_read_round) (defBody s_read_round) (defScope s_read_round) .none kV25 dc25 pm25 an25 cd25 ct25), sl25⟩) (c25 : PySem.W.codeIn K cd25 "read_round" = true) (k25 : PySem.W.keepIn K (.ref f25) = true)
 (a26 : PySem.W.nsIn K mainGlobals "read_shut" = some (some (.ref f26))) (l26 : K.lookup f26 = some ⟨oc26, od26, .func (PySem.W.fnOf "read_shut" "read_shut" (defArgs s_read_shut) (defBody s_read_shut) (defScope s_read_shut) .none kV26 dc26 pm26 an26 cd26 ct26), sl26⟩) (c26 : PySem.W.codeIn K cd26 "read_shut" = true) (k26 : PySem.W.keepIn K (.ref f26) = true)
 (l27 : K.lookup f27 = some ⟨oc27, od27, .func (PySem.W.fnOf "__init__" "Road.__init__" (defArgs s_Road_init) (defBody s_Road_init) (defScope s_Road_init) .none kV27 dc27 pm27 an27 cd27 ct27), sl27⟩) (c27 : PySem.W.codeIn K cd27 "Road.__init__" = true) (k27 : PySem.W.keepIn K (.ref f27) = true)
 (a28 : PySem.W.nsIn K mainGlobals "road_from" = some (some (.ref f28))) (l28 : K.lookup f28 = some ⟨oc28, od28, .func (PySem.W.fnOf "road_from" "road_from" (defArgs s_road_from) (defBody s_road_from) (defScope s_road_from) .none kV28 dc28 pm28 an28 cd28 ct28), sl28⟩) (c28 : PySem.W.codeIn K cd28 "road_from" = true) (k28 : PySem.W.keepIn K (.ref f28) = true)
 (a29 : PySem.W.nsIn K mainGlobals "road_of" = some (some (.ref f29))) (l29 : K.lookup f29 = some ⟨oc29, od29, .func (PySem.W.fnOf "road_of" "road_of" (defArgs s_road_of) (defBody s_road_of) (defScope s_road_of) .none kV29 dc29 pm29 an29 cd29 ct29), sl29⟩) (c29 : PySem.W.codeIn K cd29 "road_of" = true) (k29 : PySem.W.keepIn K (.ref f29) = true)
 (a30 : PySem.W.nsIn K mainGlobals "_law_pieces" = some (some (.ref f30))) (l30 : K.lookup f30 = some ⟨oc30, od30, .func (PySem.W.fnOf "_law_pieces" "_law_pieces" (defArgs s_law_pieces) (defBody s_law_pieces) (defScope s_law_pieces) .none kV30 dc30 pm30 an30 cd30 ct30), sl30⟩) (c30 : PySem.W.codeIn K cd30 "_law_pieces" = true) (k30 : PySem.W.keepIn K (.ref f30) = true)
 (a31 : PySem.W.nsIn K mainGlobals "_law_alike" = some (some (.ref f31))) (l31 : K.lookup f31 = some ⟨oc31, od31, .func (PySem.W.fnOf "_law_alike" "_law_alike" (defArgs s_law_alike) (defBody s_law_alike) (defScope s_law_alike) .none kV31 dc31 pm31 an31 cd31 ct31), sl31⟩) (c31 : PySem.W.codeIn K cd31 "_law_alike" = true) (k31 : PySem.W.keepIn K (.ref f31) = true)
 (a32 : PySem.W.nsIn K mainGlobals "_law_same" = some (some (.ref f32))) (l32 : K.lookup f32 = some ⟨oc32, od32, .func (PySem.W.fnOf "_law_same" "_law_same" (defArgs s_law_same) (defBody s_law_same) (defScope s_law_same) .none kV32 dc32 pm32 an32 cd32 ct32), sl32⟩) (c32 : PySem.W.codeIn K cd32 "_law_same" = true) (k32 : PySem.W.keepIn K (.ref f32) = true)
 (a33 : PySem.W.nsIn K mainGlobals "_law_told" = some (some (.ref f33))) (l33 : K.lookup f33 = some ⟨oc33, od33, .func (PySem.W.fnOf "_law_told" "_law_told" (defArgs s_law_told) (defBody s_law_told) (defScope s_law_told) .none kV33 dc33 pm33 an33 cd33 ct33), sl33⟩) (c33 : PySem.W.codeIn K cd33 "_law_told" = true) (k33 : PySem.W.keepIn K (.ref f33) = true)
 (a34 : PySem.W.nsIn K mainGlobals "_law_road_is" = some (some (.ref f34))) (l34 : K.lookup f34 = some ⟨oc34, od34, .func (PySem.W.fnOf "_law_road_is" "_law_road_is" (defArgs s_law_road_is) (defBody s_law_road_is) (defScope s_law_road_is) .none kV34 dc34 pm34 an34 cd34 ct34), sl34⟩) (c34 : PySem.W.codeIn K cd34 "_law_road_is" = true) (k34 : PySem.W.keepIn K (.ref f34) = true)
 (a35 : PySem.W.nsIn K mainGlobals "road_text" = some (some (.ref f35))) (l35 : K.lookup f35 = some ⟨oc35, od35, .func (PySem.W.fnOf "road_text" "road_text" (defArgs s_road_text) (defBody s_road_text) (defScope s_road_text) .none kV35 dc35 pm35 an35 cd35 ct35), sl35⟩) (c35 : PySem.W.codeIn K cd35 "road_text" = true) (k35 : PySem.W.keepIn K (.ref f35) = true)
 (a36 : PySem.W.nsIn K mainGlobals "law" = some (some (.ref f36))) (l36 : K.lookup f36 = some ⟨oc36, od36, .func (PySem.W.fnOf "law" "law" (defArgs s_law) (defBody s_law) (defScope s_law) .none kV36 dc36 pm36 an36 cd36 ct36), sl36⟩) (c36 : PySem.W.codeIn K cd36 "law" = true) (k36 : PySem.W.keepIn K (.ref f36) = true)
 {tk0 : Tok} (q0 : PySem.W.nsIn K mainGlobals "FIGURES" = some (some (.str (Str.ofString "0123456789") tk0)))
 {tk1 : Tok} (q1 : PySem.W.nsIn K mainGlobals "MOST_FIGURES" = some (some (.int 60 tk1)))
 {tk2 : Tok} (q2 : PySem.W.nsIn K mainGlobals "LEAST_OPEN" = some (some (.int 200 tk2)))
 {qa3 : Addr} {qd3 : Option Addr} {qn3 : Nat} {qs3 : Array (Option Value)} {tk3_0 tk3_1 : Tok} (q3 : PySem.W.nsIn K mainGlobals "LENGTH" = some (some (.ref qa3))) (qt3 : K.lookup qa3 = some ⟨.type "tuple", qd3, .seq #[.int 1 tk3_0, .int 1000 tk3_1] qn3, qs3⟩)
 {tk4 : Tok} (q4 : PySem.W.nsIn K mainGlobals "LETTERS" = some (some (.str (Str.ofString "abcdefghijklmnopqrstuvwxyz") tk4)))
 {tk5 : Tok} (q5 : PySem.W.nsIn K mainGlobals "MOST_LETTERS" = some (some (.int 12 tk5)))
 {qa6 : Addr} {qd6 : Option Addr} {qn6 : Nat} {qs6 : Array (Option Value)} {tk6_0 tk6_1 : Tok} (q6 : PySem.W.nsIn K mainGlobals "BURDEN" = some (some (.ref qa6))) (qt6 : K.lookup qa6 = some ⟨.type "tuple", qd6, .seq #[.int 1 tk6_0, .int 10000000 tk6_1] qn6, qs6⟩)
 {qa7 : Addr} {qd7 : Option Addr} {qn7 : Nat} {qs7 : Array (Option Value)} {tk7_0 tk7_1 : Tok} (q7 : PySem.W.nsIn K mainGlobals "WIDE" = some (some (.ref qa7))) (qt7 : K.lookup qa7 = some ⟨.type "tuple", qd7, .seq #[.int 1 tk7_0, .int 200 tk7_1] qn7, qs7⟩)
 {tk8 : Tok} (q8 : PySem.W.nsIn K mainGlobals "MOST_BRIDGES" = some (some (.int 6 tk8)))
 {qa9 : Addr} {qd9 : Option Addr} {qn9 : Nat} {qs9 : Array (Option Value)} {tk9_0 tk9_1 : Tok} (q9 : PySem.W.nsIn K mainGlobals "MINUTE" = some (some (.ref qa9))) (qt9 : K.lookup qa9 = some ⟨.type "tuple", qd9, .seq #[.int 0 tk9_0, .int 10000 tk9_1] qn9, qs9⟩)
 (zz0 : PySem.W.nsIn K mainGlobals "len" = some none)
 (zz1 : PySem.W.nsIn K mainGlobals "range" = some none)
 (zz2 : PySem.W.nsIn K mainGlobals "enumerate" = some none)
 (zz3 : PySem.W.nsIn K mainGlobals "str" = some none)
 (zz4 : PySem.W.nsIn K mainGlobals "isinstance" = some none)
 (zz5 : PySem.W.nsIn K mainGlobals "all" = some none)
 (zz6 : PySem.W.nsIn K mainGlobals "int" = some none)
 (zz7 : PySem.W.nsIn K mainGlobals "zip" = some none)
 (zz8 : PySem.W.nsIn K mainGlobals "list" = some none)
 (zz9 : PySem.W.nsIn K mainGlobals "tuple" = some none)
 (zz10 : PySem.W.nsIn K mainGlobals "bool" = some none)
 :
 ∃ fd : FuncData, (∀ (s : Shared) (v : Value), BindsTo s fd ⟨[v], []⟩ [("_law_script", v)]) ∧ ∀ base : Heap, K.In base → base.Ns mainGlobals mg → FnOk l.prog w K mg base CX0 16 fa fd ["_law_script"] (sp_law K) := by
 have e := hfa.symm.trans (PySem.W.mg_of X G a36)
 cases e
 have F0 := fun_mk (st := s_law_cell) l0 c0 k0
 have F1 := fun_mk (st := s_law_mix) l1 c1 k1
 have F2 := fun_mk (st := s_law_names) l2 c2 k2
 have F3 := fun_mk (st := s_law_long) l3 c3 k3
 have F4 := fun_mk (st := s_law_bridge) l4 c4 k4
 have F5 := fun_mk (st := s_law_parts) l5 c5 k5
 have F6 := fun_mk (st := s_row_of) l6 c6 k6
 have F7 := fun_mk (st := s_piece_row) l7 c7 k7
 have F8 := fun_mk (st := s_road_rows) l8 c8 k8
 have F9 := fun_mk (st := s_rows_of) l9 c9 k9
 have F10 := fun_mk (st := s_is_row_of) l10 c10 k10
 have F11 := funX_mk (st := s_number_of) l11 c11 k11
 have F12 := fun_mk (st := s_number_within) l12 c12 k12
 have F13 := fun_mk (st := s_numbers_of) l13 c13 k13
 have F14 := fun_mk (st := s_begins_with) l14 c14 k14
 have F15 := fun_mk (st := s_plain_row) l15 c15 k15
 have F16 := fun_mk (st := s_words_at) l16 c16 k16
 have F17 := fun_mk (st := s_Open_init) l17 c17 k17
 have F18 := fun_mk (st := s_read_open) l18 c18 k18
 have F19 := fun_mk (st := s_is_word) l19 c19 k19
 have F20 := fun_mk (st := s_named_row) l20 c20 k20
 have F21 := fun_mk (st := s_Bridge_init) l21 c21 k21
 have F22 := fun_mk (st := s_read_bridge) l22 c22 k22
 have F23 := fun_mk (st := s_names_in) l23 c23 k23
 have F24 := fun_mk (st := s_read_pieces) l24 c24 k24
 have F25 := fun_mk (st := s_read_round) l25 c25 k25
 have F26 := fun_mk (st := s_read_shut) l26 c26 k26
 have F27 := fun_mk (st := s_Road_init) l27 c27 k27
 have F28 := fun_mk (st := s_road_from) l28 c28 k28
 have F29 := fun_mk (st := s_road_of) l29 c29 k29
 have F30 := fun_mk (st := s_law_pieces) l30 c30 k30
 have F31 := fun_mk (st := s_law_alike) l31 c31 k31
 have F32 := fun_mk (st := s_law_same) l32 c32 k32
 have F33 := fun_mk (st := s_law_told) l33 c33 k33
 have F34 := fun_mk (st := s_law_road_is) l34 c34 k34
 have F35 := fun_mk (st := s_road_text) l35 c35 k35
 have F36 := fun_mk (st := s_law) l36 c36 k36
 have c_FIGURES : ∃ u, mg "FIGURES" = some u ∧ RelV (V.str (Str.ofString "0123456789")) u := ⟨_, PySem.W.mg_of X G q0, ⟨_, rfl⟩⟩
 have c_MOST_FIGURES : ∃ u, mg "MOST_FIGURES" = some u ∧ RelV (V.int 60) u := ⟨_, PySem.W.mg_of X G q1, ⟨_, rfl⟩⟩
 have c_LEAST_OPEN : ∃ u, mg "LEAST_OPEN" = some u ∧ RelV (V.int 200) u := ⟨_, PySem.W.mg_of X G q2, ⟨_, rfl⟩⟩
 have n_LENGTH : mg "LENGTH" = some (.ref (clA K "LENGTH")) := by rw [clA_of q3]; exact PySem.W.mg_of X G q3
 have k_LENGTH : KT K (clA K "LENGTH") [.int 1, .int 1000] := by rw [clA_of q3]; exact ⟨_, _, _, qt3, rfl, rfl, (by show 2 ≤ sizeLine; decide), .cons ⟨_, rfl⟩ (.cons ⟨_, rfl⟩ (.nil))⟩
 have c_LETTERS : ∃ u, mg "LETTERS" = some u ∧ RelV (V.str (Str.ofString "abcdefghijklmnopqrstuvwxyz")) u := ⟨_, PySem.W.mg_of X G q4, ⟨_, rfl⟩⟩
 have c_MOST_LETTERS : ∃ u, mg "MOST_LETTERS" = some u ∧ RelV (V.int 12) u := ⟨_, PySem.W.mg_of X G q5, ⟨_, rfl⟩⟩
 have n_BURDEN : mg "BURDEN" = some (.ref (clA K "BURDEN")) := by rw [clA_of q6]; exact PySem.W.mg_of X G q6
 have k_BURDEN : KT K (clA K "BURDEN") [.int 1, .int 10000000] := by rw [clA_of q6]; exact ⟨_, _, _, qt6, rfl, rfl, (by show 2 ≤ sizeLine; decide), .cons ⟨_, rfl⟩ (.cons ⟨_, rfl⟩ (.nil))⟩
 have n_WIDE : mg "WIDE" = some (.ref (clA K "WIDE")) := by rw [clA_of q7]; exact PySem.W.mg_of X G q7
 have k_WIDE : KT K (clA K "WIDE") [.int 1, .int 200] := by rw [clA_of q7]; exact ⟨_, _, _, qt7, rfl, rfl, (by show 2 ≤ sizeLine; decide), .cons ⟨_, rfl⟩ (.cons ⟨_, rfl⟩ (.nil))⟩
 have c_MOST_BRIDGES : ∃ u, mg "MOST_BRIDGES" = some u ∧ RelV (V.int 6) u := ⟨_, PySem.W.mg_of X G q8, ⟨_, rfl⟩⟩
 have n_MINUTE : mg "MINUTE" = some (.ref (clA K "MINUTE")) := by rw [clA_of q9]; exact PySem.W.mg_of X G q9
 have k_MINUTE : KT K (clA K "MINUTE") [.int 0, .int 10000] := by rw [clA_of q9]; exact ⟨_, _, _, qt9, rfl, rfl, (by show 2 ≤ sizeLine; decide), .cons ⟨_, rfl⟩ (.cons ⟨_, rfl⟩ (.nil))⟩
 have z_len := PySem.W.mg_none_of X G zz0
 have z_range := PySem.W.mg_none_of X G zz1
 have z_enumerate := PySem.W.mg_none_of X G zz2
 have z_str := PySem.W.mg_none_of X G zz3
 have z_isinstance := PySem.W.mg_none_of X G zz4
 have z_all := PySem.W.mg_none_of X G zz5
 have z_int := PySem.W.mg_none_of X G zz6
 have z_zip := PySem.W.mg_none_of X G zz7
 have z_list := PySem.W.mg_none_of X G zz8
 have z_tuple := PySem.W.mg_none_of X G zz9
 have z_bool := PySem.W.mg_none_of X G zz10
 have o0 : KObj K C0 xc0 := kobj_mk xl0 xo0
 have n_Open : mg "Open" = some (.ref (clA K "Open")) := by rw [clA_of x0]; exact PySem.W.mg_of X G x0
 have o1 : KObj K C1 xc1 := kobj_mk xl1 xo1
 have n_Bridge : mg "Bridge" = some (.ref (clA K "Bridge")) := by rw [clA_of x1]; exact PySem.W.mg_of X G x1
 have o2 : KObj K C2 xc2 := kobj_mk xl2 xo2
 have n_Road : mg "Road" = some (.ref (clA K "Road")) := by rw [clA_of x2]; exact PySem.W.mg_of X G x2
 have pts : Pts K kNames [C0, C1, C2] := .cons x0 o0 (.cons x1 o1 (.cons x2 o2 (.nil)))
 have d_Open : PKd K kNames (clA K "Open") ["Open"] ["length"] := pkd_mk x0 xl0 xo0 pts xk0 xa0 xb0 xg0 xe0 xf0 xcg xct (na_cons xna0_0 na_nil)
 have d_Bridge : PKd K kNames (clA K "Bridge") ["Bridge"] ["name", "length", "bears", "wide", "most"] := pkd_mk x1 xl1 xo1 pts xk1 xa1 xb1 xg1 xe1 xf1 xcg xct (na_cons xna1_0 (na_cons xna1_1 (na_cons xna1_2 (na_cons xna1_3 (na_cons xna1_4 na_nil)))))
 have d_Road : PKd K kNames (clA K "Road") ["Road"] ["pieces", "rounds", "shuts"] := pkd_mk x2 xl2 xo2 pts xk2 xa2 xb2 xg2 xe2 xf2 xcg xct (na_cons xna2_0 (na_cons xna2_1 (na_cons xna2_2 na_nil)))
 refine ⟨PySem.W.fnOf "law" "law" (defArgs s_law) (defBody s_law) (defScope s_law) .none kV36 dc36 pm36 an36 cd36 ct36, fun s v => .of_eq rfl, fun base _ _ => ?_⟩
 have b0 := F0.binds (ps := ["_law_script", "_law_k"]) fun _ _ _ _ _ _ us hl => by obtain ⟨_, _, rfl⟩ := us2 hl; rfl
 have g_law_cell : Got l.prog w K mg base 1 "_law_cell" ["_law_script", "_law_k"] (sp_law_cell K) := ⟨⟨_, _, ok_law_cell F0 z_len, b0, k0, PySem.W.mg_of X G a0⟩⟩
 have b1 := F1.binds (ps := ["_law_cell_here", "_law_one", "_law_prime"]) fun _ _ _ _ _ _ us hl => by obtain ⟨_, _, _, rfl⟩ := us3 hl; rfl
 have g_law_mix : Got l.prog w K mg base 1 "_law_mix" ["_law_cell_here", "_law_one", "_law_prime"] (sp_law_mix K) := ⟨⟨_, _, ok_law_mix F1 , b1, k1, PySem.W.mg_of X G a1⟩⟩
 have b2 := F2.binds (ps := ["_law_cell_here"]) fun _ _ _ _ _ _ us hl => by obtain ⟨_, rfl⟩ := us1 hl; rfl
 have g_law_names : Got l.prog w K mg base 2 "_law_names" ["_law_cell_here"] (sp_law_names K) := ⟨⟨_, _, ok_law_names F2 g_law_mix z_range, b2, k2, PySem.W.mg_of X G a2⟩⟩
 have b3 := F3.binds (ps := ["_law_cell_here", "_law_one", "_law_least"]) fun _ _ _ _ _ _ us hl => by obtain ⟨_, _, _, rfl⟩ := us3 hl; rfl
 have g_law_long : Got l.prog w K mg base 2 "_law_long" ["_law_cell_here", "_law_one", "_law_least"] (sp_law_long K) := ⟨⟨_, _, ok_law_long F3 g_law_mix, b3, k3, PySem.W.mg_of X G a3⟩⟩
 have b4 := F4.binds (ps := ["_law_cell_here", "_law_name"]) fun _ _ _ _ _ _ us hl => by obtain ⟨_, _, rfl⟩ := us2 hl; rfl
 have g_law_bridge : Got l.prog w K mg base 3 "_law_bridge" ["_law_cell_here", "_law_name"] (sp_law_bridge K) := ⟨⟨_, _, ok_law_bridge F4 g_law_mix g_law_long, b4, k4, PySem.W.mg_of X G a4⟩⟩
 have b5 := F5.binds (ps := ["_law_script"]) fun _ _ _ _ _ _ us hl => by obtain ⟨_, rfl⟩ := us1 hl; rfl
 have g_law_parts : Got l.prog w K mg base 4 "_law_parts" ["_law_script"] (sp_law_parts K) := ⟨⟨_, _, ok_law_parts F5 g_law_cell g_law_names g_law_mix g_law_long g_law_bridge z_range z_enumerate, b5, k5, PySem.W.mg_of X G a5⟩⟩
 have b6 := F6.binds (ps := ["parts"]) fun _ _ _ _ _ _ us hl => by obtain ⟨_, rfl⟩ := us1 hl; rfl
 have g_row_of : Got l.prog w K mg base 1 "row_of" ["parts"] (sp_row_of K) := ⟨⟨_, _, ok_row_of F6 z_str, b6, k6, PySem.W.mg_of X G a6⟩⟩
 have b7 := F7.binds (ps := ["piece"]) fun _ _ _ _ _ _ us hl => by obtain ⟨_, rfl⟩ := us1 hl; rfl
 have g_piece_row : Got l.prog w K mg base 2 "piece_row" ["piece"] (sp_piece_row K) := ⟨⟨_, _, ok_piece_row F7 g_row_of d_Open n_Open z_isinstance, b7, k7, PySem.W.mg_of X G a7⟩⟩
 have b8 := F8.binds (ps := ["road"]) fun _ _ _ _ _ _ us hl => by obtain ⟨_, rfl⟩ := us1 hl; rfl
 have g_road_rows : Got l.prog w K mg base 3 "road_rows" ["road"] (sp_road_rows K) := ⟨⟨_, _, ok_road_rows F8 g_piece_row g_row_of, b8, k8, PySem.W.mg_of X G a8⟩⟩
 have b9 := F9.binds (ps := ["text"]) fun _ _ _ _ _ _ us hl => by obtain ⟨_, rfl⟩ := us1 hl; rfl
 have g_rows_of : Got l.prog w K mg base 1 "rows_of" ["text"] (sp_rows_of K) := ⟨⟨_, _, ok_rows_of F9 , b9, k9, PySem.W.mg_of X G a9⟩⟩
 have b10 := F10.binds (ps := ["text", "signs", "most"]) fun _ _ _ _ _ _ us hl => by obtain ⟨_, _, _, rfl⟩ := us3 hl; rfl
 have g_is_row_of : Got l.prog w K mg base 1 "is_row_of" ["text", "signs", "most"] (sp_is_row_of K) := ⟨⟨_, _, ok_is_row_of F10 z_all z_len, b10, k10, PySem.W.mg_of X G a10⟩⟩
 have b11 : Binds K (PySem.W.fnOf "number_of" "number_of" (defArgs s_number_of) (defBody s_number_of) (defScope s_number_of) (.ref dt11) kV11 dc11 pm11 an11 cd11 ct11) ["text", "most"] [] := fun s us KX hl => by
  have hl' : us.length = 2 := by simpa using hl
  match us, hl' with | [_, _], _ => exact BindsTo.of_defaults rfl (KX _ _ dl11) rfl rfl rfl
 have bd11 : Binds K (PySem.W.fnOf "number_of" "number_of" (defArgs s_number_of) (defBody s_number_of) (defScope s_number_of) (.ref dt11) kV11 dc11 pm11 an11 cd11 ct11) ["text", "most"] [.none] := fun s us KX hl => by
  have hl' : us.length = 1 := by simpa using hl
  match us, hl' with | [_], _ => exact BindsTo.of_defaults rfl (KX _ _ dl11) rfl rfl rfl
 have g_number_of : Got l.prog w K mg base 2 "number_of" ["text", "most"] (sp_number_of K) := ⟨⟨_, _, ok_number_of F11 g_is_row_of z_int c_FIGURES c_MOST_FIGURES, b11, k11, PySem.W.mg_of X G a11⟩⟩
 have gd_number_of : GotD l.prog w K mg base 2 "number_of" ["text", "most"] [V.non] (sp_number_of K) := ⟨⟨_, _, _, ok_number_of F11 g_is_row_of z_int c_FIGURES c_MOST_FIGURES, bd11, .cons rfl .nil, k11, PySem.W.mg_of X G a11⟩⟩
 have b12 := F12.binds (ps := ["text", "bound"]) fun _ _ _ _ _ _ us hl => by obtain ⟨_, _, rfl⟩ := us2 hl; rfl
 have g_number_within : Got l.prog w K mg base 3 "number_within" ["text", "bound"] (sp_number_within K) := ⟨⟨_, _, ok_number_within F12 g_number_of gd_number_of, b12, k12, PySem.W.mg_of X G a12⟩⟩
 have b13 := F13.binds (ps := ["texts", "bounds"]) fun _ _ _ _ _ _ us hl => by obtain ⟨_, _, rfl⟩ := us2 hl; rfl
 have g_numbers_of : Got l.prog w K mg base 4 "numbers_of" ["texts", "bounds"] (sp_numbers_of K) := ⟨⟨_, _, ok_numbers_of F13 g_number_within z_len z_zip, b13, k13, PySem.W.mg_of X G a13⟩⟩
 have b14 := F14.binds (ps := ["words", "kinds"]) fun _ _ _ _ _ _ us hl => by obtain ⟨_, _, rfl⟩ := us2 hl; rfl
 have g_begins_with : Got l.prog w K mg base 1 "begins_with" ["words", "kinds"] (sp_begins_with K) := ⟨⟨_, _, ok_begins_with F14 z_len, b14, k14, PySem.W.mg_of X G a14⟩⟩
 have b15 := F15.binds (ps := ["words", "kind", "bounds"]) fun _ _ _ _ _ _ us hl => by obtain ⟨_, _, _, rfl⟩ := us3 hl; rfl
 have g_plain_row : Got l.prog w K mg base 5 "plain_row" ["words", "kind", "bounds"] (sp_plain_row K) := ⟨⟨_, _, ok_plain_row F15 g_numbers_of g_begins_with, b15, k15, PySem.W.mg_of X G a15⟩⟩
 have b16 := F16.binds (ps := ["rows", "place"]) fun _ _ _ _ _ _ us hl => by obtain ⟨_, _, rfl⟩ := us2 hl; rfl
 have g_words_at : Got l.prog w K mg base 1 "words_at" ["rows", "place"] (sp_words_at K) := ⟨⟨_, _, ok_words_at F16 z_len, b16, k16, PySem.W.mg_of X G a16⟩⟩
 have b17 := F17.binds (ps := ["self", "length"]) fun _ _ _ _ _ _ us hl => by obtain ⟨_, _, rfl⟩ := us2 hl; rfl
 have m_Open : GotP l.prog w K mg base 1 "Open" ["self", "length"] (sp_Open_init K) := ⟨⟨_, _, mk_mk x0 xm0 xi0 xn0 xp0, ok_Open_init F17 , b17, n_Open⟩⟩
 have b18 := F18.binds (ps := ["rows", "place"]) fun _ _ _ _ _ _ us hl => by obtain ⟨_, _, rfl⟩ := us2 hl; rfl
 have g_read_open : Got l.prog w K mg base 6 "read_open" ["rows", "place"] (sp_read_open K) := ⟨⟨_, _, ok_read_open F18 g_plain_row g_words_at m_Open d_Open c_LEAST_OPEN n_LENGTH k_LENGTH, b18, k18, PySem.W.mg_of X G a18⟩⟩
 have b19 := F19.binds (ps := ["text"]) fun _ _ _ _ _ _ us hl => by obtain ⟨_, rfl⟩ := us1 hl; rfl
 have g_is_word : Got l.prog w K mg base 2 "is_word" ["text"] (sp_is_word K) := ⟨⟨_, _, ok_is_word F19 g_is_row_of c_LETTERS c_MOST_LETTERS, b19, k19, PySem.W.mg_of X G a19⟩⟩
 have b20 := F20.binds (ps := ["words", "kind", "bounds"]) fun _ _ _ _ _ _ us hl => by obtain ⟨_, _, _, rfl⟩ := us3 hl; rfl
 have g_named_row : Got l.prog w K mg base 5 "named_row" ["words", "kind", "bounds"] (sp_named_row K) := ⟨⟨_, _, ok_named_row F20 g_numbers_of g_begins_with g_is_word z_len, b20, k20, PySem.W.mg_of X G a20⟩⟩
 have b21 := F21.binds (ps := ["self", "name", "length", "bears", "wide", "most"]) fun _ _ _ _ _ _ us hl => by obtain ⟨_, _, _, _, _, _, rfl⟩ := us6 hl; rfl
 have m_Bridge : GotP l.prog w K mg base 1 "Bridge" ["self", "name", "length", "bears", "wide", "most"] (sp_Bridge_init K) := ⟨⟨_, _, mk_mk x1 xm1 xi1 xn1 xp1, ok_Bridge_init F21 , b21, n_Bridge⟩⟩
 have b22 := F22.binds (ps := ["rows", "place", "names"]) fun _ _ _ _ _ _ us hl => by obtain ⟨_, _, _, rfl⟩ := us3 hl; rfl
 have g_read_bridge : Got l.prog w K mg base 6 "read_bridge" ["rows", "place", "names"] (sp_read_bridge K) := ⟨⟨_, _, ok_read_bridge F22 g_named_row g_words_at m_Bridge d_Bridge z_len n_LENGTH k_LENGTH n_BURDEN k_BURDEN n_WIDE k_WIDE c_MOST_BRIDGES, b22, k22, PySem.W.mg_of X G a22⟩⟩
 have b23 := F23.binds (ps := ["pieces"]) fun _ _ _ _ _ _ us hl => by obtain ⟨_, rfl⟩ := us1 hl; rfl
 have g_names_in : Got l.prog w K mg base 1 "names_in" ["pieces"] (sp_names_in K) := ⟨⟨_, _, ok_names_in F23 d_Bridge n_Bridge z_isinstance, b23, k23, PySem.W.mg_of X G a23⟩⟩
 have b24 := F24.binds (ps := ["rows"]) fun _ _ _ _ _ _ us hl => by obtain ⟨_, rfl⟩ := us1 hl; rfl
 have g_read_pieces : Got l.prog w K mg base 7 "read_pieces" ["rows"] (sp_read_pieces K) := ⟨⟨_, _, ok_read_pieces F24 g_read_open g_begins_with g_words_at g_read_bridge g_names_in z_len, b24, k24, PySem.W.mg_of X G a24⟩⟩
 have b25 := F25.binds (ps := ["rows", "place", "names", "rounds"]) fun _ _ _ _ _ _ us hl => by obtain ⟨_, _, _, _, rfl⟩ := us4 hl; rfl
 have g_read_round : Got l.prog w K mg base 6 "read_round" ["rows", "place", "names", "rounds"] (sp_read_round K) := ⟨⟨_, _, ok_read_round F25 g_named_row g_words_at n_LENGTH k_LENGTH, b25, k25, PySem.W.mg_of X G a25⟩⟩
 have b26 := F26.binds (ps := ["rows", "place", "names"]) fun _ _ _ _ _ _ us hl => by obtain ⟨_, _, _, rfl⟩ := us3 hl; rfl
 have g_read_shut : Got l.prog w K mg base 6 "read_shut" ["rows", "place", "names"] (sp_read_shut K) := ⟨⟨_, _, ok_read_shut F26 g_named_row g_words_at n_MINUTE k_MINUTE, b26, k26, PySem.W.mg_of X G a26⟩⟩
 have b27 := F27.binds (ps := ["self", "pieces", "rounds", "shuts"]) fun _ _ _ _ _ _ us hl => by obtain ⟨_, _, _, _, rfl⟩ := us4 hl; rfl
 have m_Road : GotP l.prog w K mg base 1 "Road" ["self", "pieces", "rounds", "shuts"] (sp_Road_init K) := ⟨⟨_, _, mk_mk x2 xm2 xi2 xn2 xp2, ok_Road_init F27 z_list, b27, n_Road⟩⟩
 have b28 := F28.binds (ps := ["rows"]) fun _ _ _ _ _ _ us hl => by obtain ⟨_, rfl⟩ := us1 hl; rfl
 have g_road_from : Got l.prog w K mg base 8 "road_from" ["rows"] (sp_road_from K) := ⟨⟨_, _, ok_road_from F28 g_read_pieces g_names_in g_begins_with g_words_at g_read_round g_read_shut m_Road d_Road z_len, b28, k28, PySem.W.mg_of X G a28⟩⟩
 have b29 := F29.binds (ps := ["text"]) fun _ _ _ _ _ _ us hl => by obtain ⟨_, rfl⟩ := us1 hl; rfl
 have g_road_of : Got l.prog w K mg base 9 "road_of" ["text"] (sp_road_of K) := ⟨⟨_, _, ok_road_of F29 g_rows_of g_road_from z_len, b29, k29, PySem.W.mg_of X G a29⟩⟩
 have b30 := F30.binds (ps := ["_law_pieces_here"]) fun _ _ _ _ _ _ us hl => by obtain ⟨_, rfl⟩ := us1 hl; rfl
 have g_law_pieces : Got l.prog w K mg base 3 "_law_pieces" ["_law_pieces_here"] (sp_law_pieces K) := ⟨⟨_, _, ok_law_pieces F30 m_Open d_Open m_Bridge d_Bridge, b30, k30, PySem.W.mg_of X G a30⟩⟩
 have b31 := F31.binds (ps := ["_law_found", "_law_due"]) fun _ _ _ _ _ _ us hl => by obtain ⟨_, _, rfl⟩ := us2 hl; rfl
 have b32 := F32.binds (ps := ["_law_found", "_law_due"]) fun _ _ _ _ _ _ us hl => by obtain ⟨_, _, rfl⟩ := us2 hl; rfl
 have gg := mut_all (P := l.prog) (w := w) (base := base) F31 F32 b31 b32 k31 k32 (PySem.W.mg_of X G a31) (PySem.W.mg_of X G a32) z_all z_bool z_int z_isinstance z_len z_list z_str z_tuple z_zip 14
 have g_law_alike := gg.1
 have g_law_same := gg.2
 have b33 := F33.binds (ps := ["_law_piece"]) fun _ _ _ _ _ _ us hl => by obtain ⟨_, rfl⟩ := us1 hl; rfl
 have g_law_told : Got l.prog w K mg base 1 "_law_told" ["_law_piece"] (sp_law_told K) := ⟨⟨_, _, ok_law_told F33 d_Open d_Bridge n_Open n_Bridge z_isinstance, b33, k33, PySem.W.mg_of X G a33⟩⟩
 have b34 := F34.binds (ps := ["_law_road", "_law_pieces_here", "_law_rounds", "_law_shuts"]) fun _ _ _ _ _ _ us hl => by obtain ⟨_, _, _, _, rfl⟩ := us4 hl; rfl
 have g_law_road_is : Got l.prog w K mg base 15 "_law_road_is" ["_law_road", "_law_pieces_here", "_law_rounds", "_law_shuts"] (sp_law_road_is K) := ⟨⟨_, _, ok_law_road_is F34 g_law_same g_law_told d_Road n_Road z_isinstance z_list, b34, k34, PySem.W.mg_of X G a34⟩⟩
 have b35 := F35.binds (ps := ["road"]) fun _ _ _ _ _ _ us hl => by obtain ⟨_, rfl⟩ := us1 hl; rfl
 have g_road_text : Got l.prog w K mg base 4 "road_text" ["road"] (sp_road_text K) := ⟨⟨_, _, ok_road_text F35 g_road_rows, b35, k35, PySem.W.mg_of X G a35⟩⟩
 exact ok_law (P := l.prog) (w := w) (base := base) F36 g_law_parts g_road_rows g_road_of g_road_from g_law_pieces g_law_same g_law_road_is g_road_text m_Road d_Road z_str
theorem walk {l : PySem.W.OpenLaw} {q : Program} {loose : List Str} {XP : (Str → Option Value) → Heap → Prop} {YP : World → Heap → Prop} {d : DefRec} {K : Params → PySem.W.Frag} (hn : l.most = some 63) (hdf : d.params.defaults = [])
 (hY : ∀ (w : World) (h : Heap), YP w h → (K w.params).In h)
 (F : ∀ (w : World) (mg : Str → Option Value) (fa : Addr) (h : Heap), (K w.params).In h → h.Ns mainGlobals mg → mg d.name = some (.ref fa) →
  ∃ fd : FuncData, (∀ (s : Shared) (u : Value), BindsTo s fd ⟨[u], []⟩ [("_law_script", u)]) ∧ ∀ base : Heap, (K w.params).In base → base.Ns mainGlobals mg → FnOk l.prog w (K w.params) mg base CX0 16 fa fd ["_law_script"] (sp_law (K w.params))) :
 PySem.W.WalkO q loose XP YP l.row.toRowW d [] (fun f vs => PySem.call f vs) :=
 L2.walk_of (n := 63) (k := 16) (x := "_law_script") (CX := fun _ => CX0) (sp := fun w => sp_law (K w.params)) hn (by decide) hdf ⟨rfl, by decide, by decide⟩ hY F (fun _ _ a ns hl _ hS => ⟨a, ns, rfl, hS, hl, fun _ => rfl⟩) fun _ _ _ _ _ z => z
end Kl
namespace PySem.W.Fast
theorem tw6778579018902293821 : True := ⟨⟩
theorem tw6190706601947569096 : True := ⟨⟩
theorem tw14833275155578845224 : True := ⟨⟩
theorem tw11200691808257097879 : True := ⟨⟩
theorem tw311853101275762962 : True := ⟨⟩
theorem tw16213309272504022062 : True := ⟨⟩
theorem tw7938883756453811841 : True := ⟨⟩
theorem tw5936743239876518668 : True := ⟨⟩
theorem tw492857855546001190 : True := ⟨⟩
theorem tw18304316074201095483 : True := ⟨⟩
theorem tw2194795903364509247 : True := ⟨⟩
theorem tw4946688423144910313 : True := ⟨⟩
theorem tw952206174103368931 : True := ⟨⟩
theorem tw12643670000618638310 : True := ⟨⟩
theorem tw9437249261319721564 : True := ⟨⟩
theorem tw2115279260340760873 : True := ⟨⟩
theorem tw1705091449514669290 : True := ⟨⟩
theorem tw11314305814429320592 : True := ⟨⟩
theorem tw13986256927958093827 : True := ⟨⟩
theorem tw8475907232435338930 : True := ⟨⟩
theorem tw3629772439777258653 : True := ⟨⟩
theorem tw9379429730638738298 : True := ⟨⟩
theorem tw8392726690717520227 : True := ⟨⟩
theorem tw16961532932810189461 : True := ⟨⟩
theorem tw10526605575376395108 : True := ⟨⟩
theorem tw1379450305854306717 : True := ⟨⟩
theorem tw9238836383066483617 : True := ⟨⟩
theorem tw7748197100906730614 : True := ⟨⟩
theorem tw7474130353271869812 : True := ⟨⟩
theorem tw7327777790211925376 : True := ⟨⟩
theorem tw9472560442956335620 : True := ⟨⟩
theorem tw9509432094906486724 : True := ⟨⟩
end PySem.W.Fast
open PySem PySem.W PyProof.Rows
set_option maxRecDepth 100000 in
set_option maxHeartbeats 0 in
theorem PySem.Challenge.cw_ballastway_k09_roads_written_holds : PySem.Challenge.rw_ballastway_k09_roads_written.Holds := by
 w_on; o_law; k_head; (case hw => w_witness2)
 k_fill
 refine Kl.walk (l := PySem.Challenge.rw_ballastway_k09_roads_written) rfl rfl (fun w h Y => PySem.W.kIn_of Y) ?F
 case F =>
  intro w mg fa h KX G hmg
  refine' Kl.all_mk KX G hmg ?x0 ?xl0 ?xi0 ?x1 ?xl1 ?xi1 ?x2 ?xl2 ?xi2 ?xo0 ?xk0 ?xa0 ?xb0 ?xg0 ?xe0 ?xf0 ?xm0 ?xn0 ?xp0 ?xna0_0 ?xo1 ?xk1 ?xa1 ?xb1 ?xg1 ?xe1 ?xf1 ?xm1 ?xn1 ?xp1 ?xna1_0 ?xna1_1 ?xna1_2 ?xna1_3 ?xna1_4 ?xo2 ?xk2 ?xa2 ?xb2 ?xg2 ?xe2 ?xf2 ?xm2 ?xn2 ?xp2 ?xna2_0 ?xna2_1 ?xna2_2 ?xcg ?xct ?a0 ?l0 ?c0 ?k0 ?a1 ?l1 ?c1 ?k1 ?a2 ?l2 ?c2 ?k2 ?a3 ?l3 ?c3 ?k3 ?a4 ?l4 ?c4 ?k4 ?a5 ?l5 ?c5 ?k5 ?a6 ?l6 ?c6 ?k6 ?a7 ?l7 ?c7 ?k7 ?a8 ?l8 ?c8 ?k8 ?a9 ?l9 ?c9 ?k9 ?a10 ?l10 ?c10 ?k10 ?a11 ?l11 ?c11 ?k11 ?dl11 ?a12 ?l12 ?c12 ?k12 ?a13 ?l13 ?c13 ?k13 ?a14 ?l14 ?c14 ?k14 ?a15 ?l15 ?c15 ?k15 ?a16 ?l16 ?c16 ?k16 ?l17 ?c17 ?k17 ?a18 ?l18 ?c18 ?k18 ?a19 ?l19 ?c19 ?k19 ?a20 ?l20 ?c20 ?k20 ?l21 ?c21 ?k21 ?a22 ?l22 ?c22 ?k22 ?a23 ?l23 ?c23 ?k23 ?a24 ?l24 ?c24 ?k24 ?a25 ?l25 ?c25 ?k25 ?a26 ?l26 ?c26 ?k26 ?l27 ?c27 ?k27 ?a28 ?l28 ?c28 ?k28 ?a29 ?l29 ?c29 ?k29 ?a30 ?l30 ?c30 ?k30 ?a31 ?l31 ?c31 ?k31 ?a32 ?l32 ?c32 ?k32 ?a33 ?l33 ?c33 ?k33 ?a34 ?l34 ?c34 ?k34 ?a35 ?l35 ?c35 ?k35 ?a36 ?l36 ?c36 ?k36 ?q0 ?q1 ?q2 ?q3 ?qt3 ?q4 ?q5 ?q6 ?qt6 ?q7 ?qt7 ?q8 ?q9 ?qt9 ?zz0 ?zz1 ?zz2 ?zz3 ?zz4 ?zz5 ?zz6 ?zz7 ?zz8 ?zz9 ?zz10
  (case x0 => k_is)
  (case xl0 => k_is)
  (case xi0 => k_is)
  (case x1 => k_is)
  (case xl1 => k_is)
  (case xi1 => k_is)
  (case x2 => k_is)
  (case xl2 => k_is)
  (case xi2 => k_is)
  (case xo0 => rfl)
  (case xk0 => decide +kernel)
  (case xa0 => k_is)
  (case xb0 => k_is)
  (case xg0 => k_is)
  (case xe0 => k_is)
  (case xf0 => k_is)
  (case xm0 => k_is)
  (case xn0 => k_is)
  (case xp0 => k_is)
  (case xna0_0 => k_is)
  (case xo1 => rfl)
  (case xk1 => decide +kernel)
  (case xa1 => k_is)
  (case xb1 => k_is)
  (case xg1 => k_is)
  (case xe1 => k_is)
  (case xf1 => k_is)
  (case xm1 => k_is)
  (case xn1 => k_is)
  (case xp1 => k_is)
  (case xna1_0 => k_is)
  (case xna1_1 => k_is)
  (case xna1_2 => k_is)
  (case xna1_3 => k_is)
  (case xna1_4 => k_is)
  (case xo2 => rfl)
  (case xk2 => decide +kernel)
  (case xa2 => k_is)
  (case xb2 => k_is)
  (case xg2 => k_is)
  (case xe2 => k_is)
  (case xf2 => k_is)
  (case xm2 => k_is)
  (case xn2 => k_is)
  (case xp2 => k_is)
  (case xna2_0 => k_is)
  (case xna2_1 => k_is)
  (case xna2_2 => k_is)
  (case xcg => k_is)
  (case xct => k_is)
  (case a0 => k_is)
  (case l0 => k_is)
  (case c0 => k_is)
  (case k0 => k_is)
  (case a1 => k_is)
  (case l1 => k_is)
  (case c1 => k_is)
  (case k1 => k_is)
  (case a2 => k_is)
  (case l2 => k_is)
  (case c2 => k_is)
  (case k2 => k_is)
  (case a3 => k_is)
  (case l3 => k_is)
  (case c3 => k_is)
  (case k3 => k_is)
  (case a4 => k_is)
  (case l4 => k_is)
  (case c4 => k_is)
  (case k4 => k_is)
  (case a5 => k_is)
  (case l5 => k_is)
  (case c5 => k_is)
  (case k5 => k_is)
  (case a6 => k_is)
  (case l6 => k_is)
  (case c6 => k_is)
  (case k6 => k_is)
  (case a7 => k_is)
  (case l7 => k_is)
  (case c7 => k_is)
  (case k7 => k_is)
  (case a8 => k_is)
  (case l8 => k_is)
  (case c8 => k_is)
  (case k8 => k_is)
  (case a9 => k_is)
  (case l9 => k_is)
  (case c9 => k_is)
  (case k9 => k_is)
  (case a10 => k_is)
  (case l10 => k_is)
  (case c10 => k_is)
  (case k10 => k_is)
  (case a11 => k_is)
  (case l11 => k_is)
  (case c11 => k_is)
  (case k11 => k_is)
  (case dl11 => k_is)
  (case a12 => k_is)
  (case l12 => k_is)
  (case c12 => k_is)
  (case k12 => k_is)
  (case a13 => k_is)
  (case l13 => k_is)
  (case c13 => k_is)
  (case k13 => k_is)
  (case a14 => k_is)
  (case l14 => k_is)
  (case c14 => k_is)
  (case k14 => k_is)
  (case a15 => k_is)
  (case l15 => k_is)
  (case c15 => k_is)
  (case k15 => k_is)
  (case a16 => k_is)
  (case l16 => k_is)
  (case c16 => k_is)
  (case k16 => k_is)
  (case l17 => k_is)
  (case c17 => k_is)
  (case k17 => k_is)
  (case a18 => k_is)
  (case l18 => k_is)
  (case c18 => k_is)
  (case k18 => k_is)
  (case a19 => k_is)
  (case l19 => k_is)
  (case c19 => k_is)
  (case k19 => k_is)
  (case a20 => k_is)
  (case l20 => k_is)
  (case c20 => k_is)
  (case k20 => k_is)
  (case l21 => k_is)
  (case c21 => k_is)
  (case k21 => k_is)
  (case a22 => k_is)
  (case l22 => k_is)
  (case c22 => k_is)
  (case k22 => k_is)
  (case a23 => k_is)
  (case l23 => k_is)
  (case c23 => k_is)
  (case k23 => k_is)
  (case a24 => k_is)
  (case l24 => k_is)
  (case c24 => k_is)
  (case k24 => k_is)
  (case a25 => k_is)
  (case l25 => k_is)
  (case c25 => k_is)
  (case k25 => k_is)
  (case a26 => k_is)
  (case l26 => k_is)
  (case c26 => k_is)
  (case k26 => k_is)
  (case l27 => k_is)
  (case c27 => k_is)
  (case k27 => k_is)
  (case a28 => k_is)
  (case l28 => k_is)
  (case c28 => k_is)
  (case k28 => k_is)
  (case a29 => k_is)
  (case l29 => k_is)
  (case c29 => k_is)
  (case k29 => k_is)
  (case a30 => k_is)
  (case l30 => k_is)
  (case c30 => k_is)
  (case k30 => k_is)
  (case a31 => k_is)
  (case l31 => k_is)
  (case c31 => k_is)
  (case k31 => k_is)
  (case a32 => k_is)
  (case l32 => k_is)
  (case c32 => k_is)
  (case k32 => k_is)
  (case a33 => k_is)
  (case l33 => k_is)
  (case c33 => k_is)
  (case k33 => k_is)
  (case a34 => k_is)
  (case l34 => k_is)
  (case c34 => k_is)
  (case k34 => k_is)
  (case a35 => k_is)
  (case l35 => k_is)
  (case c35 => k_is)
  (case k35 => k_is)
  (case a36 => k_is)
  (case l36 => k_is)
  (case c36 => k_is)
  (case k36 => k_is)
  (case q0 => k_is)
  (case q1 => k_is)
  (case q2 => k_is)
  (case q3 => k_is)
  (case qt3 => k_is)
  (case q4 => k_is)
  (case q5 => k_is)
  (case q6 => k_is)
  (case qt6 => k_is)
  (case q7 => k_is)
  (case qt7 => k_is)
  (case q8 => k_is)
  (case q9 => k_is)
  (case qt9 => k_is)
  (case zz0 => k_is)
  (case zz1 => k_is)
  (case zz2 => k_is)
  (case zz3 => k_is)
  (case zz4 => k_is)
  (case zz5 => k_is)
  (case zz6 => k_is)
  (case zz7 => k_is)
  (case zz8 => k_is)
  (case zz9 => k_is)
  (case zz10 => k_is)
