import PyProof.Rows.All
import Wide.All
import OpenK.AllK
import Wide.FinOn
import Lean
import PyProof.EqAt
import PyProof.EqKinds
import PyProof.TupleCall
import PyProof.EqLayable
import PyProof.FitsBits
import PyProof.FitsInt
import PyProof.ReprLen
import PyProof.ReprReads
import PyProof.StrLawsRepr
import KE.KRevIter
import PySem.Challenge.RW_waitloom_k07_functions_in_order
set_option Elab.async false
set_option linter.all false
set_option genSizeOf false
set_option maxRecDepth 100000
namespace L2
open PySem PySem.Spec PyProof.Rows

noncomputable abbrev Key := Sum Int Str
noncomputable def keyIs : Key → Value → Bool
  | .inl k, v => Value.isInt k v
  | .inr x, v => Value.isStrOf x v
noncomputable def keyH (w : World) : Key → Int
  | .inl k => hashInt k
  | .inr x => hashStr w x
theorem keyIs_shape : ∀ {k : Key} {v : Value}, keyIs k v = true → (∃ i t, k = Sum.inl i ∧ v = Value.int i t) ∨ (∃ x t, k = Sum.inr x ∧ v = Value.str x t)
  | .inl i, v, h => by
    obtain ⟨t, e⟩ := Value.isInt_shape (k := i) (v := v) h
    exact .inl ⟨i, t, rfl, e⟩
  | .inr x, v, h => by
    obtain ⟨t, e⟩ := Value.isStrOf_shape (x := x) (v := v) h
    exact .inr ⟨x, t, rfl, e⟩
theorem keyIs_int (i : Int) (t : Tok) : keyIs (.inl i) (.int i t) = true := by simp [keyIs, Value.isInt]
theorem keyIs_str (x : Str) (t : Tok) : keyIs (.inr x) (.str x t) = true := by simp [keyIs, Value.isStrOf]
theorem key_ll (a b : Int) : decide ((Sum.inl a : Key) = Sum.inl b) = (a == b) := by
  by_cases e : a = b
  · subst e; simp
  · have h : ¬ (Sum.inl a : Key) = Sum.inl b := fun q => e (Sum.inl.inj q)
    rw [decide_eq_false h]
    exact (beq_eq_false_iff_ne.mpr e).symm
theorem key_rr (a b : Str) : decide ((Sum.inr a : Key) = Sum.inr b) = decide (a = b) := by
  by_cases e : a = b
  · subst e; simp
  · have h : ¬ (Sum.inr a : Key) = Sum.inr b := fun q => e (Sum.inr.inj q)
    rw [decide_eq_false h, decide_eq_false e]
theorem key_lr (a : Int) (b : Str) : decide ((Sum.inl a : Key) = Sum.inr b) = false := decide_eq_false (fun q => nomatch q)
theorem key_rl (a : Str) (b : Int) : decide ((Sum.inr a : Key) = Sum.inl b) = false := decide_eq_false (fun q => nomatch q)

noncomputable def mixKind (prog : Program) (w : World) : PySem.KeyKind prog w Key where
  is := keyIs
  hash := keyH w
  inj := fun v a b ha hb => by
    rcases keyIs_shape ha with ⟨i, t, rfl, rfl⟩ | ⟨x, t, rfl, rfl⟩
    · rcases keyIs_shape hb with ⟨j, u, rfl, e⟩ | ⟨y, u, rfl, e⟩
      · injection e with e1 _; rw [e1]
      · exact nomatch e
    · rcases keyIs_shape hb with ⟨j, u, rfl, e⟩ | ⟨y, u, rfl, e⟩
      · exact nomatch e
      · injection e with e1 _; rw [e1]
  byValue := fun k v h => by
    rcases keyIs_shape h with ⟨i, t, rfl, rfl⟩ | ⟨x, t, rfl, rfl⟩ <;> rfl
  pyHash := fun hv h => by
    rcases keyIs_shape hv with ⟨i, t, rfl, rfl⟩ | ⟨x, t, rfl, rfl⟩
    · exact wpAny_pyHash_int h
    · exact wpAny_pyHash_str h
  eqBool := fun hu hv h => by
    rcases keyIs_shape hu with ⟨i, t, rfl, rfl⟩ | ⟨x, t, rfl, rfl⟩
    · rcases keyIs_shape hv with ⟨j, u, rfl, rfl⟩ | ⟨y, u, rfl, rfl⟩
      · rw [key_ll] at h; exact wpAny_eqBool_int h
      · rw [key_lr] at h; exact SeqAt.EqAt.int_str i t y u _ _ _ _ h
    · rcases keyIs_shape hv with ⟨j, u, rfl, rfl⟩ | ⟨y, u, rfl, rfl⟩
      · rw [key_rl] at h; exact SeqAt.EqAt.str_int x t j u _ _ _ _ h
      · rw [key_rr] at h; exact wpAny_eqBool_str h
  «strs» := fun k x t v h => by
    rcases keyIs_shape h with ⟨i, u, rfl, e⟩ | ⟨y, u, rfl, e⟩
    · exact nomatch e
    · injection e with e1 _
      subst e1
      cases v <;> rfl

theorem mixKind_int (prog : Program) (w : World) (i : Int) (t : Tok) : (mixKind prog w).is (.inl i) (.int i t) = true := keyIs_int i t
theorem mixKind_str (prog : Program) (w : World) (x : Str) (t : Tok) : (mixKind prog w).is (.inr x) (.str x t) = true := keyIs_str x t
end L2

namespace L2
open PySem PySem.Spec PyProof.Rows

inductive V where
  | non | bl (b : Bool) | int (i : Int) | str (x : Str) | byt (b : Array UInt8) | flt (b : UInt64) | ref (a : Addr) | ty (n : String)
  deriving DecidableEq

noncomputable def RelV : V → Value → Prop
  | .non, u => u = Value.none
  | .bl b, u => u = Value.bool b
  | .int i, u => ∃ t, u = Value.int i t
  | .str x, u => ∃ t, u = Value.str x t
  | .byt b, u => ∃ t, u = Value.bytes b t
  | .flt b, u => ∃ t, u = Value.float b t
  | .ref a, u => u = Value.ref a
  | .ty n, u => u = Value.type n

noncomputable abbrev Vals : List V → List Value → Prop := Paired RelV
theorem Vals.length {xs : List V} {us : List Value} (r : Vals xs us) : xs.length = us.length := Paired.length r
theorem Vals.get : ∀ {xs : List V} {us : List Value} {i : Nat} {x : V}, Vals xs us → xs[i]? = some x → ∃ u, us[i]? = some u ∧ RelV x u
  | _, _, _, _, .nil, e => by simp at e
  | _, _, 0, _, .cons r _, e => by simp at e; subst e; exact ⟨_, rfl, r⟩
  | _, _, i + 1, x, .cons _ t, e => by
    obtain ⟨u, h1, h2⟩ := Vals.get (i := i) (x := x) t (by simpa using e)
    exact ⟨u, by simpa using h1, h2⟩
theorem Vals.set {x : V} {u : Value} (r : RelV x u) : ∀ {xs : List V} {us : List Value} (i : Nat), Vals xs us → Vals (xs.set i x) (us.set i u)
  | _, _, _, .nil => .nil
  | _, _, 0, .cons _ t => .cons r t
  | _, _, i + 1, .cons q t => .cons q (Vals.set r i t)
theorem Vals.append : ∀ {xs ys : List V} {us ws : List Value}, Vals xs us → Vals ys ws → Vals (xs ++ ys) (us ++ ws)
  | _, _, _, _, .nil, s => s
  | _, _, _, _, .cons r t, s => .cons r (Vals.append t s)
theorem Vals.take : ∀ {xs : List V} {us : List Value} (n : Nat), Vals xs us → Vals (xs.take n) (us.take n)
  | _, _, 0, _ => .nil
  | _, _, _ + 1, .nil => .nil
  | _, _, n + 1, .cons r t => .cons r (Vals.take n t)
theorem Vals.drop : ∀ {xs : List V} {us : List Value} (n : Nat), Vals xs us → Vals (xs.drop n) (us.drop n)
  | _, _, 0, r => r
  | _, _, _ + 1, .nil => .nil
  | _, _, n + 1, .cons _ t => Vals.drop n t
theorem Vals.none_of : ∀ {xs : List V} {us : List Value} {i : Nat}, Vals xs us → xs[i]? = none → us[i]? = none := fun {xs us i} r e => by
  have h1 := r.length
  have h2 : xs.length ≤ i := List.getElem?_eq_none_iff.mp e
  exact List.getElem?_eq_none_iff.mpr (by omega)

noncomputable def RelO : Option V → Option Value → Prop
  | some v, some u => RelV v u
  | none, none => True
  | _, _ => False
noncomputable def KV {κ : Type} : List (κ × V) → List (κ × Value) → Prop := Paired fun (p : κ × V) (q : κ × Value) => p.1 = q.1 ∧ RelV p.2 q.2

noncomputable def kV : Key → V
  | .inl i => .int i
  | .inr x => .str x

inductive HO where
  /-- a list -/
  | lst (xs : List V)
  /-- a tuple (never changes) -/
  | tup (xs : List V)
  /-- a dict whose keys are ints and texts; one whose keys are tuples of ints and texts (the empty one is both) -/
  | dK (kvs : List (Key × V)) | dT (kvs : List (List Key × V))
  /-- a set of ints: its members, its size -/
  | set (S : Int → Bool) (n : Nat)
  /-- an instance of the class at C, its dict at dx, its attributes -/
  | ins (C dx : Addr) (fs : List (Str × V))
  /-- the dict of the instance at x -/
  | own (x : Addr)
  /-- the dict of an exception -/
  | xd (fs : List (Str × V))
  /-- a bound method, f of x -/
  | met (f x : Addr)
  /-- a range object lo, lo + 1, .. below hi -/
  | rng (lo hi : Int)
  /-- a thing that is known to the object (the script; a dict while a loop walks it): read, never written while it is so -/
  | frz (o : Obj) (u : HO)
  /-- a code object's table -/
  | tbl (ps : Array Value)
  /-- any other thing, by what is true of its one object (a def of one's own: SetO a S n := HO.ext fun h => ..) -/
  | ext (φ : Heap → Prop)

noncomputable abbrev Hp := Addr → Option HO
noncomputable def upd (H : Hp) (a : Addr) (o : HO) : Hp := fun b => if b = a then some o else H b
theorem upd_same {H : Hp} {a : Addr} {o : HO} : upd H a o a = some o := by unfold upd; rw [if_pos rfl]
theorem upd_ne {H : Hp} {a b : Addr} {o : HO} (h : b ≠ a) : upd H a o b = H b := by unfold upd; rw [if_neg h]
theorem ne_of {H : Hp} {a b : Addr} {o u : HO} (h : H a = some o) (h' : H b = some u) (d : o ≠ u) : a ≠ b := by
  intro e; subst e; rw [h] at h'; exact d (Option.some.inj h')
theorem ne_of_none {H : Hp} {a b : Addr} {o : HO} (h : H a = some o) (h' : H b = none) : a ≠ b := by
  intro e; subst e; rw [h] at h'; cases h'

section
variable (P : Program) (w : World)
noncomputable def ObjOk (H : Hp) (h : Heap) (a : Addr) : HO → Prop
  | .lst xs => xs.length ≤ sizeLine ∧ ∃ (its : List Value) (n : Nat), Vals xs its ∧ h.get? a = some { cls := .type "list", data := .seq its.toArray n }
  | .tup xs => xs.length ≤ sizeLine ∧ ∃ its : List Value, Vals xs its ∧ IsTup h a its.toArray
  | .dK kvs => kvs.length ≤ sizeLine ∧ (a == sysModules) = false ∧ ∃ vs, KV kvs vs ∧ h.DictOf (mixKind P w) a vs
  | .dT kvs => kvs.length ≤ sizeLine ∧ (a == sysModules) = false ∧ ∃ xs : List (List Key × Addr × Value),
      Paired (fun (p : List Key × V) (q : List Key × Addr × Value) => p.1 = q.1 ∧ H q.2.1 = some (.tup (p.1.map kV)) ∧ RelV p.2 q.2.2) kvs xs ∧
      ∃ o es ep, h.get? a = some o ∧ o.ExactDict ∧ o.data = .dict es ep ∧ es.toList = xs.map (entryOfKey (tupleKind (mixKind P w))) ∧ (xs.map (·.1)).Nodup
  | .set S n => h.SetOf (intKind P w) a S n
  | .ins C dx fs => H dx = some (.own a) ∧ fs.length ≤ 1000 ∧ dx ≠ a ∧ h.get? a = some (PySem.W.instObj C dx) ∧
      ∃ mA, h.Ns1 dx mA ∧ (∀ f, RelO (fs.lookup f) (mA f)) ∧ PySem.Within mA (fs.map (·.1))
  | .own _ => ∃ o, h.get? a = some o
  | .xd fs => ∃ mA, h.Ns1 a mA ∧ ∀ f, RelO (fs.lookup f) (mA f)
  | .rng lo hi => ∃ t u v, h.get? a = some { cls := .type "range", data := .fields #[.int lo t, .int hi u, .int 1 v] }
  | .frz o u => h.get? a = some o ∧ ObjOk H h a u
  | .tbl ps => h.get? a = some { cls := .none, data := .fields ps }
  | .met f x => h.get? a = some (PySem.W.methodObj (.ref f) (.ref x))
  | .ext φ => φ h ∧ (∃ o, h.get? a = some o) ∧ ∀ h1 h2 : Heap, φ h1 → (∀ o, h1.get? a = some o → h2.get? a = some o) → φ h2
noncomputable def HOk (H : Hp) (h : Heap) : Prop := ∀ a o, H a = some o → ObjOk P w H h a o
end

section
variable {P : Program} {w : World} {H H' : Hp} {h h' : Heap} {a : Addr} {o : HO}
theorem ObjOk.lt (x : ObjOk P w H h a o) : a < h.objs.size := by
  cases o with
  | lst xs => obtain ⟨_, _, _, _, e⟩ := x; exact Heap.lt_size e
  | tup xs => obtain ⟨_, _, _, p⟩ := x; exact p.lt
  | dK kvs => obtain ⟨_, _, _, _, o, _, _, e, _⟩ := x; exact Heap.lt_size e
  | dT kvs => obtain ⟨_, _, _, _, o, _, _, e, _⟩ := x; exact Heap.lt_size e
  | set S n => obtain ⟨o, _, _, _, e, _⟩ := x; exact Heap.lt_size e
  | ins C dx fs => obtain ⟨_, _, _, e, _⟩ := x; exact Heap.lt_size e
  | own y => obtain ⟨_, e⟩ := x; exact Heap.lt_size e
  | xd fs => obtain ⟨_, ⟨_, _, _, e, _⟩, _⟩ := x; exact Heap.lt_size e
  | rng lo hi => obtain ⟨_, _, _, e⟩ := x; exact Heap.lt_size e
  | frz ob u => obtain ⟨e, _⟩ := x; exact Heap.lt_size e
  | tbl ps => exact Heap.lt_size (show h.get? a = some _ from x)
  | met f y => exact Heap.lt_size (show h.get? a = some _ from x)
  | ext φ => obtain ⟨_, ⟨_, e⟩, _⟩ := x; exact Heap.lt_size e
theorem Paired.mapP {α β : Type} {F G : α → β → Prop} : ∀ {l₁ : List α} {l₂ : List β}, Paired F l₁ l₂ → (∀ a b, F a b → G a b) → Paired G l₁ l₂
  | _, _, .nil, _ => .nil
  | _, _, .cons r t, f => .cons (f _ _ r) (Paired.mapP t f)
theorem ObjOk.stay (x : ObjOk P w H h a o) (k : ∀ b u, (b = a ∨ H b = some (.own a)) → h.get? b = some u → h'.get? b = some u)
    (ho : ∀ b, H b = some (.own a) → H' b = some (.own a)) (ht : ∀ b xs, H b = some (.tup xs) → H' b = some (.tup xs)) : ObjOk P w H' h' a o := by
  induction o with
  | lst xs => obtain ⟨z, its, n, r, e⟩ := x; exact ⟨z, its, n, r, k _ _ (.inl rfl) e⟩
  | tup xs => obtain ⟨z, its, r, ob, e, c⟩ := x; exact ⟨z, its, r, ob, k _ _ (.inl rfl) e, c⟩
  | dK kvs => obtain ⟨z, y, vs, r, ob, es, ep, e, c⟩ := x; exact ⟨z, y, vs, r, ob, es, ep, k _ _ (.inl rfl) e, c⟩
  | dT kvs =>
    obtain ⟨z, y, xs, r, ob, es, ep, e, c⟩ := x
    exact ⟨z, y, xs, Paired.mapP r fun p q z => ⟨z.1, ht _ _ z.2.1, z.2.2⟩, ob, es, ep, k _ _ (.inl rfl) e, c⟩
  | set S n => obtain ⟨ob, es, ep, t, e, c⟩ := x; exact ⟨ob, es, ep, t, k _ _ (.inl rfl) e, c⟩
  | ins C dx fs =>
    obtain ⟨d, z, ne, e, mA, ⟨od, es, ep, e2, c⟩, r⟩ := x
    exact ⟨ho _ d, z, ne, k _ _ (.inl rfl) e, mA, ⟨od, es, ep, k _ _ (.inr d) e2, c⟩, r⟩
  | own y => obtain ⟨ob, e⟩ := x; exact ⟨ob, k _ _ (.inl rfl) e⟩
  | xd fs => obtain ⟨mA, ⟨od, es, ep, e, c⟩, r⟩ := x; exact ⟨mA, ⟨od, es, ep, k _ _ (.inl rfl) e, c⟩, r⟩
  | rng lo hi => obtain ⟨t, u, v, e⟩ := x; exact ⟨t, u, v, k _ _ (.inl rfl) e⟩
  | frz ob u ih => obtain ⟨e, q⟩ := x; exact ⟨k _ _ (.inl rfl) e, ih q⟩
  | tbl ps =>
    have e : h.get? a = some { cls := .none, data := .fields ps } := x
    show h'.get? a = some { cls := .none, data := .fields ps }
    exact k a _ (.inl rfl) e
  | met f y =>
    have e : h.get? a = some (PySem.W.methodObj (.ref f) (.ref y)) := x
    show h'.get? a = some (PySem.W.methodObj (.ref f) (.ref y))
    exact k a _ (.inl rfl) e
  | ext φ => obtain ⟨p, ⟨o, e⟩, st⟩ := x; exact ⟨st _ _ p fun o q => k _ _ (.inl rfl) q, ⟨o, k _ _ (.inl rfl) e⟩, st⟩
theorem HOk.lt (x : HOk P w H h) (e : H a = some o) : a < h.objs.size := (x a o e).lt
theorem HOk.fresh (x : HOk P w H h) (e : h.objs.size ≤ a) : H a = none := by
  cases q : H a with
  | none => rfl
  | some u => exact absurd (Nat.lt_of_lt_of_le (x.lt q) e) (Nat.lt_irrefl _)
theorem HOk.kept (x : HOk P w H h) (k : ∀ b u, h.get? b = some u → h'.get? b = some u) : HOk P w H h' := fun a o e =>
  (x a o e).stay (fun b u _ q => k b u q) (fun _ q => q) fun _ _ q => q
theorem HOk.laid (x : HOk P w H h) (k : ∀ b u, h.get? b = some u → h'.get? b = some u) (hp : h.objs.size ≤ a) (new : ObjOk P w (upd H a o) h' a o) : HOk P w (upd H a o) h' := fun b u e => by
  have hn := x.fresh hp
  by_cases hb : b = a
  · subst hb; rw [upd_same] at e; cases e; exact new
  · rw [upd_ne hb] at e
    exact (x b u e).stay (fun c v _ q => k c v q) (fun c q => by rw [upd_ne (ne_of_none q hn)]; exact q) fun c xs q => by rw [upd_ne (ne_of_none q hn)]; exact q
end

noncomputable def Rd (H : Hp) (a : Addr) (u : HO) : Prop := H a = some u ∨ ∃ o, H a = some (.frz o u)
theorem Rd.ok {P : Program} {w : World} {H : Hp} {h : Heap} {a : Addr} {u : HO} (r : Rd H a u) (x : HOk P w H h) : ObjOk P w H h a u := by
  rcases r with r | ⟨o, r⟩
  · exact x a u r
  · obtain ⟨_, q⟩ := x a _ r
    exact q
noncomputable def Mut : Option HO → Prop
  | some (.lst _) => True
  | some (.dK _) => True
  | some (.dT _) => True
  | some (.set _ _) => True
  | some (.ins _ _ _) => True
  | some (.ext _) => True
  | _ => False
section
variable {P : Program} {w : World} {H : Hp} {h h' : Heap} {x e : Addr} {o' : HO}
theorem HOk.write (ok : HOk P w H h) (mu : Mut (H x)) (he : e = x ∨ H e = some (.own x)) (k : ∀ b u, b ≠ e → h.get? b = some u → h'.get? b = some u) (heo : ∃ u, h'.get? e = some u)
    (new : ObjOk P w (upd H x o') h' x o') : HOk P w (upd H x o') h' := fun b u q => by
  have nown : ∀ c y, H c = some (.own y) → c ≠ x := fun c y r z => by subst z; rw [r] at mu; exact mu
  have ntup : ∀ c xs, H c = some (.tup xs) → c ≠ x := fun c xs r z => by subst z; rw [r] at mu; exact mu
  by_cases hb : b = x
  · subst hb; rw [upd_same] at q; cases q; exact new
  · rw [upd_ne hb] at q
    by_cases hbe : b = e
    · have q' : H b = some (.own x) := by
        rcases he with z | z
        · exact absurd (hbe.trans z) hb
        · rw [hbe]; exact z
      rw [q] at q'; cases q'
      obtain ⟨v, hv⟩ := heo
      exact ⟨v, by rw [hbe]; exact hv⟩
    · refine (ok b u q).stay (fun c v hc r => k c v ?_ r) (fun c r => by rw [upd_ne (nown c b r)]; exact r) fun c xs r => by rw [upd_ne (ntup c xs r)]; exact r
      rcases hc with rfl | hc
      · exact hbe
      · rintro rfl
        rcases he with z | z
        · exact nown c b hc z
        · rw [hc] at z; cases z; exact hb rfl
end

structure Un (fs ex : List Addr) (H H' : Hp) (h h' : Heap) : Prop where
  keep : ∀ b o, h.get? b = some o → H b = none → b ∉ fs → b ∉ ex → h'.get? b = some o
  slot : ∀ b o, h.get? b = some o → H b = none → b ∈ fs → b ∉ ex → ∃ sl, h'.get? b = some { o with slots := sl }
  free : ∀ b o, h.get? b = some o → H b = none → b ∉ ex → H' b = none
  there : ∀ b o, h.get? b = some o → b ∉ ex → ∃ o', h'.get? b = some o'
  tups : ∀ b xs, H b = some (.tup xs) → H' b = some (.tup xs)
  frzs : ∀ b o u, H b = some (.frz o u) → H' b = some (.frz o u)
  tbls : ∀ b ps, H b = some (.tbl ps) → ∃ more, H' b = some (.tbl (ps ++ more))
section
variable {fs fs' ex ex' : List Addr} {H H1 H2 : Hp} {h h1 h2 h' : Heap} {a x e : Addr} {o : HO}
theorem Un.any (u : Un fs ex H H1 h h1) {b : Addr} {ob : Obj} (q : h.get? b = some ob) (n : H b = none) (hx : b ∉ ex) : ∃ sl, h1.get? b = some { ob with slots := sl } := by
  by_cases hb : b ∈ fs
  · exact u.slot b ob q n hb hx
  · exact ⟨ob.slots, u.keep b ob q n hb hx⟩
theorem Un.kept (k : ∀ b u, h.get? b = some u → h'.get? b = some u) : Un fs ex H H h h' :=
  ⟨fun b ob q _ _ _ => k b ob q, fun b ob q _ _ _ => ⟨ob.slots, k b ob q⟩, fun _ _ _ n _ => n, fun b ob q _ => ⟨ob, k b ob q⟩, fun _ _ q => q, fun _ _ _ q => q, fun _ ps q => ⟨#[], by rw [q]; simp⟩⟩
theorem Un.refl : Un fs ex H H h h := Un.kept fun _ _ q => q
theorem Un.laid (k : ∀ b u, h.get? b = some u → h'.get? b = some u) (hp : h.objs.size ≤ a) (hn : H a = none) : Un fs ex H (upd H a o) h h' where
  keep := fun b u q _ _ _ => k b u q
  slot := fun b u q _ _ _ => ⟨u.slots, k b u q⟩
  free := fun b u q n _ => by rw [upd_ne (Nat.ne_of_lt (Nat.lt_of_lt_of_le (Heap.lt_size q) hp))]; exact n
  there := fun b u q _ => ⟨u, k b u q⟩
  tups := fun b xs q => by rw [upd_ne (ne_of_none q hn)]; exact q
  frzs := fun b u xs q => by rw [upd_ne (ne_of_none q hn)]; exact q
  tbls := fun b ps q => ⟨#[], by rw [upd_ne (ne_of_none q hn), q]; simp⟩
theorem Un.write (mu : Mut (H x)) (he : e = x ∨ H e = some (.own x)) (k : ∀ b u, b ≠ e → h.get? b = some u → h'.get? b = some u) (heo : ∃ u, h'.get? e = some u) : Un fs ex H (upd H x o) h h' := by
  have hx : ∀ b, H b = none → b ≠ x := fun b n z => by subst z; rw [n] at mu; exact mu
  have hb : ∀ b, H b = none → b ≠ e := fun b n z => by
    subst z
    rcases he with r | r
    · exact hx b n r
    · rw [n] at r; cases r
  have hm : ∀ b u, H b = some u → ¬ Mut (some u) → b ≠ x := fun b u q nm z => by subst z; rw [q] at mu; exact nm mu
  refine ⟨fun b u q n _ _ => k b u (hb b n) q, fun b u q n _ _ => ⟨u.slots, k b u (hb b n) q⟩, fun b u q n _ => by rw [upd_ne (hx b n)]; exact n, fun b u q _ => ?_,
    fun b xs q => by rw [upd_ne (hm b _ q fun z => z)]; exact q, fun b u xs q => by rw [upd_ne (hm b _ q fun z => z)]; exact q, fun b ps q => ⟨#[], by rw [upd_ne (hm b _ q fun z => z), q]; simp⟩⟩
  by_cases hbe : b = e
  · subst hbe; exact heo
  · exact ⟨u, k b u hbe q⟩
end

noncomputable def trk (h : Heap) (H : Hp) : List Addr := (List.range h.objs.size).filter fun a => (H a).isSome
noncomputable def hidT (h : Heap) (H : Hp) : Heap := PySem.W.hideAll h (trk h H)
theorem hidT_size (h : Heap) (H : Hp) : (hidT h H).objs.size = h.objs.size := PySem.W.hideAll_size _ _
theorem hidT_get {h : Heap} {H : Hp} {b : Addr} {o : Obj} (e : h.get? b = some o) (n : H b = none) : (hidT h H).get? b = some o :=
  PySem.W.hideAll_get _ e fun hm => by
    have q : (H b).isSome = true := (List.mem_filter.mp hm).2
    rw [n] at q; simp at q
theorem of_hidT {h : Heap} {H : Hp} {b : Addr} {o : Obj} (e : (hidT h H).get? b = some o) : h.get? b = some o ∧ H b = none := by
  have e' : h.get? b = some o := PySem.W.of_hideAll (trk h H) e
  refine ⟨e', ?_⟩
  cases q : H b with
  | none => rfl
  | some x =>
    have hm : b ∈ trk h H := List.mem_filter.mpr ⟨List.mem_range.mpr (Heap.lt_size e'), by simp [q]⟩
    have z : (hidT h H).get? b = none := PySem.W.hideAll_none (trk h H) hm
    rw [z] at e; cases e

end L2

namespace L2
open PySem PySem.Spec PyProof.Rows

structure Mod (K : PySem.W.Frag) (mg : Str → Option Value) (base : Heap) : Prop where
  kin : K.In base
  glob : base.Ns mainGlobals mg
  blt : ∃ mb, base.Ns builtinsNs mb ∧ ∀ x : Str, x ≠ "__name__" → mb x = bootBuiltins x
  nolimit : base.NoLimit

structure Cx where
  prog : Program
  w : World
  K : PySem.W.Frag
  mg : Str → Option Value
  base : Heap
  A : Around
  N : List Str
  s₀ : Shared
  H₀ : Hp
  env : Env
  outer : List Env
  stack : List Env
  ex : List Addr
  fn : Str → Bool
  calm : Bool
  pn : List (Addr × Obj)
  xe : Value → Shared → Prop
noncomputable def frs (l : List Env) : List Addr := l.filterMap (·.frame)
noncomputable abbrev Cx.fs (X : Cx) : List Addr := frs X.outer

noncomputable def Vis (sc : Scope) (x : Str) : Prop := sc.names.lookup x = some .local ∨ sc.names.lookup x = some .cell ∨ sc.names.lookup x = some .free
noncomputable def Loc (sc : Scope) (x : Str) : Prop := sc.names.lookup x = some .local ∨ sc.names.lookup x = some .cell
noncomputable def Look (env : Env) (h : Heap) (m : Str → Option Value) (x : Str) (u : Value) : Prop :=
  (env.kindOf x = some .local ∧ m x = some u) ∨ ((env.kindOf x = some .cell ∨ env.kindOf x = some .free) ∧ ∃ c, env.cells.lookup x = some c ∧ h.IsCell c (some u))

structure Cx.Ok (X : Cx) : Prop where
  mod : Mod X.K X.mg X.base
  kind : X.env.scope.kind = .function
  glob : X.env.globals = mainGlobals
  blt : X.env.builtins = builtinsNs
  above : X.s₀.heap.objs.size ≤ X.env.locals
  inj : ∀ x y c, X.env.cells.lookup x = some c → X.env.cells.lookup y = some c → x = y
  has : ∀ x, (X.env.kindOf x = some .cell ∨ X.env.kindOf x = some .free) → ∃ c, X.env.cells.lookup x = some c
  cab : ∀ x c, X.fn x = true → X.env.cells.lookup x = some c → X.s₀.heap.objs.size ≤ c
  hd : X.calm = true → X.A.handled = none
  frames : X.A.frames = some X.stack
  stk : X.stack = X.outer ∨ (X.stack = X.env :: X.outer ∧ X.env.frame = some X.env.locals)
  exf : ∀ b ∈ X.ex, b ≠ X.env.locals ∧ ∀ x c, X.env.cells.lookup x = some c → c ≠ b
  bs : ∀ b o, X.base.get? b = some o → X.s₀.heap.get? b = some o ∧ X.H₀ b = none
  bsz : X.base.objs.size ≤ X.s₀.heap.objs.size
  noex : ∀ b o, X.base.get? b = some o → b ∉ X.ex
  exfs : ∀ b ∈ X.ex, b ∉ X.fs
  funs : X.s₀.heap.FunFrames X.base X.outer
  frf : ∀ b ∈ X.fs, X.H₀ b = none

structure Inv (X : Cx) (pins : List (Addr × Obj)) (σ : List (Option V)) (H : Hp) (s : Shared) : Prop where
  ok : X.Ok
  os : s.os = X.s₀.os
  bare : AllBare s.gens
  base : Un X.fs X.ex X.H₀ H X.s₀.heap s.heap
  loc : ∃ m, s.heap.Ns X.env.locals m ∧ ∀ (i : Nat) (x : Str) (v : V), X.N[i]? = some x → σ[i]? = some (some v) → Vis X.env.scope x → ∃ u, RelV v u ∧ Look X.env s.heap m x u
  cell : ∀ x c, X.env.cells.lookup x = some c → ∃ v, s.heap.IsCell c v
  free : H X.env.locals = none
  freeC : ∀ x c, X.env.cells.lookup x = some c → H c = none
  pin : ∀ p ∈ X.pn ++ pins, s.heap.get? p.1 = some p.2 ∧ H p.1 = none ∧ p.1 ≠ X.env.locals ∧ p.1 ∉ X.fs ∧ ∀ v, p.2.data ≠ .cell v
  hok : HOk X.prog X.w H s.heap
  len : σ.length = X.N.length

section
variable {X : Cx} {pins : List (Addr × Obj)} {σ : List (Option V)} {H H' : Hp} {s : Shared} {h' : Heap}

theorem Cx.Ok.nofr (ok : X.Ok) {b : Addr} {o : Obj} (e : X.base.get? b = some o) : b ∉ X.fs := fun hb => by
  have := (ok.funs.mem hb).1
  rw [e] at this; cases this
theorem Inv.bs (I : Inv X pins σ H s) : ∀ b o, X.base.get? b = some o → s.heap.get? b = some o ∧ H b = none := fun b o e =>
  ⟨I.base.keep b o (I.ok.bs b o e).1 (I.ok.bs b o e).2 (I.ok.nofr e) (I.ok.noex b o e), I.base.free b o (I.ok.bs b o e).1 (I.ok.bs b o e).2 (I.ok.noex b o e)⟩
theorem Inv.bk (I : Inv X pins σ H s) : ∀ b o, X.base.get? b = some o → s.heap.get? b = some o := fun b o e => (I.bs b o e).1
theorem Inv.mod (I : Inv X pins σ H s) : Mod X.K X.mg X.base := I.ok.mod
theorem Inv.kIn (I : Inv X pins σ H s) : X.K.In s.heap := I.ok.mod.kin.keeps I.bk
theorem Inv.lt (I : Inv X pins σ H s) : X.env.locals < s.heap.objs.size := let ⟨_, hn, _⟩ := I.loc; hn.lt
theorem Inv.sz (I : Inv X pins σ H s) : X.s₀.heap.objs.size ≤ s.heap.objs.size := Nat.le_trans I.ok.above (Nat.le_of_lt I.lt)
theorem Inv.nofs (I : Inv X pins σ H s) {a : Addr} (h : s.heap.objs.size ≤ a) : a ∉ X.fs := fun hb => by
  obtain ⟨_, o, ho, _⟩ := I.ok.funs.mem hb
  exact absurd (Nat.lt_of_lt_of_le (Heap.lt_size ho) (Nat.le_trans I.sz h)) (Nat.lt_irrefl _)
theorem Inv.cne (I : Inv X pins σ H s) : ∀ x c, X.env.cells.lookup x = some c → c ≠ X.env.locals := fun x c e z => by
  obtain ⟨v, o, ho, hd⟩ := I.cell x c e
  obtain ⟨m, ⟨o', es, ep, ho', hd', _⟩, _⟩ := I.loc
  rw [z, ho'] at ho; cases ho; rw [hd'] at hd; cases hd
theorem Inv.funs (I : Inv X pins σ H s) : s.heap.FunFrames X.base X.outer := by
  have all : ∀ (l : List Env), (∀ b ∈ frs l, b ∈ X.fs) → X.s₀.heap.FunFrames X.base l → s.heap.FunFrames X.base l := by
    intro l
    induction l with
    | nil => intro _ _; trivial
    | cons env r ih =>
      intro hs hl
      obtain ⟨hk, ⟨L, o, hf, hn, ho, hd⟩, hr⟩ := hl
      have hL : L ∈ X.fs := hs L (by unfold frs; rw [List.filterMap_cons, hf]; exact List.mem_cons_self)
      obtain ⟨sl, e⟩ := I.base.slot L o ho (I.ok.frf L hL) hL fun z => I.ok.exfs L z hL
      exact ⟨hk, ⟨L, _, hf, hn, e, hd⟩, ih (fun b hb => hs b (by unfold frs; rw [List.filterMap_cons, hf]; exact List.mem_cons_of_mem _ hb)) hr⟩
  exact all X.outer (fun _ hb => hb) I.ok.funs

theorem Inv.stack (I : Inv X pins σ H s) : s.heap.FunFrames X.base X.stack := by
  rcases I.ok.stk with e | ⟨e, hf⟩
  · rw [e]; exact I.funs
  · rw [e]
    obtain ⟨m, hn, _⟩ := I.loc
    refine .cons (by rw [I.ok.kind]; decide) hf hn ?_ I.funs
    exact Heap.get?_none_of_le (Nat.le_trans I.ok.bsz I.ok.above)
theorem Inv.stkSub (I : Inv X pins σ H s) : ∀ b ∈ frs X.stack, b ∈ X.env.locals :: X.fs := fun b hb => by
  rcases I.ok.stk with e | ⟨e, hf⟩
  · rw [e] at hb; exact List.mem_cons_of_mem _ hb
  · rw [e] at hb
    unfold frs at hb
    rw [List.filterMap_cons, hf] at hb
    exact hb
theorem Inv.stkFree (I : Inv X pins σ H s) : ∀ b ∈ frs X.stack, H b = none := fun b hb => by
  rcases List.mem_cons.mp (I.stkSub b hb) with e | hb
  · rw [e]; exact I.free
  · obtain ⟨_, o, ho, _⟩ := I.ok.funs.mem hb
    exact I.base.free b o ho (I.ok.frf b hb) fun z => I.ok.exfs b z hb

theorem Inv.step {g' : Array GenState} {t' : Nat} {d' : Drawn} {ch : List Addr} (I : Inv X pins σ H s)
    (hch : ∀ b ∈ ch, (b ∈ X.ex ∨ X.s₀.heap.objs.size ≤ b) ∧ b ≠ X.env.locals ∧ (∀ x c, X.env.cells.lookup x = some c → c ≠ b) ∧ ∀ p ∈ X.pn ++ pins, p.1 ≠ b)
    (keep : ∀ b o, b ≠ X.env.locals → b ∉ X.fs → b ∉ ch → s.heap.get? b = some o → H b = none → h'.get? b = some o)
    (slot : ∀ b o, b ≠ X.env.locals → b ∈ X.fs → b ∉ ch → s.heap.get? b = some o → H b = none → ∃ sl, h'.get? b = some { o with slots := sl }) (free : ∀ b o, b ∉ ch → s.heap.get? b = some o → H b = none → H' b = none)
    (there : ∀ b o, b ∉ ch → s.heap.get? b = some o → ∃ o', h'.get? b = some o')
    (tups : ∀ b xs, H b = some (.tup xs) → H' b = some (.tup xs)) (frzs : ∀ b o u, H b = some (.frz o u) → H' b = some (.frz o u)) (tbls : ∀ b ps, H b = some (.tbl ps) → ∃ more, H' b = some (.tbl (ps ++ more)))
    (ns : ∀ m, s.heap.Ns X.env.locals m → h'.Ns X.env.locals m) (hok : HOk X.prog X.w H' h') (hg : AllBare g') :
    Inv X pins σ H' { s with heap := h', gens := g', drawn := d', toks := t' } := by
  have neL : ∀ b o, X.s₀.heap.get? b = some o → b ≠ X.env.locals := fun b o e => Nat.ne_of_lt (Nat.lt_of_lt_of_le (Heap.lt_size e) I.ok.above)
  have neC : ∀ b o, X.s₀.heap.get? b = some o → b ∉ X.ex → b ∉ ch := fun b o e hx hb => by
    rcases (hch b hb).1 with z | z
    · exact hx z
    · exact absurd (Nat.lt_of_lt_of_le (Heap.lt_size e) z) (Nat.lt_irrefl _)
  have cellK : ∀ x c, X.env.cells.lookup x = some c → ∀ v, s.heap.IsCell c v → h'.IsCell c v := fun x c e v ⟨o, ho, hd⟩ => by
    have nch : c ∉ ch := fun z => (hch c z).2.2.1 x c e rfl
    by_cases hc : c ∈ X.fs
    · obtain ⟨sl, q⟩ := slot c o (I.cne x c e) hc nch ho (I.freeC x c e)
      exact ⟨_, q, hd⟩
    · exact ⟨o, keep c o (I.cne x c e) hc nch ho (I.freeC x c e), hd⟩
  refine ⟨I.ok, I.os, hg, ⟨fun b o e n hb hx => ?_, fun b o e n hb hx => ?_, fun b o e n hx => ?_, fun b o e hx => ?_, fun b xs e => tups b xs (I.base.tups b xs e), fun b o xs e => frzs b o xs (I.base.frzs b o xs e), fun b ps e => ?_⟩, ?_, fun x c e => ?_, ?_, fun x c e => ?_, fun p hp => ?_, hok, I.len⟩
  · exact keep b o (neL b o e) hb (neC b o e hx) (I.base.keep b o e n hb hx) (I.base.free b o e n hx)
  · obtain ⟨sl, e1⟩ := I.base.slot b o e n hb hx
    obtain ⟨sl', e2⟩ := slot b _ (neL b o e) hb (neC b o e hx) e1 (I.base.free b o e n hx)
    exact ⟨sl', e2⟩
  · obtain ⟨o', e1⟩ := I.base.there b o e hx
    exact free b o' (neC b o e hx) e1 (I.base.free b o e n hx)
  · obtain ⟨o', e1⟩ := I.base.there b o e hx
    exact there b o' (neC b o e hx) e1
  · obtain ⟨m1, e1⟩ := I.base.tbls b ps e
    obtain ⟨m2, e2⟩ := tbls b _ e1
    exact ⟨m1 ++ m2, by rw [e2, Array.append_assoc]⟩
  · obtain ⟨m, hn, hl⟩ := I.loc
    refine ⟨m, ns m hn, fun i x v e1 e2 e3 => ?_⟩
    obtain ⟨u, r, l⟩ := hl i x v e1 e2 e3
    refine ⟨u, r, ?_⟩
    rcases l with l | ⟨k, c, e, z⟩
    · exact .inl l
    · exact .inr ⟨k, c, e, cellK x c e _ z⟩
  · obtain ⟨v, z⟩ := I.cell x c e
    exact ⟨v, cellK x c e v z⟩
  · obtain ⟨m, ⟨o, _, _, ho, _⟩, _⟩ := I.loc
    exact free _ o (fun z => (hch _ z).2.1 rfl) ho I.free
  · obtain ⟨v, o, ho, hd⟩ := I.cell x c e
    exact free c o (fun z => (hch c z).2.2.1 x c e rfl) ho (I.freeC x c e)
  · obtain ⟨e, n, ne, nf, d⟩ := I.pin p hp
    have nch : p.1 ∉ ch := fun z => (hch p.1 z).2.2.2 p hp rfl
    exact ⟨keep p.1 p.2 ne nf nch e n, free p.1 p.2 nch e n, ne, nf, d⟩
theorem Inv.un {t' : Nat} (I : Inv X pins σ H s) (u : Un X.fs [] H H' s.heap h') (hok : HOk X.prog X.w H' h') : Inv X pins σ H' { s with heap := h', toks := t' } := by
  obtain ⟨m, ⟨o, es, ep, ho, r⟩, _⟩ := id I.loc
  obtain ⟨sl, hL⟩ := u.any ho I.free (by simp)
  exact I.step (g' := s.gens) (d' := s.drawn) (ch := []) (fun _ z => nomatch z) (fun b o _ hb _ e n => u.keep b o e n hb (by simp)) (fun b o _ hb _ e n => u.slot b o e n hb (by simp)) (fun b o _ e n => u.free b o e n (by simp)) (fun b o _ e => u.there b o e (by simp)) u.tups u.frzs u.tbls (fun m' hm => by
    obtain ⟨o', es', ep', ho', r'⟩ := hm
    rw [ho] at ho'; cases ho'
    exact ⟨_, es', ep', hL, r'⟩) hok I.bare
theorem Inv.call {g' : Array GenState} {t' : Nat} {d' : Drawn} {ch : List Addr} (I : Inv X pins σ H s) (u : Un (frs X.stack) ch H H' s.heap h') (hok : HOk X.prog X.w H' h') (hg : AllBare g')
    (hch : ∀ b ∈ ch, (b ∈ X.ex ∨ X.s₀.heap.objs.size ≤ b) ∧ b ≠ X.env.locals ∧ (∀ x c, X.env.cells.lookup x = some c → c ≠ b) ∧ ∀ p ∈ X.pn ++ pins, p.1 ≠ b) :
    Inv X pins σ H' { s with heap := h', gens := g', drawn := d', toks := t' } := by
  obtain ⟨m, ⟨o, es, ep, ho, r⟩, _⟩ := id I.loc
  obtain ⟨sl, hL⟩ := u.any ho I.free fun z => (hch _ z).2.1 rfl
  exact I.step (ch := ch) hch (fun b o hL hb hc e n => u.keep b o e n (fun z => (List.mem_cons.mp (I.stkSub b z)).elim hL hb) hc) (fun b o _ _ hc e n => u.any e n hc) (fun b o hc e n => u.free b o e n hc) (fun b o hc e => u.there b o e hc) u.tups u.frzs u.tbls (fun m' hm => by
    obtain ⟨o', es', ep', ho', r'⟩ := hm
    rw [ho] at ho'; cases ho'
    exact ⟨_, es', ep', hL, r'⟩) hok hg
theorem Inv.turned {t' : Nat} {it : Addr} (I : Inv X pins σ H s) (k : ∀ b o, b ≠ it → s.heap.get? b = some o → h'.get? b = some o) (hn : H it = none) (hL : it ≠ X.env.locals)
    (h1 : it ∈ X.ex ∨ X.s₀.heap.objs.size ≤ it) (h2 : ∀ x c, X.env.cells.lookup x = some c → c ≠ it) (h3 : ∀ p ∈ X.pn ++ pins, p.1 ≠ it) : Inv X pins σ H { s with heap := h', toks := t' } := by
  have nit : ∀ b u, H b = some u → b ≠ it := fun b u e z => by rw [z, hn] at e; cases e
  refine I.step (g' := s.gens) (d' := s.drawn) (ch := [it]) (fun b hb => ?_) (fun b o _ _ hc e _ => k b o (fun z => hc (by simp [z])) e) (fun b o _ _ hc e _ => ⟨o.slots, k b o (fun z => hc (by simp [z])) e⟩) (fun _ _ _ _ n => n)
    (fun b o hc e => ⟨o, k b o (fun z => hc (by simp [z])) e⟩) (fun _ _ e => e) (fun _ _ _ e => e) (fun b ps e => ⟨#[], by rw [e]; simp⟩) (fun m hm => ?_) (fun b u e => ?_) I.bare
  · have e : b = it := by simpa using hb
    subst e
    exact ⟨h1, hL, h2, h3⟩
  · obtain ⟨o, es, ep, ho, r⟩ := hm
    exact ⟨o, es, ep, k _ o (Ne.symm hL) ho, r⟩
  · refine (I.hok b u e).stay (fun c v hc q => k c v ?_ q) (fun _ q => q) fun _ _ q => q
    rcases hc with z | z
    · rw [z]; exact nit b u e
    · exact nit c _ z
theorem Inv.tok (I : Inv X pins σ H s) (t : Nat) : Inv X pins σ H { s with toks := t } := I.un (h' := s.heap) (t' := t) Un.refl I.hok
theorem Inv.kept {t' : Nat} (I : Inv X pins σ H s) (k : ∀ b u, s.heap.get? b = some u → h'.get? b = some u) : Inv X pins σ H { s with heap := h', toks := t' } := I.un (Un.kept k) (I.hok.kept k)
theorem Inv.laid {a : Addr} {o : HO} {t' : Nat} (I : Inv X pins σ H s) (k : ∀ b u, s.heap.get? b = some u → h'.get? b = some u) (hp : s.heap.objs.size ≤ a) (new : ObjOk X.prog X.w (upd H a o) h' a o) :
    Inv X pins σ (upd H a o) { s with heap := h', toks := t' } := I.un (Un.laid k hp (I.hok.fresh hp)) (I.hok.laid k hp new)
theorem Inv.write {x e : Addr} {o : HO} {t' : Nat} (I : Inv X pins σ H s) (mu : Mut (H x)) (he : e = x ∨ H e = some (.own x)) (k : ∀ b u, b ≠ e → s.heap.get? b = some u → h'.get? b = some u) (heo : ∃ u, h'.get? e = some u)
    (new : ObjOk X.prog X.w (upd H x o) h' x o) : Inv X pins σ (upd H x o) { s with heap := h', toks := t' } := I.un (Un.write mu he k heo) (I.hok.write mu he k heo new)
theorem Inv.weak {σ' : List (Option V)} (I : Inv X pins σ H s) (hl : σ'.length = σ.length) (w : ∀ (i : Nat) v, σ'[i]? = some (some v) → σ[i]? = some (some v)) : Inv X pins σ' H s :=
  ⟨I.ok, I.os, I.bare, I.base, let ⟨m, hn, hl'⟩ := I.loc; ⟨m, hn, fun i x v e1 e2 e3 => hl' i x v e1 (w i v e2) e3⟩, I.cell, I.free, I.freeC, I.pin, I.hok, hl.trans I.len⟩
theorem Inv.pins_of {pins' : List (Addr × Obj)} (I : Inv X pins σ H s) (h : ∀ p ∈ pins', s.heap.get? p.1 = some p.2 ∧ H p.1 = none ∧ p.1 ≠ X.env.locals ∧ p.1 ∉ X.fs ∧ ∀ v, p.2.data ≠ .cell v) : Inv X pins' σ H s :=
  ⟨I.ok, I.os, I.bare, I.base, I.loc, I.cell, I.free, I.freeC, fun p hp => (List.mem_append.mp hp).elim (fun z => I.pin p (List.mem_append_left _ z)) (h p), I.hok, I.len⟩

theorem nodup_ix {N : List Str} (hN : N.Nodup) {i j : Nat} {x : Str} (a : N[i]? = some x) (b : N[j]? = some x) : i = j := by
  obtain ⟨h1, e1⟩ := List.getElem?_eq_some_iff.mp a
  obtain ⟨h2, e2⟩ := List.getElem?_eq_some_iff.mp b
  exact (List.getElem_inj hN).mp (e1.trans e2.symm)

theorem store_ok2 {M : Model} {A : Around} {E : Value → Shared → Prop} {i : Nat} {x : Str} {v : V} {u : Value} {Q : Unit → Shared → Prop} (I : Inv X pins σ H s) (hN : X.N.Nodup) (hi : X.N[i]? = some x) (hx : Loc X.env.scope x) (r : RelV v u)
    (h : ∀ s', Inv X pins (σ.set i (some v)) H s' → (∃ a, Heap.SameBut a s.heap s'.heap ∧ (a = X.env.locals ∨ X.env.cells.lookup x = some a)) → Q () s') (hf : X.fn x = true ∨ X.env.scope.names.lookup x = some .local := by first | exact .inl rfl | exact .inr rfl | assumption) : wpAny M A (storeName X.env x u) Q E s := by
  obtain ⟨m, hn, hl⟩ := id I.loc
  have hcls : (X.env.scope.kind == .class || (X.env.scope.kind == .module && X.env.locals != X.env.globals)) = false := by rw [I.ok.kind]; rfl
  have hiσ : i < σ.length := by rw [I.len]; exact (List.getElem?_eq_some_iff.mp hi).1
  have cne := I.cne
  have tracked : ∀ {a : Addr} {h' : Heap}, (∃ o, s.heap.get? a = some o ∧ H a = none) → Heap.SameBut a s.heap h' → HOk X.prog X.w H h' := fun {a h'} ha hs b ob e => by
    obtain ⟨_, _, hfree⟩ := ha
    refine (I.hok b ob e).stay (fun c w' hc q => (hs.2 c ?_).trans q) (fun _ q => q) fun _ _ q => q
    rintro rfl
    rcases hc with rfl | hc
    · rw [hfree] at e; cases e
    · rw [hfree] at hc; cases hc
  rcases hx with hk | hk
  · refine wpAny_storeName_local hk hn (fun h' hn' hs => ?_) hcls
    obtain ⟨oL, _, _, hoL, _⟩ := id hn
    refine h _ ⟨I.ok, I.os, I.bare, ⟨fun b o e n hb hx => ?_, fun b o e n hb hx => ?_, I.base.free, fun b o e hx => ?_, I.base.tups, I.base.frzs, I.base.tbls⟩, ⟨_, hn', fun j y v' e1 e2 e3 => ?_⟩, fun y c e => ?_, I.free, I.freeC, fun p hp => ?_, tracked ⟨oL, hoL, I.free⟩ hs, by simpa using I.len⟩ ⟨_, hs, .inl rfl⟩
    · exact (hs.2 b (Nat.ne_of_lt (Nat.lt_of_lt_of_le (Heap.lt_size e) I.ok.above))).trans (I.base.keep b o e n hb hx)
    · obtain ⟨sl, e1⟩ := I.base.slot b o e n hb hx
      exact ⟨sl, (hs.2 b (Nat.ne_of_lt (Nat.lt_of_lt_of_le (Heap.lt_size e) I.ok.above))).trans e1⟩
    · obtain ⟨o', e1⟩ := I.base.there b o e hx
      exact ⟨o', (hs.2 b (Nat.ne_of_lt (Nat.lt_of_lt_of_le (Heap.lt_size e) I.ok.above))).trans e1⟩
    · by_cases hj : j = i
      · subst hj
        rw [hi] at e1; cases e1
        rw [List.getElem?_set_self hiσ] at e2
        cases e2
        exact ⟨u, r, .inl ⟨hk, by simp⟩⟩
      · rw [List.getElem?_set_ne (Ne.symm hj)] at e2
        obtain ⟨u', r', q⟩ := hl j y v' e1 e2 e3
        refine ⟨u', r', ?_⟩
        rcases q with ⟨k, e⟩ | ⟨k, c, e, z⟩
        · refine .inl ⟨k, ?_⟩
          have : y ≠ x := fun e => hj (nodup_ix hN e1 (e ▸ hi))
          simp [this, e]
        · exact .inr ⟨k, c, e, z.sameBut hs (cne y c e)⟩
    · obtain ⟨w', z⟩ := I.cell y c e
      exact ⟨w', z.sameBut hs (cne y c e)⟩
    · obtain ⟨e, n, ne, nf, d⟩ := I.pin p hp
      exact ⟨(hs.2 p.1 ne).trans e, n, ne, nf, d⟩
  · have hfn : X.fn x = true := by
      rcases hf with z | z
      · exact z
      · rw [z] at hk; cases hk
    obtain ⟨c, hc⟩ := I.ok.has x (.inl hk)
    obtain ⟨w', z⟩ := I.cell x c hc
    refine wpAny_storeName_cell I.ok.kind hk hc z (fun h' hc' hs => ?_)
    obtain ⟨oc, hoc, hocd⟩ := id z
    refine h { s with heap := h' } ⟨I.ok, I.os, I.bare, ⟨fun b o e n hb hx => ?_, fun b o e n hb hx => ?_, I.base.free, fun b o e hx => ?_, I.base.tups, I.base.frzs, I.base.tbls⟩, ⟨m, hn.sameBut hs (Ne.symm (cne x c hc)), fun j y v' e1 e2 e3 => ?_⟩, fun y c' e => ?_, I.free, I.freeC, fun p hp => ?_, tracked ⟨oc, hoc, I.freeC x c hc⟩ hs, by simpa using I.len⟩ ⟨c, hs, .inr hc⟩
    · exact (hs.2 b (Nat.ne_of_lt (Nat.lt_of_lt_of_le (Heap.lt_size e) (I.ok.cab x c hfn hc)))).trans (I.base.keep b o e n hb hx)
    · obtain ⟨sl, e1⟩ := I.base.slot b o e n hb hx
      exact ⟨sl, (hs.2 b (Nat.ne_of_lt (Nat.lt_of_lt_of_le (Heap.lt_size e) (I.ok.cab x c hfn hc)))).trans e1⟩
    · obtain ⟨o', e1⟩ := I.base.there b o e hx
      exact ⟨o', (hs.2 b (Nat.ne_of_lt (Nat.lt_of_lt_of_le (Heap.lt_size e) (I.ok.cab x c hfn hc)))).trans e1⟩
    · by_cases hj : j = i
      · subst hj
        rw [hi] at e1; cases e1
        rw [List.getElem?_set_self hiσ] at e2
        cases e2
        exact ⟨u, r, .inr ⟨.inl hk, c, hc, hc'⟩⟩
      · rw [List.getElem?_set_ne (Ne.symm hj)] at e2
        obtain ⟨u', r', q⟩ := hl j y v' e1 e2 e3
        refine ⟨u', r', ?_⟩
        rcases q with q | ⟨k, c', e, z'⟩
        · exact .inl q
        · refine .inr ⟨k, c', e, z'.sameBut hs ?_⟩
          rintro rfl
          exact hj (nodup_ix hN e1 (I.ok.inj _ _ _ e hc ▸ hi))
    · by_cases hcc : c' = c
      · subst hcc; exact ⟨_, hc'⟩
      · obtain ⟨w2, z2⟩ := I.cell y c' e
        exact ⟨w2, z2.sameBut hs hcc⟩
    · obtain ⟨e, n, ne, nf, d⟩ := I.pin p hp
      refine ⟨(hs.2 p.1 ?_).trans e, n, ne, nf, d⟩
      intro q
      rw [q, hoc] at e
      have q' : oc = p.2 := Option.some.inj e
      exact d w' (by rw [← q']; exact hocd)
theorem store_ok {M : Model} {A : Around} {E : Value → Shared → Prop} {i : Nat} {x : Str} {v : V} {u : Value} {Q : Unit → Shared → Prop} (I : Inv X pins σ H s) (hN : X.N.Nodup) (hi : X.N[i]? = some x) (hx : Loc X.env.scope x) (r : RelV v u)
    (h : ∀ s', Inv X pins (σ.set i (some v)) H s' → Q () s') (hf : X.fn x = true ∨ X.env.scope.names.lookup x = some .local := by first | exact .inl rfl | exact .inr rfl | assumption) : wpAny M A (storeName X.env x u) Q E s :=
  store_ok2 I hN hi hx r (fun s' I' _ => h s' I') hf
theorem Inv.call' {s' : Shared} {ch : List Addr} (I : Inv X pins σ H s) (ho : s'.os = s.os) (u : Un (frs X.stack) ch H H' s.heap s'.heap) (hok : HOk X.prog X.w H' s'.heap) (hg : AllBare s'.gens)
    (hch : ∀ b ∈ ch, (b ∈ X.ex ∨ X.s₀.heap.objs.size ≤ b) ∧ b ≠ X.env.locals ∧ (∀ x c, X.env.cells.lookup x = some c → c ≠ b) ∧ ∀ p ∈ X.pn ++ pins, p.1 ≠ b) : Inv X pins σ H' s' := by
  obtain ⟨h', g', d', t', o'⟩ := s'
  have e : o' = s.os := ho
  subst e
  exact I.call (g' := g') (t' := t') (d' := d') u hok hg hch
end

noncomputable abbrev XK := Value → Option Addr → Hp → Prop
noncomputable abbrev St := List (Option V)
noncomputable abbrev VK := V → Hp → Prop
noncomputable abbrev TE := St → Hp → VK → Prop
noncomputable abbrev TT := St → Hp → (Bool → Hp → Prop) → Prop
noncomputable abbrev TA := St → Hp → (List V → Hp → Prop) → Prop
structure Ends where
  nx : St → Hp → Prop
  rt : VK
  bk : St → Hp → Prop := fun _ _ => False
  ct : St → Hp → Prop := fun _ _ => False
noncomputable abbrev TS := Ends → St → Hp → Prop

noncomputable def EP (X : Cx) (pins : List (Addr × Obj)) (σ : St) (Q : VK) (u : Value) (s' : Shared) : Prop := ∃ v H', Inv X pins σ H' s' ∧ RelV v u ∧ Q v H'
noncomputable def TP (X : Cx) (pins : List (Addr × Obj)) (σ : St) (Q : Bool → Hp → Prop) (b : Bool) (s' : Shared) : Prop := ∃ H', Inv X pins σ H' s' ∧ Q b H'
noncomputable def AP (X : Cx) (pins : List (Addr × Obj)) (σ : St) (Q : List V → Hp → Prop) (us : List Value) (s' : Shared) : Prop := ∃ vs H', Inv X pins σ H' s' ∧ Vals vs us ∧ Q vs H'
noncomputable def SP (X : Cx) (pins : List (Addr × Obj)) (D : Ends) (f : Flow) (s' : Shared) : Prop :=
  match f with
  | .next => ∃ σ' H', Inv X pins σ' H' s' ∧ D.nx σ' H'
  | .brk => ∃ σ' H', Inv X pins σ' H' s' ∧ D.bk σ' H'
  | .cont => ∃ σ' H', Inv X pins σ' H' s' ∧ D.ct σ' H'
  | .ret u => ∃ v σ' H', Inv X pins σ' H' s' ∧ RelV v u ∧ D.rt v H'

noncomputable def PE (X : Cx) (e : Expr) (t : TE) : Prop :=
  ∀ (pins : List (Addr × Obj)) (s : Shared) (σ : St) (H : Hp) (Q : VK), Inv X pins σ H s → t σ H Q → wpAny (model X.prog X.w) X.A (eval e X.env) (EP X pins σ Q) X.xe s
noncomputable def PT (X : Cx) (e : Expr) (t : TT) : Prop :=
  ∀ (pins : List (Addr × Obj)) (s : Shared) (σ : St) (H : Hp) (Q : Bool → Hp → Prop), Inv X pins σ H s → t σ H Q → wpAny (model X.prog X.w) X.A (isTrue e X.env (eval e X.env)) (TP X pins σ Q) X.xe s
noncomputable def PW (X : Cx) (e : Expr) (t : TT) : Prop :=
  ∀ (whole : Sem Value) (pins : List (Addr × Obj)) (s : Shared) (σ : St) (H : Hp) (Q : Bool → Hp → Prop), Inv X pins σ H s → t σ H Q → wpAny (model X.prog X.w) X.A (isTrue e X.env whole) (TP X pins σ Q) X.xe s
theorem PW.pt {X : Cx} {e : Expr} {t : TT} (h : PW X e t) : PT X e t := h _
noncomputable def PA (X : Cx) (es : List Expr) (t : TA) : Prop :=
  ∀ (pos : Pos) (pins : List (Addr × Obj)) (s : Shared) (σ : St) (H : Hp) (Q : List V → Hp → Prop), Inv X pins σ H s → t σ H Q → wpAny (model X.prog X.w) X.A (spliced (backTo pos (starEach es X.env))) (AP X pins σ Q) X.xe s
noncomputable def PS (X : Cx) (st : Stmt) (t : TS) : Prop :=
  ∀ (pins : List (Addr × Obj)) (s : Shared) (σ : St) (H : Hp) (D : Ends), Inv X pins σ H s → t D σ H → wpAny (model X.prog X.w) X.A (exec st X.env) (SP X pins D) X.xe s
noncomputable def PSs (X : Cx) (st : List Stmt) (t : TS) : Prop :=
  ∀ (pins : List (Addr × Obj)) (s : Shared) (σ : St) (H : Hp) (D : Ends), Inv X pins σ H s → t D σ H → wpAny (model X.prog X.w) X.A (execs st X.env) (SP X pins D) X.xe s
theorem thn {α : Type} {t : Sem α} {Q Q' : α → Shared → Prop} {M : Model} {A : Around} {E : Value → Shared → Prop} {s : Shared} (h : wpAny M A t Q E s) (hQ : ∀ a s, Q a s → Q' a s) : wpAny M A t Q' E s := wpAny_mono h hQ fun _ _ x => x
end L2

namespace L2
open PySem PySem.Spec PyProof.Rows
section
variable {X : Cx}

noncomputable def tVar (i : Nat) : TE := fun σ H Q => ∃ v, σ[i]? = some (some v) ∧ Q v H
noncomputable def tC (v : V) : TE := fun _ H Q => Q v H
theorem pe_var {i : Nat} {x : Str} {pos : Pos} (hN : X.N[i]? = some x) (hv : Vis X.env.scope x) (hd : (x == ("__debug__" : Str)) = false := by decide) (hcd : (x == ("__classdict__" : Str)) = false := by decide) : PE X (.Name x pos) (tVar i) := by
  intro pins s σ H Q I h
  obtain ⟨v, e, h⟩ := h
  obtain ⟨m, hn, hl⟩ := I.loc
  obtain ⟨u, r, l⟩ := hl i x v hN e hv
  have fin : EP X pins σ Q u s := ⟨v, H, I, r, h⟩
  rcases l with ⟨hk, hm⟩ | ⟨hk, c, hc, hcell⟩
  · exact wpAny_Name (wpAny_loadName_local I.ok.kind hk hn hm fin) hd
  · rcases hk with hk | hk
    · exact wpAny_Name (wpAny_loadName_cell I.ok.kind hk hc hcell fin) hd
    · exact wpAny_Name (wpAny_loadName_free I.ok.kind hk hc hcell fin hcd) hd
theorem pe_int {i j pos} : PE X (.Constant (.int i) j pos) (tC (.int i)) := fun _ _ _ H _ I h => wpAny_Constant_int ⟨.int i, H, I.tok _, ⟨_, rfl⟩, h⟩
theorem pe_bl {b j pos} : PE X (.Constant (.bool b) j pos) (tC (.bl b)) := fun _ _ _ H _ I h => Constant_bool ⟨.bl b, H, I, rfl, h⟩
theorem pe_non {j pos} : PE X (.Constant .none j pos) (tC .non) := fun _ _ _ H _ I h => Constant_none ⟨.non, H, I, rfl, h⟩
theorem pe_str {x j pos} : PE X (.Constant (.str x) j pos) (tC (.str x)) := fun _ _ _ H _ I h => Calls.Constant_str ⟨.str x, H, I.tok _, ⟨_, rfl⟩, h⟩

noncomputable def Gl (X : Cx) (x : Str) : Prop := X.env.kindOf x = some .globalImplicit
theorem ld_glob {E : Value → Shared → Prop} {pins : List (Addr × Obj)} {s : Shared} {σ : St} {H : Hp} {x : Str} {u : Value} {pos : Pos} {Q : Value → Shared → Prop} (I : Inv X pins σ H s) (hg : Gl X x) (hm : X.mg x = some u) (h : Q u s)
    (hd : (x == ("__debug__" : Str)) = false := by decide) : wpAny (model X.prog X.w) X.A (eval (.Name x pos) X.env) Q E s :=
  Calls.Name_function_global I.ok.kind hg (Calls.loadGlobal_global (by rw [I.ok.glob]; exact I.mod.glob.keeps I.bk) hm h) hd
theorem ld_blt {E : Value → Shared → Prop} {pins : List (Addr × Obj)} {s : Shared} {σ : St} {H : Hp} {x : Str} {u : Value} {pos : Pos} {Q : Value → Shared → Prop} (I : Inv X pins σ H s) (hg : Gl X x) (hm : X.mg x = none) (hv : bootBuiltins x = some u) (h : Q u s)
    (hn : x ≠ "__name__" := by decide) (hd : (x == ("__debug__" : Str)) = false := by decide) : wpAny (model X.prog X.w) X.A (eval (.Name x pos) X.env) Q E s := by
  obtain ⟨mb, h1, h2⟩ := I.mod.blt
  exact Calls.Name_function_global I.ok.kind hg (Calls.loadGlobal_builtin (by rw [I.ok.glob]; exact I.mod.glob.keeps I.bk) hm (by rw [I.ok.blt]; exact h1.keeps I.bk) ((h2 x hn).trans hv) h) hd
theorem pe_glob {x : Str} {v : V} {u : Value} {pos : Pos} (hg : Gl X x) (hm : X.mg x = some u) (r : RelV v u) (hd : (x == ("__debug__" : Str)) = false := by decide) : PE X (.Name x pos) (tC v) :=
  fun _ _ _ H _ I h => ld_glob I hg hm ⟨v, H, I, r, h⟩ hd
theorem pe_bltn {x : Str} {v : V} {u : Value} {pos : Pos} (hg : Gl X x) (hm : X.mg x = none) (hv : bootBuiltins x = some u) (r : RelV v u) (hn : x ≠ "__name__" := by decide) (hd : (x == ("__debug__" : Str)) = false := by decide) : PE X (.Name x pos) (tC v) :=
  fun _ _ _ H _ I h => ld_blt I hg hm hv ⟨v, H, I, r, h⟩ hn hd

variable {a b : Expr} {ta tb : TE} {pos : Pos}
noncomputable def tB (t : TE) : TT := fun σ H Q => t σ H fun x H1 => ∃ c, x = .bl c ∧ Q c H1
theorem pt_val {e : Expr} {t : TE} (h : PE X e t) (he : ∀ whole, isTrue e X.env whole = (do let v ← whole; standAt e.pos; holding [v] (truthy v)) := by intro _; rfl) : PT X e (tB t) := by
  intro pins s σ H Q I hw
  refine isTrue_plain (thn (h pins s σ H _ I hw) fun v s1 ⟨x, H1, I1, r1, q1⟩ => ?_) (he _)
  obtain ⟨d, rfl, q⟩ := q1
  cases r1
  exact wpAny_truthy_bool ⟨H1, I1, q⟩

variable {tA tB' : TT} {rest : List Expr}
noncomputable def tAnd (t u : TT) : TT := fun σ H Q => t σ H fun c H1 => if c = true then u σ H1 Q else Q false H1
noncomputable def tOr (t u : TT) : TT := fun σ H Q => t σ H fun c H1 => if c = true then Q true H1 else u σ H1 Q
noncomputable def tNot (t : TT) : TT := fun σ H Q => t σ H fun c H1 => Q (!c) H1
theorem pw_and1 (ha : PT X a tA) : PW X (.BoolOp .And [a] pos) tA := by
  intro wh pins s σ H Q I h
  refine isTrue_and (thn (ha pins s σ H Q I h) fun c s1 e => ?_)
  cases c with
  | true => exact isTrue_and_nil e
  | false => exact e
theorem pw_or1 (ha : PT X a tA) : PW X (.BoolOp .Or [a] pos) tA := by
  intro wh pins s σ H Q I h
  refine isTrue_or (thn (ha pins s σ H Q I h) fun c s1 e => ?_)
  cases c with
  | false => exact isTrue_or_nil e
  | true => exact e
theorem pw_and (ha : PT X a tA) (hb : PW X (.BoolOp .And (b :: rest) pos) tB') : PW X (.BoolOp .And (a :: b :: rest) pos) (tAnd tA tB') := by
  intro wh pins s σ H Q I h
  refine isTrue_and (thn (ha pins s σ H _ I h) fun c s1 ⟨H1, I1, q1⟩ => ?_)
  cases c with
  | true => exact hb wh pins s1 σ H1 Q I1 q1
  | false => exact ⟨H1, I1, q1⟩
theorem pw_or (ha : PT X a tA) (hb : PW X (.BoolOp .Or (b :: rest) pos) tB') : PW X (.BoolOp .Or (a :: b :: rest) pos) (tOr tA tB') := by
  intro wh pins s σ H Q I h
  refine isTrue_or (thn (ha pins s σ H _ I h) fun c s1 ⟨H1, I1, q1⟩ => ?_)
  cases c with
  | true => exact ⟨H1, I1, q1⟩
  | false => exact hb wh pins s1 σ H1 Q I1 q1
theorem pt_not (ha : PT X a tA) : PT X (.UnaryOp .Not a pos) (tNot tA) := by
  intro pins s σ H Q I h
  exact isTrue_not (ha pins s σ H (fun c H1 => Q (!c) H1) I h)
noncomputable def tAndV (ta tb : TE) : TE := fun σ H Q => ta σ H fun x H1 => ∃ c, x = .bl c ∧ if c = true then tb σ H1 Q else Q (.bl false) H1
noncomputable def tOrV (ta tb : TE) : TE := fun σ H Q => ta σ H fun x H1 => ∃ c, x = .bl c ∧ if c = true then Q (.bl true) H1 else tb σ H1 Q
noncomputable def tNotV (ta : TE) : TE := fun σ H Q => ta σ H fun x H1 => ∃ c, x = .bl c ∧ Q (.bl (!c)) H1
theorem pe_one {op} {t : TE} (h : PE X a t) : PE X (.BoolOp op [a] pos) t := fun pins s σ H Q I hw => BoolOp_one (h pins s σ H Q I hw)
theorem pe_and (ha : PE X a ta) (hb : PE X (.BoolOp .And (b :: rest) pos) tb) : PE X (.BoolOp .And (a :: b :: rest) pos) (tAndV ta tb) := by
  intro pins s σ H Q I h
  refine BoolOp_and (thn (ha pins s σ H _ I h) fun v s1 ⟨x, H1, I1, r1, q1⟩ => ?_)
  obtain ⟨c, rfl, q1⟩ := q1
  cases r1
  refine wpAny_truthy_bool ?_
  cases c with
  | true => exact hb pins s1 σ H1 Q I1 q1
  | false => exact ⟨.bl false, H1, I1, rfl, q1⟩
theorem pe_or (ha : PE X a ta) (hb : PE X (.BoolOp .Or (b :: rest) pos) tb) : PE X (.BoolOp .Or (a :: b :: rest) pos) (tOrV ta tb) := by
  intro pins s σ H Q I h
  refine BoolOp_or (thn (ha pins s σ H _ I h) fun v s1 ⟨x, H1, I1, r1, q1⟩ => ?_)
  obtain ⟨c, rfl, q1⟩ := q1
  cases r1
  refine wpAny_truthy_bool ?_
  cases c with
  | false => exact hb pins s1 σ H1 Q I1 q1
  | true => exact ⟨.bl true, H1, I1, rfl, q1⟩
theorem pe_not (ha : PE X a ta) : PE X (.UnaryOp .Not a pos) (tNotV ta) := by
  intro pins s σ H Q I h
  refine UnaryOp_ (thn (ha pins s σ H _ I h) fun v s1 ⟨x, H1, I1, r1, q1⟩ => ?_)
  obtain ⟨c, rfl, q1⟩ := q1
  cases r1
  exact not_of (wpAny_truthy_bool ⟨.bl (!c), H1, I1, rfl, q1⟩)
end
end L2

namespace L2
open PySem PySem.Spec PyProof.Rows

noncomputable def SqL (K : PySem.W.Frag) (H : Hp) (a : Addr) (xs : List V) : Prop :=
  Rd H a (.lst xs) ∨
    ∃ (o : Obj) (its : Array Value) (n : Nat), K.lookup a = some o ∧ o.cls = .type "list" ∧ o.dict = none ∧ o.data = .seq its n ∧ its.size ≤ sizeLine ∧ Vals xs its.toList
noncomputable def SqT (K : PySem.W.Frag) (H : Hp) (a : Addr) (xs : List V) : Prop :=
  Rd H a (.tup xs) ∨
    ∃ (o : Obj) (its : Array Value) (n : Nat), K.lookup a = some o ∧ o.cls = .type "tuple" ∧ o.data = .seq its n ∧ its.size ≤ sizeLine ∧ Vals xs its.toList
noncomputable def absV : Value → Option V
  | .none => some .non
  | .bool b => some (.bl b)
  | .int i _ => some (.int i)
  | .str x _ => some (.str x)
  | .bytes b _ => some (.byt b)
  | .float b _ => some (.flt b)
  | .ref a => some (.ref a)
  | .type n => some (.ty n)
  | _ => none
theorem RelV.abs {x : V} {u : Value} (r : RelV x u) : absV u = some x := by
  cases x with
  | non => cases r; rfl
  | bl _ => cases r; rfl
  | int _ => obtain ⟨t, rfl⟩ := r; rfl
  | str _ => obtain ⟨t, rfl⟩ := r; rfl
  | byt _ => obtain ⟨t, rfl⟩ := r; rfl
  | flt _ => obtain ⟨t, rfl⟩ := r; rfl
  | ref _ => cases r; rfl
  | ty _ => cases r; rfl
theorem RelV.inj {x y : V} {u : Value} (r : RelV x u) (q : RelV y u) : x = y := Option.some.inj (r.abs.symm.trans q.abs)
theorem Vals.inj : ∀ {xs ys : List V} {us : List Value}, Vals xs us → Vals ys us → xs = ys
  | _, _, _, .nil, .nil => rfl
  | _, _, _, .cons r t, .cons r' t' => by rw [r.inj r', Vals.inj t t']
section
variable {X : Cx} {pins : List (Addr × Obj)} {σ : St} {H : Hp} {s : Shared} {a : Addr} {xs ys : List V}
theorem SqL.of {K : PySem.W.Frag} (h : H a = some (.lst xs)) : SqL K H a xs := .inl (.inl h)
theorem SqT.of {K : PySem.W.Frag} (h : H a = some (.tup xs)) : SqT K H a xs := .inl (.inl h)
theorem Inv.list (I : Inv X pins σ H s) (h : SqL X.K H a xs) : ∃ its : List Value, Vals xs its ∧ PlainL s.heap a its.toArray ∧ xs.length ≤ sizeLine := by
  rcases h with h | ⟨o, its, n, hk, hc, hd, hs, hz, r⟩
  · obtain ⟨z, its, n, r, e⟩ := h.ok I.hok
    exact ⟨its, r, ⟨_, n, e, rfl, rfl, rfl⟩, z⟩
  · refine ⟨its.toList, r, ⟨o, n, I.kIn a o hk, hc, hd, by simpa using hs⟩, ?_⟩
    have e := r.length
    simp only [Array.length_toList] at e
    omega
theorem Inv.tuple (I : Inv X pins σ H s) (h : SqT X.K H a xs) : ∃ its : List Value, Vals xs its ∧ IsTup s.heap a its.toArray ∧ xs.length ≤ sizeLine := by
  rcases h with h | ⟨o, its, n, hk, hc, hs, hz, r⟩
  · obtain ⟨z, its, r, p⟩ := h.ok I.hok
    exact ⟨its, r, p, z⟩
  · refine ⟨its.toList, r, ⟨o, I.kIn a o hk, hc, n, by simpa using hs⟩, ?_⟩
    have e := r.length
    simp only [Array.length_toList] at e
    omega
theorem Inv.list_inj (I : Inv X pins σ H s) (h : SqL X.K H a xs) (h' : SqL X.K H a ys) : xs = ys := by
  obtain ⟨its, r, ⟨o, n, e, _, _, d⟩, _⟩ := I.list h
  obtain ⟨its', r', ⟨o', n', e', _, _, d'⟩, _⟩ := I.list h'
  rw [e] at e'; cases e'
  rw [d] at d'
  injection d' with d1 _
  have : its = its' := by simpa using congrArg Array.toList d1
  subst this
  exact r.inj r'
theorem Inv.tuple_inj (I : Inv X pins σ H s) (h : SqT X.K H a xs) (h' : SqT X.K H a ys) : xs = ys := by
  obtain ⟨its, r, ⟨o, e, _, n, d⟩, _⟩ := I.tuple h
  obtain ⟨its', r', ⟨o', e', _, n', d'⟩, _⟩ := I.tuple h'
  rw [e] at e'; cases e'
  rw [d] at d'
  injection d' with d1 _
  have : its = its' := by simpa using congrArg Array.toList d1
  subst this
  exact r.inj r'
end

noncomputable abbrev Cx.wish (X : Cx) (E : Value → Shared → Prop) : Cx := { X with xe := E }
noncomputable abbrev Cx.nox (X : Cx) : Cx := X.wish fun _ _ => False
theorem Cx.Ok.wish {X : Cx} (ok : X.Ok) (E : Value → Shared → Prop) : (X.wish E).Ok :=
  ⟨ok.mod, ok.kind, ok.glob, ok.blt, ok.above, ok.inj, ok.has, ok.cab, ok.hd, ok.frames, ok.stk, ok.exf, ok.bs, ok.bsz, ok.noex, ok.exfs, ok.funs, ok.frf⟩
theorem Cx.Ok.unwish {X : Cx} {E : Value → Shared → Prop} (ok : (X.wish E).Ok) : X.Ok :=
  ⟨ok.mod, ok.kind, ok.glob, ok.blt, ok.above, ok.inj, ok.has, ok.cab, ok.hd, ok.frames, ok.stk, ok.exf, ok.bs, ok.bsz, ok.noex, ok.exfs, ok.funs, ok.frf⟩
section
variable {X : Cx} {pins : List (Addr × Obj)} {σ : St} {H : Hp} {s : Shared} {E : Value → Shared → Prop}
theorem Inv.wish (I : Inv X pins σ H s) (E : Value → Shared → Prop) : Inv (X.wish E) pins σ H s := ⟨I.ok.wish E, I.os, I.bare, I.base, I.loc, I.cell, I.free, I.freeC, I.pin, I.hok, I.len⟩
theorem Inv.unwish (I : Inv (X.wish E) pins σ H s) : Inv X pins σ H s := ⟨I.ok.unwish, I.os, I.bare, I.base, I.loc, I.cell, I.free, I.freeC, I.pin, I.hok, I.len⟩
theorem SP.unwish {D : Ends} {f : Flow} {s' : Shared} (h : SP (X.wish E) pins D f s') : SP X pins D f s' := by
  cases f with
  | next => obtain ⟨σ', H', I, q⟩ := h; exact ⟨σ', H', I.unwish, q⟩
  | brk => obtain ⟨σ', H', I, q⟩ := h; exact ⟨σ', H', I.unwish, q⟩
  | cont => obtain ⟨σ', H', I, q⟩ := h; exact ⟨σ', H', I.unwish, q⟩
  | ret u => obtain ⟨v, σ', H', I, r, q⟩ := h; exact ⟨v, σ', H', I.unwish, r, q⟩
theorem PSs.nox {st : List Stmt} {t : TS} (h : PSs X.nox st t) : PSs X st t := fun pins s σ H D I hw =>
  wpAny_mono (h pins s σ H D (I.wish _) hw) (fun _ _ q => q.unwish) fun _ _ z => False.elim z
end

section
variable {X : Cx} {st : Stmt} {rest : List Stmt} {t u : TS} {e : Expr} {te : TE} {pos : Pos}
noncomputable def tNext : TS := fun D σ H => D.nx σ H
noncomputable def tSeq (t u : TS) : TS := fun D σ H => t { D with nx := u D } σ H
theorem pss_nil : PSs X [] tNext := fun _ _ σ H _ I h => wpAny_execs_nil ⟨σ, H, I, h⟩
theorem pss_cons (h1 : PS X st t) (h2 : PSs X rest u) : PSs X (st :: rest) (tSeq t u) := by
  intro pins s σ H D I h
  refine wpAny_execs_cons (thn (h1 pins s σ H { D with nx := u D } I h) fun f s1 q => ?_)
  cases f with
  | next =>
    obtain ⟨σ', H', I', q⟩ := q
    exact h2 pins s1 σ' H' D I' q
  | ret v => exact q
  | brk => exact q
  | cont => exact q
theorem pss_one (h1 : PS X st t) : PSs X [st] t := by
  intro pins s σ H D I h
  refine wpAny_execs_cons (thn (h1 pins s σ H D I h) fun f s1 q => ?_)
  cases f with
  | next => exact wpAny_execs_nil q
  | ret v => exact q
  | brk => exact q
  | cont => exact q
theorem Inv.quiet {pins : List (Addr × Obj)} {σ : St} {H : Hp} {s : Shared} (I : Inv X pins σ H s) : interactive X.env = false := by simp [interactive, I.ok.kind]
noncomputable def tDrop (te : TE) : TS := fun D σ H => te σ H fun _ H1 => D.nx σ H1
theorem ps_expr (he : PE X e te) (hs : swapsWith e none pos.line X.env = pure false := by rfl) : PS X (.Expr e pos) (tDrop te) := by
  intro pins s σ H D I h
  exact wpAny_Expr_any (thn (he pins s σ H _ I h) fun v s1 ⟨x, H1, I1, r1, q1⟩ => ⟨σ, H1, I1, q1⟩) I.quiet hs
noncomputable def tRet (te : TE) : TS := fun D σ H => te σ H D.rt
theorem ps_ret (he : PE X e te) : PS X (.Return (some e) pos) (tRet te) := by
  intro pins s σ H D I h
  exact wpAny_Return_some (thn (he pins s σ H _ I h) fun v s1 ⟨x, H1, I1, r1, q1⟩ => ⟨x, σ, H1, I1, r1, q1⟩)
noncomputable def tIfS (c : TT) (t u : TS) : TS := fun D σ H => c σ H fun b H1 => if b = true then t D σ H1 else u D σ H1
theorem ps_if {c : Expr} {a b : List Stmt} {tc : TT} (hc : PT X c tc) (ha : PSs X a t) (hb : PSs X b u) : PS X (.If c a b pos) (tIfS tc t u) := by
  intro pins s σ H D I h
  refine wpAny_If (thn (hc pins s σ H _ I h) fun d s1 ⟨H1, I1, q1⟩ => ?_)
  cases d with
  | true => exact ha pins s1 σ H1 D I1 q1
  | false => exact hb pins s1 σ H1 D I1 q1
end

noncomputable abbrev TG := V → St → Hp → (St → Hp → Prop) → Prop
noncomputable abbrev TGs := List V → St → Hp → (St → Hp → Prop) → Prop
noncomputable def PG (X : Cx) (target : Expr) (t : TG) : Prop :=
  ∀ (pins : List (Addr × Obj)) (s : Shared) (σ : St) (H : Hp) (v : V) (u : Value) (Q : St → Hp → Prop), Inv X pins σ H s → RelV v u → t v σ H Q →
    wpAny (model X.prog X.w) X.A (assign target X.env u) (fun _ s' => ∃ σ' H', Inv X pins σ' H' s' ∧ Q σ' H') X.xe s
noncomputable def PGs (X : Cx) (ts : List Expr) (t : TGs) : Prop :=
  ∀ (pins : List (Addr × Obj)) (s : Shared) (σ : St) (H : Hp) (vs : List V) (us : List Value) (Q : St → Hp → Prop), Inv X pins σ H s → Vals vs us → t vs σ H Q →
    wpAny (model X.prog X.w) X.A (assignInOrder ((assignEach ts X.env).map (·.2)) us) (fun _ s' => ∃ σ' H', Inv X pins σ' H' s' ∧ Q σ' H') X.xe s
noncomputable abbrev TSet := V → V → V → Hp → (Hp → Prop) → Prop
noncomputable def PSet (X : Cx) (t : TSet) : Prop :=
  ∀ (pins : List (Addr × Obj)) (s : Shared) (σ : St) (H : Hp) (o i v : V) (ov iv u : Value) (Q : Hp → Prop), Inv X pins σ H s → RelV o ov → RelV i iv → RelV v u → t o i v H Q →
    wpAny (model X.prog X.w) X.A (setItem ov iv u) (fun _ s' => ∃ H', Inv X pins σ H' s' ∧ Q H') X.xe s
noncomputable abbrev TIp := V → V → Hp → VK → Prop
noncomputable def PIp (X : Cx) (op : Operator) (t : TIp) : Prop :=
  ∀ (pins : List (Addr × Obj)) (s : Shared) (σ : St) (H : Hp) (x y : V) (v u : Value) (Q : VK), Inv X pins σ H s → RelV x v → RelV y u → t x y H Q →
    wpAny (model X.prog X.w) X.A (inplaceOp op v u) (EP X pins σ Q) X.xe s
section
variable {X : Cx} {pos : Pos}
noncomputable def gName (i : Nat) : TG := fun v σ H Q => Q (σ.set i (some v)) H
theorem pg_name {i : Nat} {x : Str} (hN : X.N.Nodup) (hi : X.N[i]? = some x) (hx : Loc X.env.scope x) (hf : X.fn x = true ∨ X.env.scope.names.lookup x = some .local := by first | exact .inl rfl | exact .inr rfl | assumption) : PG X (.Name x pos) (gName i) := by
  intro pins s σ H v u Q I r h
  exact wpAny_assign_Name (store_ok I hN hi hx r (fun s' I' => ⟨_, H, I', h⟩) hf)
noncomputable def gNil : TGs := fun vs σ H Q => vs = [] ∧ Q σ H
noncomputable def gCons (t : TG) (u : TGs) : TGs := fun vs σ H Q => ∃ v r, vs = v :: r ∧ t v σ H fun σ' H' => u r σ' H' Q
theorem pgs_nil : PGs X [] gNil := by
  intro pins s σ H vs us Q I r h
  obtain ⟨e, h⟩ := h
  subst e
  cases r
  exact assignInOrder_nil ⟨σ, H, I, h⟩
theorem pgs_cons {e : Expr} {es : List Expr} {t : TG} {u : TGs} (h1 : PG X e t) (h2 : PGs X es u)
    (hs : (assignEach (e :: es) X.env).map (·.2) = assign e X.env :: (assignEach es X.env).map (·.2) := by rfl) : PGs X (e :: es) (gCons t u) := by
  intro pins s σ H vs us Q I r h
  obtain ⟨v, vr, e1, h⟩ := h
  subst e1
  cases r with
  | cons r rr =>
    rw [hs]
    refine assignInOrder_cons (thn (h1 pins s σ H _ _ _ I r h) fun _ s1 ⟨σ1, H1, I1, q1⟩ => ?_)
    exact h2 pins s1 σ1 H1 _ _ Q I1 rr q1
noncomputable def gTup (K : PySem.W.Frag) (n : Nat) (t : TGs) : TG := fun v σ H Q => ∃ a xs, v = .ref a ∧ SqT K H a xs ∧ xs.length = n ∧ t xs σ H Q
theorem pg_tup {es : List Expr} {k : Nat} {t : TGs} {n : Nat} (hc : X.calm = true) (h : PGs X es t)
    (hn : (assignEach es X.env).length = n := by rfl) (hst : (assignEach es X.env).findIdx? (·.1) = none := by rfl) : PG X (.Tuple es k pos) (gTup X.K n t) := by
  intro pins s σ H v u Q I r hw
  obtain ⟨a, xs, e1, hq, hl, hw⟩ := hw
  subst e1
  cases r
  obtain ⟨its, rv, ht, hz⟩ := I.tuple hq
  refine assign_Tuple_tuple (I.ok.hd hc) ht (by simp [hn, ← hl, rv.length]) hst fun h' hx => ?_
  have I1 : Inv X pins σ H { s with heap := h' } := I.kept (t' := s.toks) fun b o e => hx b o (Nat.ne_of_lt (Heap.lt_size e)) e
  exact h pins _ σ H xs _ Q I1 (by simpa using rv) hw
noncomputable def gSub (to ti : TE) (t : TSet) : TG := fun v σ H Q => to σ H fun o H1 => ti σ H1 fun i H2 => t o i v H2 fun H3 => Q σ H3
theorem pg_sub {o i : Expr} {to ti : TE} {t : TSet} (ho : PE X o to) (hi : PE X i ti) (hs : PSet X t)
    (ha : ∀ v, assign (.Subscript o i pos) X.env v = (do
      let ov ← holding [v] (eval o X.env)
      let iv ← holding [v, ov] (eval i X.env)
      standAt pos
      holding [v, ov, iv] (setItem ov iv v)
      release [v, ov, iv] []) := by intro _; rfl) : PG X (.Subscript o i pos) (gSub to ti t) := by
  intro pins s σ H v u Q I r h
  rw [ha]
  refine wpAny_bind (wpAny_holding (thn (ho pins s σ H _ I h) fun ov s1 ⟨x, H1, I1, r1, q1⟩ => ?_))
  refine wpAny_bind (wpAny_holding (thn (hi pins s1 σ H1 _ I1 q1) fun iv s2 ⟨y, H2, I2, r2, q2⟩ => ?_))
  refine wpAny_bind (wpAny_standAt (wpAny_bind (wpAny_holding (thn (hs pins s2 σ H2 x y v ov iv u _ I2 r1 r2 r q2) fun _ s3 ⟨H3, I3, q3⟩ => ?_))))
  exact wpAny_release ⟨σ, H3, I3, q3⟩
noncomputable def tAsg (te : TE) (g : TG) : TS := fun D σ H => te σ H fun x H1 => g x σ H1 D.nx
theorem ps_asg {tg e : Expr} {te : TE} {g : TG} (he : PE X e te) (hg : PG X tg g) (hs : swapsWithSole [tg] e pos.line X.env = pure false := by rfl) (hw : swappedStores [tg] e X.env = pure none := by rfl)
    (h1 : (assignEach [tg] X.env).map (·.2) = [assign tg X.env] := by rfl) : PS X (.Assign [tg] e pos) (tAsg te g) := by
  intro pins s σ H D I h
  refine wpAny_Assign_stores (thn (he pins s σ H _ I h) fun v s1 ⟨x, H1, I1, r1, q1⟩ => ?_) hs hw
  rw [h1]
  exact thn (hg pins s1 σ H1 x v _ I1 r1 q1) fun _ s2 q => q
theorem ps_set {i : Nat} {x : Str} {e : Expr} {te : TE} {pos' : Pos} (hN : X.N.Nodup) (hi : X.N[i]? = some x) (hx : Loc X.env.scope x) (he : PE X e te) (hs : swapsWith e (some (.Name x pos')) pos.line X.env = pure false := by rfl) (hf : X.fn x = true ∨ X.env.scope.names.lookup x = some .local := by first | exact .inl rfl | exact .inr rfl | assumption) :
    PS X (.Assign [.Name x pos'] e pos) (tAsg te (gName i)) := by
  intro pins s σ H D I h
  refine wpAny_Assign_Name (thn (he pins s σ H _ I h) fun v s1 ⟨y, H1, I1, r1, q1⟩ => ?_) hs
  exact store_ok I1 hN hi hx r1 (fun s2 I2 => ⟨_, H1, I2, q1⟩) hf
noncomputable def tAug (i : Nat) (te : TE) (ti : TIp) : TS := fun D σ H => ∃ x, σ[i]? = some (some x) ∧ te σ H fun y H1 => ti x y H1 fun z H2 => D.nx (σ.set i (some z)) H2
theorem ps_aug {i : Nat} {x : Str} {e : Expr} {te : TE} {op : Operator} {ti : TIp} {pos' : Pos} (hN : X.N.Nodup) (hi : X.N[i]? = some x) (hx : Loc X.env.scope x) (he : PE X e te) (ho : PIp X op ti) (hf : X.fn x = true ∨ X.env.scope.names.lookup x = some .local := by first | exact .inl rfl | exact .inr rfl | assumption) :
    PS X (.AugAssign (.Name x pos') op e pos) (tAug i te ti) := by
  intro pins s σ H D I h
  obtain ⟨v, e1, h⟩ := h
  obtain ⟨m, hn, hl⟩ := I.loc
  have vis : Vis X.env.scope x := by rcases hx with k | k; exact .inl k; exact .inr (.inl k)
  obtain ⟨u, r, l⟩ := hl i x v hi e1 vis
  refine wpAny_AugAssign_Name ?_
  have go : wpAny (model X.prog X.w) X.A (eval e X.env) (fun w s₂ => wpAny (model X.prog X.w) X.A (inplaceOp op u w) (fun r s₃ => wpAny (model X.prog X.w) X.A (storeName X.env x r) (fun _ => SP X pins D .next) X.xe s₃) X.xe s₂) X.xe s := by
    refine thn (he pins s σ H _ I h) fun w s1 ⟨y, H1, I1, r1, q1⟩ => ?_
    refine thn (ho pins s1 σ H1 v y u w _ I1 r r1 q1) fun z s2 ⟨zv, H2, I2, r2, q2⟩ => ?_
    exact store_ok I2 hN hi hx r2 (fun s3 I3 => ⟨_, H2, I3, q2⟩) hf
  rcases l with ⟨hk, hm⟩ | ⟨hk, c, hc, hcell⟩
  · exact wpAny_loadName_local I.ok.kind hk hn hm go
  · rcases hk with hk | hk
    · exact wpAny_loadName_cell I.ok.kind hk hc hcell go
    · rcases hx with k | k
      · have : X.env.scope.names.lookup x = some .free := hk
        rw [k] at this; cases this
      · have : X.env.scope.names.lookup x = some .free := hk
        rw [k] at this; cases this
noncomputable def ipI (f : Int → Int → Int) : TIp := fun x y H Q => ∃ i j, x = .int i ∧ y = .int j ∧ Q (.int (f i j)) H
theorem ip_add : PIp X .Add (ipI fun i j => i + j) := by
  intro pins s σ H x y v u Q I r1 r2 h
  obtain ⟨i, j, e1, e2, q⟩ := h
  subst e1; subst e2
  obtain ⟨t, rfl⟩ := r1
  obtain ⟨t', rfl⟩ := r2
  exact iadd_int ⟨.int _, H, I.tok _, ⟨_, rfl⟩, q⟩
end

section
variable {X : Cx} {pos : Pos}
noncomputable def tWhile (c : TT) (tb : TS) : TS := fun D σ H => ∃ W : Nat → St → Hp → Prop, (∃ m, W m σ H) ∧ ∀ m σ H, W m σ H →
  c σ H fun b H1 => if b = true then ∃ N : St → Hp → Prop, (∀ σ' H', N σ' H' → ∃ m', m' < m ∧ W m' σ' H') ∧ tb { D with nx := N, ct := N, bk := D.nx } σ H1 else D.nx σ H1
theorem ps_while {c : Expr} {body : List Stmt} {tc : TT} {tb : TS} (hp : PassesOwn (model X.prog X.w) X.A X.env X.xe) (hc : PT X c tc) (hb : PSs X body tb) : PS X (.While c body [] pos) (tWhile tc tb) := by
  intro pins s σ H D I h
  obtain ⟨W, ⟨m0, w0⟩, turn⟩ := h
  refine wpAny_While (codeAny_whileLoop (fun n s' => ∃ σ' H', Inv X pins σ' H' s' ∧ W n σ' H') ?_ m0 ⟨σ, H, I, w0⟩)
  rintro n s1 ⟨σ1, H1, I1, w1⟩
  refine wpAny_passesOwn hp (thn (hc pins s1 σ1 H1 _ I1 (turn n σ1 H1 w1)) fun b s2 ⟨H2, I2, q2⟩ => ?_)
  cases b with
  | true =>
    obtain ⟨N, hN, q2⟩ := q2
    rw [if_pos rfl]
    refine wpAny_passesOwn hp (thn (hb pins s2 σ1 H2 _ I2 q2) fun f s3 q3 => ?_)
    cases f with
    | next =>
      obtain ⟨σ3, H3, I3, n3⟩ := q3
      obtain ⟨m', hm, w3⟩ := hN σ3 H3 n3
      exact ⟨m', hm, σ3, H3, I3, w3⟩
    | cont =>
      obtain ⟨σ3, H3, I3, n3⟩ := q3
      obtain ⟨m', hm, w3⟩ := hN σ3 H3 n3
      exact ⟨m', hm, σ3, H3, I3, w3⟩
    | brk => exact q3
    | ret v => exact q3
  | false =>
    rw [if_neg Bool.false_ne_true]
    exact wpAny_execs_nil ⟨σ1, H2, I2, q2⟩
end

structure It where
  go : Nat → Hp → Prop
  yld : Nat → Hp → V → Hp → Prop
  stop : Nat → Hp → Prop
noncomputable def FpOk (X : Cx) (pins : List (Addr × Obj)) (H : Hp) (b : Addr) : Prop :=
  H b = none ∧ b ≠ X.env.locals ∧ b ∉ X.fs ∧ (b ∈ X.ex ∨ X.s₀.heap.objs.size ≤ b) ∧ (∀ x c, X.env.cells.lookup x = some c → c ≠ b) ∧ ∀ p ∈ X.pn ++ pins, p.1 ≠ b
theorem Inv.fpOk {X : Cx} {pins : List (Addr × Obj)} {σ : St} {H H' : Hp} {s : Shared} {b : Addr} (I : Inv X pins σ H s) (hb : s.heap.objs.size ≤ b) (hn : H' b = none) : FpOk X pins H' b := by
  refine ⟨hn, Nat.ne_of_gt (Nat.lt_of_lt_of_le I.lt hb), I.nofs hb, .inr (Nat.le_trans I.sz hb), fun x c e z => ?_, fun p hp z => ?_⟩
  · obtain ⟨v, q⟩ := I.cell x c e
    exact absurd (Nat.lt_of_lt_of_le q.lt (by rw [z]; exact hb)) (Nat.lt_irrefl _)
  · exact absurd (Nat.lt_of_lt_of_le (Heap.lt_size (I.pin p hp).1) (by rw [z]; exact hb)) (Nat.lt_irrefl _)
structure Turn (P : Program) (w : World) (K : PySem.W.Frag) (tg : Expr) (J : It) (fp : List Addr) (it : Addr) (tn : Nat → Heap → Prop) : Prop where
  mem : it ∈ fp
  obj : ∀ i h, tn i h → ∀ b ∈ fp, ∃ o, h.get? b = some o ∧ ∀ v, o.data ≠ .cell v
  keep : ∀ i h h', tn i h → (∀ b ∈ fp, ∀ o, h.get? b = some o → h'.get? b = some o) → tn i h'
  item : ∀ (X : Cx), X.prog = P → X.w = w → X.K = K → X.calm = true → ∀ (i : Nat) (pins : List (Addr × Obj)) (s : Shared) (σ : St) (H : Hp) (E : Value → Shared → Prop), Inv X pins σ H s → (∀ b ∈ fp, FpOk X pins H b) → tn i s.heap → J.go i H →
    wpAny (model P w) X.A (pyNext (.ref it)) (fun r s1 => ∃ u, r = some u ∧
      wpAny (model P w) X.A (letOwnedTupleGo tg (.ref it) u) (fun _ s2 => ∃ x H', Inv X pins σ H' s2 ∧ RelV x u ∧ J.yld i H x H' ∧ tn (i + 1) s2.heap ∧ ∀ b ∈ fp, H' b = none) E s1) E s
  done : ∀ (X : Cx), X.prog = P → X.w = w → X.K = K → X.calm = true → ∀ (i : Nat) (pins : List (Addr × Obj)) (s : Shared) (σ : St) (H : Hp) (E : Value → Shared → Prop), Inv X pins σ H s → (∀ b ∈ fp, FpOk X pins H b) → tn i s.heap → J.stop i H →
    wpAny (model P w) X.A (pyNext (.ref it)) (fun r s1 => r = none ∧ Inv X pins σ H s1) E s
  self : ∀ (A : Around) (i : Nat) (s : Shared) (Q : Value → Shared → Prop) (E : Value → Shared → Prop), tn i s.heap → Q (.ref it) s → wpAny (model P w) A (pyIter (.ref it)) Q E s
noncomputable abbrev TI := St → Hp → (It → Hp → Prop) → Prop
noncomputable def PIE (X : Cx) (pins : List (Addr × Obj)) (σ : St) (tg : Expr) (R : It → Hp → Prop) (itv : Value) (s2 : Shared) : Prop :=
  ∃ (it : Addr) (fp : List Addr) (tn : Nat → Heap → Prop) (J : It) (H' : Hp), itv = .ref it ∧ Inv X pins σ H' s2 ∧ Turn X.prog X.w X.K tg J fp it tn ∧ tn 0 s2.heap ∧ (∀ b ∈ fp, FpOk X pins H' b) ∧ R J H'
noncomputable def PI (X : Cx) (tg iter : Expr) (wi : TI) : Prop :=
  ∀ (pins : List (Addr × Obj)) (s : Shared) (σ : St) (H : Hp) (R : It → Hp → Prop), Inv X pins σ H s → wi σ H R →
    wpAny (model X.prog X.w) X.A (eval iter X.env) (fun v s1 => wpAny (model X.prog X.w) X.A (pyIter v) (PIE X pins σ tg R) X.xe s1) X.xe s

theorem go_of {M : Model} {A : Around} {E : Value → Shared → Prop} {s : Shared} {tg : Expr} {it : Addr} {u : Value} {o : Obj} {n : String} {vs : Array Value} {Q : Unit → Shared → Prop} (ho : s.heap.get? it = some o) (hc : o.cls = .type n) (hd : o.data = .fields vs)
    (hn : ["enumerate", "zip", "dict_itemiterator", "dict_reverseitemiterator", "odict_iterator", "itertools.zip_longest", "itertools.pairwise"].contains n = false) (hQ : Q () s) : wpAny M A (letOwnedTupleGo tg (.ref it) u) Q E s := by
  unfold letOwnedTupleGo
  cases tg <;> first
    | exact wpAny_pure hQ
    | (cases u <;> first
        | exact wpAny_pure hQ
        | (refine wpAny_bind (wpAny_load ho ?_)
           rw [hc, hd]
           show wpAny M A (if (["enumerate", "zip", "dict_itemiterator", "dict_reverseitemiterator", "odict_iterator", "itertools.zip_longest", "itertools.pairwise"].contains n && vs[0]? == some (rawInt _)) = true then _ else _) Q E s
           rw [if_neg (by intro h; rw [hn, Bool.false_and] at h; cases h)]
           exact wpAny_pure hQ))

noncomputable def Itl (K : PySem.W.Frag) (a : Addr) : It :=
  ⟨fun i H => ∃ xs x, SqL K H a xs ∧ xs[i]? = some x, fun i H x H' => H' = H ∧ ∀ xs, SqL K H a xs → xs[i]? = some x, fun i H => ∃ xs, SqL K H a xs ∧ xs.length ≤ i⟩
noncomputable def Itt (K : PySem.W.Frag) (a : Addr) : It :=
  ⟨fun i H => ∃ xs x, SqT K H a xs ∧ xs[i]? = some x, fun i H x H' => H' = H ∧ ∀ xs, SqT K H a xs → xs[i]? = some x, fun i H => ∃ xs, SqT K H a xs ∧ xs.length ≤ i⟩
noncomputable def Itr (lo : Int) (n : Nat) : It := ⟨fun i _ => i < n, fun i H x H' => H' = H ∧ x = .int (lo + i), fun i _ => n ≤ i⟩
theorem turn_list {P : Program} {w : World} {K : PySem.W.Frag} {tg : Expr} (a it : Addr) : Turn P w K tg (Itl K a) [it] it (fun i h => h.IsListIter it a i) where
  mem := by simp
  obj := fun i h st b hb => by
    have e : b = it := by simpa using hb
    subst e
    obtain ⟨o, e, c, d⟩ := st
    exact ⟨o, e, fun v z => by rw [d] at z; cases z⟩
  keep := fun i h h' st k => st.at fun o e => k it (by simp) o e
  item := by
    intro X hP hw hK hc i pins s σ H E I hf st hg
    subst hP hw hK
    obtain ⟨xs, x, hq, hx⟩ := hg
    obtain ⟨its, rv, p, hz⟩ := I.list hq
    obtain ⟨u, hu, ru⟩ := rv.get hx
    obtain ⟨f0, f1, f2, f3, f4, f5⟩ := hf it (by simp)
    refine wpAny_pyNext_list_item st p.isList (x := u) (by simpa using hu) fun h' st' sb => ?_
    have I1 : Inv X pins σ H { s with heap := h' } := I.turned (t' := s.toks) (fun b o hb e => (sb.2 b hb).trans e) f0 f1 f3 f4 f5
    obtain ⟨o, e, c, d⟩ := id st'
    exact ⟨u, rfl, go_of (s := { s with heap := h' }) e c d (by decide) ⟨x, H, I1, ru, ⟨rfl, fun ys hy => by rw [I.list_inj hy hq]; exact hx⟩, st', fun b hb => (hf b hb).1⟩⟩
  done := by
    intro X hP hw hK hc i pins s σ H E I hf st hg
    subst hP hw hK
    obtain ⟨xs, hq, hx⟩ := hg
    obtain ⟨its, rv, p, hz⟩ := I.list hq
    obtain ⟨f0, f1, f2, f3, f4, f5⟩ := hf it (by simp)
    have hl := rv.length
    exact wpAny_pyNext_list_end (I.ok.hd hc) st p.isList (by simp; omega) fun h' eb => ⟨rfl, I.turned (t' := s.toks) (fun b o hb e => eb b o hb e) f0 f1 f3 f4 f5⟩
  self := fun _ _ _ _ _ st h => wpAny_pyIter_listiter st h
theorem turn_tuple {P : Program} {w : World} {K : PySem.W.Frag} {tg : Expr} (a it : Addr) : Turn P w K tg (Itt K a) [it] it (fun i h => h.IsTupleIter it a i) where
  mem := by simp
  obj := fun i h st b hb => by
    have e : b = it := by simpa using hb
    subst e
    obtain ⟨o, e, c, d⟩ := st
    exact ⟨o, e, fun v z => by rw [d] at z; cases z⟩
  keep := fun i h h' st k => st.at fun o e => k it (by simp) o e
  item := by
    intro X hP hw hK hc i pins s σ H E I hf st hg
    subst hP hw hK
    obtain ⟨xs, x, hq, hx⟩ := hg
    obtain ⟨its, rv, p, hz⟩ := I.tuple hq
    obtain ⟨u, hu, ru⟩ := rv.get hx
    obtain ⟨f0, f1, f2, f3, f4, f5⟩ := hf it (by simp)
    refine wpAny_pyNext_tuple_item st (show s.heap.IsTuple a its.toArray from p) (x := u) (by simpa using hu) fun h' st' sb => ?_
    have I1 : Inv X pins σ H { s with heap := h' } := I.turned (t' := s.toks) (fun b o hb e => (sb.2 b hb).trans e) f0 f1 f3 f4 f5
    obtain ⟨o, e, c, d⟩ := id st'
    exact ⟨u, rfl, go_of (s := { s with heap := h' }) e c d (by decide) ⟨x, H, I1, ru, ⟨rfl, fun ys hy => by rw [I.tuple_inj hy hq]; exact hx⟩, st', fun b hb => (hf b hb).1⟩⟩
  done := by
    intro X hP hw hK hc i pins s σ H E I hf st hg
    subst hP hw hK
    obtain ⟨xs, hq, hx⟩ := hg
    obtain ⟨its, rv, p, hz⟩ := I.tuple hq
    obtain ⟨f0, f1, f2, f3, f4, f5⟩ := hf it (by simp)
    have hl := rv.length
    exact wpAny_pyNext_tuple_end (I.ok.hd hc) st (show s.heap.IsTuple a its.toArray from p) (by simp; omega) fun h' eb => ⟨rfl, I.turned (t' := s.toks) (fun b o hb e => eb b o hb e) f0 f1 f3 f4 f5⟩
  self := fun _ _ _ _ _ st h => wpAny_pyIter_tupleiter st h
theorem turn_range {P : Program} {w : World} {K : PySem.W.Frag} {tg : Expr} (it : Addr) (lo : Int) (n : Nat) : Turn P w K tg (Itr lo n) [it] it (fun i h => IsRangeIter h it (lo + (i : Nat) * 1) ((n : Int) - (i : Nat)) 1) where
  mem := by simp
  obj := fun i h st b hb => by
    have e : b = it := by simpa using hb
    subst e
    exact ⟨_, st, fun v z => by
      have z' : Data.fields _ = Data.cell v := z
      cases z'⟩
  keep := fun i h h' st k => k it (by simp) _ st
  item := by
    intro X hP hw hK hc i pins s σ H E I hf st hg
    subst hP hw hK
    obtain ⟨f0, f1, f2, f3, f4, f5⟩ := hf it (by simp)
    have W := Walks.range (prog := X.prog) (w := X.w) (I.ok.hd hc) it lo 1 n
    refine W.item i s _ _ hg st fun v h' tk hv st' kk => ?_
    obtain ⟨t, rfl⟩ := hv
    have I1 : Inv X pins σ H { s with heap := h', toks := tk } := I.turned (fun b o hb e => kk b o (by simpa using hb) e) f0 f1 f3 f4 f5
    refine ⟨_, rfl, go_of (s := { s with heap := h', toks := tk }) (n := "range_iterator") st' rfl rfl (by decide) ⟨.int (lo + i), H, I1, ⟨t, ?_⟩, ⟨rfl, rfl⟩, st', fun b hb => (hf b hb).1⟩⟩
    rw [Int.mul_one]
  done := by
    intro X hP hw hK hc i pins s σ H E I hf st hg
    subst hP hw hK
    obtain ⟨f0, f1, f2, f3, f4, f5⟩ := hf it (by simp)
    exact wpAny_pyNext_range_end (I.ok.hd hc) st (by have : n ≤ i := hg; omega) fun h' eb => ⟨rfl, I.turned (t' := s.toks) (fun b o hb e => eb b o hb e) f0 f1 f3 f4 f5⟩
  self := fun _ _ _ _ _ st h => wpAny_pyIter_rangeiter st h
end L2

namespace L2
open PySem PySem.Spec PyProof.Rows
section
variable {X : Cx} {tg : Expr}
theorem range_it {pins : List (Addr × Obj)} {σ : St} {H : Hp} {s : Shared} {R : It → Hp → Prop} {E : Value → Shared → Prop} {lo hi : Int} {t u v : Tok} {tk : Nat} (I : Inv X pins σ H s) (h1 : -(2 ^ 62) ≤ lo) (h2 : lo < 2 ^ 62) (h3 : -(2 ^ 62) ≤ hi) (h4 : hi < 2 ^ 62)
    (q : R (Itr lo (hi - lo).toNat) H) : wpAny (model X.prog X.w) X.A (pyIter (.ref s.heap.objs.size)) (PIE X pins σ tg R) E { s with heap := s.heap.push { cls := .type "range", data := .fields #[.int lo t, .int hi u, .int 1 v] }, toks := tk } := by
  refine wpAny_pyIter_range (IsRange.new ..) (small_one h1 h2 h3 h4) ?_
  have I1 : Inv X pins σ H { s with heap := s.heap.push { cls := .type "range", data := .fields #[.int lo t, .int hi u, .int 1 v] }, toks := tk } := I.kept fun b o e => Heap.get?_push_of_some _ e
  refine ⟨(s.heap.push { cls := .type "range", data := .fields #[.int lo t, .int hi u, .int 1 v] }).objs.size, [(s.heap.push { cls := .type "range", data := .fields #[.int lo t, .int hi u, .int 1 v] }).objs.size], _, _, H, rfl,
    I1.kept (t' := tk) fun b o e => Heap.get?_push_of_some _ e, turn_range _ lo (hi - lo).toNat, ?_, fun b hb => ?_, q⟩
  · have e1 : lo + ((0 : Nat) : Int) * 1 = lo := by simp
    have e2 : (((hi - lo).toNat : Nat) : Int) - ((0 : Nat) : Int) = Builtin.Range.rangeSize lo hi 1 := by rw [rangeSize_one]; split <;> omega
    show IsRangeIter _ _ (lo + ((0 : Nat) : Int) * 1) ((((hi - lo).toNat : Nat) : Int) - ((0 : Nat) : Int)) 1
    rw [e1, e2]
    exact Heap.get?_push_size _ rfl
  · have e : b = (s.heap.push { cls := .type "range", data := .fields #[.int lo t, .int hi u, .int 1 v] }).objs.size := by simpa using hb
    subst e
    exact I1.fpOk (Nat.le_refl _) (I1.hok.fresh (Nat.le_refl _))
noncomputable def iRng1 (ta : TA) : TI := fun σ H R => ta σ H fun vs H1 => ∃ j : Int, vs = [.int j] ∧ -(2 ^ 62) ≤ j ∧ j < 2 ^ 62 ∧ R (Itr 0 j.toNat) H1
theorem pi_range1 {a : Expr} {ta : TA} {p pos : Pos} (hg : Gl X "range") (hm : X.mg "range" = none) (ha : PA X [a] ta) (hs : starEach [a] X.env = [(false, eval a X.env)] := by rfl) : PI X tg (.Call (.Name "range" p) [a] [] pos) (iRng1 ta) := by
  intro pins s σ H R I h
  refine Call_ (ld_blt I hg hm boot_range (PyProof.Rows.callWith_type1 (thn (ha pos pins s σ H _ I h) fun us s1 ⟨vs, H1, I1, r1, q1⟩ => ?_) hs rfl))
  obtain ⟨j, e, q1, q2, q⟩ := q1
  subst e
  cases r1 with
  | cons r rr =>
    cases rr
    obtain ⟨t, rfl⟩ := r
    exact call_range_1 (range_it I1 (by omega) (by omega) q1 q2 (by simpa using q))
noncomputable def tFor (wi : TI) (g : TG) (tb : TS) : TS := fun D σ H => wi σ H fun J H1 => ∃ W : Nat → Nat → St → Hp → Prop, (∃ m, W 0 m σ H1) ∧ ∀ i m σ H, W i m σ H →
  (J.stop i H ∧ D.nx σ H) ∨ (J.go i H ∧ ∃ N : St → Hp → Prop, (∀ σ' H', N σ' H' → ∃ m', m' < m ∧ W (i + 1) m' σ' H') ∧ ∀ x H', J.yld i H x H' → g x σ H' fun σ2 H2 => tb { D with nx := N, ct := N, bk := D.nx } σ2 H2)
noncomputable def pinsAt (fp : List Addr) (h : Heap) : List (Addr × Obj) := fp.filterMap fun b => (h.get? b).map fun o => (b, o)
theorem mem_pinsAt {fp : List Addr} {h : Heap} {b : Addr} {o : Obj} (hb : b ∈ fp) (e : h.get? b = some o) : (b, o) ∈ pinsAt fp h := List.mem_filterMap.mpr ⟨b, hb, by rw [e]; rfl⟩
theorem of_pinsAt {fp : List Addr} {h : Heap} {p : Addr × Obj} (hp : p ∈ pinsAt fp h) : p.1 ∈ fp ∧ h.get? p.1 = some p.2 := by
  obtain ⟨b, hb, e⟩ := List.mem_filterMap.mp hp
  cases q : h.get? b with
  | none => rw [q] at e; cases e
  | some o =>
    rw [q] at e
    have e' : (b, o) = p := Option.some.inj e
    subst e'
    exact ⟨hb, q⟩
theorem Inv.pinned {pins : List (Addr × Obj)} {σ : St} {H : Hp} {s : Shared} {fp : List Addr} (I : Inv X pins σ H s) (hf : ∀ b ∈ fp, FpOk X pins H b) (ho : ∀ b ∈ fp, ∃ o, s.heap.get? b = some o ∧ ∀ v, o.data ≠ .cell v) : Inv X (pins ++ pinsAt fp s.heap) σ H s :=
  I.pins_of fun p hp => (List.mem_append.mp hp).elim (fun z => I.pin p (List.mem_append_right _ z)) fun z => by
    obtain ⟨hb, e⟩ := of_pinsAt z
    obtain ⟨f0, f1, f2, _⟩ := hf p.1 hb
    obtain ⟨o, e', d⟩ := ho p.1 hb
    rw [e] at e'; cases e'
    exact ⟨e, f0, f1, f2, d⟩
theorem Inv.unpinned {pins pl : List (Addr × Obj)} {σ : St} {H : Hp} {s : Shared} (I : Inv X (pins ++ pl) σ H s) : Inv X pins σ H s := I.pins_of fun p hp => I.pin p (List.mem_append_right _ (List.mem_append_left _ hp))
theorem ps_for {iter : Expr} {body : List Stmt} {wi : TI} {g : TG} {tb : TS} {pos : Pos} (hp : PassesOwn (model X.prog X.w) X.A X.env X.xe) (hc : X.calm = true) (hi : PI X tg iter wi) (hg : PG X tg g) (hb : PSs X body tb)
    (hs : ∀ x, foldedSetIterable iter X.env x = pure x := by intro _; rfl) : PS X (.For tg iter body [] pos) (tFor wi g tb) := by
  intro pins s σ H D I h
  refine wpAny_For (thn (hi pins s σ H _ I h) fun v s1 h1 => thn h1 fun itv s2 h2 => ?_) hs
  obtain ⟨it, fp, tn, J, H2, e, I2, T, st2, f2, W, ⟨m0, w0⟩, turn⟩ := h2
  subst e
  -- what stays true of the iterator's objects through the loop
  have stat : ∀ {H' : Hp}, (∀ b ∈ fp, H' b = none) → ∀ b ∈ fp, FpOk X pins H' b := fun hn b hb => ⟨hn b hb, (f2 b hb).2⟩
  refine codeAny_forLoop_any (fun n s' => ∃ i σ' H', Inv X pins σ' H' s' ∧ tn i s'.heap ∧ (∀ b ∈ fp, H' b = none) ∧ W i n σ' H') ?_ m0 ⟨0, σ, H2, I2, st2, fun b hb => (f2 b hb).1, w0⟩
  rintro n s3 ⟨i, σ3, H3, I3, st3, fr3, w3⟩
  rcases turn i n σ3 H3 w3 with ⟨stop, qn⟩ | ⟨go, N, hN, step⟩
  · refine wpAny_passesOwn hp (thn (T.done X rfl rfl rfl hc i pins s3 σ3 H3 X.xe I3 (stat fr3) st3 stop) fun r s4 ⟨hr, I4⟩ => ?_)
    subst hr
    exact wpAny_execs_nil ⟨σ3, H3, I4, qn⟩
  · refine wpAny_passesOwn hp (thn (T.item X rfl rfl rfl hc i pins s3 σ3 H3 X.xe I3 (stat fr3) st3 go) fun r s4 ⟨u, hr, h4⟩ => ?_)
    subst hr
    refine wpAny_passesOwn hp (thn h4 fun _ s5 ⟨x, H5, I5, r5, y5, st5, fr5⟩ => ?_)
    have I5' := I5.pinned (stat fr5) (T.obj _ _ st5)
    refine wpAny_passesOwn hp (thn (hg _ s5 σ3 H5 x u _ I5' r5 (step x H5 y5)) fun _ s6 ⟨σ6, H6, I6, q6⟩ => ?_)
    refine wpAny_passesOwn hp (thn (hb _ s6 σ6 H6 _ I6 q6) fun f s7 q7 => ?_)
    have again : ∀ {σ7 : St} {H7 : Hp}, Inv X (pins ++ pinsAt fp s5.heap) σ7 H7 s7 → N σ7 H7 → ∃ m, m < n ∧ ∃ i σ' H', Inv X pins σ' H' s7 ∧ tn i s7.heap ∧ (∀ b ∈ fp, H' b = none) ∧ W i m σ' H' := fun {σ7 H7} I7 n7 => by
      obtain ⟨m', hm, w7⟩ := hN σ7 H7 n7
      refine ⟨m', hm, i + 1, σ7, H7, I7.unpinned, T.keep _ _ _ st5 fun b hb o e => (I7.pin (b, o) (List.mem_append_right _ (List.mem_append_right _ (mem_pinsAt hb e)))).1, fun b hb => ?_, w7⟩
      obtain ⟨o, e, d⟩ := T.obj _ _ st5 b hb
      exact (I7.pin (b, o) (List.mem_append_right _ (List.mem_append_right _ (mem_pinsAt hb e)))).2.1
    cases f with
    | next => obtain ⟨σ7, H7, I7, n7⟩ := q7; exact again I7 n7
    | cont => obtain ⟨σ7, H7, I7, n7⟩ := q7; exact again I7 n7
    | brk => obtain ⟨σ7, H7, I7, q7⟩ := q7; exact ⟨σ7, H7, I7.unpinned, q7⟩
    | ret v => obtain ⟨x7, σ7, H7, I7, r7, q7⟩ := q7; exact ⟨x7, σ7, H7, I7.unpinned, r7, q7⟩
end

end L2

namespace L2
open PySem PySem.Spec PyProof.Rows

noncomputable abbrev R2 := V → V → Hp → VK → Prop
noncomputable def OpR (X : Cx) (f : Value → Value → Sem Value) (r : R2) : Prop :=
  ∀ (pins : List (Addr × Obj)) (s : Shared) (σ : St) (H : Hp) (x y : V) (v u : Value) (Q : VK), Inv X pins σ H s → RelV x v → RelV y u → r x y H Q →
    wpAny (model X.prog X.w) X.A (f v u) (EP X pins σ Q) X.xe s
noncomputable def UnR (X : Cx) (f : Value → Sem Value) (r : V → Hp → VK → Prop) : Prop :=
  ∀ (pins : List (Addr × Obj)) (s : Shared) (σ : St) (H : Hp) (x : V) (v : Value) (Q : VK), Inv X pins σ H s → RelV x v → r x H Q →
    wpAny (model X.prog X.w) X.A (f v) (EP X pins σ Q) X.xe s
noncomputable def CallR (X : Cx) (f : Value) (r : List V → Hp → VK → Prop) : Prop :=
  ∀ (pins : List (Addr × Obj)) (s : Shared) (σ : St) (H : Hp) (xs : List V) (us : List Value) (Q : VK), Inv X pins σ H s → Vals xs us → r xs H Q →
    wpAny (model X.prog X.w) X.A (call f us) (EP X pins σ Q) X.xe s
noncomputable def TruR (X : Cx) (r : V → Hp → (Bool → Hp → Prop) → Prop) : Prop :=
  ∀ (pins : List (Addr × Obj)) (s : Shared) (σ : St) (H : Hp) (x : V) (v : Value) (Q : Bool → Hp → Prop), Inv X pins σ H s → RelV x v → r x H Q →
    wpAny (model X.prog X.w) X.A (truthy v) (TP X pins σ Q) X.xe s

noncomputable def tOp (r : R2) (ta tb : TE) : TE := fun σ H Q => ta σ H fun x H1 => tb σ H1 fun y H2 => r x y H2 Q
noncomputable def tUn (r : V → Hp → VK → Prop) (ta : TE) : TE := fun σ H Q => ta σ H fun x H1 => r x H1 Q
noncomputable def rI (C : Int → Int → Prop) (g : Int → Int → V) : R2 := fun x y H Q => ∃ i j, x = .int i ∧ y = .int j ∧ C i j ∧ Q (g i j) H
noncomputable def rI0 (g : Int → Int → V) : R2 := fun x y H Q => ∃ i j, x = .int i ∧ y = .int j ∧ Q (g i j) H
noncomputable def rU (g : Int → V) : V → Hp → VK → Prop := fun x H Q => ∃ i, x = .int i ∧ Q (g i) H

section
variable {X : Cx} {a b c : Expr} {ta tb tc : TE} {pos : Pos}

theorem binT (ha : PE X a ta) (hb : PE X b tb) {pins : List (Addr × Obj)} {s : Shared} {σ : St} {H : Hp} {R : V → V → Hp → Prop} (I : Inv X pins σ H s)
    (h : ta σ H fun x H1 => tb σ H1 fun y H2 => R x y H2) {Q : Value → Shared → Prop} {f : Value → Value → Sem Value}
    (hf : ∀ v u s2 x y H2, Inv X pins σ H2 s2 → RelV x v → RelV y u → R x y H2 → wpAny (model X.prog X.w) X.A (f v u) Q X.xe s2) :
    wpAny (model X.prog X.w) X.A (eval a X.env) (fun v s₁ => wpAny (model X.prog X.w) X.A (eval b X.env) (fun u s₂ => wpAny (model X.prog X.w) X.A (f v u) Q X.xe s₂) X.xe s₁) X.xe s := by
  refine thn (ha pins s σ H _ I h) fun v s1 ⟨x, H1, I1, r1, q1⟩ => ?_
  refine thn (hb pins s1 σ H1 _ I1 q1) fun u s2 ⟨y, H2, I2, r2, q2⟩ => ?_
  exact hf v u s2 x y H2 I2 r1 r2 q2

theorem pe_op {op : Operator} {r : R2} (ho : OpR X (binaryOp op) r) (ha : PE X a ta) (hb : PE X b tb) : PE X (.BinOp a op b pos) (tOp r ta tb) := by
  intro pins s σ H Q I h
  exact wpAny_BinOp (binT ha hb I h fun v u s2 x y H2 I2 rx ry q => ho pins s2 σ H2 x y v u Q I2 rx ry q)
theorem pe_un {op : UnaryOp} {r : V → Hp → VK → Prop} (ho : UnR X (unaryOp op) r) (ha : PE X a ta) : PE X (.UnaryOp op a pos) (tUn r ta) := by
  intro pins s σ H Q I h
  exact UnaryOp_ (thn (ha pins s σ H _ I h) fun v s1 ⟨x, H1, I1, r1, q1⟩ => ho pins s1 σ H1 x v Q I1 r1 q1)
theorem opI {f : Value → Value → Sem Value} {C : Int → Int → Prop} {g : Int → Int → Int}
    (rule : ∀ (i j : Int) (t u : Tok) (s : Shared) (Q : Value → Shared → Prop) (E : Value → Shared → Prop), C i j → Q (.int (g i j) s.toks) { s with toks := s.toks + 1 } → wpAny (model X.prog X.w) X.A (f (.int i t) (.int j u)) Q E s) :
    OpR X f (rI C fun i j => .int (g i j)) := by
  intro pins s σ H x y v u Q I rx ry h
  obtain ⟨i, j, rfl, rfl, hc, q⟩ := h
  obtain ⟨t, rfl⟩ := rx
  obtain ⟨t', rfl⟩ := ry
  exact rule i j t t' s _ _ hc ⟨.int (g i j), H, I.tok _, ⟨_, rfl⟩, q⟩
theorem opI0 {f : Value → Value → Sem Value} {g : Int → Int → Int}
    (rule : ∀ (i j : Int) (t u : Tok) (s : Shared) (Q : Value → Shared → Prop) (E : Value → Shared → Prop), Q (.int (g i j) s.toks) { s with toks := s.toks + 1 } → wpAny (model X.prog X.w) X.A (f (.int i t) (.int j u)) Q E s) :
    OpR X f (rI0 fun i j => .int (g i j)) := by
  intro pins s σ H x y v u Q I rx ry h
  obtain ⟨i, j, rfl, rfl, q⟩ := h
  obtain ⟨t, rfl⟩ := rx
  obtain ⟨t', rfl⟩ := ry
  exact rule i j t t' s _ _ ⟨.int (g i j), H, I.tok _, ⟨_, rfl⟩, q⟩
theorem opB0 {f : Value → Value → Sem Value} {g : Int → Int → Bool}
    (rule : ∀ (i j : Int) (t u : Tok) (s : Shared) (Q : Value → Shared → Prop) (E : Value → Shared → Prop), Q (.bool (g i j)) s → wpAny (model X.prog X.w) X.A (f (.int i t) (.int j u)) Q E s) :
    OpR X f (rI0 fun i j => .bl (g i j)) := by
  intro pins s σ H x y v u Q I rx ry h
  obtain ⟨i, j, rfl, rfl, q⟩ := h
  obtain ⟨t, rfl⟩ := rx
  obtain ⟨t', rfl⟩ := ry
  exact rule i j t t' s _ _ ⟨.bl (g i j), H, I, rfl, q⟩

noncomputable def CDiv (i j : Int) : Prop := 0 < j ∧ j < 1073741824
noncomputable def CPow (i j : Int) : Prop := 0 ≤ j ∧ j ≤ 1000000 ∧ i.natAbs < 2 ^ 64
noncomputable def CMul (i j : Int) : Prop := (-(2 ^ 64) < i ∧ i < 2 ^ 64) ∨ (-(2 ^ 64) < j ∧ j < 2 ^ 64)
theorem CMul.ok {i j : Int} (h : CMul i j) : IntMulOk i j := by
  rcases h with ⟨h1, h2⟩ | ⟨h1, h2⟩
  · exact .of_left (intBits_le_64 h1 h2)
  · exact .of_right (intBits_le_64 h1 h2)
theorem op_add : OpR X (binaryOp .Add) (rI0 fun i j => .int (i + j)) := opI0 fun _ _ _ _ _ _ _ q => add_int q
theorem op_sub : OpR X (binaryOp .Sub) (rI0 fun i j => .int (i - j)) := opI0 fun _ _ _ _ _ _ _ q => sub_int q
theorem op_mul : OpR X (binaryOp .Mult) (rI CMul fun i j => .int (i * j)) := opI fun _ _ _ _ _ _ _ hc q => mul_int q hc.ok
theorem op_fdiv : OpR X (binaryOp .FloorDiv) (rI CDiv fun i j => .int (i / j)) := opI fun i j _ _ _ _ _ hc q => by
  have h1 : (0 : Int) < j := hc.1
  have h2 : j < 1073741824 := hc.2
  exact floordiv_int (by omega) (by rw [Int.fdiv_eq_ediv_of_nonneg i (by omega)]; exact q) (.inl (PyProof.noPylong_small (by omega)))
theorem op_mod : OpR X (binaryOp .Mod) (rI (fun _ j => 0 < j) fun i j => .int (i % j)) := opI fun i j _ _ _ _ _ hc q => by
  have h1 : (0 : Int) < j := hc
  exact mod_int' (by omega) (by rw [Int.fmod_eq_emod_of_nonneg i (by omega)]; exact q)
theorem op_pow : OpR X (binaryOp .Pow) (rI CPow fun i j => .int (i ^ j.toNat)) := opI fun _ _ _ _ _ _ _ hc q => pow_int_small hc.1 hc.2.1 hc.2.2 q
theorem unI {f : Value → Sem Value} {g : Int → Int}
    (rule : ∀ (i : Int) (t : Tok) (s : Shared) (Q : Value → Shared → Prop) (E : Value → Shared → Prop), Q (.int (g i) s.toks) { s with toks := s.toks + 1 } → wpAny (model X.prog X.w) X.A (f (.int i t)) Q E s) :
    UnR X f (rU fun i => .int (g i)) := by
  intro pins s σ H x v Q I rx h
  obtain ⟨i, rfl, q⟩ := h
  obtain ⟨t, rfl⟩ := rx
  exact rule i t s _ _ ⟨.int (g i), H, I.tok _, ⟨_, rfl⟩, q⟩
theorem un_neg : UnR X (unaryOp .USub) (rU fun i => .int (-i)) := unI fun _ _ _ _ _ q => neg_int q
end

noncomputable def scal : V → V → Bool
  | .non, .non => true | .non, .int _ => true | .int _, .non => true | .non, .bl _ => true | .bl _, .non => true | .non, .str _ => true | .str _, .non => true
  | .int _, .int _ => true | .bl _, .bl _ => true | .str _, .str _ => true | .byt _, .byt _ => true
  | .int _, .str _ => true | .str _, .int _ => true | .bl _, .str _ => true | .str _, .bl _ => true
  | _, _ => false
noncomputable def rEq : R2 := fun x y H Q => scal x y = true ∧ Q (.bl (decide (x = y))) H
noncomputable def rNe : R2 := fun x y H Q => scal x y = true ∧ Q (.bl (!decide (x = y))) H

theorem dec_int {i j : Int} : decide (V.int i = V.int j) = (i == j) := by
  rw [Bool.eq_iff_iff]
  simp
theorem dec_bl {i j : Bool} : decide (V.bl i = V.bl j) = (i == j) := by
  rw [Bool.eq_iff_iff]
  simp
theorem dec_str {i j : Str} : decide (V.str i = V.str j) = (i == j) := by
  rw [Bool.eq_iff_iff]
  simp
theorem dec_byt {i j : Array UInt8} : decide (V.byt i = V.byt j) = (i.toList == j.toList) := by
  rw [Bool.eq_iff_iff]
  cases i
  cases j
  simp

section
variable {X : Cx} {a b c : Expr} {ta tb tc : TE} {pos : Pos}
theorem fin_bl {pins : List (Addr × Obj)} {σ : St} {H : Hp} {s : Shared} {Q : VK} {k k' : Bool} (I : Inv X pins σ H s) (q : Q (.bl k) H) (e : k = k') : EP X pins σ Q (.bool k') s := by
  subst e
  exact ⟨.bl k, H, I, rfl, q⟩
theorem op_eq : OpR X (compareOp .Eq) rEq := by
  intro pins s σ H x y v u Q I rx ry h
  obtain ⟨hs, q⟩ := h
  cases x with
  | non =>
    cases rx
    cases y with
    | non => cases ry; exact PySem.EqNone.eq_none_none (fin_bl I q (by simp))
    | bl j => cases ry; exact PySem.EqNone.eq_none_bool (fin_bl I q (by simp))
    | int j => obtain ⟨t', rfl⟩ := ry; exact PySem.EqNone.eq_none_int (fin_bl I q (by simp))
    | str j => obtain ⟨t', rfl⟩ := ry; exact PySem.EqNone.eq_none_str (fin_bl I q (by simp))
    | _ => exact absurd (show false = true from hs) Bool.false_ne_true
  | bl i =>
    cases rx
    cases y with
    | non => cases ry; exact PySem.EqNone.eq_bool_none (fin_bl I q (by simp))
    | bl j => cases ry; exact eq_bool (fin_bl I q dec_bl)
    | str j => obtain ⟨t', rfl⟩ := ry; exact PySem.EqMixed.eq_bool_str (fin_bl I q (by simp))
    | _ => exact absurd (show false = true from hs) Bool.false_ne_true
  | int i =>
    obtain ⟨t, rfl⟩ := rx
    cases y with
    | non => cases ry; exact PySem.EqNone.eq_int_none (fin_bl I q (by simp))
    | int j => obtain ⟨t', rfl⟩ := ry; exact eq_int (fin_bl I q dec_int)
    | str j => obtain ⟨t', rfl⟩ := ry; exact PySem.EqMixed.eq_int_str (fin_bl I q (by simp))
    | _ => exact absurd (show false = true from hs) Bool.false_ne_true
  | str i =>
    obtain ⟨t, rfl⟩ := rx
    cases y with
    | non => cases ry; exact PySem.EqNone.eq_str_none (fin_bl I q (by simp))
    | bl j => cases ry; exact PySem.EqMixed.eq_str_bool (fin_bl I q (by simp))
    | int j => obtain ⟨t', rfl⟩ := ry; exact PySem.EqMixed.eq_str_int (fin_bl I q (by simp))
    | str j => obtain ⟨t', rfl⟩ := ry; exact eq_str (fin_bl I q dec_str)
    | _ => exact absurd (show false = true from hs) Bool.false_ne_true
  | byt i =>
    obtain ⟨t, rfl⟩ := rx
    cases y with
    | byt j => obtain ⟨t', rfl⟩ := ry; exact PySem.W.eq_bytes (fin_bl I q dec_byt)
    | _ => exact absurd (show false = true from hs) Bool.false_ne_true
  | _ => cases y <;> exact absurd (show false = true from hs) Bool.false_ne_true
theorem op_ne : OpR X (compareOp .NotEq) rNe := by
  intro pins s σ H x y v u Q I rx ry h
  obtain ⟨hs, q⟩ := h
  cases x with
  | non =>
    cases rx
    cases y with
    | non => cases ry; exact PySem.EqNone.ne_none_none (fin_bl I q (by simp))
    | bl j => cases ry; exact PySem.EqNone.ne_none_bool (fin_bl I q (by simp))
    | int j => obtain ⟨t', rfl⟩ := ry; exact PySem.EqNone.ne_none_int (fin_bl I q (by simp))
    | str j => obtain ⟨t', rfl⟩ := ry; exact PySem.EqNone.ne_none_str (fin_bl I q (by simp))
    | _ => exact absurd (show false = true from hs) Bool.false_ne_true
  | bl i =>
    cases rx
    cases y with
    | non => cases ry; exact PySem.EqNone.ne_bool_none (fin_bl I q (by simp))
    | bl j => cases ry; exact ne_bool (fin_bl I q (congrArg not dec_bl))
    | str j => obtain ⟨t', rfl⟩ := ry; exact PySem.EqMixed.ne_bool_str (fin_bl I q (by simp))
    | _ => exact absurd (show false = true from hs) Bool.false_ne_true
  | int i =>
    obtain ⟨t, rfl⟩ := rx
    cases y with
    | non => cases ry; exact PySem.EqNone.ne_int_none (fin_bl I q (by simp))
    | int j => obtain ⟨t', rfl⟩ := ry; exact ne_int (fin_bl I q (congrArg not dec_int))
    | str j => obtain ⟨t', rfl⟩ := ry; exact PySem.EqMixed.ne_int_str (fin_bl I q (by simp))
    | _ => exact absurd (show false = true from hs) Bool.false_ne_true
  | str i =>
    obtain ⟨t, rfl⟩ := rx
    cases y with
    | non => cases ry; exact PySem.EqNone.ne_str_none (fin_bl I q (by simp))
    | bl j => cases ry; exact PySem.EqMixed.ne_str_bool (fin_bl I q (by simp))
    | int j => obtain ⟨t', rfl⟩ := ry; exact PySem.EqMixed.ne_str_int (fin_bl I q (by simp))
    | str j => obtain ⟨t', rfl⟩ := ry; exact ne_str (fin_bl I q (congrArg not dec_str))
    | _ => exact absurd (show false = true from hs) Bool.false_ne_true
  | byt i =>
    obtain ⟨t, rfl⟩ := rx
    cases y with
    | byt j => obtain ⟨t', rfl⟩ := ry; exact PySem.W.ne_bytes (fin_bl I q (congrArg not dec_byt))
    | _ => exact absurd (show false = true from hs) Bool.false_ne_true
  | _ => cases y <;> exact absurd (show false = true from hs) Bool.false_ne_true

theorem op_lt : OpR X (compareOp .Lt) (rI0 fun i j => .bl (decide (i < j))) := opB0 fun _ _ _ _ _ _ _ q => lt_int q
theorem op_le : OpR X (compareOp .LtE) (rI0 fun i j => .bl (decide (i ≤ j))) := opB0 fun _ _ _ _ _ _ _ q => le_int q
theorem op_gt : OpR X (compareOp .Gt) (rI0 fun i j => .bl (decide (j < i))) := opB0 fun _ _ _ _ _ _ _ q => gt_int q
theorem OpR.or {f : Value → Value → Sem Value} {r r' : R2} (h : OpR X f r) (h' : OpR X f r') : OpR X f (fun x y H Q => r x y H Q ∨ r' x y H Q) := by
  intro pins s σ H x y v u Q I rx ry q
  rcases q with q | q
  · exact h pins s σ H x y v u Q I rx ry q
  · exact h' pins s σ H x y v u Q I rx ry q

theorem nomark (b : Expr) {op : CmpOp} (h : op ≠ .In := by decide) (h2 : op ≠ .NotIn := by decide) : behindInMarks op b = false := by
  have e1 : (op == CmpOp.In) = false := by cases op <;> first | rfl | exact absurd rfl h
  have e2 : (op == CmpOp.NotIn) = false := by cases op <;> first | rfl | exact absurd rfl h2
  cases b <;> simp [behindInMarks, e1, e2]
theorem pe_cmpR {op : CmpOp} {r : R2} (ho : OpR X (compareOp op) r) (ha : PE X a ta) (hb : PE X b tb) (hm : behindInMarks op b = false) : PE X (.Compare a [op] [b] pos) (tOp r ta tb) := by
  intro pins s σ H Q I h
  exact wpAny_Compare1 (binT ha hb I h fun v u s2 x y H2 I2 rx ry q => ho pins s2 σ H2 x y v u Q I2 rx ry q) hm
noncomputable def tTest (t : TE) : TT := fun σ H Q => t σ H fun x H' => ∃ k, x = .bl k ∧ Q k H'
theorem pt_cmpR {op : CmpOp} {r : R2} (ho : OpR X (compareOp op) r) (ha : PE X a ta) (hb : PE X b tb) (hm : behindInMarks op b = false) : PT X (.Compare a [op] [b] pos) (tTest (tOp r ta tb)) := by
  intro pins s σ H Q I h
  refine wpAny_isTrue_Compare1 (thn (ha pins s σ H _ I h) fun v s1 ⟨x, H1, I1, r1, q1⟩ => thn (hb pins s1 σ H1 _ I1 q1) fun u s2 ⟨y, H2, I2, r2, q2⟩ =>
    thn (ho pins s2 σ H2 x y v u _ I2 r1 r2 q2) fun c s3 ⟨z, H3, I3, r3, k, e, q3⟩ => ?_) hm
  subst e
  cases r3
  exact wpAny_truthy_bool ⟨H3, I3, q3⟩
noncomputable def tChain (r r' : R2) (ta tb tc : TE) : TE := fun σ H Q => ta σ H fun x H1 => tb σ H1 fun y H2 => r x y H2 fun z H3 => ∃ k, z = .bl k ∧
  (if k = true then tc σ H3 fun w' H4 => r' y w' H4 Q else Q (.bl false) H3)
theorem pe_chain {op op' : CmpOp} {r r' : R2} (ho : OpR X (compareOp op) r) (ho' : OpR X (compareOp op') r') (ha : PE X a ta) (hb : PE X b tb) (hc : PE X c tc)
    (hm : lastMarks [op, op'] [b, c] = false := by with_unfolding_all rfl) : PE X (.Compare a [op, op'] [b, c] pos) (tChain r r' ta tb tc) := by
  intro pins s σ H Q I h
  refine Compare_chain (thn (ha pins s σ H _ I h) fun v s1 ⟨x, H1, I1, r1, q1⟩ => chain_link (thn (hb pins s1 σ H1 _ I1 q1) fun u s2 ⟨y, H2, I2, r2, q2⟩ =>
    thn (ho pins s2 σ H2 x y v u _ I2 r1 r2 q2) fun d s3 ⟨z, H3, I3, r3, k, e, q3⟩ => ?_)) hm
  subst e
  cases r3
  refine wpAny_truthy_bool ?_
  cases k with
  | false => exact ite_ff ⟨.bl false, H3, I3, rfl, q3⟩
  | true => exact ite_tt (chain_last (thn (hc pins s3 σ H3 _ I3 q3) fun w' s4 ⟨z', H4, I4, r4, q4⟩ => ho' pins s4 σ H4 y z' u w' Q I4 r2 r4 q4))
theorem pt_chain {op op' : CmpOp} {r r' : R2} (ho : OpR X (compareOp op) r) (ho' : OpR X (compareOp op') r') (ha : PE X a ta) (hb : PE X b tb) (hc : PE X c tc)
    (hm : lastMarks [op, op'] [b, c] = false := by with_unfolding_all rfl) : PT X (.Compare a [op, op'] [b, c] pos) (tTest (tChain r r' ta tb tc)) := by
  intro pins s σ H Q I h
  refine isTrue_chain (thn (ha pins s σ H _ I h) fun v s1 ⟨x, H1, I1, r1, q1⟩ => test_link (thn (hb pins s1 σ H1 _ I1 q1) fun u s2 ⟨y, H2, I2, r2, q2⟩ =>
    thn (ho pins s2 σ H2 x y v u _ I2 r1 r2 q2) fun d s3 ⟨z, H3, I3, r3, k, e, q3⟩ => ?_)) hm
  subst e
  cases r3
  refine wpAny_truthy_bool ?_
  cases k with
  | false =>
    obtain ⟨k', e', q'⟩ := q3
    cases e'
    exact ite_ff ⟨H3, I3, q'⟩
  | true =>
    refine ite_tt (test_last (thn (hc pins s3 σ H3 _ I3 q3) fun w' s4 ⟨z', H4, I4, r4, q4⟩ => thn (ho' pins s4 σ H4 y z' u w' _ I4 r2 r4 q4) fun d' s5 ⟨z2, H5, I5, r5, k2, e2, q5⟩ => ?_))
    subst e2
    cases r5
    exact wpAny_truthy_bool ⟨H5, I5, q5⟩

noncomputable def TruV (K : PySem.W.Frag) (x : V) (H : Hp) (k : Bool) : Prop :=
  match x with
  | .non => k = false
  | .bl b => k = b
  | .int i => k = (i != 0)
  | .str y => y.length ≤ sizeLine ∧ k = ((y.length : Int) != 0)
  | .byt y => y.size ≤ sizeLine ∧ k = ((y.size : Int) != 0)
  | .ref p => (∃ xs, SqL K H p xs ∧ k = !xs.isEmpty) ∨ (∃ xs, SqT K H p xs ∧ k = !xs.isEmpty) ∨ ∃ kvs, H p = some (.dK kvs) ∧ k = !kvs.isEmpty
  | _ => False
theorem isEmpty_kv {κ : Type} {kvs : List (κ × V)} {vs : List (κ × Value)} (r : KV kvs vs) : (!vs.isEmpty) = !kvs.isEmpty := by
  cases r <;> rfl
theorem isEmpty_of {xs : List V} {its : List Value} (r : Vals xs its) : (!its.toArray.isEmpty) = !xs.isEmpty := by
  cases r <;> simp
theorem line63 : (sizeLine : Nat) < 2 ^ 63 := by rw [sizeLine_eq]; decide
theorem tru_ok : TruR X (fun x H Q => ∃ k, TruV X.K x H k ∧ Q k H) := by
  intro pins s σ H x v Q I rx h
  obtain ⟨k, e, q⟩ := h
  have hl := line63
  have hs : sizeLine = 16777216 := sizeLine_eq
  cases x with
  | non =>
    cases rx
    have e' : k = false := e
    subst e'
    exact truthy_none ⟨H, I, q⟩
  | bl b =>
    cases rx
    have e' : k = b := e
    subst e'
    exact wpAny_truthy_bool ⟨H, I, q⟩
  | int i =>
    obtain ⟨t, rfl⟩ := rx
    have e' : k = (i != 0) := e
    subst e'
    exact PySem.P.truthy_int ⟨H, I, q⟩
  | str y =>
    obtain ⟨t, rfl⟩ := rx
    obtain ⟨hy, e'⟩ : y.length ≤ sizeLine ∧ k = ((y.length : Int) != 0) := e
    subst e'
    exact PySem.P.truthy_str (by omega) ⟨H, I.tok _, q⟩
  | byt y =>
    obtain ⟨t, rfl⟩ := rx
    obtain ⟨hy, e'⟩ : y.size ≤ sizeLine ∧ k = ((y.size : Int) != 0) := e
    subst e'
    exact PySem.W.truthy_bytes (by omega) ⟨H, I.tok _, q⟩
  | ref p =>
    cases rx
    have e' : (∃ xs, SqL X.K H p xs ∧ k = !xs.isEmpty) ∨ (∃ xs, SqT X.K H p xs ∧ k = !xs.isEmpty) ∨ ∃ kvs, H p = some (.dK kvs) ∧ k = !kvs.isEmpty := e
    rcases e' with ⟨xs, hx, e'⟩ | ⟨xs, hx, e'⟩ | ⟨kvs, hx, e'⟩
    · subst e'
      obtain ⟨its, r, pl, hz⟩ := I.list hx
      have hlen := r.length
      exact wpAny_truthy_list pl.isList (by simp only [List.size_toArray]; omega) ⟨H, I.tok _, by rw [isEmpty_of r]; exact q⟩
    · subst e'
      obtain ⟨its, r, pl, hz⟩ := I.tuple hx
      have hlen := r.length
      exact truthy_tuple pl (by simp only [List.size_toArray]; omega) ⟨H, I.tok _, by rw [isEmpty_of r]; exact q⟩
    · subst e'
      obtain ⟨hz, hS, vs, r, m⟩ : kvs.length ≤ sizeLine ∧ (p == sysModules) = false ∧ ∃ vs, KV kvs vs ∧ s.heap.DictOf (mixKind X.prog X.w) p vs := I.hok p _ hx
      have hlen : kvs.length = vs.length := Paired.length r
      exact wpAny_truthy_dict hS m (by omega) ⟨H, I.tok _, by rw [isEmpty_kv r]; exact q⟩
  | _ => exact (show False from e).elim
theorem pt_truth (ha : PE X a ta) (he : ∀ whole, isTrue a X.env whole = (do let v ← whole; standAt a.pos; holding [v] (truthy v))) :
    PT X a (fun σ H Q => ta σ H fun x H' => ∃ k, TruV X.K x H' k ∧ Q k H') := by
  intro pins s σ H Q I h
  exact isTrue_plain (thn (ha pins s σ H _ I h) fun v s1 ⟨x, H1, I1, r1, q1⟩ => tru_ok pins s1 σ H1 x v Q I1 r1 q1) (he _)

theorem op_add_str : OpR X (binaryOp .Add) (fun x y H Q => ∃ i j, x = .str i ∧ y = .str j ∧ i.length + j.length ≤ sizeLine ∧ Q (.str (i ++ j)) H) := by
  intro pins s σ H x y v u Q I rx ry h
  obtain ⟨i, j, rfl, rfl, hz, q⟩ := h
  obtain ⟨t, rfl⟩ := rx
  obtain ⟨t', rfl⟩ := ry
  exact add_str (fun t' tk => ⟨.str (i ++ j), H, I.tok _, ⟨_, rfl⟩, q⟩) hz
theorem vals1 {x : V} {us : List Value} (r : Vals [x] us) : ∃ u, us = [u] ∧ RelV x u := by
  cases r with
  | cons r1 r2 => cases r2; exact ⟨_, rfl, r1⟩
theorem vals2 {x y : V} {us : List Value} (r : Vals [x, y] us) : ∃ u w', us = [u, w'] ∧ RelV x u ∧ RelV y w' := by
  cases r with
  | cons r1 r2 =>
    cases r2 with
    | cons r3 r4 => cases r4; exact ⟨_, _, rfl, r1, r3⟩
theorem call_max2 (hc : X.calm = true) : CallR X (.builtin "max") (fun xs H Q => ∃ i j, xs = [.int i, .int j] ∧ Q (.int (if j > i then j else i)) H) := by
  intro pins s σ H xs us Q I r h
  obtain ⟨i, j, rfl, q⟩ := h
  obtain ⟨u, w', rfl, ⟨t, rfl⟩, ⟨t', rfl⟩⟩ := vals2 r
  refine max_two_ints (I.ok.hd hc) fun h' tk k => ⟨_, H, I.kept k, ?_, q⟩
  by_cases hj : j > i
  · rw [if_pos hj, if_pos hj]; exact ⟨_, rfl⟩
  · rw [if_neg hj, if_neg hj]; exact ⟨_, rfl⟩
theorem call_int1 : CallR X (.type "int") (fun xs H Q => (∃ i, xs = [.int i] ∧ Q (.int i) H) ∨ ∃ k, xs = [.bl k] ∧ Q (.int (if k then 1 else 0)) H) := by
  intro pins s σ H xs us Q I r h
  rcases h with ⟨i, rfl, q⟩ | ⟨k, rfl, q⟩
  · obtain ⟨u, rfl, t, rfl⟩ := vals1 r
    exact call_int_int ⟨.int i, H, I, ⟨_, rfl⟩, q⟩
  · obtain ⟨u, rfl, r1⟩ := vals1 r
    cases r1
    exact call_int_bool ⟨.int (if k then 1 else 0), H, I.tok _, ⟨_, rfl⟩, q⟩
noncomputable def LenV (K : PySem.W.Frag) (x : V) (H : Hp) (n : Nat) : Prop :=
  match x with
  | .str y => y.length ≤ sizeLine ∧ n = y.length
  | .byt y => y.size ≤ sizeLine ∧ n = y.size
  | .ref p => (∃ xs, SqL K H p xs ∧ n = xs.length) ∨ ∃ xs, SqT K H p xs ∧ n = xs.length
  | _ => False
theorem call_len : CallR X (.builtin "len") (fun xs H Q => ∃ x n, xs = [x] ∧ LenV X.K x H n ∧ Q (.int n) H) := by
  intro pins s σ H xs us Q I r h
  obtain ⟨x, n, rfl, e, q⟩ := h
  obtain ⟨u, rfl, rx⟩ := vals1 r
  have hl := line63
  have hs : sizeLine = 16777216 := sizeLine_eq
  cases x with
  | str y =>
    obtain ⟨t, rfl⟩ := rx
    obtain ⟨hy, e'⟩ : y.length ≤ sizeLine ∧ n = y.length := e
    subst e'
    exact len_str (by omega) ⟨.int _, H, I.tok _, ⟨_, rfl⟩, q⟩
  | byt y =>
    obtain ⟨t, rfl⟩ := rx
    obtain ⟨hy, e'⟩ : y.size ≤ sizeLine ∧ n = y.size := e
    subst e'
    exact PySem.W.len_bytes (by omega) ⟨.int _, H, I.tok _, ⟨_, rfl⟩, q⟩
  | ref p =>
    cases rx
    have e' : (∃ xs, SqL X.K H p xs ∧ n = xs.length) ∨ ∃ xs, SqT X.K H p xs ∧ n = xs.length := e
    rcases e' with ⟨xs, hx, e'⟩ | ⟨xs, hx, e'⟩
    · subst e'
      obtain ⟨its, r', pl, hz⟩ := I.list hx
      have hlen := r'.length
      exact Calls.call_len_list pl.isList (by simp only [List.size_toArray]; omega) ⟨.int xs.length, H, I.tok _, ⟨_, by simp only [List.size_toArray]; rw [hlen]⟩, q⟩
    · subst e'
      obtain ⟨its, r', pl, hz⟩ := I.tuple hx
      have hlen := r'.length
      exact len_tuple pl (by simp only [List.size_toArray]; omega) ⟨.int xs.length, H, I.tok _, ⟨_, by simp only [List.size_toArray]; rw [hlen]⟩, q⟩
  | _ => exact (show False from e).elim
end
end L2

namespace L2
open PySem PySem.Spec PyProof.Rows

structure ObjM (h : Heap) (x dx C : Addr) (mA : Str → Option Value) : Prop where
  obj : h.get? x = some (PySem.W.instObj C dx)
  ns : h.Ns1 dx mA
  ne : dx ≠ x

theorem lookIn_ns {h : Heap} {dx : Addr} {mA : Str → Option Value} (n : h.Ns1 dx mA) : ∃ od, h.get? dx = some od ∧ ∀ name, PySem.W.lookIn name od = some (mA name) := by
  obtain ⟨o, es, ep, ho, hd, hk, _, hm⟩ := n
  refine ⟨o, ho, fun name => ?_⟩
  have e := hm name
  unfold nsFind findBy at e
  rw [← Array.find?_toList] at e
  unfold PySem.W.lookIn
  rw [hd]
  dsimp only
  split
  · rename_i y q
    rw [q] at e
    exact congrArg some e
  · rename_i q
    rw [q] at e
    have a : es.toList.any (·.refKey) = false := by
      rw [List.any_eq_false]
      intro y hy
      obtain ⟨z, t, hkey⟩ := hk y (Array.mem_toList_iff.mp hy)
      simp [DictEntry.refKey, hkey]
    have a' : ¬ es.toList.any (·.refKey) = true := by rw [a]; exact Bool.false_ne_true
    rw [if_neg a']
    exact congrArg some e

theorem ObjM.look {h : Heap} {x dx C : Addr} {mA : Str → Option Value} (I : ObjM h x dx C mA) : ∃ od, PySem.W.InstAt h x (PySem.W.instObj C dx) C (some od) ∧ ∀ name, PySem.W.lookIn name od = some (mA name) :=
  let ⟨od, ho, hl⟩ := lookIn_ns I.ns
  ⟨od, ⟨I.obj, rfl, rfl, ho⟩, hl⟩

section
variable {prog : Program} {w : World} {A : Around} {E : Value → Shared → Prop} {s : Shared} {K : PySem.W.Frag} {x dx C f : Addr} {mA : Str → Option Value} {name : Str} {v : Value}

end

theorem RelO.some_of {v : V} {o : Option Value} (r : RelO (some v) o) : ∃ u, o = some u ∧ RelV v u := by
  cases o with
  | none => exact (show False from r).elim
  | some u => exact ⟨u, rfl, r⟩
section
variable {P : Program} {w : World} {H H' : Hp} {h h' : Heap} {a C dx : Addr} {fs fs' : List (Str × V)}
theorem ins_get (hok : HOk P w H h) (e : H a = some (.ins C dx fs)) : ∃ mA, ObjM h a dx C mA ∧ (∀ f, RelO (fs.lookup f) (mA f)) ∧ PySem.Within mA (fs.map (·.1)) ∧ fs.length ≤ 1000 ∧ H dx = some (.own a) := by
  obtain ⟨d, z, ne, ob, mA, n, r, q⟩ := (show ObjOk P w H h a (.ins C dx fs) from hok a _ e)
  exact ⟨mA, ⟨ob, n, ne⟩, r, q, z, d⟩
end

structure Cls (K : PySem.W.Frag) (C : Addr) : Prop where
  pg : PySem.W.plainGet K C Str.empty = true
  hd : PySem.W.hasDictIn K C = true
  po : PySem.W.plainOver K C = true
  sa : PySem.W.findIn K (.ref C) "__setattr__" = some (some (.builtin "object.__setattr__"))
theorem Cls.get {K : PySem.W.Frag} {C : Addr} (c : Cls K C) (f : Str) : PySem.W.plainGet K C f = true := c.pg
structure Con (K : PySem.W.Frag) (C : Addr) (f : Str) (v : V) (u : Value) : Prop where
  at_ : PySem.W.findIn K (.ref C) f = some (some u)
  rel : RelV v u
  get : PySem.W.specialIn K u "__get__" = some none
  cp : PySem.W.copiedNames.contains f = false
structure Meth (K : PySem.W.Frag) (C : Addr) (m : Str) (f : Addr) : Prop where
  at_ : PySem.W.findIn K (.ref C) m = some (some (.ref f))
  fn : PySem.W.isFn K (.ref f) = true
  kp : PySem.W.keepIn K (.ref f) = true

section
variable {X : Cx} {pins : List (Addr × Obj)} {σ : St} {H : Hp} {s : Shared} {a C dx : Addr} {fs : List (Str × V)} {f : Str} {v : V} {A : Around} {E : Value → Shared → Prop}

end

section
variable {X : Cx} {o e value : Expr} {f : Str} {pos pos' tpos : Pos} {ta tv : TE}
end

section
variable {X : Cx} {pins : List (Addr × Obj)} {σ : St} {H : Hp} {s : Shared} {A : Around} {E : Value → Shared → Prop} {Q : Value → Shared → Prop} {c : Value} {b : Bool}
inductive TyOf (K : PySem.W.Frag) (H : Hp) : V → Value → Prop where
  | non : TyOf K H .non (.type "NoneType")
  | bl (x : Bool) : TyOf K H (.bl x) (.type "bool")
  | int (i : Int) : TyOf K H (.int i) (.type "int")
  | str (x : Str) : TyOf K H (.str x) (.type "str")
  | flt (x : UInt64) : TyOf K H (.flt x) (.type "float")
  | lst {a : Addr} {xs : List V} (e : H a = some (.lst xs)) : TyOf K H (.ref a) (.type "list")
  | frz {a : Addr} {o : Obj} {xs : List V} (e : H a = some (.frz o (.lst xs))) : TyOf K H (.ref a) (.type "list")
  | tup {a : Addr} {xs : List V} (e : H a = some (.tup xs)) : TyOf K H (.ref a) (.type "tuple")
  | dK {a : Addr} {kvs : List (Key × V)} (e : H a = some (.dK kvs)) : TyOf K H (.ref a) (.type "dict")
  | dT {a : Addr} {kvs : List (List Key × V)} (e : H a = some (.dT kvs)) : TyOf K H (.ref a) (.type "dict")
  | ins {a C dx : Addr} {fs : List (Str × V)} (e : H a = some (.ins C dx fs)) (cl : Cls K C) (ha : PySem.W.findIn K (.ref C) "__class__" = some (some (.builtin "object.__class__")))
      (hn : PySem.W.specialIn K (.builtin "object.__class__") "__get__" = some (some (.builtin "getset_descriptor.__get__"))) (htk : PySem.W.takesIn K (.builtin "object.__class__") = some true)
      (hm : PySem.W.mroIn K C (.type "object") = some true) : TyOf K H (.ref a) (.ref C)
theorem isinst_ok {x : V} {u t : Value} (I : Inv X pins σ H s) (rx : RelV x u) (ty : TyOf X.K H x t) (e : PySem.W.kitOne X.K t c = some b) (h : ∀ tk, Q (.bool b) { s with toks := tk }) :
    wpAny (model X.prog X.w) A (call (.builtin "isinstance") [u, c]) Q E s := by
  cases ty with
  | non => cases (show u = Value.none from rx); exact PySem.W.kia_one PySem.W.kitx_none I.kIn True.intro e (fun z => nomatch z) h
  | bl y => cases (show u = Value.bool y from rx); exact PySem.W.kia_one PySem.W.kitx_bool I.kIn True.intro e (fun z => nomatch z) h
  | int i => obtain ⟨t, q⟩ := (show ∃ t, u = Value.int i t from rx); cases q; exact PySem.W.kia_one PySem.W.kitx_int I.kIn True.intro e (fun z => nomatch z) h
  | str y => obtain ⟨t, q⟩ := (show ∃ t, u = Value.str y t from rx); cases q; exact PySem.W.kia_one PySem.W.kitx_str I.kIn True.intro e (fun z => nomatch z) h
  | flt y => obtain ⟨t, q⟩ := (show ∃ t, u = Value.float y t from rx); cases q; exact PySem.W.kia_one PySem.W.kitx_float I.kIn True.intro e (fun z => nomatch z) h
  | @lst a xs ea =>
    cases (show u = Value.ref a from rx)
    obtain ⟨_, _, n, _, h1⟩ := (show ObjOk X.prog X.w H s.heap a (.lst xs) from I.hok a _ ea)
    exact PySem.W.kia_one PySem.W.kitx_list I.kIn ⟨_, h1, rfl⟩ e (fun z => nomatch z) h
  | @frz a ob xs ea =>
    cases (show u = Value.ref a from rx)
    obtain ⟨_, _, _, n, _, h1⟩ := (show ObjOk X.prog X.w H s.heap a (.frz ob (.lst xs)) from I.hok a _ ea)
    exact PySem.W.kia_one PySem.W.kitx_list I.kIn ⟨_, h1, rfl⟩ e (fun z => nomatch z) h
  | @tup a xs ea =>
    cases (show u = Value.ref a from rx)
    obtain ⟨_, _, _, p⟩ := (show ObjOk X.prog X.w H s.heap a (.tup xs) from I.hok a _ ea)
    obtain ⟨o, h1, h2, _⟩ := p
    exact PySem.W.kia_one PySem.W.kitx_tuple I.kIn ⟨o, h1, h2⟩ e (fun z => nomatch z) h
  | @dK a kvs ea =>
    cases (show u = Value.ref a from rx)
    obtain ⟨_, _, vs, _, p⟩ := (show ObjOk X.prog X.w H s.heap a (.dK kvs) from I.hok a _ ea)
    obtain ⟨o, es, ep, h1, h2, _⟩ := p
    exact PySem.W.kia_one PySem.W.kitx_dict I.kIn ⟨o, h1, h2.1⟩ e (fun z => nomatch z) h
  | @dT a kvs ea =>
    cases (show u = Value.ref a from rx)
    obtain ⟨_, _, xs, _, o, es, ep, h1, h2, _⟩ := (show ObjOk X.prog X.w H s.heap a (.dT kvs) from I.hok a _ ea)
    exact PySem.W.kia_one PySem.W.kitx_dict I.kIn ⟨o, h1, h2.1⟩ e (fun z => nomatch z) h
  | @ins a C dx fs ea cl ha hn htk hm =>
    cases (show u = Value.ref a from rx)
    obtain ⟨mA, O, _⟩ := ins_get I.hok ea
    obtain ⟨od, J, _⟩ := O.look
    exact PySem.W.kia_one (PySem.W.kitx_own (cl.get _) cl.hd ha hn htk hm) I.kIn J e (fun z => nomatch z) h
end
end L2

namespace L2
open PySem PySem.Spec PyProof.Rows

structure Room (k : Nat) (A : Around) : Prop where
  hd : A.handled = none
  dp : A.depth + 3 * k + 5 < recursionLimit
  un : A.units + 16 * k + 200 < cLine
theorem Room.mono {j k : Nat} {A : Around} (r : Room k A) (h : j ≤ k) : Room j A := ⟨r.hd, by have := r.dp; omega, by have := r.un; omega⟩
theorem Room.deeper {k : Nat} {A : Around} (r : Room (k + 1) A) (env : Env) : Room k (A.deeper env) :=
  ⟨r.hd, by have := r.dp; show A.depth + 1 + 3 * k + 5 < _; omega, by have := r.un; show A.units + 3 + 16 * k + 200 < _; omega⟩
theorem Room.depth {k : Nat} {A : Around} (r : Room k A) : A.depth < recursionLimit := by have := r.dp; omega
theorem Room.units {k : Nat} {A : Around} (r : Room k A) : A.units + 64 < cLine := by have := r.un; omega
noncomputable def tNil : TA := fun _ H Q => Q [] H
noncomputable def tCons (ta : TE) (tr : TA) : TA := fun σ H Q => ta σ H fun x H1 => tr σ H1 fun xs H2 => Q (x :: xs) H2
section
variable {X : Cx} {e : Expr} {es : List Expr} {te : TE} {t : TA} {pos : Pos}
theorem pa_nil : PA X [] tNil := fun _ _ _ _ H Q I h => Calls.spliced_nil ⟨[], H, I, .nil, h⟩
theorem pa_cons (ha : PE X e te) (hr : PA X es t) (hs : starEach (e :: es) X.env = (false, eval e X.env) :: starEach es X.env := by rfl) : PA X (e :: es) (tCons te t) := by
  intro pos pins s σ H Q I h
  rw [hs]
  show wpAny _ _ (spliced ((false, eval e X.env) :: backTo pos (starEach es X.env))) _ _ s
  refine Calls.spliced_cons (thn (ha pins s σ H _ I h) fun u s1 ⟨x, H1, I1, r1, q1⟩ => ?_)
  exact thn (hr pos pins s1 σ H1 _ I1 q1) fun us s2 ⟨xs, H2, I2, r2, q2⟩ => ⟨x :: xs, H2, I2, .cons r1 r2, q2⟩

noncomputable def tTup (t : TA) : TE := fun σ H Q => t σ H fun xs H1 => xs.length ≤ sizeLine ∧ ∀ p, H1 p = none → Q (.ref p) (upd H1 p (.tup xs))
noncomputable def tLst (t : TA) : TE := fun σ H Q => t σ H fun xs H1 => xs.length ≤ sizeLine ∧ ∀ p, H1 p = none → Q (.ref p) (upd H1 p (.lst xs))
theorem pe_tup {x1} (h : PA X es t) : PE X (.Tuple es x1 pos) (tTup t) := by
  intro pins s σ H Q I hq
  refine wpAny_Tuple_spliced (thn (h pos pins s σ H _ I hq) fun us s1 ⟨xs, H1, I1, r, z, q⟩ => ⟨by rw [← r.length]; exact z, ?_⟩)
  have hf : H1 s1.heap.objs.size = none := I1.hok.fresh (Nat.le_refl _)
  refine ⟨.ref s1.heap.objs.size, upd H1 s1.heap.objs.size (.tup xs), I1.laid (t' := s1.toks) (fun b u e => Heap.get?_push_of_some _ e) (Nat.le_refl _) ?_, rfl, q _ hf⟩
  exact ⟨z, us, r, ⟨_, Heap.get?_push_size _ rfl, rfl, _, rfl⟩⟩
theorem pe_lst (h : PA X es t) : PE X (.List es pos) (tLst t) := by
  intro pins s σ H Q I hq
  refine wpAny_List_spliced (thn (h pos pins s σ H _ I hq) fun us s1 ⟨xs, H1, I1, r, z, q⟩ => ⟨by rw [← r.length]; exact z, ?_⟩)
  have hf : H1 s1.heap.objs.size = none := I1.hok.fresh (Nat.le_refl _)
  refine ⟨.ref s1.heap.objs.size, upd H1 s1.heap.objs.size (.lst xs), I1.laid (t' := s1.toks) (fun b u e => Heap.get?_push_of_some _ e) (Nat.le_refl _) ?_, rfl, q _ hf⟩
  exact ⟨z, us, 0, r, Heap.get?_push_size _ rfl⟩
end

noncomputable abbrev Sp := List V → Hp → VK → XK → Prop
noncomputable abbrev CXT := List Env → Hp → Shared → XK → Value → Shared → Prop

structure Env0 (P : Program) (w : World) (K : PySem.W.Frag) (mg : Str → Option Value) (base : Heap) (A : Around) (outer : List Env) (s : Shared) (H : Hp) : Prop where
  frames : A.frames = some outer
  mod : Mod K mg base
  bs : ∀ b o, base.get? b = some o → s.heap.get? b = some o ∧ H b = none
  bsz : base.objs.size ≤ s.heap.objs.size
  funs : s.heap.FunFrames base outer
  frf : ∀ b ∈ frs outer, H b = none
  hok : HOk P w H s.heap
  bare : AllBare s.gens
noncomputable def CE (outer : List Env) (P : Program) (w : World) (H : Hp) (s : Shared) (Q : VK) (u : Value) (s' : Shared) : Prop :=
  ∃ v H', s'.os = s.os ∧ AllBare s'.gens ∧ Un (frs outer) [] H H' s.heap s'.heap ∧ HOk P w H' s'.heap ∧ RelV v u ∧ Q v H'
noncomputable def CR (CX : CXT) (outer : List Env) (P : Program) (w : World) (H : Hp) (s : Shared) (Q : VK) (E : XK) (r : Result) (s' : Shared) : Prop :=
  match r with
  | .ok (.ret u) => CE outer P w H s Q u s'
  | .ok _ => False
  | .error e => CX outer H s E e s'
structure FnOk (P : Program) (w : World) (K : PySem.W.Frag) (mg : Str → Option Value) (base : Heap) (CX : CXT) (k : Nat) (f : Addr) (fd : FuncData) (ps : List Str) (sp : Sp) : Prop where
  len : ∀ vs H Q E, sp vs H Q E → vs.length = ps.length
  run : ∀ (A : Around) (outer : List Env) (s : Shared) (H : Hp) (args : Args) (us : List Value) (vs : List V) (Q : VK) (E : XK), Room k A → Env0 P w K mg base A outer s H → BindsTo s fd args (ps.zip us) → Vals vs us → sp vs H Q E →
    codeAny (model P w) A (.call (.ref f) args) (CR CX outer P w H s Q E) s
theorem FnOk.mono {P : Program} {w : World} {K : PySem.W.Frag} {mg : Str → Option Value} {base : Heap} {CX : CXT} {j k : Nat} {f : Addr} {fd : FuncData} {ps : List Str} {sp : Sp} (F : FnOk P w K mg base CX j f fd ps sp) (h : j ≤ k) :
    FnOk P w K mg base CX k f fd ps sp := ⟨F.len, fun A outer s H args us vs Q E hr => F.run A outer s H args us vs Q E (hr.mono h)⟩
section
variable {X : Cx} {pins : List (Addr × Obj)} {σ : St} {H : Hp} {s s' : Shared}
theorem Inv.env0 (I : Inv X pins σ H s) : Env0 X.prog X.w X.K X.mg X.base X.A X.stack s H :=
  ⟨I.ok.frames, I.ok.mod, I.bs, Nat.le_trans I.ok.bsz I.sz, I.stack, I.stkFree, I.hok, I.bare⟩
theorem Inv.after {Q : VK} {u : Value} (I : Inv X pins σ H s) (h : CE X.stack X.prog X.w H s Q u s') : EP X pins σ Q u s' := by
  obtain ⟨v, H', os, bare, un, hok, r, q⟩ := h
  obtain ⟨hh, g, d, t, os'⟩ := s'
  obtain rfl : os' = s.os := os
  exact ⟨v, H', I.call (h' := hh) (g' := g) (d' := d) (t' := t) (ch := []) un hok bare (fun b z => absurd z (by simp)), r, q⟩
end

noncomputable def tCall (sp : Sp) (dvs : List V) (E : XK) (t : TA) : TE := fun σ H Q => t σ H fun vs H1 => sp (vs ++ dvs) H1 Q E
noncomputable def Binds (K : PySem.W.Frag) (fd : FuncData) (ps : List Str) (ds : List Value) : Prop :=
  ∀ (s : Shared) (us : List Value), K.In s.heap → (us ++ ds).length = ps.length → BindsTo s fd ⟨us, []⟩ (ps.zip (us ++ ds))
theorem Binds.all {K : PySem.W.Frag} {fd : FuncData} {ps : List Str} (h : ∀ us : List Value, us.length = ps.length → bindArgs fd ⟨us, []⟩ = pure (ps.zip us)) : Binds K fd ps [] := fun s us _ hl => by
  rw [List.append_nil] at hl ⊢
  exact .of_eq (h us hl)

noncomputable def Passes (CX : CXT) (X : Cx) (E : XK) : Prop := ∀ (pins : List (Addr × Obj)) (σ : St) (H : Hp) (s : Shared) (e : Value) (s' : Shared), Inv X pins σ H s → CX X.stack H s E e s' → X.xe e s'

section
variable {X : Cx} {CX : CXT} {k : Nat} {f C : Addr} {fd : FuncData} {ps : List Str} {sp : Sp} {dvs : List V} {ds : List Value} {E : XK} {x m : Str} {p pos apos : Pos} {e o : Expr} {es : List Expr} {ta : TE} {t : TA}

theorem run_fn {pins : List (Addr × Obj)} {σ : St} {H : Hp} {s : Shared} {Q : VK} {us : List Value} {vs : List V} (F : FnOk X.prog X.w X.K X.mg X.base CX k f fd ps sp) (hr : Room k X.A) (hb : Binds X.K fd ps ds) (hd : Vals dvs ds) (hx : Passes CX X E)
    (I : Inv X pins σ H s) (r : Vals vs us) (h : sp (vs ++ dvs) H Q E) : wpAny (model X.prog X.w) X.A (call (.ref f) us) (EP X pins σ Q) X.xe s := by
  have r2 : Vals (vs ++ dvs) (us ++ ds) := r.append hd
  have hl : (us ++ ds).length = ps.length := by rw [← r2.length]; exact F.len _ _ _ _ h
  refine wpAny_call (codeAny_mono (F.run X.A X.stack s H ⟨us, []⟩ (us ++ ds) (vs ++ dvs) Q E hr I.env0 (hb s us I.kIn hl) r2 h) fun r s' hq => ?_)
  cases r with
  | error e => exact hx pins σ H s e s' I hq
  | ok fl =>
    cases fl with
    | ret u => exact I.after hq
    | next => exact False.elim hq
    | brk => exact False.elim hq
    | cont => exact False.elim hq

theorem pe_call (F : FnOk X.prog X.w X.K X.mg X.base CX k f fd ps sp) (hr : Room k X.A) (hg : Gl X x) (hm : X.mg x = some (.ref f)) (hk : PySem.W.keepIn X.K (.ref f) = true) (hb : Binds X.K fd ps ds) (hd : Vals dvs ds) (hx : Passes CX X E)
    (ha : PA X (e :: es) t) (hdb : (x == ("__debug__" : Str)) = false := by decide) (he : starEach (e :: es) X.env = (false, eval e X.env) :: starEach es X.env := by rfl) (hpl : (backTo pos (starEach es X.env)).any (·.1) = false := by rfl) :
    PE X (.Call (.Name x p) (e :: es) [] pos) (tCall sp dvs E t) := by
  intro pins s σ H Q I h
  refine wpAny_Call_Name_kw (ld_glob I hg hm ?_ hdb)
  refine PySem.W.callWith_K (h₀ := X.base) I.ok.mod.kin hk (thn (ha pos pins s σ H _ I h) fun us s1 ⟨vs, H1, I1, r, q⟩ => ⟨I1.kIn, ?_⟩) he hpl
  exact run_fn F hr hb hd hx I1 r q
structure Mk (K : PySem.W.Frag) (C f : Addr) : Prop where
  makes : PySem.W.makesIn K C = true
  init : PySem.W.findIn K (.ref C) "__init__" = some (some (.ref f))
  fn : PySem.W.isFn K (.ref f) = true
  kp : PySem.W.keepIn K (.ref C) = true

end

section
variable {X : Cx} {CX : CXT} {k : Nat} {f C : Addr} {fd : FuncData} {ps ks : List Str} {sp : Sp} {E : XK} {x m : Str} {p pos apos kpos : Pos} {e o : Expr} {es : List Expr} {kws : List Keyword} {te ta : TE} {t tk : TA} {nm : Option Str}
structure KBinds (K : PySem.W.Frag) (fd : FuncData) (ps ks : List Str) (g : List Value → List Value → List Value) (gV : List V → List V → List V) : Prop where
  to : ∀ (s : Shared) (us ws : List Value), K.In s.heap → (g us ws).length = ps.length → BindsTo s fd ⟨us, ks.zip ws⟩ (ps.zip (g us ws))
  rel : ∀ {vs : List V} {us : List Value} {zs : List V} {ws : List Value}, Vals vs us → Vals zs ws → Vals (gV vs zs) (g us ws)
variable {g : List Value → List Value → List Value} {gV : List V → List V → List V}
end

structure FnScope (N P : List Str) (sc : Scope) : Prop where
  kind : sc.kind = .function
  co : sc.isCoroutine = false
  gen : sc.isGenerator = false
  nd : N.Nodup
  pre : N.take P.length = P
  par : ∀ x ∈ P, sc.names.lookup x = some .local ∨ sc.names.lookup x = some .cell
  nofree : ∀ y ∈ sc.names, y.2 ≠ .free

theorem bindL_out {kindOf : Str → Option NameKind} {x : Str} : ∀ {binds : List (Str × Value)} {m : Str → Option Value}, (∀ v, (x, v) ∉ binds) → bindL kindOf binds m x = m x
  | [], _, _ => rfl
  | (n, v) :: r, m, h => by
    unfold bindL
    rw [bindL_out fun w hw => h w (List.mem_cons_of_mem _ hw)]
    split
    · have : x ≠ n := by rintro rfl; exact h v List.mem_cons_self
      simp [this]
    · rfl
theorem bindC_out {kindOf : Str → Option NameKind} {x : Str} : ∀ {binds : List (Str × Value)} {m : Str → Option Value}, (∀ v, (x, v) ∉ binds) → bindC kindOf binds m x = m x
  | [], _, _ => rfl
  | (n, v) :: r, m, h => by
    unfold bindC
    rw [bindC_out fun w hw => h w (List.mem_cons_of_mem _ hw)]
    split
    · rfl
    · have : x ≠ n := by rintro rfl; exact h v List.mem_cons_self
      simp [this]
theorem bindL_get {kindOf : Str → Option NameKind} {x : Str} {v : Value} : ∀ {P : List Str} {vs : List Value} {i : Nat} {m : Str → Option Value}, P.Nodup → P[i]? = some x → vs[i]? = some v → kindOf x = some .local →
    bindL kindOf (P.zip vs) m x = some v
  | [], _, _, _, _, h, _, _ => by simp at h
  | _ :: _, [], _, _, _, _, h, _ => by simp at h
  | p :: P, w :: vs, 0, m, nd, h1, h2, hk => by
    simp at h1 h2; subst h1; subst h2
    show bindL kindOf ((p, w) :: P.zip vs) m p = _
    unfold bindL
    rw [bindL_out fun v hv => (List.nodup_cons.mp nd).1 (List.of_mem_zip hv).1, if_pos hk]
    simp
  | p :: P, w :: vs, i + 1, m, nd, h1, h2, hk => by
    show bindL kindOf ((p, w) :: P.zip vs) m x = _
    unfold bindL
    exact bindL_get (i := i) (List.nodup_cons.mp nd).2 (by simpa using h1) (by simpa using h2) hk
theorem bindC_get {kindOf : Str → Option NameKind} {x : Str} {v : Value} : ∀ {P : List Str} {vs : List Value} {i : Nat} {m : Str → Option Value}, P.Nodup → P[i]? = some x → vs[i]? = some v → kindOf x ≠ some .local →
    bindC kindOf (P.zip vs) m x = some v
  | [], _, _, _, _, h, _, _ => by simp at h
  | _ :: _, [], _, _, _, _, h, _ => by simp at h
  | p :: P, w :: vs, 0, m, nd, h1, h2, hk => by
    simp at h1 h2; subst h1; subst h2
    show bindC kindOf ((p, w) :: P.zip vs) m p = _
    unfold bindC
    rw [bindC_out fun v hv => (List.nodup_cons.mp nd).1 (List.of_mem_zip hv).1, if_neg hk]
    simp
  | p :: P, w :: vs, i + 1, m, nd, h1, h2, hk => by
    show bindC kindOf ((p, w) :: P.zip vs) m x = _
    unfold bindC
    exact bindC_get (i := i) (List.nodup_cons.mp nd).2 (by simpa using h1) (by simpa using h2) hk

noncomputable def start (N : List Str) (vs : List V) : St := vs.map some ++ List.replicate (N.length - vs.length) none

noncomputable def cxOf (CX : CXT) (P : Program) (w : World) (K : PySem.W.Frag) (mg : Str → Option Value) (base : Heap) (N : List Str) (qual : Str) (scope : Scope) (f : Addr) (cd : Value) (A : Around) (outer : List Env) (s : Shared) (H : Hp) (E : XK) : Cx where
  prog := P
  w := w
  K := K
  mg := mg
  base := base
  A := A.deeper (envOfC qual scope s.heap.objs.size f cd)
  N := N
  s₀ := s
  H₀ := H
  env := envOfC qual scope s.heap.objs.size f cd
  outer := outer
  stack := envOfC qual scope s.heap.objs.size f cd :: outer
  ex := []
  calm := true
  fn := fun _ => true
  pn := []
  xe := fun e s' => wpAny (model P w) (A.deeper (envOfC qual scope s.heap.objs.size f cd)) (leaving (envOfC qual scope s.heap.objs.size f cd) e) (fun _ s'' => CX outer H s E e s'') (fun e' s'' => CX outer H s E e' s'') s'

theorem cell_has {sc : Scope} {n : Nat} {x : Str} (h : sc.names.lookup x = some .cell) : ∃ c, (cellsFrom n sc.names []).lookup x = some c := by
  have q := PySem.W.cellsFrom_some sc.names n [] (.inl h)
  exact Option.isSome_iff_exists.mp q

theorem inv_start {CX : CXT} {P : Program} {w : World} {K : PySem.W.Frag} {mg : Str → Option Value} {base : Heap} {N ps : List Str} {qual : Str} {scope : Scope} {f : Addr} {cd : Value} {A : Around} {outer : List Env} {s s1 : Shared} {H : Hp} {E : XK} {us : List Value} {vs : List V}
    (S : FnScope N ps scope) (hd : A.handled = none) (e0 : Env0 P w K mg base A outer s H) (hl : vs.length = ps.length) (r : Vals vs us)
    (x : InCallC s s.heap.objs.size (bindL (envOfC qual scope s.heap.objs.size f cd).kindOf (ps.zip us) fun _ => none) (cellsFrom (s.heap.objs.size + 1) scope.names []) (bindC (envOfC qual scope s.heap.objs.size f cd).kindOf (ps.zip us) fun _ => none) s1) :
    Inv (cxOf CX P w K mg base N qual scope f cd A outer s H E) [] (start N vs) H s1 := by
  have hpl : ps.length ≤ N.length := by have := congrArg List.length S.pre; rw [List.length_take] at this; omega
  obtain ⟨h1, tk, rfl, hk⟩ := x.done
  have noA : ∀ b : Addr, b ∉ (cxOf CX P w K mg base N qual scope f cd A outer s H E).ex := fun b z => absurd (show b ∈ ([] : List Addr) from z) (by simp)
  refine ⟨⟨e0.mod, S.kind, rfl, rfl, Nat.le_refl _, fun y z c h1 h2 => ?_, fun y hy => ?_, fun y c _ h => ?_, fun _ => hd, Around.frames_deeper e0.frames, .inr ⟨rfl, rfl⟩, fun b z => absurd z (noA b), e0.bs, e0.bsz, fun b _ _ => noA b, fun b z => absurd z (noA b), e0.funs, e0.frf⟩,
    rfl, e0.bare, Un.kept hk, ⟨_, x.toInCall.ns, fun i y v h1 h2 h3 => ?_⟩, fun y c h => ⟨_, x.cell y c h⟩, e0.hok.fresh (Nat.le_refl _), fun y c h => ?_, fun p hp => absurd (show p ∈ ([] : List (Addr × Obj)) from hp) (by simp), e0.hok.kept hk, ?_⟩
  · exact name_of_addr x.apart (PySem.mem_of_lookup h1) (PySem.mem_of_lookup h2)
  · have hy : scope.names.lookup y = some .cell ∨ scope.names.lookup y = some .free := hy
    rcases hy with hy | hy
    · exact cell_has hy
    · exact absurd rfl (S.nofree _ (PySem.mem_of_lookup hy))
  · exact Nat.le_of_lt (x.above y c (PySem.mem_of_lookup h))
  · have hi : i < vs.length := by
      unfold start at h2
      by_cases hi : i < vs.length
      · exact hi
      · rw [List.getElem?_append_right (by simpa using hi)] at h2
        rw [List.getElem?_replicate] at h2
        split at h2 <;> cases h2
    have ha : vs[i]? = some v := by
      unfold start at h2
      rw [List.getElem?_append_left (by simpa using hi), List.getElem?_map] at h2
      cases e : vs[i]? with
      | none => rw [e] at h2; cases h2
      | some a => rw [e] at h2; cases h2; rfl
    obtain ⟨u, hu, rv⟩ := r.get ha
    have hp : ps[i]? = some y := by
      rw [← S.pre, List.getElem?_take_of_lt (by omega)]; exact h1
    have ndP : ps.Nodup := by rw [← S.pre]; exact S.nd.sublist (List.take_sublist _ _)
    refine ⟨u, rv, ?_⟩
    rcases S.par y (List.mem_of_getElem? hp) with k | k
    · exact .inl ⟨k, bindL_get ndP hp hu k⟩
    · obtain ⟨c, e⟩ := cell_has (n := s.heap.objs.size + 1) k
      refine .inr ⟨.inl k, c, e, ?_⟩
      have q := x.cell y c e
      rw [bindC_get ndP hp hu (by show scope.names.lookup y ≠ _; rw [k]; decide)] at q
      exact q
  · exact e0.hok.fresh (Nat.le_of_lt (x.above y c (PySem.mem_of_lookup h)))
  · unfold start
    show _ = N.length
    rw [List.length_append, List.length_map, List.length_replicate]
    omega

theorem fn_of {CX : CXT} {P : Program} {w : World} {K : PySem.W.Frag} {mg : Str → Option Value} {base : Heap} {k : Nat} {f : Addr} {name qual : Str} {params : Arguments} {body : List Stmt} {scope : Scope} {dV kV doc pm cdv ct oc : Value} {an od : Option Addr}
    {osl : Array (Option Value)} {N ps : List Str} {sp : Sp} (lk : K.lookup f = some ⟨oc, od, .func (PySem.W.fnOf name qual params body scope dV kV doc pm an cdv ct), osl⟩) (hcd : PySem.W.codeIn K cdv qual = true) (S : FnScope N ps scope)
    (len : ∀ vs H Q E, sp vs H Q E → vs.length = ps.length)
    (hbody : ∀ (A : Around) (outer : List Env) (s : Shared) (H : Hp) (vs : List V) (Q : VK) (E : XK), Room k (A.deeper (envOfC qual scope s.heap.objs.size f cdv)) → sp vs H Q E →
      ∃ t, PSs (cxOf CX P w K mg base N qual scope f cdv A outer s H E) body t ∧ t { nx := fun _ H' => Q .non H', rt := Q } (start N vs) H) :
    FnOk P w K mg base CX (k + 1) f (PySem.W.fnOf name qual params body scope dV kV doc pm an cdv ct) ps sp := by
  refine ⟨len, fun A outer s H args us vs Q E hr e0 hb r hsp => ?_⟩
  have hl := len _ _ _ _ hsp
  have KX : K.In s.heap := e0.mod.kin.keeps fun b o e => (e0.bs b o e).1
  have lim : s.heap.NoLimit := e0.mod.nolimit.keeps fun b o e => (e0.bs b o e).1
  have hkind : ∀ y ∈ ps.zip us, scope.names.lookup y.1 = some .local ∨ (scope.names.lookup y.1 = some .cell ∧ ((cellsFrom (s.heap.objs.size + 1) scope.names []).lookup y.1).isSome = true) := fun ⟨n, v⟩ hy => by
    rcases S.par n (List.of_mem_zip hy).1 with q | q
    · exact .inl q
    · exact .inr ⟨q, PySem.W.cellsFrom_some _ _ _ (.inl q)⟩
  refine codeAny_call_function hr.depth (KX _ _ lk) rfl S.co S.gen rfl (PySem.W.codeRec_of KX hcd) (hb _ _ _ _ ?_)
  refine wpAny_newFunctionEnv_cells S.kind hkind fun env he s1 x => ?_
  subst he
  refine ⟨lim.keeps x.toInCall.keep, codeAny_func ?_⟩
  obtain ⟨t, ht, hq⟩ := hbody A outer s H vs Q E (hr.deeper _) hsp
  have I : Inv (cxOf CX P w K mg base N qual scope f cdv A outer s H E) [] (start N vs) H s1 := inv_start S hr.hd e0 hl r x
  refine wpAny_mono (ht [] s1 (start N vs) H _ I hq) (fun fl s' hs => ?_) fun e s' hs => hs
  have fin : ∀ {σ' : St} {H' : Hp} {v : V} {u : Value}, Inv (cxOf CX P w K mg base N qual scope f cdv A outer s H E) [] σ' H' s' → RelV v u → Q v H' → CE outer P w H s Q u s' :=
    fun {σ' H' v u} J rv q => ⟨v, H', J.os, J.bare, J.base, J.hok, rv, q⟩
  cases fl with
  | ret u =>
    obtain ⟨v, σ', H', J, rv, q⟩ := hs
    exact fin J rv q
  | next =>
    obtain ⟨σ', H', J, q⟩ := hs
    exact fin (v := V.non) (u := Value.none) J rfl q
  | brk =>
    obtain ⟨_, _, _, q⟩ := hs
    exact False.elim q
  | cont =>
    obtain ⟨_, _, _, q⟩ := hs
    exact False.elim q
end L2

namespace L2
open PySem PySem.Spec PyProof.Rows
section
variable {X : Cx} {x : Str} {p pos : Pos} {e : Expr} {es : List Expr} {t : TA} {id T : String} {r : List V → Hp → VK → Prop}

noncomputable def tCB (r : List V → Hp → VK → Prop) (t : TA) : TE := fun σ H Q => t σ H fun vs H1 => r vs H1 Q
theorem pe_callB (hc : CallR X (.builtin id) r) (hg : Gl X x) (hm : X.mg x = none) (hv : bootBuiltins x = some (.builtin id)) (ha : PA X (e :: es) t) (hn : x ≠ "__name__" := by decide) (hdb : (x == ("__debug__" : Str)) = false := by decide)
    (he : starEach (e :: es) X.env = (false, eval e X.env) :: starEach es X.env := by rfl) (hpl : (backTo pos (starEach es X.env)).any (·.1) = false := by rfl) : PE X (.Call (.Name x p) (e :: es) [] pos) (tCB r t) := by
  intro pins s σ H Q I h
  refine wpAny_Call_Name_kw (ld_blt I hg hm hv ?_ hn hdb)
  exact PyProof.Rows.callWith_builtin1 (thn (ha pos pins s σ H _ I h) fun us s1 ⟨vs, H1, I1, r1, q1⟩ => hc pins s1 σ H1 vs us Q I1 r1 q1) he hpl
theorem pe_callTy (hc : CallR X (.type T) r) (hg : Gl X x) (hm : X.mg x = none) (hv : bootBuiltins x = some (.type T)) (ha : PA X (e :: es) t) (hn : x ≠ "__name__" := by decide) (hdb : (x == ("__debug__" : Str)) = false := by decide)
    (he : starEach (e :: es) X.env = (false, eval e X.env) :: starEach es X.env := by rfl) (hpl : (backTo pos (starEach es X.env)).any (·.1) = false := by rfl) : PE X (.Call (.Name x p) (e :: es) [] pos) (tCB r t) := by
  intro pins s σ H Q I h
  refine wpAny_Call_Name_kw (ld_blt I hg hm hv ?_ hn hdb)
  exact PyProof.Rows.callWith_type1 (thn (ha pos pins s σ H _ I h) fun us s1 ⟨vs, H1, I1, r1, q1⟩ => hc pins s1 σ H1 vs us Q I1 r1 q1) he hpl
end
end L2

namespace HT
open PySem PyProof.Rows

section
open PySem.SeqAt
open PySem.AutoSeq1 (wpAny_loadPart')
open PySem.MeetsSeq PySem.MeetsSeq2 PySem.MeetsSeq3

end

section
variable {prog : Program} {w : World} {A : Around} {E : Value → Shared → Prop} {s : Shared}

noncomputable def sIx (n d : Nat) : Option Int → Nat
  | none => d
  | some v => if v < 0 then (v + (n : Int)).toNat else min v.toNat n
theorem sIx_none (n d : Nat) : sIx n d none = d := rfl
theorem sIx_nat (n d k : Nat) : sIx n d (some (k : Int)) = min k n := by
  show (if (k : Int) < 0 then ((k : Int) + (n : Int)).toNat else min (k : Int).toNat n) = min k n
  rw [if_neg (by omega), Int.toNat_natCast]
theorem sIx_le (n d : Nat) (hd : d ≤ n) (o : Option Int) : sIx n d o ≤ n := by
  cases o with
  | none => exact hd
  | some v =>
    show (if v < 0 then (v + (n : Int)).toNat else min v.toNat n) ≤ n
    by_cases hv : v < 0
    · rw [if_pos hv]; omega
    · rw [if_neg hv]; exact Nat.min_le_right _ _
theorem clip_eq (v : Int) (n d : Nat) : (if v < 0 then max (v + (n : Int)) 0 else min v (n : Int)) = ((sIx n d (some v) : Nat) : Int) := by
  show (if v < 0 then max (v + (n : Int)) 0 else min v (n : Int)) = (((if v < 0 then (v + (n : Int)).toNat else min v.toNat n) : Nat) : Int)
  by_cases hv : v < 0
  · simp only [if_pos hv]; omega
  · simp only [if_neg hv]; omega
theorem adjust_gen (lo hi : Option Int) (n : Nat) : Builtin.Slice.sliceAdjust lo hi 1 (n : Int) = (((sIx n 0 lo : Nat) : Int), ((sIx n n hi : Nat) : Int)) := by
  have h1 : ¬ ((1 : Int) < 0) := by omega
  unfold Builtin.Slice.sliceAdjust
  simp only [h1, if_false]
  refine Prod.ext ?_ ?_
  · cases lo with
    | none => rfl
    | some v => exact clip_eq v n 0
  · cases hi with
    | none => rfl
    | some v => exact clip_eq v n n
theorem places_gen (i j : Nat) : Builtin.Slice.slicePlaces (i : Int) (j : Int) 1 = j - i := by
  unfold Builtin.Slice.slicePlaces
  have h1 : (1 : Int) > 0 := by omega
  simp only [h1, if_true, Int.ediv_one]
  split <;> omega
theorem slicePart_ {v : Value} {o : Option Int} {Q : Option Int → Shared → Prop} (p : IsPart v o) (h : Q o s) : wpAny (model prog w) A (Builtin.Slice.slicePartIndex v) Q E s := by
  cases p with
  | none => exact slicePart_none h
  | int i t => exact slicePart_int h
theorem sliceApplied_gen {sl : Addr} {vl vu : Value} {lo hi : Option Int} {n : Nat} {Q : Int × Int × Nat → Shared → Prop} (hs : s.heap.IsSliceOf sl vl vu .none) (pl : IsPart vl lo) (pu : IsPart vu hi)
    (h : Q (((sIx n 0 lo : Nat) : Int), 1, sIx n n hi - sIx n 0 lo) s) : wpAny (model prog w) A (Builtin.Slice.sliceApplied (.ref sl) (pure (n : Int))) Q E s := by
  obtain ⟨os, hos, hcs, hds⟩ := id hs
  unfold Builtin.Slice.sliceApplied Builtin.Slice.sliceFields
  refine wpAny_bind (wpAny_bind (wpAny_field hos hds (x := vl) rfl (wpAny_bind (wpAny_field hos hds (x := vu) rfl (wpAny_bind (wpAny_field hos hds (x := .none) rfl (wpAny_pure ?_)))))))
  refine wpAny_bind (slicePart_none ?_)
  show wpAny _ _ (if ((1 : Int) == 0) = true then _ else _) _ _ s
  rw [if_neg (by decide)]
  refine wpAny_bind (slicePart_ pl (wpAny_bind (slicePart_ pu (wpAny_bind (wpAny_pure ?_)))))
  show wpAny _ _ (match Builtin.Slice.sliceAdjust lo hi 1 (n : Int) with | (lo, hi) => pure (lo, (1 : Int), Builtin.Slice.slicePlaces lo hi 1)) _ _ s
  rw [adjust_gen lo hi n]
  show wpAny _ _ (pure (((sIx n 0 lo : Nat) : Int), (1 : Int), Builtin.Slice.slicePlaces ((sIx n 0 lo : Nat) : Int) ((sIx n n hi : Nat) : Int) 1)) _ _ s
  rw [places_gen]
  exact wpAny_pure h
theorem pick_gen (xs : Array Value) (i k : Nat) : ((List.range k).filterMap fun (m : Nat) => xs[((i : Int) + (m : Int) * 1).toNat]?).toArray = ((xs.toList.drop i).take k).toArray := by
  have e : (fun (m : Nat) => xs[((i : Int) + (m : Int) * 1).toNat]?) = fun m => xs[i + m]? := by
    funext m
    have : ((i : Int) + (m : Int) * 1).toNat = i + m := by omega
    rw [this]
  rw [e]
  have := pick_run xs i k
  rw [List.filterMap_map] at this
  have e2 : ((fun x => xs[x]?) ∘ fun x => i + x) = fun m => xs[i + m]? := rfl
  rw [e2] at this
  rw [this]

theorem getItem_tuple_cut {t sl : Addr} {items : Array Value} {vl vu : Value} {lo hi : Option Int} {Q : Value → Shared → Prop} (ht : IsTup s.heap t items) (hs : s.heap.IsSliceOf sl vl vu .none) (pl : IsPart vl lo) (pu : IsPart vu hi)
    (hw : ¬ (sIx items.size 0 lo = 0 ∧ sIx items.size items.size hi = items.size))
    (h : Q (.ref s.heap.objs.size) { s with heap := s.heap.push { cls := .type "tuple", data := .seq ((items.toList.drop (sIx items.size 0 lo)).take (sIx items.size items.size hi - sIx items.size 0 lo)).toArray } })
    (hsz : items.size ≤ sizeLine) : wpAny (model prog w) A (getItem (.ref t) (.ref sl)) Q E s := by
  have htake : sizeOk (.seq ((items.toList.drop (sIx items.size 0 lo)).take (sIx items.size items.size hi - sIx items.size 0 lo)).toArray) := by
    show ((items.toList.drop (sIx items.size 0 lo)).take (sIx items.size items.size hi - sIx items.size 0 lo)).toArray.size ≤ sizeLine
    rw [List.size_toArray, List.length_take, List.length_drop, Array.length_toList]
    omega
  have hj : sIx items.size items.size hi ≤ items.size := sIx_le _ _ (Nat.le_refl _) hi
  obtain ⟨os, hos, hcs, hds⟩ := id hs
  have hTs : s.TypeIs (.ref sl) "slice" := ⟨os, hos, hcs⟩
  unfold getItem
  try with_reducible refine wpAny_holding ?_
  first | refine wpAny_bind (wpAny_pure ?_) | skip
  refine wpAny_bind (wpAny_sequenceKey ht.typeIs (by decide) ?_)
  refine wpAny_bind (wpAny_callSpecial?_slot (name := Str.ofString "__getitem__") ht.typeIs PyProof.Rows.slot_tuple_getitem
    (wpAny_call_entry PyProof.Rows.slot_tuple_getitem ht.typeIs entry_tuple_getitem ?_ (args_tuple_getitem _ _)))
  show wpAny _ _ (Builtin.Tuple.tupleItemsOf (.ref t) >>= _) _ _ s
  refine wpAny_bind (tupleItemsOf_ ht ?_)
  refine wpAny_bind (wpAny_typeOf hTs ?_)
  rw [if_pos (by decide)]
  refine wpAny_bind (sliceApplied_gen hs pl pu ?_)
  have hno : ¬ ((((sIx items.size 0 lo : Nat) : Int) == 0 && (1 : Int) == 1 && (sIx items.size items.size hi - sIx items.size 0 lo) == items.size) = true) := by
    intro q
    rw [Bool.and_eq_true, Bool.and_eq_true] at q
    have q1 : ((sIx items.size 0 lo : Nat) : Int) = 0 := eq_of_beq q.1.1
    have q2 : sIx items.size items.size hi - sIx items.size 0 lo = items.size := eq_of_beq q.2
    exact hw ⟨by omega, by omega⟩
  show wpAny _ _ (if (((sIx items.size 0 lo : Nat) : Int) == 0 && (1 : Int) == 1 && (sIx items.size items.size hi - sIx items.size 0 lo) == items.size) = true then _ else _) _ _ s
  rw [if_neg hno, pick_gen]
  first
    | exact wpAny_bind (m := Builtin.Tuple.tupleExact _) (wpAny_newObj_type (wpAny_pure ⟨_, rfl, wpAny_pure h⟩) htake)
    | exact wpAny_bind (m := Builtin.Tuple.tupleExact _) (wpAny_newObj_type (wpAny_bind (wpAny_pure (wpAny_pure ⟨_, rfl, wpAny_pure h⟩))) htake)
    | exact wpAny_bind (wpAny_bind (m := Builtin.Tuple.tupleExact _) (wpAny_newObj_type (wpAny_pure (wpAny_pure ⟨_, rfl, wpAny_pure h⟩)) htake))
    | exact wpAny_bind (wpAny_bind (m := Builtin.Tuple.tupleExact _) (wpAny_newObj_type (wpAny_pure ⟨_, rfl, wpAny_pure h⟩) htake))
end
end HT

namespace L2
open PySem PySem.Spec PyProof.Rows

noncomputable abbrev TO := St → Hp → (Option Int → Hp → Prop) → Prop
noncomputable def PO (X : Cx) (e : Option Expr) (t : TO) : Prop :=
  ∀ (pins : List (Addr × Obj)) (s : Shared) (σ : St) (H : Hp) (Q : Option Int → Hp → Prop), Inv X pins σ H s → t σ H Q →
    wpAny (model X.prog X.w) X.A (evalPart e X.env) (fun u s' => ∃ o H', Inv X pins σ H' s' ∧ IsPart u o ∧ Q o H') X.xe s
noncomputable def tNoPart : TO := fun _ H Q => Q none H
noncomputable def tPart (t : TE) : TO := fun σ H Q => t σ H fun x H1 => ∃ i, x = .int i ∧ Q (some i) H1

section
variable {X : Cx} {e : Expr} {te : TE} {lo hi : Option Expr} {tl th : TO} {pos p2 : Pos}

theorem po_none : PO X none tNoPart := by
  intro pins s σ H Q I h
  rw [evalPart_none]
  exact wpAny_pure ⟨none, H, I, .none, h⟩
theorem po_some (h : PE X e te) : PO X (some e) (tPart te) := by
  intro pins s σ H Q I hw
  rw [evalPart_some]
  refine thn (h pins s σ H _ I hw) fun u s1 ⟨x, H1, I1, r1, q1⟩ => ?_
  obtain ⟨i, rfl, q⟩ := q1
  obtain ⟨t, rfl⟩ := r1
  exact ⟨some i, H1, I1, .int i t, q⟩

noncomputable def SlR (X : Cx) (r : V → Option Int → Option Int → Hp → VK → Prop) : Prop :=
  ∀ (pins : List (Addr × Obj)) (s : Shared) (σ : St) (H : Hp) (x : V) (v vl vu : Value) (lo hi : Option Int) (sl : Addr) (Q : VK), Inv X pins σ H s → RelV x v → s.heap.IsSliceOf sl vl vu .none → IsPart vl lo → IsPart vu hi → r x lo hi H Q →
    ∃ T id, typeLookup (.type T) "__getitem__" = pure (some (.builtin id)) ∧ s.TypeIs v T ∧ wpAny (model X.prog X.w) X.A (getItem v (.ref sl)) (EP X pins σ Q) X.xe s
theorem SlR.or {r r' : V → Option Int → Option Int → Hp → VK → Prop} (h : SlR X r) (h' : SlR X r') : SlR X (fun x lo hi H Q => r x lo hi H Q ∨ r' x lo hi H Q) := by
  intro pins s σ H x v vl vu lo hi sl Q I rx hs pl pu q
  rcases q with q | q
  · exact h pins s σ H x v vl vu lo hi sl Q I rx hs pl pu q
  · exact h' pins s σ H x v vl vu lo hi sl Q I rx hs pl pu q
noncomputable def tSl (r : V → Option Int → Option Int → Hp → VK → Prop) (te : TE) (tl th : TO) : TE := fun σ H Q => te σ H fun x H1 => tl σ H1 fun l H2 => th σ H2 fun u H3 => r x l u H3 Q
theorem pe_slice {r : V → Option Int → Option Int → Hp → VK → Prop} (hr : SlR X r) (he : PE X e te) (hl : PO X lo tl) (hu : PO X hi th) : PE X (.Subscript e (.Slice lo hi none p2) pos) (tSl r te tl th) := by
  intro pins s σ H Q I h
  refine Subscript_ (thn (he pins s σ H _ I h) fun v s1 ⟨x, H1, I1, r1, q1⟩ => ?_)
  refine wpAny_Slice (thn (hl pins s1 σ H1 _ I1 q1) fun vl s2 ⟨l, H2, I2, pl, q2⟩ => thn (hu pins s2 σ H2 _ I2 q2) fun vu s3 ⟨u, H3, I3, pu, q3⟩ => ?_)
  rw [evalPart_none]
  refine wpAny_pure ?_
  have I4 : Inv X pins σ H3 { s3 with heap := s3.heap.push { cls := .type "slice", data := .fields #[vl, vu, .none] } } := I3.kept (t' := s3.toks) fun b ob q => Heap.get?_push_of_some _ q
  obtain ⟨T, id, hT, ht, hg⟩ := hr pins { s3 with heap := s3.heap.push { cls := .type "slice", data := .fields #[vl, vu, .none] } } σ H3 x v vl vu l u s3.heap.objs.size Q I4 r1 (Heap.IsSliceOf.new ..) pl pu q3
  show wpAny (model X.prog X.w) X.A (subscriptTail e (.Slice lo hi none p2) v (.ref s3.heap.objs.size)) (EP X pins σ Q) X.xe { s3 with heap := s3.heap.push { cls := .type "slice", data := .fields #[vl, vu, .none] } }
  exact tail_any (ops := [.ref s3.heap.objs.size, v]) ht hT hg (by with_unfolding_all rfl)

noncomputable def cutV (xs : List V) (lo hi : Option Int) : List V := (xs.drop (HT.sIx xs.length 0 lo)).take (HT.sIx xs.length xs.length hi - HT.sIx xs.length 0 lo)
theorem cutV_length (xs : List V) (lo hi : Option Int) : (cutV xs lo hi).length ≤ xs.length := by
  unfold cutV
  rw [List.length_take, List.length_drop]
  omega
noncomputable def rSlT (K : PySem.W.Frag) : V → Option Int → Option Int → Hp → VK → Prop := fun x lo hi H Q => ∃ a xs, x = .ref a ∧ SqT K H a xs ∧
  ¬ (HT.sIx xs.length 0 lo = 0 ∧ HT.sIx xs.length xs.length hi = xs.length) ∧ ∀ p, H p = none → Q (.ref p) (upd H p (.tup (cutV xs lo hi)))
theorem sl_tup : SlR X (rSlT X.K) := by
  intro pins s σ H x v vl vu lo hi sl Q I rx hs pl pu h
  obtain ⟨a, xs, rfl, hx, hw, q⟩ := h
  cases rx
  obtain ⟨its, r, ht, hz⟩ := I.tuple hx
  have hlen : its.toArray.size = xs.length := by rw [List.size_toArray]; exact r.length.symm
  refine ⟨"tuple", _, PyProof.Rows.slot_tuple_getitem.lookup, ht.typeIs, ?_⟩
  refine HT.getItem_tuple_cut ht hs pl pu (by rw [hlen]; exact hw) ?_ (by rw [hlen]; exact hz)
  rw [hlen]
  refine ⟨.ref s.heap.objs.size, _, I.laid (t' := s.toks) (o := .tup (cutV xs lo hi)) (fun b ob q => Heap.get?_push_of_some _ q) (Nat.le_refl _) ?_, rfl, q _ (I.hok.fresh (Nat.le_refl _))⟩
  exact ⟨Nat.le_trans (cutV_length xs lo hi) hz, _, (r.drop (HT.sIx xs.length 0 lo)).take (HT.sIx xs.length xs.length hi - HT.sIx xs.length 0 lo), IsTup.new _ _⟩

end
end L2

namespace L2
open PySem PySem.Spec PyProof.Rows

noncomputable def ixN (n : Nat) (i : Int) : Option Nat := if 0 ≤ i then (if i < n then some i.toNat else none) else if -(n : Int) ≤ i then some (i + n).toNat else none
noncomputable def atI {α : Type} (xs : List α) (i : Int) : Option α := (ixN xs.length i).bind fun j => xs[j]?
theorem ixN_seq {n : Nat} {i : Int} {j : Nat} (h : ixN n i = some j) : seqIndex? i n = some j ∧ j < n ∧ -(n : Int) ≤ i ∧ i < n := by
  unfold ixN at h
  by_cases h0 : 0 ≤ i
  · rw [if_pos h0] at h
    by_cases h1 : i < n
    · rw [if_pos h1] at h
      have e : i.toNat = j := Option.some.inj h
      exact ⟨by rw [seqIndex_of h0 h1, e], by omega, by omega, h1⟩
    · rw [if_neg h1] at h; cases h
  · rw [if_neg h0] at h
    by_cases h1 : -(n : Int) ≤ i
    · rw [if_pos h1] at h
      have e : (i + n).toNat = j := Option.some.inj h
      exact ⟨by rw [seqIndex_neg (by omega) h1, e], by omega, h1, by omega⟩
    · rw [if_neg h1] at h; cases h
theorem atI_get {α : Type} {xs : List α} {i : Int} {v : α} (h : atI xs i = some v) : ∃ j, seqIndex? i xs.length = some j ∧ xs[j]? = some v ∧ j < xs.length ∧ -(xs.length : Int) ≤ i ∧ i < xs.length := by
  unfold atI at h
  cases e : ixN xs.length i with
  | none => rw [e] at h; cases h
  | some j =>
    rw [e] at h
    obtain ⟨h1, h2, h3, h4⟩ := ixN_seq e
    exact ⟨j, h1, h, h2, h3, h4⟩
theorem atI_nat {α : Type} {xs : List α} {j : Nat} {v : α} (h : xs[j]? = some v) : atI xs (j : Int) = some v := by
  have hj : j < xs.length := (List.getElem?_eq_some_iff.mp h).1
  have e : ixN xs.length (j : Int) = some j := by
    unfold ixN
    rw [if_pos (by omega), if_pos (by omega)]; simp
  unfold atI; rw [e]; exact h
noncomputable def PlainIx (b : Expr) : Prop := ∀ o i, subscripted b false o i = operate [o, i] (getItem o i)
noncomputable def IxR (X : Cx) (r : R2) : Prop :=
  ∀ (value slice : Expr) (pins : List (Addr × Obj)) (s : Shared) (σ : St) (H : Hp) (x y : V) (v u : Value) (Q : VK), Inv X pins σ H s → RelV x v → RelV y u → r x y H Q →
    subscripted slice false v u = operate [v, u] (getItem v u) → wpAny (model X.prog X.w) X.A (subscriptTail value slice v u) (EP X pins σ Q) X.xe s
noncomputable def MtR (X : Cx) (id : String) (r : V → List V → Hp → VK → Prop) : Prop :=
  ∀ (pins : List (Addr × Obj)) (s : Shared) (σ : St) (H : Hp) (x : V) (xs : List V) (v : Value) (us : List Value) (Q : VK), Inv X pins σ H s → RelV x v → Vals xs us → r x xs H Q →
    wpAny (model X.prog X.w) X.A (call (.builtin id) (v :: us)) (EP X pins σ Q) X.xe s
section
variable {X : Cx} {a b : Expr} {ta tb : TE} {pos : Pos}
theorem IxR.or {r r' : R2} (h : IxR X r) (h' : IxR X r') : IxR X (fun x y H Q => r x y H Q ∨ r' x y H Q) := by
  intro value slice pins s σ H x y v u Q I rx ry q hs
  rcases q with q | q
  · exact h value slice pins s σ H x y v u Q I rx ry q hs
  · exact h' value slice pins s σ H x y v u Q I rx ry q hs
theorem pe_ix {r : R2} (hr : IxR X r) (ha : PE X a ta) (hb : PE X b tb) (hs : PlainIx b) : PE X (.Subscript a b pos) (tOp r ta tb) := by
  intro pins s σ H Q I h
  exact Subscript_ (binT ha hb I h fun v u s2 x y H2 I2 rx ry q => hr a b pins s2 σ H2 x y v u Q I2 rx ry q (hs _ _))

noncomputable def rIxL (K : PySem.W.Frag) : R2 := fun x y H Q => ∃ p xs i v, x = .ref p ∧ y = .int i ∧ SqL K H p xs ∧ atI xs i = some v ∧ Q v H
noncomputable def rIxT (K : PySem.W.Frag) : R2 := fun x y H Q => ∃ p xs i v, x = .ref p ∧ y = .int i ∧ SqT K H p xs ∧ atI xs i = some v ∧ Q v H
noncomputable def rIxS : R2 := fun x y H Q => ∃ z i c, x = .str z ∧ y = .int i ∧ z.length ≤ sizeLine ∧ atI z.cps.toList i = some c ∧ Q (.str ⟨#[c]⟩) H
theorem ix_list : IxR X (rIxL X.K) := by
  intro value slice pins s σ H x y v u Q I rx ry h hs
  obtain ⟨p, xs, i, z, rfl, rfl, hq, he, q⟩ := h
  cases rx
  obtain ⟨t, rfl⟩ := ry
  obtain ⟨its, r, pl, hz⟩ := I.list hq
  obtain ⟨j, h1, h2, h3, h4, h5⟩ := atI_get he
  obtain ⟨w, ew, rw'⟩ := r.get h2
  have hl := r.length
  have hn := line63
  have fin : EP X pins σ Q w s := ⟨z, H, I, rw', q⟩
  by_cases h0 : 0 ≤ i
  · have hj : i.toNat = j := by
      rw [seqIndex_of h0 h5] at h1
      exact Option.some.inj h1
    exact item_listR pl.isList h0 (by omega) (by rw [hj]; simpa using ew) fin hs
  · have hj : (i + (its.toArray.size : Int)).toNat = j := by
      rw [seqIndex_neg (by omega) h4] at h1
      rw [List.size_toArray, ← hl]
      exact Option.some.inj h1
    exact subscriptTail_builtinR (x := w) pl.isList.typeIs slot_list_getitem.lookup
      (wpAny_getItem_list_neg (Q := fun r s' => r = w ∧ EP X pins σ Q r s') pl.isList (by omega) (by rw [List.size_toArray] <;> omega) (by omega) (by rw [hj]; simpa using ew) ⟨rfl, fin⟩) hs
theorem ix_tup : IxR X (rIxT X.K) := by
  intro value slice pins s σ H x y v u Q I rx ry h hs
  obtain ⟨p, xs, i, z, rfl, rfl, hq, he, q⟩ := h
  cases rx
  obtain ⟨t, rfl⟩ := ry
  obtain ⟨its, r, pl, hz⟩ := I.tuple hq
  obtain ⟨j, h1, h2, h3, h4, h5⟩ := atI_get he
  obtain ⟨w, ew, rw'⟩ := r.get h2
  have hl := r.length
  have hn := line63
  have fin : EP X pins σ Q w s := ⟨z, H, I, rw', q⟩
  exact subscriptTail_builtinR (x := w) pl.typeIs slot_tuple_getitem.lookup
    (getItem_tuple (j := j) (Q := fun r s' => r = w ∧ EP X pins σ Q r s') pl (by omega) (by omega) (by rw [List.size_toArray, ← hl]; exact h1) (by simpa using ew) ⟨rfl, fin⟩) hs
theorem ix_str : IxR X rIxS := by
  intro value slice pins s σ H x y v u Q I rx ry h hs
  obtain ⟨z, i, c, rfl, rfl, hz, he, q⟩ := h
  obtain ⟨t, rfl⟩ := rx
  obtain ⟨t', rfl⟩ := ry
  obtain ⟨j, h1, h2, h3, h4, h5⟩ := atI_get he
  have hl : z.cps.toList.length = z.length := by simp [Str.length]
  rw [hl] at h1 h4 h5
  have hn := line63
  exact tail_any (typeIs_str s z t) slot_str_getitem.lookup (getItem_str (c := c) (by
    have e1 : decide (i < -(2 ^ 63 : Int)) = false := decide_eq_false (by omega)
    have e2 : decide (i ≥ 2 ^ 63) = false := decide_eq_false (by omega)
    rw [e1, e2, Bool.or_false]) (by rw [h1]; simpa using h2) ⟨.str ⟨#[c]⟩, H, I.tok _, ⟨_, rfl⟩, q⟩) hs
noncomputable def rIx (K : PySem.W.Frag) : R2 := fun x y H Q => rIxL K x y H Q ∨ rIxT K x y H Q ∨ rIxS x y H Q
theorem ix_seq : IxR X (rIx X.K) := ix_list.or (ix_tup.or ix_str)

theorem mapSeq_set (its : List Value) (n j : Nat) (u : Value) : Obj.mapSeq (·.setIfInBounds j u) { cls := .type "list", data := .seq its.toArray n } = { cls := .type "list", data := .seq (its.set j u).toArray n } := by
  simp [Obj.mapSeq]
theorem Inv.lst {pins : List (Addr × Obj)} {σ : St} {H : Hp} {s : Shared} {p : Addr} {xs : List V} (I : Inv X pins σ H s) (h : H p = some (.lst xs)) :
    ∃ (its : List Value) (n : Nat), Vals xs its ∧ s.heap.get? p = some { cls := .type "list", data := .seq its.toArray n } ∧ xs.length ≤ sizeLine := by
  obtain ⟨z, its, n, r, e⟩ := I.hok p _ h
  exact ⟨its, n, r, e, z⟩
theorem Inv.lstUpd {pins : List (Addr × Obj)} {σ : St} {H : Hp} {s : Shared} {p : Addr} {xs ys : List V} {its its' : List Value} {n n' : Nat} {f : Obj → Obj} (I : Inv X pins σ H s) (h : H p = some (.lst xs))
    (ho : s.heap.get? p = some { cls := .type "list", data := .seq its.toArray n }) (hf : f { cls := .type "list", data := .seq its.toArray n } = { cls := .type "list", data := .seq its'.toArray n' }) (r : Vals ys its') (hz : ys.length ≤ sizeLine) (t : Nat) :
    Inv X pins σ (upd H p (.lst ys)) { s with heap := s.heap.update p f, toks := t } := by
  have e : (s.heap.update p f).get? p = some { cls := .type "list", data := .seq its'.toArray n' } := by
    rw [Heap.get?_update_self f ho (by rw [hf] <;> rfl), hf]
  refine I.write (x := p) (e := p) (by rw [h]; trivial) (.inl rfl) (fun b u hb q => (Heap.get?_update_other _ _ (Ne.symm hb)).trans q) ⟨_, e⟩ ?_
  exact ⟨hz, its', n', r, e⟩
noncomputable def rSetL : V → V → V → Hp → (Hp → Prop) → Prop := fun o i v H Q => ∃ p xs k j, o = .ref p ∧ i = .int k ∧ H p = some (.lst xs) ∧ ixN xs.length k = some j ∧ Q (upd H p (.lst (xs.set j v)))
theorem set_list : PSet X rSetL := by
  intro pins s σ H o i v ov iv u Q I ro ri rv h
  obtain ⟨p, xs, k, j, rfl, rfl, hp, hj, q⟩ := h
  cases ro
  obtain ⟨t, rfl⟩ := ri
  obtain ⟨its, n, r, ho, hz⟩ := I.lst hp
  obtain ⟨h1, h2, h3, h4⟩ := ixN_seq hj
  have hl := r.length
  have hn := line63
  have I' : Inv X pins σ (upd H p (.lst (xs.set j v))) { s with heap := s.heap.update p (Obj.mapSeq (·.setIfInBounds j u)) } :=
    I.lstUpd hp ho (mapSeq_set its n j u) (r.set rv j) (by rw [List.length_set]; exact hz) s.toks
  by_cases h0 : 0 ≤ k
  · have hk : k.toNat = j := by
      rw [seqIndex_of h0 h4] at h1
      exact Option.some.inj h1
    exact PySem.W.ki_setAt ho h0 (by omega) (by rw [List.size_toArray, ← hl]; exact h4) (by rw [hk]; exact ⟨_, I', q⟩)
  · have hk : (k + (its.toArray.size : Int)).toNat = j := by
      rw [seqIndex_neg (by omega) h3] at h1
      rw [List.size_toArray, ← hl]
      exact Option.some.inj h1
    exact PySem.W.ki_setBack ho (by omega) (by rw [List.size_toArray, ← hl]; exact h3) (by omega) (by rw [hk]; exact ⟨_, I', q⟩)

theorem slice_bounds (lo hi : Option Int) (n : Nat) : (sliceBounds lo hi none n).1 = ((HT.sIx n 0 lo : Nat) : Int) ∧ (sliceBounds lo hi none n).2.1 = ((HT.sIx n n hi : Nat) : Int) ∧ (sliceBounds lo hi none n).2.2 = 1 := by
  refine ⟨?_, ?_, rfl⟩
  · cases lo with
    | none => simp [sliceBounds, HT.sIx]
    | some i =>
      simp only [sliceBounds, HT.sIx, Option.getD_none, show (1 : Int) > 0 by decide, if_true]
      by_cases h : i < 0
      · simp only [h, if_true] <;> omega
      · simp only [h, if_false] <;> omega
  · cases hi with
    | none => simp [sliceBounds, HT.sIx]
    | some i =>
      simp only [sliceBounds, HT.sIx, Option.getD_none, show (1 : Int) > 0 by decide, if_true]
      by_cases h : i < 0
      · simp only [h, if_true] <;> omega
      · simp only [h, if_false] <;> omega
theorem slicePick_cut (its : List Value) (lo hi : Option Int) : slicePick its.toArray lo hi none = ((its.drop (HT.sIx its.length 0 lo)).take (HT.sIx its.length its.length hi - HT.sIx its.length 0 lo)).toArray := by
  obtain ⟨h1, h2, h3⟩ := slice_bounds lo hi its.toArray.size
  unfold slicePick
  rw [h1, h2, h3]
  simp only [sliceRange_one, pick_run, List.size_toArray] <;> rfl
noncomputable def rSlL (K : PySem.W.Frag) : V → Option Int → Option Int → Hp → VK → Prop := fun x lo hi H Q => ∃ a xs, x = .ref a ∧ SqL K H a xs ∧ ∀ p, H p = none → Q (.ref p) (upd H p (.lst (cutV xs lo hi)))
theorem sl_list : SlR X (rSlL X.K) := by
  intro pins s σ H x v vl vu lo hi sl Q I rx hs pl pu h
  obtain ⟨a, xs, rfl, hx, q⟩ := h
  cases rx
  obtain ⟨its, r, ht, hz⟩ := I.list hx
  have hlen := r.length
  refine ⟨"list", _, slot_list_getitem.lookup, ht.isList.typeIs, ?_⟩
  refine wpAny_getItem_list_slice ht.isList hs pl pu .none (by simp) ?_ (by rw [List.size_toArray] <;> omega)
  rw [slicePick_cut, ← hlen]
  refine ⟨.ref s.heap.objs.size, _, I.laid (t' := s.toks) (o := .lst (cutV xs lo hi)) (fun b ob q => Heap.get?_push_of_some _ q) (Nat.le_refl _) ?_, rfl, q _ (I.hok.fresh (Nat.le_refl _))⟩
  exact ⟨Nat.le_trans (cutV_length xs lo hi) hz, _, 0, (r.drop (HT.sIx xs.length 0 lo)).take (HT.sIx xs.length xs.length hi - HT.sIx xs.length 0 lo), Heap.get?_push_size _ rfl⟩

noncomputable def flatV : V → Bool
  | .non => true
  | .bl _ => true
  | .int _ => true
  | .str _ => true
  | _ => false
noncomputable def eqV : V → V → Bool
  | .non, .non => true
  | .bl a, .bl b => a == b
  | .bl a, .int b => (if a then 1 else 0) == b
  | .int a, .bl b => a == (if b then 1 else 0)
  | .int a, .int b => a == b
  | .str a, .str b => a == b
  | _, _ => false
theorem eqAt_V {A : Around} {s : Shared} {y x : V} {u v : Value} (ry : RelV y u) (rx : RelV x v) (fy : flatV y = true) (fx : flatV x = true) : SeqAt.EqAt A s u v (eqV y x) := by
  cases y with
  | non =>
    cases ry
    cases x with
    | non => cases rx; exact SeqAt.EqAt.same _
    | bl b => cases rx; exact SeqAt.EqAt.none_bool b
    | int b => obtain ⟨t, rfl⟩ := rx; exact SeqAt.EqAt.none_int b t
    | str b => obtain ⟨t, rfl⟩ := rx; exact SeqAt.EqAt.none_str b t
    | _ => exact absurd (show false = true from fx) Bool.false_ne_true
  | bl a =>
    cases ry
    cases x with
    | non => cases rx; exact SeqAt.EqAt.bool_none a
    | bl b => cases rx; exact SeqAt.EqAt.bool_bool a b
    | int b => obtain ⟨t, rfl⟩ := rx; exact SeqAt.EqAt.bool_int a b t
    | str b => obtain ⟨t, rfl⟩ := rx; exact SeqAt.EqAt.bool_str a b t
    | _ => exact absurd (show false = true from fx) Bool.false_ne_true
  | int a =>
    obtain ⟨t', rfl⟩ := ry
    cases x with
    | non => cases rx; exact SeqAt.EqAt.int_none a t'
    | bl b => cases rx; exact SeqAt.EqAt.int_bool a t' b
    | int b => obtain ⟨t, rfl⟩ := rx; exact SeqAt.EqAt.int_int a t' b t
    | str b => obtain ⟨t, rfl⟩ := rx; exact SeqAt.EqAt.int_str a t' b t
    | _ => exact absurd (show false = true from fx) Bool.false_ne_true
  | str a =>
    obtain ⟨t', rfl⟩ := ry
    cases x with
    | non => cases rx; exact SeqAt.EqAt.str_none a t'
    | bl b => cases rx; exact SeqAt.EqAt.str_bool a t' b
    | int b => obtain ⟨t, rfl⟩ := rx; exact SeqAt.EqAt.str_int a t' b t
    | str b => obtain ⟨t, rfl⟩ := rx; exact SeqAt.EqAt.str_str a t' b t
    | _ => exact absurd (show false = true from fx) Bool.false_ne_true
  | _ => exact absurd (show false = true from fy) Bool.false_ne_true
noncomputable def eqU (x : V) (u : Value) : Bool := match u with
  | .none => eqV .non x
  | .bool b => eqV (.bl b) x
  | .int i _ => eqV (.int i) x
  | .str z _ => eqV (.str z) x
  | _ => false
theorem eqU_of {x y : V} {u : Value} (r : RelV y u) (f : flatV y = true) : eqU x u = eqV y x := by
  cases y with
  | non => cases r; rfl
  | bl b => cases r; rfl
  | int i => obtain ⟨t, rfl⟩ := r; rfl
  | str z => obtain ⟨t, rfl⟩ := r; rfl
  | _ => exact absurd (show false = true from f) Bool.false_ne_true
theorem any_eqU {x : V} : ∀ {xs : List V} {us : List Value}, Vals xs us → xs.all flatV = true → us.any (eqU x) = xs.any fun y => eqV y x
  | _, _, .nil, _ => rfl
  | y :: xs, u :: us, .cons r t, f => by
    rw [List.all_cons, Bool.and_eq_true] at f
    rw [List.any_cons, List.any_cons, eqU_of r f.1, any_eqU t f.2]
theorem mem_eqAt {A : Around} {s : Shared} {x : V} {v : Value} (rx : RelV x v) (fx : flatV x = true) : ∀ {xs : List V} {us : List Value}, Vals xs us → xs.all flatV = true → ∀ u ∈ us, SeqAt.EqAt A s u v (eqU x u)
  | _, _, .nil, _ => fun u hu => by cases hu
  | y :: xs, u :: us, .cons r t, f => fun u' hu => by
    rw [List.all_cons, Bool.and_eq_true] at f
    rcases List.mem_cons.mp hu with rfl | hu
    · rw [eqU_of r f.1]; exact eqAt_V r rx f.1 fx
    · exact mem_eqAt rx fx t f.2 u' hu
noncomputable def inV (x : V) (xs : List V) : Bool := xs.any fun y => eqV y x
noncomputable def rIn (K : PySem.W.Frag) (neg : Bool) : R2 := fun x y H Q => ∃ p xs, y = .ref p ∧ (SqL K H p xs ∨ SqT K H p xs) ∧ flatV x = true ∧ xs.all flatV = true ∧ Q (.bl (if neg then !inV x xs else inV x xs)) H
theorem op_in_seq : OpR X (compareOp .In) (rIn X.K false) := by
  intro pins s σ H x y v u Q I rx ry h
  obtain ⟨p, xs, rfl, hq, fx, fs, q⟩ := h
  cases ry
  rcases hq with hq | hq
  · obtain ⟨its, r, pl, hz⟩ := I.list hq
    refine SeqAt.in_listAt (eqU x) pl.isList (fun w hw => mem_eqAt rx fx r fs w (by simpa using hw)) ⟨.bl _, H, I, rfl, ?_⟩
    rw [show its.toArray.any (eqU x) = its.any (eqU x) by simp, any_eqU r fs]
    exact q
  · obtain ⟨its, r, pl, hz⟩ := I.tuple hq
    refine SeqAt.in_tupleAt (eqU x) pl (fun w hw => mem_eqAt rx fx r fs w (by simpa using hw)) ⟨.bl _, H, I, rfl, ?_⟩
    rw [show its.toArray.any (eqU x) = its.any (eqU x) by simp, any_eqU r fs]
    exact q
theorem op_notIn_seq : OpR X (compareOp .NotIn) (rIn X.K true) := by
  intro pins s σ H x y v u Q I rx ry h
  obtain ⟨p, xs, rfl, hq, fx, fs, q⟩ := h
  cases ry
  rcases hq with hq | hq
  · obtain ⟨its, r, pl, hz⟩ := I.list hq
    refine SeqAt.notIn_listAt (eqU x) pl.isList (fun w hw => mem_eqAt rx fx r fs w (by simpa using hw)) ⟨.bl _, H, I, rfl, ?_⟩
    rw [show its.toArray.any (eqU x) = its.any (eqU x) by simp, any_eqU r fs]
    exact q
  · obtain ⟨its, r, pl, hz⟩ := I.tuple hq
    refine SeqAt.notIn_tupleAt (eqU x) pl (fun w hw => mem_eqAt rx fx r fs w (by simpa using hw)) ⟨.bl _, H, I, rfl, ?_⟩
    rw [show its.toArray.any (eqU x) = its.any (eqU x) by simp, any_eqU r fs]
    exact q
theorem call_tuple_of : CallR X (.type "tuple") (fun xs H Q => ∃ p ys, xs = [.ref p] ∧ ((SqL X.K H p ys ∧ ∀ l, H l = none → Q (.ref l) (upd H l (.tup ys))) ∨ (SqT X.K H p ys ∧ Q (.ref p) H))) := by
  intro pins s σ H xs us Q I r h
  obtain ⟨p, ys, rfl, h⟩ := h
  obtain ⟨u, rfl, rx⟩ := vals1 r
  cases rx
  rcases h with ⟨hq, q⟩ | ⟨hq, q⟩
  · obtain ⟨its, r', pl, hz⟩ := I.list hq
    have hlen := r'.length
    refine call_tuple_list pl.isList (fun h' kp => ?_) (by simp only [List.size_toArray] <;> omega)
    have I1 : Inv X pins σ H { s with heap := h' } := I.kept (t' := s.toks) kp
    have I2 : Inv X pins σ (upd H h'.objs.size (.tup ys)) { s with heap := h'.push { cls := .type "tuple", data := .seq its.toArray } } :=
      I1.laid (t' := s.toks) (fun b o e => Heap.get?_push_of_some _ e) (Nat.le_refl _) (show ObjOk X.prog X.w _ _ _ (.tup ys) from ⟨hz, its, r', IsTup.new _ _⟩)
    exact ⟨.ref h'.objs.size, _, I2, rfl, q _ (I1.hok.fresh (Nat.le_refl _))⟩
  · obtain ⟨its, r', pl, hz⟩ := I.tuple hq
    exact call_tuple_same pl ⟨.ref p, H, I, rfl, q⟩

noncomputable def tyV (K : PySem.W.Frag) (T : String) (x : V) (H : Hp) : Prop := match x with
  | .str _ => T = "str"
  | .int _ => T = "int"
  | .ref p => (T = "list" ∧ ∃ xs, SqL K H p xs) ∨ (T = "tuple" ∧ ∃ o, K.lookup p = some o ∧ o.cls = .type "tuple" ∧ o.dict = none) ∨
      (T = "dict" ∧ ((∃ kvs, H p = some (.dK kvs)) ∨ ∃ kvs, H p = some (.dT kvs))) ∨ (T = "set" ∧ ∃ S n, H p = some (.set S n))
  | _ => False
theorem tyV_is {pins : List (Addr × Obj)} {σ : St} {H : Hp} {s : Shared} {T : String} {x : V} {v : Value} (I : Inv X pins σ H s) (r : RelV x v) (ty : tyV X.K T x H) :
    s.TypeIs v T ∧ ∀ a, v = .ref a → ∃ ob, s.heap.get? a = some ob ∧ ob.dict = none := by
  cases x with
  | str z =>
    obtain ⟨t, rfl⟩ := r
    cases (show T = "str" from ty)
    exact ⟨typeIs_str s z t, fun _ e => nomatch e⟩
  | int i =>
    obtain ⟨t, rfl⟩ := r
    cases (show T = "int" from ty)
    exact ⟨typeIs_int s i t, fun _ e => nomatch e⟩
  | ref p =>
    cases r
    rcases ty with ⟨rfl, xs, hq⟩ | ⟨rfl, o, hk, hc, hd⟩ | ⟨rfl, hk⟩ | ⟨rfl, S, n, hk⟩
    · obtain ⟨its, _, pl, _⟩ := I.list hq
      refine ⟨pl.isList.typeIs, fun a e => ?_⟩
      cases e
      obtain ⟨o, n, e, c, hd, _⟩ := pl
      exact ⟨o, e, hd⟩
    · refine ⟨⟨o, I.kIn p o hk, hc⟩, fun a e => ?_⟩
      cases e
      exact ⟨o, I.kIn _ o hk, hd⟩
    · have z : ∃ o, s.heap.get? p = some o ∧ o.ExactDict := by
        rcases hk with ⟨kvs, hk⟩ | ⟨kvs, hk⟩
        · obtain ⟨_, _, _, _, o, _, _, e, ex, _⟩ := I.hok p _ hk
          exact ⟨o, e, ex⟩
        · obtain ⟨_, _, _, _, o, _, _, e, ex, _⟩ := I.hok p _ hk
          exact ⟨o, e, ex⟩
      obtain ⟨o, e, ex⟩ := z
      refine ⟨⟨o, e, ex.1⟩, fun a e2 => ?_⟩
      cases e2
      exact ⟨o, e, ex.2.1⟩
    · obtain ⟨o, _, _, _, e, ex, _⟩ := I.hok p _ hk
      refine ⟨⟨o, e, ex.1⟩, fun a e2 => ?_⟩
      cases e2
      exact ⟨o, e, ex.2.1⟩
  | _ => exact False.elim ty
noncomputable def tBM0 (K : PySem.W.Frag) (T : String) (r : V → List V → Hp → VK → Prop) (to : TE) : TE := fun σ H Q => to σ H fun x H1 => tyV K T x H1 ∧ r x [] H1 Q
noncomputable def tBM (K : PySem.W.Frag) (T : String) (r : V → List V → Hp → VK → Prop) (to : TE) (t : TA) : TE := fun σ H Q => to σ H fun x H1 => tyV K T x H1 ∧ t σ H1 fun xs H2 => r x xs H2 Q
variable {o e : Expr} {es : List Expr} {to : TE} {t : TA} {name : Str} {apos cpos : Pos} {T id : String} {r : V → List V → Hp → VK → Prop}
theorem pe_bm0 (pa : PlainAttrs T) (slot : Slot T name id) (hty : typeOf (.builtin id) = pure (.type "method_descriptor")) (hm : MtR X id r) (ho : PE X o to)
    (hbase : attributeBase o name X.env (eval o X.env) = eval o X.env := by rfl) (hline : (apos.endLine == cpos.line) = true := by rfl) : PE X (.Call (.Attribute o name apos) [] [] cpos) (tBM0 X.K T r to) := by
  intro pins s σ H Q I h
  refine wpAny_Call_method0_late hbase hline (thn (ho pins s σ H _ I h) fun v s1 ⟨x, H1, I1, r1, ty, q1⟩ => ?_)
  obtain ⟨h1, h2⟩ := tyV_is I1 r1 ty
  exact ⟨T, id, pa, slot, hty, h1, h2, Calls.callWith_builtin rfl (PySem.evalArgs_none (hm pins s1 σ H1 x [] v [] Q I1 r1 .nil q1))⟩
theorem pe_bm (pa : PlainAttrs T) (slot : Slot T name id) (hty : typeOf (.builtin id) = pure (.type "method_descriptor")) (hm : MtR X id r) (ho : PE X o to) (ha : PA X (e :: es) t)
    (hbase : attributeBase o name X.env (eval o X.env) = eval o X.env := by rfl)
    (hfew : ((backTo cpos (starEach (e :: es) X.env)).all (fun x => !x.1) && (backToKw cpos (keywordEach [] X.env)).all (fun x => x.1.isSome)
      && decide ((e :: es).length + ([] : List Keyword).length + (if ([] : List Keyword).isEmpty then 0 else 1) < 30)) = true := by rfl)
    (hline : (apos.endLine == cpos.line) = true := by rfl) (hs : starEach (e :: es) X.env = (false, eval e X.env) :: starEach es X.env := by rfl) (hplain : (backTo cpos (starEach es X.env)).any (·.1) = false := by rfl) :
    PE X (.Call (.Attribute o name apos) (e :: es) [] cpos) (tBM X.K T r to t) := by
  intro pins s σ H Q I h
  refine wpAny_Call_method_late hbase hfew hline rfl (thn (ho pins s σ H _ I h) fun v s1 ⟨x, H1, I1, r1, ty, q1⟩ => ?_)
  obtain ⟨h1, h2⟩ := tyV_is I1 r1 ty
  refine ⟨T, id, pa, slot, hty, h1, h2, ?_⟩
  have hA := ha cpos pins s1 σ H1 _ I1 q1
  rw [hs] at hA ⊢
  refine Calls.callWith_builtin (by show (false || (backTo cpos (starEach es X.env)).any (·.1)) = false; rw [hplain] <;> rfl) (Calls.evalArgs_plain ?_)
  exact thn hA fun us s2 ⟨vs, H2, I2, r2, q2⟩ => hm pins s2 σ H2 x vs v us Q I2 r1 r2 q2
/- xs.append(e), list.index on a module's tuple .. are MtR facts of 06m -/
end
end L2

namespace L2
open PySem PySem.Spec PyProof.Rows

noncomputable def MtM (X : Cx) (id : String) (r : V → List V → Hp → VK → Prop) : Prop :=
  ∀ (pins : List (Addr × Obj)) (s : Shared) (σ : St) (H : Hp) (x : V) (xs : List V) (v : Value) (us : List Value) (Q : VK), Inv X pins σ H s → RelV x v → Vals xs us → r x xs H Q →
    wpAny (model X.prog X.w) X.A (call (.builtin id) (v :: us)) (EP X pins σ Q) X.xe s

theorem Vals.one : ∀ {x : V} {us : List Value}, Vals [x] us → ∃ u, us = [u] ∧ RelV x u
  | _, _, .cons r .nil => ⟨_, rfl, r⟩
theorem Vals.zero : ∀ {us : List Value}, Vals [] us → us = []
  | _, .nil => rfl
theorem Vals.dropLast {xs : List V} {us : List Value} (h : Vals xs us) : Vals xs.dropLast us.dropLast := by
  induction h with
  | nil => exact .nil
  | cons r t ih =>
    cases t with
    | nil => exact .nil
    | cons q t' => exact .cons r ih
theorem erase_last {α : Type} (l : List α) : l.eraseIdx (l.length - 1) = l.dropLast := by
  induction l with
  | nil => rfl
  | cons a r ih =>
    cases r with
    | nil => rfl
    | cons b r =>
      have e : (a :: b :: r).length - 1 = ((b :: r).length - 1) + 1 := by
        have h1 : (a :: b :: r).length = r.length + 2 := rfl
        have h2 : (b :: r).length = r.length + 1 := rfl
        omega
      rw [e, List.eraseIdx_cons_succ, ih]
      all_goals rfl
section
variable {X : Cx} {pins : List (Addr × Obj)} {σ : St} {H : Hp} {s : Shared} {l b : Addr} {xs ys zs : List V}

theorem Inv.lset {its its' : List Value} {n : Nat} {f : Array Value → Array Value} {t' : Nat} (I : Inv X pins σ H s) (hH : H l = some (.lst xs))
    (e : s.heap.get? l = some { cls := .type "list", data := .seq its.toArray n }) (hf : f its.toArray = its'.toArray) (hv : Vals ys its') (hz : ys.length ≤ sizeLine) :
    Inv X pins σ (upd H l (.lst ys)) { s with heap := s.heap.update l (Obj.mapSeq f), toks := t' } := by
  have q := PySem.IsL.update e f
  rw [hf] at q
  refine I.write (x := l) (e := l) (by rw [hH]; exact trivial) (.inl rfl) (fun b' u hb hu => (Heap.get?_update_other s.heap (Obj.mapSeq f) (Ne.symm hb)).trans hu) ⟨_, q⟩ ?_
  exact ⟨hz, its', _, hv, q⟩
theorem Inv.lnew {its : List Value} {t' : Nat} (I : Inv X pins σ H s) (hv : Vals ys its) (hz : ys.length ≤ sizeLine) :
    Inv X pins σ (upd H s.heap.objs.size (.lst ys)) { s with heap := s.heap.push { cls := .type "list", data := .seq its.toArray }, toks := t' } :=
  I.laid (fun _ _ q => Heap.get?_push_of_some _ q) (Nat.le_refl _) ⟨hz, its, 0, hv, Heap.get?_push_size _ rfl⟩
theorem Inv.fresh (I : Inv X pins σ H s) : H s.heap.objs.size = none := I.hok.fresh (Nat.le_refl _)
theorem Inv.lstM (I : Inv X pins σ H s) (hH : H l = some (.lst xs)) : xs.length ≤ sizeLine ∧ ∃ (its : List Value) (n : Nat), Vals xs its ∧ xs.length = its.length ∧ s.heap.get? l = some { cls := .type "list", data := .seq its.toArray n } := by
  obtain ⟨z, its, n, r, e⟩ := I.hok l _ hH
  exact ⟨z, its, n, r, r.length, e⟩

theorem notLongL {n : Nat} (h : n ≤ sizeLine) : Builtin.List.listTooLong n = false := by
  unfold Builtin.List.listTooLong
  exact decide_eq_false (by omega)
end

section
variable {X : Cx}

noncomputable def rAppend : V → List V → Hp → VK → Prop := fun x vs H Q => ∃ l xs y, x = .ref l ∧ vs = [y] ∧ H l = some (.lst xs) ∧ xs.length < sizeLine ∧ Q .non (upd H l (.lst (xs ++ [y])))
theorem mt_append : MtM X "list.append" rAppend := by
  intro pins s σ H x vs v us Q I rx rv h
  obtain ⟨l, xs, y, rfl, rfl, hH, hz, q⟩ := h
  cases rx
  obtain ⟨u, rfl, ru⟩ := rv.one
  obtain ⟨z, its, n, r, hl, e⟩ := I.lstM hH
  refine call_meets F.slot_list_append ⟨_, e, rfl⟩ F.entry_list_append (F.args_list_append_2 _ _) (PySem.list_append l its.toArray n u (by rw [List.size_toArray]; omega)) ⟨e, ?_⟩
  refine ⟨.non, _, I.lset (its' := its ++ [u]) hH e (by simp) (r.append (.cons ru .nil)) ?_, rfl, q⟩
  rw [List.length_append, List.length_singleton]
  omega

noncomputable def rExtend : V → List V → Hp → VK → Prop := fun x vs H Q => ∃ l b xs zs, x = .ref l ∧ vs = [.ref b] ∧ H l = some (.lst xs) ∧ H b = some (.lst zs) ∧ xs.length + zs.length ≤ sizeLine ∧ Q .non (upd H l (.lst (xs ++ zs)))
theorem mt_extend : MtM X "list.extend" rExtend := by
  intro pins s σ H x vs v us Q I rx rv h
  obtain ⟨l, b, xs, zs, rfl, rfl, hH, hB, hz, q⟩ := h
  cases rx
  obtain ⟨u, rfl, ru⟩ := rv.one
  cases ru
  obtain ⟨z, its, n, r, hl, e⟩ := I.lstM hH
  obtain ⟨z2, its2, n2, r2, hl2, e2⟩ := I.lstM hB
  have hsz : its.toArray.size + its2.toArray.size ≤ sizeLine := by rw [List.size_toArray, List.size_toArray]; omega
  have hlong : ¬ (!its.toArray.isEmpty && Builtin.List.listTooLong (its.toArray.size + its2.toArray.size)) = true := by
    rw [notLongL hsz, Bool.and_false]
    exact Bool.false_ne_true
  refine call_meets F.slot_list_extend ⟨_, e, rfl⟩ F.entry_list_extend (F.args_list_extend_2 _ _)
    (AutoSeq1.list_extend_list_list_0 l its.toArray n b its2.toArray n2 hlong (by rw [List.size_toArray]; omega) (by omega)) ⟨e, e2, ?_⟩
  refine ⟨.non, _, I.lset (its' := its ++ its2) hH e (by simp) (r.append r2) ?_, rfl, q⟩
  rw [List.length_append]
  omega

noncomputable def rPop : V → List V → Hp → VK → Prop := fun x vs H Q => ∃ l xs y, x = .ref l ∧ vs = [] ∧ H l = some (.lst xs) ∧ xs[xs.length - 1]? = some y ∧ Q y (upd H l (.lst xs.dropLast))
theorem mt_pop : MtM X "list.pop" rPop := by
  intro pins s σ H x vs v us Q I rx rv h
  obtain ⟨l, xs, y, rfl, rfl, hH, hy, q⟩ := h
  cases rx
  have hus := rv.zero
  subst hus
  obtain ⟨z, its, n, r, hl, e⟩ := I.lstM hH
  obtain ⟨u, hu, ru⟩ := r.get hy
  have hy' : its.toArray[its.toArray.size - 1]? = some u := by
    show its.toArray[its.length - 1]? = some u
    rw [← Array.getElem?_toList, ← hl]
    exact hu
  refine call_meets F.slot_list_pop ⟨_, e, rfl⟩ F.entry_list_pop (F.args_list_pop_1 _) (MeetsSeq.list_pop_last l its.toArray n u hy' (by rw [List.size_toArray]; omega)) ⟨e, ?_⟩
  refine ⟨y, _, I.lset (its' := its.dropLast) hH e ?_ r.dropLast ?_, ru, q⟩
  · show its.toArray.eraseIdxIfInBounds (its.toArray.size - 1) = its.dropLast.toArray
    rw [List.size_toArray, List.eraseIdxIfInBounds_toArray, erase_last]
  · rw [List.length_dropLast]
    omega

noncomputable def rCat : R2 := fun x y H Q => ∃ l b xs zs, x = .ref l ∧ y = .ref b ∧ H l = some (.lst xs) ∧ H b = some (.lst zs) ∧ xs.length + zs.length ≤ sizeLine ∧ ∀ p, H p = none → Q (.ref p) (upd H p (.lst (xs ++ zs)))
theorem op_cat : OpR X (binaryOp .Add) rCat := by
  intro pins s σ H x y v u Q I rx ry h
  obtain ⟨l, b, xs, zs, rfl, rfl, hH, hB, hz, q⟩ := h
  cases rx
  cases ry
  obtain ⟨z, its, n, r, hl, e⟩ := I.lstM hH
  obtain ⟨z2, its2, n2, r2, hl2, e2⟩ := I.lstM hB
  refine PySem.P.add_list e e2 ?_ (by rw [List.size_toArray, List.size_toArray]; omega)
  have ea : its.toArray ++ its2.toArray = (its ++ its2).toArray := by simp
  rw [ea]
  exact ⟨.ref _, _, I.lnew (t' := s.toks) (r.append r2) (by rw [List.length_append]; omega), rfl, q _ I.fresh⟩
end

section
variable {prog : Program} {w : World} {A : Around} {E : Value → Shared → Prop} {s : Shared}
end

section
variable {X : Cx}
end
end L2

namespace Att
open PySem PySem.W PySem.Calls PyProof.Rows

theorem ints_of_wellAll {P : Params} {h : Heap} : ∀ (ns : List Int) (vs : List Value), WellAll P h vs (ns.map WData.int) → IntsAre vs ns := by
  intro ns
  induction ns with
  | nil =>
    intro vs w
    rw [List.map_nil] at w
    cases w
    exact .nil
  | cons n ns ih =>
    intro vs w
    rw [List.map_cons] at w
    cases w with
    | cons a b =>
      cases a
      exact .cons _ _ (ih _ b)

theorem script_of {l : OpenLaw} {n : Nat} (hn : l.most = some n) {P : Params} {h : Heap} {args : List WData} {vals : List Value}
    (hpre : l.row.toRowW.claim.pre args = true) (hwl : WellAll P h vals args) :
    ∃ a vs ns, vals = [Value.ref a] ∧ args = [WData.list (ns.map WData.int)] ∧ h.get? a = some { cls := .type "list", data := .seq vs.toArray } ∧ IntsAre vs ns ∧ ns.length ≤ n := by
  have hsh : WShape.hasAll [] args [.list .int] = true := (pre_splitW hpre).1
  have hc : l.pre.holds [] { args := args } = true := (pre_splitW hpre).2
  obtain ⟨d, r, rfl, h1, h2⟩ := hasAllW_cons hsh
  obtain rfl := hasAllW_nil h2
  obtain ⟨xs, rfl, h3⟩ := hasW_list h1
  obtain ⟨ns, rfl⟩ := items_int h3
  have hlen : ns.length ≤ n := by
    unfold OpenLaw.pre at hc
    have h4 : (WTm.not (.lt (.lit (.int (n : Int))) (.len (.arg 0)))).holds [] { args := [.list (ns.map .int)] } = true := by
      have h4 := (holds_andW hc).1
      rw [hn] at h4
      exact h4
    have h5 := condW_of h4 (w_not (w_lt w_lit (w_len_list (w_arg rfl))))
    rw [List.length_map] at h5
    refine Nat.le_of_not_lt fun q => ?_
    have q' : (n : Int) < ((ns.length : Nat) : Int) := by omega
    first
      | (rw [decide_eq_true q'] at h5; exact absurd h5 (by decide))
      | (simp at h5; omega)
  cases hwl with
  | cons w1 w2 =>
    cases w2
    cases w1 with
    | list ho hall => exact ⟨_, _, ns, rfl, rfl, ho, ints_of_wellAll ns _ hall, hlen⟩

theorem post_true (l : OpenLaw) (args : List WData) : l.row.toRowW.claim.post args (.bool true) args = true :=
  postW_of (r := l.row.toRowW) (X := (true == true))
    (show WShape.has [] (.bool true) .bool = true by first | rfl | decide | simp [WShape.has, WShape.arms, WShape.armsAll])
    (show (WTm.eq .res (.lit (.bool true))).value [] { args := args, res := some (.bool true), after := args } = some (.bool (true == true)) from w_eq_bool (w_res rfl) w_lit) rfl

theorem attach_call {l : OpenLaw} {n : Nat} {q : Program} {loose : List Str} {XP : (Str → Option Value) → Heap → Prop} {YP : World → Heap → Prop} {d : DefRec}
    (hn : l.most = some n) (hdf : d.params.defaults = [])
    (call : ∀ (w : World) (s₀ s₁ : Shared) (mg mb : Str → Option Value) (fa : Addr) (o : Obj) (pm cd doc : Value) (a : Addr) (vs : List Value) (ns : List Int),
      Ground q loose [] XP w s₀ mg mb s₁.heap → YP w s₁.heap →
      s₁.heap.get? fa = some o → o.data = .func (docDef d.name d.params d.body d.scope pm cd doc) → s₁.heap.CodeRec cd d.name → mg d.name = some (.ref fa) →
      s₁.heap.get? a = some { cls := .type "list", data := .seq vs.toArray } → IntsAre vs ns → ns.length ≤ n → s₁.gens = #[] →
      codeAny (model l.prog w) callerA (.call (.ref fa) ⟨[.ref a], []⟩) (fun r s' => r = .ok (.ret (.bool true)) ∧ OldK s₁.heap s'.heap ∧ s'.os = s₁.os ∧ AllBare s'.gens) s₁) :
    WalkO q loose XP YP l.row.toRowW d [] (fun f vs => PySem.call f vs) := by
  intro w s₀ s₁ mg mb G Y fa o pm cd doc dV kV ho hd hcd hD hmg hg args vals as hpre hlay hrd hwl hlo
  obtain rfl : dV = .none := Dflts.none hD hdf
  obtain rfl : kV = .none := Dflts.noKw hD
  obtain ⟨a, vs, ns, rfl, rfl, hobj, hints, hlen⟩ := script_of hn hpre hwl
  refine enter_call (codeAny_mono (call w s₀ s₁ mg mb fa o pm cd doc a vs ns G Y ho (fd_plain hd) hcd hmg hobj hints hlen hg) fun r s' hq => ?_)
  obtain ⟨rfl, h2, h3, h4⟩ := hq
  exact ⟨.inl ⟨.bool true, .bool true, [], rfl, fun _ => rfl, .bool true, post_true l _, fun _ => ⟨List.Pairwise.nil, fun _ hm => (nomatch hm)⟩⟩, h2, h3, h4⟩

section
variable {prog : Program} {w : World} {A : Around} {E : Value → Shared → Prop} {s : Shared} {K : Frag}

end
end Att

namespace L2
open PySem PySem.Spec PyProof.Rows

theorem vals_ints : ∀ {vs : List Value} {ns : List Int}, IntsAre vs ns → Vals (ns.map V.int) vs
  | _, _, .nil => .nil
  | _, _, .cons n t h => .cons ⟨t, rfl⟩ (vals_ints h)

noncomputable def Only (H : Hp) : Prop := ∀ b, H b = none ∨ ∃ o xs, H b = some (.frz o (.lst xs))

end L2

namespace L2
open PySem PySem.Spec PyProof.Rows

end L2

/- THE LAST THEOREM (shape; LID, My.* are yours):
   My.Adr: a structure of the addresses that your layer names (classes, functions); My.Txt K t: a structure (Prop) of the equations over K;
   My.txt_mk : {K} {implicit addresses ..} (e1 : nsIn K mainGlobals "law" = some (some (.ref f))) (e2 : K.lookup f = some ⟨oc, od, .func (fnOf "law" "law" params body scope dV kV doc pm an cdv ct), sl⟩) (e3 : codeIn K cdv "law" = true) .. : ∃ t, My.Txt K t

set_option maxRecDepth 100000 in
set_option maxHeartbeats 0 in
theorem PySem.Challenge.cw_LID_holds : PySem.Challenge.rw_LID.Holds := by
  w_on; o_law; k_head; (case hw => w_witness2)
  k_fill
  refine L2.walk_of (l := PySem.Challenge.rw_LID) (n := 63) (k := 40) (x := "script") (CX := fun w => ..) (sp := fun _ => My.sp_law) rfl (by decide) rfl ⟨rfl, by decide, by decide⟩ (fun w h Y => PySem.W.kIn_of Y) ?F ?S ?C
  case F =>
    intro w mg fa h KX G hmg
    have T : ∃ t, My.Txt (L2.KOf KX) t := by
      dsimp only [L2.KOf]                          -- K must stand as «<heap const> w.params» for k_is
      refine' My.txt_mk ?e1 ?e2 ?e3 ..
      (case e1 => PySem.W.k_is)                    -- in the order: a name -> its address -> its object -> its parts
      (case e2 => PySem.W.k_is)
      ..
    obtain ⟨t, T⟩ := T
    have e0 := hmg.symm.trans (PySem.W.mg_of KX G T.law)
    cases e0                                       -- fa is the law's own address
    exact ⟨_, fun s u => .of_eq rfl, fun base kb nb => My.law_fn T kb nb⟩     -- if «.of_eq rfl» comes too early: refine' ⟨_, ?b, fun base kb nb => My.law_fn T kb nb⟩; exact fun s u => .of_eq rfl
  case S => exact fun w H a ns hl hO hS => ..
  case C => exact ..
(the tactic k_is has no namespace: write k_is) -/

namespace L2
open PySem PySem.Spec PyProof.Rows

noncomputable def defArgs (s : Stmt) : Arguments := match s with
  | .FunctionDef _ a _ _ _ _ _ _ _ _ => a
  | _ => { posonlyargs := [], args := [], vararg := none, kwonlyargs := [], kw_defaults := [], kwarg := none, defaults := [] }
noncomputable def defBody (s : Stmt) : List Stmt := match s with
  | .FunctionDef _ _ b _ _ _ _ _ _ _ => b
  | _ => []
noncomputable def defScope (s : Stmt) : Scope := match s with
  | .FunctionDef _ _ _ _ _ _ sc _ _ _ => sc
  | _ => { kind := .function, names := [], isGenerator := false, isCoroutine := false }

noncomputable abbrev CX0 : CXT := fun _ _ _ _ _ _ => False
noncomputable abbrev E0 : XK := fun _ _ _ => False
theorem pass0 {X : Cx} : Passes CX0 X E0 := fun _ _ _ _ _ _ _ h => h.elim

structure Fun (K : PySem.W.Frag) (x qual : Str) (st : Stmt) (f : Addr) (fd : FuncData) : Prop where
  ex : ∃ (oc : Value) (od : Option Addr) (kV doc pm : Value) (an : Option Addr) (cdv ct : Value) (osl : Array (Option Value)),
    fd = PySem.W.fnOf x qual (defArgs st) (defBody st) (defScope st) .none kV doc pm an cdv ct ∧ K.lookup f = some ⟨oc, od, .func fd, osl⟩ ∧ PySem.W.codeIn K cdv qual = true
  kp : PySem.W.keepIn K (.ref f) = true
section
variable {P : Program} {w : World} {K : PySem.W.Frag} {mg : Str → Option Value} {base : Heap}
theorem Fun.ok {x qual : Str} {st : Stmt} {f : Addr} {fd : FuncData} {N ps : List Str} {k : Nat} {sp : Sp} (F : Fun K x qual st f fd) (S : FnScope N ps (defScope st)) (len : ∀ vs H Q E, sp vs H Q E → vs.length = ps.length)
    (hbody : ∀ (cdv : Value) (A : Around) (outer : List Env) (s : Shared) (H : Hp) (vs : List V) (Q : VK) (E : XK), Room k (A.deeper (envOfC qual (defScope st) s.heap.objs.size f cdv)) → sp vs H Q E →
      ∃ t, PSs (cxOf CX0 P w K mg base N qual (defScope st) f cdv A outer s H E).nox (defBody st) t ∧ t { nx := fun _ H' => Q .non H', rt := Q } (start N vs) H) : FnOk P w K mg base CX0 (k + 1) f fd ps sp := by
  obtain ⟨oc, od, kV, doc, pm, an, cdv, ct, osl, rfl, lk, hcd⟩ := F.ex
  refine fn_of lk hcd S len fun A outer s H vs Q E hr hsp => ?_
  obtain ⟨t, h, q⟩ := hbody cdv A outer s H vs Q E hr hsp
  exact ⟨t, h.nox, q⟩
theorem Fun.binds {x qual : Str} {st : Stmt} {f : Addr} {fd : FuncData} {ps : List Str} (F : Fun K x qual st f fd)
    (h : ∀ (kV doc pm : Value) (an : Option Addr) (cdv ct : Value) (us : List Value), us.length = ps.length → bindArgs (PySem.W.fnOf x qual (defArgs st) (defBody st) (defScope st) .none kV doc pm an cdv ct) ⟨us, []⟩ = pure (ps.zip us)) : Binds K fd ps [] := by
  obtain ⟨oc, od, kV, doc, pm, an, cdv, ct, osl, rfl, lk, hcd⟩ := F.ex
  exact .all (h kV doc pm an cdv ct)
theorem fun_mk {x qual : Str} {st : Stmt} {f : Addr} {oc : Value} {od an : Option Addr} {osl : Array (Option Value)} {kV doc pm cdv ct : Value} (l : K.lookup f = some ⟨oc, od, .func (PySem.W.fnOf x qual (defArgs st) (defBody st) (defScope st) .none kV doc pm an cdv ct), osl⟩)
    (c : PySem.W.codeIn K cdv qual = true) (k : PySem.W.keepIn K (.ref f) = true) : Fun K x qual st f (PySem.W.fnOf x qual (defArgs st) (defBody st) (defScope st) .none kV doc pm an cdv ct) := ⟨⟨oc, od, kV, doc, pm, an, cdv, ct, osl, rfl, l, c⟩, k⟩
end
theorem hu_of {A : Around} {k : Nat} (hr : Room k A) : A.units + 1 < cLine := Nat.lt_of_le_of_lt (Nat.add_le_add_left (by decide : 1 ≤ 64) _) hr.units
section
variable {X : Cx}
theorem pv (i : Nat) {x : Str} {pos : Pos} (hN : X.N[i]? = some x := by rfl) (hv : Vis X.env.scope x := by first | exact Or.inl rfl | exact Or.inr (Or.inl rfl) | exact Or.inr (Or.inr rfl)) (hd : (x == ("__debug__" : Str)) = false := by decide)
    (hcd : (x == ("__classdict__" : Str)) = false := by decide) : PE X (.Name x pos) (tVar i) := pe_var hN hv hd hcd
end

theorem iteF {A B : Prop} (h : B) : if false = true then A else B := by
  rw [if_neg Bool.false_ne_true]
  exact h
theorem iteT {A B : Prop} (h : A) : if true = true then A else B := by
  rw [if_pos rfl]
  exact h
theorem ite2 {c A B : Prop} [Decidable c] (h1 : c → A) (h2 : ¬ c → B) : if c then A else B := by
  by_cases h : c
  · rw [if_pos h]
    exact h1 h
  · rw [if_neg h]
    exact h2 h
noncomputable def Same (H H' : Hp) : Prop := ∀ b o, H b = some o → H' b = some o
theorem Same.refl (H : Hp) : Same H H := fun _ _ h => h
theorem Same.trans {H H1 H2 : Hp} (a : Same H H1) (b : Same H1 H2) : Same H H2 := fun c o h => b c o (a c o h)
theorem Same.free {H H' : Hp} (e : Same H H') {l : Addr} (h : H' l = Option.none) : H l = Option.none := by
  cases q : H l with
  | none => rfl
  | some o =>
    rw [e l o q] at h
    cases h
theorem Same.seq {K : PySem.W.Frag} {H H' : Hp} {a : Addr} {xs : List V} (e : Same H H') (h : SqL K H a xs) : SqL K H' a xs := by
  rcases h with (h | ⟨o, h⟩) | h
  · exact .inl (.inl (e _ _ h))
  · exact .inl (.inr ⟨o, e _ _ h⟩)
  · exact .inr h

end L2

namespace L2
open PySem PySem.Spec PyProof.Rows

section
variable {κ : Type} [DecidableEq κ]
noncomputable def valV (kvs : List (κ × V)) (k : κ) : Option V := (kvs.find? fun kv => decide (kv.1 = k)).map (·.2)
noncomputable def putK (kvs : List (κ × V)) (k : κ) (v : V) : List (κ × V) :=
  if (kvs.any fun kv => decide (kv.1 = k)) = true then kvs.map (fun kv => if kv.1 = k then (kv.1, v) else kv) else kvs ++ [(k, v)]
theorem valV_pos {p : κ × V} {r : List (κ × V)} {k : κ} (e : p.1 = k) : valV (p :: r) k = some p.2 := by simp [valV, List.find?_cons, e]
theorem valV_neg {p : κ × V} {r : List (κ × V)} {k : κ} (e : ¬ p.1 = k) : valV (p :: r) k = valV r k := by simp [valV, List.find?_cons, e]
theorem valV_any (k : κ) : ∀ kvs : List (κ × V), (kvs.any fun kv => decide (kv.1 = k)) = (valV kvs k).isSome
  | [] => rfl
  | p :: r => by
    rw [List.any_cons]
    by_cases e : p.1 = k
    · simp only [valV_pos e, decide_eq_true e, Bool.true_or, Option.isSome_some]
    · rw [valV_neg e, decide_eq_false e, Bool.false_or]; exact valV_any k r
theorem length_putK (kvs : List (κ × V)) (k : κ) (v : V) : (putK kvs k v).length ≤ kvs.length + 1 := by
  unfold putK
  split
  · rw [List.length_map]; omega
  · rw [List.length_append, List.length_cons, List.length_nil]; omega
theorem RelO.isSome_eq {o : Option V} {u : Option Value} (r : RelO o u) : o.isSome = u.isSome := by
  cases o with
  | none => cases u with
    | none => rfl
    | some _ => exact (show False from r).elim
  | some _ => cases u with
    | none => exact (show False from r).elim
    | some _ => rfl
theorem KV.val {kvs : List (κ × V)} {vs : List (κ × Value)} (r : KV kvs vs) (k : κ) : RelO (valV kvs k) (valueAt vs k) := by
  unfold KV at r
  induction r with
  | nil => exact True.intro
  | @cons p q ps qs h t ih =>
    obtain ⟨h1, h2⟩ := h
    by_cases e : p.1 = k
    · have e' : q.1 = k := h1.symm.trans e
      have b : valueAt (q :: qs) k = some q.2 := by simp [valueAt, List.find?_cons, e']
      rw [valV_pos e, b]; exact h2
    · have e' : ¬ q.1 = k := fun z => e (h1.trans z)
      have b : valueAt (q :: qs) k = valueAt qs k := by simp [valueAt, List.find?_cons, e']
      rw [valV_neg e, b]; exact ih
theorem KV.any {kvs : List (κ × V)} {vs : List (κ × Value)} (r : KV kvs vs) (k : κ) : (kvs.any fun kv => decide (kv.1 = k)) = vs.any fun kv => decide (kv.1 = k) := by
  unfold KV at r
  induction r with
  | nil => rfl
  | cons h t ih => rw [List.any_cons, List.any_cons, ih, h.1]
theorem KV.repl {kvs : List (κ × V)} {vs : List (κ × Value)} (r : KV kvs vs) (k : κ) {y : V} {u : Value} (ry : RelV y u) :
    KV (kvs.map fun kv => if kv.1 = k then (kv.1, y) else kv) (vs.map fun kv => if kv.1 = k then (kv.1, u) else kv) := by
  unfold KV at r ⊢
  induction r with
  | nil => exact .nil
  | @cons p q ps qs h t ih =>
    rw [List.map_cons, List.map_cons]
    refine .cons ?_ ih
    obtain ⟨h1, h2⟩ := h
    by_cases e : p.1 = k
    · rw [if_pos e, if_pos (h1.symm.trans e)]; exact ⟨h1, ry⟩
    · rw [if_neg e, if_neg (fun z => e (h1.trans z))]; exact ⟨h1, h2⟩
theorem KV.put {kvs : List (κ × V)} {vs : List (κ × Value)} (r : KV kvs vs) (k : κ) {y : V} {u : Value} (ry : RelV y u) : KV (putK kvs k y) (stored vs k u) := by
  unfold putK stored
  rw [r.any k]
  by_cases e : (vs.any fun kv => decide (kv.1 = k)) = true
  · rw [if_pos e, if_pos e]; exact r.repl k ry
  · rw [if_neg e, if_neg e]; exact Paired.snoc r ⟨rfl, ry⟩
theorem KV.length {kvs : List (κ × V)} {vs : List (κ × Value)} (r : KV kvs vs) : kvs.length = vs.length := Paired.length r
end


theorem kV_is {P : Program} {w : World} {k : Key} {u : Value} (r : RelV (kV k) u) : (mixKind P w).is k u = true := by
  cases k with
  | inl i => obtain ⟨t, e⟩ := (show ∃ t, u = Value.int i t from r); subst e; exact mixKind_int P w i t
  | inr x => obtain ⟨t, e⟩ := (show ∃ t, u = Value.str x t from r); subst e; exact mixKind_str P w x t
theorem items_are {P : Program} {w : World} : ∀ {ks : List Key} {us : List Value}, Vals (ks.map kV) us → ItemsAre (mixKind P w) ks us
  | [], _, r => by rw [List.map_nil] at r; cases r; exact .nil
  | k :: ks, _, r => by
    rw [List.map_cons] at r
    cases r with
    | cons h t => exact .cons (kV_is h) (items_are t)

noncomputable abbrev KT (H : Hp) : List (List Key × V) → List (List Key × Addr × Value) → Prop := Paired fun p q => p.1 = q.1 ∧ H q.2.1 = some (.tup (p.1.map kV)) ∧ RelV p.2 q.2.2
theorem KT.val {H : Hp} {kvs : List (List Key × V)} {xs : List (List Key × Addr × Value)} (r : KT H kvs xs) (k : List Key) : RelO (valV kvs k) ((atKey xs k).map (·.2)) := by
  induction r with
  | nil => exact True.intro
  | @cons p q ps qs h t ih =>
    obtain ⟨h1, _, h2⟩ := h
    by_cases e : p.1 = k
    · have e' : q.1 = k := h1.symm.trans e
      have b : atKey (q :: qs) k = some q.2 := by simp [atKey, List.find?_cons, e']
      rw [valV_pos e, b]; exact h2
    · have e' : ¬ q.1 = k := fun z => e (h1.trans z)
      have b : atKey (q :: qs) k = atKey qs k := by simp [atKey, List.find?_cons, e']
      rw [valV_neg e, b]; exact ih
theorem KT.repl {H : Hp} {kvs : List (List Key × V)} {xs : List (List Key × Addr × Value)} (r : KT H kvs xs) (k : List Key) {y : V} {u : Value} (ry : RelV y u) :
    KT H (kvs.map fun kv => if kv.1 = k then (kv.1, y) else kv) (xs.map (putAt k u)) := by
  induction r with
  | nil => exact .nil
  | @cons p q ps qs h t ih =>
    rw [List.map_cons, List.map_cons]
    refine .cons ?_ ih
    obtain ⟨h1, h2, h3⟩ := h
    unfold putAt
    by_cases e : p.1 = k
    · rw [if_pos e, if_pos (h1.symm.trans e)]; exact ⟨h1, h2, ry⟩
    · rw [if_neg e, if_neg (fun z => e (h1.trans z))]; exact ⟨h1, h2, h3⟩
theorem KT.put {H : Hp} {kvs : List (List Key × V)} {xs : List (List Key × Addr × Value)} (r : KT H kvs xs) (k : List Key) {b : Addr} {y : V} {u : Value} (hb : H b = some (.tup (k.map kV))) (ry : RelV y u) :
    KT H (putK kvs k y) (storedH xs k b u) := by
  have e : (kvs.any fun kv => decide (kv.1 = k)) = (atKey xs k).isSome := by
    rw [valV_any, (r.val k).isSome_eq, Option.isSome_map]
  unfold putK storedH
  rw [e]
  by_cases q : (atKey xs k).isSome = true
  · rw [if_pos q, if_pos q]; exact r.repl k ry
  · rw [if_neg q, if_neg q]; exact Paired.snoc r ⟨rfl, hb, ry⟩
theorem KT.keeps {H H' : Hp} {kvs : List (List Key × V)} {xs : List (List Key × Addr × Value)} (r : KT H kvs xs) (ht : ∀ b ys, H b = some (.tup ys) → H' b = some (.tup ys)) : KT H' kvs xs :=
  Paired.mapP r fun _ _ z => ⟨z.1, ht _ _ z.2.1, z.2.2⟩

section
variable {P : Program} {w : World} {H : Hp} {h : Heap} {a : Addr}
theorem rd_of {u : HO} (ok : HOk P w H h) (e : Rd H a u) : ObjOk P w H h a u := e.ok ok
theorem dk_rd {kvs : List (Key × V)} (ok : HOk P w H h) (e : Rd H a (.dK kvs)) : kvs.length ≤ sizeLine ∧ (a == sysModules) = false ∧ ∃ vs, KV kvs vs ∧ h.DictOf (mixKind P w) a vs :=
  show ObjOk P w H h a (.dK kvs) from rd_of ok e
theorem dk_of {kvs : List (Key × V)} (ok : HOk P w H h) (e : H a = some (.dK kvs)) : kvs.length ≤ sizeLine ∧ (a == sysModules) = false ∧ ∃ vs, KV kvs vs ∧ h.DictOf (mixKind P w) a vs := dk_rd ok (.inl e)
theorem key_of {ks : List Key} (ok : HOk P w H h) (e : H a = some (.tup (ks.map kV))) : (tupleKind (mixKind P w)).is h ks a := by
  obtain ⟨_, its, r, o, h1, h2, n, h3⟩ := (show ObjOk P w H h a (.tup (ks.map kV)) from ok a _ e)
  exact ⟨o, its.toArray, n, h1, h2, h3, by simpa using items_are r⟩
theorem dt_rd {kvs : List (List Key × V)} (ok : HOk P w H h) (e : Rd H a (.dT kvs)) : kvs.length ≤ sizeLine ∧ (a == sysModules) = false ∧
    ∃ xs, KT H kvs xs ∧ h.DictOfH (tupleKind (mixKind P w)) a xs := by
  obtain ⟨z, y, xs, r, o, es, ep, h1, h2, h3, h4, h5⟩ := (show ObjOk P w H h a (.dT kvs) from rd_of ok e)
  refine ⟨z, y, xs, r, o, es, ep, h1, h2, h3, h4, fun x hx => ?_, h5⟩
  have all : ∀ {l : List (List Key × V)} {m : List (List Key × Addr × Value)}, KT H l m → ∀ x ∈ m, (tupleKind (mixKind P w)).is h x.1 x.2.1 := by
    intro l m q
    induction q with
    | nil => intro x hx; exact nomatch hx
    | @cons p q ps qs hq t ih =>
      intro x hx
      rcases List.mem_cons.mp hx with e | hx
      · subst e
        exact key_of ok (by rw [← hq.1]; exact hq.2.1)
      · exact ih x hx
  exact all r x hx
theorem dt_of {kvs : List (List Key × V)} (ok : HOk P w H h) (e : H a = some (.dT kvs)) : kvs.length ≤ sizeLine ∧ (a == sysModules) = false ∧
    ∃ xs, KT H kvs xs ∧ h.DictOfH (tupleKind (mixKind P w)) a xs := dt_rd ok (.inl e)
end

noncomputable def DGet (H : Hp) (a : Addr) (y : V) (r : Option V) : Prop :=
  (∃ kvs k, Rd H a (.dK kvs) ∧ y = kV k ∧ r = valV kvs k) ∨ ∃ kvs k b, Rd H a (.dT kvs) ∧ y = .ref b ∧ H b = some (.tup (k.map kV)) ∧ r = valV kvs k
noncomputable def DPut (H : Hp) (a : Addr) (y v : V) (H' : Hp) : Prop :=
  (∃ kvs k, H a = some (.dK kvs) ∧ y = kV k ∧ kvs.length < sizeLine ∧ H' = upd H a (.dK (putK kvs k v))) ∨
  ∃ kvs k b, H a = some (.dT kvs) ∧ y = .ref b ∧ H b = some (.tup (k.map kV)) ∧ kvs.length < sizeLine ∧ H' = upd H a (.dT (putK kvs k v))
theorem DGet.k {H : Hp} {a : Addr} {kvs : List (Key × V)} {k : Key} (e : H a = some (.dK kvs)) : DGet H a (kV k) (valV kvs k) := .inl ⟨kvs, k, .inl e, rfl, rfl⟩
theorem DPut.k {H : Hp} {a : Addr} {kvs : List (Key × V)} {k : Key} {v : V} (e : H a = some (.dK kvs)) (hl : kvs.length < sizeLine) : DPut H a (kV k) v (upd H a (.dK (putK kvs k v))) := .inl ⟨kvs, k, e, rfl, hl, rfl⟩
section
variable {X : Cx} {pins : List (Addr × Obj)} {σ : St} {H : Hp} {s : Shared} {a : Addr} {y v : V} {u r : Value} {o : Option V} {A : Around} {E : Value → Shared → Prop}

theorem Inv.big (I : Inv X pins σ H s) : sysModules < s.heap.objs.size := by
  have h : mainGlobals < s.heap.objs.size := (I.mod.glob.keeps I.bk).lt
  exact Nat.lt_trans (by decide) h

theorem d_getItem {Q : Value → Shared → Prop} (hu : A.units + 1 < cLine) (I : Inv X pins σ H s) (g : DGet H a y (some v)) (ry : RelV y u) (h : ∀ w' s', Inv X pins σ H s' → RelV v w' → Q w' s') :
    wpAny (model X.prog X.w) A (getItem (.ref a) u) Q E s := by
  rcases g with ⟨kvs, k, e, ey, l⟩ | ⟨kvs, k, b, e, ey, eb, l⟩
  · subst ey
    obtain ⟨z, hd, vs, rel, dd⟩ := dk_rd I.hok e
    obtain ⟨w', hw, rw'⟩ := RelO.some_of (v := v) (o := valueAt vs k) (by rw [l]; exact rel.val k)
    exact wpAny_getItem_of (kV_is ry) dd.mapOf hw (h w' _ (I.tok _) rw')
  · subst ey
    cases (show u = Value.ref b from ry)
    obtain ⟨z, hd, xs, rel, dd⟩ := dt_rd I.hok e
    obtain ⟨w', hw, rw'⟩ := RelO.some_of (v := v) (o := (atKey xs k).map (·.2)) (by rw [l]; exact rel.val k)
    obtain ⟨p, hp, hp2⟩ := Option.map_eq_some_iff.mp hw
    refine wpAny_getItem_heap (tupleKind_room_in1 hu) (key_of I.hok eb) dd hp ?_
    rw [hp2]
    exact h w' _ (I.tok _) rw'
theorem d_write {h' : Heap} {t' : Nat} {ob : HO} (I : Inv X pins σ H s) (mu : Mut (H a)) (hs : Heap.SameBut a s.heap h') (he : ∃ q, h'.get? a = some q) (new : ObjOk X.prog X.w (upd H a ob) h' a ob) :
    Inv X pins σ (upd H a ob) { s with heap := h', toks := t' } :=
  I.write (x := a) (e := a) mu (.inl rfl) (fun b q hb z => (hs.2 b hb).trans z) he new
theorem dk_new {P : Program} {w : World} {H' : Hp} {h' : Heap} {kvs : List (Key × V)} {vs : List (Key × Value)} (z : kvs.length ≤ sizeLine) (hd : (a == sysModules) = false) (rel : KV kvs vs) (dd : h'.DictOf (mixKind P w) a vs) :
    ObjOk P w H' h' a (.dK kvs) := ⟨z, hd, vs, rel, dd⟩
theorem d_setItem {H' : Hp} {Q : Unit → Shared → Prop} (hu : A.units + 1 < cLine) (I : Inv X pins σ H s) (g : DPut H a y v H') (ry : RelV y u) (rv : RelV v r) (h : ∀ s', Inv X pins σ H' s' → Q () s') :
    wpAny (model X.prog X.w) A (setItem (.ref a) u r) Q E s := by
  rcases g with ⟨kvs, k, e, ey, l, eH⟩ | ⟨kvs, k, b, e, ey, eb, l, eH⟩
  · subst ey eH
    obtain ⟨z, hd, vs, rel, dd⟩ := dk_of I.hok e
    have hz : vs.length ≤ sizeLine := by rw [← rel.length]; exact z
    have hl : (putK kvs k v).length ≤ sizeLine := by have := length_putK kvs k v; omega
    refine wpAny_setItem_pairs (hsz := hz) (kV_is ry) dd fun h' dd' hs => h _ ?_
    have he : ∃ q, h'.get? a = some q := let ⟨q, _, _, hq, _⟩ := dd'; ⟨q, hq⟩
    exact d_write I (by rw [e]; exact True.intro) hs he (dk_new hl hd (rel.put k rv) dd')
  · subst ey eH
    cases (show u = Value.ref b from ry)
    obtain ⟨z, hd, xs, rel, dd⟩ := dt_of I.hok e
    have hz : xs.length ≤ sizeLine := by rw [← Paired.length rel]; exact z
    have hl : (putK kvs k v).length ≤ sizeLine := by have := length_putK kvs k v; omega
    refine wpAny_setItem_heap (hsz := hz) (tupleKind_room_in1 hu) (key_of I.hok eb) dd fun h' dd' hs => h _ ?_
    obtain ⟨q, es, ep, hq, h2, h3, h4, _, h5⟩ := dd'
    refine d_write I (by rw [e]; exact True.intro) hs ⟨q, hq⟩ ⟨hl, hd, _, (rel.put k eb rv).keeps fun c ys ec => ?_, q, es, ep, hq, h2, h3, h4, h5⟩
    rw [upd_ne (ne_of ec e (fun z => nomatch z))]
    exact ec
end

section
variable {X : Cx} {pins : List (Addr × Obj)} {σ : St} {H : Hp} {s : Shared} {a : Addr} {kvs : List (Key × V)} {k : Key} {u : Value} {A : Around} {E : Value → Shared → Prop}
end


noncomputable def NoSl (i : Expr) : Prop := ∀ ov iv, subscripted i false ov iv = operate [ov, iv] (getItem ov iv)
theorem subD_of {prog : Program} {w : World} {A : Around} {E : Value → Shared → Prop} {s : Shared} {env : Env} {value slice : Expr} {pos : Pos} {T id : String} {Q : Value → Shared → Prop}
    (hl : typeLookup (.type T) "__getitem__" = pure (some (.builtin id))) (hs : NoSl slice)
    (h : wpAny (model prog w) A (eval value env) (fun o s₁ => wpAny (model prog w) A (eval slice env) (fun i s₂ => s₂.TypeIs o T ∧ wpAny (model prog w) A (getItem o i) Q E s₂) E s₁) E s) :
    wpAny (model prog w) A (eval (.Subscript value slice pos) env) Q E s := by
  refine Subscript_ (wpAny_mono h (fun o s₁ h₁ => wpAny_mono h₁ (fun i s₂ h₂ => ?_) fun _ _ x => x) fun _ _ x => x)
  obtain ⟨hT, h₂⟩ := h₂
  unfold subscriptTail
  refine wpAny_bind ?_
  rw [getitemInPython_of_ne hT.not_modules]
  refine wpAny_bind (wpAny_specialOf hT hl ?_)
  have fin : wpAny (model prog w) A (subscripted slice false o i) (fun r s₃ => wpAny (model prog w) A (letTemporaryGo value o r >>= fun _ => pure r) Q E s₃) E s₂ := by
    rw [hs o i]
    exact wpAny_operating (wpAny_mono h₂ (fun r s₃ h₃ => wpAny_bind (wpAny_letTemporaryGo (wpAny_pure h₃))) fun _ _ x => x)
  first
    | exact wpAny_pure (wpAny_bind fin)
    | exact wpAny_bind (wpAny_pure (wpAny_bind fin))
    | exact wpAny_bind fin

theorem dict_typeIs {X : Cx} {pins : List (Addr × Obj)} {σ : St} {H : Hp} {s : Shared} {a : Addr} {y : V} {o : Option V} (I : Inv X pins σ H s) (g : DGet H a y o) : s.TypeIs (.ref a) "dict" := by
  rcases g with ⟨kvs, k, e, _, _⟩ | ⟨kvs, k, b, e, _, _, _⟩
  · obtain ⟨_, _, vs, _, dd⟩ := dk_rd I.hok e
    exact dd.typeIs
  · obtain ⟨_, _, xs, _, dd⟩ := dt_rd I.hok e
    exact dd.typeIs
noncomputable def tDGet (td ty : TE) : TE := fun σ H Q => td σ H fun x H1 => ty σ H1 fun y H2 => ∃ a v, x = .ref a ∧ DGet H2 a y (some v) ∧ Q v H2
noncomputable def sDPut (td ty tv : TE) : TS := fun D σ H => tv σ H fun v H1 => td σ H1 fun x H2 => ty σ H2 fun y H3 => ∃ a H4, x = .ref a ∧ DPut H3 a y v H4 ∧ D.nx σ H4
section
variable {X : Cx} {o i e value : Expr} {pos pos' tpos : Pos} {td ty tv : TE}
theorem pe_dget (hu : X.A.units + 1 < cLine) (ho : PE X o td) (hi : PE X i ty) (hs : NoSl i) : PE X (.Subscript o i pos) (tDGet td ty) := by
  intro pins s σ H Q I h
  refine subD_of PySem.F.slot_dict_getitem.lookup hs (thn (ho pins s σ H _ I h) fun u s1 ⟨x, H1, I1, rx, q1⟩ => thn (hi pins s1 σ H1 _ I1 q1) fun iv s2 ⟨y, H2, I2, ry, a, v, ex, g, q2⟩ => ?_)
  subst ex
  obtain rfl : u = Value.ref a := rx
  exact ⟨dict_typeIs I2 g, d_getItem hu I2 g ry fun w' s3 I3 rw' => ⟨v, H2, I3, rw', q2⟩⟩
theorem ps_dput (hu : X.A.units + 1 < cLine) (ho : PE X o td) (hi : PE X i ty) (hv : PE X value tv) (hs : swapsWith value (some (.Subscript o i pos')) pos.line X.env = pure false) :
    PS X (.Assign [.Subscript o i pos'] value pos) (sDPut td ty tv) := by
  intro pins s σ H D I h
  refine wpAny_Assign_Subscript (thn (hv pins s σ H _ I h) fun r s1 ⟨v, H1, I1, rv, q1⟩ => thn (ho pins s1 σ H1 _ I1 q1) fun u s2 ⟨x, H2, I2, rx, q2⟩ => thn (hi pins s2 σ H2 _ I2 q2) fun iv s3 ⟨y, H3, I3, ry, a, H4, ex, g, q3⟩ => ?_) hs
  subst ex
  obtain rfl : u = Value.ref a := rx
  exact d_setItem hu I3 g ry rv fun s4 I4 => ⟨σ, H4, I4, q3⟩
end


theorem dk_empty {P : Program} {w : World} {H : Hp} (h : Heap) (hb : sysModules < h.objs.size) : ObjOk P w H (h.push { cls := .type "dict", data := .dict #[] }) h.objs.size (.dK []) :=
  ⟨Nat.zero_le _, beq_eq_false_iff_ne.mpr (Ne.symm (Nat.ne_of_lt hb)), [], .nil, Heap.DictOf.new h⟩
section
variable {X : Cx} {pos : Pos}
end

noncomputable def tPairs : List (TE × TE) → St → Hp → (List (V × V) → Hp → Prop) → Prop
  | [], _, H, Q => Q [] H
  | (tk, tv) :: r, σ, H, Q => tk σ H fun x H1 => tv σ H1 fun y H2 => tPairs r σ H2 fun ps H3 => Q ((x, y) :: ps) H3
noncomputable abbrev VV : List (V × V) → List (Value × Value) → Prop := Paired fun p q => RelV p.1 q.1 ∧ RelV p.2 q.2
noncomputable def PPs (X : Cx) (pos : Pos) (keys : List (Option Expr)) (values : List Expr) (trs : List (TE × TE)) : Prop :=
  ∀ (pins : List (Addr × Obj)) (s : Shared) (σ : St) (H : Hp) (Q : List (V × V) → Hp → Prop), Inv X pins σ H s → tPairs trs σ H Q →
    wpAny (model X.prog X.w) X.A (evalPairs (pairTrees keys values X.env pos)) (fun vs s' => ∃ ps H', Inv X pins σ H' s' ∧ VV ps vs ∧ Q ps H') X.xe s
theorem pps_nil {X : Cx} {pos : Pos} : PPs X pos [] [] [] := fun pins s σ H Q I h => pairTrees_nil_walk ⟨[], H, I, .nil, h⟩
theorem pps_cons {X : Cx} {pos : Pos} {k v : Expr} {ks : List (Option Expr)} {vs : List Expr} {tk tv : TE} {trs : List (TE × TE)} (hk : PE X k tk) (hv : PE X v tv) (hr : PPs X pos ks vs trs) :
    PPs X pos (some k :: ks) (v :: vs) ((tk, tv) :: trs) := fun pins s σ H Q I h =>
  pairTrees_cons_walk (thn (hk pins s σ H _ I h) fun u s1 ⟨x, H1, I1, rx, q1⟩ => thn (hv pins s1 σ H1 _ I1 q1) fun w2 s2 ⟨y, H2, I2, ry, q2⟩ =>
    thn (hr pins s2 σ H2 _ I2 q2) fun ws s3 ⟨ps, H3, I3, rel, q3⟩ => ⟨(x, y) :: ps, H3, I3, .cons ⟨rx, ry⟩ rel, q3⟩)

noncomputable def mergeK (kvs more : List (Key × V)) : List (Key × V) := more.foldl (fun acc kv => putK acc kv.1 kv.2) kvs
theorem KV.merge : ∀ {more : List (Key × V)} {rs : List (Key × Value)} {kvs : List (Key × V)} {vs : List (Key × Value)}, KV more rs → KV kvs vs → KV (mergeK kvs more) (merged vs rs) := by
  intro more rs kvs vs r
  unfold KV at r
  induction r generalizing kvs vs with
  | nil => intro q; exact q
  | @cons p q ps qs h t ih =>
    intro r0
    have e : KV (putK kvs p.1 p.2) (stored vs q.1 q.2) := by
      have := r0.put p.1 h.2
      rw [← h.1]; exact this
    exact ih e
theorem length_mergeK : ∀ (more kvs : List (Key × V)), (mergeK kvs more).length ≤ kvs.length + more.length
  | [], kvs => by show kvs.length ≤ kvs.length + 0; omega
  | p :: r, kvs => by
    have h1 := length_mergeK r (putK kvs p.1 p.2)
    have h2 := length_putK kvs p.1 p.2
    show (mergeK (putK kvs p.1 p.2) r).length ≤ _
    rw [List.length_cons]; omega
theorem carries_of {P : Program} {w : World} : ∀ {kvs : List (Key × V)} {ws : List (Value × Value)}, VV (kvs.map fun kv => (kV kv.1, kv.2)) ws → ∃ rs, Carries (mixKind P w) ws rs ∧ KV kvs rs
  | [], _, r => by rw [List.map_nil] at r; cases r; exact ⟨[], True.intro, .nil⟩
  | p :: kvs, _, r => by
    rw [List.map_cons] at r
    cases r with
    | @cons a b as bs h t =>
      obtain ⟨rs, c, q⟩ := carries_of (P := P) (w := w) t
      obtain ⟨b1, b2⟩ := b
      exact ⟨(p.1, b2) :: rs, ⟨kV_is h.1, rfl, c⟩, .cons ⟨rfl, h.2⟩ q⟩
noncomputable def tDisp (trs : List (TE × TE)) : TE := fun σ H Q => ∀ p, H p = none → tPairs trs σ (upd H p (.dK [])) fun ps H2 => H2 p = some (.dK []) ∧ ∃ kvs : List (Key × V), ps = kvs.map (fun kv => (kV kv.1, kv.2)) ∧ kvs.length ≤ 15 ∧ Q (.ref p) (upd H2 p (.dK (mergeK [] kvs)))
theorem pe_disp {X : Cx} {pos : Pos} {keys : List (Option Expr)} {values : List Expr} {trs : List (TE × TE)} (h : PPs X pos keys values trs) (hall : keys.all (·.isSome) = true) (hl : keys.length = values.length) (h0 : keys ≠ [])
    (h15 : keys.length ≤ 15) : PE X (.Dict keys values pos) (tDisp trs) := by
  intro pins s σ H Q I q
  have hn := I.hok.fresh (Nat.le_refl s.heap.objs.size)
  have I1 := I.laid (a := s.heap.objs.size) (o := .dK []) (h' := s.heap.push { cls := .type "dict", data := .dict #[] }) (t' := s.toks) (fun _ _ q => Heap.get?_push_of_some _ q) (Nat.le_refl _) (dk_empty s.heap I.big)
  refine wpAny_Dict_walk (knd := mixKind X.prog X.w) hall hl h0 h15 (thn (h pins _ σ _ _ I1 (q _ hn)) fun ws s2 ⟨ps, H2, I2, rel, e, kvs, ep, lk, q2⟩ => ?_)
  subst ep
  obtain ⟨rs, c, rk⟩ := carries_of (P := X.prog) (w := X.w) rel
  obtain ⟨z, hd, vs0, r0, dd⟩ := dk_of I2.hok e
  cases r0
  refine ⟨rs, c, dd, fun h' dd' hs => ⟨.ref s.heap.objs.size, _, ?_, rfl, q2⟩⟩
  have hz : (mergeK [] kvs).length ≤ sizeLine := by
    have h1 := length_mergeK kvs []
    rw [List.length_nil] at h1
    rw [sizeLine_eq]; omega
  have he : ∃ q, h'.get? s.heap.objs.size = some q := let ⟨q, _, _, hq, _⟩ := dd'; ⟨q, hq⟩
  exact d_write I2 (by rw [e]; exact True.intro) hs he (dk_new hz hd (rk.merge .nil) dd')


structure M1 (X : Cx) (o : Expr) (m : Str) (apos : Pos) (e : Expr) (cpos : Pos) : Prop where
  base : attributeBase o m X.env (eval o X.env) = eval o X.env
  few : ((backTo cpos (starEach [e] X.env)).all (fun x => !x.1) && (backToKw cpos (keywordEach [] X.env)).all (fun x => x.1.isSome)
    && decide (([e] : List Expr).length + ([] : List Keyword).length + (if ([] : List Keyword).isEmpty then 0 else 1) < 30)) = true
  line : (apos.endLine == cpos.line) = true
  trees : backTo cpos (starEach [e] X.env) = [(false, eval e X.env)]
structure M2 (X : Cx) (o : Expr) (m : Str) (apos : Pos) (e f : Expr) (cpos : Pos) : Prop where
  base : attributeBase o m X.env (eval o X.env) = eval o X.env
  few : ((backTo cpos (starEach [e, f] X.env)).all (fun x => !x.1) && (backToKw cpos (keywordEach [] X.env)).all (fun x => x.1.isSome)
    && decide (([e, f] : List Expr).length + ([] : List Keyword).length + (if ([] : List Keyword).isEmpty then 0 else 1) < 30)) = true
  line : (apos.endLine == cpos.line) = true
  trees : backTo cpos (starEach [e, f] X.env) = [(false, eval e X.env), (false, eval f X.env)]

section
variable {X : Cx} {pins : List (Addr × Obj)} {σ : St} {H : Hp} {s : Shared} {a : Addr} {y d : V} {u r : Value} {o : Option V} {A : Around} {E : Value → Shared → Prop}
end

section
variable {X : Cx} {o e f : Expr} {apos cpos : Pos} {td ty tx : TE}
end

section
variable {X : Cx} {pins : List (Addr × Obj)} {σ : St} {H : Hp} {s : Shared} {a : Addr} {kvs : List (Key × V)} {A : Around} {E : Value → Shared → Prop}
end


section
variable {X : Cx} {pins : List (Addr × Obj)} {σ : St} {H : Hp} {s : Shared} {a : Addr} {y : V} {u : Value} {A : Around} {E : Value → Shared → Prop}
end
end L2

namespace L2
open PySem PySem.Spec PyProof.Rows
section
variable {X : Cx}
end
section
variable {κ : Type} [DecidableEq κ]
end
end L2


set_option maxHeartbeats 4000000
set_option maxRecDepth 100000
namespace L2
open PySem PySem.Spec PyProof.Rows

theorem Inv.track {X : Cx} {pins : List (Addr × Obj)} {σ : St} {H : Hp} {s : Shared} {D : Addr} {o : HO} (I : Inv X pins σ H s) (f : FpOk X pins H D) (new : ObjOk X.prog X.w (upd H D o) s.heap D o) : Inv X pins σ (upd H D o) s := by
  obtain ⟨f0, f1, f2, f3, f4, f5⟩ := f
  show Inv X pins σ (upd H D o) { s with heap := s.heap, gens := s.gens, drawn := s.drawn, toks := s.toks }
  refine I.step (g' := s.gens) (d' := s.drawn) (t' := s.toks) (h' := s.heap) (ch := [D]) (fun b hb => ?_) (fun b o _ _ _ e _ => e) (fun b o _ _ _ e _ => ⟨o.slots, e⟩) (fun b ob hc e n => ?_) (fun b ob _ e => ⟨ob, e⟩)
    (fun b xs e => ?_) (fun b ob u e => ?_) (fun b ps e => ⟨#[], ?_⟩) (fun m hm => hm) (fun b u e => ?_) I.bare
  · have z : b = D := by simpa using hb
    subst z
    exact ⟨f3, f1, f4, f5⟩
  · rw [upd_ne (fun z => hc (by simp [z]))]; exact n
  · rw [upd_ne (ne_of_none e f0)]; exact e
  · rw [upd_ne (ne_of_none e f0)]; exact e
  · rw [upd_ne (ne_of_none e f0), e]; simp
  · by_cases hb : b = D
    · subst hb; rw [upd_same] at e; cases e; exact new
    · rw [upd_ne hb] at e
      exact (I.hok b u e).stay (fun c v _ q => q) (fun c q => by rw [upd_ne (ne_of_none q f0)]; exact q) fun c xs q => by rw [upd_ne (ne_of_none q f0)]; exact q

theorem build_names {env : Env} {f : Str × NameKind → List (Str × Addr) → Sem (ForInStep (List (Str × Addr)))} (h1 : ∀ n k cs, k ≠ .free → f (n, k) cs = pure (.yield cs))
    (h2 : ∀ n cs c, env.cells.lookup n = some c → f (n, .free) cs = pure (.yield ((n, c) :: cs))) : ∀ (names : List (Str × NameKind)) (acc : List (Str × Addr)), (∀ y ∈ names, y.2 = .free → ∃ c, env.cells.lookup y.1 = some c) →
      ∃ cl, forIn names acc f = pure cl ∧ (∀ x c, cl.lookup x = some c → acc.lookup x = some c ∨ env.cells.lookup x = some c) ∧ (∀ x, (acc.lookup x).isSome = true → (cl.lookup x).isSome = true) ∧
        ∀ y ∈ names, y.2 = .free → (cl.lookup y.1).isSome = true
  | [], acc, _ => ⟨acc, rfl, fun x c e => .inl e, fun x e => e, fun y hy => absurd hy (by simp)⟩
  | (n, k) :: r, acc, h => by
    have hr : ∀ y ∈ r, y.2 = .free → ∃ c, env.cells.lookup y.1 = some c := fun y hy => h y (List.mem_cons_of_mem _ hy)
    by_cases hk : k = .free
    · subst hk
      obtain ⟨c, hc⟩ := h (n, .free) List.mem_cons_self rfl
      obtain ⟨cl, e, a1, a2, a3⟩ := build_names h1 h2 r ((n, c) :: acc) hr
      refine ⟨cl, by rw [List.forIn_cons, h2 n acc c hc, pure_bind]; exact e, fun x d hx => ?_, fun x hx => a2 x ?_, fun y hy hf => ?_⟩
      · rcases a1 x d hx with q | q
        · rw [List.lookup_cons] at q
          cases z : x == n with
          | true =>
            rw [z] at q
            have z' : x = n := by simpa using z
            subst z'
            cases q
            exact .inr hc
          | false => rw [z] at q; exact .inl q
        · exact .inr q
      · rw [List.lookup_cons]
        cases x == n with
        | true => rfl
        | false => exact hx
      · rcases List.mem_cons.mp hy with z | z
        · subst z
          refine a2 n ?_
          rw [List.lookup_cons]
          simp
        · exact a3 y z hf
    · obtain ⟨cl, e, a1, a2, a3⟩ := build_names h1 h2 r acc hr
      refine ⟨cl, by rw [List.forIn_cons, h1 n k acc hk, pure_bind]; exact e, a1, a2, fun y hy hf => ?_⟩
      rcases List.mem_cons.mp hy with z | z
      · subst z; exact absurd hf hk
      · exact a3 y z hf
theorem closure_ok {scope : Scope} {env : Env} (h : ∀ y ∈ scope.names, y.2 = .free → ∃ c, env.cells.lookup y.1 = some c) :
    ∃ cl, closureFor scope env = pure cl ∧ (∀ x c, cl.lookup x = some c → env.cells.lookup x = some c) ∧ ∀ y ∈ scope.names, y.2 = .free → ∃ c, cl.lookup y.1 = some c := by
  obtain ⟨cl, e, a1, _, a3⟩ := build_names (env := env) (f := fun x r => if (x.2 == NameKind.free) = true then (do let c ← cellOf env x.1; pure (ForInStep.yield ((x.1, c) :: r))) else pure (ForInStep.yield r)) (fun n k cs hk => by
    have z : (k == NameKind.free) = false := by simpa using hk
    simp only [z, Bool.false_eq_true, if_false]) (fun n cs c hc => by
    simp only [beq_self_eq_true, if_true, cellOf, hc, pure_bind]) scope.names [] h
  simp only [closureFor]
  refine ⟨cl, by rw [e, pure_bind], fun x c q => ?_, fun y hy hf => Option.isSome_iff_exists.mp (a3 y hy hf)⟩
  rcases a1 x c q with z | z
  · cases z
  · exact z
theorem relabel_look {scope : Scope} {env : Env} {x : Str} (hcell : ∀ y ∈ scope.names, y.2 ≠ .cell) (h : (relabel scope env).names.lookup x = some .cell ∨ (relabel scope env).names.lookup x = some .free) : scope.names.lookup x = some .free := by
  unfold relabel at h
  dsimp only at h
  generalize scope.names = l at h hcell
  induction l with
  | nil => rcases h with h | h <;> cases h
  | cons y r ih =>
    obtain ⟨n, k⟩ := y
    have hr : ∀ y ∈ r, y.2 ≠ .cell := fun y hy => hcell y (List.mem_cons_of_mem _ hy)
    have hk : k ≠ .cell := hcell (n, k) List.mem_cons_self
    rw [List.map_cons] at h
    dsimp only at h
    rw [List.lookup_cons]
    cases hx : x == n with
    | true =>
      dsimp only
      by_cases hc : (k == NameKind.free && env.scope.kind == .function && env.kindOf n == some .cell) = true
      · simp only [Bool.and_eq_true, beq_iff_eq] at hc
        rw [hc.1.1]
      · rw [if_neg hc, List.lookup_cons, hx] at h
        dsimp only at h
        rcases h with h | h
        · exact absurd (Option.some.inj h) hk
        · exact h
    | false =>
      dsimp only
      refine ih ?_ hr
      by_cases hc : (k == NameKind.free && env.scope.kind == .function && env.kindOf n == some .cell) = true
      · rw [if_pos hc, List.lookup_cons, hx] at h
        exact h
      · rw [if_neg hc, List.lookup_cons, hx] at h
        exact h

theorem relabel_free {scope : Scope} {env : Env} {x : Str} (h : scope.names.lookup x = some .free) : (relabel scope env).names.lookup x = some .cell ∨ (relabel scope env).names.lookup x = some .free := by
  unfold relabel
  dsimp only
  generalize scope.names = l at h
  induction l with
  | nil => cases h
  | cons y r ih =>
    obtain ⟨n, k⟩ := y
    rw [List.lookup_cons] at h
    rw [List.map_cons]
    dsimp only
    cases hx : x == n with
    | true =>
      rw [hx] at h
      have hk : k = .free := Option.some.inj h
      subst hk
      by_cases hc : (NameKind.free == NameKind.free && env.scope.kind == .function && env.kindOf n == some .cell) = true
      · rw [if_pos hc, List.lookup_cons, hx]
        exact .inl rfl
      · rw [if_neg hc, List.lookup_cons, hx]
        exact .inr rfl
    | false =>
      rw [hx] at h
      by_cases hc : (k == NameKind.free && env.scope.kind == .function && env.kindOf n == some .cell) = true
      · rw [if_pos hc, List.lookup_cons, hx]
        exact ih h
      · rw [if_neg hc, List.lookup_cons, hx]
        exact ih h
theorem lookup_relabel_not {scope : Scope} {env : Env} {x : Str} (h : scope.names.lookup x = some .free) : ¬ (relabel scope env).names.lookup x = some .local := fun e => by
  rcases relabel_free (env := env) h with q | q <;> (rw [e] at q; cases q)

noncomputable def cxC (X : Cx) (scope : Scope) (cl : List (Str × Addr)) (C : Addr) (N : List Str) (fp : List Addr) (s : Shared) (H : Hp) : Cx where
  prog := X.prog
  w := X.w
  K := X.K
  mg := X.mg
  base := X.base
  A := X.A
  N := N
  s₀ := s
  H₀ := H
  env := compEnvC scope cl C X.env
  outer := X.stack
  stack := X.stack
  ex := fp
  fn := fun _ => false
  calm := X.calm
  pn := []
  xe := fun _ _ => False
noncomputable def iniC (js : List (Option Nat)) (σ : St) : St := js.map fun j => match j with
  | some i => (σ[i]?).join
  | none => none
structure CompScope (sc scope : Scope) (NX N : List Str) (js : List (Option Nat)) : Prop where
  cell : ∀ y ∈ scope.names, y.2 ≠ .cell
  kind : scope.kind = .function
  names : ∀ y ∈ scope.names, y.2 = .local → scope.names.lookup y.1 = some .local
  free : ∀ y ∈ scope.names, y.2 = .free → sc.names.lookup y.1 = some .cell ∨ sc.names.lookup y.1 = some .free
  len : js.length = N.length
  out : ∀ p ∈ js.zip N, ∀ j ∈ p.1, NX[j]? = some p.2 ∧ scope.names.lookup p.2 = some .free

noncomputable def PF (X : Cx) (ifs : List Expr) (t : TT) : Prop :=
  ∀ (pins : List (Addr × Obj)) (s : Shared) (σ : St) (H : Hp) (Q : Bool → Hp → Prop), Inv X pins σ H s → t σ H Q →
    wpAny (model X.prog X.w) X.A (forIn ifs true fun c r => if r = true then do let ok ← isTrue c X.env (eval c X.env); pure (ForInStep.yield ok) else pure (ForInStep.yield r)) (TP X pins σ Q) X.xe s
noncomputable def tYes : TT := fun _ H Q => Q true H
theorem pf_nil {X : Cx} : PF X [] tYes := fun _ _ _ H _ I h => by
  rw [List.forIn_nil]
  exact wpAny_pure ⟨H, I, h⟩
theorem pf_one {X : Cx} {c : Expr} {t : TT} (hc : PT X c t) : PF X [c] t := fun pins s σ H Q I h => by
  rw [List.forIn_cons]
  simp only [if_true]
  rw [bind_assoc]
  refine wpAny_bind (thn (hc pins s σ H Q I h) fun b s1 q => ?_)
  rw [pure_bind]
  dsimp only
  rw [List.forIn_nil]
  exact wpAny_pure q

section
variable {prog : Program} {w : World} {A : Around} {R : Result → Shared → Prop} {s : Shared}
theorem compLoop_gen {elt target iter : Expr} {ifs : List Expr} {scope : Scope} {pos : Pos} {it acc : Value} {env : Env} (I : Nat → Shared → Prop)
    (turn : ∀ n s, I n s → wpAny (model prog w) A (pyNext it) (fun r s₁ => match r with
      | none => R (.ok .next) s₁
      | some v => wpAny (model prog w) A (letOwnedTupleGo target it v) (fun _ s₀ => wpAny (model prog w) A (assign target env v) (fun _ s₂ =>
          wpAny (model prog w) A (forIn ifs true fun c r => if r = true then do let ok ← isTrue c env (eval c env); pure (ForInStep.yield ok) else pure (ForInStep.yield r)) (fun ok s₃ =>
            if ok = true then wpAny (model prog w) A (eval elt env) (fun x s₄ =>
              wpAny (model prog w) A (call (.builtin "list.append") [acc, x]) (fun _ s₅ => ∃ m, m < n ∧ I m s₅) (fun _ _ => False) s₄) (fun _ _ => False) s₃
            else ∃ m, m < n ∧ I m s₃) (fun _ _ => False) s₂) (fun _ _ => False) s₀) (fun _ _ => False) s₁) (fun _ _ => False) s)
    (n : Nat) (h : I n s) : codeAny (model prog w) A (.compLoop (.ListComp elt [⟨target, iter, ifs, 0⟩] scope pos) 0 it acc env) R s := by
  refine codeAny_loop rfl I (fun n s hI => ?_) n h
  show wpAny _ A ((compTurn (.ListComp elt [⟨target, iter, ifs, 0⟩] scope pos) 0 it acc env).onRaise (fun x => do noteFrame x env; theTreesLotGoes x)) _ _ s
  refine wpAny_noted ?_
  rw [compTurn_list]
  refine wpAny_mono (E := fun _ _ => False) ?_ (fun _ _ q => q) fun _ _ f => f.elim
  refine wpAny_bind (wpAny_standAt (wpAny_bind (thn (turn n s hI) (fun r s₁ h₁ => ?_))))
  cases r with
  | none => exact wpAny_pure h₁
  | some v =>
    refine wpAny_bind (thn h₁ fun _ s₀ h₀ => ?_)
    refine wpAny_bind (thn h₀ (fun _ s₂ h₂ => wpAny_bind (thn h₂ (fun ok s₃ h₃ => ?_))))
    cases ok with
    | false => exact wpAny_pure ⟨rfl, h₃⟩
    | true =>
      exact wpAny_bind (wpAny_bind (thn h₃ (fun x s₄ h₄ => wpAny_bind (thn h₄ (fun _ s₅ h₅ => wpAny_pure (wpAny_pure ⟨rfl, h₅⟩))))))
end

noncomputable def OwnG (js : List (Option Nat)) (g : TG) : Prop := ∀ (σ : St) (x : V) (H : Hp) (Q : St → Hp → Prop), g x (iniC js σ) H Q →
  g x (iniC js σ) H fun σ3 H3 => (σ3.length = (iniC js σ).length ∧ ∀ (i : Nat) v, (iniC js σ)[i]? = some (some v) → σ3[i]? = some (some v)) ∧ Q σ3 H3
noncomputable def CompW (J : It) (js : List (Option Nat)) (g : TG) (tt : TT) (te : TE) (σ : St) (H1 : Hp) (Q : VK) : Prop := ∃ W : Nat → Nat → List V → Hp → Prop, (∃ m, W 0 m [] H1) ∧
  ∀ i m ys H', W i m ys H' → ys.length ≤ sizeLine ∧ ((J.stop i H' ∧ ∀ D, H' D = none → Q (.ref D) (upd H' D (.lst ys))) ∨
    (J.go i H' ∧ ∃ N : List V → Hp → Prop, (∀ ys H, N ys H → ∃ m', m' < m ∧ W (i + 1) m' ys H) ∧
      ∀ x H2, J.yld i H' x H2 → g x (iniC js σ) H2 fun σ3 H3 => tt σ3 H3 fun ok H4 => if ok = true then te σ3 H4 fun y H5 => N (ys ++ [y]) H5 else N ys H4))
noncomputable def tComp (wi : TI) (js : List (Option Nat)) (g : TG) (tt : TT) (te : TE) : TE := fun σ H Q => wi σ H fun J H1 => CompW J js g tt te σ H1 Q
theorem comp_it {J : It} {js : List (Option Nat)} {g : TG} {tt : TT} {te : TE} {σ : St} {H1 : Hp} {Q : VK} (n : Nat) (Pv : Nat → List V → Hp → Prop) (h0 : Pv 0 [] H1) (hl : ∀ i ys H, Pv i ys H → ys.length ≤ i) (hz : n ≤ sizeLine)
    (hs : ∀ i ys H, i < n → Pv i ys H → J.go i H ∧ ∀ x H2, J.yld i H x H2 → g x (iniC js σ) H2 fun σ3 H3 => tt σ3 H3 fun ok H4 => if ok = true then te σ3 H4 fun y H5 => Pv (i + 1) (ys ++ [y]) H5 else Pv (i + 1) ys H4)
    (hd : ∀ ys H, Pv n ys H → J.stop n H ∧ ∀ D, H D = none → Q (.ref D) (upd H D (.lst ys))) : CompW J js g tt te σ H1 Q := by
  refine ⟨fun i m ys H => m = n - i ∧ i ≤ n ∧ Pv i ys H, ⟨n, by simp, Nat.zero_le _, h0⟩, ?_⟩
  rintro i m ys H ⟨rfl, hi, p⟩
  refine ⟨Nat.le_trans (hl i ys H p) (Nat.le_trans hi hz), ?_⟩
  by_cases hlt : i < n
  · obtain ⟨a, b⟩ := hs i ys H hlt p
    exact .inr ⟨a, Pv (i + 1), fun ys' H' p' => ⟨n - (i + 1), by omega, rfl, hlt, p'⟩, b⟩
  · have e : i = n := by omega
    subst e
    exact .inl (hd ys H p)
theorem own_name {js : List (Option Nat)} {k : Nat} (h : js[k]? = some none) : OwnG js (gName k) := fun σ x H Q q => by
  refine ⟨⟨by rw [List.length_set], fun i v e => ?_⟩, q⟩
  by_cases hik : k = i
  · subst hik
    unfold iniC at e
    rw [List.getElem?_map, h] at e
    cases e
  · rw [List.getElem?_set_ne hik]
    exact e
theorem own_two {K : PySem.W.Frag} {js : List (Option Nat)} {k l : Nat} (h : js[k]? = some none) (h' : js[l]? = some none) : OwnG js (gTup K 2 (gCons (gName k) (gCons (gName l) gNil))) := fun σ x H Q q => by
  obtain ⟨a, xs, e1, e2, e3, v, r, rfl, v2, r2, rfl, rfl, q⟩ := q
  have key : ∀ {i : Nat} {z : V}, (iniC js σ)[i]? = some (some z) → i ≠ k ∧ i ≠ l := fun {i z} e => by
    unfold iniC at e
    rw [List.getElem?_map] at e
    refine ⟨fun q => ?_, fun q => ?_⟩
    · subst q; rw [h] at e; cases e
    · subst q; rw [h'] at e; cases e
  refine ⟨a, _, e1, e2, e3, v, _, rfl, v2, _, rfl, rfl, ⟨by rw [List.length_set, List.length_set], fun i z e => ?_⟩, q⟩
  obtain ⟨n1, n2⟩ := key e
  rw [List.getElem?_set_ne (Ne.symm n2), List.getElem?_set_ne (Ne.symm n1)]
  exact e

section
variable {X : Cx} {sc scope : Scope} {NX N : List Str} {js : List (Option Nat)} {elt iter tg : Expr} {ifs : List Expr} {pos : Pos} {wi : TI} {g : TG} {tt : TT} {te : TE}

theorem block_start {pins : List (Addr × Obj)} {σ : St} {H2 : Hp} {s2 : Shared} {fp : List Addr} {cl : List (Str × Addr)} {h1 : Heap} {tk : Nat} (hsc : X.env.scope = sc) (hNX : X.N = NX) (ok : CompScope sc scope NX N js) (I2 : Inv X pins σ H2 s2)
    (cl1 : ∀ x c, cl.lookup x = some c → X.env.cells.lookup x = some c) (cl2 : ∀ y ∈ scope.names, y.2 = .free → ∃ c, cl.lookup y.1 = some c) (f2 : ∀ b ∈ fp, FpOk X pins H2 b) (hfp : ∀ b ∈ fp, b < s2.heap.objs.size)
    {C : Addr} (hC : s2.heap.objs.size ≤ C) (old : ∀ b o, s2.heap.get? b = some o → h1.get? b = some o) (hns : h1.Ns C fun _ => none) :
    Inv (cxC X scope cl C N fp s2 H2) [] (iniC js σ) H2 { s2 with heap := h1, toks := tk } := by
  have cOld : ∀ x c, X.env.cells.lookup x = some c → c < s2.heap.objs.size := fun x c e => by
    obtain ⟨v, z⟩ := I2.cell x c e
    exact z.lt
  refine ⟨⟨I2.ok.mod, ?_, I2.ok.glob, I2.ok.blt, hC, fun x y c e1 e2 => I2.ok.inj x y c (cl1 x c e1) (cl1 y c e2), fun x hx => ?_, fun x c hf _ => absurd hf Bool.false_ne_true, I2.ok.hd, I2.ok.frames, .inl rfl, fun b hb => ⟨Nat.ne_of_lt (Nat.lt_of_lt_of_le (hfp b hb) hC), fun x c e => (f2 b hb).2.2.2.2.1 x c (cl1 x c e)⟩,
    I2.bs, Nat.le_trans I2.ok.bsz I2.sz, fun b o e hb => ?_, fun b hb z => ?_, I2.stack, I2.stkFree⟩, rfl, I2.bare, Un.kept old, ⟨_, hns, fun i x v e1 e2 e3 => ?_⟩, fun x c e => ?_, I2.hok.fresh hC, fun x c e => I2.freeC x c (cl1 x c e), fun p hp => absurd (show p ∈ ([] : List (Addr × Obj)) from hp) (by simp), I2.hok.kept old, ?_⟩
  · exact ok.kind
  · have q : scope.names.lookup x = some .free := relabel_look ok.cell hx
    exact cl2 (x, .free) (PySem.mem_of_lookup q) rfl
  · rcases (f2 b hb).2.2.2.1 with z | z
    · exact I2.ok.noex b o e z
    · exact absurd (Nat.lt_of_lt_of_le (Heap.lt_size (I2.ok.bs b o e).1) z) (Nat.lt_irrefl _)
  · rcases List.mem_cons.mp (I2.stkSub b z) with q | q
    · exact (f2 b hb).2.1 q
    · exact (f2 b hb).2.2.1 q
  · have e1' : N[i]? = some x := e1
    have e2' : (iniC js σ)[i]? = some (some v) := e2
    unfold iniC at e2'
    rw [List.getElem?_map] at e2'
    cases hj : js[i]? with
    | none => rw [hj] at e2'; cases e2'
    | some oj =>
      rw [hj] at e2'
      cases oj with
      | none => cases e2'
      | some j =>
        have e4 : (σ[j]?).join = some v := Option.some.inj e2'
        have e5 : σ[j]? = some (some v) := by
          cases z : σ[j]? with
          | none => rw [z] at e4; cases e4
          | some ov =>
            rw [z] at e4
            have e6 : ov = some v := e4
            rw [e6]
        have hz : (some j, x) ∈ js.zip N := by
          refine List.mem_of_getElem? (i := i) ?_
          rw [List.getElem?_zip_eq_some]
          exact ⟨hj, e1'⟩
        obtain ⟨q1, q2⟩ := ok.out _ hz j rfl
        have q3 := ok.free (x, .free) (PySem.mem_of_lookup q2) rfl
        rw [← hsc] at q3
        obtain ⟨m, hn, hl⟩ := I2.loc
        obtain ⟨u, r, l⟩ := hl j x v (by rw [hNX]; exact q1) e5 (.inr q3)
        refine ⟨u, r, .inr ?_⟩
        rcases l with ⟨k, _⟩ | ⟨_, c, hc, hcell⟩
        · have k' : X.env.scope.names.lookup x = some .local := k
          rcases q3 with q3 | q3 <;> (rw [k'] at q3; cases q3)
        · obtain ⟨c', hc'⟩ := cl2 (x, .free) (PySem.mem_of_lookup q2) rfl
          have ec := cl1 x c' hc'
          rw [hc] at ec
          cases ec
          refine ⟨?_, c, hc', ?_⟩
          · have e3' : Vis (relabel scope X.env) x := e3
            rcases e3' with e3' | e3' | e3'
            · have := lookup_relabel_not q2 (env := X.env)
              exact absurd e3' this
            · exact .inl e3'
            · exact .inr e3'
          · obtain ⟨o, ho, hd⟩ := hcell
            exact ⟨o, old _ _ ho, hd⟩
  · obtain ⟨v, o, ho, hd⟩ := I2.cell x c (cl1 x c e)
    exact ⟨v, o, old _ _ ho, hd⟩
  · show (iniC js σ).length = N.length
    unfold iniC
    rw [List.length_map, ok.len]
theorem comp_core {pins : List (Addr × Obj)} {σ : St} {H2 : Hp} {s2 : Shared} {it : Addr} {fp : List Addr} {tn : Nat → Heap → Prop} {J : It} {cl : List (Str × Addr)} {Q : VK} {E : Value → Shared → Prop} {RR : Value → Addr → Result → Shared → Prop}
    (hsc : X.env.scope = sc) (hNX : X.N = NX) (ok : CompScope sc scope NX N js) (hc : X.calm = true) (I2 : Inv X pins σ H2 s2)
    (cl1 : ∀ x c, cl.lookup x = some c → X.env.cells.lookup x = some c) (cl2 : ∀ y ∈ scope.names, y.2 = .free → ∃ c, cl.lookup y.1 = some c)
    (T : Turn X.prog X.w X.K tg J fp it tn) (st2 : tn 0 s2.heap) (f2 : ∀ b ∈ fp, FpOk X pins H2 b)
    (hg : ∀ C, PG (cxC X scope cl C N fp s2 H2) tg g) (ht : ∀ C, PF (cxC X scope cl C N fp s2 H2) ifs tt) (he : ∀ C, PE (cxC X scope cl C N fp s2 H2) elt te)
    (own : OwnG js g) {W : Nat → Nat → List V → Hp → Prop} {m0 : Nat} (w0 : W 0 m0 [] H2)
    (turn : ∀ i m ys H', W i m ys H' → ys.length ≤ sizeLine ∧ ((J.stop i H' ∧ ∀ D, H' D = none → Q (.ref D) (upd H' D (.lst ys))) ∨
      (J.go i H' ∧ ∃ N : List V → Hp → Prop, (∀ ys H, N ys H → ∃ m', m' < m ∧ W (i + 1) m' ys H) ∧
        ∀ x H2, J.yld i H' x H2 → g x (iniC js σ) H2 fun σ3 H3 => tt σ3 H3 fun ok H4 => if ok = true then te σ3 H4 fun y H5 => N (ys ++ [y]) H5 else N ys H4)))
    (fin : ∀ D C m s' Hf, Inv X pins σ Hf s' → s'.heap.Ns C m → FpOk X pins Hf C → Q (.ref D) Hf → RR (.ref D) C (.ok .next) s') :
    wpAny (model X.prog X.w) X.A (newList []) (fun acc s₃ => wpAny (model X.prog X.w) X.A (newFunctionEnv scope X.env.globals cl [] X.env.qual none .none (some X.env)) (fun cenv s₄ =>
      codeAny (model X.prog X.w) X.A (.compStart (.ListComp elt [⟨tg, iter, ifs, 0⟩] scope pos) 0 (.ref it) acc { cenv with scope := relabel scope X.env }) (RR acc cenv.locals) s₄) E s₃) E s2 := by
  refine wpAny_newObj_type (wpAny_newFunctionEnv ok.cell (by intro y hy; simp at hy) (fun h₁ hns₁ hsb₁ => ?_) ok.kind)
  dsimp only at hns₁ hsb₁ ⊢
  generalize hHH : s2.heap.push { cls := .type "list", dict := none, data := .seq ([] : List Value).toArray } = HH at hns₁ hsb₁ ⊢
  have hCe : HH.objs.size = s2.heap.objs.size + 1 := by rw [← hHH, Heap.size_push]
  obtain ⟨D, hD⟩ : ∃ D : Nat, D = s2.heap.objs.size := ⟨_, rfl⟩
  obtain ⟨C, hC⟩ : ∃ C : Nat, C = HH.objs.size := ⟨_, rfl⟩
  rw [← hC] at hCe hns₁ hsb₁ ⊢
  rw [← hD] at hCe ⊢
  have hDC : D ≠ C := by omega
  have hCle : s2.heap.objs.size ≤ C := by omega
  have hfp : ∀ b ∈ fp, b < s2.heap.objs.size := fun b hb => by
    obtain ⟨o, e, _⟩ := T.obj 0 _ st2 b hb
    exact Heap.lt_size e
  have old : ∀ b o, s2.heap.get? b = some o → h₁.get? b = some o := fun b o e => hsb₁.extBut b o (Nat.ne_of_lt (Nat.lt_of_lt_of_le (Heap.lt_size e) hCle)) (Heap.get?_push_of_some _ (hHH ▸ Heap.get?_push_of_some _ e))
  have hacc : h₁.PlainList D #[] := ⟨_, hsb₁.extBut _ _ hDC (Heap.get?_push_of_some _ (by rw [← hHH, hD]; exact Heap.get?_push_size _ rfl))⟩
  have hns : h₁.Ns C fun _ => none := hns₁
  have I4 : Inv (cxC X scope cl C N fp s2 H2) [] (iniC js σ) H2 { s2 with heap := h₁, toks := s2.toks + ([] : List (Str × Value)).length } :=
    block_start hsc hNX ok I2 cl1 cl2 f2 hfp (by omega) old hns
  have st4 : tn 0 h₁ := T.keep 0 _ _ st2 fun b _ o e => old b o e
  have cOld : ∀ x c, X.env.cells.lookup x = some c → c < s2.heap.objs.size := fun x c e => by
    obtain ⟨v, z⟩ := I2.cell x c e
    exact z.lt
  have nDfp : D ∉ fp := fun z => absurd (hfp D z) (by rw [hD]; exact Nat.lt_irrefl _)
  -- the block's records
  have stat : ∀ {pl : List (Addr × Obj)} {H' : Hp}, (∀ b ∈ fp, H' b = none) → (∀ p ∈ pl, p.1 ∉ fp) → ∀ b ∈ fp, FpOk (cxC X scope cl C N fp s2 H2) pl H' b := fun {pl H'} hn hp b hb => by
    refine ⟨hn b hb, (I4.ok.exf b hb).1, I4.ok.exfs b hb, .inl hb, (I4.ok.exf b hb).2, fun p hpp z => ?_⟩
    exact hp p (by simpa [cxC] using hpp) (z ▸ hb)
  have fpD : ∀ {H' : Hp}, H' D = none → FpOk (cxC X scope cl C N fp s2 H2) [] H' D := fun {H'} hn => by
    refine ⟨hn, hDC, fun z => ?_, .inr (by show s2.heap.objs.size ≤ D; omega), fun x c e => ?_, fun p hpp => absurd (show p ∈ ([] : List (Addr × Obj)) from hpp) (by simp)⟩
    · obtain ⟨_, o, ho, _⟩ := I4.ok.funs.mem z
      exact absurd (show D < s2.heap.objs.size from Heap.lt_size ho) (by rw [hD]; exact Nat.lt_irrefl _)
    · exact Nat.ne_of_lt (by rw [hD]; exact cOld x c (cl1 x c e))
  refine (fun loop => codeAny_compStart_list (loop _ rfl) (T.self X.A 0 _ _ _ st4 (loop _ rfl))) (fun s₃ (hs₃ : s₃ = { s2 with heap := h₁, toks := s2.toks + ([] : List (Str × Value)).length }) => ?_)
  subst hs₃
  refine compLoop_gen (env := compEnvC scope cl C X.env) (fun n s' => ∃ i ys its H', Inv (cxC X scope cl C N fp s2 H2) [] (iniC js σ) H' s' ∧ tn i s'.heap ∧ (∀ b ∈ fp, H' b = none) ∧ s'.heap.PlainList D its ∧ Vals ys its.toList ∧ H' D = none ∧ W i n ys H')
    ?_ m0 ⟨0, [], #[], H2, I4, st4, fun b hb => (f2 b hb).1, hacc, .nil, I2.hok.fresh (by omega), w0⟩
  rintro n s5 ⟨i, ys, its, H5, I5, st5, fr5, ⟨k5, pl5⟩, vl5, hD5, w5⟩
  obtain ⟨hz, tr⟩ := turn i n ys H5 w5
  have hz' : its.size ≤ sizeLine := by
    have := vl5.length
    have e4 : its.toList.length = its.size := by simp
    omega
  have I5' : Inv (cxC X scope cl C N fp s2 H2) [(D, { cls := .type "list", data := .seq its k5 })] (iniC js σ) H5 s5 := I5.pins_of fun p hp => by
    have e : p = (D, { cls := .type "list", data := .seq its k5 }) := by simpa using hp
    subst e
    exact ⟨pl5, hD5, hDC, (fpD hD5).2.2.1, fun v z => by cases z⟩
  have np : ∀ p ∈ [(D, ({ cls := .type "list", data := .seq its k5 } : Obj))], p.1 ∉ fp := fun p hp => by
    have e : p = (D, { cls := .type "list", data := .seq its k5 }) := by simpa using hp
    subst e
    exact nDfp
  rcases tr with ⟨stop, qn⟩ | ⟨go, N', hN, step⟩
  · refine thn (T.done (cxC X scope cl C N fp s2 H2) rfl rfl rfl hc i _ s5 (iniC js σ) H5 (fun _ _ => False) I5' (stat fr5 np) st5 stop) fun r s6 ⟨hr, I6⟩ => ?_
    subst hr
    have pD := (I6.pin _ (List.mem_append_right _ List.mem_cons_self)).1
    have I6' : Inv (cxC X scope cl C N fp s2 H2) [] (iniC js σ) H5 s6 := I6.pins_of fun p hp => absurd hp (by simp)
    have I7 : Inv (cxC X scope cl C N fp s2 H2) [] (iniC js σ) (upd H5 D (.lst ys)) s6 := I6'.track (fpD hD5) ⟨hz, its.toList, k5, vl5, by simpa using pD⟩
    obtain ⟨m, hn, _⟩ := I7.loc
    have hfC : upd H5 D (.lst ys) C = none := I7.free
    refine fin D C m s6 (upd H5 D (.lst ys)) ?_ hn (I2.fpOk (by omega) hfC) (qn D hD5)
    exact I2.call' (ch := fp) I7.os I7.base I7.hok I7.bare fun b hb => ⟨(f2 b hb).2.2.2.1, (f2 b hb).2.1, (f2 b hb).2.2.2.2.1, (f2 b hb).2.2.2.2.2⟩
  · refine thn (T.item (cxC X scope cl C N fp s2 H2) rfl rfl rfl hc i _ s5 (iniC js σ) H5 (fun _ _ => False) I5' (stat fr5 np) st5 go) fun r s6 ⟨u, hr, h6⟩ => ?_
    subst hr
    refine thn h6 fun _ s7 ⟨x, H7, I7, r7, y7, st7, fr7⟩ => ?_
    have I7' := I7.pinned (stat fr7 np) (T.obj _ _ st7)
    have q7 := own σ x H7 _ (step x H7 y7)
    refine thn (hg C _ s7 (iniC js σ) H7 x u _ I7' r7 q7) fun _ s8 ⟨σ8, H8, I8, ag8, q8⟩ => ?_
    have keepD : ∀ {σ9 : St} {H9 : Hp} {s9 : Shared}, Inv (cxC X scope cl C N fp s2 H2) ([(D, { cls := .type "list", data := .seq its k5 })] ++ pinsAt fp s7.heap) σ9 H9 s9 → s9.heap.get? D = some { cls := .type "list", data := .seq its k5 } ∧ H9 D = none := fun I9 => by
      obtain ⟨a, b, _⟩ := I9.pin _ (List.mem_append_right _ (List.mem_append_left _ List.mem_cons_self))
      exact ⟨a, b⟩
    have keepF : ∀ {σ9 : St} {H9 : Hp} {s9 : Shared}, Inv (cxC X scope cl C N fp s2 H2) ([(D, { cls := .type "list", data := .seq its k5 })] ++ pinsAt fp s7.heap) σ9 H9 s9 → tn (i + 1) s9.heap ∧ ∀ b ∈ fp, H9 b = none := fun I9 => by
      refine ⟨T.keep _ _ _ st7 fun b hb o e => (I9.pin (b, o) (List.mem_append_right _ (List.mem_append_right _ (mem_pinsAt hb e)))).1, fun b hb => ?_⟩
      obtain ⟨o, e, d⟩ := T.obj _ _ st7 b hb
      exact (I9.pin (b, o) (List.mem_append_right _ (List.mem_append_right _ (mem_pinsAt hb e)))).2.1
    refine thn (ht C _ s8 σ8 H8 _ I8 q8) fun okb s9 ⟨H9, I9, q9⟩ => ?_
    have again : ∀ {H10 : Hp} {s10 : Shared}, Inv (cxC X scope cl C N fp s2 H2) ([(D, { cls := .type "list", data := .seq its k5 })] ++ pinsAt fp s7.heap) σ8 H10 s10 → Inv (cxC X scope cl C N fp s2 H2) [] (iniC js σ) H10 s10 := fun I => (I.pins_of fun p hp => absurd hp (by simp)).weak ag8.1.symm ag8.2
    cases okb with
    | false =>
      have q9' : N' ys H9 := q9
      obtain ⟨m', hm, w9⟩ := hN _ _ q9'
      show ∃ m, m < n ∧ _
      exact ⟨m', hm, i + 1, ys, its, H9, again I9, (keepF I9).1, (keepF I9).2, ⟨k5, (keepD I9).1⟩, vl5, (keepD I9).2, w9⟩
    | true =>
      have q9' : te σ8 H9 fun y H5 => N' (ys ++ [y]) H5 := q9
      show wpAny _ _ (eval elt (compEnvC scope cl C X.env)) _ _ s9
      refine thn (he C _ s9 σ8 H9 _ I9 q9') fun yv s10 ⟨y, H10, I10, r10, q10⟩ => ?_
      obtain ⟨m', hm, w10⟩ := hN _ _ q10
      refine wpAny_list_append_plain (hsz := hz') ⟨k5, (keepD I10).1⟩ fun h' hl' hs' => ?_
      refine ⟨m', hm, i + 1, ys ++ [y], its.push yv, H10, ?_, ?_, (keepF I10).2, hl', ?_, (keepD I10).2, w10⟩
      · obtain ⟨g0, g1, g2, g3, g4, g5⟩ := fpD (keepD I10).2
        exact (again I10).turned (t' := s10.toks) (fun b o hb e => (hs'.2 b hb).trans e) g0 g1 g3 g4 g5
      · exact T.keep _ _ _ (keepF I10).1 fun b hb o e => (hs'.2 b (fun z => nDfp (z ▸ hb))).trans e
      · rw [Array.toList_push]
        exact vl5.append (.cons r10 .nil)

theorem pe_comp (hi : PI X tg iter wi) (hg : ∀ cl C fp s H, PG (cxC X scope cl C N fp s H) tg g) (ht : ∀ cl C fp s H, PF (cxC X scope cl C N fp s H) ifs tt) (he : ∀ cl C fp s H, PE (cxC X scope cl C N fp s H) elt te)
    (own : OwnG js g) (ok : CompScope sc scope NX N js) (hsc : X.env.scope = sc := by rfl) (hNX : X.N = NX := by rfl) (hc : X.calm = true := by rfl) (hs : ∀ x, foldedSetIterable iter X.env x = pure x := by intro _; rfl) :
    PE X (.ListComp elt [⟨tg, iter, ifs, 0⟩] scope pos) (tComp wi js g tt te) := by
  intro pins s σ H Q I h
  rw [eval_ListComp]
  obtain ⟨cl, hclos, cl1, cl2⟩ := closure_ok (scope := scope) (env := X.env) fun y hy hf => I.ok.has y.1 (by
    have q := ok.free y hy hf
    rw [← hsc] at q
    exact q)
  refine wpAny_comprehension_free (use := none) rfl hs hclos ok.kind ok.names (thn (hi pins s σ H _ I h) fun xv s1 h1 => thn h1 fun itv s2 h2 => ?_)
  obtain ⟨it, fp, tn, J, H2, rfl, I2, T, st2, f2, W, ⟨m0, w0⟩, turn⟩ := h2
  refine comp_core (RR := fun acc C => compPost (model X.prog X.w) X.A X.xe none (EP X pins σ Q) acc C) hsc hNX ok hc I2 cl1 cl2 T st2 f2 (fun C => hg cl C fp s2 H2) (fun C => ht cl C fp s2 H2) (fun C => he cl C fp s2 H2) own w0 turn fun D C m s' Hf I' hn f q => ?_
  obtain ⟨g0, g1, g2, g3, g4, g5⟩ := f
  exact ⟨m, hn, fun h' hs' => ⟨.ref D, Hf, I'.turned (t' := s'.toks) (fun b o hb e => (hs'.2 b hb).trans e) g0 g1 g3 g4 g5, rfl, q⟩⟩
end
end L2

namespace L2
open PySem PySem.Spec PyProof.Rows

mutual
inductive Rep (K : PySem.W.Frag) (H : Hp) : V → PyData → Prop
  | non : Rep K H .non .none
  | bl (b : Bool) : Rep K H (.bl b) (.bool b)
  | int (i : Int) : Rep K H (.int i) (.int i)
  | str (x : Str) : Rep K H (.str x) (.str x)
  | lst {a : Addr} {xs : List V} {ds : List PyData} : SqL K H a xs → Reps K H xs ds → Rep K H (.ref a) (.list ds)
  | tup {a : Addr} {xs : List V} {ds : List PyData} : SqT K H a xs → Reps K H xs ds → Rep K H (.ref a) (.tuple ds)
inductive Reps (K : PySem.W.Frag) (H : Hp) : List V → List PyData → Prop
  | nil : Reps K H [] []
  | cons {x : V} {xs : List V} {d : PyData} {ds : List PyData} : Rep K H x d → Reps K H xs ds → Reps K H (x :: xs) (d :: ds)
end
section
variable {X : Cx} {pins : List (Addr × Obj)} {σ : St} {H H' : Hp} {s : Shared} {K : PySem.W.Frag}
mutual
theorem Rep.reads (I : Inv X pins σ H s) : ∀ {x : V} {d : PyData} {v : Value}, Rep X.K H x d → RelV x v → ∃ as, Reads s.heap v d as
  | _, _, _, .non, r => by cases (show _ = Value.none from r); exact ⟨_, .none⟩
  | _, _, _, .bl b, r => by cases (show _ = Value.bool b from r); exact ⟨_, .bool b⟩
  | _, _, _, .int i, r => by
    obtain ⟨t, rfl⟩ := (show ∃ t, _ = Value.int i t from r)
    exact ⟨_, .int i t⟩
  | _, _, _, .str x, r => by
    obtain ⟨t, rfl⟩ := (show ∃ t, _ = Value.str x t from r)
    exact ⟨_, .str x t⟩
  | _, _, _, .lst (a := a) h q, r => by
    cases (show _ = Value.ref a from r)
    obtain ⟨its, rv, ⟨o, n, e, c, _, d⟩, _⟩ := I.list h
    obtain ⟨as, z⟩ := Reps.reads I q rv
    exact ⟨_, .list e c d (by simpa using z)⟩
  | _, _, _, .tup (a := a) h q, r => by
    cases (show _ = Value.ref a from r)
    obtain ⟨its, rv, ⟨o, e, c, n, d⟩, _⟩ := I.tuple h
    obtain ⟨as, z⟩ := Reps.reads I q rv
    exact ⟨_, .tuple e c d (by simpa using z)⟩
theorem Reps.reads (I : Inv X pins σ H s) : ∀ {xs : List V} {ds : List PyData} {vs : List Value}, Reps X.K H xs ds → Vals xs vs → ∃ as, ReadsAll s.heap vs ds as
  | _, _, _, .nil, .nil => ⟨_, .nil⟩
  | _, _, _, .cons h q, .cons r rr => by
    obtain ⟨as, z⟩ := Rep.reads I h r
    obtain ⟨bs, y⟩ := Reps.reads I q rr
    exact ⟨_, .cons z y⟩
end
theorem Same.sqT (g : Same H H') {a : Addr} {xs : List V} (h : SqT K H a xs) : SqT K H' a xs := by
  rcases h with (h | ⟨o, h⟩) | h
  · exact .inl (.inl (g _ _ h))
  · exact .inl (.inr ⟨o, g _ _ h⟩)
  · exact .inr h
mutual
theorem Rep.same (g : Same H H') : ∀ {x : V} {d : PyData}, Rep K H x d → Rep K H' x d
  | _, _, .non => .non
  | _, _, .bl b => .bl b
  | _, _, .int i => .int i
  | _, _, .str x => .str x
  | _, _, .lst h q => .lst (g.seq h) (Reps.same g q)
  | _, _, .tup h q => .tup (g.sqT h) (Reps.same g q)
theorem Reps.same (g : Same H H') : ∀ {xs : List V} {ds : List PyData}, Reps K H xs ds → Reps K H' xs ds
  | _, _, .nil => .nil
  | _, _, .cons h q => .cons (Rep.same g h) (Reps.same g q)
end
theorem Reps.length : ∀ {xs : List V} {ds : List PyData}, Reps K H xs ds → xs.length = ds.length
  | _, _, .nil => rfl
  | _, _, .cons _ q => by rw [List.length_cons, List.length_cons, Reps.length q]
theorem Reps.append : ∀ {xs ys : List V} {ds es : List PyData}, Reps K H xs ds → Reps K H ys es → Reps K H (xs ++ ys) (ds ++ es)
  | _, _, _, _, .nil, q => q
  | _, _, _, _, .cons h p, q => .cons h (Reps.append p q)
theorem Reps.get : ∀ {xs : List V} {ds : List PyData} {i : Nat} {x : V}, Reps K H xs ds → xs[i]? = some x → ∃ d, ds[i]? = some d ∧ Rep K H x d
  | _, _, _, _, .nil, e => by simp at e
  | _, _, 0, _, .cons r _, e => by simp at e; subst e; exact ⟨_, rfl, r⟩
  | _, _, i + 1, x, .cons _ t, e => by
    obtain ⟨d, h1, h2⟩ := Reps.get (i := i) (x := x) t (by simpa using e)
    exact ⟨d, by simpa using h1, h2⟩
theorem Reps.strs : ∀ xs : List Str, Reps K H (xs.map V.str) (xs.map PyData.str)
  | [] => .nil
  | b :: r => .cons (.str b) (Reps.strs r)
noncomputable def rEqD (K : PySem.W.Frag) : R2 := fun x y H Q => ∃ d e, Rep K H x d ∧ Rep K H y e ∧ SeqAt.shaped d = true ∧ SeqAt.shaped e = true ∧ Q (.bl (PyData.eqv d e)) H
noncomputable def rNeD (K : PySem.W.Frag) : R2 := fun x y H Q => ∃ d e, Rep K H x d ∧ Rep K H y e ∧ SeqAt.shaped d = true ∧ SeqAt.shaped e = true ∧ Q (.bl (!PyData.eqv d e)) H
theorem op_eqD (hu : X.A.units + 64 < cLine) : OpR X (compareOp .Eq) (rEqD X.K) := by
  intro pins s σ H x y v u Q I rx ry h
  obtain ⟨d, e, h1, h2, z1, z2, q⟩ := h
  obtain ⟨as, ra⟩ := h1.reads I rx
  obtain ⟨bs, rb⟩ := h2.reads I ry
  exact eq_dataH ra rb z1 z2 hu (fin_bl I q rfl)
theorem op_neD (hu : X.A.units + 64 < cLine) : OpR X (compareOp .NotEq) (rNeD X.K) := by
  intro pins s σ H x y v u Q I rx ry h
  obtain ⟨d, e, h1, h2, z1, z2, q⟩ := h
  obtain ⟨as, ra⟩ := h1.reads I rx
  obtain ⟨bs, rb⟩ := h2.reads I ry
  exact ne_dataH ra rb z1 z2 hu (fin_bl I q rfl)
end

section
variable {X : Cx} {tg : Expr}
theorem op_le_str : OpR X (compareOp .LtE) (fun x y H Q => ∃ i j, x = .str i ∧ y = .str j ∧ Q (.bl (!decide (j.cps.toList < i.cps.toList))) H) := by
  intro pins s σ H x y v u Q I rx ry h
  obtain ⟨i, j, rfl, rfl, q⟩ := h
  obtain ⟨t, rfl⟩ := rx
  obtain ⟨t', rfl⟩ := ry
  exact PySem.P.le_str (fin_bl I q rfl)
noncomputable def Its (x : Str) : It := ⟨fun i _ => i < x.cps.size, fun i H v H' => H' = H ∧ ∃ c, x.cps[i]? = some c ∧ v = .str ⟨#[c]⟩, fun i _ => x.cps.size ≤ i⟩
theorem turn_str {P : Program} {w : World} {K : PySem.W.Frag} {tg : Expr} (it : Addr) (x : Str) (t : Tok) : Turn P w K tg (Its x) [it] it (fun i h => h.IsStrIter it (strIterType x) x t i) where
  mem := by simp
  obj := fun i h st b hb => by
    have e : b = it := by simpa using hb
    subst e
    obtain ⟨o, e, c, d⟩ := st
    exact ⟨o, e, fun v z => by rw [d] at z; cases z⟩
  keep := fun i h h' st k => by
    obtain ⟨o, e, c⟩ := st
    exact ⟨o, k it (by simp) o e, c⟩
  item := by
    intro X hP hw hK hc i pins s σ H E I hf st hg
    subst hP hw hK
    obtain ⟨f0, f1, f2, f3, f4, f5⟩ := hf it (by simp)
    have hlt : i < x.cps.size := hg
    have hi : x.cps[i]? = some x.cps[i] := Array.getElem?_eq_getElem hlt
    have fin : ∀ h', h'.IsStrIter it (strIterType x) x t (i + 1) → Heap.SameBut it s.heap h' → ∃ u, some (Value.str ⟨#[x.cps[i]]⟩ s.toks) = some u ∧
        wpAny (model X.prog X.w) X.A (letOwnedTupleGo tg (.ref it) u) (fun _ s2 => ∃ y H', Inv X pins σ H' s2 ∧ RelV y u ∧ (Its x).yld i H y H' ∧ s2.heap.IsStrIter it (strIterType x) x t (i + 1) ∧ ∀ b ∈ [it], H' b = none) E { s with heap := h', toks := s.toks + 1 } := fun h' st' sb => by
      have I1 : Inv X pins σ H { s with heap := h', toks := s.toks + 1 } := I.turned (fun b o hb e => (sb.2 b hb).trans e) f0 f1 f3 f4 f5
      obtain ⟨o, e, c, d⟩ := id st'
      refine ⟨_, rfl, go_of (s := { s with heap := h', toks := s.toks + 1 }) e c d ?_ ⟨.str ⟨#[x.cps[i]]⟩, H, I1, ⟨_, rfl⟩, ⟨rfl, _, hi, rfl⟩, st', fun b hb => (hf b hb).1⟩⟩
      unfold strIterType
      split <;> decide
    cases ha : x.cps.all (· < 128) with
    | true =>
      have e : strIterType x = "str_ascii_iterator" := by unfold strIterType; rw [if_pos ha]
      rw [e] at st
      refine wpAny_pyNext_ascii_item st hi fun h' st' sb => fin h' (by rw [e]; exact st') sb
    | false =>
      have e : strIterType x = "str_iterator" := by unfold strIterType; rw [if_neg (by rw [ha]; decide)]
      rw [e] at st
      refine wpAny_pyNext_wide_item st hi fun h' st' sb => fin h' (by rw [e]; exact st') sb
  done := by
    intro X hP hw hK hc i pins s σ H E I hf st hg
    subst hP hw hK
    obtain ⟨f0, f1, f2, f3, f4, f5⟩ := hf it (by simp)
    have hi : x.cps[i]? = none := by
      have : x.cps.size ≤ i := hg
      simp [this]
    cases ha : x.cps.all (· < 128) with
    | true =>
      have e : strIterType x = "str_ascii_iterator" := by unfold strIterType; rw [if_pos ha]
      rw [e] at st
      exact wpAny_pyNext_ascii_end (I.ok.hd hc) st hi fun h' eb => ⟨rfl, I.turned (t' := s.toks) (fun b o hb e => eb b o hb e) f0 f1 f3 f4 f5⟩
    | false =>
      have e : strIterType x = "str_iterator" := by unfold strIterType; rw [if_neg (by rw [ha]; decide)]
      rw [e] at st
      exact wpAny_pyNext_wide_end (I.ok.hd hc) st hi fun h' eb => ⟨rfl, I.turned (t' := s.toks) (fun b o hb e => eb b o hb e) f0 f1 f3 f4 f5⟩
  self := fun A i s Q E st h => by
    cases ha : x.cps.all (· < 128) with
    | true =>
      have e : strIterType x = "str_ascii_iterator" := by unfold strIterType; rw [if_pos ha]
      rw [e] at st
      exact wpAny_pyIter_striter_ascii st h
    | false =>
      have e : strIterType x = "str_iterator" := by unfold strIterType; rw [if_neg (by rw [ha]; decide)]
      rw [e] at st
      exact wpAny_pyIter_striter_wide st h
noncomputable def rSlS : V → Option Int → Option Int → Hp → VK → Prop := fun v lo hi H Q => ∃ x, v = .str x ∧ x.length ≤ sizeLine ∧ Q (.str (Txt.slice x lo hi)) H
theorem sl_str : SlR X rSlS := by
  intro pins s σ H x v vl vu lo hi sl Q I rx hs pl pu h
  obtain ⟨z, rfl, hz, q⟩ := h
  obtain ⟨t, rfl⟩ := rx
  refine ⟨"str", _, F.slot_str_getitem.lookup, typeIs_str _ _ _, ?_⟩
  have fin : ∀ t' k, EP X pins σ Q (.str (Txt.slice z lo hi) t') { s with toks := k } := fun t' k => ⟨.str _, H, I.tok k, ⟨t', rfl⟩, q⟩
  obtain ⟨o, ho, hc, hd⟩ := hs
  cases pl with
  | none => cases pu with
    | none => exact wpAny_getItem_str_slice (l := none) (u := none) (st := none) ⟨o, ho, hc, hd⟩ rfl (post_val_or_str ⟨Nat.le_trans (Txt.slice_le z _ _) hz, fin⟩)
    | int j tj => exact wpAny_getItem_str_slice (l := none) (u := some (j, tj)) (st := none) ⟨o, ho, hc, hd⟩ rfl (post_val_or_str ⟨Nat.le_trans (Txt.slice_le z _ _) hz, fin⟩)
  | int i ti => cases pu with
    | none => exact wpAny_getItem_str_slice (l := some (i, ti)) (u := none) (st := none) ⟨o, ho, hc, hd⟩ rfl (post_val_or_str ⟨Nat.le_trans (Txt.slice_le z _ _) hz, fin⟩)
    | int j tj => exact wpAny_getItem_str_slice (l := some (i, ti)) (u := some (j, tj)) (st := none) ⟨o, ho, hc, hd⟩ rfl (post_val_or_str ⟨Nat.le_trans (Txt.slice_le z _ _) hz, fin⟩)

theorem range_all {bs : List Bool} : (List.range bs.length).all (fun i => bs.getD i false) = bs.all id := by
  rw [Bool.eq_iff_iff, List.all_eq_true, List.all_eq_true]
  constructor
  · intro h b hb
    obtain ⟨i, hi, e⟩ := List.getElem_of_mem hb
    have := h i (List.mem_range.mpr hi)
    rw [List.getD_eq_getElem?_getD, List.getElem?_eq_getElem hi] at this
    rw [← e]
    exact this
  · intro h i hi
    have hi' := List.mem_range.mp hi
    rw [List.getD_eq_getElem?_getD, List.getElem?_eq_getElem hi']
    exact h _ (List.getElem_mem hi')
theorem call_all (hc : X.calm = true) : CallR X (.builtin "all") (fun xs H Q => ∃ (a : Addr) (bs : List Bool), xs = [.ref a] ∧ SqL X.K H a (bs.map V.bl) ∧ Q (.bl (bs.all id)) H) := by
  intro pins s σ H xs us Q I r h
  obtain ⟨a, bs, rfl, ha, q⟩ := h
  obtain ⟨u, rfl, ru⟩ := vals1 r
  cases ru
  obtain ⟨its, rv, p, hz⟩ := I.list ha
  have hlt : a < s.heap.objs.size := by
    obtain ⟨o, n, e, _⟩ := id p
    exact Heap.lt_size e
  have hl : its.length = bs.length := by rw [← rv.length, List.length_map]
  refine call_all_walk (wpAny_pyIter_list p.isList ?_)
  refine ⟨s.heap.objs.size, [s.heap.objs.size, a], [s.heap.objs.size], its.toArray.size, _, _, fun i => bs.getD i false, rfl, Walks.list (A := X.A.in1) (I.ok.hd hc) s.heap.objs.size a (Nat.ne_of_lt hlt) its.toArray, ⟨⟨_, Heap.get?_push_size _ rfl, rfl, rfl⟩, p.isList.at fun o e => Heap.get?_push_of_some _ e⟩, ?_, fun h' tk hk => ?_⟩
  · intro i v s' Q' E' hv hq
    have hv' : its[i]? = some v := by simpa using hv
    have hi : i < its.length := (List.getElem?_eq_some_iff.mp hv').1
    have hb : (bs.map V.bl)[i]? = some (.bl (bs.getD i false)) := by
      rw [List.getElem?_map, List.getD_eq_getElem?_getD, List.getElem?_eq_getElem (by omega)]
      rfl
    obtain ⟨u, hu, ru⟩ := rv.get hb
    rw [hv'] at hu
    cases hu
    cases (show v = Value.bool _ from ru)
    exact wpAny_truthy_bool hq
  · have e : its.toArray.size = bs.length := by rw [List.size_toArray]; exact hl
    rw [e, range_all]
    refine ⟨.bl _, H, ?_, rfl, q⟩
    have I1 : Inv X pins σ H { s with heap := s.heap.push { cls := .type "list_iterator", data := .fields #[.ref a, .int 0 0] } } := I.kept (t' := s.toks) fun b o e => Heap.get?_push_of_some _ e
    have f := I.fpOk (Nat.le_refl _) (I.hok.fresh (Nat.le_refl _))
    exact I1.turned (fun b o hb e => hk b o (by simpa using hb) e) f.1 f.2.1 f.2.2.2.1 f.2.2.2.2.1 f.2.2.2.2.2

theorem strs_of : ∀ {ys : List Str} {its : List Value}, Vals (ys.map V.str) its → StrsAre its ys
  | [], _, .nil => .nil
  | y :: r, _, .cons h t => by
    obtain ⟨k, rfl⟩ := h
    exact .cons _ k (strs_of t)
noncomputable def rJoin (K : PySem.W.Frag) : V → List V → Hp → VK → Prop := fun x xs H Q => ∃ (z : Str) (a : Addr) (ys : List Str), x = .str z ∧ xs = [.ref a] ∧ SqL K H a (ys.map V.str) ∧ (ys.map (·.length)).sum + ys.length * z.length ≤ 16777216 ∧ Q (.str (Txt.join z ys)) H
theorem mt_join : MtR X "str.join" (rJoin X.K) := by
  intro pins s σ H x xs v us Q I rx r h
  obtain ⟨z, a, ys, rfl, rfl, ha, hk, q⟩ := h
  obtain ⟨t, rfl⟩ := rx
  obtain ⟨u, rfl, ru⟩ := vals1 r
  cases ru
  obtain ⟨its, rv, p, hz⟩ := I.list ha
  exact join_list p.isList (by simpa using strs_of rv) hk fun t' k => ⟨.str _, H, I.tok k, ⟨t', rfl⟩, q⟩

noncomputable def isi (t T : String) : Bool := t == T || (t == "bool" && T == "int")
theorem kit_tab {K : PySem.W.Frag} {t T : String} (h1 : t ∈ ["NoneType", "bool", "int", "str", "list", "tuple", "dict"]) (h2 : T ∈ ["bool", "int", "str", "list", "tuple"]) : PySem.W.kitOne K (.type t) (.type T) = some (isi t T) := by
  simp only [List.mem_cons, List.not_mem_nil, or_false] at h1 h2
  rcases h1 with rfl | rfl | rfl | rfl | rfl | rfl | rfl <;> rcases h2 with rfl | rfl | rfl | rfl | rfl <;> kernel_rfl
end

theorem iteP {c : Bool} {A B : Prop} (e : c = true) (h : A) : if c = true then A else B := by rw [if_pos e]; exact h
theorem iteN {c : Bool} {A B : Prop} (e : c = false) (h : B) : if c = true then A else B := by rw [if_neg (by rw [e]; decide)]; exact h
theorem bt_len : bootBuiltins "len" = some (.builtin "len") := by decide +kernel
theorem bt_max : bootBuiltins "max" = some (.builtin "max") := by decide +kernel
theorem bt_all : bootBuiltins "all" = some (.builtin "all") := by decide +kernel
theorem bt_isinstance : bootBuiltins "isinstance" = some (.builtin "isinstance") := by decide +kernel
theorem bt_str : bootBuiltins "str" = some (.type "str") := by decide +kernel
theorem bt_int : bootBuiltins "int" = some (.type "int") := by decide +kernel
theorem bt_bool : bootBuiltins "bool" = some (.type "bool") := by decide +kernel
theorem bt_list : bootBuiltins "list" = some (.type "list") := by decide +kernel
theorem bt_tuple : bootBuiltins "tuple" = some (.type "tuple") := by decide +kernel
theorem bt_set : bootBuiltins "set" = some (.type "set") := by decide +kernel
section
variable {X : Cx} {x : Str} {pos : Pos} {tg : Expr}
theorem pe_ty {T : String} (hm : X.mg x = none) (hv : bootBuiltins x = some (.type T)) (hg : Gl X x := by rfl) (hn : x ≠ "__name__" := by decide) (hd : (x == ("__debug__" : Str)) = false := by decide) : PE X (.Name x pos) (tC (.ty T)) := pe_bltn hg hm hv rfl hn hd
theorem pe_g {v : V} (h : ∃ u, X.mg x = some u ∧ RelV v u) (hg : Gl X x := by rfl) (hd : (x == ("__debug__" : Str)) = false := by decide) : PE X (.Name x pos) (tC v) := by
  obtain ⟨u, m, r⟩ := h
  exact pe_glob hg m r hd
noncomputable def rAddS : R2 := fun x y H Q => ∃ i j, x = .str i ∧ y = .str j ∧ i.length + j.length ≤ sizeLine ∧ Q (.str (i ++ j)) H
noncomputable def rPlus : R2 := fun x y H Q => rI0 (fun i j => .int (i + j)) x y H Q ∨ (rAddS x y H Q ∨ rCat x y H Q)
theorem op_plus : OpR X (binaryOp .Add) rPlus := op_add.or (op_add_str.or op_cat)
noncomputable def iSeq (K : PySem.W.Frag) (tl : TE) : TI := fun σ H R => tl σ H fun x H1 => (∃ a, x = .ref a ∧ (∃ xs, SqL K H1 a xs) ∧ R (Itl K a) H1) ∨ (∃ a, x = .ref a ∧ (∃ xs, SqT K H1 a xs) ∧ R (Itt K a) H1) ∨ ∃ z, x = .str z ∧ R (Its z) H1
theorem pi_seq {l : Expr} {tl : TE} (hl : PE X l tl) : PI X tg l (iSeq X.K tl) := by
  intro pins s σ H R I h
  refine thn (hl pins s σ H _ I h) fun v s1 ⟨x, H1, I1, r1, q1⟩ => ?_
  have fr : ∀ b ∈ [s1.heap.objs.size], FpOk X pins H1 b := fun b hb => by
    have e : b = s1.heap.objs.size := by simpa using hb
    subst e
    exact I1.fpOk (Nat.le_refl _) (I1.hok.fresh (Nat.le_refl _))
  rcases q1 with ⟨a, e, ⟨xs, hq⟩, q⟩ | ⟨a, e, ⟨xs, hq⟩, q⟩ | ⟨z, e, q⟩
  · subst e
    cases r1
    obtain ⟨its, rv, p, hz⟩ := I1.list hq
    refine wpAny_pyIter_list p.isList ?_
    exact ⟨s1.heap.objs.size, [s1.heap.objs.size], _, _, H1, rfl, I1.kept (t' := s1.toks) fun b o e => Heap.get?_push_of_some _ e, turn_list a _, ⟨_, Heap.get?_push_size _ rfl, rfl, rfl⟩, fr, q⟩
  · subst e
    cases r1
    obtain ⟨its, rv, p, hz⟩ := I1.tuple hq
    refine wpAny_pyIter_tuple (show s1.heap.IsTuple a its.toArray from p) ?_
    exact ⟨s1.heap.objs.size, [s1.heap.objs.size], _, _, H1, rfl, I1.kept (t' := s1.toks) fun b o e => Heap.get?_push_of_some _ e, turn_tuple a _, ⟨_, Heap.get?_push_size _ rfl, rfl, rfl⟩, fr, q⟩
  · subst e
    obtain ⟨t, rfl⟩ := r1
    refine wpAny_pyIter_strU ?_
    exact ⟨s1.heap.objs.size, [s1.heap.objs.size], _, _, H1, rfl, I1.kept (t' := s1.toks) fun b o e => Heap.get?_push_of_some _ e, turn_str _ z t, ⟨_, Heap.get?_push_size _ rfl, rfl, rfl⟩, fr, q⟩
noncomputable def rSlA (K : PySem.W.Frag) : V → Option Int → Option Int → Hp → VK → Prop := fun x lo hi H Q => rSlL K x lo hi H Q ∨ (rSlS x lo hi H Q ∨ rSlT K x lo hi H Q)
theorem sl_any : SlR X (rSlA X.K) := sl_list.or (sl_str.or sl_tup)
end

section
variable {X : Cx} {K : PySem.W.Frag} {tg : Expr}
theorem ix_k (h : X.K = K) : IxR X (rIx K) := h ▸ ix_seq
theorem sl_k (h : X.K = K) : SlR X (rSlA K) := h ▸ sl_any
theorem len_k (h : X.K = K) : CallR X (.builtin "len") (fun xs H Q => ∃ x n, xs = [x] ∧ LenV K x H n ∧ Q (.int n) H) := h ▸ call_len
theorem all_k (h : X.K = K) (hc : X.calm = true) : CallR X (.builtin "all") (fun xs H Q => ∃ (a : Addr) (bs : List Bool), xs = [.ref a] ∧ SqL K H a (bs.map V.bl) ∧ Q (.bl (bs.all id)) H) := h ▸ call_all hc
theorem join_k (h : X.K = K) : MtR X "str.join" (rJoin K) := h ▸ mt_join
theorem eqD_k (h : X.K = K) (hu : X.A.units + 64 < cLine) : OpR X (compareOp .Eq) (rEqD K) := h ▸ op_eqD hu
theorem neD_k (h : X.K = K) (hu : X.A.units + 64 < cLine) : OpR X (compareOp .NotEq) (rNeD K) := h ▸ op_neD hu
theorem pi_k {l : Expr} {tl : TE} (h : X.K = K) (hl : PE X l tl) : PI X tg l (iSeq K tl) := h ▸ pi_seq hl
theorem tupof_k (h : X.K = K) : CallR X (.type "tuple") (fun xs H Q => ∃ p ys, xs = [.ref p] ∧ ((SqL K H p ys ∧ ∀ l, H l = none → Q (.ref l) (upd H l (.tup ys))) ∨ (SqT K H p ys ∧ Q (.ref p) H))) := h ▸ call_tuple_of
theorem pgt_k {es : List Expr} {k : Nat} {t : TGs} {n : Nat} {pos : Pos} (hK : X.K = K) (hc : X.calm = true) (h : PGs X es t) (hn : (assignEach es X.env).length = n := by rfl) (hst : (assignEach es X.env).findIdx? (·.1) = none := by rfl) : PG X (.Tuple es k pos) (gTup K n t) := hK ▸ pg_tup hc h hn hst
theorem bm_k {o e : Expr} {es : List Expr} {to : TE} {t : TA} {name : Str} {apos cpos : Pos} {T id : String} {r : V → List V → Hp → VK → Prop} (hK : X.K = K) (pa : PlainAttrs T) (slot : Slot T name id) (hty : typeOf (.builtin id) = pure (.type "method_descriptor")) (hm : MtR X id r) (ho : PE X o to) (ha : PA X (e :: es) t)
    (hbase : attributeBase o name X.env (eval o X.env) = eval o X.env := by rfl)
    (hfew : ((backTo cpos (starEach (e :: es) X.env)).all (fun x => !x.1) && (backToKw cpos (keywordEach [] X.env)).all (fun x => x.1.isSome)
      && decide ((e :: es).length + ([] : List Keyword).length + (if ([] : List Keyword).isEmpty then 0 else 1) < 30)) = true := by rfl)
    (hline : (apos.endLine == cpos.line) = true := by rfl) (hs : starEach (e :: es) X.env = (false, eval e X.env) :: starEach es X.env := by rfl) (hplain : (backTo cpos (starEach es X.env)).any (·.1) = false := by rfl) :
    PE X (.Call (.Attribute o name apos) (e :: es) [] cpos) (tBM K T r to t) := hK ▸ pe_bm pa slot hty hm ho ha hbase hfew hline hs hplain
theorem bm0_k {o : Expr} {to : TE} {name : Str} {apos cpos : Pos} {T id : String} {r : V → List V → Hp → VK → Prop} (hK : X.K = K) (pa : PlainAttrs T) (slot : Slot T name id) (hty : typeOf (.builtin id) = pure (.type "method_descriptor")) (hm : MtR X id r) (ho : PE X o to)
    (hbase : attributeBase o name X.env (eval o X.env) = eval o X.env := by rfl) (hline : (apos.endLine == cpos.line) = true := by rfl) : PE X (.Call (.Attribute o name apos) [] [] cpos) (tBM0 K T r to) := hK ▸ pe_bm0 pa slot hty hm ho hbase hline
end

structure Def (P : Program) (w : World) (K : PySem.W.Frag) (mg : Str → Option Value) (base : Heap) (k : Nat) (x : Str) (ps : List Str) (sp : Sp) : Prop where
  ex : ∃ (f : Addr) (fd : FuncData), FnOk P w K mg base CX0 k f fd ps sp ∧ Binds K fd ps [] ∧ PySem.W.keepIn K (.ref f) = true ∧ mg x = some (.ref f)
theorem pe_def {X : Cx} {k : Nat} {x : Str} {ps : List Str} {sp : Sp} {e : Expr} {es : List Expr} {t : TA} {p pos : Pos} (D : Def X.prog X.w X.K X.mg X.base k x ps sp) (hr : Room k X.A) (ha : PA X (e :: es) t) (hg : Gl X x := by rfl)
    (hdb : (x == ("__debug__" : Str)) = false := by decide) (he : starEach (e :: es) X.env = (false, eval e X.env) :: starEach es X.env := by rfl) (hpl : (backTo pos (starEach es X.env)).any (·.1) = false := by rfl) :
    PE X (.Call (.Name x p) (e :: es) [] pos) (tCall sp [] E0 t) := by
  obtain ⟨f, fd, F, B, kp, m⟩ := D.ex
  exact pe_call F hr hg m kp B .nil pass0 ha hdb he hpl
end L2

namespace L2
open PySem PySem.Spec PyProof.Rows

theorem ObjOk.there {P : Program} {w : World} {H : Hp} {h : Heap} {a : Addr} {o : HO} (x : ObjOk P w H h a o) : ∃ ob, h.get? a = some ob := by
  cases o with
  | lst xs => obtain ⟨_, _, _, _, e⟩ := x; exact ⟨_, e⟩
  | tup xs => obtain ⟨_, _, _, o, e, _⟩ := x; exact ⟨_, e⟩
  | dK kvs => obtain ⟨_, _, _, _, o, _, _, e, _⟩ := x; exact ⟨_, e⟩
  | dT kvs => obtain ⟨_, _, _, _, o, _, _, e, _⟩ := x; exact ⟨_, e⟩
  | set S n => obtain ⟨o, _, _, _, e, _⟩ := x; exact ⟨_, e⟩
  | ins C dx fs => obtain ⟨_, _, _, e, _⟩ := x; exact ⟨_, e⟩
  | own y => exact x
  | xd fs => obtain ⟨_, ⟨_, _, _, e, _⟩, _⟩ := x; exact ⟨_, e⟩
  | rng lo hi => obtain ⟨_, _, _, e⟩ := x; exact ⟨_, e⟩
  | frz ob u => obtain ⟨e, _⟩ := x; exact ⟨_, e⟩
  | tbl ps => exact ⟨_, (show h.get? a = some _ from x)⟩
  | met f y => exact ⟨_, (show h.get? a = some _ from x)⟩
  | ext φ => obtain ⟨_, e, _⟩ := x; exact e

structure Fly (P : Program) (w : World) (outer : List Env) (H : Hp) (s : Shared) (H' : Hp) (ea : Addr) (C : Value) (s' : Shared) : Prop where
  os : s'.os = s.os
  bare : AllBare s'.gens
  un : Un (frs outer) [] H H' s.heap s'.heap
  hok : HOk P w H' s'.heap
  frees : ∀ b ∈ frs outer, H' b = none
  fly : ∃ B a0, Heap.FlyingW B outer ea C a0 s'.heap ∧ ∀ b o, s'.heap.get? b = some o → (H' b ≠ none ∨ ∃ o0, s.heap.get? b = some o0) → b ∉ frs outer → B.get? b = some o
noncomputable abbrev CX1 (P : Program) (w : World) : CXT := fun outer H s E e s' => ∃ ea C H', e = .ref ea ∧ Fly P w outer H s H' ea C s' ∧ E C none H'

section
variable {P : Program} {w : World} {outer l2 : List Env} {H H' : Hp} {s s' : Shared} {ea : Addr} {C : Value} {h' : Heap}
end

section
variable {P : Program} {w : World} {K : PySem.W.Frag} {mg : Str → Option Value} {base : Heap} {N : List Str} {qual : Str} {scope : Scope} {f : Addr} {cd : Value} {A : Around} {outer : List Env} {s₀ : Shared} {H₀ : Hp} {E : XK}
theorem frs_cons {env : Env} {L : Addr} (h : env.frame = some L) (outer : List Env) : frs (env :: outer) = L :: frs outer := by
  unfold frs
  rw [List.filterMap_cons, h]
end
end L2
namespace L2
open PySem PySem.Spec PyProof.Rows

section
open PySem.Builtin PySem.Builtin.ObjectAttr PySem.Builtin.Getset_descriptor
variable {prog : Program} {w : World} {A : Around} {K : PySem.W.Frag} {x D : Addr}
structure XK1 (K : PySem.W.Frag) (D : Addr) : Prop where
  ga : PySem.W.findIn K (.ref D) "__getattribute__" = some (some (.builtin "BaseException.__getattribute__"))
  gt : PySem.W.findIn K (.ref D) "__getattr__" = some none
  be : PySem.W.mroIn K D (.type "BaseException") = some true
  cl : (PySem.W.clsIn K D).isSome = true
  fd : PySem.W.findIn K (.ref D) "__class__" = some (some (.builtin "object.__class__"))
  sp : PySem.W.specialIn K (.builtin "object.__class__") "__get__" = some (some (.builtin "getset_descriptor.__get__"))
  tk : PySem.W.takesIn K (.builtin "object.__class__") = some true
  ob : PySem.W.mroIn K D (.type "object") = some true
end

end L2
namespace L2
open PySem PySem.Spec PyProof.Rows

abbrev bmVE : List Value := [.type "ValueError", .type "Exception", .type "BaseException", .type "object"]
noncomputable def XOwn (K : PySem.W.Frag) (C : Addr) : Prop := ∀ h : Heap, K.In h → ∃ bm N nm q bs hdct sn sub ab col dd k0 k1 k2 k3 k5 mN,
  h.get? C = some (excClassObj nm q C N bs bm hdct sn sub ab col dd k0 k1 k2 k3 k5 "ValueError.__new__") ∧ h.Ns N mN ∧ mN "__init__" = none ∧ OwnTail h bmVE bm
noncomputable def Raises (X : Cx) (C : Value) (R : Hp → Prop) : Prop := ∀ (pins : List (Addr × Obj)) (σ : St) (H : Hp) (s : Shared) (h' : Heap) (e : Addr) (vs : List Value),
  Inv X pins σ H s → Heap.MadeExcOf s.heap h' e C vs → R H → X.xe (.ref e) { s with heap := h' }
noncomputable def sRaise (t : TA) (R : Hp → Prop) : TS := fun _ σ H => t σ H fun vs H1 => vs.length ≤ sizeLine ∧ R H1
theorem ps_raise {X : Cx} {x : Str} {C : Addr} {R : Hp → Prop} {e : Expr} {es : List Expr} {t : TA} {np cpos pos : Pos} (hr : Raises X (.ref C) R) (O : XOwn X.K C) (hm : X.mg x = some (.ref C)) (ha : PA X (e :: es) t) (hc : X.calm = true := by rfl)
    (hg : Gl X x := by rfl) (hdb : (x == ("__debug__" : Str)) = false := by decide) (he : starEach (e :: es) X.env = (false, eval e X.env) :: starEach es X.env := by rfl) (hpl : (backTo cpos (starEach es X.env)).any (·.1) = false := by rfl) :
    PS X (.Raise (some (.Call (.Name x np) (e :: es) [] cpos)) none pos) (sRaise t R) := by
  intro pins s σ H D I h
  obtain ⟨bm, N, nm, q, bs, hdct, sn, sub, ab, col, dd, k0, k1, k2, k3, k5, mN, hC, hN, hni, T⟩ := O X.base I.mod.kin
  refine wpAny_Raise_call_subT (C := C) (nm := nm) (q := q) (N := N) (bs := bs) (bm := bm) (hdct := hdct) (sn := sn) (sub := sub) (ab := ab) (col := col) (dd := dd) (k0 := k0) (k1 := k1) (k2 := k2) (k3 := k3) (k5 := k5) F.excBase_ValueError (mN := mN) (T.hasType F.excBase_ValueError.hasBase) (I.ok.hd hc)
    (by rw [he]; show (false || (backTo cpos (starEach es X.env)).any (·.1)) = false; rw [hpl]; rfl) hni (ld_glob I hg hm ⟨rfl, ?_⟩ hdb)
  have h2 := ha cpos pins s σ H _ I h
  rw [he] at h2 ⊢
  refine Calls.evalArgs_plain (thn h2 fun vs s2 ⟨ws, H2, I2, r, z, q2⟩ => ⟨rfl, by rw [← r.length]; exact z, I2.bk _ _ hC, hN.keeps I2.bk, T.keeps I2.bk, fun h' e' m => hr pins σ H2 s2 h' e' _ I2 m q2⟩)

section
variable {P : Program} {w : World} {K : PySem.W.Frag} {mg : Str → Option Value} {base : Heap} {N : List Str} {qual : Str} {scope : Scope} {f : Addr} {cd : Value} {A : Around} {outer : List Env} {s₀ : Shared} {H₀ : Hp} {E : XK}
theorem raises1 {C : Value} : Raises (cxOf (CX1 P w) P w K mg base N qual scope f cd A outer s₀ H₀ E) C (fun H => E C none H) := by
  intro pins σ H s h' e vs I m q
  show wpAny (model P w) (A.deeper (envOfC qual scope s₀.heap.objs.size f cd)) (leaving (envOfC qual scope s₀.heap.objs.size f cd) (.ref e)) (fun _ s'' => CX1 P w outer H₀ s₀ E (.ref e) s'') (fun e' s'' => CX1 P w outer H₀ s₀ E e' s'') { s with heap := h' }
  have fc : frs (envOfC qual scope s₀.heap.objs.size f cd :: outer) = s₀.heap.objs.size :: frs outer := frs_cons rfl outer
  have U1 : Un (frs outer) [] H₀ H s₀.heap s.heap := I.base
  have stk : s.heap.FunFrames base (envOfC qual scope s₀.heap.objs.size f cd :: outer) := I.stack
  have fre : ∀ b ∈ frs (envOfC qual scope s₀.heap.objs.size f cd :: outer), H b = none := I.stkFree
  have hin : ∀ env ∈ (envOfC qual scope s₀.heap.objs.size f cd :: outer), ∀ b, env.frame = some b → b ∈ frs (envOfC qual scope s₀.heap.objs.size f cd :: outer) := fun env he b hb => List.mem_filterMap.mpr ⟨env, he, hb⟩
  refine wpAny_leaves_madeW (base := PySem.W.hideAll s.heap (frs (envOfC qual scope s₀.heap.objs.size f cd :: outer))) (h := s.heap) I.ok.frames rfl (fun b o z => PySem.W.of_hideAll _ z) (PySem.W.funFrames_hide stk hin) m fun h2 t fl _ _ sm => ?_
  refine ⟨e, C, H, rfl, ?_, q⟩
  have nL : ∀ b o, s₀.heap.get? b = some o → b ≠ s₀.heap.objs.size := fun b o z => Nat.ne_of_lt (Heap.lt_size z)
  have nf : ∀ b o, s₀.heap.get? b = some o → b ∉ frs outer → b ∉ frs (envOfC qual scope s₀.heap.objs.size f cd :: outer) := fun b o z hb y => by
    rw [fc] at y
    rcases List.mem_cons.mp y with y | y
    · exact nL b o z y
    · exact hb y
  have nt : ∀ c v, H c = some v → c ∉ frs (envOfC qual scope s₀.heap.objs.size f cd :: outer) := fun c v z y => by
    rw [fre c y] at z; cases z
  have stay : ∀ b o, s.heap.get? b = some o → b ∉ frs (envOfC qual scope s₀.heap.objs.size f cd :: outer) → h2.get? b = some o := fun b o z n => fl.1 b o (PySem.W.hideAll_get _ z n)
  have hd : ∀ b ∈ frs outer, ∀ o, s.heap.get? b = some o → ∀ vs, o.data ≠ .fields vs := fun b hb o z vs => by
    obtain ⟨_, o1, e1, d1⟩ := stk.mem (b := b) (show b ∈ frs (envOfC qual scope s₀.heap.objs.size f cd :: outer) by rw [fc]; exact List.mem_cons_of_mem _ hb)
    rw [z] at e1
    cases e1
    exact d1 vs
  have slots : ∀ b ∈ frs outer, ∀ o, s.heap.get? b = some o → ∃ sl, h2.get? b = some { o with slots := sl } := fun b hb o z => sm b o (m.keeps b o z) (hd b hb o z)
  refine ⟨I.os, I.bare, ⟨fun b o z n hb hx => ?_, fun b o z n hb hx => ?_, U1.free, fun b o z hx => ?_, U1.tups, U1.frzs, U1.tbls⟩, fun b u z => ?_, fun b hb => fre b (by rw [fc]; exact List.mem_cons_of_mem _ hb), _, _, fl, fun b o z y n => ?_⟩
  · exact stay b o (U1.keep b o z n hb hx) (nf b o z hb)
  · obtain ⟨sl, e1⟩ := U1.slot b o z n hb hx
    obtain ⟨sl2, e2⟩ := slots b hb _ e1
    exact ⟨sl2, e2⟩
  · obtain ⟨o1, e1⟩ := U1.there b o z hx
    by_cases hb : b ∈ frs outer
    · obtain ⟨sl2, e2⟩ := slots b hb _ e1
      exact ⟨_, e2⟩
    · exact ⟨o1, stay b o1 e1 (nf b o z hb)⟩
  · refine (I.hok b u z).stay (fun c v hc y => ?_) (fun _ y => y) fun _ _ y => y
    rcases hc with rfl | hc
    · exact stay c v y (nt c _ z)
    · exact stay c v y (nt c _ hc)
  · have e0 : ∃ o1, s.heap.get? b = some o1 ∧ b ∉ frs (envOfC qual scope s₀.heap.objs.size f cd :: outer) := by
      rcases y with y | ⟨o0, y⟩
      · cases q2 : H b with
        | none => exact absurd q2 y
        | some u =>
          obtain ⟨o1, e1⟩ := (I.hok b u q2).there
          exact ⟨o1, e1, nt b u q2⟩
      · obtain ⟨o1, e1⟩ := U1.there b o0 y (by simp)
        exact ⟨o1, e1, nf b o0 y n⟩
    obtain ⟨o1, e1, n1⟩ := e0
    have e2 := stay b o1 e1 n1
    have z' : h2.get? b = some o := z
    rw [z'] at e2
    cases e2
    exact PySem.W.hideAll_get _ e1 n1
theorem Fun.ok1 {x qual : Str} {st : Stmt} {f : Addr} {fd : FuncData} {N ps : List Str} {k : Nat} {sp : Sp} (F : Fun K x qual st f fd) (S : FnScope N ps (defScope st)) (len : ∀ vs H Q E, sp vs H Q E → vs.length = ps.length)
    (hbody : ∀ (cdv : Value) (A : Around) (outer : List Env) (s : Shared) (H : Hp) (vs : List V) (Q : VK) (E : XK), Room k (A.deeper (envOfC qual (defScope st) s.heap.objs.size f cdv)) → sp vs H Q E →
      ∃ t, PSs (cxOf (CX1 P w) P w K mg base N qual (defScope st) f cdv A outer s H E) (defBody st) t ∧ t { nx := fun _ H' => Q .non H', rt := Q } (start N vs) H) : FnOk P w K mg base (CX1 P w) (k + 1) f fd ps sp := by
  obtain ⟨oc, od, kV, doc, pm, an, cdv, ct, osl, rfl, lk, hcd⟩ := F.ex
  exact fn_of lk hcd S len fun A outer s H vs Q E hr hsp => hbody cdv A outer s H vs Q E hr hsp
end
end L2
namespace L2
open PySem PySem.Spec PyProof.Rows

section
variable {X : Cx} {pins ps2 : List (Addr × Obj)} {σ : St} {H : Hp} {s : Shared}
theorem Inv.trackN {D : Addr} {o : HO} (I : Inv X pins σ H s) (h0 : H D = none) (hL : D ≠ X.env.locals) (hs : X.s₀.heap.get? D = none) (hc : ∀ x c, X.env.cells.lookup x = some c → c ≠ D) (hp : ∀ p ∈ X.pn ++ pins, p.1 ≠ D)
    (new : ObjOk X.prog X.w (upd H D o) s.heap D o) : Inv X pins σ (upd H D o) s := by
  have nD : ∀ b u, H b = some u → b ≠ D := fun b u q => ne_of_none q h0
  refine ⟨I.ok, I.os, I.bare, ⟨I.base.keep, I.base.slot, fun b ob e n hx => ?_, I.base.there, fun b xs e => ?_, fun b ob u e => ?_, fun b ps e => ?_⟩, I.loc, I.cell, by rw [upd_ne (Ne.symm hL)]; exact I.free, fun x c e => by rw [upd_ne (hc x c e)]; exact I.freeC x c e, fun p hpp => ?_, fun b u e => ?_, I.len⟩
  · rw [upd_ne (fun z => by rw [z, hs] at e; cases e)]
    exact I.base.free b ob e n hx
  · have q := I.base.tups b xs e
    rw [upd_ne (nD _ _ q)]; exact q
  · have q := I.base.frzs b ob u e
    rw [upd_ne (nD _ _ q)]; exact q
  · obtain ⟨mo, q⟩ := I.base.tbls b ps e
    exact ⟨mo, by rw [upd_ne (nD _ _ q)]; exact q⟩
  · obtain ⟨e, n, r⟩ := I.pin p hpp
    exact ⟨e, by rw [upd_ne (hp p hpp)]; exact n, r⟩
  · by_cases hb : b = D
    · subst hb; rw [upd_same] at e; cases e; exact new
    · rw [upd_ne hb] at e
      exact (I.hok b u e).stay (fun c v _ q => q) (fun c q => by rw [upd_ne (nD _ _ q)]; exact q) fun c xs q => by rw [upd_ne (nD _ _ q)]; exact q
end

end L2

namespace L2
open PySem PySem.Spec PyProof.Rows

section
variable {X : Cx} {K : PySem.W.Frag} {e o : Expr} {es : List Expr} {te to : TE} {st : Stmt} {rest : List Stmt} {t u : TS} {pos apos cpos : Pos}
theorem in_k (hK : X.K = K) : OpR X (compareOp .In) (rIn K false) := hK ▸ op_in_seq
theorem nin_k (hK : X.K = K) : OpR X (compareOp .NotIn) (rIn K true) := hK ▸ op_notIn_seq
end

structure DefX (P : Program) (w : World) (K : PySem.W.Frag) (mg : Str → Option Value) (base : Heap) (k : Nat) (x : Str) (ps : List Str) (sp : Sp) : Prop where
  ex : ∃ (f : Addr) (fd : FuncData), FnOk P w K mg base (CX1 P w) k f fd ps sp ∧ Binds K fd ps [] ∧ PySem.W.keepIn K (.ref f) = true ∧ mg x = some (.ref f)
theorem pe_defX {X : Cx} {k : Nat} {x : Str} {ps : List Str} {sp : Sp} {E : XK} {e : Expr} {es : List Expr} {t : TA} {p pos : Pos} (D : DefX X.prog X.w X.K X.mg X.base k x ps sp) (hr : Room k X.A) (hx : Passes (CX1 X.prog X.w) X E) (ha : PA X (e :: es) t) (hg : Gl X x := by rfl)
    (hdb : (x == ("__debug__" : Str)) = false := by decide) (he : starEach (e :: es) X.env = (false, eval e X.env) :: starEach es X.env := by rfl) (hpl : (backTo pos (starEach es X.env)).any (·.1) = false := by rfl) :
    PE X (.Call (.Name x p) (e :: es) [] pos) (tCall sp [] E t) := by
  obtain ⟨f, fd, F, B, kp, m⟩ := D.ex
  exact pe_call F hr hg m kp B .nil hx ha hdb he hpl
theorem passN {X : Cx} : Passes (CX1 X.prog X.w) X E0 := fun _ _ _ _ _ _ _ h => by
  obtain ⟨_, _, _, _, _, q⟩ := h
  exact q.elim
theorem xown_of {K : PySem.W.Frag} {C : Addr} (q : PySem.W.excIn K C bmVE "ValueError.__new__" = true) : XOwn K C := by
  intro h X
  unfold PySem.W.excIn at q; split at q
  case h_2 => cases q
  rename_i dd cd sl ho; split at q
  case h_2 => cases q
  rename_i C' bm k0 k1 k2 k3 n k5 hm hs
  simp only [Bool.and_eq_true, beq_iff_eq, Bool.not_eq_true'] at q; obtain ⟨⟨⟨⟨⟨e1, e2⟩, hdel⟩, ht⟩, hok⟩, hni⟩ := q
  subst e1 e2
  obtain ⟨nm, bs, mro, ns, qn, hd, sn, sub, ab, col, del⟩ := cd; dsimp only at hm hdel hok hni; subst hm hdel
  have e3 : sl = #[k0, k1, k2, k3, some (.builtin "ValueError.__new__"), k5] := Array.ext' (by simpa using hs)
  subst e3
  exact ⟨bm, ns, nm, qn, bs, hd, sn, sub, ab, col, dd, k0, k1, k2, k3, k5, _, X _ _ ho, .of_isNs (PySem.W.isNs_of_in X hok), PySem.W.nsMap_none_of_in X hok hni, PySem.W.tail_of_in X ht⟩
end L2

namespace L2
open PySem PySem.Spec PyProof.Rows

inductive EntsAre (p : Params) : List DictEntry → List (Str × Value) → Prop
  | nil : EntsAre p [] []
  | cons {x : Str} {t : Tok} {v : Value} {es : List DictEntry} {r : List (Str × Value)} : EntsAre p es r → EntsAre p (⟨PyData.keyHash p x, .str x t, v⟩ :: es) ((x, v) :: r)
noncomputable def KDict (P : Program) (w : World) (K : PySem.W.Frag) (a : Addr) (kvs : List (Str × Value)) : Prop := ∀ h : Heap, K.In h → h.DictOf (mixKind P w) a (kvs.map fun e => ((Sum.inr e.1 : Key), e.2))
section
variable {P : Program} {w : World} {K : PySem.W.Frag} {a : Addr}
theorem ents_keys {p : Params} : ∀ {es : List DictEntry} {kvs : List (Str × Value)}, EntsAre p es kvs → ∀ e ∈ es, ∃ x t, e.key = .str x t ∧ e.hash = PyData.keyHash p x
  | _, _, .nil, e, he => by cases he
  | _, _, .cons (x := x) (t := t) h, e, he => by
    rcases List.mem_cons.mp he with rfl | he
    · exact ⟨x, t, rfl, rfl⟩
    · exact ents_keys h e he
theorem ents_pairs {p : Params} : ∀ {es : List DictEntry} {kvs : List (Str × Value)}, EntsAre p es kvs → Pairs (mixKind P w) es (kvs.map fun e => ((Sum.inr e.1 : Key), e.2))
  | _, _, .nil => .nil
  | _, _, .cons (x := x) (t := t) h => .cons (keyIs_str x t) rfl (ents_pairs h)
theorem kdict_of {es : List DictEntry} {n : Nat} {kvs : List (Str × Value)} (l : K.lookup a = some { cls := .type "dict", data := .dict es.toArray n }) (e : EntsAre w.params es kvs) (nd : (kvs.map (·.1)).Nodup) : KDict P w K a kvs := by
  intro h X
  refine ⟨_, es.toArray, n, X _ _ l, ⟨rfl, rfl, rfl⟩, rfl, fun en hen => ?_, by simpa using ents_pairs e, ?_⟩
  · obtain ⟨x, t, e1, e2⟩ := ents_keys e en (by simpa using hen)
    refine ⟨Sum.inr x, ?_, ?_⟩
    · rw [e1]
      exact keyIs_str x t
    · rw [e2]
      rfl
  · rw [List.map_map]
    have : (((·.1) : Key × Value → Key) ∘ fun e : Str × Value => ((Sum.inr e.1 : Key), e.2)) = (Sum.inr : Str → Key) ∘ (·.1) := rfl
    rw [this, ← List.map_map]
    exact (List.pairwise_map.mpr (nd.imp fun hne z => hne (Sum.inr.inj z)))
theorem val_find : ∀ (kvs : List (Str × Value)) (x : Str), valueAt (kvs.map fun e => ((Sum.inr e.1 : Key), e.2)) (Sum.inr x) = (kvs.find? fun e => decide (e.1 = x)).map (·.2)
  | [], _ => rfl
  | (y, v) :: r, x => by
    have ih := val_find r x
    unfold valueAt at ih ⊢
    rw [List.map_cons, List.find?_cons, List.find?_cons]
    by_cases h : y = x
    · subst h
      simp
    · have h1 : ¬ (Sum.inr y : Key) = Sum.inr x := fun z => h (Sum.inr.inj z)
      simp only [decide_eq_false h1, decide_eq_false h]
      exact ih
end
inductive TabT (K : PySem.W.Frag) : List (Str × List Str) → List (Str × Value) → Prop
  | nil : TabT K [] []
  | cons {x : Str} {l : List Str} {a : Addr} {T : List (Str × List Str)} {r : List (Str × Value)} : (∀ H : Hp, SqT K H a (l.map V.str)) → TabT K T r → TabT K ((x, l) :: T) ((x, .ref a) :: r)
inductive TabS : List (Str × Str) → List (Str × Value) → Prop
  | nil : TabS [] []
  | cons {x y : Str} {t : Tok} {T : List (Str × Str)} {r : List (Str × Value)} : TabS T r → TabS ((x, y) :: T) ((x, .str y t) :: r)
theorem TabT.get {K : PySem.W.Frag} : ∀ {T : List (Str × List Str)} {r : List (Str × Value)} {x : Str} {l : List Str}, TabT K T r → T.lookup x = some l → ∃ a, (r.find? fun e => decide (e.1 = x)).map (·.2) = some (.ref a) ∧ ∀ H : Hp, SqT K H a (l.map V.str)
  | _, _, _, _, .nil, e => by cases e
  | _, _, x, l, .cons (x := y) (a := a) h t, e => by
    rw [List.lookup_cons] at e
    by_cases hx : y = x
    · subst hx
      simp only [beq_self_eq_true] at e
      cases e
      exact ⟨a, by simp, h⟩
    · have : (x == y) = false := by simpa using fun z => hx z.symm
      rw [this] at e
      obtain ⟨b, h1, h2⟩ := TabT.get t e
      exact ⟨b, by rw [List.find?_cons, decide_eq_false hx]; exact h1, h2⟩
theorem TabS.get : ∀ {T : List (Str × Str)} {r : List (Str × Value)} {x y : Str}, TabS T r → T.lookup x = some y → ∃ t, (r.find? fun e => decide (e.1 = x)).map (·.2) = some (.str y t)
  | _, _, _, _, .nil, e => by cases e
  | _, _, x, y, .cons (x := z) (t := t) h, e => by
    rw [List.lookup_cons] at e
    by_cases hx : z = x
    · subst hx
      simp only [beq_self_eq_true] at e
      cases e
      exact ⟨t, by simp⟩
    · have : (x == z) = false := by simpa using fun q => hx q.symm
      rw [this] at e
      obtain ⟨u, h1⟩ := TabS.get h e
      exact ⟨u, by rw [List.find?_cons, decide_eq_false hx]; exact h1⟩
noncomputable def tTabT (K : PySem.W.Frag) (T : List (Str × List Str)) (ti : TE) : TE := fun σ H Q => ti σ H fun y H1 => ∃ x l, y = .str x ∧ T.lookup x = some l ∧ ∀ a, (∀ H : Hp, SqT K H a (l.map V.str)) → Q (.ref a) H1
noncomputable def tTabS (T : List (Str × Str)) (ti : TE) : TE := fun σ H Q => ti σ H fun y H1 => ∃ x z, y = .str x ∧ T.lookup x = some z ∧ Q (.str z) H1
structure KTabT (P : Program) (w : World) (K : PySem.W.Frag) (mg : Str → Option Value) (nm : Str) (T : List (Str × List Str)) : Prop where
  ex : ∃ (a : Addr) (kvs : List (Str × Value)), mg nm = some (.ref a) ∧ KDict P w K a kvs ∧ TabT K T kvs
structure KTabS (P : Program) (w : World) (K : PySem.W.Frag) (mg : Str → Option Value) (nm : Str) (T : List (Str × Str)) : Prop where
  ex : ∃ (a : Addr) (kvs : List (Str × Value)), mg nm = some (.ref a) ∧ KDict P w K a kvs ∧ TabS T kvs
section
variable {X : Cx} {K : PySem.W.Frag} {nm : Str} {np pos : Pos} {i : Expr} {ti : TE}
theorem tab_item {pins : List (Addr × Obj)} {σ : St} {H : Hp} {s : Shared} {a : Addr} {kvs : List (Str × Value)} {x : Str} {v u : Value} {Q : Value → Shared → Prop} {A : Around} {E : Value → Shared → Prop} (I : Inv X pins σ H s) (D : KDict X.prog X.w X.K a kvs) (r : RelV (.str x) u)
    (hv : (kvs.find? fun e => decide (e.1 = x)).map (·.2) = some v) (h : Q v { s with toks := s.toks + 1 }) : wpAny (model X.prog X.w) A (getItem (.ref a) u) Q E s := by
  obtain ⟨t, rfl⟩ := r
  exact wpAny_getItem_of (knd := mixKind X.prog X.w) (k := Sum.inr x) (keyIs_str x t) (D _ I.kIn).mapOf ((val_find kvs x).trans hv) h
theorem pe_tabT {T : List (Str × List Str)} (hK : X.K = K) (D : KTabT X.prog X.w X.K X.mg nm T) (hi : PE X i ti) (hs : NoSl i) (hg : Gl X nm := by rfl) (hd : (nm == ("__debug__" : Str)) = false := by decide) : PE X (.Subscript (.Name nm np) i pos) (tTabT K T ti) := by
  subst hK
  obtain ⟨a, kvs, hm, kd, tb⟩ := D.ex
  intro pins s σ H Q I h
  refine subD_of PySem.F.slot_dict_getitem.lookup hs (ld_glob I hg hm (thn (hi pins s σ H _ I h) fun u s1 ⟨y, H1, I1, r1, x, l, e, hl, q1⟩ => ?_) hd)
  subst e
  obtain ⟨b, h1, h2⟩ := tb.get hl
  exact ⟨(kd _ I1.kIn).mapOf.typeIs, tab_item I1 kd r1 h1 ⟨.ref b, H1, I1.tok _, rfl, q1 b h2⟩⟩
theorem pe_tabS {T : List (Str × Str)} (D : KTabS X.prog X.w X.K X.mg nm T) (hi : PE X i ti) (hs : NoSl i) (hg : Gl X nm := by rfl) (hd : (nm == ("__debug__" : Str)) = false := by decide) : PE X (.Subscript (.Name nm np) i pos) (tTabS T ti) := by
  obtain ⟨a, kvs, hm, kd, tb⟩ := D.ex
  intro pins s σ H Q I h
  refine subD_of PySem.F.slot_dict_getitem.lookup hs (ld_glob I hg hm (thn (hi pins s σ H _ I h) fun u s1 ⟨y, H1, I1, r1, x, z, e, hl, q1⟩ => ?_) hd)
  subst e
  obtain ⟨t, h1⟩ := tb.get hl
  exact ⟨(kd _ I1.kIn).mapOf.typeIs, tab_item I1 kd r1 h1 ⟨.str z, H1, I1.tok _, ⟨t, rfl⟩, q1⟩⟩
end
theorem sqT_of {K : PySem.W.Frag} {a : Addr} {its : List Value} {n : Nat} {l : List Str} (h : K.lookup a = some { cls := .type "tuple", data := .seq its.toArray n }) (v : Vals (l.map V.str) its) (hz : its.length ≤ 1000) : ∀ H : Hp, SqT K H a (l.map V.str) :=
  fun _ => .inr ⟨_, its.toArray, n, h, rfl, rfl, by rw [List.size_toArray]; exact Nat.le_trans hz (by decide), by simpa using v⟩
end L2

namespace L2
open PySem PySem.Spec PyProof.Rows

section
variable {prog : Program} {w : World} {A : Around} {E : Value → Shared → Prop} {s : Shared}
theorem nextT_item {it t : Addr} {i : Nat} {items : Array Value} {x : Value} {Q : Value → Shared → Prop} (hit : s.heap.IsTupleIter it t i) (ht : s.heap.IsTuple t items) (hx : items[i]? = some x)
    (hQ : ∀ h', h'.IsTupleIter it t (i + 1) → Heap.SameBut it s.heap h' → Q x { s with heap := h' }) : wpAny (model prog w) A (Builtin.SmallTypes.nextOf (.ref it)) Q E s := by
  obtain ⟨o, ho, hc, hd⟩ := id hit; obtain ⟨ol, hol, _, nl, hdl⟩ := ht
  unfold Builtin.SmallTypes.nextOf
  refine wpAny_bind (wpAny_callSpecial?_slot (name := Str.ofString "__next__") hit.typeIs F.slot_tuple_iterator_next (wpAny_call_entry F.slot_tuple_iterator_next hit.typeIs F.entry_tuple_iterator_next ?_ (F.args_tuple_iterator_next_1 _)))
  show wpAny _ _ (field (.ref it) 0 >>= _) _ _ s; refine wpAny_bind (wpAny_field ho hd (x := .ref t) rfl ?_)
  show wpAny _ _ (if (Value.ref t == Value.none) = true then _ else _) _ _ s; rw [if_neg (show ¬ ((Value.ref t == Value.none) = true) from Bool.false_ne_true)]
  show wpAny _ _ (field (.ref it) 1 >>= _) _ _ s; refine wpAny_bind (wpAny_field ho hd (x := .int i 0) rfl ?_)
  show wpAny _ _ (seqItems? (.ref t) >>= _) _ _ s; refine wpAny_bind (wpAny_seqItems hol hdl ?_); simp only [Int.toNat_natCast, hx]
  refine wpAny_bind (wpAny_setField ho hd (by simp) (wpAny_pure ⟨x, rfl, wpAny_pure (hQ _ ⟨_, Heap.get?_update_self _ ho (Obj.isFreed_of_fields (Obj.data_mapFields hd _)), (Obj.cls_mapFields ..).trans hc, ?_⟩ (Heap.SameBut.update ..))⟩))
  rw [Obj.data_mapFields hd]; simp [rawInt]
theorem nextT_end {it t : Addr} {i : Nat} {items : Array Value} {Q : Value → Shared → Prop} (hh : A.handled = none) (hit : s.heap.IsTupleIter it t i) (ht : s.heap.IsTuple t items) (hx : items[i]? = none)
    (hE : ∀ h' e, Heap.ExtBut it s.heap h' → (∃ o, h'.get? e = some o ∧ o.cls = .type "StopIteration") → E (.ref e) { s with heap := h' }) : wpAny (model prog w) A (Builtin.SmallTypes.nextOf (.ref it)) Q E s := by
  obtain ⟨o, ho, hc, hd⟩ := id hit; obtain ⟨ol, hol, _, nl, hdl⟩ := ht
  unfold Builtin.SmallTypes.nextOf
  refine wpAny_bind (wpAny_callSpecial?_slot (name := Str.ofString "__next__") hit.typeIs F.slot_tuple_iterator_next (wpAny_call_entry F.slot_tuple_iterator_next hit.typeIs F.entry_tuple_iterator_next ?_ (F.args_tuple_iterator_next_1 _)))
  show wpAny _ _ (field (.ref it) 0 >>= _) _ _ s; refine wpAny_bind (wpAny_field ho hd (x := .ref t) rfl ?_)
  show wpAny _ _ (if (Value.ref t == Value.none) = true then _ else _) _ _ s; rw [if_neg (show ¬ ((Value.ref t == Value.none) = true) from Bool.false_ne_true)]
  show wpAny _ _ (field (.ref it) 1 >>= _) _ _ s; refine wpAny_bind (wpAny_field ho hd (x := .int i 0) rfl ?_)
  show wpAny _ _ (seqItems? (.ref t) >>= _) _ _ s; refine wpAny_bind (wpAny_seqItems hol hdl ?_); simp only [Int.toNat_natCast, hx]
  refine wpAny_bind (wpAny_rule (wpAny_bind (wpAny_setField ho hd (by simp) ?_))); show wpAny _ _ (newExc (.type "StopIteration") [] >>= _) _ _ _
  refine wpAny_bind ?_; simp only [newExc, newTuple]; refine wpAny_bind (wpAny_newObj_type ?_ (by size_fits))
  refine wpAny_bind (m := firstArgMember _ _) (wpAny_of_eq (a := Value.none) (by first | rfl | (simp only [firstArgMember]; rfl)) ?_); refine wpAny_newObj_type ?_ (by size_fits)
  simp only [raiseNew]; refine wpAny_bind (wpAny_handled ?_); first | rw [show A.in1.handled = none from hh] | rw [hh]
  refine wpAny_bind (wpAny_pure (wpAny_throw (hE _ _ (((Heap.SameBut.update ..).extBut.push _).push _) ⟨_, Heap.get?_push_size _ rfl, rfl⟩)))
structure ZipAt (z TI TO i1 i2 l1 l2 : Addr) (i : Nat) (h : Heap) : Prop where
  hz : IsZip h z TI TO .none
  hTI : IsPair h TI (.ref i1) (.ref i2)
  hTO : ∃ a b, IsPair h TO a b
  h1 : h.IsTupleIter i1 l1 i
  h2 : h.IsTupleIter i2 l2 i
theorem zipT_item {z TI TO i1 i2 l1 l2 : Addr} {i : Nat} {xs ys : Array Value} {x y : Value} {Q : Option Value → Shared → Prop} (D : ZipApart z TI TO i1 i2 l1 l2) (Z : ZipAt z TI TO i1 i2 l1 l2 i s.heap)
    (hl1 : s.heap.IsTuple l1 xs) (hl2 : s.heap.IsTuple l2 ys) (hx : xs[i]? = some x) (hy : ys[i]? = some y)
    (hQ : ∀ h', IsZip h' z TI TO (rawInt s.heap.objs.size) → IsPair h' TO x y → h'.IsTupleIter i1 l1 (i + 1) → h'.IsTupleIter i2 l2 (i + 1) → IsPair h' s.heap.objs.size x y → h'.objs.size = s.heap.objs.size + 1 →
      (∀ c o, c ≠ z → c ≠ TO → c ≠ i1 → c ≠ i2 → s.heap.get? c = some o → h'.get? c = some o) → Q (some (.ref s.heap.objs.size)) { s with heap := h' }) :
    wpAny (model prog w) A (pyNext (.ref z)) Q E s := by
  obtain ⟨hz, hTI, ⟨a, b, hTO⟩, h1, h2⟩ := Z
  have hT : s.TypeIs (.ref z) "zip" := ⟨_, hz, rfl⟩
  unfold pyNext; refine wpAny_bind (wpAny_attempt (wpAny_callSpecial?_slot (name := Str.ofString "__next__") hT F.slot_zip_next (wpAny_call_entry F.slot_zip_next hT F.entry_zip_next ?_ (F.args_zip_next_1 _))))
  show wpAny _ _ (field (.ref z) 2 >>= _) _ _ _; refine wpAny_bind (wpAny_field hz rfl (x := .bool false) rfl ?_)
  show wpAny _ _ (field (.ref z) 3 >>= _) _ _ _; refine wpAny_bind (wpAny_field hz rfl (x := .ref TI) rfl ?_); refine wpAny_bind (wpAny_seqItems hTI rfl ?_)
  show wpAny _ _ (Builtin.SmallTypes.ownedTupleIsFree (.ref z) >>= _) _ _ _; refine wpAny_bind ?_; unfold Builtin.SmallTypes.ownedTupleIsFree; refine wpAny_bind (wpAny_field hz rfl (x := .none) rfl (wpAny_pure ?_))
  simp only [if_true]; refine wpAny_bind (wpAny_rule ?_); refine wpAny_bind (wpAny_field hz rfl (x := .ref TO) rfl ?_); refine wpAny_bind (wpAny_setField_rec hz (by simp) fun g1 hz1 s1 => ?_)
  replace hz1 : IsZip g1 z TI TO .ellipsis := hz1
  refine wpAny_bind ?_; simp only [List.zipIdx_cons, List.zipIdx_nil, List.forIn_cons, List.forIn_nil]
  refine wpAny_bind (wpAny_bind (wpAny_onRaise ?_)); show wpAny _ _ (Builtin.SmallTypes.nextOf (.ref i1) >>= _) _ _ _
  refine wpAny_bind (nextT_item (h1.extBut s1.extBut D.i1z) (hl1.extBut s1.extBut D.l1z) hx fun g2 k2 s2 => wpAny_pure ?_)
  have hTO2 : IsPair g2 TO a b := s2.extBut _ _ D.TOi1 (s1.extBut _ _ D.TOz hTO)
  refine wpAny_bind (wpAny_seqItems hTO2 rfl ?_); refine wpAny_bind (wpAny_updateSeq_pair hTO2 fun g3 hTO3 s3 => ?_)
  replace hTO3 : IsPair g3 TO x b := hTO3
  refine wpAny_bind (wpAny_letGo (wpAny_pure ?_)); refine wpAny_bind (wpAny_bind (wpAny_onRaise ?_)); show wpAny _ _ (Builtin.SmallTypes.nextOf (.ref i2) >>= _) _ _ _
  refine wpAny_bind (nextT_item (((h2.extBut s1.extBut D.i2z).extBut s2.extBut D.i12.symm).extBut s3.extBut D.TOi2.symm) (((hl2.extBut s1.extBut D.l2z).extBut s2.extBut D.l2i1).extBut s3.extBut D.l2TO) hy fun g4 k4 s4 => wpAny_pure ?_)
  have hTO4 : IsPair g4 TO x b := s4.extBut _ _ D.TOi2 hTO3
  refine wpAny_bind (wpAny_seqItems hTO4 rfl ?_); refine wpAny_bind (wpAny_updateSeq_pair hTO4 fun g5 hTO5 s5 => ?_)
  replace hTO5 : IsPair g5 TO x y := hTO5
  refine wpAny_bind (wpAny_letGo (wpAny_pure (wpAny_pure ?_))); refine wpAny_bind (wpAny_seqItems hTO5 rfl ?_); refine wpAny_bind (wpAny_newTuple ?_)
  have e5 : g5.objs.size = s.heap.objs.size := by rw [s5.1, s4.1, s3.1, s2.1, s1.1]
  have z5 : IsZip g5 z TI TO .ellipsis := s5.extBut _ _ D.TOz.symm (s4.extBut _ _ D.i2z.symm (s3.extBut _ _ D.TOz.symm (s2.extBut _ _ D.i1z.symm hz1)))
  have k5 : ∀ c o, c ≠ z → c ≠ TO → c ≠ i1 → c ≠ i2 → s.heap.get? c = some o → g5.get? c = some o := fun c o c1 c2 c3 c4 e => s5.extBut _ _ c2 (s4.extBut _ _ c4 (s3.extBut _ _ c2 (s2.extBut _ _ c3 (s1.extBut _ _ c1 e))))
  have m1 : g5.IsTupleIter i1 l1 (i + 1) := ((k2.extBut s3.extBut D.TOi1.symm).extBut s4.extBut D.i12).extBut s5.extBut D.TOi1.symm
  have m2 : g5.IsTupleIter i2 l2 (i + 1) := k4.extBut s5.extBut D.TOi2.symm
  have zlt : z < g5.objs.size := Heap.lt_size z5
  show wpAny _ _ (Builtin.SmallTypes.ownedTupleHandOut (.ref z) (.ref g5.objs.size) >>= _) _ _ _; refine wpAny_bind ?_; unfold Builtin.SmallTypes.ownedTupleHandOut
  have z6 : IsZip (g5.push { cls := .type "tuple", data := .seq #[x, y] }) z TI TO .ellipsis := Heap.get?_push_of_some _ z5
  refine wpAny_bind (wpAny_setField_rec z6 (by simp) fun g7 z7 s7 => ?_)
  replace z7 : IsZip g7 z TI TO (rawInt g5.objs.size) := z7
  refine wpAny_setField_rec z7 (by simp) fun g8 z8 s8 => ?_
  replace z8 : IsZip g8 z TI TO (rawInt g5.objs.size) := z8
  have up : ∀ c o, c ≠ z → g5.get? c = some o → g8.get? c = some o := fun c o c1 e => s8.extBut _ _ c1 (s7.extBut _ _ c1 (Heap.get?_push_of_some _ e))
  have t8 : IsPair g8 g5.objs.size x y := s8.extBut _ _ (Nat.ne_of_gt zlt) (s7.extBut _ _ (Nat.ne_of_gt zlt) (Heap.get?_push_size _ rfl))
  have n8 : g8.objs.size = g5.objs.size + 1 := by rw [s8.1, s7.1, Heap.size_push]
  rw [e5] at z8 t8 n8
  refine wpAny_pure ⟨_, rfl, ?_⟩
  refine wpAny_pure ?_
  show Q (some (.ref g5.objs.size)) _
  rw [e5]
  exact hQ g8 z8 (up _ _ D.TOz hTO5) (m1.at fun o e => up _ o D.i1z e) (m2.at fun o e => up _ o D.i2z e) t8 n8 fun c o c1 c2 c3 c4 e => up c o c1 (k5 c o c1 c2 c3 c4 e)
theorem zipT_end {z TI TO i1 i2 l1 l2 : Addr} {i : Nat} {xs ys : Array Value} {Q : Option Value → Shared → Prop} (hh : A.handled = none) (D : ZipApart z TI TO i1 i2 l1 l2) (Z : ZipAt z TI TO i1 i2 l1 l2 i s.heap)
    (hl1 : s.heap.IsTuple l1 xs) (hl2 : s.heap.IsTuple l2 ys) (hend : xs[i]? = none ∨ ys[i]? = none)
    (hQ : ∀ h', (∀ c o, c ≠ z → c ≠ TO → c ≠ i1 → c ≠ i2 → s.heap.get? c = some o → h'.get? c = some o) → Q none { s with heap := h' }) : wpAny (model prog w) A (pyNext (.ref z)) Q E s := by
  obtain ⟨hz, hTI, ⟨a, b, hTO⟩, h1, h2⟩ := Z
  have hT : s.TypeIs (.ref z) "zip" := ⟨_, hz, rfl⟩
  unfold pyNext
  have fin : ∀ h' e, (∀ c o, c ≠ z → c ≠ TO → c ≠ i1 → c ≠ i2 → s.heap.get? c = some o → h'.get? c = some o) → (∃ o, h'.get? e = some o ∧ o.cls = .type "StopIteration") →
      wpAny (model prog w) A (do if ← isInstance (.ref e) (.type "StopIteration") then pure none else throw (.ref e)) Q E { s with heap := h' } := fun h' e hk ⟨o, ho, hc⟩ =>
    wpAny_bind (wpAny_isInstance (T := "StopIteration") (b := true) ⟨o, ho, hc⟩ isSubtype_stop (wpAny_pure (hQ _ hk)))
  refine wpAny_bind (wpAny_attempt (wpAny_callSpecial?_slot (name := Str.ofString "__next__") hT F.slot_zip_next (wpAny_call_entry F.slot_zip_next hT F.entry_zip_next ?_ (F.args_zip_next_1 _))))
  show wpAny _ _ (field (.ref z) 2 >>= _) _ _ _; refine wpAny_bind (wpAny_field hz rfl (x := .bool false) rfl ?_)
  show wpAny _ _ (field (.ref z) 3 >>= _) _ _ _; refine wpAny_bind (wpAny_field hz rfl (x := .ref TI) rfl ?_); refine wpAny_bind (wpAny_seqItems hTI rfl ?_)
  show wpAny _ _ (Builtin.SmallTypes.ownedTupleIsFree (.ref z) >>= _) _ _ _; refine wpAny_bind ?_; unfold Builtin.SmallTypes.ownedTupleIsFree; refine wpAny_bind (wpAny_field hz rfl (x := .none) rfl (wpAny_pure ?_))
  simp only [if_true]; refine wpAny_bind (wpAny_rule ?_); refine wpAny_bind (wpAny_field hz rfl (x := .ref TO) rfl ?_); refine wpAny_bind (wpAny_setField_rec hz (by simp) fun g1 hz1 s1 => ?_)
  replace hz1 : IsZip g1 z TI TO .ellipsis := hz1
  refine wpAny_bind ?_; simp only [List.zipIdx_cons, List.zipIdx_nil, List.forIn_cons, List.forIn_nil]
  refine wpAny_bind (wpAny_bind (wpAny_onRaise ?_)); show wpAny _ _ (Builtin.SmallTypes.nextOf (.ref i1) >>= _) _ _ _
  cases hx : xs[i]? with
  | none =>
    refine wpAny_bind (nextT_end hh (h1.extBut s1.extBut D.i1z) (hl1.extBut s1.extBut D.l1z) hx fun g2 e s2 he => ?_)
    obtain ⟨oe, hoe, hce⟩ := he
    have z2 : IsZip g2 z TI TO .ellipsis := s2 _ _ D.i1z.symm hz1
    have ez : e ≠ z := fun q => by subst q; rw [z2] at hoe; cases hoe; simp at hce
    exact wpAny_setField_rec z2 (by simp) fun g3 _ s3 => fin g3 e (fun c o c1 _ c3 _ q => s3.extBut _ _ c1 (s2 _ _ c3 (s1.extBut _ _ c1 q))) ⟨oe, s3.extBut _ _ ez hoe, hce⟩
  | some x =>
    have hy : ys[i]? = none := by rcases hend with h | h; rw [hx] at h; cases h; exact h
    refine wpAny_bind (nextT_item (h1.extBut s1.extBut D.i1z) (hl1.extBut s1.extBut D.l1z) hx fun g2 k2 s2 => wpAny_pure ?_)
    have hTO2 : IsPair g2 TO a b := s2.extBut _ _ D.TOi1 (s1.extBut _ _ D.TOz hTO)
    refine wpAny_bind (wpAny_seqItems hTO2 rfl ?_); refine wpAny_bind (wpAny_updateSeq_pair hTO2 fun g3 hTO3 s3 => ?_)
    refine wpAny_bind (wpAny_letGo (wpAny_pure ?_)); refine wpAny_bind (wpAny_bind (wpAny_onRaise ?_)); show wpAny _ _ (Builtin.SmallTypes.nextOf (.ref i2) >>= _) _ _ _
    refine wpAny_bind (nextT_end hh (((h2.extBut s1.extBut D.i2z).extBut s2.extBut D.i12.symm).extBut s3.extBut D.TOi2.symm) (((hl2.extBut s1.extBut D.l2z).extBut s2.extBut D.l2i1).extBut s3.extBut D.l2TO) hy fun g4 e s4 he => ?_)
    obtain ⟨oe, hoe, hce⟩ := he
    have z4 : IsZip g4 z TI TO .ellipsis := s4 _ _ D.i2z.symm (s3.extBut _ _ D.TOz.symm (s2.extBut _ _ D.i1z.symm hz1))
    have ez : e ≠ z := fun q => by subst q; rw [z4] at hoe; cases hoe; simp at hce
    exact wpAny_setField_rec z4 (by simp) fun g5 _ s5 => fin g5 e (fun c o c1 c2 c3 c4 q => s5.extBut _ _ c1 (s4 _ _ c4 (s3.extBut _ _ c2 (s2.extBut _ _ c3 (s1.extBut _ _ c1 q))))) ⟨oe, s5.extBut _ _ ez hoe, hce⟩
end
end L2

namespace L2
open PySem PySem.Spec PyProof.Rows

section
variable {X : Cx} {pins : List (Addr × Obj)} {σ : St} {H : Hp} {s : Shared} {h' : Heap}
theorem Inv.turns {t' : Nat} {ch : List Addr} (I : Inv X pins σ H s) (hf : ∀ b ∈ ch, FpOk X pins H b) (k : ∀ b o, b ∉ ch → s.heap.get? b = some o → h'.get? b = some o) : Inv X pins σ H { s with heap := h', toks := t' } := by
  have nit : ∀ b u, H b = some u → b ∉ ch := fun b u e z => by rw [(hf b z).1] at e; cases e
  refine I.step (g' := s.gens) (d' := s.drawn) (ch := ch) (fun b hb => ?_) (fun b o _ _ hc e _ => k b o hc e) (fun b o _ _ hc e _ => ⟨o.slots, k b o hc e⟩) (fun _ _ _ _ n => n)
    (fun b o hc e => ⟨o, k b o hc e⟩) (fun _ _ e => e) (fun _ _ _ e => e) (fun b ps e => ⟨#[], by rw [e]; simp⟩) (fun m hm => ?_) (fun b u e => ?_) I.bare
  · obtain ⟨_, f1, _, f3, f4, f5⟩ := hf b hb
    exact ⟨f3, f1, f4, f5⟩
  · obtain ⟨o, es, ep, ho, r⟩ := hm
    exact ⟨o, es, ep, k _ o (fun z => (hf _ z).2.1 rfl) ho, r⟩
  · refine (I.hok b u e).stay (fun c v hc q => k c v ?_ q) (fun _ q => q) fun _ _ q => q
    rcases hc with z | z
    · rw [z]; exact nit b u e
    · exact nit c _ z
end

noncomputable def Itz (K : PySem.W.Frag) (a b : Addr) : It :=
  ⟨fun i H => ∃ xs ys x y, SqT K H a xs ∧ SqT K H b ys ∧ xs[i]? = some x ∧ ys[i]? = some y,
   fun i H v H' => ∃ p x y, H p = none ∧ v = .ref p ∧ (∀ xs, SqT K H a xs → xs[i]? = some x) ∧ (∀ ys, SqT K H b ys → ys[i]? = some y) ∧ H' = upd H p (.tup [x, y]),
   fun i H => ∃ xs ys, SqT K H a xs ∧ SqT K H b ys ∧ (xs.length ≤ i ∨ ys.length ≤ i)⟩

theorem turn_zip {P : Program} {w : World} {K : PySem.W.Frag} {elts : List Expr} {c : Nat} {pos : Pos} {z TI TO i1 i2 a b : Addr} (D : ZipApart z TI TO i1 i2 a b) :
    Turn P w K (.Tuple elts c pos) (Itz K a b) [z, TI, TO, i1, i2] z (fun i h => ZipAt z TI TO i1 i2 a b i h) where
  mem := by simp
  obj := fun i h st x hx => by
    obtain ⟨hz, hTI, ⟨p, q, hTO⟩, ⟨o1, e1, c1, d1⟩, ⟨o2, e2, c2, d2⟩⟩ := st
    simp only [List.mem_cons, List.not_mem_nil, or_false] at hx
    rcases hx with rfl | rfl | rfl | rfl | rfl
    · exact ⟨_, hz, fun v e => by cases e⟩
    · exact ⟨_, hTI, fun v e => by cases e⟩
    · exact ⟨_, hTO, fun v e => by cases e⟩
    · exact ⟨o1, e1, fun v e => by rw [d1] at e; cases e⟩
    · exact ⟨o2, e2, fun v e => by rw [d2] at e; cases e⟩
  keep := fun i h h' st k => by
    obtain ⟨hz, hTI, ⟨p, q, hTO⟩, h1, h2⟩ := st
    exact ⟨k z (by simp) _ hz, k TI (by simp) _ hTI, ⟨p, q, k TO (by simp) _ hTO⟩, h1.at fun o e => k i1 (by simp) o e, h2.at fun o e => k i2 (by simp) o e⟩
  item := by
    intro X hP hw hK hc i pins s σ H E I hf st hg
    subst hP hw hK
    obtain ⟨xs, ys, x, y, hq1, hq2, hx, hy⟩ := hg
    obtain ⟨its, rv, p, hz⟩ := I.tuple hq1
    obtain ⟨jts, rw', q, hz'⟩ := I.tuple hq2
    obtain ⟨u, hu, ru⟩ := rv.get hx
    obtain ⟨v, hv, rr⟩ := rw'.get hy
    refine zipT_item D st (show s.heap.IsTuple a its.toArray from p) (show s.heap.IsTuple b jts.toArray from q) (x := u) (y := v) (by simpa using hu) (by simpa using hv) fun h1 z1 t1 k1 k2 pr sz kk => ?_
    refine ⟨_, rfl, wpAny_letOwnedTupleGo_zip z1 fun h2 z2 sb => ?_⟩
    have kk2 : ∀ c o, c ∉ [z, TO, i1, i2] → s.heap.get? c = some o → h2.get? c = some o := fun c o hc e => by
      simp only [List.mem_cons, List.not_mem_nil, or_false, not_or] at hc
      exact sb.extBut _ _ hc.1 (kk c o hc.1 hc.2.1 hc.2.2.1 hc.2.2.2 e)
    have I1 : Inv X pins σ H { s with heap := h2 } := I.turns (t' := s.toks) (ch := [z, TO, i1, i2]) (fun b hb => hf b (by simp only [List.mem_cons, List.not_mem_nil, or_false] at hb ⊢; rcases hb with rfl | rfl | rfl | rfl <;> simp)) kk2
    have hzlt : z < s.heap.objs.size := Heap.lt_size st.hz
    have pr2 : IsPair h2 s.heap.objs.size u v := sb.extBut _ _ (Nat.ne_of_gt hzlt) pr
    have f := I.fpOk (b := s.heap.objs.size) (H' := H) (Nat.le_refl _) (I.hok.fresh (Nat.le_refl _))
    have I2 : Inv X pins σ (upd H s.heap.objs.size (.tup [x, y])) { s with heap := h2 } := I1.trackN f.1 f.2.1 (Heap.get?_none_of_le I.sz) f.2.2.2.2.1 f.2.2.2.2.2 ⟨by simp [sizeLine], [u, v], .cons ru (.cons rr .nil), ⟨_, pr2, rfl, _, rfl⟩⟩
    refine ⟨.ref s.heap.objs.size, _, I2, rfl, ⟨s.heap.objs.size, x, y, f.1, rfl, fun zs hzs => by rw [I.tuple_inj hzs hq1]; exact hx, fun zs hzs => by rw [I.tuple_inj hzs hq2]; exact hy, rfl⟩, ?_, fun b hb => ?_⟩
    · exact ⟨z2, sb.extBut _ _ D.TIz (kk _ _ D.TIz D.TITO D.TIi1 D.TIi2 st.hTI), ⟨u, v, sb.extBut _ _ D.TOz t1⟩, k1.extBut sb.extBut D.i1z, k2.extBut sb.extBut D.i2z⟩
    · rw [upd_ne (fun e => ?_)]
      · exact (hf b hb).1
      · have lt : b < s.heap.objs.size := by
          obtain ⟨hz, hTI, ⟨p, q, hTO⟩, ⟨o1, e1, c1, d1⟩, ⟨o2, e2, c2, d2⟩⟩ := st
          simp only [List.mem_cons, List.not_mem_nil, or_false] at hb
          rcases hb with rfl | rfl | rfl | rfl | rfl
          · exact Heap.lt_size hz
          · exact Heap.lt_size hTI
          · exact Heap.lt_size hTO
          · exact Heap.lt_size e1
          · exact Heap.lt_size e2
        exact Nat.ne_of_lt lt e
  done := by
    intro X hP hw hK hc i pins s σ H E I hf st hg
    subst hP hw hK
    obtain ⟨xs, ys, hq1, hq2, hl⟩ := hg
    obtain ⟨its, rv, p, hz⟩ := I.tuple hq1
    obtain ⟨jts, rw', q, hz'⟩ := I.tuple hq2
    have l1 := rv.length
    have l2 := rw'.length
    refine zipT_end (I.ok.hd hc) D st (show s.heap.IsTuple a its.toArray from p) (show s.heap.IsTuple b jts.toArray from q) (by simp; omega) fun h1 kk => ⟨rfl, ?_⟩
    refine I.turns (t' := s.toks) (ch := [z, TO, i1, i2]) (fun b hb => hf b (by simp only [List.mem_cons, List.not_mem_nil, or_false] at hb ⊢; rcases hb with rfl | rfl | rfl | rfl <;> simp)) fun c o hc e => ?_
    simp only [List.mem_cons, List.not_mem_nil, or_false, not_or] at hc
    exact kk c o hc.1 hc.2.1 hc.2.2.1 hc.2.2.2 e
  self := fun _ _ _ _ _ st h => wpAny_pyIter_zip st.hz h

noncomputable abbrev tzA (h : Heap) (l : Addr) : Heap := h.push { cls := .type "tuple_iterator", data := .fields #[.ref l, .int 0 0] }
noncomputable abbrev tzP (h : Heap) (u v : Value) : Heap := h.push { cls := .type "tuple", data := .seq #[u, v] }
noncomputable abbrev tz2 (h : Heap) (l m : Addr) : Heap := tzA (tzA h l) m
noncomputable abbrev tz4 (h : Heap) (l m : Addr) : Heap := tzP (tzP (tz2 h l m) (.ref h.objs.size) (.ref (tzA h l).objs.size)) .none .none
noncomputable abbrev tz5 (h : Heap) (l m : Addr) : Heap := (tz4 h l m).push { cls := .type "zip", data := .fields #[.none, .bool false, .bool false, .ref (tz2 h l m).objs.size, .ref (tzP (tz2 h l m) (.ref h.objs.size) (.ref (tzA h l).objs.size)).objs.size] }
theorem meets_zipT (l m : Addr) (xs ys : Array Value) :
    Meets (Builtin.«zip.__new__» ⟨[.type "zip", .ref l, .ref m], []⟩) (fun _ R s => s.heap.IsTuple l xs ∧ s.heap.IsTuple m ys ∧ R (.ok (.ret (.ref (tz4 s.heap l m).objs.size))) { s with heap := tz5 s.heap l m }) :=
  .of_wp fun prog w A R s h => by
    obtain ⟨hp, g, d, tk, os⟩ := s
    obtain ⟨hl, hm, h⟩ := h
    have hsub := sub_zip
    have h1 : Heap.IsTuple (Shared.heap ⟨hp, g, d, tk, os⟩) l xs := hl
    have h2 : Heap.IsTuple (Shared.heap ⟨tzA hp l, g, d, tk, os⟩) m ys := by
      obtain ⟨o, e, c, n, q⟩ := hm
      exact ⟨o, Heap.get?_push_of_some _ e, c, n, q⟩
    wp_walk using wpAny_pyIter_tuple h1, wpAny_pyIter_tuple h2
    exact ⟨_, rfl, h⟩
section
variable {prog : Program} {w : World} {A : Around} {E : Value → Shared → Prop} {s : Shared}
theorem call_zipT {l m : Addr} {xs ys : Array Value} {Q : Value → Shared → Prop} (hl : s.heap.IsTuple l xs) (hm : s.heap.IsTuple m ys)
    (h : ∀ h', ZipAt (s.heap.objs.size + 4) (s.heap.objs.size + 2) (s.heap.objs.size + 3) s.heap.objs.size (s.heap.objs.size + 1) l m 0 h' → (∀ c o, s.heap.get? c = some o → h'.get? c = some o) → Q (.ref (s.heap.objs.size + 4)) { s with heap := h' }) :
    wpAny (model prog w) A (call (.type "zip") [.ref l, .ref m]) Q E s := by
  refine callType_new F.called_zip (by decide) (F.typeCall_zip_2 _ _) (F.newCall_zip_2 _ _) (fun obj => F.args_object_init_3 obj _ _) F.entry_zip_new (meets_zipT l m xs ys) ⟨hl, hm, ?_⟩
  have n1 : (tzA s.heap l).objs.size = s.heap.objs.size + 1 := Heap.size_push ..
  have n2 : (tz2 s.heap l m).objs.size = s.heap.objs.size + 2 := by rw [Heap.size_push, n1]
  have n3 : (tzP (tz2 s.heap l m) (.ref s.heap.objs.size) (.ref (tzA s.heap l).objs.size)).objs.size = s.heap.objs.size + 3 := by rw [Heap.size_push, n2]
  have n4 : (tz4 s.heap l m).objs.size = s.heap.objs.size + 4 := by rw [Heap.size_push, n3]
  have g5 : (tz5 s.heap l m).get? (tz4 s.heap l m).objs.size = some _ := Heap.get?_push_size _ rfl
  have up4 : ∀ c o, (tz4 s.heap l m).get? c = some o → (tz5 s.heap l m).get? c = some o := fun c o e => Heap.get?_push_of_some _ e
  have up3 : ∀ c o, (tzP (tz2 s.heap l m) (.ref s.heap.objs.size) (.ref (tzA s.heap l).objs.size)).get? c = some o → (tz5 s.heap l m).get? c = some o := fun c o e => up4 c o (Heap.get?_push_of_some _ e)
  have up2 : ∀ c o, (tz2 s.heap l m).get? c = some o → (tz5 s.heap l m).get? c = some o := fun c o e => up3 c o (Heap.get?_push_of_some _ e)
  have up1 : ∀ c o, (tzA s.heap l).get? c = some o → (tz5 s.heap l m).get? c = some o := fun c o e => up2 c o (Heap.get?_push_of_some _ e)
  have g4 := up4 _ _ (Heap.get?_push_size _ (o := { cls := .type "tuple", data := .seq #[.none, .none] }) rfl)
  have g3 := up3 _ _ (Heap.get?_push_size _ (o := { cls := .type "tuple", data := .seq #[.ref s.heap.objs.size, .ref (tzA s.heap l).objs.size] }) rfl)
  have g2 := up2 _ _ (Heap.get?_push_size _ (o := { cls := .type "tuple_iterator", data := .fields #[.ref m, .int 0 0] }) rfl)
  have g1 := up1 _ _ (Heap.get?_push_size _ (o := { cls := .type "tuple_iterator", data := .fields #[.ref l, .int 0 0] }) rfl)
  show _ ∧ _
  rw [n2, n3, n4] at g5
  rw [n1, n2] at g3
  rw [n3] at g4
  rw [n1] at g2
  rw [n4]
  exact ⟨⟨_, g5, rfl⟩, h _ ⟨g5, g3, ⟨_, _, g4⟩, ⟨_, g1, rfl, rfl⟩, ⟨_, g2, rfl, rfl⟩⟩ fun c o e => up1 c o (Heap.get?_push_of_some _ e)⟩
end
theorem bt_zip : bootBuiltins "zip" = some (.type "zip") := by decide +kernel
noncomputable def iZip (K : PySem.W.Frag) (ta : TA) : TI := fun σ H R => ta σ H fun vs H1 => ∃ a b : Addr, vs = [.ref a, .ref b] ∧ (∃ xs, SqT K H1 a xs) ∧ (∃ ys, SqT K H1 b ys) ∧ R (Itz K a b) H1
theorem pi_zip {X : Cx} {K : PySem.W.Frag} {elts : List Expr} {c : Nat} {tpos : Pos} {a b : Expr} {ta : TA} {p pos : Pos} (hK : X.K = K) (hm : X.mg "zip" = none) (ha : PA X [a, b] ta) (hg : Gl X "zip" := by rfl)
    (hs : starEach [a, b] X.env = [(false, eval a X.env), (false, eval b X.env)] := by rfl) (hs2 : starEach [b] X.env = [(false, eval b X.env)] := by rfl) : PI X (.Tuple elts c tpos) (.Call (.Name "zip" p) [a, b] [] pos) (iZip K ta) := by
  intro pins s σ H R I h
  subst hK
  refine Call_ (ld_blt I hg hm bt_zip (PyProof.Rows.callWith_type1 (thn (ha pos pins s σ H _ I h) fun us s1 ⟨vs, H1, I1, r1, q1⟩ => ?_) (by rw [hs, hs2]) (by rw [hs2]; rfl)))
  obtain ⟨l, m, e, ⟨xs, hx⟩, ⟨ys, hy⟩, q⟩ := q1
  subst e
  cases r1 with
  | cons r rr =>
    cases rr with
    | cons r' rr =>
      cases rr
      cases r
      cases r'
      obtain ⟨its, rv, pl, hz⟩ := I1.tuple hx
      obtain ⟨jts, rw', pm, hz'⟩ := I1.tuple hy
      refine call_zipT (show s1.heap.IsTuple l its.toArray from pl) (show s1.heap.IsTuple m jts.toArray from pm) fun h' Z k => ?_
      have ll : l < s1.heap.objs.size := by obtain ⟨o, e, _⟩ := pl; exact Heap.lt_size e
      have lm : m < s1.heap.objs.size := by obtain ⟨o, e, _⟩ := pm; exact Heap.lt_size e
      have D : ZipApart (s1.heap.objs.size + 4) (s1.heap.objs.size + 2) (s1.heap.objs.size + 3) s1.heap.objs.size (s1.heap.objs.size + 1) l m := by
        have na : ∀ (n i j : Nat), i ≠ j → n + i ≠ n + j := fun n i j h => by omega
        have nl : ∀ (n k i : Nat), k < n → k ≠ n + i := fun n k i h => by omega
        exact ⟨na _ 2 4 (by decide), na _ 3 4 (by decide), na _ 0 4 (by decide), na _ 1 4 (by decide), na _ 2 3 (by decide), na _ 2 0 (by decide), na _ 2 1 (by decide), na _ 3 0 (by decide), na _ 3 1 (by decide), na _ 0 1 (by decide),
          nl _ _ 4 ll, nl _ _ 3 ll, nl _ _ 0 ll, nl _ _ 1 ll, nl _ _ 4 lm, nl _ _ 3 lm, nl _ _ 0 lm, nl _ _ 1 lm⟩
      refine wpAny_pyIter_zip Z.hz ⟨_, _, _, _, H1, rfl, I1.kept (t' := s1.toks) k, turn_zip D, Z, fun b hb => ?_, q⟩
      have hb' : s1.heap.objs.size ≤ b := by
        simp only [List.mem_cons, List.not_mem_nil, or_false] at hb
        rcases hb with e | e | e | e | e <;> rw [e] <;> first | exact Nat.le_add_right _ _ | exact Nat.le_refl _
      exact I1.fpOk hb' (I1.hok.fresh hb')
end L2

namespace L2
open PySem PySem.Spec PyProof.Rows

section
variable {κ : Type} [DecidableEq κ]
noncomputable def addU (l : List κ) (k : κ) : List κ := if k ∈ l then l else l ++ [k]
noncomputable def uniq (ks : List κ) : List κ := ks.foldl addU []
theorem uniq_snoc (ks : List κ) (k : κ) : uniq (ks ++ [k]) = addU (uniq ks) k := by unfold uniq; rw [List.foldl_append]; rfl
theorem mem_addU {l : List κ} {k x : κ} : x ∈ addU l k ↔ x ∈ l ∨ x = k := by
  unfold addU
  split
  · rename_i h
    exact ⟨.inl, fun q => q.elim id fun e => e ▸ h⟩
  · simp
theorem addU_len (l : List κ) (k : κ) : (addU l k).length = if k ∈ l then l.length else l.length + 1 := by
  unfold addU; split <;> simp
theorem foldU_le : ∀ (ks l : List κ), (ks.foldl addU l).length ≤ l.length + ks.length
  | [], l => Nat.le_refl _
  | k :: r, l => by
    have h := foldU_le r (addU l k)
    have e := addU_len l k
    rw [List.foldl_cons, List.length_cons]
    split at e <;> omega
theorem uniq_le (ks : List κ) : (uniq ks).length ≤ ks.length := by have := foldU_le ks []; simpa [uniq] using this
theorem foldU_lt : ∀ (ks l : List κ), (∃ k ∈ ks, k ∈ l) ∨ ¬ ks.Nodup → (ks.foldl addU l).length < l.length + ks.length
  | [], l, h => by rcases h with ⟨k, hk, _⟩ | h; cases hk; exact absurd List.nodup_nil h
  | k :: r, l, h => by
    rw [List.foldl_cons, List.length_cons]
    by_cases hk : k ∈ l
    · have e : (addU l k).length = l.length := by rw [addU_len, if_pos hk]
      have := foldU_le r (addU l k)
      omega
    · have e : (addU l k).length = l.length + 1 := by rw [addU_len, if_neg hk]
      have := foldU_lt r (addU l k) (by
        rcases h with ⟨x, hx, hl⟩ | h
        · rcases List.mem_cons.mp hx with rfl | hx
          · exact absurd hl hk
          · exact .inl ⟨x, hx, mem_addU.mpr (.inl hl)⟩
        · rw [List.nodup_cons] at h
          by_cases hr : k ∈ r
          · exact .inl ⟨k, hr, mem_addU.mpr (.inr rfl)⟩
          · exact .inr fun q => h ⟨hr, q⟩)
      omega
theorem foldU_eq : ∀ (ks l : List κ), ks.Nodup → (∀ k ∈ ks, k ∉ l) → (ks.foldl addU l).length = l.length + ks.length
  | [], l, _, _ => rfl
  | k :: r, l, h, hd => by
    rw [List.foldl_cons, List.length_cons]
    have hk : k ∉ l := hd k List.mem_cons_self
    have e : (addU l k).length = l.length + 1 := by rw [addU_len, if_neg hk]
    rw [List.nodup_cons] at h
    have := foldU_eq r (addU l k) h.2 fun x hx q => (mem_addU.mp q).elim (hd x (List.mem_cons_of_mem _ hx)) fun e => h.1 (e ▸ hx)
    omega
theorem uniq_all (ks : List κ) : ((uniq ks).length = ks.length) ↔ ks.Nodup := by
  constructor
  · intro h
    by_cases q : ks.Nodup
    · exact q
    · have := foldU_lt ks [] (.inr q)
      unfold uniq at h
      simp at this
      omega
  · intro h
    have := foldU_eq ks [] h fun _ _ q => nomatch q
    simpa [uniq] using this
end

section
variable {prog : Program} {w : World} {κ : Type} [DecidableEq κ] {knd : PySem.KeyKind prog w κ} {A : Around}
noncomputable abbrev SetIs (knd : PySem.KeyKind prog w κ) (h : Heap) (a : Addr) (ks : List κ) : Prop := h.SetOf knd a (fun k => decide (k ∈ uniq ks)) (uniq ks).length
theorem SetIs.at' {h h' : Heap} {a : Addr} {ks : List κ} (q : SetIs knd h a ks) (k : ∀ o, h.get? a = some o → h'.get? a = some o) : SetIs knd h' a ks := by
  obtain ⟨o, es, ep, t, ho, r⟩ := q
  exact ⟨o, es, ep, t, k o ho, r⟩
theorem set_loop {R : Result → Shared → Prop} {it D : Addr} {fp wr : List Addr} {G : Array GenState → Array GenState → Prop} {ks : List κ} {P : Nat → Value → Prop} {St : Nat → Shared → Prop}
    (W : WalksS prog w A.in1 it fp wr G ks.length P St) (hD : D ∉ fp) (hP : ∀ i v, P i v → ∃ k, ks[i]? = some k ∧ knd.is k v = true ∧ v.scannable = true) (hb : ks.length + 1 < scanBound) :
    ∀ (m i : Nat) (s : Shared), ks.length - i = m → i ≤ ks.length → St i s → SetIs knd s.heap D (ks.take i) →
      (∀ s', Moved (D :: wr) G s s' → SetIs knd s'.heap D ks → R (.ok (.ret .none)) s') → codeAny (model prog w) A (.builtin "set.update.loop" ⟨[.ref D, .ref it], []⟩) R s := by
  have hDw : D ∉ wr := fun q => hD (W.sub _ q)
  have hin : ∀ b ∈ wr, b ∈ D :: wr := fun b q => List.mem_cons_of_mem _ q
  intro m
  induction m with
  | zero =>
    intro i s hm hi st hS hR
    have e : i = ks.length := by omega
    subst e
    rw [List.take_length] at hS
    refine codeAny_builtin PyProof.Rows.F.entry_set_update_loop ?_
    rw [Around.under_plainId PyProof.Rows.F.plain_set_update_loop _]
    show wpAny (model prog w) A.in1 (pyNext (.ref it) >>= _) _ _ s
    exact wpAny_bind (W.done s _ _ st fun s' mv => wpAny_pure (hR s' (mv.mono hin) (hS.at' fun o q => mv.heap D o hDw q)))
  | succ m ih =>
    intro i s hm hi st hS hR
    have lt : i < ks.length := by omega
    refine codeAny_builtin PyProof.Rows.F.entry_set_update_loop ?_
    rw [Around.under_plainId PyProof.Rows.F.plain_set_update_loop _]
    show wpAny (model prog w) A.in1 (pyNext (.ref it) >>= _) _ _ s
    refine wpAny_bind (W.item i s _ _ lt st fun v s1 pv st1 mv => ?_)
    obtain ⟨k, hk, hkv, hsc⟩ := hP i v pv
    have hS1 : SetIs knd s1.heap D (ks.take i) := hS.at' fun o q => mv.heap D o hDw q
    show wpAny (model prog w) A.in1 (holding [v] (setAdd D v) >>= _) _ _ s1
    refine wpAny_bind (wpAny_holding ?_)
    unfold setAdd
    refine wpAny_holding (wpAny_bind (knd.pyHash hkv ?_))
    have few : (uniq (ks.take i)).length + 1 < scanBound := by
      have h1 := uniq_le (ks.take i)
      rw [List.length_take] at h1
      omega
    refine wpAny_setAddHashed_of (knd := knd) (s := { s1 with toks := s1.toks + 1 }) hkv hsc hS1 few fun h2 sb hS2 => ?_
    have hS3 : SetIs knd h2 D (ks.take (i + 1)) := by
      have e : ks.take (i + 1) = ks.take i ++ [k] := by rw [List.take_add_one, hk]; rfl
      unfold SetIs
      rw [e, uniq_snoc]
      refine SetOf_congr hS2 (fun x => ?_) ?_
      · rw [Bool.eq_iff_iff, Bool.or_eq_true, decide_eq_true_eq, decide_eq_true_eq, decide_eq_true_eq, mem_addU]
      · rw [addU_len]
        by_cases q : k ∈ uniq (ks.take i) <;> simp [q]
    refine wpAny_pure ⟨plainId_quiet PyProof.Rows.F.plain_set_update_loop _, ih (i + 1) _ (by omega) lt (W.frame _ s1 _ _ st1 (Nat.le_succ _) fun b q o e => ?_) hS3 fun s3 mv3 hS4 => ?_⟩
    · rw [sb.2 b fun z => hD (z ▸ q)]
      exact e
    · refine hR s3 (Moved.trans W.gtrans ((mv.mono hin).then_heap (Nat.le_succ _) fun b o q e => ?_) mv3) hS4
      rw [sb.2 b fun z => q (z ▸ List.mem_cons_self)]
      exact e
end

section
variable {prog : Program} {w : World} {κ : Type} [DecidableEq κ] {knd : PySem.KeyKind prog w κ} {A : Around} {E : Value → Shared → Prop} {s : Shared}
noncomputable abbrev setNew (led : Bool) : Obj := { cls := .type "set", dict := none, data := .set #[] 0 (.fresh 0 0 led) }
theorem call_setT {t : Addr} {items : Array Value} {ks : List κ} {Q : Value → Shared → Prop} (nh : A.handled = none) (ht : s.heap.IsTuple t items) (hlen : items.size = ks.length)
    (hk : ∀ (i : Nat) (v : Value), items[i]? = some v → ∃ k, ks[i]? = some k ∧ knd.is k v = true ∧ v.scannable = true) (few : ks.length + 1 < scanBound)
    (h : ∀ (h' : Heap) (tk : Nat), SetIs knd h' s.heap.objs.size ks → (∀ b o, s.heap.get? b = some o → h'.get? b = some o) → Q (.ref s.heap.objs.size) { s with heap := h', toks := tk }) :
    wpAny (model prog w) A (call (.type "set") [.ref t]) Q E s := by
  obtain ⟨c1, c2, mro⟩ := F.called_set.mro
  have made := F.called_set.made
  have sub := F.called_set.sub
  refine wpAny_call (codeAny_of_tree ?_)
  show wpAny (model prog w) _ (callAny (.type "set") _) _ _ _
  refine wpAny_pure ⟨Code.quiet_builtin _ (by decide +kernel), codeAny_builtin F.entry_type_call ?_⟩
  rw [Around.under_plain (weight_type_call_type "set" [.ref t] []) rfl]
  have n1 := F.called_set.notType
  have n2 := F.called_set.canCreate
  have n3 := F.typeCall_set_1 (.ref t)
  repeat (any_goals (first | assumption | wp_step))
  refine codeAny_mono (code_set_new_1 (.ref t) (E := E) (Q₁ := fun ob s1 => ∃ led : Bool, ob = .ref s.heap.objs.size ∧ s1 = { s with heap := s.heap.push (setNew led) }) fun led => ⟨led, rfl, rfl⟩) fun r s1 q => ?_
  cases r with
  | error e => exact q
  | ok f1 =>
    cases f1 with
    | ret ob =>
      obtain ⟨led, rfl, rfl⟩ := q
      have new : (s.heap.push (setNew led)).get? s.heap.objs.size = some (setNew led) := Heap.get?_push_size _ rfl
      have hty : Shared.TypeIs { s with heap := s.heap.push (setNew led) } (.ref s.heap.objs.size) "set" := ⟨_, new, rfl⟩
      have i1 := F.called_set.init.lookup
      have i2 := F.called_set.init.bind (.ref s.heap.objs.size)
      repeat (any_goals (first | assumption | wp_step))
      refine codeAny_mono (codeAny_call_builtin (R := wants (fun r s2 => r = .none ∧ ∃ h' tk, s2 = { s with heap := h', toks := tk } ∧ SetIs knd h' s.heap.objs.size ks ∧ ∀ b o, s.heap.get? b = some o → h'.get? b = some o) E)
        F.called_set.init.plain F.entry_set_init (check_set_init_1 hty ?_)) fun r2 s2 q2 => ?_
      · obtain ⟨⟨oc, od, odt, osl⟩, ho, hc, n, hd⟩ := ht
        simp only at hc hd
        subst hc
        subst hd
        have ho1 : (s.heap.push (setNew led)).get? t = some { cls := .type "tuple", dict := od, data := .seq items n, slots := osl } := Heap.get?_push_of_some _ ho
        have j1 := F.sub_tuple_set
        have j2 := F.sub_tuple_frozenset
        have j3 : (Value.type "tuple" == Value.type "dict") = false := by decide
        have ht1 : (s.heap.push (setNew led)).IsTuple t items := ⟨_, ho1, rfl, n, rfl⟩
        unfold Builtin.«set.__init__» noKeywords Builtin.Frozenset.updateFrom
        generalize hPI : pyIter = PI
        wp_walk
        subst hPI
        refine wpAny_pyIter_tuple ht1 (wpAny_bind (wpAny_runValue ?_))
        have lt : t < s.heap.objs.size := Heap.lt_size ho
        have nh3 : A.in1.in1.in1.handled = none := by simp [nh]
        have zs : (s.heap.push (setNew led)).objs.size = s.heap.objs.size + 1 := Heap.size_push ..
        have ne1 : t ≠ (s.heap.push (setNew led)).objs.size := by rw [zs]; exact Nat.ne_of_lt (Nat.lt_succ_of_lt lt)
        have out : s.heap.objs.size ∉ [(s.heap.push (setNew led)).objs.size, t] := by
          rw [zs, List.mem_cons, List.mem_singleton, not_or]
          exact ⟨Nat.ne_of_lt (Nat.lt_succ_self _), Nat.ne_of_gt lt⟩
        have Wk := (Walks.tuple (prog := prog) (w := w) nh3 _ t ne1 items).toS
        rw [hlen] at Wk
        refine set_loop (knd := knd) (ks := ks) Wk out hk few (ks.length - 0) 0 _ rfl (Nat.zero_le _) ⟨⟨_, Heap.get?_push_size _ rfl, rfl, rfl⟩, ?tup⟩ ?start ?fin
        case tup =>
          exact ⟨_, Heap.get?_push_of_some _ ho1, rfl, n, rfl⟩
        case start =>
          exact SetOf_congr ((setObjOf_fresh (knd := knd) led).setOf (Heap.get?_push_of_some _ new) (by unfold scanBound; omega)) (fun _ => rfl) rfl
        case fin =>
          intro s' mv hS
          obtain ⟨h', g', d', tk', os'⟩ := s'
          have e1 : g' = s.gens := mv.gens
          have e2 : d' = s.drawn := mv.drawn
          have e3 : os' = s.os := mv.os
          subst e1
          subst e2
          subst e3
          refine wpAny_pure (wpAny_pure ⟨rfl, h', tk', rfl, hS, fun b o e => ?_⟩)
          have lb := Heap.lt_size e
          refine mv.heap b o ?_ (Heap.get?_push_of_some _ (Heap.get?_push_of_some _ e))
          rw [List.mem_cons, List.mem_singleton, not_or, zs]
          exact ⟨Nat.ne_of_lt lb, Nat.ne_of_lt (Nat.lt_succ_of_lt lb)⟩
      · cases r2 with
        | error e => exact q2
        | ok f2 =>
          cases f2 with
          | ret r =>
            obtain ⟨rfl, h', tk, rfl, hS, kk⟩ := q2
            repeat (any_goals (first | assumption | wp_step))
            exact h _ _ hS kk
          | _ => exact q2.elim
    | _ => exact q.elim
end

end L2

namespace L2
open PySem PySem.Spec PyProof.Rows
noncomputable def setO (P : Program) (w : World) (a : Addr) (ks : List Str) : HO := .ext fun h => SetIs (mixKind P w) h a (ks.map fun k => (Sum.inr k : Key))
section
variable {X : Cx}
theorem call_setS {K : PySem.W.Frag} (hK : X.K = K) (hc : X.calm = true) : CallR X (.type "set") (fun xs H Q => ∃ (a : Addr) (ks : List Str), xs = [.ref a] ∧ SqT K H a (ks.map V.str) ∧ ks.length ≤ 100 ∧ ∀ p, H p = none → Q (.ref p) (upd H p (setO X.prog X.w p ks))) := by
  intro pins s σ H xs us Q I r h
  subst hK
  obtain ⟨a, ks, rfl, hq, hl, q⟩ := h
  obtain ⟨u, rfl, ru⟩ := vals1 r
  cases ru
  obtain ⟨its, rv, p, hz⟩ := I.tuple hq
  have e := rv.length
  rw [List.length_map] at e
  refine call_setT (knd := mixKind X.prog X.w) (ks := ks.map fun k => (Sum.inr k : Key)) (I.ok.hd hc) (show s.heap.IsTuple a its.toArray from p) (by simp [e]) (fun i v hv => ?_) (by simp [scanBound]; omega) fun h' tk hS kk => ?_
  · have hv' : its[i]? = some v := by simpa using hv
    cases hx : ks[i]? with
    | none =>
      have : its[i]? = none := rv.none_of (by rw [List.getElem?_map, hx]; rfl)
      rw [this] at hv'
      cases hv'
    | some x =>
      obtain ⟨v', e1, r1⟩ := rv.get (i := i) (x := .str x) (by rw [List.getElem?_map, hx]; rfl)
      rw [hv'] at e1
      cases e1
      obtain ⟨t, rfl⟩ := r1
      exact ⟨Sum.inr x, by rw [List.getElem?_map, hx]; rfl, mixKind_str _ _ _ _, rfl⟩
  · have fr : H s.heap.objs.size = none := I.hok.fresh (Nat.le_refl _)
    refine ⟨.ref s.heap.objs.size, _, I.laid (o := setO X.prog X.w s.heap.objs.size ks) (t' := tk) kk (Nat.le_refl _) ⟨hS, ?_, fun h1 h2 q1 k => q1.at' k⟩, rfl, q _ fr⟩
    obtain ⟨o, _, _, _, ho, _⟩ := hS
    exact ⟨o, ho⟩
theorem call_lenS : CallR X (.builtin "len") (fun xs H Q => ∃ (a : Addr) (ks : List Str), xs = [.ref a] ∧ H a = some (setO X.prog X.w a ks) ∧ ks.length ≤ 100 ∧ Q (.int ((uniq ks).length : Nat)) H) := by
  intro pins s σ H xs us Q I r h
  obtain ⟨a, ks, rfl, ha, hl, q⟩ := h
  obtain ⟨u, rfl, ru⟩ := vals1 r
  cases ru
  obtain ⟨⟨o, es, ep, t, ho, hex, hd, _, _, hb, hf, hn⟩, _⟩ := I.hok a _ ha
  have inj : ∀ ks : List Str, (uniq (ks.map fun k => (Sum.inr k : Key))).length = (uniq ks).length := fun ks => by
    have gen : ∀ (ks l : List Str), ((ks.map fun k => (Sum.inr k : Key)).foldl addU (l.map fun k => (Sum.inr k : Key))) = (ks.foldl addU l).map fun k => (Sum.inr k : Key) := by
      intro ks
      induction ks with
      | nil => intro l; rfl
      | cons k r ih =>
        intro l
        rw [List.map_cons, List.foldl_cons, List.foldl_cons, ← ih]
        congr 1
        unfold addU
        by_cases h : k ∈ l <;> simp [h]
    have g := gen ks []
    unfold uniq
    rw [List.map_nil] at g
    rw [g, List.length_map]
  rw [inj] at hn
  have hle := uniq_le ks
  refine call_len_set ho hex hd hf (by omega) ⟨.int es.size, H, I.tok _, ⟨_, rfl⟩, ?_⟩
  rw [hn]
  exact q
end
end L2

namespace L2
open PySem PySem.Spec PyProof.Rows

section
variable {X : Cx} {K : PySem.W.Frag} {x : Str} {pos : Pos}
theorem pt_k {a : Expr} {ta : TE} (hK : X.K = K) (ha : PE X a ta) (he : ∀ whole, isTrue a X.env whole = (do let v ← whole; standAt a.pos; holding [v] (truthy v)) := by intro _; rfl) :
    PT X a (fun σ H Q => ta σ H fun x H' => ∃ k, TruV K x H' k ∧ Q k H') := hK ▸ pt_truth ha he
noncomputable def tGT (K : PySem.W.Frag) (l : List Str) : TE := fun _ H Q => ∀ a, (∀ H : Hp, SqT K H a (l.map V.str)) → Q (.ref a) H
theorem pe_gT {l : List Str} (h : ∃ a, X.mg x = some (.ref a) ∧ ∀ H : Hp, SqT K H a (l.map V.str)) (hg : Gl X x := by rfl) (hd : (x == ("__debug__" : Str)) = false := by decide) : PE X (.Name x pos) (tGT K l) := by
  obtain ⟨a, m, q⟩ := h
  intro pins s σ H Q I h
  exact pe_glob (v := .ref a) hg m rfl hd pins s σ H Q I (h a q)
theorem str_k (hK : X.K = K) (hg : X.A.guards = some []) (hu : X.A.units + 80 < cLine) : CallR X (.type "str") (fun xs H Q => ∃ (a : Addr) (d : PyData), xs = [.ref a] ∧ Rep K H (.ref a) d ∧ d.showable = true ∧ d.hasDict = false ∧ d.depth ≤ 64 ∧ d.shown.length ≤ sizeLine ∧ Q (.str d.shown) H) := by
  intro pins s σ H xs us Q I r h
  subst hK
  obtain ⟨a, d, rfl, hr, hs, hd, hdp, hz, q⟩ := h
  obtain ⟨u, rfl, ru⟩ := vals1 r
  obtain ⟨as, rd⟩ := hr.reads I ru
  cases ru
  exact str_of_reads rd hs (fun z => by rw [hd] at z; cases z) hg (by omega) (fun _ _ e => e) (fun h' u tk kk => ⟨.str d.shown, H, I.kept kk, ⟨u, rfl⟩, q⟩) hz
noncomputable def tyD : PyData → String
  | .none => "NoneType"
  | .bool _ => "bool"
  | .int _ => "int"
  | .str _ => "str"
  | .list _ => "list"
  | .tuple _ => "tuple"
  | .dict _ => "dict"
theorem isiD_k (hK : X.K = K) : CallR X (.builtin "isinstance") (fun xs H Q => ∃ x d T, xs = [x, .ty T] ∧ Rep K H x d ∧ T ∈ ["bool", "int", "str", "list", "tuple"] ∧ Q (.bl (isi (tyD d) T)) H) := by
  intro pins s σ H xs us Q I r h
  subst hK
  obtain ⟨x, d, T, rfl, hr, hT, q⟩ := h
  obtain ⟨u, w', rfl, ru, rw'⟩ := vals2 r
  cases (show w' = Value.type T from rw')
  have fin : ∀ tk b, b = isi (tyD d) T → EP X pins σ Q (.bool b) { s with toks := tk } := fun tk b e => ⟨.bl _, H, I.tok tk, rfl, e ▸ q⟩
  cases hr with
  | non => exact isinst_ok I ru .non (kit_tab (by decide) hT) fun tk => fin tk _ rfl
  | bl b => exact isinst_ok I ru (.bl b) (kit_tab (by decide) hT) fun tk => fin tk _ rfl
  | int i => exact isinst_ok I ru (.int i) (kit_tab (by decide) hT) fun tk => fin tk _ rfl
  | str y => exact isinst_ok I ru (.str y) (kit_tab (by decide) hT) fun tk => fin tk _ rfl
  | @lst a xs ds hq _ =>
    cases (show u = Value.ref a from ru)
    obtain ⟨its, _, ⟨o, n, e, hc, _⟩, _⟩ := I.list hq
    exact PySem.W.kia_one PySem.W.kitx_list I.kIn ⟨o, e, hc⟩ (kit_tab (t := "list") (by decide) hT) (fun z => nomatch z) fun tk => fin tk _ rfl
  | @tup a xs ds hq _ =>
    cases (show u = Value.ref a from ru)
    obtain ⟨its, _, ⟨o, e, hc, _⟩, _⟩ := I.tuple hq
    exact PySem.W.kia_one PySem.W.kitx_tuple I.kIn ⟨o, e, hc⟩ (kit_tab (t := "tuple") (by decide) hT) (fun z => nomatch z) fun tk => fin tk _ rfl
end
end L2

namespace L2
open PySem PySem.Spec PyProof.Rows
structure Stay (st : Addr) (H H' : Hp) : Prop where
  at0 : ∃ kvs, H st = some (.dK kvs)
  at1 : ∃ kvs, H' st = some (.dK kvs)
  rest : ∀ b o, b ≠ st → H b = some o → H' b = some o
section
variable {K : PySem.W.Frag} {st : Addr} {H H' H2 : Hp}
theorem Stay.put {kvs ks : List (Key × V)} (h : H st = some (.dK kvs)) : Stay st H (upd H st (.dK ks)) := ⟨⟨kvs, h⟩, ⟨ks, upd_same⟩, fun b o n e => by rw [upd_ne n]; exact e⟩
theorem Stay.trans (a : Stay st H H') (b : Stay st H' H2) : Stay st H H2 := ⟨a.at0, b.at1, fun c o n e => b.rest c o n (a.rest c o n e)⟩
theorem Stay.then (a : Stay st H H') (g : Same H' H2) : Stay st H H2 := ⟨a.at0, let ⟨k, e⟩ := a.at1; ⟨k, g _ _ e⟩, fun c o n e => g c o (a.rest c o n e)⟩
theorem Stay.ne (a : Stay st H H') {b : Addr} {o : HO} (e : H b = some o) (hd : ∀ kvs, o ≠ .dK kvs) : b ≠ st := fun z => by
  obtain ⟨k, q⟩ := a.at0
  rw [z, q] at e
  exact hd k (Option.some.inj e).symm
theorem Stay.rd (a : Stay st H H') {b : Addr} {o : HO} (hd : ∀ kvs, o ≠ .dK kvs) (h : Rd H b o) : Rd H' b o := by
  rcases h with h | ⟨ob, h⟩
  · exact .inl (a.rest _ _ (a.ne h hd) h)
  · exact .inr ⟨ob, a.rest _ _ (a.ne h (fun kvs z => by cases z)) h⟩
theorem Stay.sqL (a : Stay st H H') {b : Addr} {xs : List V} (h : SqL K H b xs) : SqL K H' b xs := by
  rcases h with h | h
  · exact .inl (a.rd (fun kvs z => by cases z) h)
  · exact .inr h
theorem Stay.sqT (a : Stay st H H') {b : Addr} {xs : List V} (h : SqT K H b xs) : SqT K H' b xs := by
  rcases h with h | h
  · exact .inl (a.rd (fun kvs z => by cases z) h)
  · exact .inr h
mutual
theorem Rep.stay (a : Stay st H H') : ∀ {x : V} {d : PyData}, Rep K H x d → Rep K H' x d
  | _, _, .non => .non
  | _, _, .bl b => .bl b
  | _, _, .int i => .int i
  | _, _, .str x => .str x
  | _, _, .lst h r => .lst (a.sqL h) (Reps.stay a r)
  | _, _, .tup h r => .tup (a.sqT h) (Reps.stay a r)
theorem Reps.stay (a : Stay st H H') : ∀ {xs : List V} {ds : List PyData}, Reps K H xs ds → Reps K H' xs ds
  | _, _, .nil => .nil
  | _, _, .cons h t => .cons (Rep.stay a h) (Reps.stay a t)
end
end
end L2

namespace L2
open PySem PySem.Spec PyProof.Rows
structure FnOkG (P : Program) (w : World) (K : PySem.W.Frag) (mg : Str → Option Value) (base : Heap) (CX : CXT) (k : Nat) (f : Addr) (fd : FuncData) (ps : List Str) (sp : Sp) : Prop where
  len : ∀ vs H Q E, sp vs H Q E → vs.length = ps.length
  run : ∀ (A : Around) (outer : List Env) (s : Shared) (H : Hp) (args : Args) (us : List Value) (vs : List V) (Q : VK) (E : XK), Room k A → A.guards = some [] → Env0 P w K mg base A outer s H → BindsTo s fd args (ps.zip us) → Vals vs us → sp vs H Q E →
    codeAny (model P w) A (.call (.ref f) args) (CR CX outer P w H s Q E) s
theorem fn_ofG {CX : CXT} {P : Program} {w : World} {K : PySem.W.Frag} {mg : Str → Option Value} {base : Heap} {k : Nat} {f : Addr} {name qual : Str} {params : Arguments} {body : List Stmt} {scope : Scope} {dV kV doc pm cdv ct oc : Value} {an od : Option Addr}
    {osl : Array (Option Value)} {N ps : List Str} {sp : Sp} (lk : K.lookup f = some ⟨oc, od, .func (PySem.W.fnOf name qual params body scope dV kV doc pm an cdv ct), osl⟩) (hcd : PySem.W.codeIn K cdv qual = true) (S : FnScope N ps scope)
    (len : ∀ vs H Q E, sp vs H Q E → vs.length = ps.length)
    (hbody : ∀ (A : Around) (outer : List Env) (s : Shared) (H : Hp) (vs : List V) (Q : VK) (E : XK), A.guards = some [] → Room k (A.deeper (envOfC qual scope s.heap.objs.size f cdv)) → sp vs H Q E →
      ∃ t, PSs (cxOf CX P w K mg base N qual scope f cdv A outer s H E) body t ∧ t { nx := fun _ H' => Q .non H', rt := Q } (start N vs) H) :
    FnOkG P w K mg base CX (k + 1) f (PySem.W.fnOf name qual params body scope dV kV doc pm an cdv ct) ps sp := by
  refine ⟨len, fun A outer s H args us vs Q E hr hgd e0 hb r hsp => ?_⟩
  have hl := len _ _ _ _ hsp
  have KX : K.In s.heap := e0.mod.kin.keeps fun b o e => (e0.bs b o e).1
  have lim : s.heap.NoLimit := e0.mod.nolimit.keeps fun b o e => (e0.bs b o e).1
  have hkind : ∀ y ∈ ps.zip us, scope.names.lookup y.1 = some .local ∨ (scope.names.lookup y.1 = some .cell ∧ ((cellsFrom (s.heap.objs.size + 1) scope.names []).lookup y.1).isSome = true) := fun ⟨n, v⟩ hy => by
    rcases S.par n (List.of_mem_zip hy).1 with q | q
    · exact .inl q
    · exact .inr ⟨q, PySem.W.cellsFrom_some _ _ _ (.inl q)⟩
  refine codeAny_call_function hr.depth (KX _ _ lk) rfl S.co S.gen rfl (PySem.W.codeRec_of KX hcd) (hb _ _ _ _ ?_)
  refine wpAny_newFunctionEnv_cells S.kind hkind fun env he s1 x => ?_
  subst he
  refine ⟨lim.keeps x.toInCall.keep, codeAny_func ?_⟩
  obtain ⟨t, ht, hq⟩ := hbody A outer s H vs Q E hgd (hr.deeper _) hsp
  have I : Inv (cxOf CX P w K mg base N qual scope f cdv A outer s H E) [] (start N vs) H s1 := inv_start S hr.hd e0 hl r x
  refine wpAny_mono (ht [] s1 (start N vs) H _ I hq) (fun fl s' hs => ?_) fun e s' hs => hs
  have fin : ∀ {σ' : St} {H' : Hp} {v : V} {u : Value}, Inv (cxOf CX P w K mg base N qual scope f cdv A outer s H E) [] σ' H' s' → RelV v u → Q v H' → CE outer P w H s Q u s' :=
    fun {σ' H' v u} J rv q => ⟨v, H', J.os, J.bare, J.base, J.hok, rv, q⟩
  cases fl with
  | ret u =>
    obtain ⟨v, σ', H', J, rv, q⟩ := hs
    exact fin J rv q
  | next =>
    obtain ⟨σ', H', J, q⟩ := hs
    exact fin (v := V.non) (u := Value.none) J rfl q
  | brk =>
    obtain ⟨_, _, _, q⟩ := hs
    exact False.elim q
  | cont =>
    obtain ⟨_, _, _, q⟩ := hs
    exact False.elim q
theorem law_callG {P : Program} {w : World} {K : PySem.W.Frag} {mg mb : Str → Option Value} {CX : CXT} {k : Nat} {fa a : Addr} {fd : FuncData} {x : Str} {sp : Sp} {s₁ : Shared} {vs : List Value} {ns : List Int}
    (KX : K.In s₁.heap) (hns : s₁.heap.Ns mainGlobals mg) (hb : s₁.heap.Ns builtinsNs mb) (hbb : ∀ x : Str, x ≠ "__name__" → mb x = bootBuiltins x) (hlim : s₁.heap.NoLimit) (hg : s₁.gens = #[])
    (ha : s₁.heap.get? a = some { cls := .type "list", data := .seq vs.toArray }) (hi : IntsAre vs ns) (hl : ns.length ≤ sizeLine) (hr : Room k callerA)
    (F : ∀ base : Heap, K.In base → base.Ns mainGlobals mg → FnOkG P w K mg base CX k fa fd [x] sp) (hbind : ∀ (s : Shared) (u : Value), BindsTo s fd ⟨[u], []⟩ [(x, u)])
    (hsp : ∀ H : Hp, Only H → SqL K H a (ns.map V.int) → sp [.ref a] H (fun v _ => v = .bl true) fun _ _ _ => False)
    (hCX : ∀ H e s', CX [] H s₁ (fun _ _ _ => False) e s' → False) :
    codeAny (model P w) callerA (.call (.ref fa) ⟨[.ref a], []⟩) (fun r s' => r = .ok (.ret (.bool true)) ∧ OldK s₁.heap s'.heap ∧ s'.os = s₁.os ∧ AllBare s'.gens) s₁ := by
  have rv := vals_ints hi
  have lenV := hi.length
  -- from an abstract heap in which nothing but the script may be tracked
  have core : ∀ H : Hp, Only H → SqL K H a (ns.map V.int) → HOk P w H s₁.heap → (∀ b, H b ≠ none → b = a) → (H a ≠ none → K.lookup a = none) →
      codeAny (model P w) callerA (.call (.ref fa) ⟨[.ref a], []⟩) (fun r s' => r = .ok (.ret (.bool true)) ∧ OldK s₁.heap s'.heap ∧ s'.os = s₁.os ∧ AllBare s'.gens) s₁ := by
    intro H hO hS hok hA hK
    have base_of : ∀ {b : Addr} {o : Obj}, s₁.heap.get? b = some o → H b = none → (hidT s₁.heap H).get? b = some o := fun e n => hidT_get e n
    have noA : ∀ {b : Addr} {o : Obj} {es : Array DictEntry} {ep : Nat}, s₁.heap.get? b = some o → o.data = .dict es ep → H b = none := fun {b o es ep} e d => by
      cases q : H b with
      | none => rfl
      | some u =>
        have e' : b = a := hA b (by rw [q]; simp)
        subst e'
        rw [ha] at e; cases e
        have d' : Data.seq vs.toArray _ = Data.dict es ep := d
        cases d'
    have nsK : ∀ {b : Addr} {m : Str → Option Value}, s₁.heap.Ns b m → (hidT s₁.heap H).Ns b m := fun {b m} ⟨o, es, ep, e, d, r⟩ => ⟨o, es, ep, base_of e (noA e d), d, r⟩
    have hKb : K.In (hidT s₁.heap H) := fun b o e => base_of (KX b o e) (by
      cases q : H b with
      | none => rfl
      | some u =>
        have e' : b = a := hA b (by rw [q]; simp)
        subst e'
        rw [hK (by rw [q]; simp)] at e; cases e)
    have hM : Mod K mg (hidT s₁.heap H) := ⟨hKb, nsK hns, ⟨mb, nsK hb, hbb⟩, let ⟨mc, h1, h2⟩ := hlim; ⟨mc, nsK h1, h2⟩⟩
    have e0 : Env0 P w K mg (hidT s₁.heap H) callerA [] s₁ H := ⟨rfl, hM, fun b o e => of_hidT e, Nat.le_of_eq (hidT_size _ _), trivial, fun b hb => absurd (show b ∈ ([] : List Addr) from hb) (by simp), hok, .of_eq hg⟩
    refine codeAny_mono ((F _ hKb (nsK hns)).run callerA [] s₁ H ⟨[.ref a], []⟩ [.ref a] [.ref a] _ _ hr rfl e0 (hbind s₁ (.ref a)) (.cons rfl .nil) (hsp H hO hS)) fun r s' h => ?_
    cases r with
    | error e => exact (hCX H e s' h).elim
    | ok fl =>
      cases fl with
      | next => exact False.elim h
      | brk => exact False.elim h
      | cont => exact False.elim h
      | ret u =>
        obtain ⟨v, H', os, bare, un, hok', r', q⟩ := h
        have q' : v = .bl true := q
        subst q'
        obtain rfl : u = Value.bool true := r'
        refine ⟨rfl, OldK.of_keep fun b o e => ?_, os, bare⟩
        cases q : H b with
        | none => exact un.keep b o e q (by intro z; exact absurd (show b ∈ ([] : List Addr) from z) (by simp)) (by simp)
        | some u =>
          rcases hO b with z | ⟨ob, xs, z⟩
          · rw [q] at z; cases z
          · have z2 := un.frzs b ob _ z
            obtain ⟨e1, _⟩ := hok b _ z
            obtain ⟨e2, _⟩ := hok' b _ z2
            rw [e] at e1; cases e1
            exact e2
  cases hk : K.lookup a with
  | some o =>
    -- the script is one of the module's own objects
    have e := KX a o hk
    rw [ha] at e
    cases e
    refine core (fun _ => none) (fun _ => .inl rfl) (.inr ⟨_, vs.toArray, _, hk, rfl, rfl, rfl, by rw [List.size_toArray, lenV]; exact hl, by simpa using rv⟩) (fun b u z => by have z' : (none : Option HO) = some u := z; cases z') (fun b z => absurd rfl z) fun z => absurd rfl z
  | none =>
    refine core (fun b => if b = a then some (.frz { cls := .type "list", data := .seq vs.toArray } (.lst (ns.map V.int))) else none) (fun b => ?_) (.inl (.inr ⟨{ cls := .type "list", data := .seq vs.toArray }, if_pos rfl⟩)) (fun b u z => ?_) (fun b z => ?_) fun _ => hk
    · by_cases hb : b = a
      · exact .inr ⟨_, _, if_pos hb⟩
      · exact .inl (if_neg hb)
    · by_cases hb : b = a
      · have z' := (if_pos hb).symm.trans z
        cases z'
        subst hb
        exact ⟨ha, by rw [List.length_map]; exact hl, vs, _, rv, ha⟩
      · have z' := (if_neg hb).symm.trans z
        cases z'
    · by_cases hb : b = a
      · exact hb
      · exact absurd (if_neg hb) z
theorem walk_ofG {l : PySem.W.OpenLaw} {n k : Nat} {q : Program} {loose : List Str} {XP : (Str → Option Value) → Heap → Prop} {YP : World → Heap → Prop} {d : DefRec} {K : Params → PySem.W.Frag} {CX : World → CXT} {sp : World → Sp} {x : Str}
    (hn : l.most = some n) (hn2 : n ≤ sizeLine) (hdf : d.params.defaults = []) (hr : Room k callerA)
    (hY : ∀ (w : World) (h : Heap), YP w h → (K w.params).In h)
    (F : ∀ (w : World) (mg : Str → Option Value) (fa : Addr) (h : Heap), (K w.params).In h → h.Ns mainGlobals mg → mg d.name = some (.ref fa) →
      ∃ fd : FuncData, (∀ (s : Shared) (u : Value), BindsTo s fd ⟨[u], []⟩ [(x, u)]) ∧
        ∀ base : Heap, (K w.params).In base → base.Ns mainGlobals mg → FnOkG l.prog w (K w.params) mg base (CX w) k fa fd [x] (sp w))
    (hsp : ∀ (w : World) (H : Hp) (a : Addr) (ns : List Int), ns.length ≤ n → Only H → SqL (K w.params) H a (ns.map V.int) → sp w [.ref a] H (fun v _ => v = .bl true) fun _ _ _ => False)
    (hCX : ∀ (w : World) (H : Hp) (s : Shared) (e : Value) (s' : Shared), CX w [] H s (fun _ _ _ => False) e s' → False) :
    PySem.W.WalkO q loose XP YP l.row.toRowW d [] (fun f vs => PySem.call f vs) := by
  refine Att.attach_call hn hdf fun w s₀ s₁ mg mb fa o pm cd doc a vs ns G Y ho hd hcd hmg hobj hints hlen hg => ?_
  have KX := hY w _ Y
  obtain ⟨fd, hb, hF⟩ := F w mg fa _ KX G.T.g hmg
  exact law_callG KX G.T.g G.T.b G.T.builtins G.T.nolimit hg hobj hints (Nat.le_trans hlen hn2) hr hF hb (fun H hO hS => hsp w H a ns hlen hO hS) fun H e s' => hCX w H s₁ e s'
end L2

namespace L2
open PySem PySem.Spec PyProof.Rows
section
variable {P : Program} {w : World} {K : PySem.W.Frag} {mg : Str → Option Value} {base : Heap}
theorem Fun.okG {x qual : Str} {st : Stmt} {f : Addr} {fd : FuncData} {N ps : List Str} {k : Nat} {sp : Sp} (F : Fun K x qual st f fd) (S : FnScope N ps (defScope st)) (len : ∀ vs H Q E, sp vs H Q E → vs.length = ps.length)
    (hbody : ∀ (cdv : Value) (A : Around) (outer : List Env) (s : Shared) (H : Hp) (vs : List V) (Q : VK) (E : XK), (A.deeper (envOfC qual (defScope st) s.heap.objs.size f cdv)).guards = some [] → Room k (A.deeper (envOfC qual (defScope st) s.heap.objs.size f cdv)) → sp vs H Q E →
      ∃ t, PSs (cxOf CX0 P w K mg base N qual (defScope st) f cdv A outer s H E).nox (defBody st) t ∧ t { nx := fun _ H' => Q .non H', rt := Q } (start N vs) H) : FnOkG P w K mg base CX0 (k + 1) f fd ps sp := by
  obtain ⟨oc, od, kV, doc, pm, an, cdv, ct, osl, rfl, lk, hcd⟩ := F.ex
  refine fn_ofG lk hcd S len fun A outer s H vs Q E hg hr hsp => ?_
  obtain ⟨t, h, q⟩ := hbody cdv A outer s H vs Q E hg hr hsp
  exact ⟨t, h.nox, q⟩
end
end L2

namespace L2
open PySem PySem.Spec PyProof.Rows
section
variable {X : Cx} {sc scope : Scope} {NX N : List Str} {js : List (Option Nat)} {tg iter elt : Expr} {ifs : List Expr} {wi : TI} {g : TG} {tt : TT} {te : TE} {pos : Pos}
theorem ps_setC {i : Nat} {y : Str} {py spos : Pos} (hN : X.N.Nodup) (hy : X.N[i]? = some y) (hL : Loc X.env.scope y) (hi : PI X tg iter wi) (hg : ∀ cl C fp s H, PG (cxC X scope cl C N fp s H) tg g) (ht : ∀ cl C fp s H, PF (cxC X scope cl C N fp s H) ifs tt)
    (he : ∀ cl C fp s H, PE (cxC X scope cl C N fp s H) elt te) (own : OwnG js g) (ok : CompScope sc scope NX N js) (hsc : X.env.scope = sc := by rfl) (hNX : X.N = NX := by rfl) (hc : X.calm = true := by rfl) (hs : ∀ x, foldedSetIterable iter X.env x = pure x := by intro _; rfl)
    (hsw : swapsWith (.ListComp elt [⟨tg, iter, ifs, 0⟩] scope pos) (some (.Name y py)) spos.line X.env = pure true := by rfl) (hf : X.fn y = true ∨ X.env.scope.names.lookup y = some .local := by first | exact .inl rfl | exact .inr rfl | assumption) :
    PS X (.Assign [.Name y py] (.ListComp elt [⟨tg, iter, ifs, 0⟩] scope pos) spos) (tAsg (tComp wi js g tt te) (gName i)) := by
  intro pins s σ H D I h
  rw [exec_Assign_Name_used _ _ _ _ hsw]
  refine wpAny_bind (wpAny_standAt (wpAny_bind ?_))
  show wpAny _ X.A (do let _ ← comprehension (.ListComp elt [⟨tg, iter, ifs, 0⟩] scope pos) scope X.env _ (newList []) false (eval iter X.env) (some (assign (.Name y py) X.env))) _ _ s
  obtain ⟨cl, hclos, cl1, cl2⟩ := closure_ok (scope := scope) (env := X.env) fun z hz hf => I.ok.has z.1 (by
    have q := ok.free z hz hf
    rw [← hsc] at q
    exact q)
  refine wpAny_bind (wpAny_mono (wpAny_comprehension_free (use := some (assign (.Name y py) X.env)) (Q := fun _ s' => SP X pins D .next s') rfl hs hclos ok.kind ok.names
    (thn (hi pins s σ H _ I h) fun xv s1 h1 => thn h1 fun itv s2 h2 => ?_)) (fun _ s' hq => wpAny_pure (wpAny_pure hq)) fun _ _ e => e)
  obtain ⟨it, fp, tn, J, H2, rfl, I2, T, st2, f2, W, ⟨m0, w0⟩, turn⟩ := h2
  refine comp_core (Q := fun x H1 => gName i x σ H1 D.nx) (RR := fun acc C => compPost (model X.prog X.w) X.A X.xe (some (assign (.Name y py) X.env)) (fun _ s' => SP X pins D .next s') acc C) hsc hNX ok hc I2 cl1 cl2 T st2 f2 (fun C => hg cl C fp s2 H2) (fun C => ht cl C fp s2 H2) (fun C => he cl C fp s2 H2) own w0 turn fun L C m s' Hf I' hn f q => ?_
  obtain ⟨g0, g1, g2, g3, g4, g5⟩ := f
  show wpAny _ X.A (assign (.Name y py) X.env (.ref L)) _ _ _
  refine wpAny_assign_Name (store_ok2 I' hN hy hL (show RelV (.ref L) (.ref L) from rfl) (fun s3 I3 hb => ?_) hf)
  obtain ⟨a, sb, ha⟩ := hb
  have hCa : C ≠ a := by
    rcases ha with rfl | ha
    · exact g1
    · exact fun z => g4 _ _ ha z.symm
  exact ⟨m, hn.sameBut sb hCa, fun h' hs' => ⟨_, Hf, I3.turned (t' := s3.toks) (fun b o hb e => (hs'.2 b hb).trans e) g0 g1 g3 g4 g5, q⟩⟩
end
end L2

namespace L2
open PySem PySem.Spec PyProof.Rows
noncomputable def Itv (K : PySem.W.Frag) (a : Addr) (n : Nat) : It :=
  ⟨fun i H => i < n ∧ ∃ xs, SqL K H a xs ∧ xs.length = n, fun i H x H' => H' = H ∧ ∀ xs, SqL K H a xs → xs[n - 1 - i]? = some x, fun i _ => n ≤ i⟩
theorem turn_rev {P : Program} {w : World} {K : PySem.W.Frag} {tg : Expr} (a it : Addr) (n : Nat) : Turn P w K tg (Itv K a n) [it] it (fun i h => i ≤ n ∧ h.IsRevIter it a ((n : Int) - 1 - (i : Int))) where
  mem := by simp
  obj := fun i h st b hb => by
    cases List.mem_singleton.mp hb
    obtain ⟨_, o, e, c, d⟩ := st
    exact ⟨o, e, fun v z => by rw [d] at z; cases z⟩
  keep := fun i h h' st k => ⟨st.1, st.2.at fun o e => k it (by simp) o e⟩
  item := by
    intro X hP hw hK hc i pins s σ H E I hf st hg
    subst hP hw hK
    obtain ⟨hi, xs, hq, hl⟩ := hg
    obtain ⟨its, rv, p, hz⟩ := I.list hq
    have hx : xs[n - 1 - i]? = some (xs[n - 1 - i]'(by omega)) := List.getElem?_eq_getElem (by omega)
    obtain ⟨u, hu, ru⟩ := rv.get hx
    obtain ⟨k0, k1, k2, k3, k4, k5⟩ := hf it (by simp)
    have e : (n : Int) - 1 - (i : Int) = ((n - 1 - i : Nat) : Int) := by omega
    have hit := st.2
    rw [e] at hit
    refine wpAny_pyNext_rev_item hit p.isList (x := u) (by simpa using hu) fun h' st' sb => ?_
    have e2 : ((n - 1 - i : Nat) : Int) - 1 = (n : Int) - 1 - ((i + 1 : Nat) : Int) := by omega
    rw [e2] at st'
    have I1 : Inv X pins σ H { s with heap := h' } := I.turned (t' := s.toks) (fun b o hb e => (sb.2 b hb).trans e) k0 k1 k3 k4 k5
    obtain ⟨o, eo, oc, od⟩ := id st'
    exact ⟨u, rfl, go_of (s := { s with heap := h' }) eo oc od (by decide) ⟨_, H, I1, ru, ⟨rfl, fun ys hy => by rw [I.list_inj hy hq]; exact hx⟩, ⟨by omega, st'⟩, fun b hb => (hf b hb).1⟩⟩
  done := by
    intro X hP hw hK hc i pins s σ H E I hf st hg
    subst hP hw hK
    obtain ⟨k0, k1, k2, k3, k4, k5⟩ := hf it (by simp)
    have hi : i = n := Nat.le_antisymm st.1 hg
    have hit := st.2
    have e : (n : Int) - 1 - (i : Int) = -1 := by omega
    rw [e] at hit
    exact wpAny_pyNext_rev_end (I.ok.hd hc) hit fun h' eb => ⟨rfl, I.turned (t' := s.toks) (fun b o hb e => eb b o hb e) k0 k1 k3 k4 k5⟩
  self := fun _ _ _ _ _ st h => wpAny_pyIter_revIter st.2 h
theorem bt_reversed : bootBuiltins "reversed" = some (.type "reversed") := by decide +kernel
noncomputable def iRev (K : PySem.W.Frag) (ta : TA) : TI := fun σ H R => ta σ H fun vs H1 => ∃ (a : Addr) (xs : List V), vs = [.ref a] ∧ SqL K H1 a xs ∧ R (Itv K a xs.length) H1
theorem pi_rev {X : Cx} {K : PySem.W.Frag} {tg a : Expr} {ta : TA} {p pos : Pos} (hK : X.K = K) (hm : X.mg "reversed" = none) (ha : PA X [a] ta) (hg : Gl X "reversed" := by rfl) (hs : starEach [a] X.env = [(false, eval a X.env)] := by rfl) : PI X tg (.Call (.Name "reversed" p) [a] [] pos) (iRev K ta) := by
  intro pins s σ H R I h
  subst hK
  refine Call_ (ld_blt I hg hm bt_reversed (PyProof.Rows.callWith_type1 (thn (ha pos pins s σ H _ I h) fun us s1 ⟨vs, H1, I1, r1, q1⟩ => ?_) hs rfl))
  obtain ⟨l, xs, e, hx, q⟩ := q1
  subst e
  cases r1 with
  | cons r rr =>
    cases rr
    cases r
    obtain ⟨its, rv, pl, hz⟩ := I1.list hx
    have hl := rv.length
    refine call_reversed_list pl.isList ?_
    have hit : (s1.heap.push (revObj l ((its.toArray.size : Int) - 1))).IsRevIter s1.heap.objs.size l ((xs.length : Int) - 1 - ((0 : Nat) : Int)) := ⟨_, Heap.get?_push_size _ rfl, rfl, by
      show Data.fields _ = _
      rw [List.size_toArray, ← hl]
      simp⟩
    refine wpAny_pyIter_revIter hit ⟨_, [s1.heap.objs.size], _, _, H1, rfl, I1.kept (t' := s1.toks) fun b o e => Heap.get?_push_of_some _ e, turn_rev l _ _, ⟨Nat.zero_le _, hit⟩, fun b hb => ?_, q⟩
    cases List.mem_singleton.mp hb
    exact I1.fpOk (Nat.le_refl _) (I1.hok.fresh (Nat.le_refl _))
end L2

namespace Tre
open PySem

noncomputable def nameB (x : Str) : Bool := decide (1 ≤ x.length) && decide (x.length ≤ 8) && x.cps.toList.all fun c => decide (97 ≤ c) && decide (c ≤ 122)
noncomputable def numB (i : Int) : Bool := decide (-1000000000000 ≤ i) && decide (i ≤ 1000000000000)
noncomputable def isName : PyData → Bool
  | .str x => nameB x
  | _ => false
noncomputable def isNumber : PyData → Bool
  | .int i => numB i
  | _ => false
noncomputable def isRow (d : PyData) (most : Nat) : Bool := match d with
  | .tuple xs => decide (xs.length ≤ most)
  | _ => false
noncomputable def txt : PyData → Str
  | .str x => x
  | _ => ""
noncomputable def areNames : PyData → Bool
  | .tuple xs => decide (xs.length ≤ 4) && xs.all isName && decide ((xs.map txt).Nodup)
  | _ => false
noncomputable abbrev signs : List Str := ["+", "-", "*", "<", "="]
noncomputable abbrev forms : List (Str × List Str) := [("main", ["names", "body"]), ("number", ["number"]), ("name", ["name"]), ("two", ["sign", "term", "term"]), ("fun", ["names", "body"]), ("loop", ["names", "body"]), ("call", ["term", "terms"]), ("step", ["term", "term"]),
  ("let", ["name", "term"]), ("set", ["name", "term"]), ("do", ["term"]), ("if", ["term", "body", "body"]), ("while", ["term", "body"]), ("hand", ["term"]), ("back", ["term"]), ("fault", ["word", "term"]), ("try", ["body", "name", "name", "body", "body"])]
noncomputable abbrev heads : List (Str × List Str) := [("program", ["main"]), ("term", ["number", "name", "two", "fun", "loop", "call", "step"]), ("statement", ["let", "set", "do", "if", "while", "hand", "back", "fault", "try"])]
noncomputable abbrev members : List (Str × Str) := [("names", "name"), ("terms", "term"), ("body", "statement")]
noncomputable def hasShape (d : PyData) (sh : Str) : Bool :=
  if sh == "number" then isNumber d else if sh == "name" then isName d else if sh == "word" then (match d with | .str x => nameB x && x != "any" | _ => false)
  else if sh == "sign" then (match d with | .str x => signs.any fun y => y == x | _ => false) else if sh == "names" then areNames d else if sh == "terms" then isRow d 4 else if sh == "body" then isRow d 12 else true
noncomputable def shapesOk (ts : List PyData) (fs : List Str) : Bool := decide (ts.length = fs.length) && (ts.zip fs).all fun p => hasShape p.1 p.2
noncomputable def hasForm (d : PyData) (sh : Str) (hands : Bool) : Bool := match d with
  | .tuple (.str h :: ts) => (((heads.lookup sh).getD []).any fun y => y == h) && !(h == "hand" && !hands) && shapesOk ts ((forms.lookup h).getD [])
  | _ => false
noncomputable def innerAt (t : PyData) (sh : Str) : List (PyData × Str) :=
  if sh == "term" then [(t, sh)] else if sh == "terms" || sh == "body" then (match t with | .tuple xs => xs.map fun x => (x, (members.lookup sh).getD "") | _ => []) else []
noncomputable def inner : PyData → List (PyData × Str)
  | .tuple (.str h :: ts) => (ts.zip ((forms.lookup h).getD [])).flatMap fun p => innerAt p.1 p.2
  | _ => []
noncomputable def headOf : PyData → Str
  | .tuple (.str h :: _) => h
  | _ => ""
noncomputable def within (d : PyData) (hands : Bool) : Bool := if headOf d == "fun" then false else hands || (headOf d == "main" || headOf d == "loop")
noncomputable abbrev Lv := List (PyData × Str × Bool)
noncomputable def below (lv : Lv) : Lv := lv.flatMap fun p => (inner p.1).map fun q => (q.1, q.2, within p.1 p.2.2)
noncomputable def walkP : Nat → Nat → Lv → Bool
  | 0, _, lv => lv.isEmpty
  | n + 1, size, lv => lv.isEmpty || (decide (size + lv.length ≤ 300) && (lv.all fun p => hasForm p.1 p.2.1 p.2.2) && walkP n (size + lv.length) (below lv))
noncomputable def isProgram (d : PyData) : Bool := walkP 20 0 [(d, "program", false)]

mutual
noncomputable def fit : PyData → Bool
  | .str x => decide (x.length ≤ 1000000)
  | .list xs => fitAll xs
  | .tuple xs => fitAll xs
  | .dict _ => false
  | _ => true
noncomputable def fitAll : List PyData → Bool
  | [] => true
  | x :: xs => fit x && fitAll xs
end
theorem fitAll_mem : ∀ {xs : List PyData}, fitAll xs = true → ∀ x ∈ xs, fit x = true
  | [], _, x, hx => nomatch hx
  | y :: r, h, x, hx => by
    rw [fitAll, Bool.and_eq_true] at h
    rcases List.mem_cons.mp hx with rfl | hx
    · exact h.1
    · exact fitAll_mem h.2 x hx
theorem fitAll_of : ∀ {xs : List PyData}, (∀ x ∈ xs, fit x = true) → fitAll xs = true
  | [], _ => rfl
  | y :: r, h => by
    rw [fitAll, Bool.and_eq_true]
    exact ⟨h y List.mem_cons_self, fitAll_of fun x hx => h x (List.mem_cons_of_mem _ hx)⟩

theorem heads_forms : ∀ sh ∈ heads, ∀ h ∈ sh.2, ∃ fs, forms.lookup h = some fs ∧ fs.length ≤ 5 := by
  intro sh hs h hh
  have : ∀ sh ∈ heads, ∀ h ∈ sh.2, ((forms.lookup h).any fun fs => decide (fs.length ≤ 5)) = true := by decide +kernel
  have q := this sh hs h hh
  cases e : forms.lookup h with
  | none => rw [e] at q; cases q
  | some fs => rw [e] at q; exact ⟨fs, rfl, of_decide_eq_true q⟩
theorem heads_get {sh h : Str} (q : (((heads.lookup sh).getD []).any fun y => y == h) = true) : ∃ l, heads.lookup sh = some l ∧ h ∈ l ∧ ∃ fs, forms.lookup h = some fs ∧ fs.length ≤ 5 := by
  cases e : heads.lookup sh with
  | none => rw [e] at q; cases q
  | some l =>
    rw [e] at q
    obtain ⟨y, hy, hyh⟩ := List.any_eq_true.mp q
    cases beq_iff_eq.mp hyh
    exact ⟨l, rfl, hy, heads_forms (sh, l) (PySem.mem_of_lookup e) _ hy⟩
theorem hasForm_is {d : PyData} {sh : Str} {hands : Bool} (h : hasForm d sh hands = true) :
    ∃ hd ts fs l, d = .tuple (.str hd :: ts) ∧ heads.lookup sh = some l ∧ hd ∈ l ∧ forms.lookup hd = some fs ∧ fs.length ≤ 5 ∧ ts.length = fs.length ∧ (∀ p ∈ ts.zip fs, hasShape p.1 p.2 = true) ∧ (hd == "hand" && !hands) = false := by
  cases d with
  | tuple xs =>
    cases xs with
    | nil => cases h
    | cons x ts =>
      cases x with
      | str hd =>
        simp only [hasForm, shapesOk, Bool.and_eq_true, Bool.not_eq_true', decide_eq_true_eq] at h
        obtain ⟨⟨h1, h2⟩, h3, h4⟩ := h
        obtain ⟨l, e1, e2, fs, e3, e4⟩ := heads_get h1
        rw [e3] at h3 h4
        exact ⟨hd, ts, fs, l, rfl, e1, e2, e3, e4, h3, fun p hp => List.all_eq_true.mp h4 p hp, h2⟩
      | _ => cases h
  | _ => cases h
theorem innerAt_le {t : PyData} {sh : Str} (h : hasShape t sh = true) : (innerAt t sh).length ≤ 12 := by
  unfold innerAt
  split
  · simp
  · split
    · rename_i h1 h2
      cases t with
      | tuple xs =>
        rw [List.length_map]
        rw [Bool.or_eq_true, beq_iff_eq, beq_iff_eq] at h2
        rcases h2 with rfl | rfl
        · have : isRow (.tuple xs) 4 = true := h
          have := of_decide_eq_true this
          omega
        · have : isRow (.tuple xs) 12 = true := h
          exact of_decide_eq_true this
      | _ => simp
    · simp
theorem flat_le {α β : Type} (f : α → List β) (m : Nat) : ∀ l : List α, (∀ x ∈ l, (f x).length ≤ m) → (l.flatMap f).length ≤ m * l.length
  | [], _ => by simp
  | x :: r, h => by
    rw [List.flatMap_cons, List.length_append, List.length_cons, Nat.mul_succ]
    have h1 := h x List.mem_cons_self
    have h2 := flat_le f m r fun y hy => h y (List.mem_cons_of_mem _ hy)
    omega
theorem inner_le {d : PyData} {sh : Str} {hands : Bool} (h : hasForm d sh hands = true) : (inner d).length ≤ 60 := by
  obtain ⟨hd, ts, fs, l, rfl, _, _, e, hf, hl, hs, _⟩ := hasForm_is h
  show ((ts.zip ((forms.lookup hd).getD [])).flatMap _).length ≤ 60
  rw [e]
  show ((ts.zip fs).flatMap _).length ≤ 60
  have := flat_le (fun p : PyData × Str => innerAt p.1 p.2) 12 (ts.zip fs) fun p hp => innerAt_le (hs p hp)
  rw [List.length_zip] at this
  omega
theorem below_le {lv : Lv} (h : ∀ p ∈ lv, hasForm p.1 p.2.1 p.2.2 = true) : (below lv).length ≤ 60 * lv.length :=
  flat_le _ 60 lv fun p hp => by rw [List.length_map]; exact inner_le (h p hp)
theorem innerAt_sort {t e : PyData} {sh u : Str} (h : (e, u) ∈ innerAt t sh) : u = "term" ∨ u = "statement" := by
  unfold innerAt at h
  split at h
  · rename_i h1
    rw [List.mem_singleton] at h
    cases h
    exact .inl (beq_iff_eq.mp h1)
  · split at h
    · rename_i h2
      cases t with
      | tuple xs =>
        obtain ⟨x, _, ex⟩ := List.mem_map.mp h
        rw [Bool.or_eq_true, beq_iff_eq, beq_iff_eq] at h2
        cases ex
        rcases h2 with rfl | rfl
        · exact .inl rfl
        · exact .inr rfl
      | _ => cases h
    · cases h
theorem inner_sort {d e : PyData} {u : Str} (h : (e, u) ∈ inner d) : u = "term" ∨ u = "statement" := by
  unfold inner at h
  split at h
  · obtain ⟨p, _, hp⟩ := List.mem_flatMap.mp h
    exact innerAt_sort hp
  · cases h
theorem innerAt_fit {t e : PyData} {sh u : Str} (ft : fit t = true) (h : (e, u) ∈ innerAt t sh) : fit e = true := by
  unfold innerAt at h
  split at h
  · rw [List.mem_singleton] at h
    cases h
    exact ft
  · split at h
    · cases t with
      | tuple xs =>
        obtain ⟨x, hx, ex⟩ := List.mem_map.mp h
        rw [fit] at ft
        have q := fitAll_mem ft x hx
        cases ex
        exact q
      | _ => cases h
    · cases h
theorem inner_fit {d e : PyData} {u : Str} (f : fit d = true) (h : (e, u) ∈ inner d) : fit e = true := by
  unfold inner at h
  split at h
  · rename_i hd ts
    obtain ⟨p, hz, hp⟩ := List.mem_flatMap.mp h
    rw [fit, fitAll, Bool.and_eq_true] at f
    exact innerAt_fit (fitAll_mem f.2 p.1 (List.of_mem_zip hz).1) hp
  · cases h
theorem shape_number (d : PyData) : hasShape d "number" = isNumber d := by
  unfold hasShape
  rw [if_pos (show (((("number" : Str) == "number") = true)) by decide +kernel)]
theorem shape_name (d : PyData) : hasShape d "name" = isName d := by
  unfold hasShape
  rw [if_neg (show ¬ (((("name" : Str) == "number") = true)) by decide +kernel)]
  rw [if_pos (show (((("name" : Str) == "name") = true)) by decide +kernel)]
theorem shape_word (d : PyData) : hasShape d "word" = (match d with | .str x => nameB x && x != "any" | _ => false) := by
  unfold hasShape
  rw [if_neg (show ¬ (((("word" : Str) == "number") = true)) by decide +kernel)]
  rw [if_neg (show ¬ (((("word" : Str) == "name") = true)) by decide +kernel)]
  rw [if_pos (show (((("word" : Str) == "word") = true)) by decide +kernel)]
theorem shape_sign (d : PyData) : hasShape d "sign" = (match d with | .str x => signs.any fun y => y == x | _ => false) := by
  unfold hasShape
  rw [if_neg (show ¬ (((("sign" : Str) == "number") = true)) by decide +kernel)]
  rw [if_neg (show ¬ (((("sign" : Str) == "name") = true)) by decide +kernel)]
  rw [if_neg (show ¬ (((("sign" : Str) == "word") = true)) by decide +kernel)]
  rw [if_pos (show (((("sign" : Str) == "sign") = true)) by decide +kernel)]
theorem shape_names (d : PyData) : hasShape d "names" = areNames d := by
  unfold hasShape
  rw [if_neg (show ¬ (((("names" : Str) == "number") = true)) by decide +kernel)]
  rw [if_neg (show ¬ (((("names" : Str) == "name") = true)) by decide +kernel)]
  rw [if_neg (show ¬ (((("names" : Str) == "word") = true)) by decide +kernel)]
  rw [if_neg (show ¬ (((("names" : Str) == "sign") = true)) by decide +kernel)]
  rw [if_pos (show (((("names" : Str) == "names") = true)) by decide +kernel)]
theorem shape_terms (d : PyData) : hasShape d "terms" = isRow d 4 := by
  unfold hasShape
  rw [if_neg (show ¬ (((("terms" : Str) == "number") = true)) by decide +kernel)]
  rw [if_neg (show ¬ (((("terms" : Str) == "name") = true)) by decide +kernel)]
  rw [if_neg (show ¬ (((("terms" : Str) == "word") = true)) by decide +kernel)]
  rw [if_neg (show ¬ (((("terms" : Str) == "sign") = true)) by decide +kernel)]
  rw [if_neg (show ¬ (((("terms" : Str) == "names") = true)) by decide +kernel)]
  rw [if_pos (show (((("terms" : Str) == "terms") = true)) by decide +kernel)]
theorem shape_body (d : PyData) : hasShape d "body" = isRow d 12 := by
  unfold hasShape
  rw [if_neg (show ¬ (((("body" : Str) == "number") = true)) by decide +kernel)]
  rw [if_neg (show ¬ (((("body" : Str) == "name") = true)) by decide +kernel)]
  rw [if_neg (show ¬ (((("body" : Str) == "word") = true)) by decide +kernel)]
  rw [if_neg (show ¬ (((("body" : Str) == "sign") = true)) by decide +kernel)]
  rw [if_neg (show ¬ (((("body" : Str) == "names") = true)) by decide +kernel)]
  rw [if_neg (show ¬ (((("body" : Str) == "terms") = true)) by decide +kernel)]
  rw [if_pos (show (((("body" : Str) == "body") = true)) by decide +kernel)]
theorem shape_else (d : PyData) {sh : Str} (h0 : (sh == "number") = false) (h1 : (sh == "name") = false) (h2 : (sh == "word") = false) (h3 : (sh == "sign") = false) (h4 : (sh == "names") = false) (h5 : (sh == "terms") = false) (h6 : (sh == "body") = false) : hasShape d sh = true := by
  unfold hasShape
  rw [if_neg (by rw [h0]; exact Bool.false_ne_true)]
  rw [if_neg (by rw [h1]; exact Bool.false_ne_true)]
  rw [if_neg (by rw [h2]; exact Bool.false_ne_true)]
  rw [if_neg (by rw [h3]; exact Bool.false_ne_true)]
  rw [if_neg (by rw [h4]; exact Bool.false_ne_true)]
  rw [if_neg (by rw [h5]; exact Bool.false_ne_true)]
  rw [if_neg (by rw [h6]; exact Bool.false_ne_true)]
end Tre

namespace Tre
open PySem
noncomputable def kids (d : PyData) : List PyData := (inner d).map (·.1)
mutual
inductive Tr : PyData → Nat → Nat → Prop
  | mk {d : PyData} {sh : Str} {hands : Bool} {s t : Nat} : hasForm d sh hands = true → Trl (kids d) s t → Tr d (s + 1) (t + 1)
inductive Trl : List PyData → Nat → Nat → Prop
  | nil : Trl [] 0 0
  | cons {d : PyData} {ds : List PyData} {s t s' t' : Nat} : Tr d s t → Trl ds s' t' → Trl (d :: ds) (s + s') (max t t')
end
theorem Trl.forms : ∀ {ds : List PyData} {s t : Nat}, Trl ds s t → ∀ d ∈ ds, ∃ sh hands, hasForm d sh hands = true := by
  intro ds
  induction ds with
  | nil => intro s t _ d hd; cases hd
  | cons e r ih =>
    intro s t h d hd
    cases h with
    | cons h1 h2 =>
      rcases List.mem_cons.mp hd with rfl | hd
      · cases h1 with
        | mk hf _ => exact ⟨_, _, hf⟩
      · exact ih h2 d hd
mutual
theorem Tr.deep : ∀ {d : PyData} {s t : Nat}, Tr d s t → t ≤ s
  | _, _, _, .mk _ h => Nat.succ_le_succ (Trl.deep h)
theorem Trl.deep : ∀ {ds : List PyData} {s t : Nat}, Trl ds s t → t ≤ s
  | _, _, _, .nil => Nat.le_refl _
  | _, _, _, .cons h1 h2 => by
    have a := Tr.deep h1
    have b := Trl.deep h2
    omega
end
theorem kids_le {d : PyData} {sh : Str} {hands : Bool} (h : hasForm d sh hands = true) : (kids d).length ≤ 60 := by
  unfold kids
  rw [List.length_map]
  exact inner_le h
end Tre

namespace Tre
open PySem
mutual
inductive Pt : PyData → Str → Bool → Nat → Nat → Prop
  | mk {d : PyData} {sh : Str} {hands : Bool} {s t : Nat} : hasForm d sh hands = true → Ptl (inner d) (within d hands) s t → Pt d sh hands (s + 1) (t + 1)
inductive Ptl : List (PyData × Str) → Bool → Nat → Nat → Prop
  | nil {hands : Bool} : Ptl [] hands 0 0
  | cons {d : PyData} {sh : Str} {r : List (PyData × Str)} {hands : Bool} {s t s' t' : Nat} : Pt d sh hands s t → Ptl r hands s' t' → Ptl ((d, sh) :: r) hands (s + s') (max t t')
end
theorem Ptl.append : ∀ {a b : List (PyData × Str)} {hands : Bool} {s t s' t' : Nat}, Ptl a hands s t → Ptl b hands s' t' → Ptl (a ++ b) hands (s + s') (max t t') := by
  intro a
  induction a with
  | nil =>
    intro b hands s t s' t' h h'
    cases h
    simpa using h'
  | cons d r ih =>
    intro b hands s t s' t' h h'
    cases h with
    | cons h1 h2 =>
      have := Ptl.cons h1 (ih h2 h')
      rw [List.cons_append, Nat.add_assoc, Nat.max_assoc]
      exact this
mutual
theorem Pt.tr : ∀ {d : PyData} {sh : Str} {hands : Bool} {s t : Nat}, Pt d sh hands s t → Tr d s t
  | _, _, _, _, _, .mk hf h => .mk hf (Ptl.tr h)
theorem Ptl.tr : ∀ {l : List (PyData × Str)} {hands : Bool} {s t : Nat}, Ptl l hands s t → Trl (l.map (·.1)) s t
  | _, _, _, _, .nil => .nil
  | _, _, _, _, .cons h1 h2 => .cons (Pt.tr h1) (Ptl.tr h2)
end
inductive Lvl : Lv → Nat → Nat → Prop
  | nil : Lvl [] 0 0
  | cons {p : PyData × Str × Bool} {r : Lv} {s t s' t' : Nat} : Pt p.1 p.2.1 p.2.2 s t → Lvl r s' t' → Lvl (p :: r) (s + s') (max t t')
theorem Lvl.append : ∀ {a b : Lv} {s t s' t' : Nat}, Lvl a s t → Lvl b s' t' → Lvl (a ++ b) (s + s') (max t t')
  | _, _, _, _, _, _, .nil, h => by simpa using h
  | _, _, _, _, _, _, .cons h1 h2, h => by
    have := Lvl.cons h1 (Lvl.append h2 h)
    rw [List.cons_append, Nat.add_assoc, Nat.max_assoc]
    exact this
theorem lvl_of : ∀ {l : List (PyData × Str)} {hands : Bool} {s t : Nat}, Ptl l hands s t → Lvl (l.map fun z => (z.1, z.2, hands)) s t := by
  intro l
  induction l with
  | nil => intro hands s t h; cases h; exact .nil
  | cons z r ih =>
    intro hands s t h
    cases h with
    | cons h1 h2 => exact .cons h1 (ih h2)
theorem Lvl.lower : ∀ {lv : Lv} {s t : Nat}, Lvl lv s t → ∃ s', Lvl (Tre.below lv) s' (t - 1) ∧ s = lv.length + s' := by
  intro lv
  induction lv with
  | nil => intro s t h; cases h; exact ⟨0, .nil, rfl⟩
  | cons p r ih =>
    intro s t h
    cases h with
    | @cons _ _ s1 t1 s2 t2 h1 h2 =>
      obtain ⟨s', h3, e⟩ := ih h2
      generalize e1 : p.1 = d at h1
      generalize e2 : p.2.1 = sh at h1
      generalize e3 : p.2.2 = hands at h1
      cases h1 with
      | @mk _ _ _ s0 t0 hf hk =>
        refine ⟨s0 + s', ?_, ?_⟩
        · have e4 : max t0 (t2 - 1) = max (t0 + 1) t2 - 1 := by omega
          have e5 : Tre.below (p :: r) = ((inner d).map fun z => (z.1, z.2, within d hands)) ++ Tre.below r := by
            unfold Tre.below
            rw [List.flatMap_cons, e1, e3]
          rw [e5, ← e4]
          exact (lvl_of hk).append h3
        · rw [List.length_cons]
          omega
theorem Lvl.forms : ∀ {lv : Lv} {s t : Nat}, Lvl lv s t → (lv.all fun p => hasForm p.1 p.2.1 p.2.2) = true := by
  intro lv
  induction lv with
  | nil => intro s t _; rfl
  | cons p r ih =>
    intro s t h
    cases h with
    | cons h1 h2 =>
      rw [List.all_cons, ih h2, Bool.and_true]
      cases h1 with
      | mk hf _ => exact hf
theorem Lvl.zero {lv : Lv} {s : Nat} (h : Lvl lv s 0) : lv = [] := by
  cases lv with
  | nil => rfl
  | cons p r =>
    generalize e : 0 = n at h
    cases h with
    | cons h1 h2 =>
      cases h1
      omega
theorem walk_of : ∀ (n sz : Nat) (lv : Lv) (s t : Nat), Lvl lv s t → t ≤ n → sz + s ≤ 300 → walkP n sz lv = true
  | 0, sz, lv, s, t, h, hn, hz => by
    have : t = 0 := by omega
    subst this
    rw [h.zero]
    rfl
  | n + 1, sz, lv, s, t, h, hn, hz => by
    obtain ⟨s', h2, e⟩ := h.lower
    rw [walkP, walk_of n (sz + lv.length) (Tre.below lv) s' (t - 1) h2 (by omega) (by omega), h.forms, decide_eq_true (by omega)]
    simp
theorem isProgram_of {d : PyData} {s t : Nat} (h : Pt d "program" false s t) (ht : t ≤ 20) (hs : s ≤ 300) : isProgram d = true :=
  walk_of 20 0 _ s t (by simpa using Lvl.cons (p := (d, "program", false)) h .nil) ht (by omega)
end Tre

namespace Tre
open PySem
theorem form_of {h sh : Str} {l fs : List Str} {ts : List PyData} {hands : Bool} (e1 : heads.lookup sh = some l) (e2 : (l.any fun y => y == h) = true) (e3 : forms.lookup h = some fs) (e4 : (h == "hand" && !hands) = false) (e5 : shapesOk ts fs = true) : hasForm (.tuple (.str h :: ts)) sh hands = true := by
  simp only [hasForm, e1, e3, Option.getD_some, e2, e4, e5, Bool.not_false, Bool.and_true]
theorem inner_of' {h : Str} {fs : List Str} {ts : List PyData} (e : forms.lookup h = some fs) : inner (.tuple (.str h :: ts)) = (ts.zip fs).flatMap fun p => innerAt p.1 p.2 := by
  show (ts.zip ((forms.lookup h).getD [])).flatMap _ = _
  rw [e]
  rfl
theorem at_term (t : PyData) : innerAt t "term" = [(t, ("term" : Str))] := by
  unfold innerAt
  rw [if_pos (by decide +kernel)]
theorem at_body (xs : List PyData) : innerAt (.tuple xs) "body" = xs.map fun x => (x, ("statement" : Str)) := by
  unfold innerAt
  rw [if_neg (by decide +kernel), if_pos (by decide +kernel)]
  have e : (members.lookup ("body" : Str)).getD "" = ("statement" : Str) := by decide +kernel
  rw [e]
theorem at_terms (xs : List PyData) : innerAt (.tuple xs) "terms" = xs.map fun x => (x, ("term" : Str)) := by
  unfold innerAt
  rw [if_neg (by decide +kernel), if_pos (by decide +kernel)]
  have e : (members.lookup ("terms" : Str)).getD "" = ("term" : Str) := by decide +kernel
  rw [e]
theorem at_none {t : PyData} {sh : Str} (h : (sh == "term" || (sh == "terms" || sh == "body")) = false) : innerAt t sh = [] := by
  rw [Bool.or_eq_false_iff] at h
  unfold innerAt
  rw [if_neg (by rw [h.1]; exact Bool.false_ne_true), if_neg (by rw [h.2]; exact Bool.false_ne_true)]
theorem sh_term (t : PyData) : hasShape t "term" = true := shape_else t (by decide +kernel) (by decide +kernel) (by decide +kernel) (by decide +kernel) (by decide +kernel) (by decide +kernel) (by decide +kernel)
structure Bd (xs : List PyData) (hands : Bool) (s t : Nat) : Prop where
  few : xs.length ≤ 12
  all : Ptl (xs.map fun x => (x, ("statement" : Str))) hands s t
theorem sh_body {xs : List PyData} (h : xs.length ≤ 12) : hasShape (.tuple xs) "body" = true := by
  rw [shape_body]
  exact decide_eq_true h
theorem sh_terms {xs : List PyData} (h : xs.length ≤ 4) : hasShape (.tuple xs) "terms" = true := by
  rw [shape_terms]
  exact decide_eq_true h
theorem wi_plain {h : Str} {ts : List PyData} {hands : Bool} (e : (h == "fun" || (h == "main" || h == "loop")) = false) : within (.tuple (.str h :: ts)) hands = hands := by
  rw [Bool.or_eq_false_iff] at e
  show (if h == "fun" then false else hands || (h == "main" || h == "loop")) = hands
  rw [if_neg (by rw [e.1]; exact Bool.false_ne_true), e.2, Bool.or_false]
theorem ok1 {t : PyData} {f : Str} (h : hasShape t f = true) : shapesOk [t] [f] = true := by simp [shapesOk, h]
theorem ok2 {t u : PyData} {f g : Str} (h : hasShape t f = true) (h' : hasShape u g = true) : shapesOk [t, u] [f, g] = true := by simp [shapesOk, h, h']
theorem ok3 {t u v : PyData} {f g k : Str} (h : hasShape t f = true) (h' : hasShape u g = true) (h2 : hasShape v k = true) : shapesOk [t, u, v] [f, g, k] = true := by simp [shapesOk, h, h', h2]
theorem one_pt {d : PyData} {sh : Str} {hands : Bool} {s t : Nat} (h : Pt d sh hands s t) : Ptl [(d, sh)] hands s t := by simpa using Ptl.cons h .nil
theorem pt_number {i : Int} {hands : Bool} (h : numB i = true) : Pt (.tuple [.str "number", .int i]) "term" hands 1 1 := by
  refine .mk (form_of (l := ["number", "name", "two", "fun", "loop", "call", "step"]) (fs := ["number"]) (by decide +kernel) (by decide +kernel) (by decide +kernel) (by cases hands <;> decide +kernel) (ok1 ((shape_number _).trans h))) (s := 0) (t := 0) ?_
  rw [inner_of' (fs := ["number"]) (by decide +kernel)]
  show Ptl (innerAt _ _ ++ []) _ _ _
  rw [at_none (sh := "number") (by decide +kernel)]
  exact .nil
theorem pt_name {x : Str} {hands : Bool} (h : nameB x = true) : Pt (.tuple [.str "name", .str x]) "term" hands 1 1 := by
  refine .mk (form_of (l := ["number", "name", "two", "fun", "loop", "call", "step"]) (fs := ["name"]) (by decide +kernel) (by decide +kernel) (by decide +kernel) (by cases hands <;> decide +kernel) (ok1 ((shape_name _).trans h))) (s := 0) (t := 0) ?_
  rw [inner_of' (fs := ["name"]) (by decide +kernel)]
  show Ptl (innerAt _ _ ++ []) _ _ _
  rw [at_none (sh := "name") (by decide +kernel)]
  exact .nil
theorem pt_two {g : Str} {a b : PyData} {hands : Bool} {s t s' t' : Nat} (h : (signs.any fun y => y == g) = true) (ha : Pt a "term" hands s t) (hb : Pt b "term" hands s' t') : Pt (.tuple [.str "two", .str g, a, b]) "term" hands (s + s' + 1) (max t t' + 1) := by
  refine .mk (form_of (l := ["number", "name", "two", "fun", "loop", "call", "step"]) (fs := ["sign", "term", "term"]) (by decide +kernel) (by decide +kernel) (by decide +kernel) (by cases hands <;> decide +kernel) (ok3 ((shape_sign _).trans h) (sh_term _) (sh_term _))) ?_
  rw [inner_of' (fs := ["sign", "term", "term"]) (by decide +kernel), wi_plain (by decide +kernel)]
  show Ptl (innerAt _ _ ++ (innerAt _ _ ++ (innerAt _ _ ++ []))) _ _ _
  rw [at_none (sh := "sign") (by decide +kernel), at_term, at_term]
  exact (one_pt ha).append (one_pt hb)
theorem pt_step {a b : PyData} {hands : Bool} {s t s' t' : Nat} (ha : Pt a "term" hands s t) (hb : Pt b "term" hands s' t') : Pt (.tuple [.str "step", a, b]) "term" hands (s + s' + 1) (max t t' + 1) := by
  refine .mk (form_of (l := ["number", "name", "two", "fun", "loop", "call", "step"]) (fs := ["term", "term"]) (by decide +kernel) (by decide +kernel) (by decide +kernel) (by cases hands <;> decide +kernel) (ok2 (sh_term _) (sh_term _))) ?_
  rw [inner_of' (fs := ["term", "term"]) (by decide +kernel), wi_plain (by decide +kernel)]
  show Ptl (innerAt _ _ ++ (innerAt _ _ ++ [])) _ _ _
  rw [at_term, at_term]
  exact (one_pt ha).append (one_pt hb)
theorem pt_call {a : PyData} {xs : List PyData} {hands : Bool} {s t s' t' : Nat} (ha : Pt a "term" hands s t) (hl : xs.length ≤ 4) (hb : Ptl (xs.map fun x => (x, ("term" : Str))) hands s' t') : Pt (.tuple [.str "call", a, .tuple xs]) "term" hands (s + s' + 1) (max t t' + 1) := by
  refine .mk (form_of (l := ["number", "name", "two", "fun", "loop", "call", "step"]) (fs := ["term", "terms"]) (by decide +kernel) (by decide +kernel) (by decide +kernel) (by cases hands <;> decide +kernel) (ok2 (sh_term _) (sh_terms hl))) ?_
  rw [inner_of' (fs := ["term", "terms"]) (by decide +kernel), wi_plain (by decide +kernel)]
  show Ptl (innerAt _ _ ++ (innerAt _ _ ++ [])) _ _ _
  rw [at_term, at_terms, List.append_nil]
  exact (one_pt ha).append hb
theorem pt_names {h sh : Str} {l : List Str} {ns xs : List PyData} {hands hi : Bool} {s t : Nat} (e1 : heads.lookup sh = some l) (e2 : (l.any fun y => y == h) = true) (e3 : forms.lookup h = some (["names", "body"] : List Str)) (e4 : (h == "hand" && !hands) = false) (hn : areNames (.tuple ns) = true) (hw : ∀ ts, within (.tuple (.str h :: ts)) hands = hi) (hb : Bd xs hi s t) :
    Pt (.tuple [.str h, .tuple ns, .tuple xs]) sh hands (s + 1) (t + 1) := by
  refine .mk (form_of e1 e2 e3 e4 (ok2 ((shape_names _).trans hn) (sh_body hb.few))) ?_
  rw [inner_of' e3, hw]
  show Ptl (innerAt _ _ ++ (innerAt _ _ ++ [])) _ _ _
  rw [at_none (sh := "names") (by decide +kernel), at_body, List.nil_append, List.append_nil]
  exact hb.all
theorem pt_fun {ns xs : List PyData} {hands : Bool} {s t : Nat} (hn : areNames (.tuple ns) = true) (hb : Bd xs false s t) : Pt (.tuple [.str "fun", .tuple ns, .tuple xs]) "term" hands (s + 1) (t + 1) :=
  pt_names (l := ["number", "name", "two", "fun", "loop", "call", "step"]) (by decide +kernel) (by decide +kernel) (by decide +kernel) (by cases hands <;> decide +kernel) hn (fun ts => by
    show (if (("fun" : Str) == "fun") = true then false else _) = false
    rw [if_pos (by decide +kernel)]) hb
theorem pt_loop {ns xs : List PyData} {hands : Bool} {s t : Nat} (hn : areNames (.tuple ns) = true) (hb : Bd xs true s t) : Pt (.tuple [.str "loop", .tuple ns, .tuple xs]) "term" hands (s + 1) (t + 1) :=
  pt_names (l := ["number", "name", "two", "fun", "loop", "call", "step"]) (by decide +kernel) (by decide +kernel) (by decide +kernel) (by cases hands <;> decide +kernel) hn (fun ts => by
    show (if (("loop" : Str) == "fun") = true then false else hands || ((("loop" : Str) == "main") || (("loop" : Str) == "loop"))) = true
    rw [if_neg (by decide +kernel), show ((("loop" : Str) == "main") || (("loop" : Str) == "loop")) = true by decide +kernel, Bool.or_true]) hb
theorem pt_main {ns xs : List PyData} {s t : Nat} (hn : areNames (.tuple ns) = true) (hb : Bd xs true s t) : Pt (.tuple [.str "main", .tuple ns, .tuple xs]) "program" false (s + 1) (t + 1) :=
  pt_names (l := ["main"]) (by decide +kernel) (by decide +kernel) (by decide +kernel) (by decide +kernel) hn (fun ts => by
    show (if (("main" : Str) == "fun") = true then false else false || ((("main" : Str) == "main") || (("main" : Str) == "loop"))) = true
    rw [if_neg (by decide +kernel), show ((("main" : Str) == "main") || (("main" : Str) == "loop")) = true by decide +kernel, Bool.or_true]) hb
noncomputable abbrev stm : List Str := ["let", "set", "do", "if", "while", "hand", "back", "fault", "try"]
theorem pt_let {h x : Str} {a : PyData} {hands : Bool} {s t : Nat} (hh : h = "let" ∨ h = "set") (hx : nameB x = true) (ha : Pt a "term" hands s t) : Pt (.tuple [.str h, .str x, a]) "statement" hands (s + 1) (t + 1) := by
  have e3 : forms.lookup h = some (["name", "term"] : List Str) := by rcases hh with rfl | rfl <;> decide +kernel
  refine .mk (form_of (l := stm) (fs := ["name", "term"]) (by decide +kernel) (by rcases hh with rfl | rfl <;> decide +kernel) e3 (by rcases hh with rfl | rfl <;> cases hands <;> decide +kernel) (ok2 ((shape_name _).trans hx) (sh_term _))) ?_
  rw [inner_of' e3, wi_plain (by rcases hh with rfl | rfl <;> decide +kernel)]
  show Ptl (innerAt _ _ ++ (innerAt _ _ ++ [])) _ _ _
  rw [at_none (sh := "name") (by decide +kernel), at_term]
  exact one_pt ha
theorem pt_fault {x : Str} {a : PyData} {hands : Bool} {s t : Nat} (hx : (nameB x && x != "any") = true) (ha : Pt a "term" hands s t) : Pt (.tuple [.str "fault", .str x, a]) "statement" hands (s + 1) (t + 1) := by
  refine .mk (form_of (l := stm) (fs := ["word", "term"]) (by decide +kernel) (by decide +kernel) (by decide +kernel) (by cases hands <;> decide +kernel) (ok2 ((shape_word _).trans hx) (sh_term _))) ?_
  rw [inner_of' (fs := ["word", "term"]) (by decide +kernel), wi_plain (by decide +kernel)]
  show Ptl (innerAt _ _ ++ (innerAt _ _ ++ [])) _ _ _
  rw [at_none (sh := "word") (by decide +kernel), at_term]
  exact one_pt ha
theorem pt_do {h : Str} {a : PyData} {hands : Bool} {s t : Nat} (hh : h = "do" ∨ h = "back" ∨ (h = "hand" ∧ hands = true)) (ha : Pt a "term" hands s t) : Pt (.tuple [.str h, a]) "statement" hands (s + 1) (t + 1) := by
  have e3 : forms.lookup h = some (["term"] : List Str) := by rcases hh with rfl | rfl | ⟨rfl, _⟩ <;> decide +kernel
  refine .mk (form_of (l := stm) (fs := ["term"]) (by decide +kernel) (by rcases hh with rfl | rfl | ⟨rfl, _⟩ <;> decide +kernel) e3 (by rcases hh with rfl | rfl | ⟨rfl, rfl⟩ <;> first | decide +kernel | (cases hands <;> decide +kernel)) (ok1 (sh_term _))) ?_
  rw [inner_of' e3, wi_plain (by rcases hh with rfl | rfl | ⟨rfl, _⟩ <;> decide +kernel)]
  show Ptl (innerAt _ _ ++ []) _ _ _
  rw [at_term]
  exact one_pt ha
theorem pt_while {a : PyData} {xs : List PyData} {hands : Bool} {s t s' t' : Nat} (ha : Pt a "term" hands s t) (hb : Bd xs hands s' t') : Pt (.tuple [.str "while", a, .tuple xs]) "statement" hands (s + s' + 1) (max t t' + 1) := by
  refine .mk (form_of (l := stm) (fs := ["term", "body"]) (by decide +kernel) (by decide +kernel) (by decide +kernel) (by cases hands <;> decide +kernel) (ok2 (sh_term _) (sh_body hb.few))) ?_
  rw [inner_of' (fs := ["term", "body"]) (by decide +kernel), wi_plain (by decide +kernel)]
  show Ptl (innerAt _ _ ++ (innerAt _ _ ++ [])) _ _ _
  rw [at_term, at_body, List.append_nil]
  exact (one_pt ha).append hb.all
theorem pt_if {a : PyData} {xs ys : List PyData} {hands : Bool} {s t s' t' s2 t2 : Nat} (ha : Pt a "term" hands s t) (hb : Bd xs hands s' t') (hc : Bd ys hands s2 t2) : Pt (.tuple [.str "if", a, .tuple xs, .tuple ys]) "statement" hands (s + (s' + s2) + 1) (max t (max t' t2) + 1) := by
  refine .mk (form_of (l := stm) (fs := ["term", "body", "body"]) (by decide +kernel) (by decide +kernel) (by decide +kernel) (by cases hands <;> decide +kernel) (ok3 (sh_term _) (sh_body hb.few) (sh_body hc.few))) ?_
  rw [inner_of' (fs := ["term", "body", "body"]) (by decide +kernel), wi_plain (by decide +kernel)]
  show Ptl (innerAt _ _ ++ (innerAt _ _ ++ (innerAt _ _ ++ []))) _ _ _
  rw [at_term, at_body, at_body, List.append_nil]
  exact (one_pt ha).append (hb.all.append hc.all)
theorem pt_try {x y : Str} {xs ys zs : List PyData} {hands : Bool} {s t s' t' s2 t2 : Nat} (hx : nameB x = true) (hy : nameB y = true) (ha : Bd xs hands s t) (hb : Bd ys hands s' t') (hc : Bd zs hands s2 t2) :
    Pt (.tuple [.str "try", .tuple xs, .str x, .str y, .tuple ys, .tuple zs]) "statement" hands (s + (s' + s2) + 1) (max t (max t' t2) + 1) := by
  have sx : hasShape (.str x) "name" = true := (shape_name _).trans hx
  have sy : hasShape (.str y) "name" = true := (shape_name _).trans hy
  refine .mk (form_of (l := stm) (fs := ["body", "name", "name", "body", "body"]) (by decide +kernel) (by decide +kernel) (by decide +kernel) (by cases hands <;> decide +kernel) (by simp [shapesOk, sh_body ha.few, sh_body hb.few, sh_body hc.few, sx, sy])) ?_
  rw [inner_of' (fs := ["body", "name", "name", "body", "body"]) (by decide +kernel), wi_plain (by decide +kernel)]
  show Ptl (innerAt _ _ ++ (innerAt _ _ ++ (innerAt _ _ ++ (innerAt _ _ ++ (innerAt _ _ ++ []))))) _ _ _
  rw [at_body, at_none (sh := "name") (by decide +kernel), at_none (sh := "name") (by decide +kernel), at_body, at_body, List.append_nil, List.nil_append, List.nil_append]
  exact ha.all.append (hb.all.append hc.all)
end Tre

namespace Tre
open PySem
mutual
noncomputable def noL : PyData → Bool
  | .list _ => false
  | .dict _ => false
  | .tuple xs => noLs xs
  | .none => true
  | .bool _ => true
  | .int _ => true
  | .str _ => true
noncomputable def noLs : List PyData → Bool
  | [] => true
  | x :: r => noL x && noLs r
end
structure Gd (n : Nat) (d : PyData) : Prop where
  nol : noL d = true
  lay : d.canLay0 = true
  dep : d.depth ≤ n
theorem Gd.mono {n m : Nat} {d : PyData} (h : Gd n d) (hm : n ≤ m) : Gd m d := ⟨h.nol, h.lay, Nat.le_trans h.dep hm⟩
theorem gd_str {x : Str} {n : Nat} (h : PyData.strOk x = true) : Gd n (.str x) := ⟨rfl, h, Nat.zero_le _⟩
theorem gd_int {i : Int} {n : Nat} : Gd n (.int i) := ⟨rfl, rfl, Nat.zero_le _⟩
theorem gd_all {n : Nat} : ∀ {xs : List PyData}, (∀ x ∈ xs, Gd n x) → noLs xs = true ∧ PyData.canLayAll0 xs = true ∧ PyData.depthAll xs ≤ n
  | [], _ => ⟨rfl, rfl, Nat.zero_le _⟩
  | x :: r, h => by
    obtain ⟨h1, h2, h3⟩ := gd_all fun y hy => h y (List.mem_cons_of_mem _ hy)
    have hx := h x List.mem_cons_self
    refine ⟨?_, ?_, ?_⟩
    · rw [noLs, hx.nol, h1]; rfl
    · rw [PyData.canLayAll0, hx.lay, h2]; rfl
    · rw [PyData.depthAll]; exact Nat.max_le.mpr ⟨hx.dep, h3⟩
theorem gd_tup {n : Nat} {xs : List PyData} (h : ∀ x ∈ xs, Gd n x) : Gd (n + 1) (.tuple xs) := by
  obtain ⟨h1, h2, h3⟩ := gd_all h
  exact ⟨by rw [noL]; exact h1, by rw [PyData.canLay0]; exact h2, by rw [PyData.depth]; exact Nat.succ_le_succ h3⟩
theorem name_ok {x : Str} (h : nameB x = true) : PyData.strOk x = true := by
  unfold nameB at h
  rw [Bool.and_eq_true] at h
  unfold PyData.strOk
  rw [← Array.all_toList, List.all_eq_true]
  intro c hc
  have q := List.all_eq_true.mp h.2 c hc
  rw [Bool.and_eq_true] at q
  have := of_decide_eq_true q.2
  exact decide_eq_true (by omega)
noncomputable abbrev shapesL : List Str := ["number", "name", "word", "sign", "names", "terms", "body", "term"]
theorem name_gd {t : PyData} {n : Nat} (h : isName t = true) : Gd n t := by
  cases t with
  | str x => exact gd_str (name_ok h)
  | _ => cases h
theorem gd_at {t : PyData} {f : Str} {n : Nat} (hs : hasShape t f = true) (hf : f ∈ shapesL) (hk : ∀ z ∈ innerAt t f, Gd n z.1) : Gd (n + 1) t := by
  simp only [shapesL, List.mem_cons, List.not_mem_nil, or_false] at hf
  rcases hf with rfl | rfl | rfl | rfl | rfl | rfl | rfl | rfl
  · rw [shape_number] at hs
    cases t with
    | int i => exact gd_int
    | _ => cases hs
  · rw [shape_name] at hs
    exact name_gd hs
  · rw [shape_word] at hs
    cases t with
    | str x =>
      have q : (nameB x && x != "any") = true := hs
      rw [Bool.and_eq_true] at q
      exact gd_str (name_ok q.1)
    | _ => cases hs
  · rw [shape_sign] at hs
    cases t with
    | str x =>
      have q : (signs.any fun y => y == x) = true := hs
      obtain ⟨y, hy, e⟩ := List.any_eq_true.mp q
      cases beq_iff_eq.mp e
      refine gd_str ?_
      have : (signs.all fun y => PyData.strOk y) = true := by decide +kernel
      exact List.all_eq_true.mp this _ hy
    | _ => cases hs
  · rw [shape_names] at hs
    cases t with
    | tuple xs =>
      simp only [areNames, Bool.and_eq_true] at hs
      exact gd_tup fun x hx => name_gd (List.all_eq_true.mp hs.1.2 x hx)
    | _ => cases hs
  · rw [shape_terms] at hs
    cases t with
    | tuple xs =>
      rw [at_terms] at hk
      exact gd_tup fun x hx => hk (x, "term") (List.mem_map_of_mem hx)
    | _ => cases hs
  · rw [shape_body] at hs
    cases t with
    | tuple xs =>
      rw [at_body] at hk
      exact gd_tup fun x hx => hk (x, "statement") (List.mem_map_of_mem hx)
    | _ => cases hs
  · rw [at_term] at hk
    exact (hk (t, "term") List.mem_cons_self).mono (Nat.le_succ _)
theorem forms_known : ∀ p ∈ forms, PyData.strOk p.1 = true ∧ ∀ f ∈ p.2, f ∈ shapesL := by
  have h : (forms.all fun p => PyData.strOk p.1 && p.2.all fun f => shapesL.any fun g => g == f) = true := by decide +kernel
  intro p hp
  have q := List.all_eq_true.mp h p hp
  rw [Bool.and_eq_true] at q
  refine ⟨q.1, fun f hf => ?_⟩
  obtain ⟨g, hg, e⟩ := List.any_eq_true.mp (List.all_eq_true.mp q.2 f hf)
  cases beq_iff_eq.mp e
  exact hg
theorem form_gd {d : PyData} {sh : Str} {hands : Bool} {n : Nat} (h : hasForm d sh hands = true) (hk : ∀ e ∈ kids d, Gd n e) : Gd (n + 2) d := by
  obtain ⟨hd, ts, fs, l, rfl, _, _, e, _, hl, hs, _⟩ := hasForm_is h
  obtain ⟨k1, k2⟩ := forms_known _ (PySem.mem_of_lookup e)
  refine gd_tup fun x hx => ?_
  rcases List.mem_cons.mp hx with rfl | hx
  · exact gd_str k1
  · obtain ⟨i, hi, rfl⟩ := List.getElem_of_mem hx
    have hz : (ts[i], fs[i]'(by omega)) ∈ ts.zip fs := by
      rw [List.mem_iff_getElem]
      exact ⟨i, by rw [List.length_zip]; omega, by rw [List.getElem_zip]⟩
    refine gd_at (hs _ hz) (k2 _ (List.getElem_mem _)) fun z hzz => hk z.1 ?_
    unfold kids
    refine List.mem_map_of_mem ?_
    rw [inner_of' e]
    exact List.mem_flatMap.mpr ⟨_, hz, hzz⟩
mutual
theorem Tr.gd : ∀ {d : PyData} {s t : Nat}, Tr d s t → Gd (2 * t) d
  | _, _, _, .mk hf h => form_gd hf (Trl.gd h)
theorem Trl.gd : ∀ {ds : List PyData} {s t : Nat}, Trl ds s t → ∀ d ∈ ds, Gd (2 * t) d
  | _, _, _, .nil => fun d hd => nomatch hd
  | _, _, _, .cons h1 h2 => by
    have a := Tr.gd h1
    have b := Trl.gd h2
    intro d hd
    rcases List.mem_cons.mp hd with e | hd
    · rw [e]
      exact a.mono (by omega)
    · exact (b d hd).mono (by omega)
end
end Tre

namespace Tre
open PySem
noncomputable abbrev sz (d : PyData) : Nat := d.shown.length
theorem all_shown : ∀ xs : List PyData, PyData.shownAll xs = xs.map PyData.shown
  | [] => rfl
  | x :: r => by rw [PyData.shownAll, all_shown r]; rfl
theorem sz_tup (xs : List PyData) : sz (.tuple xs) ≤ (xs.map sz).sum + 2 * xs.length + 3 := by
  have h := tupleText_len_le (xs.map PyData.shown)
  rw [List.length_map, List.map_map] at h
  have e : sz (.tuple xs) = (tupleText (xs.map PyData.shown)).length := by
    show (PyData.shown (.tuple xs)).length = _
    rw [PyData.shown, all_shown]
  rw [e]
  exact h
theorem sz_str {x : Str} {n : Nat} (h : PyData.strOk x = true) (hn : x.length ≤ n) : sz (.str x) ≤ 10 * n + 2 := by
  have q := StrLaws.reprText_len x fun c hc => by
    unfold PyData.strOk at h
    rw [← Array.all_toList, List.all_eq_true] at h
    have := of_decide_eq_true (h c hc)
    omega
  have e : sz (.str x) = (reprText x).length := by
    show (PyData.shown (.str x)).length = _
    rw [PyData.shown]
  omega
theorem num_log {i : Int} (h : numB i = true) : i.natAbs.log2 < 1920 := by
  unfold numB at h
  rw [Bool.and_eq_true] at h
  have a := of_decide_eq_true h.1
  have b := of_decide_eq_true h.2
  have c : i.natAbs < 2 ^ 1920 := Nat.lt_of_le_of_lt (show i.natAbs ≤ 1000000000000 by omega) (by decide +kernel)
  by_cases z : i.natAbs = 0
  · rw [z]; decide
  · exact (Nat.log2_lt z).mpr c
theorem sz_int {i : Int} (h : numB i = true) : sz (.int i) ≤ 1921 := by
  have e : sz (.int i) = (Str.ofString (toString i)).length := by
    show (PyData.shown (.int i)).length = _
    rw [PyData.shown]
  rw [e]
  exact PyProof.Rows.int_text_len_1921 (num_log h)
theorem name_len {x : Str} (h : nameB x = true) : x.length ≤ 8 := by
  unfold nameB at h
  rw [Bool.and_eq_true, Bool.and_eq_true] at h
  exact of_decide_eq_true h.1.2
theorem sz_name {t : PyData} (h : isName t = true) : sz t ≤ 82 ∧ t.showable = true := by
  cases t with
  | str x => exact ⟨sz_str (name_ok h) (name_len h), rfl⟩
  | _ => cases h
theorem sum_le {c : Nat} : ∀ {xs : List PyData}, (∀ x ∈ xs, sz x ≤ c) → (xs.map sz).sum ≤ c * xs.length
  | [], _ => Nat.zero_le _
  | x :: r, h => by
    have a := h x List.mem_cons_self
    have b := sum_le fun y hy => h y (List.mem_cons_of_mem _ hy)
    rw [List.map_cons, List.sum_cons, List.length_cons, Nat.mul_succ]
    omega
theorem all_able : ∀ {xs : List PyData}, (∀ x ∈ xs, x.showable = true) → PyData.showableAll xs = true
  | [], _ => rfl
  | x :: r, h => by
    rw [PyData.showableAll, h x List.mem_cons_self, all_able fun y hy => h y (List.mem_cons_of_mem _ hy)]
    rfl
theorem sum_two : ∀ (xs : List PyData), (xs.map fun x => sz x + 2).sum = (xs.map sz).sum + 2 * xs.length
  | [] => rfl
  | x :: r => by
    rw [List.map_cons, List.sum_cons, sum_two r, List.map_cons, List.sum_cons, List.length_cons]
    omega
theorem able_tup {xs : List PyData} (h : ∀ x ∈ xs, x.showable = true) : (PyData.tuple xs).showable = true := by
  rw [PyData.showable]
  exact all_able h
theorem sz_at {t : PyData} {f : Str} (hs : hasShape t f = true) (hf : f ∈ shapesL) (hk : ∀ z ∈ innerAt t f, z.1.showable = true) : t.showable = true ∧ sz t ≤ 2000 + ((innerAt t f).map fun z => sz z.1 + 2).sum := by
  simp only [shapesL, List.mem_cons, List.not_mem_nil, or_false] at hf
  rcases hf with rfl | rfl | rfl | rfl | rfl | rfl | rfl | rfl
  · rw [shape_number] at hs
    cases t with
    | int i =>
      have := sz_int hs
      exact ⟨by rw [PyData.showable]; exact decide_eq_true (num_log hs), by omega⟩
    | _ => cases hs
  · rw [shape_name] at hs
    obtain ⟨a, b⟩ := sz_name hs
    exact ⟨b, by omega⟩
  · rw [shape_word] at hs
    cases t with
    | str x =>
      have q : (nameB x && x != "any") = true := hs
      rw [Bool.and_eq_true] at q
      obtain ⟨a, b⟩ := sz_name (t := .str x) q.1
      exact ⟨b, by omega⟩
    | _ => cases hs
  · rw [shape_sign] at hs
    cases t with
    | str x =>
      have q : (signs.any fun y => y == x) = true := hs
      obtain ⟨y, hy, e⟩ := List.any_eq_true.mp q
      cases beq_iff_eq.mp e
      have k : (signs.all fun y => PyData.strOk y && decide (y.length ≤ 8)) = true := by decide +kernel
      have k' := List.all_eq_true.mp k _ hy
      rw [Bool.and_eq_true] at k'
      have := sz_str k'.1 (of_decide_eq_true k'.2)
      exact ⟨rfl, by omega⟩
    | _ => cases hs
  · rw [shape_names] at hs
    cases t with
    | tuple xs =>
      simp only [areNames, Bool.and_eq_true] at hs
      have l4 := of_decide_eq_true hs.1.1
      have q : ∀ x ∈ xs, sz x ≤ 82 ∧ x.showable = true := fun x hx => sz_name (List.all_eq_true.mp hs.1.2 x hx)
      have a := sz_tup xs
      have b := sum_le fun x hx => (q x hx).1
      exact ⟨able_tup fun x hx => (q x hx).2, by omega⟩
    | _ => cases hs
  · rw [shape_terms] at hs
    cases t with
    | tuple xs =>
      rw [at_terms] at hk ⊢
      rw [List.map_map]
      have a := sz_tup xs
      have b := sum_two xs
      have e : ((fun z : PyData × Str => sz z.1 + 2) ∘ fun x : PyData => (x, ("term" : Str))) = fun x => sz x + 2 := rfl
      rw [e, b]
      exact ⟨able_tup fun x hx => hk (x, "term") (List.mem_map_of_mem hx), by omega⟩
    | _ => cases hs
  · rw [shape_body] at hs
    cases t with
    | tuple xs =>
      rw [at_body] at hk ⊢
      rw [List.map_map]
      have a := sz_tup xs
      have b := sum_two xs
      have e : ((fun z : PyData × Str => sz z.1 + 2) ∘ fun x : PyData => (x, ("statement" : Str))) = fun x => sz x + 2 := rfl
      rw [e, b]
      exact ⟨able_tup fun x hx => hk (x, "statement") (List.mem_map_of_mem hx), by omega⟩
    | _ => cases hs
  · rw [at_term] at hk ⊢
    refine ⟨hk (t, "term") List.mem_cons_self, ?_⟩
    rw [List.map_cons, List.sum_cons]
    show sz t ≤ 2000 + (sz t + 2 + _)
    omega
theorem sz_zip : ∀ (l : List (PyData × Str)), (∀ p ∈ l, sz p.1 ≤ 2000 + ((innerAt p.1 p.2).map fun z => sz z.1 + 2).sum) → (l.map fun p => sz p.1).sum ≤ 2000 * l.length + ((l.flatMap fun p => innerAt p.1 p.2).map fun z => sz z.1 + 2).sum
  | [], _ => Nat.zero_le _
  | p :: r, h => by
    have a := h p List.mem_cons_self
    have b := sz_zip r fun q hq => h q (List.mem_cons_of_mem _ hq)
    rw [List.map_cons, List.sum_cons, List.length_cons, List.flatMap_cons, List.map_append, List.sum_append]
    omega
theorem form_sz {d : PyData} {sh : Str} {hands : Bool} (h : hasForm d sh hands = true) (hk : ∀ e ∈ kids d, e.showable = true) : d.showable = true ∧ sz d + 2 ≤ 10200 + ((kids d).map fun e => sz e + 2).sum := by
  obtain ⟨hd, ts, fs, l, rfl, _, _, e, h5, hl, hs, _⟩ := hasForm_is h
  obtain ⟨k1, k2⟩ := forms_known _ (PySem.mem_of_lookup e)
  have hh : hd.length ≤ 8 := by
    have k : (forms.all fun p => decide (p.1.length ≤ 8)) = true := by decide +kernel
    exact of_decide_eq_true (List.all_eq_true.mp k _ (PySem.mem_of_lookup e))
  have q : ∀ p ∈ ts.zip fs, p.1.showable = true ∧ sz p.1 ≤ 2000 + ((innerAt p.1 p.2).map fun z => sz z.1 + 2).sum := fun p hp => by
    refine sz_at (hs p hp) (k2 _ (List.of_mem_zip hp).2) fun z hz => hk z.1 ?_
    unfold kids
    refine List.mem_map_of_mem ?_
    rw [inner_of' e]
    exact List.mem_flatMap.mpr ⟨_, hp, hz⟩
  have ez : (ts.zip fs).map (·.1) = ts := List.map_fst_zip (by omega)
  refine ⟨able_tup fun x hx => ?_, ?_⟩
  · rcases List.mem_cons.mp hx with rfl | hx
    · rfl
    · rw [← ez] at hx
      obtain ⟨p, hp, rfl⟩ := List.mem_map.mp hx
      exact (q p hp).1
  · have a := sz_tup (.str hd :: ts)
    have b := sz_zip (ts.zip fs) fun p hp => (q p hp).2
    have c : sz (.str hd) ≤ 82 := sz_str k1 hh
    have e2 : ((ts.zip fs).map fun p => sz p.1) = ts.map sz := by
      rw [← ez, List.map_map]
      congr 1
      rw [ez]
    have e3 : ((kids (.tuple (.str hd :: ts))).map fun e => sz e + 2) = (((ts.zip fs).flatMap fun p => innerAt p.1 p.2).map fun z => sz z.1 + 2) := by
      unfold kids
      rw [inner_of' e, List.map_map]
      rfl
    rw [e2, List.length_zip] at b
    rw [List.map_cons, List.sum_cons, List.length_cons] at a
    rw [e3]
    omega
mutual
theorem Tr.sz : ∀ {d : PyData} {s t : Nat}, Tr d s t → d.showable = true ∧ Tre.sz d + 2 ≤ 10200 * s
  | _, _, _, .mk hf h => by
    obtain ⟨a, b⟩ := Trl.sz h
    obtain ⟨c, e⟩ := form_sz hf a
    exact ⟨c, by omega⟩
theorem Trl.sz : ∀ {ds : List PyData} {s t : Nat}, Trl ds s t → (∀ d ∈ ds, d.showable = true) ∧ (ds.map fun e => Tre.sz e + 2).sum ≤ 10200 * s
  | _, _, _, .nil => ⟨fun d hd => (nomatch hd), Nat.zero_le _⟩
  | _, _, _, .cons h1 h2 => by
    obtain ⟨a, b⟩ := Tr.sz h1
    obtain ⟨c, e⟩ := Trl.sz h2
    refine ⟨fun d hd => ?_, ?_⟩
    · rcases List.mem_cons.mp hd with z | hd
      · rw [z]; exact a
      · exact c d hd
    · rw [List.map_cons, List.sum_cons]
      omega
end
end Tre

namespace Tre
open PySem
theorem lay_mem : ∀ {xs : List PyData}, PyData.canLayAll0 xs = true → noLs xs = true → ∀ x ∈ xs, x.canLay0 = true ∧ noL x = true
  | [], _, _, _, hx => nomatch hx
  | y :: r, h, n, x, hx => by
    rw [PyData.canLayAll0, Bool.and_eq_true] at h
    rw [noLs, Bool.and_eq_true] at n
    rcases List.mem_cons.mp hx with rfl | hx
    · exact ⟨h.1, n.1⟩
    · exact lay_mem h.2 n.2 x hx
theorem Gd.mem {n : Nat} {xs : List PyData} (h : Gd n (.tuple xs)) : ∀ x ∈ xs, Gd n x := fun x hx => by
  have a := h.lay
  have b := h.nol
  have c := h.dep
  rw [PyData.canLay0] at a
  rw [noL] at b
  rw [PyData.depth] at c
  obtain ⟨d, e⟩ := lay_mem a b x hx
  exact ⟨e, d, by have := PyData.depth_le_depthAll xs x hx; omega⟩
theorem Gd.shaped {n : Nat} {d : PyData} (h : Gd n d) (hn : n ≤ 64) : SeqAt.shaped d = true := by
  unfold SeqAt.shaped
  rw [h.lay, decide_eq_true (Nat.le_trans h.dep hn)]
  rfl
noncomputable def isPart : PyData → Bool
  | .tuple (.str _ :: _) => true
  | _ => false
noncomputable def isTup : PyData → Bool
  | .tuple _ => true
  | _ => false
noncomputable def holds (h : Str) : Bool := h == "main" || (h == "fun" || h == "loop")
theorem form_part {d : PyData} {sh : Str} {hands : Bool} (h : hasForm d sh hands = true) : isPart d = true ∧ isTup d = true := by
  obtain ⟨hd, ts, fs, l, rfl, _⟩ := hasForm_is h
  exact ⟨rfl, rfl⟩
theorem forms_holds : ∀ p ∈ forms, ∀ f ∈ p.2, (f = "names" → holds p.1 = true) ∧ (f = "term" → holds p.1 = false) := by
  have h : (forms.all fun p => p.2.all fun f => (f != "names" || holds p.1) && (f != "term" || !holds p.1)) = true := by decide +kernel
  intro p hp f hf
  have q := List.all_eq_true.mp (List.all_eq_true.mp h p hp) f hf
  rw [Bool.and_eq_true, Bool.or_eq_true, Bool.or_eq_true, bne_iff_ne, bne_iff_ne, Bool.not_eq_true'] at q
  exact ⟨fun e => q.1.resolve_left fun n => n e, fun e => q.2.resolve_left fun n => n e⟩
theorem strs_out {xs : List PyData} (h : xs.all isName = true) : xs.filter isTup = [] := by
  rw [List.filter_eq_nil_iff]
  intro x hx z
  have q := List.all_eq_true.mp h x hx
  cases x with
  | tuple _ => cases q
  | _ => cases z
theorem tups_in {xs : List PyData} (h : ∀ x ∈ xs, isTup x = true) : xs.filter isTup = xs := List.filter_eq_self.mpr h
theorem part_no {xs : List PyData} (h : ∀ x ∈ xs, isTup x = true) : isPart (.tuple xs) = false := by
  cases xs with
  | nil => rfl
  | cons x r =>
    have q := h x List.mem_cons_self
    cases x with
    | tuple _ => rfl
    | _ => cases q
theorem item_is {h : Str} {fs : List Str} (e : forms.lookup h = some fs) {t : PyData} {f : Str} (hf : f ∈ fs) (hs : hasShape t f = true) (hk : ∀ z ∈ innerAt t f, ∃ sh hands, hasForm z.1 sh hands = true) :
    (isTup t = false ∧ (innerAt t f).map (·.1) = []) ∨ (isPart t = true ∧ holds h = false ∧ (innerAt t f).map (·.1) = [t]) ∨ (∃ xs, t = .tuple xs ∧ (isPart t && !holds h) = false ∧ xs.length ≤ 12 ∧ (innerAt t f).map (·.1) = xs.filter isTup) := by
  obtain ⟨n1, n2⟩ := forms_holds _ (PySem.mem_of_lookup e) f hf
  have hf' := (forms_known _ (PySem.mem_of_lookup e)).2 f hf
  simp only [shapesL, List.mem_cons, List.not_mem_nil, or_false] at hf'
  rcases hf' with rfl | rfl | rfl | rfl | rfl | rfl | rfl | rfl
  · rw [shape_number] at hs
    refine .inl ⟨?_, by rw [at_none (by decide +kernel)]; rfl⟩
    cases t with
    | int i => rfl
    | _ => cases hs
  · rw [shape_name] at hs
    refine .inl ⟨?_, by rw [at_none (by decide +kernel)]; rfl⟩
    cases t with
    | str i => rfl
    | _ => cases hs
  · rw [shape_word] at hs
    refine .inl ⟨?_, by rw [at_none (by decide +kernel)]; rfl⟩
    cases t with
    | str i => rfl
    | _ => cases hs
  · rw [shape_sign] at hs
    refine .inl ⟨?_, by rw [at_none (by decide +kernel)]; rfl⟩
    cases t with
    | str i => rfl
    | _ => cases hs
  · rw [shape_names] at hs
    refine .inr (.inr ?_)
    cases t with
    | tuple xs =>
      simp only [areNames, Bool.and_eq_true] at hs
      refine ⟨xs, rfl, by rw [n1 rfl]; exact Bool.and_false _, by have := of_decide_eq_true hs.1.1; omega, ?_⟩
      rw [at_none (by decide +kernel), strs_out hs.1.2]
      rfl
    | _ => cases hs
  · rw [shape_terms] at hs
    cases t with
    | tuple xs =>
      rw [at_terms] at hk ⊢
      have q : ∀ x ∈ xs, isTup x = true := fun x hx => by
        obtain ⟨sh, hands, hh⟩ := hk (x, "term") (List.mem_map_of_mem hx)
        exact (form_part hh).2
      refine .inr (.inr ⟨xs, rfl, by rw [part_no q]; rfl, by have := of_decide_eq_true hs; omega, ?_⟩)
      rw [tups_in q, List.map_map]
      exact List.map_id _
    | _ => cases hs
  · rw [shape_body] at hs
    cases t with
    | tuple xs =>
      rw [at_body] at hk ⊢
      have q : ∀ x ∈ xs, isTup x = true := fun x hx => by
        obtain ⟨sh, hands, hh⟩ := hk (x, "statement") (List.mem_map_of_mem hx)
        exact (form_part hh).2
      refine .inr (.inr ⟨xs, rfl, by rw [part_no q]; rfl, by have := of_decide_eq_true hs; omega, ?_⟩)
      rw [tups_in q, List.map_map]
      exact List.map_id _
    | _ => cases hs
  · rw [at_term] at hk ⊢
    obtain ⟨sh, hands, hh⟩ := hk (t, "term") List.mem_cons_self
    exact .inr (.inl ⟨(form_part hh).1, n2 rfl, rfl⟩)
end Tre

namespace Tre
open PySem
noncomputable def isFn (d : PyData) : Bool := holds (headOf d)
noncomputable def fnOf : PyData → PyData → PyData
  | .tuple (h :: a :: b :: _), o => .tuple [h, a, b, o]
  | _, _ => .none
noncomputable def accOf (d o : PyData) (acc : List PyData) : List PyData := if isFn d = true then acc ++ [fnOf d o] else acc
noncomputable def outOf (d o : PyData) (acc : List PyData) : PyData := if isFn d = true then .int (acc.length : Nat) else o
noncomputable def visit0 : Nat → PyData → PyData → List PyData → List PyData
  | 0, _, _, acc => acc
  | n + 1, d, o, acc => (kids d).foldl (fun a e => visit0 n e (outOf d o acc) a) (accOf d o acc)
structure Box (α : Type) where
  val : α
@[irreducible] noncomputable def visitB : Box (Nat → PyData → PyData → List PyData → List PyData) := ⟨visit0⟩
noncomputable def visit (n : Nat) (d o : PyData) (acc : List PyData) : List PyData := visitB.val n d o acc
theorem visit_is (n : Nat) (d o : PyData) (acc : List PyData) : visit n d o acc = visit0 n d o acc := by
  unfold visit visitB
  rfl
theorem visit_zero (d o : PyData) (acc : List PyData) : visit 0 d o acc = acc := by
  rw [visit_is, visit0]
theorem visit_succ (n : Nat) (d o : PyData) (acc : List PyData) : visit (n + 1) d o acc = (kids d).foldl (fun a e => visit n e (outOf d o acc) a) (accOf d o acc) := by
  rw [visit_is, visit0]
  congr 1
  funext a e
  rw [visit_is]
noncomputable abbrev each (n : Nat) (ds : List PyData) (o : PyData) (acc : List PyData) : List PyData := ds.foldl (fun a e => visit n e o a) acc
theorem Trl.mem : ∀ {ds : List PyData} {s t : Nat}, Trl ds s t → ∀ d ∈ ds, ∃ s' t', Tr d s' t' ∧ s' ≤ s ∧ t' ≤ t := by
  intro ds
  induction ds with
  | nil => intro s t _ d hd; cases hd
  | cons e r ih =>
    intro s t h d hd
    cases h with
    | @cons _ _ s1 t1 s2 t2 h1 h2 =>
      rcases List.mem_cons.mp hd with rfl | hd
      · exact ⟨s1, t1, h1, by omega, by omega⟩
      · obtain ⟨s', t', a, b, c⟩ := ih h2 d hd
        exact ⟨s', t', a, by omega, by omega⟩
theorem foldl_same {α β : Type} {f g : α → β → α} : ∀ (l : List β) (a : α), (∀ e ∈ l, ∀ a, f a e = g a e) → l.foldl f a = l.foldl g a
  | [], _, _ => rfl
  | e :: r, a, h => by
    rw [List.foldl_cons, List.foldl_cons, h e List.mem_cons_self]
    exact foldl_same r _ fun e he => h e (List.mem_cons_of_mem _ he)
theorem visit_up : ∀ (n : Nat) {d : PyData} {s t : Nat} (o : PyData) (acc : List PyData), Tr d s t → t ≤ n → visit n d o acc = visit (n + 1) d o acc
  | 0, d, s, t, o, acc, h, ht => by
    cases h
    omega
  | n + 1, d, s, t, o, acc, h, ht => by
    cases h with
    | mk hf tl =>
      rw [visit_succ, visit_succ]
      refine foldl_same _ _ fun e he a => ?_
      obtain ⟨s', t', h', _, h2⟩ := tl.mem e he
      exact visit_up n _ _ h' (by omega)
theorem visit_part {d : PyData} {s t : Nat} {o : PyData} {acc : List PyData} (h : Tr d s t) (ht : t ≤ 29) : visit 30 d o acc = each 30 (kids d) (outOf d o acc) (accOf d o acc) := by
  cases h with
  | mk hf tl =>
    rw [visit_succ]
    refine foldl_same _ _ fun e he a => ?_
    obtain ⟨s', t', h', _, h2⟩ := tl.mem e he
    exact visit_up 29 _ _ h' (by omega)
theorem forms_two : ∀ p ∈ forms, holds p.1 = true → p.2.length = 2 := by
  have h : (forms.all fun p => !holds p.1 || decide (p.2.length = 2)) = true := by decide +kernel
  intro p hp hh
  have q := List.all_eq_true.mp h p hp
  rw [hh] at q
  exact of_decide_eq_true q
theorem fn_is {d : PyData} {sh : Str} {hands : Bool} (h : hasForm d sh hands = true) (hh : isFn d = true) : ∃ hd a b, d = .tuple [.str hd, a, b] ∧ holds hd = true := by
  obtain ⟨hd, ts, fs, l, rfl, _, _, e, _, hl, _⟩ := hasForm_is h
  have h2 := forms_two _ (PySem.mem_of_lookup e) hh
  match ts, hl with
  | [a, b], _ => exact ⟨hd, a, b, rfl, hh⟩
  | [], z => rw [h2] at z; cases z
  | [_], z => rw [h2] at z; cases z
  | _ :: _ :: _ :: _, z => rw [h2] at z; cases z
noncomputable def Fn (e : PyData) : Prop := ∃ h a b o, e = .tuple [.str h, a, b, o] ∧ Gd 60 e
noncomputable def FnI (e : PyData) : Prop := ∃ h a b k, e = .tuple [.str h, a, b, .int k]
structure Acc (acc : List PyData) : Prop where
  all : ∀ e ∈ acc, Fn e
  tail : ∀ e ∈ acc.tail, FnI e
theorem fn_gd {d o : PyData} {s t : Nat} (h : Tr d s t) (hh : isFn d = true) (ht : t ≤ 29) (ho : Gd 0 o) : Fn (fnOf d o) := by
  have g := h.gd
  cases h with
  | mk hf _ =>
    obtain ⟨hd, a, b, rfl, _⟩ := fn_is hf hh
    refine ⟨hd, a, b, o, rfl, (gd_tup (n := 59) fun x hx => ?_)⟩
    have q : ∀ x ∈ [.str hd, a, b], Gd 59 x := fun x hx => (g.mem x hx).mono (by omega)
    simp only [List.mem_cons, List.not_mem_nil, or_false] at hx
    rcases hx with rfl | rfl | rfl | rfl
    · exact q _ (by simp)
    · exact q _ (by simp)
    · exact q _ (by simp)
    · exact ho.mono (by omega)
theorem acc_step {d : PyData} {s t : Nat} {k : Int} {acc : List PyData} (h : Tr d s t) (ht : t ≤ 29) (hn : acc ≠ []) (ha : Acc acc) : Acc (accOf d (.int k) acc) ∧ accOf d (.int k) acc ≠ [] := by
  unfold accOf
  split
  · rename_i hh
    refine ⟨⟨fun e he => ?_, fun e he => ?_⟩, by simp⟩
    · rcases List.mem_append.mp he with he | he
      · exact ha.all e he
      · cases List.mem_singleton.mp he
        exact fn_gd h hh ht gd_int
    · rw [List.tail_append_of_ne_nil hn] at he
      rcases List.mem_append.mp he with he | he
      · exact ha.tail e he
      · cases List.mem_singleton.mp he
        cases h with
        | mk hf _ =>
          obtain ⟨hd, a, b, rfl, _⟩ := fn_is hf hh
          exact ⟨hd, a, b, k, rfl⟩
  · exact ⟨ha, hn⟩
theorem out_int (d : PyData) (k : Int) (acc : List PyData) : ∃ j, outOf d (.int k) acc = .int j := by
  unfold outOf
  split
  · exact ⟨_, rfl⟩
  · exact ⟨k, rfl⟩
theorem acc_len (d o : PyData) (acc : List PyData) : (accOf d o acc).length ≤ acc.length + 1 := by
  unfold accOf
  split
  · simp
  · omega
theorem each_zero : ∀ (ds : List PyData) (o : PyData) (acc : List PyData), each 0 ds o acc = acc
  | [], _, _ => rfl
  | d :: r, o, acc => by
    show List.foldl _ (visit 0 d o acc) r = acc
    rw [visit_zero]
    exact each_zero r o acc
theorem each_acc : ∀ (n : Nat) {ds : List PyData} {s t : Nat} (k : Int) (acc : List PyData), Trl ds s t → t ≤ 29 → acc ≠ [] → Acc acc → Acc (each n ds (.int k) acc) ∧ each n ds (.int k) acc ≠ [] ∧ (each n ds (.int k) acc).length ≤ acc.length + s
  | 0, ds, s, t, k, acc, h, ht, hn, ha => by
    have e := each_zero ds (.int k) acc
    rw [e]
    exact ⟨ha, hn, by omega⟩
  | n + 1, ds, s, t, k, acc, h, ht, hn, ha => by
    induction ds generalizing s t acc with
    | nil =>
      cases h
      exact ⟨ha, hn, Nat.le_refl _⟩
    | cons d r ih =>
      cases h with
      | @cons _ _ s1 t1 s2 t2 h1 h2 =>
        unfold each
        rw [List.foldl_cons, visit_succ]
        obtain ⟨a1, a2⟩ := acc_step (k := k) h1 (by omega) hn ha
        obtain ⟨j, ej⟩ := out_int d k acc
        have al := acc_len d (.int k) acc
        cases h1 with
        | @mk _ sh hands s0 t0 hf tl =>
          obtain ⟨b1, b2, b3⟩ := each_acc n j (accOf d (.int k) acc) tl (by omega) a2 a1
          rw [ej]
          obtain ⟨c1, c2, c3⟩ := ih _ _ (each n (kids d) (.int j) (accOf d (.int k) acc)) h2 (by omega) b2 b1
          exact ⟨c1, c2, by show List.length (each (n + 1) r (.int k) (each n (kids d) (.int j) (accOf d (.int k) acc))) ≤ _; omega⟩
noncomputable abbrev funs (d : PyData) : List PyData := visit 30 d .none []
theorem funs_main {d : PyData} {s t : Nat} (h : Pt d "program" false s t) (ht : t ≤ 20) : (∃ a b, d = .tuple [.str "main", a, b] ∧ funs d = each 30 (kids d) (.int 0) [.tuple [.str "main", a, b, .none]]) ∧ Acc (funs d) ∧ (funs d).length ≤ s := by
  have tr := h.tr
  cases h with
  | @mk _ _ _ s t hf _ =>
    obtain ⟨hd, ts, fs, l, rfl, e1, e2, _⟩ := hasForm_is hf
    have hm : hd = "main" := by
      have q : heads.lookup ("program" : Str) = some (["main"] : List Str) := by decide +kernel
      rw [q] at e1
      cases e1
      simpa using e2
    subst hm
    have hh : isFn (.tuple (.str "main" :: ts)) = true := (by decide +kernel : holds "main" = true)
    obtain ⟨hd, a, b, e, _⟩ := fn_is hf hh
    cases e
    have ev : funs (.tuple [.str "main", a, b]) = each 30 (kids (.tuple [.str "main", a, b])) (.int 0) [.tuple [.str "main", a, b, .none]] := by
      show visit 30 _ _ _ = _
      rw [visit_part tr (by omega)]
      unfold outOf accOf
      rw [if_pos hh, if_pos hh]
      rfl
    have fn := fn_gd (o := .none) tr hh (by omega) ⟨rfl, rfl, Nat.zero_le _⟩
    refine ⟨⟨a, b, rfl, ev⟩, ?_⟩
    rw [ev]
    cases tr with
    | @mk _ sh hands s0 t0 hf2 tl =>
      obtain ⟨c1, _, c3⟩ := each_acc 30 0 [.tuple [.str "main", a, b, .none]] tl (by omega) (by simp) ⟨fun e he => by
        cases List.mem_singleton.mp he
        exact fn, fun e he => by cases he⟩
      exact ⟨c1, by rw [List.length_singleton] at c3; omega⟩
inductive Stk : List (PyData × PyData) → Nat → Prop
  | nil : Stk [] 0
  | cons {d o : PyData} {r : List (PyData × PyData)} {s t m : Nat} : Tr d s t → t ≤ 20 → Gd 0 o → Stk r m → Stk ((d, o) :: r) (s + m)
noncomputable abbrev ahead (tops : List (PyData × PyData)) (acc : List PyData) : List PyData := tops.foldl (fun a p => visit 30 p.1 p.2 a) acc
theorem Stk.push {o : PyData} (ho : Gd 0 o) {r : List (PyData × PyData)} {m : Nat} (hr : Stk r m) : ∀ {ds : List PyData} {s t : Nat}, Trl ds s t → t ≤ 20 → Stk (ds.map (fun e => (e, o)) ++ r) (s + m) := by
  intro ds
  induction ds with
  | nil => intro s t h _; cases h; simpa using hr
  | cons d q ih =>
    intro s t h ht
    cases h with
    | @cons _ _ s1 t1 s2 t2 h1 h2 =>
      have := Stk.cons h1 (by omega) ho (ih h2 (by omega))
      rw [List.map_cons, List.cons_append, Nat.add_assoc]
      exact this
theorem ahead_push (ds : List PyData) (o : PyData) (r : List (PyData × PyData)) (acc : List PyData) : ahead (ds.map (fun e => (e, o)) ++ r) acc = ahead r (each 30 ds o acc) := by
  unfold ahead each
  rw [List.foldl_append, List.foldl_map]
noncomputable abbrev pairD (p : PyData × PyData) : PyData := .tuple [p.1, p.2]
theorem Stk.len : ∀ {tops : List (PyData × PyData)} {m : Nat}, Stk tops m → tops.length ≤ m := by
  intro tops
  induction tops with
  | nil => intro m _; exact Nat.zero_le _
  | cons p r ih =>
    intro m h
    cases h with
    | cons h1 _ _ h2 =>
      have := ih h2
      cases h1
      rw [List.length_cons]
      omega
theorem Stk.nol : ∀ {tops : List (PyData × PyData)} {m : Nat}, Stk tops m → noLs (tops.map pairD) = true := by
  intro tops
  induction tops with
  | nil => intro m _; rfl
  | cons p r ih =>
    intro m h
    cases h with
    | cons h1 _ h0 h2 =>
      rw [List.map_cons, noLs, ih h2, Bool.and_true]
      show noL (.tuple [_, _]) = true
      rw [noL, noLs, noLs, noLs, h1.gd.nol, h0.nol]
      rfl
end Tre

namespace Nam
open PySem
noncomputable def one (c : Nat) : Str := ⟨#[c]⟩
noncomputable def low (c : Nat) : Bool := decide (97 ≤ c) && decide (c ≤ 122)
noncomputable def wrd (cs : List Nat) : Str := ⟨cs.toArray⟩
theorem wrd_inj {a b : List Nat} (h : wrd a = wrd b) : a = b := by
  have e : (wrd a).cps = (wrd b).cps := by rw [h]
  exact congrArg Array.toList e
theorem wrd_len (cs : List Nat) : (wrd cs).length = cs.length := by simp [wrd, Str.length]
theorem join_one' : ∀ cs : List Nat, (Str.join (Str.ofString "") (cs.map one)).cps.toList = cs
  | [] => by decide +kernel
  | [c] => rfl
  | c :: d :: r => by
    have ih := join_one' (d :: r)
    rw [List.map_cons] at ih
    show ((one c) ++ Str.ofString "" ++ Str.join (Str.ofString "") (one d :: r.map one)).cps.toList = _
    have e : ∀ a b : Str, (a ++ b).cps.toList = a.cps.toList ++ b.cps.toList := fun a b => by
      show (a.cps ++ b.cps).toList = _
      simp
    rw [e, e, ih]
    rfl
theorem join_one (cs : List Nat) : Txt.join (Str.ofString "") (cs.map one) = wrd cs := by
  rw [beq_iff_eq.mp (PyProof.Rows.join_plain_closes (Str.ofString "") _)]
  have h := join_one' cs
  generalize Str.join (Str.ofString "") (cs.map one) = x at h
  cases x with
  | mk a => subst h; rfl
theorem ones_len (cs : List Nat) : ((cs.map one).map (·.length)).sum = cs.length := by
  induction cs with
  | nil => rfl
  | cons c r ih =>
    rw [List.map_cons, List.map_cons, List.sum_cons, ih, List.length_cons]
    show 1 + _ = _
    omega
theorem name_wrd {cs : List Nat} (h1 : 1 ≤ cs.length) (h8 : cs.length ≤ 8) (h : cs.all low = true) : Tre.nameB (wrd cs) = true := by
  unfold Tre.nameB
  rw [wrd_len, decide_eq_true h1, decide_eq_true h8]
  exact h
theorem nodup_map {α β : Type} (f : α → β) : ∀ {l : List α}, l.Nodup → (∀ a ∈ l, ∀ b ∈ l, f a = f b → a = b) → (l.map f).Nodup
  | [], _, _ => List.nodup_nil
  | x :: r, h, hi => by
    rw [List.nodup_cons] at h
    rw [List.map_cons, List.nodup_cons]
    refine ⟨fun hm => ?_, nodup_map f h.2 fun a ha b hb => hi a (List.mem_cons_of_mem _ ha) b (List.mem_cons_of_mem _ hb)⟩
    obtain ⟨y, hy, e⟩ := List.mem_map.mp hm
    have := hi y (List.mem_cons_of_mem _ hy) x List.mem_cons_self e
    exact h.1 (this ▸ hy)
theorem begins (cs : List Nat) (h : cs.length = 8) : ((List.range 8).map fun k => wrd (cs.take (k + 1))).Nodup := by
  refine nodup_map _ List.nodup_range fun a ha b hb e => ?_
  have e1 := congrArg List.length (wrd_inj e)
  rw [List.length_take, List.length_take] at e1
  have := List.mem_range.mp ha
  have := List.mem_range.mp hb
  omega
theorem alike (cs : List Nat) (j z : Nat) (g : Nat → Nat) (hj : j < z) (hz : z ≤ cs.length) (hg : ∀ a b, a < 8 → b < 8 → g a = g b → a = b) : ((List.range 8).map fun k => wrd ((cs.set j (g k)).take z)).Nodup := by
  refine nodup_map _ List.nodup_range fun a ha b hb e => ?_
  have e1 := wrd_inj e
  have e2 : ((cs.set j (g a)).take z)[j]? = ((cs.set j (g b)).take z)[j]? := by rw [e1]
  rw [List.getElem?_take, List.getElem?_take, if_pos hj, if_pos hj, List.getElem?_set, List.getElem?_set, if_pos rfl, if_pos rfl, if_pos (by omega), if_pos (by omega)] at e2
  exact hg a b (List.mem_range.mp ha) (List.mem_range.mp hb) (Option.some.inj e2)
end Nam

namespace Mine
open PySem L2
noncomputable def top (i : Nat) : Stmt := PySem.Challenge.pw_waitloom_k07_functions_in_order.main.body.getD i (.Pass ⟨0, 0, 0, 0⟩)
-- is_name
noncomputable abbrev s_is_name : Stmt := top 15
theorem sc_is_name : FnScope ["thing"] ["thing"] (defScope s_is_name) := ⟨rfl, rfl, rfl, by decide +kernel, rfl, by decide +kernel, by decide +kernel⟩
-- is_number
noncomputable abbrev s_is_number : Stmt := top 16
theorem sc_is_number : FnScope ["thing"] ["thing"] (defScope s_is_number) := ⟨rfl, rfl, rfl, by decide +kernel, rfl, by decide +kernel, by decide +kernel⟩
-- is_row
noncomputable abbrev s_is_row : Stmt := top 17
theorem sc_is_row : FnScope ["thing", "most"] ["thing", "most"] (defScope s_is_row) := ⟨rfl, rfl, rfl, by decide +kernel, rfl, by decide +kernel, by decide +kernel⟩
-- are_names
noncomputable abbrev s_are_names : Stmt := top 18
theorem sc_are_names : FnScope ["thing"] ["thing"] (defScope s_are_names) := ⟨rfl, rfl, rfl, by decide +kernel, rfl, by decide +kernel, by decide +kernel⟩
-- has_shape
noncomputable abbrev s_has_shape : Stmt := top 19
theorem sc_has_shape : FnScope ["thing", "shape"] ["thing", "shape"] (defScope s_has_shape) := ⟨rfl, rfl, rfl, by decide +kernel, rfl, by decide +kernel, by decide +kernel⟩
-- has_form
noncomputable abbrev s_has_form : Stmt := top 20
theorem sc_has_form : FnScope ["thing", "shape", "hands", "head", "shapes"] ["thing", "shape", "hands"] (defScope s_has_form) := ⟨rfl, rfl, rfl, by decide +kernel, rfl, by decide +kernel, by decide +kernel⟩
-- inner_with_shapes
noncomputable abbrev s_inner_with_shapes : Stmt := top 21
theorem sc_inner_with_shapes : FnScope ["part", "found", "thing", "shape"] ["part"] (defScope s_inner_with_shapes) := ⟨rfl, rfl, rfl, by decide +kernel, rfl, by decide +kernel, by decide +kernel⟩
-- hands_within
noncomputable abbrev s_hands_within : Stmt := top 22
theorem sc_hands_within : FnScope ["part", "hands"] ["part", "hands"] (defScope s_hands_within) := ⟨rfl, rfl, rfl, by decide +kernel, rfl, by decide +kernel, by decide +kernel⟩
-- is_program
noncomputable abbrev s_is_program : Stmt := top 23
theorem sc_is_program : FnScope ["thing", "level", "depth", "size", "below", "part", "shape", "hands", "within"] ["thing"] (defScope s_is_program) := ⟨rfl, rfl, rfl, by decide +kernel, rfl, by decide +kernel, by decide +kernel⟩
-- need_program
noncomputable abbrev s_need_program : Stmt := top 24
theorem sc_need_program : FnScope ["thing"] ["thing"] (defScope s_need_program) := ⟨rfl, rfl, rfl, by decide +kernel, rfl, by decide +kernel, by decide +kernel⟩
-- inner_of
noncomputable abbrev s_inner_of : Stmt := top 25
theorem sc_inner_of : FnScope ["part"] ["part"] (defScope s_inner_of) := ⟨rfl, rfl, rfl, by decide +kernel, rfl, by decide +kernel, by decide +kernel⟩
-- functions_of
noncomputable abbrev s_functions_of : Stmt := top 28
theorem sc_functions_of : FnScope ["program", "found", "ahead", "pair", "part", "outer"] ["program"] (defScope s_functions_of) := ⟨rfl, rfl, rfl, by decide +kernel, rfl, by decide +kernel, by decide +kernel⟩
-- _law_cell_at
noncomputable abbrev s_law_cell_at : Stmt := top 30
theorem sc_law_cell_at : FnScope ["_law_script", "_law_k"] ["_law_script", "_law_k"] (defScope s_law_cell_at) := ⟨rfl, rfl, rfl, by decide +kernel, rfl, by decide +kernel, by decide +kernel⟩
-- _law_next
noncomputable abbrev s_law_next : Stmt := top 31
theorem sc_law_next : FnScope ["_law_state", "_law_k", "_law_cell"] ["_law_state"] (defScope s_law_next) := ⟨rfl, rfl, rfl, by decide +kernel, rfl, by decide +kernel, by decide +kernel⟩
-- _law_names
noncomputable abbrev s_law_names : Stmt := top 32
theorem sc_law_names : FnScope ["_law_cell", "_law_many", "_law_letters", "_law_size", "_law_word", "_law_made", "_law_k"] ["_law_cell", "_law_many"] (defScope s_law_names) := ⟨rfl, rfl, rfl, by decide +kernel, rfl, by decide +kernel, by decide +kernel⟩
-- _law_number
noncomputable abbrev s_law_number : Stmt := top 33
theorem sc_law_number : FnScope ["_law_more", "_law_far"] ["_law_more"] (defScope s_law_number) := ⟨rfl, rfl, rfl, by decide +kernel, rfl, by decide +kernel, by decide +kernel⟩
-- _law_term
noncomputable abbrev s_law_term : Stmt := top 34
theorem sc_law_term : FnScope ["_law_state", "_law_deep", "_law_number_here", "_law_kind", "_law_more", "_law_names_here", "_law_params", "_law_maker"] ["_law_state", "_law_deep"] (defScope s_law_term) := ⟨rfl, rfl, rfl, by decide +kernel, rfl, by decide +kernel, by decide +kernel⟩
-- _law_body
noncomputable abbrev s_law_body : Stmt := top 35
theorem sc_law_body : FnScope ["_law_state", "_law_deep", "_law_may_hand"] ["_law_state", "_law_deep", "_law_may_hand"] (defScope s_law_body) := ⟨rfl, rfl, rfl, by decide +kernel, rfl, by decide +kernel, by decide +kernel⟩
-- _law_statement
noncomputable abbrev s_law_statement : Stmt := top 36
theorem sc_law_statement : FnScope ["_law_state", "_law_deep", "_law_may_hand", "_law_number_here", "_law_kind", "_law_name", "_law_word", "_law_test", "_law_bodies"] ["_law_state", "_law_deep", "_law_may_hand"] (defScope s_law_statement) := ⟨rfl, rfl, rfl, by decide +kernel, rfl, by decide +kernel, by decide +kernel⟩
-- _law_program
noncomputable abbrev s_law_program : Stmt := top 37
theorem sc_law_program : FnScope ["_law_script", "_law_most", "_law_names_here", "_law_state", "_law_body_here"] ["_law_script", "_law_most"] (defScope s_law_program) := ⟨rfl, rfl, rfl, by decide +kernel, rfl, by decide +kernel, by decide +kernel⟩
-- _law_inner
noncomputable abbrev s_law_inner : Stmt := top 38
theorem sc_law_inner : FnScope ["_law_part", "_law_found", "_law_thing", "_law_is_part"] ["_law_part"] (defScope s_law_inner) := ⟨rfl, rfl, rfl, by decide +kernel, rfl, by decide +kernel, by decide +kernel⟩
-- _law_gathered
noncomputable abbrev s_law_gathered : Stmt := top 39
theorem sc_law_gathered : FnScope ["_law_part", "_law_number_here", "_law_found", "_law_inner_here", "_law_here"] ["_law_part", "_law_number_here", "_law_found"] (defScope s_law_gathered) := ⟨rfl, rfl, rfl, by decide +kernel, rfl, by decide +kernel, by decide +kernel⟩
-- law
noncomputable abbrev s_law : Stmt := top 40
theorem sc_law : FnScope ["_law_script", "_law_program_here", "_law_kept", "_law_due", "_law_found"] ["_law_script"] (defScope s_law) := ⟨rfl, rfl, rfl, by decide +kernel, rfl, by decide +kernel, by decide +kernel⟩
structure Ad where
  LoomError : Addr
  BadTree : Addr
structure Cs (K : PySem.W.Frag) (mg : Str → Option Value) (ad : Ad) : Prop where
  all_ : mg "all" = none
  isinstance_ : mg "isinstance" = none
  str_ : mg "str" = none
  len_ : mg "len" = none
  bool_ : mg "bool" = none
  int_ : mg "int" = none
  tuple_ : mg "tuple" = none
  set_ : mg "set" = none
  zip_ : mg "zip" = none
  reversed_ : mg "reversed" = none
  max_ : mg "max" = none
  range_ : mg "range" = none
  list_ : mg "list" = none
  MOST_LETTERS : ∃ u, mg "MOST_LETTERS" = some u ∧ RelV (.int 8) u
  GREATEST_NUMBER : ∃ u, mg "GREATEST_NUMBER" = some u ∧ RelV (.int 1000000000000) u
  MOST_NAMES : ∃ u, mg "MOST_NAMES" = some u ∧ RelV (.int 4) u
  MOST_TERMS : ∃ u, mg "MOST_TERMS" = some u ∧ RelV (.int 4) u
  MOST_STATEMENTS : ∃ u, mg "MOST_STATEMENTS" = some u ∧ RelV (.int 12) u
  MOST_DEPTH : ∃ u, mg "MOST_DEPTH" = some u ∧ RelV (.int 20) u
  MOST_PARTS : ∃ u, mg "MOST_PARTS" = some u ∧ RelV (.int 300) u
  m_LoomError : mg "LoomError" = some (.ref ad.LoomError)
  m_BadTree : mg "BadTree" = some (.ref ad.BadTree)
  o_BadTree : XOwn K ad.BadTree
theorem Cs.v_LoomError {K : PySem.W.Frag} {mg : Str → Option Value} {ad : Ad} (c : Cs K mg ad) : ∃ u, mg "LoomError" = some u ∧ RelV (.ref ad.LoomError) u := ⟨_, c.m_LoomError, rfl⟩
theorem Cs.v_BadTree {K : PySem.W.Frag} {mg : Str → Option Value} {ad : Ad} (c : Cs K mg ad) : ∃ u, mg "BadTree" = some u ∧ RelV (.ref ad.BadTree) u := ⟨_, c.m_BadTree, rfl⟩
structure Tb (P : Program) (w : World) (K : PySem.W.Frag) (mg : Str → Option Value) : Prop where
  SIGNS : ∃ a, mg "SIGNS" = some (.ref a) ∧ ∀ H : Hp, SqT K H a (Tre.signs.map V.str)
  FORMS : KTabT P w K mg "FORMS" Tre.forms
  HEADS : KTabT P w K mg "HEADS" Tre.heads
  MEMBERS : KTabS P w K mg "MEMBERS" Tre.members
noncomputable def spD (K : PySem.W.Frag) (f : PyData → Bool) : Sp := fun vs H Q _ => ∃ x d, vs = [x] ∧ Rep K H x d ∧ Tre.fit d = true ∧ ∀ H', Same H H' → Q (.bl (f d)) H'
theorem same_new {H : Hp} {p : Addr} (h : H p = none) (o : HO) : Same H (upd H p o) := fun b u q => by rw [upd_ne (ne_of_none q h)]; exact q
theorem le_a (c : Nat) : (!decide (([c] : List Nat) < [97])) = decide (97 ≤ c) := by
  rw [Bool.eq_iff_iff]
  simp [List.cons_lt_cons_iff]
theorem le_z (c : Nat) : (!decide (([122] : List Nat) < [c])) = decide (c ≤ 122) := by
  rw [Bool.eq_iff_iff]
  simp [List.cons_lt_cons_iff]
theorem million {n : Nat} (h : n ≤ 1000000) : n ≤ sizeLine := Nat.le_trans h (by decide)
section
variable {P : Program} {w : World} {K : PySem.W.Frag} {mg : Str → Option Value} {base : Heap} {f : Addr} {fd : FuncData} {ad : Ad}
theorem ok_is_name (F : Fun K "is_name" "is_name" s_is_name f fd) (c : Cs K mg ad) : FnOk P w K mg base CX0 1 f fd ["thing"] (spD K Tre.isName) := by
  refine F.ok sc_is_name (fun vs H Q E h => ?_) (fun cdv A outer s H vs Q E hr h => ?_)
  · obtain ⟨x, d, rfl, _⟩ := h
    rfl
  obtain ⟨x, d, rfl, hk, ft, q⟩ := h
  refine ⟨_, (pss_cons (ps_if (PW.pt (pw_or (pt_not (pt_val (pe_callB (isiD_k (K := K) rfl) (by rfl) c.isinstance_ bt_isinstance (pa_cons (pv 0) (pa_cons (pe_ty c.str_ bt_str) pa_nil))))) (pw_or1 (pt_not (pt_chain op_le op_le pe_int (pe_callB (len_k (K := K) rfl) (by rfl) c.len_ bt_len (pa_cons (pv 0) pa_nil)) (pe_g c.MOST_LETTERS)))))) (pss_one (ps_ret pe_bl)) pss_nil)
      (pss_one (ps_ret (pe_callB (all_k (K := K) rfl rfl) (by rfl) c.all_ bt_all (pa_cons (pe_comp (sc := defScope s_is_name) (NX := ["thing"]) (N := ["letter"]) (js := [none]) (pi_k (K := K) rfl (pv 0)) (fun _ _ _ _ _ => (pg_name (i := 0) (show (["letter"] : List Str).Nodup by decide +kernel) rfl (Or.inl rfl))) (fun _ _ _ _ _ => pf_nil) (fun _ _ _ _ _ => (pe_chain op_le_str op_le_str pe_str (pv 0) pe_str)) (own_name rfl) ⟨by decide +kernel, rfl, by decide +kernel, by decide +kernel, rfl, by decide +kernel⟩) pa_nil))))), ?_⟩
  refine ⟨_, rfl, x, d, "str", rfl, hk, by decide, ?_⟩
  cases hk with
  | str x =>
    refine ⟨_, rfl, iteF ?_⟩
    have hx : x.length ≤ sizeLine := million (by simpa [Tre.fit] using ft)
    refine ⟨_, rfl, _, _, rfl, ⟨hx, rfl⟩, _, _, rfl, rfl, _, rfl, ?_⟩
    have hl : x.length = x.cps.toList.length := by simp [Str.length]
    refine ite2 (fun c1 => ?_) (fun c1 => ?_)
    · have c1' : (1 : Int) ≤ (x.length : Int) := of_decide_eq_true c1
      refine ⟨_, _, rfl, rfl, _, rfl, ?_⟩
      refine ite2 (fun c2 => ?_) (fun c2 => ?_)
      · have c2' : ¬ ((x.length : Int) ≤ 8) := by simpa using c2
        have e : Tre.isName (.str x) = false := by
          simp only [Tre.isName, Tre.nameB]
          rw [decide_eq_false (show ¬ x.length ≤ 8 by omega)]
          simp
        have q' := q H (Same.refl _)
        rw [e] at q'
        exact q'
      · have c2' : (x.length : Int) ≤ 8 := by simpa using c2
        have hsz : x.cps.size = x.cps.toList.length := by simp
        refine ⟨_, rfl, .inr (.inr ⟨x, rfl, comp_it x.cps.size (fun i ys H' => H' = H ∧ ys = (x.cps.toList.take i).map fun c => V.bl (decide (97 ≤ c) && decide (c ≤ 122))) ⟨rfl, rfl⟩ (fun i ys H' h => ?_) (by rw [hsz, ← hl]; exact hx) (fun i ys H' hi h => ?_) (fun ys H' h => ?_)⟩)⟩
        · obtain ⟨_, rfl⟩ := h
          rw [List.length_map]
          exact List.length_take_le _ _
        · obtain ⟨rfl, rfl⟩ := h
          refine ⟨hi, fun v H2 hy => ?_⟩
          obtain ⟨rfl, cc, hcc, rfl⟩ := hy
          have step : (x.cps.toList.take (i + 1)).map (fun c => V.bl (decide (97 ≤ c) && decide (c ≤ 122))) = (x.cps.toList.take i).map (fun c => V.bl (decide (97 ≤ c) && decide (c ≤ 122))) ++ [V.bl (decide (97 ≤ cc) && decide (cc ≤ 122))] := by
            have hcc' : x.cps.toList[i]? = some cc := by simpa using hcc
            rw [List.take_add_one, hcc', List.map_append]
            rfl
          refine ⟨_, rfl, _, _, rfl, rfl, _, rfl, ?_⟩
          by_cases ha : 97 ≤ cc
          · refine iteP ((le_a cc).trans (decide_eq_true ha)) ⟨_, _, rfl, rfl, rfl, ?_⟩
            rw [step, decide_eq_true ha, Bool.true_and]
            exact congrArg (fun b => _ ++ [V.bl b]) (le_z cc)
          · refine iteN ((le_a cc).trans (decide_eq_false ha)) ⟨rfl, ?_⟩
            rw [step, decide_eq_false ha, Bool.false_and]
        · obtain ⟨rfl, rfl⟩ := h
          refine ⟨Nat.le_refl _, fun D hD => ⟨D, x.cps.toList.map fun c => decide (97 ≤ c) && decide (c ≤ 122), rfl, SqL.of (by rw [upd_same, hsz, List.take_length, List.map_map]; rfl), ?_⟩⟩
          have e : Tre.isName (.str x) = (x.cps.toList.map fun c => decide (97 ≤ c) && decide (c ≤ 122)).all id := by
            simp only [Tre.isName, Tre.nameB]
            rw [decide_eq_true (show 1 ≤ x.length by omega), decide_eq_true (show x.length ≤ 8 by omega), List.all_map]
            rfl
          rw [← e]
          exact q _ (same_new hD _)
    · have c1' : ¬ (1 : Int) ≤ (x.length : Int) := of_decide_eq_false (Bool.eq_false_iff.mpr c1)
      refine ⟨_, rfl, iteT ?_⟩
      have e : Tre.isName (.str x) = false := by
        simp only [Tre.isName, Tre.nameB]
        rw [decide_eq_false (show ¬ 1 ≤ x.length by omega)]
        simp
      have q' := q H (Same.refl _)
      rw [e] at q'
      exact q'
  | _ => exact ⟨_, rfl, iteT (iteT (q H (Same.refl _)))⟩
theorem ok_is_number (F : Fun K "is_number" "is_number" s_is_number f fd) (c : Cs K mg ad) : FnOk P w K mg base CX0 1 f fd ["thing"] (spD K Tre.isNumber) := by
  refine F.ok sc_is_number (fun vs H Q E h => ?_) (fun cdv A outer s H vs Q E hr h => ?_)
  · obtain ⟨x, d, rfl, _⟩ := h
    rfl
  obtain ⟨x, d, rfl, hk, ft, q⟩ := h
  refine ⟨_, (pss_cons (ps_if (PW.pt (pw_or (pt_not (pt_val (pe_callB (isiD_k (K := K) rfl) (by rfl) c.isinstance_ bt_isinstance (pa_cons (pv 0) (pa_cons (pe_ty c.int_ bt_int) pa_nil))))) (pw_or1 (pt_val (pe_callB (isiD_k (K := K) rfl) (by rfl) c.isinstance_ bt_isinstance (pa_cons (pv 0) (pa_cons (pe_ty c.bool_ bt_bool) pa_nil))))))) (pss_one (ps_ret pe_bl)) pss_nil)
      (pss_one (ps_ret (pe_chain op_le op_le (pe_un un_neg (pe_g c.GREATEST_NUMBER)) (pv 0) (pe_g c.GREATEST_NUMBER))))), ?_⟩
  have q0 := q H (Same.refl _)
  refine ⟨_, rfl, x, d, "int", rfl, hk, by decide, ?_⟩
  have hk2 := hk
  cases hk with
  | bl b => exact ⟨_, rfl, _, rfl, _, _, "bool", rfl, hk2, by decide, _, rfl, q0⟩
  | int i =>
    refine ⟨_, rfl, _, rfl, _, _, "bool", rfl, hk2, by decide, _, rfl, ?_⟩
    refine ⟨_, rfl, _, rfl, _, _, rfl, rfl, _, rfl, ?_⟩
    by_cases h : (-1000000000000 : Int) ≤ i
    · refine iteP (decide_eq_true h) ⟨_, _, rfl, rfl, ?_⟩
      simp only [Tre.isNumber, Tre.numB, decide_eq_true h, Bool.true_and] at q0
      exact q0
    · refine iteN (decide_eq_false h) ?_
      simp only [Tre.isNumber, Tre.numB, decide_eq_false h, Bool.false_and] at q0
      exact q0
  | _ => exact ⟨_, rfl, q0⟩
noncomputable def spRow (K : PySem.W.Frag) : Sp := fun vs H Q _ => ∃ x d m, vs = [x, .int (m : Nat)] ∧ Rep K H x d ∧ Q (.bl (Tre.isRow d m)) H
theorem ok_is_row (F : Fun K "is_row" "is_row" s_is_row f fd) (c : Cs K mg ad) : FnOk P w K mg base CX0 1 f fd ["thing", "most"] (spRow K) := by
  refine F.ok sc_is_row (fun vs H Q E h => ?_) (fun cdv A outer s H vs Q E hr h => ?_)
  · obtain ⟨x, d, m, rfl, _⟩ := h
    rfl
  obtain ⟨x, d, m, rfl, hk, q⟩ := h
  refine ⟨_, (pss_one (ps_ret (pe_and (pe_callB (isiD_k (K := K) rfl) (by rfl) c.isinstance_ bt_isinstance (pa_cons (pv 0) (pa_cons (pe_ty c.tuple_ bt_tuple) pa_nil))) (pe_one (pe_cmpR op_le (pe_callB (len_k (K := K) rfl) (by rfl) c.len_ bt_len (pa_cons (pv 0) pa_nil)) (pv 1) (nomark _)))))), ?_⟩
  refine ⟨_, rfl, x, d, "tuple", rfl, hk, by decide, ?_⟩
  cases hk with
  | @tup a xs ds hq hs =>
    refine ⟨_, rfl, ?_⟩
    refine iteT ⟨_, rfl, _, _, rfl, .inr ⟨_, hq, rfl⟩, _, rfl, _, _, rfl, rfl, ?_⟩
    have e : Tre.isRow (.tuple ds) m = decide (((xs.length : Nat) : Int) ≤ (m : Int)) := by
      simp only [Tre.isRow]
      rw [hs.length]
      exact decide_eq_decide.mpr (by omega)
    rw [e] at q
    exact q
  | _ => exact ⟨_, rfl, iteF q⟩
end
end Mine

namespace Mine
open PySem L2
section
variable {P : Program} {w : World} {K : PySem.W.Frag} {mg : Str → Option Value} {base : Heap} {f : Addr} {fd : FuncData} {ad : Ad}
theorem comp_mapT {a : Addr} {js : List (Option Nat)} {k : Nat} {te : TE} {σ : St} {H : Hp} {Q : VK} {xs : List V} {ds : List PyData} (hq : SqT K H a xs) (hr : Reps K H xs ds) (fv : PyData → V) (hz : ds.length ≤ sizeLine)
    (step : ∀ (x : V) (d : PyData) (H' : Hp) (R : VK), Same H H' → d ∈ ds → Rep K H' x d → (∀ H5, Same H' H5 → R (fv d) H5) → te ((iniC js σ).set k (some x)) H' R)
    (fin : ∀ (H' : Hp) (D : Addr), Same H H' → H' D = none → Q (.ref D) (upd H' D (.lst (ds.map fv)))) : CompW (Itt K a) js (gName k) tYes te σ H Q := by
  have hlen := hr.length
  refine comp_it ds.length (fun i ys H' => Same H H' ∧ ys = (ds.take i).map fv) ⟨Same.refl _, rfl⟩ (fun i ys H' h => ?_) hz (fun i ys H' hi h => ?_) (fun ys H' h => ?_)
  · rw [h.2, List.length_map]
    exact List.length_take_le _ _
  · obtain ⟨g, rfl⟩ := h
    have hx : xs[i]? = some xs[i] := List.getElem?_eq_getElem (by omega)
    refine ⟨⟨xs, xs[i], g.sqT hq, hx⟩, fun v H2 hy => ?_⟩
    obtain ⟨rfl, hv⟩ := hy
    have e := (hx.symm.trans (hv xs (g.sqT hq)))
    cases e
    obtain ⟨d, hd, rd⟩ := hr.get hx
    show te ((iniC js σ).set k (some xs[i])) H2 (fun y H5 => Same H H5 ∧ (ds.take i).map fv ++ [y] = (ds.take (i + 1)).map fv)
    refine step _ d _ _ g (List.mem_of_getElem? hd) (rd.same g) fun H5 g5 => ⟨g.trans g5, ?_⟩
    rw [List.take_add_one, hd, List.map_append]
    rfl
  · obtain ⟨g, rfl⟩ := h
    refine ⟨⟨xs, g.sqT hq, by omega⟩, fun D hD => ?_⟩
    rw [List.take_length]
    exact fin H' D g hD
theorem iteT' {c : Bool} {A B : Prop} (e : c = true) (h : A) : if c = true then A else B := iteP e h
theorem names_txt {H : Hp} : ∀ {xs : List V} {ds : List PyData}, Reps K H xs ds → ds.all Tre.isName = true → xs = (ds.map Tre.txt).map V.str
  | _, _, .nil, _ => rfl
  | _, _, .cons h t, e => by
    rw [List.all_cons, Bool.and_eq_true] at e
    cases h with
    | str x => rw [List.map_cons, List.map_cons, ← names_txt t e.2]; rfl
    | _ => exact absurd e.1 Bool.false_ne_true
theorem ok_are_names (F : Fun K "are_names" "are_names" s_are_names f fd) (c : Cs K mg ad) (d_is_name : Def P w K mg base 1 "is_name" ["thing"] (spD K Tre.isName)) (d_is_row : Def P w K mg base 1 "is_row" ["thing", "most"] (spRow K)) : FnOk P w K mg base CX0 2 f fd ["thing"] (spD K Tre.areNames) := by
  refine F.ok sc_are_names (fun vs H Q E h => ?_) (fun cdv A outer s H vs Q E hr h => ?_)
  · obtain ⟨x, d, rfl, _⟩ := h
    rfl
  obtain ⟨x, d, rfl, hk, ft, q⟩ := h
  refine ⟨_, (pss_cons (ps_if (PW.pt (pw_or (pt_not (pt_val (pe_def d_is_row (hr.mono (by first | decide | omega)) (pa_cons (pv 0) (pa_cons (pe_g c.MOST_NAMES) pa_nil))))) (pw_or1 (pt_not (pt_val (pe_callB (all_k (K := K) rfl rfl) (by rfl) c.all_ bt_all (pa_cons (pe_comp (sc := defScope s_are_names) (NX := ["thing"]) (N := ["one"]) (js := [none]) (pi_k (K := K) rfl (pv 0)) (fun _ _ _ _ _ => (pg_name (i := 0) (show (["one"] : List Str).Nodup by decide +kernel) rfl (Or.inl rfl))) (fun _ _ _ _ _ => pf_nil) (fun _ _ _ _ _ => (pe_def d_is_name (hr.mono (by first | decide | omega)) (pa_cons (pv 0) pa_nil))) (own_name rfl) ⟨by decide +kernel, rfl, by decide +kernel, by decide +kernel, rfl, by decide +kernel⟩) pa_nil))))))) (pss_one (ps_ret pe_bl)) pss_nil)
      (pss_one (ps_ret (pe_cmpR op_eq (pe_callB call_lenS (by rfl) c.len_ bt_len (pa_cons (pe_callTy (call_setS (K := K) rfl rfl) (by rfl) c.set_ bt_set (pa_cons (pv 0) pa_nil)) pa_nil)) (pe_callB (len_k (K := K) rfl) (by rfl) c.len_ bt_len (pa_cons (pv 0) pa_nil)) (nomark _))))), ?_⟩
  have hk2 := hk
  refine ⟨_, rfl, _, _, 4, rfl, hk2, _, rfl, ?_⟩
  cases hk with
  | @tup a xs ds hq hs =>
    by_cases h4 : ds.length ≤ 4
    · refine iteN (show (!Tre.isRow (.tuple ds) 4) = false by simp [Tre.isRow, h4]) ?_
      refine ⟨_, rfl, .inr (.inl ⟨a, rfl, ⟨xs, hq⟩, comp_mapT hq hs (fun d => V.bl (Tre.isName d)) (Nat.le_trans h4 (by decide)) (fun x d H' R g hd rd hR => ?_) (fun H' D g hD => ?_)⟩)⟩
      · exact ⟨_, rfl, _, _, rfl, rd, Tre.fitAll_mem (by simpa [Tre.fit] using ft) d hd, fun H5 g5 => hR H5 g5⟩
      · refine ⟨D, ds.map Tre.isName, rfl, SqL.of (by rw [upd_same, List.map_map]; rfl), _, rfl, ?_⟩
        have g2 : Same H (upd H' D (.lst (ds.map fun d => V.bl (Tre.isName d)))) := g.trans (same_new hD _)
        have g3 := g2.sqT hq
        generalize upd H' D (.lst (ds.map fun d => V.bl (Tre.isName d))) = H2 at g2 g3 ⊢
        by_cases ha : ds.all Tre.isName = true
        · refine iteN (show (!((ds.map Tre.isName).all id)) = false by rw [List.all_map]; simpa using ha) ?_
          obtain rfl := names_txt hs ha
          have hl : (ds.map Tre.txt).length ≤ 100 := by rw [List.length_map]; omega
          refine ⟨_, rfl, a, ds.map Tre.txt, rfl, g3, hl, fun p hp => ⟨p, ds.map Tre.txt, rfl, upd_same, hl, _, rfl, _, _, rfl, .inr ⟨_, (same_new hp _).sqT g3, rfl⟩, rfl, ?_⟩⟩
          have q' := q _ (g2.trans (same_new hp (setO P w p (ds.map Tre.txt))))
          have e : Tre.areNames (.tuple ds) = decide (V.int (((uniq (ds.map Tre.txt)).length : Nat) : Int) = V.int ((((ds.map Tre.txt).map V.str).length : Nat) : Int)) := by
            simp only [Tre.areNames, ha, decide_eq_true h4, Bool.true_and]
            rw [decide_eq_decide]
            refine (uniq_all _).symm.trans ⟨fun z => by rw [z, List.length_map (f := V.str)], fun z => ?_⟩
            have z' := V.int.inj z
            rw [List.length_map (f := V.str)] at z'
            omega
          rw [e] at q'
          exact q'
        · refine iteP (show (!((ds.map Tre.isName).all id)) = true by rw [List.all_map]; simpa using ha) ?_
          have q' := q _ g2
          have e : Tre.areNames (.tuple ds) = false := by simp [Tre.areNames, ha]
          rw [e] at q'
          exact q'
    · refine iteT' (show (!Tre.isRow (.tuple ds) 4) = true by simp [Tre.isRow, h4]) ?_
      have q' := q H (Same.refl _)
      have e : Tre.areNames (.tuple ds) = false := by simp [Tre.areNames, h4]
      rw [e] at q'
      exact iteT q'
  | _ => exact iteT (iteT (q H (Same.refl _)))
end
end Mine

namespace Mine
open PySem L2
section
variable {P : Program} {w : World} {K : PySem.W.Frag} {mg : Str → Option Value} {base : Heap} {f : Addr} {fd : FuncData} {ad : Ad}
noncomputable def spShape (K : PySem.W.Frag) : Sp := fun vs H Q _ => ∃ x d sh, vs = [x, .str sh] ∧ Rep K H x d ∧ Tre.fit d = true ∧ ∀ H', Same H H' → Q (.bl (Tre.hasShape d sh)) H'
theorem strEq (a b : Str) : decide (V.str a = V.str b) = (a == b) := by
  rw [Bool.eq_iff_iff, decide_eq_true_eq, beq_iff_eq]
  exact ⟨fun h => V.str.inj h, fun h => h ▸ rfl⟩
theorem ok_has_shape (F : Fun K "has_shape" "has_shape" s_has_shape f fd) (c : Cs K mg ad) (T : Tb P w K mg) (d_is_name : Def P w K mg base 1 "is_name" ["thing"] (spD K Tre.isName)) (d_is_number : Def P w K mg base 1 "is_number" ["thing"] (spD K Tre.isNumber)) (d_is_row : Def P w K mg base 1 "is_row" ["thing", "most"] (spRow K)) (d_are_names : Def P w K mg base 2 "are_names" ["thing"] (spD K Tre.areNames)) : FnOk P w K mg base CX0 3 f fd ["thing", "shape"] (spShape K) := by
  refine F.ok sc_has_shape (fun vs H Q E h => ?_) (fun cdv A outer s H vs Q E hr h => ?_)
  · obtain ⟨x, d, sh, rfl, _⟩ := h
    rfl
  obtain ⟨x, d, sh, rfl, hk, ft, q⟩ := h
  refine ⟨_, (pss_cons (ps_if (pt_cmpR op_eq (pv 1) pe_str (nomark _)) (pss_one (ps_ret (pe_def d_is_number (hr.mono (by first | decide | omega)) (pa_cons (pv 0) pa_nil)))) pss_nil)
      (pss_cons (ps_if (pt_cmpR op_eq (pv 1) pe_str (nomark _)) (pss_one (ps_ret (pe_def d_is_name (hr.mono (by first | decide | omega)) (pa_cons (pv 0) pa_nil)))) pss_nil)
      (pss_cons (ps_if (pt_cmpR op_eq (pv 1) pe_str (nomark _)) (pss_one (ps_ret (pe_and (pe_def d_is_name (hr.mono (by first | decide | omega)) (pa_cons (pv 0) pa_nil)) (pe_one (pe_cmpR op_ne (pv 0) pe_str (nomark _)))))) pss_nil)
      (pss_cons (ps_if (pt_cmpR op_eq (pv 1) pe_str (nomark _)) (pss_one (ps_ret (pe_and (pe_callB (isiD_k (K := K) rfl) (by rfl) c.isinstance_ bt_isinstance (pa_cons (pv 0) (pa_cons (pe_ty c.str_ bt_str) pa_nil))) (pe_one (pe_cmpR (in_k (K := K) rfl) (pv 0) (pe_gT T.SIGNS) rfl))))) pss_nil)
      (pss_cons (ps_if (pt_cmpR op_eq (pv 1) pe_str (nomark _)) (pss_one (ps_ret (pe_def d_are_names (hr.mono (by first | decide | omega)) (pa_cons (pv 0) pa_nil)))) pss_nil)
      (pss_cons (ps_if (pt_cmpR op_eq (pv 1) pe_str (nomark _)) (pss_one (ps_ret (pe_def d_is_row (hr.mono (by first | decide | omega)) (pa_cons (pv 0) (pa_cons (pe_g c.MOST_TERMS) pa_nil))))) pss_nil)
      (pss_cons (ps_if (pt_cmpR op_eq (pv 1) pe_str (nomark _)) (pss_one (ps_ret (pe_def d_is_row (hr.mono (by first | decide | omega)) (pa_cons (pv 0) (pa_cons (pe_g c.MOST_STATEMENTS) pa_nil))))) pss_nil)
      (pss_one (ps_ret pe_bl))))))))), ?_⟩
  by_cases e0 : sh = "number"
  · subst e0
    simp only [Tre.shape_number] at q
    refine ⟨_, rfl, rfl, _, rfl, iteP (show decide _ = true from decide_eq_true rfl) ?_⟩
    exact ⟨_, rfl, _, _, rfl, hk, ft, fun H' g => q H' g⟩
  refine ⟨_, rfl, rfl, _, rfl, iteN (show decide _ = false from decide_eq_false fun z => e0 (V.str.inj z)) ?_⟩
  by_cases e1 : sh = "name"
  · subst e1
    simp only [Tre.shape_name] at q
    refine ⟨_, rfl, rfl, _, rfl, iteP (show decide _ = true from decide_eq_true rfl) ?_⟩
    exact ⟨_, rfl, _, _, rfl, hk, ft, fun H' g => q H' g⟩
  refine ⟨_, rfl, rfl, _, rfl, iteN (show decide _ = false from decide_eq_false fun z => e1 (V.str.inj z)) ?_⟩
  by_cases e2 : sh = "word"
  · subst e2
    simp only [Tre.shape_word] at q
    refine ⟨_, rfl, rfl, _, rfl, iteP (show decide _ = true from decide_eq_true rfl) ?_⟩
    refine ⟨_, rfl, _, _, rfl, hk, ft, fun H' g => ⟨_, rfl, ?_⟩⟩
    have q' := q H' g
    cases hk with
    | str x =>
      by_cases hn : Tre.nameB x = true
      · refine iteP hn ⟨_, rfl, rfl, ?_⟩
        simp only [hn, Bool.true_and] at q'
        show Q (.bl (!decide (V.str x = V.str "any"))) H'
        rw [strEq]
        exact q'
      · have hn' := Bool.eq_false_iff.mpr hn
        refine iteN hn' ?_
        simp only [hn', Bool.false_and] at q'
        exact q'
    | _ => exact iteF q'
  refine ⟨_, rfl, rfl, _, rfl, iteN (show decide _ = false from decide_eq_false fun z => e2 (V.str.inj z)) ?_⟩
  by_cases e3 : sh = "sign"
  · subst e3
    simp only [Tre.shape_sign] at q
    refine ⟨_, rfl, rfl, _, rfl, iteP (show decide _ = true from decide_eq_true rfl) ?_⟩
    have q' := q H (Same.refl _)
    refine ⟨_, rfl, _, _, "str", rfl, hk, by decide, _, rfl, ?_⟩
    cases hk with
    | str x =>
      refine iteT ⟨_, rfl, fun a ha => ⟨a, _, rfl, .inr (ha H), rfl, rfl, ?_⟩⟩
      exact q'
    | _ => exact iteF q'
  refine ⟨_, rfl, rfl, _, rfl, iteN (show decide _ = false from decide_eq_false fun z => e3 (V.str.inj z)) ?_⟩
  by_cases e4 : sh = "names"
  · subst e4
    simp only [Tre.shape_names] at q
    refine ⟨_, rfl, rfl, _, rfl, iteP (show decide _ = true from decide_eq_true rfl) ?_⟩
    exact ⟨_, rfl, _, _, rfl, hk, ft, fun H' g => q H' g⟩
  refine ⟨_, rfl, rfl, _, rfl, iteN (show decide _ = false from decide_eq_false fun z => e4 (V.str.inj z)) ?_⟩
  by_cases e5 : sh = "terms"
  · subst e5
    simp only [Tre.shape_terms] at q
    refine ⟨_, rfl, rfl, _, rfl, iteP (show decide _ = true from decide_eq_true rfl) ?_⟩
    exact ⟨_, rfl, _, _, 4, rfl, hk, q H (Same.refl _)⟩
  refine ⟨_, rfl, rfl, _, rfl, iteN (show decide _ = false from decide_eq_false fun z => e5 (V.str.inj z)) ?_⟩
  by_cases e6 : sh = "body"
  · subst e6
    simp only [Tre.shape_body] at q
    refine ⟨_, rfl, rfl, _, rfl, iteP (show decide _ = true from decide_eq_true rfl) ?_⟩
    exact ⟨_, rfl, _, _, 12, rfl, hk, q H (Same.refl _)⟩
  refine ⟨_, rfl, rfl, _, rfl, iteN (show decide _ = false from decide_eq_false fun z => e6 (V.str.inj z)) ?_⟩
  have q' := q H (Same.refl _)
  rw [Tre.shape_else d (beq_eq_false_iff_ne.mpr e0) (beq_eq_false_iff_ne.mpr e1) (beq_eq_false_iff_ne.mpr e2) (beq_eq_false_iff_ne.mpr e3) (beq_eq_false_iff_ne.mpr e4) (beq_eq_false_iff_ne.mpr e5) (beq_eq_false_iff_ne.mpr e6)] at q'
  exact q'
end
end Mine

namespace Mine
open PySem L2
section
variable {P : Program} {w : World} {K : PySem.W.Frag} {mg : Str → Option Value} {base : Heap} {f : Addr} {fd : FuncData} {ad : Ad}
theorem cut1 (y : V) (ys : List V) : cutV (y :: ys) (some 1) none = ys := by
  unfold cutV
  have e : HT.sIx (y :: ys).length 0 (some 1) = 1 := by
    show HT.sIx (y :: ys).length 0 (some ((1 : Nat) : Int)) = 1
    rw [HT.sIx_nat]
    simp
  rw [e, HT.sIx_none]
  simp
theorem cut1_ok (y : V) (ys : List V) : ¬ (HT.sIx (y :: ys).length 0 (some 1) = 0 ∧ HT.sIx (y :: ys).length (y :: ys).length none = (y :: ys).length) := by
  have e : HT.sIx (y :: ys).length 0 (some 1) = 1 := by
    show HT.sIx (y :: ys).length 0 (some ((1 : Nat) : Int)) = 1
    rw [HT.sIx_nat]
    simp
  rw [e]
  omega
theorem flat_strs (l : List Str) : (l.map V.str).all flatV = true := by
  rw [List.all_map]
  exact List.all_eq_true.mpr fun _ _ => rfl
theorem in_strs (h : Str) (l : List Str) : inV (.str h) (l.map V.str) = l.any fun y => y == h := by
  unfold inV
  rw [List.any_map]
  rfl
theorem comp_zipT {a b : Addr} {js : List (Option Nat)} {te : TE} {σ : St} {H : Hp} {Q : VK} {xs : List V} {ds : List PyData} {fs : List Str} (hq : SqT K H a xs) (hr : Reps K H xs ds) (hq2 : SqT K H b (fs.map V.str)) (hl : ds.length = fs.length) (hz : ds.length ≤ sizeLine) (fv : PyData → Str → V)
    (step : ∀ (x : V) (d : PyData) (sh : Str) (H' : Hp) (R : VK), Same H H' → (d, sh) ∈ ds.zip fs → Rep K H' x d → (∀ H5, Same H' H5 → R (fv d sh) H5) → te (((iniC js σ).set 0 (some x)).set 1 (some (.str sh))) H' R)
    (fin : ∀ (H' : Hp) (D : Addr), Same H H' → H' D = none → Q (.ref D) (upd H' D (.lst ((ds.zip fs).map fun p => fv p.1 p.2)))) : CompW (Itz K a b) js (gTup K 2 (gCons (gName 0) (gCons (gName 1) gNil))) tYes te σ H Q := by
  have hlen := hr.length
  have hzip : (ds.zip fs).length = ds.length := by rw [List.length_zip]; omega
  refine comp_it ds.length (fun i ys H' => Same H H' ∧ ys = ((ds.zip fs).take i).map fun p => fv p.1 p.2) ⟨Same.refl _, rfl⟩ (fun i ys H' h => ?_) hz (fun i ys H' hi h => ?_) (fun ys H' h => ?_)
  · rw [h.2, List.length_map]
    exact List.length_take_le _ _
  · obtain ⟨g, rfl⟩ := h
    have hx : xs[i]? = some xs[i] := List.getElem?_eq_getElem (by omega)
    have hf : fs[i]? = some fs[i] := List.getElem?_eq_getElem (by omega)
    have hy : (fs.map V.str)[i]? = some (.str fs[i]) := by rw [List.getElem?_map, hf]; rfl
    refine ⟨⟨xs, _, _, _, g.sqT hq, g.sqT hq2, hx, hy⟩, fun v H2 yl => ?_⟩
    obtain ⟨p, x, y, hp, rfl, e1, e2, rfl⟩ := yl
    have e3 := hx.symm.trans (e1 xs (g.sqT hq))
    cases e3
    have e4 := hy.symm.trans (e2 _ (g.sqT hq2))
    cases e4
    obtain ⟨d, hd, rd⟩ := hr.get hx
    have g2 := g.trans (same_new hp (.tup [xs[i], .str fs[i]]))
    have hm : (ds.zip fs)[i]? = some (d, fs[i]) := List.getElem?_zip_eq_some.mpr ⟨hd, hf⟩
    refine ⟨p, _, rfl, SqT.of upd_same, rfl, _, _, rfl, _, _, rfl, rfl, ?_⟩
    show te (((iniC js σ).set 0 (some xs[i])).set 1 (some (.str fs[i]))) _ (fun z H5 => Same H H5 ∧ ((ds.zip fs).take i).map (fun p => fv p.1 p.2) ++ [z] = ((ds.zip fs).take (i + 1)).map fun p => fv p.1 p.2)
    refine step _ d _ _ _ g2 (List.mem_of_getElem? hm) (rd.same g2) fun H5 g5 => ⟨g2.trans g5, ?_⟩
    rw [List.take_add_one, hm, List.map_append]
    rfl
  · obtain ⟨g, rfl⟩ := h
    refine ⟨⟨xs, _, g.sqT hq, g.sqT hq2, .inl (by omega)⟩, fun D hD => ?_⟩
    rw [← hzip, List.take_length]
    exact fin H' D g hD
end
end Mine

namespace Mine
open PySem L2
section
variable {P : Program} {w : World} {K : PySem.W.Frag} {mg : Str → Option Value} {base : Heap} {f : Addr} {fd : FuncData} {ad : Ad}
noncomputable def spForm (K : PySem.W.Frag) : Sp := fun vs H Q _ => ∃ x d sh hands, vs = [x, .str sh, .bl hands] ∧ Rep K H x d ∧ Tre.fit d = true ∧ (Tre.heads.lookup sh).isSome = true ∧ ∀ H', Same H H' → Q (.bl (Tre.hasForm d sh hands)) H'
theorem ok_has_form (F : Fun K "has_form" "has_form" s_has_form f fd) (c : Cs K mg ad) (T : Tb P w K mg) (d_has_shape : Def P w K mg base 3 "has_shape" ["thing", "shape"] (spShape K)) : FnOk P w K mg base CX0 4 f fd ["thing", "shape", "hands"] (spForm K) := by
  refine F.ok sc_has_form (fun vs H Q E h => ?_) (fun cdv A outer s H vs Q E hr h => ?_)
  · obtain ⟨x, d, sh, hands, rfl, _⟩ := h
    rfl
  obtain ⟨x, d, sh, hands, rfl, hk, ft, hsh, q⟩ := h
  refine ⟨_, (pss_cons (ps_if (PW.pt (pw_or (pt_not (pt_val (pe_callB (isiD_k (K := K) rfl) (by rfl) c.isinstance_ bt_isinstance (pa_cons (pv 0) (pa_cons (pe_ty c.tuple_ bt_tuple) pa_nil))))) (pw_or (pt_cmpR op_eq (pe_callB (len_k (K := K) rfl) (by rfl) c.len_ bt_len (pa_cons (pv 0) pa_nil)) pe_int (nomark _)) (pw_or1 (pt_not (pt_val (pe_callB (isiD_k (K := K) rfl) (by rfl) c.isinstance_ bt_isinstance (pa_cons (pe_ix (ix_k (K := K) rfl) (pv 0) pe_int (fun _ _ => rfl)) (pa_cons (pe_ty c.str_ bt_str) pa_nil))))))))) (pss_one (ps_ret pe_bl)) pss_nil)
      (pss_cons (ps_set (i := 3) sc_has_form.nd rfl (by first | exact Or.inl rfl | exact Or.inr rfl) (pe_ix (ix_k (K := K) rfl) (pv 0) pe_int (fun _ _ => rfl)))
      (pss_cons (ps_if (pt_cmpR (nin_k (K := K) rfl) (pv 3) (pe_tabT (K := K) rfl T.HEADS (pv 1) (fun _ _ => rfl)) rfl) (pss_one (ps_ret pe_bl)) pss_nil)
      (pss_cons (ps_if (PW.pt (pw_and (pt_cmpR op_eq (pv 3) pe_str (nomark _)) (pw_and1 (pt_not (pt_val (pv 2)))))) (pss_one (ps_ret pe_bl)) pss_nil)
      (pss_cons (ps_set (i := 4) sc_has_form.nd rfl (by first | exact Or.inl rfl | exact Or.inr rfl) (pe_tabT (K := K) rfl T.FORMS (pv 3) (fun _ _ => rfl)))
      (pss_cons (ps_if (pt_cmpR op_ne (pe_callB (len_k (K := K) rfl) (by rfl) c.len_ bt_len (pa_cons (pv 0) pa_nil)) (pe_op op_plus (pe_callB (len_k (K := K) rfl) (by rfl) c.len_ bt_len (pa_cons (pv 4) pa_nil)) pe_int) (nomark _)) (pss_one (ps_ret pe_bl)) pss_nil)
      (pss_one (ps_ret (pe_callB (all_k (K := K) rfl rfl) (by rfl) c.all_ bt_all (pa_cons (pe_comp (sc := defScope s_has_form) (NX := ["thing", "shape", "hands", "head", "shapes"]) (N := ["one", "wanted"]) (js := [none, none]) (pi_zip (K := K) rfl c.zip_ (pa_cons (pe_slice (sl_k (K := K) rfl) (pv 0) (po_some pe_int) po_none) (pa_cons (pv 4) pa_nil))) (fun _ _ _ _ _ => (pgt_k (K := K) rfl rfl (pgs_cons (pg_name (i := 0) (show (["one", "wanted"] : List Str).Nodup by decide +kernel) rfl (Or.inl rfl)) (pgs_cons (pg_name (i := 1) (show (["one", "wanted"] : List Str).Nodup by decide +kernel) rfl (Or.inl rfl)) pgs_nil)))) (fun _ _ _ _ _ => pf_nil) (fun _ _ _ _ _ => (pe_def d_has_shape (hr.mono (by first | decide | omega)) (pa_cons (pv 0) (pa_cons (pv 1) pa_nil)))) (own_two rfl rfl) ⟨by decide +kernel, rfl, by decide +kernel, by decide +kernel, rfl, by decide +kernel⟩) pa_nil)))))))))), ?_⟩
  have q0 := q H (Same.refl _)
  have hk2 := hk
  refine ⟨_, rfl, _, _, "tuple", rfl, hk2, by decide, _, rfl, ?_⟩
  cases hk with
  | @tup a xs ds hq hs =>
    refine iteF ⟨_, rfl, _, _, rfl, .inr ⟨_, hq, rfl⟩, rfl, _, rfl, ?_⟩
    cases hs with
    | nil => exact iteT (iteT q0)
    | @cons y ys e es r rs =>
      refine iteN (show decide _ = false from decide_eq_false fun z => by have := V.int.inj z; rw [List.length_cons] at this; omega) ?_
      have hy : atI (y :: ys) 0 = some y := atI_nat (j := 0) rfl
      refine ⟨_, rfl, .inr (.inl ⟨_, _, 0, _, rfl, rfl, hq, hy, _, _, "str", rfl, r, by decide, _, rfl, ?_⟩)⟩
      cases r with
      | str h =>
        refine iteF ?_
        refine ⟨_, rfl, .inr (.inl ⟨_, _, 0, _, rfl, rfl, hq, hy, ?_⟩)⟩
        obtain ⟨l, hl⟩ := Option.isSome_iff_exists.mp hsh
        refine ⟨_, rfl, _, rfl, sh, l, rfl, hl, fun a2 ha2 => ⟨a2, _, rfl, .inr (ha2 H), rfl, flat_strs l, _, rfl, ?_⟩⟩
        have hin : (((Tre.heads.lookup sh).getD []).any fun y => y == h) = l.any fun y => y == h := by rw [hl]; rfl
        have q1 := q0
        simp only [Tre.hasForm, hin] at q1
        by_cases hm : (l.any fun y => y == h) = true
        · refine iteN (show (!inV (.str h) (l.map V.str)) = false by rw [in_strs, hm]; rfl) ?_
          rw [hm, Bool.true_and] at q1
          obtain ⟨_, _, _, fs, hfs, hf5⟩ := Tre.heads_get (hin.trans hm)
          refine ⟨_, rfl, rfl, _, rfl, ?_⟩
          by_cases hb : (h == "hand" && !hands) = true
          · rw [Bool.and_eq_true, beq_iff_eq] at hb
            obtain ⟨rfl, hb⟩ := hb
            refine iteP (show decide _ = true from decide_eq_true rfl) ⟨_, rfl, _, rfl, iteP hb ?_⟩
            rw [hb] at q1
            exact q1
          · have hb' := Bool.eq_false_iff.mpr hb
            have q2 : ∀ H', Same H H' → Q (.bl (Tre.shapesOk es fs)) H' := fun H' g => by
              have := q H' g
              simp only [Tre.hasForm, hin, hm, hb', hfs, Bool.true_and, Bool.not_false, Option.getD_some] at this
              exact this
            refine ite2 (fun c1 => ⟨_, rfl, _, rfl, iteN ?hd ?g1⟩) (fun _ => iteF ?g2)
            case hd =>
              have c1' : h = "hand" := V.str.inj (of_decide_eq_true c1)
              rw [c1'] at hb'
              simpa using hb'
            all_goals
              refine ⟨_, rfl, h, fs, rfl, hfs, fun a3 ha3 => ?_⟩
              refine ⟨_, rfl, _, _, rfl, .inr ⟨_, hq, rfl⟩, _, rfl, _, _, rfl, .inr ⟨_, ha3 H, rfl⟩, .inl ⟨_, _, rfl, rfl, rfl, _, rfl, ?_⟩⟩
              have hys := rs.length
              by_cases hlen : es.length = fs.length
              · refine iteN (show (!decide _) = false by
                  rw [Bool.not_eq_false', decide_eq_true_eq, List.length_map, List.length_cons, hys, hlen]
                  rfl) ?_
                refine ⟨_, rfl, _, rfl, .inr (.inr ⟨a, _, rfl, hq, cut1_ok _ _, fun p hp => ?_⟩)⟩
                rw [cut1]
                have g1 := same_new hp (.tup ys)
                refine ⟨_, rfl, p, a3, rfl, ⟨ys, SqT.of upd_same⟩, ⟨_, ha3 _⟩, comp_zipT (SqT.of upd_same) (rs.same g1) (ha3 _) hlen (Nat.le_trans (by omega) (show 5 ≤ sizeLine by decide)) (fun d sh => V.bl (Tre.hasShape d sh)) (fun x d sh H' R g hd rd hR => ?_) (fun H' D g hD => ?_)⟩
                · have ft' : Tre.fit d = true := by
                    rw [Tre.fit, Tre.fitAll, Bool.and_eq_true] at ft
                    exact Tre.fitAll_mem ft.2 d (List.of_mem_zip hd).1
                  exact ⟨_, rfl, _, rfl, _, _, _, rfl, rd, ft', fun H5 g5 => hR H5 g5⟩
                · have q3 := q2 _ ((g1.trans g).trans (same_new hD (.lst ((es.zip fs).map fun p => V.bl (Tre.hasShape p.1 p.2)))))
                  refine ⟨D, (es.zip fs).map fun p => Tre.hasShape p.1 p.2, rfl, SqL.of (by rw [upd_same, List.map_map]; rfl), ?_⟩
                  have e3 : Tre.shapesOk es fs = ((es.zip fs).map fun p => Tre.hasShape p.1 p.2).all id := by
                    unfold Tre.shapesOk
                    rw [decide_eq_true hlen, Bool.true_and, List.all_map]
                    rfl
                  rw [e3] at q3
                  exact q3
              · refine iteP (show (!decide _) = true by
                  rw [Bool.not_eq_true', decide_eq_false_iff_not, List.length_map, List.length_cons, hys]
                  intro z
                  have := V.int.inj z
                  omega) ?_
                have q3 := q2 H (Same.refl _)
                unfold Tre.shapesOk at q3
                rw [decide_eq_false hlen, Bool.false_and] at q3
                exact q3
        · have hm' := Bool.eq_false_iff.mpr hm
          refine iteP (show (!inV (.str h) (l.map V.str)) = true by rw [in_strs, hm']; rfl) ?_
          rw [hm', Bool.false_and, Bool.false_and] at q1
          exact q1
      | _ => exact iteT q0
  | _ => exact iteT (iteT q0)
end
end Mine

namespace Mine
open PySem L2
theorem for_it {J : It} {g : TG} {tb : TS} {D : Ends} {σ : St} {H : Hp} (n : Nat) (Pv : Nat → St → Hp → Prop) (h0 : Pv 0 σ H)
    (hs : ∀ i σ H, i < n → Pv i σ H → J.go i H ∧ ∀ x H', J.yld i H x H' → g x σ H' fun σ2 H2 => tb { D with nx := Pv (i + 1), ct := Pv (i + 1), bk := D.nx } σ2 H2) (hd : ∀ σ H, Pv n σ H → J.stop n H ∧ D.nx σ H) :
    ∃ W : Nat → Nat → St → Hp → Prop, (∃ m, W 0 m σ H) ∧ ∀ i m σ H, W i m σ H →
      (J.stop i H ∧ D.nx σ H) ∨ (J.go i H ∧ ∃ N : St → Hp → Prop, (∀ σ' H', N σ' H' → ∃ m', m' < m ∧ W (i + 1) m' σ' H') ∧ ∀ x H', J.yld i H x H' → g x σ H' fun σ2 H2 => tb { D with nx := N, ct := N, bk := D.nx } σ2 H2) := by
  refine ⟨fun i m σ H => m = n - i ∧ i ≤ n ∧ Pv i σ H, ⟨n, by simp, Nat.zero_le _, h0⟩, fun i m σ H h => ?_⟩
  obtain ⟨rfl, hi, p⟩ := h
  by_cases lt : i < n
  · obtain ⟨a, b⟩ := hs i σ H lt p
    exact .inr ⟨a, Pv (i + 1), fun σ' H' p' => ⟨n - (i + 1), by omega, rfl, lt, p'⟩, b⟩
  · obtain rfl : i = n := by omega
    exact .inl (hd σ H p)
noncomputable abbrev Prs (K : PySem.W.Frag) (H0 H : Hp) : List V → List (PyData × Str) → Prop := Paired fun (y : V) (q : PyData × Str) => ∃ a x, y = .ref a ∧ H a = some (.tup [x, .str q.2]) ∧ Rep K H0 x q.1
section
variable {P : Program} {w : World} {K : PySem.W.Frag} {mg : Str → Option Value} {base : Heap} {f : Addr} {fd : FuncData} {ad : Ad}
theorem Prs.write {H0 H : Hp} {p : Addr} {zs : List V} {o : HO} {ys : List V} {l : List (PyData × Str)} (hp : H p = some (.lst zs)) (h : Prs K H0 H ys l) : Prs K H0 (upd H p o) ys l :=
  L2.Paired.mapP h fun y q ⟨a, x, e, ha, r⟩ => ⟨a, x, e, by rw [upd_ne (ne_of ha hp (by intro z; cases z))]; exact ha, r⟩
theorem Prs.same {H0 H H' : Hp} {ys : List V} {l : List (PyData × Str)} (g : Same H H') (h : Prs K H0 H ys l) : Prs K H0 H' ys l := L2.Paired.mapP h fun _ _ ⟨a, x, e, ha, r⟩ => ⟨a, x, e, g _ _ ha, r⟩
theorem Prs.append {H0 H : Hp} : ∀ {ys zs : List V} {l m : List (PyData × Str)}, Prs K H0 H ys l → Prs K H0 H zs m → Prs K H0 H (ys ++ zs) (l ++ m)
  | _, _, _, _, .nil, h => h
  | _, _, _, _, .cons r t, h => .cons r (Prs.append t h)
noncomputable def prD (q : PyData × Str) : PyData := .tuple [q.1, .str q.2]
theorem Prs.reps {H0 H : Hp} (g : Same H0 H) : ∀ {ys : List V} {l : List (PyData × Str)}, Prs K H0 H ys l → Reps K H ys (l.map prD)
  | _, _, .nil => .nil
  | _, _, .cons (a := y) (b := q) h t => by
    obtain ⟨a, x, rfl, ha, r⟩ := h
    exact .cons (.tup (SqT.of ha) (.cons (r.same g) (.cons (.str _) .nil))) (Prs.reps g t)
theorem same_write {H H' : Hp} {p : Addr} (g : Same H H') (h : H p = none) (o : HO) : Same H (upd H' p o) := fun b u q => by rw [upd_ne (ne_of_none q h)]; exact g b u q
noncomputable def spInner (K : PySem.W.Frag) : Sp := fun vs H Q _ => ∃ x d sh hands H0, vs = [x] ∧ Same H0 H ∧ Rep K H0 x d ∧ Tre.hasForm d sh hands = true ∧ ∀ H' p zs, Same H H' → H p = none → H' p = some (.lst zs) → Prs K H0 H' zs (Tre.inner d) → Q (.ref p) H'
theorem mem_look {sh : Str} (h : (sh == "terms" || sh == "body") = true) : Tre.members.lookup sh = some ((Tre.members.lookup sh).getD "") := by
  rw [Bool.or_eq_true, beq_iff_eq, beq_iff_eq] at h
  rcases h with rfl | rfl <;> decide +kernel
theorem in_two (sh a b : Str) : inV (.str sh) [.str a, .str b] = (sh == a || sh == b) := by
  rw [show ([.str a, .str b] : List V) = [a, b].map V.str from rfl, in_strs]
  simp only [List.any_cons, List.any_nil, Bool.or_false, Bool.beq_comm]
theorem row_of {sh : Str} {d : PyData} (h : (sh == "terms" || sh == "body") = true) (hs : Tre.hasShape d sh = true) : ∃ ds, d = .tuple ds ∧ ds.length ≤ 12 := by
  have row : ∀ m, m ≤ 12 → Tre.isRow d m = true → ∃ ds, d = .tuple ds ∧ ds.length ≤ 12 := fun m hm h => by
    cases d with
    | tuple ds => exact ⟨ds, rfl, Nat.le_trans (of_decide_eq_true h) hm⟩
    | _ => cases h
  rw [Bool.or_eq_true, beq_iff_eq, beq_iff_eq] at h
  rcases h with rfl | rfl
  · rw [Tre.shape_terms] at hs
    exact row 4 (by decide) hs
  · rw [Tre.shape_body] at hs
    exact row 12 (by decide) hs
theorem _root_.L2.Rep.tup_inv {H : Hp} {x : V} {ds : List PyData} (h : Rep K H x (.tuple ds)) : ∃ a xs, x = .ref a ∧ SqT K H a xs ∧ Reps K H xs ds := by
  cases h with
  | tup hq hs => exact ⟨_, _, rfl, hq, hs⟩
theorem ok_inner_with_shapes (F : Fun K "inner_with_shapes" "inner_with_shapes" s_inner_with_shapes f fd) (c : Cs K mg ad) (T : Tb P w K mg) : FnOk P w K mg base CX0 1 f fd ["part"] (spInner K) := by
  refine F.ok sc_inner_with_shapes (fun vs H Q E h => ?_) (fun cdv A outer s H vs Q E hr h => ?_)
  · obtain ⟨x, d, sh, hands, H0, rfl, _⟩ := h
    rfl
  obtain ⟨x, d, sh, hands, H0, rfl, gH, hk, hf, q⟩ := h
  obtain ⟨hd, es, fs, _, rfl, _, _, hfs, hf5, hlen, hsh, _⟩ := Tre.hasForm_is hf
  refine ⟨_, (pss_cons (ps_set (i := 1) sc_inner_with_shapes.nd rfl (by first | exact Or.inl rfl | exact Or.inr rfl) (pe_lst pa_nil))
      (pss_cons (ps_for PassesOwn.never rfl (pi_zip (K := K) rfl c.zip_ (pa_cons (pe_slice (sl_k (K := K) rfl) (pv 0) (po_some pe_int) po_none) (pa_cons (pe_tabT (K := K) rfl T.FORMS (pe_ix (ix_k (K := K) rfl) (pv 0) pe_int (fun _ _ => rfl)) (fun _ _ => rfl)) pa_nil))) (pgt_k (K := K) rfl rfl (pgs_cons (pg_name (i := 2) sc_inner_with_shapes.nd rfl (by first | exact Or.inl rfl | exact Or.inr rfl)) (pgs_cons (pg_name (i := 3) sc_inner_with_shapes.nd rfl (by first | exact Or.inl rfl | exact Or.inr rfl)) pgs_nil))) (pss_one (ps_if (pt_cmpR op_eq (pv 3) pe_str (nomark _)) (pss_one (ps_expr (bm_k (K := K) rfl PySem.F.plainAttrs_list PySem.F.slot_list_append PySem.F.type_list_append mt_append (pv 1) (pa_cons (pe_tup (pa_cons (pv 2) (pa_cons (pv 3) pa_nil))) pa_nil)))) (pss_one (ps_if (pt_cmpR (in_k (K := K) rfl) (pv 3) (pe_tup (pa_cons pe_str (pa_cons pe_str pa_nil))) rfl) (pss_one (ps_expr (bm_k (K := K) rfl PySem.F.plainAttrs_list PySem.F.slot_list_extend PySem.F.type_list_extend mt_extend (pv 1) (pa_cons (pe_comp (sc := defScope s_inner_with_shapes) (NX := ["part", "found", "thing", "shape"]) (N := ["one", "shape"]) (js := [none, some 3]) (pi_k (K := K) rfl (pv 2)) (fun _ _ _ _ _ => (pg_name (i := 0) (show (["one", "shape"] : List Str).Nodup by decide +kernel) rfl (Or.inl rfl))) (fun _ _ _ _ _ => pf_nil) (fun _ _ _ _ _ => (pe_tup (pa_cons (pv 0) (pa_cons (pe_tabS T.MEMBERS (pv 1) (fun _ _ => rfl)) pa_nil)))) (own_name rfl) ⟨by decide +kernel, rfl, by decide +kernel, by decide +kernel, rfl, by decide +kernel⟩) pa_nil)))) pss_nil)))))
      (pss_one (ps_ret (pv 1))))), ?_⟩
  cases hk with
  | @tup a xs ds hq hs =>
    cases hs with
    | @cons y ys e es' r rs =>
      cases r
      have hys := rs.length
      refine ⟨(by decide : 0 ≤ sizeLine), fun p0 hp0 => ?_⟩
      have g0 := same_new hp0 (.lst [])
      refine ⟨_, rfl, _, rfl, .inr (.inr ⟨a, _, rfl, (gH.trans g0).sqT hq, cut1_ok _ _, fun p1 hp1 => ?_⟩)⟩
      rw [cut1]
      have g1 := g0.trans (same_new hp1 (.tup ys))
      have n01 : p0 ≠ p1 := ne_of_none upd_same hp1
      refine ⟨_, rfl, .inr (.inl ⟨_, _, 0, _, rfl, rfl, (gH.trans g1).sqT hq, atI_nat (j := 0) rfl, hd, fs, rfl, hfs, fun a3 ha3 => ⟨p1, a3, rfl, ⟨ys, SqT.of upd_same⟩, ⟨_, ha3 _⟩, ?_⟩⟩)⟩
      refine for_it es.length (fun i σ H' => ∃ o2 o3 zs, σ = [some (.ref a), some (.ref p0), o2, o3] ∧ Same H H' ∧ H' p1 = some (.tup ys) ∧ H' p0 = some (.lst zs) ∧ Prs K H0 H' zs (((es.zip fs).take i).flatMap fun p => Tre.innerAt p.1 p.2) ∧ zs.length ≤ 12 * i) ?_ (fun i σ H2 hi h => ?_) (fun σ H2 h => ?_)
      · exact ⟨none, none, [], rfl, g1, upd_same, by rw [upd_ne n01]; exact upd_same, .nil, Nat.le_refl _⟩
      · obtain ⟨o2, o3, zs, rfl, g2, h1, h0, pr, hz⟩ := h
        have hx : ys[i]? = some ys[i] := List.getElem?_eq_getElem (by omega)
        have hfi : fs[i]? = some fs[i] := List.getElem?_eq_getElem (by omega)
        have hy : (fs.map V.str)[i]? = some (.str fs[i]) := by rw [List.getElem?_map, hfi]; rfl
        refine ⟨⟨ys, _, _, _, SqT.of h1, ha3 _, hx, hy⟩, fun v H3 yl => ?_⟩
        obtain ⟨q1, xx, yy, hq1, rfl, e1, e2, rfl⟩ := yl
        have e3 := hx.symm.trans (e1 ys (SqT.of h1))
        cases e3
        have e4 := hy.symm.trans (e2 _ (ha3 _))
        cases e4
        obtain ⟨d, hd', rd⟩ := rs.get hx
        have hm : (es.zip fs)[i]? = some (d, fs[i]) := List.getElem?_zip_eq_some.mpr ⟨hd', hfi⟩
        have hshape : Tre.hasShape d fs[i] = true := hsh _ (List.mem_of_getElem? hm)
        have step : ((es.zip fs).take (i + 1)).flatMap (fun p => Tre.innerAt p.1 p.2) = ((es.zip fs).take i).flatMap (fun p => Tre.innerAt p.1 p.2) ++ Tre.innerAt d fs[i] := by
          rw [List.take_add_one, hm, List.flatMap_append]
          simp
        have g3 := same_new hq1 (.tup [ys[i], .str fs[i]])
        refine ⟨q1, _, rfl, SqT.of upd_same, rfl, _, _, rfl, _, _, rfl, rfl, ?_⟩
        have h0' := g3 _ _ h0
        have h1' := g3 _ _ h1
        have pr' := pr.same g3
        have g2' := g2.trans g3
        generalize upd H2 q1 (.tup [ys[i], .str fs[i]]) = H3 at h0' h1' pr' g2' ⊢
        generalize fs[i] = sh1 at hshape step ⊢
        refine ⟨_, rfl, rfl, _, rfl, ?_⟩
        by_cases ht : sh1 = "term"
        · refine iteP (show decide _ = true from decide_eq_true (congrArg V.str ht)) ?_
          refine ⟨_, rfl, .inl ⟨rfl, zs, SqL.of h0'⟩, _, rfl, _, rfl, (by decide : 2 ≤ sizeLine), fun q2 hq2 => ?_⟩
          have g4 := same_new hq2 (.tup [ys[i], .str sh1])
          refine ⟨p0, zs, _, rfl, rfl, g4 _ _ h0', Nat.lt_of_le_of_lt (show zs.length ≤ 100 by omega) (by decide), ?_⟩
          have e5 : Tre.innerAt d sh1 = [(d, sh1)] := by unfold Tre.innerAt; rw [if_pos (beq_iff_eq.mpr ht)]
          refine ⟨_, _, zs ++ [.ref q2], rfl, same_write (g2'.trans g4) hp0 _, ?_, upd_same, ?_, ?_⟩
          · rw [upd_ne (Ne.symm n01)]
            exact g4 _ _ h1'
          · rw [step, e5]
            refine Prs.append (Prs.write (g4 _ _ h0') (pr'.same g4)) (.cons ⟨q2, ys[i], rfl, ?_, rd⟩ .nil)
            rw [upd_ne (Ne.symm (ne_of_none h0' hq2))]
            exact upd_same
          · rw [List.length_append, List.length_singleton]
            omega
        · refine iteN (show decide _ = false from decide_eq_false fun z => ht (V.str.inj z)) ?_
          refine ⟨_, rfl, (by decide : 2 ≤ sizeLine), fun q2 hq2 => ⟨q2, _, rfl, .inr (SqT.of upd_same), rfl, rfl, _, rfl, ?_⟩⟩
          have g4 := same_new hq2 (.tup [.str "terms", .str "body"])
          have h0'' := g4 _ _ h0'
          have h1'' := g4 _ _ h1'
          have pr'' := pr'.same g4
          have g2'' := g2'.trans g4
          generalize upd H3 q2 (.tup [.str "terms", .str "body"]) = H4 at h0'' h1'' pr'' g2'' ⊢
          have ht' : (sh1 == "term") = false := beq_eq_false_iff_ne.mpr ht
          by_cases hb : (sh1 == "terms" || sh1 == "body") = true
          · refine iteP (show inV _ _ = true from (in_two sh1 "terms" "body").trans hb) ?_
            obtain ⟨ds2, rfl, h12⟩ := row_of hb hshape
            obtain ⟨at', ws, ew, hw, hrs⟩ := rd.tup_inv
            have hwl := hrs.length
            refine ⟨_, rfl, .inl ⟨rfl, zs, SqL.of h0''⟩, _, rfl, .inr (.inl ⟨at', ew, ⟨ws, (gH.trans g2'').sqT hw⟩, ?_⟩)⟩
            refine comp_it ds2.length (fun j vs H' => Same H4 H' ∧ Prs K H0 H' vs ((ds2.take j).map fun z => (z, (Tre.members.lookup sh1).getD ""))) ⟨Same.refl _, .nil⟩ (fun j vs H' h => ?_) (Nat.le_trans h12 (by decide)) (fun j vs H' hj h => ?_) (fun vs H' h => ?_)
            · have := Paired.length h.2
              rw [this, List.length_map]
              exact List.length_take_le _ _
            · obtain ⟨g5, pv⟩ := h
              have hw2 := (gH.trans (g2''.trans g5)).sqT hw
              have hxw : ws[j]? = some ws[j] := List.getElem?_eq_getElem (by omega)
              refine ⟨⟨ws, _, hw2, hxw⟩, fun v H6 yl => ?_⟩
              obtain ⟨rfl, hv⟩ := yl
              have e6 := hxw.symm.trans (hv ws hw2)
              cases e6
              obtain ⟨dd, hdd, rdd⟩ := hrs.get hxw
              refine ⟨_, rfl, _, rfl, sh1, _, rfl, mem_look hb, (by decide : 2 ≤ sizeLine), fun q3 hq3 => ⟨g5.trans (same_new hq3 _), ?_⟩⟩
              rw [List.take_add_one, hdd, List.map_append]
              exact Prs.append (pv.same (same_new hq3 _)) (.cons ⟨q3, ws[j], rfl, upd_same, rdd⟩ .nil)
            · obtain ⟨g5, pv⟩ := h
              refine ⟨⟨ws, (gH.trans (g2''.trans g5)).sqT hw, by omega⟩, fun D hD => ?_⟩
              rw [List.take_length] at pv
              have hvl := Paired.length pv
              rw [List.length_map] at hvl
              have g6 := g5.trans (same_new hD (.lst vs))
              refine ⟨p0, D, zs, vs, rfl, rfl, g6 _ _ h0'', upd_same, Nat.le_trans (show zs.length + vs.length ≤ 100 by omega) (by decide), ?_⟩
              have e5 : Tre.innerAt (.tuple ds2) sh1 = ds2.map fun z => (z, (Tre.members.lookup sh1).getD "") := by
                unfold Tre.innerAt
                rw [if_neg (by rw [ht']; exact Bool.false_ne_true), if_pos hb]
              refine ⟨_, _, zs ++ vs, rfl, same_write (g2''.trans g6) hp0 _, ?_, upd_same, ?_, ?_⟩
              · rw [upd_ne (Ne.symm n01)]
                exact g6 _ _ h1''
              · rw [step, e5]
                exact Prs.append (Prs.write (g6 _ _ h0'') (pr''.same g6)) (Prs.write (g6 _ _ h0'') (pv.same (same_new hD _)))
              · rw [List.length_append]
                omega
          · have hb' := Bool.eq_false_iff.mpr hb
            refine iteN (show inV _ _ = false from (in_two sh1 "terms" "body").trans hb') ?_
            have e5 : Tre.innerAt d sh1 = [] := by
              unfold Tre.innerAt
              rw [if_neg (by rw [ht']; exact Bool.false_ne_true), if_neg (by rw [hb']; exact Bool.false_ne_true)]
            refine ⟨_, _, zs, rfl, g2'', h1'', h0'', ?_, by omega⟩
            rw [step, e5, List.append_nil]
            exact pr''
      · obtain ⟨o2, o3, zs, rfl, g2, h1, h0, pr, hz⟩ := h
        refine ⟨⟨ys, _, SqT.of h1, ha3 _, .inl (by omega)⟩, _, rfl, q _ p0 zs g2 hp0 h0 ?_⟩
        have e5 : Tre.inner (.tuple (.str hd :: es)) = ((es.zip fs).take es.length).flatMap fun p => Tre.innerAt p.1 p.2 := by
          show ((es.zip ((Tre.forms.lookup hd).getD [])).flatMap _) = _
          rw [hfs, List.take_of_length_le (by rw [List.length_zip]; omega)]
          rfl
        rw [e5]
        exact pr
end
end Mine

namespace Mine
open PySem L2
section
variable {P : Program} {w : World} {K : PySem.W.Frag} {mg : Str → Option Value} {base : Heap} {f : Addr} {fd : FuncData} {ad : Ad}
noncomputable def spWithin (K : PySem.W.Frag) : Sp := fun vs H Q _ => ∃ x h es hands, vs = [x, .bl hands] ∧ Rep K H x (.tuple (.str h :: es)) ∧ ∀ H', Same H H' → Q (.bl (Tre.within (.tuple (.str h :: es)) hands)) H'
theorem ok_hands_within (F : Fun K "hands_within" "hands_within" s_hands_within f fd) (c : Cs K mg ad) : FnOk P w K mg base CX0 1 f fd ["part", "hands"] (spWithin K) := by
  refine F.ok sc_hands_within (fun vs H Q E h => ?_) (fun cdv A outer s H vs Q E hr h => ?_)
  · obtain ⟨x, h, es, hands, rfl, _⟩ := h
    rfl
  obtain ⟨x, h, es, hands, rfl, hk, q⟩ := h
  refine ⟨_, (pss_cons (ps_if (pt_cmpR op_eq (pe_ix (ix_k (K := K) rfl) (pv 0) pe_int (fun _ _ => rfl)) pe_str (nomark _)) (pss_one (ps_ret pe_bl)) pss_nil)
      (pss_one (ps_ret (pe_or (pv 1) (pe_one (pe_cmpR (in_k (K := K) rfl) (pe_ix (ix_k (K := K) rfl) (pv 0) pe_int (fun _ _ => rfl)) (pe_tup (pa_cons pe_str (pa_cons pe_str pa_nil))) rfl)))))), ?_⟩
  obtain ⟨a, xs, rfl, hq, hs⟩ := hk.tup_inv
  cases hs with
  | @cons y ys e es' r rs =>
    cases r
    have e1 : Tre.within (.tuple (.str h :: es)) hands = if h == "fun" then false else hands || (h == "main" || h == "loop") := rfl
    rw [e1] at q
    refine ⟨_, rfl, .inr (.inl ⟨_, _, 0, _, rfl, rfl, hq, atI_nat (j := 0) rfl, rfl, _, rfl, ?_⟩)⟩
    by_cases hf : h = "fun"
    · refine iteP (show decide _ = true from decide_eq_true (congrArg V.str hf)) ?_
      rw [if_pos (beq_iff_eq.mpr hf)] at q
      exact q _ (Same.refl _)
    · refine iteN (show decide _ = false from decide_eq_false fun z => hf (V.str.inj z)) ?_
      rw [if_neg (fun z => hf (beq_iff_eq.mp z))] at q
      refine ⟨_, rfl, _, rfl, ?_⟩
      cases hands with
      | true => exact iteT (q _ (Same.refl _))
      | false =>
        refine iteF ⟨_, rfl, .inr (.inl ⟨_, _, 0, _, rfl, rfl, hq, atI_nat (j := 0) rfl, (by decide : 2 ≤ sizeLine), fun p hp => ⟨p, _, rfl, .inr (SqT.of upd_same), rfl, rfl, ?_⟩⟩)⟩
        have q' := q _ (same_new hp (.tup [.str "main", .str "loop"]))
        rw [Bool.false_or, ← in_two h "main" "loop"] at q'
        exact q'
noncomputable abbrev Trs (K : PySem.W.Frag) (H0 H : Hp) : List V → Tre.Lv → Prop := Paired fun (y : V) (q : PyData × Str × Bool) => ∃ a x, y = .ref a ∧ H a = some (.tup [x, .str q.2.1, .bl q.2.2]) ∧ Rep K H0 x q.1
theorem Trs.write {H0 H : Hp} {p : Addr} {zs : List V} {o : HO} {ys : List V} {l : Tre.Lv} (hp : H p = some (.lst zs)) (h : Trs K H0 H ys l) : Trs K H0 (upd H p o) ys l :=
  L2.Paired.mapP h fun _ _ ⟨a, x, e, ha, r⟩ => ⟨a, x, e, by rw [upd_ne (ne_of ha hp (by intro z; cases z))]; exact ha, r⟩
theorem Trs.same {H0 H H' : Hp} {ys : List V} {l : Tre.Lv} (g : Same H H') (h : Trs K H0 H ys l) : Trs K H0 H' ys l := L2.Paired.mapP h fun _ _ ⟨a, x, e, ha, r⟩ => ⟨a, x, e, g _ _ ha, r⟩
theorem Trs.append {H0 H : Hp} : ∀ {ys zs : List V} {l m : Tre.Lv}, Trs K H0 H ys l → Trs K H0 H zs m → Trs K H0 H (ys ++ zs) (l ++ m)
  | _, _, _, _, .nil, h => h
  | _, _, _, _, .cons r t, h => .cons r (Trs.append t h)
theorem Trs.get {H0 H : Hp} : ∀ {ys : List V} {l : Tre.Lv} {i : Nat} {q : PyData × Str × Bool}, Trs K H0 H ys l → l[i]? = some q → ∃ a x, ys[i]? = some (.ref a) ∧ H a = some (.tup [x, .str q.2.1, .bl q.2.2]) ∧ Rep K H0 x q.1
  | _, _, _, _, .nil, h => by simp at h
  | _, _, 0, _, .cons ⟨a, x, e, ha, r⟩ t, h => by
    simp at h
    subst h
    exact ⟨a, x, by rw [e]; rfl, ha, r⟩
  | _, _, i + 1, _, .cons r t, h => by
    simp only [List.getElem?_cons_succ] at h ⊢
    exact Trs.get t h
theorem Prs.get {H0 H : Hp} : ∀ {ys : List V} {l : List (PyData × Str)} {i : Nat} {q : PyData × Str}, Prs K H0 H ys l → l[i]? = some q → ∃ a x, ys[i]? = some (.ref a) ∧ H a = some (.tup [x, .str q.2]) ∧ Rep K H0 x q.1
  | _, _, _, _, .nil, h => by simp at h
  | _, _, 0, _, .cons ⟨a, x, e, ha, r⟩ t, h => by
    simp at h
    subst h
    exact ⟨a, x, by rw [e]; rfl, ha, r⟩
  | _, _, i + 1, _, .cons r t, h => by
    simp only [List.getElem?_cons_succ] at h ⊢
    exact Prs.get t h
end
end Mine

namespace Mine
open PySem L2
section
variable {P : Program} {w : World} {K : PySem.W.Frag} {mg : Str → Option Value} {base : Heap} {f : Addr} {fd : FuncData} {ad : Ad}
noncomputable def PvP (K : PySem.W.Frag) (x : V) (d : PyData) (H : Hp) (m : Nat) (σ : St) (H' : Hp) : Prop := ∃ (L : Addr) (zs : List V) (lv : Tre.Lv) (n sz : Nat) (o4 o5 o6 o7 o8 : Option V), σ = [some x, some (.ref L), some (.int n), some (.int sz), o4, o5, o6, o7, o8] ∧ Same H H' ∧ H' L = some (.lst zs) ∧ H L = none ∧ Trs K H H' zs lv ∧ m + n = 20 ∧
  Tre.walkP m sz lv = Tre.isProgram d ∧ (∀ p ∈ lv, Tre.fit p.1 = true ∧ (Tre.heads.lookup p.2.1).isSome = true) ∧ sz ≤ 300 ∧ lv.length ≤ 18000
theorem walkP_nil (n sz : Nat) : Tre.walkP n sz [] = true := by cases n <;> rfl
theorem ok_is_program (F : Fun K "is_program" "is_program" s_is_program f fd) (c : Cs K mg ad) (d_has_form : Def P w K mg base 4 "has_form" ["thing", "shape", "hands"] (spForm K)) (d_hands_within : Def P w K mg base 1 "hands_within" ["part", "hands"] (spWithin K)) (d_inner_with_shapes : Def P w K mg base 1 "inner_with_shapes" ["part"] (spInner K)) : FnOk P w K mg base CX0 5 f fd ["thing"] (spD K Tre.isProgram) := by
  refine F.ok sc_is_program (fun vs H Q E h => ?_) (fun cdv A outer s H vs Q E hr h => ?_)
  · obtain ⟨x, d, rfl, _⟩ := h
    rfl
  obtain ⟨x, d, rfl, hk, ft, q⟩ := h
  refine ⟨_, (pss_cons (ps_set (i := 1) sc_is_program.nd rfl (by first | exact Or.inl rfl | exact Or.inr rfl) (pe_lst (pa_cons (pe_tup (pa_cons (pv 0) (pa_cons pe_str (pa_cons pe_bl pa_nil)))) pa_nil)))
      (pss_cons (ps_set (i := 2) sc_is_program.nd rfl (by first | exact Or.inl rfl | exact Or.inr rfl) pe_int)
      (pss_cons (ps_set (i := 3) sc_is_program.nd rfl (by first | exact Or.inl rfl | exact Or.inr rfl) pe_int)
      (pss_cons (ps_while PassesOwn.never (pt_k (K := K) rfl (pv 1)) (pss_cons (ps_aug (i := 2) sc_is_program.nd rfl (by first | exact Or.inl rfl | exact Or.inr rfl) pe_int ip_add)
      (pss_cons (ps_aug (i := 3) sc_is_program.nd rfl (by first | exact Or.inl rfl | exact Or.inr rfl) (pe_callB (len_k (K := K) rfl) (by rfl) c.len_ bt_len (pa_cons (pv 1) pa_nil)) ip_add)
      (pss_cons (ps_if (PW.pt (pw_or (pt_cmpR op_gt (pv 2) (pe_g c.MOST_DEPTH) (nomark _)) (pw_or1 (pt_cmpR op_gt (pv 3) (pe_g c.MOST_PARTS) (nomark _))))) (pss_one (ps_ret pe_bl)) pss_nil)
      (pss_cons (ps_set (i := 4) sc_is_program.nd rfl (by first | exact Or.inl rfl | exact Or.inr rfl) (pe_lst pa_nil))
      (pss_cons (ps_for PassesOwn.never rfl (pi_k (K := K) rfl (pv 1)) (pgt_k (K := K) rfl rfl (pgs_cons (pg_name (i := 5) sc_is_program.nd rfl (by first | exact Or.inl rfl | exact Or.inr rfl)) (pgs_cons (pg_name (i := 6) sc_is_program.nd rfl (by first | exact Or.inl rfl | exact Or.inr rfl)) (pgs_cons (pg_name (i := 7) sc_is_program.nd rfl (by first | exact Or.inl rfl | exact Or.inr rfl)) pgs_nil)))) (pss_cons (ps_if (pt_not (pt_val (pe_def d_has_form (hr.mono (by first | decide | omega)) (pa_cons (pv 5) (pa_cons (pv 6) (pa_cons (pv 7) pa_nil)))))) (pss_one (ps_ret pe_bl)) pss_nil)
      (pss_cons (ps_set (i := 8) sc_is_program.nd rfl (by first | exact Or.inl rfl | exact Or.inr rfl) (pe_def d_hands_within (hr.mono (by first | decide | omega)) (pa_cons (pv 5) (pa_cons (pv 7) pa_nil))))
      (pss_one (ps_expr (bm_k (K := K) rfl PySem.F.plainAttrs_list PySem.F.slot_list_extend PySem.F.type_list_extend mt_extend (pv 4) (pa_cons (pe_comp (sc := defScope s_is_program) (NX := ["thing", "level", "depth", "size", "below", "part", "shape", "hands", "within"]) (N := ["inner", "inner_shape", "within"]) (js := [none, none, some 8]) (pi_k (K := K) rfl (pe_def d_inner_with_shapes (hr.mono (by first | decide | omega)) (pa_cons (pv 5) pa_nil))) (fun _ _ _ _ _ => (pgt_k (K := K) rfl rfl (pgs_cons (pg_name (i := 0) (show (["inner", "inner_shape", "within"] : List Str).Nodup by decide +kernel) rfl (Or.inl rfl)) (pgs_cons (pg_name (i := 1) (show (["inner", "inner_shape", "within"] : List Str).Nodup by decide +kernel) rfl (Or.inl rfl)) pgs_nil)))) (fun _ _ _ _ _ => pf_nil) (fun _ _ _ _ _ => (pe_tup (pa_cons (pv 0) (pa_cons (pv 1) (pa_cons (pv 2) pa_nil))))) (own_two rfl rfl) ⟨by decide +kernel, rfl, by decide +kernel, by decide +kernel, rfl, by decide +kernel⟩) pa_nil)))))))
      (pss_one (ps_set (i := 1) sc_is_program.nd rfl (by first | exact Or.inl rfl | exact Or.inr rfl) (pv 4)))))))))
      (pss_one (ps_ret pe_bl)))))), ?_⟩
  refine ⟨_, rfl, (by decide : 3 ≤ sizeLine), fun p1 hp1 => ⟨(by decide : 1 ≤ sizeLine), fun L0 hL0 => ?_⟩⟩
  have g0 := (same_new hp1 (.tup [x, .str "program", .bl false])).trans (same_new hL0 (.lst [.ref p1]))
  refine ⟨PvP K x d H, ⟨20, ?_⟩, ?_⟩
  · refine ⟨L0, _, [(d, "program", false)], 0, 0, none, none, none, none, none, rfl, g0, upd_same, (same_new hp1 _).free hL0, ?_, rfl, rfl, fun p hp => ?_, by decide, by simp⟩
    · exact .cons ⟨p1, x, rfl, by rw [upd_ne (ne_of_none upd_same hL0)]; exact upd_same, hk⟩ .nil
    · rw [List.mem_singleton] at hp
      subst hp
      exact ⟨ft, by show (Tre.heads.lookup (Str.ofString "program")).isSome = true; decide +kernel⟩
  · rintro m σ H1 ⟨L, zs, lv, n, sz, o4, o5, o6, o7, o8, rfl, g, hL, hL0', tr, hn, hw, hlv, hsz, hll⟩
    refine ⟨_, rfl, _, .inl ⟨zs, SqL.of hL, rfl⟩, ?_⟩
    by_cases he : lv = []
    · subst he
      cases tr
      rw [walkP_nil] at hw
      rw [← hw] at q
      exact q _ g
    have hlen := Paired.length tr
    have hz1 : 1 ≤ lv.length := by
      cases lv with
      | nil => exact absurd rfl he
      | cons _ _ => simp
    have hemp : lv.isEmpty = false := by
      cases lv with
      | nil => exact absurd rfl he
      | cons _ _ => rfl
    have qF : Tre.isProgram d = false → ∀ H', Same H H' → Q (.bl false) H' := fun e H' g' => e ▸ q H' g'
    refine iteP (show (!zs.isEmpty) = true by cases zs with | nil => simp at hlen; omega | cons _ _ => rfl) ?_
    refine ⟨fun σ' H' => ∃ m', m' < m ∧ PvP K x d H m' σ' H', fun σ' H' h => h, ?_⟩
    refine ⟨_, rfl, _, _, rfl, rfl, _, rfl, _, rfl, _, _, rfl, .inl ⟨zs, SqL.of hL, rfl⟩, _, _, rfl, rfl, ?_⟩
    refine ⟨_, rfl, _, _, rfl, rfl, _, rfl, ?_⟩
    cases m with
    | zero =>
      refine iteP (show decide _ = true from decide_eq_true (by show (20 : Int) < (n : Int) + 1; omega)) (iteT (qF ?_ _ g))
      rw [← hw]
      exact hemp
    | succ m =>
      refine iteN (show decide _ = false from decide_eq_false (by show ¬ (20 : Int) < (n : Int) + 1; omega)) ?_
      refine ⟨_, rfl, _, _, rfl, rfl, _, rfl, ?_⟩
      rw [Tre.walkP, hemp, Bool.false_or] at hw
      by_cases hs : sz + lv.length ≤ 300
      · refine iteN (show decide _ = false from decide_eq_false (by show ¬ (300 : Int) < (sz : Int) + ((zs.length : Nat) : Int); omega)) ?_
        rw [decide_eq_true hs, Bool.true_and] at hw
        refine ⟨(by decide : 0 ≤ sizeLine), fun B hB => ?_⟩
        have gB := same_new hB (.lst [])
        have hB0 : H B = none := g.free hB
        have nLB : L ≠ B := ne_of_none hL hB
        refine ⟨_, rfl, .inl ⟨L, rfl, ⟨zs, SqL.of (gB _ _ hL)⟩, ?_⟩⟩
        refine for_it lv.length (fun i σ H' => ∃ o5 o6 o7 o8 bs, σ = [some x, some (.ref L), some (.int ((n : Int) + 1)), some (.int ((sz : Int) + (zs.length : Nat))), some (.ref B), o5, o6, o7, o8] ∧ Same H H' ∧ H' L = some (.lst zs) ∧ H' B = some (.lst bs) ∧ Trs K H H' zs lv ∧ Trs K H H' bs (Tre.below (lv.take i)) ∧
          ∀ p ∈ lv.take i, Tre.hasForm p.1 p.2.1 p.2.2 = true) ?_ (fun i σ H2 hi h => ?_) (fun σ H2 h => ?_)
        · exact ⟨_, _, _, _, [], rfl, g.trans gB, gB _ _ hL, upd_same, tr.same gB, .nil, fun p hp => by simp at hp⟩
        · obtain ⟨o5, o6, o7, o8, bs, rfl, g2, hL2, hB2, tr2, trb, hfs⟩ := h
          have hqi : lv[i]? = some lv[i] := List.getElem?_eq_getElem hi
          generalize lv[i] = p at hqi
          obtain ⟨a, xi, hzi, hai, rxi⟩ := tr2.get hqi
          refine ⟨⟨zs, _, SqL.of hL2, hzi⟩, fun v H3 yl => ?_⟩
          obtain ⟨rfl, hv⟩ := yl
          have e1 := hzi.symm.trans (hv zs (SqL.of hL2))
          cases e1
          refine ⟨a, _, rfl, SqT.of hai, rfl, _, _, rfl, _, _, rfl, _, _, rfl, rfl, ?_⟩
          obtain ⟨hfit, hhd⟩ := hlv p (List.mem_of_getElem? hqi)
          refine ⟨_, rfl, _, rfl, _, rfl, xi, p.1, p.2.1, p.2.2, rfl, rxi.same g2, hfit, hhd, fun H4 g4 => ⟨_, rfl, ?_⟩⟩
          by_cases hf : Tre.hasForm p.1 p.2.1 p.2.2 = true
          · refine iteN (show (!Tre.hasForm p.1 p.2.1 p.2.2) = false by rw [hf]; rfl) ?_
            obtain ⟨hd, es, fs, l, ep, _⟩ := Tre.hasForm_is hf
            refine ⟨_, rfl, _, rfl, xi, hd, es, p.2.2, rfl, ep ▸ rxi.same (g2.trans g4), fun H5 g5 => ?_⟩
            have g25 := (g2.trans g4).trans g5
            have g35 := g4.trans g5
            have hB5 := g35 _ _ hB2
            refine ⟨_, rfl, .inl ⟨rfl, bs, SqL.of hB5⟩, _, rfl, xi, p.1, p.2.1, p.2.2, H, rfl, g25, rxi, hf, fun H6 p6 ps g6 hp6 hl6 prs => .inl ⟨p6, rfl, ⟨ps, SqL.of hl6⟩, ?_⟩⟩
            have hpl := Paired.length prs
            have hil := Tre.inner_le hf
            refine comp_it (Tre.inner p.1).length (fun j vs H' => Same H6 H' ∧ Trs K H H' vs (((Tre.inner p.1).take j).map fun z => (z.1, z.2, Tre.within p.1 p.2.2))) ⟨Same.refl _, .nil⟩ (fun j vs H' h => ?_) (Nat.le_trans hil (by decide)) (fun j vs H' hj h => ?_) (fun vs H' h => ?_)
            · have := Paired.length h.2
              rw [this, List.length_map]
              exact List.length_take_le _ _
            · obtain ⟨g7, tv⟩ := h
              have hj2 : (Tre.inner p.1)[j]? = some (Tre.inner p.1)[j] := List.getElem?_eq_getElem hj
              generalize (Tre.inner p.1)[j] = z at hj2
              obtain ⟨az, xz, hpz, haz, rxz⟩ := prs.get hj2
              refine ⟨⟨ps, _, SqL.of (g7 _ _ hl6), hpz⟩, fun v H8 yl => ?_⟩
              obtain ⟨rfl, hv⟩ := yl
              have e6 := hpz.symm.trans (hv ps (SqL.of (g7 _ _ hl6)))
              cases e6
              refine ⟨az, _, rfl, SqT.of (g7 _ _ haz), rfl, _, _, rfl, _, _, rfl, rfl, ?_⟩
              refine ⟨_, rfl, _, rfl, _, rfl, (by decide : 3 ≤ sizeLine), fun q3 hq3 => ⟨g7.trans (same_new hq3 _), ?_⟩⟩
              rw [List.take_add_one, hj2, List.map_append]
              refine Trs.append (tv.same (same_new hq3 _)) (.cons ⟨q3, xz, rfl, ?_, rxz⟩ .nil)
              rw [upd_same, ep]
            · obtain ⟨g7, tv⟩ := h
              refine ⟨⟨ps, SqL.of (g7 _ _ hl6), by omega⟩, fun D hD => ?_⟩
              rw [List.take_length] at tv
              have hvl := Paired.length tv
              rw [List.length_map] at hvl
              have hbl := Paired.length trb
              have hbb := Tre.below_le hfs
              have hti := List.length_take_le i lv
              have gD := same_new hD (.lst vs)
              have g3D := ((g35.trans g6).trans g7).trans gD
              refine ⟨B, D, bs, vs, rfl, rfl, g3D _ _ hB2, upd_same, Nat.le_trans (show bs.length + vs.length ≤ 100000 by omega) (by decide), ?_⟩
              have eb : Tre.below (lv.take (i + 1)) = Tre.below (lv.take i) ++ (Tre.inner p.1).map fun z => (z.1, z.2, Tre.within p.1 p.2.2) := by
                unfold Tre.below
                rw [List.take_add_one, hqi, List.flatMap_append]
                simp
              refine ⟨_, _, _, _, bs ++ vs, rfl, same_write (g2.trans g3D) hB0 _, ?_, upd_same, Trs.write (g3D _ _ hB2) (tr2.same g3D), ?_, fun p' hp' => ?_⟩
              · rw [upd_ne nLB]
                exact g3D _ _ hL2
              · rw [eb]
                exact Trs.append (Trs.write (g3D _ _ hB2) (trb.same g3D)) (Trs.write (g3D _ _ hB2) (tv.same gD))
              · rw [List.take_add_one, hqi, List.mem_append] at hp'
                rcases hp' with hp' | hp'
                · exact hfs p' hp'
                · simp at hp'
                  subst hp'
                  exact hf
          · have hf' := Bool.eq_false_iff.mpr hf
            refine iteP (show (!Tre.hasForm p.1 p.2.1 p.2.2) = true by rw [hf']; rfl) (qF ?_ _ (g2.trans g4))
            rw [← hw]
            have : (List.all lv fun p => Tre.hasForm p.1 p.2.1 p.2.2) = false := by
              rw [List.all_eq_false]
              exact ⟨p, List.mem_of_getElem? hqi, hf⟩
            rw [this, Bool.false_and]
        · obtain ⟨o5, o6, o7, o8, bs, rfl, g2, hL2, hB2, tr2, trb, hfs⟩ := h
          rw [List.take_length] at trb hfs
          have e1 : (n : Int) + 1 = ((n + 1 : Nat) : Int) := by omega
          have e2 : (sz : Int) + ((zs.length : Nat) : Int) = ((sz + lv.length : Nat) : Int) := by omega
          have hbb := Tre.below_le hfs
          refine ⟨⟨zs, SqL.of hL2, by omega⟩, _, rfl, m, Nat.lt_succ_self m, B, bs, Tre.below lv, n + 1, sz + lv.length, some (.ref B), o5, o6, o7, o8, ?_, g2, hB2, hB0, trb, by omega, ?_, fun p hp => ?_, hs, by omega⟩
          · show [some x, some (.ref B), some (.int ((n : Int) + 1)), some (.int ((sz : Int) + ((zs.length : Nat) : Int))), some (.ref B), o5, o6, o7, o8] = _
            rw [e1, e2]
          · rw [← hw]
            have : (List.all lv fun p => Tre.hasForm p.1 p.2.1 p.2.2) = true := List.all_eq_true.mpr fun p hp => hfs p hp
            rw [this, Bool.true_and]
          · obtain ⟨q', hq', hp2⟩ := List.mem_flatMap.mp hp
            obtain ⟨z, hz, rfl⟩ := List.mem_map.mp hp2
            refine ⟨Tre.inner_fit (hlv q' hq').1 hz, ?_⟩
            rcases Tre.inner_sort hz with e | e
            · show (Tre.heads.lookup z.2).isSome = true
              rw [e]
              decide +kernel
            · show (Tre.heads.lookup z.2).isSome = true
              rw [e]
              decide +kernel
      · refine iteP (show decide _ = true from decide_eq_true (by show (300 : Int) < (sz : Int) + ((zs.length : Nat) : Int); omega)) (qF ?_ _ g)
        rw [← hw, decide_eq_false hs]
        rfl
end
end Mine

namespace Mine
open PySem L2
section
variable {P : Program} {w : World} {K : PySem.W.Frag} {mg : Str → Option Value} {base : Heap} {f : Addr} {fd : FuncData} {ad : Ad}
noncomputable def spInnerOf (K : PySem.W.Frag) : Sp := fun vs H Q _ => ∃ x d sh hands H0, vs = [x] ∧ Same H0 H ∧ Rep K H0 x d ∧ Tre.hasForm d sh hands = true ∧ ∀ H' p zs, Same H H' → H p = none → H' p = some (.lst zs) → Reps K H0 zs (Tre.kids d) → Q (.ref p) H'
theorem ok_inner_of (F : Fun K "inner_of" "inner_of" s_inner_of f fd) (c : Cs K mg ad) (d_inner_with_shapes : Def P w K mg base 1 "inner_with_shapes" ["part"] (spInner K)) : FnOk P w K mg base CX0 2 f fd ["part"] (spInnerOf K) := by
  refine F.ok sc_inner_of (fun vs H Q E h => ?_) (fun cdv A outer s H vs Q E hr h => ?_)
  · obtain ⟨x, d, sh, hands, H0, rfl, _⟩ := h
    rfl
  obtain ⟨x, d, sh, hands, H0, rfl, gH, hk, hf, q⟩ := h
  refine ⟨_, (pss_one (ps_ret (pe_comp (sc := defScope s_inner_of) (NX := ["part"]) (N := ["inner", "shape"]) (js := [none, none]) (pi_k (K := K) rfl (pe_def d_inner_with_shapes (hr.mono (by first | decide | omega)) (pa_cons (pv 0) pa_nil))) (fun _ _ _ _ _ => (pgt_k (K := K) rfl rfl (pgs_cons (pg_name (i := 0) (show (["inner", "shape"] : List Str).Nodup by decide +kernel) rfl (Or.inl rfl)) (pgs_cons (pg_name (i := 1) (show (["inner", "shape"] : List Str).Nodup by decide +kernel) rfl (Or.inl rfl)) pgs_nil)))) (fun _ _ _ _ _ => pf_nil) (fun _ _ _ _ _ => (pv 0)) (own_two rfl rfl) ⟨by decide +kernel, rfl, by decide +kernel, by decide +kernel, rfl, by decide +kernel⟩))), ?_⟩
  refine ⟨_, rfl, x, d, sh, hands, H0, rfl, gH, hk, hf, fun H6 p6 ps g6 hp6 hl6 prs => .inl ⟨p6, rfl, ⟨ps, SqL.of hl6⟩, ?_⟩⟩
  have hpl := Paired.length prs
  have hil := Tre.inner_le hf
  refine comp_it (Tre.inner d).length (fun j vs H' => Same H6 H' ∧ Reps K H0 vs (((Tre.inner d).take j).map fun z => z.1)) ⟨Same.refl _, .nil⟩ (fun j vs H' h => ?_) (Nat.le_trans hil (by decide)) (fun j vs H' hj h => ?_) (fun vs H' h => ?_)
  · have := Reps.length h.2
    rw [this, List.length_map]
    exact List.length_take_le _ _
  · obtain ⟨g7, tv⟩ := h
    have hj2 : (Tre.inner d)[j]? = some (Tre.inner d)[j] := List.getElem?_eq_getElem hj
    generalize (Tre.inner d)[j] = z at hj2
    obtain ⟨az, xz, hpz, haz, rxz⟩ := prs.get hj2
    refine ⟨⟨ps, _, SqL.of (g7 _ _ hl6), hpz⟩, fun v H8 yl => ?_⟩
    obtain ⟨rfl, hv⟩ := yl
    have e6 := hpz.symm.trans (hv ps (SqL.of (g7 _ _ hl6)))
    cases e6
    refine ⟨az, _, rfl, SqT.of (g7 _ _ haz), rfl, _, _, rfl, _, _, rfl, rfl, ?_⟩
    refine ⟨_, rfl, g7, ?_⟩
    rw [List.take_add_one, hj2, List.map_append]
    exact tv.append (.cons rxz .nil)
  · obtain ⟨g7, tv⟩ := h
    rw [List.take_length] at tv
    refine ⟨⟨ps, SqL.of (g7 _ _ hl6), by omega⟩, fun D hD => ?_⟩
    exact q _ D vs ((g6.trans g7).trans (same_new hD _)) ((g6.trans g7).free hD) upd_same tv
end
end Mine

namespace Mine
open PySem L2
section
variable {P : Program} {w : World} {K : PySem.W.Frag} {mg : Str → Option Value} {base : Heap} {f : Addr} {fd : FuncData} {ad : Ad}
noncomputable def spCell (K : PySem.W.Frag) : Sp := fun vs H Q _ => ∃ (a : Addr) (ns : List Int) (k : Int), vs = [.ref a, .int k] ∧ SqL K H a (ns.map V.int) ∧ 0 ≤ k ∧ ∀ i, Q (.int i) H
theorem ok_law_cell_at (F : Fun K "_law_cell_at" "_law_cell_at" s_law_cell_at f fd) (c : Cs K mg ad) : FnOk P w K mg base CX0 1 f fd ["_law_script", "_law_k"] (spCell K) := by
  refine F.ok sc_law_cell_at (fun vs H Q E h => ?_) (fun cdv A outer s H vs Q E hr h => ?_)
  · obtain ⟨a, ns, k, rfl, _⟩ := h
    rfl
  obtain ⟨a, ns, k, rfl, hS, hk, q⟩ := h
  refine ⟨_, (pss_cons (ps_if (pt_cmpR op_lt (pv 1) (pe_callB (len_k (K := K) rfl) (by rfl) c.len_ bt_len (pa_cons (pv 0) pa_nil)) (nomark _)) (pss_one (ps_ret (pe_ix (ix_k (K := K) rfl) (pv 0) (pv 1) (fun _ _ => rfl)))) pss_nil)
      (pss_one (ps_ret pe_int))), ?_⟩
  refine ⟨_, rfl, _, rfl, _, _, rfl, .inl ⟨_, hS, rfl⟩, _, _, rfl, rfl, _, rfl, ?_⟩
  refine ite2 (fun c1 => ?_) (fun c1 => ?_)
  · have c1' : k < (((ns.map V.int).length : Nat) : Int) := of_decide_eq_true c1
    rw [List.length_map] at c1'
    have hk2 : k.toNat < ns.length := by omega
    have ek : k = ((k.toNat : Nat) : Int) := by omega
    have hv : atI (ns.map V.int) ((k.toNat : Nat) : Int) = some (.int ns[k.toNat]) := atI_nat (by rw [List.getElem?_map, List.getElem?_eq_getElem hk2] <;> rfl)
    rw [← ek] at hv
    exact ⟨_, rfl, _, rfl, .inl ⟨_, _, _, _, rfl, rfl, hS, hv, q _⟩⟩
  · exact q 0
noncomputable def stK (a : Addr) (k l : Int) (nm : Addr) : List (Key × V) := [(Sum.inr "cells", .ref a), (Sum.inr "at", .int k), (Sum.inr "left", .int l), (Sum.inr "names", .ref nm)]
theorem kne {a b : Str} (h : ¬ a = b) : ¬ (Sum.inr a : Key) = Sum.inr b := fun e => h (Sum.inr.inj e)
theorem n_ca : ¬ (Sum.inr ("cells" : Str) : Key) = Sum.inr ("at" : Str) := kne (by decide +kernel)
theorem n_cl : ¬ (Sum.inr ("cells" : Str) : Key) = Sum.inr ("left" : Str) := kne (by decide +kernel)
theorem n_cn : ¬ (Sum.inr ("cells" : Str) : Key) = Sum.inr ("names" : Str) := kne (by decide +kernel)
theorem n_al : ¬ (Sum.inr ("at" : Str) : Key) = Sum.inr ("left" : Str) := kne (by decide +kernel)
theorem n_an : ¬ (Sum.inr ("at" : Str) : Key) = Sum.inr ("names" : Str) := kne (by decide +kernel)
theorem n_ln : ¬ (Sum.inr ("left" : Str) : Key) = Sum.inr ("names" : Str) := kne (by decide +kernel)
theorem n_la : ¬ (Sum.inr ("left" : Str) : Key) = Sum.inr ("at" : Str) := kne (by decide +kernel)
theorem n_na : ¬ (Sum.inr ("names" : Str) : Key) = Sum.inr ("at" : Str) := kne (by decide +kernel)
theorem n_nl : ¬ (Sum.inr ("names" : Str) : Key) = Sum.inr ("left" : Str) := kne (by decide +kernel)
section
variable (a : Addr) (k l : Int) (nm : Addr)
theorem st_cells : valV (stK a k l nm) (Sum.inr "cells") = some (.ref a) := valV_pos rfl
theorem st_at : valV (stK a k l nm) (Sum.inr "at") = some (.int k) := (valV_neg n_ca).trans (valV_pos rfl)
theorem st_left : valV (stK a k l nm) (Sum.inr "left") = some (.int l) := (valV_neg n_cl).trans ((valV_neg n_al).trans (valV_pos rfl))
theorem st_names : valV (stK a k l nm) (Sum.inr "names") = some (.ref nm) := (valV_neg n_cn).trans ((valV_neg n_an).trans ((valV_neg n_ln).trans (valV_pos rfl)))
theorem st_putAt (j : Int) : putK (stK a k l nm) (Sum.inr "at") (.int j) = stK a j l nm := by
  unfold putK
  rw [if_pos (by rw [valV_any, st_at]; rfl)]
  unfold stK
  simp only [List.map_cons, List.map_nil]
  rw [if_neg n_ca, if_pos trivial, if_neg n_la, if_neg n_na]
theorem st_putLeft (j : Int) : putK (stK a k l nm) (Sum.inr "left") (.int j) = stK a k j nm := by
  unfold putK
  rw [if_pos (by rw [valV_any, st_left]; rfl)]
  unfold stK
  simp only [List.map_cons, List.map_nil]
  rw [if_neg n_cl, if_neg n_al, if_pos trivial, if_neg n_nl]
end
noncomputable def spNext (K : PySem.W.Frag) : Sp := fun vs H Q _ => ∃ (d a nm : Addr) (ns : List Int) (k l : Int), vs = [.ref d] ∧ H d = some (.dK (stK a k l nm)) ∧ SqL K H a (ns.map V.int) ∧ 0 ≤ k ∧ k ≤ 1000000 ∧
  ∀ (n : Int) (H' : Hp), 0 ≤ n → n < 268435456 → H' = upd H d (.dK (stK a (k + 1) l nm)) → Q (.int n) H'
theorem ok_law_next (F : Fun K "_law_next" "_law_next" s_law_next f fd) (c : Cs K mg ad) (d_law_cell_at : Def P w K mg base 1 "_law_cell_at" ["_law_script", "_law_k"] (spCell K)) : FnOk P w K mg base CX0 2 f fd ["_law_state"] (spNext K) := by
  refine F.ok sc_law_next (fun vs H Q E h => ?_) (fun cdv A outer s H vs Q E hr h => ?_)
  · obtain ⟨d, a, nm, ns, k, l, rfl, _⟩ := h
    rfl
  obtain ⟨d, a, nm, ns, k, l, rfl, hd, hS, hk0, hk1, q⟩ := h
  have hu := hu_of hr
  refine ⟨_, (pss_cons (ps_dput hu (pv 0) pe_str (pe_op op_plus (pe_dget hu (pv 0) pe_str (fun _ _ => rfl)) pe_int) rfl)
      (pss_cons (ps_set (i := 1) sc_law_next.nd rfl (by first | exact Or.inl rfl | exact Or.inr rfl) (pe_dget hu (pv 0) pe_str (fun _ _ => rfl)))
      (pss_cons (ps_set (i := 2) sc_law_next.nd rfl (by first | exact Or.inl rfl | exact Or.inr rfl) (pe_def d_law_cell_at (hr.mono (by first | decide | omega)) (pa_cons (pe_dget hu (pv 0) pe_str (fun _ _ => rfl)) (pa_cons (pe_op op_mod (pv 1) (pe_callB (call_max2 rfl) (by rfl) c.max_ bt_max (pa_cons pe_int (pa_cons (pe_callB (len_k (K := K) rfl) (by rfl) c.len_ bt_len (pa_cons (pe_dget hu (pv 0) pe_str (fun _ _ => rfl)) pa_nil)) pa_nil)))) pa_nil))))
      (pss_one (ps_ret (pe_op op_fdiv (pe_op op_mod (pe_op op_plus (pe_op op_mul (pv 2) pe_int) (pe_op op_mul (pe_op op_mul (pv 1) (pv 1)) pe_int)) pe_int) pe_int)))))), ?_⟩
  clear hu
  refine ⟨_, rfl, _, _, rfl, (by rw [← st_at a k l nm]; exact DGet.k (k := Sum.inr "at") hd), .inl ⟨_, _, rfl, rfl, ?_⟩⟩
  refine ⟨_, rfl, d, upd H d (.dK (stK a (k + 1) l nm)), rfl, (by rw [← st_putAt a k l nm (k + 1)]; exact DPut.k (k := Sum.inr "at") hd (Nat.lt_of_le_of_lt (show 4 ≤ 1000 by decide) (by decide))), ?_⟩
  have hd' : upd H d (.dK (stK a (k + 1) l nm)) d = some (.dK (stK a (k + 1) l nm)) := upd_same
  have hS' : SqL K (upd H d (.dK (stK a (k + 1) l nm))) a (ns.map V.int) := (Stay.put hd).sqL hS
  have gAt : DGet (upd H d (.dK (stK a (k + 1) l nm))) d (.str "at") (some (.int (k + 1))) := by rw [← st_at a (k + 1) l nm]; exact DGet.k (k := Sum.inr "at") hd'
  have gCe : DGet (upd H d (.dK (stK a (k + 1) l nm))) d (.str "cells") (some (.ref a)) := by rw [← st_cells a (k + 1) l nm]; exact DGet.k (k := Sum.inr "cells") hd'
  have hm : 0 < (if (((ns.map V.int).length : Nat) : Int) > 1 then (((ns.map V.int).length : Nat) : Int) else 1) := by split <;> omega
  refine ⟨_, rfl, d, _, rfl, gAt, _, rfl, d, _, rfl, gCe, _, rfl, _, rfl, d, _, rfl, gCe, _, _, rfl, .inl ⟨_, hS', rfl⟩, _, _, rfl, _, _, rfl, rfl, hm, a, ns, _, rfl, hS', Int.emod_nonneg _ (by omega), fun i => ?_⟩
  have b1 : CMul (k + 1) (k + 1) := .inl ⟨by omega, by omega⟩
  refine ⟨_, rfl, _, _, rfl, rfl, .inr ⟨by decide, by decide⟩, _, rfl, _, rfl, _, _, rfl, rfl, b1, _, _, rfl, rfl, .inr ⟨by decide, by decide⟩, .inl ⟨_, _, rfl, rfl, _, _, rfl, rfl, (show (0 : Int) < 2147483647 by decide), _, _, rfl, rfl, ⟨by decide, by decide⟩, ?_⟩⟩
  refine q _ _ ?_ ?_ rfl
  · exact Int.ediv_nonneg (Int.emod_nonneg _ (by decide)) (by decide)
  · have := Int.emod_lt_of_pos (i * 48271 + (k + 1) * (k + 1) * 69621) (show (0 : Int) < 2147483647 by decide)
    show (i * 48271 + (k + 1) * (k + 1) * 69621) % 2147483647 / 8 < 268435456
    omega
end
end Mine

namespace Mine
open PySem L2
section
variable {P : Program} {w : World} {K : PySem.W.Frag} {mg : Str → Option Value} {base : Heap} {f : Addr} {fd : FuncData} {ad : Ad}
theorem num_of {i : Int} (h : -1000000000000 ≤ i) (h' : i ≤ 1000000000000) : Tre.numB i = true := by
  unfold Tre.numB
  rw [decide_eq_true h, decide_eq_true h']
  rfl
theorem atI_all {xs : List V} {i : Int} {p : V → Prop} (h : ∀ x ∈ xs, p x) (h0 : 0 ≤ i) (h1 : i < (xs.length : Int)) : ∃ v, atI xs i = some v ∧ p v := by
  have hk : i.toNat < xs.length := by omega
  have ek : i = ((i.toNat : Nat) : Int) := by omega
  have q : atI xs ((i.toNat : Nat) : Int) = some xs[i.toNat] := atI_nat (List.getElem?_eq_getElem hk)
  rw [← ek] at q
  exact ⟨_, q, h _ (List.getElem_mem hk)⟩
noncomputable def spNumber : Sp := fun vs H Q _ => ∃ m : Int, vs = [.int m] ∧ 0 ≤ m ∧ m < 268435456 ∧ ∀ (i : Int) (H' : Hp), Tre.numB i = true → Same H H' → Q (.int i) H'
theorem ok_law_number (F : Fun K "_law_number" "_law_number" s_law_number f fd) (c : Cs K mg ad) : FnOk P w K mg base CX0 1 f fd ["_law_more"] spNumber := by
  refine F.ok sc_law_number (fun vs H Q E h => ?_) (fun cdv A outer s H vs Q E hr h => ?_)
  · obtain ⟨m, rfl, _⟩ := h
    rfl
  obtain ⟨m, rfl, hm0, hm1, q⟩ := h
  refine ⟨_, (pss_cons (ps_set (i := 1) sc_law_number.nd rfl (by first | exact Or.inl rfl | exact Or.inr rfl) (pe_op op_sub (pe_op op_mod (pv 0) (pe_op op_plus (pe_op op_mul pe_int (pe_op op_pow pe_int pe_int)) pe_int)) (pe_op op_pow pe_int pe_int)))
      (pss_one (ps_ret (pe_ix (ix_k (K := K) rfl) (pe_lst (pa_cons (pe_op op_mod (pe_op op_fdiv (pv 0) pe_int) pe_int) (pa_cons (pe_op op_sub (pe_op op_mod (pe_op op_fdiv (pv 0) pe_int) pe_int) pe_int) (pa_cons (pv 1) (pa_cons (pe_ix (ix_k (K := K) rfl) (pe_lst (pa_cons (pe_op op_pow pe_int pe_int) (pa_cons (pe_op op_sub pe_int (pe_op op_pow pe_int pe_int)) (pa_cons pe_int pa_nil)))) (pe_op op_mod (pe_op op_fdiv (pv 0) pe_int) pe_int) (fun _ _ => rfl)) pa_nil))))) (pe_op op_mod (pv 0) pe_int) (fun _ _ => rfl))))), ?_⟩
  have cp : CPow 10 12 := ⟨by decide, by decide, by decide⟩
  have e12 : (10 : Int) ^ Int.toNat 12 = 1000000000000 := by decide +kernel
  refine ⟨_, rfl, _, _, rfl, rfl, cp, _, _, rfl, rfl, .inl ⟨by decide, by decide⟩, .inl ⟨_, _, rfl, rfl, _, _, rfl, rfl, (show (0 : Int) < 2 * 10 ^ Int.toNat 12 + 1 by rw [e12]; decide), _, _, rfl, rfl, cp, _, _, rfl, rfl, ?_⟩⟩
  have c8 : CDiv m 8 := ⟨by decide, by decide⟩
  refine ⟨_, rfl, _, _, rfl, rfl, c8, _, _, rfl, rfl, (show (0 : Int) < 10 by decide), _, rfl, _, _, rfl, rfl, c8, _, _, rfl, rfl, (show (0 : Int) < 2000 by decide), _, _, rfl, rfl, _, rfl, ?_⟩
  refine ⟨_, _, rfl, rfl, cp, _, _, rfl, rfl, cp, _, _, rfl, rfl, (by decide : 3 ≤ sizeLine), fun p1 hp1 => ?_⟩
  rw [e12]
  have n1 : Tre.numB 1000000000000 = true := by decide
  have n2 : Tre.numB (0 - 1000000000000) = true := by decide
  have n3 : Tre.numB 0 = true := by decide
  obtain ⟨v4, h4, i4, rfl, k4⟩ := atI_all (xs := [V.int 1000000000000, V.int (0 - 1000000000000), V.int 0]) (i := m / 8 % 3) (p := fun v => ∃ i, v = .int i ∧ Tre.numB i = true) (by
    simp only [List.mem_cons, List.not_mem_nil, or_false]
    rintro x (rfl | rfl | rfl)
    · exact ⟨_, rfl, n1⟩
    · exact ⟨_, rfl, n2⟩
    · exact ⟨_, rfl, n3⟩) (Int.emod_nonneg _ (by decide)) (Int.emod_lt_of_pos _ (by decide))
  refine ⟨_, rfl, _, _, rfl, rfl, c8, _, _, rfl, rfl, (show (0 : Int) < 3 by decide), .inl ⟨p1, _, _, _, rfl, rfl, SqL.of upd_same, h4, (by decide : 4 ≤ sizeLine), fun p2 hp2 => ?_⟩⟩
  have a1 := Int.emod_nonneg (m / 8) (show (10 : Int) ≠ 0 by decide)
  have a2 := Int.emod_lt_of_pos (m / 8) (show (0 : Int) < 10 by decide)
  have b1 := Int.emod_nonneg (m / 8) (show (2000 : Int) ≠ 0 by decide)
  have b2 := Int.emod_lt_of_pos (m / 8) (show (0 : Int) < 2000 by decide)
  have d1 := Int.emod_nonneg m (show (2 * 1000000000000 + 1 : Int) ≠ 0 by decide)
  have d2 := Int.emod_lt_of_pos m (show (0 : Int) < 2 * 1000000000000 + 1 by decide)
  obtain ⟨v, h, i, rfl, k⟩ := atI_all (xs := [V.int (m / 8 % 10), V.int (m / 8 % 2000 - 1000), V.int (m % (2 * 1000000000000 + 1) - 1000000000000), V.int i4]) (i := m % 4) (p := fun v => ∃ i, v = .int i ∧ Tre.numB i = true) (by
    simp only [List.mem_cons, List.not_mem_nil, or_false]
    rintro x (rfl | rfl | rfl | rfl)
    · exact ⟨_, rfl, num_of (by omega) (by omega)⟩
    · exact ⟨_, rfl, num_of (by omega) (by omega)⟩
    · exact ⟨_, rfl, num_of (by omega) (by omega)⟩
    · exact ⟨_, rfl, k4⟩) (Int.emod_nonneg _ (by decide)) (Int.emod_lt_of_pos _ (by decide))
  exact ⟨_, rfl, _, _, rfl, rfl, (show (0 : Int) < 4 by decide), .inl ⟨p2, _, _, _, rfl, rfl, SqL.of upd_same, h, q i _ k ((same_new hp1 _).trans (same_new hp2 _))⟩⟩
end
end Mine

namespace Mine
open PySem L2 Nam
section
variable {P : Program} {w : World} {K : PySem.W.Frag} {mg : Str → Option Value} {base : Heap} {f : Addr} {fd : FuncData} {ad : Ad}
theorem let_at {i : Int} (h0 : 0 ≤ i) (h1 : i < 26) : atI (Str.ofString "abcdefghijklmnopqrstuvwxyz").cps.toList i = some (97 + i.toNat) := by
  have e : (Str.ofString "abcdefghijklmnopqrstuvwxyz").cps.toList = (List.range 26).map fun k => 97 + k := by decide +kernel
  have ek : i = ((i.toNat : Nat) : Int) := by omega
  have hk : i.toNat < 26 := by omega
  rw [e]
  have q : atI ((List.range 26).map fun k => 97 + k) ((i.toNat : Nat) : Int) = some (97 + i.toNat) := atI_nat (by rw [List.getElem?_map, List.getElem?_range hk]; rfl)
  rw [← ek] at q
  exact q
noncomputable def cw (m : Int) (k : Nat) : Nat := 97 + ((m / 64 + 5 * (k : Int)) % 26).toNat
noncomputable def gw (m : Int) (k : Nat) : Nat := 97 + ((m / 2048 + 7 * (k : Int)) % 26).toNat
theorem cw_low (m : Int) (k : Nat) : low (cw m k) = true := by
  have e0 := Int.emod_nonneg (m / 64 + 5 * (k : Int)) (show (26 : Int) ≠ 0 by decide)
  have e1 := Int.emod_lt_of_pos (m / 64 + 5 * (k : Int)) (show (0 : Int) < 26 by decide)
  unfold low cw
  rw [decide_eq_true (by omega), decide_eq_true (by omega)]
  rfl
theorem gw_low (m : Int) (k : Nat) : low (gw m k) = true := by
  have e0 := Int.emod_nonneg (m / 2048 + 7 * (k : Int)) (show (26 : Int) ≠ 0 by decide)
  have e1 := Int.emod_lt_of_pos (m / 2048 + 7 * (k : Int)) (show (0 : Int) < 26 by decide)
  unfold low gw
  rw [decide_eq_true (by omega), decide_eq_true (by omega)]
  rfl
theorem gw_inj (m : Int) (a b : Nat) (ha : a < 8) (hb : b < 8) (h : gw m a = gw m b) : a = b := by
  unfold gw at h
  omega
theorem cut_take (xs : List V) (n : Int) (k : Nat) (h : n = (k : Int)) : cutV xs none (some n) = xs.take k := by
  subst h
  unfold cutV
  rw [HT.sIx_nat, HT.sIx_none, Nat.sub_zero, List.drop_zero, List.take_eq_take_iff]
  omega
structure Nms (l : List Str) : Prop where
  len : l.length = 8
  good : ∀ x ∈ l, Tre.nameB x = true
  nd : l.Nodup
noncomputable def spNames : Sp := fun vs H Q _ => ∃ m : Int, vs = [.int m, .int 8] ∧ 0 ≤ m ∧ m < 2147483647 ∧ ∀ (l : List Str) (p : Addr) (H' : Hp), Nms l → Same H H' → H' p = some (.lst (l.map V.str)) → Q (.ref p) H'
theorem ok_law_names (F : Fun K "_law_names" "_law_names" s_law_names f fd) (c : Cs K mg ad) : FnOk P w K mg base CX0 1 f fd ["_law_cell", "_law_many"] spNames := by
  refine F.ok sc_law_names (fun vs H Q E h => ?_) (fun cdv A outer s H vs Q E hr h => ?_)
  · obtain ⟨m, rfl, _⟩ := h
    rfl
  obtain ⟨m, rfl, hm0, hm1, q⟩ := h
  refine ⟨_, (pss_cons (ps_set (i := 2) sc_law_names.nd rfl (by first | exact Or.inl rfl | exact Or.inr rfl) pe_str)
      (pss_cons (ps_set (i := 3) sc_law_names.nd rfl (by first | exact Or.inl rfl | exact Or.inr rfl) (pe_op op_plus pe_int (pe_op op_mod (pv 0) pe_int)))
      (pss_cons (ps_set (i := 4) sc_law_names.nd rfl (by first | exact Or.inl rfl | exact Or.inr rfl) (pe_comp (sc := defScope s_law_names) (NX := ["_law_cell", "_law_many", "_law_letters", "_law_size", "_law_word", "_law_made", "_law_k"]) (N := ["_law_k", "_law_letters", "_law_cell"]) (js := [none, some 2, some 0]) (pi_range1 rfl c.range_ (pa_cons pe_int pa_nil)) (fun _ _ _ _ _ => (pg_name (i := 0) (show (["_law_k", "_law_letters", "_law_cell"] : List Str).Nodup by decide +kernel) rfl (Or.inl rfl))) (fun _ _ _ _ _ => pf_nil) (fun _ _ _ _ _ => (pe_ix (ix_k (K := K) rfl) (pv 1) (pe_op op_mod (pe_op op_plus (pe_op op_fdiv (pv 2) pe_int) (pe_op op_mul pe_int (pv 0))) pe_int) (fun _ _ => rfl))) (own_name rfl) ⟨by decide +kernel, rfl, by decide +kernel, by decide +kernel, rfl, by decide +kernel⟩))
      (pss_cons (ps_if (pt_cmpR op_eq (pe_op op_mod (pe_op op_fdiv (pv 0) pe_int) pe_int) pe_int (nomark _)) (pss_one (ps_ret (pe_comp (sc := defScope s_law_names) (NX := ["_law_cell", "_law_many", "_law_letters", "_law_size", "_law_word", "_law_made", "_law_k"]) (N := ["_law_k", "_law_word"]) (js := [none, some 4]) (pi_range1 rfl c.range_ (pa_cons (pv 1) pa_nil)) (fun _ _ _ _ _ => (pg_name (i := 0) (show (["_law_k", "_law_word"] : List Str).Nodup by decide +kernel) rfl (Or.inl rfl))) (fun _ _ _ _ _ => pf_nil) (fun _ _ _ _ _ => (bm_k (K := K) rfl PySem.F.plainAttrs_str PySem.F.slot_str_join PySem.F.type_str_join (join_k (K := K) rfl) pe_str (pa_cons (pe_slice (sl_k (K := K) rfl) (pv 1) po_none (po_some (pe_op op_plus (pv 0) pe_int))) pa_nil))) (own_name rfl) ⟨by decide +kernel, rfl, by decide +kernel, by decide +kernel, rfl, by decide +kernel⟩))) pss_nil)
      (pss_cons (ps_set (i := 5) sc_law_names.nd rfl (by first | exact Or.inl rfl | exact Or.inr rfl) (pe_lst pa_nil))
      (pss_cons (ps_for PassesOwn.never rfl (pi_range1 rfl c.range_ (pa_cons (pv 1) pa_nil)) (pg_name (i := 6) sc_law_names.nd rfl (by first | exact Or.inl rfl | exact Or.inr rfl)) (pss_cons (ps_asg (pe_ix (ix_k (K := K) rfl) (pv 2) (pe_op op_mod (pe_op op_plus (pe_op op_fdiv (pv 0) pe_int) (pe_op op_mul pe_int (pv 6))) pe_int) (fun _ _ => rfl)) (pg_sub (pv 4) (pe_op op_mod (pe_op op_fdiv (pv 0) pe_int) (pv 3)) set_list))
      (pss_one (ps_expr (bm_k (K := K) rfl PySem.F.plainAttrs_list PySem.F.slot_list_append PySem.F.type_list_append mt_append (pv 5) (pa_cons (bm_k (K := K) rfl PySem.F.plainAttrs_str PySem.F.slot_str_join PySem.F.type_str_join (join_k (K := K) rfl) pe_str (pa_cons (pe_slice (sl_k (K := K) rfl) (pv 4) po_none (po_some (pv 3))) pa_nil)) pa_nil))))))
      (pss_one (ps_ret (pv 5))))))))), ?_⟩
  refine ⟨_, rfl, _, _, rfl, rfl, (show (0 : Int) < 8 by decide), .inl ⟨_, _, rfl, rfl, ?_⟩⟩
  have lone : ∀ (l : List Nat), l.map (fun c => V.str (one c)) = (l.map one).map V.str := fun l => by rw [List.map_map]; rfl
  refine ⟨_, rfl, by decide, by decide, comp_it 8 (fun i ys H' => H' = H ∧ ys = (((List.range i).map (cw m)).map fun c => V.str (one c))) ⟨rfl, rfl⟩ (fun i ys H' h => ?_) (by decide) (fun i ys H' hi h => ?_) (fun ys H' h => ?_)⟩
  · rw [h.2, List.length_map, List.length_map, List.length_range]
    exact Nat.le_refl _
  · obtain ⟨rfl, rfl⟩ := h
    refine ⟨hi, fun v H2 yl => ?_⟩
    obtain ⟨rfl, rfl⟩ := yl
    have e0 := Int.emod_nonneg (m / 64 + 5 * (0 + (i : Int))) (show (26 : Int) ≠ 0 by decide)
    have e1 := Int.emod_lt_of_pos (m / 64 + 5 * (0 + (i : Int))) (show (0 : Int) < 26 by decide)
    refine ⟨_, rfl, _, rfl, _, _, rfl, rfl, ⟨by decide, by decide⟩, _, rfl, _, _, rfl, rfl, .inl ⟨by decide, by decide⟩, .inl ⟨_, _, rfl, rfl, _, _, rfl, rfl, (show (0 : Int) < 26 by decide), .inr (.inr ⟨_, _, _, rfl, rfl, by decide +kernel, let_at e0 e1, rfl, ?_⟩)⟩⟩
    rw [List.range_succ, List.map_append, List.map_append]
    have e2 : cw m i = 97 + ((m / 64 + 5 * (0 + (i : Int))) % 26).toNat := by unfold cw; rw [Int.zero_add]
    simp only [List.map_cons, List.map_nil, e2]
    rfl
  · obtain ⟨rfl, rfl⟩ := h
    refine ⟨Nat.le_refl _, fun pw hpw => ?_⟩
    have g0 := same_new hpw (.lst ((((List.range 8).map (cw m)).map fun c => V.str (one c))))
    have hw0 : upd H' pw (.lst ((((List.range 8).map (cw m)).map fun c => V.str (one c)))) pw = some (.lst ((((List.range 8).map (cw m)).map fun c => V.str (one c)))) := upd_same
    generalize upd H' pw (.lst ((((List.range 8).map (cw m)).map fun c => V.str (one c)))) = H1 at g0 hw0 ⊢
    have hcl : ((List.range 8).map (cw m)).length = 8 := by rw [List.length_map, List.length_range]
    have hlow : ((List.range 8).map (cw m)).all low = true := by
      rw [List.all_map]
      exact List.all_eq_true.mpr fun k _ => cw_low m k
    generalize (List.range 8).map (cw m) = cs at hw0 hcl hlow ⊢
    have z0 := Int.emod_nonneg m (show (8 : Int) ≠ 0 by decide)
    have z1 := Int.emod_lt_of_pos m (show (0 : Int) < 8 by decide)
    refine ⟨_, rfl, _, _, rfl, rfl, ⟨by decide, by decide⟩, _, _, rfl, rfl, (show (0 : Int) < 4 by decide), rfl, _, rfl, ?_⟩
    refine ite2 (fun _ => ?_) (fun _ => ?_)
    · refine ⟨_, rfl, 8, rfl, by decide, by decide, comp_it 8 (fun i ys H' => Same H1 H' ∧ ys = ((List.range i).map fun k => V.str (wrd (cs.take (k + 1))))) ⟨Same.refl _, rfl⟩ (fun i ys H' h => ?_) (by decide) (fun i ys H2 hi h => ?_) (fun ys H2 h => ?_)⟩
      · rw [h.2, List.length_map, List.length_range]
        exact Nat.le_refl _
      · obtain ⟨g2, rfl⟩ := h
        refine ⟨hi, fun v H3 yl => ?_⟩
        obtain ⟨rfl, rfl⟩ := yl
        refine ⟨rfl, _, rfl, _, rfl, .inl ⟨_, _, rfl, rfl, _, rfl, .inl ⟨pw, _, rfl, SqL.of (g2 _ _ hw0), fun p hp => ⟨_, p, (cs.take (i + 1)).map one, rfl, rfl, SqL.of ?_, ?_, g2.trans (same_new hp _), ?_⟩⟩⟩⟩
        · rw [upd_same, cut_take _ _ (i + 1) (by omega), ← lone, List.map_take]
        · rw [ones_len]
          have := List.length_take_le (i + 1) cs
          have e : (Str.ofString "").length = 0 := by decide +kernel
          rw [e, Nat.mul_zero]
          omega
        · rw [join_one, List.range_succ, List.map_append]
          rfl
      · obtain ⟨g2, rfl⟩ := h
        refine ⟨Nat.le_refl _, fun D hD => q ((List.range 8).map fun k => wrd (cs.take (k + 1))) D _ ⟨by simp, fun x hx => ?_, begins cs hcl⟩ ((g0.trans g2).trans (same_new hD _)) (by rw [upd_same, List.map_map]; rfl)⟩
        obtain ⟨k, hk, rfl⟩ := List.mem_map.mp hx
        have hk' := List.mem_range.mp hk
        refine name_wrd (by rw [List.length_take]; omega) (by rw [List.length_take]; omega) (List.all_eq_true.mpr fun c hc => List.all_eq_true.mp hlow c (List.mem_of_mem_take hc))
    · refine ⟨(by decide : 0 ≤ sizeLine), fun pm hpm => ?_⟩
      have gm := same_new hpm (.lst [])
      have nwm : pw ≠ pm := ne_of_none hw0 hpm
      have hpw0 : H' pw = none := hpw
      refine ⟨_, rfl, 8, rfl, by decide, by decide, ?_⟩
      have j0 := Int.emod_nonneg (m / 8) (show (1 + m % 8 : Int) ≠ 0 by omega)
      have j1 := Int.emod_lt_of_pos (m / 8) (show (0 : Int) < 1 + m % 8 by omega)
      generalize hj : (m / 8 % (1 + m % 8)).toNat = j
      generalize hz : (1 + m % 8).toNat = z
      have hjz : j < z := by omega
      have hz8 : z ≤ 8 := by omega
      refine for_it 8 (fun i σ H2 => ∃ (ws : List Nat) (o6 : Option V), σ = [some (.int m), some (.int 8), some (.str (Str.ofString "abcdefghijklmnopqrstuvwxyz")), some (.int (1 + m % 8)), some (.ref pw), some (.ref pm), o6] ∧ Same H' H2 ∧ H2 pw = some (.lst (ws.map fun c => V.str (one c))) ∧
        H2 pm = some (.lst ((List.range i).map fun k => V.str (wrd ((cs.set j (gw m k)).take z)))) ∧ ws.length = 8 ∧ ∀ x, ws.set j x = cs.set j x) ?_ (fun i σ H2 hi h => ?_) (fun σ H2 h => ?_)
      · exact ⟨cs, none, rfl, g0.trans gm, gm _ _ hw0, upd_same, hcl, fun _ => rfl⟩
      · obtain ⟨ws, o6, rfl, g2, hw2, hm2, hwl, hws⟩ := h
        refine ⟨hi, fun v H3 yl => ?_⟩
        obtain ⟨rfl, rfl⟩ := yl
        have e0 := Int.emod_nonneg (m / 2048 + 7 * (0 + (i : Int))) (show (26 : Int) ≠ 0 by decide)
        have e1 := Int.emod_lt_of_pos (m / 2048 + 7 * (0 + (i : Int))) (show (0 : Int) < 26 by decide)
        have eg : gw m i = 97 + ((m / 2048 + 7 * (0 + (i : Int))) % 26).toNat := by unfold gw; rw [Int.zero_add]
        have hix : ixN (ws.map fun c => V.str (one c)).length (m / 8 % (1 + m % 8)) = some j := by
          unfold ixN
          rw [List.length_map, hwl, if_pos j0, if_pos (by omega), hj]
        refine ⟨_, rfl, _, rfl, _, _, rfl, rfl, ⟨by decide, by decide⟩, _, rfl, _, _, rfl, rfl, .inl ⟨by decide, by decide⟩, .inl ⟨_, _, rfl, rfl, _, _, rfl, rfl, (show (0 : Int) < 26 by decide), .inr (.inr ⟨_, _, _, rfl, rfl, by decide +kernel, let_at e0 e1, ?_⟩)⟩⟩
        refine ⟨_, rfl, _, rfl, _, _, rfl, rfl, ⟨by decide, by decide⟩, _, rfl, _, _, rfl, rfl, (show (0 : Int) < 1 + m % 8 by omega), pw, _, _, j, rfl, rfl, hw2, hix, ?_⟩
        rw [← eg]
        have es : (ws.map fun c => V.str (one c)).set j (.str (one (gw m i))) = (cs.set j (gw m i)).map fun c => V.str (one c) := by rw [← hws, List.map_set]
        refine ⟨_, rfl, .inl ⟨rfl, _, SqL.of (by rw [upd_ne (Ne.symm nwm)]; exact hm2)⟩, rfl, _, rfl, _, rfl, _, rfl, .inl ⟨pw, (cs.set j (gw m i)).map (fun c => V.str (one c)), rfl, SqL.of ?_, fun p hp => ?_⟩⟩
        · rw [upd_same]
          exact congrArg (fun l => some (HO.lst l)) es
        · have gw2 := same_write g2 hpw (.lst ((ws.map fun c => V.str (one c)).set j (.str ⟨#[gw m i]⟩)))
          have hw3 : upd H3 pw (.lst ((ws.map fun c => V.str (one c)).set j (.str ⟨#[gw m i]⟩))) pw = some (.lst ((cs.set j (gw m i)).map fun c => V.str (one c))) := by rw [upd_same]; exact congrArg (fun l => some (HO.lst l)) es
          have hm3 : upd H3 pw (.lst ((ws.map fun c => V.str (one c)).set j (.str ⟨#[gw m i]⟩))) pm = some (.lst ((List.range i).map fun k => V.str (wrd ((cs.set j (gw m k)).take z)))) := by rw [upd_ne (Ne.symm nwm)]; exact hm2
          change upd H3 pw (.lst ((ws.map fun c => V.str (one c)).set j (.str ⟨#[gw m i]⟩))) p = none at hp
          generalize upd H3 pw (.lst ((ws.map fun c => V.str (one c)).set j (.str ⟨#[gw m i]⟩))) = H4 at hp gw2 hw3 hm3 ⊢
          have gp := same_new hp (.lst (cutV ((cs.set j (gw m i)).map fun c => V.str (one c)) none (some (1 + m % 8))))
          refine ⟨_, p, ((cs.set j (gw m i)).take z).map one, rfl, rfl, SqL.of ?_, ?_, pm, _, _, rfl, rfl, gp _ _ hm3, ?_, ?_⟩
          · rw [upd_same, cut_take _ _ z (by omega), ← lone, List.map_take]
          · rw [ones_len]
            have := List.length_take_le z (cs.set j (gw m i))
            have e : (Str.ofString "").length = 0 := by decide +kernel
            rw [e, Nat.mul_zero]
            omega
          · rw [List.length_map, List.length_range]
            exact Nat.lt_trans hi (by decide)
          · refine ⟨cs.set j (gw m i), _, rfl, same_write (gw2.trans gp) (g0.free hpm) _, ?_, ?_, by rw [List.length_set]; exact hcl, fun x => by rw [List.set_set]⟩
            · rw [upd_ne nwm]
              exact gp _ _ hw3
            · rw [upd_same, join_one, List.range_succ, List.map_append]
              rfl
      · obtain ⟨ws, o6, rfl, g2, hw2, hm2, hwl, hws⟩ := h
        refine ⟨Nat.le_refl _, _, rfl, q ((List.range 8).map fun k => wrd ((cs.set j (gw m k)).take z)) pm _ ⟨by simp, fun x hx => ?_, alike cs j z (gw m) hjz (by omega) fun a b ha hb h => gw_inj m a b ha hb h⟩ g2 (by rw [hm2, List.map_map]; rfl)⟩
        obtain ⟨k, hk, rfl⟩ := List.mem_map.mp hx
        refine name_wrd (by rw [List.length_take, List.length_set]; omega) (by rw [List.length_take, List.length_set]; omega) (List.all_eq_true.mpr fun c hc => ?_)
        rcases List.mem_or_eq_of_mem_set (List.mem_of_mem_take hc) with hc | rfl
        · exact List.all_eq_true.mp hlow c hc
        · exact gw_low m k
end
end Mine

namespace Mine
open PySem L2
section
variable {P : Program} {w : World} {K : PySem.W.Frag} {mg : Str → Option Value} {base : Heap} {f : Addr} {fd : FuncData} {ad : Ad}
noncomputable def spNeed (K : PySem.W.Frag) (ad : Ad) : Sp := fun vs H Q E => ∃ x d, vs = [x] ∧ Rep K H x d ∧ Tre.fit d = true ∧ (Tre.isProgram d = true → ∀ H', Same H H' → Q .non H') ∧ (Tre.isProgram d = false → ∀ H', Same H H' → E (.ref ad.BadTree) none H')
theorem ok_need_program (F : Fun K "need_program" "need_program" s_need_program f fd) (c : Cs K mg ad) (d_is_program : Def P w K mg base 5 "is_program" ["thing"] (spD K Tre.isProgram)) : FnOk P w K mg base (CX1 P w) 6 f fd ["thing"] (spNeed K ad) := by
  refine F.ok1 sc_need_program (fun vs H Q E h => ?_) (fun cdv A outer s H vs Q E hr h => ?_)
  · obtain ⟨x, d, rfl, _⟩ := h
    rfl
  obtain ⟨x, d, rfl, hk, ft, q1, q2⟩ := h
  refine ⟨_, (pss_one (ps_if (pt_not (pt_val (pe_def d_is_program (hr.mono (by first | decide | omega)) (pa_cons (pv 0) pa_nil)))) (pss_one (ps_raise raises1 c.o_BadTree c.m_BadTree (pa_cons pe_str pa_nil))) pss_nil)), ?_⟩
  refine ⟨_, rfl, _, _, rfl, hk, ft, fun H1 g => ⟨_, rfl, ?_⟩⟩
  by_cases h : Tre.isProgram d = true
  · exact iteN (show (!Tre.isProgram d) = false by rw [h]; rfl) (q1 h H1 g)
  · have h' := Bool.eq_false_iff.mpr h
    exact iteP (show (!Tre.isProgram d) = true by rw [h']; rfl) ⟨(by decide : 1 ≤ sizeLine), q2 h' H1 g⟩
end
end Mine

namespace Mine
open PySem L2
structure DIn (K : PySem.W.Frag) (H : Hp) (st a nm : Addr) (ns : List Int) (names : List Str) (k l : Int) : Prop where
  dict : H st = some (.dK (stK a k l nm))
  cells : SqL K H a (ns.map V.int)
  nms : SqL K H nm (names.map V.str)
  good : Nms names
section
variable {P : Program} {w : World} {K : PySem.W.Frag} {mg : Str → Option Value} {base : Heap} {f : Addr} {fd : FuncData} {ad : Ad}
theorem DIn.same {H H' : Hp} {st a nm : Addr} {ns : List Int} {names : List Str} {k l : Int} (h : DIn K H st a nm ns names k l) (g : Same H H') : DIn K H' st a nm ns names k l := ⟨g _ _ h.dict, g.seq h.cells, g.seq h.nms, h.good⟩
theorem DIn.put {H : Hp} {st a nm : Addr} {ns : List Int} {names : List Str} {k l k' l' : Int} (h : DIn K H st a nm ns names k l) : DIn K (upd H st (.dK (stK a k' l' nm))) st a nm ns names k' l' := ⟨upd_same, (Stay.put h.dict).sqL h.cells, (Stay.put h.dict).sqL h.nms, h.good⟩
noncomputable def spStm (K : PySem.W.Frag) (n : Nat) : Sp := fun vs H Q _ => ∃ st a nm ns names k l deep may, vs = [.ref st, .int deep, .bl may] ∧ DIn K H st a nm ns names k l ∧ deep ≤ (n : Int) ∧ 0 ≤ k ∧ k + 4 * l ≤ 1000 - 10 * (n : Int) ∧ 2000 * (n : Int) - 30000 ≤ l ∧ n ≤ 10 ∧
  ∀ H' x d (s t : Nat) k' l', Stay st H H' → DIn K H' st a nm ns names k' l' → Rep K H' x d → Tre.fit d = true → Tre.Pt d "statement" may s t → (s : Int) = l - l' → t ≤ n + 2 → k' + 4 * l' ≤ k + 4 * l → k ≤ k' → (l ≤ 0 → l - 2 ≤ l') → (0 < l → -(16 * (n : Int) + 1) ≤ l') → Q x H'
noncomputable def spTrm (K : PySem.W.Frag) (n : Nat) : Sp := fun vs H Q _ => ∃ st a nm ns names k l deep, vs = [.ref st, .int deep] ∧ DIn K H st a nm ns names k l ∧ deep ≤ (n : Int) ∧ 0 ≤ k ∧ k + 4 * l ≤ 1000 - 10 * (n : Int) ∧ 2000 * (n : Int) - 30500 ≤ l ∧ n ≤ 10 ∧
  ∀ H' x d (s t : Nat) k' l', Stay st H H' → DIn K H' st a nm ns names k' l' → Rep K H' x d → Tre.fit d = true → (∀ hands, Tre.Pt d "term" hands s t) → (s : Int) = l - l' → t ≤ n + 2 → k' + 4 * l' ≤ k + 4 * l → k ≤ k' → (l ≤ 0 → l - 1 ≤ l') → (0 < l → -(16 * (n : Int) + 1) ≤ l') → (deep < 1 → t = 1) → Q x H'
noncomputable def spBdy (K : PySem.W.Frag) (n : Nat) : Sp := fun vs H Q _ => ∃ st a nm ns names k l deep may, vs = [.ref st, .int deep, .bl may] ∧ DIn K H st a nm ns names k l ∧ deep ≤ (n : Int) ∧ 0 ≤ k ∧ k + 4 * l ≤ 999 - 10 * (n : Int) ∧ 2000 * (n : Int) - 29000 ≤ l ∧ n ≤ 10 ∧
  ∀ H' x ds (s t : Nat) k' l', Stay st H H' → DIn K H' st a nm ns names k' l' → Rep K H' x (.tuple ds) → Tre.fitAll ds = true → Tre.Bd ds may s t → (s : Int) = l - l' → t ≤ n + 2 → k' + 4 * l' ≤ k + 4 * l + 1 → k ≤ k' → (l ≤ 0 → l - 6 ≤ l') → (0 < l → -(16 * (n : Int) + 5) ≤ l') → Q x H'
theorem fitAll_snoc : ∀ {xs : List PyData} {x : PyData}, Tre.fitAll xs = true → Tre.fit x = true → Tre.fitAll (xs ++ [x]) = true
  | [], x, _, h => by simp [Tre.fitAll, h]
  | y :: r, x, h, h' => by
    rw [Tre.fitAll, Bool.and_eq_true] at h
    rw [List.cons_append, Tre.fitAll, h.1, fitAll_snoc h.2 h']
    rfl
theorem ok_law_body (F : Fun K "_law_body" "_law_body" s_law_body f fd) (c : Cs K mg ad) (n : Nat) (d_law_next : Def P w K mg base 2 "_law_next" ["_law_state"] (spNext K)) (d_law_statement : Def P w K mg base (4 * n + 5) "_law_statement" ["_law_state", "_law_deep", "_law_may_hand"] (spStm K n)) : FnOk P w K mg base CX0 (4 * n + 6) f fd ["_law_state", "_law_deep", "_law_may_hand"] (spBdy K n) := by
  refine F.ok (k := 4 * n + 5) sc_law_body (fun vs H Q E h => ?_) (fun cdv A outer s H vs Q E hr h => ?_)
  · obtain ⟨st, a, nm, ns, names, k, l, deep, may, rfl, _⟩ := h
    rfl
  obtain ⟨st, a, nm, ns, names, k, l, deep, may, rfl, di, hdp, hk0, hkl, hl0, hn, q⟩ := h
  refine ⟨_, (pss_one (ps_ret (pe_callTy (tupof_k (K := K) rfl) (by rfl) c.tuple_ bt_tuple (pa_cons (pe_comp (sc := defScope s_law_body) (NX := ["_law_state", "_law_deep", "_law_may_hand"]) (N := ["_law_turn", "_law_state", "_law_deep", "_law_may_hand"]) (js := [none, some 0, some 1, some 2]) (pi_range1 rfl c.range_ (pa_cons (pe_op op_mod (pe_def d_law_next (hr.mono (by first | decide | omega)) (pa_cons (pv 0) pa_nil)) pe_int) pa_nil)) (fun _ _ _ _ _ => (pg_name (i := 0) (show (["_law_turn", "_law_state", "_law_deep", "_law_may_hand"] : List Str).Nodup by decide +kernel) rfl (Or.inl rfl))) (fun _ _ _ _ _ => pf_nil) (fun _ _ _ _ _ => (pe_def d_law_statement (hr.mono (by first | decide | omega)) (pa_cons (pv 1) (pa_cons (pv 2) (pa_cons (pv 3) pa_nil))))) (own_name rfl) ⟨by decide +kernel, rfl, by decide +kernel, by decide +kernel, rfl, by decide +kernel⟩) pa_nil)))), ?_⟩
  refine ⟨_, rfl, st, a, nm, ns, k, l, rfl, di.dict, di.cells, hk0, by omega, fun z H1 hz0 hz1 e1 => ?_⟩
  have z0 := Int.emod_nonneg z (show (4 : Int) ≠ 0 by decide)
  have z1 := Int.emod_lt_of_pos z (show (0 : Int) < 4 by decide)
  have di1 : DIn K H1 st a nm ns names (k + 1) l := e1 ▸ di.put
  have st1 : Stay st H H1 := e1 ▸ Stay.put di.dict
  refine ⟨_, _, rfl, rfl, (show (0 : Int) < 4 by decide), _, rfl, by omega, by omega, ?_⟩
  generalize hc : (z % 4).toNat = cnt
  have hc3 : cnt ≤ 3 := by omega
  refine comp_it cnt (fun i ys H' => ∃ (ds : List PyData) (k' l' : Int) (s t : Nat), Stay st H H' ∧ DIn K H' st a nm ns names k' l' ∧ Reps K H' ys ds ∧ ds.length = i ∧ Tre.fitAll ds = true ∧ Tre.Ptl (ds.map fun x => (x, ("statement" : Str))) may s t ∧ (s : Int) = l - l' ∧ t ≤ n + 2 ∧
    k' + 4 * l' ≤ k + 1 + 4 * l ∧ k + 1 ≤ k' ∧ (l ≤ 0 → l - 2 * i ≤ l') ∧ (0 < l → -(16 * (n : Int) + 1) - 2 * i ≤ l' - 2)) ?_ (fun i ys H' h => ?_) (Nat.le_trans hc3 (by decide)) (fun i ys H' hi h => ?_) (fun ys H' h => ?_)
  · exact ⟨[], k + 1, l, 0, 0, st1, di1, .nil, rfl, rfl, .nil, by omega, by omega, by omega, by omega, by omega, by omega⟩
  · obtain ⟨ds, k', l', s, t, _, _, rs, hl, _⟩ := h
    have := rs.length
    omega
  · obtain ⟨ds, k', l', s, t, sy, di2, rs, hl, hf, pt, hs, ht, hkk, hk1, b1, b2⟩ := h
    refine ⟨hi, fun v H3 yl => ?_⟩
    obtain ⟨rfl, rfl⟩ := yl
    refine ⟨_, rfl, _, rfl, _, rfl, st, a, nm, ns, names, k', l', deep, may, rfl, di2, hdp, by omega, by omega, by omega, hn, fun H4 x d s2 t2 k2 l2 sy4 di4 rx fx px hs2 ht2 hk2 hkk2 c1 c2 => ?_⟩
    refine ⟨ds ++ [d], k2, l2, s + s2, max t t2, sy.trans sy4, di4, (rs.stay sy4).append (.cons rx .nil), by rw [List.length_append, hl]; rfl, fitAll_snoc hf fx, ?_, by omega, by omega, by omega, by omega, by omega, by omega⟩
    rw [List.map_append]
    exact pt.append (Tre.one_pt px)
  · obtain ⟨ds, k', l', s, t, sy, di2, rs, hl, hf, pt, hs, ht, hkk, hk1, b1, b2⟩ := h
    refine ⟨Nat.le_refl _, fun D hD => ?_⟩
    refine ⟨D, ys, rfl, .inl ⟨SqL.of upd_same, fun p hp => ?_⟩⟩
    have g := (same_new hD (.lst ys)).trans (same_new hp (.tup ys))
    exact q _ _ ds s t k' l' (sy.then g) (di2.same g) (.tup (SqT.of upd_same) (rs.same g)) hf ⟨by omega, pt⟩ hs ht (by omega) (by omega) (by omega) (by omega)
end
end Mine

namespace Mine
open PySem L2
section
variable {P : Program} {w : World} {K : PySem.W.Frag} {mg : Str → Option Value} {base : Heap} {f : Addr} {fd : FuncData} {ad : Ad}
theorem name_fit {x : Str} (h : Tre.nameB x = true) : Tre.fit (.str x) = true := by
  unfold Tre.nameB at h
  rw [Bool.and_eq_true, Bool.and_eq_true] at h
  have := of_decide_eq_true h.1.2
  exact decide_eq_true (by omega)
theorem fit_two {h : Str} {d : PyData} (f : Tre.fit d = true) (hh : Tre.fit (.str h) = true := by decide +kernel) : Tre.fit (.tuple [.str h, d]) = true := by
  rw [Tre.fit, Tre.fitAll, Tre.fitAll, Tre.fitAll, hh, f]
  rfl
theorem fitC {d : PyData} {r : List PyData} (h : Tre.fit d = true) (hr : Tre.fitAll r = true) : Tre.fitAll (d :: r) = true := by
  rw [Tre.fitAll, h, hr]
  rfl
theorem fitTup {l : List PyData} (h : Tre.fitAll l = true) : Tre.fit (.tuple l) = true := by
  rw [Tre.fit]
  exact h
theorem cut_names {names : List Str} (g : Nms names) {lo hi : Int} (h0 : 0 ≤ lo) (h1 : lo ≤ hi ∧ hi ≤ lo + 3) : ∃ cut : List Str, cutV (names.map V.str) (some lo) (some hi) = cut.map V.str ∧ Tre.areNames (.tuple (cut.map PyData.str)) = true ∧ ∀ x ∈ cut, Tre.nameB x = true := by
  obtain ⟨i, rfl⟩ : ∃ i : Nat, lo = (i : Int) := ⟨lo.toNat, by omega⟩
  obtain ⟨j, rfl⟩ : ∃ j : Nat, hi = (j : Int) := ⟨hi.toNat, by omega⟩
  refine ⟨(names.drop (min i names.length)).take (min j names.length - min i names.length), ?_, ?_, fun x hx => g.good x (List.mem_of_mem_drop (List.mem_of_mem_take hx))⟩
  · unfold cutV
    rw [HT.sIx_nat, HT.sIx_nat, List.length_map, List.map_take, List.map_drop]
  · have hl : ((names.drop (min i names.length)).take (min j names.length - min i names.length)).length ≤ 4 := by
      have := List.length_take_le (min j names.length - min i names.length) (names.drop (min i names.length))
      omega
    have hsub : ∀ x ∈ (names.drop (min i names.length)).take (min j names.length - min i names.length), Tre.nameB x = true := fun x hx => g.good x (List.mem_of_mem_drop (List.mem_of_mem_take hx))
    have hnd : ((names.drop (min i names.length)).take (min j names.length - min i names.length)).Nodup := (List.Pairwise.drop g.nd).take
    generalize (names.drop (min i names.length)).take (min j names.length - min i names.length) = cut at hl hsub hnd
    simp only [Tre.areNames]
    rw [List.length_map, decide_eq_true hl, Bool.true_and, List.map_map, Bool.and_eq_true]
    refine ⟨?_, decide_eq_true ?_⟩
    · rw [List.all_map]
      exact List.all_eq_true.mpr fun x hx => hsub x hx
    · have e : (Tre.txt ∘ PyData.str) = id := rfl
      rw [e, List.map_id]
      exact hnd
theorem not_189 {kd : Int} (h : ¬ (kd = 1 ∨ kd = 8 ∨ kd = 9)) : inV (.int kd) [.int 1, .int 8, .int 9] = false := by
  rw [Bool.eq_false_iff]
  intro z
  simp [inV, eqV] at z
  omega
theorem sign_at {i : Int} (h0 : 0 ≤ i) (h1 : i < 5) : ∃ c, atI (Str.ofString "+-*<=").cps.toList i = some c ∧ (Tre.signs.any fun y => y == (⟨#[c]⟩ : Str)) = true := by
  have e : (Str.ofString "+-*<=").cps.toList = [43, 45, 42, 60, 61] := by decide +kernel
  rw [e]
  have h : i = 0 ∨ i = 1 ∨ i = 2 ∨ i = 3 ∨ i = 4 := by omega
  rcases h with rfl | rfl | rfl | rfl | rfl
  · exact ⟨43, rfl, by decide +kernel⟩
  · exact ⟨45, rfl, by decide +kernel⟩
  · exact ⟨42, rfl, by decide +kernel⟩
  · exact ⟨60, rfl, by decide +kernel⟩
  · exact ⟨61, rfl, by decide +kernel⟩
theorem ifEq {i : Nat} {m kd : Int} {A B : TS} {D : Ends} {σ : St} {H : Hp} (h : σ[i]? = some (some (.int kd))) (hA : kd = m → A D σ H) (hB : ¬ kd = m → B D σ H) : tIfS (tTest (tOp rEq (tVar i) (tC (V.int m)))) A B D σ H := by
  refine ⟨_, h, rfl, _, rfl, ?_⟩
  by_cases e : kd = m
  · exact iteP (show decide _ = true from decide_eq_true (congrArg V.int e)) (hA e)
  · exact iteN (show decide _ = false from decide_eq_false fun z => e (V.int.inj z)) (hB e)
theorem ifLt {i : Nat} {m kd : Int} {A B : TS} {D : Ends} {σ : St} {H : Hp} (h : σ[i]? = some (some (.int kd))) (hA : kd < m → A D σ H) (hB : ¬ kd < m → B D σ H) : tIfS (tTest (tOp (rI0 fun i j => V.bl (decide (i < j))) (tVar i) (tC (V.int m)))) A B D σ H := by
  refine ⟨_, h, _, _, rfl, rfl, _, rfl, ?_⟩
  by_cases e : kd < m
  · exact iteP (show decide _ = true from decide_eq_true e) (hA e)
  · exact iteN (show decide _ = false from decide_eq_false e) (hB e)
noncomputable def termTail (K : PySem.W.Frag) (T B : Sp) : TS := tSeq (tIfS (tTest (tOp rEq (tVar 3) (tC (V.int 0)))) (tRet (tTup (tCons (tC (V.str (Str.ofString "number"))) (tCons (tCall spNumber [] E0 (tCons (tVar 4) tNil)) tNil)))) tNext) (tSeq (tIfS (tTest (tOp (rIn K false) (tVar 3) (tTup (tCons (tC (V.int 1)) (tCons (tC (V.int 8)) (tCons (tC (V.int 9)) tNil)))))) (tRet (tTup (tCons (tC (V.str (Str.ofString "name"))) (tCons (tOp (rIx K) (tVar 5) (tOp (rI (fun x j => 0 < j) fun i j => V.int (i % j)) (tVar 4) (tCB (fun xs H Q => ∃ x n, xs = [x] ∧ LenV K x H n ∧ Q (V.int ↑n) H) (tCons (tVar 5) tNil)))) tNil)))) tNext) (tSeq (tIfS (tTest (tOp (rI0 fun i j => V.bl (decide (i < j))) (tVar 3) (tC (V.int 4)))) (tRet (tTup (tCons (tC (V.str (Str.ofString "two"))) (tCons (tOp (rIx K) (tC (V.str (Str.ofString "+-*<="))) (tOp (rI (fun x j => 0 < j) fun i j => V.int (i % j)) (tVar 4) (tC (V.int 5)))) (tCons (tCall T [] E0 (tCons (tVar 0) (tCons (tOp (rI0 fun i j => V.int (i - j)) (tVar 1) (tC (V.int 1))) tNil))) (tCons (tCall T [] E0 (tCons (tVar 0) (tCons (tOp (rI0 fun i j => V.int (i - j)) (tVar 1) (tC (V.int 1))) tNil))) tNil)))))) tNext) (tSeq (tIfS (tTest (tOp (rI0 fun i j => V.bl (decide (i < j))) (tVar 3) (tC (V.int 6)))) (tSeq (tAsg (tCB (fun xs H Q => ∃ p ys, xs = [V.ref p] ∧ ((SqL K H p ys ∧ ∀ (l : Addr), H l = none → Q (V.ref l) (upd H l (HO.tup ys))) ∨ SqT K H p ys ∧ Q (V.ref p) H)) (tCons (tSl (rSlA K) (tVar 5) (tPart (tOp (rI (fun x j => 0 < j) fun i j => V.int (i % j)) (tVar 4) (tC (V.int 5)))) (tPart (tOp rPlus (tOp (rI (fun x j => 0 < j) fun i j => V.int (i % j)) (tVar 4) (tC (V.int 5))) (tOp (rI (fun x j => 0 < j) fun i j => V.int (i % j)) (tOp (rI CDiv fun i j => V.int (i / j)) (tVar 4) (tC (V.int 5))) (tC (V.int 4)))))) tNil)) (gName 6)) (tRet (tTup (tCons (tOp (rIx K) (tLst (tCons (tC (V.str (Str.ofString "fun"))) (tCons (tC (V.str (Str.ofString "loop"))) tNil))) (tOp (rI0 fun i j => V.int (i - j)) (tVar 3) (tC (V.int 4)))) (tCons (tVar 6) (tCons (tCall B [] E0 (tCons (tVar 0) (tCons (tOp (rI0 fun i j => V.int (i - j)) (tVar 1) (tC (V.int 1))) (tCons (tOp rEq (tVar 3) (tC (V.int 5))) tNil)))) tNil)))))) tNext) (tSeq (tIfS (tTest (tOp rEq (tVar 3) (tC (V.int 6)))) (tSeq (tAsg (tCall T [] E0 (tCons (tVar 0) (tCons (tOp (rI0 fun i j => V.int (i - j)) (tVar 1) (tC (V.int 1))) tNil))) (gName 7)) (tRet (tTup (tCons (tC (V.str (Str.ofString "call"))) (tCons (tVar 7) (tCons (tCB (fun xs H Q => ∃ p ys, xs = [V.ref p] ∧ ((SqL K H p ys ∧ ∀ (l : Addr), H l = none → Q (V.ref l) (upd H l (HO.tup ys))) ∨ SqT K H p ys ∧ Q (V.ref p) H)) (tCons (tComp (iRng1 (tCons (tOp (rI (fun x j => 0 < j) fun i j => V.int (i % j)) (tVar 4) (tC (V.int 5))) tNil)) [none, some 0, some 1] (gName 0) tYes (tCall T [] E0 (tCons (tVar 1) (tCons (tOp (rI0 fun i j => V.int (i - j)) (tVar 2) (tC (V.int 1))) tNil)))) tNil)) tNil)))))) tNext) (tRet (tTup (tCons (tC (V.str (Str.ofString "step"))) (tCons (tCall T [] E0 (tCons (tVar 0) (tCons (tOp (rI0 fun i j => V.int (i - j)) (tVar 1) (tC (V.int 1))) tNil))) (tCons (tCall T [] E0 (tCons (tVar 0) (tCons (tOp (rI0 fun i j => V.int (i - j)) (tVar 1) (tC (V.int 1))) tNil))) tNil)))))))))
theorem tail_term {H H2 : Hp} {Q : VK} {n : Nat} {T B : Sp} {st a nm : Addr} {ns : List Int} {names : List Str} {k l deep z kd mo : Int} (hT : 0 < n → T = spTrm K (n - 1)) (hB : 0 < n → B = spBdy K (n - 1)) (hdp : deep ≤ (n : Int)) (hk0 : 0 ≤ k) (hkl : k + 4 * l ≤ 1000 - 10 * (n : Int)) (hl0 : 2000 * (n : Int) - 30500 ≤ l) (hn : n ≤ 10)
    (q : ∀ H' x d (s t : Nat) k' l', Stay st H H' → DIn K H' st a nm ns names k' l' → Rep K H' x d → Tre.fit d = true → (∀ hands, Tre.Pt d "term" hands s t) → (s : Int) = l - l' → t ≤ n + 2 → k' + 4 * l' ≤ k + 4 * l → k ≤ k' → (l ≤ 0 → l - 1 ≤ l') → (0 < l → -(16 * (n : Int) + 1) ≤ l') → (deep < 1 → t = 1) → Q x H')
    (di2 : DIn K H2 st a nm ns names (k + 1) (l - 1)) (sy2 : Stay st H H2) (m0 : 0 ≤ mo) (m1 : mo < 268435456) (hkd : 0 ≤ kd ∧ kd < 10 ∧ (deep < 1 ∨ l - 1 < 0 → kd < 2)) :
    termTail K T B { nx := fun _ H' => Q .non H', rt := Q } [some (.ref st), some (.int deep), some (.int z), some (.int kd), some (.int mo), some (.ref nm), none, none] H2 := by
  have fin1 : ∀ (H' : Hp) (x : V) (d : PyData), Same H2 H' → Rep K H' x d → Tre.fit d = true → (∀ hands, Tre.Pt d "term" hands 1 1) → Q x H' := fun H' x d g r ff pp =>
    q H' x d 1 1 (k + 1) (l - 1) (sy2.then g) (di2.same g) r ff pp (by omega) (by omega) (by omega) (by omega) (by omega) (by omega) (by omega)
  obtain ⟨kd0, kd1, kd2⟩ := hkd
  refine ifEq rfl (fun e0 => ?_) (fun e0 => ?_)
  · skip
    refine ⟨_, rfl, _, rfl, m0, m1, fun i H3 hi g => ⟨(by decide : 2 ≤ sizeLine), fun p hp => ?_⟩⟩
    exact fin1 _ _ (.tuple [.str "number", .int i]) (g.trans (same_new hp _)) (.tup (SqT.of upd_same) (.cons (.str _) (.cons (.int _) .nil))) rfl fun hands => Tre.pt_number hi
  refine ⟨_, rfl, (by decide : 3 ≤ sizeLine), fun p1 hp1 => ⟨p1, _, rfl, .inr (SqT.of upd_same), rfl, rfl, _, rfl, ?_⟩⟩
  have gp1 := same_new hp1 (.tup [.int 1, .int 8, .int 9])
  have di3 := di2.same gp1
  have sy3 := sy2.then gp1
  have fin3 : ∀ (H' : Hp) (x : V) (d : PyData), Same (upd H2 p1 (.tup [.int 1, .int 8, .int 9])) H' → Rep K H' x d → Tre.fit d = true → (∀ hands, Tre.Pt d "term" hands 1 1) → Q x H' := fun H' x d g => fin1 H' x d (gp1.trans g)
  generalize upd H2 p1 (.tup [.int 1, .int 8, .int 9]) = H3 at di3 sy3 fin3 ⊢
  have hnl : names.length = 8 := di2.good.len
  by_cases e1 : kd = 1 ∨ kd = 8 ∨ kd = 9
  · refine iteP (show inV _ _ = true by rcases e1 with rfl | rfl | rfl <;> decide +kernel) ?_
    obtain ⟨v, hv, x, rfl, hx⟩ := atI_all (xs := names.map V.str) (i := mo % (((names.map V.str).length : Nat) : Int)) (p := fun v => ∃ x, v = .str x ∧ Tre.nameB x = true) (fun y hy => by
      obtain ⟨x, hx, rfl⟩ := List.mem_map.mp hy
      exact ⟨x, rfl, di2.good.good x hx⟩) (Int.emod_nonneg _ (by rw [List.length_map, hnl]; decide)) (Int.emod_lt_of_pos _ (by rw [List.length_map, hnl]; decide))
    refine ⟨_, rfl, _, rfl, _, rfl, _, _, rfl, .inl ⟨_, di3.nms, rfl⟩, _, _, rfl, rfl, (show (0 : Int) < (((names.map V.str).length : Nat) : Int) by rw [List.length_map, hnl]; decide), .inl ⟨_, _, _, _, rfl, rfl, di3.nms, hv, (by decide : 2 ≤ sizeLine), fun p hp => ?_⟩⟩
    exact fin3 _ _ (.tuple [.str "name", .str x]) (same_new hp _) (.tup (SqT.of upd_same) (.cons (.str _) (.cons (.str _) .nil))) (fit_two (name_fit hx)) fun hands => Tre.pt_name hx
  refine iteN (show inV _ _ = false from not_189 e1) ?_
  have hn1 : 0 < n := by omega
  have hl1 : 0 ≤ l - 1 := by omega
  have hd1 : 1 ≤ deep := by omega
  clear kd0 kd1 kd2 e0 e1 m0 m1
  obtain ⟨n', rfl⟩ : ∃ n', n = n' + 1 := ⟨n - 1, by omega⟩
  have eT : T = spTrm K n' := hT hn1
  have eB : B = spBdy K n' := hB hn1
  clear hT hB hn1
  have pd : deep - 1 ≤ (n' : Int) := by omega
  have pk : 0 ≤ k + 1 := by omega
  have pt1 : k + 1 + 4 * (l - 1) ≤ 1000 - 10 * (n' : Int) := by omega
  have pt2 : 2000 * (n' : Int) - 30500 ≤ l - 1 := by omega
  have pn : n' ≤ 10 := by omega
  clear hdp hl0
  subst eT
  subst eB
  refine ifLt rfl (fun e4 => ?_) (fun e4 => ?_)
  · skip
    obtain ⟨ch, hch, hsg⟩ := sign_at (i := mo % 5) (Int.emod_nonneg _ (by decide)) (Int.emod_lt_of_pos _ (by decide))
    refine ⟨_, rfl, _, _, rfl, rfl, (show (0 : Int) < 5 by decide), .inr (.inr ⟨_, _, _, rfl, rfl, by decide +kernel, hch, ?_⟩)⟩
    refine ⟨_, rfl, _, rfl, _, _, rfl, rfl, st, a, nm, ns, names, k + 1, l - 1, deep - 1, rfl, di3, pd, pk, pt1, pt2, pn, fun H4 x1 d1 s1 t1 k1 l1 sy4 di4 r1 f1 p1 hs1 ht1 hk1 hkk1 b1 b1' _ => ?_⟩
    have c1 : -(16 * (n' : Int) + 1) ≤ l1 := by omega
    clear b1 b1'
    refine ⟨_, rfl, _, rfl, _, _, rfl, rfl, st, a, nm, ns, names, k1, l1, deep - 1, rfl, di4, pd, by omega, by omega, by omega, pn, fun H5 x2 d2 s2 t2 k2 l2 sy5 di5 r2 f2 p2 hs2 ht2 hk2 hkk2 b2 b2' _ => ⟨(by decide : 4 ≤ sizeLine), fun p hp => ?_⟩⟩
    have c2 : -(16 * (n' : Int) + 2) ≤ l2 := by omega
    clear b2 b2'
    have g := same_new hp (.tup [.str "two", .str ⟨#[ch]⟩, x1, x2])
    refine q _ _ (.tuple [.str "two", .str ⟨#[ch]⟩, d1, d2]) (s1 + s2 + 1) (max t1 t2 + 1) k2 l2 (((sy3.trans sy4).trans sy5).then g) (di5.same g) (.tup (SqT.of upd_same) (.cons (.str _) (.cons (.str _) (.cons ((r1.stay sy5).same g) (.cons (r2.same g) .nil))))) ?_ (fun hands => Tre.pt_two hsg (p1 hands) (p2 hands)) (by omega) (by omega) (by omega) (by omega) (by omega) (by omega) (by omega)
    exact fitTup (fitC (by decide +kernel) (fitC (decide_eq_true (show 1 ≤ 1000000 by decide)) (fitC f1 (fitC f2 rfl))))
  refine ifLt rfl (fun e6 => ?_) (fun e6 => ?_)
  · skip
    refine ⟨_, rfl, _, rfl, _, _, rfl, rfl, (show (0 : Int) < 5 by decide), _, rfl, _, rfl, _, _, rfl, rfl, (show (0 : Int) < 5 by decide), _, rfl, _, _, rfl, rfl, ⟨by decide, by decide⟩, _, _, rfl, rfl, (show (0 : Int) < 4 by decide), .inl ⟨_, _, rfl, rfl, _, rfl, .inl ⟨nm, _, rfl, di3.nms, fun p2 hp2 => ⟨p2, _, rfl, .inl ⟨SqL.of upd_same, fun p3 hp3 => ?_⟩⟩⟩⟩⟩
    obtain ⟨cut, ecut, hcut, hgood⟩ := cut_names di2.good (lo := mo % 5) (hi := mo % 5 + mo / 5 % 4) (by omega) (by omega)
    dsimp only at hp3 ⊢
    rw [ecut] at hp3 ⊢
    have g2 := same_new hp2 (.lst (cut.map V.str))
    have g3 := same_new hp3 (.tup (cut.map V.str))
    have h3 : upd (upd H3 p2 (.lst (cut.map V.str))) p3 (.tup (cut.map V.str)) p3 = some (.tup (cut.map V.str)) := upd_same
    have di4 := (di3.same g2).same g3
    have sy4 := (sy3.then g2).then g3
    generalize upd (upd H3 p2 (.lst (cut.map V.str))) p3 (.tup (cut.map V.str)) = H4 at h3 di4 sy4 ⊢
    refine ⟨(by decide : 2 ≤ sizeLine), fun p4 hp4 => ?_⟩
    have g4 := same_new hp4 (.lst [.str "fun", .str "loop"])
    have di5 := di4.same g4
    have sy5 := sy4.then g4
    have fcut : Tre.fitAll (cut.map PyData.str) = true := Tre.fitAll_of fun d hd => by
      obtain ⟨x, hx, rfl⟩ := List.mem_map.mp hd
      exact name_fit (hgood x hx)
    obtain ⟨hh, bb, hat, hbb, hwd⟩ : ∃ (hh : Str) (bb : Bool), atI [V.str "fun", V.str "loop"] (kd - 4) = some (.str hh) ∧ decide (V.int kd = V.int 5) = bb ∧ ((hh = "fun" ∧ bb = false) ∨ (hh = "loop" ∧ bb = true)) := by
      have h45 : kd = 4 ∨ kd = 5 := by omega
      rcases h45 with rfl | rfl
      · exact ⟨"fun", false, atI_nat (j := 0) rfl, by decide, .inl ⟨rfl, rfl⟩⟩
      · exact ⟨"loop", true, atI_nat (j := 1) rfl, by decide, .inr ⟨rfl, rfl⟩⟩
    refine ⟨_, rfl, _, _, rfl, rfl, .inl ⟨p4, _, _, _, rfl, rfl, SqL.of upd_same, hat, _, rfl, _, rfl, _, rfl, _, _, rfl, rfl, _, rfl, rfl, ?_⟩⟩
    dsimp only
    rw [hbb]
    refine ⟨st, a, nm, ns, names, k + 1, l - 1, deep - 1, bb, rfl, di5, pd, pk, by omega, by omega, pn, fun H6 x6 ds s6 t6 k6 l6 sy6 di6 r6 f6 bd6 hs6 ht6 hk6 hkk6 b6 b6' => ⟨(by decide : 3 ≤ sizeLine), fun p hp => ?_⟩⟩
    have c6 : -(16 * (n' : Int) + 6) ≤ l6 := by omega
    clear b6 b6'
    have g := same_new hp (.tup [.str hh, .ref p3, x6])
    refine q _ _ (.tuple [.str hh, .tuple (cut.map PyData.str), .tuple ds]) (s6 + 1) (t6 + 1) k6 l6 ((sy5.trans sy6).then g) (di6.same g) (.tup (SqT.of upd_same) (.cons (.str _) (.cons (.tup (g.sqT (sy6.sqT (SqT.of (g4 _ _ h3)))) (Reps.strs cut)) (.cons (r6.same g) .nil)))) ?_ (fun hands => ?_) (by omega) (by omega) (by omega) (by omega) (by omega) (by omega) (by omega)
    · exact fitTup (fitC (by rcases hwd with ⟨rfl, _⟩ | ⟨rfl, _⟩ <;> decide +kernel) (fitC (fitTup fcut) (fitC (fitTup f6) rfl)))
    · rcases hwd with ⟨rfl, rfl⟩ | ⟨rfl, rfl⟩
      · exact Tre.pt_fun hcut bd6
      · exact Tre.pt_loop hcut bd6
  refine ifEq rfl (fun e7 => ?_) (fun e7 => ?_)
  · skip
    refine ⟨_, rfl, _, rfl, _, _, rfl, rfl, st, a, nm, ns, names, k + 1, l - 1, deep - 1, rfl, di3, pd, pk, pt1, pt2, pn, fun H4 x1 d1 s1 t1 k1 l1 sy4 di4 r1 f1 p1 hs1 ht1 hk1 hkk1 b1 b1' _ => ?_⟩
    have c1 : -(16 * (n' : Int) + 1) ≤ l1 := by omega
    clear b1 b1'
    have mo0 := Int.emod_nonneg mo (show (5 : Int) ≠ 0 by decide)
    have mo1 := Int.emod_lt_of_pos mo (show (0 : Int) < 5 by decide)
    refine ⟨_, rfl, _, rfl, _, _, rfl, rfl, (show (0 : Int) < 5 by decide), _, rfl, by omega, by omega, ?_⟩
    generalize hcn : (mo % 5).toNat = cnt
    have hc4 : cnt ≤ 4 := by omega
    refine comp_it cnt (fun i ys H' => ∃ (ds : List PyData) (k' l' : Int) (s t : Nat), Stay st H H' ∧ DIn K H' st a nm ns names k' l' ∧ Reps K H' ys ds ∧ Rep K H' x1 d1 ∧ ds.length = i ∧ Tre.fitAll ds = true ∧ (∀ hands, Tre.Ptl (ds.map fun x => (x, ("term" : Str))) hands s t) ∧ (s1 : Int) + s + 1 = l - l' ∧ t ≤ n' + 2 ∧
      k' + 4 * l' ≤ k + 4 * l - 3 ∧ k ≤ k' ∧ -(16 * (n' : Int) + 1) - i ≤ l') ?_ (fun i ys H' h => ?_) (Nat.le_trans hc4 (by decide)) (fun i ys H' hi h => ?_) (fun ys H' h => ?_)
    · exact ⟨[], k1, l1, 0, 0, sy3.trans sy4, di4, .nil, r1, rfl, rfl, fun _ => .nil, by omega, by omega, by omega, by omega, by omega⟩
    · obtain ⟨ds, k', l', s, t, _, _, rs, _, hl, _⟩ := h
      have := rs.length
      omega
    · obtain ⟨ds, k', l', s, t, sy, di5, rs, r1', hl, hf, pt, hs, ht, hkk, hk1', bb⟩ := h
      refine ⟨hi, fun v H5 yl => ?_⟩
      obtain ⟨rfl, rfl⟩ := yl
      refine ⟨_, rfl, _, rfl, _, _, rfl, rfl, st, a, nm, ns, names, k', l', deep - 1, rfl, di5, pd, by omega, by omega, by omega, pn, fun H6 x d s2 t2 k2 l2 sy6 di6 rx fx px hs2 ht2 hk2 hkk2 c1 c2 _ => ?_⟩
      have cc : -(16 * (n' : Int) + 1) - ((i : Int) + 1) ≤ l2 := by omega
      clear c1 c2 bb
      refine ⟨ds ++ [d], k2, l2, s + s2, max t t2, sy.trans sy6, di6, (rs.stay sy6).append (.cons rx .nil), r1'.stay sy6, by rw [List.length_append, hl]; rfl, fitAll_snoc hf fx, fun hands => ?_, by omega, by omega, by omega, by omega, by omega⟩
      rw [List.map_append]
      exact (pt hands).append (Tre.one_pt (px hands))
    · obtain ⟨ds, k', l', s, t, sy, di5, rs, r1', hl, hf, pt, hs, ht, hkk, hk1', bb⟩ := h
      refine ⟨Nat.le_refl _, fun D hD => ?_⟩
      refine ⟨D, ys, rfl, .inl ⟨SqL.of upd_same, fun p2 hp2 => ⟨(by decide : 3 ≤ sizeLine), fun p3 hp3 => ?_⟩⟩⟩
      have ga := (same_new hD (.lst ys)).trans (same_new hp2 (.tup ys))
      have gb := same_new hp3 (.tup [.str "call", x1, .ref p2])
      have g := ga.trans gb
      refine q _ _ (.tuple [.str "call", d1, .tuple ds]) (s1 + s + 1) (max t1 t + 1) k' l' (sy.then g) (di5.same g) (.tup (SqT.of upd_same) (.cons (.str _) (.cons (r1'.same g) (.cons (.tup (gb.sqT (SqT.of upd_same)) (rs.same g)) .nil)))) ?_ (fun hands => Tre.pt_call (p1 hands) (by omega) (pt hands)) (by omega) (by omega) (by omega) (by omega) (by omega) (by omega) (by omega)
      exact fitTup (fitC (by decide +kernel) (fitC f1 (fitC (fitTup hf) rfl)))
  refine ⟨_, rfl, _, rfl, _, _, rfl, rfl, st, a, nm, ns, names, k + 1, l - 1, deep - 1, rfl, di3, pd, pk, pt1, pt2, pn, fun H4 x1 d1 s1 t1 k1 l1 sy4 di4 r1 f1 p1 hs1 ht1 hk1 hkk1 b1 b1' _ => ?_⟩
  have c1 : -(16 * (n' : Int) + 1) ≤ l1 := by omega
  clear b1 b1'
  refine ⟨_, rfl, _, rfl, _, _, rfl, rfl, st, a, nm, ns, names, k1, l1, deep - 1, rfl, di4, pd, by omega, by omega, by omega, pn, fun H5 x2 d2 s2 t2 k2 l2 sy5 di5 r2 f2 p2 hs2 ht2 hk2 hkk2 b2 b2' _ => ⟨(by decide : 3 ≤ sizeLine), fun p hp => ?_⟩⟩
  have c2 : -(16 * (n' : Int) + 2) ≤ l2 := by omega
  clear b2 b2'
  have g := same_new hp (.tup [.str "step", x1, x2])
  refine q _ _ (.tuple [.str "step", d1, d2]) (s1 + s2 + 1) (max t1 t2 + 1) k2 l2 (((sy3.trans sy4).trans sy5).then g) (di5.same g) (.tup (SqT.of upd_same) (.cons (.str _) (.cons ((r1.stay sy5).same g) (.cons (r2.same g) .nil)))) ?_ (fun hands => Tre.pt_step (p1 hands) (p2 hands)) (by omega) (by omega) (by omega) (by omega) (by omega) (by omega) (by omega)
  exact fitTup (fitC (by decide +kernel) (fitC f1 (fitC f2 rfl)))
theorem ok_law_term (F : Fun K "_law_term" "_law_term" s_law_term f fd) (c : Cs K mg ad) (n : Nat) (T B : Sp) (hT : 0 < n → T = spTrm K (n - 1)) (hB : 0 < n → B = spBdy K (n - 1)) (d_law_next : Def P w K mg base 2 "_law_next" ["_law_state"] (spNext K)) (d_law_number : Def P w K mg base 1 "_law_number" ["_law_more"] spNumber)
    (d_law_term : Def P w K mg base (4 * n + 3) "_law_term" ["_law_state", "_law_deep"] T) (d_law_body : Def P w K mg base (4 * n + 3) "_law_body" ["_law_state", "_law_deep", "_law_may_hand"] B) : FnOk P w K mg base CX0 (4 * n + 4) f fd ["_law_state", "_law_deep"] (spTrm K n) := by
  refine F.ok (k := 4 * n + 3) sc_law_term (fun vs H Q E h => ?_) (fun cdv A outer s H vs Q E hr h => ?_)
  · obtain ⟨st, a, nm, ns, names, k, l, deep, rfl, _⟩ := h
    rfl
  obtain ⟨st, a, nm, ns, names, k, l, deep, rfl, di, hdp, hk0, hkl, hl0, hn, q⟩ := h
  have hu := hu_of hr
  refine ⟨_, (pss_cons (ps_set (i := 2) sc_law_term.nd rfl (by first | exact Or.inl rfl | exact Or.inr rfl) (pe_def d_law_next (hr.mono (by first | decide | omega)) (pa_cons (pv 0) pa_nil)))
      (pss_cons (ps_dput hu (pv 0) pe_str (pe_op op_sub (pe_dget hu (pv 0) pe_str (fun _ _ => rfl)) pe_int) rfl)
      (pss_cons (ps_set (i := 3) sc_law_term.nd rfl (by first | exact Or.inl rfl | exact Or.inr rfl) (pe_op op_mod (pv 2) pe_int))
      (pss_cons (ps_set (i := 4) sc_law_term.nd rfl (by first | exact Or.inl rfl | exact Or.inr rfl) (pe_op op_fdiv (pv 2) pe_int))
      (pss_cons (ps_set (i := 5) sc_law_term.nd rfl (by first | exact Or.inl rfl | exact Or.inr rfl) (pe_dget hu (pv 0) pe_str (fun _ _ => rfl)))
      (pss_cons (ps_if (PW.pt (pw_or (pt_cmpR op_lt (pv 1) pe_int (nomark _)) (pw_or1 (pt_cmpR op_lt (pe_dget hu (pv 0) pe_str (fun _ _ => rfl)) pe_int (nomark _))))) (pss_one (ps_set (i := 3) sc_law_term.nd rfl (by first | exact Or.inl rfl | exact Or.inr rfl) (pe_op op_mod (pv 3) pe_int))) pss_nil)
      (pss_cons (ps_if (pt_cmpR op_eq (pv 3) pe_int (nomark _)) (pss_one (ps_ret (pe_tup (pa_cons pe_str (pa_cons (pe_def d_law_number (hr.mono (by first | decide | omega)) (pa_cons (pv 4) pa_nil)) pa_nil))))) pss_nil)
      (pss_cons (ps_if (pt_cmpR (in_k (K := K) rfl) (pv 3) (pe_tup (pa_cons pe_int (pa_cons pe_int (pa_cons pe_int pa_nil)))) rfl) (pss_one (ps_ret (pe_tup (pa_cons pe_str (pa_cons (pe_ix (ix_k (K := K) rfl) (pv 5) (pe_op op_mod (pv 4) (pe_callB (len_k (K := K) rfl) (by rfl) c.len_ bt_len (pa_cons (pv 5) pa_nil))) (fun _ _ => rfl)) pa_nil))))) pss_nil)
      (pss_cons (ps_if (pt_cmpR op_lt (pv 3) pe_int (nomark _)) (pss_one (ps_ret (pe_tup (pa_cons pe_str (pa_cons (pe_ix (ix_k (K := K) rfl) pe_str (pe_op op_mod (pv 4) pe_int) (fun _ _ => rfl)) (pa_cons (pe_def d_law_term (hr.mono (by first | decide | omega)) (pa_cons (pv 0) (pa_cons (pe_op op_sub (pv 1) pe_int) pa_nil))) (pa_cons (pe_def d_law_term (hr.mono (by first | decide | omega)) (pa_cons (pv 0) (pa_cons (pe_op op_sub (pv 1) pe_int) pa_nil))) pa_nil))))))) pss_nil)
      (pss_cons (ps_if (pt_cmpR op_lt (pv 3) pe_int (nomark _)) (pss_cons (ps_set (i := 6) sc_law_term.nd rfl (by first | exact Or.inl rfl | exact Or.inr rfl) (pe_callTy (tupof_k (K := K) rfl) (by rfl) c.tuple_ bt_tuple (pa_cons (pe_slice (sl_k (K := K) rfl) (pv 5) (po_some (pe_op op_mod (pv 4) pe_int)) (po_some (pe_op op_plus (pe_op op_mod (pv 4) pe_int) (pe_op op_mod (pe_op op_fdiv (pv 4) pe_int) pe_int)))) pa_nil)))
      (pss_one (ps_ret (pe_tup (pa_cons (pe_ix (ix_k (K := K) rfl) (pe_lst (pa_cons pe_str (pa_cons pe_str pa_nil))) (pe_op op_sub (pv 3) pe_int) (fun _ _ => rfl)) (pa_cons (pv 6) (pa_cons (pe_def d_law_body (hr.mono (by first | decide | omega)) (pa_cons (pv 0) (pa_cons (pe_op op_sub (pv 1) pe_int) (pa_cons (pe_cmpR op_eq (pv 3) pe_int (nomark _)) pa_nil)))) pa_nil))))))) pss_nil)
      (pss_cons (ps_if (pt_cmpR op_eq (pv 3) pe_int (nomark _)) (pss_cons (ps_set (i := 7) sc_law_term.nd rfl (by first | exact Or.inl rfl | exact Or.inr rfl) (pe_def d_law_term (hr.mono (by first | decide | omega)) (pa_cons (pv 0) (pa_cons (pe_op op_sub (pv 1) pe_int) pa_nil))))
      (pss_one (ps_ret (pe_tup (pa_cons pe_str (pa_cons (pv 7) (pa_cons (pe_callTy (tupof_k (K := K) rfl) (by rfl) c.tuple_ bt_tuple (pa_cons (pe_comp (sc := defScope s_law_term) (NX := ["_law_state", "_law_deep", "_law_number_here", "_law_kind", "_law_more", "_law_names_here", "_law_params", "_law_maker"]) (N := ["_law_turn", "_law_state", "_law_deep"]) (js := [none, some 0, some 1]) (pi_range1 rfl c.range_ (pa_cons (pe_op op_mod (pv 4) pe_int) pa_nil)) (fun _ _ _ _ _ => (pg_name (i := 0) (show (["_law_turn", "_law_state", "_law_deep"] : List Str).Nodup by decide +kernel) rfl (Or.inl rfl))) (fun _ _ _ _ _ => pf_nil) (fun _ _ _ _ _ => (pe_def d_law_term (hr.mono (by first | decide | omega)) (pa_cons (pv 1) (pa_cons (pe_op op_sub (pv 2) pe_int) pa_nil)))) (own_name rfl) ⟨by decide +kernel, rfl, by decide +kernel, by decide +kernel, rfl, by decide +kernel⟩) pa_nil)) pa_nil))))))) pss_nil)
      (pss_one (ps_ret (pe_tup (pa_cons pe_str (pa_cons (pe_def d_law_term (hr.mono (by first | decide | omega)) (pa_cons (pv 0) (pa_cons (pe_op op_sub (pv 1) pe_int) pa_nil))) (pa_cons (pe_def d_law_term (hr.mono (by first | decide | omega)) (pa_cons (pv 0) (pa_cons (pe_op op_sub (pv 1) pe_int) pa_nil))) pa_nil))))))))))))))))), ?_⟩
  clear hu
  refine ⟨_, rfl, st, a, nm, ns, k, l, rfl, di.dict, di.cells, hk0, by omega, fun z H1 hz0 hz1 e1 => ?_⟩
  have di1 : DIn K H1 st a nm ns names (k + 1) l := e1 ▸ di.put
  have sy1 : Stay st H H1 := e1 ▸ Stay.put di.dict
  clear e1
  refine ⟨_, rfl, _, _, rfl, (by rw [← st_left a (k + 1) l nm]; exact DGet.k (k := Sum.inr "left") di1.dict), _, _, rfl, rfl, ?_⟩
  refine ⟨_, rfl, st, upd H1 st (.dK (stK a (k + 1) (l - 1) nm)), rfl, (by rw [← st_putLeft a (k + 1) l nm (l - 1)]; exact DPut.k (k := Sum.inr "left") di1.dict (Nat.lt_of_le_of_lt (show 4 ≤ 1000 by decide) (by decide))), ?_⟩
  have di2 : DIn K (upd H1 st (.dK (stK a (k + 1) (l - 1) nm))) st a nm ns names (k + 1) (l - 1) := di1.put
  have sy2 : Stay st H (upd H1 st (.dK (stK a (k + 1) (l - 1) nm))) := sy1.trans (Stay.put di1.dict)
  generalize upd H1 st (.dK (stK a (k + 1) (l - 1) nm)) = H2 at di2 sy2 ⊢
  have gL : DGet H2 st (.str "left") (some (.int (l - 1))) := by rw [← st_left a (k + 1) (l - 1) nm]; exact DGet.k (k := Sum.inr "left") di2.dict
  have gN : DGet H2 st (.str "names") (some (.ref nm)) := by rw [← st_names a (k + 1) (l - 1) nm]; exact DGet.k (k := Sum.inr "names") di2.dict
  refine ⟨_, rfl, _, _, rfl, rfl, (show (0 : Int) < 10 by decide), _, rfl, _, _, rfl, rfl, ⟨by decide, by decide⟩, _, rfl, st, _, rfl, gN, ?_⟩
  have m0 : 0 ≤ z / 10 := by omega
  have m1 : z / 10 < 268435456 := by omega
  refine ⟨_, rfl, _, _, rfl, rfl, _, rfl, ?_⟩
  have kz0 := Int.emod_nonneg z (show (10 : Int) ≠ 0 by decide)
  have kz1 := Int.emod_lt_of_pos z (show (0 : Int) < 10 by decide)
  have km0 := Int.emod_nonneg (z % 10) (show (2 : Int) ≠ 0 by decide)
  have km1 := Int.emod_lt_of_pos (z % 10) (show (0 : Int) < 2 by decide)
  refine ite2 (fun c1 => iteT ⟨_, rfl, _, _, rfl, rfl, (show (0 : Int) < 2 by decide), ?g1⟩) (fun c1 => ⟨_, rfl, st, _, rfl, gL, _, _, rfl, rfl, _, rfl, ite2 (fun c2 => ⟨_, rfl, _, _, rfl, rfl, (show (0 : Int) < 2 by decide), ?g2⟩) (fun c2 => ?g3)⟩)
  case g1 =>
    have hkd : 0 ≤ z % 10 % 2 ∧ z % 10 % 2 < 10 ∧ (deep < 1 ∨ l - 1 < 0 → z % 10 % 2 < 2) := ⟨km0, by omega, fun _ => km1⟩
    exact tail_term hT hB hdp hk0 hkl hl0 hn q di2 sy2 m0 m1 hkd
  case g2 =>
    have hkd : 0 ≤ z % 10 % 2 ∧ z % 10 % 2 < 10 ∧ (deep < 1 ∨ l - 1 < 0 → z % 10 % 2 < 2) := ⟨km0, by omega, fun _ => km1⟩
    exact tail_term hT hB hdp hk0 hkl hl0 hn q di2 sy2 m0 m1 hkd
  case g3 =>
    have c1' : ¬ deep < 1 := by simpa using c1
    have c2' : ¬ l - 1 < 0 := by simpa using c2
    have hkd : 0 ≤ z % 10 ∧ z % 10 < 10 ∧ (deep < 1 ∨ l - 1 < 0 → z % 10 < 2) := ⟨kz0, kz1, fun h => by omega⟩
    exact tail_term hT hB hdp hk0 hkl hl0 hn q di2 sy2 m0 m1 hkd
end
end Mine

namespace Mine
open PySem L2
section
variable {P : Program} {w : World} {K : PySem.W.Frag} {mg : Str → Option Value} {base : Heap} {f : Addr} {fd : FuncData} {ad : Ad}
theorem iteK {c : Bool} {A B : Prop} (hA : c = true → B → A) (hB : B) : if c = true then A else B := by
  cases c with
  | true => exact iteP rfl (hA rfl hB)
  | false => exact iteN rfl hB
structure BS where
  xs : List PyData
  s : Nat
  t : Nat
noncomputable def stmRest (K : PySem.W.Frag) (m : Nat) (B : Sp) : TS := (tSeq (tIfS (tTest (tOp (rI0 fun i j => V.bl (decide (i < j))) (tVar 4) (tC (V.int 2)))) (tRet (tTup (tCons (tOp (rIx K) (tLst (tCons (tC (V.str (Str.ofString "let"))) (tCons (tC (V.str (Str.ofString "set"))) tNil))) (tVar 4)) (tCons (tVar 5) (tCons (tCall (spTrm K m) [] E0 (tCons (tVar 0) (tCons (tOp (rI0 fun i j => V.int (i - j)) (tVar 1) (tC (V.int 1))) tNil))) tNil))))) tNext) (tSeq (tIfS (tTest (tOp (rI0 fun i j => V.bl (decide (i < j))) (tVar 4) (tC (V.int 5)))) (tRet (tTup (tCons (tOp (rIx K) (tLst (tCons (tC (V.str (Str.ofString "hand"))) (tCons (tC (V.str (Str.ofString "do"))) (tCons (tC (V.str (Str.ofString "back"))) tNil)))) (tOp (rI0 fun i j => V.int (i - j)) (tVar 4) (tC (V.int 2)))) (tCons (tCall (spTrm K m) [] E0 (tCons (tVar 0) (tCons (tOp (rI0 fun i j => V.int (i - j)) (tVar 1) (tC (V.int 1))) tNil))) tNil)))) tNext) (tSeq (tIfS (tTest (tOp rEq (tVar 4) (tC (V.int 5)))) (tRet (tTup (tCons (tC (V.str (Str.ofString "fault"))) (tCons (tOp (rIx K) (tLst (tCons (tVar 6) (tCons (tC (V.str (Str.ofString "anya"))) tNil))) (tCB (fun xs H Q => (∃ i, xs = [V.int i] ∧ Q (V.int i) H) ∨ ∃ k, xs = [V.bl k] ∧ Q (V.int (if k = true then 1 else 0)) H) (tCons (tOp rEq (tVar 6) (tC (V.str (Str.ofString "any")))) tNil))) (tCons (tCall (spTrm K m) [] E0 (tCons (tVar 0) (tCons (tOp (rI0 fun i j => V.int (i - j)) (tVar 1) (tC (V.int 1))) tNil))) tNil))))) tNext) (tSeq (tIfS (tTest (tOp rEq (tVar 4) (tC (V.int 6)))) (tRet (tTup (tCons (tC (V.str (Str.ofString "while"))) (tCons (tCall (spTrm K m) [] E0 (tCons (tVar 0) (tCons (tOp (rI0 fun i j => V.int (i - j)) (tVar 1) (tC (V.int 1))) tNil))) (tCons (tCall B [] E0 (tCons (tVar 0) (tCons (tOp (rI0 fun i j => V.int (i - j)) (tVar 1) (tC (V.int 1))) (tCons (tVar 2) tNil)))) tNil))))) tNext) (tSeq (tIfS (tTest (tOp rEq (tVar 4) (tC (V.int 7)))) (tSeq (tAsg (tCall (spTrm K m) [] E0 (tCons (tVar 0) (tCons (tOp (rI0 fun i j => V.int (i - j)) (tVar 1) (tC (V.int 1))) tNil))) (gName 7)) (tRet (tTup (tCons (tC (V.str (Str.ofString "if"))) (tCons (tVar 7) (tCons (tCall B [] E0 (tCons (tVar 0) (tCons (tOp (rI0 fun i j => V.int (i - j)) (tVar 1) (tC (V.int 1))) (tCons (tVar 2) tNil)))) (tCons (tCall B [] E0 (tCons (tVar 0) (tCons (tOp (rI0 fun i j => V.int (i - j)) (tVar 1) (tC (V.int 1))) (tCons (tVar 2) tNil)))) tNil))))))) tNext) (tSeq (tAsg (tComp (iRng1 (tCons (tC (V.int 3)) tNil)) [none, some 0, some 2, some 1] (gName 0) tYes (tCall B [] E0 (tCons (tVar 1) (tCons (tOp (rI0 fun i j => V.int (i - j)) (tVar 3) (tC (V.int 1))) (tCons (tVar 2) tNil))))) (gName 8)) (tRet (tTup (tCons (tC (V.str (Str.ofString "try"))) (tCons (tOp (rIx K) (tVar 8) (tC (V.int 0))) (tCons (tVar 6) (tCons (tVar 5) (tCons (tOp (rIx K) (tVar 8) (tC (V.int 1))) (tCons (tOp (rIx K) (tVar 8) (tC (V.int 2))) tNil))))))))))))))
noncomputable def stmTail (K : PySem.W.Frag) (m : Nat) (B : Sp) : TS := tSeq (tIfS (tAnd (tTest (tOp rEq (tVar 4) (tC (V.int 2)))) (tNot (tB (tVar 2)))) (tAsg (tC (V.int 3)) (gName 4)) tNext) (stmRest K m B)
theorem rest_stm {H H3 : Hp} {Q : VK} {n m : Nat} {B : Sp} {st a nm : Addr} {ns : List Int} {names : List Str} {k l deep z kd : Int} {may : Bool} {x wd : Str} (hm : m ≤ n ∧ n ≤ m + 1 ∧ (n = 0 ∨ n = m + 1)) (hB : 0 < n → B = spBdy K m) (hdp : deep ≤ (n : Int)) (hk0 : 0 ≤ k) (hkl : k + 4 * l ≤ 1000 - 10 * (n : Int)) (hl0 : 2000 * (n : Int) - 30000 ≤ l) (hn : n ≤ 10)
    (q : ∀ H' x d (s t : Nat) k' l', Stay st H H' → DIn K H' st a nm ns names k' l' → Rep K H' x d → Tre.fit d = true → Tre.Pt d "statement" may s t → (s : Int) = l - l' → t ≤ n + 2 → k' + 4 * l' ≤ k + 4 * l → k ≤ k' → (l ≤ 0 → l - 2 ≤ l') → (0 < l → -(16 * (n : Int) + 1) ≤ l') → Q x H')
    (hx : Tre.nameB x = true) (hw : Tre.nameB wd = true) (di3 : DIn K H3 st a nm ns names (k + 1) (l - 1)) (sy3 : Stay st H H3) (e3' : kd = 2 → may = true) (hkd : 0 ≤ kd ∧ kd < 10 ∧ (deep < 2 ∨ l - 1 < 0 → kd < 5)) :
    stmRest K m B { nx := fun _ H' => Q .non H', rt := Q } [some (.ref st), some (.int deep), some (.bl may), some (.int z), some (.int kd), some (.str x), some (.str wd), none, none] H3 := by
  obtain ⟨hm1, hm2, hm3⟩ := hm
  have pd : deep - 1 ≤ (m : Int) := by omega
  have pk : 0 ≤ k + 1 := by omega
  have pt1 : k + 1 + 4 * (l - 1) ≤ 1000 - 10 * (m : Int) := by omega
  have pt2 : 2000 * (m : Int) - 30500 ≤ l - 1 := by omega
  have pn : m ≤ 10 := by omega
  obtain ⟨kd0, kd1, kd2⟩ := hkd
  refine ifLt rfl (fun e2 => ?_) (fun e2 => ?_)
  · skip
    refine ⟨(by decide : 2 ≤ sizeLine), fun p1 hp1 => ?_⟩
    have gp1 := same_new hp1 (.lst [.str "let", .str "set"])
    have di4 := di3.same gp1
    have sy4 := sy3.then gp1
    obtain ⟨hh, hat, hhl⟩ : ∃ hh : Str, atI [V.str "let", V.str "set"] kd = some (.str hh) ∧ (hh = "let" ∨ hh = "set") := by
      have : kd = 0 ∨ kd = 1 := by omega
      rcases this with rfl | rfl
      · exact ⟨"let", atI_nat (j := 0) rfl, .inl rfl⟩
      · exact ⟨"set", atI_nat (j := 1) rfl, .inr rfl⟩
    refine ⟨_, rfl, .inl ⟨p1, _, _, _, rfl, rfl, SqL.of upd_same, hat, _, rfl, _, rfl, _, rfl, _, _, rfl, rfl, ?_⟩⟩
    refine ⟨st, a, nm, ns, names, k + 1, l - 1, deep - 1, rfl, di4, pd, pk, pt1, pt2, pn, fun H5 x1 d1 s1 t1 k1 l1 sy5 di5 r1 f1 q1 hs1 ht1 hk1 hkk1 b1 b1' b0 => ⟨(by decide : 3 ≤ sizeLine), fun p hp => ?_⟩⟩
    have c1 : l ≤ 0 → l - 2 ≤ l1 := by omega
    have c2 : 0 < l → -(16 * (n : Int) + 1) ≤ l1 := by omega
    have c0 : t1 ≤ n + 1 := by omega
    clear b1 b1' b0 kd2 ht1 hm1 hm2 hm3 pd pt1 pt2 pn hdp hkl hl0
    have g := same_new hp (.tup [.str hh, .str x, x1])
    exact q _ _ (.tuple [.str hh, .str x, d1]) (s1 + 1) (t1 + 1) k1 l1 ((sy4.trans sy5).then g) (di5.same g) (.tup (SqT.of upd_same) (.cons (.str _) (.cons (.str _) (.cons (r1.same g) .nil)))) (fitTup (fitC (by rcases hhl with rfl | rfl <;> decide +kernel) (fitC (name_fit hx) (fitC f1 rfl)))) (Tre.pt_let hhl hx (q1 may)) (by omega) (by omega) (by omega) (by omega) c1 c2
  refine ifLt rfl (fun e5 => ?_) (fun e5 => ?_)
  · skip
    refine ⟨(by decide : 3 ≤ sizeLine), fun p1 hp1 => ?_⟩
    have gp1 := same_new hp1 (.lst [.str "hand", .str "do", .str "back"])
    have di4 := di3.same gp1
    have sy4 := sy3.then gp1
    obtain ⟨hh, hat, hhl⟩ : ∃ hh : Str, atI [V.str "hand", V.str "do", V.str "back"] (kd - 2) = some (.str hh) ∧ (hh = "do" ∨ hh = "back" ∨ (hh = "hand" ∧ may = true)) := by
      have : kd = 2 ∨ kd = 3 ∨ kd = 4 := by omega
      rcases this with rfl | rfl | rfl
      · exact ⟨"hand", atI_nat (j := 0) rfl, .inr (.inr ⟨rfl, e3' rfl⟩)⟩
      · exact ⟨"do", atI_nat (j := 1) rfl, .inl rfl⟩
      · exact ⟨"back", atI_nat (j := 2) rfl, .inr (.inl rfl)⟩
    refine ⟨_, rfl, _, _, rfl, rfl, .inl ⟨p1, _, _, _, rfl, rfl, SqL.of upd_same, hat, _, rfl, _, rfl, _, _, rfl, rfl, ?_⟩⟩
    refine ⟨st, a, nm, ns, names, k + 1, l - 1, deep - 1, rfl, di4, pd, pk, pt1, pt2, pn, fun H5 x1 d1 s1 t1 k1 l1 sy5 di5 r1 f1 q1 hs1 ht1 hk1 hkk1 b1 b1' b0 => ⟨(by decide : 2 ≤ sizeLine), fun p hp => ?_⟩⟩
    have c1 : l ≤ 0 → l - 2 ≤ l1 := by omega
    have c2 : 0 < l → -(16 * (n : Int) + 1) ≤ l1 := by omega
    have c0 : t1 ≤ n + 1 := by omega
    clear b1 b1' b0 kd2 ht1 hm1 hm2 hm3 pd pt1 pt2 pn hdp hkl hl0
    have g := same_new hp (.tup [.str hh, x1])
    exact q _ _ (.tuple [.str hh, d1]) (s1 + 1) (t1 + 1) k1 l1 ((sy4.trans sy5).then g) (di5.same g) (.tup (SqT.of upd_same) (.cons (.str _) (.cons (r1.same g) .nil))) (fitTup (fitC (by rcases hhl with rfl | rfl | ⟨rfl, _⟩ <;> decide +kernel) (fitC f1 rfl))) (Tre.pt_do hhl (q1 may)) (by omega) (by omega) (by omega) (by omega) c1 c2
  have hn1 : 2 ≤ n := by omega
  have hl1 : 0 ≤ l - 1 := by omega
  have hd1 : 2 ≤ deep := by omega
  have hnm : n = m + 1 := by omega
  subst hnm
  have eB : B = spBdy K m := hB (by omega)
  clear kd2 kd0 e3' e2 hm1 hm2 hm3 hB hdp hl0
  subst eB
  refine ifEq rfl (fun e6 => ?_) (fun e6 => ?_)
  · skip
    obtain ⟨y, hat, hy⟩ : ∃ y : Str, atI [V.str wd, V.str "anya"] (if decide (V.str wd = V.str "any") = true then 1 else 0) = some (.str y) ∧ (Tre.nameB y && y != "any") = true := by
      by_cases ew : wd = "any"
      · rw [if_pos (decide_eq_true (congrArg V.str ew))]
        exact ⟨"anya", atI_nat (j := 1) rfl, by decide +kernel⟩
      · rw [if_neg (by rw [decide_eq_false fun z => ew (V.str.inj z)]; exact Bool.false_ne_true)]
        exact ⟨wd, atI_nat (j := 0) rfl, by rw [hw, Bool.true_and]; exact bne_iff_ne.mpr ew⟩
    refine ⟨_, rfl, (by decide : 2 ≤ sizeLine), fun p1 hp1 => ?_⟩
    have gp1 := same_new hp1 (.lst [.str wd, .str "anya"])
    have di4 := di3.same gp1
    have sy4 := sy3.then gp1
    refine ⟨_, rfl, rfl, .inr ⟨_, rfl, .inl ⟨p1, _, _, _, rfl, rfl, SqL.of upd_same, hat, _, rfl, _, rfl, _, _, rfl, rfl, ?_⟩⟩⟩
    refine ⟨st, a, nm, ns, names, k + 1, l - 1, deep - 1, rfl, di4, pd, pk, pt1, pt2, pn, fun H5 x1 d1 s1 t1 k1 l1 sy5 di5 r1 f1 q1 hs1 ht1 hk1 hkk1 b1 b1' b0 => ⟨(by decide : 3 ≤ sizeLine), fun p hp => ?_⟩⟩
    have c1 : -(16 * (m : Int) + 1) ≤ l1 := by omega
    have c0 : t1 ≤ m + 2 := by omega
    clear b1 b1' b0
    have g := same_new hp (.tup [.str "fault", .str y, x1])
    have hy1 : Tre.nameB y = true := (Bool.and_eq_true _ _ ▸ hy).1
    exact q _ _ (.tuple [.str "fault", .str y, d1]) (s1 + 1) (t1 + 1) k1 l1 ((sy4.trans sy5).then g) (di5.same g) (.tup (SqT.of upd_same) (.cons (.str _) (.cons (.str _) (.cons (r1.same g) .nil)))) (fitTup (fitC (by decide +kernel) (fitC (name_fit hy1) (fitC f1 rfl)))) (Tre.pt_fault hy (q1 may)) (by omega) (by omega) (by omega) (by omega) (by omega) (by omega)
  refine ifEq rfl (fun e7 => ?_) (fun e7 => ?_)
  · skip
    refine ⟨_, rfl, _, rfl, _, _, rfl, rfl, st, a, nm, ns, names, k + 1, l - 1, deep - 1, rfl, di3, pd, pk, pt1, pt2, pn, fun H4 x1 d1 s1 t1 k1 l1 sy4 di4 r1 f1 q1 hs1 ht1 hk1 hkk1 b1 b1' _ => ?_⟩
    have c1 : -(16 * (m : Int) + 1) ≤ l1 := by omega
    clear b1 b1'
    refine ⟨_, rfl, _, rfl, _, _, rfl, rfl, _, rfl, ?_⟩
    refine ⟨st, a, nm, ns, names, k1, l1, deep - 1, may, rfl, di4, pd, by omega, by omega, by omega, pn, fun H5 x2 ds2 s2 t2 k2 l2 sy5 di5 r2 f2 bd2 hs2 ht2 hk2 hkk2 b2 b2' => ⟨(by decide : 3 ≤ sizeLine), fun p hp => ?_⟩⟩
    have c2 : -(16 * (m : Int) + 7) ≤ l2 := by omega
    clear b2 b2'
    have g := same_new hp (.tup [.str "while", x1, x2])
    exact q _ _ (.tuple [.str "while", d1, .tuple ds2]) (s1 + s2 + 1) (max t1 t2 + 1) k2 l2 (((sy3.trans sy4).trans sy5).then g) (di5.same g) (.tup (SqT.of upd_same) (.cons (.str _) (.cons ((r1.stay sy5).same g) (.cons (r2.same g) .nil)))) (fitTup (fitC (by decide +kernel) (fitC f1 (fitC (fitTup f2) rfl)))) (Tre.pt_while (q1 may) bd2) (by omega) (by omega) (by omega) (by omega) (by omega) (by omega)
  refine ifEq rfl (fun e8 => ?_) (fun e8 => ?_)
  · skip
    refine ⟨_, rfl, _, rfl, _, _, rfl, rfl, st, a, nm, ns, names, k + 1, l - 1, deep - 1, rfl, di3, pd, pk, pt1, pt2, pn, fun H4 x1 d1 s1 t1 k1 l1 sy4 di4 r1 f1 q1 hs1 ht1 hk1 hkk1 b1 b1' _ => ?_⟩
    have c1 : -(16 * (m : Int) + 1) ≤ l1 := by omega
    clear b1 b1'
    refine ⟨_, rfl, _, rfl, _, rfl, _, _, rfl, rfl, _, rfl, ?_⟩
    refine ⟨st, a, nm, ns, names, k1, l1, deep - 1, may, rfl, di4, pd, by omega, by omega, by omega, pn, fun H5 x2 ds2 s2 t2 k2 l2 sy5 di5 r2 f2 bd2 hs2 ht2 hk2 hkk2 b2 b2' => ?_⟩
    have c2 : -(16 * (m : Int) + 7) ≤ l2 := by omega
    clear b2 b2'
    refine ⟨_, rfl, _, rfl, _, _, rfl, rfl, _, rfl, ?_⟩
    refine ⟨st, a, nm, ns, names, k2, l2, deep - 1, may, rfl, di5, pd, by omega, by omega, by omega, pn, fun H6 x3 ds3 s3 t3 k3 l3 sy6 di6 r3 f3 bd3 hs3 ht3 hk3 hkk3 b3 b3' => ⟨(by decide : 4 ≤ sizeLine), fun p hp => ?_⟩⟩
    have c3 : -(16 * (m : Int) + 13) ≤ l3 := by omega
    clear b3 b3'
    have g := same_new hp (.tup [.str "if", x1, x2, x3])
    exact q _ _ (.tuple [.str "if", d1, .tuple ds2, .tuple ds3]) (s1 + (s2 + s3) + 1) (max t1 (max t2 t3) + 1) k3 l3 ((((sy3.trans sy4).trans sy5).trans sy6).then g) (di6.same g) (.tup (SqT.of upd_same) (.cons (.str _) (.cons (((r1.stay sy5).stay sy6).same g) (.cons ((r2.stay sy6).same g) (.cons (r3.same g) .nil))))) (fitTup (fitC (by decide +kernel) (fitC f1 (fitC (fitTup f2) (fitC (fitTup f3) rfl))))) (Tre.pt_if (q1 may) bd2 bd3) (by omega) (by omega) (by omega) (by omega) (by omega) (by omega)
  refine ⟨_, rfl, by decide, by decide, ?_⟩
  refine comp_it 3 (fun i ys H' => ∃ (bs : List BS) (k' l' : Int), Stay st H H' ∧ DIn K H' st a nm ns names k' l' ∧ Reps K H' ys (bs.map fun b => .tuple b.xs) ∧ bs.length = i ∧ (∀ b ∈ bs, Tre.Bd b.xs may b.s b.t ∧ Tre.fitAll b.xs = true ∧ b.t ≤ m + 2) ∧ (((bs.map fun b => b.s).sum : Nat) : Int) + 1 = l - l' ∧
    k' + 4 * l' ≤ k + 4 * l - 3 + i ∧ k ≤ k' ∧ (l - 1 = 0 → -6 * (i : Int) ≤ l') ∧ (0 < l - 1 → -(16 * (m : Int) + 5) - 6 * (i : Int) ≤ l' - 6 ∨ (i = 0 ∧ l' = l - 1))) ?_ (fun i ys H' h => ?_) (by decide) (fun i ys H' hi h => ?_) (fun ys H' h => ?_)
  · exact ⟨[], k + 1, l - 1, sy3, di3, .nil, rfl, fun b hb => (by cases hb), (show ((0 : Nat) : Int) + 1 = l - (l - 1) by omega), by omega, by omega, by omega, fun _ => .inr ⟨rfl, rfl⟩⟩
  · obtain ⟨bs, k', l', _, _, rs, hl, _⟩ := h
    have := rs.length
    rw [List.length_map] at this
    omega
  · obtain ⟨bs, k', l', sy, di5, rs, hl, hb, hs, hkk, hk1', b1, b2⟩ := h
    refine ⟨hi, fun v H5 yl => ?_⟩
    obtain ⟨rfl, rfl⟩ := yl
    have hl' : -200 ≤ l' := by omega
    refine ⟨_, rfl, _, rfl, _, _, rfl, rfl, _, rfl, ?_⟩
    refine ⟨st, a, nm, ns, names, k', l', deep - 1, may, rfl, di5, pd, by omega, by omega, by omega, pn, fun H6 x2 ds2 s2 t2 k2 l2 sy6 di6 r2 f2 bd2 hs2 ht2 hk2 hkk2 c2 c2' => ?_⟩
    refine ⟨bs ++ [⟨ds2, s2, t2⟩], k2, l2, sy.trans sy6, di6, ?_, by rw [List.length_append, hl]; rfl, fun b hb' => ?_, ?_, by omega, by omega, by omega, by omega⟩
    · rw [List.map_append]
      exact (rs.stay sy6).append (.cons r2 .nil)
    · rcases List.mem_append.mp hb' with h1 | h1
      · exact hb b h1
      · cases List.mem_singleton.mp h1
        exact ⟨bd2, f2, (show t2 ≤ m + 2 by omega)⟩
    · rw [List.map_append, List.sum_append]
      simp only [List.map_cons, List.map_nil, List.sum_cons, List.sum_nil]
      omega
  · obtain ⟨bs, k', l', sy, di5, rs, hl, hb, hs, hkk, hk1', b1, b2⟩ := h
    match bs, hl with
    | [z0, z1, z2], _ =>
      refine ⟨Nat.le_refl _, fun D hD => ?_⟩
      cases rs with
      | @cons y0 _ _ _ r0 rs =>
        cases rs with
        | @cons y1 _ _ _ r1 rs =>
          cases rs with
          | @cons y2 _ _ _ r2 rs =>
            cases rs
            have gD := same_new hD (.lst [y0, y1, y2])
            have sD : SqL K (upd H' D (.lst [y0, y1, y2])) D [y0, y1, y2] := SqL.of upd_same
            refine ⟨_, rfl, .inl ⟨D, _, _, _, rfl, rfl, sD, atI_nat (j := 0) rfl, _, rfl, _, rfl, _, rfl, .inl ⟨D, _, _, _, rfl, rfl, sD, atI_nat (j := 1) rfl, _, rfl, .inl ⟨D, _, _, _, rfl, rfl, sD, atI_nat (j := 2) rfl, (by decide : 6 ≤ sizeLine), fun p hp => ?_⟩⟩⟩⟩
            have g := gD.trans (same_new hp (.tup [.str "try", y0, .str wd, .str x, y1, y2]))
            obtain ⟨bd0, f0, t0⟩ := hb z0 (by simp)
            obtain ⟨bd1, f1, t1⟩ := hb z1 (by simp)
            obtain ⟨bd2, f2, t2⟩ := hb z2 (by simp)
            simp only [List.map_cons, List.map_nil, List.sum_cons, List.sum_nil] at hs
            exact q _ _ (.tuple [.str "try", .tuple z0.xs, .str wd, .str x, .tuple z1.xs, .tuple z2.xs]) (z0.s + (z1.s + z2.s) + 1) (max z0.t (max z1.t z2.t) + 1) k' l' (sy.then g) (di5.same g) (.tup (SqT.of upd_same) (.cons (.str _) (.cons (r0.same g) (.cons (.str _) (.cons (.str _) (.cons (r1.same g) (.cons (r2.same g) .nil))))))) (fitTup (fitC (by decide +kernel) (fitC (fitTup f0) (fitC (name_fit hw) (fitC (name_fit hx) (fitC (fitTup f1) (fitC (fitTup f2) rfl))))))) (Tre.pt_try hw hx bd0 bd1 bd2) (by omega) (by omega) (by omega) (by omega) (by omega) (by omega)
theorem tail_stm {H H3 : Hp} {Q : VK} {n m : Nat} {B : Sp} {st a nm : Addr} {ns : List Int} {names : List Str} {k l deep z kd : Int} {may : Bool} {x wd : Str} (hm : m ≤ n ∧ n ≤ m + 1 ∧ (n = 0 ∨ n = m + 1)) (hB : 0 < n → B = spBdy K m) (hdp : deep ≤ (n : Int)) (hk0 : 0 ≤ k) (hkl : k + 4 * l ≤ 1000 - 10 * (n : Int)) (hl0 : 2000 * (n : Int) - 30000 ≤ l) (hn : n ≤ 10)
    (q : ∀ H' x d (s t : Nat) k' l', Stay st H H' → DIn K H' st a nm ns names k' l' → Rep K H' x d → Tre.fit d = true → Tre.Pt d "statement" may s t → (s : Int) = l - l' → t ≤ n + 2 → k' + 4 * l' ≤ k + 4 * l → k ≤ k' → (l ≤ 0 → l - 2 ≤ l') → (0 < l → -(16 * (n : Int) + 1) ≤ l') → Q x H')
    (hx : Tre.nameB x = true) (hw : Tre.nameB wd = true) (di3 : DIn K H3 st a nm ns names (k + 1) (l - 1)) (sy3 : Stay st H H3) (hkd : 0 ≤ kd ∧ kd < 10 ∧ (deep < 2 ∨ l - 1 < 0 → kd < 5)) :
    stmTail K m B { nx := fun _ H' => Q .non H', rt := Q } [some (.ref st), some (.int deep), some (.bl may), some (.int z), some (.int kd), some (.str x), some (.str wd), none, none] H3 := by
  refine ⟨_, rfl, rfl, _, rfl, ?_⟩
  by_cases e3 : kd = 2 ∧ may = false
  · obtain ⟨rfl, rfl⟩ := e3
    refine iteP (show decide _ = true from decide_eq_true rfl) ⟨_, rfl, _, rfl, iteP (show (!false) = true from rfl) ?_⟩
    exact rest_stm (kd := 3) hm hB hdp hk0 hkl hl0 hn q hx hw di3 sy3 (fun z => absurd z (by decide)) ⟨by decide, by decide, fun _ => by decide⟩
  have e3' : kd = 2 → may = true := fun e => by
    cases may with
    | true => rfl
    | false => exact absurd ⟨e, rfl⟩ e3
  refine iteK (fun hc hB => ⟨_, rfl, _, rfl, iteN (show (!may) = false by rw [e3' (V.int.inj (of_decide_eq_true hc))]; rfl) hB⟩) ?_
  exact rest_stm hm hB hdp hk0 hkl hl0 hn q hx hw di3 sy3 e3' hkd
theorem ok_law_statement (F : Fun K "_law_statement" "_law_statement" s_law_statement f fd) (c : Cs K mg ad) (n lt lb : Nat) (hlt : lt ≤ 4 * n + 4) (hlb : lb ≤ 4 * n + 4) (B : Sp) (hB : 0 < n → B = spBdy K (n - 1)) (d_law_next : Def P w K mg base 2 "_law_next" ["_law_state"] (spNext K))
    (d_law_term : Def P w K mg base lt "_law_term" ["_law_state", "_law_deep"] (spTrm K (n - 1))) (d_law_body : Def P w K mg base lb "_law_body" ["_law_state", "_law_deep", "_law_may_hand"] B) : FnOk P w K mg base CX0 (4 * n + 5) f fd ["_law_state", "_law_deep", "_law_may_hand"] (spStm K n) := by
  refine F.ok (k := 4 * n + 4) sc_law_statement (fun vs H Q E h => ?_) (fun cdv A outer s H vs Q E hr h => ?_)
  · obtain ⟨st, a, nm, ns, names, k, l, deep, may, rfl, _⟩ := h
    rfl
  obtain ⟨st, a, nm, ns, names, k, l, deep, may, rfl, di, hdp, hk0, hkl, hl0, hn, q⟩ := h
  have hu := hu_of hr
  refine ⟨_, (pss_cons (ps_set (i := 3) sc_law_statement.nd rfl (by first | exact Or.inl rfl | exact Or.inr rfl) (pe_def d_law_next (hr.mono (by first | decide | omega)) (pa_cons (pv 0) pa_nil)))
      (pss_cons (ps_dput hu (pv 0) pe_str (pe_op op_sub (pe_dget hu (pv 0) pe_str (fun _ _ => rfl)) pe_int) rfl)
      (pss_cons (ps_set (i := 4) sc_law_statement.nd rfl (by first | exact Or.inl rfl | exact Or.inr rfl) (pe_op op_mod (pv 3) pe_int))
      (pss_cons (ps_set (i := 5) sc_law_statement.nd rfl (by first | exact Or.inl rfl | exact Or.inr rfl) (pe_ix (ix_k (K := K) rfl) (pe_dget hu (pv 0) pe_str (fun _ _ => rfl)) (pe_op op_mod (pe_op op_fdiv (pv 3) pe_int) (pe_callB (len_k (K := K) rfl) (by rfl) c.len_ bt_len (pa_cons (pe_dget hu (pv 0) pe_str (fun _ _ => rfl)) pa_nil))) (fun _ _ => rfl)))
      (pss_cons (ps_set (i := 6) sc_law_statement.nd rfl (by first | exact Or.inl rfl | exact Or.inr rfl) (pe_ix (ix_k (K := K) rfl) (pe_lst (pa_cons pe_str (pa_cons pe_str (pa_cons pe_str (pa_cons pe_str (pa_cons (pv 5) pa_nil)))))) (pe_op op_mod (pe_op op_fdiv (pv 3) pe_int) pe_int) (fun _ _ => rfl)))
      (pss_cons (ps_if (PW.pt (pw_or (pt_cmpR op_lt (pv 1) pe_int (nomark _)) (pw_or1 (pt_cmpR op_lt (pe_dget hu (pv 0) pe_str (fun _ _ => rfl)) pe_int (nomark _))))) (pss_one (ps_set (i := 4) sc_law_statement.nd rfl (by first | exact Or.inl rfl | exact Or.inr rfl) (pe_op op_mod (pv 4) pe_int))) pss_nil)
      (pss_cons (ps_if (PW.pt (pw_and (pt_cmpR op_eq (pv 4) pe_int (nomark _)) (pw_and1 (pt_not (pt_val (pv 2)))))) (pss_one (ps_set (i := 4) sc_law_statement.nd rfl (by first | exact Or.inl rfl | exact Or.inr rfl) pe_int)) pss_nil)
      (pss_cons (ps_if (pt_cmpR op_lt (pv 4) pe_int (nomark _)) (pss_one (ps_ret (pe_tup (pa_cons (pe_ix (ix_k (K := K) rfl) (pe_lst (pa_cons pe_str (pa_cons pe_str pa_nil))) (pv 4) (fun _ _ => rfl)) (pa_cons (pv 5) (pa_cons (pe_def d_law_term (hr.mono (by first | decide | omega)) (pa_cons (pv 0) (pa_cons (pe_op op_sub (pv 1) pe_int) pa_nil))) pa_nil)))))) pss_nil)
      (pss_cons (ps_if (pt_cmpR op_lt (pv 4) pe_int (nomark _)) (pss_one (ps_ret (pe_tup (pa_cons (pe_ix (ix_k (K := K) rfl) (pe_lst (pa_cons pe_str (pa_cons pe_str (pa_cons pe_str pa_nil)))) (pe_op op_sub (pv 4) pe_int) (fun _ _ => rfl)) (pa_cons (pe_def d_law_term (hr.mono (by first | decide | omega)) (pa_cons (pv 0) (pa_cons (pe_op op_sub (pv 1) pe_int) pa_nil))) pa_nil))))) pss_nil)
      (pss_cons (ps_if (pt_cmpR op_eq (pv 4) pe_int (nomark _)) (pss_one (ps_ret (pe_tup (pa_cons pe_str (pa_cons (pe_ix (ix_k (K := K) rfl) (pe_lst (pa_cons (pv 6) (pa_cons pe_str pa_nil))) (pe_callTy call_int1 (by rfl) c.int_ bt_int (pa_cons (pe_cmpR op_eq (pv 6) pe_str (nomark _)) pa_nil)) (fun _ _ => rfl)) (pa_cons (pe_def d_law_term (hr.mono (by first | decide | omega)) (pa_cons (pv 0) (pa_cons (pe_op op_sub (pv 1) pe_int) pa_nil))) pa_nil)))))) pss_nil)
      (pss_cons (ps_if (pt_cmpR op_eq (pv 4) pe_int (nomark _)) (pss_one (ps_ret (pe_tup (pa_cons pe_str (pa_cons (pe_def d_law_term (hr.mono (by first | decide | omega)) (pa_cons (pv 0) (pa_cons (pe_op op_sub (pv 1) pe_int) pa_nil))) (pa_cons (pe_def d_law_body (hr.mono (by first | decide | omega)) (pa_cons (pv 0) (pa_cons (pe_op op_sub (pv 1) pe_int) (pa_cons (pv 2) pa_nil)))) pa_nil)))))) pss_nil)
      (pss_cons (ps_if (pt_cmpR op_eq (pv 4) pe_int (nomark _)) (pss_cons (ps_set (i := 7) sc_law_statement.nd rfl (by first | exact Or.inl rfl | exact Or.inr rfl) (pe_def d_law_term (hr.mono (by first | decide | omega)) (pa_cons (pv 0) (pa_cons (pe_op op_sub (pv 1) pe_int) pa_nil))))
      (pss_one (ps_ret (pe_tup (pa_cons pe_str (pa_cons (pv 7) (pa_cons (pe_def d_law_body (hr.mono (by first | decide | omega)) (pa_cons (pv 0) (pa_cons (pe_op op_sub (pv 1) pe_int) (pa_cons (pv 2) pa_nil)))) (pa_cons (pe_def d_law_body (hr.mono (by first | decide | omega)) (pa_cons (pv 0) (pa_cons (pe_op op_sub (pv 1) pe_int) (pa_cons (pv 2) pa_nil)))) pa_nil)))))))) pss_nil)
      (pss_cons (ps_setC (i := 8) sc_law_statement.nd rfl (by first | exact Or.inl rfl | exact Or.inr rfl) (sc := defScope s_law_statement) (NX := ["_law_state", "_law_deep", "_law_may_hand", "_law_number_here", "_law_kind", "_law_name", "_law_word", "_law_test", "_law_bodies"]) (N := ["_law_turn", "_law_state", "_law_may_hand", "_law_deep"]) (js := [none, some 0, some 2, some 1]) (pi_range1 rfl c.range_ (pa_cons pe_int pa_nil)) (fun _ _ _ _ _ => (pg_name (i := 0) (show (["_law_turn", "_law_state", "_law_may_hand", "_law_deep"] : List Str).Nodup by decide +kernel) rfl (Or.inl rfl))) (fun _ _ _ _ _ => pf_nil) (fun _ _ _ _ _ => (pe_def d_law_body (hr.mono (by first | decide | omega)) (pa_cons (pv 1) (pa_cons (pe_op op_sub (pv 3) pe_int) (pa_cons (pv 2) pa_nil))))) (own_name rfl) ⟨by decide +kernel, rfl, by decide +kernel, by decide +kernel, rfl, by decide +kernel⟩)
      (pss_one (ps_ret (pe_tup (pa_cons pe_str (pa_cons (pe_ix (ix_k (K := K) rfl) (pv 8) pe_int (fun _ _ => rfl)) (pa_cons (pv 6) (pa_cons (pv 5) (pa_cons (pe_ix (ix_k (K := K) rfl) (pv 8) pe_int (fun _ _ => rfl)) (pa_cons (pe_ix (ix_k (K := K) rfl) (pv 8) pe_int (fun _ _ => rfl)) pa_nil)))))))))))))))))))))), ?_⟩
  clear hu
  refine ⟨_, rfl, st, a, nm, ns, k, l, rfl, di.dict, di.cells, hk0, by omega, fun z H1 hz0 hz1 e1 => ?_⟩
  have di1 : DIn K H1 st a nm ns names (k + 1) l := e1 ▸ di.put
  have sy1 : Stay st H H1 := e1 ▸ Stay.put di.dict
  clear e1
  refine ⟨_, rfl, _, _, rfl, (by rw [← st_left a (k + 1) l nm]; exact DGet.k (k := Sum.inr "left") di1.dict), _, _, rfl, rfl, ?_⟩
  refine ⟨_, rfl, st, upd H1 st (.dK (stK a (k + 1) (l - 1) nm)), rfl, (by rw [← st_putLeft a (k + 1) l nm (l - 1)]; exact DPut.k (k := Sum.inr "left") di1.dict (Nat.lt_of_le_of_lt (show 4 ≤ 1000 by decide) (by decide))), ?_⟩
  have di2 : DIn K (upd H1 st (.dK (stK a (k + 1) (l - 1) nm))) st a nm ns names (k + 1) (l - 1) := di1.put
  have sy2 : Stay st H (upd H1 st (.dK (stK a (k + 1) (l - 1) nm))) := sy1.trans (Stay.put di1.dict)
  generalize upd H1 st (.dK (stK a (k + 1) (l - 1) nm)) = H2 at di2 sy2 ⊢
  have gL : ∀ H', Same H2 H' → DGet H' st (.str "left") (some (.int (l - 1))) := fun H' g => by rw [← st_left a (k + 1) (l - 1) nm]; exact DGet.k (k := Sum.inr "left") (di2.same g).dict
  have gN : DGet H2 st (.str "names") (some (.ref nm)) := by rw [← st_names a (k + 1) (l - 1) nm]; exact DGet.k (k := Sum.inr "names") di2.dict
  have hnl : names.length = 8 := di.good.len
  obtain ⟨v, hv, x, rfl, hx⟩ := atI_all (xs := names.map V.str) (i := z / 10 % (((names.map V.str).length : Nat) : Int)) (p := fun v => ∃ x, v = .str x ∧ Tre.nameB x = true) (fun y hy => by
    obtain ⟨x, hx, rfl⟩ := List.mem_map.mp hy
    exact ⟨x, rfl, di.good.good x hx⟩) (Int.emod_nonneg _ (by rw [List.length_map, hnl]; decide)) (Int.emod_lt_of_pos _ (by rw [List.length_map, hnl]; decide))
  refine ⟨_, rfl, _, _, rfl, rfl, (show (0 : Int) < 10 by decide), ?_⟩
  refine ⟨_, rfl, st, _, rfl, gN, _, rfl, _, _, rfl, rfl, ⟨by decide, by decide⟩, _, rfl, st, _, rfl, gN, _, _, rfl, .inl ⟨_, di2.nms, rfl⟩, _, _, rfl, rfl, (show (0 : Int) < (((names.map V.str).length : Nat) : Int) by rw [List.length_map, hnl]; decide), .inl ⟨_, _, _, _, rfl, rfl, di2.nms, hv, ?_⟩⟩
  obtain ⟨v, hv2, wd, rfl, hw⟩ := atI_all (xs := [V.str "great", V.str "kind", V.str "any", V.str "unset", V.str x]) (i := z / 100 % 5) (p := fun v => ∃ x, v = .str x ∧ Tre.nameB x = true) (fun y hy => by
    simp only [List.mem_cons, List.not_mem_nil, or_false] at hy
    rcases hy with rfl | rfl | rfl | rfl | rfl
    · exact ⟨_, rfl, by decide +kernel⟩
    · exact ⟨_, rfl, by decide +kernel⟩
    · exact ⟨_, rfl, by decide +kernel⟩
    · exact ⟨_, rfl, by decide +kernel⟩
    · exact ⟨_, rfl, hx⟩) (Int.emod_nonneg _ (by decide)) (Int.emod_lt_of_pos _ (by decide))
  refine ⟨_, rfl, (by decide : 5 ≤ sizeLine), fun p0 hp0 => ⟨_, rfl, _, _, rfl, rfl, ⟨by decide, by decide⟩, _, _, rfl, rfl, (show (0 : Int) < 5 by decide), .inl ⟨p0, _, _, _, rfl, rfl, SqL.of upd_same, hv2, ?_⟩⟩⟩
  have gp0 := same_new hp0 (.lst [V.str "great", V.str "kind", V.str "any", V.str "unset", V.str x])
  have gL' := gL _ gp0
  have di3 := di2.same gp0
  have sy3 := sy2.then gp0
  clear gL gN hv hv2 di2 sy2 di1 sy1
  dsimp only
  generalize upd H2 p0 (.lst [V.str "great", V.str "kind", V.str "any", V.str "unset", V.str x]) = H3 at gL' di3 sy3 ⊢
  refine ⟨_, rfl, _, _, rfl, rfl, _, rfl, ?_⟩
  have kz0 := Int.emod_nonneg z (show (10 : Int) ≠ 0 by decide)
  have kz1 := Int.emod_lt_of_pos z (show (0 : Int) < 10 by decide)
  have km0 := Int.emod_nonneg (z % 10) (show (5 : Int) ≠ 0 by decide)
  have km1 := Int.emod_lt_of_pos (z % 10) (show (0 : Int) < 5 by decide)
  refine ite2 (fun c1 => iteT ⟨_, rfl, _, _, rfl, rfl, (show (0 : Int) < 5 by decide), ?g1⟩) (fun c1 => ⟨_, rfl, st, _, rfl, gL', _, _, rfl, rfl, _, rfl, ite2 (fun c2 => ⟨_, rfl, _, _, rfl, rfl, (show (0 : Int) < 5 by decide), ?g2⟩) (fun c2 => ?g3)⟩)
  case g1 =>
    have hkd : 0 ≤ z % 10 % 5 ∧ z % 10 % 5 < 10 ∧ (deep < 2 ∨ l - 1 < 0 → z % 10 % 5 < 5) := ⟨km0, by omega, fun _ => km1⟩
    exact tail_stm (m := n - 1) (by omega) hB hdp hk0 hkl hl0 hn q hx hw di3 sy3 hkd
  case g2 =>
    have hkd : 0 ≤ z % 10 % 5 ∧ z % 10 % 5 < 10 ∧ (deep < 2 ∨ l - 1 < 0 → z % 10 % 5 < 5) := ⟨km0, by omega, fun _ => km1⟩
    exact tail_stm (m := n - 1) (by omega) hB hdp hk0 hkl hl0 hn q hx hw di3 sy3 hkd
  case g3 =>
    have c1' : ¬ deep < 2 := by simpa using c1
    have c2' : ¬ l - 1 < 0 := by simpa using c2
    have hkd : 0 ≤ z % 10 ∧ z % 10 < 10 ∧ (deep < 2 ∨ l - 1 < 0 → z % 10 < 5) := ⟨kz0, kz1, fun h => by omega⟩
    exact tail_stm (m := n - 1) (by omega) hB hdp hk0 hkl hl0 hn q hx hw di3 sy3 hkd
end
end Mine

namespace L2
open PySem PySem.Spec PyProof.Rows
section
variable {K : PySem.W.Frag} {H : Hp}
theorem Rd.put {p b : Addr} {zs : List V} {o o' : HO} (hp : H p = some (.lst zs)) (hd : ∀ l, o ≠ .lst l) (h : Rd H b o) : Rd (upd H p o') b o := by
  rcases h with h | ⟨ob, h⟩
  · refine .inl ?_
    rw [upd_ne fun z => by rw [z, hp] at h; exact hd _ (Option.some.inj h).symm]
    exact h
  · refine .inr ⟨ob, ?_⟩
    rw [upd_ne fun z => by rw [z, hp] at h; cases h]
    exact h
theorem SqT.put {p b : Addr} {zs xs : List V} {o' : HO} (hp : H p = some (.lst zs)) (h : SqT K H b xs) : SqT K (upd H p o') b xs := by
  rcases h with h | h
  · exact .inl (Rd.put hp (fun l z => by cases z) h)
  · exact .inr h
mutual
theorem Rep.put {p : Addr} {zs : List V} {o' : HO} (hp : H p = some (.lst zs)) : ∀ {x : V} {d : PyData}, Rep K H x d → Tre.noL d = true → Rep K (upd H p o') x d
  | _, _, .non, _ => .non
  | _, _, .bl b, _ => .bl b
  | _, _, .int i, _ => .int i
  | _, _, .str x, _ => .str x
  | _, _, .lst h r, n => by cases n
  | _, _, .tup h r, n => .tup (h.put hp) (Reps.put hp r (by rw [Tre.noL] at n; exact n))
theorem Reps.put {p : Addr} {zs : List V} {o' : HO} (hp : H p = some (.lst zs)) : ∀ {xs : List V} {ds : List PyData}, Reps K H xs ds → Tre.noLs ds = true → Reps K (upd H p o') xs ds
  | _, _, .nil, _ => .nil
  | _, _, .cons h t, n => by
    rw [Tre.noLs, Bool.and_eq_true] at n
    exact .cons (Rep.put hp h n.1) (Reps.put hp t n.2)
end
end
end L2
namespace Mine
open PySem L2
section
variable {P : Program} {w : World} {K : PySem.W.Frag} {mg : Str → Option Value} {base : Heap} {f : Addr} {fd : FuncData} {ad : Ad}
structure Known (K : PySem.W.Frag) (mg : Str → Option Value) (x : Str) (ps : List Str) (f : Addr) (fd : FuncData) : Prop where
  binds : Binds K fd ps []
  keep : PySem.W.keepIn K (.ref f) = true
  name : mg x = some (.ref f)
theorem Known.out {x : Str} {ps : List Str} {lv : Nat} {sp : Sp} (k : Known K mg x ps f fd) (F : FnOk P w K mg base CX0 lv f fd ps sp) : Def P w K mg base lv x ps sp := ⟨f, fd, F, k.binds, k.keep, k.name⟩
theorem none_ok {ps : List Str} {lv : Nat} : FnOk P w K mg base CX0 lv f fd ps (fun _ _ _ _ => False) := ⟨fun _ _ _ _ h => h.elim, fun _ _ _ _ _ _ _ _ _ _ _ _ _ h => h.elim⟩
theorem Def.up {x : Str} {ps : List Str} {sp : Sp} {j k : Nat} (d : Def P w K mg base j x ps sp) (h : j ≤ k) : Def P w K mg base k x ps sp := by
  obtain ⟨f, fd, F, r⟩ := d.ex
  exact ⟨f, fd, F.mono h, r⟩
theorem drawn {fT fS fB : Addr} {dT dS dB : FuncData} (FT : Fun K "_law_term" "_law_term" s_law_term fT dT) (FS : Fun K "_law_statement" "_law_statement" s_law_statement fS dS) (FB : Fun K "_law_body" "_law_body" s_law_body fB dB) (kT : Known K mg "_law_term" ["_law_state", "_law_deep"] fT dT)
    (kS : Known K mg "_law_statement" ["_law_state", "_law_deep", "_law_may_hand"] fS dS) (kB : Known K mg "_law_body" ["_law_state", "_law_deep", "_law_may_hand"] fB dB) (c : Cs K mg ad) (d_law_next : Def P w K mg base 2 "_law_next" ["_law_state"] (spNext K)) (d_law_number : Def P w K mg base 1 "_law_number" ["_law_more"] spNumber) :
    ∀ n : Nat, Def P w K mg base (4 * n + 4) "_law_term" ["_law_state", "_law_deep"] (spTrm K n) ∧ Def P w K mg base (4 * n + 5) "_law_statement" ["_law_state", "_law_deep", "_law_may_hand"] (spStm K n) ∧ Def P w K mg base (4 * n + 6) "_law_body" ["_law_state", "_law_deep", "_law_may_hand"] (spBdy K n)
  | 0 => by
    have t := kT.out (ok_law_term FT c 0 _ _ (fun h => absurd h (by decide)) (fun h => absurd h (by decide)) d_law_next d_law_number (kT.out none_ok) (kB.out none_ok))
    have s := kS.out (ok_law_statement FS c 0 4 4 (by decide) (by decide) _ (fun h => absurd h (by decide)) d_law_next t (kB.out none_ok))
    exact ⟨t, s, kB.out (ok_law_body FB c 0 d_law_next s)⟩
  | n + 1 => by
    obtain ⟨t0, s0, b0⟩ := drawn FT FS FB kT kS kB c d_law_next d_law_number n
    have t := kT.out (ok_law_term FT c (n + 1) _ _ (fun _ => rfl) (fun _ => rfl) d_law_next d_law_number (Def.up t0 (by omega)) (Def.up b0 (by omega)))
    have s := kS.out (ok_law_statement FS c (n + 1) (4 * n + 4) (4 * n + 6) (by omega) (by omega) _ (fun _ => rfl) d_law_next t0 b0)
    exact ⟨t, s, kB.out (ok_law_body FB c (n + 1) d_law_next s)⟩
end
end Mine

namespace Mine
open PySem L2
section
variable {P : Program} {w : World} {K : PySem.W.Frag} {mg : Str → Option Value} {base : Heap} {f : Addr} {fd : FuncData} {ad : Ad}
theorem merge_st (a : Addr) (k l : Int) (nm : Addr) : mergeK [] (stK a k l nm) = stK a k l nm := by
  have new : ∀ (kvs : List (Key × V)) (x : Key) (v : V), (∀ kv ∈ kvs, ¬ kv.1 = x) → putK kvs x v = kvs ++ [(x, v)] := fun kvs x v h => by
    unfold putK
    rw [if_neg]
    intro z
    obtain ⟨kv, hkv, e⟩ := List.any_eq_true.mp z
    exact h kv hkv (of_decide_eq_true e)
  unfold mergeK stK
  rw [List.foldl_cons, List.foldl_cons, List.foldl_cons, List.foldl_cons, List.foldl_nil]
  have e1 : putK ([] : List (Key × V)) (Sum.inr "cells") (V.ref a) = [((Sum.inr "cells" : Key), V.ref a)] := new [] (Sum.inr "cells") (V.ref a) fun kv h => nomatch h
  have e2 : putK [((Sum.inr "cells" : Key), V.ref a)] (Sum.inr "at") (V.int k) = [((Sum.inr "cells" : Key), V.ref a), ((Sum.inr "at" : Key), V.int k)] := new [((Sum.inr "cells" : Key), V.ref a)] (Sum.inr "at") (V.int k) fun kv h => by
    cases List.mem_singleton.mp h
    exact n_ca
  have e3 : putK [((Sum.inr "cells" : Key), V.ref a), ((Sum.inr "at" : Key), V.int k)] (Sum.inr "left") (V.int l) = [((Sum.inr "cells" : Key), V.ref a), ((Sum.inr "at" : Key), V.int k), ((Sum.inr "left" : Key), V.int l)] := new [((Sum.inr "cells" : Key), V.ref a), ((Sum.inr "at" : Key), V.int k)] (Sum.inr "left") (V.int l) fun kv h => by
    simp only [List.mem_cons, List.not_mem_nil, or_false] at h
    rcases h with rfl | rfl
    · exact n_cl
    · exact n_al
  have e4 : putK [((Sum.inr "cells" : Key), V.ref a), ((Sum.inr "at" : Key), V.int k), ((Sum.inr "left" : Key), V.int l)] (Sum.inr "names") (V.ref nm) = [((Sum.inr "cells" : Key), V.ref a), ((Sum.inr "at" : Key), V.int k), ((Sum.inr "left" : Key), V.int l), ((Sum.inr "names" : Key), V.ref nm)] := new [((Sum.inr "cells" : Key), V.ref a), ((Sum.inr "at" : Key), V.int k), ((Sum.inr "left" : Key), V.int l)] (Sum.inr "names") (V.ref nm) fun kv h => by
    simp only [List.mem_cons, List.not_mem_nil, or_false] at h
    rcases h with rfl | rfl | rfl
    · exact n_cn
    · exact n_an
    · exact n_ln
  rw [e1, e2, e3, e4]
theorem of_iteF {A B : Prop} (h : if false = true then A else B) : B := by simpa using h
theorem cut_start {names : List Str} (g : Nms names) {hi : Int} (h0 : 0 ≤ hi) (h1 : hi ≤ 4) : ∃ cut : List Str, cutV (names.map V.str) none (some hi) = cut.map V.str ∧ Tre.areNames (.tuple (cut.map PyData.str)) = true ∧ ∀ x ∈ cut, Tre.nameB x = true := by
  refine ⟨names.take hi.toNat, ?_, ?_, fun x hx => g.good x (List.mem_of_mem_take hx)⟩
  · rw [cut_take _ _ hi.toNat (by omega), List.map_take]
  · have hl : (names.take hi.toNat).length ≤ 4 := by
      have := List.length_take_le hi.toNat names
      omega
    have hsub : ∀ x ∈ names.take hi.toNat, Tre.nameB x = true := fun x hx => g.good x (List.mem_of_mem_take hx)
    have hnd : (names.take hi.toNat).Nodup := g.nd.take
    generalize names.take hi.toNat = cut at hl hsub hnd
    simp only [Tre.areNames]
    rw [List.length_map, decide_eq_true hl, Bool.true_and, List.map_map, Bool.and_eq_true]
    refine ⟨?_, decide_eq_true ?_⟩
    · rw [List.all_map]
      exact List.all_eq_true.mpr fun x hx => hsub x hx
    · have e : (Tre.txt ∘ PyData.str) = id := rfl
      rw [e, List.map_id]
      exact hnd
theorem noLs_of {ds : List PyData} {hands : Bool} {s t : Nat} (h : Tre.Ptl (ds.map fun x => (x, ("statement" : Str))) hands s t) : Tre.noLs ds = true := by
  have q := h.tr
  rw [List.map_map] at q
  have e : ((fun x : PyData × Str => x.1) ∘ fun x : PyData => (x, ("statement" : Str))) = id := rfl
  rw [e, List.map_id] at q
  exact (Tre.gd_all q.gd).1
noncomputable def spProg (K : PySem.W.Frag) : Sp := fun vs H Q _ => ∃ (a : Addr) (ns : List Int), vs = [.ref a, .int 40] ∧ SqL K H a (ns.map V.int) ∧ ∀ H' x d s t, Same H H' → Rep K H' x d → Tre.fit d = true → Tre.Pt d "program" false s t → s ≤ 300 → t ≤ 12 → Q x H'
theorem ok_law_program (F : Fun K "_law_program" "_law_program" s_law_program f fd) (c : Cs K mg ad) (d_law_cell_at : Def P w K mg base 1 "_law_cell_at" ["_law_script", "_law_k"] (spCell K)) (d_law_names : Def P w K mg base 1 "_law_names" ["_law_cell", "_law_many"] spNames) (d_law_next : Def P w K mg base 2 "_law_next" ["_law_state"] (spNext K))
    (d_law_statement : Def P w K mg base 33 "_law_statement" ["_law_state", "_law_deep", "_law_may_hand"] (spStm K 7)) : FnOk P w K mg base CX0 34 f fd ["_law_script", "_law_most"] (spProg K) := by
  refine F.ok sc_law_program (fun vs H Q E h => ?_) (fun cdv A outer s H vs Q E hr h => ?_)
  · obtain ⟨a, ns, rfl, _⟩ := h
    rfl
  obtain ⟨a, ns, rfl, hS, q⟩ := h
  have hu := hu_of hr
  refine ⟨_, (pss_cons (ps_set (i := 2) sc_law_program.nd rfl (by first | exact Or.inl rfl | exact Or.inr rfl) (pe_def d_law_names (hr.mono (by first | decide | omega)) (pa_cons (pe_op op_mod (pe_op op_mul (pe_def d_law_cell_at (hr.mono (by first | decide | omega)) (pa_cons (pv 0) (pa_cons pe_int pa_nil))) pe_int) pe_int) (pa_cons pe_int pa_nil))))
      (pss_cons (ps_set (i := 3) sc_law_program.nd rfl (by first | exact Or.inl rfl | exact Or.inr rfl) (pe_disp (pps_cons pe_str (pv 0) (pps_cons pe_str pe_int (pps_cons pe_str (pv 1) (pps_cons pe_str (pv 2) pps_nil)))) rfl rfl (by intro z; cases z) (by decide)))
      (pss_cons (ps_set (i := 4) sc_law_program.nd rfl (by first | exact Or.inl rfl | exact Or.inr rfl) (pe_lst pa_nil))
      (pss_cons (ps_while PassesOwn.never (PW.pt (pw_and (pt_cmpR op_gt (pe_dget hu (pv 3) pe_str (fun _ _ => rfl)) pe_int (nomark _)) (pw_and1 (pt_cmpR op_lt (pe_callB (len_k (K := K) rfl) (by rfl) c.len_ bt_len (pa_cons (pv 4) pa_nil)) (pe_op op_plus pe_int (pe_op op_mod (pe_def d_law_cell_at (hr.mono (by first | decide | omega)) (pa_cons (pv 0) (pa_cons pe_int pa_nil))) pe_int)) (nomark _))))) (pss_one (ps_expr (bm_k (K := K) rfl PySem.F.plainAttrs_list PySem.F.slot_list_append PySem.F.type_list_append mt_append (pv 4) (pa_cons (pe_def d_law_statement (hr.mono (by first | decide | omega)) (pa_cons (pv 3) (pa_cons (pe_op op_plus pe_int (pe_op op_mod (pe_def d_law_next (hr.mono (by first | decide | omega)) (pa_cons (pv 3) pa_nil)) pe_int)) (pa_cons pe_bl pa_nil)))) pa_nil)))))
      (pss_one (ps_ret (pe_tup (pa_cons pe_str (pa_cons (pe_callTy (tupof_k (K := K) rfl) (by rfl) c.tuple_ bt_tuple (pa_cons (pe_slice (sl_k (K := K) rfl) (pv 2) po_none (po_some (pe_op op_mod (pe_def d_law_cell_at (hr.mono (by first | decide | omega)) (pa_cons (pv 0) (pa_cons pe_int pa_nil))) pe_int))) pa_nil)) (pa_cons (pe_callTy (tupof_k (K := K) rfl) (by rfl) c.tuple_ bt_tuple (pa_cons (pv 4) pa_nil)) pa_nil)))))))))), ?_⟩
  clear hu
  refine ⟨_, rfl, a, ns, _, rfl, hS, by decide, fun i0 => ⟨_, _, rfl, rfl, .inr ⟨by decide, by decide⟩, _, _, rfl, rfl, (show (0 : Int) < 2147483647 by decide), ?_⟩⟩
  refine ⟨_, rfl, Int.emod_nonneg _ (by decide), Int.emod_lt_of_pos _ (by decide), fun names nm H1 good g1 hnm => ?_⟩
  refine fun st hst => ⟨_, rfl, _, rfl, _, rfl, upd_same, stK a 0 40 nm, rfl, (by decide : 4 ≤ 15), ?_⟩
  rw [merge_st]
  have u2 : upd (upd H1 st (.dK [])) st (.dK (stK a 0 40 nm)) = upd H1 st (.dK (stK a 0 40 nm)) := by
    funext b
    unfold upd
    split <;> rfl
  rw [u2]
  have gst := same_new hst (.dK (stK a 0 40 nm))
  have di0 : DIn K (upd H1 st (.dK (stK a 0 40 nm))) st a nm ns names 0 40 := ⟨upd_same, gst.seq (g1.seq hS), gst.seq (SqL.of hnm), good⟩
  have hst0 : H st = none := g1.free hst
  have g2 := g1.trans gst
  have hn2 := gst _ _ hnm
  have nst : nm ≠ st := fun z => by rw [z, hst] at hnm; cases hnm
  generalize upd H1 st (.dK (stK a 0 40 nm)) = H2 at di0 g2 hn2 ⊢
  refine ⟨(by decide : 0 ≤ sizeLine), fun pb hpb => ?_⟩
  have hpb0 : H pb = none := g2.free hpb
  have gpb := same_new hpb (.lst [])
  have nsp : pb ≠ st := fun z => by rw [z, di0.dict] at hpb; cases hpb
  have npb : nm ≠ pb := fun z => by rw [z, hpb] at hn2; cases hn2
  refine ⟨fun m σ H' => H' nm = some (.lst (names.map V.str)) ∧ ∃ ys ds k' l' s t, σ = [some (.ref a), some (.int 40), some (.ref nm), some (.ref st), some (.ref pb)] ∧ Same H H' ∧ DIn K H' st a nm ns names k' l' ∧ H' pb = some (.lst ys) ∧ Reps K H' ys ds ∧ Tre.fitAll ds = true ∧ Tre.Ptl (ds.map fun x => (x, ("statement" : Str))) true s t ∧
    ds.length + m = 6 ∧ (s : Int) = 40 - l' ∧ t ≤ 9 ∧ 0 ≤ k' ∧ k' + 4 * l' ≤ 160 + ds.length ∧ -113 ≤ l', ⟨6, gpb _ _ hn2, [], [], 0, 40, 0, 0, rfl, g2.trans gpb, di0.same gpb, upd_same, .nil, rfl, .nil, rfl, by decide, by decide, by decide, by decide, by decide⟩, ?_⟩
  rintro m σ H3 ⟨hn3, ys, ds, k', l', s, t, rfl, g3, di3, hb3, rs3, ff3, pt3, hm3, hs3, ht3, hk3, hkl3, hl3⟩
  have gL : DGet H3 st (.str "left") (some (.int l')) := by rw [← st_left a k' l' nm]; exact DGet.k (k := Sum.inr "left") di3.dict
  have hln := rs3.length
  refine ⟨_, rfl, st, _, rfl, gL, _, _, rfl, rfl, _, rfl, ?_⟩
  refine iteK (fun c1 hB => ?_) ?_
  · have c1' : 0 < l' := of_decide_eq_true c1
    refine ⟨_, rfl, _, _, rfl, .inl ⟨_, SqL.of hb3, rfl⟩, _, rfl, a, ns, _, rfl, di3.cells, by decide, fun i1 => ⟨_, _, rfl, rfl, (show (0 : Int) < 6 by decide), .inl ⟨_, _, rfl, rfl, _, _, rfl, rfl, _, rfl, ite2 (fun c2 => ?_) (fun c2 => of_iteF hB)⟩⟩⟩
    have c2' : ((ys.length : Nat) : Int) < 1 + i1 % 6 := of_decide_eq_true c2
    have c3 := Int.emod_lt_of_pos i1 (show (0 : Int) < 6 by decide)
    refine ⟨_, fun σ' H' h => h, ?_⟩
    refine ⟨_, rfl, .inl ⟨rfl, _, SqL.of hb3⟩, _, rfl, _, rfl, st, a, nm, ns, k', l', rfl, di3.dict, di3.cells, hk3, by omega, fun z H4 hz0 hz1 e4 => ?_⟩
    have di4 : DIn K H4 st a nm ns names (k' + 1) l' := e4 ▸ di3.put
    have sy4 : Stay st H3 H4 := e4 ▸ Stay.put di3.dict
    clear e4
    have z0 := Int.emod_nonneg z (show (6 : Int) ≠ 0 by decide)
    have z1 := Int.emod_lt_of_pos z (show (0 : Int) < 6 by decide)
    refine ⟨_, _, rfl, rfl, (show (0 : Int) < 6 by decide), .inl ⟨_, _, rfl, rfl, st, a, nm, ns, names, k' + 1, l', _, true, rfl, di4, (show 2 + z % 6 ≤ ((7 : Nat) : Int) by omega), by omega, by omega, by omega, by decide, fun H5 x d s2 t2 k2 l2 sy5 di5 rx fx px hs2 ht2 hk2 hkk2 b1 b2 => ?_⟩⟩
    have sy := sy4.trans sy5
    have hb5 : H5 pb = some (.lst ys) := sy.rest _ _ nsp hb3
    refine ⟨pb, _, _, rfl, rfl, hb5, by have : (10 : Nat) < sizeLine := (by decide); omega, ?_⟩
    have nx : Tre.noL d = true := (Tre.Tr.gd px.tr).nol
    have sm : Same H (upd H5 pb (.lst (ys ++ [x]))) := fun b o e => by
      have nb : b ≠ pb := fun z => by rw [z, hpb0] at e; cases e
      have nt : b ≠ st := fun z => by rw [z, hst0] at e; cases e
      rw [upd_ne nb]
      exact sy.rest b o nt (g3 b o e)
    have hn5 : upd H5 pb (.lst (ys ++ [x])) nm = some (.lst (names.map V.str)) := by
      rw [upd_ne npb]
      exact sy.rest _ _ nst hn3
    refine ⟨m - 1, by omega, hn5, ys ++ [x], ds ++ [d], k2, l2, s + s2, max t t2, rfl, sm, ⟨by rw [upd_ne (Ne.symm nsp)]; exact di5.dict, sm.seq hS, SqL.of hn5, good⟩, upd_same, ?_, fitAll_snoc ff3 fx, ?_, ?_, by omega, by omega, by omega, ?_, by omega⟩
    · exact Reps.put hb5 ((rs3.stay sy).append (.cons rx .nil)) (noLs_of (ds := ds ++ [d]) (by rw [List.map_append]; exact pt3.append (Tre.one_pt px)))
    · rw [List.map_append]
      exact pt3.append (Tre.one_pt px)
    · rw [List.length_append, List.length_singleton]
      omega
    · rw [List.length_append, List.length_singleton]
      omega
  · refine iteN rfl ?_
    refine ⟨_, rfl, _, rfl, a, ns, _, rfl, di3.cells, by decide, fun i2 => ⟨_, _, rfl, rfl, (show (0 : Int) < 5 by decide), _, rfl, .inl ⟨nm, _, rfl, di3.nms, fun p2 hp2 => ⟨p2, _, rfl, .inl ⟨SqL.of upd_same, fun p3 hp3 => ?_⟩⟩⟩⟩⟩
    have m0 := Int.emod_nonneg i2 (show (5 : Int) ≠ 0 by decide)
    have m1 := Int.emod_lt_of_pos i2 (show (0 : Int) < 5 by decide)
    obtain ⟨cut, ecut, hcut, hgood⟩ := cut_start good m0 (by omega)
    dsimp only at hp3 ⊢
    rw [ecut] at hp3 ⊢
    have g4 := same_new hp2 (.lst (cut.map V.str))
    have g5 := same_new hp3 (.tup (cut.map V.str))
    have h3 : upd (upd H3 p2 (.lst (cut.map V.str))) p3 (.tup (cut.map V.str)) p3 = some (.tup (cut.map V.str)) := upd_same
    have g45 := g4.trans g5
    generalize upd (upd H3 p2 (.lst (cut.map V.str))) p3 (.tup (cut.map V.str)) = H4 at h3 g45 ⊢
    refine ⟨_, rfl, pb, ys, rfl, .inl ⟨SqL.of (g45 _ _ hb3), fun p4 hp4 => ⟨(by decide : 3 ≤ sizeLine), fun p5 hp5 => ?_⟩⟩⟩
    have ga := same_new hp4 (.tup ys)
    have gb := same_new hp5 (.tup [.str "main", .ref p3, .ref p4])
    have gc := ga.trans gb
    have fcut : Tre.fitAll (cut.map PyData.str) = true := Tre.fitAll_of fun d hd => by
      obtain ⟨x, hx, rfl⟩ := List.mem_map.mp hd
      exact name_fit (hgood x hx)
    refine q _ _ (.tuple [.str "main", .tuple (cut.map PyData.str), .tuple ds]) (s + 1) (t + 1) ((g3.trans g45).trans gc) (.tup (SqT.of upd_same) (.cons (.str _) (.cons (.tup (gc.sqT (SqT.of h3)) (Reps.strs cut)) (.cons (.tup (gb.sqT (SqT.of upd_same)) ((rs3.same g45).same gc)) .nil)))) ?_ (Tre.pt_main hcut ⟨by omega, pt3⟩) (by omega) (by omega)
    exact fitTup (fitC (by decide +kernel) (fitC (fitTup fcut) (fitC (fitTup ff3) rfl)))
end
end Mine

namespace Mine
open PySem L2
section
variable {P : Program} {w : World} {K : PySem.W.Frag} {mg : Str → Option Value} {base : Heap} {f : Addr} {fd : FuncData} {ad : Ad}
theorem isi_tup (t : PyData) : isi (tyD t) "tuple" = Tre.isTup t := by
  cases t with
  | none => exact (by decide : isi "NoneType" "tuple" = false)
  | bool _ => exact (by decide : isi "bool" "tuple" = false)
  | int _ => exact (by decide : isi "int" "tuple" = false)
  | str _ => exact (by decide : isi "str" "tuple" = false)
  | list _ => exact (by decide : isi "list" "tuple" = false)
  | tuple _ => exact (by decide : isi "tuple" "tuple" = true)
  | dict _ => exact (by decide : isi "dict" "tuple" = false)
theorem isi_part (x : PyData) (r : List PyData) : isi (tyD x) "str" = Tre.isPart (.tuple (x :: r)) := by
  cases x with
  | none => exact (by decide : isi "NoneType" "str" = false)
  | bool _ => exact (by decide : isi "bool" "str" = false)
  | int _ => exact (by decide : isi "int" "str" = false)
  | str _ => exact (by decide : isi "str" "str" = true)
  | list _ => exact (by decide : isi "list" "str" = false)
  | tuple _ => exact (by decide : isi "tuple" "str" = false)
  | dict _ => exact (by decide : isi "dict" "str" = false)
theorem in_holds (h : Str) : inV (.str h) [.str "main", .str "fun", .str "loop"] = Tre.holds h := by
  have c : ∀ a b : Str, (a == b) = (b == a) := fun a b => by
    rw [Bool.eq_iff_iff, beq_iff_eq, beq_iff_eq]
    exact eq_comm
  unfold inV Tre.holds
  rw [List.any_cons, List.any_cons, List.any_cons, List.any_nil, Bool.or_false]
  show (((("main" : Str) == h)) || ((("fun" : Str) == h) || (("loop" : Str) == h))) = _
  rw [c, c "fun", c "loop"]
theorem comp_filT {a : Addr} {tt : TT} {σ : St} {H H0 : Hp} {Q : VK} {xs : List V} {ds : List PyData} (hq : SqT K H a xs) (hr : Reps K H0 xs ds) (p : PyData → Bool) (hz : ds.length ≤ sizeLine)
    (step : ∀ (x : V) (d : PyData) (R : Bool → Hp → Prop), Rep K H0 x d → R (p d) H → tt [some x] H R) (fin : ∀ D vs, H D = none → Reps K H0 vs (ds.filter p) → Q (.ref D) (upd H D (.lst vs))) : CompW (Itt K a) [none] (gName 0) tt (tVar 0) σ H Q := by
  have hlen := hr.length
  refine comp_it ds.length (fun i ys H' => H' = H ∧ Reps K H0 ys ((ds.take i).filter p) ∧ ys.length ≤ i) ⟨rfl, .nil, Nat.le_refl _⟩ (fun i ys H' h => h.2.2) hz (fun i ys H' hi h => ?_) (fun ys H' h => ?_)
  · obtain ⟨rfl, rr, hy⟩ := h
    have hx : xs[i]? = some xs[i] := List.getElem?_eq_getElem (by omega)
    refine ⟨⟨xs, xs[i], hq, hx⟩, fun v H2 yl => ?_⟩
    obtain ⟨rfl, hv⟩ := yl
    have e := (hx.symm.trans (hv xs hq))
    cases e
    obtain ⟨d, hd, rd⟩ := hr.get hx
    have e2 : (ds.take (i + 1)).filter p = (ds.take i).filter p ++ (if p d = true then [d] else []) := by
      rw [List.take_add_one, hd, List.filter_append]
      congr 1
      show List.filter p [d] = _
      by_cases z : p d = true
      · rw [if_pos z, List.filter_cons, if_pos z, List.filter_nil]
      · rw [if_neg z, List.filter_cons, if_neg z, List.filter_nil]
    refine step _ d _ rd (ite2 (fun z => ⟨_, rfl, rfl, ?_, ?_⟩) (fun z => ⟨rfl, ?_, Nat.le_succ_of_le hy⟩))
    · rw [e2, if_pos z]
      exact rr.append (.cons rd .nil)
    · rw [List.length_append]
      exact Nat.succ_le_succ hy
    · rw [e2, if_neg z, List.append_nil]
      exact rr
  · obtain ⟨rfl, rr, _⟩ := h
    rw [List.take_length] at rr
    refine ⟨⟨xs, hq, by omega⟩, fun D hD => fin D ys hD rr⟩
theorem elif_ok {H H0 H6 : Hp} {a a1 pf : Addr} {vs1 zs : List V} {xs pre more : List PyData} {i : Nat} {o3 : Option V} {D : Ends} (gA : Same H0 H6) (g2 : Same H H6) (hq1 : SqT K H0 a1 vs1) (rs1 : Reps K H0 vs1 xs) (x12 : xs.length ≤ 12) (h0 : H6 pf = some (.lst zs)) (rz : Reps K H0 zs pre) (hz : zs.length ≤ 12 * i) (hi : i < 6) (ei : more = xs.filter Tre.isTup) (m12 : more.length ≤ 12)
    (hD : ∀ (p3 : Addr) (zs' : List V) (H' : Hp), Same H6 H' → H p3 = none → H' p3 = some (.lst zs') → Reps K H0 zs' (pre ++ more) → zs'.length ≤ 12 * (i + 1) → D.nx [some (.ref a), some (.ref p3), some (.ref a1), o3] H') :
    tIfS (tB (tCB (fun xs H Q => ∃ x d T, xs = [x, V.ty T] ∧ Rep K H x d ∧ T ∈ ["bool", "int", "str", "list", "tuple"] ∧ Q (V.bl (isi (tyD d) T)) H) (tCons (tVar 2) (tCons (tC (V.ty "tuple")) tNil)))) (tAsg (tOp rPlus (tVar 1) (tComp (iSeq K (tVar 2)) [none] (gName 0) (tB (tCB (fun xs H Q => ∃ x d T, xs = [x, V.ty T] ∧ Rep K H x d ∧ T ∈ ["bool", "int", "str", "list", "tuple"] ∧ Q (V.bl (isi (tyD d) T)) H) (tCons (tVar 0) (tCons (tC (V.ty "tuple")) tNil)))) (tVar 0))) (gName 1)) tNext D [some (.ref a), some (.ref pf), some (.ref a1), o3] H6 := by
  have rt : Rep K H6 (.ref a1) (.tuple xs) := (Rep.tup hq1 rs1).same gA
  refine ⟨_, rfl, _, _, "tuple", rfl, rt, by decide, _, rfl, iteP ((isi_tup _).trans rfl) ?_⟩
  refine ⟨_, rfl, _, rfl, .inr (.inl ⟨a1, rfl, ⟨_, gA.sqT hq1⟩, comp_filT (gA.sqT hq1) rs1 Tre.isTup (Nat.le_trans x12 (by decide)) (fun x d R rd hR => ⟨_, rfl, _, d, "tuple", rfl, rd.same gA, by decide, _, rfl, by rw [isi_tup]; exact hR⟩) (fun L vs hL rv => ?_)⟩)⟩
  have gD := same_new hL (.lst vs)
  have hvl := rv.length
  rw [← ei] at hvl rv
  refine .inr (.inr ⟨pf, L, zs, vs, rfl, rfl, gD _ _ h0, upd_same, by have : (200 : Nat) < sizeLine := (by decide); omega, fun p3 hp3 => ?_⟩)
  refine hD p3 (zs ++ vs) _ (gD.trans (same_new hp3 _)) ((g2.trans gD).free hp3) upd_same (rz.append rv) ?_
  rw [List.length_append]
  omega
noncomputable def spLI (K : PySem.W.Frag) : Sp := fun vs H Q _ => ∃ x d s t H0, vs = [x] ∧ Same H0 H ∧ Rep K H0 x d ∧ Tre.Tr d s t ∧ t ≤ 30 ∧ ∀ H' p zs, Same H H' → H p = none → H' p = some (.lst zs) → Reps K H0 zs (Tre.kids d) → Q (.ref p) H'
theorem ok_law_inner (F : Fun K "_law_inner" "_law_inner" s_law_inner f fd) (c : Cs K mg ad) : FnOk P w K mg base CX0 1 f fd ["_law_part"] (spLI K) := by
  refine F.ok sc_law_inner (fun vs H Q E h => ?_) (fun cdv A outer s H vs Q E hr h => ?_)
  · obtain ⟨x, d, s, t, H0, rfl, _⟩ := h
    rfl
  obtain ⟨x, d, s, t, H0, rfl, gH, hk, tr, ht, q⟩ := h
  have hu64 := hr.units
  refine ⟨_, (pss_cons (ps_set (i := 1) sc_law_inner.nd rfl (by first | exact Or.inl rfl | exact Or.inr rfl) (pe_lst pa_nil))
      (pss_cons (ps_for PassesOwn.never rfl (pi_k (K := K) rfl (pe_slice (sl_k (K := K) rfl) (pv 0) (po_some pe_int) po_none)) (pg_name (i := 2) sc_law_inner.nd rfl (by first | exact Or.inl rfl | exact Or.inr rfl)) (pss_cons (ps_set (i := 3) sc_law_inner.nd rfl (by first | exact Or.inl rfl | exact Or.inr rfl) (pe_and (pe_callB (isiD_k (K := K) rfl) (by rfl) c.isinstance_ bt_isinstance (pa_cons (pv 2) (pa_cons (pe_ty c.tuple_ bt_tuple) pa_nil))) (pe_and (pe_cmpR (neD_k (K := K) rfl hu64) (pv 2) (pe_tup pa_nil) (nomark _)) (pe_one (pe_callB (isiD_k (K := K) rfl) (by rfl) c.isinstance_ bt_isinstance (pa_cons (pe_ix (ix_k (K := K) rfl) (pv 2) pe_int (fun _ _ => rfl)) (pa_cons (pe_ty c.str_ bt_str) pa_nil)))))))
      (pss_one (ps_if (PW.pt (pw_and (pt_val (pv 3)) (pw_and1 (pt_cmpR (nin_k (K := K) rfl) (pe_ix (ix_k (K := K) rfl) (pv 0) pe_int (fun _ _ => rfl)) (pe_tup (pa_cons pe_str (pa_cons pe_str (pa_cons pe_str pa_nil)))) rfl)))) (pss_one (ps_expr (bm_k (K := K) rfl PySem.F.plainAttrs_list PySem.F.slot_list_append PySem.F.type_list_append mt_append (pv 1) (pa_cons (pv 2) pa_nil)))) (pss_one (ps_if (pt_val (pe_callB (isiD_k (K := K) rfl) (by rfl) c.isinstance_ bt_isinstance (pa_cons (pv 2) (pa_cons (pe_ty c.tuple_ bt_tuple) pa_nil)))) (pss_one (ps_set (i := 1) sc_law_inner.nd rfl (by first | exact Or.inl rfl | exact Or.inr rfl) (pe_op op_plus (pv 1) (pe_comp (sc := defScope s_law_inner) (NX := ["_law_part", "_law_found", "_law_thing", "_law_is_part"]) (N := ["_law_one"]) (js := [none]) (pi_k (K := K) rfl (pv 2)) (fun _ _ _ _ _ => (pg_name (i := 0) (show (["_law_one"] : List Str).Nodup by decide +kernel) rfl (Or.inl rfl))) (fun _ _ _ _ _ => (pf_one (pt_val (pe_callB (isiD_k (K := K) rfl) (by rfl) c.isinstance_ bt_isinstance (pa_cons (pv 0) (pa_cons (pe_ty c.tuple_ bt_tuple) pa_nil)))))) (fun _ _ _ _ _ => (pv 0)) (own_name rfl) ⟨by decide +kernel, rfl, by decide +kernel, by decide +kernel, rfl, by decide +kernel⟩)))) pss_nil))))))
      (pss_one (ps_ret (pv 1))))), ?_⟩
  clear hu64
  have gd := tr.gd
  cases tr with
  | @mk _ sh hands s t hf tl =>
    obtain ⟨hd, ts, fs, l, rfl, _, _, e, h5, hl, hs, _⟩ := Tre.hasForm_is hf
    have kf := tl.forms
    have ek : Tre.kids (.tuple (.str hd :: ts)) = (ts.zip fs).flatMap fun p => (Tre.innerAt p.1 p.2).map (·.1) := by
      unfold Tre.kids
      rw [Tre.inner_of' e, List.map_flatMap]
    cases hk with
    | @tup a xs ds hq rs =>
      cases rs with
      | @cons y ys _ _ r rs =>
        cases r
        have hys := rs.length
        refine ⟨(by decide : 0 ≤ sizeLine), fun p0 hp0 => ?_⟩
        have g0 := same_new hp0 (.lst [])
        refine ⟨_, rfl, _, rfl, .inr (.inr ⟨a, _, rfl, (gH.trans g0).sqT hq, cut1_ok _ _, fun p1 hp1 => ?_⟩)⟩
        rw [cut1]
        have g1 := g0.trans (same_new hp1 (.tup ys))
        have n01 : p0 ≠ p1 := ne_of_none upd_same hp1
        refine .inr (.inl ⟨p1, rfl, ⟨ys, SqT.of upd_same⟩, ?_⟩)
        refine for_it ts.length (fun i σ H' => ∃ pf zs o2 o3, σ = [some (.ref a), some (.ref pf), o2, o3] ∧ Same H H' ∧ H pf = none ∧ H' p1 = some (.tup ys) ∧ H' pf = some (.lst zs) ∧ Reps K H0 zs (((ts.zip fs).take i).flatMap fun p => (Tre.innerAt p.1 p.2).map (·.1)) ∧ zs.length ≤ 12 * i) ?_ (fun i σ H2 hi h => ?_) (fun σ H2 h => ?_)
        · exact ⟨p0, [], none, none, rfl, g1, hp0, upd_same, by rw [upd_ne n01]; exact upd_same, .nil, Nat.le_refl _⟩
        · obtain ⟨pf, zs, o2, o3, rfl, g2, hpf, h1, h0, rz, hz⟩ := h
          have hx : ys[i]? = some ys[i] := List.getElem?_eq_getElem (by omega)
          refine ⟨⟨ys, _, SqT.of h1, hx⟩, fun v H3 yl => ?_⟩
          obtain ⟨rfl, hv⟩ := yl
          have ev := hx.symm.trans (hv ys (SqT.of h1))
          cases ev
          obtain ⟨t, hti, rt⟩ := rs.get hx
          have hfi : fs[i]? = some (fs[i]'(by omega)) := List.getElem?_eq_getElem (by omega)
          generalize fs[i]'(by omega) = f at hfi
          have hzi : (ts.zip fs)[i]? = some (t, f) := by rw [List.getElem?_zip_eq_some]; exact ⟨hti, hfi⟩
          have hmem := List.mem_of_getElem? hzi
          have hkin : ∀ z ∈ Tre.innerAt t f, z.1 ∈ Tre.kids (.tuple (.str hd :: ts)) := fun z hz => by
            rw [ek]
            exact List.mem_flatMap.mpr ⟨_, hmem, List.mem_map_of_mem hz⟩
          have it := Tre.item_is (t := t) (f := f) e (List.mem_of_getElem? hfi) (hs _ hmem) fun z hz => kf z.1 (hkin z hz)
          have i12 : (Tre.innerAt t f).length ≤ 12 := Tre.innerAt_le (hs _ hmem)
          have gt : Tre.Gd 64 t := (gd.mem t (List.mem_cons_of_mem _ (List.mem_of_getElem? hti))).mono (by omega)
          have tk : ((ts.zip fs).take (i + 1)).flatMap (fun p => (Tre.innerAt p.1 p.2).map (·.1)) = ((ts.zip fs).take i).flatMap (fun p => (Tre.innerAt p.1 p.2).map (·.1)) ++ (Tre.innerAt t f).map (·.1) := by
            rw [List.take_add_one, hzi, List.flatMap_append]
            congr 1
            show List.flatMap _ [(t, f)] = _
            rw [List.flatMap_cons, List.flatMap_nil, List.append_nil]
          have gA := gH.trans g2
          have npf : p1 ≠ pf := fun z => by rw [z, h0] at h1; cases h1
          generalize ys[i]'(by omega) = v at hx hv rt ⊢
          rw [tk]
          have rt3 := rt.same gA
          rcases it with ⟨tn, ei⟩ | ⟨tp, nh, ei⟩ | ⟨xs, rfl, nb, x12, ei⟩
          · refine ⟨_, rfl, _, t, "tuple", rfl, rt3, by decide, _, rfl, iteN ((isi_tup t).trans tn) ?_⟩
            refine ⟨_, rfl, _, rfl, iteN rfl (iteN rfl ?_)⟩
            refine ⟨_, rfl, _, t, "tuple", rfl, rt3, by decide, _, rfl, iteN ((isi_tup t).trans tn) ?_⟩
            refine ⟨pf, zs, _, _, rfl, g2, hpf, h1, h0, ?_, by omega⟩
            rw [ei, List.append_nil]
            exact rz
          · obtain ⟨z, r, rfl⟩ : ∃ z r, t = .tuple (.str z :: r) := by
              cases t with
              | tuple xs =>
                cases xs with
                | nil => cases tp
                | cons x r =>
                  cases x with
                  | str z => exact ⟨z, r, rfl⟩
                  | _ => cases tp
              | _ => cases tp
            cases rt with
            | @tup a1 vs1 _ hq1 rs1 =>
              cases rs1 with
              | @cons y1 vs1 _ _ r1 rs1 =>
                cases r1
                refine ⟨_, rfl, _, _, "tuple", rfl, rt3, by decide, _, rfl, iteP ((isi_tup _).trans rfl) ?_⟩
                refine ⟨_, rfl, (by decide : 0 ≤ sizeLine), fun p2 hp2 => ?_⟩
                have g3 := same_new hp2 (.tup [])
                refine ⟨_, .tuple [], rt3.same g3, .tup (SqT.of upd_same) .nil, gt.shaped (Nat.le_refl _), by decide, _, rfl, iteP rfl ?_⟩
                refine ⟨_, rfl, .inr (.inl ⟨a1, _, 0, _, rfl, rfl, (gA.trans g3).sqT hq1, atI_nat (j := 0) rfl, _, .str z, "str", rfl, .str _, by decide, ?_⟩)⟩
                generalize hH4 : upd H3 p2 (.tup []) = H4 at g3 ⊢
                refine ⟨_, rfl, _, rfl, iteP (show isi "str" "str" = true by decide) ?_⟩
                refine ⟨_, rfl, .inr (.inl ⟨a, _, 0, _, rfl, rfl, (gA.trans g3).sqT hq, atI_nat (j := 0) rfl, (by decide : 3 ≤ sizeLine), fun p3 hp3 => ?_⟩)⟩
                have g4 := same_new hp3 (.tup [.str "main", .str "fun", .str "loop"])
                refine ⟨p3, _, rfl, .inr (SqT.of upd_same), rfl, rfl, _, rfl, iteP (show (!inV _ _) = true by rw [in_holds, nh]; rfl) ?_⟩
                have g5 := g3.trans g4
                generalize upd H4 p3 (.tup [.str "main", .str "fun", .str "loop"]) = H5 at g5 ⊢
                refine ⟨_, rfl, .inl ⟨rfl, _, SqL.of (g5 _ _ h0)⟩, _, rfl, pf, _, _, rfl, rfl, g5 _ _ h0, by have : (100 : Nat) < sizeLine := (by decide); omega, ?_⟩
                refine ⟨pf, _, _, _, rfl, same_write (g2.trans g5) hpf _, hpf, by rw [upd_ne npf]; exact g5 _ _ h1, upd_same, ?_, ?_⟩
                · rw [ei]
                  exact rz.append (.cons (.tup hq1 (.cons (.str _) rs1)) .nil)
                · rw [List.length_append, List.length_singleton]
                  omega
          · cases rt with
            | @tup a1 vs1 _ hq1 rs1 =>
              refine ⟨_, rfl, _, _, "tuple", rfl, rt3, by decide, _, rfl, iteP ((isi_tup _).trans rfl) ?_⟩
              refine ⟨_, rfl, (by decide : 0 ≤ sizeLine), fun p2 hp2 => ?_⟩
              have g3 := same_new hp2 (.tup [])
              refine ⟨_, .tuple [], rt3.same g3, .tup (SqT.of upd_same) .nil, gt.shaped (Nat.le_refl _), by decide, _, rfl, ?_⟩
              generalize upd H3 p2 (.tup []) = H4 at g3 ⊢
              cases xs with
              | nil =>
                refine iteN rfl ?_
                refine ⟨_, rfl, _, rfl, iteN rfl (iteN rfl ?_)⟩
                generalize H4 = H6 at g3 ⊢
                have g6 := g3
                exact elif_ok (gA.trans g6) (g2.trans g6) hq1 rs1 x12 (g6 _ _ h0) rz hz (by omega) ei (by rw [List.length_map]; exact i12) (fun p3 zs' H' g hp3 h3 rr hl => ⟨p3, zs', _, _, rfl, g2.trans (g6.trans g), hp3, (g6.trans g) _ _ h1, h3, rr, hl⟩)
              | cons x0 r =>
                cases hrs : rs1 with
                | @cons y1 vs2 _ _ r1 rs2 =>
                  refine iteP rfl ?_
                  refine ⟨_, rfl, .inr (.inl ⟨a1, _, 0, _, rfl, rfl, (gA.trans g3).sqT hq1, atI_nat (j := 0) rfl, _, x0, "str", rfl, r1.same (gA.trans g3), by decide, ?_⟩)⟩
                  refine ⟨_, rfl, _, rfl, ?_⟩
                  have eb := isi_part x0 r
                  by_cases hb : Tre.isPart (.tuple (x0 :: r)) = true
                  · have hh : Tre.holds hd = true := by
                      rw [hb, Bool.true_and] at nb
                      simpa using nb
                    refine iteP (eb.trans hb) ?_
                    refine ⟨_, rfl, .inr (.inl ⟨a, _, 0, _, rfl, rfl, (gA.trans g3).sqT hq, atI_nat (j := 0) rfl, (by decide : 3 ≤ sizeLine), fun p3 hp3 => ?_⟩)⟩
                    have g4 := same_new hp3 (.tup [.str "main", .str "fun", .str "loop"])
                    refine ⟨p3, _, rfl, .inr (SqT.of upd_same), rfl, rfl, _, rfl, iteN (show (!inV _ _) = false by rw [in_holds, hh]; rfl) ?_⟩
                    have g6 := g3.trans g4
                    generalize upd H4 p3 (.tup [.str "main", .str "fun", .str "loop"]) = H6 at g6 ⊢
                    exact elif_ok (gA.trans g6) (g2.trans g6) hq1 rs1 x12 (g6 _ _ h0) rz hz (by omega) ei (by rw [List.length_map]; exact i12) (fun p3 zs' H' g hp3 h3 rr hl => ⟨p3, zs', _, _, rfl, g2.trans (g6.trans g), hp3, (g6.trans g) _ _ h1, h3, rr, hl⟩)
                  · refine iteN (eb.trans (Bool.eq_false_iff.mpr hb)) (iteN rfl ?_)
                    generalize H4 = H6 at g3 ⊢
                    have g6 := g3
                    exact elif_ok (gA.trans g6) (g2.trans g6) hq1 rs1 x12 (g6 _ _ h0) rz hz (by omega) ei (by rw [List.length_map]; exact i12) (fun p3 zs' H' g hp3 h3 rr hl => ⟨p3, zs', _, _, rfl, g2.trans (g6.trans g), hp3, (g6.trans g) _ _ h1, h3, rr, hl⟩)
        · obtain ⟨pf, zs, o2, o3, rfl, g2, hpf, h1, h0, rz, hz⟩ := h
          refine ⟨⟨ys, SqT.of h1, by omega⟩, _, rfl, q _ pf zs g2 hpf h0 ?_⟩
          rw [ek]
          rw [List.take_of_length_le (by rw [List.length_zip]; omega)] at rz
          exact rz
end
end Mine

namespace L2
open PySem PySem.Spec PyProof.Rows
theorem Reps.rev {K : PySem.W.Frag} {H : Hp} : ∀ {xs : List V} {ds : List PyData}, Reps K H xs ds → Reps K H xs.reverse ds.reverse
  | _, _, .nil => .nil
  | _, _, .cons h t => by
    rw [List.reverse_cons, List.reverse_cons]
    exact (Reps.rev t).append (.cons h .nil)
end L2
namespace Mine
open PySem L2
structure Tb2 (K : PySem.W.Frag) (mg : Str → Option Value) : Prop where
  INNER_KINDS : ∃ a, mg "INNER_KINDS" = some (.ref a) ∧ ∀ H : Hp, SqT K H a ((["fun", "loop"] : List Str).map V.str)
section
variable {P : Program} {w : World} {K : PySem.W.Frag} {mg : Str → Option Value} {base : Heap} {f : Addr} {fd : FuncData} {ad : Ad}
theorem in_kinds (h : Str) : (decide (V.str h = V.str "main") || inV (.str h) [.str "fun", .str "loop"]) = Tre.holds h := by
  have c : ∀ a b : Str, (a == b) = (b == a) := fun a b => by
    rw [Bool.eq_iff_iff, beq_iff_eq, beq_iff_eq]
    exact eq_comm
  have e : decide (V.str h = V.str "main") = (h == "main") := by
    rw [Bool.eq_iff_iff, decide_eq_true_iff, beq_iff_eq]
    exact ⟨fun z => V.str.inj z, fun z => congrArg V.str z⟩
  unfold inV Tre.holds
  rw [e, List.any_cons, List.any_cons, List.any_nil, Bool.or_false]
  show (_ || ((("fun" : Str) == h) || (("loop" : Str) == h))) = _
  rw [c "fun", c "loop"]
theorem noLs_snoc : ∀ {xs : List PyData} {x : PyData}, Tre.noLs xs = true → Tre.noL x = true → Tre.noLs (xs ++ [x]) = true
  | [], x, _, h => by
    show Tre.noLs [x] = true
    rw [Tre.noLs, Tre.noLs, h]
    rfl
  | y :: r, x, h, h' => by
    rw [Tre.noLs, Bool.and_eq_true] at h
    rw [List.cons_append, Tre.noLs, h.1, noLs_snoc h.2 h']
    rfl
theorem noLs_rev : ∀ {xs : List PyData}, Tre.noLs xs = true → Tre.noLs xs.reverse = true
  | [], _ => rfl
  | y :: r, h => by
    rw [Tre.noLs, Bool.and_eq_true] at h
    rw [List.reverse_cons]
    exact noLs_snoc (noLs_rev h.2) h.1
noncomputable def spFuns (K : PySem.W.Frag) : Sp := fun vs H Q _ => ∃ x d s t, vs = [x] ∧ Rep K H x d ∧ Tre.fit d = true ∧ Tre.Pt d "program" false s t ∧ s ≤ 300 ∧ t ≤ 20 ∧ ∀ H' p zs, Same H H' → H p = none → H' p = some (.lst zs) → Reps K H' zs (Tre.funs d) → Q (.ref p) H'
noncomputable def PvF (K : PySem.W.Frag) (H : Hp) (x : V) (pf pa : Addr) (fin : List PyData) (m : Nat) (σ : St) (H' : Hp) : Prop := ∃ (zs vs : List V) (acc : List PyData) (tops : List (PyData × PyData)) (o3 o4 o5 : Option V), σ = [some x, some (.ref pf), some (.ref pa), o3, o4, o5] ∧ Same H H' ∧ H' pf = some (.lst zs) ∧ H' pa = some (.lst vs.reverse) ∧
  Reps K H' zs acc ∧ Reps K H' vs (tops.map Tre.pairD) ∧ Tre.Stk tops m ∧ Tre.noLs acc = true ∧ Tre.ahead tops acc = fin ∧ acc.length + m ≤ 300
theorem ext_ok {H H4 : Hp} {x yo : V} {pf pa a2 : Addr} {fin : List PyData} {o3 : Option V} {zs4 vs' : List V} {acc4 : List PyData} {r : List (PyData × PyData)} {d1 o' : PyData} {sh : Str} {hands : Bool} {s0 t0 m1 : Nat} {D : Ends}
    (npa : pf ≠ pa) (hpa0 : H pa = none) (g4 : Same H H4) (hz4 : H4 pf = some (.lst zs4)) (hv4 : H4 pa = some (.lst vs'.reverse)) (rz4 : Reps K H4 zs4 acc4) (rv4 : Reps K H4 vs' (r.map Tre.pairD)) (rd4 : Rep K H4 (.ref a2) d1) (ro4 : Rep K H4 yo o') (go : Tre.Gd 0 o') (nol4 : Tre.noLs acc4 = true)
    (hf1 : Tre.hasForm d1 sh hands = true) (tl : Tre.Trl (Tre.kids d1) s0 t0) (ht : t0 ≤ 19) (stk1 : Tre.Stk r m1) (hlen : acc4.length + (s0 + m1) ≤ 300) (hfin : Tre.ahead r (Tre.each 30 (Tre.kids d1) o' acc4) = fin) (hD : ∀ σ' H', PvF K H x pf pa fin (s0 + m1) σ' H' → D.nx σ' H') :
    tDrop (tBM K "list" rExtend (tVar 2) (tCons (tComp (iRev K (tCons (tCall (spInnerOf K) [] E0 (tCons (tVar 4) tNil)) tNil)) [none, some 5] (gName 0) tYes (tTup (tCons (tVar 0) (tCons (tVar 1) tNil)))) tNil)) D [some x, some (.ref pf), some (.ref pa), o3, some (.ref a2), some yo] H4 := by
  have k60 := Tre.kids_le hf1
  have hvl := rv4.length
  rw [List.length_map] at hvl
  have skl := stk1.len
  have big : (2000 : Nat) < sizeLine := by decide
  refine ⟨_, rfl, .inl ⟨rfl, _, SqL.of hv4⟩, _, rfl, _, d1, sh, hands, H4, rfl, Same.refl _, rd4, hf1, fun H5 p5 ks g5 hp5 hl5 rk => ⟨p5, ks, rfl, SqL.of hl5, ?_⟩⟩
  have hkl := rk.length
  refine comp_it ks.length (fun i ys H' => Same H5 H' ∧ Reps K H' ys (((Tre.kids d1).reverse.take i).map fun e => Tre.pairD (e, o'))) ⟨Same.refl _, .nil⟩ (fun i ys H' h => ?_) (by omega) (fun i ys H' hi h => ?_) (fun ys H' h => ?_)
  · rw [h.2.length, List.length_map]
    exact List.length_take_le _ _
  · obtain ⟨g6, ry⟩ := h
    refine ⟨⟨hi, ks, SqL.of (g6 _ _ hl5), rfl⟩, fun v H6 yl => ?_⟩
    obtain ⟨rfl, hv⟩ := yl
    have hx := hv ks (SqL.of (g6 _ _ hl5))
    obtain ⟨e, he, re⟩ := rk.get hx
    have hre : (Tre.kids d1).reverse[i]? = some e := by
      rw [List.getElem?_reverse (by omega), ← hkl]
      exact he
    refine ⟨_, rfl, _, rfl, (by decide : 2 ≤ sizeLine), fun p hp => ⟨g6.trans (same_new hp _), ?_⟩⟩
    have g7 := same_new hp (.tup [v, yo])
    rw [List.take_add_one, hre, List.map_append]
    exact (ry.same g7).append (.cons (.tup (SqT.of upd_same) (.cons (re.same ((g5.trans g6).trans g7)) (.cons (ro4.same ((g5.trans g6).trans g7)) .nil))) .nil)
  · obtain ⟨g6, ry⟩ := h
    rw [List.take_of_length_le (by rw [List.length_reverse]; omega)] at ry
    have hyl := ry.length
    rw [List.length_map, List.length_reverse] at hyl
    refine ⟨by show ks.length ≤ ks.length; exact Nat.le_refl _, fun L hL => ?_⟩
    have gL := (g5.trans g6).trans (same_new hL (.lst ys))
    have hvL := gL _ _ hv4
    refine ⟨pa, L, vs'.reverse, ys, rfl, rfl, hvL, upd_same, by rw [List.length_reverse]; omega, hD _ _ ?_⟩
    have nps : Tre.noLs ((Tre.kids d1).reverse.map fun e => Tre.pairD (e, o')) = true := by
      have q := (Tre.Stk.push go .nil tl (by omega)).nol
      rw [List.append_nil, List.map_map] at q
      rw [List.map_reverse]
      exact noLs_rev q
    refine ⟨zs4, ys.reverse ++ vs', acc4, (Tre.kids d1).map (fun e => (e, o')) ++ r, _, _, _, rfl, same_write (g4.trans gL) hpa0 _, by rw [upd_ne npa]; exact gL _ _ hz4, ?_, Reps.put hvL (rz4.same gL) nol4, ?_, Tre.Stk.push go stk1 tl (by omega), nol4, by rw [Tre.ahead_push]; exact hfin, hlen⟩
    · rw [upd_same, List.reverse_append, List.reverse_reverse]
    · rw [List.map_append, List.map_map]
      have r1 := Reps.put (o' := .lst (vs'.reverse ++ ys)) hvL (ry.same (same_new hL (.lst ys))) nps
      have r2 := r1.rev
      rw [List.map_reverse, List.reverse_reverse] at r2
      exact r2.append (Reps.put hvL (rv4.same gL) stk1.nol)
theorem put_fn {H H3 : Hp} {x y2 ya yb : V} {pf pa a2 : Addr} {o3 : Option V} {zs vs' : List V} {acc : List PyData} {r : List (PyData × PyData)} {hd : Str} {da db o1 : PyData} {D : Ends} (npa : pf ≠ pa) (hpf0 : H pf = none) (g3 : Same H H3) (hz3 : H3 pf = some (.lst zs)) (hv3 : H3 pa = some (.lst vs'.reverse)) (rz3 : Reps K H3 zs acc) (rv3 : Reps K H3 vs' (r.map Tre.pairD))
    (nrv : Tre.noLs (r.map Tre.pairD) = true) (hq2 : SqT K H3 a2 [.str hd, ya, yb]) (ra : Rep K H3 ya da) (rb : Rep K H3 yb db) (ro : Rep K H3 y2 o1) (nd : Tre.noL (.tuple [.str hd, da, db]) = true) (nfn : Tre.noL (.tuple [.str hd, da, db, o1]) = true) (nol : Tre.noLs acc = true) (hlen : acc.length ≤ 1000)
    (hD : ∀ H4 zs4, Same H H4 → H4 pf = some (.lst zs4) → H4 pa = some (.lst vs'.reverse) → Reps K H4 zs4 (acc ++ [.tuple [.str hd, da, db, o1]]) → Reps K H4 vs' (r.map Tre.pairD) → Rep K H4 (.ref a2) (.tuple [.str hd, da, db]) → D.nx [some x, some (.ref pf), some (.ref pa), o3, some (.ref a2), some (.int (acc.length : Nat))] H4) :
    tSeq (tDrop (tBM K "list" rAppend (tVar 1) (tCons (tTup (tCons (tOp (rIx K) (tVar 4) (tC (V.int 0))) (tCons (tOp (rIx K) (tVar 4) (tC (V.int 1))) (tCons (tOp (rIx K) (tVar 4) (tC (V.int 2))) (tCons (tVar 5) tNil))))) tNil)))
      (tAsg (tOp (rI0 fun i j => V.int (i - j)) (tCB (fun xs H Q => ∃ x n, xs = [x] ∧ LenV K x H n ∧ Q (V.int ↑n) H) (tCons (tVar 1) tNil)) (tC (V.int 1))) (gName 5)) D [some x, some (.ref pf), some (.ref pa), o3, some (.ref a2), some y2] H3 := by
  have hzl := rz3.length
  have big : (2000 : Nat) < sizeLine := by decide
  refine ⟨_, rfl, .inl ⟨rfl, _, SqL.of hz3⟩, _, rfl, .inr (.inl ⟨a2, _, 0, _, rfl, rfl, hq2, atI_nat (j := 0) rfl, _, rfl, .inr (.inl ⟨a2, _, 1, _, rfl, rfl, hq2, atI_nat (j := 1) rfl, _, rfl, .inr (.inl ⟨a2, _, 2, _, rfl, rfl, hq2, atI_nat (j := 2) rfl, _, rfl, (by decide : 4 ≤ sizeLine), fun p4 hp4 => ?_⟩)⟩)⟩)⟩
  have gn := same_new hp4 (.tup [.str hd, ya, yb, y2])
  have hzn := gn _ _ hz3
  refine ⟨pf, _, _, rfl, rfl, hzn, by omega, ?_⟩
  have rz4 := Reps.put (o' := .lst (zs ++ [.ref p4])) hzn ((rz3.same gn).append (.cons (.tup (ds := [.str hd, da, db, o1]) (SqT.of upd_same) (.cons (.str _) (.cons (ra.same gn) (.cons (rb.same gn) (.cons (ro.same gn) .nil))))) .nil)) (noLs_snoc nol nfn)
  have rv4 := Reps.put (o' := .lst (zs ++ [.ref p4])) hzn (rv3.same gn) nrv
  have rd4 := Rep.put (o' := .lst (zs ++ [.ref p4])) hzn ((Rep.tup hq2 (.cons (.str _) (.cons ra (.cons rb .nil)))).same gn) nd
  have g4 := same_write (g3.trans gn) hpf0 (.lst (zs ++ [.ref p4]))
  have hz4 : upd (upd H3 p4 (.tup [.str hd, ya, yb, y2])) pf (.lst (zs ++ [.ref p4])) pf = some (.lst (zs ++ [.ref p4])) := upd_same
  have hv4 : upd (upd H3 p4 (.tup [.str hd, ya, yb, y2])) pf (.lst (zs ++ [.ref p4])) pa = some (.lst vs'.reverse) := by rw [upd_ne (Ne.symm npa)]; exact gn _ _ hv3
  dsimp only
  generalize upd (upd H3 p4 (.tup [.str hd, ya, yb, y2])) pf (.lst (zs ++ [.ref p4])) = H4 at rz4 rv4 rd4 g4 hz4 hv4 ⊢
  refine ⟨_, rfl, _, _, rfl, .inl ⟨_, SqL.of hz4, rfl⟩, _, _, rfl, rfl, ?_⟩
  have eo : (((zs ++ [V.ref p4]).length : Nat) : Int) - 1 = ((acc.length : Nat) : Int) := by rw [List.length_append, List.length_singleton, hzl]; omega
  dsimp only
  rw [eo]
  exact hD H4 _ g4 hz4 hv4 rz4 rv4 rd4
theorem ok_functions_of (F : Fun K "functions_of" "functions_of" s_functions_of f fd) (c : Cs K mg ad) (T2 : Tb2 K mg) (d_need_program : DefX P w K mg base 6 "need_program" ["thing"] (spNeed K ad)) (d_inner_of : Def P w K mg base 2 "inner_of" ["part"] (spInnerOf K)) : FnOk P w K mg base CX0 7 f fd ["program"] (spFuns K) := by
  refine F.ok sc_functions_of (fun vs H Q E h => ?_) (fun cdv A outer s H vs Q E hr h => ?_)
  · obtain ⟨x, d, s, t, rfl, _⟩ := h
    rfl
  obtain ⟨x, d, s, t, rfl, hk, hf, hp, hs, ht, q⟩ := h
  have hu := hu_of hr
  refine ⟨_, (pss_cons (ps_expr (pe_defX d_need_program (hr.mono (by first | decide | omega)) passN (pa_cons (pv 0) pa_nil)))
      (pss_cons (ps_set (i := 1) sc_functions_of.nd rfl (by first | exact Or.inl rfl | exact Or.inr rfl) (pe_lst pa_nil))
      (pss_cons (ps_set (i := 2) sc_functions_of.nd rfl (by first | exact Or.inl rfl | exact Or.inr rfl) (pe_lst (pa_cons (pe_tup (pa_cons (pv 0) (pa_cons pe_non pa_nil))) pa_nil)))
      (pss_cons (ps_while PassesOwn.never (pt_k (K := K) rfl (pv 2)) (pss_cons (ps_set (i := 3) sc_functions_of.nd rfl (by first | exact Or.inl rfl | exact Or.inr rfl) (bm0_k (K := K) rfl PySem.F.plainAttrs_list PySem.F.slot_list_pop PySem.F.type_list_pop mt_pop (pv 2)))
      (pss_cons (ps_set (i := 4) sc_functions_of.nd rfl (by first | exact Or.inl rfl | exact Or.inr rfl) (pe_ix (ix_k (K := K) rfl) (pv 3) pe_int (fun _ _ => rfl)))
      (pss_cons (ps_set (i := 5) sc_functions_of.nd rfl (by first | exact Or.inl rfl | exact Or.inr rfl) (pe_ix (ix_k (K := K) rfl) (pv 3) pe_int (fun _ _ => rfl)))
      (pss_cons (ps_if (PW.pt (pw_or (pt_cmpR op_eq (pe_ix (ix_k (K := K) rfl) (pv 4) pe_int (fun _ _ => rfl)) pe_str (nomark _)) (pw_or1 (pt_cmpR (in_k (K := K) rfl) (pe_ix (ix_k (K := K) rfl) (pv 4) pe_int (fun _ _ => rfl)) (pe_gT T2.INNER_KINDS) rfl)))) (pss_cons (ps_expr (bm_k (K := K) rfl PySem.F.plainAttrs_list PySem.F.slot_list_append PySem.F.type_list_append mt_append (pv 1) (pa_cons (pe_tup (pa_cons (pe_ix (ix_k (K := K) rfl) (pv 4) pe_int (fun _ _ => rfl)) (pa_cons (pe_ix (ix_k (K := K) rfl) (pv 4) pe_int (fun _ _ => rfl)) (pa_cons (pe_ix (ix_k (K := K) rfl) (pv 4) pe_int (fun _ _ => rfl)) (pa_cons (pv 5) pa_nil))))) pa_nil)))
      (pss_one (ps_set (i := 5) sc_functions_of.nd rfl (by first | exact Or.inl rfl | exact Or.inr rfl) (pe_op op_sub (pe_callB (len_k (K := K) rfl) (by rfl) c.len_ bt_len (pa_cons (pv 1) pa_nil)) pe_int)))) pss_nil)
      (pss_one (ps_expr (bm_k (K := K) rfl PySem.F.plainAttrs_list PySem.F.slot_list_extend PySem.F.type_list_extend mt_extend (pv 2) (pa_cons (pe_comp (sc := defScope s_functions_of) (NX := ["program", "found", "ahead", "pair", "part", "outer"]) (N := ["inner", "outer"]) (js := [none, some 5]) (pi_rev (K := K) rfl c.reversed_ (pa_cons (pe_def d_inner_of (hr.mono (by first | decide | omega)) (pa_cons (pv 4) pa_nil)) pa_nil)) (fun _ _ _ _ _ => (pg_name (i := 0) (show (["inner", "outer"] : List Str).Nodup by decide +kernel) rfl (Or.inl rfl))) (fun _ _ _ _ _ => pf_nil) (fun _ _ _ _ _ => (pe_tup (pa_cons (pv 0) (pa_cons (pv 1) pa_nil)))) (own_name rfl) ⟨by decide +kernel, rfl, by decide +kernel, by decide +kernel, rfl, by decide +kernel⟩) pa_nil)))))))))
      (pss_one (ps_ret (pv 1))))))), ?_⟩
  clear hu
  have hpr := Tre.isProgram_of hp ht hs
  refine ⟨_, rfl, x, d, rfl, hk, hf, fun _ H1 g1 => ?_, fun z => absurd (hpr.symm.trans z) (by decide)⟩
  refine ⟨(by decide : 0 ≤ sizeLine), fun pf hpf => ?_⟩
  have g2 := g1.trans (same_new hpf (.lst []))
  refine ⟨_, rfl, (by decide : 2 ≤ sizeLine), fun pp hpp => ⟨(by decide : 1 ≤ sizeLine), fun pa hpa => ?_⟩⟩
  have g3 := same_new hpp (.tup [x, .non])
  have g4 := same_new hpa (.lst [.ref pp])
  have g34 := g3.trans g4
  have hpf0 : H pf = none := g1.free hpf
  have hpa0 : H pa = none := (g2.trans g3).free hpa
  have hf2 : upd H1 pf (.lst []) pf = some (.lst []) := upd_same
  have hf4 := g34 _ _ hf2
  have hp4 := g4 _ _ (show upd (upd H1 pf (.lst [])) pp (.tup [x, .non]) pp = some (.tup [x, .non]) from upd_same)
  have npa : pf ≠ pa := fun z => by rw [z] at hf4; rw [upd_same] at hf4; cases hf4
  have tr := hp.tr
  refine ⟨PvF K H x pf pa (Tre.funs d), ⟨s, [], [.ref pp], [], [(d, .none)], none, none, none, rfl, g2.trans g34, hf4, upd_same, .nil, .cons (.tup (SqT.of hp4) (.cons (hk.same (g2.trans g34)) (.cons .non .nil))) .nil, .cons tr ht ⟨rfl, rfl, Nat.zero_le _⟩ .nil, rfl, rfl, (show 0 + (s + 0) ≤ 300 by omega)⟩, ?_⟩
  clear g2 g3 g4 g34 hf2 hf4 hp4 hpp hpa hpf
  rintro m σ H2 ⟨zs, vs, acc, tops, o3, o4, o5, rfl, g2, hz2, hv2, rz, rv, stk, nol, hfin, hlen⟩
  refine ⟨_, rfl, _, .inl ⟨_, SqL.of hv2, rfl⟩, ?_⟩
  have hzl := rz.length
  have hvl := rv.length
  have skl := stk.len
  rw [List.length_map] at hvl
  have big : (2000 : Nat) < sizeLine := by decide
  cases stk with
  | nil =>
    cases rv
    exact iteN rfl ⟨_, rfl, q _ pf zs g2 hpf0 hz2 (hfin ▸ rz)⟩
  | @cons d1 o1 r s1 t1 m1 tr1 ht1 go1 stk1 =>
    cases rv with
    | @cons v vs' _ _ rv1 rv =>
      refine iteP (show (!List.isEmpty _) = true by rw [List.reverse_cons]; simp) ?_
      refine ⟨fun σ' H' => ∃ m', m' < s1 + m1 ∧ PvF K H x pf pa (Tre.funs d) m' σ' H', fun σ' H' h => h, ?_⟩
      have elast : ((v :: vs').reverse)[((v :: vs').reverse).length - 1]? = some v := by
        rw [List.reverse_cons, List.length_append, List.length_singleton, Nat.add_sub_cancel, List.getElem?_append_right (Nat.le_refl _), Nat.sub_self]
        rfl
      refine ⟨_, rfl, .inl ⟨rfl, _, SqL.of hv2⟩, pa, _, v, rfl, rfl, hv2, elast, ?_⟩
      rw [List.reverse_cons, List.dropLast_concat]
      have npd : Tre.noL (Tre.pairD (d1, o1)) = true := by
        show Tre.noL (.tuple [_, _]) = true
        rw [Tre.noL, Tre.noLs, Tre.noLs, Tre.noLs, tr1.gd.nol, go1.nol]
        rfl
      have hz3 : upd H2 pa (.lst vs'.reverse) pf = some (.lst zs) := by rw [upd_ne npa]; exact hz2
      have rz3 := Reps.put (o' := .lst vs'.reverse) hv2 rz nol
      have rv3 := Reps.put (o' := .lst vs'.reverse) hv2 rv stk1.nol
      have rv13 := Rep.put (o' := .lst vs'.reverse) hv2 rv1 npd
      have g3 := same_write g2 hpa0 (.lst vs'.reverse)
      have hv3 : upd H2 pa (.lst vs'.reverse) pa = some (.lst vs'.reverse) := upd_same
      generalize upd H2 pa (.lst vs'.reverse) = H3 at hz3 rz3 rv3 rv13 g3 hv3 ⊢
      have vis := Tre.visit_part (o := o1) (acc := acc) tr1 (by omega)
      have trS := tr1
      cases tr1 with
      | @mk _ sh hands s0 t0 hf1 tl =>
        obtain ⟨hd, ts, fs, lh, rfl, _⟩ := Tre.hasForm_is hf1
        cases rv13 with
        | @tup a1 xs1 _ hq1 rs1 =>
          cases rs1 with
          | @cons y1 _ _ _ rd rs1 =>
            cases rs1 with
            | @cons y2 _ _ _ ro rs1 =>
              cases rs1
              have rd0 := rd
              cases rd with
              | @tup a2 xs2 _ hq2 rs2 =>
                cases rs2 with
                | @cons y3 ys3 _ _ r3 rs2 =>
                  cases r3
                  refine ⟨_, rfl, .inr (.inl ⟨a1, _, 0, _, rfl, rfl, hq1, atI_nat (j := 0) rfl, ?_⟩)⟩
                  refine ⟨_, rfl, .inr (.inl ⟨a1, _, 1, _, rfl, rfl, hq1, atI_nat (j := 1) rfl, ?_⟩)⟩
                  refine ⟨_, rfl, .inr (.inl ⟨a2, _, 0, _, rfl, rfl, hq2, atI_nat (j := 0) rfl, rfl, _, rfl, ?_⟩)⟩
                  have ik := in_kinds hd
                  have fin3 : ∀ b, Tre.holds hd = b → Tre.isFn (.tuple (.str hd :: ts)) = b := fun b e => e
                  refine ite2 (fun hm => iteP rfl ?b1) (fun hm => ⟨_, rfl, .inr (.inl ⟨a2, _, 0, _, rfl, rfl, hq2, atI_nat (j := 0) rfl, fun a3 ha3 => ⟨a3, _, rfl, .inr (ha3 _), rfl, rfl, _, rfl, ite2 (fun hn => ?b2) (fun hn => ?b3)⟩⟩)⟩)
                  case' b1 => have hh : Tre.holds hd = true := by rw [← ik, hm]; rfl
                  case' b2 => have hh : Tre.holds hd = true := by rw [← ik, (show inV (.str hd) [.str "fun", .str "loop"] = true from hn), Bool.or_true]
                  case' b3 =>
                    have hh : Tre.holds hd = false := by rw [← ik, Bool.eq_false_iff.mpr hm, (show inV (.str hd) [.str "fun", .str "loop"] = false from Bool.eq_false_iff.mpr hn)]; rfl
                    have eA : Tre.accOf (.tuple (.str hd :: ts)) o1 acc = acc := by unfold Tre.accOf; rw [if_neg (by rw [fin3 _ hh]; exact Bool.false_ne_true)]
                    have eO : Tre.outOf (.tuple (.str hd :: ts)) o1 acc = o1 := by unfold Tre.outOf; rw [if_neg (by rw [fin3 _ hh]; exact Bool.false_ne_true)]
                    have rz4 : Reps K H3 zs (Tre.accOf (.tuple (.str hd :: ts)) o1 acc) := by rw [eA]; exact rz3
                    have ro4 : Rep K H3 y2 (Tre.outOf (.tuple (.str hd :: ts)) o1 acc) := by rw [eO]; exact ro
                    have go4 : Tre.Gd 0 (Tre.outOf (.tuple (.str hd :: ts)) o1 acc) := by rw [eO]; exact go1
                    have nol4 : Tre.noLs (Tre.accOf (.tuple (.str hd :: ts)) o1 acc) = true := by rw [eA]; exact nol
                    generalize H3 = H4 at hz3 rv3 g3 hv3 rd0 rz4 ro4 hq2 ⊢
                  case' b1 =>
                    have eA : Tre.accOf (.tuple (.str hd :: ts)) o1 acc = acc ++ [Tre.fnOf (.tuple (.str hd :: ts)) o1] := by unfold Tre.accOf; rw [if_pos (fin3 _ hh)]
                    have eO : Tre.outOf (.tuple (.str hd :: ts)) o1 acc = .int (acc.length : Nat) := by unfold Tre.outOf; rw [if_pos (fin3 _ hh)]
                    obtain ⟨_, da, db, ed, _⟩ := Tre.fn_is hf1 (fin3 _ hh)
                    cases ed
                    cases rs2 with
                    | @cons ya _ _ _ ra rs2 =>
                      cases rs2 with
                      | @cons yb _ _ _ rb rs2 =>
                        cases rs2
                        have nfn : Tre.noL (Tre.fnOf (.tuple [.str hd, da, db]) o1) = true := by
                          obtain ⟨_, _, _, _, _, gfn⟩ := Tre.fn_gd (o := o1) trS (fin3 _ hh) (by omega) go1
                          exact gfn.nol
                        have al := Tre.acc_len (.tuple [.str hd, da, db]) o1 acc
                        refine put_fn npa hpf0 g3 hz3 hv3 rz3 rv3 stk1.nol hq2 ra rb ro trS.gd.nol nfn nol (by omega) fun H4 zs4 g4 hz4 hv4 rz4 rv4 rd4 => ?_
                        have rz5 : Reps K H4 zs4 (Tre.accOf (.tuple [.str hd, da, db]) o1 acc) := by rw [eA]; exact rz4
                        have ro5 : Rep K H4 (.int (acc.length : Nat)) (Tre.outOf (.tuple [.str hd, da, db]) o1 acc) := by rw [eO]; exact .int _
                        have go5 : Tre.Gd 0 (Tre.outOf (.tuple [.str hd, da, db]) o1 acc) := by rw [eO]; exact Tre.gd_int
                        have nol5 : Tre.noLs (Tre.accOf (.tuple [.str hd, da, db]) o1 acc) = true := by rw [eA]; exact noLs_snoc nol nfn
                        exact ext_ok npa hpa0 g4 hz4 hv4 rz5 rv4 rd4 ro5 go5 nol5 hf1 tl (by omega) stk1 (by omega) (by rw [← vis]; exact hfin) (fun σ' H' h => ⟨s0 + m1, by omega, h⟩)
                  case' b2 =>
                    have eA : Tre.accOf (.tuple (.str hd :: ts)) o1 acc = acc ++ [Tre.fnOf (.tuple (.str hd :: ts)) o1] := by unfold Tre.accOf; rw [if_pos (fin3 _ hh)]
                    have eO : Tre.outOf (.tuple (.str hd :: ts)) o1 acc = .int (acc.length : Nat) := by unfold Tre.outOf; rw [if_pos (fin3 _ hh)]
                    obtain ⟨_, da, db, ed, _⟩ := Tre.fn_is hf1 (fin3 _ hh)
                    cases ed
                    cases rs2 with
                    | @cons ya _ _ _ ra rs2 =>
                      cases rs2 with
                      | @cons yb _ _ _ rb rs2 =>
                        cases rs2
                        have nfn : Tre.noL (Tre.fnOf (.tuple [.str hd, da, db]) o1) = true := by
                          obtain ⟨_, _, _, _, _, gfn⟩ := Tre.fn_gd (o := o1) trS (fin3 _ hh) (by omega) go1
                          exact gfn.nol
                        have al := Tre.acc_len (.tuple [.str hd, da, db]) o1 acc
                        refine put_fn npa hpf0 g3 hz3 hv3 rz3 rv3 stk1.nol hq2 ra rb ro trS.gd.nol nfn nol (by omega) fun H4 zs4 g4 hz4 hv4 rz4 rv4 rd4 => ?_
                        have rz5 : Reps K H4 zs4 (Tre.accOf (.tuple [.str hd, da, db]) o1 acc) := by rw [eA]; exact rz4
                        have ro5 : Rep K H4 (.int (acc.length : Nat)) (Tre.outOf (.tuple [.str hd, da, db]) o1 acc) := by rw [eO]; exact .int _
                        have go5 : Tre.Gd 0 (Tre.outOf (.tuple [.str hd, da, db]) o1 acc) := by rw [eO]; exact Tre.gd_int
                        have nol5 : Tre.noLs (Tre.accOf (.tuple [.str hd, da, db]) o1 acc) = true := by rw [eA]; exact noLs_snoc nol nfn
                        exact ext_ok npa hpa0 g4 hz4 hv4 rz5 rv4 rd4 ro5 go5 nol5 hf1 tl (by omega) stk1 (by omega) (by rw [← vis]; exact hfin) (fun σ' H' h => ⟨s0 + m1, by omega, h⟩)
                  case' b3 => exact ext_ok npa hpa0 g3 hz3 hv3 rz4 rv3 rd0 ro4 go4 nol4 hf1 tl (by omega) stk1 (by rw [eA]; omega) (by rw [← vis]; exact hfin) (fun σ' H' h => ⟨s0 + m1, by omega, h⟩)
end
end Mine

namespace L2
open PySem PySem.Spec PyProof.Rows
section
variable {K : PySem.W.Frag} {H H' : Hp}
noncomputable def But (p : Addr) (H H' : Hp) : Prop := ∀ b o, b ≠ p → H b = some o → H' b = some o
theorem But.trans {p : Addr} {H2 : Hp} (a : But p H H') (b : But p H' H2) : But p H H2 := fun c o n e => b c o n (a c o n e)
theorem But.of {p : Addr} (g : Same H H') : But p H H' := fun b o _ e => g b o e
theorem But.put {p : Addr} {o' : HO} : But p H (upd H p o') := fun b o n e => by rw [upd_ne n]; exact e
theorem SqT.over {p b : Addr} {zs xs : List V} (hp : H p = some (.lst zs)) (g : But p H H') (h : SqT K H b xs) : SqT K H' b xs := by
  rcases h with (h | ⟨ob, h⟩) | h
  · exact .inl (.inl (g _ _ (fun z => by rw [z, hp] at h; cases h) h))
  · exact .inl (.inr ⟨ob, g _ _ (fun z => by rw [z, hp] at h; cases h) h⟩)
  · exact .inr h
mutual
theorem Rep.over {p : Addr} {zs : List V} (hp : H p = some (.lst zs)) (g : But p H H') : ∀ {x : V} {d : PyData}, Rep K H x d → Tre.noL d = true → Rep K H' x d
  | _, _, .non, _ => .non
  | _, _, .bl b, _ => .bl b
  | _, _, .int i, _ => .int i
  | _, _, .str x, _ => .str x
  | _, _, .lst h r, n => by cases n
  | _, _, .tup h r, n => .tup (h.over hp g) (Reps.over hp g r (by rw [Tre.noL] at n; exact n))
theorem Reps.over {p : Addr} {zs : List V} (hp : H p = some (.lst zs)) (g : But p H H') : ∀ {xs : List V} {ds : List PyData}, Reps K H xs ds → Tre.noLs ds = true → Reps K H' xs ds
  | _, _, .nil, _ => .nil
  | _, _, .cons h t, n => by
    rw [Tre.noLs, Bool.and_eq_true] at n
    exact .cons (Rep.over hp g h n.1) (Reps.over hp g t n.2)
end
end
end L2
namespace Tre
open PySem
theorem Acc.nol {acc : List PyData} (h : Acc acc) : noLs acc = true := (gd_all (n := 60) fun e he => by
  obtain ⟨_, _, _, _, _, g⟩ := h.all e he
  exact g).1
theorem not_main {d : PyData} {u : Str} {hands : Bool} (h : hasForm d u hands = true) (hu : u = "term" ∨ u = "statement") : ∃ hd ts, d = .tuple (.str hd :: ts) ∧ hd ≠ "main" := by
  obtain ⟨hd, ts, fs, l, rfl, e1, e2, _⟩ := hasForm_is h
  refine ⟨hd, ts, rfl, fun z => ?_⟩
  subst z
  rcases hu with rfl | rfl
  · have q : heads.lookup ("term" : Str) = some (["number", "name", "two", "fun", "loop", "call", "step"] : List Str) := by decide +kernel
    rw [q] at e1
    cases e1
    exact absurd e2 (by decide +kernel)
  · have q : heads.lookup ("statement" : Str) = some (["let", "set", "do", "if", "while", "hand", "back", "fault", "try"] : List Str) := by decide +kernel
    rw [q] at e1
    cases e1
    exact absurd e2 (by decide +kernel)
end Tre
namespace Mine
open PySem L2
section
variable {P : Program} {w : World} {K : PySem.W.Frag} {mg : Str → Option Value} {base : Heap} {f : Addr} {fd : FuncData} {ad : Ad}
theorem in_kin {h : Str} (hm : h ≠ "main") : inV (.str h) [.str "fun", .str "loop"] = Tre.holds h := by
  have q := in_kinds h
  rw [decide_eq_false fun z => hm (V.str.inj z), Bool.false_or] at q
  exact q
noncomputable def spGath (K : PySem.W.Frag) (n : Nat) : Sp := fun vs H Q _ => ∃ x d sh hands s t num pf zs acc, vs = [x, .int num, .ref pf] ∧ Rep K H x d ∧ Tre.Pt d sh hands s t ∧ t ≤ n ∧ n ≤ 15 ∧ H pf = some (.lst zs) ∧ Reps K H zs acc ∧ Tre.Acc acc ∧ acc ≠ [] ∧ acc.length + s + n ≤ 500 ∧
  ∀ H' zs', But pf H H' → H' pf = some (.lst zs') → Reps K H' zs' (Tre.each 30 (Tre.kids d) (.int num) acc) → Q .non H'
noncomputable def PvG (K : PySem.W.Frag) (d : PyData) (hands : Bool) (x : V) (num : Int) (pf : Addr) (acc : List PyData) (n : Nat) (H1 : Hp) (i : Nat) (σ : St) (H' : Hp) : Prop := ∃ zs' acc' o3 o4 s' t', σ = [some x, some (.int num), some (.ref pf), o3, o4] ∧ But pf H1 H' ∧ H' pf = some (.lst zs') ∧ Reps K H' zs' acc' ∧ acc' = Tre.each 30 ((Tre.kids d).take i) (.int num) acc ∧ Tre.Acc acc' ∧ acc' ≠ [] ∧ Tre.Ptl ((Tre.inner d).drop i) (Tre.within d hands) s' t' ∧ t' ≤ n ∧ acc'.length + s' + n + 2 ≤ 500
theorem ok_law_gathered (F : Fun K "_law_gathered" "_law_gathered" s_law_gathered f fd) (c : Cs K mg ad) (n : Nat) (d_law_inner : Def P w K mg base 1 "_law_inner" ["_law_part"] (spLI K)) (d_law_gathered : Def P w K mg base (n + 2) "_law_gathered" ["_law_part", "_law_number_here", "_law_found"] (spGath K n)) : FnOk P w K mg base CX0 (n + 3) f fd ["_law_part", "_law_number_here", "_law_found"] (spGath K (n + 1)) := by
  refine F.ok (k := n + 2) sc_law_gathered (fun vs H Q E h => ?_) (fun cdv A outer s H vs Q E hr h => ?_)
  · obtain ⟨x, d, sh, hands, s, t, num, pf, zs, acc, rfl, _⟩ := h
    rfl
  obtain ⟨x, d, sh, hands, s, t, num, pf, zs, acc, rfl, hk, pt, ht, hn, hz, rz, ac, ne, hlen, q⟩ := h
  refine ⟨_, (pss_one (ps_for PassesOwn.never rfl (pi_k (K := K) rfl (pe_def d_law_inner (hr.mono (by first | decide | omega)) (pa_cons (pv 0) pa_nil))) (pg_name (i := 3) sc_law_gathered.nd rfl (by first | exact Or.inl rfl | exact Or.inr rfl)) (pss_cons (ps_set (i := 4) sc_law_gathered.nd rfl (by first | exact Or.inl rfl | exact Or.inr rfl) (pv 1))
      (pss_cons (ps_if (pt_cmpR (in_k (K := K) rfl) (pe_ix (ix_k (K := K) rfl) (pv 3) pe_int (fun _ _ => rfl)) (pe_tup (pa_cons pe_str (pa_cons pe_str pa_nil))) rfl) (pss_cons (ps_expr (bm_k (K := K) rfl PySem.F.plainAttrs_list PySem.F.slot_list_append PySem.F.type_list_append mt_append (pv 2) (pa_cons (pe_tup (pa_cons (pe_ix (ix_k (K := K) rfl) (pv 3) pe_int (fun _ _ => rfl)) (pa_cons (pe_ix (ix_k (K := K) rfl) (pv 3) pe_int (fun _ _ => rfl)) (pa_cons (pe_ix (ix_k (K := K) rfl) (pv 3) pe_int (fun _ _ => rfl)) (pa_cons (pv 1) pa_nil))))) pa_nil)))
      (pss_one (ps_set (i := 4) sc_law_gathered.nd rfl (by first | exact Or.inl rfl | exact Or.inr rfl) (pe_op op_sub (pe_callB (len_k (K := K) rfl) (by rfl) c.len_ bt_len (pa_cons (pv 2) pa_nil)) pe_int)))) pss_nil)
      (pss_one (ps_expr (pe_def d_law_gathered (hr.mono (by first | decide | omega)) (pa_cons (pv 3) (pa_cons (pv 4) (pa_cons (pv 2) pa_nil)))))))))), ?_⟩
  have tr := pt.tr
  have gd := tr.gd
  refine ⟨_, rfl, x, d, s, t, H, rfl, Same.refl _, hk, tr, by omega, fun H1 pl ks g1 hpl hl1 rk => .inl ⟨pl, rfl, ⟨ks, SqL.of hl1⟩, ?_⟩⟩
  have npl : pl ≠ pf := fun z => by rw [z, hz] at hpl; cases hpl
  have hkl := rk.length
  cases pt with
  | @mk _ _ _ s0 t0 hf pl0 =>
    have big : (2000 : Nat) < sizeLine := by decide
    have kn : Tre.noLs (Tre.kids d) = true := by
      cases tr with
      | mk _ tl => exact (Tre.gd_all tl.gd).1
    have kil : (Tre.kids d).length = (Tre.inner d).length := by unfold Tre.kids; rw [List.length_map]
    have rk1 := rk.same g1
    refine for_it (Tre.inner d).length (PvG K d hands x num pf acc n H1) ?_ (fun i σ H2 hi h => ?_) (fun σ H2 h => ?_)
    · exact ⟨zs, acc, none, none, s0, t0, rfl, fun b o _ e => e, g1 _ _ hz, rz.same g1, rfl, ac, ne, pl0, by omega, by omega⟩
    · obtain ⟨zs', acc', o3, o4, s', t', rfl, b2, hz2, rz2, ea, ac2, ne2, pt2, ht2, hl2⟩ := h
      have hlk : H2 pl = some (.lst ks) := b2 _ _ npl hl1
      have hx : ks[i]? = some (ks[i]'(by omega)) := List.getElem?_eq_getElem (by omega)
      refine ⟨⟨ks, _, SqL.of hlk, hx⟩, fun v H3 yl => ?_⟩
      obtain ⟨rfl, hv⟩ := yl
      have ev := hx.symm.trans (hv ks (SqL.of hlk))
      cases ev
      generalize ks[i]'(by omega) = v at hx hv ⊢
      obtain ⟨e, he, re⟩ := rk1.get hx
      have hzi : (Tre.inner d)[i]? = some ((Tre.inner d)[i]'hi) := List.getElem?_eq_getElem hi
      have eu : ((Tre.inner d)[i]'hi).1 = e := by
        unfold Tre.kids at he
        rw [List.getElem?_map, hzi] at he
        exact Option.some.inj he
      have hdr : (Tre.inner d).drop i = (Tre.inner d)[i]'hi :: (Tre.inner d).drop (i + 1) := List.drop_eq_getElem_cons hi
      have hsort : ((Tre.inner d)[i]'hi).2 = "term" ∨ ((Tre.inner d)[i]'hi).2 = "statement" := Tre.inner_sort (d := d) (e := ((Tre.inner d)[i]'hi).1) (List.getElem_mem hi)
      rw [hdr] at pt2
      generalize (Tre.inner d)[i]'hi = z at hzi eu hdr hsort pt2
      obtain ⟨z1, u⟩ := z
      cases eu
      cases pt2 with
      | @cons _ _ _ _ s1 t1 s2 t2 pe pr =>
        have hform : Tre.hasForm z1 u (Tre.within d hands) = true := by
          cases pe with
          | mk h _ => exact h
        obtain ⟨hd, ts, rfl, hm⟩ := Tre.not_main hform hsort
        have tre := pe.tr
        have re3 : Rep K H3 v (.tuple (.str hd :: ts)) := Rep.over (g1 _ _ hz) b2 re tre.gd.nol
        have vis := Tre.visit_part (o := .int num) (acc := acc') tre (by omega)
        have st4 := Tre.acc_step (k := num) tre (by omega) ne2 ac2
        have al := Tre.acc_len (.tuple (.str hd :: ts)) (.int num) acc'
        have fin3 : ∀ b, Tre.holds hd = b → Tre.isFn (.tuple (.str hd :: ts)) = b := fun b e => e
        have ik := in_kin hm
        have rest : ∀ (H4 : Hp) (zs4 : List V) (here : Int) (D : Ends), But pf H1 H4 → H4 pf = some (.lst zs4) → Reps K H4 zs4 (Tre.accOf (.tuple (.str hd :: ts)) (.int num) acc') → Tre.outOf (.tuple (.str hd :: ts)) (.int num) acc' = .int here → (∀ σ H', PvG K d hands x num pf acc n H1 (i + 1) σ H' → D.nx σ H') →
            tDrop (tCall (spGath K n) [] E0 (tCons (tVar 3) (tCons (tVar 4) (tCons (tVar 2) tNil)))) D [some x, some (.int num), some (.ref pf), some v, some (.int here)] H4 := fun H4 zs4 here D b4 hz4 rz4 eo hD => by
          refine ⟨_, rfl, _, rfl, _, rfl, v, _, u, _, s1, t1, here, pf, zs4, _, rfl, Rep.over (g1 _ _ hz) b4 re tre.gd.nol, pe, by omega, by omega, hz4, rz4, st4.1, st4.2, by omega, fun H5 zs5 b5 hz5 rz5 => ?_⟩
          have ev2 : Tre.each 30 (Tre.kids (.tuple (.str hd :: ts))) (.int here) (Tre.accOf (.tuple (.str hd :: ts)) (.int num) acc') = Tre.visit 30 (.tuple (.str hd :: ts)) (.int num) acc' := by rw [vis, eo]
          rw [ev2] at rz5
          have e5 : Tre.visit 30 (.tuple (.str hd :: ts)) (.int num) acc' = Tre.each 30 (List.take (i + 1) (Tre.kids d)) (.int num) acc := by
            rw [List.take_add_one, he, Tre.each, List.foldl_append]
            show _ = List.foldl _ (List.foldl _ acc _) [_]
            rw [List.foldl_cons, List.foldl_nil, ea]
          have fz : Tre.Acc (Tre.visit 30 (.tuple (.str hd :: ts)) (.int num) acc') ∧ Tre.visit 30 (.tuple (.str hd :: ts)) (.int num) acc' ≠ [] ∧ (Tre.visit 30 (.tuple (.str hd :: ts)) (.int num) acc').length ≤ acc'.length + s1 := by
            have q := Tre.each_acc 30 num acc' (by simpa using Tre.Trl.cons tre .nil) (by omega) ne2 ac2
            exact q
          exact hD _ _ ⟨zs5, _, _, _, s2, t2, rfl, b4.trans b5, hz5, rz5, e5, fz.1, fz.2.1, pr, by omega, by omega⟩
        refine ⟨_, rfl, ?_⟩
        have re4 := re3
        cases re3 with
        | @tup a2 xs2 _ hq2 rs2 =>
          cases rs2 with
          | @cons y3 ys3 _ _ r3 rs2 =>
            cases r3
            refine ⟨_, rfl, .inr (.inl ⟨a2, _, 0, _, rfl, rfl, hq2, atI_nat (j := 0) rfl, (by decide : 2 ≤ sizeLine), fun p1 hp1 => ?_⟩)⟩
            have gp := same_new hp1 (.tup [.str "fun", .str "loop"])
            refine ⟨p1, _, rfl, .inr (SqT.of upd_same), rfl, rfl, _, rfl, ?_⟩
            generalize upd H3 p1 (.tup [.str "fun", .str "loop"]) = H4 at gp ⊢
            refine ite2 (fun hn => ?_) (fun hn => ?_)
            · have hh : Tre.holds hd = true := ik.symm.trans hn
              have eA : Tre.accOf (.tuple (.str hd :: ts)) (.int num) acc' = acc' ++ [Tre.fnOf (.tuple (.str hd :: ts)) (.int num)] := by unfold Tre.accOf; rw [if_pos (fin3 _ hh)]
              have eO : Tre.outOf (.tuple (.str hd :: ts)) (.int num) acc' = .int (acc'.length : Nat) := by unfold Tre.outOf; rw [if_pos (fin3 _ hh)]
              obtain ⟨_, da, db, ed, _⟩ := Tre.fn_is hform (fin3 _ hh)
              cases ed
              cases rs2 with
              | @cons ya _ _ _ ra rs2 =>
                cases rs2 with
                | @cons yb _ _ _ rb rs2 =>
                  cases rs2
                  have hq4 := gp.sqT hq2
                  have hz4 := gp _ _ hz2
                  have hzl := rz2.length
                  refine ⟨_, rfl, .inl ⟨rfl, _, SqL.of hz4⟩, _, rfl, .inr (.inl ⟨a2, _, 0, _, rfl, rfl, hq4, atI_nat (j := 0) rfl, _, rfl, .inr (.inl ⟨a2, _, 1, _, rfl, rfl, hq4, atI_nat (j := 1) rfl, _, rfl, .inr (.inl ⟨a2, _, 2, _, rfl, rfl, hq4, atI_nat (j := 2) rfl, _, rfl, (by decide : 4 ≤ sizeLine), fun p4 hp4 => ?_⟩)⟩)⟩)⟩
                  have gn := same_new hp4 (.tup [.str hd, ya, yb, .int num])
                  have hzn := gn _ _ hz4
                  refine ⟨pf, _, _, rfl, rfl, hzn, by omega, ?_⟩
                  have gg := gp.trans gn
                  have nfn : Tre.noL (Tre.fnOf (.tuple [.str hd, da, db]) (.int num)) = true := by
                    obtain ⟨_, _, _, _, _, gfn⟩ := Tre.fn_gd (o := .int num) tre (fin3 _ hh) (by omega) Tre.gd_int
                    exact gfn.nol
                  have rz5 := Reps.put (o' := .lst (zs' ++ [.ref p4])) hzn ((rz2.same gg).append (.cons (.tup (ds := [.str hd, da, db, .int num]) (SqT.of upd_same) (.cons (.str _) (.cons (ra.same gg) (.cons (rb.same gg) (.cons (.int _) .nil))))) .nil)) (noLs_snoc ac2.nol nfn)
                  have b5 : But pf H1 (upd (upd H4 p4 (.tup [.str hd, ya, yb, .int num])) pf (.lst (zs' ++ [.ref p4]))) := (b2.trans (But.of gg)).trans But.put
                  have hz5 : upd (upd H4 p4 (.tup [.str hd, ya, yb, .int num])) pf (.lst (zs' ++ [.ref p4])) pf = some (.lst (zs' ++ [.ref p4])) := upd_same
                  dsimp only
                  generalize upd (upd H4 p4 (.tup [.str hd, ya, yb, .int num])) pf (.lst (zs' ++ [.ref p4])) = H5 at rz5 b5 hz5 ⊢
                  refine ⟨_, rfl, _, _, rfl, .inl ⟨_, SqL.of hz5, rfl⟩, _, _, rfl, rfl, ?_⟩
                  have eo : (((zs' ++ [V.ref p4]).length : Nat) : Int) - 1 = ((acc'.length : Nat) : Int) := by rw [List.length_append, List.length_singleton, hzl]; omega
                  dsimp only
                  rw [eo]
                  exact rest H5 _ _ _ b5 hz5 (by rw [eA]; exact rz5) eO fun _ _ h => h
            · have hh : Tre.holds hd = false := ik.symm.trans (Bool.eq_false_iff.mpr hn)
              have eA : Tre.accOf (.tuple (.str hd :: ts)) (.int num) acc' = acc' := by unfold Tre.accOf; rw [if_neg (by rw [fin3 _ hh]; exact Bool.false_ne_true)]
              have eO : Tre.outOf (.tuple (.str hd :: ts)) (.int num) acc' = .int num := by unfold Tre.outOf; rw [if_neg (by rw [fin3 _ hh]; exact Bool.false_ne_true)]
              exact rest H4 _ _ _ (b2.trans (But.of gp)) (gp _ _ hz2) (by rw [eA]; exact rz2.same gp) eO fun _ _ h => h
    · obtain ⟨zs', acc', o3, o4, s', t', rfl, b2, hz2, rz2, ea, ac2, ne2, pt2, ht2, hl2⟩ := h
      rw [List.take_of_length_le (by omega)] at ea
      refine ⟨⟨ks, SqL.of (b2 _ _ npl hl1), by omega⟩, q _ zs' ((But.of g1).trans b2) hz2 (ea ▸ rz2)⟩
theorem gathers {fG : Addr} {dG : FuncData} (F : Fun K "_law_gathered" "_law_gathered" s_law_gathered fG dG) (kG : Known K mg "_law_gathered" ["_law_part", "_law_number_here", "_law_found"] fG dG) (c : Cs K mg ad) (d_law_inner : Def P w K mg base 1 "_law_inner" ["_law_part"] (spLI K)) : ∀ n : Nat, Def P w K mg base (n + 2) "_law_gathered" ["_law_part", "_law_number_here", "_law_found"] (spGath K n)
  | 0 => by
    have no : ∀ vs H Q E, spGath K 0 vs H Q E → False := fun vs H Q E h => by
      obtain ⟨x, d, sh, hands, s, t, num, pf, zs, acc, _, _, pt, ht, _⟩ := h
      cases pt
      omega
    exact kG.out ⟨fun vs H Q E h => (no _ _ _ _ h).elim, fun _ _ _ _ _ _ _ _ _ _ _ _ _ h => (no _ _ _ _ h).elim⟩
  | n + 1 => kG.out (ok_law_gathered F c n d_law_inner (gathers F kG c d_law_inner n))
end
end Mine

namespace Mine
open PySem L2
section
variable {P : Program} {w : World} {K : PySem.W.Frag} {mg : Str → Option Value} {base : Heap} {f : Addr} {fd : FuncData} {ad : Ad}
theorem gd_list {n : Nat} {xs : List PyData} (h : ∀ x ∈ xs, Tre.Gd n x) : (PyData.list xs).canLay0 = true ∧ (PyData.list xs).depth ≤ n + 1 := by
  obtain ⟨h1, h2, h3⟩ := Tre.gd_all h
  exact ⟨by rw [PyData.canLay0]; exact h2, by rw [PyData.depth]; exact Nat.succ_le_succ h3⟩
theorem list_shaped {n : Nat} {xs : List PyData} (h : ∀ x ∈ xs, Tre.Gd n x) (hn : n < 64) : SeqAt.shaped (.list xs) = true := by
  obtain ⟨a, b⟩ := gd_list h
  unfold SeqAt.shaped
  rw [a, decide_eq_true (by omega)]
  rfl
theorem comp_allL {a : Addr} {te : TE} {σ : St} {H : Hp} {Q : VK} {xs : List V} {ds : List PyData} (hq : SqL K H a xs) (hr : Reps K H xs ds) (hz : ds.length ≤ sizeLine)
    (step : ∀ (x : V) (d : PyData) (R : VK), d ∈ ds → Rep K H x d → R (.bl true) H → te [some x] H R) (fin : ∀ D, H D = none → Q (.ref D) (upd H D (.lst ((ds.map fun _ => true).map V.bl)))) : CompW (Itl K a) [none] (gName 0) tYes te σ H Q := by
  have hlen := hr.length
  refine comp_it ds.length (fun i ys H' => H' = H ∧ ys = ((ds.take i).map fun _ => true).map V.bl) ⟨rfl, rfl⟩ (fun i ys H' h => ?_) hz (fun i ys H' hi h => ?_) (fun ys H' h => ?_)
  · rw [h.2, List.length_map, List.length_map]
    exact List.length_take_le _ _
  · obtain ⟨rfl, rfl⟩ := h
    have hx : xs[i]? = some (xs[i]'(by omega)) := List.getElem?_eq_getElem (by omega)
    refine ⟨⟨xs, _, hq, hx⟩, fun v H2 yl => ?_⟩
    obtain ⟨rfl, hv⟩ := yl
    have e := hx.symm.trans (hv xs hq)
    cases e
    obtain ⟨d, hd, rd⟩ := hr.get hx
    refine step _ d _ (List.mem_of_getElem? hd) rd ⟨rfl, ?_⟩
    rw [List.take_add_one, hd, List.map_append, List.map_append]
    rfl
  · obtain ⟨rfl, rfl⟩ := h
    rw [List.take_length]
    exact ⟨⟨xs, hq, by omega⟩, fun D hD => fin D hD⟩
theorem all_yes (ds : List PyData) : ((ds.map fun _ => true).all id) = true := by
  rw [List.all_map]
  exact List.all_eq_true.mpr fun _ _ => rfl
noncomputable def spLaw (K : PySem.W.Frag) : Sp := fun vs H Q _ => ∃ (a : Addr) (ns : List Int), vs = [.ref a] ∧ SqL K H a (ns.map V.int) ∧ ns.length ≤ 63 ∧ ∀ H', Q (.bl true) H'
noncomputable def lawD (K : PySem.W.Frag) : TS := (tRet (tAndV (tOp (rEqD K) (tCall (spFuns K) [] E0 (tCons (tVar 1) tNil)) (tVar 3)) (tAndV (tOp (rEqD K) (tVar 4) (tOp rPlus (tVar 3) (tLst (tCons (tC V.non) tNil)))) (tOp rEq (tCB (fun xs H Q => ∃ a d, xs = [V.ref a] ∧ Rep K H (V.ref a) d ∧ d.showable = true ∧ d.hasDict = false ∧ d.depth ≤ 64 ∧ d.shown.length ≤ sizeLine ∧ Q (V.str d.shown) H) (tCons (tVar 1) tNil)) (tVar 2)))))
noncomputable def lawC (K : PySem.W.Frag) : TS := tSeq (tDrop (tBM K "list" rAppend (tVar 4) (tCons (tC V.non) tNil))) (lawD K)
noncomputable def lawB (K : PySem.W.Frag) : TS := tSeq (tIfS (tNot (tB (tCB (fun xs H Q => ∃ a bs, xs = [V.ref a] ∧ SqL K H a (List.map V.bl bs) ∧ Q (V.bl (bs.all id)) H) (tCons (tComp (iSeq K (tSl (rSlA K) (tVar 4) (tPart (tC (V.int 1))) tNoPart)) [none] (gName 0) tYes (tAndV (tCB (fun xs H Q => ∃ x d T, xs = [x, V.ty T] ∧ Rep K H x d ∧ T ∈ ["bool", "int", "str", "list", "tuple"] ∧ Q (V.bl (isi (tyD d) T)) H) (tCons (tOp (rIx K) (tVar 0) (tC (V.int 3))) (tCons (tC (V.ty "int")) tNil))) (tNotV (tCB (fun xs H Q => ∃ x d T, xs = [x, V.ty T] ∧ Rep K H x d ∧ T ∈ ["bool", "int", "str", "list", "tuple"] ∧ Q (V.bl (isi (tyD d) T)) H) (tCons (tOp (rIx K) (tVar 0) (tC (V.int 3))) (tCons (tC (V.ty "bool")) tNil)))))) tNil)))) (tRet (tC (V.bl false))) tNext) (lawC K)
noncomputable def lawA (K : PySem.W.Frag) : TS := tSeq (tIfS (tOr (tNot (tB (tCB (fun xs H Q => ∃ x d T, xs = [x, V.ty T] ∧ Rep K H x d ∧ T ∈ ["bool", "int", "str", "list", "tuple"] ∧ Q (V.bl (isi (tyD d) T)) H) (tCons (tVar 4) (tCons (tC (V.ty "list")) tNil))))) (tOr (tTest (tOp (rNeD K) (tVar 4) (tVar 3))) (tNot (tB (tCB (fun xs H Q => ∃ a bs, xs = [V.ref a] ∧ SqL K H a (List.map V.bl bs) ∧ Q (V.bl (bs.all id)) H) (tCons (tComp (iSeq K (tVar 4)) [none] (gName 0) tYes (tCB (fun xs H Q => ∃ x d T, xs = [x, V.ty T] ∧ Rep K H x d ∧ T ∈ ["bool", "int", "str", "list", "tuple"] ∧ Q (V.bl (isi (tyD d) T)) H) (tCons (tVar 0) (tCons (tC (V.ty "tuple")) tNil)))) tNil)))))) (tRet (tC (V.bl false))) tNext) (lawB K)
theorem ok_law (F : Fun K "law" "law" s_law f fd) (c : Cs K mg ad) (d_law_program : Def P w K mg base 34 "_law_program" ["_law_script", "_law_most"] (spProg K)) (d_law_gathered : Def P w K mg base 14 "_law_gathered" ["_law_part", "_law_number_here", "_law_found"] (spGath K 12)) (d_functions_of : Def P w K mg base 7 "functions_of" ["program"] (spFuns K)) : FnOkG P w K mg base CX0 35 f fd ["_law_script"] (spLaw K) := by
  refine F.okG sc_law (fun vs H Q E h => ?_) (fun cdv A outer s H vs Q E hgd hr h => ?_)
  · obtain ⟨a, ns, rfl, _⟩ := h
    rfl
  obtain ⟨a, ns, rfl, hS, _, q⟩ := h
  have hu80 : (A.deeper (PyProof.Rows.envOfC "law" (defScope s_law) s.heap.objs.size f cdv)).units + 80 < cLine := by have := hr.un; omega
  have hu64 := hr.units
  refine ⟨_, (pss_cons (ps_set (i := 1) sc_law.nd rfl (by first | exact Or.inl rfl | exact Or.inr rfl) (pe_def d_law_program (hr.mono (by first | decide | omega)) (pa_cons (pv 0) (pa_cons pe_int pa_nil))))
      (pss_cons (ps_set (i := 2) sc_law.nd rfl (by first | exact Or.inl rfl | exact Or.inr rfl) (pe_callTy (str_k (K := K) rfl hgd hu80) (by rfl) c.str_ bt_str (pa_cons (pv 1) pa_nil)))
      (pss_cons (ps_set (i := 3) sc_law.nd rfl (by first | exact Or.inl rfl | exact Or.inr rfl) (pe_lst (pa_cons (pe_tup (pa_cons pe_str (pa_cons (pe_ix (ix_k (K := K) rfl) (pv 1) pe_int (fun _ _ => rfl)) (pa_cons (pe_ix (ix_k (K := K) rfl) (pv 1) pe_int (fun _ _ => rfl)) (pa_cons pe_non pa_nil))))) pa_nil)))
      (pss_cons (ps_expr (pe_def d_law_gathered (hr.mono (by first | decide | omega)) (pa_cons (pv 1) (pa_cons pe_int (pa_cons (pv 3) pa_nil)))))
      (pss_cons (ps_set (i := 4) sc_law.nd rfl (by first | exact Or.inl rfl | exact Or.inr rfl) (pe_def d_functions_of (hr.mono (by first | decide | omega)) (pa_cons (pv 1) pa_nil)))
      (pss_cons (ps_if (PW.pt (pw_or (pt_not (pt_val (pe_callB (isiD_k (K := K) rfl) (by rfl) c.isinstance_ bt_isinstance (pa_cons (pv 4) (pa_cons (pe_ty c.list_ bt_list) pa_nil))))) (pw_or (pt_cmpR (neD_k (K := K) rfl hu64) (pv 4) (pv 3) (nomark _)) (pw_or1 (pt_not (pt_val (pe_callB (all_k (K := K) rfl rfl) (by rfl) c.all_ bt_all (pa_cons (pe_comp (sc := defScope s_law) (NX := ["_law_script", "_law_program_here", "_law_kept", "_law_due", "_law_found"]) (N := ["_law_one"]) (js := [none]) (pi_k (K := K) rfl (pv 4)) (fun _ _ _ _ _ => (pg_name (i := 0) (show (["_law_one"] : List Str).Nodup by decide +kernel) rfl (Or.inl rfl))) (fun _ _ _ _ _ => pf_nil) (fun _ _ _ _ _ => (pe_callB (isiD_k (K := K) rfl) (by rfl) c.isinstance_ bt_isinstance (pa_cons (pv 0) (pa_cons (pe_ty c.tuple_ bt_tuple) pa_nil)))) (own_name rfl) ⟨by decide +kernel, rfl, by decide +kernel, by decide +kernel, rfl, by decide +kernel⟩) pa_nil)))))))) (pss_one (ps_ret pe_bl)) pss_nil)
      (pss_cons (ps_if (pt_not (pt_val (pe_callB (all_k (K := K) rfl rfl) (by rfl) c.all_ bt_all (pa_cons (pe_comp (sc := defScope s_law) (NX := ["_law_script", "_law_program_here", "_law_kept", "_law_due", "_law_found"]) (N := ["_law_one"]) (js := [none]) (pi_k (K := K) rfl (pe_slice (sl_k (K := K) rfl) (pv 4) (po_some pe_int) po_none)) (fun _ _ _ _ _ => (pg_name (i := 0) (show (["_law_one"] : List Str).Nodup by decide +kernel) rfl (Or.inl rfl))) (fun _ _ _ _ _ => pf_nil) (fun _ _ _ _ _ => (pe_and (pe_callB (isiD_k (K := K) rfl) (by rfl) c.isinstance_ bt_isinstance (pa_cons (pe_ix (ix_k (K := K) rfl) (pv 0) pe_int (fun _ _ => rfl)) (pa_cons (pe_ty c.int_ bt_int) pa_nil))) (pe_one (pe_not (pe_callB (isiD_k (K := K) rfl) (by rfl) c.isinstance_ bt_isinstance (pa_cons (pe_ix (ix_k (K := K) rfl) (pv 0) pe_int (fun _ _ => rfl)) (pa_cons (pe_ty c.bool_ bt_bool) pa_nil))))))) (own_name rfl) ⟨by decide +kernel, rfl, by decide +kernel, by decide +kernel, rfl, by decide +kernel⟩) pa_nil)))) (pss_one (ps_ret pe_bl)) pss_nil)
      (pss_cons (ps_expr (bm_k (K := K) rfl PySem.F.plainAttrs_list PySem.F.slot_list_append PySem.F.type_list_append mt_append (pv 4) (pa_cons pe_non pa_nil)))
      (pss_one (ps_ret (pe_and (pe_cmpR (eqD_k (K := K) rfl hu64) (pe_def d_functions_of (hr.mono (by first | decide | omega)) (pa_cons (pv 1) pa_nil)) (pv 3) (nomark _)) (pe_and (pe_cmpR (eqD_k (K := K) rfl hu64) (pv 4) (pe_op op_plus (pv 3) (pe_lst (pa_cons pe_non pa_nil))) (nomark _)) (pe_one (pe_cmpR op_eq (pe_callTy (str_k (K := K) rfl hgd hu80) (by rfl) c.str_ bt_str (pa_cons (pv 1) pa_nil)) (pv 2) (nomark _))))))))))))))), ?_⟩
  clear hu80 hu64
  show tSeq _ (tSeq _ (tSeq _ (tSeq _ (tSeq _ (lawA K))))) _ _ _
  refine ⟨_, rfl, a, ns, rfl, hS, fun H1 x d s t g1 r1 f1 p1 hs ht => ?_⟩
  have tr := p1.tr
  have gd := tr.gd
  obtain ⟨able, size⟩ := tr.sz
  obtain ⟨⟨da, db, rfl, ev⟩, accF, lenF⟩ := Tre.funs_main p1 (by omega)
  have nod := PyData.hasDict_of_canLay _ gd.lay
  have dp : (PyData.tuple [.str "main", da, db]).depth ≤ 64 := Nat.le_trans gd.dep (by omega)
  have fits : (PyData.tuple [.str "main", da, db]).shown.length ≤ sizeLine := by
    have e : (10200 * 300 : Nat) ≤ sizeLine := by decide
    have : Tre.sz (PyData.tuple [.str "main", da, db]) = (PyData.tuple [.str "main", da, db]).shown.length := rfl
    omega
  have rr := r1
  cases r1 with
  | @tup ap xs1 _ hq1 rs1 =>
    cases rs1 with
    | @cons y0 _ _ _ r0 rs1 =>
      cases r0
      cases rs1 with
      | @cons ya _ _ _ ra rs1 =>
        cases rs1 with
        | @cons yb _ _ _ rb rs1 =>
          cases rs1
          refine ⟨_, rfl, ap, _, rfl, rr, able, nod, dp, fits, ?_⟩
          refine ⟨_, rfl, .inr (.inl ⟨ap, _, 1, _, rfl, rfl, hq1, atI_nat (j := 1) rfl, _, rfl, .inr (.inl ⟨ap, _, 2, _, rfl, rfl, hq1, atI_nat (j := 2) rfl, (by decide : 4 ≤ sizeLine), fun p2 hp2 => ⟨(by decide : 1 ≤ sizeLine), fun pd hpd => ?_⟩⟩)⟩)⟩
          have g2 := same_new hp2 (.tup [.str "main", ya, yb, .non])
          have g3 := same_new hpd (.lst [.ref p2])
          have g23 := g2.trans g3
          have hm2 := g3 _ _ (show upd H1 p2 (.tup [.str "main", ya, yb, .non]) p2 = some (.tup [.str "main", ya, yb, .non]) from upd_same)
          have hd3 : upd (upd H1 p2 (.tup [.str "main", ya, yb, .non])) pd (.lst [.ref p2]) pd = some (.lst [.ref p2]) := upd_same
          have rm3 : Reps K (upd (upd H1 p2 (.tup [.str "main", ya, yb, .non])) pd (.lst [.ref p2])) [.ref p2] [.tuple [.str "main", da, db, .none]] := .cons (.tup (SqT.of hm2) (.cons (.str _) (.cons (ra.same g23) (.cons (rb.same g23) (.cons .non .nil))))) .nil
          generalize upd (upd H1 p2 (.tup [.str "main", ya, yb, .non])) pd (.lst [.ref p2]) = H3 at g23 hd3 rm3 ⊢
          have fnm : Tre.Fn (.tuple [.str "main", da, db, .none]) := Tre.fn_gd (o := .none) tr (by decide +kernel : Tre.holds "main" = true) (by omega) ⟨rfl, rfl, Nat.zero_le _⟩
          have am : Tre.Acc [.tuple [.str "main", da, db, .none]] := ⟨fun e he => by
            cases List.mem_singleton.mp he
            exact fnm, fun e he => by cases he⟩
          refine ⟨_, rfl, _, rfl, _, _, _, _, s, t, 0, pd, _, _, rfl, rr.same g23, p1, ht, by decide, hd3, rm3, am, by simp, by rw [List.length_singleton]; omega, fun H4 zs4 b4 hd4 rz4 => ?_⟩
          have rr4 := Rep.over hd3 b4 (rr.same g23) gd.nol
          rw [← ev] at rz4
          refine ⟨_, rfl, _, _, s, t, rfl, rr4, f1, p1, hs, by omega, fun H5 p5 zs5 g5 hp5 hz5 rz5 => ?_⟩
          have ne : Tre.funs (.tuple [.str "main", da, db]) ≠ [] := by
            rw [ev]
            cases tr with
            | mk _ tl => exact (Tre.each_acc 30 0 _ tl (by omega) (by simp) am).2.1
          generalize hF : Tre.funs (.tuple [.str "main", da, db]) = F at rz4 rz5 accF lenF ne
          have gF : ∀ e ∈ F, Tre.Gd 60 e := fun e he => by
            obtain ⟨_, _, _, _, _, g⟩ := accF.all e he
            exact g
          have nolF := accF.nol
          have shp := list_shaped gF (by decide)
          have rfl1 : PyData.eqv (.list F) (.list F) = true := PySem.SeqAt.eqv_refl _ (gd_list gF).1
          have big : (2000 : Nat) < sizeLine := by decide
          have hl4 := rz4.length
          have hl5 := rz5.length
          have n5 : pd ≠ p5 := fun z => by rw [z, hp5] at hd4; cases hd4
          refine ⟨_, rfl, _, .list F, "list", rfl, .lst (SqL.of hz5) rz5, by decide, _, rfl, iteN (show (!isi "list" "list") = false by decide) ?_⟩
          refine ⟨_, rfl, _, rfl, .list F, .list F, .lst (SqL.of hz5) rz5, .lst (SqL.of (g5 _ _ hd4)) (rz4.same g5), shp, shp, _, rfl, iteN (by rw [rfl1]; rfl) ?_⟩
          refine ⟨_, rfl, .inl ⟨p5, rfl, ⟨zs5, SqL.of hz5⟩, comp_allL (SqL.of hz5) rz5 (by omega) (fun v e R he re hR => ⟨_, rfl, _, e, "tuple", rfl, re, by decide, ?_⟩) (fun D6 hD6 => ⟨D6, F.map fun _ => true, rfl, SqL.of upd_same, _, rfl, iteN (by rw [all_yes]; rfl) ?_⟩)⟩⟩
          · rw [isi_tup]
            obtain ⟨_, _, _, _, rfl, _⟩ := accF.all e he
            exact hR
          have g6 := same_new hD6 (.lst ((F.map fun _ => true).map V.bl))
          dsimp only
          generalize upd H5 D6 (.lst ((F.map fun _ => true).map V.bl)) = H6 at g6 ⊢
          obtain ⟨e0, Ft, rfl⟩ : ∃ e0 Ft, F = e0 :: Ft := by
            cases F with
            | nil => exact absurd rfl ne
            | cons a b => exact ⟨a, b, rfl⟩
          cases hz : rz5 with
          | @cons z0 zt _ _ rz0 rzt =>
            refine ⟨_, rfl, _, rfl, .inl ⟨p5, _, rfl, SqL.of (g6 _ _ hz5), fun p7 hp7 => ?_⟩⟩
            rw [cut1]
            have g7 := same_new hp7 (.lst zt)
            have g67 := g6.trans g7
            have h7 : upd H6 p7 (.lst zt) p7 = some (.lst zt) := upd_same
            generalize upd H6 p7 (.lst zt) = H7 at g7 g67 h7 ⊢
            refine .inl ⟨p7, rfl, ⟨zt, SqL.of h7⟩, comp_allL (SqL.of h7) (rzt.same g67) (by rw [List.length_cons] at lenF; omega) (fun v e R he re hR => ?_) (fun D8 hD8 => ⟨D8, Ft.map fun _ => true, rfl, SqL.of upd_same, _, rfl, iteN (by rw [all_yes]; rfl) ?_⟩)⟩
            · obtain ⟨h, b1, b2, k, rfl⟩ := accF.tail e he
              cases re with
              | @tup av xs _ hqv rsv =>
                cases rsv with
                | @cons v0 _ _ _ q0 rsv =>
                  cases rsv with
                  | @cons v1 _ _ _ q1 rsv =>
                    cases rsv with
                    | @cons v2 _ _ _ q2 rsv =>
                      cases rsv with
                      | @cons v3 _ _ _ q3 rsv =>
                        cases rsv
                        cases q3
                        refine ⟨_, rfl, .inr (.inl ⟨av, _, 3, _, rfl, rfl, hqv, atI_nat (j := 3) rfl, _, .int k, "int", rfl, .int _, by decide, _, rfl, iteP (show isi "int" "int" = true by decide) ?_⟩)⟩
                        refine ⟨_, rfl, .inr (.inl ⟨av, _, 3, _, rfl, rfl, hqv, atI_nat (j := 3) rfl, _, .int k, "bool", rfl, .int _, by decide, _, rfl, ?_⟩)⟩
                        have eb : (!isi (tyD (.int k)) "bool") = true := (by decide : (!isi "int" "bool") = true)
                        rw [eb]
                        exact hR
            have g8 := g67.trans (same_new hD8 (.lst ((Ft.map fun _ => true).map V.bl)))
            dsimp only
            generalize upd H7 D8 (.lst ((Ft.map fun _ => true).map V.bl)) = H8 at g8 ⊢
            have hz8 := g8 _ _ hz5
            refine ⟨_, rfl, .inl ⟨rfl, _, SqL.of hz8⟩, p5, _, _, rfl, rfl, hz8, by omega, ?_⟩
            have g58 := g5.trans g8
            have rr9 := Rep.put (o' := .lst (z0 :: zt ++ [.non])) hz8 (rr4.same g58) gd.nol
            have rz9 := Reps.put (o' := .lst (z0 :: zt ++ [.non])) hz8 (rz4.same g58) nolF
            have ry9 := Reps.put (o' := .lst (z0 :: zt ++ [.non])) hz8 (rz5.same g8) nolF
            have hd9 : upd H8 p5 (.lst (z0 :: zt ++ [.non])) pd = some (.lst zs4) := by rw [upd_ne n5]; exact g58 _ _ hd4
            have hf9 : upd H8 p5 (.lst (z0 :: zt ++ [.non])) p5 = some (.lst (z0 :: zt ++ [.non])) := upd_same
            dsimp only
            generalize upd H8 p5 (.lst (z0 :: zt ++ [.non])) = H9 at rr9 rz9 ry9 hd9 hf9 ⊢
            refine ⟨_, rfl, _, _, s, t, rfl, rr9, f1, p1, hs, by omega, fun Ha pa za ga hpa ha rza => ?_⟩
            rw [hF] at rza
            refine ⟨_, rfl, .list (e0 :: Ft), .list (e0 :: Ft), .lst (SqL.of ha) rza, .lst (SqL.of (ga _ _ hd9)) (rz9.same ga), shp, shp, _, rfl, iteP rfl1 ?_⟩
            refine ⟨_, rfl, _, rfl, (by decide : 1 ≤ sizeLine), fun pb hpb => ?_⟩
            have gb := same_new hpb (.lst [.non])
            refine .inr (.inr ⟨pd, pb, zs4, [.non], rfl, rfl, (ga.trans gb) _ _ hd9, upd_same, by rw [List.length_singleton]; omega, fun pc hpc => ?_⟩)
            have gc := same_new hpc (.lst (zs4 ++ [.non]))
            have gac := (ga.trans gb).trans gc
            have gFn : ∀ e ∈ e0 :: Ft ++ [.none], Tre.Gd 60 e := fun e he => by
              rcases List.mem_append.mp he with h | h
              · exact gF e h
              · cases List.mem_singleton.mp h
                exact ⟨rfl, rfl, Nat.zero_le _⟩
            have rfl2 : PyData.eqv (.list (e0 :: Ft ++ [.none])) (.list (e0 :: Ft ++ [.none])) = true := PySem.SeqAt.eqv_refl _ (gd_list gFn).1
            refine ⟨.list (e0 :: Ft ++ [.none]), .list (e0 :: Ft ++ [.none]), .lst (SqL.of (gac _ _ hf9)) ((ry9.same gac).append (.cons .non .nil)), .lst (SqL.of upd_same) ((rz9.same gac).append (.cons .non .nil)), list_shaped gFn (by decide), list_shaped gFn (by decide), _, rfl, iteP rfl2 ?_⟩
            refine ⟨_, rfl, ap, _, rfl, rr9.same gac, able, nod, dp, fits, _, rfl, rfl, ?_⟩
            rw [decide_eq_true rfl]
            exact q _
end
end Mine

namespace Mine
open PySem L2
theorem all_mk {l : PySem.W.OpenLaw} {w : World} {K : PySem.W.Frag} {h : Heap} {mg : Str → Option Value} {fa f0 f1 f2 f3 f4 f5 f6 f7 f8 f9 f10 f11 f12 f13 f14 f15 f16 f17 f18 f19 f20 f21 f22 : Addr} (X : K.In h) (G : h.Ns mainGlobals mg) (hfa : mg "law" = some (.ref fa))
    {c_LoomError c_BadTree : Addr}
    {a_SIGNS : Addr} {n_SIGNS : Nat} {k_SIGNS_0 k_SIGNS_1 k_SIGNS_2 k_SIGNS_3 k_SIGNS_4 : Tok} {a_FORMS : Addr} {n_FORMS : Nat} {k_FORMS_0 k_FORMS_1 k_FORMS_2 k_FORMS_3 k_FORMS_4 k_FORMS_5 k_FORMS_6 k_FORMS_7 k_FORMS_8 k_FORMS_9 k_FORMS_10 k_FORMS_11 k_FORMS_12 k_FORMS_13 k_FORMS_14 k_FORMS_15 k_FORMS_16 : Tok} {a_FORMS0 : Addr} {n_FORMS0 : Nat} {k_FORMS0_0 k_FORMS0_1 : Tok} {a_FORMS1 : Addr} {n_FORMS1 : Nat} {k_FORMS1_0 : Tok} {a_FORMS2 : Addr} {n_FORMS2 : Nat} {k_FORMS2_0 : Tok} {a_FORMS3 : Addr} {n_FORMS3 : Nat} {k_FORMS3_0 k_FORMS3_1 k_FORMS3_2 : Tok} {a_FORMS4 : Addr} {n_FORMS4 : Nat} {k_FORMS4_0 k_FORMS4_1 : Tok} {a_FORMS5 : Addr} {n_FORMS5 : Nat} {k_FORMS5_0 k_FORMS5_1 : Tok} {a_FORMS6 : Addr} {n_FORMS6 : Nat} {k_FORMS6_0 k_FORMS6_1 : Tok} {a_FORMS7 : Addr} {n_FORMS7 : Nat} {k_FORMS7_0 k_FORMS7_1 : Tok} {a_FORMS8 : Addr} {n_FORMS8 : Nat} {k_FORMS8_0 k_FORMS8_1 : Tok} {a_FORMS9 : Addr} {n_FORMS9 : Nat} {k_FORMS9_0 k_FORMS9_1 : Tok} {a_FORMS10 : Addr} {n_FORMS10 : Nat} {k_FORMS10_0 : Tok} {a_FORMS11 : Addr} {n_FORMS11 : Nat} {k_FORMS11_0 k_FORMS11_1 k_FORMS11_2 : Tok} {a_FORMS12 : Addr} {n_FORMS12 : Nat} {k_FORMS12_0 k_FORMS12_1 : Tok} {a_FORMS13 : Addr} {n_FORMS13 : Nat} {k_FORMS13_0 : Tok} {a_FORMS14 : Addr} {n_FORMS14 : Nat} {k_FORMS14_0 : Tok} {a_FORMS15 : Addr} {n_FORMS15 : Nat} {k_FORMS15_0 k_FORMS15_1 : Tok} {a_FORMS16 : Addr} {n_FORMS16 : Nat} {k_FORMS16_0 k_FORMS16_1 k_FORMS16_2 k_FORMS16_3 k_FORMS16_4 : Tok} {a_HEADS : Addr} {n_HEADS : Nat} {k_HEADS_0 k_HEADS_1 k_HEADS_2 : Tok} {a_HEADS0 : Addr} {n_HEADS0 : Nat} {k_HEADS0_0 : Tok} {a_HEADS1 : Addr} {n_HEADS1 : Nat} {k_HEADS1_0 k_HEADS1_1 k_HEADS1_2 k_HEADS1_3 k_HEADS1_4 k_HEADS1_5 k_HEADS1_6 : Tok} {a_HEADS2 : Addr} {n_HEADS2 : Nat} {k_HEADS2_0 k_HEADS2_1 k_HEADS2_2 k_HEADS2_3 k_HEADS2_4 k_HEADS2_5 k_HEADS2_6 k_HEADS2_7 k_HEADS2_8 : Tok} {a_MEMBERS : Addr} {n_MEMBERS : Nat} {k_MEMBERS_0 k_MEMBERS_1 k_MEMBERS_2 : Tok} {w_MEMBERS_0 w_MEMBERS_1 w_MEMBERS_2 : Tok} {a_INNER_KINDS : Addr} {n_INNER_KINDS : Nat} {k_INNER_KINDS_0 k_INNER_KINDS_1 : Tok}
    {od0 an0 od1 an1 od2 an2 od3 an3 od4 an4 od5 an5 od6 an6 od7 an7 od8 an8 od9 an9 od10 an10 od11 an11 od12 an12 od13 an13 od14 an14 od15 an15 od16 an16 od17 an17 od18 an18 od19 an19 od20 an20 od21 an21 od22 an22 : Option Addr} {sl0 sl1 sl2 sl3 sl4 sl5 sl6 sl7 sl8 sl9 sl10 sl11 sl12 sl13 sl14 sl15 sl16 sl17 sl18 sl19 sl20 sl21 sl22 : Array (Option Value)} {oc0 kV0 dc0 pm0 cd0 ct0 oc1 kV1 dc1 pm1 cd1 ct1 oc2 kV2 dc2 pm2 cd2 ct2 oc3 kV3 dc3 pm3 cd3 ct3 oc4 kV4 dc4 pm4 cd4 ct4 oc5 kV5 dc5 pm5 cd5 ct5 oc6 kV6 dc6 pm6 cd6 ct6 oc7 kV7 dc7 pm7 cd7 ct7 oc8 kV8 dc8 pm8 cd8 ct8 oc9 kV9 dc9 pm9 cd9 ct9 oc10 kV10 dc10 pm10 cd10 ct10 oc11 kV11 dc11 pm11 cd11 ct11 oc12 kV12 dc12 pm12 cd12 ct12 oc13 kV13 dc13 pm13 cd13 ct13 oc14 kV14 dc14 pm14 cd14 ct14 oc15 kV15 dc15 pm15 cd15 ct15 oc16 kV16 dc16 pm16 cd16 ct16 oc17 kV17 dc17 pm17 cd17 ct17 oc18 kV18 dc18 pm18 cd18 ct18 oc19 kV19 dc19 pm19 cd19 ct19 oc20 kV20 dc20 pm20 cd20 ct20 oc21 kV21 dc21 pm21 cd21 ct21 oc22 kV22 dc22 pm22 cd22 ct22 : Value}
    {t_MOST_LETTERS t_GREATEST_NUMBER t_MOST_NAMES t_MOST_TERMS t_MOST_STATEMENTS t_MOST_DEPTH t_MOST_PARTS : Tok}
    (a0 : PySem.W.nsIn K mainGlobals "is_name" = some (some (.ref f0))) (l0 : K.lookup f0 = some ⟨oc0, od0, .func (PySem.W.fnOf "is_name" "is_name" (defArgs s_is_name) (defBody s_is_name) (defScope s_is_name) .none kV0 dc0 pm0 an0 cd0 ct0), sl0⟩) (c0 : PySem.W.codeIn K cd0 "is_name" = true) (k0 : PySem.W.keepIn K (.ref f0) = true)
    (a1 : PySem.W.nsIn K mainGlobals "is_number" = some (some (.ref f1))) (l1 : K.lookup f1 = some ⟨oc1, od1, .func (PySem.W.fnOf "is_number" "is_number" (defArgs s_is_number) (defBody s_is_number) (defScope s_is_number) .none kV1 dc1 pm1 an1 cd1 ct1), sl1⟩) (c1 : PySem.W.codeIn K cd1 "is_number" = true) (k1 : PySem.W.keepIn K (.ref f1) = true)
    (a2 : PySem.W.nsIn K mainGlobals "is_row" = some (some (.ref f2))) (l2 : K.lookup f2 = some ⟨oc2, od2, .func (PySem.W.fnOf "is_row" "is_row" (defArgs s_is_row) (defBody s_is_row) (defScope s_is_row) .none kV2 dc2 pm2 an2 cd2 ct2), sl2⟩) (c2 : PySem.W.codeIn K cd2 "is_row" = true) (k2 : PySem.W.keepIn K (.ref f2) = true)
    (a3 : PySem.W.nsIn K mainGlobals "are_names" = some (some (.ref f3))) (l3 : K.lookup f3 = some ⟨oc3, od3, .func (PySem.W.fnOf "are_names" "are_names" (defArgs s_are_names) (defBody s_are_names) (defScope s_are_names) .none kV3 dc3 pm3 an3 cd3 ct3), sl3⟩) (c3 : PySem.W.codeIn K cd3 "are_names" = true) (k3 : PySem.W.keepIn K (.ref f3) = true)
    (a4 : PySem.W.nsIn K mainGlobals "has_shape" = some (some (.ref f4))) (l4 : K.lookup f4 = some ⟨oc4, od4, .func (PySem.W.fnOf "has_shape" "has_shape" (defArgs s_has_shape) (defBody s_has_shape) (defScope s_has_shape) .none kV4 dc4 pm4 an4 cd4 ct4), sl4⟩) (c4 : PySem.W.codeIn K cd4 "has_shape" = true) (k4 : PySem.W.keepIn K (.ref f4) = true)
    (a5 : PySem.W.nsIn K mainGlobals "has_form" = some (some (.ref f5))) (l5 : K.lookup f5 = some ⟨oc5, od5, .func (PySem.W.fnOf "has_form" "has_form" (defArgs s_has_form) (defBody s_has_form) (defScope s_has_form) .none kV5 dc5 pm5 an5 cd5 ct5), sl5⟩) (c5 : PySem.W.codeIn K cd5 "has_form" = true) (k5 : PySem.W.keepIn K (.ref f5) = true)
    (a6 : PySem.W.nsIn K mainGlobals "inner_with_shapes" = some (some (.ref f6))) (l6 : K.lookup f6 = some ⟨oc6, od6, .func (PySem.W.fnOf "inner_with_shapes" "inner_with_shapes" (defArgs s_inner_with_shapes) (defBody s_inner_with_shapes) (defScope s_inner_with_shapes) .none kV6 dc6 pm6 an6 cd6 ct6), sl6⟩) (c6 : PySem.W.codeIn K cd6 "inner_with_shapes" = true) (k6 : PySem.W.keepIn K (.ref f6) = true)
    (a7 : PySem.W.nsIn K mainGlobals "hands_within" = some (some (.ref f7))) (l7 : K.lookup f7 = some ⟨oc7, od7, .func (PySem.W.fnOf "hands_within" "hands_within" (defArgs s_hands_within) (defBody s_hands_within) (defScope s_hands_within) .none kV7 dc7 pm7 an7 cd7 ct7), sl7⟩) (c7 : PySem.W.codeIn K cd7 "hands_within" = true) (k7 : PySem.W.keepIn K (.ref f7) = true)
    (a8 : PySem.W.nsIn K mainGlobals "is_program" = some (some (.ref f8))) (l8 : K.lookup f8 = some ⟨oc8, od8, .func (PySem.W.fnOf "is_program" "is_program" (defArgs s_is_program) (defBody s_is_program) (defScope s_is_program) .none kV8 dc8 pm8 an8 cd8 ct8), sl8⟩) (c8 : PySem.W.codeIn K cd8 "is_program" = true) (k8 : PySem.W.keepIn K (.ref f8) = true)
    (a9 : PySem.W.nsIn K mainGlobals "need_program" = some (some (.ref f9))) (l9 : K.lookup f9 = some ⟨oc9, od9, .func (PySem.W.fnOf "need_program" "need_program" (defArgs s_need_program) (defBody s_need_program) (defScope s_need_program) .none kV9 dc9 pm9 an9 cd9 ct9), sl9⟩) (c9 : PySem.W.codeIn K cd9 "need_program" = true) (k9 : PySem.W.keepIn K (.ref f9) = true)
    (a10 : PySem.W.nsIn K mainGlobals "inner_of" = some (some (.ref f10))) (l10 : K.lookup f10 = some ⟨oc10, od10, .func (PySem.W.fnOf "inner_of" "inner_of" (defArgs s_inner_of) (defBody s_inner_of) (defScope s_inner_of) .none kV10 dc10 pm10 an10 cd10 ct10), sl10⟩) (c10 : PySem.W.codeIn K cd10 "inner_of" = true) (k10 : PySem.W.keepIn K (.ref f10) = true)
    (a11 : PySem.W.nsIn K mainGlobals "functions_of" = some (some (.ref f11))) (l11 : K.lookup f11 = some ⟨oc11, od11, .func (PySem.W.fnOf "functions_of" "functions_of" (defArgs s_functions_of) (defBody s_functions_of) (defScope s_functions_of) .none kV11 dc11 pm11 an11 cd11 ct11), sl11⟩) (c11 : PySem.W.codeIn K cd11 "functions_of" = true) (k11 : PySem.W.keepIn K (.ref f11) = true)
    (a12 : PySem.W.nsIn K mainGlobals "_law_cell_at" = some (some (.ref f12))) (l12 : K.lookup f12 = some ⟨oc12, od12, .func (PySem.W.fnOf "_law_cell_at" "_law_cell_at" (defArgs s_law_cell_at) (defBody s_law_cell_at) (defScope s_law_cell_at) .none kV12 dc12 pm12 an12 cd12 ct12), sl12⟩) (c12 : PySem.W.codeIn K cd12 "_law_cell_at" = true) (k12 : PySem.W.keepIn K (.ref f12) = true)
    (a13 : PySem.W.nsIn K mainGlobals "_law_next" = some (some (.ref f13))) (l13 : K.lookup f13 = some ⟨oc13, od13, .func (PySem.W.fnOf "_law_next" "_law_next" (defArgs s_law_next) (defBody s_law_next) (defScope s_law_next) .none kV13 dc13 pm13 an13 cd13 ct13), sl13⟩) (c13 : PySem.W.codeIn K cd13 "_law_next" = true) (k13 : PySem.W.keepIn K (.ref f13) = true)
    (a14 : PySem.W.nsIn K mainGlobals "_law_names" = some (some (.ref f14))) (l14 : K.lookup f14 = some ⟨oc14, od14, .func (PySem.W.fnOf "_law_names" "_law_names" (defArgs s_law_names) (defBody s_law_names) (defScope s_law_names) .none kV14 dc14 pm14 an14 cd14 ct14), sl14⟩) (c14 : PySem.W.codeIn K cd14 "_law_names" = true) (k14 : PySem.W.keepIn K (.ref f14) = true)
    (a15 : PySem.W.nsIn K mainGlobals "_law_number" = some (some (.ref f15))) (l15 : K.lookup f15 = some ⟨oc15, od15, .func (PySem.W.fnOf "_law_number" "_law_number" (defArgs s_law_number) (defBody s_law_number) (defScope s_law_number) .none kV15 dc15 pm15 an15 cd15 ct15), sl15⟩) (c15 : PySem.W.codeIn K cd15 "_law_number" = true) (k15 : PySem.W.keepIn K (.ref f15) = true)
    (a16 : PySem.W.nsIn K mainGlobals "_law_term" = some (some (.ref f16))) (l16 : K.lookup f16 = some ⟨oc16, od16, .func (PySem.W.fnOf "_law_term" "_law_term" (defArgs s_law_term) (defBody s_law_term) (defScope s_law_term) .none kV16 dc16 pm16 an16 cd16 ct16), sl16⟩) (c16 : PySem.W.codeIn K cd16 "_law_term" = true) (k16 : PySem.W.keepIn K (.ref f16) = true)
    (a17 : PySem.W.nsIn K mainGlobals "_law_body" = some (some (.ref f17))) (l17 : K.lookup f17 = some ⟨oc17, od17, .func (PySem.W.fnOf "_law_body" "_law_body" (defArgs s_law_body) (defBody s_law_body) (defScope s_law_body) .none kV17 dc17 pm17 an17 cd17 ct17), sl17⟩) (c17 : PySem.W.codeIn K cd17 "_law_body" = true) (k17 : PySem.W.keepIn K (.ref f17) = true)
    (a18 : PySem.W.nsIn K mainGlobals "_law_statement" = some (some (.ref f18))) (l18 : K.lookup f18 = some ⟨oc18, od18, .func (PySem.W.fnOf "_law_statement" "_law_statement" (defArgs s_law_statement) (defBody s_law_statement) (defScope s_law_statement) .none kV18 dc18 pm18 an18 cd18 ct18), sl18⟩) (c18 : PySem.W.codeIn K cd18 "_law_statement" = true) (k18 : PySem.W.keepIn K (.ref f18) = true)
    (a19 : PySem.W.nsIn K mainGlobals "_law_program" = some (some (.ref f19))) (l19 : K.lookup f19 = some ⟨oc19, od19, .func (PySem.W.fnOf "_law_program" "_law_program" (defArgs s_law_program) (defBody s_law_program) (defScope s_law_program) .none kV19 dc19 pm19 an19 cd19 ct19), sl19⟩) (c19 : PySem.W.codeIn K cd19 "_law_program" = true) (k19 : PySem.W.keepIn K (.ref f19) = true)
    (a20 : PySem.W.nsIn K mainGlobals "_law_inner" = some (some (.ref f20))) (l20 : K.lookup f20 = some ⟨oc20, od20, .func (PySem.W.fnOf "_law_inner" "_law_inner" (defArgs s_law_inner) (defBody s_law_inner) (defScope s_law_inner) .none kV20 dc20 pm20 an20 cd20 ct20), sl20⟩) (c20 : PySem.W.codeIn K cd20 "_law_inner" = true) (k20 : PySem.W.keepIn K (.ref f20) = true)
    (a21 : PySem.W.nsIn K mainGlobals "_law_gathered" = some (some (.ref f21))) (l21 : K.lookup f21 = some ⟨oc21, od21, .func (PySem.W.fnOf "_law_gathered" "_law_gathered" (defArgs s_law_gathered) (defBody s_law_gathered) (defScope s_law_gathered) .none kV21 dc21 pm21 an21 cd21 ct21), sl21⟩) (c21 : PySem.W.codeIn K cd21 "_law_gathered" = true) (k21 : PySem.W.keepIn K (.ref f21) = true)
    (a22 : PySem.W.nsIn K mainGlobals "law" = some (some (.ref f22))) (l22 : K.lookup f22 = some ⟨oc22, od22, .func (PySem.W.fnOf "law" "law" (defArgs s_law) (defBody s_law) (defScope s_law) .none kV22 dc22 pm22 an22 cd22 ct22), sl22⟩) (c22 : PySem.W.codeIn K cd22 "law" = true) (k22 : PySem.W.keepIn K (.ref f22) = true)
    (z_all : PySem.W.nsIn K mainGlobals "all" = some none)
    (z_isinstance : PySem.W.nsIn K mainGlobals "isinstance" = some none)
    (z_str : PySem.W.nsIn K mainGlobals "str" = some none)
    (z_len : PySem.W.nsIn K mainGlobals "len" = some none)
    (z_bool : PySem.W.nsIn K mainGlobals "bool" = some none)
    (z_int : PySem.W.nsIn K mainGlobals "int" = some none)
    (z_tuple : PySem.W.nsIn K mainGlobals "tuple" = some none)
    (z_set : PySem.W.nsIn K mainGlobals "set" = some none)
    (z_zip : PySem.W.nsIn K mainGlobals "zip" = some none)
    (z_reversed : PySem.W.nsIn K mainGlobals "reversed" = some none)
    (z_max : PySem.W.nsIn K mainGlobals "max" = some none)
    (z_range : PySem.W.nsIn K mainGlobals "range" = some none)
    (z_list : PySem.W.nsIn K mainGlobals "list" = some none)
    (g_MOST_LETTERS : PySem.W.nsIn K mainGlobals "MOST_LETTERS" = some (some (.int 8 t_MOST_LETTERS)))
    (g_GREATEST_NUMBER : PySem.W.nsIn K mainGlobals "GREATEST_NUMBER" = some (some (.int 1000000000000 t_GREATEST_NUMBER)))
    (g_MOST_NAMES : PySem.W.nsIn K mainGlobals "MOST_NAMES" = some (some (.int 4 t_MOST_NAMES)))
    (g_MOST_TERMS : PySem.W.nsIn K mainGlobals "MOST_TERMS" = some (some (.int 4 t_MOST_TERMS)))
    (g_MOST_STATEMENTS : PySem.W.nsIn K mainGlobals "MOST_STATEMENTS" = some (some (.int 12 t_MOST_STATEMENTS)))
    (g_MOST_DEPTH : PySem.W.nsIn K mainGlobals "MOST_DEPTH" = some (some (.int 20 t_MOST_DEPTH)))
    (g_MOST_PARTS : PySem.W.nsIn K mainGlobals "MOST_PARTS" = some (some (.int 300 t_MOST_PARTS)))
    (n_LoomError : PySem.W.nsIn K mainGlobals "LoomError" = some (some (.ref c_LoomError)))
    (n_BadTree : PySem.W.nsIn K mainGlobals "BadTree" = some (some (.ref c_BadTree)))
    (x_own : PySem.W.excIn K c_BadTree bmVE "ValueError.__new__" = true)
    (g_SIGNS : PySem.W.nsIn K mainGlobals "SIGNS" = some (some (.ref a_SIGNS)))
    (l_SIGNS : K.lookup a_SIGNS = some { cls := .type "tuple", data := .seq ([.str "+" k_SIGNS_0, .str "-" k_SIGNS_1, .str "*" k_SIGNS_2, .str "<" k_SIGNS_3, .str "=" k_SIGNS_4] : List Value).toArray n_SIGNS })
    (g_FORMS : PySem.W.nsIn K mainGlobals "FORMS" = some (some (.ref a_FORMS)))
    (l_FORMS : K.lookup a_FORMS = some { cls := .type "dict", data := .dict ([⟨PyData.keyHash w.params "main", .str "main" k_FORMS_0, .ref a_FORMS0⟩, ⟨PyData.keyHash w.params "number", .str "number" k_FORMS_1, .ref a_FORMS1⟩, ⟨PyData.keyHash w.params "name", .str "name" k_FORMS_2, .ref a_FORMS2⟩, ⟨PyData.keyHash w.params "two", .str "two" k_FORMS_3, .ref a_FORMS3⟩, ⟨PyData.keyHash w.params "fun", .str "fun" k_FORMS_4, .ref a_FORMS4⟩, ⟨PyData.keyHash w.params "loop", .str "loop" k_FORMS_5, .ref a_FORMS5⟩, ⟨PyData.keyHash w.params "call", .str "call" k_FORMS_6, .ref a_FORMS6⟩, ⟨PyData.keyHash w.params "step", .str "step" k_FORMS_7, .ref a_FORMS7⟩, ⟨PyData.keyHash w.params "let", .str "let" k_FORMS_8, .ref a_FORMS8⟩, ⟨PyData.keyHash w.params "set", .str "set" k_FORMS_9, .ref a_FORMS9⟩, ⟨PyData.keyHash w.params "do", .str "do" k_FORMS_10, .ref a_FORMS10⟩, ⟨PyData.keyHash w.params "if", .str "if" k_FORMS_11, .ref a_FORMS11⟩, ⟨PyData.keyHash w.params "while", .str "while" k_FORMS_12, .ref a_FORMS12⟩, ⟨PyData.keyHash w.params "hand", .str "hand" k_FORMS_13, .ref a_FORMS13⟩, ⟨PyData.keyHash w.params "back", .str "back" k_FORMS_14, .ref a_FORMS14⟩, ⟨PyData.keyHash w.params "fault", .str "fault" k_FORMS_15, .ref a_FORMS15⟩, ⟨PyData.keyHash w.params "try", .str "try" k_FORMS_16, .ref a_FORMS16⟩] : List DictEntry).toArray n_FORMS })
    (l_FORMS0 : K.lookup a_FORMS0 = some { cls := .type "tuple", data := .seq ([.str "names" k_FORMS0_0, .str "body" k_FORMS0_1] : List Value).toArray n_FORMS0 })
    (l_FORMS1 : K.lookup a_FORMS1 = some { cls := .type "tuple", data := .seq ([.str "number" k_FORMS1_0] : List Value).toArray n_FORMS1 })
    (l_FORMS2 : K.lookup a_FORMS2 = some { cls := .type "tuple", data := .seq ([.str "name" k_FORMS2_0] : List Value).toArray n_FORMS2 })
    (l_FORMS3 : K.lookup a_FORMS3 = some { cls := .type "tuple", data := .seq ([.str "sign" k_FORMS3_0, .str "term" k_FORMS3_1, .str "term" k_FORMS3_2] : List Value).toArray n_FORMS3 })
    (l_FORMS4 : K.lookup a_FORMS4 = some { cls := .type "tuple", data := .seq ([.str "names" k_FORMS4_0, .str "body" k_FORMS4_1] : List Value).toArray n_FORMS4 })
    (l_FORMS5 : K.lookup a_FORMS5 = some { cls := .type "tuple", data := .seq ([.str "names" k_FORMS5_0, .str "body" k_FORMS5_1] : List Value).toArray n_FORMS5 })
    (l_FORMS6 : K.lookup a_FORMS6 = some { cls := .type "tuple", data := .seq ([.str "term" k_FORMS6_0, .str "terms" k_FORMS6_1] : List Value).toArray n_FORMS6 })
    (l_FORMS7 : K.lookup a_FORMS7 = some { cls := .type "tuple", data := .seq ([.str "term" k_FORMS7_0, .str "term" k_FORMS7_1] : List Value).toArray n_FORMS7 })
    (l_FORMS8 : K.lookup a_FORMS8 = some { cls := .type "tuple", data := .seq ([.str "name" k_FORMS8_0, .str "term" k_FORMS8_1] : List Value).toArray n_FORMS8 })
    (l_FORMS9 : K.lookup a_FORMS9 = some { cls := .type "tuple", data := .seq ([.str "name" k_FORMS9_0, .str "term" k_FORMS9_1] : List Value).toArray n_FORMS9 })
    (l_FORMS10 : K.lookup a_FORMS10 = some { cls := .type "tuple", data := .seq ([.str "term" k_FORMS10_0] : List Value).toArray n_FORMS10 })
    (l_FORMS11 : K.lookup a_FORMS11 = some { cls := .type "tuple", data := .seq ([.str "term" k_FORMS11_0, .str "body" k_FORMS11_1, .str "body" k_FORMS11_2] : List Value).toArray n_FORMS11 })
    (l_FORMS12 : K.lookup a_FORMS12 = some { cls := .type "tuple", data := .seq ([.str "term" k_FORMS12_0, .str "body" k_FORMS12_1] : List Value).toArray n_FORMS12 })
    (l_FORMS13 : K.lookup a_FORMS13 = some { cls := .type "tuple", data := .seq ([.str "term" k_FORMS13_0] : List Value).toArray n_FORMS13 })
    (l_FORMS14 : K.lookup a_FORMS14 = some { cls := .type "tuple", data := .seq ([.str "term" k_FORMS14_0] : List Value).toArray n_FORMS14 })
    (l_FORMS15 : K.lookup a_FORMS15 = some { cls := .type "tuple", data := .seq ([.str "word" k_FORMS15_0, .str "term" k_FORMS15_1] : List Value).toArray n_FORMS15 })
    (l_FORMS16 : K.lookup a_FORMS16 = some { cls := .type "tuple", data := .seq ([.str "body" k_FORMS16_0, .str "name" k_FORMS16_1, .str "name" k_FORMS16_2, .str "body" k_FORMS16_3, .str "body" k_FORMS16_4] : List Value).toArray n_FORMS16 })
    (g_HEADS : PySem.W.nsIn K mainGlobals "HEADS" = some (some (.ref a_HEADS)))
    (l_HEADS : K.lookup a_HEADS = some { cls := .type "dict", data := .dict ([⟨PyData.keyHash w.params "program", .str "program" k_HEADS_0, .ref a_HEADS0⟩, ⟨PyData.keyHash w.params "term", .str "term" k_HEADS_1, .ref a_HEADS1⟩, ⟨PyData.keyHash w.params "statement", .str "statement" k_HEADS_2, .ref a_HEADS2⟩] : List DictEntry).toArray n_HEADS })
    (l_HEADS0 : K.lookup a_HEADS0 = some { cls := .type "tuple", data := .seq ([.str "main" k_HEADS0_0] : List Value).toArray n_HEADS0 })
    (l_HEADS1 : K.lookup a_HEADS1 = some { cls := .type "tuple", data := .seq ([.str "number" k_HEADS1_0, .str "name" k_HEADS1_1, .str "two" k_HEADS1_2, .str "fun" k_HEADS1_3, .str "loop" k_HEADS1_4, .str "call" k_HEADS1_5, .str "step" k_HEADS1_6] : List Value).toArray n_HEADS1 })
    (l_HEADS2 : K.lookup a_HEADS2 = some { cls := .type "tuple", data := .seq ([.str "let" k_HEADS2_0, .str "set" k_HEADS2_1, .str "do" k_HEADS2_2, .str "if" k_HEADS2_3, .str "while" k_HEADS2_4, .str "hand" k_HEADS2_5, .str "back" k_HEADS2_6, .str "fault" k_HEADS2_7, .str "try" k_HEADS2_8] : List Value).toArray n_HEADS2 })
    (g_MEMBERS : PySem.W.nsIn K mainGlobals "MEMBERS" = some (some (.ref a_MEMBERS)))
    (l_MEMBERS : K.lookup a_MEMBERS = some { cls := .type "dict", data := .dict ([⟨PyData.keyHash w.params "names", .str "names" k_MEMBERS_0, .str "name" w_MEMBERS_0⟩, ⟨PyData.keyHash w.params "terms", .str "terms" k_MEMBERS_1, .str "term" w_MEMBERS_1⟩, ⟨PyData.keyHash w.params "body", .str "body" k_MEMBERS_2, .str "statement" w_MEMBERS_2⟩] : List DictEntry).toArray n_MEMBERS })
    (g_INNER_KINDS : PySem.W.nsIn K mainGlobals "INNER_KINDS" = some (some (.ref a_INNER_KINDS)))
    (l_INNER_KINDS : K.lookup a_INNER_KINDS = some { cls := .type "tuple", data := .seq ([.str "fun" k_INNER_KINDS_0, .str "loop" k_INNER_KINDS_1] : List Value).toArray n_INNER_KINDS }) :
    ∃ fd : FuncData, (∀ (s : Shared) (v : Value), BindsTo s fd ⟨[v], []⟩ [("_law_script", v)]) ∧ ∀ base : Heap, K.In base → base.Ns mainGlobals mg → FnOkG l.prog w K mg base CX0 35 fa fd ["_law_script"] (spLaw K) := by
  have e := hfa.symm.trans (PySem.W.mg_of X G a22)
  cases e
  have c : Cs K mg ⟨c_LoomError, c_BadTree⟩ := ⟨PySem.W.mg_none_of X G z_all, PySem.W.mg_none_of X G z_isinstance, PySem.W.mg_none_of X G z_str, PySem.W.mg_none_of X G z_len, PySem.W.mg_none_of X G z_bool, PySem.W.mg_none_of X G z_int, PySem.W.mg_none_of X G z_tuple, PySem.W.mg_none_of X G z_set, PySem.W.mg_none_of X G z_zip, PySem.W.mg_none_of X G z_reversed, PySem.W.mg_none_of X G z_max, PySem.W.mg_none_of X G z_range, PySem.W.mg_none_of X G z_list, ⟨_, PySem.W.mg_of X G g_MOST_LETTERS, ⟨_, rfl⟩⟩, ⟨_, PySem.W.mg_of X G g_GREATEST_NUMBER, ⟨_, rfl⟩⟩, ⟨_, PySem.W.mg_of X G g_MOST_NAMES, ⟨_, rfl⟩⟩, ⟨_, PySem.W.mg_of X G g_MOST_TERMS, ⟨_, rfl⟩⟩, ⟨_, PySem.W.mg_of X G g_MOST_STATEMENTS, ⟨_, rfl⟩⟩, ⟨_, PySem.W.mg_of X G g_MOST_DEPTH, ⟨_, rfl⟩⟩, ⟨_, PySem.W.mg_of X G g_MOST_PARTS, ⟨_, rfl⟩⟩, PySem.W.mg_of X G n_LoomError, PySem.W.mg_of X G n_BadTree, xown_of x_own⟩
  refine ⟨PySem.W.fnOf "law" "law" (defArgs s_law) (defBody s_law) (defScope s_law) .none kV22 dc22 pm22 an22 cd22 ct22, fun s v => .of_eq rfl, fun base _ _ => ?_⟩
  have T : Tb l.prog w K mg := ⟨⟨_, PySem.W.mg_of X G g_SIGNS, (sqT_of (l := ["+", "-", "*", "<", "="]) l_SIGNS (.cons ⟨_, rfl⟩ (.cons ⟨_, rfl⟩ (.cons ⟨_, rfl⟩ (.cons ⟨_, rfl⟩ (.cons ⟨_, rfl⟩ .nil))))) (by decide : (5 : Nat) ≤ 1000))⟩, ⟨_, _, PySem.W.mg_of X G g_FORMS, kdict_of l_FORMS (.cons (.cons (.cons (.cons (.cons (.cons (.cons (.cons (.cons (.cons (.cons (.cons (.cons (.cons (.cons (.cons (.cons .nil))))))))))))))))) (show (["main", "number", "name", "two", "fun", "loop", "call", "step", "let", "set", "do", "if", "while", "hand", "back", "fault", "try"] : List Str).Nodup by decide +kernel), (.cons (sqT_of (l := ["names", "body"]) l_FORMS0 (.cons ⟨_, rfl⟩ (.cons ⟨_, rfl⟩ .nil)) (by decide : (2 : Nat) ≤ 1000)) (.cons (sqT_of (l := ["number"]) l_FORMS1 (.cons ⟨_, rfl⟩ .nil) (by decide : (1 : Nat) ≤ 1000)) (.cons (sqT_of (l := ["name"]) l_FORMS2 (.cons ⟨_, rfl⟩ .nil) (by decide : (1 : Nat) ≤ 1000)) (.cons (sqT_of (l := ["sign", "term", "term"]) l_FORMS3 (.cons ⟨_, rfl⟩ (.cons ⟨_, rfl⟩ (.cons ⟨_, rfl⟩ .nil))) (by decide : (3 : Nat) ≤ 1000)) (.cons (sqT_of (l := ["names", "body"]) l_FORMS4 (.cons ⟨_, rfl⟩ (.cons ⟨_, rfl⟩ .nil)) (by decide : (2 : Nat) ≤ 1000)) (.cons (sqT_of (l := ["names", "body"]) l_FORMS5 (.cons ⟨_, rfl⟩ (.cons ⟨_, rfl⟩ .nil)) (by decide : (2 : Nat) ≤ 1000)) (.cons (sqT_of (l := ["term", "terms"]) l_FORMS6 (.cons ⟨_, rfl⟩ (.cons ⟨_, rfl⟩ .nil)) (by decide : (2 : Nat) ≤ 1000)) (.cons (sqT_of (l := ["term", "term"]) l_FORMS7 (.cons ⟨_, rfl⟩ (.cons ⟨_, rfl⟩ .nil)) (by decide : (2 : Nat) ≤ 1000)) (.cons (sqT_of (l := ["name", "term"]) l_FORMS8 (.cons ⟨_, rfl⟩ (.cons ⟨_, rfl⟩ .nil)) (by decide : (2 : Nat) ≤ 1000)) (.cons (sqT_of (l := ["name", "term"]) l_FORMS9 (.cons ⟨_, rfl⟩ (.cons ⟨_, rfl⟩ .nil)) (by decide : (2 : Nat) ≤ 1000)) (.cons (sqT_of (l := ["term"]) l_FORMS10 (.cons ⟨_, rfl⟩ .nil) (by decide : (1 : Nat) ≤ 1000)) (.cons (sqT_of (l := ["term", "body", "body"]) l_FORMS11 (.cons ⟨_, rfl⟩ (.cons ⟨_, rfl⟩ (.cons ⟨_, rfl⟩ .nil))) (by decide : (3 : Nat) ≤ 1000)) (.cons (sqT_of (l := ["term", "body"]) l_FORMS12 (.cons ⟨_, rfl⟩ (.cons ⟨_, rfl⟩ .nil)) (by decide : (2 : Nat) ≤ 1000)) (.cons (sqT_of (l := ["term"]) l_FORMS13 (.cons ⟨_, rfl⟩ .nil) (by decide : (1 : Nat) ≤ 1000)) (.cons (sqT_of (l := ["term"]) l_FORMS14 (.cons ⟨_, rfl⟩ .nil) (by decide : (1 : Nat) ≤ 1000)) (.cons (sqT_of (l := ["word", "term"]) l_FORMS15 (.cons ⟨_, rfl⟩ (.cons ⟨_, rfl⟩ .nil)) (by decide : (2 : Nat) ≤ 1000)) (.cons (sqT_of (l := ["body", "name", "name", "body", "body"]) l_FORMS16 (.cons ⟨_, rfl⟩ (.cons ⟨_, rfl⟩ (.cons ⟨_, rfl⟩ (.cons ⟨_, rfl⟩ (.cons ⟨_, rfl⟩ .nil))))) (by decide : (5 : Nat) ≤ 1000)) .nil)))))))))))))))))⟩, ⟨_, _, PySem.W.mg_of X G g_HEADS, kdict_of l_HEADS (.cons (.cons (.cons .nil))) (show (["program", "term", "statement"] : List Str).Nodup by decide +kernel), (.cons (sqT_of (l := ["main"]) l_HEADS0 (.cons ⟨_, rfl⟩ .nil) (by decide : (1 : Nat) ≤ 1000)) (.cons (sqT_of (l := ["number", "name", "two", "fun", "loop", "call", "step"]) l_HEADS1 (.cons ⟨_, rfl⟩ (.cons ⟨_, rfl⟩ (.cons ⟨_, rfl⟩ (.cons ⟨_, rfl⟩ (.cons ⟨_, rfl⟩ (.cons ⟨_, rfl⟩ (.cons ⟨_, rfl⟩ .nil))))))) (by decide : (7 : Nat) ≤ 1000)) (.cons (sqT_of (l := ["let", "set", "do", "if", "while", "hand", "back", "fault", "try"]) l_HEADS2 (.cons ⟨_, rfl⟩ (.cons ⟨_, rfl⟩ (.cons ⟨_, rfl⟩ (.cons ⟨_, rfl⟩ (.cons ⟨_, rfl⟩ (.cons ⟨_, rfl⟩ (.cons ⟨_, rfl⟩ (.cons ⟨_, rfl⟩ (.cons ⟨_, rfl⟩ .nil))))))))) (by decide : (9 : Nat) ≤ 1000)) .nil)))⟩, ⟨_, _, PySem.W.mg_of X G g_MEMBERS, kdict_of l_MEMBERS (.cons (.cons (.cons .nil))) (show (["names", "terms", "body"] : List Str).Nodup by decide +kernel), (.cons (.cons (.cons .nil)))⟩⟩
  have T2 : Tb2 K mg := ⟨⟨_, PySem.W.mg_of X G g_INNER_KINDS, (sqT_of (l := ["fun", "loop"]) l_INNER_KINDS (.cons ⟨_, rfl⟩ (.cons ⟨_, rfl⟩ .nil)) (by decide : (2 : Nat) ≤ 1000))⟩⟩
  have F0 := fun_mk (st := s_is_name) l0 c0 k0
  have b0 := F0.binds (ps := ["thing"]) fun _ _ _ _ _ _ us hl => match us, hl with | [_], _ => rfl
  have d_is_name : Def l.prog w K mg base _ "is_name" ["thing"] _ := ⟨_, _, ok_is_name (P := l.prog) (w := w) (base := base) F0 c, b0, k0, PySem.W.mg_of X G a0⟩
  have F1 := fun_mk (st := s_is_number) l1 c1 k1
  have b1 := F1.binds (ps := ["thing"]) fun _ _ _ _ _ _ us hl => match us, hl with | [_], _ => rfl
  have d_is_number : Def l.prog w K mg base _ "is_number" ["thing"] _ := ⟨_, _, ok_is_number (P := l.prog) (w := w) (base := base) F1 c, b1, k1, PySem.W.mg_of X G a1⟩
  have F2 := fun_mk (st := s_is_row) l2 c2 k2
  have b2 := F2.binds (ps := ["thing", "most"]) fun _ _ _ _ _ _ us hl => match us, hl with | [_, _], _ => rfl
  have d_is_row : Def l.prog w K mg base _ "is_row" ["thing", "most"] _ := ⟨_, _, ok_is_row (P := l.prog) (w := w) (base := base) F2 c, b2, k2, PySem.W.mg_of X G a2⟩
  have F3 := fun_mk (st := s_are_names) l3 c3 k3
  have b3 := F3.binds (ps := ["thing"]) fun _ _ _ _ _ _ us hl => match us, hl with | [_], _ => rfl
  have d_are_names : Def l.prog w K mg base _ "are_names" ["thing"] _ := ⟨_, _, ok_are_names (P := l.prog) (w := w) (base := base) F3 c d_is_name d_is_row, b3, k3, PySem.W.mg_of X G a3⟩
  have F4 := fun_mk (st := s_has_shape) l4 c4 k4
  have b4 := F4.binds (ps := ["thing", "shape"]) fun _ _ _ _ _ _ us hl => match us, hl with | [_, _], _ => rfl
  have d_has_shape : Def l.prog w K mg base _ "has_shape" ["thing", "shape"] _ := ⟨_, _, ok_has_shape (P := l.prog) (w := w) (base := base) F4 c T d_is_name d_is_number d_is_row d_are_names, b4, k4, PySem.W.mg_of X G a4⟩
  have F5 := fun_mk (st := s_has_form) l5 c5 k5
  have b5 := F5.binds (ps := ["thing", "shape", "hands"]) fun _ _ _ _ _ _ us hl => match us, hl with | [_, _, _], _ => rfl
  have d_has_form : Def l.prog w K mg base _ "has_form" ["thing", "shape", "hands"] _ := ⟨_, _, ok_has_form (P := l.prog) (w := w) (base := base) F5 c T d_has_shape, b5, k5, PySem.W.mg_of X G a5⟩
  have F6 := fun_mk (st := s_inner_with_shapes) l6 c6 k6
  have b6 := F6.binds (ps := ["part"]) fun _ _ _ _ _ _ us hl => match us, hl with | [_], _ => rfl
  have d_inner_with_shapes : Def l.prog w K mg base _ "inner_with_shapes" ["part"] _ := ⟨_, _, ok_inner_with_shapes (P := l.prog) (w := w) (base := base) F6 c T, b6, k6, PySem.W.mg_of X G a6⟩
  have F7 := fun_mk (st := s_hands_within) l7 c7 k7
  have b7 := F7.binds (ps := ["part", "hands"]) fun _ _ _ _ _ _ us hl => match us, hl with | [_, _], _ => rfl
  have d_hands_within : Def l.prog w K mg base _ "hands_within" ["part", "hands"] _ := ⟨_, _, ok_hands_within (P := l.prog) (w := w) (base := base) F7 c, b7, k7, PySem.W.mg_of X G a7⟩
  have F8 := fun_mk (st := s_is_program) l8 c8 k8
  have b8 := F8.binds (ps := ["thing"]) fun _ _ _ _ _ _ us hl => match us, hl with | [_], _ => rfl
  have d_is_program : Def l.prog w K mg base _ "is_program" ["thing"] _ := ⟨_, _, ok_is_program (P := l.prog) (w := w) (base := base) F8 c d_has_form d_hands_within d_inner_with_shapes, b8, k8, PySem.W.mg_of X G a8⟩
  have F9 := fun_mk (st := s_need_program) l9 c9 k9
  have b9 := F9.binds (ps := ["thing"]) fun _ _ _ _ _ _ us hl => match us, hl with | [_], _ => rfl
  have d_need_program : DefX l.prog w K mg base _ "need_program" ["thing"] _ := ⟨_, _, ok_need_program (P := l.prog) (w := w) (base := base) F9 c d_is_program, b9, k9, PySem.W.mg_of X G a9⟩
  have F10 := fun_mk (st := s_inner_of) l10 c10 k10
  have b10 := F10.binds (ps := ["part"]) fun _ _ _ _ _ _ us hl => match us, hl with | [_], _ => rfl
  have d_inner_of : Def l.prog w K mg base _ "inner_of" ["part"] _ := ⟨_, _, ok_inner_of (P := l.prog) (w := w) (base := base) F10 c d_inner_with_shapes, b10, k10, PySem.W.mg_of X G a10⟩
  have F11 := fun_mk (st := s_functions_of) l11 c11 k11
  have b11 := F11.binds (ps := ["program"]) fun _ _ _ _ _ _ us hl => match us, hl with | [_], _ => rfl
  have d_functions_of : Def l.prog w K mg base _ "functions_of" ["program"] _ := ⟨_, _, ok_functions_of (P := l.prog) (w := w) (base := base) F11 c T2 d_need_program d_inner_of, b11, k11, PySem.W.mg_of X G a11⟩
  have F12 := fun_mk (st := s_law_cell_at) l12 c12 k12
  have b12 := F12.binds (ps := ["_law_script", "_law_k"]) fun _ _ _ _ _ _ us hl => match us, hl with | [_, _], _ => rfl
  have d_law_cell_at : Def l.prog w K mg base _ "_law_cell_at" ["_law_script", "_law_k"] _ := ⟨_, _, ok_law_cell_at (P := l.prog) (w := w) (base := base) F12 c, b12, k12, PySem.W.mg_of X G a12⟩
  have F13 := fun_mk (st := s_law_next) l13 c13 k13
  have b13 := F13.binds (ps := ["_law_state"]) fun _ _ _ _ _ _ us hl => match us, hl with | [_], _ => rfl
  have d_law_next : Def l.prog w K mg base _ "_law_next" ["_law_state"] _ := ⟨_, _, ok_law_next (P := l.prog) (w := w) (base := base) F13 c d_law_cell_at, b13, k13, PySem.W.mg_of X G a13⟩
  have F14 := fun_mk (st := s_law_names) l14 c14 k14
  have b14 := F14.binds (ps := ["_law_cell", "_law_many"]) fun _ _ _ _ _ _ us hl => match us, hl with | [_, _], _ => rfl
  have d_law_names : Def l.prog w K mg base _ "_law_names" ["_law_cell", "_law_many"] _ := ⟨_, _, ok_law_names (P := l.prog) (w := w) (base := base) F14 c, b14, k14, PySem.W.mg_of X G a14⟩
  have F15 := fun_mk (st := s_law_number) l15 c15 k15
  have b15 := F15.binds (ps := ["_law_more"]) fun _ _ _ _ _ _ us hl => match us, hl with | [_], _ => rfl
  have d_law_number : Def l.prog w K mg base _ "_law_number" ["_law_more"] _ := ⟨_, _, ok_law_number (P := l.prog) (w := w) (base := base) F15 c, b15, k15, PySem.W.mg_of X G a15⟩
  have F16 := fun_mk (st := s_law_term) l16 c16 k16
  have b16 := F16.binds (ps := ["_law_state", "_law_deep"]) fun _ _ _ _ _ _ us hl => match us, hl with | [_, _], _ => rfl
  have kn_law_term : Known K mg "_law_term" ["_law_state", "_law_deep"] f16 _ := ⟨b16, k16, PySem.W.mg_of X G a16⟩
  have F_law_term := F16
  have F17 := fun_mk (st := s_law_body) l17 c17 k17
  have b17 := F17.binds (ps := ["_law_state", "_law_deep", "_law_may_hand"]) fun _ _ _ _ _ _ us hl => match us, hl with | [_, _, _], _ => rfl
  have kn_law_body : Known K mg "_law_body" ["_law_state", "_law_deep", "_law_may_hand"] f17 _ := ⟨b17, k17, PySem.W.mg_of X G a17⟩
  have F_law_body := F17
  have F18 := fun_mk (st := s_law_statement) l18 c18 k18
  have b18 := F18.binds (ps := ["_law_state", "_law_deep", "_law_may_hand"]) fun _ _ _ _ _ _ us hl => match us, hl with | [_, _, _], _ => rfl
  have kn_law_statement : Known K mg "_law_statement" ["_law_state", "_law_deep", "_law_may_hand"] f18 _ := ⟨b18, k18, PySem.W.mg_of X G a18⟩
  have F_law_statement := F18
  have d_law_statement := (drawn (P := l.prog) (w := w) (base := base) F_law_term F_law_statement F_law_body kn_law_term kn_law_statement kn_law_body c d_law_next d_law_number 7).2.1
  have F19 := fun_mk (st := s_law_program) l19 c19 k19
  have b19 := F19.binds (ps := ["_law_script", "_law_most"]) fun _ _ _ _ _ _ us hl => match us, hl with | [_, _], _ => rfl
  have d_law_program : Def l.prog w K mg base _ "_law_program" ["_law_script", "_law_most"] _ := ⟨_, _, ok_law_program (P := l.prog) (w := w) (base := base) F19 c d_law_cell_at d_law_names d_law_next d_law_statement, b19, k19, PySem.W.mg_of X G a19⟩
  have F20 := fun_mk (st := s_law_inner) l20 c20 k20
  have b20 := F20.binds (ps := ["_law_part"]) fun _ _ _ _ _ _ us hl => match us, hl with | [_], _ => rfl
  have d_law_inner : Def l.prog w K mg base _ "_law_inner" ["_law_part"] _ := ⟨_, _, ok_law_inner (P := l.prog) (w := w) (base := base) F20 c, b20, k20, PySem.W.mg_of X G a20⟩
  have F21 := fun_mk (st := s_law_gathered) l21 c21 k21
  have b21 := F21.binds (ps := ["_law_part", "_law_number_here", "_law_found"]) fun _ _ _ _ _ _ us hl => match us, hl with | [_, _, _], _ => rfl
  have kn_law_gathered : Known K mg "_law_gathered" ["_law_part", "_law_number_here", "_law_found"] f21 _ := ⟨b21, k21, PySem.W.mg_of X G a21⟩
  have F_law_gathered := F21
  have d_law_gathered := gathers (P := l.prog) (w := w) (base := base) F_law_gathered kn_law_gathered c d_law_inner 12
  have F22 := fun_mk (st := s_law) l22 c22 k22
  exact ok_law F22 c d_law_program d_law_gathered d_functions_of
theorem walk {l : PySem.W.OpenLaw} {q : Program} {loose : List Str} {XP : (Str → Option Value) → Heap → Prop} {YP : World → Heap → Prop} {d : DefRec} {K : Params → PySem.W.Frag} (hn : l.most = some 63) (hdf : d.params.defaults = [])
    (hY : ∀ (w : World) (h : Heap), YP w h → (K w.params).In h)
    (F : ∀ (w : World) (mg : Str → Option Value) (fa : Addr) (h : Heap), (K w.params).In h → h.Ns mainGlobals mg → mg d.name = some (.ref fa) →
      ∃ fd : FuncData, (∀ (s : Shared) (u : Value), BindsTo s fd ⟨[u], []⟩ [("_law_script", u)]) ∧ ∀ base : Heap, (K w.params).In base → base.Ns mainGlobals mg → FnOkG l.prog w (K w.params) mg base CX0 35 fa fd ["_law_script"] (spLaw (K w.params))) :
    PySem.W.WalkO q loose XP YP l.row.toRowW d [] (fun f vs => PySem.call f vs) :=
  L2.walk_ofG (n := 63) (k := 35) (x := "_law_script") (CX := fun _ => CX0) (sp := fun w => spLaw (K w.params)) hn (by decide) hdf ⟨rfl, by decide, by decide⟩ hY F (fun _ _ a ns hl _ hS => ⟨a, ns, rfl, hS, hl, fun _ => rfl⟩) fun _ _ _ _ _ z => z
end Mine
open PySem PySem.W PyProof.Rows
set_option maxRecDepth 100000 in
set_option maxHeartbeats 0 in
theorem PySem.Challenge.cw_waitloom_k07_functions_in_order_holds : PySem.Challenge.rw_waitloom_k07_functions_in_order.Holds := by
  w_on; o_law; k_head; (case hw => w_witness2)
  k_fill
  refine Mine.walk (l := PySem.Challenge.rw_waitloom_k07_functions_in_order) rfl rfl (fun w h Y => PySem.W.kIn_of Y) ?F
  case F =>
    intro w mg fa h KX G hmg
    refine' Mine.all_mk KX G hmg ?a0 ?l0 ?c0 ?k0 ?a1 ?l1 ?c1 ?k1 ?a2 ?l2 ?c2 ?k2 ?a3 ?l3 ?c3 ?k3 ?a4 ?l4 ?c4 ?k4 ?a5 ?l5 ?c5 ?k5 ?a6 ?l6 ?c6 ?k6 ?a7 ?l7 ?c7 ?k7 ?a8 ?l8 ?c8 ?k8 ?a9 ?l9 ?c9 ?k9 ?a10 ?l10 ?c10 ?k10 ?a11 ?l11 ?c11 ?k11 ?a12 ?l12 ?c12 ?k12 ?a13 ?l13 ?c13 ?k13 ?a14 ?l14 ?c14 ?k14 ?a15 ?l15 ?c15 ?k15 ?a16 ?l16 ?c16 ?k16 ?a17 ?l17 ?c17 ?k17 ?a18 ?l18 ?c18 ?k18 ?a19 ?l19 ?c19 ?k19 ?a20 ?l20 ?c20 ?k20 ?a21 ?l21 ?c21 ?k21 ?a22 ?l22 ?c22 ?k22 ?z_all ?z_isinstance ?z_str ?z_len ?z_bool ?z_int ?z_tuple ?z_set ?z_zip ?z_reversed ?z_max ?z_range ?z_list ?g_MOST_LETTERS ?g_GREATEST_NUMBER ?g_MOST_NAMES ?g_MOST_TERMS ?g_MOST_STATEMENTS ?g_MOST_DEPTH ?g_MOST_PARTS ?n_LoomError ?n_BadTree ?x_own ?g_SIGNS ?l_SIGNS ?g_FORMS ?l_FORMS ?l_FORMS0 ?l_FORMS1 ?l_FORMS2 ?l_FORMS3 ?l_FORMS4 ?l_FORMS5 ?l_FORMS6 ?l_FORMS7 ?l_FORMS8 ?l_FORMS9 ?l_FORMS10 ?l_FORMS11 ?l_FORMS12 ?l_FORMS13 ?l_FORMS14 ?l_FORMS15 ?l_FORMS16 ?g_HEADS ?l_HEADS ?l_HEADS0 ?l_HEADS1 ?l_HEADS2 ?g_MEMBERS ?l_MEMBERS ?g_INNER_KINDS ?l_INNER_KINDS
    (case a0 => k_is)
    (case l0 => k_is)
    (case c0 => k_is)
    (case k0 => k_is)
    (case a1 => k_is)
    (case l1 => k_is)
    (case c1 => k_is)
    (case k1 => k_is)
    (case a2 => k_is)
    (case l2 => k_is)
    (case c2 => k_is)
    (case k2 => k_is)
    (case a3 => k_is)
    (case l3 => k_is)
    (case c3 => k_is)
    (case k3 => k_is)
    (case a4 => k_is)
    (case l4 => k_is)
    (case c4 => k_is)
    (case k4 => k_is)
    (case a5 => k_is)
    (case l5 => k_is)
    (case c5 => k_is)
    (case k5 => k_is)
    (case a6 => k_is)
    (case l6 => k_is)
    (case c6 => k_is)
    (case k6 => k_is)
    (case a7 => k_is)
    (case l7 => k_is)
    (case c7 => k_is)
    (case k7 => k_is)
    (case a8 => k_is)
    (case l8 => k_is)
    (case c8 => k_is)
    (case k8 => k_is)
    (case a9 => k_is)
    (case l9 => k_is)
    (case c9 => k_is)
    (case k9 => k_is)
    (case a10 => k_is)
    (case l10 => k_is)
    (case c10 => k_is)
    (case k10 => k_is)
    (case a11 => k_is)
    (case l11 => k_is)
    (case c11 => k_is)
    (case k11 => k_is)
    (case a12 => k_is)
    (case l12 => k_is)
    (case c12 => k_is)
    (case k12 => k_is)
    (case a13 => k_is)
    (case l13 => k_is)
    (case c13 => k_is)
    (case k13 => k_is)
    (case a14 => k_is)
    (case l14 => k_is)
    (case c14 => k_is)
    (case k14 => k_is)
    (case a15 => k_is)
    (case l15 => k_is)
    (case c15 => k_is)
    (case k15 => k_is)
    (case a16 => k_is)
    (case l16 => k_is)
    (case c16 => k_is)
    (case k16 => k_is)
    (case a17 => k_is)
    (case l17 => k_is)
    (case c17 => k_is)
    (case k17 => k_is)
    (case a18 => k_is)
    (case l18 => k_is)
    (case c18 => k_is)
    (case k18 => k_is)
    (case a19 => k_is)
    (case l19 => k_is)
    (case c19 => k_is)
    (case k19 => k_is)
    (case a20 => k_is)
    (case l20 => k_is)
    (case c20 => k_is)
    (case k20 => k_is)
    (case a21 => k_is)
    (case l21 => k_is)
    (case c21 => k_is)
    (case k21 => k_is)
    (case a22 => k_is)
    (case l22 => k_is)
    (case c22 => k_is)
    (case k22 => k_is)
    (case z_all => k_is)
    (case z_isinstance => k_is)
    (case z_str => k_is)
    (case z_len => k_is)
    (case z_bool => k_is)
    (case z_int => k_is)
    (case z_tuple => k_is)
    (case z_set => k_is)
    (case z_zip => k_is)
    (case z_reversed => k_is)
    (case z_max => k_is)
    (case z_range => k_is)
    (case z_list => k_is)
    (case g_MOST_LETTERS => k_is)
    (case g_GREATEST_NUMBER => k_is)
    (case g_MOST_NAMES => k_is)
    (case g_MOST_TERMS => k_is)
    (case g_MOST_STATEMENTS => k_is)
    (case g_MOST_DEPTH => k_is)
    (case g_MOST_PARTS => k_is)
    (case n_LoomError => k_is)
    (case n_BadTree => k_is)
    (case x_own => k_exc)
    (case g_SIGNS => k_is)
    (case l_SIGNS => k_is)
    (case g_FORMS => k_is)
    (case l_FORMS => k_is)
    (case l_FORMS0 => k_is)
    (case l_FORMS1 => k_is)
    (case l_FORMS2 => k_is)
    (case l_FORMS3 => k_is)
    (case l_FORMS4 => k_is)
    (case l_FORMS5 => k_is)
    (case l_FORMS6 => k_is)
    (case l_FORMS7 => k_is)
    (case l_FORMS8 => k_is)
    (case l_FORMS9 => k_is)
    (case l_FORMS10 => k_is)
    (case l_FORMS11 => k_is)
    (case l_FORMS12 => k_is)
    (case l_FORMS13 => k_is)
    (case l_FORMS14 => k_is)
    (case l_FORMS15 => k_is)
    (case l_FORMS16 => k_is)
    (case g_HEADS => k_is)
    (case l_HEADS => k_is)
    (case l_HEADS0 => k_is)
    (case l_HEADS1 => k_is)
    (case l_HEADS2 => k_is)
    (case g_MEMBERS => k_is)
    (case l_MEMBERS => k_is)
    (case g_INNER_KINDS => k_is)
    (case l_INNER_KINDS => k_is)
#print axioms PySem.Challenge.cw_waitloom_k07_functions_in_order_holds

