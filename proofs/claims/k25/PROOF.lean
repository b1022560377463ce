import PyProof.Rows.All
import Wide.All
import OpenK.AllK
import Wide.FinOn
import Lean
import PyProof.EqAt
import PyProof.EqKinds
import PyProof.TupleCall
import PyProof.EqLayable
import PyProof.FitsBits
import PyProof.FitsInt
import PyProof.ReprLen
import PyProof.ReprReads
import PyProof.StrLawsRepr
import KE.KDictSum
import KE.KRevSl
import PyProof.Rows.ZipGen
import PyProof.Rows.SortWalk
import PySem.Challenge.RW_waitloom_k25_whole_collected
set_option Elab.async false
set_option linter.all false
set_option genSizeOf false
set_option maxRecDepth 100000
namespace L2
open PySem PySem.Spec PyProof.Rows

noncomputable abbrev Key := Sum Int Str
noncomputable def keyIs : Key → Value → Bool
  | .inl k, v => Value.isInt k v
  | .inr x, v => Value.isStrOf x v
noncomputable def keyH (w : World) : Key → Int
  | .inl k => hashInt k
  | .inr x => hashStr w x
theorem keyIs_shape : ∀ {k : Key} {v : Value}, keyIs k v = true → (∃ i t, k = Sum.inl i ∧ v = Value.int i t) ∨ (∃ x t, k = Sum.inr x ∧ v = Value.str x t)
  | .inl i, v, h => by
    obtain ⟨t, e⟩ := Value.isInt_shape (k := i) (v := v) h
    exact .inl ⟨i, t, rfl, e⟩
  | .inr x, v, h => by
    obtain ⟨t, e⟩ := Value.isStrOf_shape (x := x) (v := v) h
    exact .inr ⟨x, t, rfl, e⟩
theorem keyIs_int (i : Int) (t : Tok) : keyIs (.inl i) (.int i t) = true := by simp [keyIs, Value.isInt]
theorem keyIs_str (x : Str) (t : Tok) : keyIs (.inr x) (.str x t) = true := by simp [keyIs, Value.isStrOf]
theorem key_ll (a b : Int) : decide ((Sum.inl a : Key) = Sum.inl b) = (a == b) := by
  by_cases e : a = b
  · subst e; simp
  · have h : ¬ (Sum.inl a : Key) = Sum.inl b := fun q => e (Sum.inl.inj q)
    rw [decide_eq_false h]
    exact (beq_eq_false_iff_ne.mpr e).symm
theorem key_rr (a b : Str) : decide ((Sum.inr a : Key) = Sum.inr b) = decide (a = b) := by
  by_cases e : a = b
  · subst e; simp
  · have h : ¬ (Sum.inr a : Key) = Sum.inr b := fun q => e (Sum.inr.inj q)
    rw [decide_eq_false h, decide_eq_false e]
theorem key_lr (a : Int) (b : Str) : decide ((Sum.inl a : Key) = Sum.inr b) = false := decide_eq_false (fun q => nomatch q)
theorem key_rl (a : Str) (b : Int) : decide ((Sum.inr a : Key) = Sum.inl b) = false := decide_eq_false (fun q => nomatch q)

noncomputable def mixKind (prog : Program) (w : World) : PySem.KeyKind prog w Key where
  is := keyIs
  hash := keyH w
  inj := fun v a b ha hb => by
    rcases keyIs_shape ha with ⟨i, t, rfl, rfl⟩ | ⟨x, t, rfl, rfl⟩
    · rcases keyIs_shape hb with ⟨j, u, rfl, e⟩ | ⟨y, u, rfl, e⟩
      · injection e with e1 _; rw [e1]
      · exact nomatch e
    · rcases keyIs_shape hb with ⟨j, u, rfl, e⟩ | ⟨y, u, rfl, e⟩
      · exact nomatch e
      · injection e with e1 _; rw [e1]
  byValue := fun k v h => by
    rcases keyIs_shape h with ⟨i, t, rfl, rfl⟩ | ⟨x, t, rfl, rfl⟩ <;> rfl
  pyHash := fun hv h => by
    rcases keyIs_shape hv with ⟨i, t, rfl, rfl⟩ | ⟨x, t, rfl, rfl⟩
    · exact wpAny_pyHash_int h
    · exact wpAny_pyHash_str h
  eqBool := fun hu hv h => by
    rcases keyIs_shape hu with ⟨i, t, rfl, rfl⟩ | ⟨x, t, rfl, rfl⟩
    · rcases keyIs_shape hv with ⟨j, u, rfl, rfl⟩ | ⟨y, u, rfl, rfl⟩
      · rw [key_ll] at h; exact wpAny_eqBool_int h
      · rw [key_lr] at h; exact SeqAt.EqAt.int_str i t y u _ _ _ _ h
    · rcases keyIs_shape hv with ⟨j, u, rfl, rfl⟩ | ⟨y, u, rfl, rfl⟩
      · rw [key_rl] at h; exact SeqAt.EqAt.str_int x t j u _ _ _ _ h
      · rw [key_rr] at h; exact wpAny_eqBool_str h
  «strs» := fun k x t v h => by
    rcases keyIs_shape h with ⟨i, u, rfl, e⟩ | ⟨y, u, rfl, e⟩
    · exact nomatch e
    · injection e with e1 _
      subst e1
      cases v <;> rfl

theorem mixKind_int (prog : Program) (w : World) (i : Int) (t : Tok) : (mixKind prog w).is (.inl i) (.int i t) = true := keyIs_int i t
theorem mixKind_str (prog : Program) (w : World) (x : Str) (t : Tok) : (mixKind prog w).is (.inr x) (.str x t) = true := keyIs_str x t
end L2

namespace L2
open PySem PySem.Spec PyProof.Rows

inductive V where
  | non | bl (b : Bool) | int (i : Int) | str (x : Str) | byt (b : Array UInt8) | flt (b : UInt64) | ref (a : Addr) | ty (n : String)
  deriving DecidableEq

noncomputable def RelV : V → Value → Prop
  | .non, u => u = Value.none
  | .bl b, u => u = Value.bool b
  | .int i, u => ∃ t, u = Value.int i t
  | .str x, u => ∃ t, u = Value.str x t
  | .byt b, u => ∃ t, u = Value.bytes b t
  | .flt b, u => ∃ t, u = Value.float b t
  | .ref a, u => u = Value.ref a
  | .ty n, u => u = Value.type n

noncomputable abbrev Vals : List V → List Value → Prop := Paired RelV
theorem Vals.length {xs : List V} {us : List Value} (r : Vals xs us) : xs.length = us.length := Paired.length r
theorem Vals.get : ∀ {xs : List V} {us : List Value} {i : Nat} {x : V}, Vals xs us → xs[i]? = some x → ∃ u, us[i]? = some u ∧ RelV x u
  | _, _, _, _, .nil, e => by simp at e
  | _, _, 0, _, .cons r _, e => by simp at e; subst e; exact ⟨_, rfl, r⟩
  | _, _, i + 1, x, .cons _ t, e => by
    obtain ⟨u, h1, h2⟩ := Vals.get (i := i) (x := x) t (by simpa using e)
    exact ⟨u, by simpa using h1, h2⟩
theorem Vals.set {x : V} {u : Value} (r : RelV x u) : ∀ {xs : List V} {us : List Value} (i : Nat), Vals xs us → Vals (xs.set i x) (us.set i u)
  | _, _, _, .nil => .nil
  | _, _, 0, .cons _ t => .cons r t
  | _, _, i + 1, .cons q t => .cons q (Vals.set r i t)
theorem Vals.append : ∀ {xs ys : List V} {us ws : List Value}, Vals xs us → Vals ys ws → Vals (xs ++ ys) (us ++ ws)
  | _, _, _, _, .nil, s => s
  | _, _, _, _, .cons r t, s => .cons r (Vals.append t s)
theorem Vals.take : ∀ {xs : List V} {us : List Value} (n : Nat), Vals xs us → Vals (xs.take n) (us.take n)
  | _, _, 0, _ => .nil
  | _, _, _ + 1, .nil => .nil
  | _, _, n + 1, .cons r t => .cons r (Vals.take n t)
theorem Vals.drop : ∀ {xs : List V} {us : List Value} (n : Nat), Vals xs us → Vals (xs.drop n) (us.drop n)
  | _, _, 0, r => r
  | _, _, _ + 1, .nil => .nil
  | _, _, n + 1, .cons _ t => Vals.drop n t
noncomputable def RelO : Option V → Option Value → Prop
  | some v, some u => RelV v u
  | none, none => True
  | _, _ => False
noncomputable def KV {κ : Type} : List (κ × V) → List (κ × Value) → Prop := Paired fun (p : κ × V) (q : κ × Value) => p.1 = q.1 ∧ RelV p.2 q.2

noncomputable def kV : Key → V
  | .inl i => .int i
  | .inr x => .str x

inductive HO where
  /-- a list -/
  | lst (xs : List V)
  /-- a tuple (never changes) -/
  | tup (xs : List V)
  /-- a dict whose keys are ints and texts; one whose keys are tuples of ints and texts (the empty one is both) -/
  | dK (kvs : List (Key × V)) | dT (kvs : List (List Key × V))
  /-- a set of ints: its members, its size -/
  | set (S : Int → Bool) (n : Nat)
  /-- an instance of the class at C, its dict at dx, its attributes -/
  | ins (C dx : Addr) (fs : List (Str × V))
  /-- the dict of the instance at x -/
  | own (x : Addr)
  /-- the dict of an exception -/
  | xd (fs : List (Str × V))
  /-- a bound method, f of x -/
  | met (f x : Addr)
  /-- a range object lo, lo + 1, .. below hi -/
  | rng (lo hi : Int)
  /-- a thing that is known to the object (the script; a dict while a loop walks it): read, never written while it is so -/
  | frz (o : Obj) (u : HO)
  /-- a code object's table -/
  | tbl (ps : Array Value)
  /-- any other thing, by what is true of its one object (a def of one's own: SetO a S n := HO.ext fun h => ..) -/
  | ext (φ : Heap → Prop)

noncomputable abbrev Hp := Addr → Option HO
noncomputable def upd (H : Hp) (a : Addr) (o : HO) : Hp := fun b => if b = a then some o else H b
theorem upd_same {H : Hp} {a : Addr} {o : HO} : upd H a o a = some o := by unfold upd; rw [if_pos rfl]
theorem upd_ne {H : Hp} {a b : Addr} {o : HO} (h : b ≠ a) : upd H a o b = H b := by unfold upd; rw [if_neg h]
theorem ne_of {H : Hp} {a b : Addr} {o u : HO} (h : H a = some o) (h' : H b = some u) (d : o ≠ u) : a ≠ b := by
  intro e; subst e; rw [h] at h'; exact d (Option.some.inj h')
theorem ne_of_none {H : Hp} {a b : Addr} {o : HO} (h : H a = some o) (h' : H b = none) : a ≠ b := by
  intro e; subst e; rw [h] at h'; cases h'

section
variable (P : Program) (w : World)
noncomputable def ObjOk (H : Hp) (h : Heap) (a : Addr) : HO → Prop
  | .lst xs => xs.length ≤ sizeLine ∧ ∃ (its : List Value) (n : Nat), Vals xs its ∧ h.get? a = some { cls := .type "list", data := .seq its.toArray n }
  | .tup xs => xs.length ≤ sizeLine ∧ ∃ its : List Value, Vals xs its ∧ IsTup h a its.toArray
  | .dK kvs => kvs.length ≤ sizeLine ∧ (a == sysModules) = false ∧ ∃ vs, KV kvs vs ∧ h.DictOf (mixKind P w) a vs
  | .dT kvs => kvs.length ≤ sizeLine ∧ (a == sysModules) = false ∧ ∃ xs : List (List Key × Addr × Value),
      Paired (fun (p : List Key × V) (q : List Key × Addr × Value) => p.1 = q.1 ∧ H q.2.1 = some (.tup (p.1.map kV)) ∧ RelV p.2 q.2.2) kvs xs ∧
      ∃ o es ep, h.get? a = some o ∧ o.ExactDict ∧ o.data = .dict es ep ∧ es.toList = xs.map (entryOfKey (tupleKind (mixKind P w))) ∧ (xs.map (·.1)).Nodup
  | .set S n => h.SetOf (intKind P w) a S n
  | .ins C dx fs => H dx = some (.own a) ∧ fs.length ≤ 1000 ∧ dx ≠ a ∧ h.get? a = some (PySem.W.instObj C dx) ∧
      ∃ mA, h.Ns1 dx mA ∧ (∀ f, RelO (fs.lookup f) (mA f)) ∧ PySem.Within mA (fs.map (·.1))
  | .own _ => ∃ o, h.get? a = some o
  | .xd fs => ∃ mA, h.Ns1 a mA ∧ ∀ f, RelO (fs.lookup f) (mA f)
  | .rng lo hi => ∃ t u v, h.get? a = some { cls := .type "range", data := .fields #[.int lo t, .int hi u, .int 1 v] }
  | .frz o u => h.get? a = some o ∧ ObjOk H h a u
  | .tbl ps => h.get? a = some { cls := .none, data := .fields ps }
  | .met f x => h.get? a = some (PySem.W.methodObj (.ref f) (.ref x))
  | .ext φ => φ h ∧ (∃ o, h.get? a = some o) ∧ ∀ h1 h2 : Heap, φ h1 → (∀ o, h1.get? a = some o → h2.get? a = some o) → φ h2
noncomputable def HOk (H : Hp) (h : Heap) : Prop := ∀ a o, H a = some o → ObjOk P w H h a o
end

section
variable {P : Program} {w : World} {H H' : Hp} {h h' : Heap} {a : Addr} {o : HO}
theorem ObjOk.lt (x : ObjOk P w H h a o) : a < h.objs.size := by
  cases o with
  | lst xs => obtain ⟨_, _, _, _, e⟩ := x; exact Heap.lt_size e
  | tup xs => obtain ⟨_, _, _, p⟩ := x; exact p.lt
  | dK kvs => obtain ⟨_, _, _, _, o, _, _, e, _⟩ := x; exact Heap.lt_size e
  | dT kvs => obtain ⟨_, _, _, _, o, _, _, e, _⟩ := x; exact Heap.lt_size e
  | set S n => obtain ⟨o, _, _, _, e, _⟩ := x; exact Heap.lt_size e
  | ins C dx fs => obtain ⟨_, _, _, e, _⟩ := x; exact Heap.lt_size e
  | own y => obtain ⟨_, e⟩ := x; exact Heap.lt_size e
  | xd fs => obtain ⟨_, ⟨_, _, _, e, _⟩, _⟩ := x; exact Heap.lt_size e
  | rng lo hi => obtain ⟨_, _, _, e⟩ := x; exact Heap.lt_size e
  | frz ob u => obtain ⟨e, _⟩ := x; exact Heap.lt_size e
  | tbl ps => exact Heap.lt_size (show h.get? a = some _ from x)
  | met f y => exact Heap.lt_size (show h.get? a = some _ from x)
  | ext φ => obtain ⟨_, ⟨_, e⟩, _⟩ := x; exact Heap.lt_size e
theorem Paired.mapP {α β : Type} {F G : α → β → Prop} : ∀ {l₁ : List α} {l₂ : List β}, Paired F l₁ l₂ → (∀ a b, F a b → G a b) → Paired G l₁ l₂
  | _, _, .nil, _ => .nil
  | _, _, .cons r t, f => .cons (f _ _ r) (Paired.mapP t f)
theorem ObjOk.stay (x : ObjOk P w H h a o) (k : ∀ b u, (b = a ∨ H b = some (.own a)) → h.get? b = some u → h'.get? b = some u)
    (ho : ∀ b, H b = some (.own a) → H' b = some (.own a)) (ht : ∀ b xs, H b = some (.tup xs) → H' b = some (.tup xs)) : ObjOk P w H' h' a o := by
  induction o with
  | lst xs => obtain ⟨z, its, n, r, e⟩ := x; exact ⟨z, its, n, r, k _ _ (.inl rfl) e⟩
  | tup xs => obtain ⟨z, its, r, ob, e, c⟩ := x; exact ⟨z, its, r, ob, k _ _ (.inl rfl) e, c⟩
  | dK kvs => obtain ⟨z, y, vs, r, ob, es, ep, e, c⟩ := x; exact ⟨z, y, vs, r, ob, es, ep, k _ _ (.inl rfl) e, c⟩
  | dT kvs =>
    obtain ⟨z, y, xs, r, ob, es, ep, e, c⟩ := x
    exact ⟨z, y, xs, Paired.mapP r fun p q z => ⟨z.1, ht _ _ z.2.1, z.2.2⟩, ob, es, ep, k _ _ (.inl rfl) e, c⟩
  | set S n => obtain ⟨ob, es, ep, t, e, c⟩ := x; exact ⟨ob, es, ep, t, k _ _ (.inl rfl) e, c⟩
  | ins C dx fs =>
    obtain ⟨d, z, ne, e, mA, ⟨od, es, ep, e2, c⟩, r⟩ := x
    exact ⟨ho _ d, z, ne, k _ _ (.inl rfl) e, mA, ⟨od, es, ep, k _ _ (.inr d) e2, c⟩, r⟩
  | own y => obtain ⟨ob, e⟩ := x; exact ⟨ob, k _ _ (.inl rfl) e⟩
  | xd fs => obtain ⟨mA, ⟨od, es, ep, e, c⟩, r⟩ := x; exact ⟨mA, ⟨od, es, ep, k _ _ (.inl rfl) e, c⟩, r⟩
  | rng lo hi => obtain ⟨t, u, v, e⟩ := x; exact ⟨t, u, v, k _ _ (.inl rfl) e⟩
  | frz ob u ih => obtain ⟨e, q⟩ := x; exact ⟨k _ _ (.inl rfl) e, ih q⟩
  | tbl ps =>
    have e : h.get? a = some { cls := .none, data := .fields ps } := x
    show h'.get? a = some { cls := .none, data := .fields ps }
    exact k a _ (.inl rfl) e
  | met f y =>
    have e : h.get? a = some (PySem.W.methodObj (.ref f) (.ref y)) := x
    show h'.get? a = some (PySem.W.methodObj (.ref f) (.ref y))
    exact k a _ (.inl rfl) e
  | ext φ => obtain ⟨p, ⟨o, e⟩, st⟩ := x; exact ⟨st _ _ p fun o q => k _ _ (.inl rfl) q, ⟨o, k _ _ (.inl rfl) e⟩, st⟩
theorem HOk.lt (x : HOk P w H h) (e : H a = some o) : a < h.objs.size := (x a o e).lt
theorem HOk.fresh (x : HOk P w H h) (e : h.objs.size ≤ a) : H a = none := by
  cases q : H a with
  | none => rfl
  | some u => exact absurd (Nat.lt_of_lt_of_le (x.lt q) e) (Nat.lt_irrefl _)
theorem HOk.kept (x : HOk P w H h) (k : ∀ b u, h.get? b = some u → h'.get? b = some u) : HOk P w H h' := fun a o e =>
  (x a o e).stay (fun b u _ q => k b u q) (fun _ q => q) fun _ _ q => q
theorem HOk.laid (x : HOk P w H h) (k : ∀ b u, h.get? b = some u → h'.get? b = some u) (hp : h.objs.size ≤ a) (new : ObjOk P w (upd H a o) h' a o) : HOk P w (upd H a o) h' := fun b u e => by
  have hn := x.fresh hp
  by_cases hb : b = a
  · subst hb; rw [upd_same] at e; cases e; exact new
  · rw [upd_ne hb] at e
    exact (x b u e).stay (fun c v _ q => k c v q) (fun c q => by rw [upd_ne (ne_of_none q hn)]; exact q) fun c xs q => by rw [upd_ne (ne_of_none q hn)]; exact q
end

noncomputable def Rd (H : Hp) (a : Addr) (u : HO) : Prop := H a = some u ∨ ∃ o, H a = some (.frz o u)
theorem Rd.ok {P : Program} {w : World} {H : Hp} {h : Heap} {a : Addr} {u : HO} (r : Rd H a u) (x : HOk P w H h) : ObjOk P w H h a u := by
  rcases r with r | ⟨o, r⟩
  · exact x a u r
  · obtain ⟨_, q⟩ := x a _ r
    exact q
noncomputable def Mut : Option HO → Prop
  | some (.lst _) => True
  | some (.dK _) => True
  | some (.dT _) => True
  | some (.set _ _) => True
  | some (.ins _ _ _) => True
  | some (.ext _) => True
  | _ => False
section
variable {P : Program} {w : World} {H : Hp} {h h' : Heap} {x e : Addr} {o' : HO}
theorem HOk.write (ok : HOk P w H h) (mu : Mut (H x)) (he : e = x ∨ H e = some (.own x)) (k : ∀ b u, b ≠ e → h.get? b = some u → h'.get? b = some u) (heo : ∃ u, h'.get? e = some u)
    (new : ObjOk P w (upd H x o') h' x o') : HOk P w (upd H x o') h' := fun b u q => by
  have nown : ∀ c y, H c = some (.own y) → c ≠ x := fun c y r z => by subst z; rw [r] at mu; exact mu
  have ntup : ∀ c xs, H c = some (.tup xs) → c ≠ x := fun c xs r z => by subst z; rw [r] at mu; exact mu
  by_cases hb : b = x
  · subst hb; rw [upd_same] at q; cases q; exact new
  · rw [upd_ne hb] at q
    by_cases hbe : b = e
    · have q' : H b = some (.own x) := by
        rcases he with z | z
        · exact absurd (hbe.trans z) hb
        · rw [hbe]; exact z
      rw [q] at q'; cases q'
      obtain ⟨v, hv⟩ := heo
      exact ⟨v, by rw [hbe]; exact hv⟩
    · refine (ok b u q).stay (fun c v hc r => k c v ?_ r) (fun c r => by rw [upd_ne (nown c b r)]; exact r) fun c xs r => by rw [upd_ne (ntup c xs r)]; exact r
      rcases hc with rfl | hc
      · exact hbe
      · rintro rfl
        rcases he with z | z
        · exact nown c b hc z
        · rw [hc] at z; cases z; exact hb rfl
end

structure Un (fs ex : List Addr) (H H' : Hp) (h h' : Heap) : Prop where
  keep : ∀ b o, h.get? b = some o → H b = none → b ∉ fs → b ∉ ex → h'.get? b = some o
  slot : ∀ b o, h.get? b = some o → H b = none → b ∈ fs → b ∉ ex → ∃ sl, h'.get? b = some { o with slots := sl }
  free : ∀ b o, h.get? b = some o → H b = none → b ∉ ex → H' b = none
  there : ∀ b o, h.get? b = some o → b ∉ ex → ∃ o', h'.get? b = some o'
  tups : ∀ b xs, H b = some (.tup xs) → H' b = some (.tup xs)
  frzs : ∀ b o u, H b = some (.frz o u) → H' b = some (.frz o u)
  tbls : ∀ b ps, H b = some (.tbl ps) → ∃ more, H' b = some (.tbl (ps ++ more))
section
variable {fs fs' ex ex' : List Addr} {H H1 H2 : Hp} {h h1 h2 h' : Heap} {a x e : Addr} {o : HO}
theorem Un.any (u : Un fs ex H H1 h h1) {b : Addr} {ob : Obj} (q : h.get? b = some ob) (n : H b = none) (hx : b ∉ ex) : ∃ sl, h1.get? b = some { ob with slots := sl } := by
  by_cases hb : b ∈ fs
  · exact u.slot b ob q n hb hx
  · exact ⟨ob.slots, u.keep b ob q n hb hx⟩
theorem Un.kept (k : ∀ b u, h.get? b = some u → h'.get? b = some u) : Un fs ex H H h h' :=
  ⟨fun b ob q _ _ _ => k b ob q, fun b ob q _ _ _ => ⟨ob.slots, k b ob q⟩, fun _ _ _ n _ => n, fun b ob q _ => ⟨ob, k b ob q⟩, fun _ _ q => q, fun _ _ _ q => q, fun _ ps q => ⟨#[], by rw [q]; simp⟩⟩
theorem Un.refl : Un fs ex H H h h := Un.kept fun _ _ q => q
theorem Un.laid (k : ∀ b u, h.get? b = some u → h'.get? b = some u) (hp : h.objs.size ≤ a) (hn : H a = none) : Un fs ex H (upd H a o) h h' where
  keep := fun b u q _ _ _ => k b u q
  slot := fun b u q _ _ _ => ⟨u.slots, k b u q⟩
  free := fun b u q n _ => by rw [upd_ne (Nat.ne_of_lt (Nat.lt_of_lt_of_le (Heap.lt_size q) hp))]; exact n
  there := fun b u q _ => ⟨u, k b u q⟩
  tups := fun b xs q => by rw [upd_ne (ne_of_none q hn)]; exact q
  frzs := fun b u xs q => by rw [upd_ne (ne_of_none q hn)]; exact q
  tbls := fun b ps q => ⟨#[], by rw [upd_ne (ne_of_none q hn), q]; simp⟩
theorem Un.write (mu : Mut (H x)) (he : e = x ∨ H e = some (.own x)) (k : ∀ b u, b ≠ e → h.get? b = some u → h'.get? b = some u) (heo : ∃ u, h'.get? e = some u) : Un fs ex H (upd H x o) h h' := by
  have hx : ∀ b, H b = none → b ≠ x := fun b n z => by subst z; rw [n] at mu; exact mu
  have hb : ∀ b, H b = none → b ≠ e := fun b n z => by
    subst z
    rcases he with r | r
    · exact hx b n r
    · rw [n] at r; cases r
  have hm : ∀ b u, H b = some u → ¬ Mut (some u) → b ≠ x := fun b u q nm z => by subst z; rw [q] at mu; exact nm mu
  refine ⟨fun b u q n _ _ => k b u (hb b n) q, fun b u q n _ _ => ⟨u.slots, k b u (hb b n) q⟩, fun b u q n _ => by rw [upd_ne (hx b n)]; exact n, fun b u q _ => ?_,
    fun b xs q => by rw [upd_ne (hm b _ q fun z => z)]; exact q, fun b u xs q => by rw [upd_ne (hm b _ q fun z => z)]; exact q, fun b ps q => ⟨#[], by rw [upd_ne (hm b _ q fun z => z), q]; simp⟩⟩
  by_cases hbe : b = e
  · subst hbe; exact heo
  · exact ⟨u, k b u hbe q⟩
end

noncomputable def trk (h : Heap) (H : Hp) : List Addr := (List.range h.objs.size).filter fun a => (H a).isSome
noncomputable def hidT (h : Heap) (H : Hp) : Heap := PySem.W.hideAll h (trk h H)
theorem hidT_size (h : Heap) (H : Hp) : (hidT h H).objs.size = h.objs.size := PySem.W.hideAll_size _ _
theorem hidT_get {h : Heap} {H : Hp} {b : Addr} {o : Obj} (e : h.get? b = some o) (n : H b = none) : (hidT h H).get? b = some o :=
  PySem.W.hideAll_get _ e fun hm => by
    have q : (H b).isSome = true := (List.mem_filter.mp hm).2
    rw [n] at q; simp at q
theorem of_hidT {h : Heap} {H : Hp} {b : Addr} {o : Obj} (e : (hidT h H).get? b = some o) : h.get? b = some o ∧ H b = none := by
  have e' : h.get? b = some o := PySem.W.of_hideAll (trk h H) e
  refine ⟨e', ?_⟩
  cases q : H b with
  | none => rfl
  | some x =>
    have hm : b ∈ trk h H := List.mem_filter.mpr ⟨List.mem_range.mpr (Heap.lt_size e'), by simp [q]⟩
    have z : (hidT h H).get? b = none := PySem.W.hideAll_none (trk h H) hm
    rw [z] at e; cases e

end L2

namespace L2
open PySem PySem.Spec PyProof.Rows

structure Mod (K : PySem.W.Frag) (mg : Str → Option Value) (base : Heap) : Prop where
  kin : K.In base
  glob : base.Ns mainGlobals mg
  blt : ∃ mb, base.Ns builtinsNs mb ∧ ∀ x : Str, x ≠ "__name__" → mb x = bootBuiltins x
  nolimit : base.NoLimit

structure Cx where
  prog : Program
  w : World
  K : PySem.W.Frag
  mg : Str → Option Value
  base : Heap
  A : Around
  N : List Str
  s₀ : Shared
  H₀ : Hp
  env : Env
  outer : List Env
  stack : List Env
  ex : List Addr
  fn : Str → Bool
  calm : Bool
  pn : List (Addr × Obj)
  xe : Value → Shared → Prop
noncomputable def frs (l : List Env) : List Addr := l.filterMap (·.frame)
noncomputable abbrev Cx.fs (X : Cx) : List Addr := frs X.outer

noncomputable def Vis (sc : Scope) (x : Str) : Prop := sc.names.lookup x = some .local ∨ sc.names.lookup x = some .cell ∨ sc.names.lookup x = some .free
noncomputable def Loc (sc : Scope) (x : Str) : Prop := sc.names.lookup x = some .local ∨ sc.names.lookup x = some .cell
noncomputable def Look (env : Env) (h : Heap) (m : Str → Option Value) (x : Str) (u : Value) : Prop :=
  (env.kindOf x = some .local ∧ m x = some u) ∨ ((env.kindOf x = some .cell ∨ env.kindOf x = some .free) ∧ ∃ c, env.cells.lookup x = some c ∧ h.IsCell c (some u))

structure Cx.Ok (X : Cx) : Prop where
  mod : Mod X.K X.mg X.base
  kind : X.env.scope.kind = .function
  glob : X.env.globals = mainGlobals
  blt : X.env.builtins = builtinsNs
  above : X.s₀.heap.objs.size ≤ X.env.locals
  inj : ∀ x y c, X.env.cells.lookup x = some c → X.env.cells.lookup y = some c → x = y
  has : ∀ x, (X.env.kindOf x = some .cell ∨ X.env.kindOf x = some .free) → ∃ c, X.env.cells.lookup x = some c
  cab : ∀ x c, X.fn x = true → X.env.cells.lookup x = some c → X.s₀.heap.objs.size ≤ c
  hd : X.calm = true → X.A.handled = none
  frames : X.A.frames = some X.stack
  stk : X.stack = X.outer ∨ (X.stack = X.env :: X.outer ∧ X.env.frame = some X.env.locals)
  exf : ∀ b ∈ X.ex, b ≠ X.env.locals ∧ ∀ x c, X.env.cells.lookup x = some c → c ≠ b
  bs : ∀ b o, X.base.get? b = some o → X.s₀.heap.get? b = some o ∧ X.H₀ b = none
  bsz : X.base.objs.size ≤ X.s₀.heap.objs.size
  noex : ∀ b o, X.base.get? b = some o → b ∉ X.ex
  exfs : ∀ b ∈ X.ex, b ∉ X.fs
  funs : X.s₀.heap.FunFrames X.base X.outer
  frf : ∀ b ∈ X.fs, X.H₀ b = none

structure Inv (X : Cx) (pins : List (Addr × Obj)) (σ : List (Option V)) (H : Hp) (s : Shared) : Prop where
  ok : X.Ok
  os : s.os = X.s₀.os
  bare : AllBare s.gens
  base : Un X.fs X.ex X.H₀ H X.s₀.heap s.heap
  loc : ∃ m, s.heap.Ns X.env.locals m ∧ ∀ (i : Nat) (x : Str) (v : V), X.N[i]? = some x → σ[i]? = some (some v) → Vis X.env.scope x → ∃ u, RelV v u ∧ Look X.env s.heap m x u
  cell : ∀ x c, X.env.cells.lookup x = some c → ∃ v, s.heap.IsCell c v
  free : H X.env.locals = none
  freeC : ∀ x c, X.env.cells.lookup x = some c → H c = none
  pin : ∀ p ∈ X.pn ++ pins, s.heap.get? p.1 = some p.2 ∧ H p.1 = none ∧ p.1 ≠ X.env.locals ∧ p.1 ∉ X.fs ∧ ∀ v, p.2.data ≠ .cell v
  hok : HOk X.prog X.w H s.heap
  len : σ.length = X.N.length

section
variable {X : Cx} {pins : List (Addr × Obj)} {σ : List (Option V)} {H H' : Hp} {s : Shared} {h' : Heap}

theorem Cx.Ok.nofr (ok : X.Ok) {b : Addr} {o : Obj} (e : X.base.get? b = some o) : b ∉ X.fs := fun hb => by
  have := (ok.funs.mem hb).1
  rw [e] at this; cases this
theorem Inv.bs (I : Inv X pins σ H s) : ∀ b o, X.base.get? b = some o → s.heap.get? b = some o ∧ H b = none := fun b o e =>
  ⟨I.base.keep b o (I.ok.bs b o e).1 (I.ok.bs b o e).2 (I.ok.nofr e) (I.ok.noex b o e), I.base.free b o (I.ok.bs b o e).1 (I.ok.bs b o e).2 (I.ok.noex b o e)⟩
theorem Inv.bk (I : Inv X pins σ H s) : ∀ b o, X.base.get? b = some o → s.heap.get? b = some o := fun b o e => (I.bs b o e).1
theorem Inv.mod (I : Inv X pins σ H s) : Mod X.K X.mg X.base := I.ok.mod
theorem Inv.kIn (I : Inv X pins σ H s) : X.K.In s.heap := I.ok.mod.kin.keeps I.bk
theorem Inv.lt (I : Inv X pins σ H s) : X.env.locals < s.heap.objs.size := let ⟨_, hn, _⟩ := I.loc; hn.lt
theorem Inv.sz (I : Inv X pins σ H s) : X.s₀.heap.objs.size ≤ s.heap.objs.size := Nat.le_trans I.ok.above (Nat.le_of_lt I.lt)
theorem Inv.nofs (I : Inv X pins σ H s) {a : Addr} (h : s.heap.objs.size ≤ a) : a ∉ X.fs := fun hb => by
  obtain ⟨_, o, ho, _⟩ := I.ok.funs.mem hb
  exact absurd (Nat.lt_of_lt_of_le (Heap.lt_size ho) (Nat.le_trans I.sz h)) (Nat.lt_irrefl _)
theorem Inv.cne (I : Inv X pins σ H s) : ∀ x c, X.env.cells.lookup x = some c → c ≠ X.env.locals := fun x c e z => by
  obtain ⟨v, o, ho, hd⟩ := I.cell x c e
  obtain ⟨m, ⟨o', es, ep, ho', hd', _⟩, _⟩ := I.loc
  rw [z, ho'] at ho; cases ho; rw [hd'] at hd; cases hd
theorem Inv.funs (I : Inv X pins σ H s) : s.heap.FunFrames X.base X.outer := by
  have all : ∀ (l : List Env), (∀ b ∈ frs l, b ∈ X.fs) → X.s₀.heap.FunFrames X.base l → s.heap.FunFrames X.base l := by
    intro l
    induction l with
    | nil => intro _ _; trivial
    | cons env r ih =>
      intro hs hl
      obtain ⟨hk, ⟨L, o, hf, hn, ho, hd⟩, hr⟩ := hl
      have hL : L ∈ X.fs := hs L (by unfold frs; rw [List.filterMap_cons, hf]; exact List.mem_cons_self)
      obtain ⟨sl, e⟩ := I.base.slot L o ho (I.ok.frf L hL) hL fun z => I.ok.exfs L z hL
      exact ⟨hk, ⟨L, _, hf, hn, e, hd⟩, ih (fun b hb => hs b (by unfold frs; rw [List.filterMap_cons, hf]; exact List.mem_cons_of_mem _ hb)) hr⟩
  exact all X.outer (fun _ hb => hb) I.ok.funs

theorem Inv.stack (I : Inv X pins σ H s) : s.heap.FunFrames X.base X.stack := by
  rcases I.ok.stk with e | ⟨e, hf⟩
  · rw [e]; exact I.funs
  · rw [e]
    obtain ⟨m, hn, _⟩ := I.loc
    refine .cons (by rw [I.ok.kind]; decide) hf hn ?_ I.funs
    exact Heap.get?_none_of_le (Nat.le_trans I.ok.bsz I.ok.above)
theorem Inv.stkSub (I : Inv X pins σ H s) : ∀ b ∈ frs X.stack, b ∈ X.env.locals :: X.fs := fun b hb => by
  rcases I.ok.stk with e | ⟨e, hf⟩
  · rw [e] at hb; exact List.mem_cons_of_mem _ hb
  · rw [e] at hb
    unfold frs at hb
    rw [List.filterMap_cons, hf] at hb
    exact hb
theorem Inv.stkFree (I : Inv X pins σ H s) : ∀ b ∈ frs X.stack, H b = none := fun b hb => by
  rcases List.mem_cons.mp (I.stkSub b hb) with e | hb
  · rw [e]; exact I.free
  · obtain ⟨_, o, ho, _⟩ := I.ok.funs.mem hb
    exact I.base.free b o ho (I.ok.frf b hb) fun z => I.ok.exfs b z hb

theorem Inv.step {g' : Array GenState} {t' : Nat} {d' : Drawn} {ch : List Addr} (I : Inv X pins σ H s)
    (hch : ∀ b ∈ ch, (b ∈ X.ex ∨ X.s₀.heap.objs.size ≤ b) ∧ b ≠ X.env.locals ∧ (∀ x c, X.env.cells.lookup x = some c → c ≠ b) ∧ ∀ p ∈ X.pn ++ pins, p.1 ≠ b)
    (keep : ∀ b o, b ≠ X.env.locals → b ∉ X.fs → b ∉ ch → s.heap.get? b = some o → H b = none → h'.get? b = some o)
    (slot : ∀ b o, b ≠ X.env.locals → b ∈ X.fs → b ∉ ch → s.heap.get? b = some o → H b = none → ∃ sl, h'.get? b = some { o with slots := sl }) (free : ∀ b o, b ∉ ch → s.heap.get? b = some o → H b = none → H' b = none)
    (there : ∀ b o, b ∉ ch → s.heap.get? b = some o → ∃ o', h'.get? b = some o')
    (tups : ∀ b xs, H b = some (.tup xs) → H' b = some (.tup xs)) (frzs : ∀ b o u, H b = some (.frz o u) → H' b = some (.frz o u)) (tbls : ∀ b ps, H b = some (.tbl ps) → ∃ more, H' b = some (.tbl (ps ++ more)))
    (ns : ∀ m, s.heap.Ns X.env.locals m → h'.Ns X.env.locals m) (hok : HOk X.prog X.w H' h') (hg : AllBare g') :
    Inv X pins σ H' { s with heap := h', gens := g', drawn := d', toks := t' } := by
  have neL : ∀ b o, X.s₀.heap.get? b = some o → b ≠ X.env.locals := fun b o e => Nat.ne_of_lt (Nat.lt_of_lt_of_le (Heap.lt_size e) I.ok.above)
  have neC : ∀ b o, X.s₀.heap.get? b = some o → b ∉ X.ex → b ∉ ch := fun b o e hx hb => by
    rcases (hch b hb).1 with z | z
    · exact hx z
    · exact absurd (Nat.lt_of_lt_of_le (Heap.lt_size e) z) (Nat.lt_irrefl _)
  have cellK : ∀ x c, X.env.cells.lookup x = some c → ∀ v, s.heap.IsCell c v → h'.IsCell c v := fun x c e v ⟨o, ho, hd⟩ => by
    have nch : c ∉ ch := fun z => (hch c z).2.2.1 x c e rfl
    by_cases hc : c ∈ X.fs
    · obtain ⟨sl, q⟩ := slot c o (I.cne x c e) hc nch ho (I.freeC x c e)
      exact ⟨_, q, hd⟩
    · exact ⟨o, keep c o (I.cne x c e) hc nch ho (I.freeC x c e), hd⟩
  refine ⟨I.ok, I.os, hg, ⟨fun b o e n hb hx => ?_, fun b o e n hb hx => ?_, fun b o e n hx => ?_, fun b o e hx => ?_, fun b xs e => tups b xs (I.base.tups b xs e), fun b o xs e => frzs b o xs (I.base.frzs b o xs e), fun b ps e => ?_⟩, ?_, fun x c e => ?_, ?_, fun x c e => ?_, fun p hp => ?_, hok, I.len⟩
  · exact keep b o (neL b o e) hb (neC b o e hx) (I.base.keep b o e n hb hx) (I.base.free b o e n hx)
  · obtain ⟨sl, e1⟩ := I.base.slot b o e n hb hx
    obtain ⟨sl', e2⟩ := slot b _ (neL b o e) hb (neC b o e hx) e1 (I.base.free b o e n hx)
    exact ⟨sl', e2⟩
  · obtain ⟨o', e1⟩ := I.base.there b o e hx
    exact free b o' (neC b o e hx) e1 (I.base.free b o e n hx)
  · obtain ⟨o', e1⟩ := I.base.there b o e hx
    exact there b o' (neC b o e hx) e1
  · obtain ⟨m1, e1⟩ := I.base.tbls b ps e
    obtain ⟨m2, e2⟩ := tbls b _ e1
    exact ⟨m1 ++ m2, by rw [e2, Array.append_assoc]⟩
  · obtain ⟨m, hn, hl⟩ := I.loc
    refine ⟨m, ns m hn, fun i x v e1 e2 e3 => ?_⟩
    obtain ⟨u, r, l⟩ := hl i x v e1 e2 e3
    refine ⟨u, r, ?_⟩
    rcases l with l | ⟨k, c, e, z⟩
    · exact .inl l
    · exact .inr ⟨k, c, e, cellK x c e _ z⟩
  · obtain ⟨v, z⟩ := I.cell x c e
    exact ⟨v, cellK x c e v z⟩
  · obtain ⟨m, ⟨o, _, _, ho, _⟩, _⟩ := I.loc
    exact free _ o (fun z => (hch _ z).2.1 rfl) ho I.free
  · obtain ⟨v, o, ho, hd⟩ := I.cell x c e
    exact free c o (fun z => (hch c z).2.2.1 x c e rfl) ho (I.freeC x c e)
  · obtain ⟨e, n, ne, nf, d⟩ := I.pin p hp
    have nch : p.1 ∉ ch := fun z => (hch p.1 z).2.2.2 p hp rfl
    exact ⟨keep p.1 p.2 ne nf nch e n, free p.1 p.2 nch e n, ne, nf, d⟩
theorem Inv.un {t' : Nat} (I : Inv X pins σ H s) (u : Un X.fs [] H H' s.heap h') (hok : HOk X.prog X.w H' h') : Inv X pins σ H' { s with heap := h', toks := t' } := by
  obtain ⟨m, ⟨o, es, ep, ho, r⟩, _⟩ := id I.loc
  obtain ⟨sl, hL⟩ := u.any ho I.free (by simp)
  exact I.step (g' := s.gens) (d' := s.drawn) (ch := []) (fun _ z => nomatch z) (fun b o _ hb _ e n => u.keep b o e n hb (by simp)) (fun b o _ hb _ e n => u.slot b o e n hb (by simp)) (fun b o _ e n => u.free b o e n (by simp)) (fun b o _ e => u.there b o e (by simp)) u.tups u.frzs u.tbls (fun m' hm => by
    obtain ⟨o', es', ep', ho', r'⟩ := hm
    rw [ho] at ho'; cases ho'
    exact ⟨_, es', ep', hL, r'⟩) hok I.bare
theorem Inv.call {g' : Array GenState} {t' : Nat} {d' : Drawn} {ch : List Addr} (I : Inv X pins σ H s) (u : Un (frs X.stack) ch H H' s.heap h') (hok : HOk X.prog X.w H' h') (hg : AllBare g')
    (hch : ∀ b ∈ ch, (b ∈ X.ex ∨ X.s₀.heap.objs.size ≤ b) ∧ b ≠ X.env.locals ∧ (∀ x c, X.env.cells.lookup x = some c → c ≠ b) ∧ ∀ p ∈ X.pn ++ pins, p.1 ≠ b) :
    Inv X pins σ H' { s with heap := h', gens := g', drawn := d', toks := t' } := by
  obtain ⟨m, ⟨o, es, ep, ho, r⟩, _⟩ := id I.loc
  obtain ⟨sl, hL⟩ := u.any ho I.free fun z => (hch _ z).2.1 rfl
  exact I.step (ch := ch) hch (fun b o hL hb hc e n => u.keep b o e n (fun z => (List.mem_cons.mp (I.stkSub b z)).elim hL hb) hc) (fun b o _ _ hc e n => u.any e n hc) (fun b o hc e n => u.free b o e n hc) (fun b o hc e => u.there b o e hc) u.tups u.frzs u.tbls (fun m' hm => by
    obtain ⟨o', es', ep', ho', r'⟩ := hm
    rw [ho] at ho'; cases ho'
    exact ⟨_, es', ep', hL, r'⟩) hok hg
theorem Inv.turned {t' : Nat} {it : Addr} (I : Inv X pins σ H s) (k : ∀ b o, b ≠ it → s.heap.get? b = some o → h'.get? b = some o) (hn : H it = none) (hL : it ≠ X.env.locals)
    (h1 : it ∈ X.ex ∨ X.s₀.heap.objs.size ≤ it) (h2 : ∀ x c, X.env.cells.lookup x = some c → c ≠ it) (h3 : ∀ p ∈ X.pn ++ pins, p.1 ≠ it) : Inv X pins σ H { s with heap := h', toks := t' } := by
  have nit : ∀ b u, H b = some u → b ≠ it := fun b u e z => by rw [z, hn] at e; cases e
  refine I.step (g' := s.gens) (d' := s.drawn) (ch := [it]) (fun b hb => ?_) (fun b o _ _ hc e _ => k b o (fun z => hc (by simp [z])) e) (fun b o _ _ hc e _ => ⟨o.slots, k b o (fun z => hc (by simp [z])) e⟩) (fun _ _ _ _ n => n)
    (fun b o hc e => ⟨o, k b o (fun z => hc (by simp [z])) e⟩) (fun _ _ e => e) (fun _ _ _ e => e) (fun b ps e => ⟨#[], by rw [e]; simp⟩) (fun m hm => ?_) (fun b u e => ?_) I.bare
  · have e : b = it := by simpa using hb
    subst e
    exact ⟨h1, hL, h2, h3⟩
  · obtain ⟨o, es, ep, ho, r⟩ := hm
    exact ⟨o, es, ep, k _ o (Ne.symm hL) ho, r⟩
  · refine (I.hok b u e).stay (fun c v hc q => k c v ?_ q) (fun _ q => q) fun _ _ q => q
    rcases hc with z | z
    · rw [z]; exact nit b u e
    · exact nit c _ z
theorem Inv.tok (I : Inv X pins σ H s) (t : Nat) : Inv X pins σ H { s with toks := t } := I.un (h' := s.heap) (t' := t) Un.refl I.hok
theorem Inv.kept {t' : Nat} (I : Inv X pins σ H s) (k : ∀ b u, s.heap.get? b = some u → h'.get? b = some u) : Inv X pins σ H { s with heap := h', toks := t' } := I.un (Un.kept k) (I.hok.kept k)
theorem Inv.laid {a : Addr} {o : HO} {t' : Nat} (I : Inv X pins σ H s) (k : ∀ b u, s.heap.get? b = some u → h'.get? b = some u) (hp : s.heap.objs.size ≤ a) (new : ObjOk X.prog X.w (upd H a o) h' a o) :
    Inv X pins σ (upd H a o) { s with heap := h', toks := t' } := I.un (Un.laid k hp (I.hok.fresh hp)) (I.hok.laid k hp new)
theorem Inv.write {x e : Addr} {o : HO} {t' : Nat} (I : Inv X pins σ H s) (mu : Mut (H x)) (he : e = x ∨ H e = some (.own x)) (k : ∀ b u, b ≠ e → s.heap.get? b = some u → h'.get? b = some u) (heo : ∃ u, h'.get? e = some u)
    (new : ObjOk X.prog X.w (upd H x o) h' x o) : Inv X pins σ (upd H x o) { s with heap := h', toks := t' } := I.un (Un.write mu he k heo) (I.hok.write mu he k heo new)
theorem Inv.weak {σ' : List (Option V)} (I : Inv X pins σ H s) (hl : σ'.length = σ.length) (w : ∀ (i : Nat) v, σ'[i]? = some (some v) → σ[i]? = some (some v)) : Inv X pins σ' H s :=
  ⟨I.ok, I.os, I.bare, I.base, let ⟨m, hn, hl'⟩ := I.loc; ⟨m, hn, fun i x v e1 e2 e3 => hl' i x v e1 (w i v e2) e3⟩, I.cell, I.free, I.freeC, I.pin, I.hok, hl.trans I.len⟩
theorem Inv.pins_of {pins' : List (Addr × Obj)} (I : Inv X pins σ H s) (h : ∀ p ∈ pins', s.heap.get? p.1 = some p.2 ∧ H p.1 = none ∧ p.1 ≠ X.env.locals ∧ p.1 ∉ X.fs ∧ ∀ v, p.2.data ≠ .cell v) : Inv X pins' σ H s :=
  ⟨I.ok, I.os, I.bare, I.base, I.loc, I.cell, I.free, I.freeC, fun p hp => (List.mem_append.mp hp).elim (fun z => I.pin p (List.mem_append_left _ z)) (h p), I.hok, I.len⟩

theorem nodup_ix {N : List Str} (hN : N.Nodup) {i j : Nat} {x : Str} (a : N[i]? = some x) (b : N[j]? = some x) : i = j := by
  obtain ⟨h1, e1⟩ := List.getElem?_eq_some_iff.mp a
  obtain ⟨h2, e2⟩ := List.getElem?_eq_some_iff.mp b
  exact (List.getElem_inj hN).mp (e1.trans e2.symm)

theorem store_ok2 {M : Model} {A : Around} {E : Value → Shared → Prop} {i : Nat} {x : Str} {v : V} {u : Value} {Q : Unit → Shared → Prop} (I : Inv X pins σ H s) (hN : X.N.Nodup) (hi : X.N[i]? = some x) (hx : Loc X.env.scope x) (r : RelV v u)
    (h : ∀ s', Inv X pins (σ.set i (some v)) H s' → (∃ a, Heap.SameBut a s.heap s'.heap ∧ (a = X.env.locals ∨ X.env.cells.lookup x = some a)) → Q () s') (hf : X.fn x = true ∨ X.env.scope.names.lookup x = some .local := by first | exact .inl rfl | exact .inr rfl | assumption) : wpAny M A (storeName X.env x u) Q E s := by
  obtain ⟨m, hn, hl⟩ := id I.loc
  have hcls : (X.env.scope.kind == .class || (X.env.scope.kind == .module && X.env.locals != X.env.globals)) = false := by rw [I.ok.kind]; rfl
  have hiσ : i < σ.length := by rw [I.len]; exact (List.getElem?_eq_some_iff.mp hi).1
  have cne := I.cne
  have tracked : ∀ {a : Addr} {h' : Heap}, (∃ o, s.heap.get? a = some o ∧ H a = none) → Heap.SameBut a s.heap h' → HOk X.prog X.w H h' := fun {a h'} ha hs b ob e => by
    obtain ⟨_, _, hfree⟩ := ha
    refine (I.hok b ob e).stay (fun c w' hc q => (hs.2 c ?_).trans q) (fun _ q => q) fun _ _ q => q
    rintro rfl
    rcases hc with rfl | hc
    · rw [hfree] at e; cases e
    · rw [hfree] at hc; cases hc
  rcases hx with hk | hk
  · refine wpAny_storeName_local hk hn (fun h' hn' hs => ?_) hcls
    obtain ⟨oL, _, _, hoL, _⟩ := id hn
    refine h _ ⟨I.ok, I.os, I.bare, ⟨fun b o e n hb hx => ?_, fun b o e n hb hx => ?_, I.base.free, fun b o e hx => ?_, I.base.tups, I.base.frzs, I.base.tbls⟩, ⟨_, hn', fun j y v' e1 e2 e3 => ?_⟩, fun y c e => ?_, I.free, I.freeC, fun p hp => ?_, tracked ⟨oL, hoL, I.free⟩ hs, by simpa using I.len⟩ ⟨_, hs, .inl rfl⟩
    · exact (hs.2 b (Nat.ne_of_lt (Nat.lt_of_lt_of_le (Heap.lt_size e) I.ok.above))).trans (I.base.keep b o e n hb hx)
    · obtain ⟨sl, e1⟩ := I.base.slot b o e n hb hx
      exact ⟨sl, (hs.2 b (Nat.ne_of_lt (Nat.lt_of_lt_of_le (Heap.lt_size e) I.ok.above))).trans e1⟩
    · obtain ⟨o', e1⟩ := I.base.there b o e hx
      exact ⟨o', (hs.2 b (Nat.ne_of_lt (Nat.lt_of_lt_of_le (Heap.lt_size e) I.ok.above))).trans e1⟩
    · by_cases hj : j = i
      · subst hj
        rw [hi] at e1; cases e1
        rw [List.getElem?_set_self hiσ] at e2
        cases e2
        exact ⟨u, r, .inl ⟨hk, by simp⟩⟩
      · rw [List.getElem?_set_ne (Ne.symm hj)] at e2
        obtain ⟨u', r', q⟩ := hl j y v' e1 e2 e3
        refine ⟨u', r', ?_⟩
        rcases q with ⟨k, e⟩ | ⟨k, c, e, z⟩
        · refine .inl ⟨k, ?_⟩
          have : y ≠ x := fun e => hj (nodup_ix hN e1 (e ▸ hi))
          simp [this, e]
        · exact .inr ⟨k, c, e, z.sameBut hs (cne y c e)⟩
    · obtain ⟨w', z⟩ := I.cell y c e
      exact ⟨w', z.sameBut hs (cne y c e)⟩
    · obtain ⟨e, n, ne, nf, d⟩ := I.pin p hp
      exact ⟨(hs.2 p.1 ne).trans e, n, ne, nf, d⟩
  · have hfn : X.fn x = true := by
      rcases hf with z | z
      · exact z
      · rw [z] at hk; cases hk
    obtain ⟨c, hc⟩ := I.ok.has x (.inl hk)
    obtain ⟨w', z⟩ := I.cell x c hc
    refine wpAny_storeName_cell I.ok.kind hk hc z (fun h' hc' hs => ?_)
    obtain ⟨oc, hoc, hocd⟩ := id z
    refine h { s with heap := h' } ⟨I.ok, I.os, I.bare, ⟨fun b o e n hb hx => ?_, fun b o e n hb hx => ?_, I.base.free, fun b o e hx => ?_, I.base.tups, I.base.frzs, I.base.tbls⟩, ⟨m, hn.sameBut hs (Ne.symm (cne x c hc)), fun j y v' e1 e2 e3 => ?_⟩, fun y c' e => ?_, I.free, I.freeC, fun p hp => ?_, tracked ⟨oc, hoc, I.freeC x c hc⟩ hs, by simpa using I.len⟩ ⟨c, hs, .inr hc⟩
    · exact (hs.2 b (Nat.ne_of_lt (Nat.lt_of_lt_of_le (Heap.lt_size e) (I.ok.cab x c hfn hc)))).trans (I.base.keep b o e n hb hx)
    · obtain ⟨sl, e1⟩ := I.base.slot b o e n hb hx
      exact ⟨sl, (hs.2 b (Nat.ne_of_lt (Nat.lt_of_lt_of_le (Heap.lt_size e) (I.ok.cab x c hfn hc)))).trans e1⟩
    · obtain ⟨o', e1⟩ := I.base.there b o e hx
      exact ⟨o', (hs.2 b (Nat.ne_of_lt (Nat.lt_of_lt_of_le (Heap.lt_size e) (I.ok.cab x c hfn hc)))).trans e1⟩
    · by_cases hj : j = i
      · subst hj
        rw [hi] at e1; cases e1
        rw [List.getElem?_set_self hiσ] at e2
        cases e2
        exact ⟨u, r, .inr ⟨.inl hk, c, hc, hc'⟩⟩
      · rw [List.getElem?_set_ne (Ne.symm hj)] at e2
        obtain ⟨u', r', q⟩ := hl j y v' e1 e2 e3
        refine ⟨u', r', ?_⟩
        rcases q with q | ⟨k, c', e, z'⟩
        · exact .inl q
        · refine .inr ⟨k, c', e, z'.sameBut hs ?_⟩
          rintro rfl
          exact hj (nodup_ix hN e1 (I.ok.inj _ _ _ e hc ▸ hi))
    · by_cases hcc : c' = c
      · subst hcc; exact ⟨_, hc'⟩
      · obtain ⟨w2, z2⟩ := I.cell y c' e
        exact ⟨w2, z2.sameBut hs hcc⟩
    · obtain ⟨e, n, ne, nf, d⟩ := I.pin p hp
      refine ⟨(hs.2 p.1 ?_).trans e, n, ne, nf, d⟩
      intro q
      rw [q, hoc] at e
      have q' : oc = p.2 := Option.some.inj e
      exact d w' (by rw [← q']; exact hocd)
theorem store_ok {M : Model} {A : Around} {E : Value → Shared → Prop} {i : Nat} {x : Str} {v : V} {u : Value} {Q : Unit → Shared → Prop} (I : Inv X pins σ H s) (hN : X.N.Nodup) (hi : X.N[i]? = some x) (hx : Loc X.env.scope x) (r : RelV v u)
    (h : ∀ s', Inv X pins (σ.set i (some v)) H s' → Q () s') (hf : X.fn x = true ∨ X.env.scope.names.lookup x = some .local := by first | exact .inl rfl | exact .inr rfl | assumption) : wpAny M A (storeName X.env x u) Q E s :=
  store_ok2 I hN hi hx r (fun s' I' _ => h s' I') hf
theorem Inv.call' {s' : Shared} {ch : List Addr} (I : Inv X pins σ H s) (ho : s'.os = s.os) (u : Un (frs X.stack) ch H H' s.heap s'.heap) (hok : HOk X.prog X.w H' s'.heap) (hg : AllBare s'.gens)
    (hch : ∀ b ∈ ch, (b ∈ X.ex ∨ X.s₀.heap.objs.size ≤ b) ∧ b ≠ X.env.locals ∧ (∀ x c, X.env.cells.lookup x = some c → c ≠ b) ∧ ∀ p ∈ X.pn ++ pins, p.1 ≠ b) : Inv X pins σ H' s' := by
  obtain ⟨h', g', d', t', o'⟩ := s'
  have e : o' = s.os := ho
  subst e
  exact I.call (g' := g') (t' := t') (d' := d') u hok hg hch
end

noncomputable abbrev XK := Value → Option Addr → Hp → Prop
noncomputable abbrev St := List (Option V)
noncomputable abbrev VK := V → Hp → Prop
noncomputable abbrev TE := St → Hp → VK → Prop
noncomputable abbrev TT := St → Hp → (Bool → Hp → Prop) → Prop
noncomputable abbrev TA := St → Hp → (List V → Hp → Prop) → Prop
structure Ends where
  nx : St → Hp → Prop
  rt : VK
  bk : St → Hp → Prop := fun _ _ => False
  ct : St → Hp → Prop := fun _ _ => False
noncomputable abbrev TS := Ends → St → Hp → Prop

noncomputable def EP (X : Cx) (pins : List (Addr × Obj)) (σ : St) (Q : VK) (u : Value) (s' : Shared) : Prop := ∃ v H', Inv X pins σ H' s' ∧ RelV v u ∧ Q v H'
noncomputable def TP (X : Cx) (pins : List (Addr × Obj)) (σ : St) (Q : Bool → Hp → Prop) (b : Bool) (s' : Shared) : Prop := ∃ H', Inv X pins σ H' s' ∧ Q b H'
noncomputable def AP (X : Cx) (pins : List (Addr × Obj)) (σ : St) (Q : List V → Hp → Prop) (us : List Value) (s' : Shared) : Prop := ∃ vs H', Inv X pins σ H' s' ∧ Vals vs us ∧ Q vs H'
noncomputable def SP (X : Cx) (pins : List (Addr × Obj)) (D : Ends) (f : Flow) (s' : Shared) : Prop :=
  match f with
  | .next => ∃ σ' H', Inv X pins σ' H' s' ∧ D.nx σ' H'
  | .brk => ∃ σ' H', Inv X pins σ' H' s' ∧ D.bk σ' H'
  | .cont => ∃ σ' H', Inv X pins σ' H' s' ∧ D.ct σ' H'
  | .ret u => ∃ v σ' H', Inv X pins σ' H' s' ∧ RelV v u ∧ D.rt v H'

noncomputable def PE (X : Cx) (e : Expr) (t : TE) : Prop :=
  ∀ (pins : List (Addr × Obj)) (s : Shared) (σ : St) (H : Hp) (Q : VK), Inv X pins σ H s → t σ H Q → wpAny (model X.prog X.w) X.A (eval e X.env) (EP X pins σ Q) X.xe s
noncomputable def PT (X : Cx) (e : Expr) (t : TT) : Prop :=
  ∀ (pins : List (Addr × Obj)) (s : Shared) (σ : St) (H : Hp) (Q : Bool → Hp → Prop), Inv X pins σ H s → t σ H Q → wpAny (model X.prog X.w) X.A (isTrue e X.env (eval e X.env)) (TP X pins σ Q) X.xe s
noncomputable def PW (X : Cx) (e : Expr) (t : TT) : Prop :=
  ∀ (whole : Sem Value) (pins : List (Addr × Obj)) (s : Shared) (σ : St) (H : Hp) (Q : Bool → Hp → Prop), Inv X pins σ H s → t σ H Q → wpAny (model X.prog X.w) X.A (isTrue e X.env whole) (TP X pins σ Q) X.xe s
theorem PW.pt {X : Cx} {e : Expr} {t : TT} (h : PW X e t) : PT X e t := h _
noncomputable def PA (X : Cx) (es : List Expr) (t : TA) : Prop :=
  ∀ (pos : Pos) (pins : List (Addr × Obj)) (s : Shared) (σ : St) (H : Hp) (Q : List V → Hp → Prop), Inv X pins σ H s → t σ H Q → wpAny (model X.prog X.w) X.A (spliced (backTo pos (starEach es X.env))) (AP X pins σ Q) X.xe s
noncomputable def PS (X : Cx) (st : Stmt) (t : TS) : Prop :=
  ∀ (pins : List (Addr × Obj)) (s : Shared) (σ : St) (H : Hp) (D : Ends), Inv X pins σ H s → t D σ H → wpAny (model X.prog X.w) X.A (exec st X.env) (SP X pins D) X.xe s
noncomputable def PSs (X : Cx) (st : List Stmt) (t : TS) : Prop :=
  ∀ (pins : List (Addr × Obj)) (s : Shared) (σ : St) (H : Hp) (D : Ends), Inv X pins σ H s → t D σ H → wpAny (model X.prog X.w) X.A (execs st X.env) (SP X pins D) X.xe s
theorem thn {α : Type} {t : Sem α} {Q Q' : α → Shared → Prop} {M : Model} {A : Around} {E : Value → Shared → Prop} {s : Shared} (h : wpAny M A t Q E s) (hQ : ∀ a s, Q a s → Q' a s) : wpAny M A t Q' E s := wpAny_mono h hQ fun _ _ x => x
end L2

namespace L2
open PySem PySem.Spec PyProof.Rows
section
variable {X : Cx}

noncomputable def tVar (i : Nat) : TE := fun σ H Q => ∃ v, σ[i]? = some (some v) ∧ Q v H
noncomputable def tC (v : V) : TE := fun _ H Q => Q v H
theorem pe_var {i : Nat} {x : Str} {pos : Pos} (hN : X.N[i]? = some x) (hv : Vis X.env.scope x) (hd : (x == ("__debug__" : Str)) = false := by decide) (hcd : (x == ("__classdict__" : Str)) = false := by decide) : PE X (.Name x pos) (tVar i) := by
  intro pins s σ H Q I h
  obtain ⟨v, e, h⟩ := h
  obtain ⟨m, hn, hl⟩ := I.loc
  obtain ⟨u, r, l⟩ := hl i x v hN e hv
  have fin : EP X pins σ Q u s := ⟨v, H, I, r, h⟩
  rcases l with ⟨hk, hm⟩ | ⟨hk, c, hc, hcell⟩
  · exact wpAny_Name (wpAny_loadName_local I.ok.kind hk hn hm fin) hd
  · rcases hk with hk | hk
    · exact wpAny_Name (wpAny_loadName_cell I.ok.kind hk hc hcell fin) hd
    · exact wpAny_Name (wpAny_loadName_free I.ok.kind hk hc hcell fin hcd) hd
theorem pe_int {i j pos} : PE X (.Constant (.int i) j pos) (tC (.int i)) := fun _ _ _ H _ I h => wpAny_Constant_int ⟨.int i, H, I.tok _, ⟨_, rfl⟩, h⟩
theorem pe_bl {b j pos} : PE X (.Constant (.bool b) j pos) (tC (.bl b)) := fun _ _ _ H _ I h => Constant_bool ⟨.bl b, H, I, rfl, h⟩
theorem pe_non {j pos} : PE X (.Constant .none j pos) (tC .non) := fun _ _ _ H _ I h => Constant_none ⟨.non, H, I, rfl, h⟩
theorem pe_str {x j pos} : PE X (.Constant (.str x) j pos) (tC (.str x)) := fun _ _ _ H _ I h => Calls.Constant_str ⟨.str x, H, I.tok _, ⟨_, rfl⟩, h⟩

noncomputable def Gl (X : Cx) (x : Str) : Prop := X.env.kindOf x = some .globalImplicit
theorem ld_glob {E : Value → Shared → Prop} {pins : List (Addr × Obj)} {s : Shared} {σ : St} {H : Hp} {x : Str} {u : Value} {pos : Pos} {Q : Value → Shared → Prop} (I : Inv X pins σ H s) (hg : Gl X x) (hm : X.mg x = some u) (h : Q u s)
    (hd : (x == ("__debug__" : Str)) = false := by decide) : wpAny (model X.prog X.w) X.A (eval (.Name x pos) X.env) Q E s :=
  Calls.Name_function_global I.ok.kind hg (Calls.loadGlobal_global (by rw [I.ok.glob]; exact I.mod.glob.keeps I.bk) hm h) hd
theorem ld_blt {E : Value → Shared → Prop} {pins : List (Addr × Obj)} {s : Shared} {σ : St} {H : Hp} {x : Str} {u : Value} {pos : Pos} {Q : Value → Shared → Prop} (I : Inv X pins σ H s) (hg : Gl X x) (hm : X.mg x = none) (hv : bootBuiltins x = some u) (h : Q u s)
    (hn : x ≠ "__name__" := by decide) (hd : (x == ("__debug__" : Str)) = false := by decide) : wpAny (model X.prog X.w) X.A (eval (.Name x pos) X.env) Q E s := by
  obtain ⟨mb, h1, h2⟩ := I.mod.blt
  exact Calls.Name_function_global I.ok.kind hg (Calls.loadGlobal_builtin (by rw [I.ok.glob]; exact I.mod.glob.keeps I.bk) hm (by rw [I.ok.blt]; exact h1.keeps I.bk) ((h2 x hn).trans hv) h) hd
theorem pe_glob {x : Str} {v : V} {u : Value} {pos : Pos} (hg : Gl X x) (hm : X.mg x = some u) (r : RelV v u) (hd : (x == ("__debug__" : Str)) = false := by decide) : PE X (.Name x pos) (tC v) :=
  fun _ _ _ H _ I h => ld_glob I hg hm ⟨v, H, I, r, h⟩ hd
theorem pe_bltn {x : Str} {v : V} {u : Value} {pos : Pos} (hg : Gl X x) (hm : X.mg x = none) (hv : bootBuiltins x = some u) (r : RelV v u) (hn : x ≠ "__name__" := by decide) (hd : (x == ("__debug__" : Str)) = false := by decide) : PE X (.Name x pos) (tC v) :=
  fun _ _ _ H _ I h => ld_blt I hg hm hv ⟨v, H, I, r, h⟩ hn hd

variable {a b : Expr} {ta tb : TE} {pos : Pos}
noncomputable def PC (X : Cx) (op : CmpOp) (a b : Expr) (t : TE) : Prop :=
  ∀ (pins : List (Addr × Obj)) (s : Shared) (σ : St) (H : Hp) (Q : VK), Inv X pins σ H s → t σ H Q →
    wpAny (model X.prog X.w) X.A (eval a X.env) (fun v s₁ => wpAny (model X.prog X.w) X.A (eval b X.env) (fun u s₂ => wpAny (model X.prog X.w) X.A (compareOp op v u) (EP X pins σ Q) X.xe s₂) X.xe s₁) X.xe s
noncomputable def tB (t : TE) : TT := fun σ H Q => t σ H fun x H1 => ∃ c, x = .bl c ∧ Q c H1
theorem pt_cmp {op : CmpOp} {t : TE} (h : PC X op a b t) (h1 : behindInMarks op b = false := by first | exact nobehind _ (by decide) (by decide) | rfl) : PT X (.Compare a [op] [b] pos) (tB t) := by
  intro pins s σ H Q I hw
  refine wpAny_isTrue_Compare1 (thn (h pins s σ H _ I hw) fun v s1 h1 => thn h1 fun u s2 h2 => thn h2 fun c s3 ⟨x, H1, I1, r1, q1⟩ => ?_) h1
  obtain ⟨d, rfl, q⟩ := q1
  cases r1
  exact wpAny_truthy_bool ⟨H1, I1, q⟩
theorem pt_val {e : Expr} {t : TE} (h : PE X e t) (he : ∀ whole, isTrue e X.env whole = (do let v ← whole; standAt e.pos; holding [v] (truthy v)) := by intro _; rfl) : PT X e (tB t) := by
  intro pins s σ H Q I hw
  refine isTrue_plain (thn (h pins s σ H _ I hw) fun v s1 ⟨x, H1, I1, r1, q1⟩ => ?_) (he _)
  obtain ⟨d, rfl, q⟩ := q1
  cases r1
  exact wpAny_truthy_bool ⟨H1, I1, q⟩

variable {tA tB' : TT} {rest : List Expr}
noncomputable def tAnd (t u : TT) : TT := fun σ H Q => t σ H fun c H1 => if c = true then u σ H1 Q else Q false H1
noncomputable def tOr (t u : TT) : TT := fun σ H Q => t σ H fun c H1 => if c = true then Q true H1 else u σ H1 Q
noncomputable def tNot (t : TT) : TT := fun σ H Q => t σ H fun c H1 => Q (!c) H1
theorem pw_and1 (ha : PT X a tA) : PW X (.BoolOp .And [a] pos) tA := by
  intro wh pins s σ H Q I h
  refine isTrue_and (thn (ha pins s σ H Q I h) fun c s1 e => ?_)
  cases c with
  | true => exact isTrue_and_nil e
  | false => exact e
theorem pw_or1 (ha : PT X a tA) : PW X (.BoolOp .Or [a] pos) tA := by
  intro wh pins s σ H Q I h
  refine isTrue_or (thn (ha pins s σ H Q I h) fun c s1 e => ?_)
  cases c with
  | false => exact isTrue_or_nil e
  | true => exact e
theorem pw_and (ha : PT X a tA) (hb : PW X (.BoolOp .And (b :: rest) pos) tB') : PW X (.BoolOp .And (a :: b :: rest) pos) (tAnd tA tB') := by
  intro wh pins s σ H Q I h
  refine isTrue_and (thn (ha pins s σ H _ I h) fun c s1 ⟨H1, I1, q1⟩ => ?_)
  cases c with
  | true => exact hb wh pins s1 σ H1 Q I1 q1
  | false => exact ⟨H1, I1, q1⟩
theorem pw_or (ha : PT X a tA) (hb : PW X (.BoolOp .Or (b :: rest) pos) tB') : PW X (.BoolOp .Or (a :: b :: rest) pos) (tOr tA tB') := by
  intro wh pins s σ H Q I h
  refine isTrue_or (thn (ha pins s σ H _ I h) fun c s1 ⟨H1, I1, q1⟩ => ?_)
  cases c with
  | true => exact ⟨H1, I1, q1⟩
  | false => exact hb wh pins s1 σ H1 Q I1 q1
theorem pt_not (ha : PT X a tA) : PT X (.UnaryOp .Not a pos) (tNot tA) := by
  intro pins s σ H Q I h
  exact isTrue_not (ha pins s σ H (fun c H1 => Q (!c) H1) I h)
noncomputable def tAndV (ta tb : TE) : TE := fun σ H Q => ta σ H fun x H1 => ∃ c, x = .bl c ∧ if c = true then tb σ H1 Q else Q (.bl false) H1
noncomputable def tNotV (ta : TE) : TE := fun σ H Q => ta σ H fun x H1 => ∃ c, x = .bl c ∧ Q (.bl (!c)) H1
theorem pe_one {op} {t : TE} (h : PE X a t) : PE X (.BoolOp op [a] pos) t := fun pins s σ H Q I hw => BoolOp_one (h pins s σ H Q I hw)
theorem pe_and (ha : PE X a ta) (hb : PE X (.BoolOp .And (b :: rest) pos) tb) : PE X (.BoolOp .And (a :: b :: rest) pos) (tAndV ta tb) := by
  intro pins s σ H Q I h
  refine BoolOp_and (thn (ha pins s σ H _ I h) fun v s1 ⟨x, H1, I1, r1, q1⟩ => ?_)
  obtain ⟨c, rfl, q1⟩ := q1
  cases r1
  refine wpAny_truthy_bool ?_
  cases c with
  | true => exact hb pins s1 σ H1 Q I1 q1
  | false => exact ⟨.bl false, H1, I1, rfl, q1⟩
theorem pe_not (ha : PE X a ta) : PE X (.UnaryOp .Not a pos) (tNotV ta) := by
  intro pins s σ H Q I h
  refine UnaryOp_ (thn (ha pins s σ H _ I h) fun v s1 ⟨x, H1, I1, r1, q1⟩ => ?_)
  obtain ⟨c, rfl, q1⟩ := q1
  cases r1
  exact not_of (wpAny_truthy_bool ⟨.bl (!c), H1, I1, rfl, q1⟩)
noncomputable def tIf (t : TT) (ta tb : TE) : TE := fun σ H Q => t σ H fun c H1 => if c = true then ta σ H1 Q else tb σ H1 Q
theorem pe_ifExp {c : Expr} (hc : PT X c tA) (ha : PE X a ta) (hb : PE X b tb) : PE X (.IfExp c a b pos) (tIf tA ta tb) := by
  intro pins s σ H Q I h
  refine wpAny_IfExp (thn (hc pins s σ H _ I h) fun d s1 ⟨H1, I1, q1⟩ => ?_)
  cases d with
  | true => exact ha pins s1 σ H1 Q I1 q1
  | false => exact hb pins s1 σ H1 Q I1 q1
end
end L2

namespace L2
open PySem PySem.Spec PyProof.Rows

noncomputable def SqL (K : PySem.W.Frag) (H : Hp) (a : Addr) (xs : List V) : Prop :=
  Rd H a (.lst xs) ∨
    ∃ (o : Obj) (its : Array Value) (n : Nat), K.lookup a = some o ∧ o.cls = .type "list" ∧ o.dict = none ∧ o.data = .seq its n ∧ its.size ≤ sizeLine ∧ Vals xs its.toList
noncomputable def SqT (K : PySem.W.Frag) (H : Hp) (a : Addr) (xs : List V) : Prop :=
  Rd H a (.tup xs) ∨
    ∃ (o : Obj) (its : Array Value) (n : Nat), K.lookup a = some o ∧ o.cls = .type "tuple" ∧ o.data = .seq its n ∧ its.size ≤ sizeLine ∧ Vals xs its.toList
noncomputable def absV : Value → Option V
  | .none => some .non
  | .bool b => some (.bl b)
  | .int i _ => some (.int i)
  | .str x _ => some (.str x)
  | .bytes b _ => some (.byt b)
  | .float b _ => some (.flt b)
  | .ref a => some (.ref a)
  | .type n => some (.ty n)
  | _ => none
theorem RelV.abs {x : V} {u : Value} (r : RelV x u) : absV u = some x := by
  cases x with
  | non => cases r; rfl
  | bl _ => cases r; rfl
  | int _ => obtain ⟨t, rfl⟩ := r; rfl
  | str _ => obtain ⟨t, rfl⟩ := r; rfl
  | byt _ => obtain ⟨t, rfl⟩ := r; rfl
  | flt _ => obtain ⟨t, rfl⟩ := r; rfl
  | ref _ => cases r; rfl
  | ty _ => cases r; rfl
theorem RelV.inj {x y : V} {u : Value} (r : RelV x u) (q : RelV y u) : x = y := Option.some.inj (r.abs.symm.trans q.abs)
theorem Vals.inj : ∀ {xs ys : List V} {us : List Value}, Vals xs us → Vals ys us → xs = ys
  | _, _, _, .nil, .nil => rfl
  | _, _, _, .cons r t, .cons r' t' => by rw [r.inj r', Vals.inj t t']
section
variable {X : Cx} {pins : List (Addr × Obj)} {σ : St} {H : Hp} {s : Shared} {a : Addr} {xs ys : List V}
theorem SqL.of {K : PySem.W.Frag} (h : H a = some (.lst xs)) : SqL K H a xs := .inl (.inl h)
theorem SqT.of {K : PySem.W.Frag} (h : H a = some (.tup xs)) : SqT K H a xs := .inl (.inl h)
theorem Inv.list (I : Inv X pins σ H s) (h : SqL X.K H a xs) : ∃ its : List Value, Vals xs its ∧ PlainL s.heap a its.toArray ∧ xs.length ≤ sizeLine := by
  rcases h with h | ⟨o, its, n, hk, hc, hd, hs, hz, r⟩
  · obtain ⟨z, its, n, r, e⟩ := h.ok I.hok
    exact ⟨its, r, ⟨_, n, e, rfl, rfl, rfl⟩, z⟩
  · refine ⟨its.toList, r, ⟨o, n, I.kIn a o hk, hc, hd, by simpa using hs⟩, ?_⟩
    have e := r.length
    simp only [Array.length_toList] at e
    omega
theorem Inv.tuple (I : Inv X pins σ H s) (h : SqT X.K H a xs) : ∃ its : List Value, Vals xs its ∧ IsTup s.heap a its.toArray ∧ xs.length ≤ sizeLine := by
  rcases h with h | ⟨o, its, n, hk, hc, hs, hz, r⟩
  · obtain ⟨z, its, r, p⟩ := h.ok I.hok
    exact ⟨its, r, p, z⟩
  · refine ⟨its.toList, r, ⟨o, I.kIn a o hk, hc, n, by simpa using hs⟩, ?_⟩
    have e := r.length
    simp only [Array.length_toList] at e
    omega
theorem Inv.list_inj (I : Inv X pins σ H s) (h : SqL X.K H a xs) (h' : SqL X.K H a ys) : xs = ys := by
  obtain ⟨its, r, ⟨o, n, e, _, _, d⟩, _⟩ := I.list h
  obtain ⟨its', r', ⟨o', n', e', _, _, d'⟩, _⟩ := I.list h'
  rw [e] at e'; cases e'
  rw [d] at d'
  injection d' with d1 _
  have : its = its' := by simpa using congrArg Array.toList d1
  subst this
  exact r.inj r'
theorem Inv.tuple_inj (I : Inv X pins σ H s) (h : SqT X.K H a xs) (h' : SqT X.K H a ys) : xs = ys := by
  obtain ⟨its, r, ⟨o, e, _, n, d⟩, _⟩ := I.tuple h
  obtain ⟨its', r', ⟨o', e', _, n', d'⟩, _⟩ := I.tuple h'
  rw [e] at e'; cases e'
  rw [d] at d'
  injection d' with d1 _
  have : its = its' := by simpa using congrArg Array.toList d1
  subst this
  exact r.inj r'
end

noncomputable abbrev Cx.wish (X : Cx) (E : Value → Shared → Prop) : Cx := { X with xe := E }
noncomputable abbrev Cx.nox (X : Cx) : Cx := X.wish fun _ _ => False
theorem Cx.Ok.wish {X : Cx} (ok : X.Ok) (E : Value → Shared → Prop) : (X.wish E).Ok :=
  ⟨ok.mod, ok.kind, ok.glob, ok.blt, ok.above, ok.inj, ok.has, ok.cab, ok.hd, ok.frames, ok.stk, ok.exf, ok.bs, ok.bsz, ok.noex, ok.exfs, ok.funs, ok.frf⟩
theorem Cx.Ok.unwish {X : Cx} {E : Value → Shared → Prop} (ok : (X.wish E).Ok) : X.Ok :=
  ⟨ok.mod, ok.kind, ok.glob, ok.blt, ok.above, ok.inj, ok.has, ok.cab, ok.hd, ok.frames, ok.stk, ok.exf, ok.bs, ok.bsz, ok.noex, ok.exfs, ok.funs, ok.frf⟩
section
variable {X : Cx} {pins : List (Addr × Obj)} {σ : St} {H : Hp} {s : Shared} {E : Value → Shared → Prop}
theorem Inv.wish (I : Inv X pins σ H s) (E : Value → Shared → Prop) : Inv (X.wish E) pins σ H s := ⟨I.ok.wish E, I.os, I.bare, I.base, I.loc, I.cell, I.free, I.freeC, I.pin, I.hok, I.len⟩
theorem Inv.unwish (I : Inv (X.wish E) pins σ H s) : Inv X pins σ H s := ⟨I.ok.unwish, I.os, I.bare, I.base, I.loc, I.cell, I.free, I.freeC, I.pin, I.hok, I.len⟩
theorem SP.unwish {D : Ends} {f : Flow} {s' : Shared} (h : SP (X.wish E) pins D f s') : SP X pins D f s' := by
  cases f with
  | next => obtain ⟨σ', H', I, q⟩ := h; exact ⟨σ', H', I.unwish, q⟩
  | brk => obtain ⟨σ', H', I, q⟩ := h; exact ⟨σ', H', I.unwish, q⟩
  | cont => obtain ⟨σ', H', I, q⟩ := h; exact ⟨σ', H', I.unwish, q⟩
  | ret u => obtain ⟨v, σ', H', I, r, q⟩ := h; exact ⟨v, σ', H', I.unwish, r, q⟩
theorem PSs.nox {st : List Stmt} {t : TS} (h : PSs X.nox st t) : PSs X st t := fun pins s σ H D I hw =>
  wpAny_mono (h pins s σ H D (I.wish _) hw) (fun _ _ q => q.unwish) fun _ _ z => False.elim z
end

section
variable {X : Cx} {st : Stmt} {rest : List Stmt} {t u : TS} {e : Expr} {te : TE} {pos : Pos}
noncomputable def tNext : TS := fun D σ H => D.nx σ H
noncomputable def tSeq (t u : TS) : TS := fun D σ H => t { D with nx := u D } σ H
theorem pss_nil : PSs X [] tNext := fun _ _ σ H _ I h => wpAny_execs_nil ⟨σ, H, I, h⟩
theorem pss_cons (h1 : PS X st t) (h2 : PSs X rest u) : PSs X (st :: rest) (tSeq t u) := by
  intro pins s σ H D I h
  refine wpAny_execs_cons (thn (h1 pins s σ H { D with nx := u D } I h) fun f s1 q => ?_)
  cases f with
  | next =>
    obtain ⟨σ', H', I', q⟩ := q
    exact h2 pins s1 σ' H' D I' q
  | ret v => exact q
  | brk => exact q
  | cont => exact q
theorem pss_one (h1 : PS X st t) : PSs X [st] t := by
  intro pins s σ H D I h
  refine wpAny_execs_cons (thn (h1 pins s σ H D I h) fun f s1 q => ?_)
  cases f with
  | next => exact wpAny_execs_nil q
  | ret v => exact q
  | brk => exact q
  | cont => exact q
theorem Inv.quiet {pins : List (Addr × Obj)} {σ : St} {H : Hp} {s : Shared} (I : Inv X pins σ H s) : interactive X.env = false := by simp [interactive, I.ok.kind]
noncomputable def tDrop (te : TE) : TS := fun D σ H => te σ H fun _ H1 => D.nx σ H1
theorem ps_expr (he : PE X e te) (hs : swapsWith e none pos.line X.env = pure false := by rfl) : PS X (.Expr e pos) (tDrop te) := by
  intro pins s σ H D I h
  exact wpAny_Expr_any (thn (he pins s σ H _ I h) fun v s1 ⟨x, H1, I1, r1, q1⟩ => ⟨σ, H1, I1, q1⟩) I.quiet hs
noncomputable def tRet (te : TE) : TS := fun D σ H => te σ H D.rt
theorem ps_ret (he : PE X e te) : PS X (.Return (some e) pos) (tRet te) := by
  intro pins s σ H D I h
  exact wpAny_Return_some (thn (he pins s σ H _ I h) fun v s1 ⟨x, H1, I1, r1, q1⟩ => ⟨x, σ, H1, I1, r1, q1⟩)
noncomputable def tIfS (c : TT) (t u : TS) : TS := fun D σ H => c σ H fun b H1 => if b = true then t D σ H1 else u D σ H1
theorem ps_if {c : Expr} {a b : List Stmt} {tc : TT} (hc : PT X c tc) (ha : PSs X a t) (hb : PSs X b u) : PS X (.If c a b pos) (tIfS tc t u) := by
  intro pins s σ H D I h
  refine wpAny_If (thn (hc pins s σ H _ I h) fun d s1 ⟨H1, I1, q1⟩ => ?_)
  cases d with
  | true => exact ha pins s1 σ H1 D I1 q1
  | false => exact hb pins s1 σ H1 D I1 q1
end

noncomputable abbrev TG := V → St → Hp → (St → Hp → Prop) → Prop
noncomputable abbrev TGs := List V → St → Hp → (St → Hp → Prop) → Prop
noncomputable def PG (X : Cx) (target : Expr) (t : TG) : Prop :=
  ∀ (pins : List (Addr × Obj)) (s : Shared) (σ : St) (H : Hp) (v : V) (u : Value) (Q : St → Hp → Prop), Inv X pins σ H s → RelV v u → t v σ H Q →
    wpAny (model X.prog X.w) X.A (assign target X.env u) (fun _ s' => ∃ σ' H', Inv X pins σ' H' s' ∧ Q σ' H') X.xe s
noncomputable def PGs (X : Cx) (ts : List Expr) (t : TGs) : Prop :=
  ∀ (pins : List (Addr × Obj)) (s : Shared) (σ : St) (H : Hp) (vs : List V) (us : List Value) (Q : St → Hp → Prop), Inv X pins σ H s → Vals vs us → t vs σ H Q →
    wpAny (model X.prog X.w) X.A (assignInOrder ((assignEach ts X.env).map (·.2)) us) (fun _ s' => ∃ σ' H', Inv X pins σ' H' s' ∧ Q σ' H') X.xe s
noncomputable abbrev TSet := V → V → V → Hp → (Hp → Prop) → Prop
noncomputable def PSet (X : Cx) (t : TSet) : Prop :=
  ∀ (pins : List (Addr × Obj)) (s : Shared) (σ : St) (H : Hp) (o i v : V) (ov iv u : Value) (Q : Hp → Prop), Inv X pins σ H s → RelV o ov → RelV i iv → RelV v u → t o i v H Q →
    wpAny (model X.prog X.w) X.A (setItem ov iv u) (fun _ s' => ∃ H', Inv X pins σ H' s' ∧ Q H') X.xe s
section
variable {X : Cx} {pos : Pos}
noncomputable def gName (i : Nat) : TG := fun v σ H Q => Q (σ.set i (some v)) H
theorem pg_name {i : Nat} {x : Str} (hN : X.N.Nodup) (hi : X.N[i]? = some x) (hx : Loc X.env.scope x) (hf : X.fn x = true ∨ X.env.scope.names.lookup x = some .local := by first | exact .inl rfl | exact .inr rfl | assumption) : PG X (.Name x pos) (gName i) := by
  intro pins s σ H v u Q I r h
  exact wpAny_assign_Name (store_ok I hN hi hx r (fun s' I' => ⟨_, H, I', h⟩) hf)
noncomputable def gNil : TGs := fun vs σ H Q => vs = [] ∧ Q σ H
noncomputable def gCons (t : TG) (u : TGs) : TGs := fun vs σ H Q => ∃ v r, vs = v :: r ∧ t v σ H fun σ' H' => u r σ' H' Q
theorem pgs_nil : PGs X [] gNil := by
  intro pins s σ H vs us Q I r h
  obtain ⟨e, h⟩ := h
  subst e
  cases r
  exact assignInOrder_nil ⟨σ, H, I, h⟩
theorem pgs_cons {e : Expr} {es : List Expr} {t : TG} {u : TGs} (h1 : PG X e t) (h2 : PGs X es u)
    (hs : (assignEach (e :: es) X.env).map (·.2) = assign e X.env :: (assignEach es X.env).map (·.2) := by rfl) : PGs X (e :: es) (gCons t u) := by
  intro pins s σ H vs us Q I r h
  obtain ⟨v, vr, e1, h⟩ := h
  subst e1
  cases r with
  | cons r rr =>
    rw [hs]
    refine assignInOrder_cons (thn (h1 pins s σ H _ _ _ I r h) fun _ s1 ⟨σ1, H1, I1, q1⟩ => ?_)
    exact h2 pins s1 σ1 H1 _ _ Q I1 rr q1
noncomputable def gTup (K : PySem.W.Frag) (n : Nat) (t : TGs) : TG := fun v σ H Q => ∃ a xs, v = .ref a ∧ SqT K H a xs ∧ xs.length = n ∧ t xs σ H Q
theorem pg_tup {es : List Expr} {k : Nat} {t : TGs} {n : Nat} (hc : X.calm = true) (h : PGs X es t)
    (hn : (assignEach es X.env).length = n := by rfl) (hst : (assignEach es X.env).findIdx? (·.1) = none := by rfl) : PG X (.Tuple es k pos) (gTup X.K n t) := by
  intro pins s σ H v u Q I r hw
  obtain ⟨a, xs, e1, hq, hl, hw⟩ := hw
  subst e1
  cases r
  obtain ⟨its, rv, ht, hz⟩ := I.tuple hq
  refine assign_Tuple_tuple (I.ok.hd hc) ht (by simp [hn, ← hl, rv.length]) hst fun h' hx => ?_
  have I1 : Inv X pins σ H { s with heap := h' } := I.kept (t' := s.toks) fun b o e => hx b o (Nat.ne_of_lt (Heap.lt_size e)) e
  exact h pins _ σ H xs _ Q I1 (by simpa using rv) hw
noncomputable def gSub (to ti : TE) (t : TSet) : TG := fun v σ H Q => to σ H fun o H1 => ti σ H1 fun i H2 => t o i v H2 fun H3 => Q σ H3
theorem pg_sub {o i : Expr} {to ti : TE} {t : TSet} (ho : PE X o to) (hi : PE X i ti) (hs : PSet X t)
    (ha : ∀ v, assign (.Subscript o i pos) X.env v = (do
      let ov ← holding [v] (eval o X.env)
      let iv ← holding [v, ov] (eval i X.env)
      standAt pos
      holding [v, ov, iv] (setItem ov iv v)
      release [v, ov, iv] []) := by intro _; rfl) : PG X (.Subscript o i pos) (gSub to ti t) := by
  intro pins s σ H v u Q I r h
  rw [ha]
  refine wpAny_bind (wpAny_holding (thn (ho pins s σ H _ I h) fun ov s1 ⟨x, H1, I1, r1, q1⟩ => ?_))
  refine wpAny_bind (wpAny_holding (thn (hi pins s1 σ H1 _ I1 q1) fun iv s2 ⟨y, H2, I2, r2, q2⟩ => ?_))
  refine wpAny_bind (wpAny_standAt (wpAny_bind (wpAny_holding (thn (hs pins s2 σ H2 x y v ov iv u _ I2 r1 r2 r q2) fun _ s3 ⟨H3, I3, q3⟩ => ?_))))
  exact wpAny_release ⟨σ, H3, I3, q3⟩
noncomputable def tAsg (te : TE) (g : TG) : TS := fun D σ H => te σ H fun x H1 => g x σ H1 D.nx
theorem ps_asg {tg e : Expr} {te : TE} {g : TG} (he : PE X e te) (hg : PG X tg g) (hs : swapsWithSole [tg] e pos.line X.env = pure false := by rfl) (hw : swappedStores [tg] e X.env = pure none := by rfl)
    (h1 : (assignEach [tg] X.env).map (·.2) = [assign tg X.env] := by rfl) : PS X (.Assign [tg] e pos) (tAsg te g) := by
  intro pins s σ H D I h
  refine wpAny_Assign_stores (thn (he pins s σ H _ I h) fun v s1 ⟨x, H1, I1, r1, q1⟩ => ?_) hs hw
  rw [h1]
  exact thn (hg pins s1 σ H1 x v _ I1 r1 q1) fun _ s2 q => q
theorem ps_set {i : Nat} {x : Str} {e : Expr} {te : TE} {pos' : Pos} (hN : X.N.Nodup) (hi : X.N[i]? = some x) (hx : Loc X.env.scope x) (he : PE X e te) (hs : swapsWith e (some (.Name x pos')) pos.line X.env = pure false := by rfl) (hf : X.fn x = true ∨ X.env.scope.names.lookup x = some .local := by first | exact .inl rfl | exact .inr rfl | assumption) :
    PS X (.Assign [.Name x pos'] e pos) (tAsg te (gName i)) := by
  intro pins s σ H D I h
  refine wpAny_Assign_Name (thn (he pins s σ H _ I h) fun v s1 ⟨y, H1, I1, r1, q1⟩ => ?_) hs
  exact store_ok I1 hN hi hx r1 (fun s2 I2 => ⟨_, H1, I2, q1⟩) hf
end

section
variable {X : Cx} {pos : Pos}
noncomputable def tWhile (c : TT) (tb : TS) : TS := fun D σ H => ∃ W : Nat → St → Hp → Prop, (∃ m, W m σ H) ∧ ∀ m σ H, W m σ H →
  c σ H fun b H1 => if b = true then ∃ N : St → Hp → Prop, (∀ σ' H', N σ' H' → ∃ m', m' < m ∧ W m' σ' H') ∧ tb { D with nx := N, ct := N, bk := D.nx } σ H1 else D.nx σ H1
theorem ps_while {c : Expr} {body : List Stmt} {tc : TT} {tb : TS} (hp : PassesOwn (model X.prog X.w) X.A X.env X.xe) (hc : PT X c tc) (hb : PSs X body tb) : PS X (.While c body [] pos) (tWhile tc tb) := by
  intro pins s σ H D I h
  obtain ⟨W, ⟨m0, w0⟩, turn⟩ := h
  refine wpAny_While (codeAny_whileLoop (fun n s' => ∃ σ' H', Inv X pins σ' H' s' ∧ W n σ' H') ?_ m0 ⟨σ, H, I, w0⟩)
  rintro n s1 ⟨σ1, H1, I1, w1⟩
  refine wpAny_passesOwn hp (thn (hc pins s1 σ1 H1 _ I1 (turn n σ1 H1 w1)) fun b s2 ⟨H2, I2, q2⟩ => ?_)
  cases b with
  | true =>
    obtain ⟨N, hN, q2⟩ := q2
    rw [if_pos rfl]
    refine wpAny_passesOwn hp (thn (hb pins s2 σ1 H2 _ I2 q2) fun f s3 q3 => ?_)
    cases f with
    | next =>
      obtain ⟨σ3, H3, I3, n3⟩ := q3
      obtain ⟨m', hm, w3⟩ := hN σ3 H3 n3
      exact ⟨m', hm, σ3, H3, I3, w3⟩
    | cont =>
      obtain ⟨σ3, H3, I3, n3⟩ := q3
      obtain ⟨m', hm, w3⟩ := hN σ3 H3 n3
      exact ⟨m', hm, σ3, H3, I3, w3⟩
    | brk => exact q3
    | ret v => exact q3
  | false =>
    rw [if_neg Bool.false_ne_true]
    exact wpAny_execs_nil ⟨σ1, H2, I2, q2⟩
end

structure It where
  go : Nat → Hp → Prop
  yld : Nat → Hp → V → Hp → Prop
  stop : Nat → Hp → Prop
noncomputable def FpOk (X : Cx) (pins : List (Addr × Obj)) (H : Hp) (b : Addr) : Prop :=
  H b = none ∧ b ≠ X.env.locals ∧ b ∉ X.fs ∧ (b ∈ X.ex ∨ X.s₀.heap.objs.size ≤ b) ∧ (∀ x c, X.env.cells.lookup x = some c → c ≠ b) ∧ ∀ p ∈ X.pn ++ pins, p.1 ≠ b
theorem Inv.fpOk {X : Cx} {pins : List (Addr × Obj)} {σ : St} {H H' : Hp} {s : Shared} {b : Addr} (I : Inv X pins σ H s) (hb : s.heap.objs.size ≤ b) (hn : H' b = none) : FpOk X pins H' b := by
  refine ⟨hn, Nat.ne_of_gt (Nat.lt_of_lt_of_le I.lt hb), I.nofs hb, .inr (Nat.le_trans I.sz hb), fun x c e z => ?_, fun p hp z => ?_⟩
  · obtain ⟨v, q⟩ := I.cell x c e
    exact absurd (Nat.lt_of_lt_of_le q.lt (by rw [z]; exact hb)) (Nat.lt_irrefl _)
  · exact absurd (Nat.lt_of_lt_of_le (Heap.lt_size (I.pin p hp).1) (by rw [z]; exact hb)) (Nat.lt_irrefl _)
structure Turn (P : Program) (w : World) (K : PySem.W.Frag) (tg : Expr) (J : It) (fp : List Addr) (it : Addr) (tn : Nat → Heap → Prop) : Prop where
  mem : it ∈ fp
  obj : ∀ i h, tn i h → ∀ b ∈ fp, ∃ o, h.get? b = some o ∧ ∀ v, o.data ≠ .cell v
  keep : ∀ i h h', tn i h → (∀ b ∈ fp, ∀ o, h.get? b = some o → h'.get? b = some o) → tn i h'
  item : ∀ (X : Cx), X.prog = P → X.w = w → X.K = K → X.calm = true → ∀ (i : Nat) (pins : List (Addr × Obj)) (s : Shared) (σ : St) (H : Hp) (E : Value → Shared → Prop), Inv X pins σ H s → (∀ b ∈ fp, FpOk X pins H b) → tn i s.heap → J.go i H →
    wpAny (model P w) X.A (pyNext (.ref it)) (fun r s1 => ∃ u, r = some u ∧
      wpAny (model P w) X.A (letOwnedTupleGo tg (.ref it) u) (fun _ s2 => ∃ x H', Inv X pins σ H' s2 ∧ RelV x u ∧ J.yld i H x H' ∧ tn (i + 1) s2.heap ∧ ∀ b ∈ fp, H' b = none) E s1) E s
  done : ∀ (X : Cx), X.prog = P → X.w = w → X.K = K → X.calm = true → ∀ (i : Nat) (pins : List (Addr × Obj)) (s : Shared) (σ : St) (H : Hp) (E : Value → Shared → Prop), Inv X pins σ H s → (∀ b ∈ fp, FpOk X pins H b) → tn i s.heap → J.stop i H →
    wpAny (model P w) X.A (pyNext (.ref it)) (fun r s1 => r = none ∧ Inv X pins σ H s1) E s
  self : ∀ (A : Around) (i : Nat) (s : Shared) (Q : Value → Shared → Prop) (E : Value → Shared → Prop), tn i s.heap → Q (.ref it) s → wpAny (model P w) A (pyIter (.ref it)) Q E s
noncomputable abbrev TI := St → Hp → (It → Hp → Prop) → Prop
noncomputable def PIE (X : Cx) (pins : List (Addr × Obj)) (σ : St) (tg : Expr) (R : It → Hp → Prop) (itv : Value) (s2 : Shared) : Prop :=
  ∃ (it : Addr) (fp : List Addr) (tn : Nat → Heap → Prop) (J : It) (H' : Hp), itv = .ref it ∧ Inv X pins σ H' s2 ∧ Turn X.prog X.w X.K tg J fp it tn ∧ tn 0 s2.heap ∧ (∀ b ∈ fp, FpOk X pins H' b) ∧ R J H'
noncomputable def PI (X : Cx) (tg iter : Expr) (wi : TI) : Prop :=
  ∀ (pins : List (Addr × Obj)) (s : Shared) (σ : St) (H : Hp) (R : It → Hp → Prop), Inv X pins σ H s → wi σ H R →
    wpAny (model X.prog X.w) X.A (eval iter X.env) (fun v s1 => wpAny (model X.prog X.w) X.A (pyIter v) (PIE X pins σ tg R) X.xe s1) X.xe s

theorem go_of {M : Model} {A : Around} {E : Value → Shared → Prop} {s : Shared} {tg : Expr} {it : Addr} {u : Value} {o : Obj} {n : String} {vs : Array Value} {Q : Unit → Shared → Prop} (ho : s.heap.get? it = some o) (hc : o.cls = .type n) (hd : o.data = .fields vs)
    (hn : ["enumerate", "zip", "dict_itemiterator", "dict_reverseitemiterator", "odict_iterator", "itertools.zip_longest", "itertools.pairwise"].contains n = false) (hQ : Q () s) : wpAny M A (letOwnedTupleGo tg (.ref it) u) Q E s := by
  unfold letOwnedTupleGo
  cases tg <;> first
    | exact wpAny_pure hQ
    | (cases u <;> first
        | exact wpAny_pure hQ
        | (refine wpAny_bind (wpAny_load ho ?_)
           rw [hc, hd]
           show wpAny M A (if (["enumerate", "zip", "dict_itemiterator", "dict_reverseitemiterator", "odict_iterator", "itertools.zip_longest", "itertools.pairwise"].contains n && vs[0]? == some (rawInt _)) = true then _ else _) Q E s
           rw [if_neg (by intro h; rw [hn, Bool.false_and] at h; cases h)]
           exact wpAny_pure hQ))

noncomputable def Itl (K : PySem.W.Frag) (a : Addr) : It :=
  ⟨fun i H => ∃ xs x, SqL K H a xs ∧ xs[i]? = some x, fun i H x H' => H' = H ∧ ∀ xs, SqL K H a xs → xs[i]? = some x, fun i H => ∃ xs, SqL K H a xs ∧ xs.length ≤ i⟩
noncomputable def Itt (K : PySem.W.Frag) (a : Addr) : It :=
  ⟨fun i H => ∃ xs x, SqT K H a xs ∧ xs[i]? = some x, fun i H x H' => H' = H ∧ ∀ xs, SqT K H a xs → xs[i]? = some x, fun i H => ∃ xs, SqT K H a xs ∧ xs.length ≤ i⟩
noncomputable def Itr (lo : Int) (n : Nat) : It := ⟨fun i _ => i < n, fun i H x H' => H' = H ∧ x = .int (lo + i), fun i _ => n ≤ i⟩
theorem turn_list {P : Program} {w : World} {K : PySem.W.Frag} {tg : Expr} (a it : Addr) : Turn P w K tg (Itl K a) [it] it (fun i h => h.IsListIter it a i) where
  mem := by simp
  obj := fun i h st b hb => by
    have e : b = it := by simpa using hb
    subst e
    obtain ⟨o, e, c, d⟩ := st
    exact ⟨o, e, fun v z => by rw [d] at z; cases z⟩
  keep := fun i h h' st k => st.at fun o e => k it (by simp) o e
  item := by
    intro X hP hw hK hc i pins s σ H E I hf st hg
    subst hP hw hK
    obtain ⟨xs, x, hq, hx⟩ := hg
    obtain ⟨its, rv, p, hz⟩ := I.list hq
    obtain ⟨u, hu, ru⟩ := rv.get hx
    obtain ⟨f0, f1, f2, f3, f4, f5⟩ := hf it (by simp)
    refine wpAny_pyNext_list_item st p.isList (x := u) (by simpa using hu) fun h' st' sb => ?_
    have I1 : Inv X pins σ H { s with heap := h' } := I.turned (t' := s.toks) (fun b o hb e => (sb.2 b hb).trans e) f0 f1 f3 f4 f5
    obtain ⟨o, e, c, d⟩ := id st'
    exact ⟨u, rfl, go_of (s := { s with heap := h' }) e c d (by decide) ⟨x, H, I1, ru, ⟨rfl, fun ys hy => by rw [I.list_inj hy hq]; exact hx⟩, st', fun b hb => (hf b hb).1⟩⟩
  done := by
    intro X hP hw hK hc i pins s σ H E I hf st hg
    subst hP hw hK
    obtain ⟨xs, hq, hx⟩ := hg
    obtain ⟨its, rv, p, hz⟩ := I.list hq
    obtain ⟨f0, f1, f2, f3, f4, f5⟩ := hf it (by simp)
    have hl := rv.length
    exact wpAny_pyNext_list_end (I.ok.hd hc) st p.isList (by simp; omega) fun h' eb => ⟨rfl, I.turned (t' := s.toks) (fun b o hb e => eb b o hb e) f0 f1 f3 f4 f5⟩
  self := fun _ _ _ _ _ st h => wpAny_pyIter_listiter st h
theorem turn_tuple {P : Program} {w : World} {K : PySem.W.Frag} {tg : Expr} (a it : Addr) : Turn P w K tg (Itt K a) [it] it (fun i h => h.IsTupleIter it a i) where
  mem := by simp
  obj := fun i h st b hb => by
    have e : b = it := by simpa using hb
    subst e
    obtain ⟨o, e, c, d⟩ := st
    exact ⟨o, e, fun v z => by rw [d] at z; cases z⟩
  keep := fun i h h' st k => st.at fun o e => k it (by simp) o e
  item := by
    intro X hP hw hK hc i pins s σ H E I hf st hg
    subst hP hw hK
    obtain ⟨xs, x, hq, hx⟩ := hg
    obtain ⟨its, rv, p, hz⟩ := I.tuple hq
    obtain ⟨u, hu, ru⟩ := rv.get hx
    obtain ⟨f0, f1, f2, f3, f4, f5⟩ := hf it (by simp)
    refine wpAny_pyNext_tuple_item st (show s.heap.IsTuple a its.toArray from p) (x := u) (by simpa using hu) fun h' st' sb => ?_
    have I1 : Inv X pins σ H { s with heap := h' } := I.turned (t' := s.toks) (fun b o hb e => (sb.2 b hb).trans e) f0 f1 f3 f4 f5
    obtain ⟨o, e, c, d⟩ := id st'
    exact ⟨u, rfl, go_of (s := { s with heap := h' }) e c d (by decide) ⟨x, H, I1, ru, ⟨rfl, fun ys hy => by rw [I.tuple_inj hy hq]; exact hx⟩, st', fun b hb => (hf b hb).1⟩⟩
  done := by
    intro X hP hw hK hc i pins s σ H E I hf st hg
    subst hP hw hK
    obtain ⟨xs, hq, hx⟩ := hg
    obtain ⟨its, rv, p, hz⟩ := I.tuple hq
    obtain ⟨f0, f1, f2, f3, f4, f5⟩ := hf it (by simp)
    have hl := rv.length
    exact wpAny_pyNext_tuple_end (I.ok.hd hc) st (show s.heap.IsTuple a its.toArray from p) (by simp; omega) fun h' eb => ⟨rfl, I.turned (t' := s.toks) (fun b o hb e => eb b o hb e) f0 f1 f3 f4 f5⟩
  self := fun _ _ _ _ _ st h => wpAny_pyIter_tupleiter st h
theorem turn_range {P : Program} {w : World} {K : PySem.W.Frag} {tg : Expr} (it : Addr) (lo : Int) (n : Nat) : Turn P w K tg (Itr lo n) [it] it (fun i h => IsRangeIter h it (lo + (i : Nat) * 1) ((n : Int) - (i : Nat)) 1) where
  mem := by simp
  obj := fun i h st b hb => by
    have e : b = it := by simpa using hb
    subst e
    exact ⟨_, st, fun v z => by
      have z' : Data.fields _ = Data.cell v := z
      cases z'⟩
  keep := fun i h h' st k => k it (by simp) _ st
  item := by
    intro X hP hw hK hc i pins s σ H E I hf st hg
    subst hP hw hK
    obtain ⟨f0, f1, f2, f3, f4, f5⟩ := hf it (by simp)
    have W := Walks.range (prog := X.prog) (w := X.w) (I.ok.hd hc) it lo 1 n
    refine W.item i s _ _ hg st fun v h' tk hv st' kk => ?_
    obtain ⟨t, rfl⟩ := hv
    have I1 : Inv X pins σ H { s with heap := h', toks := tk } := I.turned (fun b o hb e => kk b o (by simpa using hb) e) f0 f1 f3 f4 f5
    refine ⟨_, rfl, go_of (s := { s with heap := h', toks := tk }) (n := "range_iterator") st' rfl rfl (by decide) ⟨.int (lo + i), H, I1, ⟨t, ?_⟩, ⟨rfl, rfl⟩, st', fun b hb => (hf b hb).1⟩⟩
    rw [Int.mul_one]
  done := by
    intro X hP hw hK hc i pins s σ H E I hf st hg
    subst hP hw hK
    obtain ⟨f0, f1, f2, f3, f4, f5⟩ := hf it (by simp)
    exact wpAny_pyNext_range_end (I.ok.hd hc) st (by have : n ≤ i := hg; omega) fun h' eb => ⟨rfl, I.turned (t' := s.toks) (fun b o hb e => eb b o hb e) f0 f1 f3 f4 f5⟩
  self := fun _ _ _ _ _ st h => wpAny_pyIter_rangeiter st h
end L2

namespace L2
open PySem PySem.Spec PyProof.Rows
section
variable {X : Cx} {tg : Expr}
theorem range_it {pins : List (Addr × Obj)} {σ : St} {H : Hp} {s : Shared} {R : It → Hp → Prop} {E : Value → Shared → Prop} {lo hi : Int} {t u v : Tok} {tk : Nat} (I : Inv X pins σ H s) (h1 : -(2 ^ 62) ≤ lo) (h2 : lo < 2 ^ 62) (h3 : -(2 ^ 62) ≤ hi) (h4 : hi < 2 ^ 62)
    (q : R (Itr lo (hi - lo).toNat) H) : wpAny (model X.prog X.w) X.A (pyIter (.ref s.heap.objs.size)) (PIE X pins σ tg R) E { s with heap := s.heap.push { cls := .type "range", data := .fields #[.int lo t, .int hi u, .int 1 v] }, toks := tk } := by
  refine wpAny_pyIter_range (IsRange.new ..) (small_one h1 h2 h3 h4) ?_
  have I1 : Inv X pins σ H { s with heap := s.heap.push { cls := .type "range", data := .fields #[.int lo t, .int hi u, .int 1 v] }, toks := tk } := I.kept fun b o e => Heap.get?_push_of_some _ e
  refine ⟨(s.heap.push { cls := .type "range", data := .fields #[.int lo t, .int hi u, .int 1 v] }).objs.size, [(s.heap.push { cls := .type "range", data := .fields #[.int lo t, .int hi u, .int 1 v] }).objs.size], _, _, H, rfl,
    I1.kept (t' := tk) fun b o e => Heap.get?_push_of_some _ e, turn_range _ lo (hi - lo).toNat, ?_, fun b hb => ?_, q⟩
  · have e1 : lo + ((0 : Nat) : Int) * 1 = lo := by simp
    have e2 : (((hi - lo).toNat : Nat) : Int) - ((0 : Nat) : Int) = Builtin.Range.rangeSize lo hi 1 := by rw [rangeSize_one]; split <;> omega
    show IsRangeIter _ _ (lo + ((0 : Nat) : Int) * 1) ((((hi - lo).toNat : Nat) : Int) - ((0 : Nat) : Int)) 1
    rw [e1, e2]
    exact Heap.get?_push_size _ rfl
  · have e : b = (s.heap.push { cls := .type "range", data := .fields #[.int lo t, .int hi u, .int 1 v] }).objs.size := by simpa using hb
    subst e
    exact I1.fpOk (Nat.le_refl _) (I1.hok.fresh (Nat.le_refl _))
noncomputable def iRng1 (ta : TA) : TI := fun σ H R => ta σ H fun vs H1 => ∃ j : Int, vs = [.int j] ∧ -(2 ^ 62) ≤ j ∧ j < 2 ^ 62 ∧ R (Itr 0 j.toNat) H1
noncomputable def iRng2 (ta : TA) : TI := fun σ H R => ta σ H fun vs H1 => ∃ i j : Int, vs = [.int i, .int j] ∧ (-(2 ^ 62) ≤ i ∧ i < 2 ^ 62 ∧ -(2 ^ 62) ≤ j ∧ j < 2 ^ 62) ∧ R (Itr i (j - i).toNat) H1
theorem pi_range1 {a : Expr} {ta : TA} {p pos : Pos} (hg : Gl X "range") (hm : X.mg "range" = none) (ha : PA X [a] ta) (hs : starEach [a] X.env = [(false, eval a X.env)] := by rfl) : PI X tg (.Call (.Name "range" p) [a] [] pos) (iRng1 ta) := by
  intro pins s σ H R I h
  refine Call_ (ld_blt I hg hm boot_range (PyProof.Rows.callWith_type1 (thn (ha pos pins s σ H _ I h) fun us s1 ⟨vs, H1, I1, r1, q1⟩ => ?_) hs rfl))
  obtain ⟨j, e, q1, q2, q⟩ := q1
  subst e
  cases r1 with
  | cons r rr =>
    cases rr
    obtain ⟨t, rfl⟩ := r
    exact call_range_1 (range_it I1 (by omega) (by omega) q1 q2 (by simpa using q))
theorem pi_range2 {a b : Expr} {ta : TA} {p pos : Pos} (hg : Gl X "range") (hm : X.mg "range" = none) (ha : PA X [a, b] ta) (hs : starEach [a, b] X.env = [(false, eval a X.env), (false, eval b X.env)] := by rfl) (hs2 : starEach [b] X.env = [(false, eval b X.env)] := by rfl) :
    PI X tg (.Call (.Name "range" p) [a, b] [] pos) (iRng2 ta) := by
  intro pins s σ H R I h
  refine Call_ (ld_blt I hg hm boot_range (PyProof.Rows.callWith_type1 (thn (ha pos pins s σ H _ I h) fun us s1 ⟨vs, H1, I1, r1, q1⟩ => ?_) (by rw [hs, hs2]) (by rw [hs2]; rfl)))
  obtain ⟨i, j, e, ⟨q1, q2, q3, q4⟩, q⟩ := q1
  subst e
  cases r1 with
  | cons r rr =>
    cases rr with
    | cons r' rr =>
      cases rr
      obtain ⟨t, rfl⟩ := r
      obtain ⟨t', rfl⟩ := r'
      exact call_range_2 (range_it I1 q1 q2 q3 q4 q)

noncomputable def tFor (wi : TI) (g : TG) (tb : TS) : TS := fun D σ H => wi σ H fun J H1 => ∃ W : Nat → Nat → St → Hp → Prop, (∃ m, W 0 m σ H1) ∧ ∀ i m σ H, W i m σ H →
  (J.stop i H ∧ D.nx σ H) ∨ (J.go i H ∧ ∃ N : St → Hp → Prop, (∀ σ' H', N σ' H' → ∃ m', m' < m ∧ W (i + 1) m' σ' H') ∧ ∀ x H', J.yld i H x H' → g x σ H' fun σ2 H2 => tb { D with nx := N, ct := N, bk := D.nx } σ2 H2)
noncomputable def pinsAt (fp : List Addr) (h : Heap) : List (Addr × Obj) := fp.filterMap fun b => (h.get? b).map fun o => (b, o)
theorem mem_pinsAt {fp : List Addr} {h : Heap} {b : Addr} {o : Obj} (hb : b ∈ fp) (e : h.get? b = some o) : (b, o) ∈ pinsAt fp h := List.mem_filterMap.mpr ⟨b, hb, by rw [e]; rfl⟩
theorem of_pinsAt {fp : List Addr} {h : Heap} {p : Addr × Obj} (hp : p ∈ pinsAt fp h) : p.1 ∈ fp ∧ h.get? p.1 = some p.2 := by
  obtain ⟨b, hb, e⟩ := List.mem_filterMap.mp hp
  cases q : h.get? b with
  | none => rw [q] at e; cases e
  | some o =>
    rw [q] at e
    have e' : (b, o) = p := Option.some.inj e
    subst e'
    exact ⟨hb, q⟩
theorem Inv.pinned {pins : List (Addr × Obj)} {σ : St} {H : Hp} {s : Shared} {fp : List Addr} (I : Inv X pins σ H s) (hf : ∀ b ∈ fp, FpOk X pins H b) (ho : ∀ b ∈ fp, ∃ o, s.heap.get? b = some o ∧ ∀ v, o.data ≠ .cell v) : Inv X (pins ++ pinsAt fp s.heap) σ H s :=
  I.pins_of fun p hp => (List.mem_append.mp hp).elim (fun z => I.pin p (List.mem_append_right _ z)) fun z => by
    obtain ⟨hb, e⟩ := of_pinsAt z
    obtain ⟨f0, f1, f2, _⟩ := hf p.1 hb
    obtain ⟨o, e', d⟩ := ho p.1 hb
    rw [e] at e'; cases e'
    exact ⟨e, f0, f1, f2, d⟩
theorem Inv.unpinned {pins pl : List (Addr × Obj)} {σ : St} {H : Hp} {s : Shared} (I : Inv X (pins ++ pl) σ H s) : Inv X pins σ H s := I.pins_of fun p hp => I.pin p (List.mem_append_right _ (List.mem_append_left _ hp))
theorem ps_for {iter : Expr} {body : List Stmt} {wi : TI} {g : TG} {tb : TS} {pos : Pos} (hp : PassesOwn (model X.prog X.w) X.A X.env X.xe) (hc : X.calm = true) (hi : PI X tg iter wi) (hg : PG X tg g) (hb : PSs X body tb)
    (hs : ∀ x, foldedSetIterable iter X.env x = pure x := by intro _; rfl) : PS X (.For tg iter body [] pos) (tFor wi g tb) := by
  intro pins s σ H D I h
  refine wpAny_For (thn (hi pins s σ H _ I h) fun v s1 h1 => thn h1 fun itv s2 h2 => ?_) hs
  obtain ⟨it, fp, tn, J, H2, e, I2, T, st2, f2, W, ⟨m0, w0⟩, turn⟩ := h2
  subst e
  -- what stays true of the iterator's objects through the loop
  have stat : ∀ {H' : Hp}, (∀ b ∈ fp, H' b = none) → ∀ b ∈ fp, FpOk X pins H' b := fun hn b hb => ⟨hn b hb, (f2 b hb).2⟩
  refine codeAny_forLoop_any (fun n s' => ∃ i σ' H', Inv X pins σ' H' s' ∧ tn i s'.heap ∧ (∀ b ∈ fp, H' b = none) ∧ W i n σ' H') ?_ m0 ⟨0, σ, H2, I2, st2, fun b hb => (f2 b hb).1, w0⟩
  rintro n s3 ⟨i, σ3, H3, I3, st3, fr3, w3⟩
  rcases turn i n σ3 H3 w3 with ⟨stop, qn⟩ | ⟨go, N, hN, step⟩
  · refine wpAny_passesOwn hp (thn (T.done X rfl rfl rfl hc i pins s3 σ3 H3 X.xe I3 (stat fr3) st3 stop) fun r s4 ⟨hr, I4⟩ => ?_)
    subst hr
    exact wpAny_execs_nil ⟨σ3, H3, I4, qn⟩
  · refine wpAny_passesOwn hp (thn (T.item X rfl rfl rfl hc i pins s3 σ3 H3 X.xe I3 (stat fr3) st3 go) fun r s4 ⟨u, hr, h4⟩ => ?_)
    subst hr
    refine wpAny_passesOwn hp (thn h4 fun _ s5 ⟨x, H5, I5, r5, y5, st5, fr5⟩ => ?_)
    have I5' := I5.pinned (stat fr5) (T.obj _ _ st5)
    refine wpAny_passesOwn hp (thn (hg _ s5 σ3 H5 x u _ I5' r5 (step x H5 y5)) fun _ s6 ⟨σ6, H6, I6, q6⟩ => ?_)
    refine wpAny_passesOwn hp (thn (hb _ s6 σ6 H6 _ I6 q6) fun f s7 q7 => ?_)
    have again : ∀ {σ7 : St} {H7 : Hp}, Inv X (pins ++ pinsAt fp s5.heap) σ7 H7 s7 → N σ7 H7 → ∃ m, m < n ∧ ∃ i σ' H', Inv X pins σ' H' s7 ∧ tn i s7.heap ∧ (∀ b ∈ fp, H' b = none) ∧ W i m σ' H' := fun {σ7 H7} I7 n7 => by
      obtain ⟨m', hm, w7⟩ := hN σ7 H7 n7
      refine ⟨m', hm, i + 1, σ7, H7, I7.unpinned, T.keep _ _ _ st5 fun b hb o e => (I7.pin (b, o) (List.mem_append_right _ (List.mem_append_right _ (mem_pinsAt hb e)))).1, fun b hb => ?_, w7⟩
      obtain ⟨o, e, d⟩ := T.obj _ _ st5 b hb
      exact (I7.pin (b, o) (List.mem_append_right _ (List.mem_append_right _ (mem_pinsAt hb e)))).2.1
    cases f with
    | next => obtain ⟨σ7, H7, I7, n7⟩ := q7; exact again I7 n7
    | cont => obtain ⟨σ7, H7, I7, n7⟩ := q7; exact again I7 n7
    | brk => obtain ⟨σ7, H7, I7, q7⟩ := q7; exact ⟨σ7, H7, I7.unpinned, q7⟩
    | ret v => obtain ⟨x7, σ7, H7, I7, r7, q7⟩ := q7; exact ⟨x7, σ7, H7, I7.unpinned, r7, q7⟩
end

end L2

namespace L2
open PySem PySem.Spec PyProof.Rows

noncomputable abbrev R2 := V → V → Hp → VK → Prop
noncomputable def OpR (X : Cx) (f : Value → Value → Sem Value) (r : R2) : Prop :=
  ∀ (pins : List (Addr × Obj)) (s : Shared) (σ : St) (H : Hp) (x y : V) (v u : Value) (Q : VK), Inv X pins σ H s → RelV x v → RelV y u → r x y H Q →
    wpAny (model X.prog X.w) X.A (f v u) (EP X pins σ Q) X.xe s
noncomputable def CallR (X : Cx) (f : Value) (r : List V → Hp → VK → Prop) : Prop :=
  ∀ (pins : List (Addr × Obj)) (s : Shared) (σ : St) (H : Hp) (xs : List V) (us : List Value) (Q : VK), Inv X pins σ H s → Vals xs us → r xs H Q →
    wpAny (model X.prog X.w) X.A (call f us) (EP X pins σ Q) X.xe s
noncomputable def TruR (X : Cx) (r : V → Hp → (Bool → Hp → Prop) → Prop) : Prop :=
  ∀ (pins : List (Addr × Obj)) (s : Shared) (σ : St) (H : Hp) (x : V) (v : Value) (Q : Bool → Hp → Prop), Inv X pins σ H s → RelV x v → r x H Q →
    wpAny (model X.prog X.w) X.A (truthy v) (TP X pins σ Q) X.xe s

noncomputable def tOp (r : R2) (ta tb : TE) : TE := fun σ H Q => ta σ H fun x H1 => tb σ H1 fun y H2 => r x y H2 Q
noncomputable def rI (C : Int → Int → Prop) (g : Int → Int → V) : R2 := fun x y H Q => ∃ i j, x = .int i ∧ y = .int j ∧ C i j ∧ Q (g i j) H
noncomputable def rI0 (g : Int → Int → V) : R2 := fun x y H Q => ∃ i j, x = .int i ∧ y = .int j ∧ Q (g i j) H
section
variable {X : Cx} {a b c : Expr} {ta tb tc : TE} {pos : Pos}

theorem binT (ha : PE X a ta) (hb : PE X b tb) {pins : List (Addr × Obj)} {s : Shared} {σ : St} {H : Hp} {R : V → V → Hp → Prop} (I : Inv X pins σ H s)
    (h : ta σ H fun x H1 => tb σ H1 fun y H2 => R x y H2) {Q : Value → Shared → Prop} {f : Value → Value → Sem Value}
    (hf : ∀ v u s2 x y H2, Inv X pins σ H2 s2 → RelV x v → RelV y u → R x y H2 → wpAny (model X.prog X.w) X.A (f v u) Q X.xe s2) :
    wpAny (model X.prog X.w) X.A (eval a X.env) (fun v s₁ => wpAny (model X.prog X.w) X.A (eval b X.env) (fun u s₂ => wpAny (model X.prog X.w) X.A (f v u) Q X.xe s₂) X.xe s₁) X.xe s := by
  refine thn (ha pins s σ H _ I h) fun v s1 ⟨x, H1, I1, r1, q1⟩ => ?_
  refine thn (hb pins s1 σ H1 _ I1 q1) fun u s2 ⟨y, H2, I2, r2, q2⟩ => ?_
  exact hf v u s2 x y H2 I2 r1 r2 q2

theorem pe_op {op : Operator} {r : R2} (ho : OpR X (binaryOp op) r) (ha : PE X a ta) (hb : PE X b tb) : PE X (.BinOp a op b pos) (tOp r ta tb) := by
  intro pins s σ H Q I h
  exact wpAny_BinOp (binT ha hb I h fun v u s2 x y H2 I2 rx ry q => ho pins s2 σ H2 x y v u Q I2 rx ry q)
theorem opI {f : Value → Value → Sem Value} {C : Int → Int → Prop} {g : Int → Int → Int}
    (rule : ∀ (i j : Int) (t u : Tok) (s : Shared) (Q : Value → Shared → Prop) (E : Value → Shared → Prop), C i j → Q (.int (g i j) s.toks) { s with toks := s.toks + 1 } → wpAny (model X.prog X.w) X.A (f (.int i t) (.int j u)) Q E s) :
    OpR X f (rI C fun i j => .int (g i j)) := by
  intro pins s σ H x y v u Q I rx ry h
  obtain ⟨i, j, rfl, rfl, hc, q⟩ := h
  obtain ⟨t, rfl⟩ := rx
  obtain ⟨t', rfl⟩ := ry
  exact rule i j t t' s _ _ hc ⟨.int (g i j), H, I.tok _, ⟨_, rfl⟩, q⟩
theorem opI0 {f : Value → Value → Sem Value} {g : Int → Int → Int}
    (rule : ∀ (i j : Int) (t u : Tok) (s : Shared) (Q : Value → Shared → Prop) (E : Value → Shared → Prop), Q (.int (g i j) s.toks) { s with toks := s.toks + 1 } → wpAny (model X.prog X.w) X.A (f (.int i t) (.int j u)) Q E s) :
    OpR X f (rI0 fun i j => .int (g i j)) := by
  intro pins s σ H x y v u Q I rx ry h
  obtain ⟨i, j, rfl, rfl, q⟩ := h
  obtain ⟨t, rfl⟩ := rx
  obtain ⟨t', rfl⟩ := ry
  exact rule i j t t' s _ _ ⟨.int (g i j), H, I.tok _, ⟨_, rfl⟩, q⟩
theorem opB0 {f : Value → Value → Sem Value} {g : Int → Int → Bool}
    (rule : ∀ (i j : Int) (t u : Tok) (s : Shared) (Q : Value → Shared → Prop) (E : Value → Shared → Prop), Q (.bool (g i j)) s → wpAny (model X.prog X.w) X.A (f (.int i t) (.int j u)) Q E s) :
    OpR X f (rI0 fun i j => .bl (g i j)) := by
  intro pins s σ H x y v u Q I rx ry h
  obtain ⟨i, j, rfl, rfl, q⟩ := h
  obtain ⟨t, rfl⟩ := rx
  obtain ⟨t', rfl⟩ := ry
  exact rule i j t t' s _ _ ⟨.bl (g i j), H, I, rfl, q⟩

noncomputable def CDiv (i j : Int) : Prop := 0 < j ∧ j < 1073741824
noncomputable def CMul (i j : Int) : Prop := (-(2 ^ 64) < i ∧ i < 2 ^ 64) ∨ (-(2 ^ 64) < j ∧ j < 2 ^ 64)
theorem CMul.ok {i j : Int} (h : CMul i j) : IntMulOk i j := by
  rcases h with ⟨h1, h2⟩ | ⟨h1, h2⟩
  · exact .of_left (intBits_le_64 h1 h2)
  · exact .of_right (intBits_le_64 h1 h2)
theorem op_add : OpR X (binaryOp .Add) (rI0 fun i j => .int (i + j)) := opI0 fun _ _ _ _ _ _ _ q => add_int q
theorem op_sub : OpR X (binaryOp .Sub) (rI0 fun i j => .int (i - j)) := opI0 fun _ _ _ _ _ _ _ q => sub_int q
theorem op_mul : OpR X (binaryOp .Mult) (rI CMul fun i j => .int (i * j)) := opI fun _ _ _ _ _ _ _ hc q => mul_int q hc.ok
theorem op_fdiv : OpR X (binaryOp .FloorDiv) (rI CDiv fun i j => .int (i / j)) := opI fun i j _ _ _ _ _ hc q => by
  have h1 : (0 : Int) < j := hc.1
  have h2 : j < 1073741824 := hc.2
  exact floordiv_int (by omega) (by rw [Int.fdiv_eq_ediv_of_nonneg i (by omega)]; exact q) (.inl (PyProof.noPylong_small (by omega)))
theorem op_mod : OpR X (binaryOp .Mod) (rI (fun _ j => 0 < j) fun i j => .int (i % j)) := opI fun i j _ _ _ _ _ hc q => by
  have h1 : (0 : Int) < j := hc
  exact mod_int' (by omega) (by rw [Int.fmod_eq_emod_of_nonneg i (by omega)]; exact q)
end

noncomputable def scal : V → V → Bool
  | .non, .non => true | .non, .int _ => true | .int _, .non => true | .non, .bl _ => true | .bl _, .non => true | .non, .str _ => true | .str _, .non => true
  | .int _, .int _ => true | .bl _, .bl _ => true | .str _, .str _ => true | .byt _, .byt _ => true
  | .int _, .str _ => true | .str _, .int _ => true | .bl _, .str _ => true | .str _, .bl _ => true
  | _, _ => false
noncomputable def rEq : R2 := fun x y H Q => scal x y = true ∧ Q (.bl (decide (x = y))) H
noncomputable def rNe : R2 := fun x y H Q => scal x y = true ∧ Q (.bl (!decide (x = y))) H

theorem dec_int {i j : Int} : decide (V.int i = V.int j) = (i == j) := by
  rw [Bool.eq_iff_iff]
  simp
theorem dec_bl {i j : Bool} : decide (V.bl i = V.bl j) = (i == j) := by
  rw [Bool.eq_iff_iff]
  simp
theorem dec_str {i j : Str} : decide (V.str i = V.str j) = (i == j) := by
  rw [Bool.eq_iff_iff]
  simp
theorem dec_byt {i j : Array UInt8} : decide (V.byt i = V.byt j) = (i.toList == j.toList) := by
  rw [Bool.eq_iff_iff]
  cases i
  cases j
  simp

section
variable {X : Cx} {a b c : Expr} {ta tb tc : TE} {pos : Pos}
theorem fin_bl {pins : List (Addr × Obj)} {σ : St} {H : Hp} {s : Shared} {Q : VK} {k k' : Bool} (I : Inv X pins σ H s) (q : Q (.bl k) H) (e : k = k') : EP X pins σ Q (.bool k') s := by
  subst e
  exact ⟨.bl k, H, I, rfl, q⟩
theorem op_eq : OpR X (compareOp .Eq) rEq := by
  intro pins s σ H x y v u Q I rx ry h
  obtain ⟨hs, q⟩ := h
  cases x with
  | non =>
    cases rx
    cases y with
    | non => cases ry; exact PySem.EqNone.eq_none_none (fin_bl I q (by simp))
    | bl j => cases ry; exact PySem.EqNone.eq_none_bool (fin_bl I q (by simp))
    | int j => obtain ⟨t', rfl⟩ := ry; exact PySem.EqNone.eq_none_int (fin_bl I q (by simp))
    | str j => obtain ⟨t', rfl⟩ := ry; exact PySem.EqNone.eq_none_str (fin_bl I q (by simp))
    | _ => exact absurd (show false = true from hs) Bool.false_ne_true
  | bl i =>
    cases rx
    cases y with
    | non => cases ry; exact PySem.EqNone.eq_bool_none (fin_bl I q (by simp))
    | bl j => cases ry; exact eq_bool (fin_bl I q dec_bl)
    | str j => obtain ⟨t', rfl⟩ := ry; exact PySem.EqMixed.eq_bool_str (fin_bl I q (by simp))
    | _ => exact absurd (show false = true from hs) Bool.false_ne_true
  | int i =>
    obtain ⟨t, rfl⟩ := rx
    cases y with
    | non => cases ry; exact PySem.EqNone.eq_int_none (fin_bl I q (by simp))
    | int j => obtain ⟨t', rfl⟩ := ry; exact eq_int (fin_bl I q dec_int)
    | str j => obtain ⟨t', rfl⟩ := ry; exact PySem.EqMixed.eq_int_str (fin_bl I q (by simp))
    | _ => exact absurd (show false = true from hs) Bool.false_ne_true
  | str i =>
    obtain ⟨t, rfl⟩ := rx
    cases y with
    | non => cases ry; exact PySem.EqNone.eq_str_none (fin_bl I q (by simp))
    | bl j => cases ry; exact PySem.EqMixed.eq_str_bool (fin_bl I q (by simp))
    | int j => obtain ⟨t', rfl⟩ := ry; exact PySem.EqMixed.eq_str_int (fin_bl I q (by simp))
    | str j => obtain ⟨t', rfl⟩ := ry; exact eq_str (fin_bl I q dec_str)
    | _ => exact absurd (show false = true from hs) Bool.false_ne_true
  | byt i =>
    obtain ⟨t, rfl⟩ := rx
    cases y with
    | byt j => obtain ⟨t', rfl⟩ := ry; exact PySem.W.eq_bytes (fin_bl I q dec_byt)
    | _ => exact absurd (show false = true from hs) Bool.false_ne_true
  | _ => cases y <;> exact absurd (show false = true from hs) Bool.false_ne_true
theorem op_ne : OpR X (compareOp .NotEq) rNe := by
  intro pins s σ H x y v u Q I rx ry h
  obtain ⟨hs, q⟩ := h
  cases x with
  | non =>
    cases rx
    cases y with
    | non => cases ry; exact PySem.EqNone.ne_none_none (fin_bl I q (by simp))
    | bl j => cases ry; exact PySem.EqNone.ne_none_bool (fin_bl I q (by simp))
    | int j => obtain ⟨t', rfl⟩ := ry; exact PySem.EqNone.ne_none_int (fin_bl I q (by simp))
    | str j => obtain ⟨t', rfl⟩ := ry; exact PySem.EqNone.ne_none_str (fin_bl I q (by simp))
    | _ => exact absurd (show false = true from hs) Bool.false_ne_true
  | bl i =>
    cases rx
    cases y with
    | non => cases ry; exact PySem.EqNone.ne_bool_none (fin_bl I q (by simp))
    | bl j => cases ry; exact ne_bool (fin_bl I q (congrArg not dec_bl))
    | str j => obtain ⟨t', rfl⟩ := ry; exact PySem.EqMixed.ne_bool_str (fin_bl I q (by simp))
    | _ => exact absurd (show false = true from hs) Bool.false_ne_true
  | int i =>
    obtain ⟨t, rfl⟩ := rx
    cases y with
    | non => cases ry; exact PySem.EqNone.ne_int_none (fin_bl I q (by simp))
    | int j => obtain ⟨t', rfl⟩ := ry; exact ne_int (fin_bl I q (congrArg not dec_int))
    | str j => obtain ⟨t', rfl⟩ := ry; exact PySem.EqMixed.ne_int_str (fin_bl I q (by simp))
    | _ => exact absurd (show false = true from hs) Bool.false_ne_true
  | str i =>
    obtain ⟨t, rfl⟩ := rx
    cases y with
    | non => cases ry; exact PySem.EqNone.ne_str_none (fin_bl I q (by simp))
    | bl j => cases ry; exact PySem.EqMixed.ne_str_bool (fin_bl I q (by simp))
    | int j => obtain ⟨t', rfl⟩ := ry; exact PySem.EqMixed.ne_str_int (fin_bl I q (by simp))
    | str j => obtain ⟨t', rfl⟩ := ry; exact ne_str (fin_bl I q (congrArg not dec_str))
    | _ => exact absurd (show false = true from hs) Bool.false_ne_true
  | byt i =>
    obtain ⟨t, rfl⟩ := rx
    cases y with
    | byt j => obtain ⟨t', rfl⟩ := ry; exact PySem.W.ne_bytes (fin_bl I q (congrArg not dec_byt))
    | _ => exact absurd (show false = true from hs) Bool.false_ne_true
  | _ => cases y <;> exact absurd (show false = true from hs) Bool.false_ne_true

theorem op_lt : OpR X (compareOp .Lt) (rI0 fun i j => .bl (decide (i < j))) := opB0 fun _ _ _ _ _ _ _ q => lt_int q
theorem op_gt : OpR X (compareOp .Gt) (rI0 fun i j => .bl (decide (j < i))) := opB0 fun _ _ _ _ _ _ _ q => gt_int q
theorem op_notN : OpR X (compareOp .IsNot) (fun x y H Q => y = .non ∧ Q (.bl (!decide (x = .non))) H) := by
  intro pins s σ H x y v u Q I rx ry h
  obtain ⟨rfl, q⟩ := h
  cases ry
  refine isnot_none_gen (fin_bl I q ?_)
  cases x <;> first
    | (cases rx; rfl)
    | (obtain ⟨t, rfl⟩ := rx; rfl)

theorem OpR.or {f : Value → Value → Sem Value} {r r' : R2} (h : OpR X f r) (h' : OpR X f r') : OpR X f (fun x y H Q => r x y H Q ∨ r' x y H Q) := by
  intro pins s σ H x y v u Q I rx ry q
  rcases q with q | q
  · exact h pins s σ H x y v u Q I rx ry q
  · exact h' pins s σ H x y v u Q I rx ry q

theorem nomark (b : Expr) {op : CmpOp} (h : op ≠ .In := by decide) (h2 : op ≠ .NotIn := by decide) : behindInMarks op b = false := by
  have e1 : (op == CmpOp.In) = false := by cases op <;> first | rfl | exact absurd rfl h
  have e2 : (op == CmpOp.NotIn) = false := by cases op <;> first | rfl | exact absurd rfl h2
  cases b <;> simp [behindInMarks, e1, e2]
theorem pe_cmpR {op : CmpOp} {r : R2} (ho : OpR X (compareOp op) r) (ha : PE X a ta) (hb : PE X b tb) (hm : behindInMarks op b = false) : PE X (.Compare a [op] [b] pos) (tOp r ta tb) := by
  intro pins s σ H Q I h
  exact wpAny_Compare1 (binT ha hb I h fun v u s2 x y H2 I2 rx ry q => ho pins s2 σ H2 x y v u Q I2 rx ry q) hm
noncomputable def tTest (t : TE) : TT := fun σ H Q => t σ H fun x H' => ∃ k, x = .bl k ∧ Q k H'
theorem pt_cmpR {op : CmpOp} {r : R2} (ho : OpR X (compareOp op) r) (ha : PE X a ta) (hb : PE X b tb) (hm : behindInMarks op b = false) : PT X (.Compare a [op] [b] pos) (tTest (tOp r ta tb)) := by
  intro pins s σ H Q I h
  refine wpAny_isTrue_Compare1 (thn (ha pins s σ H _ I h) fun v s1 ⟨x, H1, I1, r1, q1⟩ => thn (hb pins s1 σ H1 _ I1 q1) fun u s2 ⟨y, H2, I2, r2, q2⟩ =>
    thn (ho pins s2 σ H2 x y v u _ I2 r1 r2 q2) fun c s3 ⟨z, H3, I3, r3, k, e, q3⟩ => ?_) hm
  subst e
  cases r3
  exact wpAny_truthy_bool ⟨H3, I3, q3⟩
noncomputable def TruV (K : PySem.W.Frag) (x : V) (H : Hp) (k : Bool) : Prop :=
  match x with
  | .non => k = false
  | .bl b => k = b
  | .int i => k = (i != 0)
  | .str y => y.length ≤ sizeLine ∧ k = ((y.length : Int) != 0)
  | .byt y => y.size ≤ sizeLine ∧ k = ((y.size : Int) != 0)
  | .ref p => (∃ xs, SqL K H p xs ∧ k = !xs.isEmpty) ∨ (∃ xs, SqT K H p xs ∧ k = !xs.isEmpty) ∨ ∃ kvs, H p = some (.dK kvs) ∧ k = !kvs.isEmpty
  | _ => False
theorem isEmpty_kv {κ : Type} {kvs : List (κ × V)} {vs : List (κ × Value)} (r : KV kvs vs) : (!vs.isEmpty) = !kvs.isEmpty := by
  cases r <;> rfl
theorem isEmpty_of {xs : List V} {its : List Value} (r : Vals xs its) : (!its.toArray.isEmpty) = !xs.isEmpty := by
  cases r <;> simp
theorem line63 : (sizeLine : Nat) < 2 ^ 63 := by rw [sizeLine_eq]; decide
theorem tru_ok : TruR X (fun x H Q => ∃ k, TruV X.K x H k ∧ Q k H) := by
  intro pins s σ H x v Q I rx h
  obtain ⟨k, e, q⟩ := h
  have hl := line63
  have hs : sizeLine = 16777216 := sizeLine_eq
  cases x with
  | non =>
    cases rx
    have e' : k = false := e
    subst e'
    exact truthy_none ⟨H, I, q⟩
  | bl b =>
    cases rx
    have e' : k = b := e
    subst e'
    exact wpAny_truthy_bool ⟨H, I, q⟩
  | int i =>
    obtain ⟨t, rfl⟩ := rx
    have e' : k = (i != 0) := e
    subst e'
    exact PySem.P.truthy_int ⟨H, I, q⟩
  | str y =>
    obtain ⟨t, rfl⟩ := rx
    obtain ⟨hy, e'⟩ : y.length ≤ sizeLine ∧ k = ((y.length : Int) != 0) := e
    subst e'
    exact PySem.P.truthy_str (by omega) ⟨H, I.tok _, q⟩
  | byt y =>
    obtain ⟨t, rfl⟩ := rx
    obtain ⟨hy, e'⟩ : y.size ≤ sizeLine ∧ k = ((y.size : Int) != 0) := e
    subst e'
    exact PySem.W.truthy_bytes (by omega) ⟨H, I.tok _, q⟩
  | ref p =>
    cases rx
    have e' : (∃ xs, SqL X.K H p xs ∧ k = !xs.isEmpty) ∨ (∃ xs, SqT X.K H p xs ∧ k = !xs.isEmpty) ∨ ∃ kvs, H p = some (.dK kvs) ∧ k = !kvs.isEmpty := e
    rcases e' with ⟨xs, hx, e'⟩ | ⟨xs, hx, e'⟩ | ⟨kvs, hx, e'⟩
    · subst e'
      obtain ⟨its, r, pl, hz⟩ := I.list hx
      have hlen := r.length
      exact wpAny_truthy_list pl.isList (by simp only [List.size_toArray]; omega) ⟨H, I.tok _, by rw [isEmpty_of r]; exact q⟩
    · subst e'
      obtain ⟨its, r, pl, hz⟩ := I.tuple hx
      have hlen := r.length
      exact truthy_tuple pl (by simp only [List.size_toArray]; omega) ⟨H, I.tok _, by rw [isEmpty_of r]; exact q⟩
    · subst e'
      obtain ⟨hz, hS, vs, r, m⟩ : kvs.length ≤ sizeLine ∧ (p == sysModules) = false ∧ ∃ vs, KV kvs vs ∧ s.heap.DictOf (mixKind X.prog X.w) p vs := I.hok p _ hx
      have hlen : kvs.length = vs.length := Paired.length r
      exact wpAny_truthy_dict hS m (by omega) ⟨H, I.tok _, by rw [isEmpty_kv r]; exact q⟩
  | _ => exact (show False from e).elim
theorem pt_truth (ha : PE X a ta) (he : ∀ whole, isTrue a X.env whole = (do let v ← whole; standAt a.pos; holding [v] (truthy v))) :
    PT X a (fun σ H Q => ta σ H fun x H' => ∃ k, TruV X.K x H' k ∧ Q k H') := by
  intro pins s σ H Q I h
  exact isTrue_plain (thn (ha pins s σ H _ I h) fun v s1 ⟨x, H1, I1, r1, q1⟩ => tru_ok pins s1 σ H1 x v Q I1 r1 q1) (he _)

theorem op_add_str : OpR X (binaryOp .Add) (fun x y H Q => ∃ i j, x = .str i ∧ y = .str j ∧ i.length + j.length ≤ sizeLine ∧ Q (.str (i ++ j)) H) := by
  intro pins s σ H x y v u Q I rx ry h
  obtain ⟨i, j, rfl, rfl, hz, q⟩ := h
  obtain ⟨t, rfl⟩ := rx
  obtain ⟨t', rfl⟩ := ry
  exact add_str (fun t' tk => ⟨.str (i ++ j), H, I.tok _, ⟨_, rfl⟩, q⟩) hz
theorem vals1 {x : V} {us : List Value} (r : Vals [x] us) : ∃ u, us = [u] ∧ RelV x u := by
  cases r with
  | cons r1 r2 => cases r2; exact ⟨_, rfl, r1⟩
theorem vals2 {x y : V} {us : List Value} (r : Vals [x, y] us) : ∃ u w', us = [u, w'] ∧ RelV x u ∧ RelV y w' := by
  cases r with
  | cons r1 r2 =>
    cases r2 with
    | cons r3 r4 => cases r4; exact ⟨_, _, rfl, r1, r3⟩
theorem call_int1 : CallR X (.type "int") (fun xs H Q => (∃ i, xs = [.int i] ∧ Q (.int i) H) ∨ ∃ k, xs = [.bl k] ∧ Q (.int (if k then 1 else 0)) H) := by
  intro pins s σ H xs us Q I r h
  rcases h with ⟨i, rfl, q⟩ | ⟨k, rfl, q⟩
  · obtain ⟨u, rfl, t, rfl⟩ := vals1 r
    exact call_int_int ⟨.int i, H, I, ⟨_, rfl⟩, q⟩
  · obtain ⟨u, rfl, r1⟩ := vals1 r
    cases r1
    exact call_int_bool ⟨.int (if k then 1 else 0), H, I.tok _, ⟨_, rfl⟩, q⟩
noncomputable def LenV (K : PySem.W.Frag) (x : V) (H : Hp) (n : Nat) : Prop :=
  match x with
  | .str y => y.length ≤ sizeLine ∧ n = y.length
  | .byt y => y.size ≤ sizeLine ∧ n = y.size
  | .ref p => (∃ xs, SqL K H p xs ∧ n = xs.length) ∨ ∃ xs, SqT K H p xs ∧ n = xs.length
  | _ => False
theorem call_len : CallR X (.builtin "len") (fun xs H Q => ∃ x n, xs = [x] ∧ LenV X.K x H n ∧ Q (.int n) H) := by
  intro pins s σ H xs us Q I r h
  obtain ⟨x, n, rfl, e, q⟩ := h
  obtain ⟨u, rfl, rx⟩ := vals1 r
  have hl := line63
  have hs : sizeLine = 16777216 := sizeLine_eq
  cases x with
  | str y =>
    obtain ⟨t, rfl⟩ := rx
    obtain ⟨hy, e'⟩ : y.length ≤ sizeLine ∧ n = y.length := e
    subst e'
    exact len_str (by omega) ⟨.int _, H, I.tok _, ⟨_, rfl⟩, q⟩
  | byt y =>
    obtain ⟨t, rfl⟩ := rx
    obtain ⟨hy, e'⟩ : y.size ≤ sizeLine ∧ n = y.size := e
    subst e'
    exact PySem.W.len_bytes (by omega) ⟨.int _, H, I.tok _, ⟨_, rfl⟩, q⟩
  | ref p =>
    cases rx
    have e' : (∃ xs, SqL X.K H p xs ∧ n = xs.length) ∨ ∃ xs, SqT X.K H p xs ∧ n = xs.length := e
    rcases e' with ⟨xs, hx, e'⟩ | ⟨xs, hx, e'⟩
    · subst e'
      obtain ⟨its, r', pl, hz⟩ := I.list hx
      have hlen := r'.length
      exact Calls.call_len_list pl.isList (by simp only [List.size_toArray]; omega) ⟨.int xs.length, H, I.tok _, ⟨_, by simp only [List.size_toArray]; rw [hlen]⟩, q⟩
    · subst e'
      obtain ⟨its, r', pl, hz⟩ := I.tuple hx
      have hlen := r'.length
      exact len_tuple pl (by simp only [List.size_toArray]; omega) ⟨.int xs.length, H, I.tok _, ⟨_, by simp only [List.size_toArray]; rw [hlen]⟩, q⟩
  | _ => exact (show False from e).elim
end
end L2

namespace L2
open PySem PySem.Spec PyProof.Rows

structure ObjM (h : Heap) (x dx C : Addr) (mA : Str → Option Value) : Prop where
  obj : h.get? x = some (PySem.W.instObj C dx)
  ns : h.Ns1 dx mA
  ne : dx ≠ x

theorem lookIn_ns {h : Heap} {dx : Addr} {mA : Str → Option Value} (n : h.Ns1 dx mA) : ∃ od, h.get? dx = some od ∧ ∀ name, PySem.W.lookIn name od = some (mA name) := by
  obtain ⟨o, es, ep, ho, hd, hk, _, hm⟩ := n
  refine ⟨o, ho, fun name => ?_⟩
  have e := hm name
  unfold nsFind findBy at e
  rw [← Array.find?_toList] at e
  unfold PySem.W.lookIn
  rw [hd]
  dsimp only
  split
  · rename_i y q
    rw [q] at e
    exact congrArg some e
  · rename_i q
    rw [q] at e
    have a : es.toList.any (·.refKey) = false := by
      rw [List.any_eq_false]
      intro y hy
      obtain ⟨z, t, hkey⟩ := hk y (Array.mem_toList_iff.mp hy)
      simp [DictEntry.refKey, hkey]
    have a' : ¬ es.toList.any (·.refKey) = true := by rw [a]; exact Bool.false_ne_true
    rw [if_neg a']
    exact congrArg some e

theorem ObjM.look {h : Heap} {x dx C : Addr} {mA : Str → Option Value} (I : ObjM h x dx C mA) : ∃ od, PySem.W.InstAt h x (PySem.W.instObj C dx) C (some od) ∧ ∀ name, PySem.W.lookIn name od = some (mA name) :=
  let ⟨od, ho, hl⟩ := lookIn_ns I.ns
  ⟨od, ⟨I.obj, rfl, rfl, ho⟩, hl⟩

section
variable {prog : Program} {w : World} {A : Around} {E : Value → Shared → Prop} {s : Shared} {K : PySem.W.Frag} {x dx C f : Addr} {mA : Str → Option Value} {name : Str} {v : Value}

theorem get_map {expr : Bool} {Q : Value → Shared → Prop} (X : K.In s.heap) (I : ObjM s.heap x dx C mA) (hg : PySem.W.plainGet K C name = true) (hh : PySem.W.hasDictIn K C = true)
    (ha : PySem.W.findIn K (.ref C) name = some none) (hv : mA name = some v) (hv' : PySem.W.handedIn v = true) (h : Q v { s with toks := s.toks + 1 }) :
    wpAny (model prog w) A (getAttr (.ref x) name expr) Q E s := by
  obtain ⟨od, J, hl⟩ := I.look
  exact PySem.W.get_value X J (PySem.W.plainGet_of hg).1 (PySem.W.findObj_own hh ha rfl (by rw [hl, hv])) hv' h

theorem get_meth {pl : Sem Bool} {Q : Value × List Value → Shared → Prop} (X : K.In s.heap) (I : ObjM s.heap x dx C mA) (hg : PySem.W.plainGet K C name = true)
    (hf : PySem.W.findIn K (.ref C) name = some (some (.ref f))) (ht : PySem.W.isFn K (.ref f) = true) (hv : mA name = none) (h : Q (.ref f, [.ref x]) s) :
    wpAny (model prog w) A (getMethod (.ref x) name pl) Q E s := by
  obtain ⟨od, J, hl⟩ := I.look
  exact PySem.W.method_fn X J (PySem.W.plainGet_of hg).1 (PySem.W.plainGet_of hg).2 hf (beq_iff_eq.mp ht) (by show (PySem.W.lookIn name od).map (·.isSome) = some false; rw [hl, hv]; rfl) h

theorem set_map {ns : List Str} {Q : Unit → Shared → Prop} (X : K.In s.heap) (I : ObjM s.heap x dx C mA)
    (hs : PySem.W.findIn K (.ref C) "__setattr__" = some (some (.builtin "object.__setattr__"))) (hp : PySem.W.plainOver K C = true) (ht : PySem.W.takerIn K C name = some none) (hh : PySem.W.hasDictIn K C = true)
    (hw : PySem.Within mA ns) (hsz : ns.length ≤ sizeLine)
    (h : ∀ h', ObjM h' x dx C (fun y => if y = name then some v else mA y) → Heap.SameBut dx s.heap h' → Q () { s with heap := h', toks := s.toks + 2 }) :
    wpAny (model prog w) A (setAttr (.ref x) name v) Q E s := by
  obtain ⟨od, J, hl⟩ := I.look
  refine PySem.W.set_plain X J hs (PySem.W.osa_open (s := { s with toks := s.toks + 1 }) (r := none) X J hp ht fun b => ?_)
  obtain ⟨cd, hc, hd'⟩ := PySem.W.any_some hh
  have hx : s.heap.get? x = some ⟨.ref C, some dx, .plain, #[]⟩ := I.obj
  refine wpAny_bind (wpAny_pure (wpAny_bind (wpAny_bind (wpAny_loadPart hx (wpAny_bind (PySem.W.Looks.here (s := { s with toks := s.toks + 1 }) (PySem.W.looks_clsIn X hc) ?_))))))
  rw [hd']
  refine wpAny_pure (a := some dx) (wpAny_bind (wpAny_pure (wpAny_bind ?_)))
  refine wpAny_nsSet1 (s := { s with toks := s.toks + 1 }) I.ns fun h' hn2 hs2 => ?_
  obtain ⟨oD, esD, epD, hoD, hdD, hcD⟩ := hn2.count (PySem.Within.cons name v hw)
  refine wpAny_bind (wpAny_lookBehind hoD (by rw [hdD]; exact pastItsLine_dict (Nat.le_trans hcD (by rw [List.length_cons]; omega))) ?_)
  exact wpAny_pure (h _ ⟨(hs2.2 _ (Ne.symm I.ne)).trans I.obj, hn2, I.ne⟩ hs2)

theorem make_map {R : Result → Shared → Prop} {vs : List Value} {kw : List (Str × Value)} (X : K.In s.heap) (hm : PySem.W.makesIn K C = true)
    (hi : PySem.W.findIn K (.ref C) "__init__" = some (some (.ref f))) (hf : PySem.W.typeIn K (.ref f) = some (.type "function"))
    (h : codeAny (model prog w) (A.under (.builtin "type.__call__" ⟨.ref C :: vs, kw⟩)) (.call (.ref f) ⟨.ref (s.heap.objs.size + 1) :: vs, kw⟩) (PySem.W.InitBack (s.heap.objs.size + 1) R)
      { s with heap := (s.heap.push PySem.W.emptyDict).push (PySem.W.instObj C s.heap.objs.size) }) :
    codeAny (model prog w) A (.call (.ref C) ⟨vs, kw⟩) R s := by
  obtain ⟨hh, g, d, t, os⟩ := s
  exact PySem.W.make_core (PySem.W.makes_of X hm) (PySem.W.looks_findIn X hi) (fun self => PySem.W.bind_fn X self hf) (.inl rfl) h
end

noncomputable def putF (f : Str) (v : V) : List (Str × V) → List (Str × V)
  | [] => [(f, v)]
  | (g, x) :: r => if g = f then (g, v) :: r else (g, x) :: putF f v r
theorem lookup_putF (f g : Str) (v : V) : ∀ fs : List (Str × V), (putF f v fs).lookup g = if g = f then some v else fs.lookup g
  | [] => by
    show List.lookup g [(f, v)] = _
    by_cases h : g = f
    · have hb : (g == f) = true := beq_iff_eq.mpr h
      simp only [List.lookup, hb, if_pos h]
    · have hb : (g == f) = false := beq_eq_false_iff_ne.mpr h
      simp only [List.lookup, hb, if_neg h]
  | (k, x) :: r => by
    have ih := lookup_putF f g v r
    rw [show putF f v ((k, x) :: r) = (if k = f then (k, v) :: r else (k, x) :: putF f v r) from rfl]
    by_cases hk : k = f
    · rw [if_pos hk]
      by_cases h : g = k
      · have hb : (g == k) = true := beq_iff_eq.mpr h
        simp only [List.lookup, hb, if_pos (h.trans hk)]
      · have hb : (g == k) = false := beq_eq_false_iff_ne.mpr h
        simp only [List.lookup, hb, if_neg (fun e : g = f => h (e.trans hk.symm))]
    · rw [if_neg hk]
      by_cases h : g = k
      · have hb : (g == k) = true := beq_iff_eq.mpr h
        simp only [List.lookup, hb, if_neg (fun e : g = f => hk (h.symm.trans e))]
      · have hb : (g == k) = false := beq_eq_false_iff_ne.mpr h
        simp only [List.lookup, hb]
        exact ih
theorem keys_putF (f : Str) (v : V) : ∀ fs : List (Str × V), f ∈ (putF f v fs).map (·.1) ∧ ∀ g, g ∈ fs.map (·.1) → g ∈ (putF f v fs).map (·.1)
  | [] => ⟨by simp [putF], fun g h => by simp at h⟩
  | (k, x) :: r => by
    obtain ⟨i1, i2⟩ := keys_putF f v r
    rw [show putF f v ((k, x) :: r) = (if k = f then (k, v) :: r else (k, x) :: putF f v r) from rfl]
    by_cases hk : k = f
    · rw [if_pos hk]
      subst hk
      exact ⟨by simp, fun g h => by simpa using h⟩
    · rw [if_neg hk]
      refine ⟨?_, fun g h => ?_⟩
      · rw [List.map_cons]
        exact List.mem_cons_of_mem _ i1
      · rw [List.map_cons] at h ⊢
        rcases List.mem_cons.mp h with e | e
        · exact List.mem_cons.mpr (.inl e)
        · exact List.mem_cons_of_mem _ (i2 g e)
theorem length_putF (f : Str) (v : V) : ∀ fs : List (Str × V), (putF f v fs).length ≤ fs.length + 1
  | [] => by simp [putF]
  | (k, x) :: r => by
    have ih := length_putF f v r
    rw [show putF f v ((k, x) :: r) = (if k = f then (k, v) :: r else (k, x) :: putF f v r) from rfl]
    by_cases hk : k = f
    · rw [if_pos hk, List.length_cons, List.length_cons]; omega
    · rw [if_neg hk, List.length_cons, List.length_cons]; omega

theorem RelO.some_of {v : V} {o : Option Value} (r : RelO (some v) o) : ∃ u, o = some u ∧ RelV v u := by
  cases o with
  | none => exact (show False from r).elim
  | some u => exact ⟨u, rfl, r⟩
theorem RelO.none_of {o : Option Value} (r : RelO none o) : o = none := by
  cases o with
  | none => rfl
  | some u => exact (show False from r).elim
theorem handed_of {v : V} {u : Value} (r : RelV v u) : PySem.W.handedIn u = true := by
  cases v with
  | non => cases (show u = Value.none from r); rfl
  | bl b => cases (show u = Value.bool b from r); rfl
  | int i => obtain ⟨t, e⟩ := (show ∃ t, u = Value.int i t from r); cases e; rfl
  | str x => obtain ⟨t, e⟩ := (show ∃ t, u = Value.str x t from r); cases e; rfl
  | byt b => obtain ⟨t, e⟩ := (show ∃ t, u = Value.bytes b t from r); cases e; rfl
  | flt b => obtain ⟨t, e⟩ := (show ∃ t, u = Value.float b t from r); cases e; rfl
  | ref a => cases (show u = Value.ref a from r); rfl
  | ty n => cases (show u = Value.type n from r); rfl

section
variable {P : Program} {w : World} {H H' : Hp} {h h' : Heap} {a C dx : Addr} {fs fs' : List (Str × V)}
theorem ins_get (hok : HOk P w H h) (e : H a = some (.ins C dx fs)) : ∃ mA, ObjM h a dx C mA ∧ (∀ f, RelO (fs.lookup f) (mA f)) ∧ PySem.Within mA (fs.map (·.1)) ∧ fs.length ≤ 1000 ∧ H dx = some (.own a) := by
  obtain ⟨d, z, ne, ob, mA, n, r, q⟩ := (show ObjOk P w H h a (.ins C dx fs) from hok a _ e)
  exact ⟨mA, ⟨ob, n, ne⟩, r, q, z, d⟩
end

structure Cls (K : PySem.W.Frag) (C : Addr) : Prop where
  pg : PySem.W.plainGet K C Str.empty = true
  hd : PySem.W.hasDictIn K C = true
  po : PySem.W.plainOver K C = true
  sa : PySem.W.findIn K (.ref C) "__setattr__" = some (some (.builtin "object.__setattr__"))
theorem Cls.get {K : PySem.W.Frag} {C : Addr} (c : Cls K C) (f : Str) : PySem.W.plainGet K C f = true := c.pg
noncomputable def NoAttr (K : PySem.W.Frag) (C : Addr) (f : Str) : Prop := PySem.W.findIn K (.ref C) f = some none
theorem NoAttr.taker {K : PySem.W.Frag} {C : Addr} {f : Str} (n : NoAttr K C f) : PySem.W.takerIn K C f = some none := by
  unfold PySem.W.takerIn
  rw [show PySem.W.findIn K (.ref C) f = some none from n]
  rfl
structure Con (K : PySem.W.Frag) (C : Addr) (f : Str) (v : V) (u : Value) : Prop where
  at_ : PySem.W.findIn K (.ref C) f = some (some u)
  rel : RelV v u
  get : PySem.W.specialIn K u "__get__" = some none
  cp : PySem.W.copiedNames.contains f = false
structure Meth (K : PySem.W.Frag) (C : Addr) (m : Str) (f : Addr) : Prop where
  at_ : PySem.W.findIn K (.ref C) m = some (some (.ref f))
  fn : PySem.W.isFn K (.ref f) = true
  kp : PySem.W.keepIn K (.ref f) = true

section
variable {X : Cx} {pins : List (Addr × Obj)} {σ : St} {H : Hp} {s : Shared} {a C dx : Addr} {fs : List (Str × V)} {f : Str} {v : V} {A : Around} {E : Value → Shared → Prop}

theorem getattr_ok {b : Bool} {Q : Value → Shared → Prop} (I : Inv X pins σ H s) (e : H a = some (.ins C dx fs)) (c : Cls X.K C) (n : NoAttr X.K C f) (l : fs.lookup f = some v)
    (h : ∀ u s', Inv X pins σ H s' → RelV v u → Q u s') : wpAny (model X.prog X.w) A (getAttr (.ref a) f b) Q E s := by
  obtain ⟨mA, O, r, _, _, _⟩ := ins_get I.hok e
  obtain ⟨u, hu, ru⟩ := RelO.some_of (v := v) (o := mA f) (by rw [← l]; exact r f)
  exact get_map I.kIn O (c.get f) c.hd n hu (handed_of ru) (h u _ (I.tok _) ru)

theorem getmeth_ok {m : Str} {g : Addr} {pl : Sem Bool} {Q : Value × List Value → Shared → Prop} (I : Inv X pins σ H s) (e : H a = some (.ins C dx fs)) (c : Cls X.K C) (k : Meth X.K C m g) (l : fs.lookup m = none)
    (h : Q (.ref g, [.ref a]) s) : wpAny (model X.prog X.w) A (getMethod (.ref a) m pl) Q E s := by
  obtain ⟨mA, O, r, _, _, _⟩ := ins_get I.hok e
  have hn : mA m = none := RelO.none_of (by rw [← l]; exact r m)
  exact get_meth I.kIn O (c.get m) k.at_ k.fn hn h

theorem setattr_ok {y : V} {u : Value} {Q : Unit → Shared → Prop} (I : Inv X pins σ H s) (e : H a = some (.ins C dx fs)) (c : Cls X.K C) (n : NoAttr X.K C f) (hl : fs.length < 1000) (ry : RelV y u)
    (h : ∀ s', Inv X pins σ (upd H a (.ins C dx (putF f y fs))) s' → Q () s') : wpAny (model X.prog X.w) A (setAttr (.ref a) f u) Q E s := by
  obtain ⟨mA, O, r, wi, _, ho⟩ := ins_get I.hok e
  have hz : (fs.map (·.1)).length ≤ sizeLine := by rw [List.length_map, sizeLine_eq]; omega
  refine set_map I.kIn O c.sa c.po n.taker c.hd wi hz fun h' O' sb => h _ ?_
  have hd : ∃ o, h'.get? dx = some o := let ⟨o, _, _, e', _⟩ := O'.ns; ⟨o, e'⟩
  refine I.write (x := a) (e := dx) (by rw [e]; exact True.intro) (.inr ho) (fun b q hb z => (sb.2 b hb).trans z) hd ?_
  refine ⟨by rw [upd_ne O.ne]; exact ho, ?_, O.ne, O'.obj, _, O'.ns, fun g => ?_, fun g hg => ?_⟩
  · have := length_putF f y fs; omega
  · show RelO ((putF f y fs).lookup g) (if g = f then some u else mA g)
    rw [lookup_putF]
    by_cases q : g = f
    · rw [if_pos q, if_pos q]; exact ry
    · rw [if_neg q, if_neg q]; exact r g
  · by_cases q : g = f
    · rw [q]; exact (keys_putF f y fs).1
    · refine (keys_putF f y fs).2 g (wi g fun z => hg ?_)
      show (if g = f then some u else mA g) = none
      rw [if_neg q]; exact z

theorem Inv.made (I : Inv X pins σ H s) : Inv X pins σ (upd (upd H s.heap.objs.size (.own (s.heap.objs.size + 1))) (s.heap.objs.size + 1) (.ins C s.heap.objs.size []))
    { s with heap := (s.heap.push PySem.W.emptyDict).push (PySem.W.instObj C s.heap.objs.size) } := by
  have e1 : (s.heap.push PySem.W.emptyDict).get? s.heap.objs.size = some PySem.W.emptyDict := Heap.get?_push_size s.heap rfl
  have e2 : ((s.heap.push PySem.W.emptyDict).push (PySem.W.instObj C s.heap.objs.size)).get? (s.heap.objs.size + 1) = some (PySem.W.instObj C s.heap.objs.size) := by
    have := Heap.get?_push_size (s.heap.push PySem.W.emptyDict) (o := PySem.W.instObj C s.heap.objs.size) rfl
    rwa [Heap.size_push] at this
  have e3 : (s.heap.push PySem.W.emptyDict).Ns s.heap.objs.size (fun _ => none) := ⟨PySem.W.emptyDict, #[], _, e1, rfl, (fun e he => absurd he (by simp)), fun _ => rfl⟩
  have I1 := I.laid (a := s.heap.objs.size) (o := .own (s.heap.objs.size + 1)) (h' := s.heap.push PySem.W.emptyDict) (t' := s.toks) (fun b u q => Heap.get?_push_of_some _ q) (Nat.le_refl _) ⟨_, e1⟩
  refine I1.laid (a := s.heap.objs.size + 1) (o := .ins C s.heap.objs.size []) (t' := s.toks) (fun b u q => Heap.get?_push_of_some _ q) (Nat.le_of_eq (Heap.size_push _ _)) ?_
  have ne : s.heap.objs.size ≠ s.heap.objs.size + 1 := Nat.ne_of_lt (Nat.lt_succ_self _)
  refine ⟨by rw [upd_ne ne, upd_same], Nat.zero_le _, ne, e2, fun _ => none, (Heap.Ns1.of_empty e3).at fun o q => Heap.get?_push_of_some _ q, fun _ => True.intro, fun y hy => absurd rfl hy⟩

theorem attr_of {prog : Program} {w : World} {env : Env} {e : Expr} {f : Str} {pos : Pos} {s : Shared} {Q : Value → Shared → Prop} (hb : attributeBase e f env (eval e env) = eval e env)
    (h : wpAny (model prog w) A (eval e env) (fun o s₁ => wpAny (model prog w) A (getAttr o f true) Q E s₁) E s) : wpAny (model prog w) A (eval (.Attribute e f pos) env) Q E s :=
  Attribute_any_ h (by rw [arm_eval_Attribute, hb])
end

noncomputable def tFld (K : PySem.W.Frag) (ta : TE) (f : Str) : TE := fun σ H Q => ta σ H fun x H1 => ∃ a C dx fs v, x = .ref a ∧ H1 a = some (.ins C dx fs) ∧ Cls K C ∧ NoAttr K C f ∧ fs.lookup f = some v ∧ Q v H1
noncomputable def sFld (K : PySem.W.Frag) (ta tv : TE) (f : Str) : TS := fun D σ H => tv σ H fun y H1 => ta σ H1 fun x H2 => ∃ a C dx fs, x = .ref a ∧ H2 a = some (.ins C dx fs) ∧ Cls K C ∧ NoAttr K C f ∧ fs.length < 1000 ∧
  D.nx σ (upd H2 a (.ins C dx (putF f y fs)))
noncomputable def InOp (X : Cx) (op : Operator) (rd : V → V → Hp → VK → Prop) : Prop :=
  ∀ (pins : List (Addr × Obj)) (s : Shared) (σ : St) (H : Hp) (x y : V) (u v : Value) (Q : VK), Inv X pins σ H s → RelV x u → RelV y v → rd x y H Q → wpAny (model X.prog X.w) X.A (inplaceOp op u v) (EP X pins σ Q) X.xe s
noncomputable def sFldAug (K : PySem.W.Frag) (ta tv : TE) (rd : V → V → Hp → VK → Prop) (f : Str) : TS := fun D σ H => ta σ H fun x H1 => ∃ a C dx fs v, x = .ref a ∧ H1 a = some (.ins C dx fs) ∧ Cls K C ∧ NoAttr K C f ∧ fs.lookup f = some v ∧
  tv σ H1 fun y H2 => rd v y H2 fun z H3 => ∃ dx' fs', H3 a = some (.ins C dx' fs') ∧ fs'.length < 1000 ∧ D.nx σ (upd H3 a (.ins C dx' (putF f z fs')))

section
variable {X : Cx} {o e value : Expr} {f : Str} {pos pos' tpos : Pos} {ta tv : TE}
theorem pe_fld (he : PE X e ta) (hb : attributeBase e f X.env (eval e X.env) = eval e X.env) : PE X (.Attribute e f pos) (tFld X.K ta f) := by
  intro pins s σ H Q I h
  refine attr_of hb (thn (he pins s σ H _ I h) fun u s1 ⟨x, H1, I1, rx, a, C, dx, fs, v, ex, ea, c, n, l, q⟩ => ?_)
  subst ex
  obtain rfl : u = Value.ref a := rx
  exact getattr_ok I1 ea c n l fun u' s2 I2 ru => ⟨v, H1, I2, ru, q⟩
theorem ps_fld (ha : PE X o ta) (hv : PE X value tv) (hs : swapsWith value (some (.Attribute o f pos')) pos.line X.env = pure false) : PS X (.Assign [.Attribute o f pos'] value pos) (sFld X.K ta tv f) := by
  intro pins s σ H D I h
  refine plainObj_wpAny_Assign_Attribute (thn (hv pins s σ H _ I h) fun u s1 ⟨y, H1, I1, ry, q⟩ => thn (ha pins s1 σ H1 _ I1 q) fun ov s2 ⟨x, H2, I2, rx, a, C, dx, fs, ex, ea, c, n, l, q2⟩ => ?_) hs
  subst ex
  obtain rfl : ov = Value.ref a := rx
  exact setattr_ok I2 ea c n l ry fun s3 I3 => ⟨σ, _, I3, q2⟩
theorem ps_fldaug {op : Operator} {rd : V → V → Hp → VK → Prop} (ha : PE X o ta) (hv : PE X value tv) (hop : InOp X op rd) : PS X (.AugAssign (.Attribute o f tpos) op value pos) (sFldAug X.K ta tv rd f) := by
  intro pins s σ H D I h
  refine wpAny_AugAssign_AttributeAny (thn (ha pins s σ H _ I h) fun ov s1 ⟨x, H1, I1, rx, a, C, dx, fs, v, ex, ea, c, n, l, q⟩ => ?_)
  subst ex
  obtain rfl : ov = Value.ref a := rx
  refine getattr_ok I1 ea c n l fun u s2 I2 ru => thn (hv pins s2 σ H1 _ I2 q) fun w3 s3 ⟨y, H2, I3, ry, q3⟩ => thn (hop pins s3 σ H2 v y u w3 _ I3 ru ry q3) fun w4 s4 ⟨z, H3, I4, rz, dx', fs', ea', l', q4⟩ => ?_
  exact setattr_ok I4 ea' c n l' rz fun s5 I5 => ⟨σ, _, I5, q4⟩
noncomputable def rAdd : V → V → Hp → VK → Prop := fun x y H Q => ∃ i j, x = .int i ∧ y = .int j ∧ Q (.int (i + j)) H
theorem in_add : InOp X .Add rAdd := by
  rintro pins s σ H x y u v Q I rx ry ⟨i, j, rfl, rfl, q⟩
  obtain ⟨t, rfl⟩ := (show ∃ t, u = Value.int i t from rx)
  obtain ⟨t', rfl⟩ := (show ∃ t', v = Value.int j t' from ry)
  exact PyProof.Rows.iadd_int ⟨.int (i + j), H, I.tok _, ⟨_, rfl⟩, q⟩
end

section
variable {X : Cx} {pins : List (Addr × Obj)} {σ : St} {H : Hp} {s : Shared} {A : Around} {E : Value → Shared → Prop} {Q : Value → Shared → Prop} {c : Value} {b : Bool}
inductive TyOf (K : PySem.W.Frag) (H : Hp) : V → Value → Prop where
  | non : TyOf K H .non (.type "NoneType")
  | bl (x : Bool) : TyOf K H (.bl x) (.type "bool")
  | int (i : Int) : TyOf K H (.int i) (.type "int")
  | str (x : Str) : TyOf K H (.str x) (.type "str")
  | flt (x : UInt64) : TyOf K H (.flt x) (.type "float")
  | lst {a : Addr} {xs : List V} (e : H a = some (.lst xs)) : TyOf K H (.ref a) (.type "list")
  | frz {a : Addr} {o : Obj} {xs : List V} (e : H a = some (.frz o (.lst xs))) : TyOf K H (.ref a) (.type "list")
  | tup {a : Addr} {xs : List V} (e : H a = some (.tup xs)) : TyOf K H (.ref a) (.type "tuple")
  | dK {a : Addr} {kvs : List (Key × V)} (e : H a = some (.dK kvs)) : TyOf K H (.ref a) (.type "dict")
  | dT {a : Addr} {kvs : List (List Key × V)} (e : H a = some (.dT kvs)) : TyOf K H (.ref a) (.type "dict")
  | ins {a C dx : Addr} {fs : List (Str × V)} (e : H a = some (.ins C dx fs)) (cl : Cls K C) (ha : PySem.W.findIn K (.ref C) "__class__" = some (some (.builtin "object.__class__")))
      (hn : PySem.W.specialIn K (.builtin "object.__class__") "__get__" = some (some (.builtin "getset_descriptor.__get__"))) (htk : PySem.W.takesIn K (.builtin "object.__class__") = some true)
      (hm : PySem.W.mroIn K C (.type "object") = some true) : TyOf K H (.ref a) (.ref C)
theorem isinst_ok {x : V} {u t : Value} (I : Inv X pins σ H s) (rx : RelV x u) (ty : TyOf X.K H x t) (e : PySem.W.kitOne X.K t c = some b) (h : ∀ tk, Q (.bool b) { s with toks := tk }) :
    wpAny (model X.prog X.w) A (call (.builtin "isinstance") [u, c]) Q E s := by
  cases ty with
  | non => cases (show u = Value.none from rx); exact PySem.W.kia_one PySem.W.kitx_none I.kIn True.intro e (fun z => nomatch z) h
  | bl y => cases (show u = Value.bool y from rx); exact PySem.W.kia_one PySem.W.kitx_bool I.kIn True.intro e (fun z => nomatch z) h
  | int i => obtain ⟨t, q⟩ := (show ∃ t, u = Value.int i t from rx); cases q; exact PySem.W.kia_one PySem.W.kitx_int I.kIn True.intro e (fun z => nomatch z) h
  | str y => obtain ⟨t, q⟩ := (show ∃ t, u = Value.str y t from rx); cases q; exact PySem.W.kia_one PySem.W.kitx_str I.kIn True.intro e (fun z => nomatch z) h
  | flt y => obtain ⟨t, q⟩ := (show ∃ t, u = Value.float y t from rx); cases q; exact PySem.W.kia_one PySem.W.kitx_float I.kIn True.intro e (fun z => nomatch z) h
  | @lst a xs ea =>
    cases (show u = Value.ref a from rx)
    obtain ⟨_, _, n, _, h1⟩ := (show ObjOk X.prog X.w H s.heap a (.lst xs) from I.hok a _ ea)
    exact PySem.W.kia_one PySem.W.kitx_list I.kIn ⟨_, h1, rfl⟩ e (fun z => nomatch z) h
  | @frz a ob xs ea =>
    cases (show u = Value.ref a from rx)
    obtain ⟨_, _, _, n, _, h1⟩ := (show ObjOk X.prog X.w H s.heap a (.frz ob (.lst xs)) from I.hok a _ ea)
    exact PySem.W.kia_one PySem.W.kitx_list I.kIn ⟨_, h1, rfl⟩ e (fun z => nomatch z) h
  | @tup a xs ea =>
    cases (show u = Value.ref a from rx)
    obtain ⟨_, _, _, p⟩ := (show ObjOk X.prog X.w H s.heap a (.tup xs) from I.hok a _ ea)
    obtain ⟨o, h1, h2, _⟩ := p
    exact PySem.W.kia_one PySem.W.kitx_tuple I.kIn ⟨o, h1, h2⟩ e (fun z => nomatch z) h
  | @dK a kvs ea =>
    cases (show u = Value.ref a from rx)
    obtain ⟨_, _, vs, _, p⟩ := (show ObjOk X.prog X.w H s.heap a (.dK kvs) from I.hok a _ ea)
    obtain ⟨o, es, ep, h1, h2, _⟩ := p
    exact PySem.W.kia_one PySem.W.kitx_dict I.kIn ⟨o, h1, h2.1⟩ e (fun z => nomatch z) h
  | @dT a kvs ea =>
    cases (show u = Value.ref a from rx)
    obtain ⟨_, _, xs, _, o, es, ep, h1, h2, _⟩ := (show ObjOk X.prog X.w H s.heap a (.dT kvs) from I.hok a _ ea)
    exact PySem.W.kia_one PySem.W.kitx_dict I.kIn ⟨o, h1, h2.1⟩ e (fun z => nomatch z) h
  | @ins a C dx fs ea cl ha hn htk hm =>
    cases (show u = Value.ref a from rx)
    obtain ⟨mA, O, _⟩ := ins_get I.hok ea
    obtain ⟨od, J, _⟩ := O.look
    exact PySem.W.kia_one (PySem.W.kitx_own (cl.get _) cl.hd ha hn htk hm) I.kIn J e (fun z => nomatch z) h
end
end L2

namespace L2
open PySem PySem.Spec PyProof.Rows

structure Room (k : Nat) (A : Around) : Prop where
  hd : A.handled = none
  dp : A.depth + 3 * k + 5 < recursionLimit
  un : A.units + 16 * k + 200 < cLine
theorem Room.mono {j k : Nat} {A : Around} (r : Room k A) (h : j ≤ k) : Room j A := ⟨r.hd, by have := r.dp; omega, by have := r.un; omega⟩
theorem Room.deeper {k : Nat} {A : Around} (r : Room (k + 1) A) (env : Env) : Room k (A.deeper env) :=
  ⟨r.hd, by have := r.dp; show A.depth + 1 + 3 * k + 5 < _; omega, by have := r.un; show A.units + 3 + 16 * k + 200 < _; omega⟩
theorem make_depth {A : Around} {C : Addr} {us : List Value} {kw : List (Str × Value)} : (A.under (.builtin "type.__call__" ⟨.ref C :: us, kw⟩)).depth = A.depth + 1 := by
  first | rfl | simp [Around.under, Code.weight, Code.isCreation, Code.isGuard, Code.isCaller, Code.frames, Code.isFrame, guardIds]
theorem make_units {A : Around} {C : Addr} {us : List Value} {kw : List (Str × Value)} : (A.under (.builtin "type.__call__" ⟨.ref C :: us, kw⟩)).units = A.units + 1 := by
  first | rfl | simp [Around.under, Code.cUnits, Code.frames, Code.isFrame]
theorem Room.make {k : Nat} {A : Around} (r : Room (k + 1) A) (C : Addr) (us : List Value) (kw : List (Str × Value)) : Room k (A.under (.builtin "type.__call__" ⟨.ref C :: us, kw⟩)) :=
  ⟨r.hd, by have := r.dp; rw [make_depth]; omega, by have := r.un; rw [make_units]; omega⟩
theorem Room.depth {k : Nat} {A : Around} (r : Room k A) : A.depth < recursionLimit := by have := r.dp; omega
theorem Room.units {k : Nat} {A : Around} (r : Room k A) : A.units + 64 < cLine := by have := r.un; omega
noncomputable def tNil : TA := fun _ H Q => Q [] H
noncomputable def tCons (ta : TE) (tr : TA) : TA := fun σ H Q => ta σ H fun x H1 => tr σ H1 fun xs H2 => Q (x :: xs) H2
section
variable {X : Cx} {e : Expr} {es : List Expr} {te : TE} {t : TA} {pos : Pos}
theorem pa_nil : PA X [] tNil := fun _ _ _ _ H Q I h => Calls.spliced_nil ⟨[], H, I, .nil, h⟩
theorem pa_cons (ha : PE X e te) (hr : PA X es t) (hs : starEach (e :: es) X.env = (false, eval e X.env) :: starEach es X.env := by rfl) : PA X (e :: es) (tCons te t) := by
  intro pos pins s σ H Q I h
  rw [hs]
  show wpAny _ _ (spliced ((false, eval e X.env) :: backTo pos (starEach es X.env))) _ _ s
  refine Calls.spliced_cons (thn (ha pins s σ H _ I h) fun u s1 ⟨x, H1, I1, r1, q1⟩ => ?_)
  exact thn (hr pos pins s1 σ H1 _ I1 q1) fun us s2 ⟨xs, H2, I2, r2, q2⟩ => ⟨x :: xs, H2, I2, .cons r1 r2, q2⟩

noncomputable def tTup (t : TA) : TE := fun σ H Q => t σ H fun xs H1 => xs.length ≤ sizeLine ∧ ∀ p, H1 p = none → Q (.ref p) (upd H1 p (.tup xs))
noncomputable def tLst (t : TA) : TE := fun σ H Q => t σ H fun xs H1 => xs.length ≤ sizeLine ∧ ∀ p, H1 p = none → Q (.ref p) (upd H1 p (.lst xs))
theorem pe_tup {x1} (h : PA X es t) : PE X (.Tuple es x1 pos) (tTup t) := by
  intro pins s σ H Q I hq
  refine wpAny_Tuple_spliced (thn (h pos pins s σ H _ I hq) fun us s1 ⟨xs, H1, I1, r, z, q⟩ => ⟨by rw [← r.length]; exact z, ?_⟩)
  have hf : H1 s1.heap.objs.size = none := I1.hok.fresh (Nat.le_refl _)
  refine ⟨.ref s1.heap.objs.size, upd H1 s1.heap.objs.size (.tup xs), I1.laid (t' := s1.toks) (fun b u e => Heap.get?_push_of_some _ e) (Nat.le_refl _) ?_, rfl, q _ hf⟩
  exact ⟨z, us, r, ⟨_, Heap.get?_push_size _ rfl, rfl, _, rfl⟩⟩
theorem pe_lst (h : PA X es t) : PE X (.List es pos) (tLst t) := by
  intro pins s σ H Q I hq
  refine wpAny_List_spliced (thn (h pos pins s σ H _ I hq) fun us s1 ⟨xs, H1, I1, r, z, q⟩ => ⟨by rw [← r.length]; exact z, ?_⟩)
  have hf : H1 s1.heap.objs.size = none := I1.hok.fresh (Nat.le_refl _)
  refine ⟨.ref s1.heap.objs.size, upd H1 s1.heap.objs.size (.lst xs), I1.laid (t' := s1.toks) (fun b u e => Heap.get?_push_of_some _ e) (Nat.le_refl _) ?_, rfl, q _ hf⟩
  exact ⟨z, us, 0, r, Heap.get?_push_size _ rfl⟩
end

noncomputable abbrev Sp := List V → Hp → VK → XK → Prop
noncomputable abbrev CXT := List Env → Hp → Shared → XK → Value → Shared → Prop

structure Env0 (P : Program) (w : World) (K : PySem.W.Frag) (mg : Str → Option Value) (base : Heap) (A : Around) (outer : List Env) (s : Shared) (H : Hp) : Prop where
  frames : A.frames = some outer
  mod : Mod K mg base
  bs : ∀ b o, base.get? b = some o → s.heap.get? b = some o ∧ H b = none
  bsz : base.objs.size ≤ s.heap.objs.size
  funs : s.heap.FunFrames base outer
  frf : ∀ b ∈ frs outer, H b = none
  hok : HOk P w H s.heap
  bare : AllBare s.gens
noncomputable def CE (outer : List Env) (P : Program) (w : World) (H : Hp) (s : Shared) (Q : VK) (u : Value) (s' : Shared) : Prop :=
  ∃ v H', s'.os = s.os ∧ AllBare s'.gens ∧ Un (frs outer) [] H H' s.heap s'.heap ∧ HOk P w H' s'.heap ∧ RelV v u ∧ Q v H'
noncomputable def CR (CX : CXT) (outer : List Env) (P : Program) (w : World) (H : Hp) (s : Shared) (Q : VK) (E : XK) (r : Result) (s' : Shared) : Prop :=
  match r with
  | .ok (.ret u) => CE outer P w H s Q u s'
  | .ok _ => False
  | .error e => CX outer H s E e s'
structure FnOk (P : Program) (w : World) (K : PySem.W.Frag) (mg : Str → Option Value) (base : Heap) (CX : CXT) (k : Nat) (f : Addr) (fd : FuncData) (ps : List Str) (sp : Sp) : Prop where
  len : ∀ vs H Q E, sp vs H Q E → vs.length = ps.length
  run : ∀ (A : Around) (outer : List Env) (s : Shared) (H : Hp) (args : Args) (us : List Value) (vs : List V) (Q : VK) (E : XK), Room k A → Env0 P w K mg base A outer s H → BindsTo s fd args (ps.zip us) → Vals vs us → sp vs H Q E →
    codeAny (model P w) A (.call (.ref f) args) (CR CX outer P w H s Q E) s
theorem Env0.make {P : Program} {w : World} {K : PySem.W.Frag} {mg : Str → Option Value} {base : Heap} {A : Around} {outer : List Env} {s : Shared} {H : Hp} (e : Env0 P w K mg base A outer s H) (C : Addr) (us : List Value) (kw : List (Str × Value)) :
    Env0 P w K mg base (A.under (.builtin "type.__call__" ⟨.ref C :: us, kw⟩)) outer s H := ⟨by first | exact e.frames | (simpa [Around.under, Code.envs, Code.isFrame, pushEnvs] using e.frames), e.mod, e.bs, e.bsz, e.funs, e.frf, e.hok, e.bare⟩
section
variable {X : Cx} {pins : List (Addr × Obj)} {σ : St} {H : Hp} {s s' : Shared}
theorem Inv.env0 (I : Inv X pins σ H s) : Env0 X.prog X.w X.K X.mg X.base X.A X.stack s H :=
  ⟨I.ok.frames, I.ok.mod, I.bs, Nat.le_trans I.ok.bsz I.sz, I.stack, I.stkFree, I.hok, I.bare⟩
theorem Inv.after {Q : VK} {u : Value} (I : Inv X pins σ H s) (h : CE X.stack X.prog X.w H s Q u s') : EP X pins σ Q u s' := by
  obtain ⟨v, H', os, bare, un, hok, r, q⟩ := h
  obtain ⟨hh, g, d, t, os'⟩ := s'
  obtain rfl : os' = s.os := os
  exact ⟨v, H', I.call (h' := hh) (g' := g) (d' := d) (t' := t) (ch := []) un hok bare (fun b z => absurd z (by simp)), r, q⟩
end

noncomputable def tCall (sp : Sp) (dvs : List V) (E : XK) (t : TA) : TE := fun σ H Q => t σ H fun vs H1 => sp (vs ++ dvs) H1 Q E
noncomputable def tMeth (C : Addr) (m : Str) (sp : Sp) (dvs : List V) (E : XK) (ta : TE) (t : TA) : TE := fun σ H Q => ta σ H fun x H1 => ∃ a dx fs, x = .ref a ∧ H1 a = some (.ins C dx fs) ∧ fs.lookup m = none ∧
  t σ H1 fun vs H2 => sp (x :: (vs ++ dvs)) H2 Q E
noncomputable def tMake (C : Addr) (sp : Sp) (dvs : List V) (E : XK) (t : TA) : TE := fun σ H Q => t σ H fun vs H1 => ∀ x dx, H1 x = none → H1 dx = none → dx ≠ x →
  sp (.ref x :: (vs ++ dvs)) (upd (upd H1 dx (.own x)) x (.ins C dx [])) (fun v H2 => v = .non ∧ Q (.ref x) H2) E

noncomputable def Binds (K : PySem.W.Frag) (fd : FuncData) (ps : List Str) (ds : List Value) : Prop :=
  ∀ (s : Shared) (us : List Value), K.In s.heap → (us ++ ds).length = ps.length → BindsTo s fd ⟨us, []⟩ (ps.zip (us ++ ds))
theorem Binds.all {K : PySem.W.Frag} {fd : FuncData} {ps : List Str} (h : ∀ us : List Value, us.length = ps.length → bindArgs fd ⟨us, []⟩ = pure (ps.zip us)) : Binds K fd ps [] := fun s us _ hl => by
  rw [List.append_nil] at hl ⊢
  exact .of_eq (h us hl)

noncomputable def Passes (CX : CXT) (X : Cx) (E : XK) : Prop := ∀ (pins : List (Addr × Obj)) (σ : St) (H : Hp) (s : Shared) (e : Value) (s' : Shared), Inv X pins σ H s → CX X.stack H s E e s' → X.xe e s'

section
variable {X : Cx} {CX : CXT} {k : Nat} {f C : Addr} {fd : FuncData} {ps : List Str} {sp : Sp} {dvs : List V} {ds : List Value} {E : XK} {x m : Str} {p pos apos : Pos} {e o : Expr} {es : List Expr} {ta : TE} {t : TA}

theorem run_fn {pins : List (Addr × Obj)} {σ : St} {H : Hp} {s : Shared} {Q : VK} {us : List Value} {vs : List V} (F : FnOk X.prog X.w X.K X.mg X.base CX k f fd ps sp) (hr : Room k X.A) (hb : Binds X.K fd ps ds) (hd : Vals dvs ds) (hx : Passes CX X E)
    (I : Inv X pins σ H s) (r : Vals vs us) (h : sp (vs ++ dvs) H Q E) : wpAny (model X.prog X.w) X.A (call (.ref f) us) (EP X pins σ Q) X.xe s := by
  have r2 : Vals (vs ++ dvs) (us ++ ds) := r.append hd
  have hl : (us ++ ds).length = ps.length := by rw [← r2.length]; exact F.len _ _ _ _ h
  refine wpAny_call (codeAny_mono (F.run X.A X.stack s H ⟨us, []⟩ (us ++ ds) (vs ++ dvs) Q E hr I.env0 (hb s us I.kIn hl) r2 h) fun r s' hq => ?_)
  cases r with
  | error e => exact hx pins σ H s e s' I hq
  | ok fl =>
    cases fl with
    | ret u => exact I.after hq
    | next => exact False.elim hq
    | brk => exact False.elim hq
    | cont => exact False.elim hq

theorem pe_call (F : FnOk X.prog X.w X.K X.mg X.base CX k f fd ps sp) (hr : Room k X.A) (hg : Gl X x) (hm : X.mg x = some (.ref f)) (hk : PySem.W.keepIn X.K (.ref f) = true) (hb : Binds X.K fd ps ds) (hd : Vals dvs ds) (hx : Passes CX X E)
    (ha : PA X (e :: es) t) (hdb : (x == ("__debug__" : Str)) = false := by decide) (he : starEach (e :: es) X.env = (false, eval e X.env) :: starEach es X.env := by rfl) (hpl : (backTo pos (starEach es X.env)).any (·.1) = false := by rfl) :
    PE X (.Call (.Name x p) (e :: es) [] pos) (tCall sp dvs E t) := by
  intro pins s σ H Q I h
  refine wpAny_Call_Name_kw (ld_glob I hg hm ?_ hdb)
  refine PySem.W.callWith_K (h₀ := X.base) I.ok.mod.kin hk (thn (ha pos pins s σ H _ I h) fun us s1 ⟨vs, H1, I1, r, q⟩ => ⟨I1.kIn, ?_⟩) he hpl
  exact run_fn F hr hb hd hx I1 r q
theorem pe_meth {pl : Sem Bool} (he : PE X o ta) (c : Cls X.K C) (hm : Meth X.K C m f) (F : FnOk X.prog X.w X.K X.mg X.base CX k f fd ps sp) (hr : Room k X.A) (hb : Binds X.K fd ps ds) (hd : Vals dvs ds) (hx : Passes CX X E) (ha : PA X (e :: es) t)
    (hst : starEach (e :: es) X.env = (false, eval e X.env) :: starEach es X.env := by rfl) (hpl : (backTo pos (starEach es X.env)).any (·.1) = false := by rfl)
    (ht : eval (.Call (.Attribute o m apos) (e :: es) [] pos) X.env = (do
      let ov ← eval o X.env
      standAt apos.atName
      let (f, first) ← holding [ov] (getMethod ov m pl)
      callWith pos f first (backTo pos (starEach (e :: es) X.env)) (backToKw pos (keywordEach [] X.env))) := by rfl) :
    PE X (.Call (.Attribute o m apos) (e :: es) [] pos) (tMeth C m sp dvs E ta t) := by
  intro pins s σ H Q I h
  refine PySem.W.methodCall_KW (pl := pl) (thn (he pins s σ H _ I h) fun u s1 ⟨x, H1, I1, rx, a, dx, fs, ex, ea, l, q⟩ => ?_) ht
  subst ex
  obtain rfl : u = Value.ref a := rx
  refine getmeth_ok I1 ea c hm l ?_
  refine PySem.W.callWith_K (first := [.ref a]) (h₀ := X.base) I.ok.mod.kin hm.kp (thn (ha pos pins s1 σ H1 _ I1 q) fun us s2 ⟨vs, H2, I2, r, q2⟩ => ⟨I2.kIn, ?_⟩) hst hpl
  exact run_fn (us := .ref a :: us) (vs := .ref a :: vs) F hr hb hd hx I2 (.cons rfl r) q2
theorem pe_meth0 {pl : Sem Bool} (he : PE X o ta) (c : Cls X.K C) (hm : Meth X.K C m f) (F : FnOk X.prog X.w X.K X.mg X.base CX k f fd ps sp) (hr : Room k X.A) (hb : Binds X.K fd ps ds) (hd : Vals dvs ds) (hx : Passes CX X E)
    (ht : eval (.Call (.Attribute o m apos) [] [] pos) X.env = (do
      let ov ← eval o X.env
      standAt apos.atName
      let (f, first) ← holding [ov] (getMethod ov m pl)
      callWith pos f first (backTo pos (starEach [] X.env)) (backToKw pos (keywordEach [] X.env))) := by rfl) :
    PE X (.Call (.Attribute o m apos) [] [] pos) (tMeth C m sp dvs E ta tNil) := by
  intro pins s σ H Q I h
  refine PySem.W.methodCall_KW (pl := pl) (thn (he pins s σ H _ I h) fun u s1 ⟨x, H1, I1, rx, a, dx, fs, ex, ea, l, q⟩ => ?_) ht
  subst ex
  obtain rfl : u = Value.ref a := rx
  refine getmeth_ok I1 ea c hm l ?_
  exact PySem.W.callWith_K0 (first := [.ref a]) I1.kIn hm.kp (run_fn (us := [.ref a]) (vs := [.ref a]) F hr hb hd hx I1 (.cons rfl .nil) q)

structure Mk (K : PySem.W.Frag) (C f : Addr) : Prop where
  makes : PySem.W.makesIn K C = true
  init : PySem.W.findIn K (.ref C) "__init__" = some (some (.ref f))
  fn : PySem.W.isFn K (.ref f) = true
  kp : PySem.W.keepIn K (.ref C) = true

theorem run_make {pins : List (Addr × Obj)} {σ : St} {H : Hp} {s : Shared} {Q : VK} {us : List Value} {vs : List V} (M : Mk X.K C f) (F : FnOk X.prog X.w X.K X.mg X.base CX k f fd ps sp) (hr : Room (k + 1) X.A) (hb : Binds X.K fd ps ds) (hd : Vals dvs ds)
    (hx : Passes CX X E) (I : Inv X pins σ H s) (r : Vals vs us)
    (h : ∀ x dx, H x = none → H dx = none → dx ≠ x → sp (.ref x :: (vs ++ dvs)) (upd (upd H dx (.own x)) x (.ins C dx [])) (fun v H2 => v = .non ∧ Q (.ref x) H2) E) :
    wpAny (model X.prog X.w) X.A (call (.ref C) us) (EP X pins σ Q) X.xe s := by
  have hq := h (s.heap.objs.size + 1) s.heap.objs.size (I.hok.fresh (Nat.le_succ _)) (I.hok.fresh (Nat.le_refl _)) (Nat.ne_of_lt (Nat.lt_succ_self _))
  have I2 := Inv.made (C := C) I
  have r2 : Vals (V.ref (s.heap.objs.size + 1) :: (vs ++ dvs)) (Value.ref (s.heap.objs.size + 1) :: (us ++ ds)) := .cons rfl (r.append hd)
  have hl : (Value.ref (s.heap.objs.size + 1) :: us ++ ds).length = ps.length := by
    have e := r2.length
    rw [F.len _ _ _ _ hq] at e
    exact e.symm
  refine wpAny_call (make_map (f := f) I.kIn M.makes M.init (beq_iff_eq.mp M.fn) (codeAny_mono (F.run _ X.stack _ _ ⟨Value.ref (s.heap.objs.size + 1) :: us, []⟩ (Value.ref (s.heap.objs.size + 1) :: (us ++ ds)) _ _ E (hr.make C us [])
    (I2.env0.make C us []) (hb _ (Value.ref (s.heap.objs.size + 1) :: us) I2.kIn hl) r2 hq) fun r s' hq' => ?_))
  cases r with
  | error e => exact hx pins σ _ _ e s' I2 hq'
  | ok fl =>
    cases fl with
    | ret u =>
      obtain ⟨v, H', I3, rv, ev, q3⟩ := I2.after hq'
      subst ev
      exact ⟨rv, ⟨V.ref (s.heap.objs.size + 1), H', I3, rfl, q3⟩⟩
    | next => exact False.elim hq'
    | brk => exact False.elim hq'
    | cont => exact False.elim hq'
theorem pe_make0 (M : Mk X.K C f) (F : FnOk X.prog X.w X.K X.mg X.base CX k f fd ps sp) (hr : Room (k + 1) X.A) (hg : Gl X x) (hm : X.mg x = some (.ref C)) (hb : Binds X.K fd ps ds) (hd : Vals dvs ds) (hx : Passes CX X E)
    (hdb : (x == ("__debug__" : Str)) = false := by decide) : PE X (.Call (.Name x p) [] [] pos) (tMake C sp dvs E tNil) := by
  intro pins s σ H Q I h
  refine wpAny_Call_Name_kw (ld_glob I hg hm ?_ hdb)
  exact PySem.W.callWith_K0 I.kIn M.kp (run_make (us := []) M F hr hb hd hx I .nil h)
end

section
variable {X : Cx} {CX : CXT} {k : Nat} {f C : Addr} {fd : FuncData} {ps ks : List Str} {sp : Sp} {E : XK} {x m : Str} {p pos apos kpos : Pos} {e o : Expr} {es : List Expr} {kws : List Keyword} {te ta : TE} {t tk : TA} {nm : Option Str}
structure KBinds (K : PySem.W.Frag) (fd : FuncData) (ps ks : List Str) (g : List Value → List Value → List Value) (gV : List V → List V → List V) : Prop where
  to : ∀ (s : Shared) (us ws : List Value), K.In s.heap → (g us ws).length = ps.length → BindsTo s fd ⟨us, ks.zip ws⟩ (ps.zip (g us ws))
  rel : ∀ {vs : List V} {us : List Value} {zs : List V} {ws : List Value}, Vals vs us → Vals zs ws → Vals (gV vs zs) (g us ws)
variable {g : List Value → List Value → List Value} {gV : List V → List V → List V}
end

structure FnScope (N P : List Str) (sc : Scope) : Prop where
  kind : sc.kind = .function
  co : sc.isCoroutine = false
  gen : sc.isGenerator = false
  nd : N.Nodup
  pre : N.take P.length = P
  par : ∀ x ∈ P, sc.names.lookup x = some .local ∨ sc.names.lookup x = some .cell
  nofree : ∀ y ∈ sc.names, y.2 ≠ .free

theorem bindL_out {kindOf : Str → Option NameKind} {x : Str} : ∀ {binds : List (Str × Value)} {m : Str → Option Value}, (∀ v, (x, v) ∉ binds) → bindL kindOf binds m x = m x
  | [], _, _ => rfl
  | (n, v) :: r, m, h => by
    unfold bindL
    rw [bindL_out fun w hw => h w (List.mem_cons_of_mem _ hw)]
    split
    · have : x ≠ n := by rintro rfl; exact h v List.mem_cons_self
      simp [this]
    · rfl
theorem bindC_out {kindOf : Str → Option NameKind} {x : Str} : ∀ {binds : List (Str × Value)} {m : Str → Option Value}, (∀ v, (x, v) ∉ binds) → bindC kindOf binds m x = m x
  | [], _, _ => rfl
  | (n, v) :: r, m, h => by
    unfold bindC
    rw [bindC_out fun w hw => h w (List.mem_cons_of_mem _ hw)]
    split
    · rfl
    · have : x ≠ n := by rintro rfl; exact h v List.mem_cons_self
      simp [this]
theorem bindL_get {kindOf : Str → Option NameKind} {x : Str} {v : Value} : ∀ {P : List Str} {vs : List Value} {i : Nat} {m : Str → Option Value}, P.Nodup → P[i]? = some x → vs[i]? = some v → kindOf x = some .local →
    bindL kindOf (P.zip vs) m x = some v
  | [], _, _, _, _, h, _, _ => by simp at h
  | _ :: _, [], _, _, _, _, h, _ => by simp at h
  | p :: P, w :: vs, 0, m, nd, h1, h2, hk => by
    simp at h1 h2; subst h1; subst h2
    show bindL kindOf ((p, w) :: P.zip vs) m p = _
    unfold bindL
    rw [bindL_out fun v hv => (List.nodup_cons.mp nd).1 (List.of_mem_zip hv).1, if_pos hk]
    simp
  | p :: P, w :: vs, i + 1, m, nd, h1, h2, hk => by
    show bindL kindOf ((p, w) :: P.zip vs) m x = _
    unfold bindL
    exact bindL_get (i := i) (List.nodup_cons.mp nd).2 (by simpa using h1) (by simpa using h2) hk
theorem bindC_get {kindOf : Str → Option NameKind} {x : Str} {v : Value} : ∀ {P : List Str} {vs : List Value} {i : Nat} {m : Str → Option Value}, P.Nodup → P[i]? = some x → vs[i]? = some v → kindOf x ≠ some .local →
    bindC kindOf (P.zip vs) m x = some v
  | [], _, _, _, _, h, _, _ => by simp at h
  | _ :: _, [], _, _, _, _, h, _ => by simp at h
  | p :: P, w :: vs, 0, m, nd, h1, h2, hk => by
    simp at h1 h2; subst h1; subst h2
    show bindC kindOf ((p, w) :: P.zip vs) m p = _
    unfold bindC
    rw [bindC_out fun v hv => (List.nodup_cons.mp nd).1 (List.of_mem_zip hv).1, if_neg hk]
    simp
  | p :: P, w :: vs, i + 1, m, nd, h1, h2, hk => by
    show bindC kindOf ((p, w) :: P.zip vs) m x = _
    unfold bindC
    exact bindC_get (i := i) (List.nodup_cons.mp nd).2 (by simpa using h1) (by simpa using h2) hk

noncomputable def start (N : List Str) (vs : List V) : St := vs.map some ++ List.replicate (N.length - vs.length) none

noncomputable def cxOf (CX : CXT) (P : Program) (w : World) (K : PySem.W.Frag) (mg : Str → Option Value) (base : Heap) (N : List Str) (qual : Str) (scope : Scope) (f : Addr) (cd : Value) (A : Around) (outer : List Env) (s : Shared) (H : Hp) (E : XK) : Cx where
  prog := P
  w := w
  K := K
  mg := mg
  base := base
  A := A.deeper (envOfC qual scope s.heap.objs.size f cd)
  N := N
  s₀ := s
  H₀ := H
  env := envOfC qual scope s.heap.objs.size f cd
  outer := outer
  stack := envOfC qual scope s.heap.objs.size f cd :: outer
  ex := []
  calm := true
  fn := fun _ => true
  pn := []
  xe := fun e s' => wpAny (model P w) (A.deeper (envOfC qual scope s.heap.objs.size f cd)) (leaving (envOfC qual scope s.heap.objs.size f cd) e) (fun _ s'' => CX outer H s E e s'') (fun e' s'' => CX outer H s E e' s'') s'

theorem cell_has {sc : Scope} {n : Nat} {x : Str} (h : sc.names.lookup x = some .cell) : ∃ c, (cellsFrom n sc.names []).lookup x = some c := by
  have q := PySem.W.cellsFrom_some sc.names n [] (.inl h)
  exact Option.isSome_iff_exists.mp q

theorem inv_start {CX : CXT} {P : Program} {w : World} {K : PySem.W.Frag} {mg : Str → Option Value} {base : Heap} {N ps : List Str} {qual : Str} {scope : Scope} {f : Addr} {cd : Value} {A : Around} {outer : List Env} {s s1 : Shared} {H : Hp} {E : XK} {us : List Value} {vs : List V}
    (S : FnScope N ps scope) (hd : A.handled = none) (e0 : Env0 P w K mg base A outer s H) (hl : vs.length = ps.length) (r : Vals vs us)
    (x : InCallC s s.heap.objs.size (bindL (envOfC qual scope s.heap.objs.size f cd).kindOf (ps.zip us) fun _ => none) (cellsFrom (s.heap.objs.size + 1) scope.names []) (bindC (envOfC qual scope s.heap.objs.size f cd).kindOf (ps.zip us) fun _ => none) s1) :
    Inv (cxOf CX P w K mg base N qual scope f cd A outer s H E) [] (start N vs) H s1 := by
  have hpl : ps.length ≤ N.length := by have := congrArg List.length S.pre; rw [List.length_take] at this; omega
  obtain ⟨h1, tk, rfl, hk⟩ := x.done
  have noA : ∀ b : Addr, b ∉ (cxOf CX P w K mg base N qual scope f cd A outer s H E).ex := fun b z => absurd (show b ∈ ([] : List Addr) from z) (by simp)
  refine ⟨⟨e0.mod, S.kind, rfl, rfl, Nat.le_refl _, fun y z c h1 h2 => ?_, fun y hy => ?_, fun y c _ h => ?_, fun _ => hd, Around.frames_deeper e0.frames, .inr ⟨rfl, rfl⟩, fun b z => absurd z (noA b), e0.bs, e0.bsz, fun b _ _ => noA b, fun b z => absurd z (noA b), e0.funs, e0.frf⟩,
    rfl, e0.bare, Un.kept hk, ⟨_, x.toInCall.ns, fun i y v h1 h2 h3 => ?_⟩, fun y c h => ⟨_, x.cell y c h⟩, e0.hok.fresh (Nat.le_refl _), fun y c h => ?_, fun p hp => absurd (show p ∈ ([] : List (Addr × Obj)) from hp) (by simp), e0.hok.kept hk, ?_⟩
  · exact name_of_addr x.apart (PySem.mem_of_lookup h1) (PySem.mem_of_lookup h2)
  · have hy : scope.names.lookup y = some .cell ∨ scope.names.lookup y = some .free := hy
    rcases hy with hy | hy
    · exact cell_has hy
    · exact absurd rfl (S.nofree _ (PySem.mem_of_lookup hy))
  · exact Nat.le_of_lt (x.above y c (PySem.mem_of_lookup h))
  · have hi : i < vs.length := by
      unfold start at h2
      by_cases hi : i < vs.length
      · exact hi
      · rw [List.getElem?_append_right (by simpa using hi)] at h2
        rw [List.getElem?_replicate] at h2
        split at h2 <;> cases h2
    have ha : vs[i]? = some v := by
      unfold start at h2
      rw [List.getElem?_append_left (by simpa using hi), List.getElem?_map] at h2
      cases e : vs[i]? with
      | none => rw [e] at h2; cases h2
      | some a => rw [e] at h2; cases h2; rfl
    obtain ⟨u, hu, rv⟩ := r.get ha
    have hp : ps[i]? = some y := by
      rw [← S.pre, List.getElem?_take_of_lt (by omega)]; exact h1
    have ndP : ps.Nodup := by rw [← S.pre]; exact S.nd.sublist (List.take_sublist _ _)
    refine ⟨u, rv, ?_⟩
    rcases S.par y (List.mem_of_getElem? hp) with k | k
    · exact .inl ⟨k, bindL_get ndP hp hu k⟩
    · obtain ⟨c, e⟩ := cell_has (n := s.heap.objs.size + 1) k
      refine .inr ⟨.inl k, c, e, ?_⟩
      have q := x.cell y c e
      rw [bindC_get ndP hp hu (by show scope.names.lookup y ≠ _; rw [k]; decide)] at q
      exact q
  · exact e0.hok.fresh (Nat.le_of_lt (x.above y c (PySem.mem_of_lookup h)))
  · unfold start
    show _ = N.length
    rw [List.length_append, List.length_map, List.length_replicate]
    omega

theorem fn_of {CX : CXT} {P : Program} {w : World} {K : PySem.W.Frag} {mg : Str → Option Value} {base : Heap} {k : Nat} {f : Addr} {name qual : Str} {params : Arguments} {body : List Stmt} {scope : Scope} {dV kV doc pm cdv ct oc : Value} {an od : Option Addr}
    {osl : Array (Option Value)} {N ps : List Str} {sp : Sp} (lk : K.lookup f = some ⟨oc, od, .func (PySem.W.fnOf name qual params body scope dV kV doc pm an cdv ct), osl⟩) (hcd : PySem.W.codeIn K cdv qual = true) (S : FnScope N ps scope)
    (len : ∀ vs H Q E, sp vs H Q E → vs.length = ps.length)
    (hbody : ∀ (A : Around) (outer : List Env) (s : Shared) (H : Hp) (vs : List V) (Q : VK) (E : XK), Room k (A.deeper (envOfC qual scope s.heap.objs.size f cdv)) → sp vs H Q E →
      ∃ t, PSs (cxOf CX P w K mg base N qual scope f cdv A outer s H E) body t ∧ t { nx := fun _ H' => Q .non H', rt := Q } (start N vs) H) :
    FnOk P w K mg base CX (k + 1) f (PySem.W.fnOf name qual params body scope dV kV doc pm an cdv ct) ps sp := by
  refine ⟨len, fun A outer s H args us vs Q E hr e0 hb r hsp => ?_⟩
  have hl := len _ _ _ _ hsp
  have KX : K.In s.heap := e0.mod.kin.keeps fun b o e => (e0.bs b o e).1
  have lim : s.heap.NoLimit := e0.mod.nolimit.keeps fun b o e => (e0.bs b o e).1
  have hkind : ∀ y ∈ ps.zip us, scope.names.lookup y.1 = some .local ∨ (scope.names.lookup y.1 = some .cell ∧ ((cellsFrom (s.heap.objs.size + 1) scope.names []).lookup y.1).isSome = true) := fun ⟨n, v⟩ hy => by
    rcases S.par n (List.of_mem_zip hy).1 with q | q
    · exact .inl q
    · exact .inr ⟨q, PySem.W.cellsFrom_some _ _ _ (.inl q)⟩
  refine codeAny_call_function hr.depth (KX _ _ lk) rfl S.co S.gen rfl (PySem.W.codeRec_of KX hcd) (hb _ _ _ _ ?_)
  refine wpAny_newFunctionEnv_cells S.kind hkind fun env he s1 x => ?_
  subst he
  refine ⟨lim.keeps x.toInCall.keep, codeAny_func ?_⟩
  obtain ⟨t, ht, hq⟩ := hbody A outer s H vs Q E (hr.deeper _) hsp
  have I : Inv (cxOf CX P w K mg base N qual scope f cdv A outer s H E) [] (start N vs) H s1 := inv_start S hr.hd e0 hl r x
  refine wpAny_mono (ht [] s1 (start N vs) H _ I hq) (fun fl s' hs => ?_) fun e s' hs => hs
  have fin : ∀ {σ' : St} {H' : Hp} {v : V} {u : Value}, Inv (cxOf CX P w K mg base N qual scope f cdv A outer s H E) [] σ' H' s' → RelV v u → Q v H' → CE outer P w H s Q u s' :=
    fun {σ' H' v u} J rv q => ⟨v, H', J.os, J.bare, J.base, J.hok, rv, q⟩
  cases fl with
  | ret u =>
    obtain ⟨v, σ', H', J, rv, q⟩ := hs
    exact fin J rv q
  | next =>
    obtain ⟨σ', H', J, q⟩ := hs
    exact fin (v := V.non) (u := Value.none) J rfl q
  | brk =>
    obtain ⟨_, _, _, q⟩ := hs
    exact False.elim q
  | cont =>
    obtain ⟨_, _, _, q⟩ := hs
    exact False.elim q
end L2

namespace L2
open PySem PySem.Spec PyProof.Rows
section
variable {X : Cx} {x : Str} {p pos : Pos} {e : Expr} {es : List Expr} {t : TA} {id T : String} {r : List V → Hp → VK → Prop}

noncomputable def tCB (r : List V → Hp → VK → Prop) (t : TA) : TE := fun σ H Q => t σ H fun vs H1 => r vs H1 Q
theorem pe_callB (hc : CallR X (.builtin id) r) (hg : Gl X x) (hm : X.mg x = none) (hv : bootBuiltins x = some (.builtin id)) (ha : PA X (e :: es) t) (hn : x ≠ "__name__" := by decide) (hdb : (x == ("__debug__" : Str)) = false := by decide)
    (he : starEach (e :: es) X.env = (false, eval e X.env) :: starEach es X.env := by rfl) (hpl : (backTo pos (starEach es X.env)).any (·.1) = false := by rfl) : PE X (.Call (.Name x p) (e :: es) [] pos) (tCB r t) := by
  intro pins s σ H Q I h
  refine wpAny_Call_Name_kw (ld_blt I hg hm hv ?_ hn hdb)
  exact PyProof.Rows.callWith_builtin1 (thn (ha pos pins s σ H _ I h) fun us s1 ⟨vs, H1, I1, r1, q1⟩ => hc pins s1 σ H1 vs us Q I1 r1 q1) he hpl
theorem pe_callTy (hc : CallR X (.type T) r) (hg : Gl X x) (hm : X.mg x = none) (hv : bootBuiltins x = some (.type T)) (ha : PA X (e :: es) t) (hn : x ≠ "__name__" := by decide) (hdb : (x == ("__debug__" : Str)) = false := by decide)
    (he : starEach (e :: es) X.env = (false, eval e X.env) :: starEach es X.env := by rfl) (hpl : (backTo pos (starEach es X.env)).any (·.1) = false := by rfl) : PE X (.Call (.Name x p) (e :: es) [] pos) (tCB r t) := by
  intro pins s σ H Q I h
  refine wpAny_Call_Name_kw (ld_blt I hg hm hv ?_ hn hdb)
  exact PyProof.Rows.callWith_type1 (thn (ha pos pins s σ H _ I h) fun us s1 ⟨vs, H1, I1, r1, q1⟩ => hc pins s1 σ H1 vs us Q I1 r1 q1) he hpl
end
end L2

namespace HT
open PySem PyProof.Rows

section
open PySem.SeqAt
open PySem.AutoSeq1 (wpAny_loadPart')
open PySem.MeetsSeq PySem.MeetsSeq2 PySem.MeetsSeq3

end

section
variable {prog : Program} {w : World} {A : Around} {E : Value → Shared → Prop} {s : Shared}

noncomputable def sIx (n d : Nat) : Option Int → Nat
  | none => d
  | some v => if v < 0 then (v + (n : Int)).toNat else min v.toNat n
theorem sIx_none (n d : Nat) : sIx n d none = d := rfl
theorem sIx_nat (n d k : Nat) : sIx n d (some (k : Int)) = min k n := by
  show (if (k : Int) < 0 then ((k : Int) + (n : Int)).toNat else min (k : Int).toNat n) = min k n
  rw [if_neg (by omega), Int.toNat_natCast]
theorem sIx_le (n d : Nat) (hd : d ≤ n) (o : Option Int) : sIx n d o ≤ n := by
  cases o with
  | none => exact hd
  | some v =>
    show (if v < 0 then (v + (n : Int)).toNat else min v.toNat n) ≤ n
    by_cases hv : v < 0
    · rw [if_pos hv]; omega
    · rw [if_neg hv]; exact Nat.min_le_right _ _
theorem clip_eq (v : Int) (n d : Nat) : (if v < 0 then max (v + (n : Int)) 0 else min v (n : Int)) = ((sIx n d (some v) : Nat) : Int) := by
  show (if v < 0 then max (v + (n : Int)) 0 else min v (n : Int)) = (((if v < 0 then (v + (n : Int)).toNat else min v.toNat n) : Nat) : Int)
  by_cases hv : v < 0
  · simp only [if_pos hv]; omega
  · simp only [if_neg hv]; omega
theorem adjust_gen (lo hi : Option Int) (n : Nat) : Builtin.Slice.sliceAdjust lo hi 1 (n : Int) = (((sIx n 0 lo : Nat) : Int), ((sIx n n hi : Nat) : Int)) := by
  have h1 : ¬ ((1 : Int) < 0) := by omega
  unfold Builtin.Slice.sliceAdjust
  simp only [h1, if_false]
  refine Prod.ext ?_ ?_
  · cases lo with
    | none => rfl
    | some v => exact clip_eq v n 0
  · cases hi with
    | none => rfl
    | some v => exact clip_eq v n n
theorem places_gen (i j : Nat) : Builtin.Slice.slicePlaces (i : Int) (j : Int) 1 = j - i := by
  unfold Builtin.Slice.slicePlaces
  have h1 : (1 : Int) > 0 := by omega
  simp only [h1, if_true, Int.ediv_one]
  split <;> omega
theorem slicePart_ {v : Value} {o : Option Int} {Q : Option Int → Shared → Prop} (p : IsPart v o) (h : Q o s) : wpAny (model prog w) A (Builtin.Slice.slicePartIndex v) Q E s := by
  cases p with
  | none => exact slicePart_none h
  | int i t => exact slicePart_int h
theorem sliceApplied_gen {sl : Addr} {vl vu : Value} {lo hi : Option Int} {n : Nat} {Q : Int × Int × Nat → Shared → Prop} (hs : s.heap.IsSliceOf sl vl vu .none) (pl : IsPart vl lo) (pu : IsPart vu hi)
    (h : Q (((sIx n 0 lo : Nat) : Int), 1, sIx n n hi - sIx n 0 lo) s) : wpAny (model prog w) A (Builtin.Slice.sliceApplied (.ref sl) (pure (n : Int))) Q E s := by
  obtain ⟨os, hos, hcs, hds⟩ := id hs
  unfold Builtin.Slice.sliceApplied Builtin.Slice.sliceFields
  refine wpAny_bind (wpAny_bind (wpAny_field hos hds (x := vl) rfl (wpAny_bind (wpAny_field hos hds (x := vu) rfl (wpAny_bind (wpAny_field hos hds (x := .none) rfl (wpAny_pure ?_)))))))
  refine wpAny_bind (slicePart_none ?_)
  show wpAny _ _ (if ((1 : Int) == 0) = true then _ else _) _ _ s
  rw [if_neg (by decide)]
  refine wpAny_bind (slicePart_ pl (wpAny_bind (slicePart_ pu (wpAny_bind (wpAny_pure ?_)))))
  show wpAny _ _ (match Builtin.Slice.sliceAdjust lo hi 1 (n : Int) with | (lo, hi) => pure (lo, (1 : Int), Builtin.Slice.slicePlaces lo hi 1)) _ _ s
  rw [adjust_gen lo hi n]
  show wpAny _ _ (pure (((sIx n 0 lo : Nat) : Int), (1 : Int), Builtin.Slice.slicePlaces ((sIx n 0 lo : Nat) : Int) ((sIx n n hi : Nat) : Int) 1)) _ _ s
  rw [places_gen]
  exact wpAny_pure h
theorem pick_gen (xs : Array Value) (i k : Nat) : ((List.range k).filterMap fun (m : Nat) => xs[((i : Int) + (m : Int) * 1).toNat]?).toArray = ((xs.toList.drop i).take k).toArray := by
  have e : (fun (m : Nat) => xs[((i : Int) + (m : Int) * 1).toNat]?) = fun m => xs[i + m]? := by
    funext m
    have : ((i : Int) + (m : Int) * 1).toNat = i + m := by omega
    rw [this]
  rw [e]
  have := pick_run xs i k
  rw [List.filterMap_map] at this
  have e2 : ((fun x => xs[x]?) ∘ fun x => i + x) = fun m => xs[i + m]? := rfl
  rw [e2] at this
  rw [this]

theorem getItem_tuple_cut {t sl : Addr} {items : Array Value} {vl vu : Value} {lo hi : Option Int} {Q : Value → Shared → Prop} (ht : IsTup s.heap t items) (hs : s.heap.IsSliceOf sl vl vu .none) (pl : IsPart vl lo) (pu : IsPart vu hi)
    (hw : ¬ (sIx items.size 0 lo = 0 ∧ sIx items.size items.size hi = items.size))
    (h : Q (.ref s.heap.objs.size) { s with heap := s.heap.push { cls := .type "tuple", data := .seq ((items.toList.drop (sIx items.size 0 lo)).take (sIx items.size items.size hi - sIx items.size 0 lo)).toArray } })
    (hsz : items.size ≤ sizeLine) : wpAny (model prog w) A (getItem (.ref t) (.ref sl)) Q E s := by
  have htake : sizeOk (.seq ((items.toList.drop (sIx items.size 0 lo)).take (sIx items.size items.size hi - sIx items.size 0 lo)).toArray) := by
    show ((items.toList.drop (sIx items.size 0 lo)).take (sIx items.size items.size hi - sIx items.size 0 lo)).toArray.size ≤ sizeLine
    rw [List.size_toArray, List.length_take, List.length_drop, Array.length_toList]
    omega
  have hj : sIx items.size items.size hi ≤ items.size := sIx_le _ _ (Nat.le_refl _) hi
  obtain ⟨os, hos, hcs, hds⟩ := id hs
  have hTs : s.TypeIs (.ref sl) "slice" := ⟨os, hos, hcs⟩
  unfold getItem
  try with_reducible refine wpAny_holding ?_
  first | refine wpAny_bind (wpAny_pure ?_) | skip
  refine wpAny_bind (wpAny_sequenceKey ht.typeIs (by decide) ?_)
  refine wpAny_bind (wpAny_callSpecial?_slot (name := Str.ofString "__getitem__") ht.typeIs PyProof.Rows.slot_tuple_getitem
    (wpAny_call_entry PyProof.Rows.slot_tuple_getitem ht.typeIs entry_tuple_getitem ?_ (args_tuple_getitem _ _)))
  show wpAny _ _ (Builtin.Tuple.tupleItemsOf (.ref t) >>= _) _ _ s
  refine wpAny_bind (tupleItemsOf_ ht ?_)
  refine wpAny_bind (wpAny_typeOf hTs ?_)
  rw [if_pos (by decide)]
  refine wpAny_bind (sliceApplied_gen hs pl pu ?_)
  have hno : ¬ ((((sIx items.size 0 lo : Nat) : Int) == 0 && (1 : Int) == 1 && (sIx items.size items.size hi - sIx items.size 0 lo) == items.size) = true) := by
    intro q
    rw [Bool.and_eq_true, Bool.and_eq_true] at q
    have q1 : ((sIx items.size 0 lo : Nat) : Int) = 0 := eq_of_beq q.1.1
    have q2 : sIx items.size items.size hi - sIx items.size 0 lo = items.size := eq_of_beq q.2
    exact hw ⟨by omega, by omega⟩
  show wpAny _ _ (if (((sIx items.size 0 lo : Nat) : Int) == 0 && (1 : Int) == 1 && (sIx items.size items.size hi - sIx items.size 0 lo) == items.size) = true then _ else _) _ _ s
  rw [if_neg hno, pick_gen]
  first
    | exact wpAny_bind (m := Builtin.Tuple.tupleExact _) (wpAny_newObj_type (wpAny_pure ⟨_, rfl, wpAny_pure h⟩) htake)
    | exact wpAny_bind (m := Builtin.Tuple.tupleExact _) (wpAny_newObj_type (wpAny_bind (wpAny_pure (wpAny_pure ⟨_, rfl, wpAny_pure h⟩))) htake)
    | exact wpAny_bind (wpAny_bind (m := Builtin.Tuple.tupleExact _) (wpAny_newObj_type (wpAny_pure (wpAny_pure ⟨_, rfl, wpAny_pure h⟩)) htake))
    | exact wpAny_bind (wpAny_bind (m := Builtin.Tuple.tupleExact _) (wpAny_newObj_type (wpAny_pure ⟨_, rfl, wpAny_pure h⟩) htake))
end
end HT

namespace L2
open PySem PySem.Spec PyProof.Rows

noncomputable abbrev TO := St → Hp → (Option Int → Hp → Prop) → Prop
noncomputable def PO (X : Cx) (e : Option Expr) (t : TO) : Prop :=
  ∀ (pins : List (Addr × Obj)) (s : Shared) (σ : St) (H : Hp) (Q : Option Int → Hp → Prop), Inv X pins σ H s → t σ H Q →
    wpAny (model X.prog X.w) X.A (evalPart e X.env) (fun u s' => ∃ o H', Inv X pins σ H' s' ∧ IsPart u o ∧ Q o H') X.xe s
noncomputable def tNoPart : TO := fun _ H Q => Q none H
noncomputable def tPart (t : TE) : TO := fun σ H Q => t σ H fun x H1 => ∃ i, x = .int i ∧ Q (some i) H1

theorem intsAre_of {ns : List Int} : ∀ {us : List Value}, Vals (ns.map V.int) us → IntsAre us ns := by
  induction ns with
  | nil => intro us r; rw [List.map_nil] at r; cases r; exact .nil
  | cons n ns ih =>
    intro us r
    rw [List.map_cons] at r
    cases r with
    | cons r1 r2 =>
      obtain ⟨t, e⟩ := r1
      subst e
      exact .cons n t (ih r2)

section
variable {X : Cx} {e : Expr} {te : TE} {lo hi : Option Expr} {tl th : TO} {pos p2 : Pos}

theorem po_none : PO X none tNoPart := by
  intro pins s σ H Q I h
  rw [evalPart_none]
  exact wpAny_pure ⟨none, H, I, .none, h⟩
theorem po_some (h : PE X e te) : PO X (some e) (tPart te) := by
  intro pins s σ H Q I hw
  rw [evalPart_some]
  refine thn (h pins s σ H _ I hw) fun u s1 ⟨x, H1, I1, r1, q1⟩ => ?_
  obtain ⟨i, rfl, q⟩ := q1
  obtain ⟨t, rfl⟩ := r1
  exact ⟨some i, H1, I1, .int i t, q⟩

noncomputable def SlR (X : Cx) (r : V → Option Int → Option Int → Hp → VK → Prop) : Prop :=
  ∀ (pins : List (Addr × Obj)) (s : Shared) (σ : St) (H : Hp) (x : V) (v vl vu : Value) (lo hi : Option Int) (sl : Addr) (Q : VK), Inv X pins σ H s → RelV x v → s.heap.IsSliceOf sl vl vu .none → IsPart vl lo → IsPart vu hi → r x lo hi H Q →
    ∃ T id, typeLookup (.type T) "__getitem__" = pure (some (.builtin id)) ∧ s.TypeIs v T ∧ wpAny (model X.prog X.w) X.A (getItem v (.ref sl)) (EP X pins σ Q) X.xe s
theorem SlR.or {r r' : V → Option Int → Option Int → Hp → VK → Prop} (h : SlR X r) (h' : SlR X r') : SlR X (fun x lo hi H Q => r x lo hi H Q ∨ r' x lo hi H Q) := by
  intro pins s σ H x v vl vu lo hi sl Q I rx hs pl pu q
  rcases q with q | q
  · exact h pins s σ H x v vl vu lo hi sl Q I rx hs pl pu q
  · exact h' pins s σ H x v vl vu lo hi sl Q I rx hs pl pu q
noncomputable def tSl (r : V → Option Int → Option Int → Hp → VK → Prop) (te : TE) (tl th : TO) : TE := fun σ H Q => te σ H fun x H1 => tl σ H1 fun l H2 => th σ H2 fun u H3 => r x l u H3 Q
theorem pe_slice {r : V → Option Int → Option Int → Hp → VK → Prop} (hr : SlR X r) (he : PE X e te) (hl : PO X lo tl) (hu : PO X hi th) : PE X (.Subscript e (.Slice lo hi none p2) pos) (tSl r te tl th) := by
  intro pins s σ H Q I h
  refine Subscript_ (thn (he pins s σ H _ I h) fun v s1 ⟨x, H1, I1, r1, q1⟩ => ?_)
  refine wpAny_Slice (thn (hl pins s1 σ H1 _ I1 q1) fun vl s2 ⟨l, H2, I2, pl, q2⟩ => thn (hu pins s2 σ H2 _ I2 q2) fun vu s3 ⟨u, H3, I3, pu, q3⟩ => ?_)
  rw [evalPart_none]
  refine wpAny_pure ?_
  have I4 : Inv X pins σ H3 { s3 with heap := s3.heap.push { cls := .type "slice", data := .fields #[vl, vu, .none] } } := I3.kept (t' := s3.toks) fun b ob q => Heap.get?_push_of_some _ q
  obtain ⟨T, id, hT, ht, hg⟩ := hr pins { s3 with heap := s3.heap.push { cls := .type "slice", data := .fields #[vl, vu, .none] } } σ H3 x v vl vu l u s3.heap.objs.size Q I4 r1 (Heap.IsSliceOf.new ..) pl pu q3
  show wpAny (model X.prog X.w) X.A (subscriptTail e (.Slice lo hi none p2) v (.ref s3.heap.objs.size)) (EP X pins σ Q) X.xe { s3 with heap := s3.heap.push { cls := .type "slice", data := .fields #[vl, vu, .none] } }
  exact tail_any (ops := [.ref s3.heap.objs.size, v]) ht hT hg (by with_unfolding_all rfl)

noncomputable def cutV (xs : List V) (lo hi : Option Int) : List V := (xs.drop (HT.sIx xs.length 0 lo)).take (HT.sIx xs.length xs.length hi - HT.sIx xs.length 0 lo)
theorem cutV_length (xs : List V) (lo hi : Option Int) : (cutV xs lo hi).length ≤ xs.length := by
  unfold cutV
  rw [List.length_take, List.length_drop]
  omega
noncomputable def rSlT (K : PySem.W.Frag) : V → Option Int → Option Int → Hp → VK → Prop := fun x lo hi H Q => ∃ a xs, x = .ref a ∧ SqT K H a xs ∧
  ¬ (HT.sIx xs.length 0 lo = 0 ∧ HT.sIx xs.length xs.length hi = xs.length) ∧ ∀ p, H p = none → Q (.ref p) (upd H p (.tup (cutV xs lo hi)))
theorem sl_tup : SlR X (rSlT X.K) := by
  intro pins s σ H x v vl vu lo hi sl Q I rx hs pl pu h
  obtain ⟨a, xs, rfl, hx, hw, q⟩ := h
  cases rx
  obtain ⟨its, r, ht, hz⟩ := I.tuple hx
  have hlen : its.toArray.size = xs.length := by rw [List.size_toArray]; exact r.length.symm
  refine ⟨"tuple", _, PyProof.Rows.slot_tuple_getitem.lookup, ht.typeIs, ?_⟩
  refine HT.getItem_tuple_cut ht hs pl pu (by rw [hlen]; exact hw) ?_ (by rw [hlen]; exact hz)
  rw [hlen]
  refine ⟨.ref s.heap.objs.size, _, I.laid (t' := s.toks) (o := .tup (cutV xs lo hi)) (fun b ob q => Heap.get?_push_of_some _ q) (Nat.le_refl _) ?_, rfl, q _ (I.hok.fresh (Nat.le_refl _))⟩
  exact ⟨Nat.le_trans (cutV_length xs lo hi) hz, _, (r.drop (HT.sIx xs.length 0 lo)).take (HT.sIx xs.length xs.length hi - HT.sIx xs.length 0 lo), IsTup.new _ _⟩

end
end L2

namespace L2
open PySem PySem.Spec PyProof.Rows

noncomputable def ixN (n : Nat) (i : Int) : Option Nat := if 0 ≤ i then (if i < n then some i.toNat else none) else if -(n : Int) ≤ i then some (i + n).toNat else none
noncomputable def atI {α : Type} (xs : List α) (i : Int) : Option α := (ixN xs.length i).bind fun j => xs[j]?
theorem ixN_seq {n : Nat} {i : Int} {j : Nat} (h : ixN n i = some j) : seqIndex? i n = some j ∧ j < n ∧ -(n : Int) ≤ i ∧ i < n := by
  unfold ixN at h
  by_cases h0 : 0 ≤ i
  · rw [if_pos h0] at h
    by_cases h1 : i < n
    · rw [if_pos h1] at h
      have e : i.toNat = j := Option.some.inj h
      exact ⟨by rw [seqIndex_of h0 h1, e], by omega, by omega, h1⟩
    · rw [if_neg h1] at h; cases h
  · rw [if_neg h0] at h
    by_cases h1 : -(n : Int) ≤ i
    · rw [if_pos h1] at h
      have e : (i + n).toNat = j := Option.some.inj h
      exact ⟨by rw [seqIndex_neg (by omega) h1, e], by omega, h1, by omega⟩
    · rw [if_neg h1] at h; cases h
theorem atI_get {α : Type} {xs : List α} {i : Int} {v : α} (h : atI xs i = some v) : ∃ j, seqIndex? i xs.length = some j ∧ xs[j]? = some v ∧ j < xs.length ∧ -(xs.length : Int) ≤ i ∧ i < xs.length := by
  unfold atI at h
  cases e : ixN xs.length i with
  | none => rw [e] at h; cases h
  | some j =>
    rw [e] at h
    obtain ⟨h1, h2, h3, h4⟩ := ixN_seq e
    exact ⟨j, h1, h, h2, h3, h4⟩
theorem atI_nat {α : Type} {xs : List α} {j : Nat} {v : α} (h : xs[j]? = some v) : atI xs (j : Int) = some v := by
  have hj : j < xs.length := (List.getElem?_eq_some_iff.mp h).1
  have e : ixN xs.length (j : Int) = some j := by
    unfold ixN
    rw [if_pos (by omega), if_pos (by omega)]; simp
  unfold atI; rw [e]; exact h
noncomputable def PlainIx (b : Expr) : Prop := ∀ o i, subscripted b false o i = operate [o, i] (getItem o i)
noncomputable def IxR (X : Cx) (r : R2) : Prop :=
  ∀ (value slice : Expr) (pins : List (Addr × Obj)) (s : Shared) (σ : St) (H : Hp) (x y : V) (v u : Value) (Q : VK), Inv X pins σ H s → RelV x v → RelV y u → r x y H Q →
    subscripted slice false v u = operate [v, u] (getItem v u) → wpAny (model X.prog X.w) X.A (subscriptTail value slice v u) (EP X pins σ Q) X.xe s
noncomputable def MtR (X : Cx) (id : String) (r : V → List V → Hp → VK → Prop) : Prop :=
  ∀ (pins : List (Addr × Obj)) (s : Shared) (σ : St) (H : Hp) (x : V) (xs : List V) (v : Value) (us : List Value) (Q : VK), Inv X pins σ H s → RelV x v → Vals xs us → r x xs H Q →
    wpAny (model X.prog X.w) X.A (call (.builtin id) (v :: us)) (EP X pins σ Q) X.xe s
section
variable {X : Cx} {a b : Expr} {ta tb : TE} {pos : Pos}
theorem IxR.or {r r' : R2} (h : IxR X r) (h' : IxR X r') : IxR X (fun x y H Q => r x y H Q ∨ r' x y H Q) := by
  intro value slice pins s σ H x y v u Q I rx ry q hs
  rcases q with q | q
  · exact h value slice pins s σ H x y v u Q I rx ry q hs
  · exact h' value slice pins s σ H x y v u Q I rx ry q hs
theorem pe_ix {r : R2} (hr : IxR X r) (ha : PE X a ta) (hb : PE X b tb) (hs : PlainIx b) : PE X (.Subscript a b pos) (tOp r ta tb) := by
  intro pins s σ H Q I h
  exact Subscript_ (binT ha hb I h fun v u s2 x y H2 I2 rx ry q => hr a b pins s2 σ H2 x y v u Q I2 rx ry q (hs _ _))

noncomputable def rIxL (K : PySem.W.Frag) : R2 := fun x y H Q => ∃ p xs i v, x = .ref p ∧ y = .int i ∧ SqL K H p xs ∧ atI xs i = some v ∧ Q v H
noncomputable def rIxT (K : PySem.W.Frag) : R2 := fun x y H Q => ∃ p xs i v, x = .ref p ∧ y = .int i ∧ SqT K H p xs ∧ atI xs i = some v ∧ Q v H
noncomputable def rIxS : R2 := fun x y H Q => ∃ z i c, x = .str z ∧ y = .int i ∧ z.length ≤ sizeLine ∧ atI z.cps.toList i = some c ∧ Q (.str ⟨#[c]⟩) H
theorem ix_list : IxR X (rIxL X.K) := by
  intro value slice pins s σ H x y v u Q I rx ry h hs
  obtain ⟨p, xs, i, z, rfl, rfl, hq, he, q⟩ := h
  cases rx
  obtain ⟨t, rfl⟩ := ry
  obtain ⟨its, r, pl, hz⟩ := I.list hq
  obtain ⟨j, h1, h2, h3, h4, h5⟩ := atI_get he
  obtain ⟨w, ew, rw'⟩ := r.get h2
  have hl := r.length
  have hn := line63
  have fin : EP X pins σ Q w s := ⟨z, H, I, rw', q⟩
  by_cases h0 : 0 ≤ i
  · have hj : i.toNat = j := by
      rw [seqIndex_of h0 h5] at h1
      exact Option.some.inj h1
    exact item_listR pl.isList h0 (by omega) (by rw [hj]; simpa using ew) fin hs
  · have hj : (i + (its.toArray.size : Int)).toNat = j := by
      rw [seqIndex_neg (by omega) h4] at h1
      rw [List.size_toArray, ← hl]
      exact Option.some.inj h1
    exact subscriptTail_builtinR (x := w) pl.isList.typeIs slot_list_getitem.lookup
      (wpAny_getItem_list_neg (Q := fun r s' => r = w ∧ EP X pins σ Q r s') pl.isList (by omega) (by rw [List.size_toArray] <;> omega) (by omega) (by rw [hj]; simpa using ew) ⟨rfl, fin⟩) hs
theorem ix_tup : IxR X (rIxT X.K) := by
  intro value slice pins s σ H x y v u Q I rx ry h hs
  obtain ⟨p, xs, i, z, rfl, rfl, hq, he, q⟩ := h
  cases rx
  obtain ⟨t, rfl⟩ := ry
  obtain ⟨its, r, pl, hz⟩ := I.tuple hq
  obtain ⟨j, h1, h2, h3, h4, h5⟩ := atI_get he
  obtain ⟨w, ew, rw'⟩ := r.get h2
  have hl := r.length
  have hn := line63
  have fin : EP X pins σ Q w s := ⟨z, H, I, rw', q⟩
  exact subscriptTail_builtinR (x := w) pl.typeIs slot_tuple_getitem.lookup
    (getItem_tuple (j := j) (Q := fun r s' => r = w ∧ EP X pins σ Q r s') pl (by omega) (by omega) (by rw [List.size_toArray, ← hl]; exact h1) (by simpa using ew) ⟨rfl, fin⟩) hs
theorem ix_str : IxR X rIxS := by
  intro value slice pins s σ H x y v u Q I rx ry h hs
  obtain ⟨z, i, c, rfl, rfl, hz, he, q⟩ := h
  obtain ⟨t, rfl⟩ := rx
  obtain ⟨t', rfl⟩ := ry
  obtain ⟨j, h1, h2, h3, h4, h5⟩ := atI_get he
  have hl : z.cps.toList.length = z.length := by simp [Str.length]
  rw [hl] at h1 h4 h5
  have hn := line63
  exact tail_any (typeIs_str s z t) slot_str_getitem.lookup (getItem_str (c := c) (by
    have e1 : decide (i < -(2 ^ 63 : Int)) = false := decide_eq_false (by omega)
    have e2 : decide (i ≥ 2 ^ 63) = false := decide_eq_false (by omega)
    rw [e1, e2, Bool.or_false]) (by rw [h1]; simpa using h2) ⟨.str ⟨#[c]⟩, H, I.tok _, ⟨_, rfl⟩, q⟩) hs
noncomputable def rIx (K : PySem.W.Frag) : R2 := fun x y H Q => rIxL K x y H Q ∨ rIxT K x y H Q ∨ rIxS x y H Q
theorem ix_seq : IxR X (rIx X.K) := ix_list.or (ix_tup.or ix_str)

theorem mapSeq_set (its : List Value) (n j : Nat) (u : Value) : Obj.mapSeq (·.setIfInBounds j u) { cls := .type "list", data := .seq its.toArray n } = { cls := .type "list", data := .seq (its.set j u).toArray n } := by
  simp [Obj.mapSeq]
theorem Inv.lst {pins : List (Addr × Obj)} {σ : St} {H : Hp} {s : Shared} {p : Addr} {xs : List V} (I : Inv X pins σ H s) (h : H p = some (.lst xs)) :
    ∃ (its : List Value) (n : Nat), Vals xs its ∧ s.heap.get? p = some { cls := .type "list", data := .seq its.toArray n } ∧ xs.length ≤ sizeLine := by
  obtain ⟨z, its, n, r, e⟩ := I.hok p _ h
  exact ⟨its, n, r, e, z⟩
theorem Inv.lstUpd {pins : List (Addr × Obj)} {σ : St} {H : Hp} {s : Shared} {p : Addr} {xs ys : List V} {its its' : List Value} {n n' : Nat} {f : Obj → Obj} (I : Inv X pins σ H s) (h : H p = some (.lst xs))
    (ho : s.heap.get? p = some { cls := .type "list", data := .seq its.toArray n }) (hf : f { cls := .type "list", data := .seq its.toArray n } = { cls := .type "list", data := .seq its'.toArray n' }) (r : Vals ys its') (hz : ys.length ≤ sizeLine) (t : Nat) :
    Inv X pins σ (upd H p (.lst ys)) { s with heap := s.heap.update p f, toks := t } := by
  have e : (s.heap.update p f).get? p = some { cls := .type "list", data := .seq its'.toArray n' } := by
    rw [Heap.get?_update_self f ho (by rw [hf] <;> rfl), hf]
  refine I.write (x := p) (e := p) (by rw [h]; trivial) (.inl rfl) (fun b u hb q => (Heap.get?_update_other _ _ (Ne.symm hb)).trans q) ⟨_, e⟩ ?_
  exact ⟨hz, its', n', r, e⟩
noncomputable def rSetL : V → V → V → Hp → (Hp → Prop) → Prop := fun o i v H Q => ∃ p xs k j, o = .ref p ∧ i = .int k ∧ H p = some (.lst xs) ∧ ixN xs.length k = some j ∧ Q (upd H p (.lst (xs.set j v)))
theorem set_list : PSet X rSetL := by
  intro pins s σ H o i v ov iv u Q I ro ri rv h
  obtain ⟨p, xs, k, j, rfl, rfl, hp, hj, q⟩ := h
  cases ro
  obtain ⟨t, rfl⟩ := ri
  obtain ⟨its, n, r, ho, hz⟩ := I.lst hp
  obtain ⟨h1, h2, h3, h4⟩ := ixN_seq hj
  have hl := r.length
  have hn := line63
  have I' : Inv X pins σ (upd H p (.lst (xs.set j v))) { s with heap := s.heap.update p (Obj.mapSeq (·.setIfInBounds j u)) } :=
    I.lstUpd hp ho (mapSeq_set its n j u) (r.set rv j) (by rw [List.length_set]; exact hz) s.toks
  by_cases h0 : 0 ≤ k
  · have hk : k.toNat = j := by
      rw [seqIndex_of h0 h4] at h1
      exact Option.some.inj h1
    exact PySem.W.ki_setAt ho h0 (by omega) (by rw [List.size_toArray, ← hl]; exact h4) (by rw [hk]; exact ⟨_, I', q⟩)
  · have hk : (k + (its.toArray.size : Int)).toNat = j := by
      rw [seqIndex_neg (by omega) h3] at h1
      rw [List.size_toArray, ← hl]
      exact Option.some.inj h1
    exact PySem.W.ki_setBack ho (by omega) (by rw [List.size_toArray, ← hl]; exact h3) (by omega) (by rw [hk]; exact ⟨_, I', q⟩)

theorem slice_bounds (lo hi : Option Int) (n : Nat) : (sliceBounds lo hi none n).1 = ((HT.sIx n 0 lo : Nat) : Int) ∧ (sliceBounds lo hi none n).2.1 = ((HT.sIx n n hi : Nat) : Int) ∧ (sliceBounds lo hi none n).2.2 = 1 := by
  refine ⟨?_, ?_, rfl⟩
  · cases lo with
    | none => simp [sliceBounds, HT.sIx]
    | some i =>
      simp only [sliceBounds, HT.sIx, Option.getD_none, show (1 : Int) > 0 by decide, if_true]
      by_cases h : i < 0
      · simp only [h, if_true] <;> omega
      · simp only [h, if_false] <;> omega
  · cases hi with
    | none => simp [sliceBounds, HT.sIx]
    | some i =>
      simp only [sliceBounds, HT.sIx, Option.getD_none, show (1 : Int) > 0 by decide, if_true]
      by_cases h : i < 0
      · simp only [h, if_true] <;> omega
      · simp only [h, if_false] <;> omega
theorem slicePick_cut (its : List Value) (lo hi : Option Int) : slicePick its.toArray lo hi none = ((its.drop (HT.sIx its.length 0 lo)).take (HT.sIx its.length its.length hi - HT.sIx its.length 0 lo)).toArray := by
  obtain ⟨h1, h2, h3⟩ := slice_bounds lo hi its.toArray.size
  unfold slicePick
  rw [h1, h2, h3]
  simp only [sliceRange_one, pick_run, List.size_toArray] <;> rfl
noncomputable def rSlL (K : PySem.W.Frag) : V → Option Int → Option Int → Hp → VK → Prop := fun x lo hi H Q => ∃ a xs, x = .ref a ∧ SqL K H a xs ∧ ∀ p, H p = none → Q (.ref p) (upd H p (.lst (cutV xs lo hi)))
theorem sl_list : SlR X (rSlL X.K) := by
  intro pins s σ H x v vl vu lo hi sl Q I rx hs pl pu h
  obtain ⟨a, xs, rfl, hx, q⟩ := h
  cases rx
  obtain ⟨its, r, ht, hz⟩ := I.list hx
  have hlen := r.length
  refine ⟨"list", _, slot_list_getitem.lookup, ht.isList.typeIs, ?_⟩
  refine wpAny_getItem_list_slice ht.isList hs pl pu .none (by simp) ?_ (by rw [List.size_toArray] <;> omega)
  rw [slicePick_cut, ← hlen]
  refine ⟨.ref s.heap.objs.size, _, I.laid (t' := s.toks) (o := .lst (cutV xs lo hi)) (fun b ob q => Heap.get?_push_of_some _ q) (Nat.le_refl _) ?_, rfl, q _ (I.hok.fresh (Nat.le_refl _))⟩
  exact ⟨Nat.le_trans (cutV_length xs lo hi) hz, _, 0, (r.drop (HT.sIx xs.length 0 lo)).take (HT.sIx xs.length xs.length hi - HT.sIx xs.length 0 lo), Heap.get?_push_size _ rfl⟩

noncomputable def flatV : V → Bool
  | .non => true
  | .bl _ => true
  | .int _ => true
  | .str _ => true
  | _ => false
noncomputable def eqV : V → V → Bool
  | .non, .non => true
  | .bl a, .bl b => a == b
  | .bl a, .int b => (if a then 1 else 0) == b
  | .int a, .bl b => a == (if b then 1 else 0)
  | .int a, .int b => a == b
  | .str a, .str b => a == b
  | _, _ => false
theorem eqAt_V {A : Around} {s : Shared} {y x : V} {u v : Value} (ry : RelV y u) (rx : RelV x v) (fy : flatV y = true) (fx : flatV x = true) : SeqAt.EqAt A s u v (eqV y x) := by
  cases y with
  | non =>
    cases ry
    cases x with
    | non => cases rx; exact SeqAt.EqAt.same _
    | bl b => cases rx; exact SeqAt.EqAt.none_bool b
    | int b => obtain ⟨t, rfl⟩ := rx; exact SeqAt.EqAt.none_int b t
    | str b => obtain ⟨t, rfl⟩ := rx; exact SeqAt.EqAt.none_str b t
    | _ => exact absurd (show false = true from fx) Bool.false_ne_true
  | bl a =>
    cases ry
    cases x with
    | non => cases rx; exact SeqAt.EqAt.bool_none a
    | bl b => cases rx; exact SeqAt.EqAt.bool_bool a b
    | int b => obtain ⟨t, rfl⟩ := rx; exact SeqAt.EqAt.bool_int a b t
    | str b => obtain ⟨t, rfl⟩ := rx; exact SeqAt.EqAt.bool_str a b t
    | _ => exact absurd (show false = true from fx) Bool.false_ne_true
  | int a =>
    obtain ⟨t', rfl⟩ := ry
    cases x with
    | non => cases rx; exact SeqAt.EqAt.int_none a t'
    | bl b => cases rx; exact SeqAt.EqAt.int_bool a t' b
    | int b => obtain ⟨t, rfl⟩ := rx; exact SeqAt.EqAt.int_int a t' b t
    | str b => obtain ⟨t, rfl⟩ := rx; exact SeqAt.EqAt.int_str a t' b t
    | _ => exact absurd (show false = true from fx) Bool.false_ne_true
  | str a =>
    obtain ⟨t', rfl⟩ := ry
    cases x with
    | non => cases rx; exact SeqAt.EqAt.str_none a t'
    | bl b => cases rx; exact SeqAt.EqAt.str_bool a t' b
    | int b => obtain ⟨t, rfl⟩ := rx; exact SeqAt.EqAt.str_int a t' b t
    | str b => obtain ⟨t, rfl⟩ := rx; exact SeqAt.EqAt.str_str a t' b t
    | _ => exact absurd (show false = true from fx) Bool.false_ne_true
  | _ => exact absurd (show false = true from fy) Bool.false_ne_true
noncomputable def eqU (x : V) (u : Value) : Bool := match u with
  | .none => eqV .non x
  | .bool b => eqV (.bl b) x
  | .int i _ => eqV (.int i) x
  | .str z _ => eqV (.str z) x
  | _ => false
theorem eqU_of {x y : V} {u : Value} (r : RelV y u) (f : flatV y = true) : eqU x u = eqV y x := by
  cases y with
  | non => cases r; rfl
  | bl b => cases r; rfl
  | int i => obtain ⟨t, rfl⟩ := r; rfl
  | str z => obtain ⟨t, rfl⟩ := r; rfl
  | _ => exact absurd (show false = true from f) Bool.false_ne_true
theorem any_eqU {x : V} : ∀ {xs : List V} {us : List Value}, Vals xs us → xs.all flatV = true → us.any (eqU x) = xs.any fun y => eqV y x
  | _, _, .nil, _ => rfl
  | y :: xs, u :: us, .cons r t, f => by
    rw [List.all_cons, Bool.and_eq_true] at f
    rw [List.any_cons, List.any_cons, eqU_of r f.1, any_eqU t f.2]
theorem mem_eqAt {A : Around} {s : Shared} {x : V} {v : Value} (rx : RelV x v) (fx : flatV x = true) : ∀ {xs : List V} {us : List Value}, Vals xs us → xs.all flatV = true → ∀ u ∈ us, SeqAt.EqAt A s u v (eqU x u)
  | _, _, .nil, _ => fun u hu => by cases hu
  | y :: xs, u :: us, .cons r t, f => fun u' hu => by
    rw [List.all_cons, Bool.and_eq_true] at f
    rcases List.mem_cons.mp hu with rfl | hu
    · rw [eqU_of r f.1]; exact eqAt_V r rx f.1 fx
    · exact mem_eqAt rx fx t f.2 u' hu
noncomputable def inV (x : V) (xs : List V) : Bool := xs.any fun y => eqV y x
noncomputable def rIn (K : PySem.W.Frag) (neg : Bool) : R2 := fun x y H Q => ∃ p xs, y = .ref p ∧ (SqL K H p xs ∨ SqT K H p xs) ∧ flatV x = true ∧ xs.all flatV = true ∧ Q (.bl (if neg then !inV x xs else inV x xs)) H
theorem op_notIn_seq : OpR X (compareOp .NotIn) (rIn X.K true) := by
  intro pins s σ H x y v u Q I rx ry h
  obtain ⟨p, xs, rfl, hq, fx, fs, q⟩ := h
  cases ry
  rcases hq with hq | hq
  · obtain ⟨its, r, pl, hz⟩ := I.list hq
    refine SeqAt.notIn_listAt (eqU x) pl.isList (fun w hw => mem_eqAt rx fx r fs w (by simpa using hw)) ⟨.bl _, H, I, rfl, ?_⟩
    rw [show its.toArray.any (eqU x) = its.any (eqU x) by simp, any_eqU r fs]
    exact q
  · obtain ⟨its, r, pl, hz⟩ := I.tuple hq
    refine SeqAt.notIn_tupleAt (eqU x) pl (fun w hw => mem_eqAt rx fx r fs w (by simpa using hw)) ⟨.bl _, H, I, rfl, ?_⟩
    rw [show its.toArray.any (eqU x) = its.any (eqU x) by simp, any_eqU r fs]
    exact q
theorem call_list_of : CallR X (.type "list") (fun xs H Q => ∃ p ys, xs = [.ref p] ∧ (SqL X.K H p ys ∨ SqT X.K H p ys) ∧ ∀ l, H l = none → Q (.ref l) (upd H l (.lst ys))) := by
  intro pins s σ H xs us Q I r h
  obtain ⟨p, ys, rfl, hq, q⟩ := h
  obtain ⟨u, rfl, rx⟩ := vals1 r
  cases rx
  have fin : ∀ (its : List Value), Vals ys its → ys.length ≤ sizeLine → ∀ (h' : Heap) (c' : Nat), (∀ b o', s.heap.get? b = some o' → h'.get? b = some o') →
      h'.get? s.heap.objs.size = some { cls := .type "list", dict := none, data := .seq its.toArray c', slots := #[] } → EP X pins σ Q (.ref s.heap.objs.size) { s with heap := h' } := fun its r' hz h' c' kp e =>
    ⟨.ref s.heap.objs.size, _, I.laid (t' := s.toks) kp (Nat.le_refl _) (show ObjOk X.prog X.w _ h' _ (.lst ys) from ⟨hz, its, c', r', e⟩), rfl, q _ (I.hok.fresh (Nat.le_refl _))⟩
  rcases hq with hq | hq
  · obtain ⟨its, r', pl, hz⟩ := I.list hq
    have hlen := r'.length
    obtain ⟨o, ho, hc, n, hd⟩ := pl.isList
    exact call_list_seq p (.inl rfl) ho hc hd (fun h' c' kp e => fin its r' hz h' c' kp e) (by simp only [List.size_toArray] <;> omega)
  · obtain ⟨its, r', pl, hz⟩ := I.tuple hq
    have hlen := r'.length
    obtain ⟨o, ho, hc, n, hd⟩ := pl
    exact call_list_seq p (.inr rfl) ho hc hd (fun h' c' kp e => fin its r' hz h' c' kp e) (by simp only [List.size_toArray] <;> omega)
theorem call_tuple_of : CallR X (.type "tuple") (fun xs H Q => ∃ p ys, xs = [.ref p] ∧ ((SqL X.K H p ys ∧ ∀ l, H l = none → Q (.ref l) (upd H l (.tup ys))) ∨ (SqT X.K H p ys ∧ Q (.ref p) H))) := by
  intro pins s σ H xs us Q I r h
  obtain ⟨p, ys, rfl, h⟩ := h
  obtain ⟨u, rfl, rx⟩ := vals1 r
  cases rx
  rcases h with ⟨hq, q⟩ | ⟨hq, q⟩
  · obtain ⟨its, r', pl, hz⟩ := I.list hq
    have hlen := r'.length
    refine call_tuple_list pl.isList (fun h' kp => ?_) (by simp only [List.size_toArray] <;> omega)
    have I1 : Inv X pins σ H { s with heap := h' } := I.kept (t' := s.toks) kp
    have I2 : Inv X pins σ (upd H h'.objs.size (.tup ys)) { s with heap := h'.push { cls := .type "tuple", data := .seq its.toArray } } :=
      I1.laid (t' := s.toks) (fun b o e => Heap.get?_push_of_some _ e) (Nat.le_refl _) (show ObjOk X.prog X.w _ _ _ (.tup ys) from ⟨hz, its, r', IsTup.new _ _⟩)
    exact ⟨.ref h'.objs.size, _, I2, rfl, q _ (I1.hok.fresh (Nat.le_refl _))⟩
  · obtain ⟨its, r', pl, hz⟩ := I.tuple hq
    exact call_tuple_same pl ⟨.ref p, H, I, rfl, q⟩

noncomputable def tyV (K : PySem.W.Frag) (T : String) (x : V) (H : Hp) : Prop := match x with
  | .str _ => T = "str"
  | .int _ => T = "int"
  | .ref p => (T = "list" ∧ ∃ xs, SqL K H p xs) ∨ (T = "tuple" ∧ ∃ o, K.lookup p = some o ∧ o.cls = .type "tuple" ∧ o.dict = none) ∨
      (T = "dict" ∧ ((∃ kvs, H p = some (.dK kvs)) ∨ ∃ kvs, H p = some (.dT kvs))) ∨ (T = "set" ∧ ∃ S n, H p = some (.set S n))
  | _ => False
theorem tyV_is {pins : List (Addr × Obj)} {σ : St} {H : Hp} {s : Shared} {T : String} {x : V} {v : Value} (I : Inv X pins σ H s) (r : RelV x v) (ty : tyV X.K T x H) :
    s.TypeIs v T ∧ ∀ a, v = .ref a → ∃ ob, s.heap.get? a = some ob ∧ ob.dict = none := by
  cases x with
  | str z =>
    obtain ⟨t, rfl⟩ := r
    cases (show T = "str" from ty)
    exact ⟨typeIs_str s z t, fun _ e => nomatch e⟩
  | int i =>
    obtain ⟨t, rfl⟩ := r
    cases (show T = "int" from ty)
    exact ⟨typeIs_int s i t, fun _ e => nomatch e⟩
  | ref p =>
    cases r
    rcases ty with ⟨rfl, xs, hq⟩ | ⟨rfl, o, hk, hc, hd⟩ | ⟨rfl, hk⟩ | ⟨rfl, S, n, hk⟩
    · obtain ⟨its, _, pl, _⟩ := I.list hq
      refine ⟨pl.isList.typeIs, fun a e => ?_⟩
      cases e
      obtain ⟨o, n, e, c, hd, _⟩ := pl
      exact ⟨o, e, hd⟩
    · refine ⟨⟨o, I.kIn p o hk, hc⟩, fun a e => ?_⟩
      cases e
      exact ⟨o, I.kIn _ o hk, hd⟩
    · have z : ∃ o, s.heap.get? p = some o ∧ o.ExactDict := by
        rcases hk with ⟨kvs, hk⟩ | ⟨kvs, hk⟩
        · obtain ⟨_, _, _, _, o, _, _, e, ex, _⟩ := I.hok p _ hk
          exact ⟨o, e, ex⟩
        · obtain ⟨_, _, _, _, o, _, _, e, ex, _⟩ := I.hok p _ hk
          exact ⟨o, e, ex⟩
      obtain ⟨o, e, ex⟩ := z
      refine ⟨⟨o, e, ex.1⟩, fun a e2 => ?_⟩
      cases e2
      exact ⟨o, e, ex.2.1⟩
    · obtain ⟨o, _, _, _, e, ex, _⟩ := I.hok p _ hk
      refine ⟨⟨o, e, ex.1⟩, fun a e2 => ?_⟩
      cases e2
      exact ⟨o, e, ex.2.1⟩
  | _ => exact False.elim ty
noncomputable def tBM0 (K : PySem.W.Frag) (T : String) (r : V → List V → Hp → VK → Prop) (to : TE) : TE := fun σ H Q => to σ H fun x H1 => tyV K T x H1 ∧ r x [] H1 Q
noncomputable def tBM (K : PySem.W.Frag) (T : String) (r : V → List V → Hp → VK → Prop) (to : TE) (t : TA) : TE := fun σ H Q => to σ H fun x H1 => tyV K T x H1 ∧ t σ H1 fun xs H2 => r x xs H2 Q
variable {o e : Expr} {es : List Expr} {to : TE} {t : TA} {name : Str} {apos cpos : Pos} {T id : String} {r : V → List V → Hp → VK → Prop}
theorem pe_bm0 (pa : PlainAttrs T) (slot : Slot T name id) (hty : typeOf (.builtin id) = pure (.type "method_descriptor")) (hm : MtR X id r) (ho : PE X o to)
    (hbase : attributeBase o name X.env (eval o X.env) = eval o X.env := by rfl) (hline : (apos.endLine == cpos.line) = true := by rfl) : PE X (.Call (.Attribute o name apos) [] [] cpos) (tBM0 X.K T r to) := by
  intro pins s σ H Q I h
  refine wpAny_Call_method0_late hbase hline (thn (ho pins s σ H _ I h) fun v s1 ⟨x, H1, I1, r1, ty, q1⟩ => ?_)
  obtain ⟨h1, h2⟩ := tyV_is I1 r1 ty
  exact ⟨T, id, pa, slot, hty, h1, h2, Calls.callWith_builtin rfl (PySem.evalArgs_none (hm pins s1 σ H1 x [] v [] Q I1 r1 .nil q1))⟩
theorem pe_bm (pa : PlainAttrs T) (slot : Slot T name id) (hty : typeOf (.builtin id) = pure (.type "method_descriptor")) (hm : MtR X id r) (ho : PE X o to) (ha : PA X (e :: es) t)
    (hbase : attributeBase o name X.env (eval o X.env) = eval o X.env := by rfl)
    (hfew : ((backTo cpos (starEach (e :: es) X.env)).all (fun x => !x.1) && (backToKw cpos (keywordEach [] X.env)).all (fun x => x.1.isSome)
      && decide ((e :: es).length + ([] : List Keyword).length + (if ([] : List Keyword).isEmpty then 0 else 1) < 30)) = true := by rfl)
    (hline : (apos.endLine == cpos.line) = true := by rfl) (hs : starEach (e :: es) X.env = (false, eval e X.env) :: starEach es X.env := by rfl) (hplain : (backTo cpos (starEach es X.env)).any (·.1) = false := by rfl) :
    PE X (.Call (.Attribute o name apos) (e :: es) [] cpos) (tBM X.K T r to t) := by
  intro pins s σ H Q I h
  refine wpAny_Call_method_late hbase hfew hline rfl (thn (ho pins s σ H _ I h) fun v s1 ⟨x, H1, I1, r1, ty, q1⟩ => ?_)
  obtain ⟨h1, h2⟩ := tyV_is I1 r1 ty
  refine ⟨T, id, pa, slot, hty, h1, h2, ?_⟩
  have hA := ha cpos pins s1 σ H1 _ I1 q1
  rw [hs] at hA ⊢
  refine Calls.callWith_builtin (by show (false || (backTo cpos (starEach es X.env)).any (·.1)) = false; rw [hplain] <;> rfl) (Calls.evalArgs_plain ?_)
  exact thn hA fun us s2 ⟨vs, H2, I2, r2, q2⟩ => hm pins s2 σ H2 x vs v us Q I2 r1 r2 q2
/- xs.append(e), list.index on a module's tuple .. are MtR facts of 06m -/
end
end L2

namespace L2
open PySem PySem.Spec PyProof.Rows

noncomputable def MtM (X : Cx) (id : String) (r : V → List V → Hp → VK → Prop) : Prop :=
  ∀ (pins : List (Addr × Obj)) (s : Shared) (σ : St) (H : Hp) (x : V) (xs : List V) (v : Value) (us : List Value) (Q : VK), Inv X pins σ H s → RelV x v → Vals xs us → r x xs H Q →
    wpAny (model X.prog X.w) X.A (call (.builtin id) (v :: us)) (EP X pins σ Q) X.xe s

theorem Vals.one : ∀ {x : V} {us : List Value}, Vals [x] us → ∃ u, us = [u] ∧ RelV x u
  | _, _, .cons r .nil => ⟨_, rfl, r⟩
theorem Vals.zero : ∀ {us : List Value}, Vals [] us → us = []
  | _, .nil => rfl
theorem Vals.dropLast {xs : List V} {us : List Value} (h : Vals xs us) : Vals xs.dropLast us.dropLast := by
  induction h with
  | nil => exact .nil
  | cons r t ih =>
    cases t with
    | nil => exact .nil
    | cons q t' => exact .cons r ih
theorem Vals.eraseIdx : ∀ {xs : List V} {us : List Value} (i : Nat), Vals xs us → Vals (xs.eraseIdx i) (us.eraseIdx i)
  | _, _, _, .nil => .nil
  | _, _, 0, .cons _ t => t
  | _, _, i + 1, .cons r t => .cons r (Vals.eraseIdx i t)
theorem erase_last {α : Type} (l : List α) : l.eraseIdx (l.length - 1) = l.dropLast := by
  induction l with
  | nil => rfl
  | cons a r ih =>
    cases r with
    | nil => rfl
    | cons b r =>
      have e : (a :: b :: r).length - 1 = ((b :: r).length - 1) + 1 := by
        have h1 : (a :: b :: r).length = r.length + 2 := rfl
        have h2 : (b :: r).length = r.length + 1 := rfl
        omega
      rw [e, List.eraseIdx_cons_succ, ih]
      all_goals rfl
theorem len_erase {α : Type} : ∀ (l : List α) (i : Nat), (l.eraseIdx i).length ≤ l.length
  | [], _ => Nat.le_refl _
  | _ :: _, 0 => Nat.le_succ _
  | _ :: r, i + 1 => Nat.succ_le_succ (len_erase r i)
section
variable {X : Cx} {pins : List (Addr × Obj)} {σ : St} {H : Hp} {s : Shared} {l b : Addr} {xs ys zs : List V}

theorem Inv.lset {its its' : List Value} {n : Nat} {f : Array Value → Array Value} {t' : Nat} (I : Inv X pins σ H s) (hH : H l = some (.lst xs))
    (e : s.heap.get? l = some { cls := .type "list", data := .seq its.toArray n }) (hf : f its.toArray = its'.toArray) (hv : Vals ys its') (hz : ys.length ≤ sizeLine) :
    Inv X pins σ (upd H l (.lst ys)) { s with heap := s.heap.update l (Obj.mapSeq f), toks := t' } := by
  have q := PySem.IsL.update e f
  rw [hf] at q
  refine I.write (x := l) (e := l) (by rw [hH]; exact trivial) (.inl rfl) (fun b' u hb hu => (Heap.get?_update_other s.heap (Obj.mapSeq f) (Ne.symm hb)).trans hu) ⟨_, q⟩ ?_
  exact ⟨hz, its', _, hv, q⟩
theorem Inv.lnew {its : List Value} {t' : Nat} (I : Inv X pins σ H s) (hv : Vals ys its) (hz : ys.length ≤ sizeLine) :
    Inv X pins σ (upd H s.heap.objs.size (.lst ys)) { s with heap := s.heap.push { cls := .type "list", data := .seq its.toArray }, toks := t' } :=
  I.laid (fun _ _ q => Heap.get?_push_of_some _ q) (Nat.le_refl _) ⟨hz, its, 0, hv, Heap.get?_push_size _ rfl⟩
theorem Inv.fresh (I : Inv X pins σ H s) : H s.heap.objs.size = none := I.hok.fresh (Nat.le_refl _)
theorem Inv.lstM (I : Inv X pins σ H s) (hH : H l = some (.lst xs)) : xs.length ≤ sizeLine ∧ ∃ (its : List Value) (n : Nat), Vals xs its ∧ xs.length = its.length ∧ s.heap.get? l = some { cls := .type "list", data := .seq its.toArray n } := by
  obtain ⟨z, its, n, r, e⟩ := I.hok l _ hH
  exact ⟨z, its, n, r, r.length, e⟩

theorem notLongL {n : Nat} (h : n ≤ sizeLine) : Builtin.List.listTooLong n = false := by
  unfold Builtin.List.listTooLong
  exact decide_eq_false (by omega)
end

section
variable {X : Cx}

noncomputable def rAppend : V → List V → Hp → VK → Prop := fun x vs H Q => ∃ l xs y, x = .ref l ∧ vs = [y] ∧ H l = some (.lst xs) ∧ xs.length < sizeLine ∧ Q .non (upd H l (.lst (xs ++ [y])))
theorem mt_append : MtM X "list.append" rAppend := by
  intro pins s σ H x vs v us Q I rx rv h
  obtain ⟨l, xs, y, rfl, rfl, hH, hz, q⟩ := h
  cases rx
  obtain ⟨u, rfl, ru⟩ := rv.one
  obtain ⟨z, its, n, r, hl, e⟩ := I.lstM hH
  refine call_meets F.slot_list_append ⟨_, e, rfl⟩ F.entry_list_append (F.args_list_append_2 _ _) (PySem.list_append l its.toArray n u (by rw [List.size_toArray]; omega)) ⟨e, ?_⟩
  refine ⟨.non, _, I.lset (its' := its ++ [u]) hH e (by simp) (r.append (.cons ru .nil)) ?_, rfl, q⟩
  rw [List.length_append, List.length_singleton]
  omega

noncomputable def rExtend : V → List V → Hp → VK → Prop := fun x vs H Q => ∃ l b xs zs, x = .ref l ∧ vs = [.ref b] ∧ H l = some (.lst xs) ∧ H b = some (.lst zs) ∧ xs.length + zs.length ≤ sizeLine ∧ Q .non (upd H l (.lst (xs ++ zs)))
theorem mt_extend : MtM X "list.extend" rExtend := by
  intro pins s σ H x vs v us Q I rx rv h
  obtain ⟨l, b, xs, zs, rfl, rfl, hH, hB, hz, q⟩ := h
  cases rx
  obtain ⟨u, rfl, ru⟩ := rv.one
  cases ru
  obtain ⟨z, its, n, r, hl, e⟩ := I.lstM hH
  obtain ⟨z2, its2, n2, r2, hl2, e2⟩ := I.lstM hB
  have hsz : its.toArray.size + its2.toArray.size ≤ sizeLine := by rw [List.size_toArray, List.size_toArray]; omega
  have hlong : ¬ (!its.toArray.isEmpty && Builtin.List.listTooLong (its.toArray.size + its2.toArray.size)) = true := by
    rw [notLongL hsz, Bool.and_false]
    exact Bool.false_ne_true
  refine call_meets F.slot_list_extend ⟨_, e, rfl⟩ F.entry_list_extend (F.args_list_extend_2 _ _)
    (AutoSeq1.list_extend_list_list_0 l its.toArray n b its2.toArray n2 hlong (by rw [List.size_toArray]; omega) (by omega)) ⟨e, e2, ?_⟩
  refine ⟨.non, _, I.lset (its' := its ++ its2) hH e (by simp) (r.append r2) ?_, rfl, q⟩
  rw [List.length_append]
  omega

noncomputable def rPop : V → List V → Hp → VK → Prop := fun x vs H Q => ∃ l xs y, x = .ref l ∧ vs = [] ∧ H l = some (.lst xs) ∧ xs[xs.length - 1]? = some y ∧ Q y (upd H l (.lst xs.dropLast))
theorem mt_pop : MtM X "list.pop" rPop := by
  intro pins s σ H x vs v us Q I rx rv h
  obtain ⟨l, xs, y, rfl, rfl, hH, hy, q⟩ := h
  cases rx
  have hus := rv.zero
  subst hus
  obtain ⟨z, its, n, r, hl, e⟩ := I.lstM hH
  obtain ⟨u, hu, ru⟩ := r.get hy
  have hy' : its.toArray[its.toArray.size - 1]? = some u := by
    show its.toArray[its.length - 1]? = some u
    rw [← Array.getElem?_toList, ← hl]
    exact hu
  refine call_meets F.slot_list_pop ⟨_, e, rfl⟩ F.entry_list_pop (F.args_list_pop_1 _) (MeetsSeq.list_pop_last l its.toArray n u hy' (by rw [List.size_toArray]; omega)) ⟨e, ?_⟩
  refine ⟨y, _, I.lset (its' := its.dropLast) hH e ?_ r.dropLast ?_, ru, q⟩
  · show its.toArray.eraseIdxIfInBounds (its.toArray.size - 1) = its.dropLast.toArray
    rw [List.size_toArray, List.eraseIdxIfInBounds_toArray, erase_last]
  · rw [List.length_dropLast]
    omega

noncomputable def rPopAt : V → List V → Hp → VK → Prop := fun x vs H Q => ∃ l xs i k y, x = .ref l ∧ vs = [.int i] ∧ H l = some (.lst xs) ∧ -(2 ^ 63) ≤ i ∧ i < 2 ^ 63 ∧ seqIndex? i xs.length = some k ∧ xs[k]? = some y ∧ Q y (upd H l (.lst (xs.eraseIdx k)))
theorem mt_popAt : MtM X "list.pop" rPopAt := by
  intro pins s σ H x vs v us Q I rx rv h
  obtain ⟨l, xs, i, k, y, rfl, rfl, hH, h1, h2, hk, hy, q⟩ := h
  cases rx
  obtain ⟨u, rfl, ru⟩ := rv.one
  obtain ⟨t, rfl⟩ := ru
  obtain ⟨z, its, n, r, hl, e⟩ := I.lstM hH
  obtain ⟨w, hw, rw'⟩ := r.get hy
  refine call_meets F.slot_list_pop ⟨_, e, rfl⟩ F.entry_list_pop (F.args_list_pop_2 _ _)
    (MeetsSeq.list_pop_at l its.toArray n i t k w (fitsIndex_both h1 h2) (by rw [List.size_toArray, ← hl]; exact hk) (by rw [← Array.getElem?_toList]; exact hw) (by rw [List.size_toArray]; omega)) ⟨e, ?_⟩
  refine ⟨y, _, I.lset (its' := its.eraseIdx k) hH e ?_ (r.eraseIdx k) ?_, rw', q⟩
  · show its.toArray.eraseIdxIfInBounds k = (its.eraseIdx k).toArray
    rw [List.eraseIdxIfInBounds_toArray]
  · have := len_erase xs k
    omega

noncomputable def rCat : R2 := fun x y H Q => ∃ l b xs zs, x = .ref l ∧ y = .ref b ∧ H l = some (.lst xs) ∧ H b = some (.lst zs) ∧ xs.length + zs.length ≤ sizeLine ∧ ∀ p, H p = none → Q (.ref p) (upd H p (.lst (xs ++ zs)))
theorem op_cat : OpR X (binaryOp .Add) rCat := by
  intro pins s σ H x y v u Q I rx ry h
  obtain ⟨l, b, xs, zs, rfl, rfl, hH, hB, hz, q⟩ := h
  cases rx
  cases ry
  obtain ⟨z, its, n, r, hl, e⟩ := I.lstM hH
  obtain ⟨z2, its2, n2, r2, hl2, e2⟩ := I.lstM hB
  refine PySem.P.add_list e e2 ?_ (by rw [List.size_toArray, List.size_toArray]; omega)
  have ea : its.toArray ++ its2.toArray = (its ++ its2).toArray := by simp
  rw [ea]
  exact ⟨.ref _, _, I.lnew (t' := s.toks) (r.append r2) (by rw [List.length_append]; omega), rfl, q _ I.fresh⟩
end

section
variable {prog : Program} {w : World} {A : Around} {E : Value → Shared → Prop} {s : Shared}
end

section
variable {X : Cx}
end
end L2

namespace Att
open PySem PySem.W PySem.Calls PyProof.Rows

theorem ints_of_wellAll {P : Params} {h : Heap} : ∀ (ns : List Int) (vs : List Value), WellAll P h vs (ns.map WData.int) → IntsAre vs ns := by
  intro ns
  induction ns with
  | nil =>
    intro vs w
    rw [List.map_nil] at w
    cases w
    exact .nil
  | cons n ns ih =>
    intro vs w
    rw [List.map_cons] at w
    cases w with
    | cons a b =>
      cases a
      exact .cons _ _ (ih _ b)

theorem script_of {l : OpenLaw} {n : Nat} (hn : l.most = some n) {P : Params} {h : Heap} {args : List WData} {vals : List Value}
    (hpre : l.row.toRowW.claim.pre args = true) (hwl : WellAll P h vals args) :
    ∃ a vs ns, vals = [Value.ref a] ∧ args = [WData.list (ns.map WData.int)] ∧ h.get? a = some { cls := .type "list", data := .seq vs.toArray } ∧ IntsAre vs ns ∧ ns.length ≤ n := by
  have hsh : WShape.hasAll [] args [.list .int] = true := (pre_splitW hpre).1
  have hc : l.pre.holds [] { args := args } = true := (pre_splitW hpre).2
  obtain ⟨d, r, rfl, h1, h2⟩ := hasAllW_cons hsh
  obtain rfl := hasAllW_nil h2
  obtain ⟨xs, rfl, h3⟩ := hasW_list h1
  obtain ⟨ns, rfl⟩ := items_int h3
  have hlen : ns.length ≤ n := by
    unfold OpenLaw.pre at hc
    have h4 : (WTm.not (.lt (.lit (.int (n : Int))) (.len (.arg 0)))).holds [] { args := [.list (ns.map .int)] } = true := by
      have h4 := (holds_andW hc).1
      rw [hn] at h4
      exact h4
    have h5 := condW_of h4 (w_not (w_lt w_lit (w_len_list (w_arg rfl))))
    rw [List.length_map] at h5
    refine Nat.le_of_not_lt fun q => ?_
    have q' : (n : Int) < ((ns.length : Nat) : Int) := by omega
    first
      | (rw [decide_eq_true q'] at h5; exact absurd h5 (by decide))
      | (simp at h5; omega)
  cases hwl with
  | cons w1 w2 =>
    cases w2
    cases w1 with
    | list ho hall => exact ⟨_, _, ns, rfl, rfl, ho, ints_of_wellAll ns _ hall, hlen⟩

theorem post_true (l : OpenLaw) (args : List WData) : l.row.toRowW.claim.post args (.bool true) args = true :=
  postW_of (r := l.row.toRowW) (X := (true == true))
    (show WShape.has [] (.bool true) .bool = true by first | rfl | decide | simp [WShape.has, WShape.arms, WShape.armsAll])
    (show (WTm.eq .res (.lit (.bool true))).value [] { args := args, res := some (.bool true), after := args } = some (.bool (true == true)) from w_eq_bool (w_res rfl) w_lit) rfl

theorem attach_call {l : OpenLaw} {n : Nat} {q : Program} {loose : List Str} {XP : (Str → Option Value) → Heap → Prop} {YP : World → Heap → Prop} {d : DefRec}
    (hn : l.most = some n) (hdf : d.params.defaults = [])
    (call : ∀ (w : World) (s₀ s₁ : Shared) (mg mb : Str → Option Value) (fa : Addr) (o : Obj) (pm cd doc : Value) (a : Addr) (vs : List Value) (ns : List Int),
      Ground q loose [] XP w s₀ mg mb s₁.heap → YP w s₁.heap →
      s₁.heap.get? fa = some o → o.data = .func (docDef d.name d.params d.body d.scope pm cd doc) → s₁.heap.CodeRec cd d.name → mg d.name = some (.ref fa) →
      s₁.heap.get? a = some { cls := .type "list", data := .seq vs.toArray } → IntsAre vs ns → ns.length ≤ n → s₁.gens = #[] →
      codeAny (model l.prog w) callerA (.call (.ref fa) ⟨[.ref a], []⟩) (fun r s' => r = .ok (.ret (.bool true)) ∧ OldK s₁.heap s'.heap ∧ s'.os = s₁.os ∧ AllBare s'.gens) s₁) :
    WalkO q loose XP YP l.row.toRowW d [] (fun f vs => PySem.call f vs) := by
  intro w s₀ s₁ mg mb G Y fa o pm cd doc dV kV ho hd hcd hD hmg hg args vals as hpre hlay hrd hwl hlo
  obtain rfl : dV = .none := Dflts.none hD hdf
  obtain rfl : kV = .none := Dflts.noKw hD
  obtain ⟨a, vs, ns, rfl, rfl, hobj, hints, hlen⟩ := script_of hn hpre hwl
  refine enter_call (codeAny_mono (call w s₀ s₁ mg mb fa o pm cd doc a vs ns G Y ho (fd_plain hd) hcd hmg hobj hints hlen hg) fun r s' hq => ?_)
  obtain ⟨rfl, h2, h3, h4⟩ := hq
  exact ⟨.inl ⟨.bool true, .bool true, [], rfl, fun _ => rfl, .bool true, post_true l _, fun _ => ⟨List.Pairwise.nil, fun _ hm => (nomatch hm)⟩⟩, h2, h3, h4⟩

section
variable {prog : Program} {w : World} {A : Around} {E : Value → Shared → Prop} {s : Shared} {K : Frag}

end
end Att

namespace L2
open PySem PySem.Spec PyProof.Rows

theorem vals_ints : ∀ {vs : List Value} {ns : List Int}, IntsAre vs ns → Vals (ns.map V.int) vs
  | _, _, .nil => .nil
  | _, _, .cons n t h => .cons ⟨t, rfl⟩ (vals_ints h)

noncomputable def Only (H : Hp) : Prop := ∀ b, H b = none ∨ ∃ o xs, H b = some (.frz o (.lst xs))

theorem law_call {P : Program} {w : World} {K : PySem.W.Frag} {mg mb : Str → Option Value} {CX : CXT} {k : Nat} {fa a : Addr} {fd : FuncData} {x : Str} {sp : Sp} {s₁ : Shared} {vs : List Value} {ns : List Int}
    (KX : K.In s₁.heap) (hns : s₁.heap.Ns mainGlobals mg) (hb : s₁.heap.Ns builtinsNs mb) (hbb : ∀ x : Str, x ≠ "__name__" → mb x = bootBuiltins x) (hlim : s₁.heap.NoLimit) (hg : s₁.gens = #[])
    (ha : s₁.heap.get? a = some { cls := .type "list", data := .seq vs.toArray }) (hi : IntsAre vs ns) (hl : ns.length ≤ sizeLine) (hr : Room k callerA)
    (F : ∀ base : Heap, K.In base → base.Ns mainGlobals mg → FnOk P w K mg base CX k fa fd [x] sp) (hbind : ∀ (s : Shared) (u : Value), BindsTo s fd ⟨[u], []⟩ [(x, u)])
    (hsp : ∀ H : Hp, Only H → SqL K H a (ns.map V.int) → sp [.ref a] H (fun v _ => v = .bl true) fun _ _ _ => False)
    (hCX : ∀ H e s', CX [] H s₁ (fun _ _ _ => False) e s' → False) :
    codeAny (model P w) callerA (.call (.ref fa) ⟨[.ref a], []⟩) (fun r s' => r = .ok (.ret (.bool true)) ∧ OldK s₁.heap s'.heap ∧ s'.os = s₁.os ∧ AllBare s'.gens) s₁ := by
  have rv := vals_ints hi
  have lenV := hi.length
  -- from an abstract heap in which nothing but the script may be tracked
  have core : ∀ H : Hp, Only H → SqL K H a (ns.map V.int) → HOk P w H s₁.heap → (∀ b, H b ≠ none → b = a) → (H a ≠ none → K.lookup a = none) →
      codeAny (model P w) callerA (.call (.ref fa) ⟨[.ref a], []⟩) (fun r s' => r = .ok (.ret (.bool true)) ∧ OldK s₁.heap s'.heap ∧ s'.os = s₁.os ∧ AllBare s'.gens) s₁ := by
    intro H hO hS hok hA hK
    have base_of : ∀ {b : Addr} {o : Obj}, s₁.heap.get? b = some o → H b = none → (hidT s₁.heap H).get? b = some o := fun e n => hidT_get e n
    have noA : ∀ {b : Addr} {o : Obj} {es : Array DictEntry} {ep : Nat}, s₁.heap.get? b = some o → o.data = .dict es ep → H b = none := fun {b o es ep} e d => by
      cases q : H b with
      | none => rfl
      | some u =>
        have e' : b = a := hA b (by rw [q]; simp)
        subst e'
        rw [ha] at e; cases e
        have d' : Data.seq vs.toArray _ = Data.dict es ep := d
        cases d'
    have nsK : ∀ {b : Addr} {m : Str → Option Value}, s₁.heap.Ns b m → (hidT s₁.heap H).Ns b m := fun {b m} ⟨o, es, ep, e, d, r⟩ => ⟨o, es, ep, base_of e (noA e d), d, r⟩
    have hKb : K.In (hidT s₁.heap H) := fun b o e => base_of (KX b o e) (by
      cases q : H b with
      | none => rfl
      | some u =>
        have e' : b = a := hA b (by rw [q]; simp)
        subst e'
        rw [hK (by rw [q]; simp)] at e; cases e)
    have hM : Mod K mg (hidT s₁.heap H) := ⟨hKb, nsK hns, ⟨mb, nsK hb, hbb⟩, let ⟨mc, h1, h2⟩ := hlim; ⟨mc, nsK h1, h2⟩⟩
    have e0 : Env0 P w K mg (hidT s₁.heap H) callerA [] s₁ H := ⟨rfl, hM, fun b o e => of_hidT e, Nat.le_of_eq (hidT_size _ _), trivial, fun b hb => absurd (show b ∈ ([] : List Addr) from hb) (by simp), hok, .of_eq hg⟩
    refine codeAny_mono ((F _ hKb (nsK hns)).run callerA [] s₁ H ⟨[.ref a], []⟩ [.ref a] [.ref a] _ _ hr e0 (hbind s₁ (.ref a)) (.cons rfl .nil) (hsp H hO hS)) fun r s' h => ?_
    cases r with
    | error e => exact (hCX H e s' h).elim
    | ok fl =>
      cases fl with
      | next => exact False.elim h
      | brk => exact False.elim h
      | cont => exact False.elim h
      | ret u =>
        obtain ⟨v, H', os, bare, un, hok', r', q⟩ := h
        have q' : v = .bl true := q
        subst q'
        obtain rfl : u = Value.bool true := r'
        refine ⟨rfl, OldK.of_keep fun b o e => ?_, os, bare⟩
        cases q : H b with
        | none => exact un.keep b o e q (by intro z; exact absurd (show b ∈ ([] : List Addr) from z) (by simp)) (by simp)
        | some u =>
          rcases hO b with z | ⟨ob, xs, z⟩
          · rw [q] at z; cases z
          · have z2 := un.frzs b ob _ z
            obtain ⟨e1, _⟩ := hok b _ z
            obtain ⟨e2, _⟩ := hok' b _ z2
            rw [e] at e1; cases e1
            exact e2
  cases hk : K.lookup a with
  | some o =>
    -- the script is one of the module's own objects
    have e := KX a o hk
    rw [ha] at e
    cases e
    refine core (fun _ => none) (fun _ => .inl rfl) (.inr ⟨_, vs.toArray, _, hk, rfl, rfl, rfl, by rw [List.size_toArray, lenV]; exact hl, by simpa using rv⟩) (fun b u z => by have z' : (none : Option HO) = some u := z; cases z') (fun b z => absurd rfl z) fun z => absurd rfl z
  | none =>
    refine core (fun b => if b = a then some (.frz { cls := .type "list", data := .seq vs.toArray } (.lst (ns.map V.int))) else none) (fun b => ?_) (.inl (.inr ⟨{ cls := .type "list", data := .seq vs.toArray }, if_pos rfl⟩)) (fun b u z => ?_) (fun b z => ?_) fun _ => hk
    · by_cases hb : b = a
      · exact .inr ⟨_, _, if_pos hb⟩
      · exact .inl (if_neg hb)
    · by_cases hb : b = a
      · have z' := (if_pos hb).symm.trans z
        cases z'
        subst hb
        exact ⟨ha, by rw [List.length_map]; exact hl, vs, _, rv, ha⟩
      · have z' := (if_neg hb).symm.trans z
        cases z'
    · by_cases hb : b = a
      · exact hb
      · exact absurd (if_neg hb) z
end L2

namespace L2
open PySem PySem.Spec PyProof.Rows

theorem walk_of {l : PySem.W.OpenLaw} {n k : Nat} {q : Program} {loose : List Str} {XP : (Str → Option Value) → Heap → Prop} {YP : World → Heap → Prop} {d : DefRec} {K : Params → PySem.W.Frag} {CX : World → CXT} {sp : World → Sp} {x : Str}
    (hn : l.most = some n) (hn2 : n ≤ sizeLine) (hdf : d.params.defaults = []) (hr : Room k callerA)
    (hY : ∀ (w : World) (h : Heap), YP w h → (K w.params).In h)
    (F : ∀ (w : World) (mg : Str → Option Value) (fa : Addr) (h : Heap), (K w.params).In h → h.Ns mainGlobals mg → mg d.name = some (.ref fa) →
      ∃ fd : FuncData, (∀ (s : Shared) (u : Value), BindsTo s fd ⟨[u], []⟩ [(x, u)]) ∧
        ∀ base : Heap, (K w.params).In base → base.Ns mainGlobals mg → FnOk l.prog w (K w.params) mg base (CX w) k fa fd [x] (sp w))
    (hsp : ∀ (w : World) (H : Hp) (a : Addr) (ns : List Int), ns.length ≤ n → Only H → SqL (K w.params) H a (ns.map V.int) → sp w [.ref a] H (fun v _ => v = .bl true) fun _ _ _ => False)
    (hCX : ∀ (w : World) (H : Hp) (s : Shared) (e : Value) (s' : Shared), CX w [] H s (fun _ _ _ => False) e s' → False) :
    PySem.W.WalkO q loose XP YP l.row.toRowW d [] (fun f vs => PySem.call f vs) := by
  refine Att.attach_call hn hdf fun w s₀ s₁ mg mb fa o pm cd doc a vs ns G Y ho hd hcd hmg hobj hints hlen hg => ?_
  have KX := hY w _ Y
  obtain ⟨fd, hb, hF⟩ := F w mg fa _ KX G.T.g hmg
  exact law_call KX G.T.g G.T.b G.T.builtins G.T.nolimit hg hobj hints (Nat.le_trans hlen hn2) hr hF hb (fun H hO hS => hsp w H a ns hlen hO hS) fun H e s' => hCX w H s₁ e s'
end L2

/- THE LAST THEOREM (shape; LID, My.* are yours):
   My.Adr: a structure of the addresses that your layer names (classes, functions); My.Txt K t: a structure (Prop) of the equations over K;
   My.txt_mk : {K} {implicit addresses ..} (e1 : nsIn K mainGlobals "law" = some (some (.ref f))) (e2 : K.lookup f = some ⟨oc, od, .func (fnOf "law" "law" params body scope dV kV doc pm an cdv ct), sl⟩) (e3 : codeIn K cdv "law" = true) .. : ∃ t, My.Txt K t

set_option maxRecDepth 100000 in
set_option maxHeartbeats 0 in
theorem PySem.Challenge.cw_LID_holds : PySem.Challenge.rw_LID.Holds := by
  w_on; o_law; k_head; (case hw => w_witness2)
  k_fill
  refine L2.walk_of (l := PySem.Challenge.rw_LID) (n := 63) (k := 40) (x := "script") (CX := fun w => ..) (sp := fun _ => My.sp_law) rfl (by decide) rfl ⟨rfl, by decide, by decide⟩ (fun w h Y => PySem.W.kIn_of Y) ?F ?S ?C
  case F =>
    intro w mg fa h KX G hmg
    have T : ∃ t, My.Txt (L2.KOf KX) t := by
      dsimp only [L2.KOf]                          -- K must stand as «<heap const> w.params» for k_is
      refine' My.txt_mk ?e1 ?e2 ?e3 ..
      (case e1 => PySem.W.k_is)                    -- in the order: a name -> its address -> its object -> its parts
      (case e2 => PySem.W.k_is)
      ..
    obtain ⟨t, T⟩ := T
    have e0 := hmg.symm.trans (PySem.W.mg_of KX G T.law)
    cases e0                                       -- fa is the law's own address
    exact ⟨_, fun s u => .of_eq rfl, fun base kb nb => My.law_fn T kb nb⟩     -- if «.of_eq rfl» comes too early: refine' ⟨_, ?b, fun base kb nb => My.law_fn T kb nb⟩; exact fun s u => .of_eq rfl
  case S => exact fun w H a ns hl hO hS => ..
  case C => exact ..
(the tactic k_is has no namespace: write k_is) -/

namespace L2
open PySem PySem.Spec PyProof.Rows

noncomputable def inClass (s : Stmt) (j : Nat) : Stmt := match s with
  | .ClassDef _ _ _ body _ _ _ _ _ _ _ => body.getD j (.Pass ⟨0, 0, 0, 0⟩)
  | _ => .Pass ⟨0, 0, 0, 0⟩
noncomputable def defArgs (s : Stmt) : Arguments := match s with
  | .FunctionDef _ a _ _ _ _ _ _ _ _ => a
  | _ => { posonlyargs := [], args := [], vararg := none, kwonlyargs := [], kw_defaults := [], kwarg := none, defaults := [] }
noncomputable def defBody (s : Stmt) : List Stmt := match s with
  | .FunctionDef _ _ b _ _ _ _ _ _ _ => b
  | _ => []
noncomputable def defScope (s : Stmt) : Scope := match s with
  | .FunctionDef _ _ _ _ _ _ sc _ _ _ => sc
  | _ => { kind := .function, names := [], isGenerator := false, isCoroutine := false }

noncomputable abbrev CX0 : CXT := fun _ _ _ _ _ _ => False
noncomputable abbrev E0 : XK := fun _ _ _ => False
theorem pass0 {X : Cx} : Passes CX0 X E0 := fun _ _ _ _ _ _ _ h => h.elim

structure Fun (K : PySem.W.Frag) (x qual : Str) (st : Stmt) (f : Addr) (fd : FuncData) : Prop where
  ex : ∃ (oc : Value) (od : Option Addr) (kV doc pm : Value) (an : Option Addr) (cdv ct : Value) (osl : Array (Option Value)),
    fd = PySem.W.fnOf x qual (defArgs st) (defBody st) (defScope st) .none kV doc pm an cdv ct ∧ K.lookup f = some ⟨oc, od, .func fd, osl⟩ ∧ PySem.W.codeIn K cdv qual = true
  kp : PySem.W.keepIn K (.ref f) = true
section
variable {P : Program} {w : World} {K : PySem.W.Frag} {mg : Str → Option Value} {base : Heap}
theorem Fun.ok {x qual : Str} {st : Stmt} {f : Addr} {fd : FuncData} {N ps : List Str} {k : Nat} {sp : Sp} (F : Fun K x qual st f fd) (S : FnScope N ps (defScope st)) (len : ∀ vs H Q E, sp vs H Q E → vs.length = ps.length)
    (hbody : ∀ (cdv : Value) (A : Around) (outer : List Env) (s : Shared) (H : Hp) (vs : List V) (Q : VK) (E : XK), Room k (A.deeper (envOfC qual (defScope st) s.heap.objs.size f cdv)) → sp vs H Q E →
      ∃ t, PSs (cxOf CX0 P w K mg base N qual (defScope st) f cdv A outer s H E).nox (defBody st) t ∧ t { nx := fun _ H' => Q .non H', rt := Q } (start N vs) H) : FnOk P w K mg base CX0 (k + 1) f fd ps sp := by
  obtain ⟨oc, od, kV, doc, pm, an, cdv, ct, osl, rfl, lk, hcd⟩ := F.ex
  refine fn_of lk hcd S len fun A outer s H vs Q E hr hsp => ?_
  obtain ⟨t, h, q⟩ := hbody cdv A outer s H vs Q E hr hsp
  exact ⟨t, h.nox, q⟩
theorem Fun.binds {x qual : Str} {st : Stmt} {f : Addr} {fd : FuncData} {ps : List Str} (F : Fun K x qual st f fd)
    (h : ∀ (kV doc pm : Value) (an : Option Addr) (cdv ct : Value) (us : List Value), us.length = ps.length → bindArgs (PySem.W.fnOf x qual (defArgs st) (defBody st) (defScope st) .none kV doc pm an cdv ct) ⟨us, []⟩ = pure (ps.zip us)) : Binds K fd ps [] := by
  obtain ⟨oc, od, kV, doc, pm, an, cdv, ct, osl, rfl, lk, hcd⟩ := F.ex
  exact .all (h kV doc pm an cdv ct)
theorem fun_mk {x qual : Str} {st : Stmt} {f : Addr} {oc : Value} {od an : Option Addr} {osl : Array (Option Value)} {kV doc pm cdv ct : Value} (l : K.lookup f = some ⟨oc, od, .func (PySem.W.fnOf x qual (defArgs st) (defBody st) (defScope st) .none kV doc pm an cdv ct), osl⟩)
    (c : PySem.W.codeIn K cdv qual = true) (k : PySem.W.keepIn K (.ref f) = true) : Fun K x qual st f (PySem.W.fnOf x qual (defArgs st) (defBody st) (defScope st) .none kV doc pm an cdv ct) := ⟨⟨oc, od, kV, doc, pm, an, cdv, ct, osl, rfl, l, c⟩, k⟩
end
theorem hu_of {A : Around} {k : Nat} (hr : Room k A) : A.units + 1 < cLine := Nat.lt_of_le_of_lt (Nat.add_le_add_left (by decide : 1 ≤ 64) _) hr.units
section
variable {X : Cx}
theorem pv (i : Nat) {x : Str} {pos : Pos} (hN : X.N[i]? = some x := by rfl) (hv : Vis X.env.scope x := by first | exact Or.inl rfl | exact Or.inr (Or.inl rfl) | exact Or.inr (Or.inr rfl)) (hd : (x == ("__debug__" : Str)) = false := by decide)
    (hcd : (x == ("__classdict__" : Str)) = false := by decide) : PE X (.Name x pos) (tVar i) := pe_var hN hv hd hcd
end

theorem iteF {A B : Prop} (h : B) : if false = true then A else B := by
  rw [if_neg Bool.false_ne_true]
  exact h
theorem iteT {A B : Prop} (h : A) : if true = true then A else B := by
  rw [if_pos rfl]
  exact h
theorem ite2 {c A B : Prop} [Decidable c] (h1 : c → A) (h2 : ¬ c → B) : if c then A else B := by
  by_cases h : c
  · rw [if_pos h]
    exact h1 h
  · rw [if_neg h]
    exact h2 h
noncomputable def Same (H H' : Hp) : Prop := ∀ b o, H b = some o → H' b = some o
theorem Same.refl (H : Hp) : Same H H := fun _ _ h => h
theorem Same.trans {H H1 H2 : Hp} (a : Same H H1) (b : Same H1 H2) : Same H H2 := fun c o h => b c o (a c o h)
theorem Same.seq {K : PySem.W.Frag} {H H' : Hp} {a : Addr} {xs : List V} (e : Same H H') (h : SqL K H a xs) : SqL K H' a xs := by
  rcases h with (h | ⟨o, h⟩) | h
  · exact .inl (.inl (e _ _ h))
  · exact .inl (.inr ⟨o, e _ _ h⟩)
  · exact .inr h

end L2

namespace L2
open PySem PySem.Spec PyProof.Rows

section
variable {κ : Type} [DecidableEq κ]
noncomputable def valV (kvs : List (κ × V)) (k : κ) : Option V := (kvs.find? fun kv => decide (kv.1 = k)).map (·.2)
noncomputable def putK (kvs : List (κ × V)) (k : κ) (v : V) : List (κ × V) :=
  if (kvs.any fun kv => decide (kv.1 = k)) = true then kvs.map (fun kv => if kv.1 = k then (kv.1, v) else kv) else kvs ++ [(k, v)]
noncomputable def dropK (kvs : List (κ × V)) (k : κ) : List (κ × V) := kvs.filter fun kv => decide (kv.1 ≠ k)

theorem valV_pos {p : κ × V} {r : List (κ × V)} {k : κ} (e : p.1 = k) : valV (p :: r) k = some p.2 := by simp [valV, List.find?_cons, e]
theorem valV_neg {p : κ × V} {r : List (κ × V)} {k : κ} (e : ¬ p.1 = k) : valV (p :: r) k = valV r k := by simp [valV, List.find?_cons, e]
theorem valV_any (k : κ) : ∀ kvs : List (κ × V), (kvs.any fun kv => decide (kv.1 = k)) = (valV kvs k).isSome
  | [] => rfl
  | p :: r => by
    rw [List.any_cons]
    by_cases e : p.1 = k
    · simp only [valV_pos e, decide_eq_true e, Bool.true_or, Option.isSome_some]
    · rw [valV_neg e, decide_eq_false e, Bool.false_or]; exact valV_any k r
theorem length_putK (kvs : List (κ × V)) (k : κ) (v : V) : (putK kvs k v).length ≤ kvs.length + 1 := by
  unfold putK
  split
  · rw [List.length_map]; omega
  · rw [List.length_append, List.length_cons, List.length_nil]; omega
theorem putK_new {kvs : List (κ × V)} {k : κ} (v : V) (h : valV kvs k = none) : putK kvs k v = kvs ++ [(k, v)] := by
  unfold putK
  rw [valV_any, h]
  exact if_neg (by decide)

theorem RelO.isSome_eq {o : Option V} {u : Option Value} (r : RelO o u) : o.isSome = u.isSome := by
  cases o with
  | none => cases u with
    | none => rfl
    | some _ => exact (show False from r).elim
  | some _ => cases u with
    | none => exact (show False from r).elim
    | some _ => rfl
theorem KV.val {kvs : List (κ × V)} {vs : List (κ × Value)} (r : KV kvs vs) (k : κ) : RelO (valV kvs k) (valueAt vs k) := by
  unfold KV at r
  induction r with
  | nil => exact True.intro
  | @cons p q ps qs h t ih =>
    obtain ⟨h1, h2⟩ := h
    by_cases e : p.1 = k
    · have e' : q.1 = k := h1.symm.trans e
      have b : valueAt (q :: qs) k = some q.2 := by simp [valueAt, List.find?_cons, e']
      rw [valV_pos e, b]; exact h2
    · have e' : ¬ q.1 = k := fun z => e (h1.trans z)
      have b : valueAt (q :: qs) k = valueAt qs k := by simp [valueAt, List.find?_cons, e']
      rw [valV_neg e, b]; exact ih
theorem KV.any {kvs : List (κ × V)} {vs : List (κ × Value)} (r : KV kvs vs) (k : κ) : (kvs.any fun kv => decide (kv.1 = k)) = vs.any fun kv => decide (kv.1 = k) := by
  unfold KV at r
  induction r with
  | nil => rfl
  | cons h t ih => rw [List.any_cons, List.any_cons, ih, h.1]
theorem KV.repl {kvs : List (κ × V)} {vs : List (κ × Value)} (r : KV kvs vs) (k : κ) {y : V} {u : Value} (ry : RelV y u) :
    KV (kvs.map fun kv => if kv.1 = k then (kv.1, y) else kv) (vs.map fun kv => if kv.1 = k then (kv.1, u) else kv) := by
  unfold KV at r ⊢
  induction r with
  | nil => exact .nil
  | @cons p q ps qs h t ih =>
    rw [List.map_cons, List.map_cons]
    refine .cons ?_ ih
    obtain ⟨h1, h2⟩ := h
    by_cases e : p.1 = k
    · rw [if_pos e, if_pos (h1.symm.trans e)]; exact ⟨h1, ry⟩
    · rw [if_neg e, if_neg (fun z => e (h1.trans z))]; exact ⟨h1, h2⟩
theorem KV.put {kvs : List (κ × V)} {vs : List (κ × Value)} (r : KV kvs vs) (k : κ) {y : V} {u : Value} (ry : RelV y u) : KV (putK kvs k y) (stored vs k u) := by
  unfold putK stored
  rw [r.any k]
  by_cases e : (vs.any fun kv => decide (kv.1 = k)) = true
  · rw [if_pos e, if_pos e]; exact r.repl k ry
  · rw [if_neg e, if_neg e]; exact Paired.snoc r ⟨rfl, ry⟩
theorem KV.drop {kvs : List (κ × V)} {vs : List (κ × Value)} (r : KV kvs vs) (k : κ) : KV (dropK kvs k) (without vs k) := by
  unfold KV at r ⊢
  unfold dropK without
  induction r with
  | nil => exact .nil
  | @cons p q ps qs h t ih =>
    obtain ⟨h1, h2⟩ := h
    rw [List.filter_cons, List.filter_cons]
    by_cases e : p.1 = k
    · have a : ¬ decide (p.1 ≠ k) = true := by simp [e]
      have b : ¬ decide (q.1 ≠ k) = true := by simp [h1.symm.trans e]
      rw [if_neg a, if_neg b]; exact ih
    · have e' : ¬ q.1 = k := fun z => e (h1.trans z)
      have a : decide (p.1 ≠ k) = true := by simp [e]
      have b : decide (q.1 ≠ k) = true := by simp [e']
      rw [if_pos a, if_pos b]; exact .cons ⟨h1, h2⟩ ih
theorem KV.keys {kvs : List (κ × V)} {vs : List (κ × Value)} (r : KV kvs vs) : kvs.map (·.1) = vs.map (·.1) := by
  unfold KV at r
  induction r with
  | nil => rfl
  | cons h t ih => rw [List.map_cons, List.map_cons, ih, h.1]
theorem KV.length {kvs : List (κ × V)} {vs : List (κ × Value)} (r : KV kvs vs) : kvs.length = vs.length := Paired.length r
theorem dropK_le (kvs : List (κ × V)) (k : κ) : (dropK kvs k).length ≤ kvs.length := List.length_filter_le _ _
end


theorem kV_is {P : Program} {w : World} {k : Key} {u : Value} (r : RelV (kV k) u) : (mixKind P w).is k u = true := by
  cases k with
  | inl i => obtain ⟨t, e⟩ := (show ∃ t, u = Value.int i t from r); subst e; exact mixKind_int P w i t
  | inr x => obtain ⟨t, e⟩ := (show ∃ t, u = Value.str x t from r); subst e; exact mixKind_str P w x t
theorem items_are {P : Program} {w : World} : ∀ {ks : List Key} {us : List Value}, Vals (ks.map kV) us → ItemsAre (mixKind P w) ks us
  | [], _, r => by rw [List.map_nil] at r; cases r; exact .nil
  | k :: ks, _, r => by
    rw [List.map_cons] at r
    cases r with
    | cons h t => exact .cons (kV_is h) (items_are t)

noncomputable abbrev KT (H : Hp) : List (List Key × V) → List (List Key × Addr × Value) → Prop := Paired fun p q => p.1 = q.1 ∧ H q.2.1 = some (.tup (p.1.map kV)) ∧ RelV p.2 q.2.2
theorem KT.val {H : Hp} {kvs : List (List Key × V)} {xs : List (List Key × Addr × Value)} (r : KT H kvs xs) (k : List Key) : RelO (valV kvs k) ((atKey xs k).map (·.2)) := by
  induction r with
  | nil => exact True.intro
  | @cons p q ps qs h t ih =>
    obtain ⟨h1, _, h2⟩ := h
    by_cases e : p.1 = k
    · have e' : q.1 = k := h1.symm.trans e
      have b : atKey (q :: qs) k = some q.2 := by simp [atKey, List.find?_cons, e']
      rw [valV_pos e, b]; exact h2
    · have e' : ¬ q.1 = k := fun z => e (h1.trans z)
      have b : atKey (q :: qs) k = atKey qs k := by simp [atKey, List.find?_cons, e']
      rw [valV_neg e, b]; exact ih
theorem KT.repl {H : Hp} {kvs : List (List Key × V)} {xs : List (List Key × Addr × Value)} (r : KT H kvs xs) (k : List Key) {y : V} {u : Value} (ry : RelV y u) :
    KT H (kvs.map fun kv => if kv.1 = k then (kv.1, y) else kv) (xs.map (putAt k u)) := by
  induction r with
  | nil => exact .nil
  | @cons p q ps qs h t ih =>
    rw [List.map_cons, List.map_cons]
    refine .cons ?_ ih
    obtain ⟨h1, h2, h3⟩ := h
    unfold putAt
    by_cases e : p.1 = k
    · rw [if_pos e, if_pos (h1.symm.trans e)]; exact ⟨h1, h2, ry⟩
    · rw [if_neg e, if_neg (fun z => e (h1.trans z))]; exact ⟨h1, h2, h3⟩
theorem KT.put {H : Hp} {kvs : List (List Key × V)} {xs : List (List Key × Addr × Value)} (r : KT H kvs xs) (k : List Key) {b : Addr} {y : V} {u : Value} (hb : H b = some (.tup (k.map kV))) (ry : RelV y u) :
    KT H (putK kvs k y) (storedH xs k b u) := by
  have e : (kvs.any fun kv => decide (kv.1 = k)) = (atKey xs k).isSome := by
    rw [valV_any, (r.val k).isSome_eq, Option.isSome_map]
  unfold putK storedH
  rw [e]
  by_cases q : (atKey xs k).isSome = true
  · rw [if_pos q, if_pos q]; exact r.repl k ry
  · rw [if_neg q, if_neg q]; exact Paired.snoc r ⟨rfl, hb, ry⟩
theorem KT.keeps {H H' : Hp} {kvs : List (List Key × V)} {xs : List (List Key × Addr × Value)} (r : KT H kvs xs) (ht : ∀ b ys, H b = some (.tup ys) → H' b = some (.tup ys)) : KT H' kvs xs :=
  Paired.mapP r fun _ _ z => ⟨z.1, ht _ _ z.2.1, z.2.2⟩

section
variable {P : Program} {w : World} {H : Hp} {h : Heap} {a : Addr}
theorem rd_of {u : HO} (ok : HOk P w H h) (e : Rd H a u) : ObjOk P w H h a u := e.ok ok
theorem dk_rd {kvs : List (Key × V)} (ok : HOk P w H h) (e : Rd H a (.dK kvs)) : kvs.length ≤ sizeLine ∧ (a == sysModules) = false ∧ ∃ vs, KV kvs vs ∧ h.DictOf (mixKind P w) a vs :=
  show ObjOk P w H h a (.dK kvs) from rd_of ok e
theorem dk_of {kvs : List (Key × V)} (ok : HOk P w H h) (e : H a = some (.dK kvs)) : kvs.length ≤ sizeLine ∧ (a == sysModules) = false ∧ ∃ vs, KV kvs vs ∧ h.DictOf (mixKind P w) a vs := dk_rd ok (.inl e)
theorem key_of {ks : List Key} (ok : HOk P w H h) (e : H a = some (.tup (ks.map kV))) : (tupleKind (mixKind P w)).is h ks a := by
  obtain ⟨_, its, r, o, h1, h2, n, h3⟩ := (show ObjOk P w H h a (.tup (ks.map kV)) from ok a _ e)
  exact ⟨o, its.toArray, n, h1, h2, h3, by simpa using items_are r⟩
theorem dt_rd {kvs : List (List Key × V)} (ok : HOk P w H h) (e : Rd H a (.dT kvs)) : kvs.length ≤ sizeLine ∧ (a == sysModules) = false ∧
    ∃ xs, KT H kvs xs ∧ h.DictOfH (tupleKind (mixKind P w)) a xs := by
  obtain ⟨z, y, xs, r, o, es, ep, h1, h2, h3, h4, h5⟩ := (show ObjOk P w H h a (.dT kvs) from rd_of ok e)
  refine ⟨z, y, xs, r, o, es, ep, h1, h2, h3, h4, fun x hx => ?_, h5⟩
  have all : ∀ {l : List (List Key × V)} {m : List (List Key × Addr × Value)}, KT H l m → ∀ x ∈ m, (tupleKind (mixKind P w)).is h x.1 x.2.1 := by
    intro l m q
    induction q with
    | nil => intro x hx; exact nomatch hx
    | @cons p q ps qs hq t ih =>
      intro x hx
      rcases List.mem_cons.mp hx with e | hx
      · subst e
        exact key_of ok (by rw [← hq.1]; exact hq.2.1)
      · exact ih x hx
  exact all r x hx
theorem dt_of {kvs : List (List Key × V)} (ok : HOk P w H h) (e : H a = some (.dT kvs)) : kvs.length ≤ sizeLine ∧ (a == sysModules) = false ∧
    ∃ xs, KT H kvs xs ∧ h.DictOfH (tupleKind (mixKind P w)) a xs := dt_rd ok (.inl e)
end

noncomputable def DGet (H : Hp) (a : Addr) (y : V) (r : Option V) : Prop :=
  (∃ kvs k, Rd H a (.dK kvs) ∧ y = kV k ∧ r = valV kvs k) ∨ ∃ kvs k b, Rd H a (.dT kvs) ∧ y = .ref b ∧ H b = some (.tup (k.map kV)) ∧ r = valV kvs k
noncomputable def DPut (H : Hp) (a : Addr) (y v : V) (H' : Hp) : Prop :=
  (∃ kvs k, H a = some (.dK kvs) ∧ y = kV k ∧ kvs.length < sizeLine ∧ H' = upd H a (.dK (putK kvs k v))) ∨
  ∃ kvs k b, H a = some (.dT kvs) ∧ y = .ref b ∧ H b = some (.tup (k.map kV)) ∧ kvs.length < sizeLine ∧ H' = upd H a (.dT (putK kvs k v))
theorem DGet.k {H : Hp} {a : Addr} {kvs : List (Key × V)} {k : Key} (e : H a = some (.dK kvs)) : DGet H a (kV k) (valV kvs k) := .inl ⟨kvs, k, .inl e, rfl, rfl⟩
theorem DPut.k {H : Hp} {a : Addr} {kvs : List (Key × V)} {k : Key} {v : V} (e : H a = some (.dK kvs)) (hl : kvs.length < sizeLine) : DPut H a (kV k) v (upd H a (.dK (putK kvs k v))) := .inl ⟨kvs, k, e, rfl, hl, rfl⟩
section
variable {X : Cx} {pins : List (Addr × Obj)} {σ : St} {H : Hp} {s : Shared} {a : Addr} {y v : V} {u r : Value} {o : Option V} {A : Around} {E : Value → Shared → Prop}

theorem Inv.big (I : Inv X pins σ H s) : sysModules < s.heap.objs.size := by
  have h : mainGlobals < s.heap.objs.size := (I.mod.glob.keeps I.bk).lt
  exact Nat.lt_trans (by decide) h

theorem d_getItem {Q : Value → Shared → Prop} (hu : A.units + 1 < cLine) (I : Inv X pins σ H s) (g : DGet H a y (some v)) (ry : RelV y u) (h : ∀ w' s', Inv X pins σ H s' → RelV v w' → Q w' s') :
    wpAny (model X.prog X.w) A (getItem (.ref a) u) Q E s := by
  rcases g with ⟨kvs, k, e, ey, l⟩ | ⟨kvs, k, b, e, ey, eb, l⟩
  · subst ey
    obtain ⟨z, hd, vs, rel, dd⟩ := dk_rd I.hok e
    obtain ⟨w', hw, rw'⟩ := RelO.some_of (v := v) (o := valueAt vs k) (by rw [l]; exact rel.val k)
    exact wpAny_getItem_of (kV_is ry) dd.mapOf hw (h w' _ (I.tok _) rw')
  · subst ey
    cases (show u = Value.ref b from ry)
    obtain ⟨z, hd, xs, rel, dd⟩ := dt_rd I.hok e
    obtain ⟨w', hw, rw'⟩ := RelO.some_of (v := v) (o := (atKey xs k).map (·.2)) (by rw [l]; exact rel.val k)
    obtain ⟨p, hp, hp2⟩ := Option.map_eq_some_iff.mp hw
    refine wpAny_getItem_heap (tupleKind_room_in1 hu) (key_of I.hok eb) dd hp ?_
    rw [hp2]
    exact h w' _ (I.tok _) rw'
theorem d_notIn {Q : Value → Shared → Prop} (hu : A.units + 1 < cLine) (I : Inv X pins σ H s) (g : DGet H a y o) (ry : RelV y u) (h : ∀ s', Inv X pins σ H s' → Q (.bool (!o.isSome)) s') :
    wpAny (model X.prog X.w) A (compareOp .NotIn u (.ref a)) Q E s := by
  rcases g with ⟨kvs, k, e, ey, l⟩ | ⟨kvs, k, b, e, ey, eb, l⟩
  · subst ey
    obtain ⟨z, hd, vs, rel, dd⟩ := dk_rd I.hok e
    refine wpAny_notIn_of (kV_is ry) hd dd.mapOf ?_
    rw [← (rel.val k).isSome_eq, ← l]
    exact h _ (I.tok _)
  · subst ey
    cases (show u = Value.ref b from ry)
    obtain ⟨z, hd, xs, rel, dd⟩ := dt_rd I.hok e
    refine wpAny_notIn_heap (tupleKind_room_in1 hu) (key_of I.hok eb) hd dd ?_
    have q := (rel.val k).isSome_eq
    rw [Option.isSome_map] at q
    rw [← q, ← l]
    exact h _ (I.tok _)
theorem d_write {h' : Heap} {t' : Nat} {ob : HO} (I : Inv X pins σ H s) (mu : Mut (H a)) (hs : Heap.SameBut a s.heap h') (he : ∃ q, h'.get? a = some q) (new : ObjOk X.prog X.w (upd H a ob) h' a ob) :
    Inv X pins σ (upd H a ob) { s with heap := h', toks := t' } :=
  I.write (x := a) (e := a) mu (.inl rfl) (fun b q hb z => (hs.2 b hb).trans z) he new
theorem dk_new {P : Program} {w : World} {H' : Hp} {h' : Heap} {kvs : List (Key × V)} {vs : List (Key × Value)} (z : kvs.length ≤ sizeLine) (hd : (a == sysModules) = false) (rel : KV kvs vs) (dd : h'.DictOf (mixKind P w) a vs) :
    ObjOk P w H' h' a (.dK kvs) := ⟨z, hd, vs, rel, dd⟩
theorem d_setItem {H' : Hp} {Q : Unit → Shared → Prop} (hu : A.units + 1 < cLine) (I : Inv X pins σ H s) (g : DPut H a y v H') (ry : RelV y u) (rv : RelV v r) (h : ∀ s', Inv X pins σ H' s' → Q () s') :
    wpAny (model X.prog X.w) A (setItem (.ref a) u r) Q E s := by
  rcases g with ⟨kvs, k, e, ey, l, eH⟩ | ⟨kvs, k, b, e, ey, eb, l, eH⟩
  · subst ey eH
    obtain ⟨z, hd, vs, rel, dd⟩ := dk_of I.hok e
    have hz : vs.length ≤ sizeLine := by rw [← rel.length]; exact z
    have hl : (putK kvs k v).length ≤ sizeLine := by have := length_putK kvs k v; omega
    refine wpAny_setItem_pairs (hsz := hz) (kV_is ry) dd fun h' dd' hs => h _ ?_
    have he : ∃ q, h'.get? a = some q := let ⟨q, _, _, hq, _⟩ := dd'; ⟨q, hq⟩
    exact d_write I (by rw [e]; exact True.intro) hs he (dk_new hl hd (rel.put k rv) dd')
  · subst ey eH
    cases (show u = Value.ref b from ry)
    obtain ⟨z, hd, xs, rel, dd⟩ := dt_of I.hok e
    have hz : xs.length ≤ sizeLine := by rw [← Paired.length rel]; exact z
    have hl : (putK kvs k v).length ≤ sizeLine := by have := length_putK kvs k v; omega
    refine wpAny_setItem_heap (hsz := hz) (tupleKind_room_in1 hu) (key_of I.hok eb) dd fun h' dd' hs => h _ ?_
    obtain ⟨q, es, ep, hq, h2, h3, h4, _, h5⟩ := dd'
    refine d_write I (by rw [e]; exact True.intro) hs ⟨q, hq⟩ ⟨hl, hd, _, (rel.put k eb rv).keeps fun c ys ec => ?_, q, es, ep, hq, h2, h3, h4, h5⟩
    rw [upd_ne (ne_of ec e (fun z => nomatch z))]
    exact ec
end

section
variable {X : Cx} {pins : List (Addr × Obj)} {σ : St} {H : Hp} {s : Shared} {a : Addr} {kvs : List (Key × V)} {k : Key} {u : Value} {A : Around} {E : Value → Shared → Prop}
theorem d_pop {v : V} {more : List Value} {Q : Value → Shared → Prop} (I : Inv X pins σ H s) (e : H a = some (.dK kvs)) (ry : RelV (kV k) u) (l : valV kvs k = some v) (hm : more = [] ∨ ∃ x, more = [x])
    (h : ∀ w' s', Inv X pins σ (upd H a (.dK (dropK kvs k))) s' → RelV v w' → Q w' s') : wpAny (model X.prog X.w) A (call (.builtin "dict.pop") (.ref a :: u :: more)) Q E s := by
  obtain ⟨z, hd, vs, rel, dd⟩ := dk_of I.hok e
  obtain ⟨w', hw, rw'⟩ := RelO.some_of (v := v) (o := valueAt vs k) (by rw [← l]; exact rel.val k)
  have hp : (keyPart u).isSome = true := by
    cases k with
    | inl i => obtain ⟨t, q⟩ := (show ∃ t, u = Value.int i t from ry); subst q; rfl
    | inr x => obtain ⟨t, q⟩ := (show ∃ t, u = Value.str x t from ry); subst q; rfl
  have ha : argsOk "dict.pop" ⟨.ref a :: u :: more, []⟩ := by
    rcases hm with q | ⟨x, q⟩
    · subst q; exact PySem.F.args_dict_pop_2 _ _
    · subst q; exact PySem.F.args_dict_pop_3 _ _ _
  refine call_meetsIn PySem.F.slot_dict_pop dd.typeIs PySem.F.entry_dict_pop ha (meets_dict_pop_there (mixKind X.prog X.w) a (kV_is ry) more hm hp)
    ⟨vs, w', dd, by rw [← rel.length]; exact z, hw, fun h' dd' hs => h w' _ ?_ rw'⟩
  have he : ∃ q, h'.get? a = some q := let ⟨q, _, _, hq, _⟩ := dd'; ⟨q, hq⟩
  exact d_write I (by rw [e]; exact True.intro) hs he (dk_new (Nat.le_trans (dropK_le kvs k) z) hd (rel.drop k) dd')
end


noncomputable def NoSl (i : Expr) : Prop := ∀ ov iv, subscripted i false ov iv = operate [ov, iv] (getItem ov iv)
theorem subD_of {prog : Program} {w : World} {A : Around} {E : Value → Shared → Prop} {s : Shared} {env : Env} {value slice : Expr} {pos : Pos} {T id : String} {Q : Value → Shared → Prop}
    (hl : typeLookup (.type T) "__getitem__" = pure (some (.builtin id))) (hs : NoSl slice)
    (h : wpAny (model prog w) A (eval value env) (fun o s₁ => wpAny (model prog w) A (eval slice env) (fun i s₂ => s₂.TypeIs o T ∧ wpAny (model prog w) A (getItem o i) Q E s₂) E s₁) E s) :
    wpAny (model prog w) A (eval (.Subscript value slice pos) env) Q E s := by
  refine Subscript_ (wpAny_mono h (fun o s₁ h₁ => wpAny_mono h₁ (fun i s₂ h₂ => ?_) fun _ _ x => x) fun _ _ x => x)
  obtain ⟨hT, h₂⟩ := h₂
  unfold subscriptTail
  refine wpAny_bind ?_
  rw [getitemInPython_of_ne hT.not_modules]
  refine wpAny_bind (wpAny_specialOf hT hl ?_)
  have fin : wpAny (model prog w) A (subscripted slice false o i) (fun r s₃ => wpAny (model prog w) A (letTemporaryGo value o r >>= fun _ => pure r) Q E s₃) E s₂ := by
    rw [hs o i]
    exact wpAny_operating (wpAny_mono h₂ (fun r s₃ h₃ => wpAny_bind (wpAny_letTemporaryGo (wpAny_pure h₃))) fun _ _ x => x)
  first
    | exact wpAny_pure (wpAny_bind fin)
    | exact wpAny_bind (wpAny_pure (wpAny_bind fin))
    | exact wpAny_bind fin

theorem dict_typeIs {X : Cx} {pins : List (Addr × Obj)} {σ : St} {H : Hp} {s : Shared} {a : Addr} {y : V} {o : Option V} (I : Inv X pins σ H s) (g : DGet H a y o) : s.TypeIs (.ref a) "dict" := by
  rcases g with ⟨kvs, k, e, _, _⟩ | ⟨kvs, k, b, e, _, _, _⟩
  · obtain ⟨_, _, vs, _, dd⟩ := dk_rd I.hok e
    exact dd.typeIs
  · obtain ⟨_, _, xs, _, dd⟩ := dt_rd I.hok e
    exact dd.typeIs
noncomputable def tDGet (td ty : TE) : TE := fun σ H Q => td σ H fun x H1 => ty σ H1 fun y H2 => ∃ a v, x = .ref a ∧ DGet H2 a y (some v) ∧ Q v H2
noncomputable def tDNotIn (ty td : TE) : TE := fun σ H Q => ty σ H fun y H1 => td σ H1 fun x H2 => ∃ a o, x = .ref a ∧ DGet H2 a y o ∧ Q (.bl (!o.isSome)) H2
noncomputable def sDPut (td ty tv : TE) : TS := fun D σ H => tv σ H fun v H1 => td σ H1 fun x H2 => ty σ H2 fun y H3 => ∃ a H4, x = .ref a ∧ DPut H3 a y v H4 ∧ D.nx σ H4
section
variable {X : Cx} {o i e value : Expr} {pos pos' tpos : Pos} {td ty tv : TE}
theorem pe_dget (hu : X.A.units + 1 < cLine) (ho : PE X o td) (hi : PE X i ty) (hs : NoSl i) : PE X (.Subscript o i pos) (tDGet td ty) := by
  intro pins s σ H Q I h
  refine subD_of PySem.F.slot_dict_getitem.lookup hs (thn (ho pins s σ H _ I h) fun u s1 ⟨x, H1, I1, rx, q1⟩ => thn (hi pins s1 σ H1 _ I1 q1) fun iv s2 ⟨y, H2, I2, ry, a, v, ex, g, q2⟩ => ?_)
  subst ex
  obtain rfl : u = Value.ref a := rx
  exact ⟨dict_typeIs I2 g, d_getItem hu I2 g ry fun w' s3 I3 rw' => ⟨v, H2, I3, rw', q2⟩⟩
theorem pc_dnotin (hu : X.A.units + 1 < cLine) (hi : PE X i ty) (ho : PE X o td) : PC X .NotIn i o (tDNotIn ty td) := by
  intro pins s σ H Q I h
  refine thn (hi pins s σ H _ I h) fun iv s1 ⟨y, H1, I1, ry, q1⟩ => thn (ho pins s1 σ H1 _ I1 q1) fun u s2 ⟨x, H2, I2, rx, a, ov, ex, g, q2⟩ => ?_
  subst ex
  obtain rfl : u = Value.ref a := rx
  exact d_notIn hu I2 g ry fun s3 I3 => ⟨.bl (!ov.isSome), H2, I3, rfl, q2⟩
theorem ps_dput (hu : X.A.units + 1 < cLine) (ho : PE X o td) (hi : PE X i ty) (hv : PE X value tv) (hs : swapsWith value (some (.Subscript o i pos')) pos.line X.env = pure false) :
    PS X (.Assign [.Subscript o i pos'] value pos) (sDPut td ty tv) := by
  intro pins s σ H D I h
  refine wpAny_Assign_Subscript (thn (hv pins s σ H _ I h) fun r s1 ⟨v, H1, I1, rv, q1⟩ => thn (ho pins s1 σ H1 _ I1 q1) fun u s2 ⟨x, H2, I2, rx, q2⟩ => thn (hi pins s2 σ H2 _ I2 q2) fun iv s3 ⟨y, H3, I3, ry, a, H4, ex, g, q3⟩ => ?_) hs
  subst ex
  obtain rfl : u = Value.ref a := rx
  exact d_setItem hu I3 g ry rv fun s4 I4 => ⟨σ, H4, I4, q3⟩
end


theorem dk_empty {P : Program} {w : World} {H : Hp} (h : Heap) (hb : sysModules < h.objs.size) : ObjOk P w H (h.push { cls := .type "dict", data := .dict #[] }) h.objs.size (.dK []) :=
  ⟨Nat.zero_le _, beq_eq_false_iff_ne.mpr (Ne.symm (Nat.ne_of_lt hb)), [], .nil, Heap.DictOf.new h⟩
noncomputable def tDNewK : TE := fun _ H Q => ∀ p, H p = none → Q (.ref p) (upd H p (.dK []))
section
variable {X : Cx} {pos : Pos}
theorem pe_dnewK : PE X (.Dict [] [] pos) tDNewK := fun pins s σ H Q I h =>
  wpAny_Dict_empty ⟨.ref s.heap.objs.size, _, I.laid (a := s.heap.objs.size) (o := .dK []) (t' := s.toks) (fun _ _ q => Heap.get?_push_of_some _ q) (Nat.le_refl _) (dk_empty s.heap I.big), rfl, h _ (I.hok.fresh (Nat.le_refl _))⟩
end

structure M1 (X : Cx) (o : Expr) (m : Str) (apos : Pos) (e : Expr) (cpos : Pos) : Prop where
  base : attributeBase o m X.env (eval o X.env) = eval o X.env
  few : ((backTo cpos (starEach [e] X.env)).all (fun x => !x.1) && (backToKw cpos (keywordEach [] X.env)).all (fun x => x.1.isSome)
    && decide (([e] : List Expr).length + ([] : List Keyword).length + (if ([] : List Keyword).isEmpty then 0 else 1) < 30)) = true
  line : (apos.endLine == cpos.line) = true
  trees : backTo cpos (starEach [e] X.env) = [(false, eval e X.env)]
structure M2 (X : Cx) (o : Expr) (m : Str) (apos : Pos) (e f : Expr) (cpos : Pos) : Prop where
  base : attributeBase o m X.env (eval o X.env) = eval o X.env
  few : ((backTo cpos (starEach [e, f] X.env)).all (fun x => !x.1) && (backToKw cpos (keywordEach [] X.env)).all (fun x => x.1.isSome)
    && decide (([e, f] : List Expr).length + ([] : List Keyword).length + (if ([] : List Keyword).isEmpty then 0 else 1) < 30)) = true
  line : (apos.endLine == cpos.line) = true
  trees : backTo cpos (starEach [e, f] X.env) = [(false, eval e X.env), (false, eval f X.env)]

noncomputable def IsD (H : Hp) (a : Addr) : Prop := (∃ kvs, Rd H a (.dK kvs)) ∨ ∃ kvs, Rd H a (.dT kvs)
theorem isD_at {X : Cx} {pins : List (Addr × Obj)} {σ : St} {H : Hp} {s : Shared} {a : Addr} (I : Inv X pins σ H s) (d : IsD H a) :
    s.TypeIs (.ref a) "dict" ∧ (∀ b, Value.ref a = .ref b → ∃ ob, s.heap.get? b = some ob ∧ ob.dict = none) ∧ (a == sysModules) = false := by
  rcases d with ⟨kvs, e⟩ | ⟨kvs, e⟩
  · obtain ⟨_, hd, vs, _, dd⟩ := dk_rd I.hok e
    refine ⟨dd.typeIs, fun b q => ?_, hd⟩
    cases q
    obtain ⟨ob, _, _, h1, h2, _⟩ := dd
    exact ⟨ob, h1, h2.2.1⟩
  · obtain ⟨_, hd, xs, _, dd⟩ := dt_rd I.hok e
    refine ⟨dd.typeIs, fun b q => ?_, hd⟩
    cases q
    obtain ⟨ob, _, _, h1, h2, _⟩ := dd
    exact ⟨ob, h1, h2.2.1⟩

section
variable {X : Cx} {pins : List (Addr × Obj)} {σ : St} {H : Hp} {s : Shared} {a : Addr} {y d : V} {u r : Value} {o : Option V} {A : Around} {E : Value → Shared → Prop}
end

noncomputable def tDPop1 (td ty : TE) : TE := fun σ H Q => td σ H fun x H1 => ∃ a, x = .ref a ∧ IsD H1 a ∧ ty σ H1 fun y H2 => ∃ kvs k v, H2 a = some (.dK kvs) ∧ y = kV k ∧ valV kvs k = some v ∧ Q v (upd H2 a (.dK (dropK kvs k)))
section
variable {X : Cx} {o e f : Expr} {apos cpos : Pos} {td ty tx : TE}
theorem pe_dpop1 (ho : PE X o td) (he : PE X e ty) (m : M1 X o "pop" apos e cpos) : PE X (.Call (.Attribute o "pop" apos) [e] [] cpos) (tDPop1 td ty) := by
  intro pins s σ H Q I h
  refine wpAny_Call_method m.base m.few m.line PySem.F.plainAttrs_dict PySem.F.slot_dict_pop PySem.F.type_dict_pop (thn (ho pins s σ H _ I h) fun u s1 ⟨x, H1, I1, rx, a, ex, d, q1⟩ => ?_)
  subst ex
  obtain rfl : u = Value.ref a := rx
  obtain ⟨t1, t2, _⟩ := isD_at I1 d
  refine ⟨t1, t2, ?_⟩
  rw [m.trees]
  refine Calls.callWith_builtin rfl (Calls.evalArgs_plain (Calls.spliced_cons (thn (he pins s1 σ H1 _ I1 q1) fun iv s2 ⟨y, H2, I2, ry, kvs, k, v, ea, ey, l, q2⟩ => Calls.spliced_nil ?_)))
  subst ey
  exact d_pop I2 ea ry l (.inl rfl) fun w' s3 I3 rw' => ⟨v, _, I3, rw', q2⟩
end

section
variable {X : Cx} {pins : List (Addr × Obj)} {σ : St} {H : Hp} {s : Shared} {a : Addr} {kvs : List (Key × V)} {A : Around} {E : Value → Shared → Prop}
end


section
variable {X : Cx} {pins : List (Addr × Obj)} {σ : St} {H : Hp} {s : Shared} {a : Addr} {y : V} {u : Value} {A : Around} {E : Value → Shared → Prop}
end
end L2

namespace L2
open PySem PySem.Spec PyProof.Rows
section
variable {X : Cx}
end
section
variable {κ : Type} [DecidableEq κ]
end
end L2


set_option maxHeartbeats 4000000
set_option maxRecDepth 100000
namespace L2
open PySem PySem.Spec PyProof.Rows

theorem Inv.track {X : Cx} {pins : List (Addr × Obj)} {σ : St} {H : Hp} {s : Shared} {D : Addr} {o : HO} (I : Inv X pins σ H s) (f : FpOk X pins H D) (new : ObjOk X.prog X.w (upd H D o) s.heap D o) : Inv X pins σ (upd H D o) s := by
  obtain ⟨f0, f1, f2, f3, f4, f5⟩ := f
  show Inv X pins σ (upd H D o) { s with heap := s.heap, gens := s.gens, drawn := s.drawn, toks := s.toks }
  refine I.step (g' := s.gens) (d' := s.drawn) (t' := s.toks) (h' := s.heap) (ch := [D]) (fun b hb => ?_) (fun b o _ _ _ e _ => e) (fun b o _ _ _ e _ => ⟨o.slots, e⟩) (fun b ob hc e n => ?_) (fun b ob _ e => ⟨ob, e⟩)
    (fun b xs e => ?_) (fun b ob u e => ?_) (fun b ps e => ⟨#[], ?_⟩) (fun m hm => hm) (fun b u e => ?_) I.bare
  · have z : b = D := by simpa using hb
    subst z
    exact ⟨f3, f1, f4, f5⟩
  · rw [upd_ne (fun z => hc (by simp [z]))]; exact n
  · rw [upd_ne (ne_of_none e f0)]; exact e
  · rw [upd_ne (ne_of_none e f0)]; exact e
  · rw [upd_ne (ne_of_none e f0), e]; simp
  · by_cases hb : b = D
    · subst hb; rw [upd_same] at e; cases e; exact new
    · rw [upd_ne hb] at e
      exact (I.hok b u e).stay (fun c v _ q => q) (fun c q => by rw [upd_ne (ne_of_none q f0)]; exact q) fun c xs q => by rw [upd_ne (ne_of_none q f0)]; exact q

theorem build_names {env : Env} {f : Str × NameKind → List (Str × Addr) → Sem (ForInStep (List (Str × Addr)))} (h1 : ∀ n k cs, k ≠ .free → f (n, k) cs = pure (.yield cs))
    (h2 : ∀ n cs c, env.cells.lookup n = some c → f (n, .free) cs = pure (.yield ((n, c) :: cs))) : ∀ (names : List (Str × NameKind)) (acc : List (Str × Addr)), (∀ y ∈ names, y.2 = .free → ∃ c, env.cells.lookup y.1 = some c) →
      ∃ cl, forIn names acc f = pure cl ∧ (∀ x c, cl.lookup x = some c → acc.lookup x = some c ∨ env.cells.lookup x = some c) ∧ (∀ x, (acc.lookup x).isSome = true → (cl.lookup x).isSome = true) ∧
        ∀ y ∈ names, y.2 = .free → (cl.lookup y.1).isSome = true
  | [], acc, _ => ⟨acc, rfl, fun x c e => .inl e, fun x e => e, fun y hy => absurd hy (by simp)⟩
  | (n, k) :: r, acc, h => by
    have hr : ∀ y ∈ r, y.2 = .free → ∃ c, env.cells.lookup y.1 = some c := fun y hy => h y (List.mem_cons_of_mem _ hy)
    by_cases hk : k = .free
    · subst hk
      obtain ⟨c, hc⟩ := h (n, .free) List.mem_cons_self rfl
      obtain ⟨cl, e, a1, a2, a3⟩ := build_names h1 h2 r ((n, c) :: acc) hr
      refine ⟨cl, by rw [List.forIn_cons, h2 n acc c hc, pure_bind]; exact e, fun x d hx => ?_, fun x hx => a2 x ?_, fun y hy hf => ?_⟩
      · rcases a1 x d hx with q | q
        · rw [List.lookup_cons] at q
          cases z : x == n with
          | true =>
            rw [z] at q
            have z' : x = n := by simpa using z
            subst z'
            cases q
            exact .inr hc
          | false => rw [z] at q; exact .inl q
        · exact .inr q
      · rw [List.lookup_cons]
        cases x == n with
        | true => rfl
        | false => exact hx
      · rcases List.mem_cons.mp hy with z | z
        · subst z
          refine a2 n ?_
          rw [List.lookup_cons]
          simp
        · exact a3 y z hf
    · obtain ⟨cl, e, a1, a2, a3⟩ := build_names h1 h2 r acc hr
      refine ⟨cl, by rw [List.forIn_cons, h1 n k acc hk, pure_bind]; exact e, a1, a2, fun y hy hf => ?_⟩
      rcases List.mem_cons.mp hy with z | z
      · subst z; exact absurd hf hk
      · exact a3 y z hf
theorem closure_ok {scope : Scope} {env : Env} (h : ∀ y ∈ scope.names, y.2 = .free → ∃ c, env.cells.lookup y.1 = some c) :
    ∃ cl, closureFor scope env = pure cl ∧ (∀ x c, cl.lookup x = some c → env.cells.lookup x = some c) ∧ ∀ y ∈ scope.names, y.2 = .free → ∃ c, cl.lookup y.1 = some c := by
  obtain ⟨cl, e, a1, _, a3⟩ := build_names (env := env) (f := fun x r => if (x.2 == NameKind.free) = true then (do let c ← cellOf env x.1; pure (ForInStep.yield ((x.1, c) :: r))) else pure (ForInStep.yield r)) (fun n k cs hk => by
    have z : (k == NameKind.free) = false := by simpa using hk
    simp only [z, Bool.false_eq_true, if_false]) (fun n cs c hc => by
    simp only [beq_self_eq_true, if_true, cellOf, hc, pure_bind]) scope.names [] h
  simp only [closureFor]
  refine ⟨cl, by rw [e, pure_bind], fun x c q => ?_, fun y hy hf => Option.isSome_iff_exists.mp (a3 y hy hf)⟩
  rcases a1 x c q with z | z
  · cases z
  · exact z
theorem relabel_look {scope : Scope} {env : Env} {x : Str} (hcell : ∀ y ∈ scope.names, y.2 ≠ .cell) (h : (relabel scope env).names.lookup x = some .cell ∨ (relabel scope env).names.lookup x = some .free) : scope.names.lookup x = some .free := by
  unfold relabel at h
  dsimp only at h
  generalize scope.names = l at h hcell
  induction l with
  | nil => rcases h with h | h <;> cases h
  | cons y r ih =>
    obtain ⟨n, k⟩ := y
    have hr : ∀ y ∈ r, y.2 ≠ .cell := fun y hy => hcell y (List.mem_cons_of_mem _ hy)
    have hk : k ≠ .cell := hcell (n, k) List.mem_cons_self
    rw [List.map_cons] at h
    dsimp only at h
    rw [List.lookup_cons]
    cases hx : x == n with
    | true =>
      dsimp only
      by_cases hc : (k == NameKind.free && env.scope.kind == .function && env.kindOf n == some .cell) = true
      · simp only [Bool.and_eq_true, beq_iff_eq] at hc
        rw [hc.1.1]
      · rw [if_neg hc, List.lookup_cons, hx] at h
        dsimp only at h
        rcases h with h | h
        · exact absurd (Option.some.inj h) hk
        · exact h
    | false =>
      dsimp only
      refine ih ?_ hr
      by_cases hc : (k == NameKind.free && env.scope.kind == .function && env.kindOf n == some .cell) = true
      · rw [if_pos hc, List.lookup_cons, hx] at h
        exact h
      · rw [if_neg hc, List.lookup_cons, hx] at h
        exact h

theorem relabel_free {scope : Scope} {env : Env} {x : Str} (h : scope.names.lookup x = some .free) : (relabel scope env).names.lookup x = some .cell ∨ (relabel scope env).names.lookup x = some .free := by
  unfold relabel
  dsimp only
  generalize scope.names = l at h
  induction l with
  | nil => cases h
  | cons y r ih =>
    obtain ⟨n, k⟩ := y
    rw [List.lookup_cons] at h
    rw [List.map_cons]
    dsimp only
    cases hx : x == n with
    | true =>
      rw [hx] at h
      have hk : k = .free := Option.some.inj h
      subst hk
      by_cases hc : (NameKind.free == NameKind.free && env.scope.kind == .function && env.kindOf n == some .cell) = true
      · rw [if_pos hc, List.lookup_cons, hx]
        exact .inl rfl
      · rw [if_neg hc, List.lookup_cons, hx]
        exact .inr rfl
    | false =>
      rw [hx] at h
      by_cases hc : (k == NameKind.free && env.scope.kind == .function && env.kindOf n == some .cell) = true
      · rw [if_pos hc, List.lookup_cons, hx]
        exact ih h
      · rw [if_neg hc, List.lookup_cons, hx]
        exact ih h
theorem lookup_relabel_not {scope : Scope} {env : Env} {x : Str} (h : scope.names.lookup x = some .free) : ¬ (relabel scope env).names.lookup x = some .local := fun e => by
  rcases relabel_free (env := env) h with q | q <;> (rw [e] at q; cases q)

noncomputable def cxC (X : Cx) (scope : Scope) (cl : List (Str × Addr)) (C : Addr) (N : List Str) (fp : List Addr) (s : Shared) (H : Hp) : Cx where
  prog := X.prog
  w := X.w
  K := X.K
  mg := X.mg
  base := X.base
  A := X.A
  N := N
  s₀ := s
  H₀ := H
  env := compEnvC scope cl C X.env
  outer := X.stack
  stack := X.stack
  ex := fp
  fn := fun _ => false
  calm := X.calm
  pn := []
  xe := fun _ _ => False
noncomputable def iniC (js : List (Option Nat)) (σ : St) : St := js.map fun j => match j with
  | some i => (σ[i]?).join
  | none => none
structure CompScope (sc scope : Scope) (NX N : List Str) (js : List (Option Nat)) : Prop where
  cell : ∀ y ∈ scope.names, y.2 ≠ .cell
  kind : scope.kind = .function
  names : ∀ y ∈ scope.names, y.2 = .local → scope.names.lookup y.1 = some .local
  free : ∀ y ∈ scope.names, y.2 = .free → sc.names.lookup y.1 = some .cell ∨ sc.names.lookup y.1 = some .free
  len : js.length = N.length
  out : ∀ p ∈ js.zip N, ∀ j ∈ p.1, NX[j]? = some p.2 ∧ scope.names.lookup p.2 = some .free

noncomputable def PF (X : Cx) (ifs : List Expr) (t : TT) : Prop :=
  ∀ (pins : List (Addr × Obj)) (s : Shared) (σ : St) (H : Hp) (Q : Bool → Hp → Prop), Inv X pins σ H s → t σ H Q →
    wpAny (model X.prog X.w) X.A (forIn ifs true fun c r => if r = true then do let ok ← isTrue c X.env (eval c X.env); pure (ForInStep.yield ok) else pure (ForInStep.yield r)) (TP X pins σ Q) X.xe s
noncomputable def tYes : TT := fun _ H Q => Q true H
theorem pf_nil {X : Cx} : PF X [] tYes := fun _ _ _ H _ I h => by
  rw [List.forIn_nil]
  exact wpAny_pure ⟨H, I, h⟩
theorem pf_one {X : Cx} {c : Expr} {t : TT} (hc : PT X c t) : PF X [c] t := fun pins s σ H Q I h => by
  rw [List.forIn_cons]
  simp only [if_true]
  rw [bind_assoc]
  refine wpAny_bind (thn (hc pins s σ H Q I h) fun b s1 q => ?_)
  rw [pure_bind]
  dsimp only
  rw [List.forIn_nil]
  exact wpAny_pure q

section
variable {prog : Program} {w : World} {A : Around} {R : Result → Shared → Prop} {s : Shared}
theorem compLoop_gen {elt target iter : Expr} {ifs : List Expr} {scope : Scope} {pos : Pos} {it acc : Value} {env : Env} (I : Nat → Shared → Prop)
    (turn : ∀ n s, I n s → wpAny (model prog w) A (pyNext it) (fun r s₁ => match r with
      | none => R (.ok .next) s₁
      | some v => wpAny (model prog w) A (letOwnedTupleGo target it v) (fun _ s₀ => wpAny (model prog w) A (assign target env v) (fun _ s₂ =>
          wpAny (model prog w) A (forIn ifs true fun c r => if r = true then do let ok ← isTrue c env (eval c env); pure (ForInStep.yield ok) else pure (ForInStep.yield r)) (fun ok s₃ =>
            if ok = true then wpAny (model prog w) A (eval elt env) (fun x s₄ =>
              wpAny (model prog w) A (call (.builtin "list.append") [acc, x]) (fun _ s₅ => ∃ m, m < n ∧ I m s₅) (fun _ _ => False) s₄) (fun _ _ => False) s₃
            else ∃ m, m < n ∧ I m s₃) (fun _ _ => False) s₂) (fun _ _ => False) s₀) (fun _ _ => False) s₁) (fun _ _ => False) s)
    (n : Nat) (h : I n s) : codeAny (model prog w) A (.compLoop (.ListComp elt [⟨target, iter, ifs, 0⟩] scope pos) 0 it acc env) R s := by
  refine codeAny_loop rfl I (fun n s hI => ?_) n h
  show wpAny _ A ((compTurn (.ListComp elt [⟨target, iter, ifs, 0⟩] scope pos) 0 it acc env).onRaise (fun x => do noteFrame x env; theTreesLotGoes x)) _ _ s
  refine wpAny_noted ?_
  rw [compTurn_list]
  refine wpAny_mono (E := fun _ _ => False) ?_ (fun _ _ q => q) fun _ _ f => f.elim
  refine wpAny_bind (wpAny_standAt (wpAny_bind (thn (turn n s hI) (fun r s₁ h₁ => ?_))))
  cases r with
  | none => exact wpAny_pure h₁
  | some v =>
    refine wpAny_bind (thn h₁ fun _ s₀ h₀ => ?_)
    refine wpAny_bind (thn h₀ (fun _ s₂ h₂ => wpAny_bind (thn h₂ (fun ok s₃ h₃ => ?_))))
    cases ok with
    | false => exact wpAny_pure ⟨rfl, h₃⟩
    | true =>
      exact wpAny_bind (wpAny_bind (thn h₃ (fun x s₄ h₄ => wpAny_bind (thn h₄ (fun _ s₅ h₅ => wpAny_pure (wpAny_pure ⟨rfl, h₅⟩))))))
end

noncomputable def OwnG (js : List (Option Nat)) (g : TG) : Prop := ∀ (σ : St) (x : V) (H : Hp) (Q : St → Hp → Prop), g x (iniC js σ) H Q →
  g x (iniC js σ) H fun σ3 H3 => (σ3.length = (iniC js σ).length ∧ ∀ (i : Nat) v, (iniC js σ)[i]? = some (some v) → σ3[i]? = some (some v)) ∧ Q σ3 H3
noncomputable def CompW (J : It) (js : List (Option Nat)) (g : TG) (tt : TT) (te : TE) (σ : St) (H1 : Hp) (Q : VK) : Prop := ∃ W : Nat → Nat → List V → Hp → Prop, (∃ m, W 0 m [] H1) ∧
  ∀ i m ys H', W i m ys H' → ys.length ≤ sizeLine ∧ ((J.stop i H' ∧ ∀ D, H' D = none → Q (.ref D) (upd H' D (.lst ys))) ∨
    (J.go i H' ∧ ∃ N : List V → Hp → Prop, (∀ ys H, N ys H → ∃ m', m' < m ∧ W (i + 1) m' ys H) ∧
      ∀ x H2, J.yld i H' x H2 → g x (iniC js σ) H2 fun σ3 H3 => tt σ3 H3 fun ok H4 => if ok = true then te σ3 H4 fun y H5 => N (ys ++ [y]) H5 else N ys H4))
noncomputable def tComp (wi : TI) (js : List (Option Nat)) (g : TG) (tt : TT) (te : TE) : TE := fun σ H Q => wi σ H fun J H1 => CompW J js g tt te σ H1 Q
theorem comp_it {J : It} {js : List (Option Nat)} {g : TG} {tt : TT} {te : TE} {σ : St} {H1 : Hp} {Q : VK} (n : Nat) (Pv : Nat → List V → Hp → Prop) (h0 : Pv 0 [] H1) (hl : ∀ i ys H, Pv i ys H → ys.length ≤ i) (hz : n ≤ sizeLine)
    (hs : ∀ i ys H, i < n → Pv i ys H → J.go i H ∧ ∀ x H2, J.yld i H x H2 → g x (iniC js σ) H2 fun σ3 H3 => tt σ3 H3 fun ok H4 => if ok = true then te σ3 H4 fun y H5 => Pv (i + 1) (ys ++ [y]) H5 else Pv (i + 1) ys H4)
    (hd : ∀ ys H, Pv n ys H → J.stop n H ∧ ∀ D, H D = none → Q (.ref D) (upd H D (.lst ys))) : CompW J js g tt te σ H1 Q := by
  refine ⟨fun i m ys H => m = n - i ∧ i ≤ n ∧ Pv i ys H, ⟨n, by simp, Nat.zero_le _, h0⟩, ?_⟩
  rintro i m ys H ⟨rfl, hi, p⟩
  refine ⟨Nat.le_trans (hl i ys H p) (Nat.le_trans hi hz), ?_⟩
  by_cases hlt : i < n
  · obtain ⟨a, b⟩ := hs i ys H hlt p
    exact .inr ⟨a, Pv (i + 1), fun ys' H' p' => ⟨n - (i + 1), by omega, rfl, hlt, p'⟩, b⟩
  · have e : i = n := by omega
    subst e
    exact .inl (hd ys H p)
theorem own_name {js : List (Option Nat)} {k : Nat} (h : js[k]? = some none) : OwnG js (gName k) := fun σ x H Q q => by
  refine ⟨⟨by rw [List.length_set], fun i v e => ?_⟩, q⟩
  by_cases hik : k = i
  · subst hik
    unfold iniC at e
    rw [List.getElem?_map, h] at e
    cases e
  · rw [List.getElem?_set_ne hik]
    exact e
theorem own_two {K : PySem.W.Frag} {js : List (Option Nat)} {k l : Nat} (h : js[k]? = some none) (h' : js[l]? = some none) : OwnG js (gTup K 2 (gCons (gName k) (gCons (gName l) gNil))) := fun σ x H Q q => by
  obtain ⟨a, xs, e1, e2, e3, v, r, rfl, v2, r2, rfl, rfl, q⟩ := q
  have key : ∀ {i : Nat} {z : V}, (iniC js σ)[i]? = some (some z) → i ≠ k ∧ i ≠ l := fun {i z} e => by
    unfold iniC at e
    rw [List.getElem?_map] at e
    refine ⟨fun q => ?_, fun q => ?_⟩
    · subst q; rw [h] at e; cases e
    · subst q; rw [h'] at e; cases e
  refine ⟨a, _, e1, e2, e3, v, _, rfl, v2, _, rfl, rfl, ⟨by rw [List.length_set, List.length_set], fun i z e => ?_⟩, q⟩
  obtain ⟨n1, n2⟩ := key e
  rw [List.getElem?_set_ne (Ne.symm n2), List.getElem?_set_ne (Ne.symm n1)]
  exact e

section
variable {X : Cx} {sc scope : Scope} {NX N : List Str} {js : List (Option Nat)} {elt iter tg : Expr} {ifs : List Expr} {pos : Pos} {wi : TI} {g : TG} {tt : TT} {te : TE}

theorem block_start {pins : List (Addr × Obj)} {σ : St} {H2 : Hp} {s2 : Shared} {fp : List Addr} {cl : List (Str × Addr)} {h1 : Heap} {tk : Nat} (hsc : X.env.scope = sc) (hNX : X.N = NX) (ok : CompScope sc scope NX N js) (I2 : Inv X pins σ H2 s2)
    (cl1 : ∀ x c, cl.lookup x = some c → X.env.cells.lookup x = some c) (cl2 : ∀ y ∈ scope.names, y.2 = .free → ∃ c, cl.lookup y.1 = some c) (f2 : ∀ b ∈ fp, FpOk X pins H2 b) (hfp : ∀ b ∈ fp, b < s2.heap.objs.size)
    {C : Addr} (hC : s2.heap.objs.size ≤ C) (old : ∀ b o, s2.heap.get? b = some o → h1.get? b = some o) (hns : h1.Ns C fun _ => none) :
    Inv (cxC X scope cl C N fp s2 H2) [] (iniC js σ) H2 { s2 with heap := h1, toks := tk } := by
  have cOld : ∀ x c, X.env.cells.lookup x = some c → c < s2.heap.objs.size := fun x c e => by
    obtain ⟨v, z⟩ := I2.cell x c e
    exact z.lt
  refine ⟨⟨I2.ok.mod, ?_, I2.ok.glob, I2.ok.blt, hC, fun x y c e1 e2 => I2.ok.inj x y c (cl1 x c e1) (cl1 y c e2), fun x hx => ?_, fun x c hf _ => absurd hf Bool.false_ne_true, I2.ok.hd, I2.ok.frames, .inl rfl, fun b hb => ⟨Nat.ne_of_lt (Nat.lt_of_lt_of_le (hfp b hb) hC), fun x c e => (f2 b hb).2.2.2.2.1 x c (cl1 x c e)⟩,
    I2.bs, Nat.le_trans I2.ok.bsz I2.sz, fun b o e hb => ?_, fun b hb z => ?_, I2.stack, I2.stkFree⟩, rfl, I2.bare, Un.kept old, ⟨_, hns, fun i x v e1 e2 e3 => ?_⟩, fun x c e => ?_, I2.hok.fresh hC, fun x c e => I2.freeC x c (cl1 x c e), fun p hp => absurd (show p ∈ ([] : List (Addr × Obj)) from hp) (by simp), I2.hok.kept old, ?_⟩
  · exact ok.kind
  · have q : scope.names.lookup x = some .free := relabel_look ok.cell hx
    exact cl2 (x, .free) (PySem.mem_of_lookup q) rfl
  · rcases (f2 b hb).2.2.2.1 with z | z
    · exact I2.ok.noex b o e z
    · exact absurd (Nat.lt_of_lt_of_le (Heap.lt_size (I2.ok.bs b o e).1) z) (Nat.lt_irrefl _)
  · rcases List.mem_cons.mp (I2.stkSub b z) with q | q
    · exact (f2 b hb).2.1 q
    · exact (f2 b hb).2.2.1 q
  · have e1' : N[i]? = some x := e1
    have e2' : (iniC js σ)[i]? = some (some v) := e2
    unfold iniC at e2'
    rw [List.getElem?_map] at e2'
    cases hj : js[i]? with
    | none => rw [hj] at e2'; cases e2'
    | some oj =>
      rw [hj] at e2'
      cases oj with
      | none => cases e2'
      | some j =>
        have e4 : (σ[j]?).join = some v := Option.some.inj e2'
        have e5 : σ[j]? = some (some v) := by
          cases z : σ[j]? with
          | none => rw [z] at e4; cases e4
          | some ov =>
            rw [z] at e4
            have e6 : ov = some v := e4
            rw [e6]
        have hz : (some j, x) ∈ js.zip N := by
          refine List.mem_of_getElem? (i := i) ?_
          rw [List.getElem?_zip_eq_some]
          exact ⟨hj, e1'⟩
        obtain ⟨q1, q2⟩ := ok.out _ hz j rfl
        have q3 := ok.free (x, .free) (PySem.mem_of_lookup q2) rfl
        rw [← hsc] at q3
        obtain ⟨m, hn, hl⟩ := I2.loc
        obtain ⟨u, r, l⟩ := hl j x v (by rw [hNX]; exact q1) e5 (.inr q3)
        refine ⟨u, r, .inr ?_⟩
        rcases l with ⟨k, _⟩ | ⟨_, c, hc, hcell⟩
        · have k' : X.env.scope.names.lookup x = some .local := k
          rcases q3 with q3 | q3 <;> (rw [k'] at q3; cases q3)
        · obtain ⟨c', hc'⟩ := cl2 (x, .free) (PySem.mem_of_lookup q2) rfl
          have ec := cl1 x c' hc'
          rw [hc] at ec
          cases ec
          refine ⟨?_, c, hc', ?_⟩
          · have e3' : Vis (relabel scope X.env) x := e3
            rcases e3' with e3' | e3' | e3'
            · have := lookup_relabel_not q2 (env := X.env)
              exact absurd e3' this
            · exact .inl e3'
            · exact .inr e3'
          · obtain ⟨o, ho, hd⟩ := hcell
            exact ⟨o, old _ _ ho, hd⟩
  · obtain ⟨v, o, ho, hd⟩ := I2.cell x c (cl1 x c e)
    exact ⟨v, o, old _ _ ho, hd⟩
  · show (iniC js σ).length = N.length
    unfold iniC
    rw [List.length_map, ok.len]
theorem comp_core {pins : List (Addr × Obj)} {σ : St} {H2 : Hp} {s2 : Shared} {it : Addr} {fp : List Addr} {tn : Nat → Heap → Prop} {J : It} {cl : List (Str × Addr)} {Q : VK} {E : Value → Shared → Prop} {RR : Value → Addr → Result → Shared → Prop}
    (hsc : X.env.scope = sc) (hNX : X.N = NX) (ok : CompScope sc scope NX N js) (hc : X.calm = true) (I2 : Inv X pins σ H2 s2)
    (cl1 : ∀ x c, cl.lookup x = some c → X.env.cells.lookup x = some c) (cl2 : ∀ y ∈ scope.names, y.2 = .free → ∃ c, cl.lookup y.1 = some c)
    (T : Turn X.prog X.w X.K tg J fp it tn) (st2 : tn 0 s2.heap) (f2 : ∀ b ∈ fp, FpOk X pins H2 b)
    (hg : ∀ C, PG (cxC X scope cl C N fp s2 H2) tg g) (ht : ∀ C, PF (cxC X scope cl C N fp s2 H2) ifs tt) (he : ∀ C, PE (cxC X scope cl C N fp s2 H2) elt te)
    (own : OwnG js g) {W : Nat → Nat → List V → Hp → Prop} {m0 : Nat} (w0 : W 0 m0 [] H2)
    (turn : ∀ i m ys H', W i m ys H' → ys.length ≤ sizeLine ∧ ((J.stop i H' ∧ ∀ D, H' D = none → Q (.ref D) (upd H' D (.lst ys))) ∨
      (J.go i H' ∧ ∃ N : List V → Hp → Prop, (∀ ys H, N ys H → ∃ m', m' < m ∧ W (i + 1) m' ys H) ∧
        ∀ x H2, J.yld i H' x H2 → g x (iniC js σ) H2 fun σ3 H3 => tt σ3 H3 fun ok H4 => if ok = true then te σ3 H4 fun y H5 => N (ys ++ [y]) H5 else N ys H4)))
    (fin : ∀ D C m s' Hf, Inv X pins σ Hf s' → s'.heap.Ns C m → FpOk X pins Hf C → Q (.ref D) Hf → RR (.ref D) C (.ok .next) s') :
    wpAny (model X.prog X.w) X.A (newList []) (fun acc s₃ => wpAny (model X.prog X.w) X.A (newFunctionEnv scope X.env.globals cl [] X.env.qual none .none (some X.env)) (fun cenv s₄ =>
      codeAny (model X.prog X.w) X.A (.compStart (.ListComp elt [⟨tg, iter, ifs, 0⟩] scope pos) 0 (.ref it) acc { cenv with scope := relabel scope X.env }) (RR acc cenv.locals) s₄) E s₃) E s2 := by
  refine wpAny_newObj_type (wpAny_newFunctionEnv ok.cell (by intro y hy; simp at hy) (fun h₁ hns₁ hsb₁ => ?_) ok.kind)
  dsimp only at hns₁ hsb₁ ⊢
  generalize hHH : s2.heap.push { cls := .type "list", dict := none, data := .seq ([] : List Value).toArray } = HH at hns₁ hsb₁ ⊢
  have hCe : HH.objs.size = s2.heap.objs.size + 1 := by rw [← hHH, Heap.size_push]
  obtain ⟨D, hD⟩ : ∃ D : Nat, D = s2.heap.objs.size := ⟨_, rfl⟩
  obtain ⟨C, hC⟩ : ∃ C : Nat, C = HH.objs.size := ⟨_, rfl⟩
  rw [← hC] at hCe hns₁ hsb₁ ⊢
  rw [← hD] at hCe ⊢
  have hDC : D ≠ C := by omega
  have hCle : s2.heap.objs.size ≤ C := by omega
  have hfp : ∀ b ∈ fp, b < s2.heap.objs.size := fun b hb => by
    obtain ⟨o, e, _⟩ := T.obj 0 _ st2 b hb
    exact Heap.lt_size e
  have old : ∀ b o, s2.heap.get? b = some o → h₁.get? b = some o := fun b o e => hsb₁.extBut b o (Nat.ne_of_lt (Nat.lt_of_lt_of_le (Heap.lt_size e) hCle)) (Heap.get?_push_of_some _ (hHH ▸ Heap.get?_push_of_some _ e))
  have hacc : h₁.PlainList D #[] := ⟨_, hsb₁.extBut _ _ hDC (Heap.get?_push_of_some _ (by rw [← hHH, hD]; exact Heap.get?_push_size _ rfl))⟩
  have hns : h₁.Ns C fun _ => none := hns₁
  have I4 : Inv (cxC X scope cl C N fp s2 H2) [] (iniC js σ) H2 { s2 with heap := h₁, toks := s2.toks + ([] : List (Str × Value)).length } :=
    block_start hsc hNX ok I2 cl1 cl2 f2 hfp (by omega) old hns
  have st4 : tn 0 h₁ := T.keep 0 _ _ st2 fun b _ o e => old b o e
  have cOld : ∀ x c, X.env.cells.lookup x = some c → c < s2.heap.objs.size := fun x c e => by
    obtain ⟨v, z⟩ := I2.cell x c e
    exact z.lt
  have nDfp : D ∉ fp := fun z => absurd (hfp D z) (by rw [hD]; exact Nat.lt_irrefl _)
  -- the block's records
  have stat : ∀ {pl : List (Addr × Obj)} {H' : Hp}, (∀ b ∈ fp, H' b = none) → (∀ p ∈ pl, p.1 ∉ fp) → ∀ b ∈ fp, FpOk (cxC X scope cl C N fp s2 H2) pl H' b := fun {pl H'} hn hp b hb => by
    refine ⟨hn b hb, (I4.ok.exf b hb).1, I4.ok.exfs b hb, .inl hb, (I4.ok.exf b hb).2, fun p hpp z => ?_⟩
    exact hp p (by simpa [cxC] using hpp) (z ▸ hb)
  have fpD : ∀ {H' : Hp}, H' D = none → FpOk (cxC X scope cl C N fp s2 H2) [] H' D := fun {H'} hn => by
    refine ⟨hn, hDC, fun z => ?_, .inr (by show s2.heap.objs.size ≤ D; omega), fun x c e => ?_, fun p hpp => absurd (show p ∈ ([] : List (Addr × Obj)) from hpp) (by simp)⟩
    · obtain ⟨_, o, ho, _⟩ := I4.ok.funs.mem z
      exact absurd (show D < s2.heap.objs.size from Heap.lt_size ho) (by rw [hD]; exact Nat.lt_irrefl _)
    · exact Nat.ne_of_lt (by rw [hD]; exact cOld x c (cl1 x c e))
  refine (fun loop => codeAny_compStart_list (loop _ rfl) (T.self X.A 0 _ _ _ st4 (loop _ rfl))) (fun s₃ (hs₃ : s₃ = { s2 with heap := h₁, toks := s2.toks + ([] : List (Str × Value)).length }) => ?_)
  subst hs₃
  refine compLoop_gen (env := compEnvC scope cl C X.env) (fun n s' => ∃ i ys its H', Inv (cxC X scope cl C N fp s2 H2) [] (iniC js σ) H' s' ∧ tn i s'.heap ∧ (∀ b ∈ fp, H' b = none) ∧ s'.heap.PlainList D its ∧ Vals ys its.toList ∧ H' D = none ∧ W i n ys H')
    ?_ m0 ⟨0, [], #[], H2, I4, st4, fun b hb => (f2 b hb).1, hacc, .nil, I2.hok.fresh (by omega), w0⟩
  rintro n s5 ⟨i, ys, its, H5, I5, st5, fr5, ⟨k5, pl5⟩, vl5, hD5, w5⟩
  obtain ⟨hz, tr⟩ := turn i n ys H5 w5
  have hz' : its.size ≤ sizeLine := by
    have := vl5.length
    have e4 : its.toList.length = its.size := by simp
    omega
  have I5' : Inv (cxC X scope cl C N fp s2 H2) [(D, { cls := .type "list", data := .seq its k5 })] (iniC js σ) H5 s5 := I5.pins_of fun p hp => by
    have e : p = (D, { cls := .type "list", data := .seq its k5 }) := by simpa using hp
    subst e
    exact ⟨pl5, hD5, hDC, (fpD hD5).2.2.1, fun v z => by cases z⟩
  have np : ∀ p ∈ [(D, ({ cls := .type "list", data := .seq its k5 } : Obj))], p.1 ∉ fp := fun p hp => by
    have e : p = (D, { cls := .type "list", data := .seq its k5 }) := by simpa using hp
    subst e
    exact nDfp
  rcases tr with ⟨stop, qn⟩ | ⟨go, N', hN, step⟩
  · refine thn (T.done (cxC X scope cl C N fp s2 H2) rfl rfl rfl hc i _ s5 (iniC js σ) H5 (fun _ _ => False) I5' (stat fr5 np) st5 stop) fun r s6 ⟨hr, I6⟩ => ?_
    subst hr
    have pD := (I6.pin _ (List.mem_append_right _ List.mem_cons_self)).1
    have I6' : Inv (cxC X scope cl C N fp s2 H2) [] (iniC js σ) H5 s6 := I6.pins_of fun p hp => absurd hp (by simp)
    have I7 : Inv (cxC X scope cl C N fp s2 H2) [] (iniC js σ) (upd H5 D (.lst ys)) s6 := I6'.track (fpD hD5) ⟨hz, its.toList, k5, vl5, by simpa using pD⟩
    obtain ⟨m, hn, _⟩ := I7.loc
    have hfC : upd H5 D (.lst ys) C = none := I7.free
    refine fin D C m s6 (upd H5 D (.lst ys)) ?_ hn (I2.fpOk (by omega) hfC) (qn D hD5)
    exact I2.call' (ch := fp) I7.os I7.base I7.hok I7.bare fun b hb => ⟨(f2 b hb).2.2.2.1, (f2 b hb).2.1, (f2 b hb).2.2.2.2.1, (f2 b hb).2.2.2.2.2⟩
  · refine thn (T.item (cxC X scope cl C N fp s2 H2) rfl rfl rfl hc i _ s5 (iniC js σ) H5 (fun _ _ => False) I5' (stat fr5 np) st5 go) fun r s6 ⟨u, hr, h6⟩ => ?_
    subst hr
    refine thn h6 fun _ s7 ⟨x, H7, I7, r7, y7, st7, fr7⟩ => ?_
    have I7' := I7.pinned (stat fr7 np) (T.obj _ _ st7)
    have q7 := own σ x H7 _ (step x H7 y7)
    refine thn (hg C _ s7 (iniC js σ) H7 x u _ I7' r7 q7) fun _ s8 ⟨σ8, H8, I8, ag8, q8⟩ => ?_
    have keepD : ∀ {σ9 : St} {H9 : Hp} {s9 : Shared}, Inv (cxC X scope cl C N fp s2 H2) ([(D, { cls := .type "list", data := .seq its k5 })] ++ pinsAt fp s7.heap) σ9 H9 s9 → s9.heap.get? D = some { cls := .type "list", data := .seq its k5 } ∧ H9 D = none := fun I9 => by
      obtain ⟨a, b, _⟩ := I9.pin _ (List.mem_append_right _ (List.mem_append_left _ List.mem_cons_self))
      exact ⟨a, b⟩
    have keepF : ∀ {σ9 : St} {H9 : Hp} {s9 : Shared}, Inv (cxC X scope cl C N fp s2 H2) ([(D, { cls := .type "list", data := .seq its k5 })] ++ pinsAt fp s7.heap) σ9 H9 s9 → tn (i + 1) s9.heap ∧ ∀ b ∈ fp, H9 b = none := fun I9 => by
      refine ⟨T.keep _ _ _ st7 fun b hb o e => (I9.pin (b, o) (List.mem_append_right _ (List.mem_append_right _ (mem_pinsAt hb e)))).1, fun b hb => ?_⟩
      obtain ⟨o, e, d⟩ := T.obj _ _ st7 b hb
      exact (I9.pin (b, o) (List.mem_append_right _ (List.mem_append_right _ (mem_pinsAt hb e)))).2.1
    refine thn (ht C _ s8 σ8 H8 _ I8 q8) fun okb s9 ⟨H9, I9, q9⟩ => ?_
    have again : ∀ {H10 : Hp} {s10 : Shared}, Inv (cxC X scope cl C N fp s2 H2) ([(D, { cls := .type "list", data := .seq its k5 })] ++ pinsAt fp s7.heap) σ8 H10 s10 → Inv (cxC X scope cl C N fp s2 H2) [] (iniC js σ) H10 s10 := fun I => (I.pins_of fun p hp => absurd hp (by simp)).weak ag8.1.symm ag8.2
    cases okb with
    | false =>
      have q9' : N' ys H9 := q9
      obtain ⟨m', hm, w9⟩ := hN _ _ q9'
      show ∃ m, m < n ∧ _
      exact ⟨m', hm, i + 1, ys, its, H9, again I9, (keepF I9).1, (keepF I9).2, ⟨k5, (keepD I9).1⟩, vl5, (keepD I9).2, w9⟩
    | true =>
      have q9' : te σ8 H9 fun y H5 => N' (ys ++ [y]) H5 := q9
      show wpAny _ _ (eval elt (compEnvC scope cl C X.env)) _ _ s9
      refine thn (he C _ s9 σ8 H9 _ I9 q9') fun yv s10 ⟨y, H10, I10, r10, q10⟩ => ?_
      obtain ⟨m', hm, w10⟩ := hN _ _ q10
      refine wpAny_list_append_plain (hsz := hz') ⟨k5, (keepD I10).1⟩ fun h' hl' hs' => ?_
      refine ⟨m', hm, i + 1, ys ++ [y], its.push yv, H10, ?_, ?_, (keepF I10).2, hl', ?_, (keepD I10).2, w10⟩
      · obtain ⟨g0, g1, g2, g3, g4, g5⟩ := fpD (keepD I10).2
        exact (again I10).turned (t' := s10.toks) (fun b o hb e => (hs'.2 b hb).trans e) g0 g1 g3 g4 g5
      · exact T.keep _ _ _ (keepF I10).1 fun b hb o e => (hs'.2 b (fun z => nDfp (z ▸ hb))).trans e
      · rw [Array.toList_push]
        exact vl5.append (.cons r10 .nil)

theorem pe_comp (hi : PI X tg iter wi) (hg : ∀ cl C fp s H, PG (cxC X scope cl C N fp s H) tg g) (ht : ∀ cl C fp s H, PF (cxC X scope cl C N fp s H) ifs tt) (he : ∀ cl C fp s H, PE (cxC X scope cl C N fp s H) elt te)
    (own : OwnG js g) (ok : CompScope sc scope NX N js) (hsc : X.env.scope = sc := by rfl) (hNX : X.N = NX := by rfl) (hc : X.calm = true := by rfl) (hs : ∀ x, foldedSetIterable iter X.env x = pure x := by intro _; rfl) :
    PE X (.ListComp elt [⟨tg, iter, ifs, 0⟩] scope pos) (tComp wi js g tt te) := by
  intro pins s σ H Q I h
  rw [eval_ListComp]
  obtain ⟨cl, hclos, cl1, cl2⟩ := closure_ok (scope := scope) (env := X.env) fun y hy hf => I.ok.has y.1 (by
    have q := ok.free y hy hf
    rw [← hsc] at q
    exact q)
  refine wpAny_comprehension_free (use := none) rfl hs hclos ok.kind ok.names (thn (hi pins s σ H _ I h) fun xv s1 h1 => thn h1 fun itv s2 h2 => ?_)
  obtain ⟨it, fp, tn, J, H2, rfl, I2, T, st2, f2, W, ⟨m0, w0⟩, turn⟩ := h2
  refine comp_core (RR := fun acc C => compPost (model X.prog X.w) X.A X.xe none (EP X pins σ Q) acc C) hsc hNX ok hc I2 cl1 cl2 T st2 f2 (fun C => hg cl C fp s2 H2) (fun C => ht cl C fp s2 H2) (fun C => he cl C fp s2 H2) own w0 turn fun D C m s' Hf I' hn f q => ?_
  obtain ⟨g0, g1, g2, g3, g4, g5⟩ := f
  exact ⟨m, hn, fun h' hs' => ⟨.ref D, Hf, I'.turned (t' := s'.toks) (fun b o hb e => (hs'.2 b hb).trans e) g0 g1 g3 g4 g5, rfl, q⟩⟩
end
end L2

namespace L2
open PySem PySem.Spec PyProof.Rows

mutual
inductive Rep (K : PySem.W.Frag) (H : Hp) : V → PyData → Prop
  | non : Rep K H .non .none
  | bl (b : Bool) : Rep K H (.bl b) (.bool b)
  | int (i : Int) : Rep K H (.int i) (.int i)
  | str (x : Str) : Rep K H (.str x) (.str x)
  | lst {a : Addr} {xs : List V} {ds : List PyData} : SqL K H a xs → Reps K H xs ds → Rep K H (.ref a) (.list ds)
  | tup {a : Addr} {xs : List V} {ds : List PyData} : SqT K H a xs → Reps K H xs ds → Rep K H (.ref a) (.tuple ds)
inductive Reps (K : PySem.W.Frag) (H : Hp) : List V → List PyData → Prop
  | nil : Reps K H [] []
  | cons {x : V} {xs : List V} {d : PyData} {ds : List PyData} : Rep K H x d → Reps K H xs ds → Reps K H (x :: xs) (d :: ds)
end
section
variable {X : Cx} {pins : List (Addr × Obj)} {σ : St} {H H' : Hp} {s : Shared} {K : PySem.W.Frag}
mutual
theorem Rep.reads (I : Inv X pins σ H s) : ∀ {x : V} {d : PyData} {v : Value}, Rep X.K H x d → RelV x v → ∃ as, Reads s.heap v d as
  | _, _, _, .non, r => by cases (show _ = Value.none from r); exact ⟨_, .none⟩
  | _, _, _, .bl b, r => by cases (show _ = Value.bool b from r); exact ⟨_, .bool b⟩
  | _, _, _, .int i, r => by
    obtain ⟨t, rfl⟩ := (show ∃ t, _ = Value.int i t from r)
    exact ⟨_, .int i t⟩
  | _, _, _, .str x, r => by
    obtain ⟨t, rfl⟩ := (show ∃ t, _ = Value.str x t from r)
    exact ⟨_, .str x t⟩
  | _, _, _, .lst (a := a) h q, r => by
    cases (show _ = Value.ref a from r)
    obtain ⟨its, rv, ⟨o, n, e, c, _, d⟩, _⟩ := I.list h
    obtain ⟨as, z⟩ := Reps.reads I q rv
    exact ⟨_, .list e c d (by simpa using z)⟩
  | _, _, _, .tup (a := a) h q, r => by
    cases (show _ = Value.ref a from r)
    obtain ⟨its, rv, ⟨o, e, c, n, d⟩, _⟩ := I.tuple h
    obtain ⟨as, z⟩ := Reps.reads I q rv
    exact ⟨_, .tuple e c d (by simpa using z)⟩
theorem Reps.reads (I : Inv X pins σ H s) : ∀ {xs : List V} {ds : List PyData} {vs : List Value}, Reps X.K H xs ds → Vals xs vs → ∃ as, ReadsAll s.heap vs ds as
  | _, _, _, .nil, .nil => ⟨_, .nil⟩
  | _, _, _, .cons h q, .cons r rr => by
    obtain ⟨as, z⟩ := Rep.reads I h r
    obtain ⟨bs, y⟩ := Reps.reads I q rr
    exact ⟨_, .cons z y⟩
end
theorem Same.sqT (g : Same H H') {a : Addr} {xs : List V} (h : SqT K H a xs) : SqT K H' a xs := by
  rcases h with (h | ⟨o, h⟩) | h
  · exact .inl (.inl (g _ _ h))
  · exact .inl (.inr ⟨o, g _ _ h⟩)
  · exact .inr h
mutual
theorem Rep.same (g : Same H H') : ∀ {x : V} {d : PyData}, Rep K H x d → Rep K H' x d
  | _, _, .non => .non
  | _, _, .bl b => .bl b
  | _, _, .int i => .int i
  | _, _, .str x => .str x
  | _, _, .lst h q => .lst (g.seq h) (Reps.same g q)
  | _, _, .tup h q => .tup (g.sqT h) (Reps.same g q)
theorem Reps.same (g : Same H H') : ∀ {xs : List V} {ds : List PyData}, Reps K H xs ds → Reps K H' xs ds
  | _, _, .nil => .nil
  | _, _, .cons h q => .cons (Rep.same g h) (Reps.same g q)
end
theorem Reps.length : ∀ {xs : List V} {ds : List PyData}, Reps K H xs ds → xs.length = ds.length
  | _, _, .nil => rfl
  | _, _, .cons _ q => by rw [List.length_cons, List.length_cons, Reps.length q]
theorem Reps.append : ∀ {xs ys : List V} {ds es : List PyData}, Reps K H xs ds → Reps K H ys es → Reps K H (xs ++ ys) (ds ++ es)
  | _, _, _, _, .nil, q => q
  | _, _, _, _, .cons h p, q => .cons h (Reps.append p q)
theorem Reps.get : ∀ {xs : List V} {ds : List PyData} {i : Nat} {x : V}, Reps K H xs ds → xs[i]? = some x → ∃ d, ds[i]? = some d ∧ Rep K H x d
  | _, _, _, _, .nil, e => by simp at e
  | _, _, 0, _, .cons r _, e => by simp at e; subst e; exact ⟨_, rfl, r⟩
  | _, _, i + 1, x, .cons _ t, e => by
    obtain ⟨d, h1, h2⟩ := Reps.get (i := i) (x := x) t (by simpa using e)
    exact ⟨d, by simpa using h1, h2⟩
theorem Reps.ints : ∀ xs : List Int, Reps K H (xs.map V.int) (xs.map PyData.int)
  | [] => .nil
  | b :: r => .cons (.int b) (Reps.ints r)

noncomputable def rEqD (K : PySem.W.Frag) : R2 := fun x y H Q => ∃ d e, Rep K H x d ∧ Rep K H y e ∧ SeqAt.shaped d = true ∧ SeqAt.shaped e = true ∧ Q (.bl (PyData.eqv d e)) H
noncomputable def rNeD (K : PySem.W.Frag) : R2 := fun x y H Q => ∃ d e, Rep K H x d ∧ Rep K H y e ∧ SeqAt.shaped d = true ∧ SeqAt.shaped e = true ∧ Q (.bl (!PyData.eqv d e)) H
theorem op_eqD (hu : X.A.units + 64 < cLine) : OpR X (compareOp .Eq) (rEqD X.K) := by
  intro pins s σ H x y v u Q I rx ry h
  obtain ⟨d, e, h1, h2, z1, z2, q⟩ := h
  obtain ⟨as, ra⟩ := h1.reads I rx
  obtain ⟨bs, rb⟩ := h2.reads I ry
  exact eq_dataH ra rb z1 z2 hu (fin_bl I q rfl)
theorem op_neD (hu : X.A.units + 64 < cLine) : OpR X (compareOp .NotEq) (rNeD X.K) := by
  intro pins s σ H x y v u Q I rx ry h
  obtain ⟨d, e, h1, h2, z1, z2, q⟩ := h
  obtain ⟨as, ra⟩ := h1.reads I rx
  obtain ⟨bs, rb⟩ := h2.reads I ry
  exact ne_dataH ra rb z1 z2 hu (fin_bl I q rfl)
end

section
variable {X : Cx} {tg : Expr}
noncomputable def Its (x : Str) : It := ⟨fun i _ => i < x.cps.size, fun i H v H' => H' = H ∧ ∃ c, x.cps[i]? = some c ∧ v = .str ⟨#[c]⟩, fun i _ => x.cps.size ≤ i⟩
theorem turn_str {P : Program} {w : World} {K : PySem.W.Frag} {tg : Expr} (it : Addr) (x : Str) (t : Tok) : Turn P w K tg (Its x) [it] it (fun i h => h.IsStrIter it (strIterType x) x t i) where
  mem := by simp
  obj := fun i h st b hb => by
    have e : b = it := by simpa using hb
    subst e
    obtain ⟨o, e, c, d⟩ := st
    exact ⟨o, e, fun v z => by rw [d] at z; cases z⟩
  keep := fun i h h' st k => by
    obtain ⟨o, e, c⟩ := st
    exact ⟨o, k it (by simp) o e, c⟩
  item := by
    intro X hP hw hK hc i pins s σ H E I hf st hg
    subst hP hw hK
    obtain ⟨f0, f1, f2, f3, f4, f5⟩ := hf it (by simp)
    have hlt : i < x.cps.size := hg
    have hi : x.cps[i]? = some x.cps[i] := Array.getElem?_eq_getElem hlt
    have fin : ∀ h', h'.IsStrIter it (strIterType x) x t (i + 1) → Heap.SameBut it s.heap h' → ∃ u, some (Value.str ⟨#[x.cps[i]]⟩ s.toks) = some u ∧
        wpAny (model X.prog X.w) X.A (letOwnedTupleGo tg (.ref it) u) (fun _ s2 => ∃ y H', Inv X pins σ H' s2 ∧ RelV y u ∧ (Its x).yld i H y H' ∧ s2.heap.IsStrIter it (strIterType x) x t (i + 1) ∧ ∀ b ∈ [it], H' b = none) E { s with heap := h', toks := s.toks + 1 } := fun h' st' sb => by
      have I1 : Inv X pins σ H { s with heap := h', toks := s.toks + 1 } := I.turned (fun b o hb e => (sb.2 b hb).trans e) f0 f1 f3 f4 f5
      obtain ⟨o, e, c, d⟩ := id st'
      refine ⟨_, rfl, go_of (s := { s with heap := h', toks := s.toks + 1 }) e c d ?_ ⟨.str ⟨#[x.cps[i]]⟩, H, I1, ⟨_, rfl⟩, ⟨rfl, _, hi, rfl⟩, st', fun b hb => (hf b hb).1⟩⟩
      unfold strIterType
      split <;> decide
    cases ha : x.cps.all (· < 128) with
    | true =>
      have e : strIterType x = "str_ascii_iterator" := by unfold strIterType; rw [if_pos ha]
      rw [e] at st
      refine wpAny_pyNext_ascii_item st hi fun h' st' sb => fin h' (by rw [e]; exact st') sb
    | false =>
      have e : strIterType x = "str_iterator" := by unfold strIterType; rw [if_neg (by rw [ha]; decide)]
      rw [e] at st
      refine wpAny_pyNext_wide_item st hi fun h' st' sb => fin h' (by rw [e]; exact st') sb
  done := by
    intro X hP hw hK hc i pins s σ H E I hf st hg
    subst hP hw hK
    obtain ⟨f0, f1, f2, f3, f4, f5⟩ := hf it (by simp)
    have hi : x.cps[i]? = none := by
      have : x.cps.size ≤ i := hg
      simp [this]
    cases ha : x.cps.all (· < 128) with
    | true =>
      have e : strIterType x = "str_ascii_iterator" := by unfold strIterType; rw [if_pos ha]
      rw [e] at st
      exact wpAny_pyNext_ascii_end (I.ok.hd hc) st hi fun h' eb => ⟨rfl, I.turned (t' := s.toks) (fun b o hb e => eb b o hb e) f0 f1 f3 f4 f5⟩
    | false =>
      have e : strIterType x = "str_iterator" := by unfold strIterType; rw [if_neg (by rw [ha]; decide)]
      rw [e] at st
      exact wpAny_pyNext_wide_end (I.ok.hd hc) st hi fun h' eb => ⟨rfl, I.turned (t' := s.toks) (fun b o hb e => eb b o hb e) f0 f1 f3 f4 f5⟩
  self := fun A i s Q E st h => by
    cases ha : x.cps.all (· < 128) with
    | true =>
      have e : strIterType x = "str_ascii_iterator" := by unfold strIterType; rw [if_pos ha]
      rw [e] at st
      exact wpAny_pyIter_striter_ascii st h
    | false =>
      have e : strIterType x = "str_iterator" := by unfold strIterType; rw [if_neg (by rw [ha]; decide)]
      rw [e] at st
      exact wpAny_pyIter_striter_wide st h
noncomputable def rSlS : V → Option Int → Option Int → Hp → VK → Prop := fun v lo hi H Q => ∃ x, v = .str x ∧ x.length ≤ sizeLine ∧ Q (.str (Txt.slice x lo hi)) H
theorem sl_str : SlR X rSlS := by
  intro pins s σ H x v vl vu lo hi sl Q I rx hs pl pu h
  obtain ⟨z, rfl, hz, q⟩ := h
  obtain ⟨t, rfl⟩ := rx
  refine ⟨"str", _, F.slot_str_getitem.lookup, typeIs_str _ _ _, ?_⟩
  have fin : ∀ t' k, EP X pins σ Q (.str (Txt.slice z lo hi) t') { s with toks := k } := fun t' k => ⟨.str _, H, I.tok k, ⟨t', rfl⟩, q⟩
  obtain ⟨o, ho, hc, hd⟩ := hs
  cases pl with
  | none => cases pu with
    | none => exact wpAny_getItem_str_slice (l := none) (u := none) (st := none) ⟨o, ho, hc, hd⟩ rfl (post_val_or_str ⟨Nat.le_trans (Txt.slice_le z _ _) hz, fin⟩)
    | int j tj => exact wpAny_getItem_str_slice (l := none) (u := some (j, tj)) (st := none) ⟨o, ho, hc, hd⟩ rfl (post_val_or_str ⟨Nat.le_trans (Txt.slice_le z _ _) hz, fin⟩)
  | int i ti => cases pu with
    | none => exact wpAny_getItem_str_slice (l := some (i, ti)) (u := none) (st := none) ⟨o, ho, hc, hd⟩ rfl (post_val_or_str ⟨Nat.le_trans (Txt.slice_le z _ _) hz, fin⟩)
    | int j tj => exact wpAny_getItem_str_slice (l := some (i, ti)) (u := some (j, tj)) (st := none) ⟨o, ho, hc, hd⟩ rfl (post_val_or_str ⟨Nat.le_trans (Txt.slice_le z _ _) hz, fin⟩)

theorem range_all {bs : List Bool} : (List.range bs.length).all (fun i => bs.getD i false) = bs.all id := by
  rw [Bool.eq_iff_iff, List.all_eq_true, List.all_eq_true]
  constructor
  · intro h b hb
    obtain ⟨i, hi, e⟩ := List.getElem_of_mem hb
    have := h i (List.mem_range.mpr hi)
    rw [List.getD_eq_getElem?_getD, List.getElem?_eq_getElem hi] at this
    rw [← e]
    exact this
  · intro h i hi
    have hi' := List.mem_range.mp hi
    rw [List.getD_eq_getElem?_getD, List.getElem?_eq_getElem hi']
    exact h _ (List.getElem_mem hi')
theorem call_all (hc : X.calm = true) : CallR X (.builtin "all") (fun xs H Q => ∃ (a : Addr) (bs : List Bool), xs = [.ref a] ∧ SqL X.K H a (bs.map V.bl) ∧ Q (.bl (bs.all id)) H) := by
  intro pins s σ H xs us Q I r h
  obtain ⟨a, bs, rfl, ha, q⟩ := h
  obtain ⟨u, rfl, ru⟩ := vals1 r
  cases ru
  obtain ⟨its, rv, p, hz⟩ := I.list ha
  have hlt : a < s.heap.objs.size := by
    obtain ⟨o, n, e, _⟩ := id p
    exact Heap.lt_size e
  have hl : its.length = bs.length := by rw [← rv.length, List.length_map]
  refine call_all_walk (wpAny_pyIter_list p.isList ?_)
  refine ⟨s.heap.objs.size, [s.heap.objs.size, a], [s.heap.objs.size], its.toArray.size, _, _, fun i => bs.getD i false, rfl, Walks.list (A := X.A.in1) (I.ok.hd hc) s.heap.objs.size a (Nat.ne_of_lt hlt) its.toArray, ⟨⟨_, Heap.get?_push_size _ rfl, rfl, rfl⟩, p.isList.at fun o e => Heap.get?_push_of_some _ e⟩, ?_, fun h' tk hk => ?_⟩
  · intro i v s' Q' E' hv hq
    have hv' : its[i]? = some v := by simpa using hv
    have hi : i < its.length := (List.getElem?_eq_some_iff.mp hv').1
    have hb : (bs.map V.bl)[i]? = some (.bl (bs.getD i false)) := by
      rw [List.getElem?_map, List.getD_eq_getElem?_getD, List.getElem?_eq_getElem (by omega)]
      rfl
    obtain ⟨u, hu, ru⟩ := rv.get hb
    rw [hv'] at hu
    cases hu
    cases (show v = Value.bool _ from ru)
    exact wpAny_truthy_bool hq
  · have e : its.toArray.size = bs.length := by rw [List.size_toArray]; exact hl
    rw [e, range_all]
    refine ⟨.bl _, H, ?_, rfl, q⟩
    have I1 : Inv X pins σ H { s with heap := s.heap.push { cls := .type "list_iterator", data := .fields #[.ref a, .int 0 0] } } := I.kept (t' := s.toks) fun b o e => Heap.get?_push_of_some _ e
    have f := I.fpOk (Nat.le_refl _) (I.hok.fresh (Nat.le_refl _))
    exact I1.turned (fun b o hb e => hk b o (by simpa using hb) e) f.1 f.2.1 f.2.2.2.1 f.2.2.2.2.1 f.2.2.2.2.2

noncomputable def isi (t T : String) : Bool := t == T || (t == "bool" && T == "int")
theorem kit_tab {K : PySem.W.Frag} {t T : String} (h1 : t ∈ ["NoneType", "bool", "int", "str", "list", "tuple", "dict"]) (h2 : T ∈ ["bool", "int", "str", "list", "tuple"]) : PySem.W.kitOne K (.type t) (.type T) = some (isi t T) := by
  simp only [List.mem_cons, List.not_mem_nil, or_false] at h1 h2
  rcases h1 with rfl | rfl | rfl | rfl | rfl | rfl | rfl <;> rcases h2 with rfl | rfl | rfl | rfl | rfl <;> kernel_rfl
end

theorem iteP {c : Bool} {A B : Prop} (e : c = true) (h : A) : if c = true then A else B := by rw [if_pos e]; exact h
theorem iteN {c : Bool} {A B : Prop} (e : c = false) (h : B) : if c = true then A else B := by rw [if_neg (by rw [e]; decide)]; exact h
theorem bt_len : bootBuiltins "len" = some (.builtin "len") := by decide +kernel
theorem bt_all : bootBuiltins "all" = some (.builtin "all") := by decide +kernel
theorem bt_isinstance : bootBuiltins "isinstance" = some (.builtin "isinstance") := by decide +kernel
theorem bt_int : bootBuiltins "int" = some (.type "int") := by decide +kernel
theorem bt_bool : bootBuiltins "bool" = some (.type "bool") := by decide +kernel
theorem bt_list : bootBuiltins "list" = some (.type "list") := by decide +kernel
theorem bt_tuple : bootBuiltins "tuple" = some (.type "tuple") := by decide +kernel
section
variable {X : Cx} {x : Str} {pos : Pos} {tg : Expr}
theorem pe_ty {T : String} (hm : X.mg x = none) (hv : bootBuiltins x = some (.type T)) (hg : Gl X x := by rfl) (hn : x ≠ "__name__" := by decide) (hd : (x == ("__debug__" : Str)) = false := by decide) : PE X (.Name x pos) (tC (.ty T)) := pe_bltn hg hm hv rfl hn hd
theorem pe_g {v : V} (h : ∃ u, X.mg x = some u ∧ RelV v u) (hg : Gl X x := by rfl) (hd : (x == ("__debug__" : Str)) = false := by decide) : PE X (.Name x pos) (tC v) := by
  obtain ⟨u, m, r⟩ := h
  exact pe_glob hg m r hd
noncomputable def rAddS : R2 := fun x y H Q => ∃ i j, x = .str i ∧ y = .str j ∧ i.length + j.length ≤ sizeLine ∧ Q (.str (i ++ j)) H
noncomputable def rPlus : R2 := fun x y H Q => rI0 (fun i j => .int (i + j)) x y H Q ∨ (rAddS x y H Q ∨ rCat x y H Q)
theorem op_plus : OpR X (binaryOp .Add) rPlus := op_add.or (op_add_str.or op_cat)
noncomputable def iSeq (K : PySem.W.Frag) (tl : TE) : TI := fun σ H R => tl σ H fun x H1 => (∃ a, x = .ref a ∧ (∃ xs, SqL K H1 a xs) ∧ R (Itl K a) H1) ∨ (∃ a, x = .ref a ∧ (∃ xs, SqT K H1 a xs) ∧ R (Itt K a) H1) ∨ ∃ z, x = .str z ∧ R (Its z) H1
theorem pi_seq {l : Expr} {tl : TE} (hl : PE X l tl) : PI X tg l (iSeq X.K tl) := by
  intro pins s σ H R I h
  refine thn (hl pins s σ H _ I h) fun v s1 ⟨x, H1, I1, r1, q1⟩ => ?_
  have fr : ∀ b ∈ [s1.heap.objs.size], FpOk X pins H1 b := fun b hb => by
    have e : b = s1.heap.objs.size := by simpa using hb
    subst e
    exact I1.fpOk (Nat.le_refl _) (I1.hok.fresh (Nat.le_refl _))
  rcases q1 with ⟨a, e, ⟨xs, hq⟩, q⟩ | ⟨a, e, ⟨xs, hq⟩, q⟩ | ⟨z, e, q⟩
  · subst e
    cases r1
    obtain ⟨its, rv, p, hz⟩ := I1.list hq
    refine wpAny_pyIter_list p.isList ?_
    exact ⟨s1.heap.objs.size, [s1.heap.objs.size], _, _, H1, rfl, I1.kept (t' := s1.toks) fun b o e => Heap.get?_push_of_some _ e, turn_list a _, ⟨_, Heap.get?_push_size _ rfl, rfl, rfl⟩, fr, q⟩
  · subst e
    cases r1
    obtain ⟨its, rv, p, hz⟩ := I1.tuple hq
    refine wpAny_pyIter_tuple (show s1.heap.IsTuple a its.toArray from p) ?_
    exact ⟨s1.heap.objs.size, [s1.heap.objs.size], _, _, H1, rfl, I1.kept (t' := s1.toks) fun b o e => Heap.get?_push_of_some _ e, turn_tuple a _, ⟨_, Heap.get?_push_size _ rfl, rfl, rfl⟩, fr, q⟩
  · subst e
    obtain ⟨t, rfl⟩ := r1
    refine wpAny_pyIter_strU ?_
    exact ⟨s1.heap.objs.size, [s1.heap.objs.size], _, _, H1, rfl, I1.kept (t' := s1.toks) fun b o e => Heap.get?_push_of_some _ e, turn_str _ z t, ⟨_, Heap.get?_push_size _ rfl, rfl, rfl⟩, fr, q⟩
noncomputable def rSlA (K : PySem.W.Frag) : V → Option Int → Option Int → Hp → VK → Prop := fun x lo hi H Q => rSlL K x lo hi H Q ∨ (rSlS x lo hi H Q ∨ rSlT K x lo hi H Q)
theorem sl_any : SlR X (rSlA X.K) := sl_list.or (sl_str.or sl_tup)
end

section
variable {X : Cx} {K : PySem.W.Frag} {tg : Expr}
theorem ix_k (h : X.K = K) : IxR X (rIx K) := h ▸ ix_seq
theorem sl_k (h : X.K = K) : SlR X (rSlA K) := h ▸ sl_any
theorem len_k (h : X.K = K) : CallR X (.builtin "len") (fun xs H Q => ∃ x n, xs = [x] ∧ LenV K x H n ∧ Q (.int n) H) := h ▸ call_len
theorem all_k (h : X.K = K) (hc : X.calm = true) : CallR X (.builtin "all") (fun xs H Q => ∃ (a : Addr) (bs : List Bool), xs = [.ref a] ∧ SqL K H a (bs.map V.bl) ∧ Q (.bl (bs.all id)) H) := h ▸ call_all hc
theorem eqD_k (h : X.K = K) (hu : X.A.units + 64 < cLine) : OpR X (compareOp .Eq) (rEqD K) := h ▸ op_eqD hu
theorem neD_k (h : X.K = K) (hu : X.A.units + 64 < cLine) : OpR X (compareOp .NotEq) (rNeD K) := h ▸ op_neD hu
theorem pi_k {l : Expr} {tl : TE} (h : X.K = K) (hl : PE X l tl) : PI X tg l (iSeq K tl) := h ▸ pi_seq hl
theorem tupof_k (h : X.K = K) : CallR X (.type "tuple") (fun xs H Q => ∃ p ys, xs = [.ref p] ∧ ((SqL K H p ys ∧ ∀ l, H l = none → Q (.ref l) (upd H l (.tup ys))) ∨ (SqT K H p ys ∧ Q (.ref p) H))) := h ▸ call_tuple_of
theorem pgt_k {es : List Expr} {k : Nat} {t : TGs} {n : Nat} {pos : Pos} (hK : X.K = K) (hc : X.calm = true) (h : PGs X es t) (hn : (assignEach es X.env).length = n := by rfl) (hst : (assignEach es X.env).findIdx? (·.1) = none := by rfl) : PG X (.Tuple es k pos) (gTup K n t) := hK ▸ pg_tup hc h hn hst
theorem bm_k {o e : Expr} {es : List Expr} {to : TE} {t : TA} {name : Str} {apos cpos : Pos} {T id : String} {r : V → List V → Hp → VK → Prop} (hK : X.K = K) (pa : PlainAttrs T) (slot : Slot T name id) (hty : typeOf (.builtin id) = pure (.type "method_descriptor")) (hm : MtR X id r) (ho : PE X o to) (ha : PA X (e :: es) t)
    (hbase : attributeBase o name X.env (eval o X.env) = eval o X.env := by rfl)
    (hfew : ((backTo cpos (starEach (e :: es) X.env)).all (fun x => !x.1) && (backToKw cpos (keywordEach [] X.env)).all (fun x => x.1.isSome)
      && decide ((e :: es).length + ([] : List Keyword).length + (if ([] : List Keyword).isEmpty then 0 else 1) < 30)) = true := by rfl)
    (hline : (apos.endLine == cpos.line) = true := by rfl) (hs : starEach (e :: es) X.env = (false, eval e X.env) :: starEach es X.env := by rfl) (hplain : (backTo cpos (starEach es X.env)).any (·.1) = false := by rfl) :
    PE X (.Call (.Attribute o name apos) (e :: es) [] cpos) (tBM K T r to t) := hK ▸ pe_bm pa slot hty hm ho ha hbase hfew hline hs hplain
theorem bm0_k {o : Expr} {to : TE} {name : Str} {apos cpos : Pos} {T id : String} {r : V → List V → Hp → VK → Prop} (hK : X.K = K) (pa : PlainAttrs T) (slot : Slot T name id) (hty : typeOf (.builtin id) = pure (.type "method_descriptor")) (hm : MtR X id r) (ho : PE X o to)
    (hbase : attributeBase o name X.env (eval o X.env) = eval o X.env := by rfl) (hline : (apos.endLine == cpos.line) = true := by rfl) : PE X (.Call (.Attribute o name apos) [] [] cpos) (tBM0 K T r to) := hK ▸ pe_bm0 pa slot hty hm ho hbase hline
end

noncomputable def rEqNil (K : PySem.W.Frag) : R2 := fun x y H Q => ∃ (a b : Addr) (xs : List V), x = .ref a ∧ y = .ref b ∧ SqL K H a xs ∧ SqL K H b [] ∧ Q (.bl xs.isEmpty) H
theorem eqNil_k {X : Cx} {K : PySem.W.Frag} (h : X.K = K) (hu : X.A.units < cLine) : OpR X (compareOp .Eq) (rEqNil K) := by
  subst h
  intro pins s σ H x y v u Q I rx ry q
  obtain ⟨a, b, xs, rfl, rfl, ha, hb, q⟩ := q
  cases rx
  cases ry
  obtain ⟨its, rv, p, _⟩ := I.list ha
  obtain ⟨itb, rb, pb, _⟩ := I.list hb
  cases rb
  cases rv with
  | nil => exact SeqAt.eq_listAt (e := fun _ => true) p.isList pb.isList rfl hu (fun j h1 _ => absurd h1 (by simp)) (fin_bl I q rfl)
  | cons r rr => exact SeqAt.eq_list_lengthsAt p.isList pb.isList (by simp) hu (fin_bl I q rfl)

structure Def (P : Program) (w : World) (K : PySem.W.Frag) (mg : Str → Option Value) (base : Heap) (k : Nat) (x : Str) (ps : List Str) (sp : Sp) : Prop where
  ex : ∃ (f : Addr) (fd : FuncData), FnOk P w K mg base CX0 k f fd ps sp ∧ Binds K fd ps [] ∧ PySem.W.keepIn K (.ref f) = true ∧ mg x = some (.ref f)
theorem pe_def {X : Cx} {k : Nat} {x : Str} {ps : List Str} {sp : Sp} {e : Expr} {es : List Expr} {t : TA} {p pos : Pos} (D : Def X.prog X.w X.K X.mg X.base k x ps sp) (hr : Room k X.A) (ha : PA X (e :: es) t) (hg : Gl X x := by rfl)
    (hdb : (x == ("__debug__" : Str)) = false := by decide) (he : starEach (e :: es) X.env = (false, eval e X.env) :: starEach es X.env := by rfl) (hpl : (backTo pos (starEach es X.env)).any (·.1) = false := by rfl) :
    PE X (.Call (.Name x p) (e :: es) [] pos) (tCall sp [] E0 t) := by
  obtain ⟨f, fd, F, B, kp, m⟩ := D.ex
  exact pe_call F hr hg m kp B .nil pass0 ha hdb he hpl
end L2

namespace L2
open PySem PySem.Spec PyProof.Rows

theorem ObjOk.there {P : Program} {w : World} {H : Hp} {h : Heap} {a : Addr} {o : HO} (x : ObjOk P w H h a o) : ∃ ob, h.get? a = some ob := by
  cases o with
  | lst xs => obtain ⟨_, _, _, _, e⟩ := x; exact ⟨_, e⟩
  | tup xs => obtain ⟨_, _, _, o, e, _⟩ := x; exact ⟨_, e⟩
  | dK kvs => obtain ⟨_, _, _, _, o, _, _, e, _⟩ := x; exact ⟨_, e⟩
  | dT kvs => obtain ⟨_, _, _, _, o, _, _, e, _⟩ := x; exact ⟨_, e⟩
  | set S n => obtain ⟨o, _, _, _, e, _⟩ := x; exact ⟨_, e⟩
  | ins C dx fs => obtain ⟨_, _, _, e, _⟩ := x; exact ⟨_, e⟩
  | own y => exact x
  | xd fs => obtain ⟨_, ⟨_, _, _, e, _⟩, _⟩ := x; exact ⟨_, e⟩
  | rng lo hi => obtain ⟨_, _, _, e⟩ := x; exact ⟨_, e⟩
  | frz ob u => obtain ⟨e, _⟩ := x; exact ⟨_, e⟩
  | tbl ps => exact ⟨_, (show h.get? a = some _ from x)⟩
  | met f y => exact ⟨_, (show h.get? a = some _ from x)⟩
  | ext φ => obtain ⟨_, e, _⟩ := x; exact e

structure Fly (P : Program) (w : World) (outer : List Env) (H : Hp) (s : Shared) (H' : Hp) (ea : Addr) (C : Value) (s' : Shared) : Prop where
  os : s'.os = s.os
  bare : AllBare s'.gens
  un : Un (frs outer) [] H H' s.heap s'.heap
  hok : HOk P w H' s'.heap
  frees : ∀ b ∈ frs outer, H' b = none
  fly : ∃ B a0, Heap.FlyingW B outer ea C a0 s'.heap ∧ ∀ b o, s'.heap.get? b = some o → (H' b ≠ none ∨ ∃ o0, s.heap.get? b = some o0) → b ∉ frs outer → B.get? b = some o
noncomputable abbrev CX1 (P : Program) (w : World) : CXT := fun outer H s E e s' => ∃ ea C H', e = .ref ea ∧ Fly P w outer H s H' ea C s' ∧ E C none H'

section
variable {P : Program} {w : World} {outer l2 : List Env} {H H' : Hp} {s s' : Shared} {ea : Addr} {C : Value} {h' : Heap}
theorem fly_turn {B : Heap} {a0 : Value} (F : Fly P w outer H s H' ea C s') (hB : ∀ b o, s'.heap.get? b = some o → (H' b ≠ none ∨ ∃ o0, s.heap.get? b = some o0) → b ∉ frs outer → B.get? b = some o)
    (fl : Heap.FlyingW B outer ea C a0 h') (sm : s'.heap.UpToSlots h') (hd : ∀ b ∈ frs outer, ∀ o, s'.heap.get? b = some o → ∀ vs, o.data ≠ .fields vs) : Fly P w outer H s H' ea C { s' with heap := h' } := by
  have stay : ∀ b o, s'.heap.get? b = some o → (H' b ≠ none ∨ ∃ o0, s.heap.get? b = some o0) → b ∉ frs outer → h'.get? b = some o := fun b o e z n => fl.1 b o (hB b o e z n)
  refine ⟨F.os, F.bare, ⟨fun b o e n hb hx => ?_, fun b o e n hb hx => ?_, F.un.free, fun b o e hx => ?_, F.un.tups, F.un.frzs, F.un.tbls⟩, fun b u e => ?_, F.frees, B, a0, fl, fun b o e z n => ?_⟩
  · exact stay b o (F.un.keep b o e n hb hx) (.inr ⟨o, e⟩) hb
  · obtain ⟨sl, e1⟩ := F.un.slot b o e n hb hx
    obtain ⟨sl', e2⟩ := sm b _ e1 (hd b hb _ e1)
    exact ⟨sl', e2⟩
  · obtain ⟨o1, e1⟩ := F.un.there b o e hx
    by_cases hb : b ∈ frs outer
    · obtain ⟨sl', e2⟩ := sm b _ e1 (hd b hb _ e1)
      exact ⟨_, e2⟩
    · exact ⟨o1, stay b o1 e1 (.inr ⟨o, e⟩) hb⟩
  · have nf : ∀ c v, H' c = some v → c ∉ frs outer := fun c v q z => by rw [F.frees c z] at q; cases q
    refine (F.hok b u e).stay (fun c v hc q => ?_) (fun _ q => q) fun _ _ q => q
    rcases hc with rfl | hc
    · exact stay c v q (.inl (by rw [e]; simp)) (nf c _ e)
    · exact stay c v q (.inl (by rw [hc]; simp)) (nf c _ hc)
  · have e0 : ∃ o1, s'.heap.get? b = some o1 := by
      rcases z with z | ⟨o0, z⟩
      · cases q : H' b with
        | none => exact absurd q z
        | some u => exact (F.hok b u q).there
      · exact F.un.there b o0 z (by simp)
    obtain ⟨o1, e1⟩ := e0
    have e2 := hB b o1 e1 z n
    have e3 := fl.1 b o1 e2
    have e' : h'.get? b = some o := e
    rw [e'] at e3
    cases e3
    exact e2
end

section
variable {P : Program} {w : World} {K : PySem.W.Frag} {mg : Str → Option Value} {base : Heap} {N : List Str} {qual : Str} {scope : Scope} {f : Addr} {cd : Value} {A : Around} {outer : List Env} {s₀ : Shared} {H₀ : Hp} {E : XK}
theorem frs_cons {env : Env} {L : Addr} (h : env.frame = some L) (outer : List Env) : frs (env :: outer) = L :: frs outer := by
  unfold frs
  rw [List.filterMap_cons, h]
theorem fly_out {pins : List (Addr × Obj)} {σ : St} {H H' : Hp} {s s' : Shared} {ea : Addr} {C : Value}
    (I : Inv (cxOf (CX1 P w) P w K mg base N qual scope f cd A outer s₀ H₀ E) pins σ H s) (F : Fly P w (envOfC qual scope s₀.heap.objs.size f cd :: outer) H s H' ea C s') :
    ∀ {Q : Unit → Shared → Prop} {E' : Value → Shared → Prop}, (∀ s'', Fly P w outer H₀ s₀ H' ea C s'' → Q () s'') → wpAny (model P w) (A.deeper (envOfC qual scope s₀.heap.objs.size f cd)) (leaving (envOfC qual scope s₀.heap.objs.size f cd) (.ref ea)) Q E' s' := by
  intro Q E' hQ
  obtain ⟨B, a0, fl, hB⟩ := F.fly
  have fc : frs (envOfC qual scope s₀.heap.objs.size f cd :: outer) = s₀.heap.objs.size :: frs outer := frs_cons rfl outer
  refine wpAny_leaves_onW (L := s₀.heap.objs.size) I.ok.frames rfl fl fun h' fl' sm => hQ _ ?_
  have U1 : Un (frs outer) [] H₀ H s₀.heap s.heap := I.base
  have U2 := F.un
  rw [fc] at U2 hB
  have nL : ∀ b o, s₀.heap.get? b = some o → b ≠ s₀.heap.objs.size := fun b o e => Nat.ne_of_lt (Heap.lt_size e)
  have nf : ∀ b o, s₀.heap.get? b = some o → b ∉ frs outer → b ∉ s₀.heap.objs.size :: frs outer := fun b o e hb z => by
    rcases List.mem_cons.mp z with z | z
    · exact nL b o e z
    · exact hb z
  have stay : ∀ b o, s'.heap.get? b = some o → (H' b ≠ none ∨ ∃ o0, s.heap.get? b = some o0) → b ∉ s₀.heap.objs.size :: frs outer → h'.get? b = some o := fun b o e z n => fl'.1 b o (hB b o e z n)
  have hd : ∀ b ∈ frs outer, ∀ o, s'.heap.get? b = some o → ∀ vs, o.data ≠ .fields vs := fun b hb o e vs => by
    obtain ⟨_, o1, e1, d1⟩ := fl.2.2.1.mem (b := b) (by rw [show List.filterMap (fun x => x.frame) (envOfC qual scope s₀.heap.objs.size f cd :: outer) = frs (envOfC qual scope s₀.heap.objs.size f cd :: outer) from rfl, fc]; exact List.mem_cons_of_mem _ hb)
    rw [e] at e1
    cases e1
    exact d1 vs
  have hfr : ∀ b ∈ frs outer, H' b = none := fun b hb => F.frees b (by rw [fc]; exact List.mem_cons_of_mem _ hb)
  have there2 : ∀ b o, s₀.heap.get? b = some o → ∃ o1, s.heap.get? b = some o1 ∧ ∃ o2, s'.heap.get? b = some o2 := fun b o e => by
    obtain ⟨o1, e1⟩ := U1.there b o e (by simp)
    obtain ⟨o2, e2⟩ := U2.there b o1 e1 (by simp)
    exact ⟨o1, e1, o2, e2⟩
  refine ⟨F.os.trans I.os, F.bare, ⟨fun b o e n hb hx => ?_, fun b o e n hb hx => ?_, fun b o e n hx => ?_, fun b o e hx => ?_, fun b xs q => U2.tups b xs (U1.tups b xs q), fun b o u q => U2.frzs b o u (U1.frzs b o u q), fun b ps q => ?_⟩, fun b u e => ?_, hfr, B, a0, fl', fun b o e z n => ?_⟩
  · have e1 := U1.keep b o e n hb (by simp)
    have n1 := U1.free b o e n (by simp)
    exact stay b o (U2.keep b o e1 n1 (nf b o e hb) (by simp)) (.inr ⟨o, e1⟩) (nf b o e hb)
  · obtain ⟨sl, e1⟩ := U1.slot b o e n hb (by simp)
    have n1 := U1.free b o e n (by simp)
    obtain ⟨sl2, e2⟩ := U2.slot b _ e1 n1 (List.mem_cons_of_mem _ hb) (by simp)
    obtain ⟨sl3, e3⟩ := sm b _ e2 (hd b hb _ e2)
    exact ⟨sl3, e3⟩
  · obtain ⟨o1, e1⟩ := U1.there b o e (by simp)
    exact U2.free b o1 e1 (U1.free b o e n (by simp)) (by simp)
  · obtain ⟨o1, e1, o2, e2⟩ := there2 b o e
    by_cases hb : b ∈ frs outer
    · obtain ⟨sl3, e3⟩ := sm b _ e2 (hd b hb _ e2)
      exact ⟨_, e3⟩
    · exact ⟨o2, stay b o2 e2 (.inr ⟨o1, e1⟩) (nf b o e hb)⟩
  · obtain ⟨m1, e1⟩ := U1.tbls b ps q
    obtain ⟨m2, e2⟩ := U2.tbls b _ e1
    exact ⟨m1 ++ m2, by rw [e2, Array.append_assoc]⟩
  · have nt : ∀ c v, H' c = some v → c ∉ s₀.heap.objs.size :: frs outer := fun c v q z => by
      rw [F.frees c (by rw [fc]; exact z)] at q; cases q
    refine (F.hok b u e).stay (fun c v hc q => ?_) (fun _ q => q) fun _ _ q => q
    rcases hc with rfl | hc
    · exact stay c v q (.inl (by rw [e]; simp)) (nt c _ e)
    · exact stay c v q (.inl (by rw [hc]; simp)) (nt c _ hc)
  · have nt : ∀ c v, H' c = some v → c ∉ s₀.heap.objs.size :: frs outer := fun c v q z => by
      rw [F.frees c (by rw [fc]; exact z)] at q; cases q
    have e0 : ∃ o1, s'.heap.get? b = some o1 ∧ (H' b ≠ none ∨ ∃ o0, s.heap.get? b = some o0) ∧ b ∉ s₀.heap.objs.size :: frs outer := by
      rcases z with z | ⟨o0, z⟩
      · cases q : H' b with
        | none => exact absurd q z
        | some u =>
          obtain ⟨o1, e1⟩ := (F.hok b u q).there
          exact ⟨o1, e1, .inl (by simp), nt b u q⟩
      · obtain ⟨o1, e1, o2, e2⟩ := there2 b o0 z
        exact ⟨o2, e2, .inr ⟨o1, e1⟩, nf b o0 z n⟩
    obtain ⟨o1, e1, z1, n1⟩ := e0
    have e2 := hB b o1 e1 z1 n1
    have e3 := fl'.1 b o1 e2
    have e' : h'.get? b = some o := e
    rw [e'] at e3
    cases e3
    exact e2
end
end L2
namespace L2
open PySem PySem.Spec PyProof.Rows

section
open PySem.Builtin PySem.Builtin.ObjectAttr PySem.Builtin.Getset_descriptor
variable {prog : Program} {w : World} {A : Around} {K : PySem.W.Frag} {x D : Addr}
noncomputable def ClsAt (x D : Addr) (h : Heap) : Prop := ∃ o, h.get? x = some o ∧ o.cls = .ref D
theorem ClsAt.looks {M : Model} {h : Heap} (p : ClsAt x D h) : PySem.W.Looks M h (typeOf (.ref x)) (.ref D) := by
  obtain ⟨o, e, c⟩ := p
  exact c ▸ (PySem.W.Looks.ld e).andThen .now
structure XK1 (K : PySem.W.Frag) (D : Addr) : Prop where
  ga : PySem.W.findIn K (.ref D) "__getattribute__" = some (some (.builtin "BaseException.__getattribute__"))
  gt : PySem.W.findIn K (.ref D) "__getattr__" = some none
  be : PySem.W.mroIn K D (.type "BaseException") = some true
  cl : (PySem.W.clsIn K D).isSome = true
  fd : PySem.W.findIn K (.ref D) "__class__" = some (some (.builtin "object.__class__"))
  sp : PySem.W.specialIn K (.builtin "object.__class__") "__get__" = some (some (.builtin "getset_descriptor.__get__"))
  tk : PySem.W.takesIn K (.builtin "object.__class__") = some true
  ob : PySem.W.mroIn K D (.type "object") = some true
theorem XK1.class_ok {s : Shared} {R : Result → Shared → Prop} {tp : Value} (c : XK1 K D) (X : K.In s.heap) (p : ClsAt x D s.heap) (h : R (.ok (.ret (.ref D))) s) :
    codeAny (model prog w) A (.call (.builtin "getset_descriptor.__get__") ⟨[.builtin "object.__class__", .ref x, tp], []⟩) R s := by
  obtain ⟨hp, gs, dw, tk, os⟩ := s
  have L0 := ClsAt.looks (M := model prog w) p
  have L1 := PySem.W.looks_mroIn (M := model prog w) X c.ob
  refine codeAny_call_builtin PySem.W.KF.slot_gs.plain PySem.W.KF.entry_gs
    (PySem.W.KF.slot_gs.check _ _ _ _ _ _ _ _ PySem.W.KF.type_class (PySem.W.KF.args_gs _ _ _) ?_)
  unfold Builtin.«getset_descriptor.__get__» descrGet; rw [PySem.W.dga_obj]; refine wpAny_bind (wpAny_pure ?_)
  unfold descrGetter descrCheckInstance descrNameAndClass isInstance; simp only [PySem.W.KF.owner_class]; repeat lk
  refine ⟨Code.quiet_builtin _ (by decide +kernel), codeAny_builtin PySem.W.KF.entry_class ?_⟩; unfold Builtin.«object.__class__» shownTypeOf; repeat lk
  exact h
theorem XK1.find_ok {M : Model} {h : Heap} (c : XK1 K D) (X : K.In h) : PySem.W.Looks M h (find (.ref x) (.ref D) "__class__") (.bind (.builtin "getset_descriptor.__get__") (.builtin "object.__class__")) := by
  have L1 := PySem.W.looks_findIn (M := M) X c.fd
  have L2 := PySem.W.looks_specialIn (M := M) X c.sp
  have L3 := PySem.W.looks_takesIn (M := M) X c.tk
  refine L1.andThen (L2.andThen ?_)
  exact (show PySem.W.Looks M h (dataDescriptor? (some (.builtin "object.__class__")) (some (.builtin "getset_descriptor.__get__"))) (some (.builtin "getset_descriptor.__get__", .builtin "object.__class__")) from L3.andThen .now).andThen (PySem.W.Looks.tag .now)
theorem XK1.check_ok {E : Value → Shared → Prop} {s : Shared} {nm : Value} {Q : Unit → Shared → Prop} (c : XK1 K D) (X : K.In s.heap) (p : ClsAt x D s.heap) (h : Q () s) :
    wpAny (model prog w) A (checkBuiltinCall "BaseException.__getattribute__" ⟨[.ref x, nm], []⟩) Q E s := by
  obtain ⟨hp, gs, dw, tk, os⟩ := s
  have L0 := ClsAt.looks (M := model prog w) p
  have L1 := PySem.W.looks_mroIn (M := model prog w) X c.be
  have e1 : builtinKind "BaseException.__getattribute__" = some .slot := by decide +kernel
  have e2 : splitId "BaseException.__getattribute__" = some ("BaseException", "__getattribute__") := by decide +kernel
  have e3 := F.args_bexc_ga (.ref x) nm
  simp only [checkBuiltinCall, e1, e2]
  refine wpAny_bind ((L0.andThen L1).at ?_)
  repeat (first | exact h | wp_step)
theorem XK1.entry_ok {E : Value → Shared → Prop} {s : Shared} {tk : Tok} {Q : Fin → Shared → Prop} (c : XK1 K D) (X : K.In s.heap) (p : ClsAt x D s.heap) (h : Q (.done (.ret (.ref D))) s) :
    wpAny (model prog w) A (Builtin.«object.__getattribute__» ⟨[.ref x, .str "__class__" tk], []⟩) Q E s := by
  obtain ⟨hp, gs, dw, tk', os⟩ := s
  have L0 := ClsAt.looks (M := model prog w) p
  have L2 := XK1.find_ok (M := model prog w) (x := x) c X
  unfold Builtin.«object.__getattribute__»
  refine wpAny_bind (wpAny_pure (wpAny_bind (wpAny_pure (wpAny_bind (L0.at (wpAny_bind (L2.at ?_)))))))
  show wpAny _ _ (bindTo _ _ _ _) _ _ _
  unfold bindTo
  show wpAny _ _ (holding [_] (call _ [_, .ref x, .ref D]) >>= ret) _ _ _
  exact wpAny_bind (wpAny_holding (wpAny_call (c.class_ok (s := ⟨hp, gs, dw, tk', os⟩) X p (wpAny_pure h))))
theorem XK1.attr_ok {E : Value → Shared → Prop} {s : Shared} {Q : Option Value → Shared → Prop} (c : XK1 K D) (X : K.In s.heap) (p : ClsAt x D s.heap) (h : Q (some (.ref D)) { s with toks := s.toks + 1 }) :
    wpAny (model prog w) A (getAttr? (.ref x) "__class__") Q E s := by
  obtain ⟨hp, gs, dw, tk, os⟩ := s
  have L0 := ClsAt.looks (M := model prog w) p
  have L1 := PySem.W.looks_findIn (M := model prog w) X c.ga
  have L3 := PySem.W.looks_findIn (M := model prog w) X c.gt
  have b1 := F.excAttr_ValueError.ga.bind (.ref x)
  unfold getAttr? getAttrBy? getAttrBy
  refine wpAny_bind (wpAny_mkText (wpAny_bind (wpAny_attempt (wpAny_holding (wpAny_bind (L0.at (wpAny_bind (L1.at ?_))))))))
  dsimp only
  have e2 : (Value.builtin "BaseException.__getattribute__" == Value.builtin "object.__getattribute__") = false := by decide +kernel
  rw [e2, Bool.and_false, if_neg Bool.false_ne_true]
  unfold getAttrByItsOwn hookBefore
  rw [if_pos (show onTheHeap (.ref D) = true from rfl)]
  refine wpAny_bind (L3.at ?_)
  refine wpAny_bind (wpAny_attempt (wpAny_holding ?_))
  unfold callGetattribute
  rw [Bool.false_and, if_neg Bool.false_ne_true]
  unfold boundAndCalled
  rw [b1]
  refine wpAny_bind (wpAny_pure (wpAny_call (codeAny_call_builtin F.excAttr_ValueError.ga.plain F.entry_bexc_ga (c.check_ok X p (c.entry_ok X p ?_)))))
  show wpAny _ _ (handedOut (.ref D)) _ _ _
  exact PySem.W.handed_on rfl (wpAny_pure h)
theorem XK1.kitx (c : XK1 K D) : PySem.W.KitX K (.ref x) (.ref D) (ClsAt x D) := by
  obtain ⟨cd, hc⟩ := Option.isSome_iff_exists.mp c.cl
  have look : ∃ a b cd' sl, K.lookup D = some ⟨a, b, .cls cd', sl⟩ := by
    unfold PySem.W.clsIn at hc
    split at hc
    · exact ⟨_, _, _, _, by assumption⟩
    · cases hc
  obtain ⟨a, b, cd', sl, ho⟩ := look
  refine ⟨fun M h _ p => p.looks, fun M h X _ A' Q' E' s' k q => ?_, fun h tp dd its n sl X htp => ?_, fun X p k => c.attr_ok X p k⟩
  · unfold isType loadHead; exact wpAny_bind (wpAny_loadPart (k _ _ (X _ _ ho)) (wpAny_pure q))
  · refine Bool.eq_false_iff.mpr fun q => ?_
    have e : D = tp := Value.ref.inj (beq_iff_eq.mp q)
    subst e
    have z := (X _ _ ho).symm.trans htp
    cases z
end

noncomputable def excO (a C : Addr) : HO := .ext (ClsAt a C)
theorem excO_ok {P : Program} {w : World} {H : Hp} {h : Heap} {a C : Addr} (p : ClsAt a C h) : ObjOk P w H h a (excO a C) := by
  refine ⟨p, ?_, fun h1 h2 q k => ?_⟩
  · obtain ⟨o, e, _⟩ := p
    exact ⟨o, e⟩
  · obtain ⟨o, e, c⟩ := q
    exact ⟨o, k o e, c⟩
noncomputable def clsV : V → Option Value
  | .ref a => some (.ref a)
  | .ty n => some (.type n)
  | _ => none
theorem clsV_rel {x : V} {u v : Value} (e : clsV x = some v) (r : RelV x u) : u = v := by
  cases x with
  | ref a => cases e; exact r
  | ty n => cases e; exact r
  | _ => cases e
theorem clsV_all : ∀ {xs : List V} {us vs : List Value}, xs.mapM clsV = some vs → Vals xs us → us = vs
  | [], _, _, e, .nil => by cases e; rfl
  | x :: r, _, vs, e, .cons h t => by
    rw [List.mapM_cons] at e
    cases q : clsV x with
    | none => rw [q] at e; cases e
    | some v =>
      rw [q] at e
      cases q2 : r.mapM clsV with
      | none => rw [q2] at e; cases e
      | some vs' =>
        rw [q2] at e
        cases e
        rw [clsV_rel q h, clsV_all q2 t]
noncomputable def rIsiX (K : PySem.W.Frag) : List V → Hp → VK → Prop := fun xs H Q => ∃ (a C : Addr) (c : V) (b : Bool), xs = [.ref a, c] ∧ H a = some (excO a C) ∧ XK1 K C ∧
  ((∃ cv, clsV c = some cv ∧ PySem.W.kitOne K (.ref C) cv = some b) ∨ ∃ p cs vs, c = .ref p ∧ H p = some (.tup cs) ∧ cs.mapM clsV = some vs ∧ PySem.W.kitAny K (.ref C) vs = some b) ∧ Q (.bl b) H
theorem isiX_k {X : Cx} {K : PySem.W.Frag} (hK : X.K = K) : CallR X (.builtin "isinstance") (rIsiX K) := by
  subst hK
  intro pins s σ H xs us Q I r h
  obtain ⟨a, C, c, b, rfl, ha, x1, hc, q⟩ := h
  obtain ⟨u, v, rfl, ru, rv⟩ := vals2 r
  cases (show u = Value.ref a from ru)
  have p : ClsAt a C s.heap := (show ObjOk X.prog X.w H s.heap a (excO a C) from I.hok a _ ha).1
  rcases hc with ⟨cv, e1, e2⟩ | ⟨tp, cs, vs, rfl, ht, e1, e2⟩
  · cases clsV_rel e1 rv
    exact PySem.W.kia_one x1.kitx I.kIn p e2 (fun z => nomatch z) fun tk => ⟨.bl b, H, I.tok tk, rfl, q⟩
  · cases (show v = Value.ref tp from rv)
    obtain ⟨_, its, rv', ⟨o, ho, hcl, n, hd⟩⟩ := (show ObjOk X.prog X.w H s.heap tp (.tup cs) from I.hok tp _ ht)
    cases clsV_all e1 rv'
    obtain ⟨oc, od, oda, osl⟩ := o
    cases hcl
    cases hd
    exact PySem.W.kia_tup x1.kitx I.kIn p ho e2 (fun z => nomatch z) fun tk => ⟨.bl b, H, I.tok tk, rfl, q⟩
end L2
namespace L2
open PySem PySem.Spec PyProof.Rows

abbrev bmVE : List Value := [.type "ValueError", .type "Exception", .type "BaseException", .type "object"]
noncomputable def XOwn (K : PySem.W.Frag) (C : Addr) : Prop := ∀ h : Heap, K.In h → ∃ bm N nm q bs hdct sn sub ab col dd k0 k1 k2 k3 k5 mN,
  h.get? C = some (excClassObj nm q C N bs bm hdct sn sub ab col dd k0 k1 k2 k3 k5 "ValueError.__new__") ∧ h.Ns N mN ∧ mN "__init__" = none ∧ OwnTail h bmVE bm
noncomputable def Raises (X : Cx) (C : Value) (R : Hp → Prop) : Prop := ∀ (pins : List (Addr × Obj)) (σ : St) (H : Hp) (s : Shared) (h' : Heap) (e : Addr) (vs : List Value),
  Inv X pins σ H s → Heap.MadeExcOf s.heap h' e C vs → R H → X.xe (.ref e) { s with heap := h' }
noncomputable def sRaise (t : TA) (R : Hp → Prop) : TS := fun _ σ H => t σ H fun vs H1 => vs.length ≤ sizeLine ∧ R H1
theorem ps_raise {X : Cx} {x : Str} {C : Addr} {R : Hp → Prop} {e : Expr} {es : List Expr} {t : TA} {np cpos pos : Pos} (hr : Raises X (.ref C) R) (O : XOwn X.K C) (hm : X.mg x = some (.ref C)) (ha : PA X (e :: es) t) (hc : X.calm = true := by rfl)
    (hg : Gl X x := by rfl) (hdb : (x == ("__debug__" : Str)) = false := by decide) (he : starEach (e :: es) X.env = (false, eval e X.env) :: starEach es X.env := by rfl) (hpl : (backTo cpos (starEach es X.env)).any (·.1) = false := by rfl) :
    PS X (.Raise (some (.Call (.Name x np) (e :: es) [] cpos)) none pos) (sRaise t R) := by
  intro pins s σ H D I h
  obtain ⟨bm, N, nm, q, bs, hdct, sn, sub, ab, col, dd, k0, k1, k2, k3, k5, mN, hC, hN, hni, T⟩ := O X.base I.mod.kin
  refine wpAny_Raise_call_subT (C := C) (nm := nm) (q := q) (N := N) (bs := bs) (bm := bm) (hdct := hdct) (sn := sn) (sub := sub) (ab := ab) (col := col) (dd := dd) (k0 := k0) (k1 := k1) (k2 := k2) (k3 := k3) (k5 := k5) F.excBase_ValueError (mN := mN) (T.hasType F.excBase_ValueError.hasBase) (I.ok.hd hc)
    (by rw [he]; show (false || (backTo cpos (starEach es X.env)).any (·.1)) = false; rw [hpl]; rfl) hni (ld_glob I hg hm ⟨rfl, ?_⟩ hdb)
  have h2 := ha cpos pins s σ H _ I h
  rw [he] at h2 ⊢
  refine Calls.evalArgs_plain (thn h2 fun vs s2 ⟨ws, H2, I2, r, z, q2⟩ => ⟨rfl, by rw [← r.length]; exact z, I2.bk _ _ hC, hN.keeps I2.bk, T.keeps I2.bk, fun h' e' m => hr pins σ H2 s2 h' e' _ I2 m q2⟩)

section
variable {P : Program} {w : World} {K : PySem.W.Frag} {mg : Str → Option Value} {base : Heap} {N : List Str} {qual : Str} {scope : Scope} {f : Addr} {cd : Value} {A : Around} {outer : List Env} {s₀ : Shared} {H₀ : Hp} {E : XK}
theorem raises1 {C : Value} : Raises (cxOf (CX1 P w) P w K mg base N qual scope f cd A outer s₀ H₀ E) C (fun H => E C none H) := by
  intro pins σ H s h' e vs I m q
  show wpAny (model P w) (A.deeper (envOfC qual scope s₀.heap.objs.size f cd)) (leaving (envOfC qual scope s₀.heap.objs.size f cd) (.ref e)) (fun _ s'' => CX1 P w outer H₀ s₀ E (.ref e) s'') (fun e' s'' => CX1 P w outer H₀ s₀ E e' s'') { s with heap := h' }
  have fc : frs (envOfC qual scope s₀.heap.objs.size f cd :: outer) = s₀.heap.objs.size :: frs outer := frs_cons rfl outer
  have U1 : Un (frs outer) [] H₀ H s₀.heap s.heap := I.base
  have stk : s.heap.FunFrames base (envOfC qual scope s₀.heap.objs.size f cd :: outer) := I.stack
  have fre : ∀ b ∈ frs (envOfC qual scope s₀.heap.objs.size f cd :: outer), H b = none := I.stkFree
  have hin : ∀ env ∈ (envOfC qual scope s₀.heap.objs.size f cd :: outer), ∀ b, env.frame = some b → b ∈ frs (envOfC qual scope s₀.heap.objs.size f cd :: outer) := fun env he b hb => List.mem_filterMap.mpr ⟨env, he, hb⟩
  refine wpAny_leaves_madeW (base := PySem.W.hideAll s.heap (frs (envOfC qual scope s₀.heap.objs.size f cd :: outer))) (h := s.heap) I.ok.frames rfl (fun b o z => PySem.W.of_hideAll _ z) (PySem.W.funFrames_hide stk hin) m fun h2 t fl _ _ sm => ?_
  refine ⟨e, C, H, rfl, ?_, q⟩
  have nL : ∀ b o, s₀.heap.get? b = some o → b ≠ s₀.heap.objs.size := fun b o z => Nat.ne_of_lt (Heap.lt_size z)
  have nf : ∀ b o, s₀.heap.get? b = some o → b ∉ frs outer → b ∉ frs (envOfC qual scope s₀.heap.objs.size f cd :: outer) := fun b o z hb y => by
    rw [fc] at y
    rcases List.mem_cons.mp y with y | y
    · exact nL b o z y
    · exact hb y
  have nt : ∀ c v, H c = some v → c ∉ frs (envOfC qual scope s₀.heap.objs.size f cd :: outer) := fun c v z y => by
    rw [fre c y] at z; cases z
  have stay : ∀ b o, s.heap.get? b = some o → b ∉ frs (envOfC qual scope s₀.heap.objs.size f cd :: outer) → h2.get? b = some o := fun b o z n => fl.1 b o (PySem.W.hideAll_get _ z n)
  have hd : ∀ b ∈ frs outer, ∀ o, s.heap.get? b = some o → ∀ vs, o.data ≠ .fields vs := fun b hb o z vs => by
    obtain ⟨_, o1, e1, d1⟩ := stk.mem (b := b) (show b ∈ frs (envOfC qual scope s₀.heap.objs.size f cd :: outer) by rw [fc]; exact List.mem_cons_of_mem _ hb)
    rw [z] at e1
    cases e1
    exact d1 vs
  have slots : ∀ b ∈ frs outer, ∀ o, s.heap.get? b = some o → ∃ sl, h2.get? b = some { o with slots := sl } := fun b hb o z => sm b o (m.keeps b o z) (hd b hb o z)
  refine ⟨I.os, I.bare, ⟨fun b o z n hb hx => ?_, fun b o z n hb hx => ?_, U1.free, fun b o z hx => ?_, U1.tups, U1.frzs, U1.tbls⟩, fun b u z => ?_, fun b hb => fre b (by rw [fc]; exact List.mem_cons_of_mem _ hb), _, _, fl, fun b o z y n => ?_⟩
  · exact stay b o (U1.keep b o z n hb hx) (nf b o z hb)
  · obtain ⟨sl, e1⟩ := U1.slot b o z n hb hx
    obtain ⟨sl2, e2⟩ := slots b hb _ e1
    exact ⟨sl2, e2⟩
  · obtain ⟨o1, e1⟩ := U1.there b o z hx
    by_cases hb : b ∈ frs outer
    · obtain ⟨sl2, e2⟩ := slots b hb _ e1
      exact ⟨_, e2⟩
    · exact ⟨o1, stay b o1 e1 (nf b o z hb)⟩
  · refine (I.hok b u z).stay (fun c v hc y => ?_) (fun _ y => y) fun _ _ y => y
    rcases hc with rfl | hc
    · exact stay c v y (nt c _ z)
    · exact stay c v y (nt c _ hc)
  · have e0 : ∃ o1, s.heap.get? b = some o1 ∧ b ∉ frs (envOfC qual scope s₀.heap.objs.size f cd :: outer) := by
      rcases y with y | ⟨o0, y⟩
      · cases q2 : H b with
        | none => exact absurd q2 y
        | some u =>
          obtain ⟨o1, e1⟩ := (I.hok b u q2).there
          exact ⟨o1, e1, nt b u q2⟩
      · obtain ⟨o1, e1⟩ := U1.there b o0 y (by simp)
        exact ⟨o1, e1, nf b o0 y n⟩
    obtain ⟨o1, e1, n1⟩ := e0
    have e2 := stay b o1 e1 n1
    have z' : h2.get? b = some o := z
    rw [z'] at e2
    cases e2
    exact PySem.W.hideAll_get _ e1 n1
theorem pass1 : Passes (CX1 P w) (cxOf (CX1 P w) P w K mg base N qual scope f cd A outer s₀ H₀ E) E := by
  intro pins σ H s e s' I h
  obtain ⟨ea, C, H', rfl, F, q⟩ := h
  exact fly_out I F fun s'' F' => ⟨ea, C, H', rfl, F', q⟩
theorem Fun.ok1 {x qual : Str} {st : Stmt} {f : Addr} {fd : FuncData} {N ps : List Str} {k : Nat} {sp : Sp} (F : Fun K x qual st f fd) (S : FnScope N ps (defScope st)) (len : ∀ vs H Q E, sp vs H Q E → vs.length = ps.length)
    (hbody : ∀ (cdv : Value) (A : Around) (outer : List Env) (s : Shared) (H : Hp) (vs : List V) (Q : VK) (E : XK), Room k (A.deeper (envOfC qual (defScope st) s.heap.objs.size f cdv)) → sp vs H Q E →
      ∃ t, PSs (cxOf (CX1 P w) P w K mg base N qual (defScope st) f cdv A outer s H E) (defBody st) t ∧ t { nx := fun _ H' => Q .non H', rt := Q } (start N vs) H) : FnOk P w K mg base (CX1 P w) (k + 1) f fd ps sp := by
  obtain ⟨oc, od, kV, doc, pm, an, cdv, ct, osl, rfl, lk, hcd⟩ := F.ex
  exact fn_of lk hcd S len fun A outer s H vs Q E hr hsp => hbody cdv A outer s H vs Q E hr hsp
end
end L2
namespace L2
open PySem PySem.Spec PyProof.Rows

noncomputable def blank (σ : St) : St := List.replicate σ.length none
theorem blank_get {σ : St} {i : Nat} {v : V} (h : (blank σ)[i]? = some (some v)) : False := by
  unfold blank at h
  rw [List.getElem?_replicate] at h
  split at h <;> cases h
theorem blank_len {σ : St} : (blank σ).length = σ.length := List.length_replicate ..
noncomputable abbrev Cx.more (X : Cx) (pins : List (Addr × Obj)) : Cx := { X with pn := X.pn ++ pins }
section
variable {X : Cx} {pins ps2 : List (Addr × Obj)} {σ : St} {H : Hp} {s : Shared}
theorem Cx.Ok.more (ok : X.Ok) (pins : List (Addr × Obj)) : (X.more pins).Ok :=
  ⟨ok.mod, ok.kind, ok.glob, ok.blt, ok.above, ok.inj, ok.has, ok.cab, ok.hd, ok.frames, ok.stk, ok.exf, ok.bs, ok.bsz, ok.noex, ok.exfs, ok.funs, ok.frf⟩
theorem Cx.Ok.less (ok : (X.more pins).Ok) : X.Ok :=
  ⟨ok.mod, ok.kind, ok.glob, ok.blt, ok.above, ok.inj, ok.has, ok.cab, ok.hd, ok.frames, ok.stk, ok.exf, ok.bs, ok.bsz, ok.noex, ok.exfs, ok.funs, ok.frf⟩
theorem Inv.more (I : Inv X pins σ H s) : Inv (X.more pins) [] σ H s :=
  ⟨I.ok.more pins, I.os, I.bare, I.base, I.loc, I.cell, I.free, I.freeC, fun p hp => I.pin p (by simpa [Cx.more] using hp), I.hok, I.len⟩
theorem Inv.less (I : Inv (X.more pins) ps2 σ H s) : Inv X pins σ H s :=
  ⟨I.ok.less, I.os, I.bare, I.base, I.loc, I.cell, I.free, I.freeC, fun p hp => I.pin p (List.mem_append_left _ hp), I.hok, I.len⟩
theorem SP.less {D : Ends} {f : Flow} {s' : Shared} (h : SP (X.more pins) ps2 D f s') : SP X pins D f s' := by
  cases f with
  | next => obtain ⟨σ', H', I, q⟩ := h; exact ⟨σ', H', I.less, q⟩
  | brk => obtain ⟨σ', H', I, q⟩ := h; exact ⟨σ', H', I.less, q⟩
  | cont => obtain ⟨σ', H', I, q⟩ := h; exact ⟨σ', H', I.less, q⟩
  | ret u => obtain ⟨v, σ', H', I, r, q⟩ := h; exact ⟨v, σ', H', I.less, r, q⟩
noncomputable abbrev Cx.tryC (X : Cx) (pins : List (Addr × Obj)) (E1 : XK) : Cx := (X.more pins).wish fun e s' => ∃ (ps : List (Addr × Obj)) (σ' : St) (H0 : Hp) (s0 : Shared), Inv (X.more pins) ps σ' H0 s0 ∧ CX1 X.prog X.w X.stack H0 s0 E1 e s'
theorem passT {E1 : XK} : Passes (CX1 X.prog X.w) (X.tryC pins E1) E1 := fun ps σ H s _ _ I h => ⟨ps, σ, H, s, I.unwish, h⟩
noncomputable abbrev Cx.suite (X : Cx) (ea : Addr) : Cx := { X with A := X.A.mark (some (.ref ea)), calm := false, xe := fun _ _ => False }
theorem Inv.suite (I : Inv X pins σ H s) (ea : Addr) : Inv (X.suite ea) pins σ H s :=
  ⟨⟨I.ok.mod, I.ok.kind, I.ok.glob, I.ok.blt, I.ok.above, I.ok.inj, I.ok.has, I.ok.cab, fun z => Bool.noConfusion z, I.ok.frames, I.ok.stk, I.ok.exf, I.ok.bs, I.ok.bsz, I.ok.noex, I.ok.exfs, I.ok.funs, I.ok.frf⟩, I.os, I.bare, I.base, I.loc, I.cell, I.free, I.freeC, I.pin, I.hok, I.len⟩
theorem Inv.unsuite (I0 : X.Ok) {ea : Addr} (I : Inv (X.suite ea) pins σ H s) : Inv X pins σ H s :=
  ⟨I0, I.os, I.bare, I.base, I.loc, I.cell, I.free, I.freeC, I.pin, I.hok, I.len⟩
theorem Inv.lost {h' : Heap} {m' : Str → Option Value} {t' : Nat} (I : Inv X pins σ H s) (hn : h'.Ns X.env.locals m') (sb : Heap.SameBut X.env.locals s.heap h') : Inv X pins (blank σ) H { s with heap := h', toks := t' } := by
  have ne0 : ∀ b o, X.s₀.heap.get? b = some o → b ≠ X.env.locals := fun b o e => Nat.ne_of_lt (Nat.lt_of_lt_of_le (Heap.lt_size e) I.ok.above)
  refine ⟨I.ok, I.os, I.bare, ⟨fun b o e n hb hx => (sb.2 b (ne0 b o e)).trans (I.base.keep b o e n hb hx), fun b o e n hb hx => ?_, I.base.free, fun b o e hx => ?_, I.base.tups, I.base.frzs, I.base.tbls⟩, ⟨m', hn, fun i x v _ e _ => (blank_get e).elim⟩, fun x c e => ?_, I.free, I.freeC, fun p hp => ?_, fun b u e => ?_, by rw [blank_len]; exact I.len⟩
  · obtain ⟨sl, e1⟩ := I.base.slot b o e n hb hx
    exact ⟨sl, (sb.2 b (ne0 b o e)).trans e1⟩
  · obtain ⟨o', e1⟩ := I.base.there b o e hx
    exact ⟨o', (sb.2 b (ne0 b o e)).trans e1⟩
  · obtain ⟨v, z⟩ := I.cell x c e
    exact ⟨v, z.sameBut sb (I.cne x c e)⟩
  · obtain ⟨e, n, ne, nf, d⟩ := I.pin p hp
    exact ⟨(sb.2 p.1 ne).trans e, n, ne, nf, d⟩
  · have nl : ∀ c v, H c = some v → c ≠ X.env.locals := fun c v q z => by rw [z, I.free] at q; cases q
    refine (I.hok b u e).stay (fun c v hc q => (sb.2 c ?_).trans q) (fun _ q => q) fun _ _ q => q
    rcases hc with rfl | hc
    · exact nl c _ e
    · exact nl c _ hc
theorem Inv.trackN {D : Addr} {o : HO} (I : Inv X pins σ H s) (h0 : H D = none) (hL : D ≠ X.env.locals) (hs : X.s₀.heap.get? D = none) (hc : ∀ x c, X.env.cells.lookup x = some c → c ≠ D) (hp : ∀ p ∈ X.pn ++ pins, p.1 ≠ D)
    (new : ObjOk X.prog X.w (upd H D o) s.heap D o) : Inv X pins σ (upd H D o) s := by
  have nD : ∀ b u, H b = some u → b ≠ D := fun b u q => ne_of_none q h0
  refine ⟨I.ok, I.os, I.bare, ⟨I.base.keep, I.base.slot, fun b ob e n hx => ?_, I.base.there, fun b xs e => ?_, fun b ob u e => ?_, fun b ps e => ?_⟩, I.loc, I.cell, by rw [upd_ne (Ne.symm hL)]; exact I.free, fun x c e => by rw [upd_ne (hc x c e)]; exact I.freeC x c e, fun p hpp => ?_, fun b u e => ?_, I.len⟩
  · rw [upd_ne (fun z => by rw [z, hs] at e; cases e)]
    exact I.base.free b ob e n hx
  · have q := I.base.tups b xs e
    rw [upd_ne (nD _ _ q)]; exact q
  · have q := I.base.frzs b ob u e
    rw [upd_ne (nD _ _ q)]; exact q
  · obtain ⟨mo, q⟩ := I.base.tbls b ps e
    exact ⟨mo, by rw [upd_ne (nD _ _ q)]; exact q⟩
  · obtain ⟨e, n, r⟩ := I.pin p hpp
    exact ⟨e, by rw [upd_ne (hp p hpp)]; exact n, r⟩
  · by_cases hb : b = D
    · subst hb; rw [upd_same] at e; cases e; exact new
    · rw [upd_ne hb] at e
      exact (I.hok b u e).stay (fun c v _ q => q) (fun c q => by rw [upd_ne (nD _ _ q)]; exact q) fun c xs q => by rw [upd_ne (nD _ _ q)]; exact q
end

noncomputable def tTry (K : PySem.W.Frag) (CL : Addr) (tb : XK → TS) (i : Nat) (ts : TS) : TS := fun D σ H =>
  tb (fun C _ H' => ∃ Ca, C = .ref Ca ∧ PySem.W.exmOne K (.ref Ca) (.ref CL) = some true ∧ ∀ ea, H' ea = none →
    ts { nx := fun σ' H2 => D.nx (blank σ') H2, rt := D.rt, bk := fun σ' H2 => D.bk (blank σ') H2, ct := fun σ' H2 => D.ct (blank σ') H2 } ((blank σ).set i (some (.ref ea))) (upd H' ea (excO ea Ca))) D σ H
theorem ps_try {X : Cx} {K : PySem.W.Frag} {CL : Addr} {body suite : List Stmt} {b₀ : Stmt} {hx n : Str} {i : Nat} {tb : XK → TS} {ts : TS} {np hpos pos : Pos} (hK : X.K = K)
    (hb : ∀ pins E1, PSs (X.tryC pins E1) body (tb E1)) (hs : ∀ ea, PSs (X.suite ea) (b₀ :: suite) ts) (hm : X.mg hx = some (.ref CL)) (nd : X.N.Nodup) (hi : X.N[i]? = some n)
    (hl : X.env.scope.names.lookup n = some .local := by rfl) (hg : Gl X hx := by rfl) (hdb : (hx == ("__debug__" : Str)) = false := by decide) (hstk : X.stack = X.env :: X.outer := by rfl) (hf : X.env.frame = some X.env.locals := by rfl) (hex0 : X.ex = [] := by rfl)
    (hcls : (X.env.scope.kind == .class || (X.env.scope.kind == .module && X.env.locals != X.env.globals)) = false := by rfl) :
    PS X (.Try body [.ExceptHandler (some (.Name hx np)) (some n) (b₀ :: suite) hpos] [] [] pos) (tTry K CL tb i ts) := by
  intro pins s σ H D I h
  subst hK
  refine wpAny_Try_except (wpAny_mono (hb pins _ [] s σ H D (I.more.wish _) h) (fun f s1 sp => ?_) fun e s1 he => ?_)
  · have sp' : SP X pins D f s1 := SP.less (SP.unwish sp)
    cases f with
    | next => exact wpAny_pure sp'
    | brk => exact sp'
    | cont => exact sp'
    | ret u => exact sp'
  obtain ⟨ps, σ', H0, s0, I0, ea, C, H', rfl, F, q⟩ := he
  obtain ⟨Ca, rfl, hex, q⟩ := q
  obtain ⟨B, a0, fl, hB⟩ := F.fly
  have inF : ∀ {h : Heap}, Heap.FlyingW B X.stack ea (.ref Ca) a0 h → ∀ b ∈ frs X.stack, ∃ o, h.get? b = some o ∧ ∀ vs, o.data ≠ .fields vs := fun {h} fl b hb => (fl.2.2.1.mem hb).2
  have eaF : ea ∉ frs X.stack := fun z => by
    obtain ⟨o, e1, d1⟩ := inF fl ea z
    obtain ⟨oe, vs, e2, _, d2, _⟩ := fl.first
    rw [e1] at e2
    cases e2
    exact d1 vs d2
  have hdF : ∀ {h : Heap}, Heap.FlyingW B X.stack ea (.ref Ca) a0 h → ∀ b ∈ frs X.stack, ∀ o, h.get? b = some o → ∀ vs, o.data ≠ .fields vs := fun fl b hb o e vs => by
    obtain ⟨o1, e1, d1⟩ := inF fl b hb
    rw [e] at e1
    cases e1
    exact d1 vs
  have new0 : ∀ o, s0.heap.get? ea = some o → False := fun o e => by
    obtain ⟨oe, vs, e2, _⟩ := fl.first
    have := hB ea oe e2 (.inr ⟨o, e⟩) eaF
    rw [fl.2.1] at this
    cases this
  have newH : H' ea = none := by
    cases z : H' ea with
    | none => rfl
    | some u =>
      obtain ⟨oe, vs, e2, _⟩ := fl.first
      have := hB ea oe e2 (.inl (by rw [z]; simp)) eaF
      rw [fl.2.1] at this
      cases this
  have again : ∀ {h : Heap}, Heap.FlyingW B X.stack ea (.ref Ca) a0 h → s1.heap.UpToSlots h → Inv X pins σ' H' { s1 with heap := h } := fun {h} fl' sm => by
    have F' := fly_turn F hB fl' sm (hdF fl)
    exact (I0.call' (ch := []) F'.os F'.un F'.hok F'.bare fun b z => absurd z (by simp)).less
  have hfr : X.A.frames = some (X.env :: X.outer) := hstk ▸ I.ok.frames
  refine wpAny_looks_onW (base := B) (a0 := a0) (cls := .ref Ca) hfr hf (hstk ▸ fl) fun h4 held4 sm4 => wpAny_landsW held4 fun h5 fl5 sm5 => ?_
  have fl5' : Heap.FlyingW B X.stack ea (.ref Ca) a0 h5 := hstk ▸ fl5
  have I5 := again fl5' (sm4.trans sm5)
  refine wpAny_handleBy_cons (codeAny_handlers_test (ld_glob (I5.suite ea) hg hm ?_ hdb)) (by intro z; cases z)
  have lk : PySem.W.Looks (model X.prog X.w) h5 (typeOf (.ref ea)) (.ref Ca) := by
    obtain ⟨ob, e1, c1⟩ := fl5'.there
    exact c1 ▸ (PySem.W.Looks.ld e1).andThen .now
  refine (PySem.W.exm_one I5.kIn lk hex).here ?_
  refine codeAny_handlers_suite_as (lands_againW fl5' fun h6 fl6 sm6 => ?_)
  have I6 := again fl6 ((sm4.trans sm5).trans sm6)
  have len6 : σ'.length = σ.length := I0.len.trans I.len.symm
  have I7 : Inv X pins (blank σ) H' { s1 with heap := h6 } := I6.weak (by rw [blank_len, len6]) fun j v e => (blank_get e).elim
  have at0 : ∀ b o, X.s₀.heap.get? b = some o → b ∉ X.ex → ∃ o', s0.heap.get? b = some o' := fun b o e hx => I0.base.there b o e hx
  have I8 : Inv X pins (blank σ) (upd H' ea (excO ea Ca)) { s1 with heap := h6 } := by
    refine I7.trackN newH (fun z => eaF ?_) ?_ (fun x c e z => ?_) (fun p hp z => ?_) (excO_ok ?_)
    · rw [hstk]; unfold frs; rw [List.filterMap_cons, hf, z]; exact List.mem_cons_self
    · cases z : X.s₀.heap.get? ea with
      | none => rfl
      | some o =>
        exfalso
        obtain ⟨o', e'⟩ := at0 ea o z (by rw [hex0]; simp)
        exact new0 o' e'
    · obtain ⟨v, o, ho, _⟩ := I0.cell x c e
      rw [z] at ho
      exact new0 o ho
    · have := (I0.pin p (List.mem_append_left _ hp)).1
      rw [z] at this
      exact new0 _ this
    · obtain ⟨ob, e1, c1⟩ := fl6.there
      exact ⟨ob, e1, c1⟩
  refine store_ok I8 nd hi (.inl hl) (v := .ref ea) rfl (fun s7 I9 => ?_) (.inr hl)
  refine wpAny_mono (hs ea pins s7 _ _ _ (I9.suite ea) (q ea newH)) (fun f s8 sp => ?_) fun _ _ z => z.elim
  have fin : ∀ {σ9 : St} {H9 : Hp}, Inv (X.suite ea) pins σ9 H9 s8 → ∀ {g : Flow}, (∀ s9, Inv X pins (blank σ9) H9 s9 → SP X pins D g s9) →
      wpAny (model X.prog X.w) X.A (do bindName X.env n .none; unbindBehindTheSuite X.env n hpos) (fun _ s9 => SP X pins D g s9) X.xe s8 := fun {σ9 H9} J g k => by
    obtain ⟨m, hn, _⟩ := J.loc
    exact wpAny_nameGoes hl hn hcls fun h' m' hn' sb => k _ ((J.unsuite I.ok).lost hn' sb)
  cases f with
  | next => obtain ⟨σ9, H9, J, z⟩ := sp; exact fin J fun s9 J9 => ⟨_, _, J9, z⟩
  | brk => obtain ⟨σ9, H9, J, z⟩ := sp; exact fin J fun s9 J9 => ⟨_, _, J9, z⟩
  | cont => obtain ⟨σ9, H9, J, z⟩ := sp; exact fin J fun s9 J9 => ⟨_, _, J9, z⟩
  | ret u => obtain ⟨v, σ9, H9, J, r, z⟩ := sp; exact fin J fun s9 J9 => ⟨v, _, _, J9, r, z⟩
end L2

namespace L2
open PySem PySem.Spec PyProof.Rows

section
variable {X : Cx} {K : PySem.W.Frag} {e o : Expr} {es : List Expr} {te to : TE} {st : Stmt} {rest : List Stmt} {t u : TS} {pos apos cpos : Pos}
theorem nin_k (hK : X.K = K) : OpR X (compareOp .NotIn) (rIn K true) := hK ▸ op_notIn_seq
end

structure DefX (P : Program) (w : World) (K : PySem.W.Frag) (mg : Str → Option Value) (base : Heap) (k : Nat) (x : Str) (ps : List Str) (sp : Sp) : Prop where
  ex : ∃ (f : Addr) (fd : FuncData), FnOk P w K mg base (CX1 P w) k f fd ps sp ∧ Binds K fd ps [] ∧ PySem.W.keepIn K (.ref f) = true ∧ mg x = some (.ref f)
theorem passN {X : Cx} : Passes (CX1 X.prog X.w) X E0 := fun _ _ _ _ _ _ _ h => by
  obtain ⟨_, _, _, _, _, q⟩ := h
  exact q.elim
theorem xown_of {K : PySem.W.Frag} {C : Addr} (q : PySem.W.excIn K C bmVE "ValueError.__new__" = true) : XOwn K C := by
  intro h X
  unfold PySem.W.excIn at q; split at q
  case h_2 => cases q
  rename_i dd cd sl ho; split at q
  case h_2 => cases q
  rename_i C' bm k0 k1 k2 k3 n k5 hm hs
  simp only [Bool.and_eq_true, beq_iff_eq, Bool.not_eq_true'] at q; obtain ⟨⟨⟨⟨⟨e1, e2⟩, hdel⟩, ht⟩, hok⟩, hni⟩ := q
  subst e1 e2
  obtain ⟨nm, bs, mro, ns, qn, hd, sn, sub, ab, col, del⟩ := cd; dsimp only at hm hdel hok hni; subst hm hdel
  have e3 : sl = #[k0, k1, k2, k3, some (.builtin "ValueError.__new__"), k5] := Array.ext' (by simpa using hs)
  subst e3
  exact ⟨bm, ns, nm, qn, bs, hd, sn, sub, ab, col, dd, k0, k1, k2, k3, k5, _, X _ _ ho, .of_isNs (PySem.W.isNs_of_in X hok), PySem.W.nsMap_none_of_in X hok hni, PySem.W.tail_of_in X ht⟩
end L2

namespace L2
open PySem PySem.Spec PyProof.Rows

section
variable {X : Cx} {K : PySem.W.Frag} {x : Str} {pos : Pos}
theorem pt_k {a : Expr} {ta : TE} (hK : X.K = K) (ha : PE X a ta) (he : ∀ whole, isTrue a X.env whole = (do let v ← whole; standAt a.pos; holding [v] (truthy v)) := by intro _; rfl) :
    PT X a (fun σ H Q => ta σ H fun x H' => ∃ k, TruV K x H' k ∧ Q k H') := hK ▸ pt_truth ha he
noncomputable def tyD : PyData → String
  | .none => "NoneType"
  | .bool _ => "bool"
  | .int _ => "int"
  | .str _ => "str"
  | .list _ => "list"
  | .tuple _ => "tuple"
  | .dict _ => "dict"
theorem isiD_k (hK : X.K = K) : CallR X (.builtin "isinstance") (fun xs H Q => ∃ x d T, xs = [x, .ty T] ∧ Rep K H x d ∧ T ∈ ["bool", "int", "str", "list", "tuple"] ∧ Q (.bl (isi (tyD d) T)) H) := by
  intro pins s σ H xs us Q I r h
  subst hK
  obtain ⟨x, d, T, rfl, hr, hT, q⟩ := h
  obtain ⟨u, w', rfl, ru, rw'⟩ := vals2 r
  cases (show w' = Value.type T from rw')
  have fin : ∀ tk b, b = isi (tyD d) T → EP X pins σ Q (.bool b) { s with toks := tk } := fun tk b e => ⟨.bl _, H, I.tok tk, rfl, e ▸ q⟩
  cases hr with
  | non => exact isinst_ok I ru .non (kit_tab (by decide) hT) fun tk => fin tk _ rfl
  | bl b => exact isinst_ok I ru (.bl b) (kit_tab (by decide) hT) fun tk => fin tk _ rfl
  | int i => exact isinst_ok I ru (.int i) (kit_tab (by decide) hT) fun tk => fin tk _ rfl
  | str y => exact isinst_ok I ru (.str y) (kit_tab (by decide) hT) fun tk => fin tk _ rfl
  | @lst a xs ds hq _ =>
    cases (show u = Value.ref a from ru)
    obtain ⟨its, _, ⟨o, n, e, hc, _⟩, _⟩ := I.list hq
    exact PySem.W.kia_one PySem.W.kitx_list I.kIn ⟨o, e, hc⟩ (kit_tab (t := "list") (by decide) hT) (fun z => nomatch z) fun tk => fin tk _ rfl
  | @tup a xs ds hq _ =>
    cases (show u = Value.ref a from ru)
    obtain ⟨its, _, ⟨o, e, hc, _⟩, _⟩ := I.tuple hq
    exact PySem.W.kia_one PySem.W.kitx_tuple I.kIn ⟨o, e, hc⟩ (kit_tab (t := "tuple") (by decide) hT) (fun z => nomatch z) fun tk => fin tk _ rfl
end
end L2

namespace L2
open PySem PySem.Spec PyProof.Rows
section
variable {X : Cx} {sc scope : Scope} {NX N : List Str} {js : List (Option Nat)} {tg iter elt : Expr} {ifs : List Expr} {wi : TI} {g : TG} {tt : TT} {te : TE} {pos : Pos}
theorem ps_setC {i : Nat} {y : Str} {py spos : Pos} (hN : X.N.Nodup) (hy : X.N[i]? = some y) (hL : Loc X.env.scope y) (hi : PI X tg iter wi) (hg : ∀ cl C fp s H, PG (cxC X scope cl C N fp s H) tg g) (ht : ∀ cl C fp s H, PF (cxC X scope cl C N fp s H) ifs tt)
    (he : ∀ cl C fp s H, PE (cxC X scope cl C N fp s H) elt te) (own : OwnG js g) (ok : CompScope sc scope NX N js) (hsc : X.env.scope = sc := by rfl) (hNX : X.N = NX := by rfl) (hc : X.calm = true := by rfl) (hs : ∀ x, foldedSetIterable iter X.env x = pure x := by intro _; rfl)
    (hsw : swapsWith (.ListComp elt [⟨tg, iter, ifs, 0⟩] scope pos) (some (.Name y py)) spos.line X.env = pure true := by rfl) (hf : X.fn y = true ∨ X.env.scope.names.lookup y = some .local := by first | exact .inl rfl | exact .inr rfl | assumption) :
    PS X (.Assign [.Name y py] (.ListComp elt [⟨tg, iter, ifs, 0⟩] scope pos) spos) (tAsg (tComp wi js g tt te) (gName i)) := by
  intro pins s σ H D I h
  rw [exec_Assign_Name_used _ _ _ _ hsw]
  refine wpAny_bind (wpAny_standAt (wpAny_bind ?_))
  show wpAny _ X.A (do let _ ← comprehension (.ListComp elt [⟨tg, iter, ifs, 0⟩] scope pos) scope X.env _ (newList []) false (eval iter X.env) (some (assign (.Name y py) X.env))) _ _ s
  obtain ⟨cl, hclos, cl1, cl2⟩ := closure_ok (scope := scope) (env := X.env) fun z hz hf => I.ok.has z.1 (by
    have q := ok.free z hz hf
    rw [← hsc] at q
    exact q)
  refine wpAny_bind (wpAny_mono (wpAny_comprehension_free (use := some (assign (.Name y py) X.env)) (Q := fun _ s' => SP X pins D .next s') rfl hs hclos ok.kind ok.names
    (thn (hi pins s σ H _ I h) fun xv s1 h1 => thn h1 fun itv s2 h2 => ?_)) (fun _ s' hq => wpAny_pure (wpAny_pure hq)) fun _ _ e => e)
  obtain ⟨it, fp, tn, J, H2, rfl, I2, T, st2, f2, W, ⟨m0, w0⟩, turn⟩ := h2
  refine comp_core (Q := fun x H1 => gName i x σ H1 D.nx) (RR := fun acc C => compPost (model X.prog X.w) X.A X.xe (some (assign (.Name y py) X.env)) (fun _ s' => SP X pins D .next s') acc C) hsc hNX ok hc I2 cl1 cl2 T st2 f2 (fun C => hg cl C fp s2 H2) (fun C => ht cl C fp s2 H2) (fun C => he cl C fp s2 H2) own w0 turn fun L C m s' Hf I' hn f q => ?_
  obtain ⟨g0, g1, g2, g3, g4, g5⟩ := f
  show wpAny _ X.A (assign (.Name y py) X.env (.ref L)) _ _ _
  refine wpAny_assign_Name (store_ok2 I' hN hy hL (show RelV (.ref L) (.ref L) from rfl) (fun s3 I3 hb => ?_) hf)
  obtain ⟨a, sb, ha⟩ := hb
  have hCa : C ≠ a := by
    rcases ha with rfl | ha
    · exact g1
    · exact fun z => g4 _ _ ha z.symm
  exact ⟨m, hn.sameBut sb hCa, fun h' hs' => ⟨_, Hf, I3.turned (t' := s3.toks) (fun b o hb e => (hs'.2 b hb).trans e) g0 g1 g3 g4 g5, q⟩⟩
end
end L2

namespace L2
open PySem PySem.Spec PyProof.Rows
section
variable {X : Cx} {K : PySem.W.Frag}
theorem bt_range : bootBuiltins "range" = some (.type "range") := by decide +kernel
theorem bt_sorted : bootBuiltins "sorted" = some (.builtin "sorted") := by decide +kernel
theorem call_rngN : CallR X (.type "range") (fun xs H Q => ∃ n : Nat, xs = [.int n] ∧ n ≤ 100000 ∧ ∀ r, H r = none → Q (.ref r) (upd H r (.rng 0 n))) := by
  intro pins s σ H xs us Q I r h
  obtain ⟨n, rfl, hn, q⟩ := h
  obtain ⟨u, rfl, t, rfl⟩ := vals1 r
  refine call_range_1 ?_
  refine ⟨.ref s.heap.objs.size, _, I.laid (t' := s.toks + 1 + 1) (o := .rng 0 n) (fun b ob q => Heap.get?_push_of_some _ q) (Nat.le_refl _) ?_, rfl, q _ (I.hok.fresh (Nat.le_refl _))⟩
  exact ⟨_, _, _, Heap.get?_push_size _ rfl⟩
noncomputable def natsV (n : Nat) : List V := (List.range n).map fun i => V.int (i : Nat)
theorem natsV_len (n : Nat) : (natsV n).length = n := by simp [natsV]
theorem natsV_get {n i : Nat} (h : i < n) : (natsV n)[i]? = some (.int (i : Nat)) := by simp [natsV, h]
theorem vals_by {xs : List V} {us : List Value} (hl : xs.length = us.length) (h : ∀ (i : Nat) (x : V) (u : Value), xs[i]? = some x → us[i]? = some u → RelV x u) : Vals xs us := by
  induction xs generalizing us with
  | nil =>
    cases us with
    | nil => exact .nil
    | cons a b => simp at hl
  | cons x xs ih =>
    cases us with
    | nil => simp at hl
    | cons u us =>
      refine .cons (h 0 x u rfl rfl) (ih (by simpa using hl) fun i y v h1 h2 => h (i + 1) y v (by simpa using h1) (by simpa using h2))
theorem call_listN (hc : X.calm = true) : CallR X (.type "list") (fun xs H Q => ∃ (r : Addr) (n : Nat), xs = [.ref r] ∧ H r = some (.rng 0 n) ∧ n ≤ 100000 ∧ ∀ l, H l = none → Q (.ref l) (upd H l (.lst (natsV n)))) := by
  intro pins s σ H xs us Q I r h
  obtain ⟨rg, n, rfl, hr, hn, q⟩ := h
  obtain ⟨u, rfl, rx⟩ := vals1 r
  cases rx
  obtain ⟨t1, t2, t3, e⟩ := (show ObjOk X.prog X.w H s.heap rg (.rng 0 n) from I.hok rg _ hr)
  have hs : Builtin.Range.rangeSize 0 (n : Int) 1 = (n : Nat) := by rw [rangeSize_one]; split <;> omega
  refine call_list_range (I.ok.hd hc) e (small_one (by omega) (by omega) (by omega) (by omega)) hs (by omega) fun h' tk acc c' hk hS hacc => ?_
  have big : (100000 : Nat) ≤ sizeLine := by decide
  refine ⟨.ref s.heap.objs.size, _, I.laid (t' := tk) (o := .lst (natsV n)) hk (Nat.le_refl _) ?_, rfl, q _ (I.hok.fresh (Nat.le_refl _))⟩
  refine ⟨by rw [natsV_len]; omega, acc.toList, c', vals_by (by rw [natsV_len, Array.length_toList]; exact hacc.1.symm) fun i x u h1 h2 => ?_, by simpa using hS⟩
  have hi : i < n := by
    have := (List.getElem?_eq_some_iff.mp h1).1
    rwa [natsV_len] at this
  rw [natsV_get hi] at h1
  cases h1
  obtain ⟨t, rfl⟩ := hacc.2 i u (by simpa using h2)
  exact ⟨t, by simp⟩
theorem ints_by {us : List Value} {ks : List Int} (hl : us.length = ks.length) (h : ∀ (i : Nat) (u : Value) (k : Int), us[i]? = some u → ks[i]? = some k → ∃ t, u = Value.int k t) : IntsAre us ks := by
  induction us generalizing ks with
  | nil =>
    cases ks with
    | nil => exact .nil
    | cons a b => simp at hl
  | cons u us ih =>
    cases ks with
    | nil => simp at hl
    | cons k ks =>
      obtain ⟨t, rfl⟩ := h 0 u k rfl rfl
      exact .cons k t (ih (by simpa using hl) fun i y v h1 h2 => h (i + 1) y v (by simpa using h1) (by simpa using h2))
end
end L2

namespace L2
open PySem PySem.Spec PyProof.Rows
structure RoomS (k : Nat) (A : Around) : Prop where
  dep : A.depth + 3 * k + 5 < recursionLimit
  uni : A.units + 16 * k + 200 < cLine
structure FnOkS (P : Program) (w : World) (K : PySem.W.Frag) (mg : Str → Option Value) (base : Heap) (CX : CXT) (k : Nat) (f : Addr) (fd : FuncData) (ps : List Str) (sp : Sp) : Prop where
  len : ∀ vs H Q E, sp vs H Q E → vs.length = ps.length
  run : ∀ (A : Around) (outer : List Env) (s : Shared) (H : Hp) (args : Args) (us : List Value) (vs : List V) (Q : VK) (E : XK), RoomS k A → Env0 P w K mg base A outer s H → BindsTo s fd args (ps.zip us) → Vals vs us → sp vs H Q E →
    codeAny (model P w) A (.call (.ref f) args) (CR CX outer P w H s Q E) s
end L2

namespace L2
open PySem PySem.Spec PyProof.Rows
structure MethX (P : Program) (w : World) (K : PySem.W.Frag) (mg : Str → Option Value) (base : Heap) (C : Addr) (k : Nat) (m : Str) (ps : List Str) (sp : Sp) : Prop where
  ex : ∃ (f : Addr) (fd : FuncData), FnOk P w K mg base (CX1 P w) k f fd ps sp ∧ Binds K fd ps [] ∧ Meth K C m f
  cl : Cls K C
structure MethN (P : Program) (w : World) (K : PySem.W.Frag) (mg : Str → Option Value) (base : Heap) (C : Addr) (k : Nat) (m : Str) (ps : List Str) (sp : Sp) : Prop where
  ex : ∃ (f : Addr) (fd : FuncData), FnOk P w K mg base CX0 k f fd ps sp ∧ Binds K fd ps [] ∧ Meth K C m f
  cl : Cls K C
section
variable {X : Cx} {C : Addr} {k : Nat} {m x : Str} {ps : List Str} {sp : Sp} {E : XK} {o e : Expr} {es : List Expr} {ta : TE} {t : TA} {p pos apos : Pos} {pl : Sem Bool}
theorem pe_mX (he : PE X o ta) (D : MethX X.prog X.w X.K X.mg X.base C k m ps sp) (hr : Room k X.A) (hx : Passes (CX1 X.prog X.w) X E) (ha : PA X (e :: es) t)
    (hst : starEach (e :: es) X.env = (false, eval e X.env) :: starEach es X.env := by rfl) (hpl : (backTo pos (starEach es X.env)).any (·.1) = false := by rfl)
    (ht : eval (.Call (.Attribute o m apos) (e :: es) [] pos) X.env = (do let ov ← eval o X.env; standAt apos.atName; let (f, first) ← holding [ov] (getMethod ov m pl)
                                                                          callWith pos f first (backTo pos (starEach (e :: es) X.env)) (backToKw pos (keywordEach [] X.env))) := by rfl) :
    PE X (.Call (.Attribute o m apos) (e :: es) [] pos) (tMeth C m sp [] E ta t) := by
  obtain ⟨f, fd, F, B, M⟩ := D.ex
  exact pe_meth he D.cl M F hr B .nil hx ha hst hpl ht
theorem pe_mN (he : PE X o ta) (D : MethN X.prog X.w X.K X.mg X.base C k m ps sp) (hr : Room k X.A) (ha : PA X (e :: es) t)
    (hst : starEach (e :: es) X.env = (false, eval e X.env) :: starEach es X.env := by rfl) (hpl : (backTo pos (starEach es X.env)).any (·.1) = false := by rfl)
    (ht : eval (.Call (.Attribute o m apos) (e :: es) [] pos) X.env = (do let ov ← eval o X.env; standAt apos.atName; let (f, first) ← holding [ov] (getMethod ov m pl)
                                                                          callWith pos f first (backTo pos (starEach (e :: es) X.env)) (backToKw pos (keywordEach [] X.env))) := by rfl) :
    PE X (.Call (.Attribute o m apos) (e :: es) [] pos) (tMeth C m sp [] E0 ta t) := by
  obtain ⟨f, fd, F, B, M⟩ := D.ex
  exact pe_meth he D.cl M F hr B .nil pass0 ha hst hpl ht
theorem pe_mN0 (he : PE X o ta) (D : MethN X.prog X.w X.K X.mg X.base C k m ps sp) (hr : Room k X.A)
    (ht : eval (.Call (.Attribute o m apos) [] [] pos) X.env = (do let ov ← eval o X.env; standAt apos.atName; let (f, first) ← holding [ov] (getMethod ov m pl)
                                                                   callWith pos f first (backTo pos (starEach [] X.env)) (backToKw pos (keywordEach [] X.env))) := by rfl) :
    PE X (.Call (.Attribute o m apos) [] [] pos) (tMeth C m sp [] E0 ta tNil) := by
  obtain ⟨f, fd, F, B, M⟩ := D.ex
  exact pe_meth0 he D.cl M F hr B .nil pass0 ht
structure MakeN (P : Program) (w : World) (K : PySem.W.Frag) (mg : Str → Option Value) (base : Heap) (x : Str) (C : Addr) (k : Nat) (sp : Sp) : Prop where
  ex : ∃ (f : Addr) (fd : FuncData), FnOk P w K mg base CX0 k f fd ["self"] sp ∧ Binds K fd ["self"] [] ∧ Mk K C f
  mC : mg x = some (.ref C)
theorem pe_mk0 (D : MakeN X.prog X.w X.K X.mg X.base x C k sp) (hr : Room (k + 1) X.A) (hg : Gl X x := by rfl) (hdb : (x == ("__debug__" : Str)) = false := by decide) : PE X (.Call (.Name x p) [] [] pos) (tMake C sp [] E0 tNil) := by
  obtain ⟨f, fd, F, B, M⟩ := D.ex
  exact pe_make0 M F hr hg D.mC B .nil pass0 hdb
end
structure DefS (P : Program) (w : World) (K : PySem.W.Frag) (mg : Str → Option Value) (base : Heap) (k : Nat) (x : Str) (ps : List Str) (sp : Sp) : Prop where
  ex : ∃ (f : Addr) (fd : FuncData), FnOkS P w K mg base CX0 k f fd ps sp ∧ Binds K fd ps [] ∧ PySem.W.keepIn K (.ref f) = true ∧ mg x = some (.ref f)
section
variable {P : Program} {w : World} {K : PySem.W.Frag} {mg : Str → Option Value} {base : Heap}
end
end L2

namespace L2
open PySem PySem.Spec PyProof.Rows
theorem minRun_le : ∀ (fuel n r : Nat), minRun' fuel n r ≤ n + r
  | 0, n, r => Nat.le_of_eq rfl
  | fuel + 1, n, r => by
    rw [minRun'_succ]
    by_cases h : n < 64
    · rw [if_pos h]; exact Nat.le_refl _
    · rw [if_neg h]
      have ih := minRun_le fuel (n / 2) (max r (n % 2))
      omega
section
variable {prog : Program} {w : World} {A : Around} {E : Value → Shared → Prop} {s : Shared} {a₀ : Array Keyed} {st : SortSt}
noncomputable def Falls (xs : Array Keyed) (k : Nat) : Prop := ∀ i j, i < j → j < k → K xs j < K xs i
theorem run_up {Q : Option Nat → SortSt → Prop} (h0 : IntKeys a₀) (h1 : 1 ≤ a₀.size) (hB : SBase a₀ st) (hs : SortedTo (arrOf st) a₀.size) (h : Q (some a₀.size) st) : wpS (model prog w) A E s (countRun' 0 a₀.size) Q st := by
  rw [countRun0_eq]
  have one : SortedTo (arrOf st) 1 := fun i j hij hj => hs i j hij (by omega)
  refine wpS_bind (wpS_ascLoop h0 (Nat.le_refl _) (Nat.le_refl 1) h1 hB one fun n n1 n2 _ hor => ?_)
  have en : n = a₀.size := by
    rcases Nat.lt_or_ge n a₀.size with hn | hn
    · rcases hor with z | z
      · exact z
      · exact absurd (hs (n - 1) n (by omega) hn) (Int.not_le.mpr z)
    · omega
  subst en
  dsimp only
  rw [if_pos (by simp)]
  exact wpS_pure h
theorem fall_loop {n : Nat} {Q : DescSt → SortSt → Prop} (h0 : IntKeys a₀) (h1 : 1 ≤ n) (hn : n ≤ a₀.size) (hB : SBase a₀ st) (hs : Falls (arrOf st) a₀.size) (h : Q (none, a₀.size, 0) st) : wpS (model prog w) A E s (descLoop n a₀.size) Q st := by
  unfold descLoop
  refine wpS_forRange (I := fun x c t => t = st ∧ c = (none, x, 0)) (fun x c t hx hl hI => ?_) (fun c t hI => ?_) ⟨rfl, rfl⟩
  · obtain ⟨rfl, rfl⟩ := hI
    dsimp only
    refine wpS_bind (wpS_ltK hB h0 hl (by omega) ?_)
    have z : K (arrOf t) x < K (arrOf t) (x - 1) := hs (x - 1) x (by omega) hl
    simp only [z, decide_true, if_true]
    rw [if_neg (by omega)]
    exact wpS_pure ⟨rfl, rfl⟩
  · obtain ⟨rfl, rfl⟩ := hI
    rw [show max n a₀.size = a₀.size by omega]
    exact h
theorem run_down {Q : Option Nat → SortSt → Prop} (h0 : IntKeys a₀) (h2 : 2 ≤ a₀.size) (hB : SBase a₀ st) (hs : Falls (arrOf st) a₀.size) (h : ∀ t, SBase a₀ t → SortedTo (arrOf t) a₀.size → Q (some a₀.size) t) : wpS (model prog w) A E s (countRun' 0 a₀.size) Q st := by
  rw [countRun0_eq]
  have one : SortedTo (arrOf st) 1 := fun i j hij hj => by
    have e : i = j := by omega
    rw [e]; exact Int.le_refl _
  refine wpS_bind (wpS_ascLoop h0 (Nat.le_refl _) (Nat.le_refl 1) (by omega) hB one fun n n1 n2 hn hor => ?_)
  have en : n = 1 := by
    rcases Nat.lt_or_ge 1 n with z | z
    · exact absurd (hn 0 1 (by omega) z) (Int.not_le.mpr (hs 0 1 (by omega) (by omega)))
    · omega
  subst en
  dsimp only
  rw [if_neg (by simp; omega), if_neg (by omega)]
  unfold descPart
  refine wpS_bind (wpS_lift (wpAny_rule ⟨rfl, ?_⟩))
  refine wpS_bind (fall_loop h0 (by omega) (by omega) hB hs ?_)
  dsimp only
  rw [if_neg (by omega)]
  unfold tail3
  refine wpS_bind (wpS_reverse ?_)
  have sz : a₀.size ≤ (arrOf st).size := by rw [hB.size]; omega
  have hB' : SBase a₀ (setArr st (mirror (arrOf st) 0 a₀.size ((a₀.size - 0) / 2))) := hB.setArr (mirror_perm _ _ _ _)
  have so : SortedTo (mirror (arrOf st) 0 a₀.size ((a₀.size - 0) / 2)) a₀.size := fun i j hij hj => by
    rw [K_mirror sz, K_mirror sz, if_pos (by omega), if_pos (by omega)]
    rcases Nat.lt_or_ge i j with z | z
    · exact Int.le_of_lt (hs _ _ (by omega) (by omega))
    · have e : i = j := by omega
      rw [e]; exact Int.le_refl _
  refine wpS_bind (wpS_ascLoop h0 (Nat.le_refl _) (by omega) (Nat.le_refl _) hB' so fun m m1 m2 _ _ => wpS_pure ?_)
  have em : m = a₀.size := by omega
  rw [em]
  exact h _ hB' so
theorem one_run {Q : Unit → SortSt → Prop} (h0 : IntKeys a₀) (hB : SBase a₀ st) (h2 : 2 ≤ a₀.size) (hs : SortedTo (arrOf st) a₀.size ∨ Falls (arrOf st) a₀.size)
    (h : ∀ t, (arrOf t).Perm a₀ → failedOf t = none → SortedTo (arrOf t) a₀.size → Q () t) : wpS (model prog w) A E s sortRuns' Q st := by
  rw [sortRuns'_eq]
  refine wpS_bind (wpS_get ?_)
  dsimp only
  simp only [hB.size]
  have mr := minRun_le a₀.size a₀.size 0
  refine wpS_bind (wpS_mono (wpS_forRange (I := fun x c t => (x = 0 ∧ c = (none, 0) ∧ t = st) ∨ (1 ≤ x ∧ c = (none, a₀.size) ∧ SDone a₀ t)) (Q := fun c t => c = (none, a₀.size) ∧ SDone a₀ t) (fun x c t _ hx hI => ?_) (fun c t hI => ?_) (.inl ⟨rfl, rfl, rfl⟩)) fun c t hc => ?_)
  · rcases hI with ⟨rfl, rfl, rfl⟩ | ⟨x1, rfl, hD⟩
    · dsimp only
      rw [if_neg (by omega)]
      simp only [Nat.sub_zero]
      have fin : ∀ t', SBase a₀ t' → SortedTo (arrOf t') a₀.size → SDone a₀ (setPending t' ((pendingOf t').push (0, a₀.size, 0))) := fun t' hb hq => hb.done hq
      rcases hs with hs | hs
      · refine wpS_bind (run_up h0 (by omega) hB hs ?_)
        dsimp only
        rw [if_neg (by omega)]
        refine wpS_bind (wpS_get ?_)
        rw [show (pendingOf t).back? = none by rw [hB.pend]; rfl]
        dsimp only
        refine wpS_bind (wpS_modify (wpS_pure (.inr ⟨by omega, ?_, fin t hB hs⟩)))
        simp
      · refine wpS_bind (run_down h0 h2 hB hs fun t' hB' so => ?_)
        dsimp only
        rw [if_neg (by omega)]
        refine wpS_bind (wpS_get ?_)
        rw [show (pendingOf t').back? = none by rw [hB'.pend]; rfl]
        dsimp only
        refine wpS_bind (wpS_modify (wpS_pure (.inr ⟨by omega, ?_, fin t' hB' so⟩)))
        simp
    · dsimp only
      rw [if_pos (Nat.le_refl _)]
      exact wpS_pure ⟨rfl, hD⟩
  · rcases hI with ⟨hx, _⟩ | ⟨_, hc, hD⟩
    · omega
    · exact ⟨hc, hD⟩
  · obtain ⟨rfl, hD⟩ := hc
    dsimp only
    refine wpS_bind (wpS_mono (wpS_forRange (I := fun _ c t'' => t'' = t ∧ c = (none, ())) (Q := fun c t'' => t'' = t ∧ c = (none, ())) (fun x c t'' _ _ hI => ?_) (fun _ _ hh => hh) ⟨rfl, rfl⟩) fun c t'' hI => ?_)
    · obtain ⟨rfl, rfl⟩ := hI
      refine wpS_bind (wpS_get ?_)
      rw [if_pos (by rw [hD.2.2.1]; exact Nat.le_refl 1)]
      exact wpS_pure ⟨rfl, rfl⟩
    · obtain ⟨rfl, rfl⟩ := hI
      exact wpS_pure (h _ hD.1 hD.2.1 hD.2.2.2)
end
end L2
namespace L2
open PySem PySem.Spec PyProof.Rows
noncomputable def Run1 (ns : List Int) : Prop := ns.length < 64 ∨ ns.Pairwise (· ≤ ·) ∨ ns.Pairwise (· > ·)
theorem ints_at : ∀ {vs : List Value} {ns : List Int}, IntsAre vs ns → ∀ i, i < vs.length → ∃ t, vs[i]? = some (.int (ns.getD i 0) t)
  | _, _, .nil, i, h => by simp at h
  | _, _, .cons k t _, 0, _ => ⟨t, rfl⟩
  | _, _, .cons _ _ r, i + 1, h => by
    obtain ⟨t, e⟩ := ints_at r i (by simpa using h)
    exact ⟨t, by simpa using e⟩
theorem key_at {vs : List Value} {ns : List Int} (hI : IntsAre vs ns) {i : Nat} (h : i < vs.length) : K (pairsOf vs) i = ns.getD i 0 := by
  obtain ⟨t, e⟩ := ints_at hI i h
  have e2 : (pairsOf vs)[i]? = some (.int (ns.getD i 0) t, .int (ns.getD i 0) t) := by
    rw [← Array.getElem?_toList, pairsOf_toList]
    exact List.getElem?_zip_eq_some.mpr ⟨e, e⟩
  unfold K
  rw [e2]
  rfl
theorem pw_at {ns : List Int} {R : Int → Int → Prop} (p : ns.Pairwise R) {i j : Nat} (h : i < j) (hj : j < ns.length) : R (ns.getD i 0) (ns.getD j 0) := by
  have hi : i < ns.length := by omega
  have q := List.pairwise_iff_getElem.mp p i j hi hj h
  rw [List.getD_eq_getElem?_getD, List.getD_eq_getElem?_getD, List.getElem?_eq_getElem hi, List.getElem?_eq_getElem hj]
  exact q
section
variable {prog : Program} {w : World} {A : Around} {E : Value → Shared → Prop} {s : Shared}
theorem sort_any {a : Addr} {vs : List Value} {ns : List Int} {n : Nat} {P : Fin → Shared → Prop} (ho : s.heap.get? a = some (seqObj "list" vs.toArray n)) (hI : IntsAre vs ns) (hr : Run1 ns) (hz : vs.length ≤ 100000)
    (h : ∀ (out : Array Value) (ms : List Int), IntsAre out.toList ms → ms.Perm ns → ms.Pairwise (· ≤ ·) → P (.done (.ret .none)) { s with heap := sortedHeap s.heap a vs out }) : wpAny (model prog w) A (Builtin.«list.sort» ⟨[.ref a], []⟩) P E s := by
  have hlen := hI.length
  by_cases h64 : vs.length < 64
  · exact list_sort_tree ho hI h64 h
  have big : (100000 : Nat) ≤ sizeLine := by decide
  have lt : a < s.heap.objs.size := Heap.lt_size ho
  rw [list_sort_plain]
  refine wpAny_bind (listItems_at ho rfl (wpAny_bind (listUpdate_at ho rfl ?_ (by simp; omega) (by simp))))
  obtain ⟨c1, b1⟩ : ∃ c1, (s.heap.update a (Obj.mapSeq fun _ => #[])).get? a = some (seqObj "list" #[] c1) := ⟨_, get?_update_seq ho _⟩
  refine wpAny_bind (seqEpoch_at b1 rfl (wpAny_bind (wpAny_newTuple (wpAny_bind (wpAny_newList (wpAny_holding ?_))) (by simp; omega))))
  have b6 : (((s.heap.update a (Obj.mapSeq fun _ => #[])).push (seqObj "tuple" vs.toArray 0)).push (seqObj "list" #[] 0)).get? a = some (seqObj "list" #[] c1) := Heap.get?_push_of_some _ (Heap.get?_push_of_some _ b1)
  show wpAny (model prog w) A _ P E { s with heap := ((s.heap.update a (Obj.mapSeq fun _ => #[])).push (seqObj "tuple" vs.toArray 0)).push (seqObj "list" #[] 0) }
  dsimp only
  have sz : vs.toArray.size = vs.length := by simp
  rw [if_neg (by omega), if_neg (by omega)]
  obtain ⟨x, y, r, rfl⟩ : ∃ x y r, vs = x :: y :: r := by
    cases vs with
    | nil => simp at h64
    | cons x r =>
      cases r with
      | nil => simp at h64
      | cons y r => exact ⟨x, y, r, rfl⟩
  rw [keyKind_ints hI]
  refine wpAny_bind (wpAny_pure ?_)
  have hB : SBase (pairsOf (x :: y :: r)) (SortSt.mk' oneType' ((x :: y :: r).toArray.zip (x :: y :: r).toArray) #[] 7 none) := ⟨Array.Perm.refl _, rfl, rfl, rfl⟩
  have run : SortedTo (pairsOf (x :: y :: r)) (pairsOf (x :: y :: r)).size ∨ Falls (pairsOf (x :: y :: r)) (pairsOf (x :: y :: r)).size := by
    rw [pairsOf_size]
    rcases hr with z | z | z
    · omega
    · refine .inl fun i j hij hj => ?_
      rw [key_at hI (by omega), key_at hI hj]
      rcases Nat.lt_or_ge i j with q | q
      · exact pw_at z q (by omega)
      · have e : i = j := by omega
        rw [e]; exact Int.le_refl _
    · refine .inr fun i j hij hj => ?_
      rw [key_at hI hj, key_at hI (show i < _ by omega)]
      exact pw_at z hij (by omega)
  refine wpAny_bind (wpAny_mono (one_run (Q := fun _ t => (arrOf t).Perm (pairsOf (x :: y :: r)) ∧ failedOf t = none ∧ SortedTo (arrOf t) (pairsOf (x :: y :: r)).size) hI.intKeys hB (by rw [pairsOf_size]; simp) run fun t q1 q2 q3 => ⟨q1, q2, q3⟩) ?_ fun _ _ e => e)
  rintro ⟨⟨⟩, t⟩ s' ⟨rfl, hp, hf, hs⟩
  dsimp only
  refine wpAny_bind (seqEpoch_at b6 rfl (wpAny_bind (listUpdate_at b6 rfl ?_ (Nat.zero_le _) (by rw [Array.size_map, hp.size_eq, pairsOf_size]; omega))))
  rw [hf]
  simp only [bne_self_eq_false, Bool.false_eq_true, if_false]
  obtain ⟨ms, m1, m2, m3⟩ := sorted_out hI hp hs
  exact wpAny_pure (h _ ms m1 m2 m3)
end
section
variable {X : Cx}
theorem call_sortedR (hc : X.calm = true) : CallR X (.builtin "sorted") (fun xs H Q => ∃ (d : Addr) (kvs : List (Key × V)) (ks : List Int), xs = [.ref d] ∧ H d = some (.dK kvs) ∧ kvs.map (·.1) = ks.map Sum.inl ∧ ks.length ≤ 100000 ∧ Run1 ks ∧
    ∀ ns : List Int, ns.Perm ks → ns.Pairwise (· ≤ ·) → ∀ l, H l = none → Q (.ref l) (upd H l (.lst (ns.map V.int)))) := by
  intro pins s σ H xs us Q I r h
  obtain ⟨d, kvs, ks, rfl, hd, hk, hle, hrun, q⟩ := h
  obtain ⟨u, rfl, rx⟩ := vals1 r
  cases rx
  obtain ⟨hz, lo, vs, rel, dd⟩ := (show ObjOk X.prog X.w H s.heap d (.dK kvs) from I.hok d _ hd)
  obtain ⟨ep, hat⟩ := dd.dictAt
  have hkeys : vs.map (·.1) = ks.map Sum.inl := by rw [← rel.keys]; exact hk
  have hlen : vs.length = ks.length := by have := congrArg List.length hkeys; simpa using this
  have big : (100000 : Nat) ≤ sizeLine := by decide
  refine Calls.call_function_entry kind_sorted plain_sorted entry_sorted (args_sorted1 _) ?_
  unfold Builtin.«sorted»
  refine wpAny_bind (m := checkCount "sorted" 1 1 _) (wpAny_pure ?_)
  refine wpAny_bind (PySem.W.kdu_collect (A := X.A.in1) (PySem.W.kdl_dict (knd := mixKind X.prog X.w) (kvs := vs) (ep := ep) lo) (I.ok.hd hc) hat (by omega) fun h' tk acc hkp hacc => ?_)
  have hl : acc.toList.length = vs.length := by rw [Array.length_toList]; exact hacc.1
  have hI : IntsAre acc.toList ks := ints_by (by omega) fun i u k h1 h2 => by
    obtain ⟨k', x, e1, e2⟩ := hacc.2 i u (by simpa using h1)
    have e3 : (vs.map (·.1))[i]? = some k' := by rw [List.getElem?_map, e1]; rfl
    rw [hkeys, List.getElem?_map, h2] at e3
    cases e3
    rcases keyIs_shape (show keyIs (Sum.inl k) u = true from e2) with ⟨j, t, e, rfl⟩ | ⟨y, t, e, _⟩
    · cases e
      exact ⟨t, rfl⟩
    · cases e
  refine wpAny_bind (wpAny_newList ?_ (by omega))
  have hoL : (h'.push (seqObj "list" acc.toList.toArray 0)).get? h'.objs.size = some (seqObj "list" acc.toList.toArray 0) := Heap.get?_push_size _ rfl
  show wpAny _ _ _ _ _ { s with heap := h'.push (seqObj "list" acc.toList.toArray 0), toks := tk }
  refine wpAny_bind (wpAny_holding (wpAny_call_entry slot_list_sort ⟨_, hoL, rfl⟩ entry_list_sort (sort_any hoL hI hrun (by omega) fun out ns a1 a2 a3 => ⟨_, rfl, ?_⟩) (args_list_sort _)))
  refine wpAny_pure ⟨_, rfl, ?_⟩
  obtain ⟨m, em⟩ := sortedHeap_at (out := out) hoL
  have hnl : ns.length = ks.length := a2.length_eq
  have I1 : Inv X pins σ H { s with heap := h', toks := tk } := I.kept (t' := tk) hkp
  refine ⟨.ref h'.objs.size, _, I1.laid (t' := tk) (o := .lst (ns.map V.int)) (fun b ob e => (sortedHeap_old (Nat.ne_of_lt (Heap.lt_size e)) (Nat.lt_of_lt_of_le (Heap.lt_size e) (by rw [size_push']; exact Nat.le_succ _))).trans (Heap.get?_push_of_some _ e)) (Nat.le_refl _) ?_, rfl, q ns a2 a3 _ (I1.hok.fresh (Nat.le_refl _))⟩
  exact ⟨by rw [List.length_map]; omega, out.toList, m, vals_ints a1, by simpa using em⟩
theorem sortedL_k {K : PySem.W.Frag} (hK : X.K = K) : CallR X (.builtin "sorted") (fun xs H Q => ∃ (a : Addr) (ks : List Int), xs = [.ref a] ∧ SqL K H a (ks.map V.int) ∧ ks.length < 64 ∧
    ∀ ns : List Int, ns.Perm ks → ns.Pairwise (· ≤ ·) → ∀ l, H l = none → Q (.ref l) (upd H l (.lst (ns.map V.int)))) := by
  intro pins s σ H xs us Q I r h
  subst hK
  obtain ⟨a, ks, rfl, hS, h64, q⟩ := h
  obtain ⟨u, rfl, rx⟩ := vals1 r
  cases rx
  obtain ⟨its, rv, pl, hz⟩ := I.list hS
  have hl := rv.length
  rw [List.length_map] at hl
  have big : (64 : Nat) ≤ sizeLine := by decide
  refine sorted_ints pl.isList (intsAre_of rv) (by omega) fun out ns a1 a2 a3 => ?_
  obtain ⟨m, em⟩ := sortedAll_at s.heap its out
  have hnl : ns.length = ks.length := a2.length_eq
  refine ⟨.ref (s.heap.objs.size + 1), _, I.laid (t' := s.toks) (o := .lst (ns.map V.int)) (fun b ob e => sortedAll_old e) (Nat.le_succ _) ?_, rfl, q ns a2 a3 _ (I.hok.fresh (Nat.le_succ _))⟩
  exact ⟨by rw [List.length_map]; omega, out.toList, m, vals_ints a1, by simpa using em⟩
end
end L2

namespace L2
open PySem PySem.Spec PyProof.Rows
section
variable {X : Cx}
theorem call_listD (hc : X.calm = true) : CallR X (.type "list") (fun xs H Q => ∃ (d : Addr) (kvs : List (Key × V)) (ks : List Int), xs = [.ref d] ∧ H d = some (.dK kvs) ∧ kvs.map (·.1) = ks.map Sum.inl ∧ ks.length ≤ 100000 ∧ ∀ l, H l = none → Q (.ref l) (upd H l (.lst (ks.map V.int)))) := by
  intro pins s σ H xs us Q I r h
  obtain ⟨d, kvs, ks, rfl, hd, hk, hle, q⟩ := h
  obtain ⟨u, rfl, rx⟩ := vals1 r
  cases rx
  obtain ⟨hz, lo, vs, rel, dd⟩ := (show ObjOk X.prog X.w H s.heap d (.dK kvs) from I.hok d _ hd)
  obtain ⟨ep, hat⟩ := dd.dictAt
  have hkeys : vs.map (·.1) = ks.map Sum.inl := by rw [← rel.keys]; exact hk
  have hlen : vs.length = ks.length := by have := congrArg List.length hkeys; simpa using this
  have big : (100000 : Nat) ≤ sizeLine := by decide
  refine PySem.W.kdl_call (PySem.W.kdl_dict (knd := mixKind X.prog X.w) (kvs := vs) (ep := ep) lo) (I.ok.hd hc) hat (by omega) fun h' tk acc c' hkp hS hacc => ?_
  have hl : acc.toList.length = vs.length := by rw [Array.length_toList]; exact hacc.1
  have hI : IntsAre acc.toList ks := ints_by (by omega) fun i u k h1 h2 => by
    obtain ⟨k', x, e1, e2⟩ := hacc.2 i u (by simpa using h1)
    have e3 : (vs.map (·.1))[i]? = some k' := by rw [List.getElem?_map, e1]; rfl
    rw [hkeys, List.getElem?_map, h2] at e3
    cases e3
    rcases keyIs_shape (show keyIs (Sum.inl k) u = true from e2) with ⟨j, t, e, rfl⟩ | ⟨y, t, e, _⟩
    · cases e
      exact ⟨t, rfl⟩
    · cases e
  refine ⟨.ref s.heap.objs.size, _, I.laid (t' := tk) (o := .lst (ks.map V.int)) hkp (Nat.le_refl _) ?_, rfl, q _ (I.hok.fresh (Nat.le_refl _))⟩
  exact ⟨by rw [List.length_map]; omega, acc.toList, c', vals_ints hI, by simpa using hS⟩
theorem call_rng2 : CallR X (.type "range") (fun xs H Q => ∃ i n : Nat, xs = [.int i, .int n] ∧ i ≤ 100000 ∧ n ≤ 100000 ∧ ∀ r, H r = none → Q (.ref r) (upd H r (.rng i n))) := by
  intro pins s σ H xs us Q I r h
  obtain ⟨i, n, rfl, hi, hn, q⟩ := h
  obtain ⟨u1, u2, rfl, ⟨t1, rfl⟩, ⟨t2, rfl⟩⟩ := vals2 r
  refine call_range_2 ?_
  refine ⟨.ref s.heap.objs.size, _, I.laid (t' := _) (o := .rng i n) (fun b ob q => Heap.get?_push_of_some _ q) (Nat.le_refl _) ?_, rfl, q _ (I.hok.fresh (Nat.le_refl _))⟩
  exact ⟨_, _, _, Heap.get?_push_size _ rfl⟩
noncomputable def fromV (i n : Nat) : List V := (List.range' i (n - i)).map fun k => V.int (k : Nat)
theorem call_list2 (hc : X.calm = true) : CallR X (.type "list") (fun xs H Q => ∃ (r : Addr) (i n : Nat), xs = [.ref r] ∧ H r = some (.rng i n) ∧ i ≤ n ∧ n ≤ 100000 ∧ ∀ l, H l = none → Q (.ref l) (upd H l (.lst (fromV i n)))) := by
  intro pins s σ H xs us Q I r h
  obtain ⟨rg, i, n, rfl, hr, hin, hn, q⟩ := h
  obtain ⟨u, rfl, rx⟩ := vals1 r
  cases rx
  obtain ⟨t1, t2, t3, e⟩ := (show ObjOk X.prog X.w H s.heap rg (.rng i n) from I.hok rg _ hr)
  have hs : Builtin.Range.rangeSize (i : Int) (n : Int) 1 = (n - i : Nat) := by rw [rangeSize_one]; split <;> omega
  refine call_list_range (I.ok.hd hc) e (small_one (by omega) (by omega) (by omega) (by omega)) hs (by omega) fun h' tk acc c' hk hS hacc => ?_
  have big : (100000 : Nat) ≤ sizeLine := by decide
  have fl : (fromV i n).length = n - i := by simp [fromV]
  refine ⟨.ref s.heap.objs.size, _, I.laid (t' := tk) (o := .lst (fromV i n)) hk (Nat.le_refl _) ?_, rfl, q _ (I.hok.fresh (Nat.le_refl _))⟩
  refine ⟨by omega, acc.toList, c', vals_by (by rw [fl, Array.length_toList]; exact hacc.1.symm) fun j x u h1 h2 => ?_, by simpa using hS⟩
  have hj : j < n - i := by
    have := (List.getElem?_eq_some_iff.mp h1).1
    rwa [fl] at this
  have e1 : (fromV i n)[j]? = some (.int ((i + j : Nat) : Int)) := by simp [fromV, hj]
  rw [e1] at h1
  cases h1
  obtain ⟨t, rfl⟩ := hacc.2 j u (by simpa using h2)
  exact ⟨t, by simp⟩
end
end L2

namespace Grf
inductive Rch (adj : Nat → List Nat) (S : List Nat) : Nat → Prop
  | base {n : Nat} (h : n ∈ S) : Rch adj S n
  | step {m n : Nat} (h : Rch adj S m) (e : n ∈ adj m) : Rch adj S n
theorem nodup_len : ∀ (N : Nat) (f : List Nat), f.Nodup → (∀ x ∈ f, x < N) → f.length ≤ N
  | 0, f, _, h => by
    cases f with
    | nil => exact Nat.le_refl _
    | cons a r => exact absurd (h a List.mem_cons_self) (Nat.not_lt_zero _)
  | N + 1, f, nd, h => by
    have e : (f.filter fun x => decide (x ≠ N)).length ≤ N := nodup_len N _ (nd.filter _) fun x hx => by
      obtain ⟨h1, h2⟩ := List.mem_filter.mp hx
      have h3 : x ≠ N := of_decide_eq_true h2
      have h4 := h x h1
      omega
    have g : ∀ l : List Nat, l.Nodup → l.length ≤ (l.filter fun x => decide (x ≠ N)).length + 1 := fun l => by
      induction l with
      | nil => intro _; exact Nat.zero_le _
      | cons a r ih =>
        intro nd
        by_cases ha : a = N
        · have hr : r.filter (fun x => decide (x ≠ N)) = r := by
            refine List.filter_eq_self.mpr fun x hx => decide_eq_true fun z => ?_
            rw [← ha] at z
            exact (List.nodup_cons.mp nd).1 (z ▸ hx)
          rw [List.filter_cons, if_neg (by simp [ha]), hr]
          exact Nat.le_refl _
        · rw [List.filter_cons, if_pos (by simp [ha])]
          have := ih (List.nodup_cons.mp nd).2
          simp only [List.length_cons]
          omega
    have := g f nd
    omega
structure Wk (adj : Nat → List Nat) (S f a : List Nat) : Prop where
  sf : ∀ x ∈ f, Rch adj S x
  sa : ∀ x ∈ a, Rch adj S x
  st : ∀ x ∈ S, x ∈ f ∨ x ∈ a
  cl : ∀ x ∈ f, ∀ y ∈ adj x, y ∈ f ∨ y ∈ a
variable {adj : Nat → List Nat} {S f a a' : List Nat} {n : Nat}
theorem Wk.start : Wk adj S [] S := ⟨fun _ h => (by cases h), fun _ h => .base h, fun _ h => .inr h, fun _ h => (by cases h)⟩
theorem Wk.old (w : Wk adj S f a) (hm : ∀ x, x ∈ a ↔ x = n ∨ x ∈ a') (h : n ∈ f) : Wk adj S f a' :=
  ⟨w.sf, fun x hx => w.sa x ((hm x).mpr (.inr hx)), fun x hx => by
    rcases w.st x hx with q | q
    · exact .inl q
    · rcases (hm x).mp q with rfl | q
      · exact .inl h
      · exact .inr q, fun x hx y hy => by
    rcases w.cl x hx y hy with q | q
    · exact .inl q
    · rcases (hm y).mp q with rfl | q
      · exact .inl h
      · exact .inr q⟩
theorem Wk.new {b : List Nat} (w : Wk adj S f a) (hm : ∀ x, x ∈ a ↔ x = n ∨ x ∈ a') (hb : ∀ x, x ∈ b ↔ x ∈ a' ∨ x ∈ adj n) : Wk adj S (f ++ [n]) b := by
  have hn : Rch adj S n := w.sa n ((hm n).mpr (.inl rfl))
  have mem : ∀ x, (x ∈ f ∨ x ∈ a) → x ∈ f ++ [n] ∨ x ∈ b := fun x h => by
    rcases h with h | h
    · exact .inl (List.mem_append_left _ h)
    · rcases (hm x).mp h with rfl | h
      · exact .inl (List.mem_append_right _ (List.mem_singleton.mpr rfl))
      · exact .inr ((hb x).mpr (.inl h))
  refine ⟨fun x hx => ?_, fun x hx => ?_, fun x hx => mem x (w.st x hx), fun x hx y hy => ?_⟩
  · rcases List.mem_append.mp hx with hx | hx
    · exact w.sf x hx
    · rw [List.mem_singleton.mp hx]; exact hn
  · rcases (hb x).mp hx with hx | hx
    · exact w.sa x ((hm x).mpr (.inr hx))
    · exact .step hn hx
  · rcases List.mem_append.mp hx with hx | hx
    · exact mem y (w.cl x hx y hy)
    · rw [List.mem_singleton.mp hx] at hy
      exact .inr ((hb y).mpr (.inr hy))
theorem Wk.fin (w : Wk adj S f []) (x : Nat) : x ∈ f ↔ Rch adj S x := by
  refine ⟨w.sf x, fun h => ?_⟩
  induction h with
  | base h =>
    rcases w.st _ h with q | q
    · exact q
    · cases q
  | step h e ih =>
    rcases w.cl _ ih _ e with q | q
    · exact q
    · cases q
noncomputable def rset (adj : Nat → List Nat) (N : Nat) (S : List Nat) : List Int := by
  classical
  exact ((List.range N).filter fun n => decide (Rch adj S n)).map fun n : Nat => (n : Int)
theorem rset_of {N : Nat} {ns : List Int} (nd : f.Nodup) (lt : ∀ x ∈ f, x < N) (hf : ∀ x, x ∈ f ↔ Rch adj S x) (p : ns.Perm (f.map fun n : Nat => (n : Int))) (s : ns.Pairwise (· ≤ ·)) : ns = rset adj N S := by
  classical
  have e : rset adj N S = ((List.range N).filter fun n => decide (Rch adj S n)).map fun n : Nat => (n : Int) := by
    unfold rset
    congr
  rw [e]
  have pf : f.Perm ((List.range N).filter fun n => decide (Rch adj S n)) := by
    refine (List.perm_ext_iff_of_nodup nd (List.nodup_range.filter _)).mpr fun x => ?_
    rw [List.mem_filter, List.mem_range, decide_eq_true_eq]
    exact ⟨fun h => ⟨lt x h, (hf x).mp h⟩, fun h => (hf x).mpr h.2⟩
  refine (p.trans (pf.map _)).eq_of_pairwise (le := (· ≤ ·)) (fun a b _ _ h1 h2 => Int.le_antisymm h1 h2) s ?_
  rw [List.pairwise_map]
  refine ((List.pairwise_lt_range).filter _).imp fun h => by omega
end Grf

namespace Mine
open PySem L2
noncomputable def top (i : Nat) : Stmt := PySem.Challenge.pw_waitloom_k25_whole_collected.main.body.getD i (.Pass ⟨0, 0, 0, 0⟩)
-- is_whole
noncomputable abbrev s_is_whole : Stmt := top 5
theorem sc_is_whole : FnScope ["thing"] ["thing"] (defScope s_is_whole) := ⟨rfl, rfl, rfl, by decide +kernel, rfl, by decide +kernel, by decide +kernel⟩
-- named_by
noncomputable abbrev s_named_by : Stmt := top 7
theorem sc_named_by : FnScope ["values"] ["values"] (defScope s_named_by) := ⟨rfl, rfl, rfl, by decide +kernel, rfl, by decide +kernel, by decide +kernel⟩
-- named_in
noncomputable abbrev s_named_in : Stmt := top 8
theorem sc_named_in : FnScope ["thing", "kind"] ["thing"] (defScope s_named_in) := ⟨rfl, rfl, rfl, by decide +kernel, rfl, by decide +kernel, by decide +kernel⟩
-- Heap.__init__
noncomputable abbrev s_H_init : Stmt := inClass (top 10) 0
theorem sc_H_init : FnScope ["self"] ["self"] (defScope s_H_init) := ⟨rfl, rfl, rfl, by decide +kernel, rfl, by decide +kernel, by decide +kernel⟩
-- Heap.put
noncomputable abbrev s_H_put : Stmt := inClass (top 10) 1
theorem sc_H_put : FnScope ["self", "thing", "number"] ["self", "thing"] (defScope s_H_put) := ⟨rfl, rfl, rfl, by decide +kernel, rfl, by decide +kernel, by decide +kernel⟩
-- Heap.need_thing
noncomputable abbrev s_H_need_thing : Stmt := inClass (top 10) 2
theorem sc_H_need_thing : FnScope ["self", "k"] ["self", "k"] (defScope s_H_need_thing) := ⟨rfl, rfl, rfl, by decide +kernel, rfl, by decide +kernel, by decide +kernel⟩
-- Heap.change
noncomputable abbrev s_H_change : Stmt := inClass (top 10) 3
theorem sc_H_change : FnScope ["self", "k", "thing"] ["self", "k", "thing"] (defScope s_H_change) := ⟨rfl, rfl, rfl, by decide +kernel, rfl, by decide +kernel, by decide +kernel⟩
-- Heap.thing
noncomputable abbrev s_H_thing : Stmt := inClass (top 10) 4
theorem sc_H_thing : FnScope ["self", "k"] ["self", "k"] (defScope s_H_thing) := ⟨rfl, rfl, rfl, by decide +kernel, rfl, by decide +kernel, by decide +kernel⟩
-- Heap.numbers
noncomputable abbrev s_H_numbers : Stmt := inClass (top 10) 6
theorem sc_H_numbers : FnScope ["self"] ["self"] (defScope s_H_numbers) := ⟨rfl, rfl, rfl, by decide +kernel, rfl, by decide +kernel, by decide +kernel⟩
-- Heap.found_from
noncomputable abbrev s_H_found_from : Stmt := inClass (top 10) 7
theorem sc_H_found_from : FnScope ["self", "values", "found", "ahead", "number"] ["self", "values"] (defScope s_H_found_from) := ⟨rfl, rfl, rfl, by decide +kernel, rfl, by decide +kernel, by decide +kernel⟩
-- Heap.collect
noncomputable abbrev s_H_collect : Stmt := inClass (top 10) 9
theorem sc_H_collect : FnScope ["self", "values", "found", "lost", "number"] ["self", "values"] (defScope s_H_collect) := ⟨rfl, rfl, rfl, by decide +kernel, rfl, by decide +kernel, by decide +kernel⟩
-- _law_draw
noncomputable abbrev s_law_draw : Stmt := top 12
theorem sc_law_draw : FnScope ["_law_script", "_law_k"] ["_law_script", "_law_k"] (defScope s_law_draw) := ⟨rfl, rfl, rfl, by decide +kernel, rfl, by decide +kernel, by decide +kernel⟩
-- _law_spread
noncomputable abbrev s_law_spread : Stmt := top 13
theorem sc_law_spread : FnScope ["_law_cell", "_law_k"] ["_law_cell", "_law_k"] (defScope s_law_spread) := ⟨rfl, rfl, rfl, by decide +kernel, rfl, by decide +kernel, by decide +kernel⟩
-- _law_value
noncomputable abbrev s_law_value : Stmt := top 14
theorem sc_law_value : FnScope ["_law_cell", "_law_there"] ["_law_cell", "_law_there"] (defScope s_law_value) := ⟨rfl, rfl, rfl, by decide +kernel, rfl, by decide +kernel, by decide +kernel⟩
-- _law_boxes
noncomputable abbrev s_law_boxes : Stmt := top 15
theorem sc_law_boxes : FnScope ["_law_cell", "_law_there"] ["_law_cell", "_law_there"] (defScope s_law_boxes) := ⟨rfl, rfl, rfl, by decide +kernel, rfl, by decide +kernel, by decide +kernel⟩
-- _law_thing
noncomputable abbrev s_law_thing : Stmt := top 16
theorem sc_law_thing : FnScope ["_law_cell", "_law_there", "_law_more", "_law_at", "_law_slots"] ["_law_cell", "_law_there"] (defScope s_law_thing) := ⟨rfl, rfl, rfl, by decide +kernel, rfl, by decide +kernel, by decide +kernel⟩
-- _law_values
noncomputable abbrev s_law_values : Stmt := top 17
theorem sc_law_values : FnScope ["_law_thing_here", "_law_found", "_law_part", "_law_one"] ["_law_thing_here"] (defScope s_law_values) := ⟨rfl, rfl, rfl, by decide +kernel, rfl, by decide +kernel, by decide +kernel⟩
-- _law_reached
noncomputable abbrev s_law_reached : Stmt := top 18
theorem sc_law_reached : FnScope ["_law_things", "_law_values_here", "_law_found", "_law_todo", "_law_value_here"] ["_law_things", "_law_values_here"] (defScope s_law_reached) := ⟨rfl, rfl, rfl, by decide +kernel, rfl, by decide +kernel, by decide +kernel⟩
-- _law_is_gone
noncomputable abbrev s_law_is_gone : Stmt := top 19
theorem sc_law_is_gone : FnScope ["_law_heap", "_law_k", "e"] ["_law_heap", "_law_k"] (defScope s_law_is_gone) := ⟨rfl, rfl, rfl, by decide +kernel, rfl, by decide +kernel, by decide +kernel⟩
-- _law_right
noncomputable abbrev s_law_right : Stmt := top 20
theorem sc_law_right : FnScope ["_law_heap", "_law_things", "_law_count", "_law_there"] ["_law_heap", "_law_things", "_law_count"] (defScope s_law_right) := ⟨rfl, rfl, rfl, by decide +kernel, rfl, by decide +kernel, by decide +kernel⟩
-- _law_collected
noncomputable abbrev s_law_collected : Stmt := top 21
theorem sc_law_collected : FnScope ["_law_heap", "_law_things", "_law_values_here", "_law_held", "_law_handed", "_law_kept", "_law_due", "_law_found", "_law_k"] ["_law_heap", "_law_things", "_law_values_here", "_law_held"] (defScope s_law_collected) := ⟨rfl, rfl, rfl, by decide +kernel, rfl, by decide +kernel, by decide +kernel⟩
-- _law_chain
noncomputable abbrev s_law_chain : Stmt := top 22
theorem sc_law_chain : FnScope ["_law_cell", "_law_heap", "_law_many", "_law_k", "_law_at"] ["_law_cell"] (defScope s_law_chain) := ⟨rfl, rfl, rfl, by decide +kernel, rfl, by decide +kernel, by decide +kernel⟩
-- law
noncomputable abbrev s_law : Stmt := top 23
theorem sc_law : FnScope ["_law_script", "_law_heaps", "_law_things", "_law_counts", "_law_held", "_law_cell", "_law_side", "_law_there", "_law_way", "_law_thing_here", "_law_at", "_law_values_here", "_law_k"] ["_law_script"] (defScope s_law) := ⟨rfl, rfl, rfl, by decide +kernel, rfl, by decide +kernel, by decide +kernel⟩
structure Ad where
  LoomError : Addr
  NoThing : Addr
  Heap : Addr
structure Cs (K : PySem.W.Frag) (mg : Str → Option Value) (ad : Ad) : Prop where
  isinstance_ : mg "isinstance" = none
  int_ : mg "int" = none
  bool_ : mg "bool" = none
  list_ : mg "list" = none
  sorted_ : mg "sorted" = none
  len_ : mg "len" = none
  tuple_ : mg "tuple" = none
  range_ : mg "range" = none
  all_ : mg "all" = none
  m_LoomError : mg "LoomError" = some (.ref ad.LoomError)
  m_NoThing : mg "NoThing" = some (.ref ad.NoThing)
  m_Heap : mg "Heap" = some (.ref ad.Heap)
  k_NoThing : XK1 K ad.NoThing
  e1 : PySem.W.exmOne K (.ref ad.NoThing) (.ref ad.LoomError) = some true
  i3 : PySem.W.kitOne K (.ref ad.NoThing) (.ref ad.NoThing) = some true
  o_NoThing : XOwn K ad.NoThing
  cl : Cls K ad.Heap
  nK : PySem.W.findIn K (.ref ad.Heap) "kept" = some none
  nM : PySem.W.findIn K (.ref ad.Heap) "made" = some none
  mkC : PySem.W.makesIn K ad.Heap = true
  kc : PySem.W.keepIn K (.ref ad.Heap) = true
theorem Cs.v_NoThing {K : PySem.W.Frag} {mg : Str → Option Value} {ad : Ad} (c : Cs K mg ad) : ∃ u, mg "NoThing" = some u ∧ RelV (.ref ad.NoThing) u := ⟨_, c.m_NoThing, rfl⟩
theorem km : ¬ (("kept" : Str) = "made") := by decide +kernel
noncomputable def flds (d : Addr) (z : Int) : List (Str × V) := putF "made" (.int z) (putF "kept" (.ref d) [])
theorem flds_eq (d : Addr) (z : Int) : flds d z = ([("kept", V.ref d), ("made", V.int z)] : List (Str × V)) := by
  show (if ("kept" : Str) = "made" then [(("kept" : Str), V.int z)] else (("kept" : Str), V.ref d) :: putF "made" (V.int z) []) = _
  rw [if_neg km]
  all_goals rfl
theorem flds_kept (d : Addr) (z : Int) : (flds d z).lookup ("kept" : Str) = some (.ref d) := by
  unfold flds
  rw [lookup_putF, if_neg km, lookup_putF, if_pos rfl]
theorem flds_made (d : Addr) (z : Int) : (flds d z).lookup ("made" : Str) = some (.int z) := by
  unfold flds
  rw [lookup_putF, if_pos rfl]
theorem flds_no (d : Addr) (z : Int) {m : Str} (h1 : ¬ m = "made") (h2 : ¬ m = "kept") : (flds d z).lookup m = none := by
  unfold flds
  rw [lookup_putF, if_neg h1, lookup_putF, if_neg h2]
  all_goals rfl
theorem flds_put (d : Addr) (z y : Int) : putF "made" (.int y) (flds d z) = flds d y := by
  rw [flds_eq, flds_eq]
  show (if ("kept" : Str) = "made" then _ else (("kept" : Str), V.ref d) :: (if ("made" : Str) = "made" then [(("made" : Str), V.int y)] else _)) = _
  rw [if_neg km, if_pos rfl]
noncomputable abbrev Mp := List (Nat × V)
noncomputable def kM (m : Mp) : List (Key × V) := m.map fun q => ((Sum.inl ((q.1 : Nat) : Int) : Key), q.2)
noncomputable def keyM (m : Mp) : List Nat := m.map (·.1)
noncomputable def getM (m : Mp) (n : Nat) : Option V := (m.find? fun q => decide (q.1 = n)).map (·.2)
noncomputable def setM (m : Mp) (n : Nat) (v : V) : Mp := m.map fun q => if q.1 = n then (q.1, v) else q
noncomputable def dropM (m : Mp) (n : Nat) : Mp := m.filter fun q => decide (q.1 ≠ n)
theorem inl_eq {a b : Nat} : (Sum.inl ((a : Nat) : Int) : Key) = Sum.inl ((b : Nat) : Int) ↔ a = b := ⟨fun e => by have := Sum.inl.inj e; omega, fun e => by rw [e]⟩
theorem kM_val (m : Mp) (n : Nat) : valV (kM m) (Sum.inl ((n : Nat) : Int)) = getM m n := by
  induction m with
  | nil => rfl
  | cons q r ih =>
    by_cases e : q.1 = n
    · have e1 : valV (kM (q :: r)) (Sum.inl ((n : Nat) : Int)) = some q.2 := valV_pos (inl_eq.mpr e)
      rw [e1]
      unfold getM
      rw [List.find?_cons, decide_eq_true e]
      rfl
    · have e1 : valV (kM (q :: r)) (Sum.inl ((n : Nat) : Int)) = valV (kM r) (Sum.inl ((n : Nat) : Int)) := valV_neg (fun z => e (inl_eq.mp z))
      rw [e1, ih]
      unfold getM
      rw [List.find?_cons, decide_eq_false e]
theorem kM_out (m : Mp) (z : Int) (h : ∀ n ∈ keyM m, (n : Int) ≠ z) : valV (kM m) (Sum.inl z) = none := by
  induction m with
  | nil => rfl
  | cons q r ih =>
    have e1 : valV (kM (q :: r)) (Sum.inl z) = valV (kM r) (Sum.inl z) := valV_neg (fun e => h q.1 List.mem_cons_self (Sum.inl.inj e))
    rw [e1]
    exact ih fun n hn => h n (List.mem_cons_of_mem _ hn)
theorem kM_keys (m : Mp) : (kM m).map (·.1) = ((keyM m).map fun n : Nat => (n : Int)).map Sum.inl := by
  unfold kM keyM
  rw [List.map_map, List.map_map, List.map_map]
  rfl
theorem kM_len (m : Mp) : (kM m).length = m.length := List.length_map _
theorem keyM_len (m : Mp) : (keyM m).length = m.length := List.length_map _
theorem getM_in {m : Mp} {n : Nat} (h : n ∈ keyM m) : ∃ v, getM m n = some v ∧ (n, v) ∈ m := by
  induction m with
  | nil => cases h
  | cons q r ih =>
    by_cases e : q.1 = n
    · refine ⟨q.2, ?_, ?_⟩
      · unfold getM
        rw [List.find?_cons, decide_eq_true e]
        rfl
      · rw [← e]; exact List.mem_cons_self
    · obtain ⟨v, h1, h2⟩ := ih ((List.mem_cons.mp h).resolve_left fun z => e z.symm)
      refine ⟨v, ?_, List.mem_cons_of_mem _ h2⟩
      unfold getM at h1 ⊢
      rw [List.find?_cons, decide_eq_false e]
      exact h1
theorem getM_out {m : Mp} {n : Nat} (h : n ∉ keyM m) : getM m n = none := by
  rw [← kM_val]
  exact kM_out m n fun k hk z => h (by have : k = n := by omega
                                       exact this ▸ hk)
theorem kM_add {m : Mp} {n : Nat} (v : V) (h : n ∉ keyM m) : putK (kM m) (Sum.inl ((n : Nat) : Int)) v = kM (m ++ [(n, v)]) := by
  rw [putK_new _ (by rw [kM_val]; exact getM_out h)]
  unfold kM
  rw [List.map_append]
  rfl
theorem kM_set {m : Mp} {n : Nat} (v : V) (h : n ∈ keyM m) : putK (kM m) (Sum.inl ((n : Nat) : Int)) v = kM (setM m n v) := by
  obtain ⟨u, hu, _⟩ := getM_in h
  unfold putK
  rw [if_pos (by rw [valV_any, kM_val, hu]; rfl)]
  unfold kM setM
  rw [List.map_map, List.map_map]
  refine List.map_congr_left fun q _ => ?_
  show (if (Sum.inl ((q.1 : Nat) : Int) : Key) = Sum.inl ((n : Nat) : Int) then _ else _) = _
  by_cases e : q.1 = n
  · rw [if_pos (inl_eq.mpr e)]
    show _ = ((Sum.inl (((if q.1 = n then (q.1, v) else q).1 : Nat) : Int) : Key), (if q.1 = n then (q.1, v) else q).2)
    rw [if_pos e]
  · rw [if_neg (fun z => e (inl_eq.mp z))]
    show _ = ((Sum.inl (((if q.1 = n then (q.1, v) else q).1 : Nat) : Int) : Key), (if q.1 = n then (q.1, v) else q).2)
    rw [if_neg e]
theorem kM_drop (m : Mp) (n : Nat) : dropK (kM m) (Sum.inl ((n : Nat) : Int)) = kM (dropM m n) := by
  unfold dropK kM dropM
  rw [List.filter_map]
  congr 1
  refine List.filter_congr fun q _ => ?_
  show decide (¬ (Sum.inl ((q.1 : Nat) : Int) : Key) = Sum.inl ((n : Nat) : Int)) = decide (q.1 ≠ n)
  rw [Bool.eq_iff_iff, decide_eq_true_eq, decide_eq_true_eq]
  exact not_congr inl_eq
theorem setM_keys (m : Mp) (n : Nat) (v : V) : keyM (setM m n v) = keyM m := by
  unfold keyM setM
  rw [List.map_map]
  refine List.map_congr_left fun q _ => ?_
  show (if q.1 = n then (q.1, v) else q).1 = q.1
  split <;> rfl
structure Ris (m : Mp) (made : Nat) : Prop where
  up : (keyM m).Pairwise (· < ·)
  lt : ∀ n ∈ keyM m, n < made
theorem Ris.nodup {m : Mp} {made : Nat} (r : Ris m made) : (keyM m).Nodup := r.up.imp fun h => Nat.ne_of_lt h
theorem Ris.add {m : Mp} {made : Nat} (r : Ris m made) (v : V) : Ris (m ++ [(made, v)]) (made + 1) := by
  have e : keyM (m ++ [(made, v)]) = keyM m ++ [made] := List.map_append
  refine ⟨?_, fun n hn => ?_⟩
  · rw [e, List.pairwise_append]
    exact ⟨r.up, List.pairwise_singleton _ _, fun x hx y hy => by rw [List.mem_singleton.mp hy]; exact r.lt x hx⟩
  · rw [e] at hn
    rcases List.mem_append.mp hn with z | z
    · have := r.lt n z; omega
    · rw [List.mem_singleton.mp z]; omega
theorem Ris.set {m : Mp} {made n : Nat} {v : V} (r : Ris m made) : Ris (setM m n v) made := ⟨by rw [setM_keys]; exact r.up, by rw [setM_keys]; exact r.lt⟩
structure HeapAt (C : Addr) (H : Hp) (p d : Addr) (m : Mp) (made : Nat) : Prop where
  ob : ∃ dx, H p = some (.ins C dx (flds d ((made : Nat) : Int)))
  dc : H d = some (.dK (kM m))
theorem HeapAt.ne {C : Addr} {H : Hp} {p d : Addr} {m : Mp} {made : Nat} (S : HeapAt C H p d m made) : p ≠ d := by
  obtain ⟨⟨dx, h⟩, e⟩ := S
  exact ne_of h e (by intro z; cases z)
theorem HeapAt.keep {C : Addr} {H H' : Hp} {p d : Addr} {m : Mp} {made : Nat} (S : HeapAt C H p d m made) (k1 : ∀ o, H p = some o → H' p = some o) (k2 : ∀ o, H d = some o → H' d = some o) : HeapAt C H' p d m made := by
  obtain ⟨⟨dx, h⟩, e⟩ := S
  exact ⟨⟨dx, k1 _ h⟩, k2 _ e⟩
theorem HeapAt.same {C : Addr} {H H' : Hp} {p d : Addr} {m : Mp} {made : Nat} (S : HeapAt C H p d m made) (g : Same H H') : HeapAt C H' p d m made := S.keep (g _) (g _)
theorem same_new {H : Hp} {p : Addr} (h : H p = none) (o : HO) : Same H (upd H p o) := fun b u q => by rw [upd_ne (ne_of_none q h)]; exact q
theorem small {n : Nat} (h : n ≤ 100000) : n ≤ sizeLine := Nat.le_trans h (by decide)
theorem small4 {n : Nat} (h : n ≤ 10000) : n < sizeLine := Nat.lt_of_le_of_lt h (by decide)
noncomputable def spInit (C : Addr) : Sp := fun vs H Q _ => ∃ (p dx : Addr), vs = [.ref p] ∧ H p = some (.ins C dx []) ∧ ∀ (d : Addr) (H' : Hp), H d = none → HeapAt C H' p d [] 0 → (∀ b o, H b = some o → b ≠ p → H' b = some o) → Q .non H'
noncomputable def spPut (C : Addr) : Sp := fun vs H Q _ => ∃ (p d : Addr) (m : Mp) (made : Nat) (x : V), vs = [.ref p, x] ∧ HeapAt C H p d m made ∧ Ris m made ∧ m.length ≤ 10000 ∧ ∀ H', HeapAt C H' p d (m ++ [(made, x)]) (made + 1) → (∀ c o, H c = some o → c ≠ p → c ≠ d → H' c = some o) → Q (.int (made : Nat)) H'
noncomputable def There (m : Mp) (e : PyData) : Prop := ∃ i ∈ keyM m, e = .int ((i : Nat) : Int)
noncomputable def spNeed (K : PySem.W.Frag) (C CB : Addr) : Sp := fun vs H Q E => ∃ (p d : Addr) (m : Mp) (made : Nat) (y : V) (e : PyData), vs = [.ref p, y] ∧ HeapAt C H p d m made ∧ Rep K H y e ∧ (There m e → Q .non H) ∧ (¬ There m e → E (.ref CB) none H)
noncomputable def spThing (K : PySem.W.Frag) (C CB : Addr) : Sp := fun vs H Q E => ∃ (p d : Addr) (m : Mp) (made : Nat) (y : V) (e : PyData), vs = [.ref p, y] ∧ HeapAt C H p d m made ∧ Rep K H y e ∧ (∀ (i : Nat) (v : V), e = .int ((i : Nat) : Int) → getM m i = some v → (i, v) ∈ m → Q v H) ∧ (¬ There m e → E (.ref CB) none H)
noncomputable def spChange (K : PySem.W.Frag) (C CB : Addr) : Sp := fun vs H Q E => ∃ (p d : Addr) (m : Mp) (made : Nat) (y x : V) (e : PyData), vs = [.ref p, y, x] ∧ HeapAt C H p d m made ∧ m.length ≤ 10000 ∧ Rep K H y e ∧
  (∀ i ∈ keyM m, e = .int ((i : Nat) : Int) → ∀ H', HeapAt C H' p d (setM m i x) made → (∀ c o, H c = some o → c ≠ d → H' c = some o) → Q .non H') ∧ (¬ There m e → E (.ref CB) none H)
noncomputable def natVs (ns : List Nat) : List V := ns.map fun n => V.int (n : Nat)
noncomputable def spNumbers (C : Addr) : Sp := fun vs H Q _ => ∃ (p d : Addr) (m : Mp) (made : Nat), vs = [.ref p] ∧ HeapAt C H p d m made ∧ Ris m made ∧ m.length ≤ 10000 ∧ ∀ l, H l = none → Q (.ref l) (upd H l (.lst (natVs (keyM m))))
noncomputable def wholeD (e : PyData) : Bool := isi (tyD e) "int" && !isi (tyD e) "bool"
theorem wholeD_int (i : Int) : wholeD (.int i) = true := by
  show (isi "int" "int" && !isi "int" "bool") = true
  decide
theorem wholeD_is {e : PyData} (h : wholeD e = true) : ∃ i, e = .int i := by
  have no : ∀ t : String, tyD e = t → (isi t "int" && !isi t "bool") = true := fun t z => by
    rw [← z]
    exact h
  cases e with
  | int i => exact ⟨i, rfl⟩
  | none => exact absurd (no "NoneType" rfl) (by decide)
  | bool b => exact absurd (no "bool" rfl) (by decide)
  | str x => exact absurd (no "str" rfl) (by decide)
  | list xs => exact absurd (no "list" rfl) (by decide)
  | tuple xs => exact absurd (no "tuple" rfl) (by decide)
  | dict kvs => exact absurd (no "dict" rfl) (by decide)
noncomputable def spWhole (K : PySem.W.Frag) : Sp := fun vs H Q _ => ∃ (x : V) (e : PyData), vs = [x] ∧ Rep K H x e ∧ Q (.bl (wholeD e)) H
section
variable {P : Program} {w : World} {K : PySem.W.Frag} {mg : Str → Option Value} {base : Heap} {f : Addr} {fd : FuncData} {ad : Ad}
theorem ok_is_whole (F : Fun K "is_whole" "is_whole" s_is_whole f fd) (c : Cs K mg ad) : FnOk P w K mg base CX0 1 f fd ["thing"] (spWhole K) := by
  refine F.ok sc_is_whole (fun vs H Q E h => ?_) (fun cdv A outer s H vs Q E hr h => ?_)
  · obtain ⟨x, e, rfl, _⟩ := h
    rfl
  obtain ⟨x, e, rfl, re, q⟩ := h
  refine ⟨_, (pss_one (ps_ret (pe_and (pe_callB (isiD_k (K := K) rfl) (by rfl) c.isinstance_ bt_isinstance (pa_cons (pv 0) (pa_cons (pe_ty c.int_ bt_int) pa_nil))) (pe_one (pe_not (pe_callB (isiD_k (K := K) rfl) (by rfl) c.isinstance_ bt_isinstance (pa_cons (pv 0) (pa_cons (pe_ty c.bool_ bt_bool) pa_nil)))))))), ?_⟩
  refine ⟨_, rfl, x, e, "int", rfl, re, by decide, _, rfl, ?_⟩
  unfold wholeD at q
  cases h1 : isi (tyD e) "int" with
  | false =>
    rw [h1] at q
    exact iteF q
  | true =>
    rw [h1] at q
    exact iteT ⟨_, rfl, x, e, "bool", rfl, re, by decide, _, rfl, q⟩
theorem ok_H_init (F : Fun K "__init__" "Heap.__init__" s_H_init f fd) (c : Cs K mg ad) : FnOk P w K mg base CX0 1 f fd ["self"] (spInit ad.Heap) := by
  refine F.ok sc_H_init (fun vs H Q E h => ?_) (fun cdv A outer s H vs Q E hr h => ?_)
  · obtain ⟨p, dx, rfl, _⟩ := h
    rfl
  obtain ⟨p, dx, rfl, hp, k⟩ := h
  refine ⟨_, (pss_cons (ps_fld (pv 0) pe_dnewK rfl)
      (pss_one (ps_fld (pv 0) pe_int rfl))), ?_⟩
  intro d hd
  have npd : p ≠ d := ne_of_none hp hd
  refine ⟨_, rfl, p, ad.Heap, dx, [], rfl, (by rw [upd_ne npd]; exact hp), c.cl, c.nK, (by show 0 < 1000; decide), _, rfl, p, ad.Heap, dx, _, rfl, upd_same, c.cl, c.nM, (by show 1 < 1000; decide), ?_⟩
  refine k d _ hd ⟨⟨dx, upd_same⟩, by rw [upd_ne npd.symm, upd_ne npd.symm, upd_same]; rfl⟩ fun b o e hb => ?_
  rw [upd_ne hb, upd_ne hb, upd_ne (ne_of_none e hd)]
  exact e
theorem ok_H_put (F : Fun K "put" "Heap.put" s_H_put f fd) (c : Cs K mg ad) : FnOk P w K mg base CX0 1 f fd ["self", "thing"] (spPut ad.Heap) := by
  refine F.ok sc_H_put (fun vs H Q E h => ?_) (fun cdv A outer s H vs Q E hr h => ?_)
  · obtain ⟨p, d, m, made, x, rfl, _⟩ := h
    rfl
  obtain ⟨p, d, m, made, x, rfl, S, ri, hl, k⟩ := h
  have hu := hu_of hr
  obtain ⟨⟨dx, h1⟩, hd⟩ := id S
  have npd := S.ne
  refine ⟨_, (pss_cons (ps_set (i := 2) sc_H_put.nd rfl (by first | exact Or.inl rfl | exact Or.inr rfl) (pe_fld (pv 0) rfl))
      (pss_cons (ps_fldaug (pv 0) pe_int in_add)
      (pss_cons (ps_dput hu (pe_fld (pv 0) rfl) (pv 2) (pv 1) rfl)
      (pss_one (ps_ret (pv 2)))))), ?_⟩
  refine ⟨_, rfl, p, ad.Heap, dx, _, _, rfl, h1, c.cl, c.nM, flds_made _ _, ?_⟩
  refine ⟨_, rfl, p, ad.Heap, dx, _, _, rfl, h1, c.cl, c.nM, flds_made _ _, _, _, rfl, rfl, dx, _, h1, (by rw [flds_eq]; show 2 < 1000; decide), ?_⟩
  rw [flds_put]
  have e1 : ((made : Nat) : Int) + 1 = ((made + 1 : Nat) : Int) := rfl
  rw [e1]
  have h2 : upd H p (.ins ad.Heap dx (flds d ((made + 1 : Nat) : Int))) p = some (.ins ad.Heap dx (flds d ((made + 1 : Nat) : Int))) := upd_same
  have hd2 : upd H p (.ins ad.Heap dx (flds d ((made + 1 : Nat) : Int))) d = some (.dK (kM m)) := by rw [upd_ne npd.symm]; exact hd
  have ko : ∀ c o, H c = some o → c ≠ p → upd H p (.ins ad.Heap dx (flds d ((made + 1 : Nat) : Int))) c = some o := fun c o e n => by rw [upd_ne n]; exact e
  generalize upd H p (.ins ad.Heap dx (flds d ((made + 1 : Nat) : Int))) = H2 at h2 hd2 ko ⊢
  refine ⟨_, rfl, _, rfl, p, ad.Heap, dx, _, _, rfl, h2, c.cl, c.nK, flds_kept _ _, _, rfl, d, _, rfl, DPut.k (k := Sum.inl ((made : Nat) : Int)) hd2 (small4 (by rw [kM_len]; exact hl)), _, rfl, ?_⟩
  rw [kM_add _ (fun z => Nat.lt_irrefl _ (ri.lt _ z))]
  refine k _ ⟨⟨dx, ?_⟩, upd_same⟩ fun c o e n1 n2 => ?_
  · rw [upd_ne npd]
    exact h2
  · rw [upd_ne n2]
    exact ko c o e n1
theorem ok_H_need_thing (F : Fun K "need_thing" "Heap.need_thing" s_H_need_thing f fd) (c : Cs K mg ad) (d_is_whole : Def P w K mg base 1 "is_whole" ["thing"] (spWhole K)) : FnOk P w K mg base (CX1 P w) 2 f fd ["self", "k"] (spNeed K ad.Heap ad.NoThing) := by
  refine F.ok1 sc_H_need_thing (fun vs H Q E h => ?_) (fun cdv A outer s H vs Q E hr h => ?_)
  · obtain ⟨p, d, m, made, y, e, rfl, _⟩ := h
    rfl
  obtain ⟨p, d, m, made, y, e, rfl, S, re, q1, q2⟩ := h
  have hu := hu_of hr
  obtain ⟨⟨dx, h1⟩, hd⟩ := id S
  refine ⟨_, (pss_one (ps_if (PW.pt (pw_or (pt_not (pt_val (pe_def d_is_whole (hr.mono (by first | decide | omega)) (pa_cons (pv 1) pa_nil)))) (pw_or1 (pt_cmp (pc_dnotin hu (pv 1) (pe_fld (pv 0) rfl)))))) (pss_one (ps_raise raises1 c.o_NoThing c.m_NoThing (pa_cons pe_str pa_nil))) pss_nil)), ?_⟩
  refine ⟨_, rfl, y, e, rfl, re, _, rfl, ?_⟩
  cases hw : wholeD e with
  | false => exact iteT ⟨(by show 1 ≤ sizeLine; decide), q2 fun ⟨i, _, z⟩ => by rw [z, wholeD_int] at hw; cases hw⟩
  | true =>
    obtain ⟨i, rfl⟩ := wholeD_is hw
    cases re
    refine iteF ⟨_, rfl, _, rfl, p, ad.Heap, dx, _, _, rfl, h1, c.cl, c.nK, flds_kept _ _, d, _, rfl, DGet.k (k := Sum.inl i) hd, _, rfl, ?_⟩
    by_cases ht : There m (.int i)
    · obtain ⟨j, hj, ej⟩ := id ht
      cases ej
      obtain ⟨v, hv, _⟩ := getM_in hj
      rw [kM_val, hv]
      exact iteF (q1 ht)
    · rw [kM_out m i fun n hn z => ht ⟨n, hn, by rw [z]⟩]
      exact iteT ⟨(by show 1 ≤ sizeLine; decide), q2 ht⟩
theorem ok_H_change (F : Fun K "change" "Heap.change" s_H_change f fd) (c : Cs K mg ad) (d_H_need_thing : MethX P w K mg base ad.Heap 2 "need_thing" ["self", "k"] (spNeed K ad.Heap ad.NoThing)) : FnOk P w K mg base (CX1 P w) 3 f fd ["self", "k", "thing"] (spChange K ad.Heap ad.NoThing) := by
  refine F.ok1 sc_H_change (fun vs H Q E h => ?_) (fun cdv A outer s H vs Q E hr h => ?_)
  · obtain ⟨p, d, m, made, y, x, e, rfl, _⟩ := h
    rfl
  obtain ⟨p, d, m, made, y, x, e, rfl, S, hl, re, q1, q2⟩ := h
  have hu := hu_of hr
  obtain ⟨⟨dx, h1⟩, hd⟩ := id S
  refine ⟨_, (pss_cons (ps_expr (pe_mX (pv 0) d_H_need_thing (hr.mono (by first | decide | omega)) pass1 (pa_cons (pv 1) pa_nil)))
      (pss_one (ps_dput hu (pe_fld (pv 0) rfl) (pv 1) (pv 2) rfl))), ?_⟩
  refine ⟨_, rfl, p, dx, _, rfl, h1, flds_no _ _ (by decide +kernel) (by decide +kernel), _, rfl, p, d, m, made, y, e, rfl, S, re, fun ⟨i, hi, ei⟩ => ?_, q2⟩
  subst ei
  cases re
  refine ⟨_, rfl, _, rfl, p, ad.Heap, dx, _, _, rfl, h1, c.cl, c.nK, flds_kept _ _, _, rfl, d, _, rfl, DPut.k (k := Sum.inl ((i : Nat) : Int)) hd (small4 (by rw [kM_len]; exact hl)), ?_⟩
  rw [kM_set _ hi]
  refine q1 i hi rfl _ ⟨⟨dx, by rw [upd_ne S.ne]; exact h1⟩, upd_same⟩ fun c o e n => ?_
  rw [upd_ne n]
  exact e
theorem ok_H_thing (F : Fun K "thing" "Heap.thing" s_H_thing f fd) (c : Cs K mg ad) (d_H_need_thing : MethX P w K mg base ad.Heap 2 "need_thing" ["self", "k"] (spNeed K ad.Heap ad.NoThing)) : FnOk P w K mg base (CX1 P w) 3 f fd ["self", "k"] (spThing K ad.Heap ad.NoThing) := by
  refine F.ok1 sc_H_thing (fun vs H Q E h => ?_) (fun cdv A outer s H vs Q E hr h => ?_)
  · obtain ⟨p, d, m, made, y, e, rfl, _⟩ := h
    rfl
  obtain ⟨p, d, m, made, y, e, rfl, S, re, q1, q2⟩ := h
  have hu := hu_of hr
  obtain ⟨⟨dx, h1⟩, hd⟩ := id S
  refine ⟨_, (pss_cons (ps_expr (pe_mX (pv 0) d_H_need_thing (hr.mono (by first | decide | omega)) pass1 (pa_cons (pv 1) pa_nil)))
      (pss_one (ps_ret (pe_dget hu (pe_fld (pv 0) rfl) (pv 1) (fun _ _ => rfl))))), ?_⟩
  refine ⟨_, rfl, p, dx, _, rfl, h1, flds_no _ _ (by decide +kernel) (by decide +kernel), _, rfl, p, d, m, made, y, e, rfl, S, re, fun ⟨i, hi, ei⟩ => ?_, q2⟩
  subst ei
  cases re
  obtain ⟨v, hv, hm⟩ := getM_in hi
  exact ⟨_, rfl, p, ad.Heap, dx, _, _, rfl, h1, c.cl, c.nK, flds_kept _ _, _, rfl, d, _, rfl, (by rw [← hv, ← kM_val]; exact DGet.k (k := Sum.inl ((i : Nat) : Int)) hd), q1 i _ rfl hv hm⟩
theorem natVs_ints (f : List Nat) : natVs f = (f.map fun n : Nat => (n : Int)).map V.int := by
  unfold natVs
  rw [List.map_map]
  rfl
theorem up_sorted {ks : List Nat} {ns : List Int} (u : ks.Pairwise (· < ·)) (p : ns.Perm (ks.map fun n : Nat => (n : Int))) (s : ns.Pairwise (· ≤ ·)) : ns.map V.int = natVs ks := by
  rw [natVs_ints]
  congr 1
  refine p.eq_of_pairwise (le := (· ≤ ·)) (fun a b _ _ h1 h2 => Int.le_antisymm h1 h2) s ?_
  rw [List.pairwise_map]
  exact u.imp fun h => by omega
theorem ok_H_numbers (F : Fun K "numbers" "Heap.numbers" s_H_numbers f fd) (c : Cs K mg ad) : FnOk P w K mg base CX0 1 f fd ["self"] (spNumbers ad.Heap) := by
  refine F.ok sc_H_numbers (fun vs H Q E h => ?_) (fun cdv A outer s H vs Q E hr h => ?_)
  · obtain ⟨p, d, m, made, rfl, _⟩ := h
    rfl
  obtain ⟨p, d, m, made, rfl, S, ri, hl, q⟩ := h
  obtain ⟨⟨dx, h1⟩, hd⟩ := id S
  refine ⟨_, (pss_one (ps_ret (pe_callB (call_sortedR rfl) (by rfl) c.sorted_ bt_sorted (pa_cons (pe_fld (pv 0) rfl) pa_nil)))), ?_⟩
  refine ⟨_, rfl, p, ad.Heap, dx, _, _, rfl, h1, c.cl, c.nK, flds_kept _ _, d, _, _, rfl, hd, kM_keys m, ?_, .inr (.inl ?_), fun ns p1 p2 l hn => ?_⟩
  · rw [List.length_map, keyM_len]
    omega
  · rw [List.pairwise_map]
    exact ri.up.imp fun h => by omega
  · rw [up_sorted ri.up p1 p2]
    exact q l hn
theorem same_free {H H' : Hp} {a : Addr} (g : Same H H') (h : H' a = none) : H a = none := by
  cases e : H a with
  | none => rfl
  | some o => rw [g _ _ e] at h; cases h
inductive VD : PyData → Option Nat → Prop
  | non : VD .none none
  | num (i : Int) : VD (.tuple [.str "number", .int i]) none
  | thg (n : Nat) : VD (.tuple [.str "thing", .int (n : Nat)]) (some n)
inductive VDs : List PyData → List (Option Nat) → Prop
  | nil : VDs [] []
  | cons {d : PyData} {o : Option Nat} {ds : List PyData} {os : List (Option Nat)} (h : VD d o) (t : VDs ds os) : VDs (d :: ds) (o :: os)
theorem VDs.length : ∀ {ds : List PyData} {os : List (Option Nat)}, VDs ds os → ds.length = os.length
  | _, _, .nil => rfl
  | _, _, .cons _ t => by rw [List.length_cons, List.length_cons, t.length]
theorem VDs.get : ∀ {ds : List PyData} {os : List (Option Nat)} {i : Nat} {d : PyData}, VDs ds os → ds[i]? = some d → ∃ o, os[i]? = some o ∧ VD d o
  | _, _, _, _, .nil, e => by simp at e
  | _, _, 0, _, .cons h _, e => by simp at e; subst e; exact ⟨_, rfl, h⟩
  | _, _, i + 1, d, .cons _ t, e => by
    obtain ⟨o, h1, h2⟩ := VDs.get (i := i) (d := d) t (by simpa using e)
    exact ⟨o, by simpa using h1, h2⟩
theorem VDs.append : ∀ {ds es : List PyData} {os ps : List (Option Nat)}, VDs ds os → VDs es ps → VDs (ds ++ es) (os ++ ps)
  | _, _, _, _, .nil, s => s
  | _, _, _, _, .cons h t, s => .cons h (t.append s)
noncomputable def natDs (ns : List Nat) : List PyData := ns.map fun n => PyData.int (n : Nat)
theorem reps_natVs {H : Hp} (ns : List Nat) : Reps K H (natVs ns) (natDs ns) := by
  have e := Reps.ints (K := K) (H := H) (ns.map fun n => ((n : Nat) : Int))
  rw [List.map_map, List.map_map] at e
  exact e
theorem reps_natDs {H : Hp} : ∀ {xs : List V} {ns : List Nat}, Reps K H xs (natDs ns) → xs = natVs ns
  | [], [], _ => rfl
  | _ :: _, [], r => by cases r
  | [], _ :: _, r => by cases r
  | _ :: _, _ :: _, r => by
    cases r with
    | cons h t =>
      cases h
      rw [reps_natDs t]
      rfl
inductive TD : PyData → List (Option Nat) → Prop
  | box {e : PyData} {o : Option Nat} (h : VD e o) : TD (.tuple [.str "box", e]) [o]
  | fn {h : Str} {i : Int} {ns : List Nat} (hh : h = "fun" ∨ h = "loop") : TD (.tuple [.str h, .int i, .tuple (natDs ns)]) (ns.map some)
  | wt {i : Int} {a : PyData} {sl : List PyData} {os : List (Option Nat)} {b1 b2 : List Nat} (ha : (∃ j, a = .int j) ∨ a = .str "open" ∨ a = .str "ended") (h : VDs sl os) : TD (.tuple [.str "waiting", .int i, a, .tuple sl, .tuple (natDs b1), .tuple (natDs b2)]) (os ++ b1.map some ++ b2.map some)
noncomputable def nmz (os : List (Option Nat)) : List Nat := os.filterMap id
theorem nmz_some (ns : List Nat) : nmz (ns.map some) = ns := by
  unfold nmz
  rw [List.filterMap_map]
  exact List.filterMap_some
theorem nmz_app (a b : List (Option Nat)) : nmz (a ++ b) = nmz a ++ nmz b := List.filterMap_append
theorem nmz_len (a : List (Option Nat)) : (nmz a).length ≤ a.length := List.length_filterMap_le _ _
theorem natVs_app (a b : List Nat) : natVs (a ++ b) = natVs a ++ natVs b := List.map_append
theorem natVs_len (a : List Nat) : (natVs a).length = a.length := List.length_map _
noncomputable def spNamed (K : PySem.W.Frag) : Sp := fun vs H Q _ => ∃ (v : Addr) (xs : List V) (es : List PyData) (os : List (Option Nat)), vs = [.ref v] ∧ (SqL K H v xs ∨ SqT K H v xs) ∧ Reps K H xs es ∧ VDs es os ∧ os.length ≤ 1000 ∧ ∀ l, H l = none → Q (.ref l) (upd H l (.lst (natVs (nmz os))))
theorem not_str {x y : Str} (h : x ≠ y) : decide (V.str x = V.str y) = false := decide_eq_false fun z => h (V.str.inj z)
theorem ok_named_by (F : Fun K "named_by" "named_by" s_named_by f fd) (c : Cs K mg ad) : FnOk P w K mg base CX0 1 f fd ["values"] (spNamed K) := by
  refine F.ok sc_named_by (fun vs H Q E h => ?_) (fun cdv A outer s H vs Q E hr h => ?_)
  · obtain ⟨v, xs, es, os, rfl, _⟩ := h
    rfl
  obtain ⟨v, xs, es, os, rfl, hq, rs, vd, hl, q⟩ := h
  refine ⟨_, (pss_one (ps_ret (pe_comp (sc := defScope s_named_by) (NX := ["values"]) (N := ["value"]) (js := [none]) (pi_k (K := K) rfl (pv 0)) (fun _ _ _ _ _ => (pg_name (i := 0) (show (["value"] : List Str).Nodup by decide +kernel) rfl (Or.inl rfl))) (fun _ _ _ _ _ => (pf_one (PW.pt (pw_and (pt_cmpR op_notN (pv 0) pe_non (nomark _)) (pw_and1 (pt_cmpR op_eq (pe_ix (ix_k (K := K) rfl) (pv 0) pe_int (fun _ _ => rfl)) pe_str (nomark _))))))) (fun _ _ _ _ _ => (pe_ix (ix_k (K := K) rfl) (pv 0) pe_int (fun _ _ => rfl))) (own_name rfl) ⟨by decide +kernel, rfl, by decide +kernel, by decide +kernel, rfl, by decide +kernel⟩))), ?_⟩
  have l1 := rs.length
  have l2 := vd.length
  have nn : ("number" : Str) ≠ "thing" := by decide +kernel
  rcases hq with hq | hq
  · refine ⟨_, rfl, .inl ⟨v, rfl, ⟨xs, hq⟩, comp_it os.length (fun i ys H' => H' = H ∧ ys = natVs (nmz (os.take i))) ⟨rfl, rfl⟩ (fun i ys H' h => ?_) (small (by omega)) (fun i ys H' hi h => ?_) (fun ys H' h => ?_)⟩⟩
    rotate_left 2
    · obtain ⟨rfl, rfl⟩ := h
      rw [List.take_length]
      exact ⟨⟨xs, hq, by omega⟩, q⟩
    all_goals obtain ⟨rfl, rfl⟩ := h
    · rw [natVs_len]
      exact Nat.le_trans (nmz_len _) (List.length_take_le _ _)
    have hx : xs[i]? = some (xs[i]'(by omega)) := List.getElem?_eq_getElem (by omega)
    refine ⟨⟨xs, _, hq, hx⟩, fun x H2 yl => ?_⟩
    obtain ⟨rfl, hv⟩ := yl
    obtain ⟨e, he, re⟩ := rs.get (hv xs hq)
    obtain ⟨o, ho, vo⟩ := vd.get he
    have et : nmz (os.take (i + 1)) = nmz (os.take i) ++ nmz [o] := by rw [List.take_add_one, ho, nmz_app]; rfl
    cases vo with
    | non =>
      cases re
      exact ⟨_, rfl, rfl, _, rfl, iteF (iteF ⟨rfl, by rw [et]; exact (congrArg natVs (List.append_nil _)).symm⟩)⟩
    | num k =>
      cases re with
      | tup hq2 rs2 =>
        cases rs2 with
        | cons r0 rs2 =>
          cases r0
          exact ⟨_, rfl, rfl, _, rfl, iteT ⟨_, rfl, .inr (.inl ⟨_, _, 0, _, rfl, rfl, hq2, atI_nat (j := 0) rfl, rfl, _, rfl, iteN (not_str nn) ⟨rfl, by rw [et]; exact (congrArg natVs (List.append_nil _)).symm⟩⟩)⟩⟩
    | thg n =>
      cases re with
      | tup hq2 rs2 =>
        cases rs2 with
        | cons r0 rs2 =>
          cases r0
          cases rs2 with
          | cons r1 rs2 =>
            cases r1
            exact ⟨_, rfl, rfl, _, rfl, iteT ⟨_, rfl, .inr (.inl ⟨_, _, 0, _, rfl, rfl, hq2, atI_nat (j := 0) rfl, rfl, _, rfl, iteP (decide_eq_true rfl) ⟨_, rfl, .inr (.inl ⟨_, _, 1, _, rfl, rfl, hq2, atI_nat (j := 1) rfl, rfl, by rw [et, natVs_app]; rfl⟩)⟩⟩)⟩⟩
  · refine ⟨_, rfl, .inr (.inl ⟨v, rfl, ⟨xs, hq⟩, comp_it os.length (fun i ys H' => H' = H ∧ ys = natVs (nmz (os.take i))) ⟨rfl, rfl⟩ (fun i ys H' h => ?_) (small (by omega)) (fun i ys H' hi h => ?_) (fun ys H' h => ?_)⟩)⟩
    rotate_left 2
    · obtain ⟨rfl, rfl⟩ := h
      rw [List.take_length]
      exact ⟨⟨xs, hq, by omega⟩, q⟩
    all_goals obtain ⟨rfl, rfl⟩ := h
    · rw [natVs_len]
      exact Nat.le_trans (nmz_len _) (List.length_take_le _ _)
    have hx : xs[i]? = some (xs[i]'(by omega)) := List.getElem?_eq_getElem (by omega)
    refine ⟨⟨xs, _, hq, hx⟩, fun x H2 yl => ?_⟩
    obtain ⟨rfl, hv⟩ := yl
    obtain ⟨e, he, re⟩ := rs.get (hv xs hq)
    obtain ⟨o, ho, vo⟩ := vd.get he
    have et : nmz (os.take (i + 1)) = nmz (os.take i) ++ nmz [o] := by rw [List.take_add_one, ho, nmz_app]; rfl
    cases vo with
    | non =>
      cases re
      exact ⟨_, rfl, rfl, _, rfl, iteF (iteF ⟨rfl, by rw [et]; exact (congrArg natVs (List.append_nil _)).symm⟩)⟩
    | num k =>
      cases re with
      | tup hq2 rs2 =>
        cases rs2 with
        | cons r0 rs2 =>
          cases r0
          exact ⟨_, rfl, rfl, _, rfl, iteT ⟨_, rfl, .inr (.inl ⟨_, _, 0, _, rfl, rfl, hq2, atI_nat (j := 0) rfl, rfl, _, rfl, iteN (not_str nn) ⟨rfl, by rw [et]; exact (congrArg natVs (List.append_nil _)).symm⟩⟩)⟩⟩
    | thg n =>
      cases re with
      | tup hq2 rs2 =>
        cases rs2 with
        | cons r0 rs2 =>
          cases r0
          cases rs2 with
          | cons r1 rs2 =>
            cases r1
            exact ⟨_, rfl, rfl, _, rfl, iteT ⟨_, rfl, .inr (.inl ⟨_, _, 0, _, rfl, rfl, hq2, atI_nat (j := 0) rfl, rfl, _, rfl, iteP (decide_eq_true rfl) ⟨_, rfl, .inr (.inl ⟨_, _, 1, _, rfl, rfl, hq2, atI_nat (j := 1) rfl, rfl, by rw [et, natVs_app]; rfl⟩)⟩⟩)⟩⟩
end
end Mine

namespace L2
open PySem
theorem for_it {J : It} {g : TG} {tb : TS} {D : Ends} {σ : St} {H : Hp} (n : Nat) (Pv : Nat → St → Hp → Prop) (h0 : Pv 0 σ H)
    (hs : ∀ i σ H, i < n → Pv i σ H → J.go i H ∧ ∀ x H', J.yld i H x H' → g x σ H' fun σ2 H2 => tb { D with nx := Pv (i + 1), ct := Pv (i + 1), bk := D.nx } σ2 H2) (hd : ∀ σ H, Pv n σ H → J.stop n H ∧ D.nx σ H) :
    ∃ W : Nat → Nat → St → Hp → Prop, (∃ m, W 0 m σ H) ∧ ∀ i m σ H, W i m σ H →
      (J.stop i H ∧ D.nx σ H) ∨ (J.go i H ∧ ∃ N : St → Hp → Prop, (∀ σ' H', N σ' H' → ∃ m', m' < m ∧ W (i + 1) m' σ' H') ∧ ∀ x H', J.yld i H x H' → g x σ H' fun σ2 H2 => tb { D with nx := N, ct := N, bk := D.nx } σ2 H2) := by
  refine ⟨fun i m σ H => m = n - i ∧ i ≤ n ∧ Pv i σ H, ⟨n, by simp, Nat.zero_le _, h0⟩, fun i m σ H h => ?_⟩
  obtain ⟨rfl, hi, p⟩ := h
  by_cases lt : i < n
  · obtain ⟨a, b⟩ := hs i σ H lt p
    exact .inr ⟨a, Pv (i + 1), fun σ' H' p' => ⟨n - (i + 1), by omega, rfl, lt, p'⟩, b⟩
  · obtain rfl : i = n := by omega
    exact .inl (hd σ H p)
theorem join_seq {s r : TS} {D : Ends} {σ : St} {H : Hp} (M : St → Hp → Prop) (h1 : ∀ R : St → Hp → Prop, (∀ σ' H', M σ' H' → R σ' H') → s { D with nx := R } σ H) (h2 : ∀ σ' H', M σ' H' → r D σ' H') : tSeq s r D σ H := h1 _ h2
end L2
namespace Mine
open PySem L2 Grf
inductive Sm : Nat → PyData → Prop
  | non {n : Nat} : Sm (n + 1) .none
  | int {n : Nat} (i : Int) : Sm (n + 1) (.int i)
  | str {n : Nat} (x : Str) : Sm (n + 1) (.str x)
  | tup {n : Nat} {ds : List PyData} (h : ∀ e ∈ ds, Sm n e) (hl : ds.length ≤ 1000) : Sm (n + 1) (.tuple ds)
theorem Sm.up {n : Nat} {d : PyData} (s : Sm n d) : Sm (n + 1) d := by
  induction s with
  | non => exact .non
  | int i => exact .int i
  | str x => exact .str x
  | tup h hl ih => exact .tup ih hl
theorem sm_nil {n : Nat} : ∀ e ∈ ([] : List PyData), Sm n e := fun _ h => by cases h
theorem sm_cons {n : Nat} {d : PyData} {ds : List PyData} (h : Sm n d) (t : ∀ e ∈ ds, Sm n e) : ∀ e ∈ d :: ds, Sm n e := fun e he => by
  rcases List.mem_cons.mp he with rfl | he
  · exact h
  · exact t e he
noncomputable def Tups (K : PySem.W.Frag) (H H' : Hp) : Prop := ∀ b xs, SqT K H b xs → SqT K H' b xs
theorem Tups.of {K : PySem.W.Frag} {H H' : Hp} (g : Same H H') : Tups K H H' := fun _ _ h => g.sqT h
noncomputable def Wr (o : HO) : Prop := (∀ xs, o ≠ .tup xs) ∧ ∀ ob u, o ≠ .frz ob u
theorem wr_lst (xs : List V) : Wr (.lst xs) := ⟨fun _ z => (by cases z), fun _ _ z => (by cases z)⟩
theorem wr_dK (kvs : List (Key × V)) : Wr (.dK kvs) := ⟨fun _ z => (by cases z), fun _ _ z => (by cases z)⟩
theorem wr_ins (C dx : Addr) (fs : List (Str × V)) : Wr (.ins C dx fs) := ⟨fun _ z => (by cases z), fun _ _ z => (by cases z)⟩
theorem Tups.but {K : PySem.W.Frag} {H H' : Hp} (ban : List Addr) (hb : ∀ b ∈ ban, ∃ o, H b = some o ∧ Wr o) (k : ∀ b o, b ∉ ban → H b = some o → H' b = some o) : Tups K H H' := fun b xs h => by
  have nb : ∀ o, H b = some o → (∃ ys, o = .tup ys) ∨ (∃ ob u, o = .frz ob u) → H' b = some o := fun o e z => by
    refine k b o (fun hm => ?_) e
    obtain ⟨o', e', w1, w2⟩ := hb b hm
    rw [e] at e'
    cases e'
    rcases z with ⟨ys, z⟩ | ⟨ob, u, z⟩
    · exact w1 ys z
    · exact w2 ob u z
  rcases h with (h | ⟨ob, h⟩) | h
  · exact .inl (.inl (nb _ h (.inl ⟨_, rfl⟩)))
  · exact .inl (.inr ⟨ob, nb _ h (.inr ⟨_, _, rfl⟩)⟩)
  · exact .inr h
section
variable {K : PySem.W.Frag} {H H' : Hp}
mutual
theorem rep_sm (g : Tups K H H') : ∀ {x : V} {d : PyData} {n : Nat}, Rep K H x d → Sm n d → Rep K H' x d
  | _, _, _, .non, _ => .non
  | _, _, _, .bl b, _ => .bl b
  | _, _, _, .int i, _ => .int i
  | _, _, _, .str x, _ => .str x
  | _, _, _, .lst h r, s => by cases s
  | _, _, _, .tup h r, s => by
    cases s with
    | tup hs hl => exact .tup (g _ _ h) (reps_sm g r hs)
theorem reps_sm (g : Tups K H H') : ∀ {xs : List V} {ds : List PyData} {n : Nat}, Reps K H xs ds → (∀ e ∈ ds, Sm n e) → Reps K H' xs ds
  | _, _, _, .nil, _ => .nil
  | _, _, _, .cons h t, s => .cons (rep_sm g h (s _ List.mem_cons_self)) (reps_sm g t fun e he => s e (List.mem_cons_of_mem _ he))
end
end
section
variable {P : Program} {w : World} {K : PySem.W.Frag} {mg : Str → Option Value} {base : Heap} {f : Addr} {fd : FuncData} {ad : Ad}
noncomputable def spCell (K : PySem.W.Frag) : Sp := fun vs H Q _ => ∃ (a : Addr) (ns : List Int) (k : Int), vs = [.ref a, .int k] ∧ SqL K H a (ns.map V.int) ∧ 0 ≤ k ∧ ∀ i, Q (.int i) H
theorem ok_law_draw (F : Fun K "_law_draw" "_law_draw" s_law_draw f fd) (c : Cs K mg ad) : FnOk P w K mg base CX0 1 f fd ["_law_script", "_law_k"] (spCell K) := by
  refine F.ok sc_law_draw (fun vs H Q E h => ?_) (fun cdv A outer s H vs Q E hr h => ?_)
  · obtain ⟨a, ns, k, rfl, _⟩ := h
    rfl
  obtain ⟨a, ns, k, rfl, hS, hk, q⟩ := h
  refine ⟨_, (pss_one (ps_ret (pe_ifExp (pt_cmpR op_gt (pe_callB (len_k (K := K) rfl) (by rfl) c.len_ bt_len (pa_cons (pv 0) pa_nil)) (pv 1) (nomark _)) (pe_ix (ix_k (K := K) rfl) (pv 0) (pv 1) (fun _ _ => rfl)) pe_int))), ?_⟩
  refine ⟨_, rfl, _, _, rfl, .inl ⟨_, hS, rfl⟩, _, rfl, _, _, rfl, rfl, _, rfl, ?_⟩
  refine ite2 (fun c1 => ?_) (fun c1 => ?_)
  · have c1' : k < (((ns.map V.int).length : Nat) : Int) := of_decide_eq_true c1
    rw [List.length_map] at c1'
    have hk2 : k.toNat < ns.length := by omega
    have ek : k = ((k.toNat : Nat) : Int) := by omega
    have hv : atI (ns.map V.int) ((k.toNat : Nat) : Int) = some (.int ns[k.toNat]) := atI_nat (by rw [List.getElem?_map, List.getElem?_eq_getElem hk2] <;> rfl)
    rw [← ek] at hv
    exact ⟨_, rfl, _, rfl, .inl ⟨_, _, _, _, rfl, rfl, hS, hv, q _⟩⟩
  · exact q 0
noncomputable def spSpread : Sp := fun vs H Q _ => ∃ a k : Int, vs = [.int a, .int k] ∧ 0 ≤ k ∧ k ≤ 100 ∧ ∀ i : Int, 0 ≤ i → i < 2147483647 → Q (.int i) H
theorem ok_law_spread (F : Fun K "_law_spread" "_law_spread" s_law_spread f fd) (c : Cs K mg ad) : FnOk P w K mg base CX0 1 f fd ["_law_cell", "_law_k"] spSpread := by
  refine F.ok sc_law_spread (fun vs H Q E h => ?_) (fun cdv A outer s H vs Q E hr h => ?_)
  · obtain ⟨a, k, rfl, _⟩ := h
    rfl
  obtain ⟨a, k, rfl, h0, h1, q⟩ := h
  have hkk : k * k ≤ 10000 := by
    have := Int.mul_le_mul h1 h1 h0 (by omega)
    omega
  have hk0 : 0 ≤ k * k := Int.mul_nonneg h0 h0
  have e2 : 2 * k * k = 2 * (k * k) := Int.mul_assoc 2 k k
  refine ⟨_, (pss_one (ps_ret (pe_op op_mod (pe_op op_mul (pe_op op_plus (pv 0) pe_int) (pe_op op_plus pe_int (pe_op op_mul (pe_op op_mul pe_int (pv 1)) (pv 1)))) pe_int))), ?_⟩
  refine ⟨_, rfl, .inl ⟨_, _, rfl, rfl, _, rfl, _, _, rfl, rfl, .inr ⟨by omega, by omega⟩, _, rfl, _, _, rfl, rfl, .inr ⟨by omega, by omega⟩, .inl ⟨_, _, rfl, rfl, _, _, rfl, rfl, .inr ⟨by omega, by omega⟩, _, _, rfl, rfl, (show (0 : Int) < 2147483647 by decide), ?_⟩⟩⟩
  exact q _ (Int.emod_nonneg _ (by decide)) (Int.emod_lt_of_pos _ (by decide))
theorem short {ds : List PyData} (h : Nat.ble ds.length 1000 = true) : ds.length ≤ 1000 := Nat.le_of_ble_eq_true h
theorem sm_nats {n : Nat} (ns : List Nat) : ∀ e ∈ natDs ns, Sm (n + 1) e := fun e he => by
  obtain ⟨i, _, rfl⟩ := List.mem_map.mp he
  exact .int _
theorem VD.sm {d : PyData} {o : Option Nat} (v : VD d o) : Sm 2 d := by
  cases v with
  | non => exact .non
  | num i => exact .tup (sm_cons (.str _) (sm_cons (.int _) sm_nil)) (short rfl)
  | thg n => exact .tup (sm_cons (.str _) (sm_cons (.int _) sm_nil)) (short rfl)
theorem VDs.sm : ∀ {ds : List PyData} {os : List (Option Nat)}, VDs ds os → ∀ e ∈ ds, Sm 2 e
  | _, _, .nil => sm_nil
  | _, _, .cons h t => sm_cons h.sm t.sm
theorem TD.sm {d : PyData} {os : List (Option Nat)} (t : TD d os) (hl : os.length ≤ 1000) : Sm 4 d := by
  cases t with
  | box h => exact .tup (sm_cons (.str _) (sm_cons h.sm.up sm_nil)) (short rfl)
  | fn hh =>
    rw [List.length_map] at hl
    exact .tup (sm_cons (.str _) (sm_cons (.int _) (sm_cons (.tup (sm_nats _) (by rw [natDs, List.length_map]; exact hl)) sm_nil))) (short rfl)
  | wt ha h =>
    rw [List.length_append, List.length_append, List.length_map, List.length_map] at hl
    have e := h.length
    refine .tup (sm_cons (.str _) (sm_cons (.int _) (sm_cons ?_ (sm_cons (.tup h.sm (by omega)) (sm_cons (.tup (sm_nats _) (by rw [natDs, List.length_map]; omega)) (sm_cons (.tup (sm_nats _) (by rw [natDs, List.length_map]; omega)) sm_nil)))))) (short rfl)
    rcases ha with ⟨j, rfl⟩ | rfl | rfl
    · exact .int _
    · exact .str _
    · exact .str _
theorem cut1 (y : V) (ys : List V) : cutV (y :: ys) (some 1) none = ys := by
  unfold cutV
  have e : HT.sIx (y :: ys).length 0 (some 1) = 1 := by
    show HT.sIx (y :: ys).length 0 (some ((1 : Nat) : Int)) = 1
    rw [HT.sIx_nat]
    simp
  rw [e, HT.sIx_none]
  simp
theorem cut1_ok (y : V) (ys : List V) : ¬ (HT.sIx (y :: ys).length 0 (some 1) = 0 ∧ HT.sIx (y :: ys).length (y :: ys).length none = (y :: ys).length) := by
  have e : HT.sIx (y :: ys).length 0 (some 1) = 1 := by
    show HT.sIx (y :: ys).length 0 (some ((1 : Nat) : Int)) = 1
    rw [HT.sIx_nat]
    simp
  rw [e]
  omega
noncomputable def spNamedIn (K : PySem.W.Frag) : Sp := fun vs H Q _ => ∃ (x : V) (d : PyData) (os : List (Option Nat)), vs = [x] ∧ Rep K H x d ∧ TD d os ∧ os.length ≤ 500 ∧ ∀ H' l, Same H H' → H l = none → H' l = some (.lst (natVs (nmz os))) → Q (.ref l) H'
theorem ok_named_in (F : Fun K "named_in" "named_in" s_named_in f fd) (c : Cs K mg ad) (d_named_by : Def P w K mg base 1 "named_by" ["values"] (spNamed K)) : FnOk P w K mg base CX0 2 f fd ["thing"] (spNamedIn K) := by
  refine F.ok sc_named_in (fun vs H Q E h => ?_) (fun cdv A outer s H vs Q E hr h => ?_)
  · obtain ⟨x, d, os, rfl, _⟩ := h
    rfl
  obtain ⟨x, d, os, rfl, rx, td, hl, q⟩ := h
  refine ⟨_, (pss_cons (ps_set (i := 1) sc_named_in.nd rfl (by first | exact Or.inl rfl | exact Or.inr rfl) (pe_ix (ix_k (K := K) rfl) (pv 0) pe_int (fun _ _ => rfl)))
      (pss_cons (ps_if (pt_cmpR op_eq (pv 1) pe_str (nomark _)) (pss_one (ps_ret (pe_def d_named_by (hr.mono (by first | decide | omega)) (pa_cons (pe_slice (sl_k (K := K) rfl) (pv 0) (po_some pe_int) po_none) pa_nil)))) pss_nil)
      (pss_cons (ps_if (pt_cmpR op_eq (pv 1) pe_str (nomark _)) (pss_one (ps_ret (pe_op op_plus (pe_op op_plus (pe_def d_named_by (hr.mono (by first | decide | omega)) (pa_cons (pe_ix (ix_k (K := K) rfl) (pv 0) pe_int (fun _ _ => rfl)) pa_nil)) (pe_callTy call_list_of (by rfl) c.list_ bt_list (pa_cons (pe_ix (ix_k (K := K) rfl) (pv 0) pe_int (fun _ _ => rfl)) pa_nil))) (pe_callTy call_list_of (by rfl) c.list_ bt_list (pa_cons (pe_ix (ix_k (K := K) rfl) (pv 0) pe_int (fun _ _ => rfl)) pa_nil))))) pss_nil)
      (pss_one (ps_ret (pe_callTy call_list_of (by rfl) c.list_ bt_list (pa_cons (pe_ix (ix_k (K := K) rfl) (pv 0) pe_int (fun _ _ => rfl)) pa_nil))))))), ?_⟩
  cases td with
  | @box e o vo =>
    cases rx with
    | @tup a xs _ hq rs =>
      cases rs with
      | @cons y0 _ _ _ r0 rs =>
        cases r0
        cases rs with
        | @cons y1 _ _ _ r1 rs =>
          cases rs
          refine ⟨_, rfl, .inr (.inl ⟨a, _, 0, _, rfl, rfl, hq, atI_nat (j := 0) rfl, _, rfl, rfl, _, rfl, iteP (decide_eq_true rfl) ?_⟩)⟩
          refine ⟨_, rfl, _, rfl, .inr (.inr ⟨a, _, rfl, hq, cut1_ok _ _, fun p hp => ?_⟩)⟩
          rw [cut1]
          have g := same_new hp (.tup [y1])
          refine ⟨p, [y1], [e], [o], rfl, .inr (SqT.of upd_same), .cons (r1.same g) .nil, .cons vo .nil, (by decide : 1 ≤ 1000), fun l hn => ?_⟩
          exact q _ l (g.trans (same_new hn _)) (same_free g hn) upd_same
  | @fn h i ns hh =>
    have h1 : h ≠ "box" := by rcases hh with rfl | rfl <;> decide +kernel
    have h2 : h ≠ "waiting" := by rcases hh with rfl | rfl <;> decide +kernel
    cases rx with
    | @tup a xs _ hq rs =>
      cases rs with
      | @cons y0 _ _ _ r0 rs =>
        cases r0
        cases rs with
        | @cons y1 _ _ _ r1 rs =>
          cases r1
          cases rs with
          | @cons y2 _ _ _ r2 rs =>
            cases rs
            cases r2 with
            | @tup b ys _ hq2 rs2 =>
              cases reps_natDs rs2
              refine ⟨_, rfl, .inr (.inl ⟨a, _, 0, _, rfl, rfl, hq, atI_nat (j := 0) rfl, _, rfl, rfl, _, rfl, iteN (not_str h1) ⟨_, rfl, rfl, _, rfl, iteN (not_str h2) ?_⟩⟩)⟩
              refine ⟨_, rfl, .inr (.inl ⟨a, _, 2, _, rfl, rfl, hq, atI_nat (j := 2) rfl, b, _, rfl, .inr hq2, fun l hn => ?_⟩)⟩
              refine q _ l (same_new hn _) hn ?_
              rw [nmz_some]
              exact upd_same
  | @wt i aa sl os b1 b2 ha vds =>
    cases rx with
    | @tup a xs _ hq rs =>
      cases rs with
      | @cons y0 _ _ _ r0 rs =>
        cases r0
        cases rs with
        | @cons y1 _ _ _ r1 rs =>
          cases rs with
          | @cons y2 _ _ _ r2 rs =>
            cases rs with
            | @cons y3 _ _ _ r3 rs =>
              cases r3 with
              | @tup a3 x3 _ hq3 rs3 =>
                cases rs with
                | @cons y4 _ _ _ r4 rs =>
                  cases r4 with
                  | @tup a4 x4 _ hq4 rs4 =>
                    cases reps_natDs rs4
                    cases rs with
                    | @cons y5 _ _ _ r5 rs =>
                      cases r5 with
                      | @tup a5 x5 _ hq5 rs5 =>
                        cases reps_natDs rs5
                        cases rs
                        have wb : ("waiting" : Str) ≠ "box" := by decide +kernel
                        rw [List.length_append, List.length_append, List.length_map, List.length_map] at hl
                        refine ⟨_, rfl, .inr (.inl ⟨a, _, 0, _, rfl, rfl, hq, atI_nat (j := 0) rfl, _, rfl, rfl, _, rfl, iteN (not_str wb) ⟨_, rfl, rfl, _, rfl, iteP (decide_eq_true rfl) ?_⟩⟩)⟩
                        refine ⟨_, rfl, .inr (.inl ⟨a, _, 3, _, rfl, rfl, hq, atI_nat (j := 3) rfl, a3, x3, sl, os, rfl, .inr hq3, rs3, vds, by omega, fun l1 n1 => ?_⟩)⟩
                        have g1 := same_new n1 (.lst (natVs (nmz os)))
                        have t1 : upd H l1 (.lst (natVs (nmz os))) l1 = some (.lst (natVs (nmz os))) := upd_same
                        generalize upd H l1 (.lst (natVs (nmz os))) = H1 at g1 t1 ⊢
                        refine ⟨_, rfl, .inr (.inl ⟨a, _, 4, _, rfl, rfl, g1.sqT hq, atI_nat (j := 4) rfl, a4, _, rfl, .inr (g1.sqT hq4), fun l2 n2 => ?_⟩)⟩
                        have g2 := same_new n2 (.lst (natVs b1))
                        have t2 : upd H1 l2 (.lst (natVs b1)) l2 = some (.lst (natVs b1)) := upd_same
                        generalize upd H1 l2 (.lst (natVs b1)) = H2 at g2 t2 ⊢
                        have big : (1000 : Nat) ≤ sizeLine := by decide
                        have zl := nmz_len os
                        refine .inr (.inr ⟨l1, l2, _, _, rfl, rfl, g2 _ _ t1, t2, by rw [natVs_len, natVs_len]; omega, fun l3 n3 => ?_⟩)
                        have g3 := same_new n3 (.lst (natVs (nmz os) ++ natVs b1))
                        have t3 : upd H2 l3 (.lst (natVs (nmz os) ++ natVs b1)) l3 = some (.lst (natVs (nmz os) ++ natVs b1)) := upd_same
                        generalize upd H2 l3 (.lst (natVs (nmz os) ++ natVs b1)) = H3 at g3 t3 ⊢
                        have g13 := (g1.trans g2).trans g3
                        refine ⟨_, rfl, .inr (.inl ⟨a, _, 5, _, rfl, rfl, g13.sqT hq, atI_nat (j := 5) rfl, a5, _, rfl, .inr (g13.sqT hq5), fun l4 n4 => ?_⟩)⟩
                        have g4 := same_new n4 (.lst (natVs b2))
                        refine .inr (.inr ⟨l3, l4, _, _, rfl, rfl, g4 _ _ t3, upd_same, by rw [List.length_append, natVs_len, natVs_len, natVs_len]; omega, fun l5 n5 => ?_⟩)
                        have g14 := g13.trans g4
                        refine q _ l5 (g14.trans (same_new n5 _)) (same_free g14 n5) ?_
                        rw [nmz_app, nmz_app, nmz_some, nmz_some, natVs_app, natVs_app]
                        exact upd_same
theorem mem_nmz {os : List (Option Nat)} {m : Nat} : m ∈ nmz os ↔ some m ∈ os := by
  unfold nmz
  rw [List.mem_filterMap]
  exact ⟨fun ⟨a, h1, h2⟩ => by cases h2; exact h1, fun h => ⟨_, h, rfl⟩⟩
noncomputable def GM (K : PySem.W.Frag) (H : Hp) (m : Mp) (nm : Nat → List (Option Nat)) : Prop := ∀ q ∈ m, ∃ e, Rep K H q.2 e ∧ TD e (nm q.1) ∧ (nm q.1).length ≤ 100 ∧ ∀ k, some k ∈ nm q.1 → k ∈ keyM m
theorem GM.tups {H H' : Hp} {m : Mp} {nm : Nat → List (Option Nat)} (x : GM K H m nm) (tu : Tups K H H') : GM K H' m nm := fun q hq => by
  obtain ⟨e, r, t, l, b⟩ := x q hq
  exact ⟨e, rep_sm tu r (t.sm (Nat.le_trans l (by decide))), t, l, b⟩
theorem GM.same {H H' : Hp} {m : Mp} {nm : Nat → List (Option Nat)} (x : GM K H m nm) (g : Same H H') : GM K H' m nm := x.tups (Tups.of g)
noncomputable def adjM (nm : Nat → List (Option Nat)) : Nat → List Nat := fun n => nmz (nm n)
noncomputable def keysD (f : List Nat) : List (Key × V) := f.map fun n => ((Sum.inl ((n : Nat) : Int) : Key), V.bl true)
theorem keysD_has : ∀ {f : List Nat} {n : Nat}, n ∈ f → valV (keysD f) (Sum.inl ((n : Nat) : Int)) = some (.bl true)
  | [], n, h => by cases h
  | m :: r, n, h => by
    by_cases e : m = n
    · subst e; exact valV_pos rfl
    · refine (valV_neg (fun z => e (by have := Sum.inl.inj z; omega))).trans (keysD_has ?_)
      rcases List.mem_cons.mp h with z | z
      · exact absurd z.symm e
      · exact z
theorem keysD_not : ∀ {f : List Nat} {n : Nat}, n ∉ f → valV (keysD f) (Sum.inl ((n : Nat) : Int)) = none
  | [], n, h => rfl
  | m :: r, n, h => by
    refine (valV_neg (fun z => h ?_)).trans (keysD_not fun z => h (List.mem_cons_of_mem _ z))
    have : m = n := by have := Sum.inl.inj z; omega
    rw [this]
    exact List.mem_cons_self
theorem keysD_put {f : List Nat} {n : Nat} (h : n ∉ f) : putK (keysD f) (Sum.inl ((n : Nat) : Int)) (.bl true) = keysD (f ++ [n]) := by
  rw [putK_new _ (keysD_not h)]
  unfold keysD
  rw [List.map_append]
  rfl
theorem keysD_len (f : List Nat) : (keysD f).length = f.length := List.length_map _
structure Walk (adj : Nat → List Nat) (J : List Nat → List Nat → Prop) : Prop where
  old : ∀ f a n, J f (a ++ [n]) → n ∈ f → J f a
  new : ∀ f a n, J f (a ++ [n]) → n ∉ f → J (f ++ [n]) (a ++ adj n)
noncomputable def spFound (K : PySem.W.Frag) (C : Addr) : Sp := fun vs H Q _ => ∃ (p d v : Addr) (m : Mp) (made : Nat) (nm : Nat → List (Option Nat)) (xs : List V) (es : List PyData) (os : List (Option Nat)) (J : List Nat → List Nat → Prop), vs = [.ref p, .ref v] ∧ HeapAt C H p d m made ∧ Ris m made ∧ GM K H m nm ∧
  made ≤ 5000 ∧ H v = some (.lst xs) ∧ Reps K H xs es ∧ VDs es os ∧ os.length ≤ 500 ∧ (∀ k, some k ∈ os → k ∈ keyM m) ∧ J [] (nmz os) ∧ Walk (adjM nm) J ∧
  ∀ f H' l, J f [] → f.Nodup → (∀ x ∈ f, x ∈ keyM m) → Same H H' → H l = none → H' l = some (.dK (keysD f)) → Q (.ref l) H'
noncomputable def FoundW (H : Hp) (p v fa al : Addr) (N : Nat) (m : Mp) (J : List Nat → List Nat → Prop) (n : Nat) (σ : St) (Hc : Hp) : Prop := ∃ (f a : List Nat) (o4 : Option V), σ = [some (.ref p), some (.ref v), some (.ref fa), some (.ref al), o4] ∧ Same H Hc ∧ Hc fa = some (.dK (keysD f)) ∧ Hc al = some (.lst (natVs a)) ∧ J f a ∧ f.Nodup ∧ (∀ x ∈ f, x ∈ keyM m) ∧ (∀ x ∈ a, x ∈ keyM m) ∧
  n = (N - f.length) * 200 + a.length ∧ a.length ≤ 500 + 100 * f.length
theorem ok_H_found_from (F : Fun K "found_from" "Heap.found_from" s_H_found_from f fd) (c : Cs K mg ad) (d_named_by : Def P w K mg base 1 "named_by" ["values"] (spNamed K)) (d_named_in : Def P w K mg base 2 "named_in" ["thing"] (spNamedIn K))
    (d_H_thing : MethX P w K mg base ad.Heap 3 "thing" ["self", "k"] (spThing K ad.Heap ad.NoThing)) : FnOk P w K mg base CX0 4 f fd ["self", "values"] (spFound K ad.Heap) := by
  refine F.ok sc_H_found_from (fun vs H Q E h => ?_) (fun cdv A outer s H vs Q E hr h => ?_)
  · obtain ⟨p, d, v, m, made, nm, xs, es, os, J, rfl, _⟩ := h
    rfl
  obtain ⟨p, d, v, m, made, nm, xs, es, os, J, rfl, S, ri, gm, hn, hv, re, vd, ho, hb, j0, wk, q⟩ := h
  have hu := hu_of hr
  refine ⟨_, (pss_cons (ps_set (i := 2) sc_H_found_from.nd rfl (by first | exact Or.inl rfl | exact Or.inr rfl) pe_dnewK)
      (pss_cons (ps_set (i := 3) sc_H_found_from.nd rfl (by first | exact Or.inl rfl | exact Or.inr rfl) (pe_def d_named_by (hr.mono (by first | decide | omega)) (pa_cons (pv 1) pa_nil)))
      (pss_cons (ps_while PassesOwn.never (pt_k (K := K) rfl (pv 3)) (pss_cons (ps_set (i := 4) sc_H_found_from.nd rfl (by first | exact Or.inl rfl | exact Or.inr rfl) (bm0_k (K := K) rfl PySem.F.plainAttrs_list PySem.F.slot_list_pop PySem.F.type_list_pop mt_pop (pv 3)))
      (pss_one (ps_if (pt_cmp (pc_dnotin hu (pv 4) (pv 2))) (pss_cons (ps_dput hu (pv 2) (pv 4) pe_bl rfl)
      (pss_one (ps_expr (bm_k (K := K) rfl PySem.F.plainAttrs_list PySem.F.slot_list_extend PySem.F.type_list_extend mt_extend (pv 3) (pa_cons (pe_def d_named_in (hr.mono (by first | decide | omega)) (pa_cons (pe_mX (pv 0) d_H_thing (hr.mono (by first | decide | omega)) passN (pa_cons (pv 4) pa_nil)) pa_nil)) pa_nil))))) pss_nil))))
      (pss_one (ps_ret (pv 2)))))), ?_⟩
  intro fa hfa
  have ga := same_new hfa (.dK [])
  have ta : upd H fa (.dK []) fa = some (.dK []) := upd_same
  generalize upd H fa (.dK []) = H1 at ga ta ⊢
  refine ⟨_, rfl, v, xs, es, os, rfl, .inl (SqL.of (ga _ _ hv)), re.same ga, vd, by omega, fun al hal => ?_⟩
  have gb := same_new hal (.lst (natVs (nmz os)))
  have tb : upd H1 al (.lst (natVs (nmz os))) al = some (.lst (natVs (nmz os))) := upd_same
  have nal : al ≠ fa := (ne_of_none ta hal).symm
  have al0 := same_free ga hal
  generalize upd H1 al (.lst (natVs (nmz os))) = H2 at gb tb ⊢
  have big : (600000 : Nat) ≤ sizeLine := by decide
  refine ⟨FoundW H p v fa al made m J, ⟨_, [], nmz os, none, rfl, ga.trans gb, gb _ _ ta, tb, j0, List.nodup_nil, fun _ h => (by cases h), fun x hx => hb x (mem_nmz.mp hx), rfl, by have := nmz_len os; omega⟩, fun n0 σ Hc hW => ?_⟩
  obtain ⟨f, a, o4, rfl, g, tf, tl, hj, nd, lf, la, rfl, hal2⟩ := hW
  have fl := nodup_len made f nd fun x hx => ri.lt x (lf x hx)
  refine ⟨_, rfl, _, .inl ⟨_, SqL.of tl, rfl⟩, ?_⟩
  rcases (show a = [] ∨ ∃ a' n, a = a' ++ [n] from (List.eq_nil_or_concat a).imp id fun ⟨L, b, e⟩ => ⟨L, b, by rw [e, List.concat_eq_append]⟩) with rfl | ⟨a', n, rfl⟩
  · exact iteF ⟨_, rfl, q f Hc fa hj nd lf g hfa tf⟩
  rw [List.length_append, List.length_singleton] at hal2
  have hnN : n ∈ keyM m := la n (by simp)
  have ev : natVs (a' ++ [n]) = natVs a' ++ [.int (n : Nat)] := natVs_app a' [n]
  have ne' : (!(natVs (a' ++ [n])).isEmpty) = true := by rw [ev]; simp
  refine iteP ne' ⟨fun σ' H' => ∃ m', m' < _ ∧ FoundW H p v fa al made m J m' σ' H', fun _ _ h => h, ?_⟩
  rw [ev] at tl
  refine ⟨_, rfl, .inl ⟨rfl, _, SqL.of tl⟩, al, _, .int (n : Nat), rfl, rfl, tl, by simp, ?_⟩
  rw [List.dropLast_concat]
  have g3 : Same H (upd Hc al (.lst (natVs a'))) := fun b o e => by rw [upd_ne (ne_of_none e al0)]; exact g b o e
  have tf3 : upd Hc al (.lst (natVs a')) fa = some (.dK (keysD f)) := by rw [upd_ne nal.symm]; exact tf
  have tl3 : upd Hc al (.lst (natVs a')) al = some (.lst (natVs a')) := upd_same
  generalize upd Hc al (.lst (natVs a')) = H3 at g3 tf3 tl3 ⊢
  refine ⟨_, rfl, _, rfl, fa, _, rfl, DGet.k (k := Sum.inl ((n : Nat) : Int)) tf3, _, rfl, ?_⟩
  by_cases hm : n ∈ f
  · rw [keysD_has hm]
    refine iteF ⟨_, ?_, f, a', _, rfl, g3, tf3, tl3, wk.old f a' n hj hm, nd, lf, fun x hx => la x (by simp [hx]), rfl, by omega⟩
    rw [List.length_append, List.length_singleton]
    omega
  rw [keysD_not hm]
  refine iteT ⟨_, rfl, _, rfl, fa, _, rfl, DPut.k (k := Sum.inl ((n : Nat) : Int)) tf3 (by rw [keysD_len]; omega), ?_⟩
  rw [keysD_put hm]
  have g4 : Same H (upd H3 fa (.dK (keysD (f ++ [n])))) := fun b o e => by rw [upd_ne (ne_of_none e hfa)]; exact g3 b o e
  have tf4 : upd H3 fa (.dK (keysD (f ++ [n]))) fa = some (.dK (keysD (f ++ [n]))) := upd_same
  have tl4 : upd H3 fa (.dK (keysD (f ++ [n]))) al = some (.lst (natVs a')) := by rw [upd_ne nal]; exact tl3
  generalize upd H3 fa (.dK (keysD (f ++ [n]))) = H4 at g4 tf4 tl4 ⊢
  obtain ⟨⟨dx, h1⟩, _⟩ := id S
  refine ⟨_, rfl, .inl ⟨rfl, _, SqL.of tl4⟩, _, rfl, p, dx, _, rfl, g4 _ _ h1, flds_no _ _ (by decide +kernel) (by decide +kernel), _, rfl, p, d, m, made, _, .int n, rfl, S.same g4, .int _, fun i' v' ei hv' hm' => ?_, fun no => (no ⟨n, hnN, rfl⟩).elim⟩
  cases ei
  obtain ⟨e, rv, tdo, ol, ob⟩ := gm _ hm'
  have ol : (nm n).length ≤ 100 := ol
  refine ⟨v', e, nm n, rfl, rv.same g4, tdo, by omega, fun H5 l g5 nl tl5 => ?_⟩
  have nla : l ≠ al := fun z => by rw [z, tl4] at nl; cases nl
  have nlf : l ≠ fa := fun z => by rw [z, tf4] at nl; cases nl
  have b1 : (nmz (nm n)).length ≤ 100 := Nat.le_trans (nmz_len _) ol
  refine ⟨al, l, _, _, rfl, rfl, g5 _ _ tl4, tl5, by rw [natVs_len, natVs_len]; omega, ?_⟩
  rw [← natVs_app]
  have nd' : (f ++ [n]).Nodup := by
    rw [List.nodup_append]
    exact ⟨nd, by simp, fun x hx y hy => by rw [List.mem_singleton.mp hy]; exact fun z => hm (z ▸ hx)⟩
  have lf' : ∀ x ∈ f ++ [n], x ∈ keyM m := fun x hx => by
    rcases List.mem_append.mp hx with z | z
    · exact lf x z
    · rw [List.mem_singleton.mp z]; exact hnN
  have fl' := nodup_len made _ nd' fun x hx => ri.lt x (lf' x hx)
  rw [List.length_append, List.length_singleton] at fl'
  refine ⟨_, ?_, f ++ [n], a' ++ nmz (nm n), _, rfl, fun b o e => by rw [upd_ne (ne_of_none e al0)]; exact g5 _ _ (g4 b o e), by rw [upd_ne nal.symm]; exact g5 _ _ tf4, upd_same, wk.new f a' n hj hm, nd', lf', fun x hx => ?_, rfl, ?_⟩
  · simp only [List.length_append, List.length_singleton]
    omega
  · rcases List.mem_append.mp hx with z | z
    · exact la x (by simp [z])
    · exact ob x (mem_nmz.mp z)
  · rw [List.length_append, List.length_append, List.length_singleton]
    omega
noncomputable def lostM (m : Mp) (f : List Nat) : List Nat := (keyM m).filter fun k => decide (k ∉ f)
noncomputable def keepM (m : Mp) (f : List Nat) : Mp := m.filter fun q => decide (q.1 ∈ f)
noncomputable def spCollect (K : PySem.W.Frag) (C : Addr) : Sp := fun vs H Q _ => ∃ (p d v : Addr) (m : Mp) (made : Nat) (nm : Nat → List (Option Nat)) (xs : List V) (es : List PyData) (os : List (Option Nat)) (J : List Nat → List Nat → Prop), vs = [.ref p, .ref v] ∧ HeapAt C H p d m made ∧ Ris m made ∧ GM K H m nm ∧
  made ≤ 5000 ∧ H v = some (.lst xs) ∧ Reps K H xs es ∧ VDs es os ∧ os.length ≤ 500 ∧ (∀ k, some k ∈ os → k ∈ keyM m) ∧ J [] (nmz os) ∧ Walk (adjM nm) J ∧
  ∀ f H' l, J f [] → f.Nodup → (∀ x ∈ f, x ∈ keyM m) → HeapAt C H' p d (keepM m f) made → (∀ c o, H c = some o → c ≠ d → H' c = some o) → H l = none → H' l = some (.lst (natVs (lostM m f))) → Q (.ref l) H'
theorem ok_H_collect (F : Fun K "collect" "Heap.collect" s_H_collect f fd) (c : Cs K mg ad) (d_H_numbers : MethN P w K mg base ad.Heap 1 "numbers" ["self"] (spNumbers ad.Heap)) (d_H_found_from : MethN P w K mg base ad.Heap 4 "found_from" ["self", "values"] (spFound K ad.Heap)) : FnOk P w K mg base CX0 5 f fd ["self", "values"] (spCollect K ad.Heap) := by
  refine F.ok sc_H_collect (fun vs H Q E h => ?_) (fun cdv A outer s H vs Q E hr h => ?_)
  · obtain ⟨p, d, v, m, made, nm, xs, es, os, J, rfl, _⟩ := h
    rfl
  obtain ⟨p, d, v, m, made, nm, xs, es, os, J, rfl, S, ri, gm, hn, hv, re, vd, ho, hb, j0, wk, q⟩ := h
  have hu := hu_of hr
  refine ⟨_, (pss_cons (ps_set (i := 2) sc_H_collect.nd rfl (by first | exact Or.inl rfl | exact Or.inr rfl) (pe_mN (pv 0) d_H_found_from (hr.mono (by first | decide | omega)) (pa_cons (pv 1) pa_nil)))
      (pss_cons (ps_setC (i := 3) sc_H_collect.nd rfl (by first | exact Or.inl rfl | exact Or.inr rfl) (sc := defScope s_H_collect) (NX := ["self", "values", "found", "lost", "number"]) (N := ["number", "found"]) (js := [none, some 2]) (pi_k (K := K) rfl (pe_mN0 (pv 0) d_H_numbers (hr.mono (by first | decide | omega)))) (fun _ _ _ _ _ => (pg_name (i := 0) (show (["number", "found"] : List Str).Nodup by decide +kernel) rfl (Or.inl rfl))) (fun _ _ _ _ _ => (pf_one (pt_cmp (pc_dnotin hu (pv 0) (pv 1))))) (fun _ _ _ _ _ => (pv 0)) (own_name rfl) ⟨by decide +kernel, rfl, by decide +kernel, by decide +kernel, rfl, by decide +kernel⟩)
      (pss_cons (ps_for PassesOwn.never rfl (pi_k (K := K) rfl (pv 3)) (pg_name (i := 4) sc_H_collect.nd rfl (by first | exact Or.inl rfl | exact Or.inr rfl)) (pss_one (ps_expr (pe_dpop1 (pe_fld (pv 0) rfl) (pv 4) ⟨rfl, rfl, rfl, rfl⟩))))
      (pss_one (ps_ret (pv 3)))))), ?_⟩
  clear hu
  obtain ⟨⟨dx, h1⟩, hd⟩ := id S
  have ml : m.length ≤ 5000 := by
    have := nodup_len made (keyM m) ri.nodup ri.lt
    rw [keyM_len] at this
    omega
  refine ⟨_, rfl, p, dx, _, rfl, h1, flds_no _ _ (by decide +kernel) (by decide +kernel), _, rfl, p, d, v, m, made, nm, xs, es, os, J, rfl, S, ri, gm, hn, hv, re, vd, ho, hb, j0, wk, fun f H1 fa hj nd lf g1 nfa tfa => ?_⟩
  refine ⟨_, rfl, p, dx, _, rfl, g1 _ _ h1, flds_no _ _ (by decide +kernel) (by decide +kernel), p, d, m, made, rfl, S.same g1, ri, by omega, fun ln hln => ?_⟩
  have g2 := g1.trans (same_new hln (.lst (natVs (keyM m))))
  have tf2 := same_new hln (.lst (natVs (keyM m))) _ _ tfa
  have tl2 : upd H1 ln (.lst (natVs (keyM m))) ln = some (.lst (natVs (keyM m))) := upd_same
  generalize upd H1 ln (.lst (natVs (keyM m))) = H2 at g2 tf2 tl2 ⊢
  have kl := keyM_len m
  refine .inl ⟨ln, rfl, ⟨_, SqL.of tl2⟩, comp_it (keyM m).length (fun i ys H' => H' = H2 ∧ ys = natVs (((keyM m).take i).filter fun k => decide (k ∉ f))) ⟨rfl, rfl⟩ (fun i ys H' e => ?_) (small (by omega)) (fun i ys H' hi e => ?_) (fun ys H' e => ?_)⟩
  · rw [e.2, natVs_len]
    exact Nat.le_trans (List.length_filter_le _ _) (List.length_take_le _ _)
  · obtain ⟨rfl, rfl⟩ := e
    have hx : (natVs (keyM m))[i]? = some (.int ((keyM m)[i]'hi : Nat)) := by unfold natVs; rw [List.getElem?_map, List.getElem?_eq_getElem hi]; rfl
    refine ⟨⟨_, _, SqL.of tl2, hx⟩, fun y H3 yl => ?_⟩
    obtain ⟨rfl, hy⟩ := yl
    have e := hx.symm.trans (hy _ (SqL.of tl2))
    cases e
    have hk : (keyM m)[i]? = some ((keyM m)[i]'hi) := List.getElem?_eq_getElem hi
    generalize (keyM m)[i]'hi = k at hk ⊢
    have et : ((keyM m).take (i + 1)).filter (fun k => decide (k ∉ f)) = ((keyM m).take i).filter (fun k => decide (k ∉ f)) ++ [k].filter (fun k => decide (k ∉ f)) := by rw [List.take_add_one, hk, List.filter_append]; rfl
    refine ⟨_, rfl, _, rfl, fa, _, rfl, DGet.k (k := Sum.inl ((k : Nat) : Int)) tf2, _, rfl, ?_⟩
    by_cases hm : k ∈ f
    · rw [keysD_has hm]
      refine iteF ⟨rfl, ?_⟩
      rw [et, List.filter_cons, if_neg (by simp [hm]), List.filter_nil, List.append_nil]
    · rw [keysD_not hm]
      refine iteT ⟨_, rfl, rfl, ?_⟩
      rw [et, List.filter_cons, if_pos (by simp [hm]), List.filter_nil, natVs_app]
      rfl
  obtain ⟨rfl, rfl⟩ := e
  rw [List.take_length]
  refine ⟨⟨_, SqL.of tl2, by rw [natVs_len]; exact Nat.le_refl _⟩, fun ll hll => ?_⟩
  show gName 3 (.ref ll) _ (upd H' ll (.lst (natVs (lostM m f)))) _
  have g3 := g2.trans (same_new hll (.lst (natVs (lostM m f))))
  have tl3 : upd H' ll (.lst (natVs (lostM m f))) ll = some (.lst (natVs (lostM m f))) := upd_same
  have ll0 : H ll = none := same_free g2 hll
  generalize upd H' ll (.lst (natVs (lostM m f))) = H3 at g3 tl3 ⊢
  have S3 := S.same g3
  have inL : ∀ {k : Nat}, k ∈ lostM m f → k ∈ keyM m ∧ k ∉ f := fun h => by
    obtain ⟨h1, h2⟩ := List.mem_filter.mp h
    exact ⟨h1, of_decide_eq_true h2⟩
  have ndL : (lostM m f).Nodup := ri.nodup.filter _
  refine ⟨_, rfl, .inl ⟨ll, rfl, ⟨_, SqL.of tl3⟩, for_it (lostM m f).length (fun i σ Hc => ∃ o4, σ = [some (.ref p), some (.ref v), some (.ref fa), some (.ref ll), o4] ∧ HeapAt ad.Heap Hc p d (m.filter fun q => decide (q.1 ∉ (lostM m f).take i)) made ∧ Hc ll = some (.lst (natVs (lostM m f))) ∧ ∀ c o, H c = some o → c ≠ d → Hc c = some o) ⟨none, rfl, ?_, tl3, fun c o e _ => g3 _ _ e⟩ (fun i σ Hc hi hP => ?_) (fun σ Hc hP => ?_)⟩⟩
  · rw [List.take_zero, List.filter_eq_self.mpr fun q _ => by simp]
    exact S3
  · obtain ⟨o4, rfl, Sc, tlc, kc⟩ := hP
    have hx : (natVs (lostM m f))[i]? = some (.int ((lostM m f)[i]'hi : Nat)) := by unfold natVs; rw [List.getElem?_map, List.getElem?_eq_getElem hi]; rfl
    refine ⟨⟨_, _, SqL.of tlc, hx⟩, fun y H4 yl => ?_⟩
    obtain ⟨rfl, hy⟩ := yl
    have e := hx.symm.trans (hy _ (SqL.of tlc))
    cases e
    have hk : (lostM m f)[i]? = some ((lostM m f)[i]'hi) := List.getElem?_eq_getElem hi
    have nt : (lostM m f)[i]'hi ∉ (lostM m f).take i := fun h => by
      obtain ⟨j, hj, ej⟩ := List.getElem_of_mem h
      rw [List.getElem_take] at ej
      rw [List.length_take] at hj
      exact List.pairwise_iff_getElem.mp ndL j i (by omega) hi (by omega) ej
    generalize (lostM m f)[i]'hi = k at hk nt hx hy ⊢
    have hkm := inL (List.mem_of_getElem? hk)
    have hin : k ∈ keyM (m.filter fun q => decide (q.1 ∉ (lostM m f).take i)) := by
      obtain ⟨q, hq, rfl⟩ := List.mem_map.mp hkm.1
      exact List.mem_map.mpr ⟨q, List.mem_filter.mpr ⟨hq, decide_eq_true nt⟩, rfl⟩
    obtain ⟨u, hu, _⟩ := getM_in hin
    obtain ⟨⟨dy, h2⟩, hd2⟩ := id Sc
    refine ⟨_, rfl, p, ad.Heap, dy, _, _, rfl, h2, c.cl, c.nK, flds_kept _ _, d, rfl, .inl ⟨_, .inl hd2⟩, _, rfl, _, Sum.inl ((k : Nat) : Int), u, hd2, rfl, by rw [kM_val]; exact hu, ?_⟩
    rw [kM_drop]
    have ed : dropM (m.filter fun q => decide (q.1 ∉ (lostM m f).take i)) k = m.filter fun q => decide (q.1 ∉ (lostM m f).take (i + 1)) := by
      unfold dropM
      rw [List.filter_filter]
      refine List.filter_congr fun q _ => ?_
      rw [List.take_add_one, hk, Bool.eq_iff_iff, Bool.and_eq_true, decide_eq_true_eq, decide_eq_true_eq, decide_eq_true_eq, List.mem_append]
      simp only [Option.toList_some, List.mem_singleton, not_or]
      exact ⟨fun ⟨a, b⟩ => ⟨b, a⟩, fun ⟨a, b⟩ => ⟨b, a⟩⟩
    rw [ed]
    refine ⟨_, rfl, ⟨⟨dy, by rw [upd_ne Sc.ne]; exact h2⟩, upd_same⟩, by rw [upd_ne (ne_of tlc hd2 (by intro z; cases z))]; exact tlc, fun c o e n => by rw [upd_ne n]; exact kc c o e n⟩
  · obtain ⟨o4, rfl, Sc, tlc, kc⟩ := hP
    refine ⟨⟨_, SqL.of tlc, by rw [natVs_len]; exact Nat.le_refl _⟩, _, rfl, q f _ ll hj nd lf ?_ kc ll0 tlc⟩
    have ek : (m.filter fun q => decide (q.1 ∉ (lostM m f).take (lostM m f).length)) = keepM m f := by
      unfold keepM
      refine List.filter_congr fun q hq => ?_
      rw [List.take_length, Bool.eq_iff_iff, decide_eq_true_eq, decide_eq_true_eq]
      refine ⟨fun h => Decidable.byContradiction fun hn => h (List.mem_filter.mpr ⟨List.mem_map.mpr ⟨q, hq, rfl⟩, decide_eq_true hn⟩), fun h hn => (inL hn).2 h⟩
    rw [← ek]
    exact Sc
end
end Mine

namespace Mine
open PySem L2 Grf
theorem lay_vds : ∀ {es : List PyData} {os : List (Option Nat)}, VDs es os → PyData.canLayAll0 es = true ∧ PyData.depthAll es ≤ 1
  | _, _, .nil => ⟨rfl, Nat.zero_le _⟩
  | _, _, .cons h t => by
    obtain ⟨h1, h2⟩ := lay_vds t
    have sn : PyData.strOk "number" = true := by decide +kernel
    have st : PyData.strOk "thing" = true := by decide +kernel
    rw [PyData.canLayAll0, PyData.depthAll, h1, Bool.and_true]
    cases h with
    | non => exact ⟨rfl, by rw [PyData.depth]; omega⟩
    | num i =>
      refine ⟨by rw [PyData.canLay0, PyData.canLayAll0, PyData.canLayAll0, PyData.canLayAll0, PyData.canLay0, PyData.canLay0, sn]; rfl, ?_⟩
      rw [PyData.depth, PyData.depthAll, PyData.depthAll, PyData.depthAll, PyData.depth, PyData.depth]
      omega
    | thg n =>
      refine ⟨by rw [PyData.canLay0, PyData.canLayAll0, PyData.canLayAll0, PyData.canLayAll0, PyData.canLay0, PyData.canLay0, st]; rfl, ?_⟩
      rw [PyData.depth, PyData.depthAll, PyData.depthAll, PyData.depthAll, PyData.depth, PyData.depth]
      omega
theorem shaped_vds {es : List PyData} {os : List (Option Nat)} (v : VDs es os) : SeqAt.shaped (.list es) = true := by
  obtain ⟨h1, h2⟩ := lay_vds v
  unfold SeqAt.shaped
  rw [PyData.canLay0, h1, PyData.depth, Bool.true_and]
  exact decide_eq_true (by omega)
theorem eqv_nil (es : List PyData) : PyData.eqv (.list es) (.list []) = es.isEmpty := by
  cases es with
  | nil => rfl
  | cons a b => rfl
theorem inV_nats (n : Nat) (f : List Nat) : inV (.int (n : Nat)) (natVs f) = decide (n ∈ f) := by
  unfold inV natVs
  rw [List.any_map, Bool.eq_iff_iff, List.any_eq_true, decide_eq_true_eq]
  constructor
  · rintro ⟨x, hx, e⟩
    have e' : (decide (((x : Nat) : Int) = ((n : Nat) : Int))) = true := by simpa [eqV] using e
    have : x = n := by have := of_decide_eq_true e'; omega
    exact this ▸ hx
  · intro h
    exact ⟨n, h, by simp [eqV]⟩
theorem flat_nats (f : List Nat) : (natVs f).all flatV = true := by
  unfold natVs
  rw [List.all_map]
  exact List.all_eq_true.mpr fun _ _ => rfl
theorem lay_ints : ∀ ks : List Int, PyData.canLayAll0 (ks.map PyData.int) = true ∧ PyData.depthAll (ks.map PyData.int) = 0
  | [] => ⟨rfl, rfl⟩
  | k :: r => by
    obtain ⟨h1, h2⟩ := lay_ints r
    constructor
    · rw [List.map_cons, PyData.canLayAll0, PyData.canLay0, h1]
      rfl
    · rw [List.map_cons, PyData.depthAll, h2, PyData.depth]
      rfl
theorem shaped_ints (ks : List Int) : SeqAt.shaped (.list (ks.map PyData.int)) = true := by
  obtain ⟨h1, h2⟩ := lay_ints ks
  unfold SeqAt.shaped
  rw [PyData.canLay0, h1, PyData.depth, h2]
  decide
theorem eqv_ints (ks : List Int) : PyData.eqv (.list (ks.map PyData.int)) (.list (ks.map PyData.int)) = true := SeqAt.eqv_refl _ (SeqAt.canLay_of_shaped (shaped_ints ks))
theorem ints_nat (ks : List Nat) : natDs ks = (ks.map fun n : Nat => (n : Int)).map PyData.int := by
  unfold natDs
  rw [List.map_map]
  rfl
theorem shaped_nat (ks : List Nat) : SeqAt.shaped (.list (natDs ks)) = true := by rw [ints_nat]; exact shaped_ints _
theorem eqv_nat (ks : List Nat) : PyData.eqv (.list (natDs ks)) (.list (natDs ks)) = true := by rw [ints_nat]; exact eqv_ints _
theorem natDs_empty (ks : List Nat) : (natDs ks).isEmpty = ks.isEmpty := by cases ks <;> rfl
theorem natVs_empty (ks : List Nat) : (natVs ks).isEmpty = ks.isEmpty := by cases ks <;> rfl
section
variable {P : Program} {w : World} {K : PySem.W.Frag} {mg : Str → Option Value} {base : Heap} {f : Addr} {fd : FuncData} {ad : Ad}
theorem rep_nat {H : Hp} {l : Addr} {ks : List Nat} (e : H l = some (.lst (natVs ks))) : Rep K H (.ref l) (.list (natDs ks)) := .lst (SqL.of e) (reps_natVs ks)
theorem at_three {z : Int} (h0 : 0 ≤ z) (h2 : z < 3) : ∃ y : Str, atI [V.str "open", V.str "open", V.str "ended"] z = some (.str y) ∧ (y = "open" ∨ y = "ended") := by
  rcases (show z = 0 ∨ z = 1 ∨ z = 2 by omega) with rfl | rfl | rfl
  · exact ⟨_, atI_nat (j := 0) rfl, .inl rfl⟩
  · exact ⟨_, atI_nat (j := 1) rfl, .inl rfl⟩
  · exact ⟨_, atI_nat (j := 2) rfl, .inr rfl⟩
theorem mod_nat {a m : Int} (h : 0 < m) : ∃ n : Nat, a % m = (n : Nat) ∧ (n : Int) < m := by
  have h0 := Int.emod_nonneg a (show m ≠ 0 by omega)
  have h1 := Int.emod_lt_of_pos a h
  exact ⟨(a % m).toNat, by omega, by omega⟩
theorem at_mod {ks : List Nat} (h : ks ≠ []) (a : Int) : 0 < (((natVs ks).length : Nat) : Int) ∧ ∃ k ∈ ks, atI (natVs ks) (a % (((natVs ks).length : Nat) : Int)) = some (.int (k : Nat)) := by
  have l := natVs_len ks
  have p : 0 < ks.length := List.length_pos_iff.mpr h
  have p' : (0 : Int) < (((natVs ks).length : Nat) : Int) := by omega
  obtain ⟨n, en, hn⟩ := mod_nat (a := a) p'
  rw [l] at hn
  have hn' : n < ks.length := by omega
  refine ⟨p', ks[n]'hn', List.getElem_mem hn', ?_⟩
  rw [en]
  refine atI_nat ?_
  unfold natVs
  rw [List.getElem?_map, List.getElem?_eq_getElem hn']
  rfl
noncomputable def spValue (K : PySem.W.Frag) : Sp := fun vs H Q _ => ∃ (a : Int) (t : Addr) (ks : List Nat), vs = [.int a, .ref t] ∧ H t = some (.lst (natVs ks)) ∧ ks.length ≤ 100 ∧ ∀ (H' : Hp) (x : V) (d : PyData) (o : Option Nat), Same H H' → Rep K H' x d → VD d o → (∀ n, o = some n → n ∈ ks) → Q x H'
theorem ok_law_value (F : Fun K "_law_value" "_law_value" s_law_value f fd) (c : Cs K mg ad) : FnOk P w K mg base CX0 1 f fd ["_law_cell", "_law_there"] (spValue K) := by
  refine F.ok sc_law_value (fun vs H Q E h => ?_) (fun cdv A outer s H vs Q E hr h => ?_)
  · obtain ⟨a, t, ks, rfl, _⟩ := h
    rfl
  obtain ⟨a, t, ks, rfl, ht, hl, q⟩ := h
  have hu64 := hr.units
  refine ⟨_, (pss_cons (ps_if (PW.pt (pw_and (pt_cmpR op_lt (pe_op op_mod (pv 0) pe_int) pe_int (nomark _)) (pw_and1 (pt_cmpR (neD_k (K := K) rfl hu64) (pv 1) (pe_lst pa_nil) (nomark _))))) (pss_one (ps_ret (pe_tup (pa_cons pe_str (pa_cons (pe_ix (ix_k (K := K) rfl) (pv 1) (pe_op op_mod (pe_op op_fdiv (pv 0) pe_int) (pe_callB (len_k (K := K) rfl) (by rfl) c.len_ bt_len (pa_cons (pv 1) pa_nil))) (fun _ _ => rfl)) pa_nil))))) pss_nil)
      (pss_cons (ps_if (pt_cmpR op_eq (pe_op op_mod (pv 0) pe_int) pe_int (nomark _)) (pss_one (ps_ret pe_non)) pss_nil)
      (pss_one (ps_ret (pe_tup (pa_cons pe_str (pa_cons (pe_op op_mod (pe_op op_fdiv (pv 0) pe_int) pe_int) pa_nil))))))), ?_⟩
  clear hu64
  have p5 : (0 : Int) < 5 := by decide
  have z2 : 2 ≤ sizeLine := by decide
  have z0 : 0 ≤ sizeLine := Nat.zero_le _
  refine ⟨_, rfl, _, _, rfl, rfl, p5, _, _, rfl, rfl, _, rfl, ite2 (fun _ => ⟨_, rfl, z0, fun em hem => ?_⟩) (fun _ => iteF ?_)⟩
  · have ge := same_new hem (.lst [])
    have te : upd H em (.lst []) em = some (.lst []) := upd_same
    generalize upd H em (.lst []) = H1 at ge te ⊢
    refine ⟨.list (natDs ks), .list [], rep_nat (ge _ _ ht), .lst (SqL.of te) .nil, shaped_nat ks, shaped_vds .nil, _, rfl, ?_⟩
    rw [eqv_nil, natDs_empty]
    by_cases hk : ks = []
    · subst hk
      refine iteF ?_
      refine ⟨_, rfl, _, _, rfl, rfl, p5, rfl, _, rfl, ite2 (fun _ => q H1 .non .none none ge .non .non fun k e => by cases e) (fun _ => ?_)⟩
      refine ⟨_, rfl, _, _, rfl, rfl, ⟨by decide, by decide⟩, _, _, rfl, rfl, (show (0 : Int) < 40 by decide), z2, fun p hp => ?_⟩
      exact q _ _ _ none (ge.trans (same_new hp _)) (.tup (SqT.of upd_same) (.cons (.str _) (.cons (.int _) .nil))) (.num _) fun k e => by cases e
    · have ne : (!ks.isEmpty) = true := by cases ks with
        | nil => exact absurd rfl hk
        | cons _ _ => rfl
      obtain ⟨p0, k, hkk, hat⟩ := at_mod hk (a / 5)
      refine iteP ne ⟨_, rfl, _, rfl, _, _, rfl, rfl, ⟨by decide, by decide⟩, _, rfl, _, _, rfl, .inl ⟨_, SqL.of (ge _ _ ht), rfl⟩, _, _, rfl, rfl, p0, .inl ⟨t, _, _, _, rfl, rfl, SqL.of (ge _ _ ht), hat, z2, fun p hp => ?_⟩⟩
      exact q _ _ _ (some k) (ge.trans (same_new hp _)) (.tup (SqT.of upd_same) (.cons (.str _) (.cons (.int _) .nil))) (.thg k) fun n e => by cases e; exact hkk
  · refine ⟨_, rfl, _, _, rfl, rfl, p5, rfl, _, rfl, ite2 (fun _ => q H .non .none none (Same.refl _) .non .non fun k e => by cases e) (fun _ => ?_)⟩
    refine ⟨_, rfl, _, _, rfl, rfl, ⟨by decide, by decide⟩, _, _, rfl, rfl, (show (0 : Int) < 40 by decide), z2, fun p hp => ?_⟩
    exact q _ _ _ none (same_new hp _) (.tup (SqT.of upd_same) (.cons (.str _) (.cons (.int _) .nil))) (.num _) fun k e => by cases e
noncomputable def spBoxes (K : PySem.W.Frag) : Sp := fun vs H Q _ => ∃ (a : Int) (t : Addr) (ks : List Nat), vs = [.int a, .ref t] ∧ H t = some (.lst (natVs ks)) ∧ ks.length ≤ 100 ∧ ∀ (H' : Hp) (x : V) (ns : List Nat), Same H H' → Rep K H' x (.tuple (natDs ns)) → ns.length ≤ 5 → (∀ n ∈ ns, n ∈ ks) → Q x H'
theorem ok_law_boxes (F : Fun K "_law_boxes" "_law_boxes" s_law_boxes f fd) (c : Cs K mg ad) : FnOk P w K mg base CX0 1 f fd ["_law_cell", "_law_there"] (spBoxes K) := by
  refine F.ok sc_law_boxes (fun vs H Q E h => ?_) (fun cdv A outer s H vs Q E hr h => ?_)
  · obtain ⟨a, t, ks, rfl, _⟩ := h
    rfl
  obtain ⟨a, t, ks, rfl, ht, hl, q⟩ := h
  have hu64 := hr.units
  refine ⟨_, (pss_cons (ps_if (pt_cmpR (eqNil_k (K := K) rfl (Nat.lt_of_le_of_lt (Nat.le_add_right _ _) hu64)) (pv 1) (pe_lst pa_nil) (nomark _)) (pss_one (ps_ret (pe_tup pa_nil))) pss_nil)
      (pss_one (ps_ret (pe_callTy (tupof_k (K := K) rfl) (by rfl) c.tuple_ bt_tuple (pa_cons (pe_comp (sc := defScope s_law_boxes) (NX := ["_law_cell", "_law_there"]) (N := ["_law_k", "_law_there", "_law_cell"]) (js := [none, some 1, some 0]) (pi_range1 rfl c.range_ (pa_cons (pe_op op_mod (pv 0) pe_int) pa_nil)) (fun _ _ _ _ _ => (pg_name (i := 0) (show (["_law_k", "_law_there", "_law_cell"] : List Str).Nodup by decide +kernel) rfl (Or.inl rfl))) (fun _ _ _ _ _ => pf_nil) (fun _ _ _ _ _ => (pe_ix (ix_k (K := K) rfl) (pv 1) (pe_op op_mod (pe_op op_fdiv (pe_op op_fdiv (pv 2) pe_int) (pe_op op_plus pe_int (pe_op op_mul pe_int (pv 0)))) (pe_callB (len_k (K := K) rfl) (by rfl) c.len_ bt_len (pa_cons (pv 1) pa_nil))) (fun _ _ => rfl))) (own_name rfl) ⟨by decide +kernel, rfl, by decide +kernel, by decide +kernel, rfl, by decide +kernel⟩) pa_nil))))), ?_⟩
  clear hu64
  have z0 : 0 ≤ sizeLine := Nat.zero_le _
  refine ⟨_, rfl, z0, fun em hem => ?_⟩
  have ge := same_new hem (.lst [])
  have te : upd H em (.lst []) em = some (.lst []) := upd_same
  generalize upd H em (.lst []) = H1 at ge te ⊢
  have ht1 := ge _ _ ht
  refine ⟨t, em, _, rfl, rfl, SqL.of ht1, SqL.of te, _, rfl, ?_⟩
  rw [natVs_empty]
  by_cases hk : ks = []
  · subst hk
    exact iteT ⟨z0, fun p hp => q _ _ [] (ge.trans (same_new hp _)) (.tup (SqT.of upd_same) .nil) (by decide) fun n h => by cases h⟩
  have ne : ks.isEmpty = false := by cases ks with
    | nil => exact absurd rfl hk
    | cons _ _ => rfl
  refine iteN ne ?_
  have p3 : (0 : Int) < 3 := by decide
  have h0 := Int.emod_nonneg a (show (3 : Int) ≠ 0 by decide)
  have h4 := Int.emod_lt_of_pos a p3
  refine ⟨_, rfl, _, _, rfl, rfl, p3, _, rfl, by omega, by omega, ?_⟩
  refine comp_it (a % 3).toNat (fun i ys H' => H' = H1 ∧ ∃ ns : List Nat, ys = natVs ns ∧ ns.length = i ∧ ∀ n ∈ ns, n ∈ ks) ⟨rfl, [], rfl, rfl, fun _ h => by cases h⟩ (fun i ys H' h => ?_) (small (by omega)) (fun i ys H' hi h => ?_) (fun ys H' h => ?_)
  · obtain ⟨_, ns, rfl, e, _⟩ := h
    rw [natVs_len, e]
    exact Nat.le_refl _
  · obtain ⟨rfl, ns, rfl, e, lt⟩ := h
    refine ⟨hi, fun v H2 yl => ?_⟩
    obtain ⟨rfl, rfl⟩ := yl
    obtain ⟨p0, n, hn, hat⟩ := at_mod hk (a / 7 / (1 + 5 * (0 + (i : Int))))
    refine ⟨_, rfl, _, rfl, _, _, rfl, rfl, ⟨by decide, by decide⟩, _, rfl, _, _, rfl, rfl, .inl ⟨by decide, by decide⟩, .inl ⟨_, _, rfl, rfl, _, _, rfl, rfl, ⟨by omega, by omega⟩, _, rfl, _, _, rfl, .inl ⟨_, SqL.of ht1, rfl⟩, _, _, rfl, rfl, p0, .inl ⟨t, _, _, _, rfl, rfl, SqL.of ht1, hat, rfl, ?_⟩⟩⟩
    refine ⟨ns ++ [n], by rw [natVs_app]; rfl, by rw [List.length_append, e]; rfl, fun k hk => ?_⟩
    rcases List.mem_append.mp hk with z | z
    · exact lt k z
    · rw [List.mem_singleton.mp z]; exact hn
  · obtain ⟨rfl, ns, rfl, e, lt⟩ := h
    refine ⟨Nat.le_refl _, fun D hD => ⟨D, _, rfl, .inl ⟨SqL.of upd_same, fun l hl => ?_⟩⟩⟩
    exact q _ _ ns (ge.trans ((same_new hD _).trans (same_new hl _))) (.tup (SqT.of upd_same) (reps_natVs ns)) (by omega) lt
noncomputable def spThingL (K : PySem.W.Frag) : Sp := fun vs H Q _ => ∃ (a : Int) (tl : Addr) (ks : List Nat), vs = [.int a, .ref tl] ∧ H tl = some (.lst (natVs ks)) ∧ ks.length ≤ 100 ∧ ∀ (H' : Hp) (x : V) (d : PyData) (os : List (Option Nat)), Same H H' → Rep K H' x d → TD d os → os.length ≤ 50 → (∀ n, some n ∈ os → n ∈ ks) → Q x H'
theorem some_mem {ns ks : List Nat} (h : ∀ n ∈ ns, n ∈ ks) : ∀ n, some n ∈ ns.map some → n ∈ ks := fun n hn => by
  obtain ⟨k, hk, e⟩ := List.mem_map.mp hn
  cases e
  exact h _ hk
theorem ok_law_thing (F : Fun K "_law_thing" "_law_thing" s_law_thing f fd) (c : Cs K mg ad) (d_law_spread : Def P w K mg base 1 "_law_spread" ["_law_cell", "_law_k"] spSpread) (d_law_value : Def P w K mg base 1 "_law_value" ["_law_cell", "_law_there"] (spValue K))
    (d_law_boxes : Def P w K mg base 1 "_law_boxes" ["_law_cell", "_law_there"] (spBoxes K)) : FnOk P w K mg base CX0 2 f fd ["_law_cell", "_law_there"] (spThingL K) := by
  refine F.ok sc_law_thing (fun vs H Q E h => ?_) (fun cdv A outer s H vs Q E hr h => ?_)
  · obtain ⟨a, tl, ks, rfl, _⟩ := h
    rfl
  obtain ⟨a, tl, ks, rfl, htl, hkl, q⟩ := h
  refine ⟨_, (pss_cons (ps_set (i := 2) sc_law_thing.nd rfl (by first | exact Or.inl rfl | exact Or.inr rfl) (pe_def d_law_spread (hr.mono (by first | decide | omega)) (pa_cons (pv 0) (pa_cons pe_int pa_nil))))
      (pss_cons (ps_if (pt_cmpR op_lt (pe_op op_mod (pv 0) pe_int) pe_int (nomark _)) (pss_one (ps_ret (pe_tup (pa_cons pe_str (pa_cons (pe_def d_law_value (hr.mono (by first | decide | omega)) (pa_cons (pv 2) (pa_cons (pv 1) pa_nil))) pa_nil))))) pss_nil)
      (pss_cons (ps_if (pt_cmpR op_eq (pe_op op_mod (pv 0) pe_int) pe_int (nomark _)) (pss_one (ps_ret (pe_tup (pa_cons pe_str (pa_cons (pe_op op_mod (pv 2) pe_int) (pa_cons (pe_def d_law_boxes (hr.mono (by first | decide | omega)) (pa_cons (pe_op op_fdiv (pv 2) pe_int) (pa_cons (pv 1) pa_nil))) pa_nil)))))) pss_nil)
      (pss_cons (ps_if (PW.pt (pw_and (pt_cmpR op_eq (pe_op op_mod (pv 0) pe_int) pe_int (nomark _)) (pw_and1 (pt_cmpR op_eq (pe_op op_mod (pv 2) pe_int) pe_int (nomark _))))) (pss_cons (ps_set (i := 3) sc_law_thing.nd rfl (by first | exact Or.inl rfl | exact Or.inr rfl) (pe_ix (ix_k (K := K) rfl) (pe_lst (pa_cons pe_str (pa_cons pe_str (pa_cons pe_str pa_nil)))) (pe_op op_mod (pe_op op_fdiv (pv 2) pe_int) pe_int) (fun _ _ => rfl)))
      (pss_one (ps_ret (pe_tup (pa_cons pe_str (pa_cons (pe_op op_mod (pe_op op_fdiv (pv 2) pe_int) pe_int) (pa_cons (pv 3) (pa_cons (pe_tup pa_nil) (pa_cons (pe_tup pa_nil) (pa_cons (pe_def d_law_boxes (hr.mono (by first | decide | omega)) (pa_cons (pe_op op_mul (pe_op op_fdiv (pv 2) pe_int) (pe_callTy call_int1 (by rfl) c.int_ bt_int (pa_cons (pe_cmpR op_eq (pv 3) pe_str (nomark _)) pa_nil))) (pa_cons (pv 1) pa_nil))) pa_nil)))))))))) pss_nil)
      (pss_cons (ps_if (pt_cmpR op_eq (pe_op op_mod (pv 0) pe_int) pe_int (nomark _)) (pss_cons (ps_set (i := 4) sc_law_thing.nd rfl (by first | exact Or.inl rfl | exact Or.inr rfl) (pe_callTy (tupof_k (K := K) rfl) (by rfl) c.tuple_ bt_tuple (pa_cons (pe_comp (sc := defScope s_law_thing) (NX := ["_law_cell", "_law_there", "_law_more", "_law_at", "_law_slots"]) (N := ["_law_k", "_law_there", "_law_more"]) (js := [none, some 1, some 2]) (pi_range1 rfl c.range_ (pa_cons (pe_op op_mod (pv 2) pe_int) pa_nil)) (fun _ _ _ _ _ => (pg_name (i := 0) (show (["_law_k", "_law_there", "_law_more"] : List Str).Nodup by decide +kernel) rfl (Or.inl rfl))) (fun _ _ _ _ _ => pf_nil) (fun _ _ _ _ _ => (pe_def d_law_value (hr.mono (by first | decide | omega)) (pa_cons (pe_def d_law_spread (hr.mono (by first | decide | omega)) (pa_cons (pv 2) (pa_cons (pv 0) pa_nil))) (pa_cons (pv 1) pa_nil)))) (own_name rfl) ⟨by decide +kernel, rfl, by decide +kernel, by decide +kernel, rfl, by decide +kernel⟩) pa_nil)))
      (pss_one (ps_ret (pe_tup (pa_cons pe_str (pa_cons (pe_op op_mod (pe_op op_fdiv (pv 2) pe_int) pe_int) (pa_cons pe_int (pa_cons (pv 4) (pa_cons (pe_def d_law_boxes (hr.mono (by first | decide | omega)) (pa_cons (pe_op op_fdiv (pv 2) pe_int) (pa_cons (pv 1) pa_nil))) (pa_cons (pe_def d_law_boxes (hr.mono (by first | decide | omega)) (pa_cons (pe_op op_fdiv (pv 2) pe_int) (pa_cons (pv 1) pa_nil))) pa_nil)))))))))) pss_nil)
      (pss_one (ps_ret (pe_tup (pa_cons pe_str (pa_cons (pe_op op_mod (pv 2) pe_int) (pa_cons (pe_def d_law_boxes (hr.mono (by first | decide | omega)) (pa_cons (pe_op op_fdiv (pv 2) pe_int) (pa_cons (pv 1) pa_nil))) pa_nil))))))))))), ?_⟩
  have p6 : (0 : Int) < 6 := by decide
  have p4 : (0 : Int) < 4 := by decide
  have p3 : (0 : Int) < 3 := by decide
  have p300 : (0 : Int) < 300 := by decide
  refine ⟨_, rfl, a, 1, rfl, by decide, by decide, fun mo hm0 hm1 => ?_⟩
  have fnl : ∀ (h : Str) (H1 : Hp) (x : V) (ns : List Nat) (p : Addr), h = "fun" ∨ h = "loop" → Same H H1 → Rep K H1 x (.tuple (natDs ns)) → ns.length ≤ 5 → (∀ n ∈ ns, n ∈ ks) → H1 p = none → Q (.ref p) (upd H1 p (.tup [.str h, .int (mo % 300), x])) := fun h H1 x ns p eh g rx hl lt hp => by
    have gn := same_new hp (.tup [.str h, .int (mo % 300), x])
    exact q _ _ _ (ns.map some) (g.trans gn) (.tup (SqT.of upd_same) (.cons (.str _) (.cons (.int _) (.cons (rx.same gn) .nil)))) (.fn eh) (by rw [List.length_map]; omega) (some_mem lt)
  refine ⟨_, rfl, _, _, rfl, rfl, p6, _, _, rfl, rfl, _, rfl, ite2 (fun _ => ?_) (fun _ => ?_)⟩
  · refine ⟨_, rfl, _, rfl, mo, tl, ks, rfl, htl, hkl, fun H1 x d o g rx vo lt => ⟨(by decide : 2 ≤ sizeLine), fun p hp => ?_⟩⟩
    have gn := same_new hp (.tup [.str "box", x])
    refine q _ _ _ [o] (g.trans gn) (.tup (SqT.of upd_same) (.cons (.str _) (.cons (rx.same gn) .nil))) (.box vo) (by decide : 1 ≤ 50) fun n hn => lt n (List.mem_singleton.mp hn).symm
  refine ⟨_, rfl, _, _, rfl, rfl, p6, rfl, _, rfl, ite2 (fun _ => ?_) (fun _ => ?_)⟩
  · exact ⟨_, rfl, _, _, rfl, rfl, p300, _, rfl, _, _, rfl, rfl, ⟨by decide, by decide⟩, _, rfl, _, tl, ks, rfl, htl, hkl, fun H1 x ns g rx hl lt => ⟨(by decide : 3 ≤ sizeLine), fun p hp => fnl _ H1 x ns p (.inl rfl) g rx hl lt hp⟩⟩
  have wtl : ∀ (H1 : Hp) (i : Int) (xa : V) (a' : PyData) (x3 x4 x5 : V) (sl : List PyData) (os : List (Option Nat)) (b1 b2 : List Nat) (p : Addr), Same H H1 → Rep K H1 xa a' → ((∃ j, a' = .int j) ∨ a' = .str "open" ∨ a' = .str "ended") → Rep K H1 x3 (.tuple sl) → VDs sl os → os.length ≤ 5 → (∀ n, some n ∈ os → n ∈ ks) →
      Rep K H1 x4 (.tuple (natDs b1)) → b1.length ≤ 5 → (∀ n ∈ b1, n ∈ ks) → Rep K H1 x5 (.tuple (natDs b2)) → b2.length ≤ 5 → (∀ n ∈ b2, n ∈ ks) → H1 p = none → Q (.ref p) (upd H1 p (.tup [.str "waiting", .int i, xa, x3, x4, x5])) := fun H1 i xa a' x3 x4 x5 sl os b1 b2 p g ra ha r3 vs l3 t3 r4 l4 t4 r5 l5 t5 hp => by
    have gn := same_new hp (.tup [.str "waiting", .int i, xa, x3, x4, x5])
    refine q _ _ _ (os ++ b1.map some ++ b2.map some) (g.trans gn) (.tup (SqT.of upd_same) (.cons (.str _) (.cons (.int _) (.cons (ra.same gn) (.cons (r3.same gn) (.cons (r4.same gn) (.cons (r5.same gn) .nil))))))) (.wt ha vs) (by rw [List.length_append, List.length_append, List.length_map, List.length_map]; omega) fun n hn => ?_
    rcases List.mem_append.mp hn with hn | hn
    · rcases List.mem_append.mp hn with hn | hn
      · exact t3 n hn
      · exact some_mem t4 n hn
    · exact some_mem t5 n hn
  refine ⟨_, rfl, _, _, rfl, rfl, p6, rfl, _, rfl, ite2 (fun c1 => ⟨_, rfl, _, _, rfl, rfl, p4, rfl, _, rfl, ite2 (fun _ => ?_) (fun _ => ?_)⟩) (fun c1 => iteF ?_)⟩
  · refine ⟨(by decide : 3 ≤ sizeLine), fun l hl => ?_⟩
    obtain ⟨z, hy, ez⟩ := at_three (Int.emod_nonneg (mo / 4) (show (3 : Int) ≠ 0 by decide)) (Int.emod_lt_of_pos (mo / 4) p3)
    refine ⟨_, rfl, _, _, rfl, rfl, ⟨by decide, by decide⟩, _, _, rfl, rfl, p3, .inl ⟨l, _, _, _, rfl, rfl, SqL.of upd_same, hy, ?_⟩⟩
    have gl := same_new hl (.lst [.str "open", .str "open", .str "ended"])
    generalize upd H l (.lst [.str "open", .str "open", .str "ended"]) = H1 at gl ⊢
    refine ⟨_, rfl, _, _, rfl, rfl, ⟨by decide, by decide⟩, _, _, rfl, rfl, p300, _, rfl, (by decide : 0 ≤ sizeLine), fun t1 ht1 => ⟨(by decide : 0 ≤ sizeLine), fun t2 ht2 => ?_⟩⟩
    have g2 := same_new ht1 (.tup [])
    have g3 := same_new ht2 (.tup [])
    have k1 : Rep K (upd (upd H1 t1 (.tup [])) t2 (.tup [])) (.ref t1) (.tuple []) := .tup (SqT.of (g3 _ _ upd_same)) .nil
    have k2 : Rep K (upd (upd H1 t1 (.tup [])) t2 (.tup [])) (.ref t2) (.tuple []) := .tup (SqT.of upd_same) .nil
    have gg := gl.trans (g2.trans g3)
    generalize upd (upd H1 t1 (.tup [])) t2 (.tup []) = H3 at k1 k2 gg ⊢
    refine ⟨_, rfl, _, _, rfl, rfl, ⟨by decide, by decide⟩, _, rfl, rfl, .inr ⟨_, rfl, _, _, rfl, rfl, .inl ⟨by omega, by omega⟩, _, rfl, _, tl, ks, rfl, gg _ _ htl, hkl, fun H4 x5 ns g4 r5 l5 t5 => ⟨(by decide : 6 ≤ sizeLine), fun p hp => ?_⟩⟩⟩
    exact wtl H4 _ _ (.str z) _ _ _ [] [] [] ns p (gg.trans g4) (.str _) (.inr (by rcases ez with rfl | rfl; exact .inl rfl; exact .inr rfl)) (k1.same g4) .nil (by decide) (fun n h => by cases h) (k2.same g4) (by decide) (fun n h => by cases h) r5 l5 t5 hp
  · refine ⟨_, rfl, _, _, rfl, rfl, p6, rfl, _, rfl, iteP c1 ?_⟩
    have h0 := Int.emod_nonneg mo (show (4 : Int) ≠ 0 by decide)
    have h4 := Int.emod_lt_of_pos mo p4
    refine ⟨_, rfl, _, _, rfl, rfl, p4, _, rfl, by omega, by omega, ?_⟩
    refine comp_it (mo % 4).toNat (fun i ys H' => Same H H' ∧ ∃ (ds : List PyData) (os : List (Option Nat)), Reps K H' ys ds ∧ VDs ds os ∧ os.length = i ∧ ys.length = i ∧ ∀ n, some n ∈ os → n ∈ ks) ⟨Same.refl _, [], [], .nil, .nil, rfl, rfl, fun n h => by cases h⟩ (fun i ys H' h => ?_) (small (by omega)) (fun i ys H' hi h => ?_) (fun ys H' h => ?_)
    · obtain ⟨_, ds, os, _, _, _, e, _⟩ := h
      exact Nat.le_of_eq e
    · obtain ⟨g, ds, os, rs, vd, e1, e2, lt⟩ := h
      refine ⟨hi, fun v H2 yl => ?_⟩
      obtain ⟨rfl, rfl⟩ := yl
      refine ⟨_, rfl, _, rfl, mo, _, rfl, by omega, by omega, fun sp s0 s1 => ⟨_, rfl, sp, tl, ks, rfl, g _ _ htl, hkl, fun H1 x d o g1 rx vo lo => ?_⟩⟩
      refine ⟨g.trans g1, ds ++ [d], os ++ [o], (rs.same g1).append (.cons rx .nil), vd.append (.cons vo .nil), by rw [List.length_append, e1]; rfl, by rw [List.length_append, e2]; rfl, fun n hn => ?_⟩
      rcases List.mem_append.mp hn with z | z
      · exact lt n z
      · exact lo n (List.mem_singleton.mp z).symm
    · obtain ⟨g, ds, os, rs, vd, e1, e2, lt⟩ := h
      refine ⟨Nat.le_refl _, fun D hD => ⟨D, _, rfl, .inl ⟨SqL.of upd_same, fun l hl => ?_⟩⟩⟩
      have g1 := (same_new hD (.lst ys)).trans (same_new hl (.tup ys))
      have rsl : Rep K (upd (upd H' D (.lst ys)) l (.tup ys)) (.ref l) (.tuple ds) := .tup (SqT.of upd_same) (rs.same g1)
      have gH := g.trans g1
      generalize upd (upd H' D (.lst ys)) l (.tup ys) = H3 at rsl gH ⊢
      refine ⟨_, rfl, _, _, rfl, rfl, ⟨by decide, by decide⟩, _, _, rfl, rfl, p300, _, rfl, _, rfl, _, _, rfl, rfl, ⟨by decide, by decide⟩, _, rfl, _, tl, ks, rfl, gH _ _ htl, hkl, fun H4 x4 n4 g4 r4 l4 t4 => ⟨_, rfl, _, _, rfl, rfl, ⟨by decide, by decide⟩, _, rfl, _, tl, ks, rfl, g4 _ _ (gH _ _ htl), hkl, fun H5 x5 n5 g5 r5 l5 t5 => ⟨(by decide : 6 ≤ sizeLine), fun p hp => ?_⟩⟩⟩
      exact wtl H5 _ _ (.int 7) _ _ _ ds os n4 n5 p ((gH.trans g4).trans g5) (.int _) (.inl ⟨_, rfl⟩) (rsl.same (g4.trans g5)) vd (by omega) lt (r4.same g5) l4 t4 r5 l5 t5 hp
  · refine ⟨_, rfl, _, _, rfl, rfl, p6, rfl, _, rfl, ite2 (fun z => absurd z c1) (fun _ => ?_)⟩
    exact ⟨_, rfl, _, _, rfl, rfl, p300, _, rfl, _, _, rfl, rfl, ⟨by decide, by decide⟩, _, rfl, _, tl, ks, rfl, htl, hkl, fun H1 x ns g rx hl lt => ⟨(by decide : 3 ≤ sizeLine), fun p hp => fnl _ H1 x ns p (.inr rfl) g rx hl lt hp⟩⟩
end
end Mine

namespace Mine
open PySem L2 Grf
theorem cut2 (x y : V) (ys : List V) : cutV (x :: y :: ys) (some 2) none = ys := by
  unfold cutV
  have e : HT.sIx (x :: y :: ys).length 0 (some 2) = 2 := by
    show HT.sIx (x :: y :: ys).length 0 (some ((2 : Nat) : Int)) = 2
    rw [HT.sIx_nat]
    simp
  rw [e, HT.sIx_none]
  simp
theorem cut2_ok (x y : V) (ys : List V) : ¬ (HT.sIx (x :: y :: ys).length 0 (some 2) = 0 ∧ HT.sIx (x :: y :: ys).length (x :: y :: ys).length none = (x :: y :: ys).length) := by
  have e : HT.sIx (x :: y :: ys).length 0 (some 2) = 2 := by
    show HT.sIx (x :: y :: ys).length 0 (some ((2 : Nat) : Int)) = 2
    rw [HT.sIx_nat]
    simp
  rw [e]
  omega
inductive ED : PyData → Option Nat → Prop
  | nat (n : Nat) : ED (.int (n : Nat)) (some n)
  | val {d : PyData} {o : Option Nat} (h : VD d o) : ED d o
inductive EDs : List PyData → List (Option Nat) → Prop
  | nil : EDs [] []
  | cons {d : PyData} {o : Option Nat} {ds : List PyData} {os : List (Option Nat)} (h : ED d o) (t : EDs ds os) : EDs (d :: ds) (o :: os)
theorem EDs.length : ∀ {ds : List PyData} {os : List (Option Nat)}, EDs ds os → ds.length = os.length
  | _, _, .nil => rfl
  | _, _, .cons _ t => by rw [List.length_cons, List.length_cons, t.length]
theorem EDs.get : ∀ {ds : List PyData} {os : List (Option Nat)} {i : Nat} {d : PyData}, EDs ds os → ds[i]? = some d → ∃ o, os[i]? = some o ∧ ED d o
  | _, _, _, _, .nil, e => by simp at e
  | _, _, 0, _, .cons h _, e => by simp at e; subst e; exact ⟨_, rfl, h⟩
  | _, _, i + 1, d, .cons _ t, e => by
    obtain ⟨o, h1, h2⟩ := EDs.get (i := i) (d := d) t (by simpa using e)
    exact ⟨o, by simpa using h1, h2⟩
theorem eds_nat : ∀ ns : List Nat, EDs (natDs ns) (ns.map some)
  | [] => .nil
  | n :: r => .cons (.nat n) (eds_nat r)
theorem eds_val : ∀ {ds : List PyData} {os : List (Option Nat)}, VDs ds os → EDs ds os
  | _, _, .nil => .nil
  | _, _, .cons h t => .cons (.val h) (eds_val t)
inductive PD : PyData → List (Option Nat) → Prop
  | int (i : Int) : PD (.int i) []
  | str (z : Str) : PD (.str z) []
  | tup {ds : List PyData} {os : List (Option Nat)} (h : EDs ds os) : PD (.tuple ds) os
inductive PDs : List PyData → List (List (Option Nat)) → Prop
  | nil : PDs [] []
  | cons {d : PyData} {o : List (Option Nat)} {ds : List PyData} {os : List (List (Option Nat))} (h : PD d o) (t : PDs ds os) : PDs (d :: ds) (o :: os)
theorem PDs.length : ∀ {ds : List PyData} {os : List (List (Option Nat))}, PDs ds os → ds.length = os.length
  | _, _, .nil => rfl
  | _, _, .cons _ t => by rw [List.length_cons, List.length_cons, t.length]
theorem PDs.get : ∀ {ds : List PyData} {os : List (List (Option Nat))} {i : Nat} {d : PyData}, PDs ds os → ds[i]? = some d → ∃ o, os[i]? = some o ∧ PD d o
  | _, _, _, _, .nil, e => by simp at e
  | _, _, 0, _, .cons h _, e => by simp at e; subst e; exact ⟨_, rfl, h⟩
  | _, _, i + 1, d, .cons _ t, e => by
    obtain ⟨o, h1, h2⟩ := PDs.get (i := i) (d := d) t (by simpa using e)
    exact ⟨o, by simpa using h1, h2⟩
section
variable {P : Program} {w : World} {K : PySem.W.Frag} {mg : Str → Option Value} {base : Heap} {f : Addr} {fd : FuncData} {ad : Ad}
theorem td_parts {H : Hp} {x : V} {d : PyData} {os : List (Option Nat)} (rx : Rep K H x d) (td : TD d os) : (∃ (a : Addr) (y : V) (o : Option Nat) (e : PyData), x = .ref a ∧ SqT K H a [.str "box", y] ∧ os = [o] ∧ Rep K H y e ∧ VD e o) ∨
    ∃ (a : Addr) (h : Str) (y : V) (ps : List V) (pds : List PyData) (pos : List (List (Option Nat))), x = .ref a ∧ SqT K H a (.str h :: y :: ps) ∧ h ≠ "box" ∧ Reps K H ps pds ∧ PDs pds pos ∧ pos.flatten = os ∧ pos.length ≤ 4 := by
  cases td with
  | @box e o vo =>
    cases rx with
    | @tup a xs _ hq rs =>
      cases rs with
      | @cons y0 _ _ _ r0 rs =>
        cases r0
        cases rs with
        | @cons y1 _ _ _ r1 rs =>
          cases rs
          exact .inl ⟨a, y1, o, e, rfl, hq, rfl, r1, vo⟩
  | @fn h i ns hh =>
    have h1 : h ≠ "box" := by rcases hh with rfl | rfl <;> decide +kernel
    cases rx with
    | @tup a xs _ hq rs =>
      cases rs with
      | @cons y0 _ _ _ r0 rs =>
        cases r0
        cases rs with
        | @cons y1 _ _ _ r1 rs =>
          exact .inr ⟨a, h, y1, _, _, [ns.map some], rfl, hq, h1, rs, .cons (.tup (eds_nat ns)) .nil, by simp, Nat.le_of_ble_eq_true rfl⟩
  | @wt i aa sl os b1 b2 ha vds =>
    cases rx with
    | @tup a xs _ hq rs =>
      cases rs with
      | @cons y0 _ _ _ r0 rs =>
        cases r0
        cases rs with
        | @cons y1 _ _ _ r1 rs =>
          refine .inr ⟨a, "waiting", y1, _, _, [[], os, b1.map some, b2.map some], rfl, hq, by decide +kernel, rs, .cons ?_ (.cons (.tup (eds_val vds)) (.cons (.tup (eds_nat b1)) (.cons (.tup (eds_nat b2)) .nil))), by simp, Nat.le_refl _⟩
          rcases ha with ⟨j, rfl⟩ | rfl | rfl
          · exact .int j
          · exact .str _
          · exact .str _
noncomputable def spValuesL (K : PySem.W.Frag) : Sp := fun vs H Q _ => ∃ (x : V) (d : PyData) (os : List (Option Nat)), vs = [x] ∧ Rep K H x d ∧ TD d os ∧ os.length ≤ 500 ∧ ∀ (H' : Hp) (l : Addr) (xs : List V) (es : List PyData), Same H H' → H l = none → H' l = some (.lst xs) → Reps K H' xs es → VDs es os → Q (.ref l) H'
noncomputable def Fills (K : PySem.W.Frag) (H : Hp) (fl : Addr) (os : List (Option Nat)) (Hc : Hp) : Prop := ∃ (xs : List V) (es : List PyData), Same H Hc ∧ Hc fl = some (.lst xs) ∧ Reps K Hc xs es ∧ VDs es os
theorem Fills.push {H Hc Hd : Hp} {fl : Addr} {os : List (Option Nat)} {y : V} {e : PyData} {o : Option Nat} (h0 : H fl = none) (F : Fills K H fl os Hc) (g : Same Hc Hd) (ry : Rep K Hd y e) (vo : VD e o) : ∃ xs, Hd fl = some (.lst xs) ∧ xs.length = os.length ∧ Fills K H fl (os ++ [o]) (upd Hd fl (.lst (xs ++ [y]))) := by
  obtain ⟨xs, es, g1, tl, rs, vd⟩ := F
  have tl' := g _ _ tl
  have tu : Tups K Hd (upd Hd fl (.lst (xs ++ [y]))) := Tups.but [fl] (fun b hb => by cases List.mem_singleton.mp hb; exact ⟨_, tl', wr_lst _⟩) fun b o n e => by
    rw [upd_ne (fun z => n (List.mem_singleton.mpr z))]
    exact e
  have vd' := vd.append (.cons vo .nil)
  exact ⟨xs, tl', rs.length.trans vd.length, xs ++ [y], es ++ [e], fun b o q => by rw [upd_ne (ne_of_none q h0)]; exact g _ _ (g1 b o q), upd_same, reps_sm tu ((rs.same g).append (.cons ry .nil)) vd'.sm, vd'⟩
theorem ok_law_values (F : Fun K "_law_values" "_law_values" s_law_values f fd) (c : Cs K mg ad) : FnOk P w K mg base CX0 1 f fd ["_law_thing_here"] (spValuesL K) := by
  refine F.ok sc_law_values (fun vs H Q E h => ?_) (fun cdv A outer s H vs Q E hr h => ?_)
  · obtain ⟨x, d, os, rfl, _⟩ := h
    rfl
  obtain ⟨x, d, os, rfl, rx, td, hl, q⟩ := h
  refine ⟨_, (pss_cons (ps_if (pt_cmpR op_eq (pe_ix (ix_k (K := K) rfl) (pv 0) pe_int (fun _ _ => rfl)) pe_str (nomark _)) (pss_one (ps_ret (pe_lst (pa_cons (pe_ix (ix_k (K := K) rfl) (pv 0) pe_int (fun _ _ => rfl)) pa_nil)))) pss_nil)
      (pss_cons (ps_set (i := 1) sc_law_values.nd rfl (by first | exact Or.inl rfl | exact Or.inr rfl) (pe_lst pa_nil))
      (pss_cons (ps_for PassesOwn.never rfl (pi_k (K := K) rfl (pe_slice (sl_k (K := K) rfl) (pv 0) (po_some pe_int) po_none)) (pg_name (i := 2) sc_law_values.nd rfl (by first | exact Or.inl rfl | exact Or.inr rfl)) (pss_one (ps_if (pt_val (pe_callB (isiD_k (K := K) rfl) (by rfl) c.isinstance_ bt_isinstance (pa_cons (pv 2) (pa_cons (pe_ty c.tuple_ bt_tuple) pa_nil)))) (pss_one (ps_for PassesOwn.never rfl (pi_k (K := K) rfl (pv 2)) (pg_name (i := 3) sc_law_values.nd rfl (by first | exact Or.inl rfl | exact Or.inr rfl)) (pss_one (ps_expr (bm_k (K := K) rfl PySem.F.plainAttrs_list PySem.F.slot_list_append PySem.F.type_list_append mt_append (pv 1) (pa_cons (pe_ifExp (pt_val (pe_callB (isiD_k (K := K) rfl) (by rfl) c.isinstance_ bt_isinstance (pa_cons (pv 3) (pa_cons (pe_ty c.int_ bt_int) pa_nil)))) (pe_tup (pa_cons pe_str (pa_cons (pv 3) pa_nil))) (pv 3)) pa_nil)))))) pss_nil)))
      (pss_one (ps_ret (pv 1)))))), ?_⟩
  rcases td_parts rx td with ⟨a, y, o, e, rfl, hq, rfl, ry, vo⟩ | ⟨a, h, y, ps, pds, pos, rfl, hq, hb, rs, pd, rfl, hp4⟩
  · refine ⟨_, rfl, .inr (.inl ⟨a, _, 0, _, rfl, rfl, hq, atI_nat (j := 0) rfl, rfl, _, rfl, iteP (decide_eq_true rfl) ?_⟩)⟩
    refine ⟨_, rfl, .inr (.inl ⟨a, _, 1, _, rfl, rfl, hq, atI_nat (j := 1) rfl, (by decide : 1 ≤ sizeLine), fun l hn => ?_⟩)⟩
    have g := same_new hn (.lst [y])
    exact q _ l [y] [e] g hn upd_same (.cons (ry.same g) .nil) (.cons vo .nil)
  refine ⟨_, rfl, .inr (.inl ⟨a, _, 0, _, rfl, rfl, hq, atI_nat (j := 0) rfl, rfl, _, rfl, iteN (not_str hb) ⟨(by decide : 0 ≤ sizeLine), fun fl hfl => ?_⟩⟩)⟩
  have g1 := same_new hfl (.lst [])
  have t1 : upd H fl (.lst []) fl = some (.lst []) := upd_same
  generalize upd H fl (.lst []) = H1 at g1 t1 ⊢
  refine ⟨_, rfl, _, rfl, .inr (.inr ⟨a, _, rfl, g1.sqT hq, cut2_ok _ _ _, fun p hp => ?_⟩)⟩
  rw [cut2]
  have g2 := g1.trans (same_new hp (.tup ps))
  have t2 := same_new hp (.tup ps) _ _ t1
  have tp : upd H1 p (.tup ps) p = some (.tup ps) := upd_same
  generalize upd H1 p (.tup ps) = H2 at g2 t2 tp ⊢
  have l1 := rs.length
  have l2 := pd.length
  have big : (1000 : Nat) < sizeLine := by decide
  refine .inr (.inl ⟨p, rfl, ⟨ps, SqT.of tp⟩, for_it pos.length (fun i σ Hc => ∃ o2 o3, σ = [some (.ref a), some (.ref fl), o2, o3] ∧ Hc p = some (.tup ps) ∧ Fills K H fl (pos.take i).flatten Hc) ⟨none, none, rfl, tp, [], [], g2, t2, .nil, .nil⟩ (fun i σ Hc hi hP => ?_) (fun σ Hc hP => ?_)⟩)
  · obtain ⟨o2, o3, rfl, tpc, Fc⟩ := hP
    have hx : ps[i]? = some (ps[i]'(by omega)) := List.getElem?_eq_getElem (by omega)
    refine ⟨⟨ps, _, SqT.of tpc, hx⟩, fun v H3 yl => ?_⟩
    obtain ⟨rfl, hv⟩ := yl
    obtain ⟨e, he, re⟩ := rs.get (hv ps (SqT.of tpc))
    obtain ⟨oi, ho, po⟩ := pd.get he
    have et : (pos.take (i + 1)).flatten = (pos.take i).flatten ++ oi := by rw [List.take_add_one, ho]; simp
    have lim : ((pos.take i).flatten ++ oi).length ≤ 500 := by
      rw [← et]
      refine Nat.le_trans ?_ hl
      conv => rhs; rw [← List.take_append_drop (i + 1) pos, List.flatten_append, List.length_append]
      omega
    have gH : Same H H3 := by obtain ⟨xs, es, g, _⟩ := id Fc; exact g
    have rcc := re.same gH
    refine ⟨_, rfl, v, e, "tuple", rfl, rcc, by decide, _, rfl, ?_⟩
    cases po with
    | int k => exact iteN (show isi "int" "tuple" = false by decide) ⟨_, _, rfl, tpc, by rw [et, List.append_nil]; exact Fc⟩
    | str z => exact iteN (show isi "str" "tuple" = false by decide) ⟨_, _, rfl, tpc, by rw [et, List.append_nil]; exact Fc⟩
    | @tup ds _ eds =>
      refine iteP (show isi "tuple" "tuple" = true by decide) ?_
      cases re with
      | @tup b zs _ hqb rz =>
        have l3 := rz.length
        have l4 := eds.length
        refine ⟨_, rfl, .inr (.inl ⟨b, rfl, ⟨zs, gH.sqT hqb⟩, for_it oi.length (fun j σ Hd => ∃ o3, σ = [some (.ref a), some (.ref fl), some (.ref b), o3] ∧ Hd p = some (.tup ps) ∧ Fills K H fl ((pos.take i).flatten ++ oi.take j) Hd) ⟨_, rfl, tpc, by rw [List.take_zero, List.append_nil]; exact Fc⟩ (fun j σ Hd hj hQ => ?_) (fun σ Hd hQ => ?_)⟩)⟩
        · obtain ⟨o4, rfl, tpd, Fd⟩ := hQ
          have gD : Same H Hd := by obtain ⟨xs, es, g, _⟩ := id Fd; exact g
          have hy : zs[j]? = some (zs[j]'(by omega)) := List.getElem?_eq_getElem (by omega)
          refine ⟨⟨zs, _, gD.sqT hqb, hy⟩, fun y H4 yl => ?_⟩
          obtain ⟨rfl, hv2⟩ := yl
          obtain ⟨e2, he2, re2⟩ := rz.get (hv2 zs (gD.sqT hqb))
          obtain ⟨o, ho2, eo⟩ := eds.get he2
          have et2 : (pos.take i).flatten ++ oi.take (j + 1) = ((pos.take i).flatten ++ oi.take j) ++ [o] := by rw [List.take_add_one, ho2, List.append_assoc]; rfl
          have lim2 : ((pos.take i).flatten ++ oi.take j).length ≤ 500 := by
            rw [List.length_append] at lim ⊢
            have := List.length_take_le j oi
            omega
          have sq : ∃ xs, SqL K H4 fl xs := by obtain ⟨xs, es, _, t, _⟩ := id Fd; exact ⟨xs, SqL.of t⟩
          obtain ⟨xs0, sq0⟩ := sq
          cases eo with
          | nat n =>
            cases re2
            refine ⟨_, rfl, .inl ⟨rfl, _, sq0⟩, _, rfl, _, _, "int", rfl, .int _, by decide, _, rfl, iteP (show isi "int" "int" = true by decide) ⟨_, rfl, (by decide : 2 ≤ sizeLine), fun p' hp' => ?_⟩⟩
            have gn := same_new hp' (.tup [.str "thing", .int (n : Nat)])
            obtain ⟨xs, tl, xl, Fn⟩ := Fd.push (y := .ref p') (e := .tuple [.str "thing", .int (n : Nat)]) hfl gn (.tup (SqT.of upd_same) (.cons (.str _) (.cons (.int _) .nil))) (.thg n)
            refine ⟨fl, xs, _, rfl, rfl, tl, by omega, _, rfl, ?_, by rw [et2]; exact Fn⟩
            rw [upd_ne (ne_of (gn _ _ tpd) tl (by intro z; cases z))]
            exact gn _ _ tpd
          | val vo =>
            have noI : isi (tyD e2) "int" = false := by
              cases vo with
              | non => exact (by decide : isi "NoneType" "int" = false)
              | num k => exact (by decide : isi "tuple" "int" = false)
              | thg k => exact (by decide : isi "tuple" "int" = false)
            refine ⟨_, rfl, .inl ⟨rfl, _, sq0⟩, _, rfl, _, _, "int", rfl, re2.same gD, by decide, _, rfl, iteN noI ⟨_, rfl, ?_⟩⟩
            obtain ⟨xs, tl, xl, Fn⟩ := Fd.push hfl (Same.refl _) (re2.same gD) vo
            refine ⟨fl, xs, _, rfl, rfl, tl, by omega, _, rfl, ?_, by rw [et2]; exact Fn⟩
            rw [upd_ne (ne_of tpd tl (by intro z; cases z))]
            exact tpd
        · obtain ⟨o4, rfl, tpd, Fd⟩ := hQ
          have gD : Same H Hd := by obtain ⟨xs, es, g, _⟩ := id Fd; exact g
          rw [List.take_length, ← et] at Fd
          exact ⟨⟨zs, gD.sqT hqb, by omega⟩, _, _, rfl, tpd, Fd⟩
  · obtain ⟨o2, o3, rfl, tpc, Fc⟩ := hP
    rw [List.take_length] at Fc
    obtain ⟨xs, es, g, tl, rs', vd⟩ := Fc
    exact ⟨⟨ps, SqT.of tpc, by omega⟩, _, rfl, q _ fl xs es g hfl tl rs' vd⟩
noncomputable def spReachedL (K : PySem.W.Frag) : Sp := fun vs H Q _ => ∃ (t v : Addr) (m : Mp) (made : Nat) (nm : Nat → List (Option Nat)) (xs : List V) (es : List PyData) (os : List (Option Nat)), vs = [.ref t, .ref v] ∧ H t = some (.dK (kM m)) ∧ Ris m made ∧ GM K H m nm ∧ made ≤ 50 ∧
  H v = some (.lst xs) ∧ Reps K H xs es ∧ VDs es os ∧ os.length ≤ 60 ∧ (∀ k, some k ∈ os → k ∈ keyM m) ∧ ∀ (H' : Hp) (l : Addr), Same H H' → H l = none → H' l = some (.lst ((rset (adjM nm) made (nmz os)).map V.int)) → Q (.ref l) H'
noncomputable def RW (K : PySem.W.Frag) (H : Hp) (t v fl : Addr) (N : Nat) (M : Mp) (adj : Nat → List Nat) (S : List Nat) (m : Nat) (σ : St) (Hc : Hp) : Prop := ∃ (f : List Nat) (al : Addr) (xs : List V) (es : List PyData) (os : List (Option Nat)) (o4 : Option V), σ = [some (.ref t), some (.ref v), some (.ref fl), some (.ref al), o4] ∧ Same H Hc ∧ Hc fl = some (.lst (natVs f)) ∧ Hc al = some (.lst xs) ∧ H al = none ∧ al ≠ fl ∧
  Reps K Hc xs es ∧ VDs es os ∧ Wk adj S f (nmz os) ∧ f.Nodup ∧ (∀ x ∈ f, x ∈ keyM M) ∧ (∀ k, some k ∈ os → k ∈ keyM M) ∧ m = (N - f.length) * 200 + os.length ∧ os.length ≤ 100 + 100 * f.length
theorem ok_law_reached (F : Fun K "_law_reached" "_law_reached" s_law_reached f fd) (c : Cs K mg ad) (d_law_values : Def P w K mg base 1 "_law_values" ["_law_thing_here"] (spValuesL K)) : FnOk P w K mg base CX0 2 f fd ["_law_things", "_law_values_here"] (spReachedL K) := by
  refine F.ok sc_law_reached (fun vs H Q E h => ?_) (fun cdv A outer s H vs Q E hr h => ?_)
  · obtain ⟨t, v, m, made, nm, xs, es, os, rfl, _⟩ := h
    rfl
  obtain ⟨t, v, m, made, nm, xs, es, os, rfl, ht, ri, gm, hn, hv, re, vd, ho, hb, q⟩ := h
  have hu64 := hr.units
  have hu := hu_of hr
  refine ⟨_, (pss_cons (ps_set (i := 2) sc_law_reached.nd rfl (by first | exact Or.inl rfl | exact Or.inr rfl) (pe_lst pa_nil))
      (pss_cons (ps_set (i := 3) sc_law_reached.nd rfl (by first | exact Or.inl rfl | exact Or.inr rfl) (pe_callTy call_list_of (by rfl) c.list_ bt_list (pa_cons (pv 1) pa_nil)))
      (pss_cons (ps_while PassesOwn.never (pt_cmpR (neD_k (K := K) rfl hu64) (pv 3) (pe_lst pa_nil) (nomark _)) (pss_cons (ps_set (i := 4) sc_law_reached.nd rfl (by first | exact Or.inl rfl | exact Or.inr rfl) (bm_k (K := K) rfl PySem.F.plainAttrs_list PySem.F.slot_list_pop PySem.F.type_list_pop mt_popAt (pv 3) (pa_cons pe_int pa_nil)))
      (pss_one (ps_if (PW.pt (pw_and (pt_cmpR op_notN (pv 4) pe_non (nomark _)) (pw_and (pt_cmpR op_eq (pe_ix (ix_k (K := K) rfl) (pv 4) pe_int (fun _ _ => rfl)) pe_str (nomark _)) (pw_and1 (pt_cmpR (nin_k (K := K) rfl) (pe_ix (ix_k (K := K) rfl) (pv 4) pe_int (fun _ _ => rfl)) (pv 2) rfl))))) (pss_cons (ps_expr (bm_k (K := K) rfl PySem.F.plainAttrs_list PySem.F.slot_list_append PySem.F.type_list_append mt_append (pv 2) (pa_cons (pe_ix (ix_k (K := K) rfl) (pv 4) pe_int (fun _ _ => rfl)) pa_nil)))
      (pss_one (ps_set (i := 3) sc_law_reached.nd rfl (by first | exact Or.inl rfl | exact Or.inr rfl) (pe_op op_plus (pv 3) (pe_def d_law_values (hr.mono (by first | decide | omega)) (pa_cons (pe_dget hu (pv 0) (pe_ix (ix_k (K := K) rfl) (pv 4) pe_int (fun _ _ => rfl)) (fun _ _ => rfl)) pa_nil)))))) pss_nil))))
      (pss_one (ps_ret (pe_callB (sortedL_k (K := K) rfl) (by rfl) c.sorted_ bt_sorted (pa_cons (pv 2) pa_nil))))))), ?_⟩
  clear hu64 hu
  have z0 : 0 ≤ sizeLine := Nat.zero_le _
  refine ⟨z0, fun fl hfl => ?_⟩
  have g1 := same_new hfl (.lst [])
  have t1 : upd H fl (.lst []) fl = some (.lst []) := upd_same
  generalize upd H fl (.lst []) = H1 at g1 t1 ⊢
  refine ⟨_, rfl, v, xs, rfl, .inl (SqL.of (g1 _ _ hv)), fun al hal => ?_⟩
  have g2 := same_new hal (.lst xs)
  have t2 : upd H1 al (.lst xs) al = some (.lst xs) := upd_same
  have al0 := same_free g1 hal
  have nal : al ≠ fl := (ne_of_none t1 hal).symm
  generalize upd H1 al (.lst xs) = H2 at g2 t2 ⊢
  have big : (20000 : Nat) < sizeLine := by decide
  refine ⟨RW K H t v fl made m (adjM nm) (nmz os), ⟨_, [], al, xs, es, os, none, rfl, g1.trans g2, g2 _ _ t1, t2, al0, nal, re.same (g1.trans g2), vd, Wk.start, List.nodup_nil, fun _ h => (by cases h), hb, rfl, by omega⟩, fun n0 σ Hc hW => ?_⟩
  clear t1 t2 g1 g2 hal nal al0
  obtain ⟨f, al, xs, es, os', o4, rfl, g, tf, tl, al0, nal, re, vd', wk, nd, lf, la, rfl, hbo⟩ := hW
  have lf0 : ∀ x ∈ f, x < made := fun x hx => ri.lt x (lf x hx)
  have fl' := nodup_len made f nd lf0
  refine ⟨_, rfl, z0, fun em hem => ?_⟩
  have ge := same_new hem (.lst [])
  have te : upd Hc em (.lst []) em = some (.lst []) := upd_same
  generalize upd Hc em (.lst []) = Hd at ge te ⊢
  refine ⟨.list es, .list [], .lst (SqL.of (ge _ _ tl)) (re.same ge), .lst (SqL.of te) .nil, shaped_vds vd', shaped_vds .nil, _, rfl, ?_⟩
  rw [eqv_nil]
  have gd := g.trans ge
  have tf := ge _ _ tf
  have tl := ge _ _ tl
  have re := re.same ge
  cases vd' with
  | nil =>
    refine iteF ?_
    refine ⟨_, rfl, fl, f.map fun n : Nat => (n : Int), rfl, by rw [← natVs_ints]; exact SqL.of tf, by rw [List.length_map]; omega, fun ns p1 p2 l hn2 => ?_⟩
    have e := rset_of (N := made) nd lf0 (fun x => Wk.fin wk x) p1 p2
    rw [e]
    exact q _ l (gd.trans (same_new hn2 _)) (same_free gd hn2) upd_same
  | @cons d o es os'' vo vt =>
    cases re with
    | @cons x r _ _ rx rr =>
      refine iteT ⟨fun σ' H' => ∃ m', m' < _ ∧ RW K H t v fl made m (adjM nm) (nmz os) m' σ' H', fun _ _ h => h, ?_⟩
      refine ⟨_, rfl, .inl ⟨rfl, _, SqL.of tl⟩, al, _, 0, 0, x, rfl, rfl, tl, by decide, by decide, (by unfold seqIndex?; simp), rfl, ?_⟩
      rw [List.eraseIdx_cons_zero]
      have g3 : Same H (upd Hd al (.lst r)) := fun b o e => by rw [upd_ne (ne_of_none e al0)]; exact gd b o e
      have tf3 : upd Hd al (.lst r) fl = some (.lst (natVs f)) := by rw [upd_ne nal.symm]; exact tf
      have tl3 : upd Hd al (.lst r) al = some (.lst r) := upd_same
      have tu : Tups K Hd (upd Hd al (.lst r)) := Tups.but [al] (fun b hb => by cases List.mem_singleton.mp hb; exact ⟨_, tl, wr_lst _⟩) fun b o n e => by
        rw [upd_ne (fun z => n (List.mem_singleton.mpr z))]
        exact e
      have rr3 := reps_sm tu rr vt.sm
      have rx3 := rep_sm tu rx vo.sm
      clear tu rr rx tl tf gd
      generalize upd Hd al (.lst r) = H3 at g3 tf3 tl3 rr3 rx3 ⊢
      have la' : ∀ k, some k ∈ os'' → k ∈ keyM m := fun k hk => la k (List.mem_cons_of_mem _ hk)
      have bo' : os''.length + 1 ≤ 100 + 100 * f.length := hbo
      have nn : ("number" : Str) ≠ "thing" := by decide +kernel
      cases vo with
      | non =>
        cases rx3
        refine ⟨_, rfl, rfl, _, rfl, iteF (iteF ⟨_, ?_, f, al, r, es, os'', _, rfl, g3, tf3, tl3, al0, nal, rr3, vt, wk, nd, lf, la', rfl, by omega⟩)⟩
        show _ < (made - f.length) * 200 + (os''.length + 1)
        omega
      | num k =>
        cases rx3 with
        | @tup a xs2 _ hq2 rs2 =>
          cases rs2 with
          | cons r0 rs2 =>
            cases r0
            refine ⟨_, rfl, rfl, _, rfl, iteT ⟨_, rfl, .inr (.inl ⟨_, _, 0, _, rfl, rfl, hq2, atI_nat (j := 0) rfl, rfl, _, rfl, iteN (not_str nn) (iteF ⟨_, ?_, f, al, r, es, os'', _, rfl, g3, tf3, tl3, al0, nal, rr3, vt, wk, nd, lf, la', rfl, by omega⟩)⟩)⟩⟩
            show _ < (made - f.length) * 200 + (os''.length + 1)
            omega
      | thg n =>
        have hnN : n ∈ keyM m := la n List.mem_cons_self
        have wk' : Wk (adjM nm) (nmz os) f (n :: nmz os'') := wk
        have hm2 : ∀ y, y ∈ n :: nmz os'' ↔ y = n ∨ y ∈ nmz os'' := fun y => List.mem_cons
        cases rx3 with
        | @tup a xs2 _ hq2 rs2 =>
          cases rs2 with
          | cons r0 rs2 =>
            cases r0
            cases rs2 with
            | cons r1 rs2 =>
              cases r1
              cases rs2
              refine ⟨_, rfl, rfl, _, rfl, iteT ⟨_, rfl, .inr (.inl ⟨_, _, 0, _, rfl, rfl, hq2, atI_nat (j := 0) rfl, rfl, _, rfl, iteP (decide_eq_true rfl) ⟨_, rfl, .inr (.inl ⟨_, _, 1, _, rfl, rfl, hq2, atI_nat (j := 1) rfl, _, rfl, fl, _, rfl, .inl (SqL.of tf3), rfl, flat_nats f, _, rfl, ?_⟩)⟩⟩)⟩⟩
              by_cases hm : n ∈ f
              · refine iteN (by rw [if_pos rfl, inV_nats, decide_eq_true hm]; rfl) ⟨_, ?_, f, al, r, es, os'', _, rfl, g3, tf3, tl3, al0, nal, rr3, vt, wk'.old hm2 hm, nd, lf, la', rfl, by omega⟩
                show _ < (made - f.length) * 200 + (os''.length + 1)
                omega
              refine iteP (by rw [if_pos rfl, inV_nats, decide_eq_false hm]; rfl) ?_
              refine ⟨_, rfl, .inl ⟨rfl, _, SqL.of tf3⟩, _, rfl, .inr (.inl ⟨_, _, 1, _, rfl, rfl, hq2, atI_nat (j := 1) rfl, fl, _, _, rfl, rfl, tf3, by rw [natVs_len]; omega, ?_⟩)⟩
              have ev : natVs f ++ [V.int (n : Nat)] = natVs (f ++ [n]) := (natVs_app f [n]).symm
              rw [ev]
              have g4 : Same H (upd H3 fl (.lst (natVs (f ++ [n])))) := fun b o e => by rw [upd_ne (ne_of_none e hfl)]; exact g3 b o e
              have tf4 : upd H3 fl (.lst (natVs (f ++ [n]))) fl = some (.lst (natVs (f ++ [n]))) := upd_same
              have tl4 : upd H3 fl (.lst (natVs (f ++ [n]))) al = some (.lst r) := by rw [upd_ne nal]; exact tl3
              have tu : Tups K H3 (upd H3 fl (.lst (natVs (f ++ [n])))) := Tups.but [fl] (fun b hb => by cases List.mem_singleton.mp hb; exact ⟨_, tf3, wr_lst _⟩) fun b o n e => by
                rw [upd_ne (fun z => n (List.mem_singleton.mpr z))]
                exact e
              have rr4 := reps_sm tu rr3 vt.sm
              have hq4 := tu _ _ hq2
              clear tu rr3 hq2 tl3 tf3 g3
              generalize upd H3 fl (.lst (natVs (f ++ [n]))) = H4 at g4 tf4 tl4 rr4 hq4 ⊢
              obtain ⟨u, hu, hmm⟩ := getM_in hnN
              obtain ⟨e, rv, tdo, ol, ob⟩ := gm _ hmm
              have ol : (nm n).length ≤ 100 := ol
              have nd' : (f ++ [n]).Nodup := by
                rw [List.nodup_append]
                exact ⟨nd, by simp, fun x hx y hy => by rw [List.mem_singleton.mp hy]; exact fun z => hm (z ▸ hx)⟩
              have lf' : ∀ x ∈ f ++ [n], x ∈ keyM m := fun x hx => by
                rcases List.mem_append.mp hx with z | z
                · exact lf x z
                · rw [List.mem_singleton.mp z]; exact hnN
              have fl2 := nodup_len made _ nd' fun x hx => ri.lt x (lf' x hx)
              rw [List.length_append, List.length_singleton] at fl2
              have rl := rr4.length.trans vt.length
              refine ⟨_, rfl, _, rfl, _, rfl, .inr (.inl ⟨_, _, 1, _, rfl, rfl, hq4, atI_nat (j := 1) rfl, t, u, rfl, (by rw [← hu, ← kM_val]; exact DGet.k (k := Sum.inl ((n : Nat) : Int)) (g4 _ _ ht)), _, e, nm n, rfl, rv.same g4, tdo, by omega, fun H5 l xs5 es5 g5 nl tl5 rs5 vd5 => ?_⟩)⟩
              have l5 := rs5.length.trans vd5.length
              refine .inr (.inr ⟨al, l, _, _, rfl, rfl, g5 _ _ tl4, tl5, by omega, fun p hp => ?_⟩)
              have gp := same_new hp (.lst (r ++ xs5))
              have pfl : p ≠ fl := fun z => by rw [z, g5 _ _ tf4] at hp; cases hp
              refine ⟨_, ?_, f ++ [n], p, _, _, os'' ++ nm n, _, rfl, (g4.trans g5).trans gp, gp _ _ (g5 _ _ tf4), upd_same, same_free (g4.trans g5) hp, pfl, ((rr4.same g5).append rs5).same gp, vt.append vd5, wk'.new hm2 fun y => ?_, nd', lf', fun k hk => ?_, rfl, ?_⟩
              · show _ < (made - f.length) * 200 + (os''.length + 1)
                simp only [List.length_append, List.length_singleton]
                omega
              · rw [nmz_app, List.mem_append]
                exact Iff.rfl
              · rcases List.mem_append.mp hk with z | z
                · exact la' k z
                · exact ob k z
              · simp only [List.length_append, List.length_singleton]
                omega
end
end Mine

namespace Mine
open PySem L2 Grf
theorem TD.lay {d : PyData} {os : List (Option Nat)} (t : TD d os) : PyData.canLay0 d = true ∧ PyData.depth d ≤ 3 := by
  have sw : ∀ x : Str, x = "box" ∨ x = "fun" ∨ x = "loop" ∨ x = "waiting" ∨ x = "open" ∨ x = "ended" → PyData.strOk x = true := fun x h => by
    rcases h with rfl | rfl | rfl | rfl | rfl | rfl <;> decide +kernel
  have nats : ∀ ns : List Nat, PyData.canLayAll0 (natDs ns) = true ∧ PyData.depthAll (natDs ns) = 0 := fun ns => by rw [ints_nat]; exact lay_ints _
  cases t with
  | box h =>
    obtain ⟨h1, h2⟩ := lay_vds (.cons h .nil)
    rw [PyData.canLayAll0, PyData.canLayAll0, Bool.and_true] at h1
    rw [PyData.depthAll, PyData.depthAll] at h2
    refine ⟨by rw [PyData.canLay0, PyData.canLayAll0, PyData.canLayAll0, PyData.canLayAll0, PyData.canLay0, sw _ (.inl rfl), h1]; rfl, ?_⟩
    rw [PyData.depth, PyData.depthAll, PyData.depthAll, PyData.depthAll, PyData.depth]
    omega
  | @fn h i ns hh =>
    obtain ⟨n1, n2⟩ := nats ns
    refine ⟨by rw [PyData.canLay0, PyData.canLayAll0, PyData.canLayAll0, PyData.canLayAll0, PyData.canLayAll0, PyData.canLay0, PyData.canLay0, PyData.canLay0, n1, sw h (by rcases hh with z | z <;> simp [z])]; rfl, ?_⟩
    rw [PyData.depth, PyData.depthAll, PyData.depthAll, PyData.depthAll, PyData.depthAll, PyData.depth, PyData.depth, PyData.depth, n2]
    omega
  | @wt i a sl os b1 b2 ha h =>
    obtain ⟨h1, h2⟩ := lay_vds h
    obtain ⟨n1, n2⟩ := nats b1
    obtain ⟨n3, n4⟩ := nats b2
    have la : PyData.canLay0 a = true ∧ PyData.depth a = 0 := by
      rcases ha with ⟨j, rfl⟩ | rfl | rfl
      · exact ⟨rfl, by rw [PyData.depth]⟩
      · exact ⟨by rw [PyData.canLay0, sw _ (by simp)], by rw [PyData.depth]⟩
      · exact ⟨by rw [PyData.canLay0, sw _ (by simp)], by rw [PyData.depth]⟩
    refine ⟨by rw [PyData.canLay0, PyData.canLayAll0, PyData.canLayAll0, PyData.canLayAll0, PyData.canLayAll0, PyData.canLayAll0, PyData.canLayAll0, PyData.canLayAll0, la.1, PyData.canLay0, PyData.canLay0, PyData.canLay0, PyData.canLay0, PyData.canLay0, h1, n1, n3, sw _ (by simp)]; rfl, ?_⟩
    rw [PyData.depth, PyData.depthAll, PyData.depthAll, PyData.depthAll, PyData.depthAll, PyData.depthAll, PyData.depthAll, PyData.depthAll, la.2, PyData.depth, PyData.depth, PyData.depth, PyData.depth, PyData.depth, n2, n4]
    omega
theorem lay_all : ∀ {ds : List PyData}, (∀ e ∈ ds, ∃ os, TD e os) → PyData.canLayAll0 ds = true ∧ PyData.depthAll ds ≤ 3
  | [], _ => ⟨rfl, Nat.zero_le _⟩
  | d :: r, h => by
    obtain ⟨h1, h2⟩ := lay_all fun e he => h e (List.mem_cons_of_mem _ he)
    obtain ⟨os, t⟩ := h d List.mem_cons_self
    obtain ⟨h3, h4⟩ := t.lay
    refine ⟨by rw [PyData.canLayAll0, h1, h3]; rfl, ?_⟩
    rw [PyData.depthAll]
    omega
theorem shaped_all {ds : List PyData} (h : ∀ e ∈ ds, ∃ os, TD e os) : SeqAt.shaped (.list ds) = true := by
  obtain ⟨h1, h2⟩ := lay_all h
  unfold SeqAt.shaped
  rw [PyData.canLay0, h1, PyData.depth, Bool.true_and]
  exact decide_eq_true (by omega)
theorem getM_at {m : Mp} (nd : (keyM m).Nodup) {i : Nat} {q : Nat × V} (h : m[i]? = some q) : getM m q.1 = some q.2 := by
  obtain ⟨v, h1, h2⟩ := getM_in (m := m) (n := q.1) (List.mem_map.mpr ⟨q, List.mem_of_getElem? h, rfl⟩)
  have e : (q.1, v) = q := by
    obtain ⟨j, hj, ej⟩ := List.getElem_of_mem h2
    obtain ⟨hi, ei⟩ := List.getElem?_eq_some_iff.mp h
    have eij : j = i := by
      rcases Nat.lt_trichotomy j i with z | z | z
      · have := List.pairwise_iff_getElem.mp nd j i (by rw [keyM_len]; omega) (by rw [keyM_len]; omega) z
        exact absurd (by unfold keyM; rw [List.getElem_map, List.getElem_map, ej, ei]) this
      · exact z
      · have := List.pairwise_iff_getElem.mp nd i j (by rw [keyM_len]; omega) (by rw [keyM_len]; omega) z
        exact absurd (by unfold keyM; rw [List.getElem_map, List.getElem_map, ej, ei]) this
    subst eij
    exact ej.symm.trans ei
  rw [h1, ← e]
section
variable {P : Program} {w : World} {K : PySem.W.Frag} {mg : Str → Option Value} {base : Heap} {f : Addr} {fd : FuncData} {ad : Ad}
theorem GM.vals {H : Hp} {nm : Nat → List (Option Nat)} : ∀ {m m0 : Mp}, (∀ q ∈ m, ∃ e, Rep K H q.2 e ∧ TD e (nm q.1) ∧ (nm q.1).length ≤ 100 ∧ ∀ k, some k ∈ nm q.1 → k ∈ keyM m0) → ∃ ds, Reps K H (m.map (·.2)) ds ∧ ∀ e ∈ ds, ∃ os, TD e os
  | [], _, _ => ⟨[], .nil, fun _ h => by cases h⟩
  | q :: r, m0, g => by
    obtain ⟨ds, rs, h⟩ := GM.vals (m := r) (m0 := m0) fun z hz => g z (List.mem_cons_of_mem _ hz)
    obtain ⟨e, re, te, _⟩ := g q List.mem_cons_self
    refine ⟨e :: ds, .cons re rs, fun x hx => ?_⟩
    rcases List.mem_cons.mp hx with rfl | hx
    · exact ⟨_, te⟩
    · exact h x hx
noncomputable def spGone (K : PySem.W.Frag) (C : Addr) : Sp := fun vs H Q _ => ∃ (p d : Addr) (m : Mp) (made k : Nat), vs = [.ref p, .int (k : Nat)] ∧ HeapAt C H p d m made ∧ k ∉ keyM m ∧ ∀ H', Same H H' → Q (.bl true) H'
theorem ok_law_is_gone (F : Fun K "_law_is_gone" "_law_is_gone" s_law_is_gone f fd) (c : Cs K mg ad) (d_H_thing : MethX P w K mg base ad.Heap 3 "thing" ["self", "k"] (spThing K ad.Heap ad.NoThing)) : FnOk P w K mg base CX0 4 f fd ["_law_heap", "_law_k"] (spGone K ad.Heap) := by
  refine F.ok sc_law_is_gone (fun vs H Q E h => ?_) (fun cdv A outer s H vs Q E hr h => ?_)
  · obtain ⟨p, d, m, made, k, rfl, _⟩ := h
    rfl
  obtain ⟨p, d, m, made, k, rfl, S, no, q⟩ := h
  obtain ⟨⟨dx, h1⟩, hd⟩ := id S
  refine ⟨_, (pss_cons (ps_try (i := 2) (K := K) rfl (fun _ _ => (pss_one (ps_expr (pe_mX (pv 0) d_H_thing (hr.mono (by first | decide | omega)) passT (pa_cons (pv 1) pa_nil))))) (fun _ => (pss_one (ps_ret (pe_callB (isiX_k (K := K) rfl) (by rfl) c.isinstance_ bt_isinstance (pa_cons (pv 2) (pa_cons (pe_g c.v_NoThing) pa_nil)))))) c.m_LoomError sc_law_is_gone.nd rfl)
      (pss_one (ps_ret pe_bl))), ?_⟩
  refine ⟨_, rfl, p, dx, _, rfl, h1, flds_no _ _ (by decide +kernel) (by decide +kernel), _, rfl, p, d, m, made, _, .int k, rfl, S, .int _, fun i v ei hv hm => ?_, fun _ => ⟨_, rfl, c.e1, fun ea hea => ?_⟩⟩
  · cases ei
    exact absurd (List.mem_map.mpr ⟨_, hm, rfl⟩) no
  · exact ⟨_, rfl, ea, ad.NoThing, _, true, rfl, upd_same, c.k_NoThing, .inl ⟨_, rfl, c.i3⟩, q _ (same_new hea _)⟩
noncomputable def spRight (K : PySem.W.Frag) (C : Addr) : Sp := fun vs H Q _ => ∃ (p d t : Addr) (m : Mp) (made : Nat) (nm : Nat → List (Option Nat)), vs = [.ref p, .ref t, .int (made : Nat)] ∧ HeapAt C H p d m made ∧ H t = some (.dK (kM m)) ∧ Ris m made ∧ GM K H m nm ∧ made ≤ 50 ∧ ∀ H', Same H H' → Q (.bl true) H'
theorem all_yes (n : Nat) : ((List.replicate n true).all id) = true := List.all_eq_true.mpr fun b hb => (List.mem_replicate.mp hb).2
theorem ok_law_right (F : Fun K "_law_right" "_law_right" s_law_right f fd) (c : Cs K mg ad) (d_H_thing : MethX P w K mg base ad.Heap 3 "thing" ["self", "k"] (spThing K ad.Heap ad.NoThing)) (d_H_numbers : MethN P w K mg base ad.Heap 1 "numbers" ["self"] (spNumbers ad.Heap))
    (d_law_is_gone : Def P w K mg base 4 "_law_is_gone" ["_law_heap", "_law_k"] (spGone K ad.Heap)) : FnOk P w K mg base CX0 5 f fd ["_law_heap", "_law_things", "_law_count"] (spRight K ad.Heap) := by
  refine F.ok sc_law_right (fun vs H Q E h => ?_) (fun cdv A outer s H vs Q E hr h => ?_)
  · obtain ⟨p, d, t, m, made, nm, rfl, _⟩ := h
    rfl
  obtain ⟨p, d, t, m, made, nm, rfl, S, ht, ri, gm, hn, q⟩ := h
  have hu := hu_of hr
  have hu64 := hr.units
  refine ⟨_, (pss_cons (ps_set (i := 3) sc_law_right.nd rfl (by first | exact Or.inl rfl | exact Or.inr rfl) (pe_callB (sortedL_k (K := K) rfl) (by rfl) c.sorted_ bt_sorted (pa_cons (pe_callTy (call_listD rfl) (by rfl) c.list_ bt_list (pa_cons (pv 1) pa_nil)) pa_nil)))
      (pss_cons (ps_if (PW.pt (pw_or (pt_cmpR (neD_k (K := K) rfl hu64) (pe_mN0 (pv 0) d_H_numbers (hr.mono (by first | decide | omega))) (pv 3) (nomark _)) (pw_or1 (pt_cmpR (neD_k (K := K) rfl hu64) (pe_comp (sc := defScope s_law_right) (NX := ["_law_heap", "_law_things", "_law_count", "_law_there"]) (N := ["_law_k", "_law_heap"]) (js := [none, some 0]) (pi_k (K := K) rfl (pv 3)) (fun _ _ _ _ _ => (pg_name (i := 0) (show (["_law_k", "_law_heap"] : List Str).Nodup by decide +kernel) rfl (Or.inl rfl))) (fun _ _ _ _ _ => pf_nil) (fun _ _ _ _ _ => (pe_mX (pv 1) d_H_thing (hr.mono (by first | decide | omega)) passN (pa_cons (pv 0) pa_nil))) (own_name rfl) ⟨by decide +kernel, rfl, by decide +kernel, by decide +kernel, rfl, by decide +kernel⟩) (pe_comp (sc := defScope s_law_right) (NX := ["_law_heap", "_law_things", "_law_count", "_law_there"]) (N := ["_law_k", "_law_things"]) (js := [none, some 1]) (pi_k (K := K) rfl (pv 3)) (fun _ _ _ _ _ => (pg_name (i := 0) (show (["_law_k", "_law_things"] : List Str).Nodup by decide +kernel) rfl (Or.inl rfl))) (fun _ _ _ _ _ => pf_nil) (fun _ _ _ _ _ => (pe_dget hu (pv 1) (pv 0) (fun _ _ => rfl))) (own_name rfl) ⟨by decide +kernel, rfl, by decide +kernel, by decide +kernel, rfl, by decide +kernel⟩) (nomark _))))) (pss_one (ps_ret pe_bl)) pss_nil)
      (pss_one (ps_ret (pe_callB (all_k (K := K) rfl rfl) (by rfl) c.all_ bt_all (pa_cons (pe_comp (sc := defScope s_law_right) (NX := ["_law_heap", "_law_things", "_law_count", "_law_there"]) (N := ["_law_k", "_law_heap", "_law_things"]) (js := [none, some 0, some 1]) (pi_range1 rfl c.range_ (pa_cons (pe_op op_plus (pv 2) pe_int) pa_nil)) (fun _ _ _ _ _ => (pg_name (i := 0) (show (["_law_k", "_law_heap", "_law_things"] : List Str).Nodup by decide +kernel) rfl (Or.inl rfl))) (fun _ _ _ _ _ => (pf_one (pt_cmp (pc_dnotin hu (pv 0) (pv 2))))) (fun _ _ _ _ _ => (pe_def d_law_is_gone (hr.mono (by first | decide | omega)) (pa_cons (pv 1) (pa_cons (pv 0) pa_nil)))) (own_name rfl) ⟨by decide +kernel, rfl, by decide +kernel, by decide +kernel, rfl, by decide +kernel⟩) pa_nil)))))), ?_⟩
  clear hu hu64
  obtain ⟨⟨dx, h1⟩, hd⟩ := id S
  have ml : m.length ≤ 50 := by
    have := nodup_len made (keyM m) ri.nodup ri.lt
    rw [keyM_len] at this
    omega
  have kl := keyM_len m
  refine ⟨_, rfl, t, _, _, rfl, ht, kM_keys m, by rw [List.length_map]; omega, fun l1 n1 => ?_⟩
  have g1 := same_new n1 (.lst (((keyM m).map fun n : Nat => (n : Int)).map V.int))
  refine ⟨l1, _, rfl, SqL.of upd_same, by rw [List.length_map]; omega, fun ns p1 p2 l2 n2 => ?_⟩
  rw [up_sorted ri.up p1 p2]
  have g2 := g1.trans (same_new n2 (.lst (natVs (keyM m))))
  have t2 : upd (upd H l1 (.lst (((keyM m).map fun n : Nat => (n : Int)).map V.int))) l2 (.lst (natVs (keyM m))) l2 = some (.lst (natVs (keyM m))) := upd_same
  generalize upd (upd H l1 (.lst (((keyM m).map fun n : Nat => (n : Int)).map V.int))) l2 (.lst (natVs (keyM m))) = H2 at g2 t2 ⊢
  refine ⟨_, rfl, p, dx, _, rfl, g2 _ _ h1, flds_no _ _ (by decide +kernel) (by decide +kernel), p, d, m, made, rfl, S.same g2, ri, by omega, fun l3 n3 => ?_⟩
  have g3 := g2.trans (same_new n3 (.lst (natVs (keyM m))))
  have t3 : upd H2 l3 (.lst (natVs (keyM m))) l3 = some (.lst (natVs (keyM m))) := upd_same
  have t23 := same_new n3 (.lst (natVs (keyM m))) _ _ t2
  generalize upd H2 l3 (.lst (natVs (keyM m))) = H3 at g3 t3 t23 ⊢
  refine ⟨_, rfl, .list (natDs (keyM m)), .list (natDs (keyM m)), rep_nat t3, rep_nat t23, shaped_nat _, shaped_nat _, _, rfl, iteN (by rw [eqv_nat]; rfl) ?_⟩
  have S3 := S.same g3
  have ht3 := g3 _ _ ht
  have gm3 := gm.same g3
  clear t3 g2 t2 g1
  have item : ∀ {i : Nat} {H' : Hp} {y : V}, H' l2 = some (.lst (natVs (keyM m))) → i < m.length → (∀ xs, SqL K H' l2 xs → xs[i]? = some y) → ∃ qq, m[i]? = some qq ∧ y = .int (qq.1 : Nat) ∧ getM m qq.1 = some qq.2 := fun {i H' y} e hi hy => by
    have hx := hy _ (SqL.of e)
    have hq : m[i]? = some (m[i]'hi) := List.getElem?_eq_getElem hi
    unfold natVs keyM at hx
    rw [List.getElem?_map, List.getElem?_map, hq] at hx
    cases hx
    exact ⟨_, hq, rfl, getM_at ri.nodup hq⟩
  have go : ∀ {i : Nat} {H' : Hp}, H' l2 = some (.lst (natVs (keyM m))) → i < m.length → ∃ xs y, SqL K H' l2 xs ∧ xs[i]? = some y := fun {i H'} e hi => ⟨_, .int ((m[i]'hi).1 : Nat), SqL.of e, by unfold natVs keyM; rw [List.getElem?_map, List.getElem?_map, List.getElem?_eq_getElem hi]; rfl⟩
  refine ⟨_, rfl, .inl ⟨l2, rfl, ⟨_, SqL.of t23⟩, comp_it m.length (fun i ys H' => H' = H3 ∧ ys = (m.take i).map (·.2)) ⟨rfl, rfl⟩ (fun i ys H' e => ?_) (small (by omega)) (fun i ys H' hi e => ?_) (fun ys H' e => ?_)⟩⟩
  · rw [e.2, List.length_map]
    exact List.length_take_le _ _
  · obtain ⟨rfl, rfl⟩ := e
    refine ⟨go t23 hi, fun y H4 yl => ?_⟩
    obtain ⟨rfl, hy⟩ := yl
    obtain ⟨qq, hq, rfl, hg⟩ := item t23 hi hy
    refine ⟨_, rfl, p, dx, _, rfl, g3 _ _ h1, flds_no _ _ (by decide +kernel) (by decide +kernel), _, rfl, p, d, m, made, _, .int qq.1, rfl, S3, .int _, fun i' v ei hv hm => ?_, fun no => (no ⟨qq.1, List.mem_map.mpr ⟨qq, List.mem_of_getElem? hq, rfl⟩, rfl⟩).elim⟩
    cases ei
    rw [hg] at hv
    cases hv
    exact ⟨rfl, by rw [List.take_add_one, hq, List.map_append]; rfl⟩
  obtain ⟨rfl, rfl⟩ := e
  rw [List.take_length]
  refine ⟨⟨_, SqL.of t23, by rw [natVs_len]; omega⟩, fun D1 hD1 => ?_⟩
  have g4 := same_new hD1 (.lst (m.map (·.2)))
  have u4 : upd H' D1 (.lst (m.map (·.2))) D1 = some (.lst (m.map (·.2))) := upd_same
  have g34 := g3.trans g4
  generalize upd H' D1 (.lst (m.map (·.2))) = H4 at g4 u4 g34 ⊢
  have t24 := g4 _ _ t23
  have ht4 := g4 _ _ ht3
  refine ⟨_, rfl, .inl ⟨l2, rfl, ⟨_, SqL.of t24⟩, comp_it m.length (fun i ys H' => H' = H4 ∧ ys = (m.take i).map (·.2)) ⟨rfl, rfl⟩ (fun i ys H' e => ?_) (small (by omega)) (fun i ys H' hi e => ?_) (fun ys H' e => ?_)⟩⟩
  · rw [e.2, List.length_map]
    exact List.length_take_le _ _
  · obtain ⟨rfl, rfl⟩ := e
    refine ⟨go t24 hi, fun y H5 yl => ?_⟩
    obtain ⟨rfl, hy⟩ := yl
    obtain ⟨qq, hq, rfl, hg⟩ := item t24 hi hy
    exact ⟨_, rfl, _, rfl, t, qq.2, rfl, (by rw [← hg, ← kM_val]; exact DGet.k (k := Sum.inl ((qq.1 : Nat) : Int)) ht4), rfl, by rw [List.take_add_one, hq, List.map_append]; rfl⟩
  obtain ⟨rfl, rfl⟩ := e
  rw [List.take_length]
  refine ⟨⟨_, SqL.of t24, by rw [natVs_len]; omega⟩, fun D2 hD2 => ?_⟩
  have g5 := same_new hD2 (.lst (m.map (·.2)))
  obtain ⟨ds, rds, tds⟩ := GM.vals gm3
  have rd5 := rds.same (g4.trans g5)
  refine ⟨.list ds, .list ds, .lst (SqL.of (g5 _ _ u4)) rd5, .lst (SqL.of upd_same) rd5, shaped_all tds, shaped_all tds, _, rfl, iteN (by rw [SeqAt.eqv_refl _ (SeqAt.canLay_of_shaped (shaped_all tds))]; rfl) ?_⟩
  have g05 := g34.trans g5
  dsimp only
  generalize upd H' D2 (.lst (m.map (·.2))) = H5 at g05 ⊢
  have S5 := S.same g05
  have ht5 := g05 _ _ ht
  clear rd5 g5 g34 u4 t24 ht4 g4 t23 gm3 ht3 S3 item go
  refine ⟨_, rfl, .inl ⟨_, _, rfl, rfl, _, rfl, by omega, by omega, ?_⟩⟩
  refine comp_it ((made : Int) + 1).toNat (fun i ys H' => Same H5 H' ∧ ∃ j, j ≤ i ∧ ys = (List.replicate j true).map V.bl) ⟨Same.refl _, 0, Nat.le_refl _, rfl⟩ (fun i ys H' e => ?_) (small (by omega)) (fun i ys H' hi e => ?_) (fun ys H' e => ?_)
  · obtain ⟨_, j, hj, rfl⟩ := e
    rw [List.length_map, List.length_replicate]
    exact hj
  · obtain ⟨g, j, hj, rfl⟩ := e
    refine ⟨hi, fun y H6 yl => ?_⟩
    obtain ⟨rfl, rfl⟩ := yl
    rw [Int.zero_add]
    refine ⟨_, rfl, _, rfl, t, _, rfl, DGet.k (k := Sum.inl ((i : Nat) : Int)) (g _ _ ht5), _, rfl, ?_⟩
    by_cases hm : i ∈ keyM m
    · obtain ⟨v, hv, _⟩ := getM_in hm
      rw [kM_val, hv]
      exact iteF ⟨g, j, by omega, rfl⟩
    · rw [kM_val, getM_out hm]
      refine iteT ⟨_, rfl, _, rfl, p, d, m, made, i, rfl, S5.same g, hm, fun H7 g7 => ⟨g.trans g7, j + 1, by omega, ?_⟩⟩
      rw [List.replicate_succ', List.map_append]
      rfl
  · obtain ⟨g, j, hj, rfl⟩ := e
    refine ⟨Nat.le_refl _, fun D hD => ⟨D, _, rfl, SqL.of upd_same, ?_⟩⟩
    rw [all_yes]
    exact q _ (g05.trans (g.trans (same_new hD _)))
end
end Mine

namespace Mine
open PySem L2 Grf
theorem mem_rset {adj : Nat → List Nat} {N : Nat} {S : List Nat} {k : Nat} : ((k : Nat) : Int) ∈ rset adj N S ↔ k < N ∧ Rch adj S k := by
  classical
  have e : rset adj N S = ((List.range N).filter fun n => decide (Rch adj S n)).map fun n : Nat => (n : Int) := by
    unfold rset
    congr
  rw [e, List.mem_map]
  constructor
  · rintro ⟨n, hn, en⟩
    have : n = k := by omega
    subst this
    obtain ⟨h1, h2⟩ := List.mem_filter.mp hn
    exact ⟨List.mem_range.mp h1, of_decide_eq_true h2⟩
  · rintro ⟨h1, h2⟩
    exact ⟨k, List.mem_filter.mpr ⟨List.mem_range.mpr h1, decide_eq_true h2⟩, rfl⟩
theorem inV_ints (n : Nat) (R : List Int) : inV (.int (n : Nat)) (R.map V.int) = decide (((n : Nat) : Int) ∈ R) := by
  unfold inV
  rw [List.any_map, Bool.eq_iff_iff, List.any_eq_true, decide_eq_true_eq]
  constructor
  · rintro ⟨x, hx, e⟩
    have e' : x = ((n : Nat) : Int) := by simpa [eqV] using e
    exact e' ▸ hx
  · intro h
    exact ⟨_, h, by simp [eqV]⟩
theorem flat_ints (R : List Int) : (R.map V.int).all flatV = true := by
  rw [List.all_map]
  exact List.all_eq_true.mpr fun _ _ => rfl
theorem wk_walk (adj : Nat → List Nat) (S : List Nat) : Walk adj fun f a => Wk adj S f a :=
  ⟨fun f a n w hm => w.old (a' := a) (n := n) (fun x => by rw [List.mem_append, List.mem_singleton, or_comm]) hm, fun f a n w _ => w.new (a' := a) (n := n) (fun x => by rw [List.mem_append, List.mem_singleton, or_comm]) fun x => List.mem_append⟩
theorem keepM_keys (m : Mp) (f : List Nat) : keyM (keepM m f) = (keyM m).filter fun k => decide (k ∈ f) := by
  unfold keyM keepM
  rw [List.filter_map]
  rfl
theorem Ris.keep {m : Mp} {made : Nat} {f : List Nat} (r : Ris m made) : Ris (keepM m f) made := by
  refine ⟨by rw [keepM_keys]; exact r.up.filter _, fun n hn => ?_⟩
  rw [keepM_keys] at hn
  exact r.lt n (List.mem_filter.mp hn).1
theorem mem_keep {m : Mp} {f : List Nat} {k : Nat} : k ∈ keyM (keepM m f) ↔ k ∈ keyM m ∧ k ∈ f := by rw [keepM_keys, List.mem_filter, decide_eq_true_eq]
theorem keep_all {m : Mp} {f g : List Nat} (h : ∀ x, x ∈ g ↔ x ∈ f) : keepM (keepM m f) g = keepM m f := by
  unfold keepM
  refine List.filter_eq_self.mpr fun q hq => decide_eq_true ((h _).mpr ?_)
  exact of_decide_eq_true (List.mem_filter.mp hq).2
theorem lost_none {m : Mp} {f g : List Nat} (h : ∀ x, x ∈ g ↔ x ∈ f) : lostM (keepM m f) g = [] := by
  unfold lostM
  refine List.filter_eq_nil_iff.mpr fun k hk => ?_
  rw [decide_eq_true_eq]
  exact fun n => n ((h k).mpr (mem_keep.mp hk).2)
section
variable {P : Program} {w : World} {K : PySem.W.Frag} {mg : Str → Option Value} {base : Heap} {f : Addr} {fd : FuncData} {ad : Ad}
theorem GM.keep {H : Hp} {m : Mp} {nm : Nat → List (Option Nat)} {S f : List Nat} (g : GM K H m nm) (hf : ∀ x, x ∈ f ↔ Rch (adjM nm) S x) : GM K H (keepM m f) nm := fun q hq => by
  obtain ⟨h1, h2⟩ := List.mem_filter.mp hq
  obtain ⟨e, r, t, l, b⟩ := g q h1
  refine ⟨e, r, t, l, fun k hk => mem_keep.mpr ⟨b k hk, (hf k).mpr (.step ((hf q.1).mp (of_decide_eq_true h2)) (mem_nmz.mpr hk))⟩⟩
noncomputable def More (H H' : Hp) (zs zs' : List V) : Prop := ∃ (q a b : Addr) (ks : List Nat), zs' = zs ++ [.ref q] ∧ H' q = some (.tup [.ref a, .ref b]) ∧ H' a = some (.lst (natVs ks)) ∧ H' b = some (.lst (natVs ks)) ∧ H a = none ∧ H b = none
noncomputable def spCollected (K : PySem.W.Frag) (C : Addr) : Sp := fun vs H Q _ => ∃ (p d t v h : Addr) (m : Mp) (made : Nat) (nm : Nat → List (Option Nat)) (xs : List V) (es : List PyData) (os : List (Option Nat)) (zs : List V), vs = [.ref p, .ref t, .ref v, .ref h] ∧ HeapAt C H p d m made ∧ H t = some (.dK (kM m)) ∧ t ≠ d ∧ Ris m made ∧ GM K H m nm ∧ made ≤ 50 ∧
  H v = some (.lst xs) ∧ Reps K H xs es ∧ VDs es os ∧ os.length ≤ 20 ∧ (∀ k, some k ∈ os → k ∈ keyM m) ∧ H h = some (.lst zs) ∧ zs.length ≤ 500 ∧ v ≠ h ∧
  ∀ (H' : Hp) (zs' : List V) (f : List Nat), (∀ x, x ∈ f ↔ Rch (adjM nm) (nmz os) x) → HeapAt C H' p d (keepM m f) made → H' t = some (.dK (kM (keepM m f))) → (∀ c o, H c = some o → c ≠ d → c ≠ t → c ≠ h → H' c = some o) → H' h = some (.lst zs') → More H H' zs zs' → Q (.bl true) H'
theorem ok_law_collected (F : Fun K "_law_collected" "_law_collected" s_law_collected f fd) (c : Cs K mg ad) (d_H_collect : MethN P w K mg base ad.Heap 5 "collect" ["self", "values"] (spCollect K ad.Heap)) (d_law_reached : Def P w K mg base 2 "_law_reached" ["_law_things", "_law_values_here"] (spReachedL K)) :
    FnOk P w K mg base CX0 6 f fd ["_law_heap", "_law_things", "_law_values_here", "_law_held"] (spCollected K ad.Heap) := by
  refine F.ok sc_law_collected (fun vs H Q E h => ?_) (fun cdv A outer s H vs Q E hr h => ?_)
  · obtain ⟨p, d, t, v, h, m, made, nm, xs, es, os, zs, rfl, _⟩ := h
    rfl
  obtain ⟨p, d, t, v, h, m, made, nm, xs, es, os, zs, rfl, S, ht, ntd, ri, gm, hn, hv, re, vd, ho, hb, hh, hzl, nvh, q⟩ := h
  have hu := hu_of hr
  have hu64 := hr.units
  refine ⟨_, (pss_cons (ps_set (i := 4) sc_law_collected.nd rfl (by first | exact Or.inl rfl | exact Or.inr rfl) (pe_callTy call_list_of (by rfl) c.list_ bt_list (pa_cons (pv 2) pa_nil)))
      (pss_cons (ps_set (i := 5) sc_law_collected.nd rfl (by first | exact Or.inl rfl | exact Or.inr rfl) (pe_def d_law_reached (hr.mono (by first | decide | omega)) (pa_cons (pv 1) (pa_cons (pv 2) pa_nil))))
      (pss_cons (ps_setC (i := 6) sc_law_collected.nd rfl (by first | exact Or.inl rfl | exact Or.inr rfl) (sc := defScope s_law_collected) (NX := ["_law_heap", "_law_things", "_law_values_here", "_law_held", "_law_handed", "_law_kept", "_law_due", "_law_found", "_law_k"]) (N := ["_law_k", "_law_kept"]) (js := [none, some 5]) (pi_k (K := K) rfl (pe_callB (sortedL_k (K := K) rfl) (by rfl) c.sorted_ bt_sorted (pa_cons (pe_callTy (call_listD rfl) (by rfl) c.list_ bt_list (pa_cons (pv 1) pa_nil)) pa_nil))) (fun _ _ _ _ _ => (pg_name (i := 0) (show (["_law_k", "_law_kept"] : List Str).Nodup by decide +kernel) rfl (Or.inl rfl))) (fun _ _ _ _ _ => (pf_one (pt_cmpR (nin_k (K := K) rfl) (pv 0) (pv 1) rfl))) (fun _ _ _ _ _ => (pv 0)) (own_name rfl) ⟨by decide +kernel, rfl, by decide +kernel, by decide +kernel, rfl, by decide +kernel⟩)
      (pss_cons (ps_set (i := 7) sc_law_collected.nd rfl (by first | exact Or.inl rfl | exact Or.inr rfl) (pe_mN (pv 0) d_H_collect (hr.mono (by first | decide | omega)) (pa_cons (pv 4) pa_nil)))
      (pss_cons (ps_if (PW.pt (pw_or (pt_not (pt_val (pe_callB (isiD_k (K := K) rfl) (by rfl) c.isinstance_ bt_isinstance (pa_cons (pv 7) (pa_cons (pe_ty c.list_ bt_list) pa_nil))))) (pw_or (pt_cmpR (neD_k (K := K) rfl hu64) (pv 7) (pv 6) (nomark _)) (pw_or1 (pt_cmpR (neD_k (K := K) rfl hu64) (pv 4) (pv 2) (nomark _)))))) (pss_one (ps_ret pe_bl)) pss_nil)
      (pss_cons (ps_expr (bm_k (K := K) rfl PySem.F.plainAttrs_list PySem.F.slot_list_append PySem.F.type_list_append mt_append (pv 3) (pa_cons (pe_tup (pa_cons (pv 7) (pa_cons (pv 6) pa_nil))) pa_nil)))
      (pss_cons (ps_for PassesOwn.never rfl (pi_k (K := K) rfl (pv 6)) (pg_name (i := 8) sc_law_collected.nd rfl (by first | exact Or.inl rfl | exact Or.inr rfl)) (pss_one (ps_expr (pe_dpop1 (pv 1) (pv 8) ⟨rfl, rfl, rfl, rfl⟩))))
      (pss_one (ps_ret (pe_cmpR (eqNil_k (K := K) rfl (Nat.lt_of_le_of_lt (Nat.le_add_right _ _) hu64)) (pe_mN (pv 0) d_H_collect (hr.mono (by first | decide | omega)) (pa_cons (pv 2) pa_nil)) (pe_lst pa_nil) (nomark _))))))))))), ?_⟩
  clear hu hu64
  have nc : ∀ dd zz, (flds dd zz).lookup ("collect" : Str) = none := fun dd zz => flds_no _ _ (by decide +kernel) (by decide +kernel)
  have z0 : 0 ≤ sizeLine := Nat.zero_le _
  have big : (2000 : Nat) < sizeLine := by decide
  obtain ⟨⟨dx, h1⟩, hd1⟩ := id S
  have ml : m.length ≤ 50 := by
    have := nodup_len made (keyM m) ri.nodup ri.lt
    rw [keyM_len] at this
    omega
  have kl := keyM_len m
  refine ⟨_, rfl, v, xs, rfl, .inl (SqL.of hv), fun hd hhd => ?_⟩
  have g1 := same_new hhd (.lst xs)
  have t1 : upd H hd (.lst xs) hd = some (.lst xs) := upd_same
  generalize upd H hd (.lst xs) = H1 at g1 t1 ⊢
  refine ⟨_, rfl, _, rfl, t, v, m, made, nm, xs, es, os, rfl, g1 _ _ ht, ri, gm.same g1, hn, g1 _ _ hv, re.same g1, vd, by omega, hb, fun H2 ka g2 nk tk => ?_⟩
  generalize hR : rset (adjM nm) made (nmz os) = R at tk
  have g02 := g1.trans g2
  refine ⟨_, rfl, t, _, _, rfl, g02 _ _ ht, kM_keys m, by rw [List.length_map]; omega, fun l1 n1 => ?_⟩
  have ga := same_new n1 (.lst (((keyM m).map fun n : Nat => (n : Int)).map V.int))
  refine ⟨l1, _, rfl, SqL.of upd_same, by rw [List.length_map]; omega, fun ns p1 p2 l2 n2 => ?_⟩
  rw [up_sorted ri.up p1 p2]
  have g23 := ga.trans (same_new n2 (.lst (natVs (keyM m))))
  have t2 : upd (upd H2 l1 (.lst (((keyM m).map fun n : Nat => (n : Int)).map V.int))) l2 (.lst (natVs (keyM m))) l2 = some (.lst (natVs (keyM m))) := upd_same
  generalize upd (upd H2 l1 (.lst (((keyM m).map fun n : Nat => (n : Int)).map V.int))) l2 (.lst (natVs (keyM m))) = H3 at g23 t2 ⊢
  have g03 := g02.trans g23
  have tk3 := g23 _ _ tk
  have t13 := g23 _ _ (g2 _ _ t1)
  refine .inl ⟨l2, rfl, ⟨_, SqL.of t2⟩, comp_it (keyM m).length (fun i ys H' => H' = H3 ∧ ys = natVs (((keyM m).take i).filter fun k => decide (((k : Nat) : Int) ∉ R))) ⟨rfl, rfl⟩ (fun i ys H' e => ?_) (small (by omega)) (fun i ys H' hi e => ?_) (fun ys H' e => ?_)⟩
  · rw [e.2, natVs_len]
    exact Nat.le_trans (List.length_filter_le _ _) (List.length_take_le _ _)
  · obtain ⟨rfl, rfl⟩ := e
    have hx : (natVs (keyM m))[i]? = some (.int ((keyM m)[i]'hi : Nat)) := by unfold natVs; rw [List.getElem?_map, List.getElem?_eq_getElem hi]; rfl
    refine ⟨⟨_, _, SqL.of t2, hx⟩, fun y H4 yl => ?_⟩
    obtain ⟨rfl, hy⟩ := yl
    have e := hx.symm.trans (hy _ (SqL.of t2))
    cases e
    have hk : (keyM m)[i]? = some ((keyM m)[i]'hi) := List.getElem?_eq_getElem hi
    generalize (keyM m)[i]'hi = k at hk ⊢
    have et : ((keyM m).take (i + 1)).filter (fun k : Nat => decide (((k : Nat) : Int) ∉ R)) = ((keyM m).take i).filter (fun k : Nat => decide (((k : Nat) : Int) ∉ R)) ++ [k].filter (fun k : Nat => decide (((k : Nat) : Int) ∉ R)) := by rw [List.take_add_one, hk, List.filter_append]; rfl
    refine ⟨_, rfl, _, rfl, ka, _, rfl, .inl (SqL.of tk3), rfl, flat_ints R, _, rfl, ?_⟩
    by_cases hm : ((k : Nat) : Int) ∈ R
    · refine iteN (by rw [if_pos rfl, inV_ints, decide_eq_true hm]; rfl) ⟨rfl, ?_⟩
      rw [et, List.filter_cons, if_neg (by simp [hm]), List.filter_nil, List.append_nil]
    · refine iteP (by rw [if_pos rfl, inV_ints, decide_eq_false hm]; rfl) ⟨_, rfl, rfl, ?_⟩
      rw [et, List.filter_cons, if_pos (by simp [hm]), List.filter_nil, natVs_app]
      rfl
  obtain ⟨rfl, rfl⟩ := e
  rw [List.take_length]
  refine ⟨⟨_, SqL.of t2, by rw [natVs_len]; exact Nat.le_refl _⟩, fun du hdu => ?_⟩
  generalize hD : (keyM m).filter (fun k : Nat => decide (((k : Nat) : Int) ∉ R)) = D at hdu ⊢
  have g34 := same_new hdu (.lst (natVs D))
  have tdu : upd H' du (.lst (natVs D)) du = some (.lst (natVs D)) := upd_same
  have du0 : H du = none := same_free g03 hdu
  have g04 := g03.trans g34
  have t14 := g34 _ _ t13
  generalize upd H' du (.lst (natVs D)) = H4 at g34 tdu g04 t14 ⊢
  clear t2 g23 tk3 t13 g03 tk g02 t1 g1 g2 ga
  have re4 := re.same g04
  obtain ⟨⟨dx4, h4⟩, hd4⟩ := id (S.same g04)
  refine ⟨_, rfl, p, dx4, _, rfl, h4, nc _ _, _, rfl, p, d, hd, m, made, nm, xs, es, os, fun f a => Wk (adjM nm) (nmz os) f a, rfl, S.same g04, ri, gm.same g04, by omega, t14, re4, vd, by omega, hb, Wk.start, wk_walk _ _, fun f H5 l5 wj nd lf S5 k5 n5 t5 => ?_⟩
  have hf : ∀ x, x ∈ f ↔ Rch (adjM nm) (nmz os) x := fun x => wj.fin x
  have eD : D = lostM m f := by
    rw [← hD]
    unfold lostM
    refine List.filter_congr fun k hk => ?_
    rw [← hR, Bool.eq_iff_iff, decide_eq_true_eq, decide_eq_true_eq, mem_rset, hf]
    exact not_congr ⟨fun z => z.2, fun z => ⟨ri.lt k hk, z⟩⟩
  rw [eD] at tdu
  have l4 : ∀ e ys, H4 e = some (.lst ys) → H5 e = some (.lst ys) := fun e ys z => k5 e _ z (ne_of z hd4 (by intro w; cases w))
  have tu5 : Tups K H4 H5 := Tups.but [d] (fun b hb => by cases List.mem_singleton.mp hb; exact ⟨_, hd4, wr_dK _⟩) fun b o n e => k5 b o e (fun z => n (List.mem_singleton.mpr z))
  have tdu5 := l4 _ _ tdu
  have re5 := reps_sm tu5 re4 vd.sm
  have gm5 := (gm.same g04).tups tu5
  have hv5 := l4 _ _ (g04 _ _ hv)
  have hh5 := l4 _ _ (g04 _ _ hh)
  have ht5 := k5 _ _ (g04 _ _ ht) ntd
  have l50 : H l5 = none := same_free g04 n5
  have l5u : l5 ≠ du := fun z => by rw [z, tdu] at n5; cases n5
  refine ⟨_, rfl, _, .list (natDs (lostM m f)), "list", rfl, rep_nat t5, by decide, _, rfl, iteN (show (!isi "list" "list") = false by decide) ?_⟩
  refine ⟨_, rfl, _, rfl, _, _, rep_nat t5, rep_nat tdu5, shaped_nat _, shaped_nat _, _, rfl, iteN (by rw [eqv_nat]; rfl) ?_⟩
  refine ⟨_, rfl, _, rfl, .list es, .list es, .lst (SqL.of (l4 _ _ t14)) re5, .lst (SqL.of hv5) re5, shaped_vds vd, shaped_vds vd, _, rfl, iteN (by rw [SeqAt.eqv_refl _ (SeqAt.canLay_of_shaped (shaped_vds vd))]; rfl) ?_⟩
  refine ⟨_, rfl, .inl ⟨rfl, _, SqL.of hh5⟩, _, rfl, _, rfl, (by decide : 2 ≤ sizeLine), fun qa hqa => ?_⟩
  have g6 := same_new hqa (.tup [.ref l5, .ref du])
  have tq : upd H5 qa (.tup [.ref l5, .ref du]) qa = some (.tup [.ref l5, .ref du]) := upd_same
  generalize upd H5 qa (.tup [.ref l5, .ref du]) = H6 at g6 tq ⊢
  have hh6 := g6 _ _ hh5
  refine ⟨h, _, _, rfl, rfl, hh6, by omega, ?_⟩
  have k7 : ∀ b o, b ≠ h → H6 b = some o → upd H6 h (.lst (zs ++ [.ref qa])) b = some o := fun b o n e => by rw [upd_ne n]; exact e
  have tu7 : Tups K H6 (upd H6 h (.lst (zs ++ [.ref qa]))) := Tups.but [h] (fun b hb => by cases List.mem_singleton.mp hb; exact ⟨_, hh6, wr_lst _⟩) fun b o n e => k7 b o (fun z => n (List.mem_singleton.mpr z)) e
  have th7 : upd H6 h (.lst (zs ++ [.ref qa])) h = some (.lst (zs ++ [.ref qa])) := upd_same
  have duh : du ≠ h := fun z => by rw [z, hh] at du0; cases du0
  have l5h : l5 ≠ h := fun z => by rw [z, hh] at l50; cases l50
  have S6 := S5.same g6
  obtain ⟨⟨dx6, h6⟩, hd6⟩ := id S6
  have S7 := S6.keep (H' := upd H6 h (.lst (zs ++ [.ref qa]))) (fun o e => k7 _ _ (ne_of h6 hh6 (by intro z; cases z)) e) fun o e => k7 _ _ (ne_of hd6 hh6 (by intro z; cases z)) e
  have ht7 := k7 _ _ (ne_of (g6 _ _ ht5) hh6 (by intro z; cases z)) (g6 _ _ ht5)
  have tdu7 := k7 _ _ duh (g6 _ _ tdu5)
  have t57 := k7 _ _ l5h (g6 _ _ t5)
  have tq7 := k7 _ _ (ne_of tq hh6 (by intro z; cases z)) tq
  have hv7 := k7 _ _ nvh (g6 _ _ hv5)
  have re7 := reps_sm tu7 (re5.same g6) vd.sm
  have gm7 := (gm5.same g6).tups tu7
  have kH7 : ∀ c o, H c = some o → c ≠ d → c ≠ h → upd H6 h (.lst (zs ++ [.ref qa])) c = some o := fun c o e n1 n2 => k7 _ _ n2 (g6 _ _ (k5 c o (g04 _ _ e) n1))
  clear tu7 k7 tu5 l4 S6 h6 hd6 hh6 tq g6 re5 gm5 hv5 hh5 ht5 tdu5 t5 k5 S5 re4 h4 hd4 t14 g04 tdu
  generalize upd H6 h (.lst (zs ++ [.ref qa])) = H7 at th7 S7 ht7 tdu7 t57 tq7 hv7 re7 gm7 kH7 ⊢
  have inL : ∀ {k : Nat}, k ∈ lostM m f → k ∈ keyM m ∧ k ∉ f := fun h => by
    obtain ⟨h1, h2⟩ := List.mem_filter.mp h
    exact ⟨h1, of_decide_eq_true h2⟩
  have ndL : (lostM m f).Nodup := ri.nodup.filter _
  refine ⟨_, rfl, .inl ⟨du, rfl, ⟨_, SqL.of tdu7⟩, for_it (lostM m f).length (fun i σ Hc => ∃ o8, σ = [some (.ref p), some (.ref t), some (.ref v), some (.ref h), some (.ref hd), some (.ref ka), some (.ref du), some (.ref l5), o8] ∧ Hc t = some (.dK (kM (m.filter fun q => decide (q.1 ∉ (lostM m f).take i)))) ∧ ∀ c o, c ≠ t → H7 c = some o → Hc c = some o) ⟨none, rfl, ?_, fun c o _ e => e⟩ (fun i σ Hc hi hP => ?_) (fun σ Hc hP => ?_)⟩⟩
  · rw [List.take_zero, List.filter_eq_self.mpr fun q _ => by simp]
    exact ht7
  · obtain ⟨o8, rfl, tc, kc⟩ := hP
    have tduc := kc _ _ (ne_of tdu7 ht7 (by intro z; cases z)) tdu7
    have hx : (natVs (lostM m f))[i]? = some (.int ((lostM m f)[i]'hi : Nat)) := by unfold natVs; rw [List.getElem?_map, List.getElem?_eq_getElem hi]; rfl
    refine ⟨⟨_, _, SqL.of tduc, hx⟩, fun y H8 yl => ?_⟩
    obtain ⟨rfl, hy⟩ := yl
    have e := hx.symm.trans (hy _ (SqL.of tduc))
    cases e
    have hk : (lostM m f)[i]? = some ((lostM m f)[i]'hi) := List.getElem?_eq_getElem hi
    have nt : (lostM m f)[i]'hi ∉ (lostM m f).take i := fun h => by
      obtain ⟨j, hj, ej⟩ := List.getElem_of_mem h
      rw [List.getElem_take] at ej
      rw [List.length_take] at hj
      exact List.pairwise_iff_getElem.mp ndL j i (by omega) hi (by omega) ej
    generalize (lostM m f)[i]'hi = k at hk nt hx hy ⊢
    have hkm := inL (List.mem_of_getElem? hk)
    have hin : k ∈ keyM (m.filter fun q => decide (q.1 ∉ (lostM m f).take i)) := by
      obtain ⟨q, hq, rfl⟩ := List.mem_map.mp hkm.1
      exact List.mem_map.mpr ⟨q, List.mem_filter.mpr ⟨hq, decide_eq_true nt⟩, rfl⟩
    obtain ⟨u, hu, _⟩ := getM_in hin
    refine ⟨_, rfl, t, rfl, .inl ⟨_, .inl tc⟩, _, rfl, _, Sum.inl ((k : Nat) : Int), u, tc, rfl, by rw [kM_val]; exact hu, ?_⟩
    rw [kM_drop]
    have ed : dropM (m.filter fun q => decide (q.1 ∉ (lostM m f).take i)) k = m.filter fun q => decide (q.1 ∉ (lostM m f).take (i + 1)) := by
      unfold dropM
      rw [List.filter_filter]
      refine List.filter_congr fun q _ => ?_
      rw [List.take_add_one, hk, Bool.eq_iff_iff, Bool.and_eq_true, decide_eq_true_eq, decide_eq_true_eq, decide_eq_true_eq, List.mem_append]
      simp only [Option.toList_some, List.mem_singleton, not_or]
      exact ⟨fun ⟨a, b⟩ => ⟨b, a⟩, fun ⟨a, b⟩ => ⟨b, a⟩⟩
    rw [ed]
    exact ⟨_, rfl, upd_same, fun c o n e => by rw [upd_ne n]; exact kc c o n e⟩
  obtain ⟨o8, rfl, tc, kc⟩ := hP
  have lk : ∀ e ys, H7 e = some (.lst ys) → Hc e = some (.lst ys) := fun e ys z => kc e _ (ne_of z ht7 (by intro w; cases w)) z
  refine ⟨⟨_, SqL.of (lk _ _ tdu7), by rw [natVs_len]; exact Nat.le_refl _⟩, ?_⟩
  have ek : (m.filter fun q => decide (q.1 ∉ (lostM m f).take (lostM m f).length)) = keepM m f := by
    unfold keepM
    refine List.filter_congr fun q hq => ?_
    rw [List.take_length, Bool.eq_iff_iff, decide_eq_true_eq, decide_eq_true_eq]
    refine ⟨fun h => Decidable.byContradiction fun hn => h (List.mem_filter.mpr ⟨List.mem_map.mpr ⟨q, hq, rfl⟩, decide_eq_true hn⟩), fun h hn => (inL hn).2 h⟩
  rw [ek] at tc
  have tu8 : Tups K H7 Hc := Tups.but [t] (fun b hb => by cases List.mem_singleton.mp hb; exact ⟨_, ht7, wr_dK _⟩) fun b o n e => kc b o (fun z => n (List.mem_singleton.mpr z)) e
  obtain ⟨⟨dx7, h7⟩, hd7⟩ := id S7
  have S8 := S7.keep (H' := Hc) (fun o e => kc _ _ (ne_of h7 ht7 (by intro z; cases z)) e) fun o e => kc _ _ (Ne.symm ntd) e
  have re8 := reps_sm tu8 re7 vd.sm
  have gm8 := (gm7.tups tu8).keep hf
  obtain ⟨⟨dx8, h8⟩, hd8⟩ := id S8
  refine ⟨_, rfl, p, dx8, _, rfl, h8, nc _ _, _, rfl, p, d, v, keepM m f, made, nm, xs, es, os, fun f a => Wk (adjM nm) (nmz os) f a, rfl, S8, ri.keep, gm8, by omega, lk _ _ hv7, re8, vd, by omega, fun k hk => mem_keep.mpr ⟨hb k hk, (hf k).mpr (.base (mem_nmz.mpr hk))⟩, Wk.start, wk_walk _ _, fun f2 H9 l9 wj2 nd2 lf2 S9 k9 n9 t9 => ?_⟩
  have same2 : ∀ x, x ∈ f2 ↔ x ∈ f := fun x => (wj2.fin x).trans (hf x).symm
  rw [keep_all same2] at S9
  rw [lost_none same2] at t9
  refine ⟨z0, fun em hem => ?_⟩
  have ge := same_new hem (.lst [])
  refine ⟨l9, em, _, rfl, rfl, SqL.of (ge _ _ t9), SqL.of upd_same, ?_⟩
  have k79 : ∀ c o, H7 c = some o → c ≠ t → c ≠ d → upd H9 em (.lst []) c = some o := fun c o e n1 n2 => ge _ _ (k9 c o (kc c o n1 e) n2)
  have lt7 : ∀ e ys, H7 e = some (.lst ys) → upd H9 em (.lst []) e = some (.lst ys) := fun e ys z => k79 e _ z (ne_of z ht7 (by intro w; cases w)) (ne_of z hd7 (by intro w; cases w))
  refine q _ (zs ++ [.ref qa]) f hf (S9.same ge) (ge _ _ (k9 _ _ tc ntd)) (fun c o e n1 n2 n3 => k79 c o (kH7 c o e n1 n3) n2 n1) (lt7 _ _ th7) ⟨qa, l5, du, lostM m f, rfl, ?_, lt7 _ _ t57, lt7 _ _ tdu7, l50, du0⟩
  exact k79 _ _ tq7 (ne_of tq7 ht7 (by intro w; cases w)) (ne_of tq7 hd7 (by intro w; cases w))
end
end Mine

namespace Mine
open PySem L2 Grf
noncomputable def link (k : Nat) : List (Option Nat) := if k = 0 then [none] else [some (k - 1)]
theorem link_len (k : Nat) : (link k).length ≤ 100 := by
  unfold link
  split <;> exact Nat.le_of_ble_eq_true rfl
theorem link_lt {k j : Nat} (h : some j ∈ link k) : j < k := by
  unfold link at h
  split at h
  · cases List.mem_singleton.mp h
  · cases List.mem_singleton.mp h
    omega
theorem link_adj (k : Nat) : adjM link k = if k = 0 then [] else [k - 1] := by
  unfold adjM link
  split <;> rfl
theorem ris_range {m : Mp} {n : Nat} (h : keyM m = List.range n) : Ris m n := ⟨by rw [h]; exact List.pairwise_lt_range, fun x hx => by rw [h] at hx; exact List.mem_range.mp hx⟩
theorem range_len {m : Mp} {n : Nat} (h : keyM m = List.range n) : m.length = n := by rw [← keyM_len, h, List.length_range]
theorem keyM_app (m : Mp) (n : Nat) (v : V) : keyM (m ++ [(n, v)]) = keyM m ++ [n] := List.map_append
theorem ch_reach {a : Nat} (x : Nat) : Rch (adjM link) [a, 0] x ↔ x ≤ a := by
  constructor
  · intro h
    induction h with
    | base h =>
      simp only [List.mem_cons, List.not_mem_nil, or_false] at h
      omega
    | step h e ih =>
      rw [link_adj] at e
      split at e
      · cases e
      · rw [List.mem_singleton.mp e]
        omega
  · intro h
    obtain ⟨j, rfl⟩ : ∃ j, a = x + j := ⟨a - x, by omega⟩
    have go : ∀ i, i ≤ j → Rch (adjM link) [x + j, 0] (x + j - i) := fun i => by
      induction i with
      | zero => intro _; exact .base List.mem_cons_self
      | succ i ih =>
        intro hi
        refine .step (ih (by omega)) ?_
        rw [link_adj, if_neg (by omega), List.mem_singleton]
        omega
    have := go j (Nat.le_refl _)
    rwa [Nat.add_sub_cancel] at this
theorem range_cut {a n : Nat} (h : a < n) : List.range n = List.range (a + 1) ++ List.range' (a + 1) (n - (a + 1)) := by
  rw [List.range_eq_range', List.range_eq_range']
  have e := List.range'_append_1 (s := 0) (m := a + 1) (n := n - (a + 1))
  rw [Nat.zero_add] at e
  rw [e]
  congr 1
  omega
theorem cut_lost {m : Mp} {n a : Nat} {f : List Nat} (hk : keyM m = List.range n) (h : a < n) (hf : ∀ x, x ∈ f ↔ x ≤ a) : lostM m f = List.range' (a + 1) (n - (a + 1)) := by
  unfold lostM
  rw [hk, range_cut h, List.filter_append, List.filter_eq_nil_iff.mpr, List.filter_eq_self.mpr, List.nil_append]
  · intro x hx
    have := (List.mem_range'_1.mp hx).1
    exact decide_eq_true fun z => by have := (hf x).mp z; omega
  · intro x hx
    have := List.mem_range.mp hx
    rw [decide_eq_true_eq]
    exact fun z => z ((hf x).mpr (by omega))
theorem cut_keep {m : Mp} {n a : Nat} {f : List Nat} (hk : keyM m = List.range n) (h : a < n) (hf : ∀ x, x ∈ f ↔ x ≤ a) : keyM (keepM m f) = List.range (a + 1) := by
  rw [keepM_keys, hk, range_cut h, List.filter_append, List.filter_eq_self.mpr, List.filter_eq_nil_iff.mpr, List.append_nil]
  · intro x hx
    have := (List.mem_range'_1.mp hx).1
    rw [decide_eq_true_eq]
    exact fun z => by have := (hf x).mp z; omega
  · intro x hx
    have := List.mem_range.mp hx
    exact decide_eq_true ((hf x).mpr (by omega))
theorem no_reach {adj : Nat → List Nat} {x : Nat} (h : Rch adj [] x) : False := by
  induction h with
  | base h => cases h
  | step _ _ ih => exact ih
theorem keep_nil (m : Mp) {f : List Nat} (hf : ∀ x, ¬ x ∈ f) : keepM m f = [] := List.filter_eq_nil_iff.mpr fun q _ => by rw [decide_eq_true_eq]; exact hf _
theorem lost_nil (m : Mp) {f : List Nat} (hf : ∀ x, ¬ x ∈ f) : lostM m f = keyM m := List.filter_eq_self.mpr fun q _ => decide_eq_true (hf _)
section
variable {P : Program} {w : World} {K : PySem.W.Frag} {mg : Str → Option Value} {base : Heap} {f : Addr} {fd : FuncData} {ad : Ad}
noncomputable def spChain : Sp := fun vs H Q _ => ∃ ce : Int, vs = [.int ce] ∧ 0 ≤ ce ∧ ∀ H', Q (.bl true) H'
theorem put_tups {C p d : Addr} {H H' : Hp} {m : Mp} {made : Nat} (S : HeapAt C H p d m made) (k : ∀ c o, H c = some o → c ≠ p → c ≠ d → H' c = some o) : Tups K H H' := by
  obtain ⟨⟨dx, h1⟩, hd⟩ := id S
  exact Tups.but [p, d] (fun b hb => by
    simp only [List.mem_cons, List.not_mem_nil, or_false] at hb
    rcases hb with rfl | rfl
    · exact ⟨_, h1, wr_ins _ _ _⟩
    · exact ⟨_, hd, wr_dK _⟩) fun b o n e => by
    simp only [List.mem_cons, List.not_mem_nil, or_false, not_or] at n
    exact k b o e n.1 n.2
noncomputable def ChP (K : PySem.W.Frag) (C p d : Addr) (ce : Int) (N i : Nat) (σ : St) (Hc : Hp) : Prop := ∃ (o3 o4 : Option V) (m : Mp), σ = [some (.int ce), some (.ref p), some (.int (N : Nat)), o3, o4] ∧ HeapAt C Hc p d m (i + 1) ∧ keyM m = List.range (i + 1) ∧ GM K Hc m link
theorem ok_law_chain (F : Fun K "_law_chain" "_law_chain" s_law_chain f fd) (c : Cs K mg ad) (d_Heap : MakeN P w K mg base "Heap" ad.Heap 1 (spInit ad.Heap)) (d_H_put : MethN P w K mg base ad.Heap 1 "put" ["self", "thing"] (spPut ad.Heap)) (d_H_numbers : MethN P w K mg base ad.Heap 1 "numbers" ["self"] (spNumbers ad.Heap))
    (d_H_collect : MethN P w K mg base ad.Heap 5 "collect" ["self", "values"] (spCollect K ad.Heap)) : FnOk P w K mg base CX0 6 f fd ["_law_cell"] spChain := by
  refine F.ok sc_law_chain (fun vs H Q E h => ?_) (fun cdv A outer s H vs Q E hr h => ?_)
  · obtain ⟨ce, rfl, _⟩ := h
    rfl
  obtain ⟨ce, rfl, c0, qq⟩ := h
  have hu64 := hr.units
  refine ⟨_, (pss_cons (ps_set (i := 1) sc_law_chain.nd rfl (by first | exact Or.inl rfl | exact Or.inr rfl) (pe_mk0 d_Heap (hr.mono (by first | decide | omega))))
      (pss_cons (ps_set (i := 2) sc_law_chain.nd rfl (by first | exact Or.inl rfl | exact Or.inr rfl) (pe_op op_plus pe_int (pe_op op_mod (pv 0) pe_int)))
      (pss_cons (ps_expr (pe_mN (pv 1) d_H_put (hr.mono (by first | decide | omega)) (pa_cons (pe_tup (pa_cons pe_str (pa_cons pe_non pa_nil))) pa_nil)))
      (pss_cons (ps_for PassesOwn.never rfl (pi_range2 rfl c.range_ (pa_cons pe_int (pa_cons (pv 2) pa_nil))) (pg_name (i := 3) sc_law_chain.nd rfl (by first | exact Or.inl rfl | exact Or.inr rfl)) (pss_one (ps_expr (pe_mN (pv 1) d_H_put (hr.mono (by first | decide | omega)) (pa_cons (pe_tup (pa_cons pe_str (pa_cons (pe_tup (pa_cons pe_str (pa_cons (pe_op op_sub (pv 3) pe_int) pa_nil))) pa_nil))) pa_nil)))))
      (pss_cons (ps_set (i := 4) sc_law_chain.nd rfl (by first | exact Or.inl rfl | exact Or.inr rfl) (pe_op op_mod (pe_op op_fdiv (pv 0) pe_int) (pv 2)))
      (pss_cons (ps_if (pt_cmpR (neD_k (K := K) rfl hu64) (pe_mN (pv 1) d_H_collect (hr.mono (by first | decide | omega)) (pa_cons (pe_lst (pa_cons (pe_tup (pa_cons pe_str (pa_cons (pv 4) pa_nil))) (pa_cons (pe_tup (pa_cons pe_str (pa_cons pe_int pa_nil))) pa_nil))) pa_nil)) (pe_callTy (call_list2 rfl) (by rfl) c.list_ bt_list (pa_cons (pe_callTy call_rng2 (by rfl) c.range_ bt_range (pa_cons (pe_op op_plus (pv 4) pe_int) (pa_cons (pv 2) pa_nil))) pa_nil)) (nomark _)) (pss_one (ps_ret pe_bl)) pss_nil)
      (pss_cons (ps_if (pt_cmpR (neD_k (K := K) rfl hu64) (pe_mN0 (pv 1) d_H_numbers (hr.mono (by first | decide | omega))) (pe_callTy (call_listN rfl) (by rfl) c.list_ bt_list (pa_cons (pe_callTy call_rngN (by rfl) c.range_ bt_range (pa_cons (pe_op op_plus (pv 4) pe_int) pa_nil)) pa_nil)) (nomark _)) (pss_one (ps_ret pe_bl)) pss_nil)
      (pss_one (ps_ret (pe_and (pe_cmpR (eqD_k (K := K) rfl hu64) (pe_mN (pv 1) d_H_collect (hr.mono (by first | decide | omega)) (pa_cons (pe_lst pa_nil) pa_nil)) (pe_callTy (call_listN rfl) (by rfl) c.list_ bt_list (pa_cons (pe_callTy call_rngN (by rfl) c.range_ bt_range (pa_cons (pe_op op_plus (pv 4) pe_int) pa_nil)) pa_nil)) (nomark _)) (pe_and (pe_cmpR (eqNil_k (K := K) rfl (Nat.lt_of_le_of_lt (Nat.le_add_right _ _) hu64)) (pe_mN0 (pv 1) d_H_numbers (hr.mono (by first | decide | omega))) (pe_lst pa_nil) (nomark _)) (pe_one (pe_cmpR op_eq (pe_mN (pv 1) d_H_put (hr.mono (by first | decide | omega)) (pa_cons (pe_tup (pa_cons pe_str (pa_cons pe_non pa_nil))) pa_nil)) (pv 2) (nomark _)))))))))))))), ?_⟩
  clear hu64
  have nc : ∀ dd zz, (flds dd zz).lookup ("collect" : Str) = none := fun dd zz => flds_no _ _ (by decide +kernel) (by decide +kernel)
  have nk : ∀ dd zz, (flds dd zz).lookup ("numbers" : Str) = none := fun dd zz => flds_no _ _ (by decide +kernel) (by decide +kernel)
  have np : ∀ dd zz, (flds dd zz).lookup ("put" : Str) = none := fun dd zz => flds_no _ _ (by decide +kernel) (by decide +kernel)
  have p200 : (0 : Int) < 200 := by decide
  have s2 : 2 ≤ sizeLine := by decide
  have s0 : 0 ≤ sizeLine := Nat.zero_le _
  intro p dx0 n0 nd0 ne0
  refine ⟨p, dx0, rfl, upd_same, fun d H1 f0 S0 k0 => ⟨rfl, ?_⟩⟩
  clear k0 f0
  obtain ⟨N, eN, N0, N1⟩ : ∃ N : Nat, (1000 : Int) + ce % 200 = (N : Nat) ∧ 1000 ≤ N ∧ N < 1200 := by
    have h0 := Int.emod_nonneg ce (show (200 : Int) ≠ 0 by decide)
    have h1 := Int.emod_lt_of_pos ce p200
    exact ⟨(1000 + ce % 200).toNat, by omega, by omega, by omega⟩
  refine ⟨_, rfl, _, _, rfl, rfl, p200, .inl ⟨_, _, rfl, rfl, ?_⟩⟩
  dsimp only
  rw [eN]
  obtain ⟨⟨dx, h1⟩, _⟩ := id S0
  refine ⟨_, rfl, p, dx, _, rfl, h1, np _ _, s2, fun b hb => ?_⟩
  have gb := same_new hb (.tup [.str "box", .non])
  have tb : upd H1 b (.tup [.str "box", .non]) b = some (.tup [.str "box", .non]) := upd_same
  generalize upd H1 b (.tup [.str "box", .non]) = H2 at gb tb ⊢
  have S2 := S0.same gb
  refine ⟨p, d, [], 0, .ref b, rfl, S2, ris_range rfl, by decide, fun H3 hp3 k3 => ?_⟩
  have tu := put_tups (K := K) S2 k3
  have rb : Rep K H3 (.ref b) (.tuple [.str "box", .none]) := .tup (tu _ _ (SqT.of tb)) (.cons (.str _) (.cons .non .nil))
  refine ⟨_, rfl, 1, (N : Int), rfl, ⟨by decide, by decide, by omega, by omega⟩, ?_⟩
  refine for_it ((N : Int) - 1).toNat (ChP K ad.Heap p d ce N) ⟨none, none, [(0, .ref b)], rfl, hp3, rfl, fun q hq => ?_⟩ (fun i σ Hc hi hP => ?_) (fun σ Hc hP => ?_)
  · cases List.mem_singleton.mp hq
    exact ⟨_, rb, .box .non, link_len _, fun k hk => absurd (link_lt hk) (Nat.not_lt_zero _)⟩
  · obtain ⟨o3, o4, m, rfl, S, km, gm⟩ := hP
    refine ⟨hi, fun v H4 yl => ?_⟩
    obtain ⟨rfl, rfl⟩ := yl
    obtain ⟨⟨dy, h1⟩, _⟩ := id S
    have e1 : (1 : Int) + (i : Nat) - 1 = ((i : Nat) : Int) := by omega
    refine ⟨_, rfl, p, dy, _, rfl, h1, np _ _, _, rfl, _, _, rfl, rfl, s2, fun u hu => ⟨s2, fun x hx => ?_⟩⟩
    dsimp only at hx ⊢
    rw [e1] at hx ⊢
    have g5 := (same_new hu (.tup [.str "thing", .int (i : Nat)])).trans (same_new hx (.tup [.str "box", .ref u]))
    have tuu := same_new hx (.tup [.str "box", .ref u]) _ _ (show upd H4 u (.tup [.str "thing", .int (i : Nat)]) u = some (.tup [.str "thing", .int (i : Nat)]) from upd_same)
    have txx : upd (upd H4 u (.tup [.str "thing", .int (i : Nat)])) x (.tup [.str "box", .ref u]) x = some (.tup [.str "box", .ref u]) := upd_same
    generalize upd (upd H4 u (.tup [.str "thing", .int (i : Nat)])) x (.tup [.str "box", .ref u]) = H5 at g5 tuu txx ⊢
    have S5 := S.same g5
    have ml := range_len km
    refine ⟨p, d, m, i + 1, .ref x, rfl, S5, ris_range km, by omega, fun H6 hp6 k6 => ?_⟩
    have tu6 := put_tups (K := K) S5 k6
    have rx : Rep K H6 (.ref x) (.tuple [.str "box", .tuple [.str "thing", .int (i : Nat)]]) := .tup (tu6 _ _ (SqT.of txx)) (.cons (.str _) (.cons (.tup (tu6 _ _ (SqT.of tuu)) (.cons (.str _) (.cons (.int _) .nil))) .nil))
    have tx : TD (.tuple [.str "box", .tuple [.str "thing", .int (i : Nat)]]) (link (i + 1)) := .box (.thg i)
    have km2 : keyM (m ++ [(i + 1, .ref x)]) = List.range (i + 1 + 1) := by rw [keyM_app, km, List.range_succ (n := i + 1)]
    refine ⟨_, _, m ++ [(i + 1, .ref x)], rfl, hp6, km2, fun q hq => ?_⟩
    rcases List.mem_append.mp hq with z | z
    · obtain ⟨e, r, t, l, b'⟩ := (gm.same g5).tups tu6 q z
      refine ⟨e, r, t, l, fun k hk => ?_⟩
      rw [keyM_app]
      exact List.mem_append_left _ (b' k hk)
    · cases List.mem_singleton.mp z
      refine ⟨_, rx, tx, link_len _, fun k hk => ?_⟩
      rw [km2, List.mem_range]
      have := link_lt hk
      omega
  obtain ⟨o3, o4, m, rfl, S, km, gm⟩ := hP
  refine ⟨Nat.le_refl _, ?_⟩
  have eN2 : ((N : Int) - 1).toNat + 1 = N := by omega
  rw [eN2] at S km
  obtain ⟨⟨dy, h1⟩, hd1⟩ := id S
  obtain ⟨at', ea, ha⟩ := mod_nat (a := ce / 200) (show (0 : Int) < (N : Nat) by omega)
  refine ⟨_, rfl, _, _, rfl, rfl, ⟨by decide, by decide⟩, _, rfl, _, _, rfl, rfl, (show (0 : Int) < (N : Nat) by omega), ?_⟩
  dsimp only
  rw [ea]
  -- what is above is lost
  refine ⟨_, rfl, p, dy, _, rfl, h1, nc _ _, _, rfl, s2, fun u hu => ⟨s2, fun u2 hu2 => ⟨s2, fun lv hlv => ?_⟩⟩⟩
  have g1 := same_new hu (.tup [.str "thing", .int (at' : Nat)])
  have g2 := same_new hu2 (.tup [.str "thing", .int 0])
  have g3 := same_new hlv (.lst [.ref u, .ref u2])
  have tu1 := g3 _ _ (g2 _ _ (show upd Hc u (.tup [.str "thing", .int (at' : Nat)]) u = some (.tup [.str "thing", .int (at' : Nat)]) from upd_same))
  have tu2 := g3 _ _ (show upd (upd Hc u (.tup [.str "thing", .int (at' : Nat)])) u2 (.tup [.str "thing", .int 0]) u2 = some (.tup [.str "thing", .int 0]) from upd_same)
  have tll : upd (upd (upd Hc u (.tup [.str "thing", .int (at' : Nat)])) u2 (.tup [.str "thing", .int 0])) lv (.lst [.ref u, .ref u2]) lv = some (.lst [.ref u, .ref u2]) := upd_same
  have g5 := (g1.trans g2).trans g3
  clear g1 g2 g3
  dsimp only [tNil]
  generalize upd (upd (upd Hc u (.tup [.str "thing", .int (at' : Nat)])) u2 (.tup [.str "thing", .int 0])) lv (.lst [.ref u, .ref u2]) = H5 at g5 tu1 tu2 tll ⊢
  have hat : at' < N := by omega
  refine ⟨p, d, lv, m, N, link, _, _, [some at', some 0], fun f a => Wk (adjM link) [at', 0] f a, rfl, S.same g5, ris_range km, gm.same g5, by omega, tll, .cons (.tup (SqT.of tu1) (.cons (.str _) (.cons (.int _) .nil))) (.cons (.tup (SqT.of tu2) (.cons (.str _) (.cons (.int _) .nil))) .nil), .cons (.thg at') (.cons (show VD (.tuple [.str "thing", .int 0]) (some 0) from .thg 0) .nil), (by decide : 2 ≤ 500), fun k hk => ?_, Wk.start, wk_walk _ _, fun f H6 l6 wj nd lf S6 k6 n6 t6 => ?_⟩
  · rw [km, List.mem_range]
    simp only [List.mem_cons, List.not_mem_nil, or_false, Option.some.injEq] at hk
    omega
  have hf : ∀ x, x ∈ f ↔ x ≤ at' := fun x => (wj.fin x).trans (ch_reach x)
  rw [cut_lost km hat hf] at t6
  have km6 := cut_keep km hat hf
  refine ⟨_, rfl, .inl ⟨_, _, rfl, rfl, _, rfl, at' + 1, N, rfl, by omega, by omega, fun r hr0 => ⟨r, at' + 1, N, rfl, upd_same, by omega, by omega, fun nb hnb => ?_⟩⟩⟩
  have g7 := (same_new hr0 (.rng (at' + 1 : Nat) N)).trans (same_new hnb (.lst (fromV (at' + 1) N)))
  have t7 : upd (upd H6 r (.rng (at' + 1 : Nat) N)) nb (.lst (fromV (at' + 1) N)) nb = some (.lst (natVs (List.range' (at' + 1) (N - (at' + 1))))) := upd_same
  generalize upd (upd H6 r (.rng (at' + 1 : Nat) N)) nb (.lst (fromV (at' + 1) N)) = H7 at g7 t7 ⊢
  have t6' := g7 _ _ t6
  refine ⟨_, _, rep_nat t6', rep_nat t7, shaped_nat _, shaped_nat _, _, rfl, iteN (by rw [eqv_nat]; rfl) ?_⟩
  have S7 := S6.same g7
  have ri7 : Ris (keepM m f) N := (ris_range km).keep
  have ml7 := range_len km6
  have tu6 : Tups K H5 H6 := Tups.but [d] (fun b hb => by cases List.mem_singleton.mp hb; exact ⟨_, g5 _ _ hd1, wr_dK _⟩) fun b o n e => k6 b o e (fun z => n (List.mem_singleton.mpr z))
  have gm7 := (((gm.same g5).tups tu6).keep (fun x => wj.fin x)).same g7
  clear tu6 t6' t7 t6 g7 tll tu1 tu2 hlv hu hu2 hnb hr0 n6 gm S h1 hd1 k6 g5
  generalize keepM m f = m7 at S6 S7 ri7 km6 ml7 gm7 ⊢
  -- what is left
  obtain ⟨⟨dz, h7⟩, _⟩ := id S7
  refine ⟨_, rfl, p, dz, _, rfl, h7, nk _ _, p, d, m7, N, rfl, S7, ri7, by omega, fun l8 n8 => ?_⟩
  have g8 := same_new n8 (.lst (natVs (keyM m7)))
  have t8 : upd H7 l8 (.lst (natVs (keyM m7))) l8 = some (.lst (natVs (keyM m7))) := upd_same
  generalize upd H7 l8 (.lst (natVs (keyM m7))) = H8 at g8 t8 ⊢
  rw [km6] at t8
  refine ⟨_, rfl, .inl ⟨_, _, rfl, rfl, at' + 1, rfl, by omega, fun r hr0 => ⟨r, at' + 1, rfl, upd_same, by omega, fun nb hnb => ?_⟩⟩⟩
  have ga := (same_new hr0 (.rng 0 (at' + 1 : Nat))).trans (same_new hnb (.lst (natsV (at' + 1))))
  have ta : upd (upd H8 r (.rng 0 (at' + 1 : Nat))) nb (.lst (natsV (at' + 1))) nb = some (.lst (natVs (List.range (at' + 1)))) := upd_same
  generalize upd (upd H8 r (.rng 0 (at' + 1 : Nat))) nb (.lst (natsV (at' + 1))) = Ha at ga ta ⊢
  refine ⟨_, _, rep_nat (ga _ _ t8), rep_nat ta, shaped_nat _, shaped_nat _, _, rfl, iteN (by rw [eqv_nat]; rfl) ?_⟩
  have Sa := S7.same (g8.trans ga)
  have gma := gm7.same (g8.trans ga)
  clear ta ga t8 g8 n8 h7 S7 S6 hr0 hnb
  -- and then nothing
  obtain ⟨⟨da, ha'⟩, _⟩ := id Sa
  refine ⟨_, rfl, p, da, _, rfl, ha', nc _ _, s0, fun em hem => ?_⟩
  have gb := same_new hem (.lst [])
  have te : upd Ha em (.lst []) em = some (.lst []) := upd_same
  dsimp only [tNil]
  generalize upd Ha em (.lst []) = Hb at gb te ⊢
  refine ⟨p, d, em, m7, N, link, [], [], [], fun f a => Wk (adjM link) [] f a, rfl, Sa.same gb, ri7, gma.same gb, by omega, te, .nil, .nil, (by decide : 0 ≤ 500), fun k hk => (by cases hk), Wk.start, wk_walk _ _, fun f2 Hc2 l9 wj2 nd2 lf2 S9 k9 n9 t9 => ?_⟩
  have no : ∀ x, ¬ x ∈ f2 := fun x hx => no_reach ((wj2.fin x).mp hx)
  rw [keep_nil _ no] at S9
  rw [lost_nil _ no, km6] at t9
  refine ⟨_, rfl, .inl ⟨_, _, rfl, rfl, at' + 1, rfl, by omega, fun r hr0 => ⟨r, at' + 1, rfl, upd_same, by omega, fun nb hnb => ?_⟩⟩⟩
  have gc := (same_new hr0 (.rng 0 (at' + 1 : Nat))).trans (same_new hnb (.lst (natsV (at' + 1))))
  have tc : upd (upd Hc2 r (.rng 0 (at' + 1 : Nat))) nb (.lst (natsV (at' + 1))) nb = some (.lst (natVs (List.range (at' + 1)))) := upd_same
  generalize upd (upd Hc2 r (.rng 0 (at' + 1 : Nat))) nb (.lst (natsV (at' + 1))) = Hd at gc tc ⊢
  refine ⟨_, _, rep_nat (gc _ _ t9), rep_nat tc, shaped_nat _, shaped_nat _, _, rfl, iteP (eqv_nat _) ?_⟩
  have Sd := S9.same gc
  clear tc gc t9 k9 n9 S9 hr0 hnb te gb Sa gma ha'
  obtain ⟨⟨dd, hd'⟩, _⟩ := id Sd
  have ri0 : Ris [] N := ⟨List.Pairwise.nil, fun _ h => by cases h⟩
  refine ⟨_, rfl, p, dd, _, rfl, hd', nk _ _, p, d, [], N, rfl, Sd, ri0, Nat.zero_le _, fun la na => ?_⟩
  have ge := same_new na (.lst (natVs (keyM [])))
  have te : upd Hd la (.lst (natVs (keyM []))) la = some (.lst []) := upd_same
  generalize upd Hd la (.lst (natVs (keyM []))) = He at ge te ⊢
  refine ⟨s0, fun lb nb => ⟨la, lb, [], rfl, rfl, SqL.of (same_new nb (.lst []) _ _ te), SqL.of upd_same, _, rfl, iteP rfl ?_⟩⟩
  have gf := ge.trans (same_new nb (.lst []))
  generalize upd He lb (.lst []) = Hf at gf ⊢
  have Sf := Sd.same gf
  obtain ⟨⟨df, hf'⟩, _⟩ := id Sf
  refine ⟨_, rfl, p, df, _, rfl, hf', np _ _, s2, fun x hx => ?_⟩
  refine ⟨p, d, [], N, .ref x, rfl, Sf.same (same_new hx _), ri0, Nat.zero_le _, fun H9 _ _ => ⟨_, rfl, rfl, ?_⟩⟩
  rw [decide_eq_true rfl]
  exact qq _
end
end Mine

namespace Mine
open PySem L2 Grf
structure Sd (K : PySem.W.Frag) (C : Addr) (H : Hp) (p d t : Addr) (m : Mp) (made : Nat) : Prop where
  hp : HeapAt C H p d m made
  ht : H t = some (.dK (kM m))
  ri : Ris m made
  gm : ∃ nm, GM K H m nm
noncomputable def Held (H : Hp) (ban : List Addr) (zs : List V) : Prop := ∀ z ∈ zs, ∃ (q a b : Addr) (ks : List Nat), z = .ref q ∧ H q = some (.tup [.ref a, .ref b]) ∧ H a = some (.lst (natVs ks)) ∧ H b = some (.lst (natVs ks)) ∧ a ∉ ban ∧ b ∉ ban
structure Pl where
  p : Bool → Addr
  d : Bool → Addr
  t : Bool → Addr
  hs : Addr
  th : Addr
  cn : Addr
  sl : Addr
  h : Addr
noncomputable abbrev Pl.ban (L : Pl) : List Addr := [L.cn, L.h]
noncomputable abbrev Pl.wrt (L : Pl) (b : Bool) : List Addr := [L.p b, L.d b, L.t b, L.cn, L.h]
structure Ap (L : Pl) : Prop where
  pp : L.p false ≠ L.p true
  dd : L.d false ≠ L.d true
  tt : L.t false ≠ L.t true
  dt : ∀ b c, L.d b ≠ L.t c
  lists : ∀ a ∈ [L.hs, L.th, L.sl], a ∉ L.ban
  ch : L.cn ≠ L.h
theorem two_ne {f : Bool → Addr} (h : f false ≠ f true) : ∀ b, f (!b) ≠ f b
  | false => Ne.symm h
  | true => h
structure Wd (K : PySem.W.Frag) (C : Addr) (L : Pl) (cells : List V) (H : Hp) (ms : Bool → Mp) (mk : Bool → Nat) (zs : List V) : Prop where
  sd : ∀ b, Sd K C H (L.p b) (L.d b) (L.t b) (ms b) (mk b)
  hs : H L.hs = some (.lst [.ref (L.p false), .ref (L.p true)])
  th : H L.th = some (.lst [.ref (L.t false), .ref (L.t true)])
  cn : H L.cn = some (.lst [.int (mk false : Nat), .int (mk true : Nat)])
  sl : H L.sl = some (.lst cells)
  h : H L.h = some (.lst zs)
  held : Held H L.ban zs
noncomputable def setB {α : Type} (f : Bool → α) (b : Bool) (v : α) : Bool → α := fun c => if c = b then v else f c
theorem setB_same {α : Type} (f : Bool → α) (b : Bool) (v : α) : setB f b v b = v := if_pos rfl
theorem setB_not {α : Type} (f : Bool → α) (b : Bool) (v : α) : setB f b v (!b) = f (!b) := if_neg (by cases b <;> decide)
theorem setB_id {α : Type} (f : Bool → α) (b : Bool) : setB f b (f b) = f := by
  funext c
  unfold setB
  split
  · rename_i e; rw [e]
  · rfl
section
variable {K : PySem.W.Frag} {C : Addr} {L : Pl} {cells : List V} {H H' H2 : Hp} {ms : Bool → Mp} {mk : Bool → Nat} {zs zs' : List V}
theorem Wd.same (x : Wd K C L cells H ms mk zs) (g : Same H H') : Wd K C L cells H' ms mk zs :=
  ⟨fun b => ⟨(x.sd b).hp.same g, g _ _ (x.sd b).ht, (x.sd b).ri, (x.sd b).gm.imp fun _ y => y.same g⟩, g _ _ x.hs, g _ _ x.th, g _ _ x.cn, g _ _ x.sl, g _ _ x.h, fun z hz => by
    obtain ⟨q, a, b, n, e, h1, h2, h3, n1, n2⟩ := x.held z hz
    exact ⟨q, a, b, n, e, g _ _ h1, g _ _ h2, g _ _ h3, n1, n2⟩⟩
theorem Wd.wr (b : Bool) (x : Wd K C L cells H ms mk zs) : ∀ c ∈ L.wrt b, ∃ o, H c = some o ∧ Wr o := fun c hc => by
  obtain ⟨⟨dx, h1⟩, hd⟩ := id (x.sd b).hp
  simp only [Pl.wrt, List.mem_cons, List.not_mem_nil, or_false] at hc
  rcases hc with rfl | rfl | rfl | rfl | rfl
  · exact ⟨_, h1, wr_ins _ _ _⟩
  · exact ⟨_, hd, wr_dK _⟩
  · exact ⟨_, (x.sd b).ht, wr_dK _⟩
  · exact ⟨_, x.cn, wr_lst _⟩
  · exact ⟨_, x.h, wr_lst _⟩
theorem Wd.lst (b : Bool) (x : Wd K C L cells H ms mk zs) {a : Addr} {xs : List V} (e : H a = some (.lst xs)) (n : a ∉ L.ban) : a ∉ L.wrt b := fun hc => by
  obtain ⟨⟨dx, h1⟩, hd⟩ := id (x.sd b).hp
  simp only [Pl.wrt, List.mem_cons, List.not_mem_nil, or_false] at hc
  rcases hc with z | z | z | z | z
  · exact ne_of e h1 (by intro w; cases w) z
  · exact ne_of e hd (by intro w; cases w) z
  · exact ne_of e (x.sd b).ht (by intro w; cases w) z
  · exact n (by simp [Pl.ban, z])
  · exact n (by simp [Pl.ban, z])
theorem Wd.tup (b : Bool) (x : Wd K C L cells H ms mk zs) {a : Addr} {xs : List V} (e : H a = some (.tup xs)) : a ∉ L.wrt b := fun hc => by
  obtain ⟨o, eo, w, _⟩ := x.wr b a hc
  rw [e] at eo
  cases eo
  exact w _ rfl
theorem Wd.deed (A : Ap L) (b : Bool) {m : Mp} {made : Nat} (x : Wd K C L cells H ms mk zs) (k : ∀ c o, H c = some o → c ∉ L.wrt b → H' c = some o) (s : Sd K C H' (L.p b) (L.d b) (L.t b) m made)
    (hc : H' L.cn = some (.lst [.int (setB mk b made false : Nat), .int (setB mk b made true : Nat)])) (hh : H' L.h = some (.lst zs')) (new : ∀ z ∈ zs', z ∈ zs ∨ ∃ (q a b : Addr) (ks : List Nat), z = .ref q ∧ H' q = some (.tup [.ref a, .ref b]) ∧ H' a = some (.lst (natVs ks)) ∧ H' b = some (.lst (natVs ks)) ∧ a ∉ L.ban ∧ b ∉ L.ban) :
    Wd K C L cells H' (setB ms b m) (setB mk b made) zs' := by
  have tu : Tups K H H' := Tups.but (L.wrt b) (x.wr b) fun c o n e => k c o e n
  have lt : ∀ a xs, H a = some (.lst xs) → a ∉ L.ban → H' a = some (.lst xs) := fun a xs e n => k a _ e (x.lst b e n)
  refine ⟨fun c => ?_, lt _ _ x.hs (A.lists _ (by simp)), lt _ _ x.th (A.lists _ (by simp)), hc, lt _ _ x.sl (A.lists _ (by simp)), hh, fun z hz => ?_⟩
  · rcases (show c = b ∨ c = !b by cases c <;> cases b <;> simp) with rfl | rfl
    · rw [setB_same, setB_same]
      exact s
    · rw [setB_not, setB_not]
      obtain ⟨⟨dx, h1⟩, hd⟩ := id (x.sd b).hp
      have ht := (x.sd b).ht
      obtain ⟨⟨dy, h2⟩, hd2⟩ := id (x.sd (!b)).hp
      have ht2 := (x.sd (!b)).ht
      have np : L.p (!b) ∉ L.wrt b := fun hm => by
        simp only [Pl.wrt, List.mem_cons, List.not_mem_nil, or_false] at hm
        rcases hm with z | z | z | z | z
        · exact two_ne A.pp b z
        · exact ne_of h2 hd (by intro w; cases w) z
        · exact ne_of h2 ht (by intro w; cases w) z
        · exact ne_of h2 x.cn (by intro w; cases w) z
        · exact ne_of h2 x.h (by intro w; cases w) z
      have nd : L.d (!b) ∉ L.wrt b := fun hm => by
        simp only [Pl.wrt, List.mem_cons, List.not_mem_nil, or_false] at hm
        rcases hm with z | z | z | z | z
        · exact ne_of hd2 h1 (by intro w; cases w) z
        · exact two_ne A.dd b z
        · exact A.dt _ _ z
        · exact ne_of hd2 x.cn (by intro w; cases w) z
        · exact ne_of hd2 x.h (by intro w; cases w) z
      have nt : L.t (!b) ∉ L.wrt b := fun hm => by
        simp only [Pl.wrt, List.mem_cons, List.not_mem_nil, or_false] at hm
        rcases hm with z | z | z | z | z
        · exact ne_of ht2 h1 (by intro w; cases w) z
        · exact A.dt _ _ z.symm
        · exact two_ne A.tt b z
        · exact ne_of ht2 x.cn (by intro w; cases w) z
        · exact ne_of ht2 x.h (by intro w; cases w) z
      exact ⟨(x.sd (!b)).hp.keep (fun o e => k _ _ e np) fun o e => k _ _ e nd, k _ _ ht2 nt, (x.sd (!b)).ri, (x.sd (!b)).gm.imp fun _ y => y.tups tu⟩
  · rcases new z hz with z1 | z1
    · obtain ⟨q, a1, b1, n, e, h3, h4, h5, n1, n2⟩ := x.held z z1
      exact ⟨q, a1, b1, n, e, k _ _ h3 (x.tup b h3), lt _ _ h4 n1, lt _ _ h5 n2, n1, n2⟩
    · exact z1
theorem side_of {z : Int} (h0 : 0 ≤ z) (h2 : z < 2) : ∃ (b : Bool) (j : Nat), (∀ f : Bool → V, atI [f false, f true] z = some (f b)) ∧ ixN 2 z = some j ∧ ∀ (g : Bool → Nat) (n : Nat), [V.int (g false : Nat), V.int (g true : Nat)].set j (.int (n : Nat)) = [.int (setB g b n false : Nat), .int (setB g b n true : Nat)] := by
  rcases (show z = 0 ∨ z = 1 by omega) with rfl | rfl
  · exact ⟨false, 0, fun f => atI_nat (j := 0) rfl, rfl, fun f v => rfl⟩
  · exact ⟨true, 1, fun f => atI_nat (j := 1) rfl, rfl, fun f v => rfl⟩
theorem GM.add {m : Mp} {made : Nat} {nm : Nat → List (Option Nat)} {y : V} {e : PyData} {os : List (Option Nat)} (g : GM K H m nm) (r : Ris m made) (ry : Rep K H y e) (te : TD e os) (lo : os.length ≤ 100) (bo : ∀ k, some k ∈ os → k ∈ keyM m) : GM K H (m ++ [(made, y)]) fun n => if n = made then os else nm n := fun q hq => by
  rcases List.mem_append.mp hq with z | z
  · obtain ⟨d, h1, h2, h3, h4⟩ := g q z
    have ne : ¬ q.1 = made := fun w => Nat.lt_irrefl made (by have := r.lt q.1 (List.mem_map.mpr ⟨q, z, rfl⟩); omega)
    simp only [if_neg ne]
    exact ⟨d, h1, h2, h3, fun k hk => by rw [keyM_app]; exact List.mem_append_left _ (h4 k hk)⟩
  · cases List.mem_singleton.mp z
    simp only [if_true]
    exact ⟨e, ry, te, lo, fun k hk => by rw [keyM_app]; exact List.mem_append_left _ (bo k hk)⟩
theorem GM.set {m : Mp} {n : Nat} {nm : Nat → List (Option Nat)} {y : V} {e : PyData} {os : List (Option Nat)} (g : GM K H m nm) (ry : Rep K H y e) (te : TD e os) (lo : os.length ≤ 100) (bo : ∀ k, some k ∈ os → k ∈ keyM m) : GM K H (setM m n y) fun j => if j = n then os else nm j := fun q hq => by
  obtain ⟨q0, h0, e0⟩ := List.mem_map.mp hq
  rw [setM_keys]
  by_cases h : q0.1 = n
  · rw [if_pos h] at e0
    subst e0
    simp only [h, if_true]
    exact ⟨e, ry, te, lo, bo⟩
  · rw [if_neg h] at e0
    subst e0
    simp only [if_neg h]
    exact g _ h0
end
theorem getM_set {m : Mp} {n : Nat} {v : V} (h : n ∈ keyM m) : getM (setM m n v) n = some v := by
  induction m with
  | nil => cases h
  | cons q r ih =>
    by_cases e : q.1 = n
    · show getM ((if q.1 = n then (q.1, v) else q) :: setM r n v) n = some v
      rw [if_pos e]
      unfold getM
      rw [List.find?_cons]
      simp only [e, decide_true]
      rfl
    · show getM ((if q.1 = n then (q.1, v) else q) :: setM r n v) n = some v
      rw [if_neg e]
      have := ih ((List.mem_cons.mp h).resolve_left fun z => e z.symm)
      unfold getM at this ⊢
      rw [List.find?_cons, decide_eq_false e]
      exact this
theorem cut_len (xs : List V) : (cutV xs (some 1) (some 19)).length ≤ 18 := by
  unfold cutV
  have e1 : HT.sIx xs.length 0 (some 1) = min 1 xs.length := HT.sIx_nat ..
  have e2 : HT.sIx xs.length xs.length (some 19) = min 19 xs.length := HT.sIx_nat ..
  rw [e1, e2, List.length_take, List.length_drop]
  omega
theorem cut_int {ns : List Int} : ∀ x ∈ cutV (ns.map V.int) (some 1) (some 19), ∃ i, x = .int i := fun x hx => by
  unfold cutV at hx
  obtain ⟨i, _, rfl⟩ := List.mem_map.mp (List.mem_of_mem_drop (List.mem_of_mem_take hx))
  exact ⟨i, rfl⟩
noncomputable def two (a b : Addr) : Bool → Addr := fun c => cond c b a
noncomputable def spLaw (K : PySem.W.Frag) : Sp := fun vs H Q _ => ∃ (a : Addr) (ns : List Int), vs = [.ref a] ∧ SqL K H a (ns.map V.int) ∧ ns.length ≤ 63 ∧ ∀ H', Q (.bl true) H'
noncomputable def LawP (K : PySem.W.Frag) (C : Addr) (L : Pl) (a : Addr) (cells : List V) (i : Nat) (σ : St) (H : Hp) : Prop := ∃ (ms : Bool → Mp) (mk : Bool → Nat) (zs : List V) (o5 o6 o7 o8 o9 o10 o11 o12 : Option V),
  σ = [some (.ref a), some (.ref L.hs), some (.ref L.th), some (.ref L.cn), some (.ref L.h), o5, o6, o7, o8, o9, o10, o11, o12] ∧ Wd K C L cells H ms mk zs ∧ mk false + mk true ≤ i ∧ zs.length ≤ 2 * i
theorem mk_len {mk : Bool → Nat} {i : Nat} (h : mk false + mk true ≤ i) (b : Bool) : mk b + mk (!b) ≤ i := by
  cases b
  · exact h
  · show mk true + mk false ≤ i
    omega
theorem mk_set {mk : Bool → Nat} {i : Nat} {b : Bool} {v : Nat} (h : mk b + mk (!b) ≤ i) (hv : v ≤ mk b + 1) : setB mk b v false + setB mk b v true ≤ i + 1 := by
  cases b with
  | false =>
    have e1 : setB mk false v false = v := setB_same ..
    have e2 : setB mk false v true = mk true := setB_not mk false v
    rw [e1, e2]
    have : mk false + mk true ≤ i := h
    omega
  | true =>
    have e1 : setB mk true v true = v := setB_same ..
    have e2 : setB mk true v false = mk false := setB_not mk true v
    rw [e1, e2]
    have : mk true + mk false ≤ i := h
    omega
section
variable {P : Program} {w : World} {K : PySem.W.Frag} {mg : Str → Option Value} {base : Heap} {f : Addr} {fd : FuncData} {ad : Ad}
theorem ok_law (F : Fun K "law" "law" s_law f fd) (c : Cs K mg ad) (d_Heap : MakeN P w K mg base "Heap" ad.Heap 1 (spInit ad.Heap)) (d_H_put : MethN P w K mg base ad.Heap 1 "put" ["self", "thing"] (spPut ad.Heap)) (d_H_change : MethX P w K mg base ad.Heap 3 "change" ["self", "k", "thing"] (spChange K ad.Heap ad.NoThing))
    (d_H_numbers : MethN P w K mg base ad.Heap 1 "numbers" ["self"] (spNumbers ad.Heap)) (d_law_draw : Def P w K mg base 1 "_law_draw" ["_law_script", "_law_k"] (spCell K)) (d_law_spread : Def P w K mg base 1 "_law_spread" ["_law_cell", "_law_k"] spSpread) (d_law_value : Def P w K mg base 1 "_law_value" ["_law_cell", "_law_there"] (spValue K))
    (d_law_thing : Def P w K mg base 2 "_law_thing" ["_law_cell", "_law_there"] (spThingL K)) (d_law_right : Def P w K mg base 5 "_law_right" ["_law_heap", "_law_things", "_law_count"] (spRight K ad.Heap)) (d_law_collected : Def P w K mg base 6 "_law_collected" ["_law_heap", "_law_things", "_law_values_here", "_law_held"] (spCollected K ad.Heap)) (d_law_chain : Def P w K mg base 6 "_law_chain" ["_law_cell"] spChain) : FnOk P w K mg base CX0 7 f fd ["_law_script"] (spLaw K) := by
  refine F.ok sc_law (fun vs H Q E h => ?_) (fun cdv A outer s H vs Q E hr h => ?_)
  · obtain ⟨a, ns, rfl, _⟩ := h
    rfl
  obtain ⟨a, ns, rfl, hS, hlen, qq⟩ := h
  have hu := hu_of hr
  have hu64 := hr.units
  refine ⟨_, (pss_cons (ps_if (pt_cmpR op_eq (pe_op op_mod (pe_op op_fdiv (pe_def d_law_draw (hr.mono (by first | decide | omega)) (pa_cons (pv 0) (pa_cons pe_int pa_nil))) pe_int) pe_int) pe_int (nomark _)) (pss_one (ps_ret (pe_def d_law_chain (hr.mono (by first | decide | omega)) (pa_cons (pe_def d_law_spread (hr.mono (by first | decide | omega)) (pa_cons (pe_def d_law_draw (hr.mono (by first | decide | omega)) (pa_cons (pv 0) (pa_cons pe_int pa_nil))) (pa_cons pe_int pa_nil))) pa_nil)))) pss_nil)
      (pss_cons (ps_set (i := 1) sc_law.nd rfl (by first | exact Or.inl rfl | exact Or.inr rfl) (pe_lst (pa_cons (pe_mk0 d_Heap (hr.mono (by first | decide | omega))) (pa_cons (pe_mk0 d_Heap (hr.mono (by first | decide | omega))) pa_nil))))
      (pss_cons (ps_set (i := 2) sc_law.nd rfl (by first | exact Or.inl rfl | exact Or.inr rfl) (pe_lst (pa_cons pe_dnewK (pa_cons pe_dnewK pa_nil))))
      (pss_cons (ps_set (i := 3) sc_law.nd rfl (by first | exact Or.inl rfl | exact Or.inr rfl) (pe_lst (pa_cons pe_int (pa_cons pe_int pa_nil))))
      (pss_cons (ps_set (i := 4) sc_law.nd rfl (by first | exact Or.inl rfl | exact Or.inr rfl) (pe_lst pa_nil))
      (pss_cons (ps_for PassesOwn.never rfl (pi_k (K := K) rfl (pe_slice (sl_k (K := K) rfl) (pv 0) (po_some pe_int) (po_some pe_int))) (pg_name (i := 5) sc_law.nd rfl (by first | exact Or.inl rfl | exact Or.inr rfl)) (pss_cons (ps_set (i := 5) sc_law.nd rfl (by first | exact Or.inl rfl | exact Or.inr rfl) (pe_def d_law_spread (hr.mono (by first | decide | omega)) (pa_cons (pv 5) (pa_cons pe_int pa_nil))))
      (pss_cons (ps_set (i := 6) sc_law.nd rfl (by first | exact Or.inl rfl | exact Or.inr rfl) (pe_op op_mod (pv 5) pe_int))
      (pss_cons (ps_set (i := 7) sc_law.nd rfl (by first | exact Or.inl rfl | exact Or.inr rfl) (pe_callB (sortedL_k (K := K) rfl) (by rfl) c.sorted_ bt_sorted (pa_cons (pe_callTy (call_listD rfl) (by rfl) c.list_ bt_list (pa_cons (pe_ix (ix_k (K := K) rfl) (pv 2) (pv 6) (fun _ _ => rfl)) pa_nil)) pa_nil)))
      (pss_cons (ps_set (i := 8) sc_law.nd rfl (by first | exact Or.inl rfl | exact Or.inr rfl) (pe_op op_mod (pe_op op_fdiv (pv 5) pe_int) pe_int))
      (pss_cons (ps_if (PW.pt (pw_or (pt_cmpR op_lt (pv 8) pe_int (nomark _)) (pw_or1 (pt_cmpR (eqNil_k (K := K) rfl (Nat.lt_of_le_of_lt (Nat.le_add_right _ _) hu64)) (pv 7) (pe_lst pa_nil) (nomark _))))) (pss_cons (ps_set (i := 9) sc_law.nd rfl (by first | exact Or.inl rfl | exact Or.inr rfl) (pe_def d_law_thing (hr.mono (by first | decide | omega)) (pa_cons (pe_op op_fdiv (pv 5) pe_int) (pa_cons (pv 7) pa_nil))))
      (pss_cons (ps_if (pt_cmpR op_ne (pe_mN (pe_ix (ix_k (K := K) rfl) (pv 1) (pv 6) (fun _ _ => rfl)) d_H_put (hr.mono (by first | decide | omega)) (pa_cons (pv 9) pa_nil)) (pe_ix (ix_k (K := K) rfl) (pv 3) (pv 6) (fun _ _ => rfl)) (nomark _)) (pss_one (ps_ret pe_bl)) pss_nil)
      (pss_cons (ps_dput hu (pe_ix (ix_k (K := K) rfl) (pv 2) (pv 6) (fun _ _ => rfl)) (pe_ix (ix_k (K := K) rfl) (pv 3) (pv 6) (fun _ _ => rfl)) (pv 9) rfl)
      (pss_one (ps_asg (pe_op op_plus (pe_ix (ix_k (K := K) rfl) (pv 3) (pv 6) (fun _ _ => rfl)) pe_int) (pg_sub (pv 3) (pv 6) set_list)))))) (pss_one (ps_if (pt_cmpR op_lt (pv 8) pe_int (nomark _)) (pss_cons (ps_set (i := 10) sc_law.nd rfl (by first | exact Or.inl rfl | exact Or.inr rfl) (pe_ix (ix_k (K := K) rfl) (pv 7) (pe_op op_mod (pe_op op_fdiv (pv 5) pe_int) (pe_callB (len_k (K := K) rfl) (by rfl) c.len_ bt_len (pa_cons (pv 7) pa_nil))) (fun _ _ => rfl)))
      (pss_cons (ps_dput hu (pe_ix (ix_k (K := K) rfl) (pv 2) (pv 6) (fun _ _ => rfl)) (pv 10) (pe_def d_law_thing (hr.mono (by first | decide | omega)) (pa_cons (pe_op op_fdiv (pv 5) pe_int) (pa_cons (pv 7) pa_nil))) rfl)
      (pss_one (ps_expr (pe_mX (pe_ix (ix_k (K := K) rfl) (pv 1) (pv 6) (fun _ _ => rfl)) d_H_change (hr.mono (by first | decide | omega)) passN (pa_cons (pv 10) (pa_cons (pe_dget hu (pe_ix (ix_k (K := K) rfl) (pv 2) (pv 6) (fun _ _ => rfl)) (pv 10) (fun _ _ => rfl)) pa_nil))))))) (pss_cons (ps_setC (i := 11) sc_law.nd rfl (by first | exact Or.inl rfl | exact Or.inr rfl) (sc := defScope s_law) (NX := ["_law_script", "_law_heaps", "_law_things", "_law_counts", "_law_held", "_law_cell", "_law_side", "_law_there", "_law_way", "_law_thing_here", "_law_at", "_law_values_here", "_law_k"]) (N := ["_law_k", "_law_there", "_law_cell"]) (js := [none, some 7, some 5]) (pi_range1 rfl c.range_ (pa_cons (pe_op op_mod (pe_op op_fdiv (pv 5) pe_int) pe_int) pa_nil)) (fun _ _ _ _ _ => (pg_name (i := 0) (show (["_law_k", "_law_there", "_law_cell"] : List Str).Nodup by decide +kernel) rfl (Or.inl rfl))) (fun _ _ _ _ _ => pf_nil) (fun _ _ _ _ _ => (pe_def d_law_value (hr.mono (by first | decide | omega)) (pa_cons (pe_def d_law_spread (hr.mono (by first | decide | omega)) (pa_cons (pv 2) (pa_cons (pe_op op_plus pe_int (pv 0)) pa_nil))) (pa_cons (pv 1) pa_nil)))) (own_name rfl) ⟨by decide +kernel, rfl, by decide +kernel, by decide +kernel, rfl, by decide +kernel⟩)
      (pss_cons (ps_expr (bm_k (K := K) rfl PySem.F.plainAttrs_list PySem.F.slot_list_append PySem.F.type_list_append mt_append (pv 4) (pa_cons (pe_tup (pa_cons (pe_mN0 (pe_ix (ix_k (K := K) rfl) (pv 1) (pv 6) (fun _ _ => rfl)) d_H_numbers (hr.mono (by first | decide | omega))) (pa_cons (pv 7) pa_nil))) pa_nil)))
      (pss_one (ps_if (pt_not (pt_val (pe_def d_law_collected (hr.mono (by first | decide | omega)) (pa_cons (pe_ix (ix_k (K := K) rfl) (pv 1) (pv 6) (fun _ _ => rfl)) (pa_cons (pe_ix (ix_k (K := K) rfl) (pv 2) (pv 6) (fun _ _ => rfl)) (pa_cons (pv 11) (pa_cons (pv 4) pa_nil))))))) (pss_one (ps_ret pe_bl)) pss_nil)))))))
      (pss_one (ps_for PassesOwn.never rfl (pi_k (K := K) rfl (pe_ix (ix_k (K := K) rfl) (pe_lst (pa_cons (pe_lst (pa_cons pe_int (pa_cons pe_int pa_nil))) (pa_cons (pe_lst (pa_cons pe_int (pa_cons pe_int pa_nil))) pa_nil))) (pe_op op_mod (pe_op op_fdiv (pv 5) pe_int) pe_int) (fun _ _ => rfl))) (pg_name (i := 12) sc_law.nd rfl (by first | exact Or.inl rfl | exact Or.inr rfl)) (pss_one (ps_if (pt_not (pt_val (pe_def d_law_right (hr.mono (by first | decide | omega)) (pa_cons (pe_ix (ix_k (K := K) rfl) (pv 1) (pv 12) (fun _ _ => rfl)) (pa_cons (pe_ix (ix_k (K := K) rfl) (pv 2) (pv 12) (fun _ _ => rfl)) (pa_cons (pe_ix (ix_k (K := K) rfl) (pv 3) (pv 12) (fun _ _ => rfl)) pa_nil)))))) (pss_one (ps_ret pe_bl)) pss_nil))))))))))
      (pss_one (ps_ret (pe_callB (all_k (K := K) rfl rfl) (by rfl) c.all_ bt_all (pa_cons (pe_comp (sc := defScope s_law) (NX := ["_law_script", "_law_heaps", "_law_things", "_law_counts", "_law_held", "_law_cell", "_law_side", "_law_there", "_law_way", "_law_thing_here", "_law_at", "_law_values_here", "_law_k"]) (N := ["_law_found", "_law_due"]) (js := [none, none]) (pi_k (K := K) rfl (pv 4)) (fun _ _ _ _ _ => (pgt_k (K := K) rfl rfl (pgs_cons (pg_name (i := 0) (show (["_law_found", "_law_due"] : List Str).Nodup by decide +kernel) rfl (Or.inl rfl)) (pgs_cons (pg_name (i := 1) (show (["_law_found", "_law_due"] : List Str).Nodup by decide +kernel) rfl (Or.inl rfl)) pgs_nil)))) (fun _ _ _ _ _ => pf_nil) (fun _ _ _ _ _ => (pe_cmpR (eqD_k (K := K) rfl hu64) (pv 0) (pv 1) (nomark _))) (own_two rfl rfl) ⟨by decide +kernel, rfl, by decide +kernel, by decide +kernel, rfl, by decide +kernel⟩) pa_nil)))))))))), ?_⟩
  clear hu64 hu
  have nn : ∀ dd zz, (flds dd zz).lookup ("numbers" : Str) = none := fun dd zz => flds_no _ _ (by decide +kernel) (by decide +kernel)
  have nc : ∀ dd zz, (flds dd zz).lookup ("change" : Str) = none := fun dd zz => flds_no _ _ (by decide +kernel) (by decide +kernel)
  have np : ∀ dd zz, (flds dd zz).lookup ("put" : Str) = none := fun dd zz => flds_no _ _ (by decide +kernel) (by decide +kernel)
  have p2 : (0 : Int) < 2 := by decide
  have p8 : (0 : Int) < 8 := by decide
  have p16 : (0 : Int) < 16 := by decide
  have z2 : 2 ≤ sizeLine := by decide
  have z0 : 0 ≤ sizeLine := Nat.zero_le _
  have big : (2000 : Nat) < sizeLine := by decide
  refine ⟨_, rfl, a, ns, 0, rfl, hS, by decide, fun d0 => ⟨_, _, rfl, rfl, ⟨by decide, by decide⟩, _, _, rfl, rfl, p16, rfl, _, rfl, ite2 (fun _ => ?_) (fun _ => ?_)⟩⟩
  · exact ⟨_, rfl, a, ns, 19, rfl, hS, by decide, fun d1 => ⟨d1, 3, rfl, by decide, by decide, fun ce c0 c1 => ⟨ce, rfl, c0, qq⟩⟩⟩
  intro p0 dx0 n0 nd0 ne0
  refine ⟨p0, dx0, rfl, upd_same, fun d0 H1 f0 S0 k0 => ⟨rfl, ?_⟩⟩
  have s0 : Same H (upd (upd H dx0 (.own p0)) p0 (.ins ad.Heap dx0 [])) := fun b o e => by
    rw [upd_ne (ne_of_none e n0), upd_ne (ne_of_none e nd0)]
    exact e
  have s1 : Same H H1 := fun b o e => k0 b o (s0 b o e) (ne_of_none e n0)
  clear k0 s0
  intro p1 dx1 n1 nd1 ne1
  refine ⟨p1, dx1, rfl, upd_same, fun d1 H2 f1 S1 k1 => ⟨rfl, ?_⟩⟩
  have s2 : Same H1 (upd (upd H1 dx1 (.own p1)) p1 (.ins ad.Heap dx1 [])) := fun b o e => by
    rw [upd_ne (ne_of_none e n1), upd_ne (ne_of_none e nd1)]
    exact e
  have s3 : Same H1 H2 := fun b o e => k1 b o (s2 b o e) (ne_of_none e n1)
  have npp : p0 ≠ p1 := by obtain ⟨⟨_, e⟩, _⟩ := id S0; exact ne_of_none e n1
  have ndd : d0 ≠ d1 := ne_of_none (s2 _ _ S0.dc) f1
  have T0 := S0.same s3
  have hS2 := (s1.trans s3).seq hS
  clear k1 s2 S0 s1 s3
  refine ⟨z2, fun hs hhs => ?_⟩
  have g3 := same_new hhs (.lst [.ref p0, .ref p1])
  have a3 : upd H2 hs (.lst [.ref p0, .ref p1]) hs = some (.lst [.ref p0, .ref p1]) := upd_same
  generalize upd H2 hs (.lst [.ref p0, .ref p1]) = H3 at g3 a3 ⊢
  intro t0 ht0
  have g4 := same_new ht0 (.dK [])
  have a4 : upd H3 t0 (.dK []) t0 = some (.dK []) := upd_same
  generalize upd H3 t0 (.dK []) = H4 at g4 a4 ⊢
  intro t1 ht1
  have g5 := same_new ht1 (.dK [])
  have a5 : upd H4 t1 (.dK []) t1 = some (.dK []) := upd_same
  generalize upd H4 t1 (.dK []) = H5 at g5 a5 ⊢
  refine ⟨z2, fun th hth => ?_⟩
  have g6 := same_new hth (.lst [.ref t0, .ref t1])
  have a6 : upd H5 th (.lst [.ref t0, .ref t1]) th = some (.lst [.ref t0, .ref t1]) := upd_same
  generalize upd H5 th (.lst [.ref t0, .ref t1]) = H6 at g6 a6 ⊢
  refine ⟨z2, fun cn hcn => ?_⟩
  have g7 := same_new hcn (.lst [.int 0, .int 0])
  have a7 : upd H6 cn (.lst [.int 0, .int 0]) cn = some (.lst [.int 0, .int 0]) := upd_same
  generalize upd H6 cn (.lst [.int 0, .int 0]) = H7 at g7 a7 ⊢
  refine ⟨z0, fun h hh => ?_⟩
  have g8 := same_new hh (.lst [])
  have a8 : upd H7 h (.lst []) h = some (.lst []) := upd_same
  generalize upd H7 h (.lst []) = H8 at g8 a8 ⊢
  have g58 := (g6.trans g7).trans g8
  have g48 := g5.trans g58
  have g28 := (g3.trans g4).trans g48
  refine ⟨_, rfl, _, rfl, _, rfl, .inl ⟨a, _, rfl, g28.seq hS2, fun sl hsl => ?_⟩⟩
  have cl := cut_len (ns.map V.int)
  have ci := cut_int (ns := ns)
  generalize cutV (ns.map V.int) (some 1) (some 19) = cells at cl ci ⊢
  have gs := same_new hsl (.lst cells)
  have as : upd H8 sl (.lst cells) sl = some (.lst cells) := upd_same
  generalize upd H8 sl (.lst cells) = Ha at gs as ⊢
  have xa : Wd K ad.Heap ⟨two p0 p1, two d0 d1, two t0 t1, hs, th, cn, sl, h⟩ cells Ha (fun _ => []) (fun _ => 0) [] :=
    ⟨fun b => by
      cases b with
      | false => exact ⟨T0.same (g28.trans gs), gs _ _ (g48 _ _ a4), ris_range rfl, fun _ => [], fun q hq => by cases hq⟩
      | true => exact ⟨S1.same (g28.trans gs), gs _ _ (g58 _ _ a5), ris_range rfl, fun _ => [], fun q hq => by cases hq⟩,
      gs _ _ ((g4.trans g48) _ _ a3), gs _ _ (g8 _ _ (g7 _ _ a6)), gs _ _ (g8 _ _ a7), as, gs _ _ a8, fun z hz => by cases hz⟩
  have Aa : Ap ⟨two p0 p1, two d0 d1, two t0 t1, hs, th, cn, sl, h⟩ := ⟨npp, ndd, ne_of_none a4 ht1, fun b c => by
      cases b <;> cases c
      · exact ne_of_none (g3 _ _ T0.dc) ht0
      · exact ne_of_none (g4 _ _ (g3 _ _ T0.dc)) ht1
      · exact ne_of_none (g3 _ _ S1.dc) ht0
      · exact ne_of_none (g4 _ _ (g3 _ _ S1.dc)) ht1, fun e he hm => by
    simp only [List.mem_cons, List.not_mem_nil, or_false] at he hm
    rcases he with z | z | z <;> rcases hm with y | y
    · exact ne_of_none (((g4.trans g5).trans g6) _ _ a3) hcn (z.symm.trans y)
    · exact ne_of_none ((((g4.trans g5).trans g6).trans g7) _ _ a3) hh (z.symm.trans y)
    · exact ne_of_none a6 hcn (z.symm.trans y)
    · exact ne_of_none (g7 _ _ a6) hh (z.symm.trans y)
    · exact ne_of_none (g8 _ _ a7) hsl (y.symm.trans z)
    · exact ne_of_none a8 hsl (y.symm.trans z), ne_of_none a7 hh⟩
  obtain ⟨L, e1, e2, e3, e4, e5, xb, Ab⟩ : ∃ L : Pl, sl = L.sl ∧ hs = L.hs ∧ th = L.th ∧ h = L.h ∧ cn = L.cn ∧ Wd K ad.Heap L cells Ha (fun _ => []) (fun _ => 0) [] ∧ Ap L := ⟨_, rfl, rfl, rfl, rfl, rfl, xa, Aa⟩
  clear gs as xa Aa hsl g28 g48 g58 g8 a8 hh g7 a7 hcn g6 a6 hth g5 a5 ht1 g4 a4 ht0 g3 a3 hhs hS2 T0 S1 ndd npp f0 f1
  subst e1 e2 e3 e4 e5
  refine .inl ⟨L.sl, rfl, ⟨_, SqL.of xb.sl⟩, for_it cells.length (LawP K ad.Heap L a cells) ⟨_, _, [], none, none, none, none, none, none, none, none, rfl, xb, Nat.le_refl _, Nat.zero_le _⟩ (fun i σ Hc hi hP => ?_) (fun σ Hc hP => ?_)⟩
  · obtain ⟨ms, mk, zs, o5, o6, o7, o8, o9, o10, o11, o12, rfl, x, wl, zl⟩ := hP
    have hx : cells[i]? = some (cells[i]'hi) := List.getElem?_eq_getElem hi
    refine ⟨⟨cells, _, SqL.of x.sl, hx⟩, fun v H1 yl => ?_⟩
    obtain ⟨rfl, hv⟩ := yl
    have hx := hv cells (SqL.of x.sl)
    obtain ⟨z, rfl⟩ := ci v (List.mem_of_getElem? hx)
    refine ⟨_, rfl, z, 0, rfl, by decide, by decide, fun ce c0 c1 => ?_⟩
    refine ⟨_, rfl, _, _, rfl, rfl, p2, ?_⟩
    obtain ⟨b, sj, sb, sx, ss⟩ := side_of (z := ce % 2) (Int.emod_nonneg ce (show (2 : Int) ≠ 0 by decide)) (Int.emod_lt_of_pos ce p2)
    have wb := mk_len wl b
    have wi : mk b ≤ 18 := by omega
    have ri := (x.sd b).ri
    have kl : (keyM (ms b)).length ≤ 18 := Nat.le_trans (nodup_len _ _ ri.nodup ri.lt) wi
    have ml : (ms b).length ≤ 18 := by rw [← keyM_len]; exact kl
    refine ⟨_, rfl, _, rfl, .inl ⟨L.th, _, _, _, rfl, rfl, SqL.of x.th, sb (fun b => .ref (L.t b)), L.t b, _, _, rfl, (x.sd b).ht, kM_keys _, by rw [List.length_map]; omega, fun l1 n1 => ?_⟩⟩
    have ga := same_new n1 (.lst (((keyM (ms b)).map fun n : Nat => (n : Int)).map V.int))
    refine ⟨l1, _, rfl, SqL.of upd_same, by rw [List.length_map]; omega, fun ns p1 p2 th n2 => ?_⟩
    rw [up_sorted ri.up p1 p2]
    have ga2 := ga.trans (same_new n2 (.lst (natVs (keyM (ms b)))))
    have hth : upd (upd H1 l1 (.lst (((keyM (ms b)).map fun n : Nat => (n : Int)).map V.int))) th (.lst (natVs (keyM (ms b)))) th = some (.lst (natVs (keyM (ms b)))) := upd_same
    have th0 := same_free ga n2
    generalize upd (upd H1 l1 (.lst (((keyM (ms b)).map fun n : Nat => (n : Int)).map V.int))) th (.lst (natVs (keyM (ms b)))) = H2 at ga2 hth ⊢
    have x2 := x.same ga2
    have nth : th ∉ L.ban := fun hm => by
      simp only [Pl.ban, List.mem_cons, List.not_mem_nil, or_false] at hm
      rcases hm with z | z
      · exact ne_of_none x.cn th0 z.symm
      · exact ne_of_none x.h th0 z.symm
    clear x hv hx ga ga2 n1 n2 th0 p1 p2
    refine ⟨_, rfl, _, _, rfl, rfl, ⟨by decide, by decide⟩, _, _, rfl, rfl, p8, ?_⟩
    dsimp only [gName]
    refine join_seq (fun σ' H3 => ∃ (o9 o10 o11 : Option V) (m : Mp) (made : Nat) (zs' : List V), σ' = [some (.ref a), some (.ref L.hs), some (.ref L.th), some (.ref L.cn), some (.ref L.h), some (.int ce), some (.int (ce % 2)), some (.ref th), some (.int (ce / 2 % 8)), o9, o10, o11, o12] ∧ Wd K ad.Heap L cells H3 (setB ms b m) (setB mk b made) zs' ∧ made ≤ mk b + 1 ∧ zs'.length ≤ zs.length + 2) (fun R hR => ?_) (fun σ' H3 hM => ?_)
    · refine ⟨_, rfl, _, _, rfl, rfl, _, rfl, ite2 (fun _ => iteT ?_) (fun _ => ⟨_, rfl, z0, fun em hem => ⟨th, em, _, rfl, rfl, SqL.of (same_new hem _ _ _ hth), SqL.of upd_same, _, rfl, ite2 (fun _ => ?_) (fun ne => ?_)⟩⟩)⟩
      rotate_left 2
      · have ge := same_new hem (.lst [])
        have x2 := x2.same ge
        have hth := ge _ _ hth
        generalize upd H2 em (.lst []) = H2 at x2 hth ⊢
        have hk : keyM (ms b) ≠ [] := fun z => by
          rw [z] at ne
          exact ne rfl
        clear ne hem ge
        refine ⟨_, rfl, _, _, rfl, rfl, _, rfl, ite2 (fun _ => ?_) (fun _ => ?_)⟩
        · obtain ⟨q0, k, hkk, hat⟩ := at_mod hk (ce / 16)
          refine ⟨_, rfl, _, rfl, _, _, rfl, rfl, ⟨by decide, by decide⟩, _, rfl, _, _, rfl, .inl ⟨_, SqL.of hth, rfl⟩, _, _, rfl, rfl, q0, .inl ⟨th, _, _, _, rfl, rfl, SqL.of hth, hat, ?_⟩⟩
          refine ⟨_, rfl, _, _, rfl, rfl, ⟨by decide, by decide⟩, _, rfl, _, th, _, rfl, hth, by omega, fun H3 y e os g3 ry te lo bo => ?_⟩
          have x3 := x2.same g3
          obtain ⟨⟨dx, h1⟩, hdc⟩ := id (x3.sd b).hp
          have ht3 := (x3.sd b).ht
          refine ⟨_, rfl, _, rfl, .inl ⟨L.th, _, _, _, rfl, rfl, SqL.of x3.th, sb (fun b => .ref (L.t b)), _, rfl, L.t b, _, rfl, DPut.k (k := Sum.inl ((k : Nat) : Int)) ht3 (small4 (by rw [kM_len]; omega)), ?_⟩⟩
          rw [kM_set _ hkk]
          have k4 : ∀ c o, H3 c = some o → c ≠ L.t b → upd H3 (L.t b) (.dK (kM (setM (ms b) k y))) c = some o := fun c o e n => by rw [upd_ne n]; exact e
          have t4 : upd H3 (L.t b) (.dK (kM (setM (ms b) k y))) (L.t b) = some (.dK (kM (setM (ms b) k y))) := upd_same
          generalize upd H3 (L.t b) (.dK (kM (setM (ms b) k y))) = H4 at k4 t4 ⊢
          have kl4 : ∀ e xs, H3 e = some (.lst xs) → H4 e = some (.lst xs) := fun e xs z => k4 e _ z (ne_of z ht3 (by intro w; cases w))
          have h4 := k4 _ _ h1 (ne_of h1 ht3 (by intro w; cases w))
          have S4 : HeapAt ad.Heap H4 (L.p b) (L.d b) (ms b) (mk b) := ⟨⟨_, h4⟩, k4 _ _ hdc (Ab.dt b b)⟩
          refine ⟨_, rfl, _, rfl, .inl ⟨L.hs, _, _, _, rfl, rfl, SqL.of (kl4 _ _ x3.hs), sb (fun b => .ref (L.p b)), L.p b, dx, _, rfl, h4, nc _ _, _, rfl, _, rfl, _, rfl, .inl ⟨L.th, _, _, _, rfl, rfl, SqL.of (kl4 _ _ x3.th), sb (fun b => .ref (L.t b)), _, rfl, L.t b, _, rfl, (by rw [← getM_set (v := y) hkk, ← kM_val]; exact DGet.k (k := Sum.inl ((k : Nat) : Int)) t4), L.p b, L.d b, ms b, mk b, _, y, .int (k : Nat), rfl, S4, by omega, .int _, fun i' hi' ei H5 hp5 k5 => ?_, fun no => (no ⟨k, hkk, rfl⟩).elim⟩⟩⟩
          cases ei
          have kl5 : ∀ e xs, H3 e = some (.lst xs) → H5 e = some (.lst xs) := fun e xs z => k5 _ _ (kl4 e xs z) (ne_of z hdc (by intro w; cases w))
          have kk : ∀ c o, H3 c = some o → c ∉ L.wrt b → H5 c = some o := fun c o e n => by
            simp only [Pl.wrt, List.mem_cons, List.not_mem_nil, or_false, not_or] at n
            exact k5 _ _ (k4 c o e n.2.2.1) n.2.1
          have tu : Tups K H3 H5 := Tups.but (L.wrt b) (x3.wr b) fun c o n e => kk c o e n
          obtain ⟨nm, gm⟩ := (x3.sd b).gm
          have gm5 := (gm.tups tu).set (n := k) (rep_sm tu ry (te.sm (by omega))) te (by omega) bo
          exact hR _ _ ⟨_, _, _, setM (ms b) k y, mk b, zs, rfl, Wd.deed Ab b x3 kk ⟨hp5, k5 _ _ t4 (Ne.symm (Ab.dt b b)), ri.set, _, gm5⟩ (by rw [setB_id]; exact kl5 _ _ x3.cn) (kl5 _ _ x3.h) (fun z hz => .inl hz), by omega, by omega⟩
        · have q0 := Int.emod_nonneg (ce / 16) (show (4 : Int) ≠ 0 by decide)
          have q4 := Int.emod_lt_of_pos (ce / 16) (show (0 : Int) < 4 by decide)
          refine ⟨_, rfl, _, _, rfl, rfl, ⟨by decide, by decide⟩, _, _, rfl, rfl, (show (0 : Int) < 4 by decide), _, rfl, by omega, by omega, ?_⟩
          refine comp_it (ce / 16 % 4).toNat (fun i ys H' => Same H2 H' ∧ ∃ (es : List PyData) (os : List (Option Nat)), Reps K H' ys es ∧ VDs es os ∧ os.length = i ∧ ys.length = i ∧ ∀ m, some m ∈ os → m ∈ keyM (ms b)) ⟨Same.refl _, [], [], .nil, .nil, rfl, rfl, fun m q => by cases q⟩ (fun j ys H' q => ?_) (small (by omega)) (fun j ys H' hj q => ?_) (fun ys H3 q => ?_)
          · obtain ⟨_, es, os, _, _, _, e, _⟩ := q
            exact Nat.le_of_eq e
          · obtain ⟨g, es, os, rs, vd, e1, e2, lt⟩ := q
            refine ⟨hj, fun v H3 yl => ?_⟩
            obtain ⟨rfl, rfl⟩ := yl
            refine ⟨_, rfl, _, rfl, .inl ⟨_, _, rfl, rfl, ce, _, rfl, by omega, by omega, fun sp s0 s1 => ⟨_, rfl, sp, th, _, rfl, g _ _ hth, by omega, fun H4 x4 d4 o g4 rx vo lo => ?_⟩⟩⟩
            refine ⟨g.trans g4, es ++ [d4], os ++ [o], (rs.same g4).append (.cons rx .nil), vd.append (.cons vo .nil), by rw [List.length_append, e1]; rfl, by rw [List.length_append, e2]; rfl, fun m hm => ?_⟩
            rcases List.mem_append.mp hm with z | z
            · exact lt m z
            · exact lo m (List.mem_singleton.mp z).symm
          obtain ⟨g, es, os, rs, vd, e1, e2, lt⟩ := q
          refine ⟨Nat.le_refl _, fun v hv => ?_⟩
          have gv := same_new hv (.lst ys)
          have tv : upd H3 v (.lst ys) v = some (.lst ys) := upd_same
          have x1 := x2.same g
          have vh : v ≠ L.h := (ne_of_none x1.h hv).symm
          have x3 := x1.same gv
          have re3 := rs.same gv
          have th3 := gv _ _ (g _ _ hth)
          generalize upd H3 v (.lst ys) = H4 at gv tv x3 re3 th3 ⊢
          clear x2 x1 rs g gv hth
          obtain ⟨⟨dx, h1⟩, hdc⟩ := id (x3.sd b).hp
          refine ⟨_, rfl, .inl ⟨rfl, _, SqL.of x3.h⟩, _, rfl, _, rfl, .inl ⟨L.hs, _, _, _, rfl, rfl, SqL.of x3.hs, sb (fun b => .ref (L.p b)), L.p b, dx, _, rfl, h1, nn _ _, L.p b, L.d b, ms b, mk b, rfl, (x3.sd b).hp, ri, by omega, fun ln nl => ⟨_, rfl, z2, fun qa hqa => ?_⟩⟩⟩
          have nln : ln ∉ L.ban := fun hm => by
            simp only [Pl.ban, List.mem_cons, List.not_mem_nil, or_false] at hm
            rcases hm with z | z
            · exact ne_of_none x3.cn nl z.symm
            · exact ne_of_none x3.h nl z.symm
          have gq := same_new hqa (.tup [.ref ln, .ref th])
          have g5 := (same_new nl (.lst (natVs (keyM (ms b))))).trans gq
          have tln := gq _ _ (show upd H4 ln (.lst (natVs (keyM (ms b)))) ln = some (.lst (natVs (keyM (ms b)))) from upd_same)
          have tq : upd (upd H4 ln (.lst (natVs (keyM (ms b))))) qa (.tup [.ref ln, .ref th]) qa = some (.tup [.ref ln, .ref th]) := upd_same
          generalize upd (upd H4 ln (.lst (natVs (keyM (ms b))))) qa (.tup [.ref ln, .ref th]) = H5 at g5 tln tq ⊢
          have x5 := x3.same g5
          have th5 := g5 _ _ th3
          have tv5 := g5 _ _ tv
          have re5 := re3.same g5
          clear x3 th3 tv re3 g5 h1 hdc gq hqa nl
          obtain ⟨⟨dx, h1⟩, hdc⟩ := id (x5.sd b).hp
          refine ⟨L.h, _, _, rfl, rfl, x5.h, by omega, ?_⟩
          have k6 : ∀ c o, H5 c = some o → c ≠ L.h → upd H5 L.h (.lst (zs ++ [.ref qa])) c = some o := fun c o e n => by rw [upd_ne n]; exact e
          have t6 : upd H5 L.h (.lst (zs ++ [.ref qa])) L.h = some (.lst (zs ++ [.ref qa])) := upd_same
          generalize upd H5 L.h (.lst (zs ++ [.ref qa])) = H6 at k6 t6 ⊢
          have tu6 : Tups K H5 H6 := Tups.but [L.h] (fun c hc => by cases List.mem_singleton.mp hc; exact ⟨_, x5.h, wr_lst _⟩) fun c o n e => k6 c o e (fun z => n (List.mem_singleton.mpr z))
          have kl6 : ∀ e xs, e ∉ L.ban → H5 e = some (.lst xs) → H6 e = some (.lst xs) := fun e xs n z => k6 e _ z (fun w => n (by simp [Pl.ban, w]))
          have cn6 := k6 _ _ x5.cn Ab.ch
          have S6 : HeapAt ad.Heap H6 (L.p b) (L.d b) (ms b) (mk b) := ⟨⟨_, k6 _ _ h1 (ne_of h1 x5.h (by intro w; cases w))⟩, k6 _ _ hdc (ne_of hdc x5.h (by intro w; cases w))⟩
          have ht6 := k6 _ _ (x5.sd b).ht (ne_of (x5.sd b).ht x5.h (by intro w; cases w))
          obtain ⟨nm, gm⟩ := (x5.sd b).gm
          refine ⟨_, rfl, _, rfl, .inl ⟨L.hs, _, _, _, rfl, rfl, SqL.of (kl6 _ _ (Ab.lists _ (by simp)) x5.hs), sb (fun b => .ref (L.p b)), _, rfl, _, rfl, .inl ⟨L.th, _, _, _, rfl, rfl, SqL.of (kl6 _ _ (Ab.lists _ (by simp)) x5.th), sb (fun b => .ref (L.t b)), _, rfl, _, rfl, L.p b, L.d b, L.t b, v, L.h, ms b, mk b, nm, ys, es, os, _, rfl, S6, ht6, Ne.symm (Ab.dt b b), ri, gm.tups tu6, by omega, k6 _ _ tv5 vh, reps_sm tu6 re5 vd.sm, vd, by omega, lt, t6, by rw [List.length_append]; show _ + 1 ≤ 500; omega, vh, fun H7 zs7 f hf S7 ht7 k7 hh7 more => ⟨_, rfl, iteF ?_⟩⟩⟩⟩
          have kk : ∀ c o, H5 c = some o → c ∉ L.wrt b → H7 c = some o := fun c o e n => by
            simp only [Pl.wrt, List.mem_cons, List.not_mem_nil, or_false, not_or] at n
            exact k7 _ _ (k6 c o e n.2.2.2.2) n.2.1 n.2.2.1 n.2.2.2.2
          have tu : Tups K H5 H7 := Tups.but (L.wrt b) (x5.wr b) fun c o n e => kk c o e n
          have gm7 := (gm.tups tu).keep hf
          have cn7 := k7 _ _ cn6 (ne_of x5.cn hdc (by intro w; cases w)) (ne_of x5.cn (x5.sd b).ht (by intro w; cases w)) Ab.ch
          obtain ⟨q', a', b', ks', rfl, mq, ma, mb', fa, fb⟩ := more
          have nb : ∀ c, H6 c = none → c ∉ L.ban := fun c e hm => by
            simp only [Pl.ban, List.mem_cons, List.not_mem_nil, or_false] at hm
            rcases hm with rfl | rfl
            · rw [cn6] at e; cases e
            · rw [t6] at e; cases e
          refine hR _ _ ⟨_, _, _, keepM (ms b) f, mk b, _, rfl, Wd.deed Ab b x5 kk ⟨S7, ht7, ri.keep, nm, gm7⟩ (by rw [setB_id]; exact cn7) hh7 (fun z hz => ?_), by omega, by rw [List.length_append, List.length_append]; exact Nat.le_refl _⟩
          rcases List.mem_append.mp hz with hz | hz
          · rcases List.mem_append.mp hz with hz | hz
            · exact .inl hz
            · exact .inr ⟨qa, ln, th, keyM (ms b), List.mem_singleton.mp hz, kk _ _ tq (x5.tup b tq), kk _ _ tln (x5.lst b tln nln), kk _ _ th5 (x5.lst b th5 nth), nln, nth⟩
          · exact .inr ⟨q', a', b', ks', List.mem_singleton.mp hz, mq, ma, mb', nb _ fa, nb _ fb⟩
      rotate_left 1
      have ge := same_new hem (.lst [])
      have x2 := x2.same ge
      have hth := ge _ _ hth
      generalize upd H2 em (.lst []) = H2 at x2 hth ⊢
      all_goals
        refine ⟨_, rfl, _, _, rfl, rfl, ⟨by decide, by decide⟩, _, rfl, _, th, _, rfl, hth, by omega, fun H3 y e os g3 ry te lo bo => ?_⟩
        have x3 := x2.same g3
        obtain ⟨⟨dx, h1⟩, hdc⟩ := id (x3.sd b).hp
        refine ⟨_, rfl, _, rfl, .inl ⟨L.hs, _, _, _, rfl, rfl, SqL.of x3.hs, sb (fun b => .ref (L.p b)), L.p b, dx, _, rfl, h1, np _ _, _, rfl, L.p b, L.d b, ms b, mk b, y, rfl, (x3.sd b).hp, ri, by omega, fun H4 hp4 k4 => ?_⟩⟩
        have kl4 : ∀ e xs, H3 e = some (.lst xs) → H4 e = some (.lst xs) := fun e xs z => k4 e _ z (ne_of z h1 (by intro w; cases w)) (ne_of z hdc (by intro w; cases w))
        have ht4 := k4 _ _ (x3.sd b).ht (ne_of (x3.sd b).ht h1 (by intro w; cases w)) (Ne.symm (Ab.dt b b))
        refine ⟨_, rfl, _, rfl, .inl ⟨L.cn, _, _, _, rfl, rfl, SqL.of (kl4 _ _ x3.cn), sb (fun b => .int (mk b : Nat)), rfl, _, rfl, iteN (by rw [decide_eq_true rfl]; rfl) ?_⟩⟩
        refine ⟨_, rfl, _, rfl, _, rfl, .inl ⟨L.th, _, _, _, rfl, rfl, SqL.of (kl4 _ _ x3.th), sb (fun b => .ref (L.t b)), _, rfl, _, rfl, .inl ⟨L.cn, _, _, _, rfl, rfl, SqL.of (kl4 _ _ x3.cn), sb (fun b => .int (mk b : Nat)), L.t b, _, rfl, DPut.k (k := Sum.inl ((mk b : Nat) : Int)) ht4 (small4 (by rw [kM_len]; omega)), ?_⟩⟩⟩
        rw [kM_add _ (fun z => Nat.lt_irrefl _ (ri.lt _ z))]
        have k5 : ∀ c o, H4 c = some o → c ≠ L.t b → upd H4 (L.t b) (.dK (kM (ms b ++ [(mk b, y)]))) c = some o := fun c o e n => by rw [upd_ne n]; exact e
        have t5 : upd H4 (L.t b) (.dK (kM (ms b ++ [(mk b, y)]))) (L.t b) = some (.dK (kM (ms b ++ [(mk b, y)]))) := upd_same
        generalize upd H4 (L.t b) (.dK (kM (ms b ++ [(mk b, y)]))) = H5 at k5 t5 ⊢
        have cn5 := k5 _ _ (kl4 _ _ x3.cn) (ne_of (kl4 _ _ x3.cn) ht4 (by intro w; cases w))
        refine ⟨_, rfl, _, rfl, .inl ⟨L.cn, _, _, _, rfl, rfl, SqL.of cn5, sb (fun b => .int (mk b : Nat)), .inl ⟨_, _, rfl, rfl, _, rfl, _, rfl, L.cn, _, _, sj, rfl, rfl, cn5, sx, ?_⟩⟩⟩
        have e1 : ((mk b : Nat) : Int) + 1 = ((mk b + 1 : Nat) : Int) := rfl
        dsimp only
        rw [e1, ss]
        have k6 : ∀ c o, H5 c = some o → c ≠ L.cn → upd H5 L.cn (.lst [.int (setB mk b (mk b + 1) false : Nat), .int (setB mk b (mk b + 1) true : Nat)]) c = some o := fun c o e n => by rw [upd_ne n]; exact e
        have c6 : upd H5 L.cn (.lst [.int (setB mk b (mk b + 1) false : Nat), .int (setB mk b (mk b + 1) true : Nat)]) L.cn = some (.lst [.int (setB mk b (mk b + 1) false : Nat), .int (setB mk b (mk b + 1) true : Nat)]) := upd_same
        generalize upd H5 L.cn (.lst [.int (setB mk b (mk b + 1) false : Nat), .int (setB mk b (mk b + 1) true : Nat)]) = H6 at k6 c6 ⊢
        obtain ⟨⟨dx4, h4⟩, hd4⟩ := id hp4
        have S6 : HeapAt ad.Heap H6 (L.p b) (L.d b) (ms b ++ [(mk b, y)]) (mk b + 1) := ⟨⟨_, k6 _ _ (k5 _ _ h4 (ne_of h4 ht4 (by intro w; cases w))) (ne_of h4 (kl4 _ _ x3.cn) (by intro w; cases w))⟩, k6 _ _ (k5 _ _ hd4 (Ab.dt b b)) (ne_of hd4 (kl4 _ _ x3.cn) (by intro w; cases w))⟩
        have kk : ∀ c o, H3 c = some o → c ∉ L.wrt b → H6 c = some o := fun c o e n => by
          simp only [Pl.wrt, List.mem_cons, List.not_mem_nil, or_false, not_or] at n
          exact k6 _ _ (k5 _ _ (k4 c o e n.1 n.2.1) n.2.2.1) n.2.2.2.1
        have tu : Tups K H3 H6 := Tups.but (L.wrt b) (x3.wr b) fun c o n e => kk c o e n
        obtain ⟨nm, gm⟩ := (x3.sd b).gm
        have gm6 := (gm.tups tu).add ri (rep_sm tu ry (te.sm (by omega))) te (by omega) bo
        exact hR _ _ ⟨_, _, _, ms b ++ [(mk b, y)], mk b + 1, zs, rfl, Wd.deed Ab b x3 kk ⟨S6, k6 _ _ t5 (ne_of t5 cn5 (by intro w; cases w)), ri.add _, _, gm6⟩ c6 (k6 _ _ (k5 _ _ (kl4 _ _ x3.h) (ne_of (kl4 _ _ x3.h) ht4 (by intro w; cases w))) (Ne.symm Ab.ch)) (fun z hz => .inl hz), Nat.le_refl _, by omega⟩
    · obtain ⟨o9, o10, o11, m, made, zs', rfl, x3, mv, zv⟩ := hM
      refine ⟨z2, fun u1 hu1 => ⟨z2, fun u2 hu2 => ⟨z2, fun u hu => ?_⟩⟩⟩
      have g1 := same_new hu1 (.lst [.int 0, .int 1])
      have t1 : upd H3 u1 (.lst [.int 0, .int 1]) u1 = some (.lst [.int 0, .int 1]) := upd_same
      generalize upd H3 u1 (.lst [.int 0, .int 1]) = H4 at g1 t1 hu2 hu ⊢
      have g2 := same_new hu2 (.lst [.int 1, .int 0])
      have t2 : upd H4 u2 (.lst [.int 1, .int 0]) u2 = some (.lst [.int 1, .int 0]) := upd_same
      generalize upd H4 u2 (.lst [.int 1, .int 0]) = H5 at g2 t2 hu ⊢
      have g3 := same_new hu (.lst [.ref u1, .ref u2])
      have t3 : upd H5 u (.lst [.ref u1, .ref u2]) u = some (.lst [.ref u1, .ref u2]) := upd_same
      generalize upd H5 u (.lst [.ref u1, .ref u2]) = H6 at g3 t3 ⊢
      have x6 := ((x3.same g1).same g2).same g3
      have mb : ∀ c, setB mk b made c ≤ 50 := fun c => by
        have := mk_set wb mv
        cases c <;> omega
      obtain ⟨b2, _, sb2, _, _⟩ := side_of (z := ce / 64 % 2) (Int.emod_nonneg _ (show (2 : Int) ≠ 0 by decide)) (Int.emod_lt_of_pos _ p2)
      obtain ⟨od, hod, hlen2, hel⟩ : ∃ od, H6 (two u1 u2 b2) = some (.lst od) ∧ od.length = 2 ∧ ∀ v ∈ od, ∃ z : Int, v = .int z ∧ 0 ≤ z ∧ z < 2 := by
        cases b2
        · refine ⟨_, g3 _ _ (g2 _ _ t1), rfl, fun v hv => ?_⟩
          simp only [List.mem_cons, List.not_mem_nil, or_false] at hv
          rcases hv with rfl | rfl
          · exact ⟨0, rfl, by decide, by decide⟩
          · exact ⟨1, rfl, by decide, by decide⟩
        · refine ⟨_, g3 _ _ t2, rfl, fun v hv => ?_⟩
          simp only [List.mem_cons, List.not_mem_nil, or_false] at hv
          rcases hv with rfl | rfl
          · exact ⟨1, rfl, by decide, by decide⟩
          · exact ⟨0, rfl, by decide, by decide⟩
      clear g1 g2 x3 t1 t2 hu hu1 hu2
      refine ⟨_, rfl, _, _, rfl, rfl, ⟨by decide, by decide⟩, _, _, rfl, rfl, p2, .inl ⟨u, _, _, _, rfl, rfl, SqL.of t3, sb2 (fun c => .ref (two u1 u2 c)), ?_⟩⟩
      refine .inl ⟨two u1 u2 b2, rfl, ⟨_, SqL.of hod⟩, for_it 2 (fun _ σ Hc => ∃ o12, σ = [some (.ref a), some (.ref L.hs), some (.ref L.th), some (.ref L.cn), some (.ref L.h), some (.int ce), some (.int (ce % 2)), some (.ref th), some (.int (ce / 2 % 8)), o9, o10, o11, o12] ∧ Same H6 Hc) ⟨_, rfl, Same.refl _⟩ (fun j σ Hc hj hP => ?_) (fun σ Hc hP => ?_)⟩
      · obtain ⟨o12', rfl, gc⟩ := hP
        have hx : od[j]? = some (od[j]'(by omega)) := List.getElem?_eq_getElem (by omega)
        refine ⟨⟨od, _, SqL.of (gc _ _ hod), hx⟩, fun v H7 yl => ?_⟩
        obtain ⟨rfl, hv⟩ := yl
        obtain ⟨zz, rfl, zz0, zz2⟩ := hel v (List.mem_of_getElem? (hv od (SqL.of (gc _ _ hod))))
        obtain ⟨b3, _, sb3, _, _⟩ := side_of zz0 zz2
        have x7 := x6.same gc
        obtain ⟨nm, gm⟩ := (x7.sd b3).gm
        refine ⟨_, rfl, _, rfl, .inl ⟨L.hs, _, _, _, rfl, rfl, SqL.of x7.hs, sb3 (fun b => .ref (L.p b)), _, rfl, _, rfl, .inl ⟨L.th, _, _, _, rfl, rfl, SqL.of x7.th, sb3 (fun b => .ref (L.t b)), _, rfl, _, rfl, .inl ⟨L.cn, _, _, _, rfl, rfl, SqL.of x7.cn, sb3 (fun c => .int (setB mk b made c : Nat)), L.p b3, L.d b3, L.t b3, _, _, nm, rfl, (x7.sd b3).hp, (x7.sd b3).ht, (x7.sd b3).ri, gm, mb b3, fun H8 g8 => ⟨_, rfl, iteF ?_⟩⟩⟩⟩⟩
        exact ⟨_, rfl, gc.trans g8⟩
      · obtain ⟨o12', rfl, gc⟩ := hP
        refine ⟨⟨od, SqL.of (gc _ _ hod), by omega⟩, ?_⟩
        exact ⟨_, _, zs', _, _, _, _, _, _, _, _, rfl, x6.same gc, mk_set wb mv, by omega⟩
  · obtain ⟨ms, mk, zs, o5, o6, o7, o8, o9, o10, o11, o12, rfl, x, wl, zl⟩ := hP
    refine ⟨⟨cells, SqL.of x.sl, Nat.le_refl _⟩, ?_⟩
    refine ⟨_, rfl, .inl ⟨L.h, rfl, ⟨_, SqL.of x.h⟩, comp_it zs.length (fun i ys H' => H' = Hc ∧ ys = (List.replicate i true).map V.bl) ⟨rfl, rfl⟩ (fun i ys H' hq => ?_) (small (by omega)) (fun i ys H' hi hq => ?_) (fun ys H' hq => ?_)⟩⟩
    · rw [hq.2, List.length_map, List.length_replicate]
      exact Nat.le_refl _
    · obtain ⟨rfl, rfl⟩ := hq
      have hx : zs[i]? = some (zs[i]'hi) := List.getElem?_eq_getElem hi
      refine ⟨⟨zs, _, SqL.of x.h, hx⟩, fun v H2 yl => ?_⟩
      obtain ⟨rfl, hv⟩ := yl
      obtain ⟨qa, a1, b1, ks, rfl, h1, h2, h3, _⟩ := x.held v (List.mem_of_getElem? (hv zs (SqL.of x.h)))
      refine ⟨qa, _, rfl, SqT.of h1, rfl, _, _, rfl, _, _, rfl, rfl, ?_⟩
      refine ⟨_, rfl, _, rfl, _, _, rep_nat h2, rep_nat h3, shaped_nat _, shaped_nat _, rfl, ?_⟩
      rw [eqv_nat, List.replicate_succ', List.map_append]
      rfl
    · obtain ⟨rfl, rfl⟩ := hq
      refine ⟨⟨zs, SqL.of x.h, Nat.le_refl _⟩, fun D hD => ⟨D, _, rfl, SqL.of upd_same, ?_⟩⟩
      rw [all_yes]
      exact qq _
end
end Mine

namespace Mine
open PySem L2
theorem all_mk {l : PySem.W.OpenLaw} {w : World} {K : PySem.W.Frag} {h : Heap} {mg : Str → Option Value} {fa f0 f1 f2 f3 f4 f5 f6 f7 f8 f9 f10 f11 f12 f13 f14 f15 f16 f17 f18 f19 f20 f21 f22 : Addr} (X : K.In h) (G : h.Ns mainGlobals mg) (hfa : mg "law" = some (.ref fa))
    {cd_NoThing : ClassData}
    {c_LoomError c_NoThing c_Heap : Addr}
    {od0 an0 od1 an1 od2 an2 od3 an3 od4 an4 od5 an5 od6 an6 od7 an7 od8 an8 od9 an9 od10 an10 od11 an11 od12 an12 od13 an13 od14 an14 od15 an15 od16 an16 od17 an17 od18 an18 od19 an19 od20 an20 od21 an21 od22 an22 : Option Addr} {sl0 sl1 sl2 sl3 sl4 sl5 sl6 sl7 sl8 sl9 sl10 sl11 sl12 sl13 sl14 sl15 sl16 sl17 sl18 sl19 sl20 sl21 sl22 : Array (Option Value)} {oc0 kV0 dc0 pm0 cd0 ct0 oc1 kV1 dc1 pm1 cd1 ct1 oc2 kV2 dc2 pm2 cd2 ct2 oc3 kV3 dc3 pm3 cd3 ct3 oc4 kV4 dc4 pm4 cd4 ct4 oc5 kV5 dc5 pm5 cd5 ct5 oc6 kV6 dc6 pm6 cd6 ct6 oc7 kV7 dc7 pm7 cd7 ct7 oc8 kV8 dc8 pm8 cd8 ct8 oc9 kV9 dc9 pm9 cd9 ct9 oc10 kV10 dc10 pm10 cd10 ct10 oc11 kV11 dc11 pm11 cd11 ct11 oc12 kV12 dc12 pm12 cd12 ct12 oc13 kV13 dc13 pm13 cd13 ct13 oc14 kV14 dc14 pm14 cd14 ct14 oc15 kV15 dc15 pm15 cd15 ct15 oc16 kV16 dc16 pm16 cd16 ct16 oc17 kV17 dc17 pm17 cd17 ct17 oc18 kV18 dc18 pm18 cd18 ct18 oc19 kV19 dc19 pm19 cd19 ct19 oc20 kV20 dc20 pm20 cd20 ct20 oc21 kV21 dc21 pm21 cd21 ct21 oc22 kV22 dc22 pm22 cd22 ct22 : Value}
    (a0 : PySem.W.nsIn K mainGlobals "is_whole" = some (some (.ref f0))) (l0 : K.lookup f0 = some ⟨oc0, od0, .func (PySem.W.fnOf "is_whole" "is_whole" (defArgs s_is_whole) (defBody s_is_whole) (defScope s_is_whole) .none kV0 dc0 pm0 an0 cd0 ct0), sl0⟩) (c0 : PySem.W.codeIn K cd0 "is_whole" = true) (k0 : PySem.W.keepIn K (.ref f0) = true)
    (a1 : PySem.W.nsIn K mainGlobals "named_by" = some (some (.ref f1))) (l1 : K.lookup f1 = some ⟨oc1, od1, .func (PySem.W.fnOf "named_by" "named_by" (defArgs s_named_by) (defBody s_named_by) (defScope s_named_by) .none kV1 dc1 pm1 an1 cd1 ct1), sl1⟩) (c1 : PySem.W.codeIn K cd1 "named_by" = true) (k1 : PySem.W.keepIn K (.ref f1) = true)
    (a2 : PySem.W.nsIn K mainGlobals "named_in" = some (some (.ref f2))) (l2 : K.lookup f2 = some ⟨oc2, od2, .func (PySem.W.fnOf "named_in" "named_in" (defArgs s_named_in) (defBody s_named_in) (defScope s_named_in) .none kV2 dc2 pm2 an2 cd2 ct2), sl2⟩) (c2 : PySem.W.codeIn K cd2 "named_in" = true) (k2 : PySem.W.keepIn K (.ref f2) = true)
    (a3 : PySem.W.findIn K (.ref c_Heap) "__init__" = some (some (.ref f3))) (i3 : PySem.W.isFn K (.ref f3) = true) (l3 : K.lookup f3 = some ⟨oc3, od3, .func (PySem.W.fnOf "__init__" "Heap.__init__" (defArgs s_H_init) (defBody s_H_init) (defScope s_H_init) .none kV3 dc3 pm3 an3 cd3 ct3), sl3⟩) (c3 : PySem.W.codeIn K cd3 "Heap.__init__" = true) (k3 : PySem.W.keepIn K (.ref f3) = true)
    (a4 : PySem.W.findIn K (.ref c_Heap) "put" = some (some (.ref f4))) (i4 : PySem.W.isFn K (.ref f4) = true) (l4 : K.lookup f4 = some ⟨oc4, od4, .func (PySem.W.fnOf "put" "Heap.put" (defArgs s_H_put) (defBody s_H_put) (defScope s_H_put) .none kV4 dc4 pm4 an4 cd4 ct4), sl4⟩) (c4 : PySem.W.codeIn K cd4 "Heap.put" = true) (k4 : PySem.W.keepIn K (.ref f4) = true)
    (a5 : PySem.W.findIn K (.ref c_Heap) "need_thing" = some (some (.ref f5))) (i5 : PySem.W.isFn K (.ref f5) = true) (l5 : K.lookup f5 = some ⟨oc5, od5, .func (PySem.W.fnOf "need_thing" "Heap.need_thing" (defArgs s_H_need_thing) (defBody s_H_need_thing) (defScope s_H_need_thing) .none kV5 dc5 pm5 an5 cd5 ct5), sl5⟩) (c5 : PySem.W.codeIn K cd5 "Heap.need_thing" = true) (k5 : PySem.W.keepIn K (.ref f5) = true)
    (a6 : PySem.W.findIn K (.ref c_Heap) "change" = some (some (.ref f6))) (i6 : PySem.W.isFn K (.ref f6) = true) (l6 : K.lookup f6 = some ⟨oc6, od6, .func (PySem.W.fnOf "change" "Heap.change" (defArgs s_H_change) (defBody s_H_change) (defScope s_H_change) .none kV6 dc6 pm6 an6 cd6 ct6), sl6⟩) (c6 : PySem.W.codeIn K cd6 "Heap.change" = true) (k6 : PySem.W.keepIn K (.ref f6) = true)
    (a7 : PySem.W.findIn K (.ref c_Heap) "thing" = some (some (.ref f7))) (i7 : PySem.W.isFn K (.ref f7) = true) (l7 : K.lookup f7 = some ⟨oc7, od7, .func (PySem.W.fnOf "thing" "Heap.thing" (defArgs s_H_thing) (defBody s_H_thing) (defScope s_H_thing) .none kV7 dc7 pm7 an7 cd7 ct7), sl7⟩) (c7 : PySem.W.codeIn K cd7 "Heap.thing" = true) (k7 : PySem.W.keepIn K (.ref f7) = true)
    (a8 : PySem.W.findIn K (.ref c_Heap) "numbers" = some (some (.ref f8))) (i8 : PySem.W.isFn K (.ref f8) = true) (l8 : K.lookup f8 = some ⟨oc8, od8, .func (PySem.W.fnOf "numbers" "Heap.numbers" (defArgs s_H_numbers) (defBody s_H_numbers) (defScope s_H_numbers) .none kV8 dc8 pm8 an8 cd8 ct8), sl8⟩) (c8 : PySem.W.codeIn K cd8 "Heap.numbers" = true) (k8 : PySem.W.keepIn K (.ref f8) = true)
    (a9 : PySem.W.findIn K (.ref c_Heap) "found_from" = some (some (.ref f9))) (i9 : PySem.W.isFn K (.ref f9) = true) (l9 : K.lookup f9 = some ⟨oc9, od9, .func (PySem.W.fnOf "found_from" "Heap.found_from" (defArgs s_H_found_from) (defBody s_H_found_from) (defScope s_H_found_from) .none kV9 dc9 pm9 an9 cd9 ct9), sl9⟩) (c9 : PySem.W.codeIn K cd9 "Heap.found_from" = true) (k9 : PySem.W.keepIn K (.ref f9) = true)
    (a10 : PySem.W.findIn K (.ref c_Heap) "collect" = some (some (.ref f10))) (i10 : PySem.W.isFn K (.ref f10) = true) (l10 : K.lookup f10 = some ⟨oc10, od10, .func (PySem.W.fnOf "collect" "Heap.collect" (defArgs s_H_collect) (defBody s_H_collect) (defScope s_H_collect) .none kV10 dc10 pm10 an10 cd10 ct10), sl10⟩) (c10 : PySem.W.codeIn K cd10 "Heap.collect" = true) (k10 : PySem.W.keepIn K (.ref f10) = true)
    (a11 : PySem.W.nsIn K mainGlobals "_law_draw" = some (some (.ref f11))) (l11 : K.lookup f11 = some ⟨oc11, od11, .func (PySem.W.fnOf "_law_draw" "_law_draw" (defArgs s_law_draw) (defBody s_law_draw) (defScope s_law_draw) .none kV11 dc11 pm11 an11 cd11 ct11), sl11⟩) (c11 : PySem.W.codeIn K cd11 "_law_draw" = true) (k11 : PySem.W.keepIn K (.ref f11) = true)
    (a12 : PySem.W.nsIn K mainGlobals "_law_spread" = some (some (.ref f12))) (l12 : K.lookup f12 = some ⟨oc12, od12, .func (PySem.W.fnOf "_law_spread" "_law_spread" (defArgs s_law_spread) (defBody s_law_spread) (defScope s_law_spread) .none kV12 dc12 pm12 an12 cd12 ct12), sl12⟩) (c12 : PySem.W.codeIn K cd12 "_law_spread" = true) (k12 : PySem.W.keepIn K (.ref f12) = true)
    (a13 : PySem.W.nsIn K mainGlobals "_law_value" = some (some (.ref f13))) (l13 : K.lookup f13 = some ⟨oc13, od13, .func (PySem.W.fnOf "_law_value" "_law_value" (defArgs s_law_value) (defBody s_law_value) (defScope s_law_value) .none kV13 dc13 pm13 an13 cd13 ct13), sl13⟩) (c13 : PySem.W.codeIn K cd13 "_law_value" = true) (k13 : PySem.W.keepIn K (.ref f13) = true)
    (a14 : PySem.W.nsIn K mainGlobals "_law_boxes" = some (some (.ref f14))) (l14 : K.lookup f14 = some ⟨oc14, od14, .func (PySem.W.fnOf "_law_boxes" "_law_boxes" (defArgs s_law_boxes) (defBody s_law_boxes) (defScope s_law_boxes) .none kV14 dc14 pm14 an14 cd14 ct14), sl14⟩) (c14 : PySem.W.codeIn K cd14 "_law_boxes" = true) (k14 : PySem.W.keepIn K (.ref f14) = true)
    (a15 : PySem.W.nsIn K mainGlobals "_law_thing" = some (some (.ref f15))) (l15 : K.lookup f15 = some ⟨oc15, od15, .func (PySem.W.fnOf "_law_thing" "_law_thing" (defArgs s_law_thing) (defBody s_law_thing) (defScope s_law_thing) .none kV15 dc15 pm15 an15 cd15 ct15), sl15⟩) (c15 : PySem.W.codeIn K cd15 "_law_thing" = true) (k15 : PySem.W.keepIn K (.ref f15) = true)
    (a16 : PySem.W.nsIn K mainGlobals "_law_values" = some (some (.ref f16))) (l16 : K.lookup f16 = some ⟨oc16, od16, .func (PySem.W.fnOf "_law_values" "_law_values" (defArgs s_law_values) (defBody s_law_values) (defScope s_law_values) .none kV16 dc16 pm16 an16 cd16 ct16), sl16⟩) (c16 : PySem.W.codeIn K cd16 "_law_values" = true) (k16 : PySem.W.keepIn K (.ref f16) = true)
    (a17 : PySem.W.nsIn K mainGlobals "_law_reached" = some (some (.ref f17))) (l17 : K.lookup f17 = some ⟨oc17, od17, .func (PySem.W.fnOf "_law_reached" "_law_reached" (defArgs s_law_reached) (defBody s_law_reached) (defScope s_law_reached) .none kV17 dc17 pm17 an17 cd17 ct17), sl17⟩) (c17 : PySem.W.codeIn K cd17 "_law_reached" = true) (k17 : PySem.W.keepIn K (.ref f17) = true)
    (a18 : PySem.W.nsIn K mainGlobals "_law_is_gone" = some (some (.ref f18))) (l18 : K.lookup f18 = some ⟨oc18, od18, .func (PySem.W.fnOf "_law_is_gone" "_law_is_gone" (defArgs s_law_is_gone) (defBody s_law_is_gone) (defScope s_law_is_gone) .none kV18 dc18 pm18 an18 cd18 ct18), sl18⟩) (c18 : PySem.W.codeIn K cd18 "_law_is_gone" = true) (k18 : PySem.W.keepIn K (.ref f18) = true)
    (a19 : PySem.W.nsIn K mainGlobals "_law_right" = some (some (.ref f19))) (l19 : K.lookup f19 = some ⟨oc19, od19, .func (PySem.W.fnOf "_law_right" "_law_right" (defArgs s_law_right) (defBody s_law_right) (defScope s_law_right) .none kV19 dc19 pm19 an19 cd19 ct19), sl19⟩) (c19 : PySem.W.codeIn K cd19 "_law_right" = true) (k19 : PySem.W.keepIn K (.ref f19) = true)
    (a20 : PySem.W.nsIn K mainGlobals "_law_collected" = some (some (.ref f20))) (l20 : K.lookup f20 = some ⟨oc20, od20, .func (PySem.W.fnOf "_law_collected" "_law_collected" (defArgs s_law_collected) (defBody s_law_collected) (defScope s_law_collected) .none kV20 dc20 pm20 an20 cd20 ct20), sl20⟩) (c20 : PySem.W.codeIn K cd20 "_law_collected" = true) (k20 : PySem.W.keepIn K (.ref f20) = true)
    (a21 : PySem.W.nsIn K mainGlobals "_law_chain" = some (some (.ref f21))) (l21 : K.lookup f21 = some ⟨oc21, od21, .func (PySem.W.fnOf "_law_chain" "_law_chain" (defArgs s_law_chain) (defBody s_law_chain) (defScope s_law_chain) .none kV21 dc21 pm21 an21 cd21 ct21), sl21⟩) (c21 : PySem.W.codeIn K cd21 "_law_chain" = true) (k21 : PySem.W.keepIn K (.ref f21) = true)
    (a22 : PySem.W.nsIn K mainGlobals "law" = some (some (.ref f22))) (l22 : K.lookup f22 = some ⟨oc22, od22, .func (PySem.W.fnOf "law" "law" (defArgs s_law) (defBody s_law) (defScope s_law) .none kV22 dc22 pm22 an22 cd22 ct22), sl22⟩) (c22 : PySem.W.codeIn K cd22 "law" = true) (k22 : PySem.W.keepIn K (.ref f22) = true)
    (z_isinstance : PySem.W.nsIn K mainGlobals "isinstance" = some none)
    (z_int : PySem.W.nsIn K mainGlobals "int" = some none)
    (z_bool : PySem.W.nsIn K mainGlobals "bool" = some none)
    (z_list : PySem.W.nsIn K mainGlobals "list" = some none)
    (z_sorted : PySem.W.nsIn K mainGlobals "sorted" = some none)
    (z_len : PySem.W.nsIn K mainGlobals "len" = some none)
    (z_tuple : PySem.W.nsIn K mainGlobals "tuple" = some none)
    (z_range : PySem.W.nsIn K mainGlobals "range" = some none)
    (z_all : PySem.W.nsIn K mainGlobals "all" = some none)
    (n_LoomError : PySem.W.nsIn K mainGlobals "LoomError" = some (some (.ref c_LoomError)))
    (n_NoThing : PySem.W.nsIn K mainGlobals "NoThing" = some (some (.ref c_NoThing)))
    (n_Heap : PySem.W.nsIn K mainGlobals "Heap" = some (some (.ref c_Heap)))
    (k_ga : PySem.W.findIn K (.ref c_NoThing) "__getattribute__" = some (some (.builtin "BaseException.__getattribute__")))
    (k_gt : PySem.W.findIn K (.ref c_NoThing) "__getattr__" = some none)
    (k_be : PySem.W.mroIn K c_NoThing (.type "BaseException") = some true)
    (k_cl : PySem.W.clsIn K c_NoThing = some cd_NoThing)
    (k_fd : PySem.W.findIn K (.ref c_NoThing) "__class__" = some (some (.builtin "object.__class__")))
    (k_sp : PySem.W.specialIn K (.builtin "object.__class__") "__get__" = some (some (.builtin "getset_descriptor.__get__")))
    (k_tk : PySem.W.takesIn K (.builtin "object.__class__") = some true)
    (k_ob : PySem.W.mroIn K c_NoThing (.type "object") = some true)
    (x_e1 : PySem.W.exmOne K (.ref c_NoThing) (.ref c_LoomError) = some true)
    (x_i3 : PySem.W.kitOne K (.ref c_NoThing) (.ref c_NoThing) = some true)
    (x_own : PySem.W.excIn K c_NoThing bmVE "ValueError.__new__" = true)
    (h_pg : PySem.W.plainGet K c_Heap Str.empty = true)
    (h_hd : PySem.W.hasDictIn K c_Heap = true)
    (h_po : PySem.W.plainOver K c_Heap = true)
    (h_sa : PySem.W.findIn K (.ref c_Heap) "__setattr__" = some (some (.builtin "object.__setattr__")))
    (h_nK : PySem.W.findIn K (.ref c_Heap) "kept" = some none)
    (h_nM : PySem.W.findIn K (.ref c_Heap) "made" = some none)
    (h_mk : PySem.W.makesIn K c_Heap = true)
    (h_kc : PySem.W.keepIn K (.ref c_Heap) = true) :
    ∃ fd : FuncData, (∀ (s : Shared) (v : Value), BindsTo s fd ⟨[v], []⟩ [("_law_script", v)]) ∧ ∀ base : Heap, K.In base → base.Ns mainGlobals mg → FnOk l.prog w K mg base CX0 7 fa fd ["_law_script"] (spLaw K) := by
  have e := hfa.symm.trans (PySem.W.mg_of X G a22)
  cases e
  have c : Cs K mg ⟨c_LoomError, c_NoThing, c_Heap⟩ := ⟨PySem.W.mg_none_of X G z_isinstance, PySem.W.mg_none_of X G z_int, PySem.W.mg_none_of X G z_bool, PySem.W.mg_none_of X G z_list, PySem.W.mg_none_of X G z_sorted, PySem.W.mg_none_of X G z_len, PySem.W.mg_none_of X G z_tuple, PySem.W.mg_none_of X G z_range, PySem.W.mg_none_of X G z_all, PySem.W.mg_of X G n_LoomError, PySem.W.mg_of X G n_NoThing, PySem.W.mg_of X G n_Heap, ⟨k_ga, k_gt, k_be, by rw [k_cl]; rfl, k_fd, k_sp, k_tk, k_ob⟩, x_e1, x_i3, xown_of x_own, ⟨h_pg, h_hd, h_po, h_sa⟩, h_nK, h_nM, h_mk, h_kc⟩
  refine ⟨PySem.W.fnOf "law" "law" (defArgs s_law) (defBody s_law) (defScope s_law) .none kV22 dc22 pm22 an22 cd22 ct22, fun s v => .of_eq rfl, fun base _ _ => ?_⟩
  have F0 := fun_mk (st := s_is_whole) l0 c0 k0
  have b0 := F0.binds (ps := ["thing"]) fun _ _ _ _ _ _ us hl => match us, hl with | [_], _ => rfl
  have d_is_whole : Def l.prog w K mg base _ "is_whole" ["thing"] _ := ⟨_, _, ok_is_whole (P := l.prog) (w := w) (base := base) F0 c, b0, k0, PySem.W.mg_of X G a0⟩
  have F1 := fun_mk (st := s_named_by) l1 c1 k1
  have b1 := F1.binds (ps := ["values"]) fun _ _ _ _ _ _ us hl => match us, hl with | [_], _ => rfl
  have d_named_by : Def l.prog w K mg base _ "named_by" ["values"] _ := ⟨_, _, ok_named_by (P := l.prog) (w := w) (base := base) F1 c, b1, k1, PySem.W.mg_of X G a1⟩
  have F2 := fun_mk (st := s_named_in) l2 c2 k2
  have b2 := F2.binds (ps := ["thing"]) fun _ _ _ _ _ _ us hl => match us, hl with | [_], _ => rfl
  have d_named_in : Def l.prog w K mg base _ "named_in" ["thing"] _ := ⟨_, _, ok_named_in (P := l.prog) (w := w) (base := base) F2 c d_named_by, b2, k2, PySem.W.mg_of X G a2⟩
  have F3 := fun_mk (st := s_H_init) l3 c3 k3
  have b3 := F3.binds (ps := ["self"]) fun _ _ _ _ _ _ us hl => match us, hl with | [_], _ => rfl
  have d_Heap : MakeN l.prog w K mg base "Heap" c_Heap _ _ := ⟨⟨_, _, ok_H_init (P := l.prog) (w := w) (base := base) F3 c, b3, ⟨c.mkC, a3, i3, c.kc⟩⟩, c.m_Heap⟩
  have F4 := fun_mk (st := s_H_put) l4 c4 k4
  have b4 := F4.binds (ps := ["self", "thing"]) fun _ _ _ _ _ _ us hl => match us, hl with | [_, _], _ => rfl
  have d_H_put : MethN l.prog w K mg base c_Heap _ "put" ["self", "thing"] _ := ⟨⟨_, _, ok_H_put (P := l.prog) (w := w) (base := base) F4 c, b4, ⟨a4, i4, k4⟩⟩, c.cl⟩
  have F5 := fun_mk (st := s_H_need_thing) l5 c5 k5
  have b5 := F5.binds (ps := ["self", "k"]) fun _ _ _ _ _ _ us hl => match us, hl with | [_, _], _ => rfl
  have d_H_need_thing : MethX l.prog w K mg base c_Heap _ "need_thing" ["self", "k"] _ := ⟨⟨_, _, ok_H_need_thing (P := l.prog) (w := w) (base := base) F5 c d_is_whole, b5, ⟨a5, i5, k5⟩⟩, c.cl⟩
  have F6 := fun_mk (st := s_H_change) l6 c6 k6
  have b6 := F6.binds (ps := ["self", "k", "thing"]) fun _ _ _ _ _ _ us hl => match us, hl with | [_, _, _], _ => rfl
  have d_H_change : MethX l.prog w K mg base c_Heap _ "change" ["self", "k", "thing"] _ := ⟨⟨_, _, ok_H_change (P := l.prog) (w := w) (base := base) F6 c d_H_need_thing, b6, ⟨a6, i6, k6⟩⟩, c.cl⟩
  have F7 := fun_mk (st := s_H_thing) l7 c7 k7
  have b7 := F7.binds (ps := ["self", "k"]) fun _ _ _ _ _ _ us hl => match us, hl with | [_, _], _ => rfl
  have d_H_thing : MethX l.prog w K mg base c_Heap _ "thing" ["self", "k"] _ := ⟨⟨_, _, ok_H_thing (P := l.prog) (w := w) (base := base) F7 c d_H_need_thing, b7, ⟨a7, i7, k7⟩⟩, c.cl⟩
  have F8 := fun_mk (st := s_H_numbers) l8 c8 k8
  have b8 := F8.binds (ps := ["self"]) fun _ _ _ _ _ _ us hl => match us, hl with | [_], _ => rfl
  have d_H_numbers : MethN l.prog w K mg base c_Heap _ "numbers" ["self"] _ := ⟨⟨_, _, ok_H_numbers (P := l.prog) (w := w) (base := base) F8 c, b8, ⟨a8, i8, k8⟩⟩, c.cl⟩
  have F9 := fun_mk (st := s_H_found_from) l9 c9 k9
  have b9 := F9.binds (ps := ["self", "values"]) fun _ _ _ _ _ _ us hl => match us, hl with | [_, _], _ => rfl
  have d_H_found_from : MethN l.prog w K mg base c_Heap _ "found_from" ["self", "values"] _ := ⟨⟨_, _, ok_H_found_from (P := l.prog) (w := w) (base := base) F9 c d_named_by d_named_in d_H_thing, b9, ⟨a9, i9, k9⟩⟩, c.cl⟩
  have F10 := fun_mk (st := s_H_collect) l10 c10 k10
  have b10 := F10.binds (ps := ["self", "values"]) fun _ _ _ _ _ _ us hl => match us, hl with | [_, _], _ => rfl
  have d_H_collect : MethN l.prog w K mg base c_Heap _ "collect" ["self", "values"] _ := ⟨⟨_, _, ok_H_collect (P := l.prog) (w := w) (base := base) F10 c d_H_numbers d_H_found_from, b10, ⟨a10, i10, k10⟩⟩, c.cl⟩
  have F11 := fun_mk (st := s_law_draw) l11 c11 k11
  have b11 := F11.binds (ps := ["_law_script", "_law_k"]) fun _ _ _ _ _ _ us hl => match us, hl with | [_, _], _ => rfl
  have d_law_draw : Def l.prog w K mg base _ "_law_draw" ["_law_script", "_law_k"] _ := ⟨_, _, ok_law_draw (P := l.prog) (w := w) (base := base) F11 c, b11, k11, PySem.W.mg_of X G a11⟩
  have F12 := fun_mk (st := s_law_spread) l12 c12 k12
  have b12 := F12.binds (ps := ["_law_cell", "_law_k"]) fun _ _ _ _ _ _ us hl => match us, hl with | [_, _], _ => rfl
  have d_law_spread : Def l.prog w K mg base _ "_law_spread" ["_law_cell", "_law_k"] _ := ⟨_, _, ok_law_spread (P := l.prog) (w := w) (base := base) F12 c, b12, k12, PySem.W.mg_of X G a12⟩
  have F13 := fun_mk (st := s_law_value) l13 c13 k13
  have b13 := F13.binds (ps := ["_law_cell", "_law_there"]) fun _ _ _ _ _ _ us hl => match us, hl with | [_, _], _ => rfl
  have d_law_value : Def l.prog w K mg base _ "_law_value" ["_law_cell", "_law_there"] _ := ⟨_, _, ok_law_value (P := l.prog) (w := w) (base := base) F13 c, b13, k13, PySem.W.mg_of X G a13⟩
  have F14 := fun_mk (st := s_law_boxes) l14 c14 k14
  have b14 := F14.binds (ps := ["_law_cell", "_law_there"]) fun _ _ _ _ _ _ us hl => match us, hl with | [_, _], _ => rfl
  have d_law_boxes : Def l.prog w K mg base _ "_law_boxes" ["_law_cell", "_law_there"] _ := ⟨_, _, ok_law_boxes (P := l.prog) (w := w) (base := base) F14 c, b14, k14, PySem.W.mg_of X G a14⟩
  have F15 := fun_mk (st := s_law_thing) l15 c15 k15
  have b15 := F15.binds (ps := ["_law_cell", "_law_there"]) fun _ _ _ _ _ _ us hl => match us, hl with | [_, _], _ => rfl
  have d_law_thing : Def l.prog w K mg base _ "_law_thing" ["_law_cell", "_law_there"] _ := ⟨_, _, ok_law_thing (P := l.prog) (w := w) (base := base) F15 c d_law_spread d_law_value d_law_boxes, b15, k15, PySem.W.mg_of X G a15⟩
  have F16 := fun_mk (st := s_law_values) l16 c16 k16
  have b16 := F16.binds (ps := ["_law_thing_here"]) fun _ _ _ _ _ _ us hl => match us, hl with | [_], _ => rfl
  have d_law_values : Def l.prog w K mg base _ "_law_values" ["_law_thing_here"] _ := ⟨_, _, ok_law_values (P := l.prog) (w := w) (base := base) F16 c, b16, k16, PySem.W.mg_of X G a16⟩
  have F17 := fun_mk (st := s_law_reached) l17 c17 k17
  have b17 := F17.binds (ps := ["_law_things", "_law_values_here"]) fun _ _ _ _ _ _ us hl => match us, hl with | [_, _], _ => rfl
  have d_law_reached : Def l.prog w K mg base _ "_law_reached" ["_law_things", "_law_values_here"] _ := ⟨_, _, ok_law_reached (P := l.prog) (w := w) (base := base) F17 c d_law_values, b17, k17, PySem.W.mg_of X G a17⟩
  have F18 := fun_mk (st := s_law_is_gone) l18 c18 k18
  have b18 := F18.binds (ps := ["_law_heap", "_law_k"]) fun _ _ _ _ _ _ us hl => match us, hl with | [_, _], _ => rfl
  have d_law_is_gone : Def l.prog w K mg base _ "_law_is_gone" ["_law_heap", "_law_k"] _ := ⟨_, _, ok_law_is_gone (P := l.prog) (w := w) (base := base) F18 c d_H_thing, b18, k18, PySem.W.mg_of X G a18⟩
  have F19 := fun_mk (st := s_law_right) l19 c19 k19
  have b19 := F19.binds (ps := ["_law_heap", "_law_things", "_law_count"]) fun _ _ _ _ _ _ us hl => match us, hl with | [_, _, _], _ => rfl
  have d_law_right : Def l.prog w K mg base _ "_law_right" ["_law_heap", "_law_things", "_law_count"] _ := ⟨_, _, ok_law_right (P := l.prog) (w := w) (base := base) F19 c d_H_thing d_H_numbers d_law_is_gone, b19, k19, PySem.W.mg_of X G a19⟩
  have F20 := fun_mk (st := s_law_collected) l20 c20 k20
  have b20 := F20.binds (ps := ["_law_heap", "_law_things", "_law_values_here", "_law_held"]) fun _ _ _ _ _ _ us hl => match us, hl with | [_, _, _, _], _ => rfl
  have d_law_collected : Def l.prog w K mg base _ "_law_collected" ["_law_heap", "_law_things", "_law_values_here", "_law_held"] _ := ⟨_, _, ok_law_collected (P := l.prog) (w := w) (base := base) F20 c d_H_collect d_law_reached, b20, k20, PySem.W.mg_of X G a20⟩
  have F21 := fun_mk (st := s_law_chain) l21 c21 k21
  have b21 := F21.binds (ps := ["_law_cell"]) fun _ _ _ _ _ _ us hl => match us, hl with | [_], _ => rfl
  have d_law_chain : Def l.prog w K mg base _ "_law_chain" ["_law_cell"] _ := ⟨_, _, ok_law_chain (P := l.prog) (w := w) (base := base) F21 c d_Heap d_H_put d_H_numbers d_H_collect, b21, k21, PySem.W.mg_of X G a21⟩
  have F22 := fun_mk (st := s_law) l22 c22 k22
  exact ok_law F22 c d_Heap d_H_put d_H_change d_H_numbers d_law_draw d_law_spread d_law_value d_law_thing d_law_right d_law_collected d_law_chain
theorem walk {l : PySem.W.OpenLaw} {q : Program} {loose : List Str} {XP : (Str → Option Value) → Heap → Prop} {YP : World → Heap → Prop} {d : DefRec} {K : Params → PySem.W.Frag} (hn : l.most = some 63) (hdf : d.params.defaults = [])
    (hY : ∀ (w : World) (h : Heap), YP w h → (K w.params).In h)
    (F : ∀ (w : World) (mg : Str → Option Value) (fa : Addr) (h : Heap), (K w.params).In h → h.Ns mainGlobals mg → mg d.name = some (.ref fa) →
      ∃ fd : FuncData, (∀ (s : Shared) (u : Value), BindsTo s fd ⟨[u], []⟩ [("_law_script", u)]) ∧ ∀ base : Heap, (K w.params).In base → base.Ns mainGlobals mg → FnOk l.prog w (K w.params) mg base CX0 7 fa fd ["_law_script"] (spLaw (K w.params))) :
    PySem.W.WalkO q loose XP YP l.row.toRowW d [] (fun f vs => PySem.call f vs) :=
  L2.walk_of (n := 63) (k := 7) (x := "_law_script") (CX := fun _ => CX0) (sp := fun w => spLaw (K w.params)) hn (by decide) hdf ⟨rfl, by decide, by decide⟩ hY F (fun _ _ a ns hl _ hS => ⟨a, ns, rfl, hS, hl, fun _ => rfl⟩) fun _ _ _ _ _ z => z
end Mine
open PySem PySem.W PyProof.Rows
set_option maxRecDepth 100000 in
set_option maxHeartbeats 0 in
theorem PySem.Challenge.cw_waitloom_k25_whole_collected_holds : PySem.Challenge.rw_waitloom_k25_whole_collected.Holds := by
  w_on; o_law; k_head; (case hw => w_witness2)
  k_fill
  refine Mine.walk (l := PySem.Challenge.rw_waitloom_k25_whole_collected) rfl rfl (fun w h Y => PySem.W.kIn_of Y) ?F
  case F =>
    intro w mg fa h KX G hmg
    refine' Mine.all_mk KX G hmg ?a0 ?l0 ?c0 ?k0 ?a1 ?l1 ?c1 ?k1 ?a2 ?l2 ?c2 ?k2 ?a3 ?i3 ?l3 ?c3 ?k3 ?a4 ?i4 ?l4 ?c4 ?k4 ?a5 ?i5 ?l5 ?c5 ?k5 ?a6 ?i6 ?l6 ?c6 ?k6 ?a7 ?i7 ?l7 ?c7 ?k7 ?a8 ?i8 ?l8 ?c8 ?k8 ?a9 ?i9 ?l9 ?c9 ?k9 ?a10 ?i10 ?l10 ?c10 ?k10 ?a11 ?l11 ?c11 ?k11 ?a12 ?l12 ?c12 ?k12 ?a13 ?l13 ?c13 ?k13 ?a14 ?l14 ?c14 ?k14 ?a15 ?l15 ?c15 ?k15 ?a16 ?l16 ?c16 ?k16 ?a17 ?l17 ?c17 ?k17 ?a18 ?l18 ?c18 ?k18 ?a19 ?l19 ?c19 ?k19 ?a20 ?l20 ?c20 ?k20 ?a21 ?l21 ?c21 ?k21 ?a22 ?l22 ?c22 ?k22 ?z_isinstance ?z_int ?z_bool ?z_list ?z_sorted ?z_len ?z_tuple ?z_range ?z_all ?n_LoomError ?n_NoThing ?n_Heap ?k_ga ?k_gt ?k_be ?k_cl ?k_fd ?k_sp ?k_tk ?k_ob ?x_e1 ?x_i3 ?x_own ?h_pg ?h_hd ?h_po ?h_sa ?h_nK ?h_nM ?h_mk ?h_kc
    (case n_LoomError => k_is)
    (case n_NoThing => k_is)
    (case n_Heap => k_is)
    (case a0 => k_is)
    (case l0 => k_is)
    (case c0 => k_is)
    (case k0 => k_is)
    (case a1 => k_is)
    (case l1 => k_is)
    (case c1 => k_is)
    (case k1 => k_is)
    (case a2 => k_is)
    (case l2 => k_is)
    (case c2 => k_is)
    (case k2 => k_is)
    (case a3 => k_is)
    (case i3 => k_is)
    (case l3 => k_is)
    (case c3 => k_is)
    (case k3 => k_is)
    (case a4 => k_is)
    (case i4 => k_is)
    (case l4 => k_is)
    (case c4 => k_is)
    (case k4 => k_is)
    (case a5 => k_is)
    (case i5 => k_is)
    (case l5 => k_is)
    (case c5 => k_is)
    (case k5 => k_is)
    (case a6 => k_is)
    (case i6 => k_is)
    (case l6 => k_is)
    (case c6 => k_is)
    (case k6 => k_is)
    (case a7 => k_is)
    (case i7 => k_is)
    (case l7 => k_is)
    (case c7 => k_is)
    (case k7 => k_is)
    (case a8 => k_is)
    (case i8 => k_is)
    (case l8 => k_is)
    (case c8 => k_is)
    (case k8 => k_is)
    (case a9 => k_is)
    (case i9 => k_is)
    (case l9 => k_is)
    (case c9 => k_is)
    (case k9 => k_is)
    (case a10 => k_is)
    (case i10 => k_is)
    (case l10 => k_is)
    (case c10 => k_is)
    (case k10 => k_is)
    (case a11 => k_is)
    (case l11 => k_is)
    (case c11 => k_is)
    (case k11 => k_is)
    (case a12 => k_is)
    (case l12 => k_is)
    (case c12 => k_is)
    (case k12 => k_is)
    (case a13 => k_is)
    (case l13 => k_is)
    (case c13 => k_is)
    (case k13 => k_is)
    (case a14 => k_is)
    (case l14 => k_is)
    (case c14 => k_is)
    (case k14 => k_is)
    (case a15 => k_is)
    (case l15 => k_is)
    (case c15 => k_is)
    (case k15 => k_is)
    (case a16 => k_is)
    (case l16 => k_is)
    (case c16 => k_is)
    (case k16 => k_is)
    (case a17 => k_is)
    (case l17 => k_is)
    (case c17 => k_is)
    (case k17 => k_is)
    (case a18 => k_is)
    (case l18 => k_is)
    (case c18 => k_is)
    (case k18 => k_is)
    (case a19 => k_is)
    (case l19 => k_is)
    (case c19 => k_is)
    (case k19 => k_is)
    (case a20 => k_is)
    (case l20 => k_is)
    (case c20 => k_is)
    (case k20 => k_is)
    (case a21 => k_is)
    (case l21 => k_is)
    (case c21 => k_is)
    (case k21 => k_is)
    (case a22 => k_is)
    (case l22 => k_is)
    (case c22 => k_is)
    (case k22 => k_is)
    (case z_isinstance => k_is)
    (case z_int => k_is)
    (case z_bool => k_is)
    (case z_list => k_is)
    (case z_sorted => k_is)
    (case z_len => k_is)
    (case z_tuple => k_is)
    (case z_range => k_is)
    (case z_all => k_is)
    (case k_ga => k_is)
    (case k_gt => k_is)
    (case k_be => k_is)
    (case k_cl => k_is)
    (case k_fd => k_is)
    (case k_sp => k_is)
    (case k_tk => k_is)
    (case k_ob => k_is)
    (case x_e1 => kts_exm)
    (case x_i3 => kit_is)
    (case x_own => k_exc)
    (case h_pg => k_is)
    (case h_hd => k_is)
    (case h_po => k_is)
    (case h_sa => k_is)
    (case h_nK => k_is)
    (case h_nM => k_is)
    (case h_mk => k_is)
    (case h_kc => k_is)
#print axioms PySem.Challenge.cw_waitloom_k25_whole_collected_holds

